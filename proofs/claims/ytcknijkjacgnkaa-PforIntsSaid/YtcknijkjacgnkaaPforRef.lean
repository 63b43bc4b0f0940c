/- The document's reader of a block, on lists. -/
import Derived.Test.YtcknijkjacgnkaaReader
namespace Go.Proofs.Ytcknijkjacgnkaa.Pfor

/-- the document's exceptions -/
def refAdd (b : List UInt8) (n w : Nat) : Nat → List UInt64 → Nat → Option (List UInt64 × Nat)
  | 0, ds, at_ => some (ds, at_)
  | k + 1, ds, at_ => if (rd 31 b at_).2.2 = true then none else
      if (rd 18446744073709551615 b (rd 31 b at_).2.1).2.2 = true ∨ n ≤ (rd 31 b at_).1 ∨ w = 64 then none else
        refAdd b n w k (ds.set (rd 31 b at_).1 (UInt64.ofNat ((ds.getD (rd 31 b at_).1 0).toNat + (rd 18446744073709551615 b (rd 31 b at_).2.1).1 * 2 ^ w % 18446744073709551616))) (rd 18446744073709551615 b (rd 31 b at_).2.1).2.1
/-- behind the four numbers -/
def refBody (b : List UInt8) (n base w k at_ : Nat) : Option (List UInt64 × Nat) :=
  if n = 0 ∨ b.length < at_ + Bits.size n w then none else
    if (Bits.unpack ((b.drop at_).take (Bits.size n w)) n w).2 ≠ 0 then none else
      (refAdd b n w k (Bits.unpack ((b.drop at_).take (Bits.size n w)) n w).1 (at_ + Bits.size n w)).map fun r => (plus base r.1, r.2)
/-- the document's reader -/
def refRead (b : List UInt8) : Option (List UInt64 × Nat) :=
  if (rd 32 b 0).2.2 = true then none else
    if (rd 18446744073709551615 b (rd 32 b 0).2.1).2.2 = true then none else
      if (rd 64 b (rd 18446744073709551615 b (rd 32 b 0).2.1).2.1).2.2 = true then none else
        if (rd 32 b (rd 64 b (rd 18446744073709551615 b (rd 32 b 0).2.1).2.1).2.1).2.2 = true then none else
          refBody b (rd 32 b 0).1 (rd 18446744073709551615 b (rd 32 b 0).2.1).1 (rd 64 b (rd 18446744073709551615 b (rd 32 b 0).2.1).2.1).1
            (rd 32 b (rd 64 b (rd 18446744073709551615 b (rd 32 b 0).2.1).2.1).2.1).1 (rd 32 b (rd 64 b (rd 18446744073709551615 b (rd 32 b 0).2.1).2.1).2.1).2.1

theorem rd_num {most v at_ : Nat} {b t : List UInt8} (hv : v < 18446744073709551616) (hm : v ≤ most) (h : b.drop at_ = Num.num v ++ t) : rd most b at_ = (v, at_ + Num.size v, false) := by
  unfold rd
  rw [h, Num.take_num hv]
  simp only [true_and]
  rw [if_pos hm]
theorem rd_at (most : Nat) (b : List UInt8) (at_ : Nat) (h : at_ ≤ b.length) : at_ ≤ (rd most b at_).2.1 ∧ (rd most b at_).2.1 ≤ b.length := by
  have h2 : (Num.take (b.drop at_)).2.1 ≤ b.length - at_ := by
    rcases Num.take_cases (b.drop at_) with ⟨v, s, ht⟩ | ⟨e, ht, _⟩
    · have := (Num.num_take ht).2.2.1
      rw [List.length_drop] at this
      rw [ht]
      exact this
    · rw [ht]; exact Nat.zero_le _
  unfold rd
  split <;> simp only <;> omega
theorem rd_lt (b : List UInt8) (at_ : Nat) (most : Nat) (h : most < 18446744073709551616) : (rd most b at_).1 < 18446744073709551616 := Nat.lt_of_le_of_lt (rd_le most b at_) h
theorem num_byte {v : Nat} (h : v ≤ 247) : Num.num v = [UInt8.ofNat v] := by unfold Num.num; rw [if_pos h]
theorem size_byte {v : Nat} (h : v ≤ 247) : Num.size v = 1 := by unfold Num.size; rw [if_pos h]
theorem low_add (w : Nat) (d : UInt64) : UInt64.ofNat (d.toNat % 2 ^ w + d.toNat / 2 ^ w * 2 ^ w % 18446744073709551616) = d := by
  have h := Nat.div_add_mod d.toNat (2 ^ w)
  have hlt : d.toNat / 2 ^ w * 2 ^ w < 18446744073709551616 := Nat.lt_of_le_of_lt (Nat.div_mul_le_self _ _) d.toNat_lt
  rw [Nat.mod_eq_of_lt hlt, Nat.add_comm, Nat.mul_comm, h, Bits.u64_ofNat]
theorem drop_more {b : List UInt8} {at_ k : Nat} {x y : List UInt8} (h : b.drop at_ = x ++ y) (hk : x.length = k) : b.drop (at_ + k) = y := by
  rw [← List.drop_drop, h, List.drop_left' hk]

theorem refAdd_excs (b : List UInt8) (n w : Nat) (suf : List UInt64) : ∀ (pre : List UInt64) (at_ : Nat) (t : List UInt8), pre.length + suf.length = n → n ≤ 32 → b.drop at_ = excs w pre.length suf ++ t →
    refAdd b n w (cnt w suf) (pre ++ lows w suf) at_ = some (pre ++ suf, at_ + (excs w pre.length suf).length) := by
  induction suf with
  | nil => intro pre at_ t _ _ _; simp [cnt, lows, excs, refAdd]
  | cons d r ih =>
    intro pre at_ t hlen hn hdrop
    rw [List.length_cons] at hlen
    have e1 : lows w (d :: r) = UInt64.ofNat (d.toNat % 2 ^ w) :: lows w r := rfl
    by_cases h0 : d.toNat / 2 ^ w = 0
    · have hlt : d.toNat < 2 ^ w := by
        rcases Nat.lt_or_ge d.toNat (2 ^ w) with h | h
        · exact h
        · have := Nat.div_pos h (Bits.pow_pos w); omega
      rw [excs, exc, if_pos h0, List.nil_append] at hdrop ⊢
      have h2 := ih (pre ++ [d]) at_ t (by simp; omega) hn (by rw [List.length_append, List.length_singleton]; exact hdrop)
      rw [List.length_append, List.length_singleton, List.append_assoc, List.append_assoc] at h2
      simp only [List.singleton_append] at h2
      rw [cnt, if_pos h0, Nat.zero_add, e1, Nat.mod_eq_of_lt hlt, Bits.u64_ofNat]
      exact h2
    · have hne : ¬ w = 64 := fun h => h0 (by rw [h]; exact Nat.div_eq_of_lt d.toNat_lt)
      rw [excs, exc, if_neg h0, List.append_assoc, List.cons_append] at hdrop
      have hr1 : rd 31 b at_ = (pre.length, at_ + 1, false) := by
        rw [rd_num (v := pre.length) (t := Num.num (d.toNat / 2 ^ w) ++ (excs w (pre.length + 1) r ++ t)) (by omega) (by omega) (by rw [num_byte (by omega)]; exact hdrop), size_byte (by omega)]
      have hd1 : b.drop (at_ + 1) = Num.num (d.toNat / 2 ^ w) ++ (excs w (pre.length + 1) r ++ t) := by
        rw [← List.drop_drop, hdrop]; rfl
      have hr2 : rd 18446744073709551615 b (at_ + 1) = (d.toNat / 2 ^ w, at_ + 1 + Num.size (d.toNat / 2 ^ w), false) := rd_num (div_lt d w) (by have := div_lt d w; omega) hd1
      have hd2 : b.drop (at_ + 1 + Num.size (d.toNat / 2 ^ w)) = excs w (pre.length + 1) r ++ t := drop_more hd1 (Num.num_length _)
      have h2 := ih (pre ++ [d]) (at_ + 1 + Num.size (d.toNat / 2 ^ w)) t (by simp; omega) hn (by rw [List.length_append, List.length_singleton]; exact hd2)
      rw [List.length_append, List.length_singleton, List.append_assoc, List.append_assoc] at h2
      simp only [List.singleton_append] at h2
      rw [cnt, if_neg h0, Nat.add_comm 1, e1, refAdd, hr1]
      simp only [Bool.false_eq_true, if_false, hr2, false_or]
      rw [if_neg (by omega), getD_mid, set_mid, low_toNat, low_add, h2, excs, exc, if_neg h0, List.length_append, List.length_cons, Num.num_length]
      congr 2
      omega

theorem refRead_block {l : List UInt64} (hl : Good l) (t : List UInt8) : refRead (block l ++ t) = some (l, (block l).length) := by
  obtain ⟨h1, h2⟩ := hl
  have hw := width_le l
  have hc := cnt_le (width l) (diffs l)
  rw [diffs_length] at hc
  have hp : (Bits.packed (width l) (lows (width l) (diffs l))).length = Bits.size l.length (width l) := by rw [Bits.packed_length, lows_length, diffs_length]
  have hu := Bits.unpack_pack hw (lows_fit (w := width l) (diffs l)) (by rw [lows_length, diffs_length]; omega)
  rw [lows_length, diffs_length] at hu
  have hbl := block_length l
  have hbs : bodySize (width l) (diffs l) = Bits.size l.length (width l) + (excs (width l) 0 (diffs l)).length := by rw [bodySize, diffs_length]
  have e0 : block l ++ t = Num.num l.length ++ (Num.num (base l) ++ (Num.num (width l) ++ (Num.num (cnt (width l) (diffs l)) ++ (Bits.packed (width l) (lows (width l) (diffs l)) ++ (excs (width l) 0 (diffs l) ++ t))))) := by
    rw [num_byte (show l.length ≤ 247 by omega), num_byte (show width l ≤ 247 by omega), num_byte (show cnt (width l) (diffs l) ≤ 247 by omega)]
    simp only [block, byW, body, List.append_assoc, List.cons_append, List.nil_append]
  generalize hb : block l ++ t = b at *
  have hlen : (block l).length ≤ b.length := by rw [← hb, List.length_append]; omega
  have d0 : b.drop 0 = Num.num l.length ++ (Num.num (base l) ++ (Num.num (width l) ++ (Num.num (cnt (width l) (diffs l)) ++ (Bits.packed (width l) (lows (width l) (diffs l)) ++ (excs (width l) 0 (diffs l) ++ t))))) := e0
  have r0 := rd_num (most := 32) (show l.length < 18446744073709551616 by omega) h2 d0
  rw [size_byte (v := l.length) (by omega), Nat.zero_add] at r0
  have d1 := drop_more d0 (Num.num_length _)
  rw [size_byte (v := l.length) (by omega), Nat.zero_add] at d1
  have r1 := rd_num (most := 18446744073709551615) (base_lt l) (by have := base_lt l; omega) d1
  have d2 := drop_more d1 (Num.num_length _)
  have r2 := rd_num (most := 64) (show width l < 18446744073709551616 by omega) hw d2
  rw [size_byte (v := width l) (by omega)] at r2
  have d3 := drop_more d2 (Num.num_length _)
  rw [size_byte (v := width l) (by omega)] at d3
  have r3 := rd_num (most := 32) (show cnt (width l) (diffs l) < 18446744073709551616 by omega) (by omega) d3
  rw [size_byte (v := cnt (width l) (diffs l)) (by omega)] at r3
  have d4 := drop_more d3 (Num.num_length _)
  rw [size_byte (v := cnt (width l) (diffs l)) (by omega)] at d4
  have d5 := drop_more d4 hp
  have ha := refAdd_excs b l.length (width l) (diffs l) [] _ t (by simp [diffs_length]) h2 d5
  rw [List.nil_append, List.nil_append, List.length_nil] at ha
  unfold refRead
  simp only [r0, r1, r2, r3, Bool.false_eq_true, if_false]
  unfold refBody
  rw [if_neg (by omega), d4, List.take_left' hp, hu]
  simp only [ne_eq, not_true, if_false]
  rw [ha, Option.map_some]
  simp only
  rw [plus_diffs]
  congr 2
  omega

/-- what the document's reader comes to -/
theorem takeBlock_ref_none {b : List UInt8} (h : refRead b = none) : takeBlock b = ([], 0, 2) := takeBlock_none fun l hl hb => by
  obtain ⟨t, rfl⟩ := hb
  rw [refRead_block hl t] at h
  cases h
theorem takeBlock_ref_some {b : List UInt8} {m : List UInt64} {at_ : Nat} (h : refRead b = some (m, at_)) (hat : at_ ≤ b.length) (hm : Good m) :
    takeBlock b = if block m = b.take at_ then (m, at_, 0) else ([], 0, 2) := by
  split
  · rename_i he
    rw [takeBlock_of hm (by rw [he]; exact List.take_prefix _ _), he, List.length_take, Nat.min_eq_left hat]
  · rename_i he
    apply takeBlock_none
    intro l hl hb
    obtain ⟨t, rfl⟩ := hb
    rw [refRead_block hl t] at h
    cases h
    exact he (by rw [List.take_left' rfl])
end Go.Proofs.Ytcknijkjacgnkaa.Pfor
