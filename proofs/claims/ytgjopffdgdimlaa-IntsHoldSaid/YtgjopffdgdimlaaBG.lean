/- Texts of several layers, one behind the other: IcTakePl IcMarks IcJoin IcTake AppWide IcRefTake. -/
import Derived.Test.YtgjopffdgdimlaaBF
import Derived.Laws.MakeOwn
import Derived.Deep.DeepAppendWide
/- A column taken from bytes, on plain lists. -/
namespace Go.Proofs.Ytgjopffdgdimlaa

theorem Num.take_size_le (b : List UInt8) : (Num.take b).2.1 ≤ b.length := by
  cases b with
  | nil => simp [Num.take]
  | cons x r =>
    rw [Num.take_cons]
    split
    · simp
    · split
      · simp
      · split
        · rename_i h1 h2 h3
          simp only [List.length_cons]
          omega
        · simp
/-- the marks that bytes begin with, and where the numbers begin -/
def Ict.marksOf (b : List UInt8) : Option (List UInt64 × Nat) :=
  if (Num.take b).2.2 ≠ 0 ∨ 4096 < (Num.take b).1 then none else
    if b.length < (Num.take b).2.1 + ((Num.take b).1 + 7) / 8 then none else
      if (Bits.unpack ((b.take ((Num.take b).2.1 + ((Num.take b).1 + 7) / 8)).drop (Num.take b).2.1) ((Num.take b).1 : Int) 1).2 ≠ 0 then none else
        some ((Bits.unpack ((b.take ((Num.take b).2.1 + ((Num.take b).1 + 7) / 8)).drop (Num.take b).2.1) ((Num.take b).1 : Int) 1).1, (Num.take b).2.1 + ((Num.take b).1 + 7) / 8)
def Ict.cnt (M : List UInt64) : Nat := (M.filter (· == 1)).length
def Ict.join : List UInt64 → List Int → List (Bool × Int)
  | [], _ => []
  | m :: r, L => if m == 1 then (true, L.headD 0) :: Ict.join r L.tail else (false, 0) :: Ict.join r L
/-- what Take answers -/
noncomputable def Ict.take (b : List UInt8) : List (Bool × Int) × Nat × Nat :=
  match Ict.marksOf b with
  | none => ([], 0, 2)
  | some (M, s) => if (Pfor.takeInts (b.drop s) 4096).2.2 = 0 ∧ (Pfor.takeInts (b.drop s) 4096).1.length = Ict.cnt M then (Ict.join M (Pfor.takeInts (b.drop s) 4096).1, s + (Pfor.takeInts (b.drop s) 4096).2.1, 0) else ([], 0, 2)

theorem Ict.cnt_le (M : List UInt64) : Ict.cnt M ≤ M.length := List.length_filter_le _ _
theorem Ict.cnt_nil : Ict.cnt [] = 0 := rfl
theorem Ict.cnt_snoc (M : List UInt64) (x : UInt64) : Ict.cnt (M ++ [x]) = Ict.cnt M + (if x == 1 then 1 else 0) := by
  unfold Ict.cnt
  rw [List.filter_append, List.length_append]
  congr 1
  rcases h : (x == 1) with _ | _ <;> simp [h]
theorem Ict.join_length : ∀ (M : List UInt64) (L : List Int), (Ict.join M L).length = M.length
  | [], _ => rfl
  | m :: r, L => by
    unfold Ict.join
    split <;> simp [Ict.join_length r]
theorem Ict.join_get : ∀ (M : List UInt64) (L : List Int) (k : Nat) (hk : k < M.length), (Ict.join M L)[k]'(by rw [Ict.join_length]; exact hk) = if M[k] == 1 then (true, (L.drop (Ict.cnt (M.take k))).headD 0) else (false, 0)
  | [], _, k, hk => by cases hk
  | m :: r, L, 0, _ => by
    simp only [Ict.join, List.take_zero, Ict.cnt_nil, List.drop_zero, List.getElem_cons_zero]
    split <;> rfl
  | m :: r, L, k + 1, hk => by
    have hk' : k < r.length := by simpa using hk
    rcases h : (m == 1) with _ | _
    · simp only [Ict.join, h, Bool.false_eq_true, if_false, List.getElem_cons_succ]
      rw [Ict.join_get r L k hk']
      simp [Ict.cnt, h]
    · simp only [Ict.join, h, if_true, List.getElem_cons_succ]
      rw [Ict.join_get r L.tail k hk']
      simp [Ict.cnt, h]
/-- marks are 0 or 1 -/
theorem Ict.marksOf_bits {b : List UInt8} {M : List UInt64} {s : Nat} (h : Ict.marksOf b = some (M, s)) : (∀ x ∈ M, x = 0 ∨ x = 1) ∧ M.length ≤ 4096 ∧ s ≤ b.length := by
  unfold Ict.marksOf at h
  split at h
  · cases h
  · rename_i h1
    split at h
    · cases h
    · rename_i h2
      split at h
      · cases h
      · rename_i h3
        simp only [Option.some.injEq, Prod.mk.injEq] at h
        obtain ⟨h, rfl⟩ := h
        have hu := Bits.unpack_cases ((b.take ((Num.take b).2.1 + ((Num.take b).1 + 7) / 8)).drop (Num.take b).2.1) ((Num.take b).1 : Int) 1
        rcases hu with ⟨l, hl⟩ | ⟨e, he, hne⟩
        · rw [hl] at h
          simp only at h
          subst h
          obtain ⟨hp, hlen⟩ := Bits.pack_unpack hl
          have hfit : Bits.Fit 1 l := by
            rcases Classical.em (Bits.Fit 1 l) with hf | hf
            · exact hf
            · have := Bits.pack_range (w := 1) (by omega) hf
              rw [show ((1 : Nat) : Int) = 1 from rfl, hp] at this
              exact absurd (congrArg Prod.snd this) (by simp)
          refine ⟨fun x hx => ?_, by omega, by omega⟩
          have := hfit x hx
          have h2 : x.toNat < 2 := this
          rcases Nat.lt_or_ge x.toNat 1 with h3 | h3
          · left
            apply UInt64.toNat_inj.1
            rw [show (0 : UInt64).toNat = 0 from rfl]; omega
          · right
            apply UInt64.toNat_inj.1
            rw [show (1 : UInt64).toNat = 1 from rfl]; omega
        · rw [he] at h3
          simp at h3
          exact absurd h3 hne
theorem Pfor.takeBlocks_exact (b : List UInt8) (v : Nat) : ∀ (acc : List UInt64) (at_ : Nat), (Pfor.takeBlocks b v acc at_).2.2 = 0 → (Pfor.takeBlocks b v acc at_).1.length = acc.length + v := by
  induction v using Nat.strongRecOn with
  | ind v ih =>
    intro acc at_ h
    rcases Nat.eq_zero_or_pos v with h0 | h0
    · subst h0
      rw [Pfor.takeBlocks_zero]
      simp
    · rw [Pfor.takeBlocks_pos b h0] at h ⊢
      split at h
      · rename_i hc
        rw [if_pos hc]
        have := ih (v - 32) (by omega) _ _ h
        rw [this, List.length_append, hc.2]
        omega
      · simp at h
theorem Pfor.takeBlocks_used (b : List UInt8) (v : Nat) : ∀ (acc : List UInt64) (at_ : Nat), at_ ≤ b.length → (Pfor.takeBlocks b v acc at_).2.1 ≤ b.length := by
  induction v using Nat.strongRecOn with
  | ind v ih =>
    intro acc at_ hat
    rcases Nat.eq_zero_or_pos v with h0 | h0
    · subst h0
      rw [Pfor.takeBlocks_zero]
      exact hat
    · rw [Pfor.takeBlocks_pos b h0]
      split
      · rcases Pfor.takeBlock_cases (b.drop at_) with ⟨l, _, hp, ht⟩ | ht
        · refine ih (v - 32) (by omega) _ _ ?_
          rw [ht]
          have := hp.length_le
          rw [List.length_drop] at this
          show at_ + (Pfor.block l).length ≤ b.length
          omega
        · rename_i hc
          rw [ht] at hc
          simp at hc
      · simp
theorem Pfor.takeInts_used (b : List UInt8) (z : Int) : (Pfor.takeInts b z).2.1 ≤ b.length := by
  unfold Pfor.takeInts Pfor.takeList
  simp only
  split
  · simp
  · split
    · simp
    · split
      · simp
      · exact Pfor.takeBlocks_used b _ _ _ (Num.take_size_le b)
theorem Pfor.takeList_exact (b : List UInt8) (z : Int) (h : (Pfor.takeList b z).2.2 = 0) : ((Pfor.takeList b z).1.length : Int) ≤ z := by
  unfold Pfor.takeList at h ⊢
  split at h
  · cases h
  · rename_i h1
    rw [if_neg h1]
    split at h
    · cases h
    · rename_i h2
      rw [if_neg h2]
      split at h
      · cases h
      · rename_i h3
        rw [if_neg h3]
        have := Pfor.takeBlocks_exact b _ _ _ h
        rw [this]
        simp
        omega
theorem Pfor.takeList_short (b : List UInt8) (z : Int) (hz : 0 ≤ z) : ((Pfor.takeList b z).1.length : Int) ≤ z := by
  by_cases h : (Pfor.takeList b z).2.2 = 0
  · exact Pfor.takeList_exact b z h
  · rw [(takeList_bad b z h).1]
    simpa using hz
theorem Pfor.takeList_limit (b : List UInt8) (k : Nat) (hk : k ≤ 4096) :
    ((Pfor.takeList b 4096).2.2 = 0 ∧ (Pfor.takeList b 4096).1.length = k → Pfor.takeList b k = Pfor.takeList b 4096) ∧
    (¬ ((Pfor.takeList b 4096).2.2 = 0 ∧ (Pfor.takeList b 4096).1.length = k) → ¬ ((Pfor.takeList b k).2.2 = 0 ∧ (Pfor.takeList b k).1.length = k)) := by
  unfold Pfor.takeList
  rw [if_neg (show ¬ ((4096 : Int) < 0) by omega), if_neg (show ¬ ((k : Int) < 0) by omega)]
  by_cases h1 : (Num.take b).2.2 ≠ 0
  · rw [if_pos h1, if_pos h1]
    exact ⟨fun _ => rfl, fun h => h⟩
  · rw [if_neg h1, if_neg h1]
    by_cases h2 : (4096 : Int) < ((Num.take b).1 : Int)
    · rw [if_pos h2, if_pos (show (k : Int) < ((Num.take b).1 : Int) by omega)]
      exact ⟨fun _ => rfl, fun h => h⟩
    · rw [if_neg h2]
      by_cases h3 : (k : Int) < ((Num.take b).1 : Int)
      · rw [if_pos h3]
        refine ⟨fun h => ?_, fun _ h => by cases h.1⟩
        have := Pfor.takeBlocks_exact b _ _ _ h.1
        rw [h.2] at this
        simp at this
        omega
      · rw [if_neg h3]
        exact ⟨fun _ => rfl, fun h => h⟩
theorem Pfor.takeInts_limit (b : List UInt8) (k : Nat) (hk : k ≤ 4096) :
    ((Pfor.takeInts b 4096).2.2 = 0 ∧ (Pfor.takeInts b 4096).1.length = k → Pfor.takeInts b k = Pfor.takeInts b 4096) ∧
    (¬ ((Pfor.takeInts b 4096).2.2 = 0 ∧ (Pfor.takeInts b 4096).1.length = k) → ¬ ((Pfor.takeInts b k).2.2 = 0 ∧ (Pfor.takeInts b k).1.length = k)) := by
  have h := Pfor.takeList_limit b k hk
  unfold Pfor.takeInts
  simp only [unfoldL_length]
  exact ⟨fun hh => by rw [h.1 hh], h.2⟩
theorem Pfor.takeList_wide (l : List UInt64) (t : List UInt8) (z : Int) (hl : l.length < 18446744073709551616) (hz : (l.length : Int) ≤ z) : Pfor.takeList (Pfor.list l ++ t) z = (l, (Pfor.list l).length, 0) := by
  unfold Pfor.takeList
  rw [if_neg (by omega), Pfor.list, List.append_assoc, Num.take_num hl]
  simp only [ne_eq, not_true, if_false]
  rw [if_neg (by omega), Pfor.takeBlocks_blocks _ l [] _ t (by rw [List.drop_left' (Num.num_length _)]), List.nil_append, List.length_append, Num.num_length]
theorem Ict.unfold_fold {L : List Int} (h : Fits64 L) : unfoldL (foldL L) = L := by
  apply List.ext_getElem
  · rw [unfoldL_length, foldL_length]
  · intro k h1 h2
    rw [unfoldL_get (by rw [foldL_length]; exact h2), foldL_get h2]
    have hz := h L[k] (List.getElem_mem h2)
    have hu := uval_fold hz
    unfold uval at hu
    injection hu with _ hu
    have : (UInt64.ofNat (Num.fold L[k])).toNat = Num.fold L[k] := by omega
    rw [this]
    exact Num.unfold_fold _
theorem Ict.marks_fit (l : List (Bool × Int)) : Bits.Fit 1 (Ict.marks l) := by
  intro x hx
  obtain ⟨c, _, rfl⟩ := List.mem_map.1 hx
  unfold Ict.mark
  split <;> decide
theorem Ict.cnt_marks : ∀ (l : List (Bool × Int)), Ict.cnt (Ict.marks l) = (Ict.nums l).length
  | [] => rfl
  | (h, z) :: r => by
    have := Ict.cnt_marks r
    unfold Ict.cnt Ict.marks Ict.nums at *
    cases h <;> simp [Ict.mark] at * <;> omega
theorem Ict.join_marks : ∀ (l : List (Bool × Int)), (∀ c ∈ l, Ict.bad c = false) → Ict.join (Ict.marks l) (Ict.nums l) = l
  | [], _ => rfl
  | (h, z) :: r, hb => by
    have ih := Ict.join_marks r (fun c hc => hb c (List.mem_cons_of_mem _ hc))
    have h0 := hb (h, z) (List.mem_cons_self ..)
    unfold Ict.marks Ict.nums at *
    cases h
    · have hz : z = 0 := by simpa [Ict.bad] using h0
      subst hz
      simp [Ict.mark, Ict.join]
      simpa using ih
    · simp [Ict.mark, Ict.join]
      simpa using ih
/-- what is laid is taken, whatever stands behind -/
theorem Ict.take_bytes (l : List (Bool × Int)) (t : List UInt8) (hf : Ict.formed l = true) (hfit : Ict.fits l) : Ict.take (Ict.bytes l ++ t) = (l, (Ict.bytes l).length, 0) := by
  have hfm := hf
  simp only [Ict.formed, Bool.and_eq_true, decide_eq_true_eq, Bool.not_eq_true', List.any_eq_false] at hfm
  obtain ⟨hn, hbad⟩ := hfm
  have hlt : l.length < 18446744073709551616 := by omega
  have hpk : Bits.pack (Ict.marks l) 1 = (Bits.packed 1 (Ict.marks l), 0) := Bits.pack_ok (w := 1) (by omega) (Ict.marks_fit l)
  have hpl : (Bits.packed 1 (Ict.marks l)).length = (l.length + 7) / 8 := by rw [Bits.packed_length, Ict.marks_length]; unfold Bits.size; omega
  have hun : Bits.unpack (Bits.packed 1 (Ict.marks l)) (l.length : Int) 1 = (Ict.marks l, 0) := by
    have := Bits.unpack_pack (w := 1) (by omega) (Ict.marks_fit l) (by rw [Ict.marks_length]; exact hn)
    rw [Ict.marks_length] at this
    exact this
  have hnl : (Ict.nums l).length ≤ 4096 := Nat.le_trans (Ict.nums_length l) hn
  have e : Ict.bytes l ++ t = Num.num l.length ++ (Bits.packed 1 (Ict.marks l) ++ (Pfor.list (foldL (Ict.nums l)) ++ t)) := by
    unfold Ict.bytes Ict.head
    rw [hpk]
    simp [List.append_assoc]
  have hbl : (Ict.bytes l).length = Num.size l.length + (l.length + 7) / 8 + (Pfor.list (foldL (Ict.nums l))).length := by
    unfold Ict.bytes Ict.head
    rw [hpk]
    simp only [List.length_append, Num.num_length, hpl]
  have hmo : Ict.marksOf (Ict.bytes l ++ t) = some (Ict.marks l, Num.size l.length + (l.length + 7) / 8) := by
    rw [e]
    unfold Ict.marksOf
    rw [Num.take_num hlt]
    simp only
    have hcut : ((Num.num l.length ++ (Bits.packed 1 (Ict.marks l) ++ (Pfor.list (foldL (Ict.nums l)) ++ t))).take (Num.size l.length + (l.length + 7) / 8)).drop (Num.size l.length) = Bits.packed 1 (Ict.marks l) := by
      rw [List.drop_take, List.drop_left' (Num.num_length _), show Num.size l.length + (l.length + 7) / 8 - Num.size l.length = (l.length + 7) / 8 from by omega, ← hpl, List.take_left']
      rfl
    rw [hcut, hun]
    rw [if_neg (by simp; omega), if_neg (by simp only [List.length_append, Num.num_length, hpl]; omega), if_neg (by simp)]
  have hdrop : (Ict.bytes l ++ t).drop (Num.size l.length + (l.length + 7) / 8) = Pfor.list (foldL (Ict.nums l)) ++ t := by
    rw [e, ← List.append_assoc, List.drop_left']
    rw [List.length_append, Num.num_length, hpl]
  have hti : Pfor.takeInts (Pfor.list (foldL (Ict.nums l)) ++ t) 4096 = (Ict.nums l, (Pfor.list (foldL (Ict.nums l))).length, 0) := by
    unfold Pfor.takeInts
    rw [Pfor.takeList_wide _ t 4096 (by rw [foldL_length]; omega) (by rw [foldL_length]; omega)]
    simp only [Ict.unfold_fold (Ict.fits_nums hfit)]
  unfold Ict.take
  rw [hmo]
  simp only
  rw [hdrop, hti]
  simp only
  rw [if_pos ⟨trivial, (Ict.cnt_marks l).symm⟩, Ict.join_marks l (fun c hc => by simpa using hbad c hc), hbl]
end Go.Proofs.Ytgjopffdgdimlaa

/- ints.markBytes, takeMarks, countMarked. -/
namespace Go.Proofs.Ytgjopffdgdimlaa
open Go.RowKit
set_option maxRecDepth 100000

theorem markBytes_any (n : Nat) (w : World) (hn : n ≤ 4096) : Calls Try.prog 61 #[.int .i64 (n : Int)] w fun e w' => e = .returned (.int .i64 (((n + 7) / 8 : Nat) : Int)) ∧ w = w' := by
  have h1 : wrap64 ((n : Int) * 1) = n := by unfold wrap64; omega
  have h2 : wrap64 ((n : Int) + 7) = (n : Int) + 7 := by unfold wrap64; omega
  have h3 : ((n : Int) + 7).tdiv 8 = (((n + 7) / 8 : Nat) : Int) := by
    have := (Int.ofNat_tdiv (n + 7) 8).symm
    simpa using this
  obtain ⟨q, hq⟩ : ∃ q, q = (n + 7) / 8 := ⟨_, rfl⟩
  rw [← hq] at h3 ⊢
  have h4 : wrap64 (q : Int) = q := by unfold wrap64; omega
  go_enter Try.func61, Try.ntmps61
  go_wp2
  go_ret
  exact ⟨by first | rfl | (simp; omega), by trivial⟩

set_option maxHeartbeats 1000000 in
theorem countMarked_any (A : Option Addr) (n cap B : Nat) (M : List UInt64) (w : World) (hl : M.length = n) (hn : n ≤ 4096) (h01 : ∀ x ∈ M, x = 0 ∨ x = 1) (hb : Nums w B A M) :
    Calls Try.prog 36 #[.slice A n cap] w fun e w' => e = .returned (.int .i64 (Ict.cnt M : Int)) ∧ w = w' := by
  have Hl := Lib.hid hl; clear hl
  go_enter Try.func36, Try.ntmps36
  go_wp2
  go_loopw [3, 8] (fun q i wr => ∃ (k : Nat), k ≤ n ∧ i = .int .i64 k ∧ q = .int .i64 (Ict.cnt (M.take k) : Int) ∧ w = wr) (fun _ i _ => n - (intOf i).toNat)
  case atStart => exact ⟨0, Nat.zero_le _, rfl, rfl, rfl⟩
  case round =>
    obtain ⟨k, hk, rfl, rfl, rfl⟩ := hrel
    by_cases hlt : k < n
    · have hk' : k < M.length := by have := Hl.out; omega
      obtain ⟨ad, rfl, _, hc⟩ := hb.get hk'
      simp only [uval] at hc
      have i1 : (k : Int) < (n : Int) := by omega
      have i0 : (0 : Int) ≤ (k : Int) := by omega
      have hck : Ict.cnt (M.take k) ≤ 4096 := Nat.le_trans (Ict.cnt_le _) (by rw [List.length_take]; omega)
      have hs : Ict.cnt (M.take (k + 1)) = Ict.cnt (M.take k) + M[k].toNat := by
        rw [List.take_succ_eq_append_getElem hk', Ict.cnt_snoc]
        rcases h01 M[k] (List.getElem_mem hk') with h | h <;> rw [h] <;> rfl
      have hx1 : M[k].toNat ≤ 1 := by rcases h01 M[k] (List.getElem_mem hk') with h | h <;> rw [h] <;> decide
      have Hs := Lib.hid hs
      generalize M[k].toNat = x at *
      clear hs
      generalize Ict.cnt (M.take k) = C at *
      go_wp2
      go_roundw
      case rel => exact ⟨k + 1, by omega, by go_num, by rw [Hs.out]; go_num, by trivial⟩
      case measure => simp [intOf]; omega
    · rw [List.take_of_length_le (by have := Hl.out; omega)]
      go_wp2
      go_ret
      exact ⟨rfl, by trivial⟩

def MarksPost (w : World) (r : Option (List UInt64 × Nat)) (e : Ending) (w' : World) : Prop :=
  ∃ A c, e = .returned (.tuple #[.slice A (match r with | some x => x.1.length | none => 0) c, .int .i64 ((match r with | some x => x.2 | none => 0 : Nat) : Int), .bool r.isSome]) ∧ NOwn w' w.heap.size A (match r with | some x => x.1.length | none => 0) c (match r with | some x => x.1 | none => []) ∧ Below w.heap.size w w'
theorem MarksPost.no {w w' : World} (hb : Below w.heap.size w w') : MarksPost w none (.returned (.tuple #[.slice none 0 0, .int .i64 0, .bool false])) w' := ⟨none, 0, rfl, nown_none _ _, hb⟩

set_option maxHeartbeats 2000000 in
theorem takeMarks_any (A : Option Addr) (m cap B : Nat) (b : List UInt8) (w : World) (hl : b.length = m) (hcap : m ≤ cap) (hm : m ≤ 281474976710656) (hb : Bytes w B A b) (hB : B ≤ w.heap.size) :
    Calls Try.prog 35 #[.slice A m cap] w (MarksPost w (Ict.marksOf b)) := by
  have H0 := take_any A m cap B b w hl hcap hm hb
  unfold TakePost at H0
  have hb := hb.wide hB
  have hsz := Num.take_size_le b
  generalize hR : Ict.marksOf b = R
  unfold Ict.marksOf at hR
  generalize hT : Num.take b = T at *
  obtain ⟨v, at_, e0⟩ := T
  simp only at H0 hR hsz
  replace H0 := Lib.hid H0
  by_cases he : e0 ≠ 0
  · rw [if_pos (.inl he)] at hR
    subst hR
    have hne : ((e0 : Int) != 0) = true := by simp [he]
    have hne' : ¬ (e0 : Int) = 0 := by omega
    clear hb hl he hT
    go_enter Try.func35, Try.ntmps35
    go_wp2_with fail
    refine H0.out.mono ?_
    rintro e w1 ⟨rfl, rfl⟩
    clear H0
    go_wp2
    go_ret3
    exact MarksPost.no (Below.refl _ _)
  obtain rfl : e0 = 0 := by omega
  by_cases hv : 4096 < v
  · rw [if_pos (.inr hv)] at hR
    subst hR
    have hv' : (4096 : Int) < (v : Int) := by omega
    clear hb hl he hT
    go_enter Try.func35, Try.ntmps35
    go_wp2_with fail
    refine H0.out.mono ?_
    rintro e w1 ⟨rfl, rfl⟩
    clear H0
    go_wp2
    go_ret3
    exact MarksPost.no (Below.refl _ _)
  rw [if_neg (by omega)] at hR
  have hv' : ¬ (4096 : Int) < (v : Int) := by omega
  have H1 := Lib.hid (markBytes_any v w (by omega))
  obtain ⟨q, hq⟩ : ∃ q, q = (v + 7) / 8 := ⟨_, rfl⟩
  rw [← hq] at hR H1
  have hat : at_ ≤ 281474976710656 := by omega
  have hqb : q ≤ 600 := by omega
  by_cases hs : b.length < at_ + q
  · rw [if_pos hs] at hR
    subst hR
    have hs' : (m : Int) < (at_ : Int) + (q : Int) := by omega
    clear hb hl he hT hq hs
    go_enter Try.func35, Try.ntmps35
    go_wp2_with fail
    refine H0.out.mono ?_
    rintro e w1 ⟨rfl, rfl⟩
    clear H0
    go_wp2_with fail
    refine H1.out.mono ?_
    rintro e w1 ⟨rfl, rfl⟩
    clear H1
    go_wp2
    go_ret3
    exact MarksPost.no (Below.refl _ _)
  rw [if_neg hs] at hR
  have hs' : ¬ (m : Int) < (at_ : Int) + (q : Int) := by omega
  have hcut := run_cut_lh A m cap at_ (at_ + q) (by omega) (by omega)
  have hbc : Bytes w w.heap.size (cutAt A cap at_) ((b.take (at_ + q)).drop at_) := by
    rw [List.drop_take]
    exact (hb.cut (by omega) (by omega)).take _
  have hcl : ((b.take (at_ + q)).drop at_).length = at_ + q - at_ := by rw [List.length_drop, List.length_take]; omega
  have H2 := unpack_any (cutAt A cap at_) (at_ + q - at_) (cap - at_) w.heap.size (v : Int) 1 _ w hcl hbc (Nat.le_refl _) (by omega)
  have hcut' : ∀ W, (Instr.slice 22 (.slice A m cap) (some (.int .i64 (at_ : Int))) (some (.int .i64 ((at_ : Int) + (q : Int)))) none).run Try.prog W = .ok (.slice (cutAt A cap at_) (at_ + q - at_) (cap - at_)) W := fun W => by
    have := hcut W
    rw [show ((at_ + q : Nat) : Int) = (at_ : Int) + (q : Int) from by omega] at this
    exact this
  generalize cutAt A cap at_ = A9 at *
  generalize hu : Bits.unpack ((b.take (at_ + q)).drop at_) (v : Int) 1 = U at *
  obtain ⟨M, e2⟩ := U
  unfold UnpackPost at H2
  simp only at H2 hR
  replace H2 := Lib.hid H2
  generalize at_ + q - at_ = q9 at *
  generalize cap - at_ = c9 at *
  by_cases h2 : e2 ≠ 0
  · rw [if_pos h2] at hR
    subst hR
    have h2' : ((e2 : Int) != 0) = true := by simp [h2]
    have h2'' : ¬ (e2 : Int) = 0 := by omega
    clear hb hl he hT hq hs hu hbc hcl hcut h2
    go_enter Try.func35, Try.ntmps35
    go_wp2_with fail
    refine H0.out.mono ?_
    rintro e w1 ⟨rfl, rfl⟩
    clear H0
    go_wp2_with fail
    refine H1.out.mono ?_
    rintro e w1 ⟨rfl, rfl⟩
    clear H1
    go_wp2_with fail
    refine H2.out.mono ?_
    rintro e w2 ⟨A2, c2, rfl, ho2, hb2⟩
    clear H2
    go_wp2
    go_ret3
    exact MarksPost.no hb2
  · obtain rfl : e2 = 0 := by omega
    rw [if_neg h2] at hR
    subst hR
    have Hs := Lib.hid (show ((at_ : Int) + (q : Int)) = ((at_ + q : Nat) : Int) by omega)
    clear hb hl he hT hq hs hu hbc hcl hcut h2
    go_enter Try.func35, Try.ntmps35
    go_wp2_with fail
    refine H0.out.mono ?_
    rintro e w1 ⟨rfl, rfl⟩
    clear H0
    go_wp2_with fail
    refine H1.out.mono ?_
    rintro e w1 ⟨rfl, rfl⟩
    clear H1
    go_wp2_with fail
    refine H2.out.mono ?_
    rintro e w2 ⟨A2, c2, rfl, ho2, hb2⟩
    clear H2
    go_wp2
    go_ret3
    exact ⟨A2, c2, by rw [← Hs.out]; rfl, ho2, hb2⟩
end Go.Proofs.Ytgjopffdgdimlaa

/- ints.join. -/
namespace Go.Proofs.Ytgjopffdgdimlaa
open Go.RowKit
set_option maxRecDepth 100000

theorem headD_get (l : List Int) (h : 0 < l.length) : l.headD 0 = l[0] := by
  cases l with
  | nil => simp at h
  | cons x t => rfl
theorem sizeI (W : World) : (sizeOf 3).run Try.prog W = .ok 1 W := by
  obtain ⟨i0, hi0, hz0, hz1, hz2⟩ := info_parts i64_info
  simp [sizeOf, typeInfo, hi0, hz1]
theorem elemIt : Try.prog.elem 43 = 3 := by kernel_rfl
theorem run_cutI_l (A : Option Addr) (n cap lo : Nat) (h1 : lo ≤ n) (W : World) :
    (Instr.slice 43 (.slice A n cap) (some (.int .i64 (lo : Int))) none none).run Try.prog W = .ok (.slice (cutAt A cap lo) (n - lo) (cap - lo)) W := by
  rw [run_slice_l (P := Try.prog) (w := W) (kl := .i64) (l := (lo : Int)) (h0 := by omega) (h1 := by omega) (ht := by rw [elemIt]; exact Try.underlying43)]
  rw [elemIt, sizeI]
  simp [Result.andThen, sliced, cutAt]
theorem made_cells (n : Nat) : madeCells #[.bool false, .int .i64 0] (n * 2) = (mcat cellV (List.replicate n (false, 0))).toArray := by
  apply Array.ext
  · rw [size_madeCells]
    simp [mcat_length (f := cellV) (m := 2) (fun _ => rfl)]
  · intro i h1 h2
    rw [size_madeCells] at h1
    have hk : i / 2 < (List.replicate n ((false, 0) : Bool × Int)).length := by rw [List.length_replicate]; omega
    have hat := mcat_at (f := cellV) (m := 2) (fun _ => rfl) (List.replicate n (false, 0)) (i / 2) hk (i % 2) (by omega)
    rw [show i / 2 * 2 + i % 2 = i from by omega] at hat
    rw [List.getElem_replicate] at hat
    have h2' : i < (mcat cellV (List.replicate n (false, 0))).length := by simpa using h2
    rw [List.getElem?_eq_getElem h2'] at hat
    have hj : i % 2 = 0 ∨ i % 2 = 1 := by omega
    simp only [madeCells, Array.getElem_map, Array.getElem_range, List.getElem_toArray]
    rcases hj with hj | hj
    · rw [hj] at hat
      simp [cellV] at hat
      rw [hat]
      simp [hj]
    · rw [hj] at hat
      simp [cellV] at hat
      rw [hat]
      simp [hj]
theorem run_make_cells (n : Nat) (hn : n ≤ 1000000) (w : World) :
    (Instr.makeSlice 23 (.int .i64 (n : Int)) (.int .i64 (n : Int))).run Try.prog w = .ok (.slice (some ⟨w.heap.size, 0, none⟩) n n) (w.alloc (.cells (mcat cellV (List.replicate n (false, 0))).toArray 46)) := by
  obtain ⟨i0, hi0, hz0, hz1, hz2⟩ := info_parts cell_info
  have := run_make (P := Try.prog) w 23 46 i0 _ Try.underlying23 hi0 hz0 .i64 .i64 n n (by omega) (Int.le_refl _) (by rw [hz2]; omega) (by omega)
  rw [hz1] at this
  simp only [Int.toNat_natCast] at this
  rw [← made_cells]
  exact this
theorem own_cols (w : World) (n : Nat) (hn : n ≤ maxLen) : COwn (w.alloc (.cells (mcat cellV (List.replicate n (false, 0))).toArray 46)) w.heap.size (some ⟨w.heap.size, 0, none⟩) n n (List.replicate n (false, 0)) := by
  have h := MOwn.lit (f := cellV) (m := 2) (e := 46) (fun _ => rfl) w w.heap.size (List.replicate n (false, 0)) (Nat.le_refl _) (by simpa using hn)
  rw [List.length_replicate] at h
  exact h

set_option maxHeartbeats 2000000 in
theorem join_any (A : Option Addr) (n cap B : Nat) (M : List UInt64) (A2 : Option Addr) (m c2 : Nat) (L : List Int) (w : World) (hl : M.length = n) (hn : n ≤ 4096) (h01 : ∀ x ∈ M, x = 0 ∨ x = 1) (hb : Nums w B A M) (hB : B ≤ w.heap.size)
    (hl2 : L.length = m) (hc2 : m ≤ c2) (hLM : m = Ict.cnt M) (hb2 : Ints w B A2 L) :
    Calls Try.prog 38 #[.slice A n cap, .slice A2 m c2] w fun e w' => ∃ A' c', e = .returned (.slice A' n c') ∧ COwn w' w.heap.size A' n c' (Ict.join M L) ∧ Below w.heap.size w w' := by
  have hmk := run_make_cells n (by omega) w
  have ho0 := own_cols w n (by simp only [maxLen]; omega)
  have hbel0 : Below w.heap.size w (w.alloc (.cells (mcat cellV (List.replicate n (false, 0))).toArray 46)) := (Below.refl _ _).alloc (Nat.le_refl _) _
  generalize w.alloc (.cells (mcat cellV (List.replicate n (false, 0))).toArray 46) = w0 at *
  have hJL : (Ict.join M L).length = n := by rw [Ict.join_length, hl]
  have HJL := Lib.hid hJL
  have Hl := Lib.hid hl
  have hb := hb.wide hB
  have hb2 := hb2.wide hB
  have HLM := Lib.hid hLM
  have Hl2 := Lib.hid hl2
  obtain ⟨g, hg⟩ : ∃ g, g = w.heap.size := ⟨_, rfl⟩
  rw [← hg] at hmk ho0 hbel0 hb hb2 ⊢
  have Hg := Lib.hid hg
  have hm4 : m ≤ 4096 := by rw [hLM]; exact Nat.le_trans (Ict.cnt_le M) (by omega)
  clear hJL hl hg hLM hl2
  go_enter Try.func38, Try.ntmps38
  go_wp2
  go_loopw [1, 13] (fun q i wr => ∃ (k r c : Nat) (A3 : Option Addr), k ≤ n ∧ i = .int .i64 k ∧ q = .slice A3 r c ∧ r ≤ c ∧ r + Ict.cnt (M.take k) = m ∧ Ints wr g A3 (L.drop (Ict.cnt (M.take k))) ∧ COwn wr g (some ⟨g, 0, none⟩) n n ((Ict.join M L).take k ++ List.replicate (n - k) (false, 0)) ∧ Below g w wr) (fun _ i _ => n - (intOf i).toNat)
  case atStart => exact ⟨0, m, c2, A2, by omega, rfl, rfl, hc2, by rw [List.take_zero, Ict.cnt_nil]; rfl, by rw [List.take_zero, Ict.cnt_nil, List.drop_zero]; exact hb2.below hbel0, by simpa using ho0, hbel0⟩
  case round =>
    clear ho0 hbel0 hmk
    obtain ⟨k, r, c, A3, hk, rfl, rfl, hrc, hrm, hi, ho, hbel⟩ := hrel
    have hbr := hb.below hbel
    by_cases hlt : k < n
    · have hk' : k < M.length := by have := Hl.out; omega
      obtain ⟨ad, rfl, hlt', hcell⟩ := hbr.get hk'
      simp only [uval] at hcell
      have i1 : (k : Int) < (n : Int) := by omega
      have i0 : (0 : Int) ≤ (k : Int) := by omega
      have hct : Ict.cnt (M.take (k + 1)) = Ict.cnt (M.take k) + (if M[k] == 1 then 1 else 0) := by rw [List.take_succ_eq_append_getElem hk', Ict.cnt_snoc]
      have hcm : Ict.cnt (M.take (k + 1)) ≤ m := by
        rw [HLM.out]
        unfold Ict.cnt
        exact (List.Sublist.filter _ (List.take_sublist _ _)).length_le
      have hjg := Ict.join_get M L k hk'
      obtain ⟨hg1, hg2⟩ := fill_get ((false, 0) : Bool × Int) HJL.out hlt
      have hfs := fill_set ((false, 0) : Bool × Int) HJL.out hlt
      have hsm := fun h => fill_same ((false, 0) : Bool × Int) HJL.out hlt h
      rw [hjg] at hfs hsm
      rcases h01 M[k] (List.getElem_mem hk') with hx | hx
      · rw [hx] at hct hfs hsm hcell
        rw [show ((0 : UInt64) == 1) = false from rfl] at hct hfs hsm
        simp only [Bool.false_eq_true, if_false, Nat.add_zero] at hct hfs hsm
        rw [show ((0 : UInt64).toNat : Int) = 0 from rfl] at hcell
        rw [hsm trivial] at ho
        rw [← hct] at hrm hi
        have Hi := Lib.hid hi
        have Ho := Lib.hid ho
        have HB := Lib.hid hbel
        clear hi ho hbel hfs hsm hg1 hg2 hjg hct
        go_wp2
        go_roundw
        case rel => exact ⟨k + 1, r, c, A3, by omega, by go_num, rfl, hrc, hrm, Hi.out, Ho.out, HB.out⟩
        case measure => simp [intOf]; omega
      · rw [hx] at hct hfs hsm hcell
        rw [show ((1 : UInt64) == 1) = true from rfl] at hct hfs
        simp only [if_true] at hct hfs
        rw [show ((1 : UInt64).toNat : Int) = 1 from rfl] at hcell
        have hr0 : 0 < r := by omega
        have hdl : (L.drop (Ict.cnt (M.take k))).length = r := by rw [List.length_drop, Hl2.out]; omega
        obtain ⟨ad2, rfl, hlt2, hc2'⟩ := hi.get (k := 0) (by omega)
        have hz : (L.drop (Ict.cnt (M.take k))).headD 0 = (L.drop (Ict.cnt (M.take k)))[0]'(by omega) := headD_get _ (by omega)
        simp only [ival] at hc2'
        rw [← hz] at hc2'
        have ha0 : ad2.add 0 = ad2 := by simp [Addr.add]
        rw [ha0] at hc2'
        have hdr := hi.drop (k := 1) (cap := c) (by omega) (by omega)
        rw [List.drop_drop, ← hct] at hdr
        have hcut := run_cutI_l (some ad2) r c 1 hr0
        rw [show ((1 : Nat) : Int) = 1 from rfl] at hcut
        unfold cutAt at hcut
        generalize (if c = 1 then some ad2 else (some ad2).map (·.add 1)) = A4 at *
        have hold0 := ho.cell (fun _ => rfl) (k := k) (j := 0) hg1 (by omega)
        have hold1 := ho.cell (fun _ => rfl) (k := k) (j := 1) hg1 (by omega)
        rw [hg2] at hold0 hold1
        have hold0' : wr.cell? ⟨g, k * 2, none⟩ = some (.bool false) := hold0
        have hold1' : wr.cell? ⟨g, k * 2 + 1, none⟩ = some (.int .i64 0) := hold1
        have hf0 := ho.free (k * 2)
        have hf1 := ho.free (k * 2 + 1)
        generalize (L.drop (Ict.cnt (M.take k))).headD 0 = z at *
        have hs0 := ho.store (fun _ => rfl) (k := k) (j := 0) (u := .bool true) (y := (true, 0)) hg1 (by omega) (by rw [hg2]; rfl)
        have hs1 := hs0.store (fun _ => rfl) (k := k) (j := 1) (u := .int .i64 z) (y := (true, z)) (by rw [List.length_set]; exact hg1) (by omega) (by rw [List.getElem_set_self]; rfl)
        rw [List.set_set, hfs, Nat.add_zero] at hs1
        have hb8 := (hbel.setCell (p := ⟨g, k * 2, none⟩) (Nat.le_refl _) (.bool true)).setCell (p := ⟨g, k * 2 + 1, none⟩) (Nat.le_refl _) (.int .i64 z)
        have hi8 := hdr.keep (w' := (wr.setCell ⟨g, k * 2, none⟩ (.bool true)).setCell ⟨g, k * 2 + 1, none⟩ (.int .i64 z)) (fun p hp => by
          have n1 : (⟨g, k * 2 + 1, none⟩ : Addr) ≠ p := by intro e; subst e; simp at hp
          have n2 : (⟨g, k * 2, none⟩ : Addr) ≠ p := by intro e; subst e; simp at hp
          exact (World.cell?_setCell_other _ _ _ _ n1).trans (World.cell?_setCell_other _ _ _ _ n2))
        have Hi := Lib.hid hi8
        have Ho := Lib.hid hs1
        have HB := Lib.hid hb8
        have hrm' : (r - 1) + Ict.cnt (M.take (k + 1)) = m := by omega
        clear hi ho hbel hfs hsm hg1 hg2 hjg hct hold0 hold1 hs0 hs1 hb8 hi8 hdr hz hdl ha0
        go_wp2
        go_roundw
        case rel => exact ⟨k + 1, r - 1, c - 1, A4, by omega, by go_num, by first | rfl | (congr 1), by omega, hrm', Hi.out, Ho.out, HB.out⟩
        case measure => simp [intOf]; omega
    · obtain rfl : k = n := by omega
      rw [Nat.sub_self, List.replicate_zero, List.append_nil, List.take_of_length_le (by rw [HJL.out]; exact Nat.le_refl _)] at ho
      go_wp2
      go_ret
      exact ⟨_, k, rfl, ho, hbel⟩
end Go.Proofs.Ytgjopffdgdimlaa

/- ints.Take. -/
namespace Go.Proofs.Ytgjopffdgdimlaa
open Go.RowKit
set_option maxRecDepth 100000

/-- what Take answers -/
def TakeCPost (w : World) (r : List (Bool × Int) × Nat × Nat) (e : Ending) (w' : World) : Prop :=
  ∃ A c, e = .returned (.tuple #[.slice A r.1.length c, .int .i64 (r.2.1 : Int), .int .i64 (r.2.2 : Int)]) ∧ COwn w' w.heap.size A r.1.length c r.1 ∧ Below w.heap.size w w'
theorem TakeCPost.no {w w' : World} (hb : Below w.heap.size w w') : TakeCPost w ([], 0, 2) (.returned (.tuple #[.slice none 0 0, .int .i64 0, .int .i64 2])) w' := ⟨none, 0, rfl, MOwn.nil _ _ _ _ _, hb⟩

set_option maxHeartbeats 2000000 in
theorem icTake_any (A : Option Addr) (m cap B : Nat) (b : List UInt8) (w : World) (hl : b.length = m) (hcap : m ≤ cap) (hm : m ≤ 281474976710656) (hb : Bytes w B A b) (hB : B ≤ w.heap.size) :
    Calls Try.prog 18 #[.slice A m cap] w (TakeCPost w (Ict.take b)) := by
  have H0 := Lib.hid (takeMarks_any A m cap B b w hl hcap hm hb hB)
  have hb := hb.wide hB
  unfold MarksPost at H0
  unfold Ict.take
  have hbits := fun M s (h : Ict.marksOf b = some (M, s)) => Ict.marksOf_bits h
  rcases hR : Ict.marksOf b with _ | ⟨M, s⟩
  · rw [hR] at H0
    clear hbits hR hb hl
    go_enter Try.func18, Try.ntmps18
    go_wp2_with fail
    refine H0.out.mono ?_
    rintro e w1 ⟨A1, c1, rfl, ho1, hb1⟩
    clear H0
    simp only [Option.isSome_none] at *
    go_wp2
    go_ret3
    exact TakeCPost.no hb1
  · rw [hR] at H0
    dsimp only
    obtain ⟨h01, hM4, hsb⟩ := hbits M s hR
    simp only [Option.isSome_some] at H0
    have hk4 : Ict.cnt M ≤ 4096 := Nat.le_trans (Ict.cnt_le M) hM4
    have hlim := Pfor.takeInts_limit (b.drop s) (Ict.cnt M) hk4
    have hsh := Pfor.takeList_short (b.drop s) (Ict.cnt M : Int) (by omega)
    have hcut := run_cut_l A m cap s (by omega)
    have hbc : ∀ W, Bytes W w.heap.size A b → Bytes W w.heap.size (cutAt A cap s) (b.drop s) := fun W h => h.cut (by omega) (by omega)
    have hdl : (b.drop s).length = m - s := by rw [List.length_drop, hl]
    have H2 := Lib.hid (fun W (h : Bytes W W.heap.size (cutAt A cap s) (b.drop s)) => takeInts_wide (cutAt A cap s) (m - s) (cap - s) (b.drop s) (Ict.cnt M : Int) W hdl (by omega) (by omega) (.inl (by omega)) h (by omega) (by omega) (by omega))
    have H1 := Lib.hid (fun A1 c1 W (h : Nums W W.heap.size A1 M) => countMarked_any A1 M.length c1 W.heap.size M W rfl hM4 h01 h)
    have H3 := Lib.hid (fun A1 c1 A2 c2 L W (h : Nums W W.heap.size A1 M) (hL : L.length = Ict.cnt M) (hc : L.length ≤ c2) (h2 : Ints W W.heap.size A2 L) => join_any A1 M.length c1 W.heap.size M A2 L.length c2 L W rfl hM4 h01 h (Nat.le_refl _) rfl hc hL h2)
    have hjl := fun L => Ict.join_length M L
    have HBC := Lib.hid hbc
    generalize cutAt A cap s = A9 at *
    clear hdl hR hbits hbc
    have hs4 : s ≤ 281474976710656 := by omega
    unfold TakesIPost at H2
    by_cases hok : (Pfor.takeInts (b.drop s) 4096).2.2 = 0 ∧ (Pfor.takeInts (b.drop s) 4096).1.length = Ict.cnt M
    · have e1 := hlim.1 hok
      rw [if_pos hok]
      rw [e1] at H2
      have hus := Pfor.takeInts_used (b.drop s) 4096
      rw [List.length_drop, hl] at hus
      generalize Pfor.takeInts (b.drop s) 4096 = T at *
      obtain ⟨L, u, e9⟩ := T
      simp only at hok H2 hus ⊢
      obtain ⟨rfl, hLl⟩ := hok
      have hne : ((L.length : Int) != (Ict.cnt M : Int)) = false := by rw [hLl]; simp
      have HLl := Lib.hid hLl
      have HJl := Lib.hid (hjl L)
      have hwr : wrap64 ((s : Int) + (u : Int)) = (s : Int) + (u : Int) := by unfold wrap64; omega
      have Hsu := Lib.hid (show ((s : Int) + (u : Int)) = ((s + u : Nat) : Int) by omega)
      generalize Ict.cnt M = C at *
      clear hlim e1 hsh hl hLl hjl
      unfold TakeCPost
      simp only
      rw [HJl.out]
      go_enter Try.func18, Try.ntmps18
      go_wp2_with fail
      refine H0.out.mono ?_
      rintro e w1 ⟨A1, c1, rfl, ho1, hb1⟩
      clear H0
      have hbx := hb.below hb1
      have H1' := Lib.hid (H1.out A1 c1 w1 ho1.row)
      go_wp2_with fail
      refine H1'.out.mono ?_
      rintro e w1' ⟨rfl, rfl⟩
      clear H1 H1'
      have H2' := Lib.hid (H2.out w1 ((HBC.out w1 hbx).wide hb1.size))
      go_wp2_with fail
      refine H2'.out.mono ?_
      rintro e w2 ⟨A2, c2, rfl, ho2, hb2⟩
      clear H2 H2'
      have hb12 := hb1.trans (hb2.mono hb1.size)
      have H3' := Lib.hid (H3.out A1 c1 A2 c2 L w2 (ho1.below hb2).row HLl.out ho2.cap ho2.row)
      clear H3 ho1 ho2 hb hbx
      go_wp2_with fail
      refine H3'.out.mono ?_
      rintro e w3 ⟨A3, c3, rfl, ho3, hb3⟩
      clear H3'
      go_wp2
      go_ret3
      exact ⟨A3, c3, by rw [← Hsu.out]; rfl, ho3.low hb12.size, hb12.trans (hb3.mono hb12.size)⟩
    · have e1 := hlim.2 hok
      rw [if_neg hok]
      generalize Pfor.takeInts (b.drop s) (Ict.cnt M : Int) = T at *
      obtain ⟨L, u, e9⟩ := T
      simp only at e1 H2
      generalize Ict.cnt M = C at *
      clear hlim hok hsh hl hjl H3
      by_cases h9 : e9 = 0
      · subst h9
        have hne : ((L.length : Int) != (C : Int)) = true := by rw [bne_iff_ne]; omega
        have hne2 : ¬ (L.length : Int) = (C : Int) := by omega
        clear e1
        go_enter Try.func18, Try.ntmps18
        go_wp2_with fail
        refine H0.out.mono ?_
        rintro e w1 ⟨A1, c1, rfl, ho1, hb1⟩
        clear H0
        have hbx := hb.below hb1
        have H1' := Lib.hid (H1.out A1 c1 w1 ho1.row)
        go_wp2_with fail
        refine H1'.out.mono ?_
        rintro e w1' ⟨rfl, rfl⟩
        clear H1 H1'
        have H2' := Lib.hid (H2.out w1 ((HBC.out w1 hbx).wide hb1.size))
        go_wp2_with fail
        refine H2'.out.mono ?_
        rintro e w2 ⟨A2, c2, rfl, ho2, hb2⟩
        clear H2 H2'
        go_wp2
        go_ret3
        exact TakeCPost.no (hb1.trans (hb2.mono hb1.size))
      · have hne : ((e9 : Int) != 0) = true := by rw [bne_iff_ne]; omega
        have hne2 : ¬ (e9 : Int) = 0 := by omega
        clear e1 h9
        go_enter Try.func18, Try.ntmps18
        go_wp2_with fail
        refine H0.out.mono ?_
        rintro e w1 ⟨A1, c1, rfl, ho1, hb1⟩
        clear H0
        have hbx := hb.below hb1
        have H1' := Lib.hid (H1.out A1 c1 w1 ho1.row)
        go_wp2_with fail
        refine H1'.out.mono ?_
        rintro e w1' ⟨rfl, rfl⟩
        clear H1 H1'
        have H2' := Lib.hid (H2.out w1 ((HBC.out w1 hbx).wide hb1.size))
        go_wp2_with fail
        refine H2'.out.mono ?_
        rintro e w2 ⟨A2, c2, rfl, ho2, hb2⟩
        clear H2 H2'
        go_wp2
        go_ret3
        exact TakeCPost.no (hb1.trans (hb2.mono hb1.size))
end Go.Proofs.Ytgjopffdgdimlaa

/- Bytes appended beyond 2^47. -/
namespace Go.Proofs.Ytgjopffdgdimlaa
open Go.ChangeShapes Go.WideShapes Go.ChangeAt Go.RowKit
set_option maxRecDepth 100000

/-- append of bytes, up to more than 2^47 of them -/
theorem run_append_wide (w : World) (base : Nat) (ty : TypeId) (A : Option Addr) (n c : Nat) (l : List UInt8) (hown : Own w base A n c l)
    (B : Nat) (A2 : Option Addr) (m c2 : Nat) (l2 : List UInt8) (hl2 : l2.length = m) (hb : Bytes w B A2 l2) (hbytes : n + m ≤ 200000000000000) (hbase : base ≤ w.heap.size) :
    ∃ A' c' w', (Builtin.append_ #[22, 22] ty #[.slice A n c, .slice A2 m c2]).run Try.prog w = .ok (.slice A' (n + m) c') w' ∧
      Own w' base A' (n + m) c' (l ++ l2) ∧ w.grownBy w' (blk A) := by
  rcases Nat.lt_or_ge 140737488355328 (n + m) with hbig | hsmall
  · obtain ⟨i0, hi0, hz0, hz1, hz2⟩ := info_parts byte_info
    rcases A2 with _ | ad
    · have hm : l2 = [] := by
        rcases Classical.em (l2 = []) with h | h
        · exact h
        · obtain ⟨_, h, _⟩ := hb h; cases h
      subst hm
      obtain rfl : 0 = m := by simpa using hl2
      refine ⟨A, c, w, ?_, by simpa using hown, World.grownBy.refl w _⟩
      rcases hown.2 with ⟨hv, rfl⟩ | ⟨g, cap, cur, hv, _, _, hnc, _⟩
      · injection hv with h1 _ h3
        subst h1 h3
        simp [Builtin.append_, run_underlying Try.underlying22, sizeOf, typeInfo, hi0, Builtin.lenOf, Builtin.firstCells]
      · injection hv with h1 h2 h3
        subst h1 h3
        simp [Builtin.append_, run_underlying Try.underlying22, sizeOf, typeInfo, hi0, Builtin.lenOf, Builtin.firstCells, hnc, storeCells]
    · obtain ⟨v', w', hrun, h2, h3, _⟩ := run_append_own_wide (P := Try.prog) w base 22 ty 5 i0 _ 1 1 Try.underlying22 hi0 hz0 hz1 hz2 rfl (by omega) (.slice A n c) n (bvals l) hown
        ad m c2 (bvals l2) (by rw [bvals_length]; omega) hb.news (bvals_one l2) (by simp only [maxLen]; omega) (by omega) hbase
      rw [← bvals_append] at h2
      rw [ownBlock_eq] at h3
      rcases h2.2 with ⟨rfl, h0⟩ | ⟨g, cap, cur, rfl, _⟩
      · omega
      · exact ⟨_, cap, w', hrun, h2, h3⟩
  · obtain ⟨A', c', w', h1, h2, h3, _⟩ := run_append_bytes w base ty A n c l hown B A2 m c2 l2 hl2 hb hsmall hbase
    exact ⟨A', c', w', h1, h2, h3⟩
theorem wpList_append_wide {w : World} {ops : Array Oper} {rest : List Oper} {o : Oper} {a : Act} {Q : Exit → Act → World → Prop} (hw : Region.wanted o (yielded ops a.tmps) = true) (s x : Operand)
    (ho : o.op = .call { callee := .builtin .append, args := #[s, x], argTypes := #[22, 22] })
    (base : Nat) (A : Option Addr) (n c : Nat) (l : List UInt8) (hs : a.eval s = .slice A n c) (hown : Own w base A n c l)
    (B : Nat) (A2 : Option Addr) (m c2 : Nat) (l2 : List UInt8) (hx : a.eval x = .slice A2 m c2) (hl2 : l2.length = m) (hb : Bytes w B A2 l2) (hbytes : n + m ≤ 200000000000000) (hbase : base ≤ w.heap.size)
    (h : ∀ A' c' w', Own w' base A' (n + m) c' (l ++ l2) → w.grownBy w' (blk A) → wpList Try.prog ops Q rest (a.put o.dst (.slice A' (n + m) c')) w') :
    wpList Try.prog ops Q (o :: rest) a w := by
  obtain ⟨A', c', w', hrun, h2, h3⟩ := run_append_wide w base o.type A n c l hown B A2 m c2 l2 hl2 hb hbytes hbase
  refine wpList_step fun K hK => ?_
  rw [if_pos hw]
  unfold Oper.wp execOp
  simp only [ho, resolve, invoke, builtin, Sem.run_bind, Sem.run_pure, Result.andThen_ok, List.map_toArray, List.map_cons, List.map_nil, hs, hx, hrun]
  exact hK _ _ (h A' c' w' h2 h3)
end Go.Proofs.Ytgjopffdgdimlaa

/- The document's Take of a column. -/
namespace Go.Proofs.Ytgjopffdgdimlaa
open Go.RowKit
set_option maxRecDepth 100000

theorem Ict.cnt_take_le (M : List UInt64) (k : Nat) : Ict.cnt (M.take k) ≤ Ict.cnt M := by
  unfold Ict.cnt
  exact (List.Sublist.filter _ (List.take_sublist _ _)).length_le
theorem Ict.join_take_succ (M : List UInt64) (L : List Int) {k : Nat} (hk : k < M.length) : (Ict.join M L).take (k + 1) = (Ict.join M L).take k ++ [if M[k] == 1 then (true, (L.drop (Ict.cnt (M.take k))).headD 0) else (false, 0)] := by
  rw [List.take_succ_eq_append_getElem (by rw [Ict.join_length]; exact hk), Ict.join_get M L k hk]

set_option maxHeartbeats 8000000 in
theorem refTakeC_any (A : Option Addr) (m cap B : Nat) (b : List UInt8) (w : World) (hl : b.length = m) (hcap : m ≤ cap) (hm : m ≤ 5000) (hb : Bytes w B A b) (hB : B ≤ w.heap.size) :
    Calls Try.prog 19 #[.slice A m cap] w (TakeCPost w (Ict.take b)) := by
  have H0 := refTake_any A m cap B b w hl (by omega) hb
  unfold RefTakePost at H0
  have hb := hb.wide hB
  have hsz := Num.take_size_le b
  have hbits := fun M s (h : Ict.marksOf b = some (M, s)) => Ict.marksOf_bits h
  generalize hR : Ict.take b = R
  unfold Ict.take at hR
  generalize hMO : Ict.marksOf b = MO at *
  unfold Ict.marksOf at hMO
  generalize hT : Num.take b = T at *
  obtain ⟨v, at_, e0⟩ := T
  simp only at H0 hMO hsz
  replace H0 := Lib.hid H0
  by_cases he : e0 ≠ 0
  · rw [if_pos (.inl he)] at hMO
    subst hMO
    simp only at hR
    subst hR
    have hne : ((e0 : Int) != 0) = true := by simp [he]
    have hne' : ¬ (e0 : Int) = 0 := by omega
    clear hb hl he hT hbits
    go_enter Try.func19, Try.ntmps19
    go_wp2_with fail
    refine H0.out.mono ?_
    rintro e w1 ⟨rfl, hb1⟩
    clear H0
    go_wp2
    go_ret3
    exact TakeCPost.no hb1
  obtain rfl : e0 = 0 := by omega
  by_cases hv : 4096 < v
  · rw [if_pos (.inr hv)] at hMO
    subst hMO
    simp only at hR
    subst hR
    have hv' : (4096 : Int) < (v : Int) := by omega
    clear hb hl he hT hbits
    go_enter Try.func19, Try.ntmps19
    go_wp2_with fail
    refine H0.out.mono ?_
    rintro e w1 ⟨rfl, hb1⟩
    clear H0
    go_wp2
    go_ret3
    exact TakeCPost.no hb1
  rw [if_neg (by omega)] at hMO
  have hv' : ¬ (4096 : Int) < (v : Int) := by omega
  have H1 := Lib.hid (fun W => refSize_any v 1 W (by omega))
  obtain ⟨q, hq⟩ : ∃ q, q = (v + 7) / 8 := ⟨_, rfl⟩
  have hsz1 : Bits.size v 1 = q := by unfold Bits.size; omega
  rw [hsz1, show ((1 : Nat) : Int) = 1 from rfl] at H1
  rw [← hq] at hMO
  have hqb : q ≤ 600 := by omega
  have hat : at_ ≤ 5000 := by omega
  by_cases hs : b.length < at_ + q
  · rw [if_pos hs] at hMO
    subst hMO
    simp only at hR
    subst hR
    have hs' : (m : Int) - (at_ : Int) < (q : Int) := by omega
    clear hb hl he hT hq hs hbits
    go_enter Try.func19, Try.ntmps19
    go_wp2_with fail
    refine H0.out.mono ?_
    rintro e w1 ⟨rfl, hb1⟩
    clear H0
    go_wp2_with fail
    refine (H1.out w1).mono ?_
    rintro e w1' ⟨rfl, rfl⟩
    clear H1
    go_wp2
    go_ret3
    exact TakeCPost.no hb1
  rw [if_neg hs] at hMO
  have hs' : ¬ (m : Int) - (at_ : Int) < (q : Int) := by omega
  have hcut := run_cut_lh A m cap at_ (at_ + q) (by omega) (by omega)
  have hcl : ((b.take (at_ + q)).drop at_).length = at_ + q - at_ := by rw [List.length_drop, List.length_take]; omega
  have HU := Lib.hid (fun W (h : Bytes W w.heap.size A b) (hBW : w.heap.size ≤ W.heap.size) => refUnpack_any (cutAt A cap at_) (at_ + q - at_) (cap - at_) w.heap.size (v : Int) 1 ((b.take (at_ + q)).drop at_) W hcl (by
    rw [List.drop_take]
    exact (h.cut (by omega) (by omega)).take _) hBW (by omega))
  have hcut' : ∀ W, (Instr.slice 22 (.slice A m cap) (some (.int .i64 (at_ : Int))) (some (.int .i64 ((at_ : Int) + (q : Int)))) none).run Try.prog W = .ok (.slice (cutAt A cap at_) (at_ + q - at_) (cap - at_)) W := fun W => by
    have := hcut W
    rw [show ((at_ + q : Nat) : Int) = (at_ : Int) + (q : Int) from by omega] at this
    exact this
  have hcutL := run_cut_l A m cap (at_ + q) (by omega)
  have hcutL' : ∀ W, (Instr.slice 22 (.slice A m cap) (some (.int .i64 ((at_ : Int) + (q : Int)))) none none).run Try.prog W = .ok (.slice (cutAt A cap (at_ + q)) (m - (at_ + q)) (cap - (at_ + q))) W := fun W => by
    have := hcutL W
    rw [show ((at_ + q : Nat) : Int) = (at_ : Int) + (q : Int) from by omega] at this
    exact this
  have hbL : ∀ W, Bytes W w.heap.size A b → Bytes W w.heap.size (cutAt A cap (at_ + q)) (b.drop (at_ + q)) := fun W h => h.cut (by omega) (by omega)
  have hdl : (b.drop (at_ + q)).length = m - (at_ + q) := by rw [List.length_drop, hl]
  have hti := takeList_len (b.drop (at_ + q)) 4096
  rw [hdl] at hti
  have HI := Lib.hid (fun W (h : Bytes W w.heap.size (cutAt A cap (at_ + q)) (b.drop (at_ + q))) (hBW : w.heap.size ≤ W.heap.size) => refTakeInts_any (cutAt A cap (at_ + q)) (m - (at_ + q)) (cap - (at_ + q)) w.heap.size (b.drop (at_ + q)) 4096 W hdl (by omega) (by omega) h hBW (by omega) (by omega))
  have hus := Pfor.takeInts_used (b.drop (at_ + q)) 4096
  rw [hdl] at hus
  generalize cutAt A cap at_ = A9 at *
  generalize cutAt A cap (at_ + q) = A8 at *
  generalize hu : Bits.unpack ((b.take (at_ + q)).drop at_) (v : Int) 1 = U at *
  obtain ⟨M, e2⟩ := U
  unfold UnpackPost at HU
  unfold TakesIPost at HI
  simp only at HU hMO
  generalize at_ + q - at_ = q9 at *
  generalize cap - at_ = c9 at *
  have HBL := Lib.hid hbL
  by_cases h2 : e2 ≠ 0
  · rw [if_pos h2] at hMO
    subst hMO
    simp only at hR
    subst hR
    have h2' : ((e2 : Int) != 0) = true := by simp [h2]
    have h2'' : ¬ (e2 : Int) = 0 := by omega
    clear hl he hT hq hs hu hcl hcut h2 hbits HI hbL hcutL hti hus
    go_enter Try.func19, Try.ntmps19
    go_wp2_with fail
    refine H0.out.mono ?_
    rintro e w1 ⟨rfl, hb1⟩
    clear H0
    go_wp2_with fail
    refine (H1.out w1).mono ?_
    rintro e w1' ⟨rfl, rfl⟩
    clear H1
    have HU' := Lib.hid (HU.out w1 (hb.below hb1) hb1.size)
    go_wp2_with fail
    refine HU'.out.mono ?_
    rintro e w2 ⟨A2, c2, rfl, ho2, hb2⟩
    clear HU HU'
    have hb12 := hb1.trans (hb2.mono hb1.size)
    go_wp2
    go_ret3
    exact TakeCPost.no hb12
  obtain rfl : e2 = 0 := by omega
  rw [if_neg h2] at hMO
  subst hMO
  obtain ⟨h01, hM4, _⟩ := hbits _ _ rfl
  simp only at hR
  generalize hTI : Pfor.takeInts (b.drop (at_ + q)) 4096 = TI at *
  obtain ⟨L, u, e3⟩ := TI
  simp only at HI hR hus
  by_cases h3 : e3 ≠ 0
  · rw [if_neg (fun h => h3 h.1)] at hR
    subst hR
    have h3' : ((e3 : Int) != 0) = true := by simp [h3]
    have h3'' : ¬ (e3 : Int) = 0 := by omega
    clear hl he hT hq hs hu hcl hcut h2 hbits hbL hcutL hti hus h3 hTI
    go_enter Try.func19, Try.ntmps19
    go_wp2_with fail
    refine H0.out.mono ?_
    rintro e w1 ⟨rfl, hb1⟩
    clear H0
    go_wp2_with fail
    refine (H1.out w1).mono ?_
    rintro e w1' ⟨rfl, rfl⟩
    clear H1
    have HU' := Lib.hid (HU.out w1 (hb.below hb1) hb1.size)
    go_wp2_with fail
    refine HU'.out.mono ?_
    rintro e w2 ⟨A2, c2, rfl, ho2, hb2⟩
    clear HU HU'
    have hb12 := hb1.trans (hb2.mono hb1.size)
    have HI' := Lib.hid (HI.out w2 (HBL.out w2 (hb.below hb12)) hb12.size)
    go_wp2_with fail
    refine HI'.out.mono ?_
    rintro e w3 ⟨A3, c3, rfl, ho3, hb3⟩
    clear HI HI'
    have hb13 := hb12.trans (hb3.mono hb12.size)
    go_wp2
    go_ret3
    exact TakeCPost.no hb13
  obtain rfl : e3 = 0 := by omega
  have hLl : L.length ≤ 4096 := by
    have h := Pfor.takeList_short (b.drop (at_ + q)) 4096 (by omega)
    have e : L = unfoldL (Pfor.takeList (b.drop (at_ + q)) 4096).1 := by
      have := congrArg (fun x => x.1) hTI
      exact this.symm
    rw [e, unfoldL_length]
    omega
  have HR0 := Lib.hid (show L.length ≠ Ict.cnt M → R = ([], 0, 2) from fun h => by rw [← hR, if_neg (fun hh => h hh.2)])
  have HR1 := Lib.hid (show L.length = Ict.cnt M → R = (Ict.join M L, at_ + q + u, 0) from fun h => by rw [← hR, if_pos ⟨rfl, h⟩])
  have Hsu := Lib.hid (show ((at_ : Int) + (q : Int) + (u : Int)) = ((at_ + q + u : Nat) : Int) by omega)
  have hub : u ≤ 5000 := by omega
  clear hl he hT hq hs hu hcl hcut h2 hbits hbL hcutL hti hus h3 hTI hR hdl
  go_enter Try.func19, Try.ntmps19
  go_wp2_with fail
  refine H0.out.mono ?_
  rintro e w1 ⟨rfl, hb1⟩
  clear H0
  go_wp2_with fail
  refine (H1.out w1).mono ?_
  rintro e w1' ⟨rfl, rfl⟩
  clear H1
  have HU' := Lib.hid (HU.out w1 (hb.below hb1) hb1.size)
  go_wp2_with fail
  refine HU'.out.mono ?_
  rintro e w2 ⟨A2, c2, rfl, ho2, hb2⟩
  clear HU HU'
  have hb12 := hb1.trans (hb2.mono hb1.size)
  have HI' := Lib.hid (HI.out w2 (HBL.out w2 (hb.below hb12)) hb12.size)
  go_wp2_with fail
  refine HI'.out.mono ?_
  rintro e w3 ⟨A3, c3, rfl, ho3, hb3⟩
  clear HI HI'
  have hb13 := hb12.trans (hb3.mono hb12.size)
  have hbM : Nums w3 w3.heap.size A2 M := (ho2.below hb3).row
  have hbI : Ints w3 w3.heap.size A3 L := ho3.row
  have hc3 : L.length ≤ c3 := ho3.cap
  have hsw3 := hb13.size
  clear ho2 ho3 hb3 hb hb12 hb1
  go_wp2
  go_loopw [10, 12, 13] (fun lv ov i wr => ∃ (k r c c5 : Nat) (A4 A5 : Option Addr), k ≤ M.length ∧ i = .int .i64 k ∧ lv = .slice A4 r c ∧ ov = .slice A5 k c5 ∧ r ≤ c ∧ r + Ict.cnt (M.take k) = L.length ∧ Ints wr w3.heap.size A4 (L.drop (Ict.cnt (M.take k))) ∧ COwn wr w3.heap.size A5 k c5 ((Ict.join M L).take k) ∧ Below w3.heap.size w3 wr) (fun _ _ i _ => M.length - (intOf i).toNat)
  case atStart => exact ⟨0, L.length, c3, 0, A3, none, by omega, rfl, rfl, rfl, hc3, by rw [List.take_zero, Ict.cnt_nil]; rfl, by rw [List.take_zero, Ict.cnt_nil, List.drop_zero]; exact hbI, MOwn.nil _ _ _ _ _, Below.refl _ _⟩
  case round =>
    obtain ⟨k, r, c, c5, A4, A5, hk, rfl, rfl, rfl, hrc, hrm, hi, ho, hbel⟩ := hrel
    have hbr := hbM.below hbel
    have hgs := hbel.size
    by_cases hlt : k < M.length
    · obtain ⟨ad, rfl, hlt', hcell⟩ := hbr.get hlt
      simp only [uval] at hcell
      have i1 : (k : Int) < (M.length : Int) := by omega
      have i0 : (0 : Int) ≤ (k : Int) := by omega
      have hct : Ict.cnt (M.take (k + 1)) = Ict.cnt (M.take k) + (if M[k] == 1 then 1 else 0) := by rw [List.take_succ_eq_append_getElem hlt, Ict.cnt_snoc]
      have hcm := Ict.cnt_take_le M (k + 1)
      have hjt := Ict.join_take_succ M L hlt
      have hk4 : k ≤ 4096 := by omega
      rcases h01 M[k] (List.getElem_mem hlt) with hx | hx
      · rw [hx] at hct hjt hcell
        rw [show ((0 : UInt64) == 1) = false from rfl] at hct hjt
        simp only [Bool.false_eq_true, if_false, Nat.add_zero] at hct hjt
        rw [show ((0 : UInt64).toNat : Int) = 0 from rfl] at hcell
        rw [← hct] at hrm hi
        have hone := (MOwn.lit (f := cellV) (m := 2) (e := 46) (fun _ => rfl) (wr.alloc (.cells #[.bool false, .int .i64 0] 46)) _ [(false, 0)] (Nat.le_refl _) (by simp [maxLen])).row (fun _ => rfl)
        rw [mcat_one, show (wr.alloc (.cells #[.bool false, .int .i64 0] 46)).heap.size = wr.heap.size + 1 from by simp] at hone
        have hoA := (ho.alloc (.cells #[.bool false, .int .i64 0] 46)).alloc (.cells (cellV (false, 0)).toArray 46)
        have hbA := (hbel.alloc hgs (.cells #[.bool false, .int .i64 0] 46)).alloc (by simp; omega) (.cells (cellV (false, 0)).toArray 46)
        unfold cellV at hone hoA hbA
        simp only at hone hoA hbA
        have Hj := Lib.hid hjt
        have hrm' := hrm
        clear ho hjt hct
        go_wp2_with (at_builtin; refine wpList_append_mrow elemC rfl (.tmp 86) (.tmp 88) rfl w3.heap.size A5 k c5 _ rfl hoA _ _ 1 1 [(false, 0)] rfl rfl hone (by omega) (by simp only [maxLen]; omega) (by simp; omega) ?_; intro A6 c6 w6 ho6 hg6 hat6)
        have hb6 := hbA.grown hg6 (by simp; omega) (fun k hk => (hoA.lt hk).1)
        have hi6 := hi.below ((Below.refl w3.heap.size wr).trans ((((Below.refl w3.heap.size wr).alloc hgs (.cells #[.bool false, .int .i64 0] 46)).alloc (by simp; omega) (.cells #[.bool false, .int .i64 0] 46)).grown hg6 (by simp; omega) (fun k hk => (hoA.lt hk).1)))
        go_roundw
        case rel => exact ⟨k + 1, r, c, c6, A4, A6, by omega, by go_num, rfl, rfl, hrc, hrm', hi6, by rw [Hj.out]; exact ho6, hb6⟩
        case measure => simp [intOf]; omega
      · rw [hx] at hct hjt hcell
        rw [show ((1 : UInt64) == 1) = true from rfl] at hct hjt
        simp only [if_true] at hct hjt
        rw [show ((1 : UInt64).toNat : Int) = 1 from rfl] at hcell
        by_cases hr0 : r = 0
        · subst hr0
          have HRR := Lib.hid (HR0.out (by omega))
          clear ho hi hjt hct
          go_wp2
          go_ret3
          rw [HRR.out]
          exact TakeCPost.no (hb13.trans ((hbel.alloc hgs _).mono hsw3))
        · have hdl : (L.drop (Ict.cnt (M.take k))).length = r := by rw [List.length_drop]; omega
          obtain ⟨ad2, rfl, hlt2, hc2'⟩ := hi.get (k := 0) (by omega)
          have hz : (L.drop (Ict.cnt (M.take k))).headD 0 = (L.drop (Ict.cnt (M.take k)))[0]'(by omega) := headD_get _ (by omega)
          simp only [ival] at hc2'
          rw [← hz] at hc2'
          have ha0 : ad2.add 0 = ad2 := by simp [Addr.add]
          rw [ha0] at hc2'
          have hdr := hi.drop (k := 1) (cap := c) (by omega) (by omega)
          rw [List.drop_drop, ← hct] at hdr
          have hcut := run_cutI_l (some ad2) r c 1 (by omega)
          rw [show ((1 : Nat) : Int) = 1 from rfl] at hcut
          unfold cutAt at hcut
          generalize (if c = 1 then some ad2 else (some ad2).map (·.add 1)) = A7 at *
          generalize (L.drop (Ict.cnt (M.take k))).headD 0 = z at *
          have hrz : ((r : Int) == 0) = false := by simp; omega
          have hrz' : ¬ (r : Int) = 0 := by omega
          have hadl : ad2.block < wr.heap.size := by omega
          have hone := (MOwn.lit (f := cellV) (m := 2) (e := 46) (fun _ => rfl) (wr.alloc (.cells #[.bool true, .int .i64 z] 46)) _ [(true, z)] (Nat.le_refl _) (by simp [maxLen])).row (fun _ => rfl)
          rw [mcat_one, show (wr.alloc (.cells #[.bool true, .int .i64 z] 46)).heap.size = wr.heap.size + 1 from by simp] at hone
          have hoA := (ho.alloc (.cells #[.bool true, .int .i64 z] 46)).alloc (.cells (cellV (true, z)).toArray 46)
          have hbA := (hbel.alloc hgs (.cells #[.bool true, .int .i64 z] 46)).alloc (by simp; omega) (.cells (cellV (true, z)).toArray 46)
          unfold cellV at hone hoA hbA
          simp only at hone hoA hbA
          have Hj := Lib.hid hjt
          have hrm' : (r - 1) + Ict.cnt (M.take (k + 1)) = L.length := by omega
          clear ho hjt hct hdl hz ha0
          go_wp2_with (at_builtin; refine wpList_append_mrow elemC rfl (.tmp 86) (.tmp 88) rfl w3.heap.size A5 k c5 _ rfl hoA _ _ 1 1 [(true, z)] rfl rfl hone (by omega) (by simp only [maxLen]; omega) (by simp; omega) ?_; intro A6 c6 w6 ho6 hg6 hat6)
          have hb6 := hbA.grown hg6 (by simp; omega) (fun k hk => (hoA.lt hk).1)
          have hi6 := hdr.below ((((Below.refl w3.heap.size wr).alloc hgs (.cells #[.bool true, .int .i64 z] 46)).alloc (by simp; omega) (.cells #[.bool true, .int .i64 z] 46)).grown hg6 (by simp; omega) (fun k hk => (hoA.lt hk).1))
          go_roundw
          case rel => exact ⟨k + 1, r - 1, c - 1, c6, A7, A6, by omega, by go_num, rfl, rfl, by omega, hrm', hi6, by rw [Hj.out]; exact ho6, hb6⟩
          case measure => simp [intOf]; omega
    · obtain rfl : k = M.length := by omega
      rw [List.take_length] at hrm
      by_cases hr0 : r = 0
      · subst hr0
        have HRR := Lib.hid (HR1.out (by omega))
        rw [List.take_of_length_le (by rw [Ict.join_length]; exact Nat.le_refl _)] at ho
        have Hjl := Lib.hid (Ict.join_length M L)
        clear hi hrm
        go_wp2
        go_ret3
        rw [HRR.out]
        exact ⟨A5, c5, by simp only [Hjl.out]; rw [← Hsu.out]; rfl, by simp only [Hjl.out]; exact ho.low hsw3, hb13.trans (hbel.mono hsw3)⟩
      · have HRR := Lib.hid (HR0.out (by omega))
        have hrz : (0 : Int) < (r : Int) := by omega
        clear ho hi hrm
        go_wp2
        go_ret3
        rw [HRR.out]
        exact TakeCPost.no (hb13.trans (hbel.mono hsw3))
end Go.Proofs.Ytgjopffdgdimlaa
