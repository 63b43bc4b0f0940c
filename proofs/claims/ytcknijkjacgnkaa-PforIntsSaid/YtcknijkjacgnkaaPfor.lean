/- Blocks of numbers near one another, on lists: plain arithmetic, no program. -/
import Derived.Test.YtcknijkjacgnkaaBitsMore
namespace Go.Proofs.Ytcknijkjacgnkaa.Pfor

/-- the least of a and the numbers of l -/
def leastOf (a : Nat) (l : List UInt64) : Nat := l.foldl (fun m x => min m x.toNat) a
/-- the least number of a list -/
def base : List UInt64 → Nat
  | [] => 0
  | x :: r => leastOf x.toNat r
/-- the differences from it -/
def diffs (l : List UInt64) : List UInt64 := l.map fun x => UInt64.ofNat (x.toNat - base l)
/-- the lowest w bits -/
def lows (w : Nat) (ds : List UInt64) : List UInt64 := ds.map fun d => UInt64.ofNat (d.toNat % 2 ^ w)
/-- a difference's exception, if it is one -/
def exc (w i : Nat) (d : UInt64) : List UInt8 := if d.toNat / 2 ^ w = 0 then [] else UInt8.ofNat i :: Num.num (d.toNat / 2 ^ w)
/-- all exceptions, the first index being i -/
def excs (w : Nat) : Nat → List UInt64 → List UInt8
  | _, [] => []
  | i, d :: r => exc w i d ++ excs w (i + 1) r
/-- how many exceptions -/
def cnt (w : Nat) : List UInt64 → Nat
  | [] => 0
  | d :: r => (if d.toNat / 2 ^ w = 0 then 0 else 1) + cnt w r
/-- low bits and exceptions -/
def body (w : Nat) (ds : List UInt64) : List UInt8 := Bits.packed w (lows w ds) ++ excs w 0 ds
def bodySize (w : Nat) (ds : List UInt64) : Nat := Bits.size ds.length w + (excs w 0 ds).length
/-- a block by a width -/
def byW (w : Nat) (l : List UInt64) : List UInt8 := UInt8.ofNat l.length :: (Num.num (base l) ++ (UInt8.ofNat w :: UInt8.ofNat (cnt w (diffs l)) :: body w (diffs l)))
/-- where f is least, the first such place up to n -/
def best (f : Nat → Nat) : Nat → Nat
  | 0 => 0
  | k + 1 => if f (k + 1) < f (best f k) then k + 1 else best f k
/-- a block's width -/
def width (l : List UInt64) : Nat := best (fun w => bodySize w (diffs l)) 64
/-- a block's bytes -/
def block (l : List UInt64) : List UInt8 := byW (width l) l
/-- can it be a block? -/
def Good (l : List UInt64) : Prop := 1 ≤ l.length ∧ l.length ≤ 32

theorem leastOf_le (a : Nat) (l : List UInt64) : leastOf a l ≤ a ∧ ∀ x ∈ l, leastOf a l ≤ x.toNat := by
  induction l generalizing a with
  | nil => exact ⟨Nat.le_refl _, fun _ h => by cases h⟩
  | cons y r ih =>
    have h := ih (min a y.toNat)
    have e : leastOf a (y :: r) = leastOf (min a y.toNat) r := rfl
    rw [e]
    refine ⟨by omega, fun x hx => ?_⟩
    rcases List.mem_cons.1 hx with rfl | hx
    · omega
    · exact h.2 x hx
theorem leastOf_snoc (a : Nat) (l : List UInt64) (x : UInt64) : leastOf a (l ++ [x]) = min (leastOf a l) x.toNat := by simp [leastOf]
theorem leastOf_take_succ (a : Nat) {l : List UInt64} {k : Nat} (hk : k < l.length) : leastOf a (l.take (k + 1)) = min (leastOf a (l.take k)) l[k].toNat := by
  rw [List.take_succ_eq_append_getElem hk, leastOf_snoc]
theorem leastOf_self (x : UInt64) (r : List UInt64) : leastOf x.toNat (x :: r) = base (x :: r) := by
  show leastOf (min x.toNat x.toNat) r = leastOf x.toNat r
  rw [Nat.min_self]
theorem base_le {l : List UInt64} {x : UInt64} (hx : x ∈ l) : base l ≤ x.toNat := by
  cases l with
  | nil => cases hx
  | cons y r =>
    have h := leastOf_le y.toNat r
    rcases List.mem_cons.1 hx with rfl | hx
    · exact h.1
    · exact h.2 x hx
theorem base_lt (l : List UInt64) : base l < 18446744073709551616 := by
  cases l with
  | nil => decide
  | cons y r => exact Nat.lt_of_le_of_lt (base_le (List.mem_cons_self ..)) y.toNat_lt

theorem diffs_length (l : List UInt64) : (diffs l).length = l.length := by simp [diffs]
theorem lows_length (w : Nat) (l : List UInt64) : (lows w l).length = l.length := by simp [lows]
theorem diffs_get {l : List UInt64} {k : Nat} (hk : k < l.length) : (diffs l)[k]'(by rw [diffs_length]; exact hk) = UInt64.ofNat (l[k].toNat - base l) := by simp [diffs]
theorem lows_get {w : Nat} {l : List UInt64} {k : Nat} (hk : k < l.length) : (lows w l)[k]'(by rw [lows_length]; exact hk) = UInt64.ofNat (l[k].toNat % 2 ^ w) := by simp [lows]
theorem lows_fit {w : Nat} (ds : List UInt64) : Bits.Fit w (lows w ds) := fun x hx => by
  obtain ⟨d, _, rfl⟩ := List.mem_map.1 hx
  have h1 : d.toNat % 2 ^ w < 2 ^ w := Nat.mod_lt _ (Bits.pow_pos w)
  have h2 : d.toNat % 2 ^ w ≤ d.toNat := Nat.mod_le _ _
  rw [Bits.toNat_ofNat (Nat.lt_of_le_of_lt h2 d.toNat_lt)]
  exact h1
theorem excs_snoc (w i : Nat) (l : List UInt64) (d : UInt64) : excs w i (l ++ [d]) = excs w i l ++ exc w (i + l.length) d := by
  induction l generalizing i with
  | nil => simp [excs]
  | cons x r ih => simp only [List.cons_append, excs, ih, List.length_cons, List.append_assoc]; rw [show i + 1 + r.length = i + (r.length + 1) from by omega]
theorem excs_take_succ (w : Nat) {l : List UInt64} {k : Nat} (hk : k < l.length) : excs w 0 (l.take (k + 1)) = excs w 0 (l.take k) ++ exc w k l[k] := by
  rw [List.take_succ_eq_append_getElem hk, excs_snoc, List.length_take, Nat.min_eq_left (by omega), Nat.zero_add]
theorem cnt_snoc (w : Nat) (l : List UInt64) (d : UInt64) : cnt w (l ++ [d]) = cnt w l + if d.toNat / 2 ^ w = 0 then 0 else 1 := by
  induction l with
  | nil => simp [cnt]
  | cons x r ih => rw [List.cons_append, cnt, ih, cnt]; omega
theorem cnt_take_succ (w : Nat) {l : List UInt64} {k : Nat} (hk : k < l.length) : cnt w (l.take (k + 1)) = cnt w (l.take k) + if l[k].toNat / 2 ^ w = 0 then 0 else 1 := by
  rw [List.take_succ_eq_append_getElem hk, cnt_snoc]
theorem cnt_le (w : Nat) (l : List UInt64) : cnt w l ≤ l.length := by
  induction l with
  | nil => exact Nat.le_refl _
  | cons x r ih => rw [cnt, List.length_cons]; split <;> omega
theorem exc_length (w i : Nat) (d : UInt64) : (exc w i d).length = if d.toNat / 2 ^ w = 0 then 0 else 1 + Num.size (d.toNat / 2 ^ w) := by
  unfold exc
  split
  · rfl
  · rw [List.length_cons, Num.num_length]; omega
theorem div_lt (d : UInt64) (w : Nat) : d.toNat / 2 ^ w < 18446744073709551616 := Nat.lt_of_le_of_lt (Nat.div_le_self _ _) d.toNat_lt
theorem exc_length_le (w i : Nat) (d : UInt64) : (exc w i d).length ≤ 10 := by
  rw [exc_length]
  have := Num.size_le9 (div_lt d w)
  split <;> omega
theorem excs_length_le (w i : Nat) (l : List UInt64) : (excs w i l).length ≤ 10 * l.length := by
  induction l generalizing i with
  | nil => simp [excs]
  | cons x r ih =>
    have h1 := exc_length_le w i x
    have h2 := ih (i + 1)
    rw [excs, List.length_append, List.length_cons]
    omega
theorem body_length (w : Nat) (ds : List UInt64) : (body w ds).length = bodySize w ds := by
  rw [body, List.length_append, Bits.packed_length, lows_length, bodySize]
theorem byW_length (w : Nat) (l : List UInt64) : (byW w l).length = 3 + Num.size (base l) + bodySize w (diffs l) := by
  rw [byW, List.length_cons, List.length_append, List.length_cons, List.length_cons, body_length, Num.num_length]
  omega
theorem bodySize_le {w : Nat} {l : List UInt64} (hw : w ≤ 64) (hl : l.length ≤ 32) : bodySize w l ≤ 576 := by
  have h1 := excs_length_le w 0 l
  have h2 : l.length * w ≤ 32 * 64 := Nat.mul_le_mul hl hw
  unfold bodySize Bits.size
  omega
theorem byW_length_le {w : Nat} {l : List UInt64} (hw : w ≤ 64) (hl : l.length ≤ 32) : (byW w l).length ≤ 600 := by
  have h1 := bodySize_le hw (show (diffs l).length ≤ 32 by rw [diffs_length]; exact hl)
  have h2 := Num.size_le9 (base_lt l)
  rw [byW_length]
  omega

theorem best_le_n (f : Nat → Nat) (n : Nat) : best f n ≤ n := by
  induction n with
  | zero => exact Nat.le_refl _
  | succ n ih => rw [best]; split <;> omega
theorem best_min (f : Nat → Nat) (n : Nat) : ∀ k, k ≤ n → f (best f n) ≤ f k := by
  induction n with
  | zero =>
    intro k hk
    obtain rfl : k = 0 := by omega
    exact Nat.le_refl _
  | succ n ih =>
    intro k hk
    rw [best]
    split
    · rcases Nat.lt_or_ge k (n + 1) with h | h
      · have := ih k (by omega); omega
      · obtain rfl : k = n + 1 := by omega
        exact Nat.le_refl _
    · rcases Nat.lt_or_ge k (n + 1) with h | h
      · exact ih k (by omega)
      · obtain rfl : k = n + 1 := by omega
        omega
theorem best_stop (f : Nat → Nat) (W : Nat) (n : Nat) (hn : W ≤ n) (h : ∀ k, W < k → k ≤ n → f W ≤ f k) : best f n = best f W := by
  induction n with
  | zero =>
    obtain rfl : W = 0 := by omega
    rfl
  | succ n ih =>
    rcases Nat.lt_or_ge n W with hlt | hge
    · obtain rfl : W = n + 1 := by omega
      rfl
    · have e := ih hge (fun k h1 h2 => h k h1 (by omega))
      rw [best, e, if_neg]
      have h1 := best_min f W W (Nat.le_refl _)
      have h2 := h (n + 1) (by omega) (Nat.le_refl _)
      omega
theorem width_le (l : List UInt64) : width l ≤ 64 := best_le_n _ _
theorem excs_fit {w i : Nat} {l : List UInt64} (h : Bits.Fit w l) : excs w i l = [] := by
  induction l generalizing i with
  | nil => rfl
  | cons x r ih =>
    rw [excs, ih h.tail, exc, if_pos (Nat.div_eq_of_lt h.head)]
    rfl
theorem size_mono {n v w : Nat} (h : v ≤ w) : Bits.size n v ≤ Bits.size n w := by
  have := Nat.mul_le_mul_left n h
  unfold Bits.size
  omega
/-- beyond the widest difference nothing is saved -/
theorem width_stop (l : List UInt64) : best (fun w => bodySize w (diffs l)) (Bits.width (diffs l)) = width l := by
  unfold width
  rw [best_stop _ (Bits.width (diffs l)) 64 (Bits.width_le64 _)]
  intro k h1 h2
  have e1 := excs_fit (i := 0) (Bits.fit_width (diffs l))
  have e2 := excs_fit (i := 0) ((Bits.fit_width (diffs l)).mono (Nat.le_of_lt h1))
  have := size_mono (n := (diffs l).length) (Nat.le_of_lt h1)
  unfold bodySize
  rw [e1, e2]
  omega
theorem block_length (l : List UInt64) : (block l).length = 3 + Num.size (base l) + bodySize (width l) (diffs l) := byW_length _ _
theorem block_least (l : List UInt64) {w : Nat} (hw : w ≤ 64) : (block l).length ≤ (byW w l).length := by
  rw [block_length, byW_length]
  have h : bodySize (width l) (diffs l) ≤ bodySize w (diffs l) := best_min (fun w => bodySize w (diffs l)) 64 w hw
  omega
theorem block_length_le {l : List UInt64} (hl : l.length ≤ 32) : (block l).length ≤ 268 := by
  have h1 := block_least l (Nat.le_refl 64)
  rw [byW_length] at h1
  have h2 := Num.size_le9 (base_lt l)
  have e := excs_fit (i := 0) (Bits.fit64 (diffs l))
  unfold bodySize Bits.size at h1
  rw [e, diffs_length, List.length_nil] at h1
  omega
theorem block_pos (l : List UInt64) : 4 ≤ (block l).length := by
  rw [block_length]
  have := Num.size_pos (base l)
  omega

/-- numbers, each with b more -/
def plus (b : Nat) (ds : List UInt64) : List UInt64 := ds.map fun d => UInt64.ofNat (d.toNat + b)
theorem plus_length (b : Nat) (l : List UInt64) : (plus b l).length = l.length := by simp [plus]
theorem plus_diffs (l : List UInt64) : plus (base l) (diffs l) = l := by
  unfold plus diffs
  rw [List.map_map]
  conv => rhs; rw [← List.map_id l]
  apply List.map_congr_left
  intro x hx
  have h1 := base_le hx
  have h2 := x.toNat_lt
  simp only [Function.comp, id]
  rw [Bits.toNat_ofNat (by omega), Nat.sub_add_cancel h1, Bits.u64_ofNat]

/-- an old number with high bits laid over it -/
def over (w d v : Nat) : Nat := d ||| (v * 2 ^ w % 18446744073709551616)
/-- the landed reader's exceptions -/
def addHigh (w : Nat) : Nat → List UInt64 → List UInt8 → Option (List UInt64)
  | 0, ds, _ => some ds
  | _ + 1, _, [] => none
  | k + 1, ds, i :: r => if i.toNat < ds.length then
      (if (Num.take r).2.2 = 0 then addHigh w k (ds.set i.toNat (UInt64.ofNat (over w (ds.getD i.toNat 0).toNat (Num.take r).1))) (r.drop (Num.take r).2.1) else none)
    else none
/-- the landed reader -/
def read : List UInt8 → Option (List UInt64)
  | [] => none
  | c :: r => if 1 ≤ c.toNat ∧ c.toNat ≤ 32 then
      (if (Num.take r).2.2 = 0 then
        (match r.drop (Num.take r).2.1 with
          | v :: x :: t => if Bits.size c.toNat v.toNat ≤ t.length then
              (if (Bits.unpack (t.take (Bits.size c.toNat v.toNat)) c.toNat v.toNat).2 = 0 then
                (addHigh v.toNat x.toNat (Bits.unpack (t.take (Bits.size c.toNat v.toNat)) c.toNat v.toNat).1 (t.drop (Bits.size c.toNat v.toNat))).map (plus (Num.take r).1)
              else none)
            else none
          | _ => none)
      else none)
    else none

theorem low_over {w d : Nat} (hd : d < 18446744073709551616) : over w (d % 2 ^ w) (d / 2 ^ w) = d := by
  unfold over
  have h := Nat.div_add_mod d (2 ^ w)
  have hlt : d / 2 ^ w * 2 ^ w < 18446744073709551616 := Nat.lt_of_le_of_lt (Nat.div_mul_le_self _ _) hd
  rw [Nat.mod_eq_of_lt hlt, Nat.or_comm, Nat.mul_comm, ← Nat.two_pow_add_eq_or_of_lt (Nat.mod_lt _ (Bits.pow_pos w))]
  exact h
theorem set_mid {α : Type} (a : List α) (x y : α) (b : List α) : (a ++ x :: b).set a.length y = a ++ y :: b := by
  rw [List.set_append_right _ _ (Nat.le_refl _), Nat.sub_self, List.set_cons_zero]
theorem getD_mid {α : Type} (a : List α) (x z : α) (b : List α) : (a ++ x :: b).getD a.length z = x := by
  simp [List.getD_eq_getElem?_getD]
theorem low_toNat (w : Nat) (d : UInt64) : (UInt64.ofNat (d.toNat % 2 ^ w)).toNat = d.toNat % 2 ^ w :=
  Bits.toNat_ofNat (Nat.lt_of_le_of_lt (Nat.mod_le _ _) d.toNat_lt)
theorem addHigh_excs (w : Nat) (suf : List UInt64) : ∀ (pre : List UInt64) (t : List UInt8), pre.length + suf.length ≤ 32 →
    addHigh w (cnt w suf) (pre ++ lows w suf) (excs w pre.length suf ++ t) = some (pre ++ suf) := by
  induction suf with
  | nil => intro pre t _; simp [cnt, lows, excs, addHigh]
  | cons d r ih =>
    intro pre t hlen
    rw [List.length_cons] at hlen
    have e1 : lows w (d :: r) = UInt64.ofNat (d.toNat % 2 ^ w) :: lows w r := rfl
    have h2 := ih (pre ++ [d]) t (by simp; omega)
    rw [List.length_append, List.length_singleton, List.append_assoc, List.append_assoc] at h2
    simp only [List.singleton_append] at h2
    by_cases h0 : d.toNat / 2 ^ w = 0
    · have hlt : d.toNat < 2 ^ w := by
        rcases Nat.lt_or_ge d.toNat (2 ^ w) with h | h
        · exact h
        · have := Nat.div_pos h (Bits.pow_pos w); omega
      rw [cnt, if_pos h0, Nat.zero_add, e1, Nat.mod_eq_of_lt hlt, Bits.u64_ofNat, excs, exc, if_pos h0, List.nil_append]
      exact h2
    · have hi : (UInt8.ofNat pre.length).toNat = pre.length := by rw [Num.toNat_ofNat]; omega
      rw [cnt, if_neg h0, Nat.add_comm 1, e1, excs, exc, if_neg h0, List.cons_append, List.cons_append, addHigh, hi, if_pos (by simp), List.append_assoc, Num.take_num (div_lt d w)]
      simp only [if_true]
      rw [getD_mid, set_mid, low_toNat, low_over d.toNat_lt, Bits.u64_ofNat, List.drop_left' (Num.num_length _)]
      exact h2

/-- what is laid by any width is read, whatever stands behind -/
theorem read_byW {w : Nat} {l : List UInt64} (hw : w ≤ 64) (hl : Good l) (t : List UInt8) : read (byW w l ++ t) = some l := by
  obtain ⟨h1, h2⟩ := hl
  have hn : (UInt8.ofNat l.length).toNat = l.length := by rw [Num.toNat_ofNat]; omega
  have hwn : (UInt8.ofNat w).toNat = w := by rw [Num.toNat_ofNat]; omega
  have hc := cnt_le w (diffs l)
  rw [diffs_length] at hc
  have hcn : (UInt8.ofNat (cnt w (diffs l))).toNat = cnt w (diffs l) := by rw [Num.toNat_ofNat]; omega
  have hp : (Bits.packed w (lows w (diffs l))).length = Bits.size l.length w := by rw [Bits.packed_length, lows_length, diffs_length]
  have hu := Bits.unpack_pack hw (lows_fit (w := w) (diffs l)) (by rw [lows_length, diffs_length]; omega)
  rw [lows_length, diffs_length] at hu
  rw [byW, List.cons_append, read, hn, if_pos ⟨h1, h2⟩, List.append_assoc, Num.take_num (base_lt l)]
  simp only [if_true]
  rw [List.drop_left' (Num.num_length _)]
  simp only [List.cons_append, hwn, hcn]
  rw [body, List.append_assoc, List.take_left' hp, List.drop_left' hp, hu, if_pos (by rw [List.length_append, hp]; omega)]
  simp only [if_true]
  have ha := addHigh_excs w (diffs l) [] t (by rw [diffs_length]; simpa using h2)
  rw [List.nil_append, List.nil_append, List.length_nil] at ha
  rw [ha, Option.map_some, plus_diffs]
theorem read_block {l : List UInt64} (hl : Good l) (t : List UInt8) : read (block l ++ t) = some l := read_byW (width_le l) hl t

/-- The block that bytes begin with: its numbers, its size, its error. -/
noncomputable def takeBlock (b : List UInt8) : List UInt64 × Nat × Nat :=
  open Classical in if h : ∃ l, Good l ∧ block l <+: b then (h.choose, (block h.choose).length, 0) else ([], 0, 2)
theorem block_unique {l m : List UInt64} {b : List UInt8} (hl : Good l) (hm : Good m) (h1 : block l <+: b) (h2 : block m <+: b) : l = m := by
  obtain ⟨t, rfl⟩ := h1
  obtain ⟨u, hu⟩ := h2
  have e1 := read_block hl t
  have e2 := read_block hm u
  rw [hu, e1] at e2
  exact Option.some.inj e2
theorem takeBlock_of {l : List UInt64} {b : List UInt8} (hl : Good l) (h : block l <+: b) : takeBlock b = (l, (block l).length, 0) := by
  have hex : ∃ l, Good l ∧ block l <+: b := ⟨l, hl, h⟩
  have e : hex.choose = l := block_unique hex.choose_spec.1 hl hex.choose_spec.2 h
  unfold takeBlock
  rw [dif_pos hex, e]
theorem takeBlock_block {l : List UInt64} (hl : Good l) (t : List UInt8) : takeBlock (block l ++ t) = (l, (block l).length, 0) := takeBlock_of hl ⟨t, rfl⟩
theorem takeBlock_none {b : List UInt8} (h : ∀ l, Good l → ¬ block l <+: b) : takeBlock b = ([], 0, 2) := by
  unfold takeBlock
  rw [dif_neg]
  rintro ⟨l, hl, hb⟩
  exact h l hl hb
theorem takeBlock_cases (b : List UInt8) : (∃ l, Good l ∧ block l <+: b ∧ takeBlock b = (l, (block l).length, 0)) ∨ takeBlock b = ([], 0, 2) := by
  rcases Classical.em (∃ l, Good l ∧ block l <+: b) with ⟨l, hl, h⟩ | h
  · exact .inl ⟨l, hl, h, takeBlock_of hl h⟩
  · exact .inr (takeBlock_none fun l hl hb => h ⟨l, hl, hb⟩)
/-- What a reader that lays again and compares comes to: it read 'none', or what it read is what such a block is laid as, or not. -/
theorem takeBlock_read_none {b : List UInt8} (h : read b = none) : takeBlock b = ([], 0, 2) := takeBlock_none fun l hl hb => by
  obtain ⟨t, rfl⟩ := hb
  rw [read_block hl t] at h
  cases h
theorem takeBlock_read_not {b : List UInt8} {m : List UInt64} (h : read b = some m) (hp : ¬ block m <+: b) : takeBlock b = ([], 0, 2) := takeBlock_none fun l hl hb => by
  obtain ⟨t, rfl⟩ := hb
  rw [read_block hl t] at h
  cases h
  exact hp ⟨t, rfl⟩
end Go.Proofs.Ytcknijkjacgnkaa.Pfor
