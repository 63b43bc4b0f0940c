/- Tables of symbols, on lists of bytes: plain, no program. -/
import Derived.Test.YtmcioglidgbibaaNum
namespace Go.Proofs.Ytmcioglidgbibaa.Sym

/-- is it a table? -/
def Formed (t : List (List UInt8)) : Prop := t.length ≤ 32 ∧ (∀ s ∈ t, 2 ≤ s.length ∧ s.length ≤ 8) ∧ t.Nodup
instance (t : List (List UInt8)) : Decidable (Formed t) := inferInstanceAs (Decidable (_ ∧ _ ∧ _))
def formed (t : List (List UInt8)) : Bool := decide (Formed t)
theorem formed_iff {t : List (List UInt8)} : formed t = true ↔ Formed t := by unfold formed; exact decide_eq_true_iff
theorem formed_not {t : List (List UInt8)} : formed t = false ↔ ¬ Formed t := by unfold formed; exact decide_eq_false_iff_not

/-- symbol r is the longest that b begins with; none: it begins with none -/
def IsLongest (t : List (List UInt8)) (b : List UInt8) : Option Nat → Prop
  | none => ∀ s ∈ t, ¬ s <+: b
  | some k => ∃ h : k < t.length, t[k] <+: b ∧ ∀ s ∈ t, s <+: b → s.length ≤ t[k].length
theorem prefix_same {a c b : List UInt8} (h1 : a <+: b) (h2 : c <+: b) (h : a.length = c.length) : a = c := by
  rw [List.prefix_iff_eq_take] at h1 h2
  rw [h1, h2, h]
theorem nodup_at {t : List (List UInt8)} (h : t.Nodup) {k j : Nat} (hk : k < t.length) (hj : j < t.length) (e : t[k] = t[j]) : k = j := by
  exact (List.getElem_inj h).1 e
theorem IsLongest.unique {t : List (List UInt8)} {b : List UInt8} (ht : t.Nodup) : ∀ {r r' : Option Nat}, IsLongest t b r → IsLongest t b r' → r = r'
  | none, none, _, _ => rfl
  | none, some _, h, ⟨hk, hp, _⟩ => absurd hp (h _ (List.getElem_mem hk))
  | some _, none, ⟨hk, hp, _⟩, h => absurd hp (h _ (List.getElem_mem hk))
  | some k, some j, ⟨hk, hp, hm⟩, ⟨hj, hq, hn⟩ => by
    have e := prefix_same hp hq (Nat.le_antisymm (hn _ (List.getElem_mem hk) hp) (hm _ (List.getElem_mem hj) hq))
    rw [nodup_at ht hk hj e]

/-- the longest among the first i symbols: the document's way -/
def upto (t : List (List UInt8)) (b : List UInt8) : Nat → Option Nat
  | 0 => none
  | i + 1 => if t.getD i [] <+: b then
      match upto t b i with
      | none => some i
      | some k => if (t.getD k []).length < (t.getD i []).length then some i else some k
    else upto t b i
def longest (t : List (List UInt8)) (b : List UInt8) : Option Nat := upto t b t.length
theorem getD_eq {t : List (List UInt8)} {k : Nat} (h : k < t.length) : t.getD k [] = t[k] := by simp [h]
theorem upto_is (t : List (List UInt8)) (b : List UInt8) : ∀ i, i ≤ t.length → (upto t b i = none ∧ ∀ j, (h : j < i) → ¬ t.getD j [] <+: b) ∨
    ∃ k, upto t b i = some k ∧ k < i ∧ t.getD k [] <+: b ∧ ∀ j, j < i → t.getD j [] <+: b → (t.getD j []).length ≤ (t.getD k []).length := by
  intro i
  induction i with
  | zero => exact fun _ => .inl ⟨rfl, fun j h => absurd h (by omega)⟩
  | succ i ih =>
    intro hi
    unfold upto
    by_cases hp : t.getD i [] <+: b
    · rw [if_pos hp]
      rcases ih (by omega) with ⟨e, hn⟩ | ⟨k, e, hk, hkp, hm⟩
      · refine .inr ⟨i, by rw [e], by omega, hp, fun j hj hjp => ?_⟩
        rcases Nat.lt_or_ge j i with hlt | hge
        · exact absurd hjp (hn j hlt)
        · obtain rfl : j = i := by omega
          exact Nat.le_refl _
      · rw [e]
        simp only
        by_cases hlt : (t.getD k []).length < (t.getD i []).length
        · rw [if_pos hlt]
          refine .inr ⟨i, rfl, by omega, hp, fun j hj hjp => ?_⟩
          rcases Nat.lt_or_ge j i with h | h
          · exact Nat.le_trans (hm j h hjp) (Nat.le_of_lt hlt)
          · obtain rfl : j = i := by omega
            exact Nat.le_refl _
        · rw [if_neg hlt]
          refine .inr ⟨k, rfl, by omega, hkp, fun j hj hjp => ?_⟩
          rcases Nat.lt_or_ge j i with h | h
          · exact hm j h hjp
          · obtain rfl : j = i := by omega
            omega
    · rw [if_neg hp]
      rcases ih (by omega) with ⟨e, hn⟩ | ⟨k, e, hk, hkp, hm⟩
      · refine .inl ⟨e, fun j hj => ?_⟩
        rcases Nat.lt_or_ge j i with h | h
        · exact hn j h
        · obtain rfl : j = i := by omega
          exact hp
      · refine .inr ⟨k, e, by omega, hkp, fun j hj hjp => ?_⟩
        rcases Nat.lt_or_ge j i with h | h
        · exact hm j h hjp
        · obtain rfl : j = i := by omega
          exact absurd hjp hp
theorem longest_is (t : List (List UInt8)) (b : List UInt8) : IsLongest t b (longest t b) := by
  rcases upto_is t b t.length (Nat.le_refl _) with ⟨e, hn⟩ | ⟨k, e, hk, hp, hm⟩
  · unfold longest
    rw [e]
    intro s hs
    obtain ⟨j, hj, rfl⟩ := List.mem_iff_getElem.1 hs
    have := hn j hj
    rwa [getD_eq hj] at this
  · unfold longest
    rw [e]
    rw [getD_eq hk] at hp
    refine ⟨hk, hp, fun s hs hsp => ?_⟩
    obtain ⟨j, hj, rfl⟩ := List.mem_iff_getElem.1 hs
    have := hm j hj (by rw [getD_eq hj]; exact hsp)
    rwa [getD_eq hj, getD_eq hk] at this
theorem longest_eq {t : List (List UInt8)} {b : List UInt8} (ht : t.Nodup) {r : Option Nat} (h : IsLongest t b r) : longest t b = r := (longest_is t b).unique ht h

/-- bytes coded -/
def encode (t : List (List UInt8)) (b : List UInt8) : List UInt8 :=
  match b with
  | [] => []
  | c :: r => match longest t (c :: r) with
    | none => 255 :: c :: encode t r
    | some k => UInt8.ofNat k :: encode t (r.drop ((t.getD k []).length - 1))
termination_by b.length
decreasing_by all_goals (simp_wf; try omega)
theorem encode_nil (t : List (List UInt8)) : encode t [] = [] := by unfold encode; rfl
theorem encode_none {t : List (List UInt8)} {c : UInt8} {r : List UInt8} (h : longest t (c :: r) = none) : encode t (c :: r) = 255 :: c :: encode t r := by
  rw [encode]; simp only [h]
theorem encode_some {t : List (List UInt8)} {b : List UInt8} {k : Nat} (h : longest t b = some k) (hb : 1 ≤ (t.getD k []).length) : encode t b = UInt8.ofNat k :: encode t (b.drop (t.getD k []).length) := by
  cases b with
  | nil =>
    have := longest_is t []
    rw [h] at this
    obtain ⟨hk, hp, _⟩ := this
    rw [getD_eq hk] at hb
    have := hp.length_le
    simp at this
    rw [this] at hb
    simp at hb
  | cons c r =>
    rw [encode]
    simp only [h]
    obtain ⟨m, hm⟩ : ∃ m, (t.getD k []).length = m + 1 := ⟨(t.getD k []).length - 1, by omega⟩
    rw [hm, Nat.add_sub_cancel, List.drop_succ_cons]
theorem encode_long (t : List (List UInt8)) (ht : ∀ s ∈ t, 2 ≤ s.length) : ∀ (n : Nat) (b : List UInt8), b.length = n → (encode t b).length ≤ 2 * n := by
  intro n
  induction n using Nat.strongRecOn with
  | ind n ih =>
    intro b hb
    match b, hb with
    | [], hb => rw [encode_nil]; simp
    | c :: r, hb =>
      cases h : longest t (c :: r) with
      | none =>
        rw [encode_none h]
        have := ih r.length (by simp at hb; omega) r rfl
        simp at hb ⊢
        omega
      | some k =>
        have hl := longest_is t (c :: r)
        rw [h] at hl
        obtain ⟨hk, hp, _⟩ := hl
        have h2 := ht _ (List.getElem_mem hk)
        have hle := hp.length_le
        rw [encode_some h (by rw [getD_eq hk]; omega), getD_eq hk]
        have := ih ((c :: r).drop t[k].length).length (by rw [List.length_drop]; simp at hb ⊢; omega) _ rfl
        rw [List.length_drop] at this
        simp at this hb ⊢
        omega

/-- what the code stands for that bytes begin with, and its size -/
def code (t : List (List UInt8)) : List UInt8 → Option (List UInt8 × Nat)
  | [] => none
  | c :: r => if c.toNat < t.length then some (t.getD c.toNat [], 1) else if c = 255 then match r with
      | [] => none
      | d :: _ => some ([d], 2)
    else none
theorem code_sym {t : List (List UInt8)} {c : UInt8} (r : List UInt8) (h : c.toNat < t.length) : code t (c :: r) = some (t.getD c.toNat [], 1) := if_pos h
theorem code_esc {t : List (List UInt8)} (d : UInt8) (r : List UInt8) (h : t.length ≤ 32) : code t (255 :: d :: r) = some ([d], 2) := by
  have h1 : ¬ (255 : UInt8).toNat < t.length := by simp; omega
  show (if (255 : UInt8).toNat < t.length then _ else _) = _
  rw [if_neg h1]
  rfl
theorem code_size {t : List (List UInt8)} {b s : List UInt8} {k : Nat} (h : code t b = some (s, k)) : 1 ≤ k ∧ k ≤ b.length := by
  unfold code at h
  split at h
  · cases h
  · split at h
    · injection h with h; injection h with h1 h2; subst h2; simp
    · split at h
      · split at h
        · cases h
        · injection h with h; injection h with h1 h2; subst h2; simp
      · cases h
theorem code_long {t : List (List UInt8)} (ht : ∀ s ∈ t, s.length ≤ 8) {b s : List UInt8} {k : Nat} (h : code t b = some (s, k)) : s.length ≤ 8 := by
  unfold code at h
  split at h
  · cases h
  · split at h
    · rename_i hc
      injection h with h; injection h with h1 h2; subst h1
      rw [getD_eq hc]
      exact ht _ (List.getElem_mem hc)
    · split at h
      · split at h
        · cases h
        · injection h with h; injection h with h1 h2; subst h1; simp
      · cases h
/-- what coded bytes stand for, behind what stands there: the bytes, the error -/
def decode (t : List (List UInt8)) (most : Int) (out b : List UInt8) : List UInt8 × Nat :=
  match b with
  | [] => (out, 0)
  | c :: r => match code t (c :: r) with
    | none => ([], 2)
    | some (s, k) => if most - out.length < s.length then ([], 5) else decode t most (out ++ s) (r.drop (k - 1))
termination_by b.length
decreasing_by all_goals (simp_wf; try omega)
theorem decode_nil (t : List (List UInt8)) (most : Int) (out : List UInt8) : decode t most out [] = (out, 0) := by unfold decode; rfl
theorem decode_none {t : List (List UInt8)} {most : Int} {out b : List UInt8} (hb : b ≠ []) (h : code t b = none) : decode t most out b = ([], 2) := by
  cases b with
  | nil => exact absurd rfl hb
  | cons c r => rw [decode]; simp only [h]
theorem decode_some {t : List (List UInt8)} {most : Int} {out b s : List UInt8} {k : Nat} (h : code t b = some (s, k)) :
    decode t most out b = if most - out.length < s.length then ([], 5) else decode t most (out ++ s) (b.drop k) := by
  have hk := code_size h
  cases b with
  | nil => cases h
  | cons c r =>
    rw [decode]
    simp only [h]
    obtain ⟨m, rfl⟩ : ∃ m, k = m + 1 := ⟨k - 1, by omega⟩
    rw [Nat.add_sub_cancel, List.drop_succ_cons]
/-- decoded at once -/
def decoded (t : List (List UInt8)) (b : List UInt8) (most : Int) : List UInt8 × Nat := if Formed t ∧ 0 ≤ most then decode t most [] b else ([], 1)
/-- encoded at once -/
def encoded (t : List (List UInt8)) (b : List UInt8) : List UInt8 × Nat := if Formed t then (encode t b, 0) else ([], 1)

/-- what is coded stands for what it was -/
theorem decode_encode {t : List (List UInt8)} (ht : Formed t) (most : Int) : ∀ (n : Nat) (b out : List UInt8), b.length = n → (out.length + b.length : Int) ≤ most → decode t most out (encode t b) = (out ++ b, 0) := by
  obtain ⟨h32, hlen, hnd⟩ := ht
  intro n
  induction n using Nat.strongRecOn with
  | ind n ih =>
    intro b out hb hm
    match b, hb with
    | [], _ => rw [encode_nil, decode_nil, List.append_nil]
    | c :: r, hb =>
      cases h : longest t (c :: r) with
      | none =>
        rw [encode_none h]
        have hc : code t (255 :: c :: encode t r) = some ([c], 2) := code_esc c _ h32
        rw [decode_some hc, if_neg (by simp at hm ⊢; omega)]
        have := ih r.length (by simp at hb; omega) r (out ++ [c]) rfl (by simp at hm ⊢; omega)
        simpa using this
      | some k =>
        have hl := longest_is t (c :: r)
        rw [h] at hl
        obtain ⟨hk, hp, _⟩ := hl
        have h2 := (hlen _ (List.getElem_mem hk)).1
        have hle := hp.length_le
        rw [encode_some h (by rw [getD_eq hk]; omega), getD_eq hk]
        have hto : (UInt8.ofNat k).toNat = k := by rw [Num.toNat_ofNat]; omega
        have hc : code t (UInt8.ofNat k :: encode t ((c :: r).drop t[k].length)) = some (t[k], 1) := by
          rw [code_sym _ (by rw [hto]; exact hk), hto, getD_eq hk]
        rw [decode_some hc, if_neg (by simp at hm hle ⊢; omega)]
        have e : (UInt8.ofNat k :: encode t ((c :: r).drop t[k].length)).drop 1 = encode t ((c :: r).drop t[k].length) := rfl
        rw [e]
        rw [ih ((c :: r).drop t[k].length).length (by rw [List.length_drop]; simp at hb ⊢; omega) _ (out ++ t[k]) rfl (by rw [List.length_append, List.length_drop]; simp at hm hle ⊢; omega)]
        have : t[k] ++ (c :: r).drop t[k].length = c :: r := by
          have e2 := List.prefix_iff_eq_take.1 hp
          conv => lhs; lhs; rw [e2]
          exact List.take_append_drop _ _
        rw [List.append_assoc, this]
end Go.Proofs.Ytmcioglidgbibaa.Sym
