/- Fields, plainly: the field of a word, the words of a line, the fields of a line. -/
import Derived.Test.YtbjoboemhdcalaaDoorFld
import Derived.Lib.Bytealg
namespace Go.Proofs.YtbjoboemhdcalaaDoor.Fld
open Go

/-- a field -/
structure F where
  key : List UInt8
  kind : Int
  int : Int
  text : List UInt8
deriving DecidableEq, Inhabited
/-- the field of no key -/
def zero : F := ⟨[], 0, 0, []⟩
/-- the field of a key and a value's text -/
def mk (k v : List UInt8) : F := match num v with
  | some n => ⟨k, 1, n, []⟩
  | none => ⟨k, 2, 0, v⟩
/-- where the first = stands -/
def eqAt : List UInt8 → Nat
  | [] => 0
  | c :: r => if c.toNat = 61 then 0 else eqAt r + 1
theorem eqAt_le : ∀ l, eqAt l ≤ l.length
  | [] => Nat.le_refl _
  | c :: r => by unfold eqAt; have := eqAt_le r; split <;> simp <;> omega
/-- the field of a word -/
def one (l : List UInt8) : Option F :=
  if eqAt l < l.length ∧ isKey (l.take (eqAt l)) = true ∧ (l.drop (eqAt l + 1)).length ≤ 64 then some (mk (l.take (eqAt l)) (l.drop (eqAt l + 1))) else none
theorem num_short {l : List UInt8} {n : Int} (h : num l = some n) : l.length ≤ 20 := by
  obtain ⟨rfl, h0, h1⟩ := num_iff.1 h
  exact itoa_length h0 h1
theorem mk_key (k v : List UInt8) : (mk k v).key = k := by unfold mk; split <;> rfl
theorem mk_text (k v : List UInt8) : (mk k v).text.length ≤ 64 ↔ v.length ≤ 64 := by
  unfold mk
  split
  · rename_i n h
    have := num_short h
    simp; omega
  · exact Iff.rfl
theorem one_key {l : List UInt8} {f : F} (h : one l = some f) : isKey f.key = true ∧ f.text.length ≤ 64 := by
  unfold one at h
  split at h
  · rename_i hc
    injection h with h
    subst h
    rw [mk_key]
    exact ⟨hc.2.1, (mk_text _ _).2 hc.2.2⟩
  · cases h

/-- from s up to e -/
def piece (l : List UInt8) (s e : Nat) : List UInt8 := (l.drop s).take (e - s)
theorem piece_length {l : List UInt8} {s e : Nat} (he : e ≤ l.length) : (piece l s e).length = e - s := by unfold piece; simp; omega
/-- the words of a line of which r is left, from i on, the word that may be under way from s on -/
def spans (s i : Nat) : List UInt8 → List (Nat × Nat)
  | [] => if s < i then [(s, i)] else []
  | c :: r => if blank c = true then (if s < i then (s, i) :: spans (i + 1) (i + 1) r else spans (i + 1) (i + 1) r) else spans s (i + 1) r
/-- the words of a line -/
def words (l : List UInt8) : List (List UInt8) := (spans 0 0 l).map fun p => piece l p.1 p.2
theorem spans_mem : ∀ (r : List UInt8) (s i : Nat), s ≤ i → ∀ p ∈ spans s i r, s ≤ p.1 ∧ p.1 < p.2 ∧ p.2 ≤ i + r.length
  | [], s, i, _, p, hp => by
    unfold spans at hp
    split at hp
    · rw [List.mem_singleton.1 hp]; simp; omega
    · cases hp
  | c :: r, s, i, hs, p, hp => by
    unfold spans at hp
    have h1 := spans_mem r (i + 1) (i + 1) (Nat.le_refl _) p
    have h2 := spans_mem r s (i + 1) (by omega) p
    rw [List.length_cons]
    split at hp
    · split at hp
      · rcases List.mem_cons.1 hp with rfl | hp
        · simp; omega
        · have := h1 hp; omega
      · have := h1 hp; omega
    · have := h2 hp; omega
theorem drop_at {l : List UInt8} {i : Nat} (h : i < l.length) : l.drop i = l[i] :: l.drop (i + 1) := List.drop_eq_getElem_cons h
theorem spans_end {l : List UInt8} {s i : Nat} (h : i = l.length) : spans s i (l.drop i) = if s < i then [(s, i)] else [] := by
  rw [List.drop_eq_nil_of_le (by omega)]; rfl
theorem spans_blank {l : List UInt8} {s i : Nat} (h : i < l.length) (hb : blank l[i] = true) : spans s i (l.drop i) = if s < i then (s, i) :: spans (i + 1) (i + 1) (l.drop (i + 1)) else spans (i + 1) (i + 1) (l.drop (i + 1)) := by
  rw [drop_at h, spans, if_pos hb]
theorem spans_in {l : List UInt8} {s i : Nat} (h : i < l.length) (hb : blank l[i] = false) : spans s i (l.drop i) = spans s (i + 1) (l.drop (i + 1)) := by
  rw [drop_at h, spans, if_neg (by simp [hb])]

/-- a key is had -/
def has (fs : List F) (k : List UInt8) : Bool := fs.any fun f => f.key == k
/-- one word more -/
def step (fs : List F) (w : List UInt8) : List F := match one w with
  | some f => if has fs f.key = true ∨ 16 ≤ fs.length then fs else fs ++ [f]
  | none => fs
/-- the fields of words, behind those of words ahead -/
def steps (fs : List F) (ws : List (List UInt8)) : List F := ws.foldl step fs
/-- the fields of a line -/
def read (l : List UInt8) : List F := steps [] (words l)
theorem step_le {fs : List F} (w : List UInt8) (h : fs.length ≤ 16) : (step fs w).length ≤ 16 := by
  unfold step
  split
  · split
    · exact h
    · simp; omega
  · exact h
theorem steps_cons (fs : List F) (w : List UInt8) (ws : List (List UInt8)) : steps fs (w :: ws) = steps (step fs w) ws := rfl
theorem steps_le : ∀ (ws : List (List UInt8)) {fs : List F}, fs.length ≤ 16 → (steps fs ws).length ≤ 16
  | [], _, h => h
  | w :: ws, _, h => steps_le ws (step_le w h)
theorem step_full {fs : List F} (w : List UInt8) (h : 16 ≤ fs.length) : step fs w = fs := by
  unfold step
  split
  · rw [if_pos (.inr h)]
  · rfl
theorem steps_full : ∀ (ws : List (List UInt8)) {fs : List F}, 16 ≤ fs.length → steps fs ws = fs
  | [], _, _ => rfl
  | w :: ws, fs, h => by rw [steps_cons, step_full w h]; exact steps_full ws h
theorem read_le (l : List UInt8) : (read l).length ≤ 16 := steps_le _ (by simp)
/-- the field of a key -/
def at_ (fs : List F) (k : List UInt8) : Option F := fs.find? fun f => f.key == k
theorem has_at (fs : List F) (k : List UInt8) : has fs k = (at_ fs k).isSome := by
  unfold has at_
  induction fs with
  | nil => rfl
  | cons f r ih =>
    rw [List.any_cons, List.find?_cons, ih]
    cases (f.key == k) <;> simp
/-- all fields are sound -/
def Good (fs : List F) : Prop := ∀ f ∈ fs, isKey f.key = true ∧ f.text.length ≤ 64
theorem step_good {fs : List F} (w : List UInt8) (h : Good fs) : Good (step fs w) := by
  unfold step
  split
  · rename_i f hf
    split
    · exact h
    · intro g hg
      rcases List.mem_append.1 hg with hg | hg
      · exact h g hg
      · rw [List.mem_singleton.1 hg]; exact one_key hf
  · exact h
theorem steps_good : ∀ (ws : List (List UInt8)) {fs : List F}, Good fs → Good (steps fs ws)
  | [], _, h => h
  | w :: ws, _, h => steps_good ws (step_good w h)
theorem read_good (l : List UInt8) : Good (read l) := steps_good _ (fun _ h => by cases h)
/-- the keys are unlike -/
def Once (fs : List F) : Prop := ∀ (i : Nat) (h : i < fs.length), at_ fs fs[i].key = some fs[i]
theorem at_snoc (fs : List F) (f : F) (k : List UInt8) : at_ (fs ++ [f]) k = (at_ fs k).or (if f.key == k then some f else none) := by
  unfold at_
  rw [List.find?_append]
  congr 1
  rw [List.find?_cons]
  cases (f.key == k) <;> simp
theorem once_snoc {fs : List F} {f : F} (h : Once fs) (hn : has fs f.key = false) : Once (fs ++ [f]) := by
  intro i hi
  by_cases hlt : i < fs.length
  · rw [List.getElem_append_left hlt, at_snoc, h i hlt]; rfl
  · have hi' : i = fs.length := by simp at hi; omega
    subst hi'
    rw [List.getElem_append_right (Nat.le_refl _)]
    simp only [Nat.sub_self, List.getElem_cons_zero]
    rw [at_snoc]
    rw [has_at] at hn
    cases ha : at_ fs f.key with
    | none => simp
    | some g => rw [ha] at hn; cases hn
theorem step_once {fs : List F} (w : List UInt8) (h : Once fs) : Once (step fs w) := by
  unfold step
  split
  · rename_i f hf
    split
    · exact h
    · rename_i hc
      exact once_snoc h (by cases hh : has fs f.key with
        | false => rfl
        | true => exact absurd (.inl hh) hc)
  · exact h
theorem steps_once : ∀ (ws : List (List UInt8)) {fs : List F}, Once fs → Once (steps fs ws)
  | [], _, h => h
  | w :: ws, _, h => steps_once ws (step_once w h)
theorem read_once (l : List UInt8) : Once (read l) := steps_once _ (fun i h => by cases h)
end Go.Proofs.YtbjoboemhdcalaaDoor.Fld
