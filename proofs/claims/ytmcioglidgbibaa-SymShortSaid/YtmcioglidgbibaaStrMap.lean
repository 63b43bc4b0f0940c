/- A map of one's own from strings to numbers. -/
import Derived.Test.YtmcioglidgbibaaStrs
import Derived.Maps.OwnSet
namespace Go.Proofs.Ytmcioglidgbibaa
open Go.RowKit Go.Maps Go.WideMaps
set_option maxRecDepth 100000

theorem strLaw : Keyed Try.prog 9 := string_keyed Try.underlying9
theorem strKey {s : List UInt8} (h : s.length ≤ maxLen) : keyOf Try.prog 9 (.string ⟨s.toArray⟩) = some (.string s) := by
  have := keyOf_string_mk (P := Try.prog) (s := ⟨s.toArray⟩) Try.underlying9 (by rw [ByteArray.size, List.size_toArray]; exact h)
  rw [this]
/-- what a datum says of the string s -/
def SaysS (q : IntKind) (D : DataW Unit) (s : List UInt8) : Option Int → Prop
  | none => Maps.has D (.string s) = false
  | some p => Maps.has D (.string s) = true ∧ D.atKey (.string s) (.lit (.int q 0)) = .lit (.int q p)
/-- block M is a map of at most n strings, that tells f -/
def StrMap (q : IntKind) (e : TypeId) (w : World) (M n : Nat) (f : List UInt8 → Option Int) : Prop :=
  ∃ (D : DataW Unit), w.ownsMap Try.prog 9 (plainElem Try.prog e) M n D ∧ ∀ s, SaysS q D s (f s)
theorem ne_str {s s' : List UInt8} (h : s ≠ s') : (Lit.string s) ≠ (Lit.string s') := fun e => by
  injection e with e
  exact h e
theorem saysS_put {q : IntKind} {D : DataW Unit} {f : List UInt8 → Option Int} (hD : IsMap D) (h : ∀ s, SaysS q D s (f s)) (s : List UInt8) (v : Int) (s' : List UInt8) :
    SaysS q (D.put (.string s) (.lit (.int q v))) s' (if s' = s then some v else f s') := by
  by_cases e : s' = s
  · subst e
    rw [if_pos rfl]
    exact ⟨has_put_same hD (by simp [WideAt.IsKeyLit]) _, atKey_put_same hD (by simp [WideAt.IsKeyLit]) _ _⟩
  · rw [if_neg e]
    have := h s'
    match f s', this with
    | none, hs => exact (has_put_other (ne_str e) _).trans hs
    | some p, hs => exact ⟨(has_put_other (ne_str e) _).trans hs.1, (atKey_put_other (ne_str e) _ _).trans hs.2⟩
namespace StrMap
variable {q : IntKind} {e : TypeId} {w w' : World} {M n : Nat} {f : List UInt8 → Option Int}
theorem made (q : IntKind) (e : TypeId) (w : World) : StrMap q e (w.alloc (.map #[] 0)) w.heap.size 0 (fun _ => none) :=
  ⟨.map [], World.ownsMap_made _ _ _ _, fun _ => rfl⟩
theorem kept {row : Option Nat} (h : StrMap q e w M n f) (hg : w.grownBy w' row) (hne : some M ≠ row) : StrMap q e w' M n f := by
  obtain ⟨D, ho, hs⟩ := h
  exact ⟨D, ho.kept hg hne, hs⟩
theorem lt (h : StrMap q e w M n f) : M < w.heap.size := by
  obtain ⟨D, ho, _⟩ := h
  exact ho.lt
theorem mono {n' : Nat} (h : StrMap q e w M n f) (hn : n ≤ n') : StrMap q e w M n' f := by
  obtain ⟨D, ho, hs⟩ := h
  exact ⟨D, ho.mono hn, hs⟩
theorem drawn (h : StrMap q e w M n f) (hd : Drawn w w') : StrMap q e w' M n f := by
  obtain ⟨k, rfl⟩ := hd
  exact h
theorem below (h : StrMap q e w M n f) (hb : Below w.heap.size w w') : StrMap q e w' M n f :=
  h.kept (row := none) ⟨hb.os, hb.tape, hb.output, hb.size, fun j hj _ => hb.block j hj⟩ (by simp)
end StrMap

/-- a look-up -/
theorem run_look_strmap {q : IntKind} {e t : TypeId} {w : World} {M n : Nat} {f : List UInt8 → Option Int} (h : StrMap q e w M n f) (ht : Try.prog.underlying t = some (.map 9 e)) (he : Try.prog.underlying e = some (.int q))
    (hz : ∀ w : World, (zeroValue e).run Try.prog w = .ok (.int q 0) w) {s : List UInt8} (hs : s.length ≤ maxLen) :
    (Instr.lookup t (.map (some M)) (.string ⟨s.toArray⟩) true).run Try.prog w = .ok (.tuple #[.int q ((f s).getD 0), .bool (f s).isSome]) w := by
  obtain ⟨D, ho, hf⟩ := h
  obtain ⟨v, ps, h1, h2⟩ := ho.look_ok strLaw ht (hz w) (plainElem_int (H := Unit) he (by cases q <;> decide)) (strKey hs)
  obtain ⟨a, rfl, h3, _⟩ := plainElem_int_inv he h2
  have h4 := congrArg Prod.fst h3
  have h5 := hf s
  rw [h1]
  match f s, h5 with
  | none, h5 =>
    change D.atKey _ _ = _ at h4
    rw [atKey_of_not_has h5] at h4
    injection h4 with h4
    injection h4 with _ h4
    rw [h5, ← h4]; rfl
  | some p, h5 =>
    change D.atKey _ _ = _ at h4
    rw [h5.2] at h4
    injection h4 with h4
    injection h4 with _ h4
    rw [h5.1, ← h4]; rfl
/-- .. without ok -/
theorem run_look1_strmap {q : IntKind} {e t : TypeId} {w : World} {M n : Nat} {f : List UInt8 → Option Int} (h : StrMap q e w M n f) (ht : Try.prog.underlying t = some (.map 9 e)) (he : Try.prog.underlying e = some (.int q))
    (hz : ∀ w : World, (zeroValue e).run Try.prog w = .ok (.int q 0) w) {s : List UInt8} (hs : s.length ≤ maxLen) :
    (Instr.lookup t (.map (some M)) (.string ⟨s.toArray⟩) false).run Try.prog w = .ok (.int q ((f s).getD 0)) w := by
  obtain ⟨D, ho, hf⟩ := h
  obtain ⟨c, h1, h2, _⟩ := ho.lookup_int strLaw ht he (hz w) (strKey hs)
  rw [h1]
  have h5 := hf s
  match f s, h5 with
  | none, h5 =>
    rw [atKey_of_not_has h5] at h2
    injection h2 with h4
    injection h4 with _ h4
    rw [← h4]; rfl
  | some p, h5 =>
    rw [h5.2] at h2
    injection h2 with h4
    injection h4 with _ h4
    rw [← h4]; rfl
/-- a store -/
theorem run_put_strmap {q : IntKind} {e t : TypeId} {w : World} {M n : Nat} {f : List UInt8 → Option Int} (h : StrMap q e w M n f) (ht : Try.prog.underlying t = some (.map 9 e)) (he : Try.prog.underlying e = some (.int q))
    (hn : n < maxLen) {s : List UInt8} (hs : s.length ≤ maxLen) {v : Int} (hv : (Lit.int q v).wf = true) :
    ∃ w', (Instr.mapUpdate t (.map (some M)) (.string ⟨s.toArray⟩) (.int q v)).run Try.prog w = .ok () w' ∧ StrMap q e w' M (n + 1) (fun s' => if s' = s then some v else f s') ∧ w.grownBy w' (some M) := by
  obtain ⟨D, ho, hf⟩ := h
  obtain ⟨w', h1, h2, h3⟩ := ho.update strLaw ht hn (strKey hs) (plainElem_int (H := Unit) he hv)
  exact ⟨w', h1, ⟨_, h2, saysS_put ho.isMap hf s v⟩, h3⟩
end Go.Proofs.Ytmcioglidgbibaa
