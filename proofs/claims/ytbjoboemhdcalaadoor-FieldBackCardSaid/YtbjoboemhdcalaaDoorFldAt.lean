/- The document's At: the field of a key. -/
import Derived.Test.YtbjoboemhdcalaaDoorFldRow
import Derived.Deep.QuietTactic
import Derived.BigQuiet
import Derived.RegionTactic
import Derived.WalkSpells
import Derived.WalkLawsBesides
namespace Go.Proofs.YtbjoboemhdcalaaDoor
open Go.RowKit
set_option maxRecDepth 100000

theorem Fld.at_found {fs : List Fld.F} {key : List UInt8} {k : Nat} (hk : k < fs.length) (h0 : Fld.at_ (fs.take k) key = none) (h : fs[k].key = key) : Fld.at_ fs key = some fs[k] := by
  have e : fs.take k ++ fs[k] :: fs.drop (k + 1) = fs := by rw [← List.drop_eq_getElem_cons hk, List.take_append_drop]
  unfold Fld.at_ at *
  conv => lhs; rw [← e]
  rw [List.find?_append, h0, Option.none_or, List.find?_cons]
  simp [h]
theorem Fld.at_next {fs : List Fld.F} {key : List UInt8} {k : Nat} (hk : k < fs.length) (h0 : Fld.at_ (fs.take k) key = none) (h : fs[k].key ≠ key) : Fld.at_ (fs.take (k + 1)) key = none := by
  rw [List.take_succ_eq_append_getElem hk, Fld.at_snoc, h0, Option.none_or, if_neg (by simpa using h)]
/-- what a search for a field answers -/
def AtPost (o : Option Fld.F) (w : World) (e : Ending) (w' : World) : Prop :=
  e = .returned (.tuple #[fval (o.getD Fld.zero), .bool o.isSome]) ∧ Below w.heap.size w w'

theorem new_block (w : World) (o : Obj) : (w.alloc o).heap[w.heap.size]? = some o := by
  show (w.heap.push o)[w.heap.size]? = _
  simp
theorem results_field {fn : Func} {tmps : Array Value} {p q g : Nat} {W : World} (f : Fld.F) (h : fn.results = #[.cell p 27, .tmp q]) (hp : tmps.getD p undef = .pointer (some ⟨g, 0, none⟩))
    (c0 : W.cell? ⟨g, 0, none⟩ = some (.string ⟨f.key.toArray⟩)) (c1 : W.cell? ⟨g, 1, none⟩ = some (.int .i64 f.kind)) (c2 : W.cell? ⟨g, 2, none⟩ = some (.int .i64 f.int)) (c3 : W.cell? ⟨g, 3, none⟩ = some (.string ⟨f.text.toArray⟩)) :
    (results fn tmps).run Tryd.prog W = .ok (.tuple #[fval f, tmps.getD q undef]) W := by
  have hp2 : tmps[p]?.getD undef = .pointer (some ⟨g, 0, none⟩) := by rw [← Array.getD_eq_getD_getElem?]; exact hp
  simp [results, h, hp2, go_sem, c0, c1, c2, c3, fval]
/-- the four cells of a field in a block -/
def FBox (w : World) (g : Nat) (f : Fld.F) : Prop := w.heap[g]? = some (.cells #[.string ⟨f.key.toArray⟩, .int .i64 f.kind, .int .i64 f.int, .string ⟨f.text.toArray⟩] 27)
theorem FBox.new (w : World) (f : Fld.F) : FBox (w.alloc (.cells #[.string ⟨f.key.toArray⟩, .int .i64 f.kind, .int .i64 f.int, .string ⟨f.text.toArray⟩] 27)) w.heap.size f := new_block w _
theorem FBox.cell {w : World} {g : Nat} {f : Fld.F} (h : FBox w g f) : w.cell? ⟨g, 0, none⟩ = some (.string ⟨f.key.toArray⟩) ∧ w.cell? ⟨g, 1, none⟩ = some (.int .i64 f.kind) ∧ w.cell? ⟨g, 2, none⟩ = some (.int .i64 f.int) ∧ w.cell? ⟨g, 3, none⟩ = some (.string ⟨f.text.toArray⟩) :=
  ⟨Go.Joins.cell_of_block h 0, Go.Joins.cell_of_block h 1, Go.Joins.cell_of_block h 2, Go.Joins.cell_of_block h 3⟩
theorem FBox.lt {w : World} {g : Nat} {f : Fld.F} (h : FBox w g f) : g < w.heap.size := (Array.getElem?_eq_some_iff.1 h).1
theorem FBox.free {w : World} {g : Nat} {f : Fld.F} (h : FBox w g f) (k : Nat) : w.frozen? ⟨g, k, none⟩ = false := Go.Joins.unfrozen_of_block h k
theorem FBox.below {w w' : World} {g : Nat} {f : Fld.F} (h : FBox w g f) (hb : Below w.heap.size w w') : FBox w' g f := (hb.block g h.lt).trans h
theorem FBox.results {fn : Func} {tmps : Array Value} {p q g : Nat} {W : World} {f : Fld.F} (hf : FBox W g f) (h : fn.results = #[.cell p 27, .tmp q]) (hp : tmps.getD p undef = .pointer (some ⟨g, 0, none⟩)) :
    (results fn tmps).run Tryd.prog W = .ok (.tuple #[fval f, tmps.getD q undef]) W :=
  results_field f h hp hf.cell.1 hf.cell.2.1 hf.cell.2.2.1 hf.cell.2.2.2

set_option maxHeartbeats 1000000 in
theorem at_any (A : Option Addr) (n c : Nat) (fs : List Fld.F) (key : List UInt8) (w : World) (hl : fs.length = n) (hn : n ≤ 1000) (hf : Flds w A fs) :
    Calls Tryd.prog 23 #[.slice A n c, .string ⟨key.toArray⟩] w (AtPost (Fld.at_ fs key) w) := by
  have Hl := Lib.hid hl; clear hl
  generalize hO : Fld.at_ fs key = O
  have HO := Lib.hid hO; clear hO
  have hb0 : ∀ cs : Array Value, Below w.heap.size w (w.alloc (.cells cs 27)) := fun cs => (Below.refl _ w).alloc (Nat.le_refl _) _
  have hf1 := fun cs => hf.below (hb0 cs)
  have HF := Lib.hid hf1
  have HB := Lib.hid hb0
  clear hf hf1 hb0
  go_enter Tryd.func23, Tryd.ntmps23
  go_wp2
  go_loop [6] (fun i => ∃ (k : Nat), k ≤ n ∧ i = .int .i64 (k : Int) ∧ Fld.at_ (fs.take k) key = none) (fun i => n - (intOf i).toNat)
  case atStart => exact ⟨0, by omega, rfl, rfl⟩
  case round =>
    obtain ⟨k, hk, rfl, hnone⟩ := hrel
    by_cases hlt : k < n
    · have hk' : k < fs.length := by have := Hl.out; omega
      obtain ⟨g, rfl, hg, c0, c1, c2, c3⟩ := (HF.out #[.string ⟨#[]⟩, .int .i64 0, .int .i64 0, .string ⟨#[]⟩]).get hk'
      have Hfound := Lib.hid (Fld.at_found hk' hnone)
      have Hnext := Lib.hid (Fld.at_next hk' hnone)
      generalize fs[k] = f at *
      obtain ⟨fk, fd, fi, ft⟩ := f
      simp only at c0 c1 c2 c3
      have i1 : (k : Int) < (n : Int) := by omega
      have i0 : (0 : Int) ≤ (k : Int) := by omega
      by_cases hkey : fk = key
      · have HR := Lib.hid (Hfound.out hkey)
        have hb : (fk == key) = true := by simpa using hkey
        clear Hfound Hnext hnone hkey
        go_wp2
        refine bodyPost_ret ((FBox.new w ⟨fk, fd, fi, ft⟩).results rfl rfl) rfl ?_
        exact ⟨by rw [← HO.out, HR.out]; rfl, HB.out _⟩
      · have HR := Lib.hid (Hnext.out hkey)
        have hb : (fk == key) = false := by simpa using hkey
        clear Hfound Hnext hnone hkey
        go_wp2
        go_round
        case rel => exact ⟨k + 1, by omega, by go_num, HR.out⟩
        case measure => simp [intOf]; omega
    · have HN := Lib.hid (show O = none by rw [← HO.out]; rwa [List.take_of_length_le (by have := Hl.out; omega)] at hnone)
      clear hnone
      go_wp2
      refine bodyPost_ret ((FBox.new w Fld.zero).results rfl rfl) rfl ?_
      exact ⟨by rw [HN.out]; rfl, HB.out _⟩
end Go.Proofs.YtbjoboemhdcalaaDoor
