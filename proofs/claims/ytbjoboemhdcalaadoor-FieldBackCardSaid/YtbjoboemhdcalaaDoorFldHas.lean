/- field.Read's closure: is the key the same?; slices.ContainsFunc: has one of the fields the key? -/
import Derived.Test.YtbjoboemhdcalaaDoorFldAt
namespace Go.Proofs.YtbjoboemhdcalaaDoor
open Go.RowKit
set_option maxRecDepth 100000

theorem sameKey_any (f x : Fld.F) (g : Nat) (w : World) (hbox : FBox w g f) :
    Calls Tryd.prog 31 #[fval x, .pointer (some ⟨g, 0, none⟩)] w fun e w' => e = .returned (.bool (x.key == f.key)) ∧ Below w.heap.size w w' := by
  obtain ⟨xk, xd, xi, xt⟩ := x
  have hb0 : ∀ o, Below w.heap.size w (w.alloc o) := fun o => (Below.refl _ w).alloc (Nat.le_refl _) o
  have HB := Lib.hid hb0
  have hc : ∀ o, (w.alloc o).cell? ⟨g, 0, none⟩ = some (.string ⟨f.key.toArray⟩) := fun o => (hbox.below (hb0 o)).cell.1
  clear hb0 hbox
  generalize f.key = k at *
  unfold fval
  simp only
  go_enter Tryd.func31, Tryd.ntmps31
  go_wp2
  go_ret
  exact ⟨rfl, HB.out _⟩

theorem index_none (A : Option Addr) (c : Nat) (v : Value) (w : World) :
    Calls Tryd.prog 42 #[.slice A 0 c, v] w fun e w' => e = .returned (.int .i64 (-1)) ∧ w = w' := by
  go_enter Tryd.func42, Tryd.ntmps42
  go_wp2
  go_loop [8] (fun i => i = .int .i64 0) (fun _ => 0)
  case atStart => rfl
  case round =>
    subst hrel
    go_wp2
    go_ret
    exact ⟨rfl, rfl⟩

theorem has_any (A : Option Addr) (n c : Nat) (fs : List Fld.F) (f : Fld.F) (g : Nat) (w : World) (hl : fs.length = n) (hn : n ≤ 1000) (hf : Flds w A fs) (hbox : FBox w g f) :
    Calls Tryd.prog 32 #[.slice A n c, .func (.func 31) #[] #[.pointer (some ⟨g, 0, none⟩)]] w fun e w' => e = .returned (.bool (Fld.has fs f.key)) ∧ Below w.heap.size w w' := by
  by_cases h0 : fs = []
  · subst h0
    obtain rfl : n = 0 := hl.symm
    have HI := Lib.hid (fun W => index_none A c (.func (.func 31) #[] #[.pointer (some ⟨g, 0, none⟩)]) W)
    go_enter Tryd.func32, Tryd.ntmps32
    go_wp2_with fail
    refine (HI.out _).mono ?_
    rintro e w1 ⟨rfl, rfl⟩
    go_wp2
    go_ret
    exact ⟨rfl, Below.refl _ _⟩
  · obtain ⟨b, rfl, hb, hc⟩ := hf h0
    have := AnyQ.slices_ContainsFunc Tryd.hasL 4 (fun w => Tryd.isAgg27 w) (fun w => Tryd.sizeOf27 w) fcell (fun _ => rfl) (fun x => x.key == f.key) 31 #[.pointer (some ⟨g, 0, none⟩)]
      (enters_of Tryd.func31 (by kernel_rfl) rfl) b 0 n c fs w (fun W x hW => ((sameKey_any f x g W (hbox.below hW)).mono fun _ _ ⟨he, hb'⟩ => ⟨he, hW.trans (hb'.mono hW.size)⟩))
      (by omega) (by omega) hb (fun j hj i v hi => ?_)
    · rw [List.take_of_length_le (by omega)] at this
      exact this
    · rw [getElem!_pos fs j hj] at hi
      obtain ⟨c0, c1, c2, c3⟩ := hc j hj
      rw [Nat.zero_add]
      rcases i with _ | _ | _ | _ | i
      · simp [fcell] at hi; rw [← hi]; exact c0
      · simp [fcell] at hi; rw [← hi]; exact c1
      · simp [fcell] at hi; rw [← hi]; exact c2
      · simp [fcell] at hi; rw [← hi]; exact c3
      · simp [fcell] at hi
end Go.Proofs.YtbjoboemhdcalaaDoor
