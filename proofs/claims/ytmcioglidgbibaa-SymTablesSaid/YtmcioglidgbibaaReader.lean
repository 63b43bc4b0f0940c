/- The document's Reader: its cells, Number, Count. -/
import Derived.Test.YtmcioglidgbibaaRefTake
import Derived.Test.YtmcioglidgbibaaCutFrom
import Derived.Test.YtmcioglidgbibaaDraws
import Derived.Lib.BufferOwn
import Derived.Deep.RegionHeld3
import Derived.RegionTactic
namespace Go.Proofs.Ytmcioglidgbibaa
open Go.RowKit
set_option maxRecDepth 100000

/-- The reader at block g, over the slice A, stands at at_; bad or not. -/
structure Rd (w : World) (g : Nat) (A : Option Addr) (n cap at_ : Nat) (bad : Bool) : Prop where
  b : w.cell? ⟨g, 0, none⟩ = some (.slice A n cap)
  at' : w.cell? ⟨g, 1, none⟩ = some (.int .i64 (at_ : Int))
  bad' : w.cell? ⟨g, 2, none⟩ = some (.bool bad)
  f1 : w.frozen? ⟨g, 1, none⟩ = false
  f2 : w.frozen? ⟨g, 2, none⟩ = false
  lt : g < w.heap.size

namespace Rd
variable {w w' : World} {g : Nat} {A : Option Addr} {n cap at_ : Nat} {bad : Bool}
theorem below (h : Rd w g A n cap at_ bad) (hb : Below w.heap.size w w') : Rd w' g A n cap at_ bad :=
  ⟨(hb.cell (p := ⟨g, 0, none⟩) h.lt).trans h.b, (hb.cell (p := ⟨g, 1, none⟩) h.lt).trans h.at', (hb.cell (p := ⟨g, 2, none⟩) h.lt).trans h.bad',
    (hb.frozen (p := ⟨g, 1, none⟩) h.lt).trans h.f1, (hb.frozen (p := ⟨g, 2, none⟩) h.lt).trans h.f2, Nat.lt_of_lt_of_le h.lt hb.size⟩
end Rd
theorem heap_size_setCell (w : World) (a : Addr) (v : Value) : (w.setCell a v).heap.size = w.heap.size := by simp
theorem Rd.setAt {w : World} {g : Nat} {A : Option Addr} {n cap at_ : Nat} {bad : Bool} (h : Rd w g A n cap at_ bad) (k : Nat) : Rd (w.setCell ⟨g, 1, none⟩ (.int .i64 (k : Int))) g A n cap k bad := by
  refine ⟨?_, ?_, ?_, ?_, ?_, by rw [heap_size_setCell]; exact h.lt⟩
  · rw [World.cell?_setCell_other _ _ _ _ (by simp)]; exact h.b
  · exact World.cell?_setCell_same' _ _ _ (by rw [h.at']; rfl)
  · rw [World.cell?_setCell_other _ _ _ _ (by simp)]; exact h.bad'
  · rw [World.frozen?_setCell]; exact h.f1
  · rw [World.frozen?_setCell]; exact h.f2
theorem Rd.setBad {w : World} {g : Nat} {A : Option Addr} {n cap at_ : Nat} {bad : Bool} (h : Rd w g A n cap at_ bad) (k : Bool) : Rd (w.setCell ⟨g, 2, none⟩ (.bool k)) g A n cap at_ k := by
  refine ⟨?_, ?_, ?_, ?_, ?_, by rw [heap_size_setCell]; exact h.lt⟩
  · rw [World.cell?_setCell_other _ _ _ _ (by simp)]; exact h.b
  · rw [World.cell?_setCell_other _ _ _ _ (by simp)]; exact h.at'
  · exact World.cell?_setCell_same' _ _ _ (by rw [h.bad']; rfl)
  · rw [World.frozen?_setCell]; exact h.f1
  · rw [World.frozen?_setCell]; exact h.f2

/-- what a number that is read comes to: it, where one stands then, whether it was bad -/
def Pfor.rd (most : Nat) (b : List UInt8) (at_ : Nat) : Nat × Nat × Bool :=
  if (Num.take (b.drop at_)).2.2 = 0 ∧ (Num.take (b.drop at_)).1 ≤ most then ((Num.take (b.drop at_)).1, at_ + (Num.take (b.drop at_)).2.1, false) else (0, at_ + (Num.take (b.drop at_)).2.1, true)

theorem number_bad (g n cap at_ : Nat) (A : Option Addr) (z : Int) (w : World) (h : Rd w g A n cap at_ true) :
    Calls Try.prog 59 #[.pointer (some ⟨g, 0, none⟩), .int .u64 z] w fun e w' => e = .returned (.int .u64 0) ∧ w = w' := by
  have h2 := h.bad'
  clear h
  go_enter Try.func59, Try.ntmps59
  go_wp2
  go_ret
  exact ⟨rfl, rfl⟩

set_option maxHeartbeats 2000000 in
theorem number_any (g n cap at_ B most : Nat) (A : Option Addr) (b : List UInt8) (w : World) (h : Rd w g A n cap at_ false) (hl : b.length = n) (hcap : n ≤ cap) (hm : n ≤ 140737488355328) (hat : at_ ≤ n) (hb : Bytes w B A b) (hmost : most < 18446744073709551616) :
    Calls Try.prog 59 #[.pointer (some ⟨g, 0, none⟩), .int .u64 (most : Int)] w fun e w' => e = .returned (.int .u64 ((Pfor.rd most b at_).1 : Int)) ∧
      Rd w' g A n cap (Pfor.rd most b at_).2.1 (Pfor.rd most b at_).2.2 ∧ w.grownBy w' (some g) := by
  have hcut := hb.cut (k := at_) (cap := cap) (by omega) (by omega)
  have HT := fun (w' : World) (hc : Bytes w' B (cutAt A cap at_) (b.drop at_)) => refTake_any (cutAt A cap at_) (n - at_) (cap - at_) B (b.drop at_) w' (by rw [List.length_drop, hl]) (by omega) hc
  unfold RefTakePost at HT
  have hsl := run_cut_from A n cap at_ (n - at_) (by omega)
  obtain ⟨M, hM, hM0, hM1⟩ : ∃ M : Int, M = (most : Int) ∧ 0 ≤ M ∧ M ≤ 18446744073709551615 := ⟨_, rfl, by omega, by omega⟩
  rw [← hM]
  have hc0 := h.b
  have hc1 := h.at'
  have hc2 := h.bad'
  generalize cutAt A cap at_ = A1 at *
  unfold Pfor.rd
  rcases Num.take_cases (b.drop at_) with ⟨v, s, ht⟩ | ⟨e, ht, he⟩
  · obtain ⟨hq1, hq2, hsl2, hv⟩ := Num.num_take ht
    clear hq1 hq2
    rw [List.length_drop, hl] at hsl2
    simp only [ht, true_and] at HT ⊢
    obtain ⟨V, hV, hV0, hV1⟩ : ∃ V : Int, V = (v : Int) ∧ 0 ≤ V ∧ V ≤ 18446744073709551615 := ⟨_, rfl, by omega, by omega⟩
    rw [← hV] at HT
    replace HT := Lib.hid HT
    by_cases hle : v ≤ most
    · rw [if_pos hle]
      have hVM : decide (M < V) = false := decide_eq_false (by omega)
      have HV := Lib.hid hV
      clear hV hM hle hmost ht hb hl hv
      go_enter Try.func59, Try.ntmps59
      go_wp2_with fail
      go_region_held3 (fun w' => w'.cell? ⟨g, 0, none⟩ = some (.slice A n cap) ∧ w'.cell? ⟨g, 1, none⟩ = some (.int .i64 (at_ : Int))) (first | exact ⟨hc0, hc1⟩ | exact ⟨(h.below (below_of_drew hbel)).b, (h.below (below_of_drew hbel)).at'⟩) (first | (go_at_call 71; refine (HT.out _ (by exact hcut)).mono ?_; rintro e w1 ⟨rfl, hbel⟩))
      have hbel1 := below_of_drew hbel
      have hr1 := h.below hbel1
      have d1 := hr1.at'
      have d2 := hr1.bad'
      have d3 := hr1.f1
      have d4 := hr1.f2
      have hr2 := (hr1.setAt (at_ + s)).setBad false
      rw [show ((at_ + s : Nat) : Int) = (at_ : Int) + (s : Int) from by omega] at hr2
      have hgr : w.grownBy ((w1.setCell ⟨g, 1, none⟩ (.int .i64 ((at_ : Int) + (s : Int)))).setCell ⟨g, 2, none⟩ (.bool false)) (some g) := Lib.grownBy_setB (Lib.grownBy_setB (Lib.grownBy_below (World.grownBy.refl w (some g)) hbel1) 1 _) 2 _
      have Hr2 := Lib.hid hr2
      have Hgr := Lib.hid hgr
      clear hr2 hgr hr1 hbel HT h hc0 hc1 hc2 hsl hcut
      go_wp2
      go_ret
      exact ⟨by rw [← HV.out]; rfl, Hr2.out, Hgr.out⟩
    · rw [if_neg hle]
      have hVM : M < V := by omega
      clear hV hM hle hmost ht hb hl hv
      go_enter Try.func59, Try.ntmps59
      go_wp2_with fail
      go_region_held3 (fun w' => w'.cell? ⟨g, 0, none⟩ = some (.slice A n cap) ∧ w'.cell? ⟨g, 1, none⟩ = some (.int .i64 (at_ : Int))) (first | exact ⟨hc0, hc1⟩ | exact ⟨(h.below (below_of_drew hbel)).b, (h.below (below_of_drew hbel)).at'⟩) (first | (go_at_call 71; refine (HT.out _ (by exact hcut)).mono ?_; rintro e w1 ⟨rfl, hbel⟩))
      have hbel1 := below_of_drew hbel
      have hr1 := h.below hbel1
      have d1 := hr1.at'
      have d2 := hr1.bad'
      have d3 := hr1.f1
      have d4 := hr1.f2
      have hr2 := (hr1.setAt (at_ + s)).setBad true
      rw [show ((at_ + s : Nat) : Int) = (at_ : Int) + (s : Int) from by omega] at hr2
      have hgr : w.grownBy ((w1.setCell ⟨g, 1, none⟩ (.int .i64 ((at_ : Int) + (s : Int)))).setCell ⟨g, 2, none⟩ (.bool true)) (some g) := Lib.grownBy_setB (Lib.grownBy_setB (Lib.grownBy_below (World.grownBy.refl w (some g)) hbel1) 1 _) 2 _
      have Hr2 := Lib.hid hr2
      have Hgr := Lib.hid hgr
      clear hr2 hgr hr1 hbel HT h hc0 hc1 hc2 hsl hcut
      go_wp2
      go_ret
      exact ⟨rfl, Hr2.out, Hgr.out⟩
  · simp only [ht] at HT ⊢
    have he' : ¬ ((e : Int) = 0) := by omega
    rw [if_neg (by omega)]
    replace HT := Lib.hid HT
    clear hM hmost ht hb hl he
    go_enter Try.func59, Try.ntmps59
    go_wp2_with fail
    go_region_held3 (fun w' => w'.cell? ⟨g, 0, none⟩ = some (.slice A n cap) ∧ w'.cell? ⟨g, 1, none⟩ = some (.int .i64 (at_ : Int))) (first | exact ⟨hc0, hc1⟩ | exact ⟨(h.below (below_of_drew hbel)).b, (h.below (below_of_drew hbel)).at'⟩) (first | (go_at_call 71; refine (HT.out _ (by exact hcut)).mono ?_; rintro e w1 ⟨rfl, hbel⟩))
    have hbel1 := below_of_drew hbel
    have hr1 := h.below hbel1
    have d1 := hr1.at'
    have d2 := hr1.bad'
    have d3 := hr1.f1
    have d4 := hr1.f2
    have hr2 := (hr1.setAt (at_ + 0)).setBad true
    rw [show ((at_ + 0 : Nat) : Int) = (at_ : Int) + ((0 : Nat) : Int) from by omega] at hr2
    have hgr : w.grownBy ((w1.setCell ⟨g, 1, none⟩ (.int .i64 ((at_ : Int) + ((0 : Nat) : Int)))).setCell ⟨g, 2, none⟩ (.bool true)) (some g) := Lib.grownBy_setB (Lib.grownBy_setB (Lib.grownBy_below (World.grownBy.refl w (some g)) hbel1) 1 _) 2 _
    have Hr2 := Lib.hid hr2
    have Hgr := Lib.hid hgr
    clear hr2 hgr hr1 hbel HT h hc0 hc1 hc2 hsl hcut
    go_wp2
    go_ret
    exact ⟨rfl, Hr2.out, Hgr.out⟩

theorem count_bad (g n cap at_ : Nat) (A : Option Addr) (most : Nat) (w : World) (hmost : most ≤ 64) (h : Rd w g A n cap at_ true) :
    Calls Try.prog 46 #[.pointer (some ⟨g, 0, none⟩), .int .i64 (most : Int)] w fun e w' => e = .returned (.int .i64 0) ∧ w = w' := by
  have H := Lib.hid (number_bad g n cap at_ A (most : Int) w h)
  clear h
  go_enter Try.func46, Try.ntmps46
  go_wp2_with fail
  refine H.out.mono ?_
  rintro e w1 ⟨rfl, rfl⟩
  clear H
  go_wp2
  go_ret
  exact ⟨rfl, rfl⟩

theorem Pfor.rd_le (most : Nat) (b : List UInt8) (at_ : Nat) : (Pfor.rd most b at_).1 ≤ most := by
  unfold Pfor.rd
  split
  · rename_i h; exact h.2
  · exact Nat.zero_le _

theorem count_any (g n cap at_ B most : Nat) (A : Option Addr) (b : List UInt8) (w : World) (h : Rd w g A n cap at_ false) (hl : b.length = n) (hcap : n ≤ cap) (hm : n ≤ 140737488355328) (hat : at_ ≤ n) (hb : Bytes w B A b) (hmost : most ≤ 64) :
    Calls Try.prog 46 #[.pointer (some ⟨g, 0, none⟩), .int .i64 (most : Int)] w fun e w' => e = .returned (.int .i64 ((Pfor.rd most b at_).1 : Int)) ∧
      Rd w' g A n cap (Pfor.rd most b at_).2.1 (Pfor.rd most b at_).2.2 ∧ w.grownBy w' (some g) := by
  have H := Lib.hid (number_any g n cap at_ B most A b w h hl hcap hm hat hb (by omega))
  have hle := Pfor.rd_le most b at_
  generalize Pfor.rd most b at_ = R at *
  clear h hl hb
  go_enter Try.func46, Try.ntmps46
  go_wp2_with fail
  refine H.out.mono ?_
  rintro e w1 ⟨rfl, hr, hg⟩
  clear H
  go_wp2
  go_ret
  exact ⟨rfl, hr, hg⟩
end Go.Proofs.Ytmcioglidgbibaa
