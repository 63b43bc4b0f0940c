/- The document's Reader: Row. -/
import Derived.Test.YtmcioglidgbibaaReader
import Derived.Test.YtmcioglidgbibaaTakeRow
namespace Go.Proofs.Ytmcioglidgbibaa
open Go.RowKit
set_option maxRecDepth 100000

theorem row_bad (g n cap at_ : Nat) (A : Option Addr) (z : Int) (w : World) (h : Rd w g A n cap at_ true) :
    Calls Try.prog 47 #[.pointer (some ⟨g, 0, none⟩), .int .i64 z] w fun e w' => e = .returned (.slice none 0 0) ∧ w = w' := by
  have h2 := h.bad'
  clear h
  go_enter Try.func47, Try.ntmps47
  go_wp2
  go_ret
  exact ⟨rfl, rfl⟩

/-- what Row leaves -/
def RdRowPost (w : World) (g : Nat) (A : Option Addr) (n cap at_ : Nat) (R : List UInt8 × Nat × Nat) (e : Ending) (w' : World) : Prop :=
  ∃ A' c, e = .returned (.slice A' R.1.length c) ∧ Own w' w.heap.size A' R.1.length c R.1 ∧ Rd w' g A n cap (at_ + R.2.1) (R.2.2 != 0) ∧ w.grownBy w' (some g)

set_option maxHeartbeats 2000000 in
theorem row_any (g n cap at_ B : Nat) (most : Int) (A : Option Addr) (b : List UInt8) (w : World) (h : Rd w g A n cap at_ false) (hl : b.length = n) (hcap : n ≤ cap) (hm : n ≤ 140737488355328) (hat : at_ ≤ n) (hb : Bytes w B A b) (hB : B ≤ w.heap.size) (h0 : -9223372036854775808 ≤ most) (h1 : most ≤ 9223372036854775807) :
    Calls Try.prog 47 #[.pointer (some ⟨g, 0, none⟩), .int .i64 most] w (RdRowPost w g A n cap at_ (Num.takeRow (b.drop at_) most)) := by
  have hcut := hb.cut (k := at_) (cap := cap) (by omega) (by omega)
  have HT := fun (w' : World) (hc : Bytes w' B (cutAt A cap at_) (b.drop at_)) (hB' : B ≤ w'.heap.size) => refTakeRow_any (cutAt A cap at_) (n - at_) (cap - at_) B (b.drop at_) most w' (by rw [List.length_drop, hl]) (by omega) (by omega) hc hB' h0 h1
  have hR2 : (Num.takeRow (b.drop at_) most).2.1 ≤ n := by
    unfold Num.takeRow
    split
    · simp
    · split
      · split
        · simp
        · split
          · simp
          · rename_i h
            rw [List.length_drop, hl] at h
            simp only
            omega
      · simp
  have hsl := run_cut_from A n cap at_ (n - at_) (by omega)
  have hc0 := h.b
  have hc1 := h.at'
  have hc2 := h.bad'
  generalize Num.takeRow (b.drop at_) most = R at *
  obtain ⟨rl, rk, re⟩ := R
  unfold RowPost at HT
  unfold RdRowPost
  simp only at HT hR2 ⊢
  generalize cutAt A cap at_ = A1 at *
  replace HT := Lib.hid HT
  have hlt := h.lt
  obtain ⟨bd, hbd⟩ : ∃ bd, bd = ((re : Int) != 0) := ⟨_, rfl⟩
  have Hbd : Hid ((re != 0) = bd) := Lib.hid (by rw [hbd]; cases re <;> simp <;> omega)
  have hbd' := hbd.symm
  clear hb hl hbd
  go_enter Try.func47, Try.ntmps47
  go_wp2_with fail
  go_region_held3 (fun w' => w'.cell? ⟨g, 0, none⟩ = some (.slice A n cap) ∧ w'.cell? ⟨g, 1, none⟩ = some (.int .i64 (at_ : Int))) (first | exact ⟨hc0, hc1⟩ | exact ⟨(h.below (below_of_drew hbel)).b, (h.below (below_of_drew hbel)).at'⟩) (first | (go_at_call 60; refine (HT.out _ (by exact hcut) (by exact hB)).mono ?_; rintro e w1 ⟨A4, c4, rfl, ho4, hbel⟩))
  have hbel1 := below_of_drew hbel
  have hr1 := h.below hbel1
  have d1 := hr1.at'
  have d2 := hr1.bad'
  have d3 := hr1.f1
  have d4 := hr1.f2
  have hr2 := (hr1.setAt (at_ + rk)).setBad bd
  rw [show ((at_ + rk : Nat) : Int) = (at_ : Int) + (rk : Int) from by omega] at hr2
  have hgr : w.grownBy ((w1.setCell ⟨g, 1, none⟩ (.int .i64 ((at_ : Int) + (rk : Int)))).setCell ⟨g, 2, none⟩ (.bool bd)) (some g) := Lib.grownBy_setB (Lib.grownBy_setB (Lib.grownBy_below (World.grownBy.refl w (some g)) hbel1) 1 _) 2 _
  have ho4' : Own w1 w.heap.size A4 rl.length c4 rl := ho4
  have hne : blk A4 = none ∨ blk A4 ≠ some g := .inr (fun h => by have := (ho4'.lt h).1; omega)
  have ho5 : Own ((w1.setCell ⟨g, 1, none⟩ (.int .i64 ((at_ : Int) + (rk : Int)))).setCell ⟨g, 2, none⟩ (.bool bd)) w.heap.size A4 rl.length c4 rl := ho4'.kept (Lib.grownBy_setB (Lib.grownBy_setB (World.grownBy.refl w1 (some g)) 1 _) 2 _) hne
  have Hr2 := Lib.hid hr2
  have Hgr := Lib.hid hgr
  have Ho5 := Lib.hid ho5
  clear hr2 hgr hr1 hbel HT h hc0 hc1 hc2 hsl hcut ho4 ho4' ho5 hne
  go_wp2
  go_ret
  exact ⟨A4, c4, rfl, Ho5.out, by rw [Hbd.out]; exact Hr2.out, Hgr.out⟩
end Go.Proofs.Ytmcioglidgbibaa
