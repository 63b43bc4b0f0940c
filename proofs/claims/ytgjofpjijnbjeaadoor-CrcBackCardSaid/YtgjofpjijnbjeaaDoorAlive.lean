/- The laws' fixed fact: it holds. -/
import Derived.Test.YtgjofpjijnbjeaaDoorWrap
import Derived.Lib.SlBytesConst
namespace Go.Proofs.YtgjofpjijnbjeaaDoor
open Go.RowKit

def nine : List UInt8 := [49, 50, 51, 52, 53, 54, 55, 56, 57]
theorem sum_nine : Plain.sum nine = 3808858755 := by decide +kernel
theorem frame_nil : frame [] = [0, 0, 0, 0, 199, 75, 103, 72] := by decide +kernel

theorem bytes_marked (w : World) (l : List UInt8) (fr : Nat × Nat) : Bytes (w.alloc (.cells (bvals l).toArray 5 fr)) (w.heap.size + 1) (some ⟨w.heap.size, 0, none⟩) l := fun _ =>
  ⟨_, rfl, Nat.lt_succ_self _, fun i hi => World.news_of_block (heap_alloc_new w _) i _ (by simp [bvals, List.getElem?_eq_getElem hi])⟩

set_option maxHeartbeats 400000 in
theorem alive_any (w : World) (ht : Table w) :
    Calls Tryd.prog 10 #[] w fun e w' => e = .returned (.bool true) ∧ Below w.heap.size w w' := by
  have kc := fun (w : World) (C : Array Value) (n c : Nat) => Lib.run_convert_bytes_const (P := Tryd.prog) w 22 5 C n c Tryd.underlying22 Tryd.underlying5
  have hsz := ht.size
  go_enter Tryd.func10, Tryd.ntmps10
  go_wp2_with fail
  refine (wrap_ok none 0 0 0 [] w rfl (by omega) (Bytes.nil _ _ _) (by omega) ht).mono ?_
  rintro e w1 ⟨A1, c1, rfl, ho1, hb1⟩
  obtain ⟨ad, rfl, had, hc7⟩ := ho1.bytes.get (k := 7) (by rw [frame_nil]; decide)
  have e7 : ((frame [])[7]'(by rw [frame_nil]; decide)).toNat = 72 := by simp only [frame_nil]; rfl
  rw [e7] at hc7
  simp only [Nat.zero_add] at ho1
  have hm := bytes_marked w1 nine (9, 10)
  have hbel : Below w1.heap.size w1 (w1.alloc (.cells (bvals nine).toArray 5 (9, 10))) := (Below.refl _ _).alloc (Nat.le_refl _) _
  have hc7' : (w1.alloc (.cells (bvals nine).toArray 5 (9, 10))).cell? (ad.add 7) = some (.int .u8 72) := (hbel.cell (by rw [addr_add_block]; exact had)).trans hc7
  have hT := ht.below hb1 hsz |>.below hbel (Nat.lt_of_lt_of_le hsz hb1.size)
  clear hc7
  go_wp2_with fail
  refine (sum_any _ 9 9 _ nine (w1.alloc (.cells (bvals nine).toArray 5 (9, 10))) rfl (by omega) hm hT).mono ?_
  rintro e w2 ⟨rfl, rfl⟩
  rw [sum_nine]
  clear hm hT kc
  generalize w1.alloc (.cells (bvals nine).toArray 5 (9, 10)) = W2 at *
  simp [Addr.add] at hc7'
  go_wp2
  go_ret
  exact ⟨rfl, hb1.trans (hbel.mono hb1.size)⟩
end Go.Proofs.YtgjofpjijnbjeaaDoor
