/- The document's Join, refused. -/
import Derived.Test.YtggelnlbdpdegaaRstRefF
namespace Go.Proofs.Ytggelnlbdpdegaa
open Go.RowKit
set_option maxRecDepth 100000

set_option maxHeartbeats 1000000 in
theorem refJE (z N1 N2 : Int) (A1 A2 : Option Addr) (n1 n2 c1 c2 : Nat) (a b : List UInt64) (w : World) (hl1 : a.length = n1) (hl2 : b.length = n2) (hn1 : n1 ≤ 140737488351232) (hn2 : n2 ≤ 140737488351232) (ha : Nums w w.heap.size A1 a) (hb : Nums w w.heap.size A2 b)
    (hno : ¬ (Rst.formed N1 a = true ∧ Rst.formed N2 b = true ∧ N1 = N2)) :
    Calls Try.prog 19 #[.int .i64 z, .agg #[.int .i64 N1, .slice A1 n1 c1], .agg #[.int .i64 N2, .slice A2 n2 c2]] w fun e w' =>
      e = .returned (.tuple #[.agg #[.int .i64 0, .slice none 0 0], .int .i64 1]) ∧ Below w.heap.size w w' := by
  have HF1 := Lib.hid (fun (W : World) (h : Nums W W.heap.size A1 a) => refFormed_any N1 A1 n1 c1 W.heap.size a W hl1 hn1 h (Nat.le_refl _))
  have HF2 := Lib.hid (fun (W : World) (h : Nums W W.heap.size A2 b) => refFormed_any N2 A2 n2 c2 W.heap.size b W hl2 hn2 h (Nat.le_refl _))
  have hx5 := (RBox.new (w.alloc (.cells #[.int .i64 N1, .slice A1 n1 c1] 26)) N2 A2 n2 c2).alloc (.cells #[.int .i64 0, .slice none 0 0] 26)
  have hx4 := ((RBox.new w N1 A1 n1 c1).alloc (.cells #[.int .i64 N2, .slice A2 n2 c2] 26)).alloc (.cells #[.int .i64 0, .slice none 0 0] 26)
  have hx6 := RBox.new ((w.alloc (.cells #[.int .i64 N1, .slice A1 n1 c1] 26)).alloc (.cells #[.int .i64 N2, .slice A2 n2 c2] 26)) 0 none 0 0
  have hbel : Below w.heap.size w (((w.alloc (.cells #[.int .i64 N1, .slice A1 n1 c1] 26)).alloc (.cells #[.int .i64 N2, .slice A2 n2 c2] 26)).alloc (.cells #[.int .i64 0, .slice none 0 0] 26)) :=
    (((Below.refl _ _).alloc (Nat.le_refl _) _).alloc (by simp) _).alloc (by simp; omega) _
  rw [show (w.alloc (.cells #[.int .i64 N1, .slice A1 n1 c1] 26)).heap.size = w.heap.size + 1 by simp] at hx5
  rw [show ((w.alloc (.cells #[.int .i64 N1, .slice A1 n1 c1] 26)).alloc (.cells #[.int .i64 N2, .slice A2 n2 c2] 26)).heap.size = w.heap.size + 1 + 1 by simp] at hx6
  have ra := (ha.below hbel).wide hbel.size
  have rb := (hb.below hbel).wide hbel.size
  clear ha hb hl1 hl2
  unfold rval at HF1 HF2
  go_enter Try.func19, Try.ntmps19
  go_wp2_with fail
  generalize ((w.alloc (.cells #[.int .i64 N1, .slice A1 n1 c1] 26)).alloc (.cells #[.int .i64 N2, .slice A2 n2 c2] 26)).alloc (.cells #[.int .i64 0, .slice none 0 0] 26) = w1 at *
  by_cases f1 : Rst.formed N1 a = true
  · have F1 := Lib.hid f1
    rw [f1] at HF1
    refine (HF1.out _ ra).mono ?_
    rintro e w2 ⟨rfl, hb2⟩
    have hx4 := hx4.below hb2 hx4.lt
    have hx5 := hx5.below hb2 hx5.lt
    have hx6 := hx6.below hb2 hx6.lt
    have rb := (rb.below hb2).wide hb2.size
    have hbel := hbel.trans (hb2.mono hbel.size)
    obtain ⟨c40, c41⟩ := hx4.cell
    obtain ⟨c50, c51⟩ := hx5.cell
    clear hb2 HF1 f1
    by_cases f2 : Rst.formed N2 b = true
    · have hN : N1 ≠ N2 := fun h => hno ⟨F1.out, f2, h⟩
      have hne : (N1 != N2) = true := bne_iff_ne.2 hN
      rw [f2] at HF2
      clear f2 hN hno
      go_wp2_with fail
      refine (HF2.out _ rb).mono ?_
      rintro e w3 ⟨rfl, hb3⟩
      have hx4 := hx4.below hb3 hx4.lt
      have hx5 := hx5.below hb3 hx5.lt
      have hx6 := hx6.below hb3 hx6.lt
      have hbel := hbel.trans (hb3.mono hbel.size)
      clear hb3 HF2 c40 c41 c50 c51
      obtain ⟨c40, c41⟩ := hx4.cell
      obtain ⟨c50, c51⟩ := hx5.cell
      obtain ⟨c60, c61⟩ := hx6.cell
      have f60 := hx6.free 0
      have f61 := hx6.free 1
      go_wp2
      exact bodyPost_ret (v := .tuple #[.agg #[.int .i64 0, .slice none 0 0], .int .i64 1]) (by simp [results, Try.results19, go_sem, c60, c61]) rfl
        ⟨rfl, ((hbel.setCell (by simp; omega) _).setCell (by simp; omega) _)⟩
    · rw [Bool.not_eq_true] at f2
      rw [f2] at HF2
      clear f2 hno
      go_wp2_with fail
      refine (HF2.out _ rb).mono ?_
      rintro e w3 ⟨rfl, hb3⟩
      have hx6 := hx6.below hb3 hx6.lt
      have hbel := hbel.trans (hb3.mono hbel.size)
      clear hb3 HF2 c40 c41 c50 c51
      obtain ⟨c60, c61⟩ := hx6.cell
      have f60 := hx6.free 0
      have f61 := hx6.free 1
      go_wp2
      exact bodyPost_ret (v := .tuple #[.agg #[.int .i64 0, .slice none 0 0], .int .i64 1]) (by simp [results, Try.results19, go_sem, c60, c61]) rfl
        ⟨rfl, ((hbel.setCell (by simp; omega) _).setCell (by simp; omega) _)⟩
  · rw [Bool.not_eq_true] at f1
    rw [f1] at HF1
    clear hno f1
    refine (HF1.out _ ra).mono ?_
    rintro e w2 ⟨rfl, hb2⟩
    have hx6 := hx6.below hb2 hx6.lt
    have hbel := hbel.trans (hb2.mono hbel.size)
    obtain ⟨c60, c61⟩ := hx6.cell
    have f60 := hx6.free 0
    have f61 := hx6.free 1
    clear hb2 HF1
    go_wp2
    exact bodyPost_ret (v := .tuple #[.agg #[.int .i64 0, .slice none 0 0], .int .i64 1]) (by simp [results, Try.results19, go_sem, c60, c61]) rfl
      ⟨rfl, ((hbel.setCell (by simp; omega) _).setCell (by simp; omega) _)⟩
end Go.Proofs.Ytggelnlbdpdegaa
