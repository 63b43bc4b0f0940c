/- The document's Get and Same. -/
import Derived.Test.YtbjoboemhdcalaaDoorFldRefRead
import Derived.Test.YtbjoboemhdcalaaDoorFldEq
import Derived.Deep.QuietTactic
namespace Go.Proofs.YtbjoboemhdcalaaDoor
open Go.RowKit
set_option maxRecDepth 100000

set_option maxHeartbeats 2000000 in
theorem refGet_any (A : Option Addr) (n cap : Nat) (l key : List UInt8) (w : World) (hl : l.length = n) (hcap : n ≤ cap) (hn : n ≤ 140737488355328) (hb : Bytes w w.heap.size A l) :
    Calls Tryd.prog 18 #[.slice A n cap, .string ⟨key.toArray⟩] w (AtPost (Fld.at_ (Fld.read l) key) w) := by
  have hb0 : Below w.heap.size w (w.alloc (.cells #[.string ⟨#[]⟩, .int .i64 0, .int .i64 0, .string ⟨#[]⟩] 27)) := (Below.refl _ w).alloc (Nat.le_refl _) _
  have HR := Lib.hid (refRead_any A n cap l _ hl hcap hn ((hb.below hb0).wide hb0.size))
  have hle := Fld.read_le l
  have hbx0 : FBox (w.alloc (.cells #[.string ⟨#[]⟩, .int .i64 0, .int .i64 0, .string ⟨#[]⟩] 27)) w.heap.size Fld.zero := FBox.new w Fld.zero
  clear hb hl hcap hn
  generalize Fld.read l = fs at *
  unfold ReadPost at HR
  go_enter Tryd.func18, Tryd.ntmps18
  go_wp2_with fail
  refine HR.out.mono ?_
  rintro e w1 ⟨A2, c, rfl, ho, hb1⟩
  have hbel := hb0.trans (hb1.mono hb0.size)
  have hbx := hbx0.below hb1
  have HA := Lib.hid (at_any A2 fs.length c fs key w1 rfl (by omega) ho.flds)
  clear HR hb0 hbx0 ho hb1 hle
  obtain ⟨q, hq⟩ : ∃ q, (Fld.at_ fs key).getD Fld.zero = q := ⟨_, rfl⟩
  unfold AtPost at *
  rw [hq] at HA
  have Hq := Lib.hid hq; clear hq
  generalize (Fld.at_ fs key).isSome = bb at *
  obtain ⟨qk, qd, qi, qt⟩ := q
  simp only [fval] at HA
  go_wp2_with fail
  refine HA.out.mono ?_
  rintro e w2 ⟨rfl, hb2⟩
  have hbel2 := hbel.trans (hb2.mono hbel.size)
  have hbx2 := hbx.below hb2
  obtain ⟨z0, z1, z2, z3⟩ := hbx2.cell
  have y0 := hbx2.free 0
  have y1 := hbx2.free 1
  have y2 := hbx2.free 2
  have y3 := hbx2.free 3
  simp only [Fld.zero] at z0 z1 z2 z3
  clear hbel hbx hb2
  go_wp2
  refine bodyPost_ret ((hbx2.set ⟨qk, qd, qi, qt⟩).results rfl rfl) rfl ?_
  exact ⟨by rw [Hq.out]; rfl, below_set hbel2 (Nat.le_refl _) _ _ _ _⟩

theorem Fld.take_ne {fs gs : List Fld.F} {k : Nat} (h1 : k < fs.length) (h2 : k < gs.length) (h : fs[k] ≠ gs[k]) : fs ≠ gs := fun e => by subst e; exact h rfl
theorem Fld.take_next {fs gs : List Fld.F} {k : Nat} (h1 : k < fs.length) (h2 : k < gs.length) (h0 : fs.take k = gs.take k) (h : fs[k] = gs[k]) : fs.take (k + 1) = gs.take (k + 1) := by
  rw [List.take_succ_eq_append_getElem h1, List.take_succ_eq_append_getElem h2, h0, h]

set_option maxHeartbeats 2000000 in
theorem sameFields_any (A : Option Addr) (n c : Nat) (fs : List Fld.F) (A2 : Option Addr) (n2 c2 : Nat) (gs : List Fld.F) (w : World) (hl : fs.length = n) (hl2 : gs.length = n2) (hn : n ≤ 1000) (hn2 : n2 ≤ 1000) (hf : Flds w A fs) (hg : Flds w A2 gs) :
    Calls Tryd.prog 19 #[.slice A n c, .slice A2 n2 c2] w fun e w' => e = .returned (.bool (decide (fs = gs))) ∧ Drawn w w' := by
  generalize hD : decide (fs = gs) = D
  have HD := Lib.hid hD; clear hD
  by_cases hnn : n = n2
  · subst hnn
    have HL := Lib.hid hl
    have HL2 := Lib.hid hl2
    clear hl hl2
    go_enter Tryd.func19, Tryd.ntmps19
    go_wp2
    go_loopw [5] (fun i wr => ∃ (k q : Nat), k ≤ n ∧ i = .int .i64 (k : Int) ∧ fs.take k = gs.take k ∧ wr = w.drewN q) (fun i _ => n - (intOf i).toNat)
    case atStart => exact ⟨0, 0, by omega, rfl, rfl, rfl⟩
    case round =>
      obtain ⟨k, q, hk, rfl, htk, hwr⟩ := hrel
      have hdr : Drawn w wr := ⟨q, hwr⟩
      clear hwr
      by_cases hlt : k < n
      · have h1 : k < fs.length := by have := HL.out; omega
        have h2 : k < gs.length := by have := HL2.out; omega
        obtain ⟨g, rfl, _, c0, c1, c2', c3⟩ := (hf.drawn hdr).get h1
        obtain ⟨g', rfl, _, d0, d1, d2, d3⟩ := (hg.drawn hdr).get h2
        have Hne := Lib.hid (Fld.take_ne h1 h2)
        have Hnx := Lib.hid (Fld.take_next h1 h2 htk)
        have i1 : (k : Int) < (n : Int) := by omega
        have i0 : (0 : Int) ≤ (k : Int) := by omega
        generalize fs[k] = f at *
        generalize gs[k] = f' at *
        obtain ⟨fk, fd, fi, ft⟩ := f
        obtain ⟨gk, gd, gi, gt⟩ := f'
        simp only at c0 c1 c2' c3 d0 d1 d2 d3
        have hgd := guard_field
        by_cases heq : (⟨fk, fd, fi, ft⟩ : Fld.F) = ⟨gk, gd, gi, gt⟩
        · have hrun : ∀ W, _ := fun W => run_eq_field fk gk fd gd fi gi ft gt W
          rw [decide_eq_true heq] at hrun
          have HR := Lib.hid (Hnx.out heq)
          clear heq Hne Hnx htk
          go_wp2
          go_quiet (fail)
          go_wp2
          go_roundw
          case rel => obtain ⟨q, hq⟩ := hdr.drewN nq; exact ⟨k + 1, q, by omega, by go_num, HR.out, hq⟩
          case measure => simp [intOf]; omega
        · have hrun : ∀ W, _ := fun W => run_eq_field fk gk fd gd fi gi ft gt W
          rw [decide_eq_false heq] at hrun
          have HR := Lib.hid (show D = false by rw [← HD.out, decide_eq_false_iff_not]; exact Hne.out heq)
          clear heq Hne Hnx htk
          go_wp2
          go_quiet (fail)
          go_wp2
          go_ret
          exact ⟨by rw [HR.out]; rfl, hdr.drewN _⟩
      · have HR := Lib.hid (show D = true by rw [← HD.out, decide_eq_true_eq]; rwa [List.take_of_length_le (by have := HL.out; omega), List.take_of_length_le (by have := HL2.out; omega)] at htk)
        clear htk
        go_wp2
        go_ret
        exact ⟨by rw [HR.out]; rfl, hdr⟩
  · have hne : ((n : Int) == (n2 : Int)) = false := by simp; omega
    have hne' : ¬ (n : Int) = (n2 : Int) := by omega
    have HR := Lib.hid (show D = false by rw [← HD.out, decide_eq_false_iff_not]; intro e; subst e; omega)
    go_enter Tryd.func19, Tryd.ntmps19
    go_wp2
    go_ret
    exact ⟨by rw [HR.out]; rfl, Drawn.refl _⟩
end Go.Proofs.YtbjoboemhdcalaaDoor
