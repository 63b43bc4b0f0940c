/- The document's Join, kind 2: of two sets of n rows each, and refused. -/
import Derived.Test.YtggelnlbdpdegaaRstRefF
import Derived.Test.YtggelnlbdpdegaaRstUni
namespace Go.Proofs.Ytggelnlbdpdegaa
open Go.RowKit
set_option maxRecDepth 100000

theorem mix2_set {x y : List Bool} {n k : Nat} (hx : x.length = n) (hy : y.length = n) (hk : k < n) :
    ((List.zipWith (fun a b => a && !b) x y).take k ++ x.drop k).set k ((fun a b => a && !b) (x[k]'(by omega)) (y[k]'(by omega))) = (List.zipWith (fun a b => a && !b) x y).take (k + 1) ++ x.drop (k + 1) := by
  have hz := zip_len (f := fun a b => a && !b) hx hy
  have hlt : ((List.zipWith (fun a b => a && !b) x y).take k).length = k := by rw [List.length_take]; omega
  rw [List.set_append_right _ _ (by omega), hlt, Nat.sub_self, List.drop_eq_getElem_cons (show k < x.length by omega), List.set_cons_zero, List.take_succ_eq_append_getElem (show k < (List.zipWith (fun a b => a && !b) x y).length by omega), List.append_assoc, List.singleton_append, List.getElem_zipWith]
theorem mix2_get {x y : List Bool} {n k : Nat} (hx : x.length = n) (hy : y.length = n) (hk : k < n) : ∃ h : k < ((List.zipWith (fun a b => a && !b) x y).take k ++ x.drop k).length, ((List.zipWith (fun a b => a && !b) x y).take k ++ x.drop k)[k] = x[k]'(by omega) := by
  have hz := zip_len (f := fun a b => a && !b) hx hy
  refine ⟨by simp; omega, ?_⟩
  rw [List.getElem_append_right (by simp; omega)]
  simp only [List.length_take, hz, List.getElem_drop]
  congr 1
  omega

set_option maxHeartbeats 2000000 in
theorem refJ2B {n : Nat} (hn : n ≤ 4096) (x y : List Bool) (hx : x.length = n) (hy : y.length = n) (A1 A2 : Option Addr) (c1 c2 : Nat) (w : World) (ha : Nums w w.heap.size A1 (Rst.pack x)) (hb : Nums w w.heap.size A2 (Rst.pack y)) :
    Calls Try.prog 19 #[.int .i64 2, .agg #[.int .i64 (n : Int), .slice A1 (Rst.need n) c1], .agg #[.int .i64 (n : Int), .slice A2 (Rst.need n) c2]] w fun e w' =>
      ∃ A c, e = .returned (.tuple #[.agg #[.int .i64 (n : Int), .slice A (Rst.need n) c], .int .i64 0]) ∧ Nums w' w'.heap.size A (Rst.pack (List.zipWith (fun a b => a && !b) x y)) ∧ Below w.heap.size w w' := by
  have hk := need_le hn
  have hxl : (Rst.pack x).length = Rst.need n := by rw [Rst.pack_length, hx]
  have hyl : (Rst.pack y).length = Rst.need n := by rw [Rst.pack_length, hy]
  have hf1 : Rst.formed (n : Int) (Rst.pack x) = true := by rw [← hx]; exact Rst.formed_pack (by omega)
  have hf2 : Rst.formed (n : Int) (Rst.pack y) = true := by rw [← hy]; exact Rst.formed_pack (by omega)
  have F1 := fun (A : Option Addr) (c : Nat) (W : World) (h : Nums W W.heap.size A (Rst.pack x)) => refFormed_any (n : Int) A (Rst.need n) c W.heap.size (Rst.pack x) W hxl (by omega) h (Nat.le_refl _)
  have F2 := fun (A : Option Addr) (c : Nat) (W : World) (h : Nums W W.heap.size A (Rst.pack y)) => refFormed_any (n : Int) A (Rst.need n) c W.heap.size (Rst.pack y) W hyl (by omega) h (Nat.le_refl _)
  rw [hf1] at F1
  rw [hf2] at F2
  have B1 := fun (A : Option Addr) (c : Nat) (W : World) (h : Nums W W.heap.size A (Rst.pack x)) => bits_any n A (Rst.need n) c W.heap.size (Rst.pack x) W hn hxl rfl h (Nat.le_refl _)
  have B2 := fun (A : Option Addr) (c : Nat) (W : World) (h : Nums W W.heap.size A (Rst.pack y)) => bits_any n A (Rst.need n) c W.heap.size (Rst.pack y) W hn hyl rfl h (Nat.le_refl _)
  have e1 := Rst.bitsOf_pack x
  have e2 := Rst.bitsOf_pack y
  rw [hx] at e1
  rw [hy] at e2
  rw [e1] at B1
  rw [e2] at B2
  have hzl := zip_len (f := fun a b => a && !b) hx hy
  have CS := Lib.hid (fun (A : Option Addr) (c : Nat) (W : World) (h : Bools W W.heap.size A (List.zipWith (fun a b => a && !b) x y)) => set_any A n c W.heap.size (List.zipWith (fun a b => a && !b) x y) W hzl hn h (Nat.le_refl _))
  have HF1 := Lib.hid F1
  have HF2 := Lib.hid F2
  have HB1 := Lib.hid B1
  have HB2 := Lib.hid B2
  have Hx := Lib.hid hx
  have Hy := Lib.hid hy
  have Hz := Lib.hid hzl
  have hnn : ((n : Int) != (n : Int)) = false := by simp
  unfold rval at HF1 HF2 HB1 HB2 CS
  clear F1 F2 B1 B2 e1 e2 hf1 hf2 hxl hyl hx hy hzl
  generalize Rst.need n = K at *
  have hx4 := ((RBox.new w (n : Int) A1 K c1).alloc (.cells #[.int .i64 (n : Int), .slice A2 K c2] 26)).alloc (.cells #[.int .i64 0, .slice none 0 0] 26)
  have hx5 := (RBox.new (w.alloc (.cells #[.int .i64 (n : Int), .slice A1 K c1] 26)) (n : Int) A2 K c2).alloc (.cells #[.int .i64 0, .slice none 0 0] 26)
  have hx6 := RBox.new ((w.alloc (.cells #[.int .i64 (n : Int), .slice A1 K c1] 26)).alloc (.cells #[.int .i64 (n : Int), .slice A2 K c2] 26)) 0 none 0 0
  have hbel : Below w.heap.size w (((w.alloc (.cells #[.int .i64 (n : Int), .slice A1 K c1] 26)).alloc (.cells #[.int .i64 (n : Int), .slice A2 K c2] 26)).alloc (.cells #[.int .i64 0, .slice none 0 0] 26)) :=
    (((Below.refl _ _).alloc (Nat.le_refl _) _).alloc (by simp) _).alloc (by simp; omega) _
  rw [show (w.alloc (.cells #[.int .i64 (n : Int), .slice A1 K c1] 26)).heap.size = w.heap.size + 1 by simp] at hx5
  rw [show ((w.alloc (.cells #[.int .i64 (n : Int), .slice A1 K c1] 26)).alloc (.cells #[.int .i64 (n : Int), .slice A2 K c2] 26)).heap.size = w.heap.size + 1 + 1 by simp] at hx6
  have ra := (ha.below hbel).wide hbel.size
  have rb := (hb.below hbel).wide hbel.size
  clear ha hb
  go_enter Try.func19, Try.ntmps19
  go_wp2_with fail
  generalize ((w.alloc (.cells #[.int .i64 (n : Int), .slice A1 K c1] 26)).alloc (.cells #[.int .i64 (n : Int), .slice A2 K c2] 26)).alloc (.cells #[.int .i64 0, .slice none 0 0] 26) = w1 at *
  refine (HF1.out _ _ _ ra).mono ?_
  rintro e w2 ⟨rfl, hb2⟩
  have hx4 := hx4.below hb2 hx4.lt
  have hx5 := hx5.below hb2 hx5.lt
  have hx6 := hx6.below hb2 hx6.lt
  have ra := (ra.below hb2).wide hb2.size
  have rb := (rb.below hb2).wide hb2.size
  have hbel := hbel.trans (hb2.mono hbel.size)
  clear hb2 HF1
  obtain ⟨c50, c51⟩ := hx5.cell
  go_wp2_with fail
  refine (HF2.out _ _ _ rb).mono ?_
  rintro e w3 ⟨rfl, hb3⟩
  have hx4 := hx4.below hb3 hx4.lt
  have hx5 := hx5.below hb3 hx5.lt
  have hx6 := hx6.below hb3 hx6.lt
  have ra := (ra.below hb3).wide hb3.size
  have rb := (rb.below hb3).wide hb3.size
  have hbel := hbel.trans (hb3.mono hbel.size)
  clear hb3 HF2 c50 c51
  obtain ⟨c40, c41⟩ := hx4.cell
  obtain ⟨c50, c51⟩ := hx5.cell
  go_wp2_with fail
  have hzw : w.heap.size + 1 + 1 < w3.heap.size := hx6.lt
  have hBel : Below w3.heap.size w3 w3 := Below.refl _ _
  have HK := Lib.hid (fun W' (h : Below w3.heap.size w3 W') =>
    (⟨(hx4.below h hx4.lt).cell.1, (hx4.below h hx4.lt).cell.2, (hx5.below h hx5.lt).cell.1, (hx5.below h hx5.lt).cell.2⟩ :
      W'.cell? ⟨w.heap.size, 0, none⟩ = some (.int .i64 (n : Int)) ∧ W'.cell? ⟨w.heap.size, 1, none⟩ = some (.slice A1 K c1) ∧ W'.cell? ⟨w.heap.size + 1, 0, none⟩ = some (.int .i64 (n : Int)) ∧ W'.cell? ⟨w.heap.size + 1, 1, none⟩ = some (.slice A2 K c2)))
  replace hBel := hBel.drew
  refine wp_region_held_drew (S := fun W' => W'.cell? ⟨w.heap.size, 0, none⟩ = some (.int .i64 (n : Int)) ∧ W'.cell? ⟨w.heap.size, 1, none⟩ = some (.slice A1 K c1) ∧ W'.cell? ⟨w.heap.size + 1, 0, none⟩ = some (.int .i64 (n : Int)) ∧ W'.cell? ⟨w.heap.size + 1, 1, none⟩ = some (.slice A2 K c2)) (by kernel_rfl) (HK.out _ hBel) (fun hHeld => ?_)
  change wpAnyH _ _ _ _ _ 6 #[false, false, false, false, false, false] _ _
  generalize hwD : w3.drew = wD at *
  clear hwD
  have hzD := hBel.size
  refine wpAnyH_take (i := 0) (oi := { dst := some 27, op := _, type := _, pos := _, after := _, guard := _ }) (v := (.agg #[.int .i64 (n : Int), .slice A1 K c1])) rfl (by kernel_rfl) (by kernel_rfl) (by kernel_rfl) (fun _ _ _ h => h) (Or.inl ⟨by rfl, by intro w hSw; (try dsimp only at hSw); go_simp⟩) (by assumption) ?_
  simp only [Act.put, List.setIfInBounds_toArray, List.set_cons_zero, List.set_cons_succ]
  refine wpAnyH_take (i := 2) (oi := { dst := some 29, op := _, type := _, pos := _, after := _, guard := _ }) (v := (.agg #[.int .i64 (n : Int), .slice A2 K c2])) rfl (by kernel_rfl) (by kernel_rfl) (by kernel_rfl) (fun _ _ _ h => h) (Or.inl ⟨by rfl, by intro w hSw; (try dsimp only at hSw); go_simp⟩) (by assumption) ?_
  simp only [Act.put, List.setIfInBounds_toArray, List.set_cons_zero, List.set_cons_succ]
  refine wpAnyH_ready (rs := [1]) (by kernel_rfl) (by simp) ?_
  refine AllReadyH.cons (o := { dst := some 28, op := _, type := _, pos := _, after := _, guard := _ }) rfl (fun KK hK => ?_) ?_
  · go_simp
    refine (HB1.out A1 c1 _ ((ra.below hBel).wide hBel.size)).mono ?_
    rintro e w4 ⟨gx, rfl, hox, hq⟩
    go_wp2_with fail
    replace hBel := hBel.trans (hq.mono hBel.size)
    refine hK.out _ _ (HK.out _ hBel) (fun hHeld => ?_)
    clear hK KK
    simp only [List.setIfInBounds_toArray, List.set_cons_zero, List.set_cons_succ]
    refine wpAnyH_ready (rs := [3]) (by kernel_rfl) (by simp) ?_
    refine AllReadyH.cons (o := { dst := some 30, op := _, type := _, pos := _, after := _, guard := _ }) rfl (fun KK hK => ?_) ?_
    · go_simp
      refine (HB2.out A2 c2 _ ((rb.below hBel).wide hBel.size)).mono ?_
      rintro e w5 ⟨gy, rfl, hoy, hq5⟩
      go_wp2_with fail
      replace hBel := hBel.trans (hq5.mono hBel.size)
      refine hK.out _ _ (HK.out _ hBel) (fun hHeld => ?_)
      clear hK KK
      simp only [List.setIfInBounds_toArray, List.set_cons_zero, List.set_cons_succ]
      refine wpAnyH_take (i := 4) (oi := { dst := some 8, op := _, type := _, pos := _, after := _, guard := _ }) (v := (.slice (some ⟨gx, 0, none⟩) n n)) rfl (by kernel_rfl) (by kernel_rfl) (by kernel_rfl) (fun _ _ _ h => h) (Or.inl ⟨by rfl, fun _ _ => rfl⟩) (by assumption) ?_
      simp only [Act.put, List.setIfInBounds_toArray, List.set_cons_zero, List.set_cons_succ]
      refine wpAnyH_take (i := 5) (oi := { dst := some 9, op := _, type := _, pos := _, after := _, guard := _ }) (v := (.slice (some ⟨gy, 0, none⟩) n n)) rfl (by kernel_rfl) (by kernel_rfl) (by kernel_rfl) (fun _ _ _ h => h) (Or.inl ⟨by rfl, fun _ _ => rfl⟩) (by assumption) ?_
      simp only [Act.put, List.setIfInBounds_toArray, List.set_cons_zero, List.set_cons_succ]
      refine wpAnyH_done (by kernel_rfl) ?_ _
      have hox5 := hox.below hq5
      have hgx := hox.block
      have hgy := hoy.block
      have hx6 := hx6.below hBel hx6.lt
      have hbel := hbel.trans (hBel.mono hbel.size)
      have hry := hoy.row
      have hs5 : w.heap.size + 1 + 1 < w5.heap.size := hx6.lt
      clear hq HK hox hBel HB1 HB2 hx4 hx5 ra rb c40 c41 c50 c51
      go_wp2
      go_loopw [10] (fun i wr => ∃ k : Nat, k ≤ n ∧ i = .int .i64 k ∧ BOwn wr wD.heap.size (some ⟨gx, 0, none⟩) n n ((List.zipWith (fun a b => a && !b) x y).take k ++ x.drop k) ∧ w5.grownBy wr (some gx)) (fun i _ => n - (intOf i).toNat)
      case atStart => exact ⟨0, by omega, rfl, by simpa using hox5, World.grownBy.refl _ _⟩
      case round =>
        clear hox5
        obtain ⟨k, hk', rfl, ho, hgr⟩ := hrel
        have hx6r := hx6.grown hgr (by intro e; injection e with e; omega)
        have hbelr := hbel.grown hgr (by omega) (by intro j hj; injection hj with hj; omega)
        by_cases hlt : k < n
        · have hkx : k < x.length := by have := Hx.out; omega
          have hky : k < y.length := by have := Hy.out; omega
          obtain ⟨ad, had, hadB, d2⟩ := hry.get hky
          injection had with had
          subst had
          rw [show (⟨gy, 0, none⟩ : Addr).add k = ⟨gy, k, none⟩ from by by_cases h : k = 0 <;> simp [Addr.add, h]] at d2
          have d2 := hgr.cell d2 (by intro e; injection e with e; have e2 : gy = gx := e; omega)
          obtain ⟨hkm, hmk⟩ := mix2_get Hx.out Hy.out hlt
          have hcell := ho.cell hkm
          rw [hmk] at hcell
          have hfree := ho.free k
          have hst := ho.store k ((fun a b => a && !b) x[k] y[k])
          rw [mix2_set Hx.out Hy.out hlt] at hst
          simp only [blval] at hcell d2
          have Hg := Lib.hid (fun u => Lib.grownBy_setB hgr k u)
          generalize hbx : x[k] = bx at *
          generalize hby : y[k] = bv at *
          have Hst := Lib.hid hst
          clear hst ho hgr hmk hkm hbx hby hx6r hbelr hq5 hadB
          cases bx <;> cases bv
          all_goals
            go_wp2
            go_roundw
            case rel => exact ⟨k + 1, by omega, by go_num, Hst.out, Hg.out _⟩
            case measure => simp [intOf]; omega
        · obtain rfl : k = n := by omega
          rw [List.take_of_length_le (by rw [Hz.out]; exact Nat.le_refl _), List.drop_eq_nil_of_le (by rw [Hx.out]; exact Nat.le_refl _), List.append_nil] at ho
          have hwr : w.heap.size + 1 + 1 < wr.heap.size := hx6r.lt
          go_wp2_with fail
          refine (CS.out _ _ _ ho.row).mono ?_
          rintro e w7 ⟨A7, c7, rfl, ho7, hb7⟩
          have hx6s := hx6r.below hb7 hx6r.lt
          have hbels := hbelr.trans (hb7.mono hbelr.size)
          obtain ⟨c60, c61⟩ := hx6s.cell
          have f60 := hx6s.free 0
          have f61 := hx6s.free 1
          clear CS hq5 hb7
          go_wp2
          have hone : ∀ u v, NOwn ((w7.setCell ⟨w.heap.size + 1 + 1, 0, none⟩ u).setCell ⟨w.heap.size + 1 + 1, 1, none⟩ v) w.heap.size A7 K c7 (Rst.pack (List.zipWith (fun a b => a && !b) x y)) := fun u v => ((ho7.setFar hwr u).setFar hwr v).low (by omega)
          exact bodyPost_ret (v := .tuple #[rval (k : Int) A7 K c7, .int .i64 0]) (by simp [results, Try.results19, go_sem, rval, c60, c61]) rfl
            ⟨A7, c7, rfl, (hone _ _).row, ((hbels.setCell (by simp; omega) _).setCell (by simp; omega) _)⟩
    exact AllReadyH.nil
  exact AllReadyH.nil
end Go.Proofs.Ytggelnlbdpdegaa
