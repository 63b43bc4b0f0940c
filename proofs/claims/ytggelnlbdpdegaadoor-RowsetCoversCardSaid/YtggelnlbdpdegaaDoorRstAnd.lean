/- rowset.combine with the closure of rowset.And, and rowset.And. -/
import Derived.Test.YtggelnlbdpdegaaDoorRstComb
import Derived.Deep.RegionHeld3
namespace Go.Proofs.YtggelnlbdpdegaaDoor
open Go.RowKit
set_option maxRecDepth 100000

theorem andWord_any (x y : Nat) (w : World) (hx : x < 18446744073709551616) (hy : y < 18446744073709551616) : Calls Tryd.prog 33 #[.int .u64 (x : Int), .int .u64 (y : Int)] w fun e w' =>
    e = .returned (.int .u64 ((x &&& y : Nat) : Int)) ∧ w = w' := by
  have h := u64_and_nat x y hx hy
  generalize (x &&& y : Nat) = z at *
  obtain ⟨X, hX⟩ : ∃ X : Int, X = (x : Int) := ⟨_, rfl⟩
  obtain ⟨Y, hY⟩ : ∃ Y : Int, Y = (y : Int) := ⟨_, rfl⟩
  rw [← hX, ← hY] at h
  rw [← hX, ← hY]
  clear hX hY hx hy
  go_enter Tryd.func33, Tryd.ntmps33
  go_wp2
  go_ret
  exact ⟨rfl, rfl⟩

set_option maxHeartbeats 2000000 in
theorem combine_and (N1 N2 : Int) (A1 A2 : Option Addr) (n1 n2 c1 c2 B : Nat) (a b : List UInt64) (w : World) (hl1 : a.length = n1) (hl2 : b.length = n2) (hn1 : n1 ≤ 140737488351232) (hn2 : n2 ≤ 140737488351232)
    (ha : Nums w B A1 a) (hb : Nums w B A2 b) (hB : B ≤ w.heap.size) :
    Calls Tryd.prog 32 #[rval N1 A1 n1 c1, rval N2 A2 n2 c2, .func (.func 33) #[] #[]] w (SetPost w (joinR (fun x y => x &&& y) N1 a N2 b)) := by
  -- the boxes
  have hx1 := ((RBox.new w N1 A1 n1 c1).alloc (.cells #[.int .i64 N2, .slice A2 n2 c2] 24)).alloc (.cells #[.int .i64 0, .slice none 0 0] 24)
  have hx2 := (RBox.new (w.alloc (.cells #[.int .i64 N1, .slice A1 n1 c1] 24)) N2 A2 n2 c2).alloc (.cells #[.int .i64 0, .slice none 0 0] 24)
  have hx3 := RBox.new ((w.alloc (.cells #[.int .i64 N1, .slice A1 n1 c1] 24)).alloc (.cells #[.int .i64 N2, .slice A2 n2 c2] 24)) 0 none 0 0
  have hbel : Below w.heap.size w (((w.alloc (.cells #[.int .i64 N1, .slice A1 n1 c1] 24)).alloc (.cells #[.int .i64 N2, .slice A2 n2 c2] 24)).alloc (.cells #[.int .i64 0, .slice none 0 0] 24)) :=
    (((Below.refl _ _).alloc (Nat.le_refl _) _).alloc (by simp) _).alloc (by simp; omega) _
  have hsz : (((w.alloc (.cells #[.int .i64 N1, .slice A1 n1 c1] 24)).alloc (.cells #[.int .i64 N2, .slice A2 n2 c2] 24)).alloc (.cells #[.int .i64 0, .slice none 0 0] 24)).heap.size = w.heap.size + 1 + 1 + 1 := by simp
  have e1 : (w.alloc (.cells #[.int .i64 N1, .slice A1 n1 c1] 24)).heap.size = w.heap.size + 1 := by simp
  have e2 : ((w.alloc (.cells #[.int .i64 N1, .slice A1 n1 c1] 24)).alloc (.cells #[.int .i64 N2, .slice A2 n2 c2] 24)).heap.size = w.heap.size + 1 + 1 := by simp
  rw [e1] at hx2
  rw [e2] at hx3
  clear e1 e2
  have Hno := Lib.hid (fun h => joinR_no (op := fun x y => x &&& y) (N := N1) (M := N2) (a := a) (b := b) h)
  have Hyes := Lib.hid (fun h1 h2 h3 => joinR_yes (op := fun x y => x &&& y) (N := N1) (M := N2) (a := a) (b := b) h1 h2 h3)
  generalize joinR (fun x y => x &&& y) N1 a N2 b = R at *
  unfold rval
  go_enter Tryd.func32, Tryd.ntmps32
  go_wp2_with fail
  generalize ((w.alloc (.cells #[.int .i64 N1, .slice A1 n1 c1] 24)).alloc (.cells #[.int .i64 N2, .slice A2 n2 c2] 24)).alloc (.cells #[.int .i64 0, .slice none 0 0] 24) = w1 at *
  have hz1 := hbel.size
  have ha1 := ha.below (hbel.mono hB)
  have hb1 := hb.below (hbel.mono hB)
  have H1 := Lib.hid (formed_any N1 A1 n1 c1 B a w1 hl1 hn1 ha1 (by omega))
  have Hl1 := Lib.hid hl1
  have Hl2 := Lib.hid hl2
  clear hl1 hl2 ha hb
  by_cases f1 : Rst.formed N1 a = true
  · have F1 := Lib.hid f1
    rw [f1] at H1
    refine H1.out.mono ?_
    rintro e w2 ⟨rfl, hb2⟩
    have hx1 := hx1.below hb2 (by omega)
    have hx2 := hx2.below hb2 (by omega)
    have hx3 := hx3.below hb2 (by omega)
    have hbel := hbel.trans (hb2.mono hz1)
    have ha1 := ha1.below (hb2.mono (by omega))
    have hb1 := hb1.below (hb2.mono (by omega))
    have hz2 := hb2.size
    obtain ⟨c10, c11⟩ := hx1.cell
    obtain ⟨c20, c21⟩ := hx2.cell
    have H2 := Lib.hid (formed_any N2 A2 n2 c2 B b w2 Hl2.out hn2 hb1 (by omega))
    clear H1 f1
    by_cases f2 : Rst.formed N2 b = true
    · have F2 := Lib.hid f2
      rw [f2] at H2
      clear f2
      go_wp2_with fail
      refine H2.out.mono ?_
      rintro e w3 ⟨rfl, hb3⟩
      have hx1 := hx1.below hb3 (by omega)
      have hx2 := hx2.below hb3 (by omega)
      have hx3 := hx3.below hb3 (by omega)
      have hbel := hbel.trans (hb3.mono (by omega))
      have ha1 := ha1.below (hb3.mono (by omega))
      have hb1 := hb1.below (hb3.mono (by omega))
      have hz3 := hb3.size
      clear c10 c11 c20 c21 H2 hb2
      obtain ⟨c10, c11⟩ := hx1.cell
      obtain ⟨c20, c21⟩ := hx2.cell
      by_cases hN : N1 = N2
      · subst hN
        have HR := Lib.hid (Hyes.out F1.out F2.out rfl)
        obtain ⟨r0, r1, r2⟩ := Rst.formed_range F1.out
        obtain ⟨s0, s1, s2⟩ := Rst.formed_range F2.out
        obtain ⟨m, rfl⟩ : ∃ m : Nat, N1 = m := ⟨N1.toNat, by omega⟩
        have hm : m ≤ 4096 := by omega
        rw [Int.toNat_natCast] at r2 s2
        have Hk1 := Lib.hid r2
        have Hk2 := Lib.hid s2
        have hk := need_le hm
        have HE := Lib.hid (fun W => empty_any m W hm)
        have hnn : ((m : Int) != (m : Int)) = false := by simp
        clear r2 s2 r0 r1 s0 s1 Hno Hyes F1 F2
        go_wp2_with fail
        refine (HE.out _).mono ?_
        rintro e w4 ⟨g, rfl, ho, hb4⟩
        unfold rval
        clear HE
        have hg := ho.block
        have hx1 := (hx1.below hb4 (by omega)).alloc (.cells #[.int .i64 (m : Int), .slice (some ⟨g, 0, none⟩) (Rst.need m) (Rst.need m)] 24)
        have hx2 := (hx2.below hb4 (by omega)).alloc (.cells #[.int .i64 (m : Int), .slice (some ⟨g, 0, none⟩) (Rst.need m) (Rst.need m)] 24)
        have hx3 := (hx3.below hb4 (by omega)).alloc (.cells #[.int .i64 (m : Int), .slice (some ⟨g, 0, none⟩) (Rst.need m) (Rst.need m)] 24)
        have hx8 := RBox.new w4 (m : Int) (some ⟨g, 0, none⟩) (Rst.need m) (Rst.need m)
        have hz4 := hb4.size
        have hbel := (hbel.trans (hb4.mono (by omega))).alloc (by omega) (.cells #[.int .i64 (m : Int), .slice (some ⟨g, 0, none⟩) (Rst.need m) (Rst.need m)] 24)
        have hb5 : Below w3.heap.size w3 (w4.alloc (.cells #[.int .i64 (m : Int), .slice (some ⟨g, 0, none⟩) (Rst.need m) (Rst.need m)] 24)) := hb4.alloc hz4 _
        have ho := ho.alloc (.cells #[.int .i64 (m : Int), .slice (some ⟨g, 0, none⟩) (Rst.need m) (Rst.need m)] 24)
        have ha5 := ha1.below (hb5.mono (by omega))
        have hb15 := hb1.below (hb5.mono (by omega))
        have Hj := Lib.hid (joinW_length (op := fun x y => x &&& y) Hk1.out Hk2.out)
        obtain ⟨b8, hb8⟩ : ∃ b8, b8 = w4.heap.size := ⟨_, rfl⟩
        obtain ⟨B3, hB3⟩ : ∃ B3, B3 = w3.heap.size := ⟨_, rfl⟩
        have hn1 : n1 = Rst.need m := by rw [← Hk1.out]; exact Hl1.out.symm
        have hn2 : n2 = Rst.need m := by rw [← Hk2.out]; exact Hl2.out.symm
        subst hn1
        subst hn2
        generalize Rst.need m = S at *
        clear c10 c11 c20 c21 ha1 hb1 hb3
        go_wp2
        generalize w4.alloc (.cells #[.int .i64 (m : Int), .slice (some ⟨g, 0, none⟩) S S] 24) = w5 at *
        rw [← hb8] at hx8 hg hz4 ⊢
        rw [← hB3] at ho hg hz4 hz3
        clear hb8 hB3 hb4 hb5
        have hz5 := hbel.size
        go_loopw [32] (fun i wr => ∃ k : Nat, k ≤ S ∧ i = .int .i64 k ∧ NOwn wr B3 (some ⟨g, 0, none⟩) S S ((Rst.joinW (fun x y => x &&& y) a b).take k ++ List.replicate (S - k) 0) ∧ w5.grownBy wr (some g)) (fun i _ => S - (intOf i).toNat)
        case atStart => exact ⟨0, by omega, rfl, by simpa using ho, World.grownBy.refl _ _⟩
        case round =>
          clear ho
          obtain ⟨k, hk', rfl, ho, hgr⟩ := hrel
          have hx1r := hx1.grown hgr (by intro e; injection e with e; omega)
          have hx2r := hx2.grown hgr (by intro e; injection e with e; omega)
          have hx3r := hx3.grown hgr (by intro e; injection e with e; omega)
          have hx8r := hx8.grown hgr (by intro e; injection e with e; omega)
          have hbelr := hbel.grown hgr (by omega) (by intro j hj; injection hj with hj; omega)
          have har := ha5.keep (w' := wr) (fun p hp => hgr.cell_far p (by omega) (by intro e; injection e with e; omega))
          have hbr := hb15.keep (w' := wr) (fun p hp => hgr.cell_far p (by omega) (by intro e; injection e with e; omega))
          clear hbel
          by_cases hlt : k < S
          · obtain ⟨c10, c11⟩ := hx1r.cell
            obtain ⟨c20, c21⟩ := hx2r.cell
            obtain ⟨c80, c81⟩ := hx8r.cell
            have hka : k < a.length := by have := Hl1.out; omega
            have hkb : k < b.length := by have := Hl2.out; omega
            obtain ⟨ad1, rfl, hadB1, d1⟩ := har.get hka
            obtain ⟨ad2, rfl, hadB2, d2⟩ := hbr.get hkb
            obtain ⟨hkj, hjk⟩ := joinW_get (op := fun x y => x &&& y) hka hkb
            have hox := Rst.u64_lt a[k]
            have hoy := Rst.u64_lt b[k]
            have hkl : k < ((Rst.joinW (fun x y => x &&& y) a b).take k ++ List.replicate (S - k) 0).length := by rw [ho.len]; exact hlt
            have hcell := ho.cell hkl
            have hfree := ho.free k
            have hst := ho.store k (Rst.joinW (fun x y => x &&& y) a b)[k]
            have hv := (Rst.op_and _ _ hox hoy).1
            rw [fillU_set 0 Hj.out hlt, hjk, uval_ofNat hv] at hst
            have HW := Lib.hid (fun W => andWord_any a[k].toNat b[k].toNat W hox hoy)
            have Hst := Lib.hid hst
            have Hg := Lib.hid (fun u => Lib.grownBy_setB hgr k u)
            simp only [uval] at d1 d2 hcell
            generalize (((Rst.joinW (fun x y => x &&& y) a b).take k ++ List.replicate (S - k) 0)[k].toNat : Int) = old at *
            generalize a[k].toNat = x at *
            generalize b[k].toNat = y at *
            generalize (x &&& y) = z at *
            obtain ⟨X, hX⟩ : ∃ X : Int, X = (x : Int) := ⟨_, rfl⟩
            obtain ⟨Y, hY⟩ : ∃ Y : Int, Y = (y : Int) := ⟨_, rfl⟩
            rw [← hX, ← hY] at HW
            rw [← hX] at d1
            rw [← hY] at d2
            have hne8 : some b8 ≠ some g := by intro e; injection e with e; omega
            have hne0 : some w.heap.size ≠ some g := by intro e; injection e with e; omega
            have hne1 : some (w.heap.size + 1) ≠ some g := by intro e; injection e with e; omega
            have hnd1 : some (ad1.add k).block ≠ some g := by rw [addr_add_block]; intro e; injection e with e; omega
            have hnd2 : some (ad2.add k).block ≠ some g := by rw [addr_add_block]; intro e; injection e with e; omega
            have HS := Lib.hid (fun u => have hs := Lib.grownBy_setB (World.grownBy.refl wr (some g)) k u
              (⟨hs.cell c81 hne8, hs.cell c11 hne0, hs.cell c21 hne1, hs.cell d1 hnd1, hs.cell d2 hnd2⟩ :
                (wr.setCell ⟨g, k, none⟩ u).cell? ⟨b8, 1, none⟩ = some (.slice (some ⟨g, 0, none⟩) S S) ∧ (wr.setCell ⟨g, k, none⟩ u).cell? ⟨w.heap.size, 1, none⟩ = some (.slice (some ad1) S c1) ∧ (wr.setCell ⟨g, k, none⟩ u).cell? ⟨w.heap.size + 1, 1, none⟩ = some (.slice (some ad2) S c2) ∧
                (wr.setCell ⟨g, k, none⟩ u).cell? (ad1.add k) = some (.int .u64 X) ∧ (wr.setCell ⟨g, k, none⟩ u).cell? (ad2.add k) = some (.int .u64 Y)))
            clear hne8 hne0 hne1 hnd1 hnd2
            have HX1 := Lib.hid hx1
            have HX2 := Lib.hid hx2
            have HX3 := Lib.hid hx3
            have HX8 := Lib.hid hx8
            clear hX hY hst ho hgr hjk hox hoy hv hkl hkj hx1 hx2 hx3 hx8 hx1r hx2r hx3r hx8r hbelr
            go_wp2_with fail
            go_region_held3 (fun w' => w'.cell? ⟨b8, 1, none⟩ = some (.slice (some ⟨g, 0, none⟩) S S) ∧ w'.cell? ⟨w.heap.size, 1, none⟩ = some (.slice (some ad1) S c1) ∧ w'.cell? ⟨w.heap.size + 1, 1, none⟩ = some (.slice (some ad2) S c2) ∧ w'.cell? (ad1.add k) = some (.int .u64 X) ∧ w'.cell? (ad2.add k) = some (.int .u64 Y))
              (first | exact ⟨c81, c11, c21, d1, d2⟩ | exact HS.out _) (first | (go_at_call 33; refine (HW.out _).mono ?_; rintro e w8 ⟨rfl, rfl⟩))
            go_wp2
            go_roundw
            case rel => exact ⟨k + 1, by omega, by go_num, Hst.out, grown_drew (Hg.out _)⟩
            case measure => simp [intOf]; omega
          · obtain rfl : k = S := by omega
            obtain ⟨c30, c31⟩ := hx3r.cell
            obtain ⟨c80, c81⟩ := hx8r.cell
            have f30 := hx3r.free 0
            have f31 := hx3r.free 1
            rw [Nat.sub_self, List.replicate_zero, List.append_nil, List.take_of_length_le (by rw [Hj.out]; exact Nat.le_refl _)] at ho
            have hlt6 : w.heap.size + 1 + 1 < B3 := by omega
            clear hx1 hx2 hx3 hx8 hx1r hx2r hx3r hx8r
            go_wp2
            have hone : ∀ u v, NOwn ((wr.setCell ⟨w.heap.size + 1 + 1, 0, none⟩ u).setCell ⟨w.heap.size + 1 + 1, 1, none⟩ v) w.heap.size (some ⟨g, 0, none⟩) k k (Rst.joinW (fun x y => x &&& y) a b) := fun u v => ((ho.setFar hlt6 u).setFar hlt6 v).low (by omega)
            exact bodyPost_ret (v := .tuple #[rval (m : Int) (some ⟨g, 0, none⟩) k k, .int .i64 0]) (by simp [results, Tryd.results32, go_sem, rval, c30, c31]) rfl
              (SetPost.yes HR.out Hj.out (hone _ _) ((hbelr.setCell (by simp; omega) _).setCell (by simp; omega) _))
      · have HR := Lib.hid (Hno.out (fun h => hN h.2.2))
        have hne : (N1 != N2) = true := by simp [hN]
        obtain ⟨c30, c31⟩ := hx3.cell
        have f30 := hx3.free 0
        have f31 := hx3.free 1
        clear hN Hno Hyes F1 F2
        go_wp2
        exact bodyPost_ret (v := .tuple #[rval 0 none 0 0, .int .i64 1]) (by simp [results, Tryd.results32, go_sem, rval, c30, c31]) rfl
          (SetPost.no HR.out ((hbel.setCell (by simp; omega) _).setCell (by simp; omega) _))
    · rw [Bool.not_eq_true] at f2
      have HR := Lib.hid (Hno.out (fun h => by rw [f2] at h; cases h.2.1))
      rw [f2] at H2
      go_wp2_with fail
      refine H2.out.mono ?_
      rintro e w3 ⟨rfl, hb3⟩
      have hx3 := hx3.below hb3 (by omega)
      have hbel := hbel.trans (hb3.mono (by omega))
      obtain ⟨c30, c31⟩ := hx3.cell
      have f30 := hx3.free 0
      have f31 := hx3.free 1
      clear H2 f2 hb3 hx1 hx2 c10 c11 c20 c21
      go_wp2
      exact bodyPost_ret (v := .tuple #[rval 0 none 0 0, .int .i64 1]) (by simp [results, Tryd.results32, go_sem, rval, c30, c31]) rfl
        (SetPost.no HR.out ((hbel.setCell (by simp; omega) _).setCell (by simp; omega) _))
  · rw [Bool.not_eq_true] at f1
    have HR := Lib.hid (Hno.out (fun h => by rw [f1] at h; cases h.1))
    rw [f1] at H1
    refine H1.out.mono ?_
    rintro e w2 ⟨rfl, hb2⟩
    have hx3 := hx3.below hb2 (by omega)
    have hbel := hbel.trans (hb2.mono hz1)
    obtain ⟨c30, c31⟩ := hx3.cell
    have f30 := hx3.free 0
    have f31 := hx3.free 1
    clear H1 f1 hb2 hx1 hx2
    go_wp2
    exact bodyPost_ret (v := .tuple #[rval 0 none 0 0, .int .i64 1]) (by simp [results, Tryd.results32, go_sem, rval, c30, c31]) rfl
      (SetPost.no HR.out ((hbel.setCell (by simp; omega) _).setCell (by simp; omega) _))

set_option maxHeartbeats 400000 in
theorem and_any (N1 N2 : Int) (A1 A2 : Option Addr) (n1 n2 c1 c2 B : Nat) (a b : List UInt64) (w : World) (hl1 : a.length = n1) (hl2 : b.length = n2) (hn1 : n1 ≤ 140737488351232) (hn2 : n2 ≤ 140737488351232)
    (ha : Nums w B A1 a) (hb : Nums w B A2 b) (hB : B ≤ w.heap.size) :
    Calls Tryd.prog 19 #[rval N1 A1 n1 c1, rval N2 A2 n2 c2] w (SetPost w (joinR (fun x y => x &&& y) N1 a N2 b)) := by
  have hx1 := ((RBox.new w N1 A1 n1 c1).alloc (.cells #[.int .i64 N2, .slice A2 n2 c2] 24)).alloc (.cells #[.int .i64 0, .slice none 0 0] 24)
  have hx2 := (RBox.new (w.alloc (.cells #[.int .i64 N1, .slice A1 n1 c1] 24)) N2 A2 n2 c2).alloc (.cells #[.int .i64 0, .slice none 0 0] 24)
  have hx3 := RBox.new ((w.alloc (.cells #[.int .i64 N1, .slice A1 n1 c1] 24)).alloc (.cells #[.int .i64 N2, .slice A2 n2 c2] 24)) 0 none 0 0
  have hbel : Below w.heap.size w (((w.alloc (.cells #[.int .i64 N1, .slice A1 n1 c1] 24)).alloc (.cells #[.int .i64 N2, .slice A2 n2 c2] 24)).alloc (.cells #[.int .i64 0, .slice none 0 0] 24)) :=
    (((Below.refl _ _).alloc (Nat.le_refl _) _).alloc (by simp) _).alloc (by simp; omega) _
  have hsz : (((w.alloc (.cells #[.int .i64 N1, .slice A1 n1 c1] 24)).alloc (.cells #[.int .i64 N2, .slice A2 n2 c2] 24)).alloc (.cells #[.int .i64 0, .slice none 0 0] 24)).heap.size = w.heap.size + 1 + 1 + 1 := by simp
  have e1 : (w.alloc (.cells #[.int .i64 N1, .slice A1 n1 c1] 24)).heap.size = w.heap.size + 1 := by simp
  have e2 : ((w.alloc (.cells #[.int .i64 N1, .slice A1 n1 c1] 24)).alloc (.cells #[.int .i64 N2, .slice A2 n2 c2] 24)).heap.size = w.heap.size + 1 + 1 := by simp
  rw [e1] at hx2
  rw [e2] at hx3
  clear e1 e2
  have ha1 := ha.below (hbel.mono hB)
  have hb1 := hb.below (hbel.mono hB)
  have HC := Lib.hid (combine_and N1 N2 A1 A2 n1 n2 c1 c2 B a b _ hl1 hl2 hn1 hn2 ha1 hb1 (by have := hbel.size; omega))
  generalize joinR (fun x y => x &&& y) N1 a N2 b = R at *
  obtain ⟨⟨N, ws⟩, ε⟩ := R
  clear hl1 hl2 ha hb ha1 hb1
  unfold rval at HC ⊢
  go_enter Tryd.func19, Tryd.ntmps19
  go_wp2_with fail
  generalize ((w.alloc (.cells #[.int .i64 N1, .slice A1 n1 c1] 24)).alloc (.cells #[.int .i64 N2, .slice A2 n2 c2] 24)).alloc (.cells #[.int .i64 0, .slice none 0 0] 24) = w1 at *
  refine HC.out.mono ?_
  rintro e w2 ⟨A, c, rfl, ho, hb2⟩
  unfold rval
  have hx3 := hx3.below hb2 (by omega)
  obtain ⟨c30, c31⟩ := hx3.cell
  have f30 := hx3.free 0
  have f31 := hx3.free 1
  have hbel := hbel.trans (hb2.mono (by omega))
  have hlt6 : w.heap.size + 1 + 1 < w1.heap.size := by omega
  clear HC hb2 hx1 hx2 hx3
  simp only at ho ⊢
  go_wp2
  have hone : ∀ u v, NOwn ((w2.setCell ⟨w.heap.size + 1 + 1, 0, none⟩ u).setCell ⟨w.heap.size + 1 + 1, 1, none⟩ v) w.heap.size A ws.length c ws := fun u v => ((ho.setFar hlt6 u).setFar hlt6 v).low (by omega)
  exact bodyPost_ret (v := .tuple #[rval N A ws.length c, .int .i64 (ε : Int)]) (by simp [results, Tryd.results19, go_sem, rval, c30, c31]) rfl
    ⟨A, c, rfl, hone _ _, ((hbel.setCell (by simp; omega) _).setCell (by simp; omega) _)⟩

/-- of two formed sets of n rows each -/
theorem andB {n : Nat} (hn : n ≤ 4096) (x y : List Bool) (hx : x.length = n) (hy : y.length = n) (A1 A2 : Option Addr) (c1 c2 : Nat) (W : World) (h1 : Nums W W.heap.size A1 (Rst.pack x)) (h2 : Nums W W.heap.size A2 (Rst.pack y)) :
    Calls Tryd.prog 19 #[.agg #[.int .i64 (n : Int), .slice A1 (Rst.need n) c1], .agg #[.int .i64 (n : Int), .slice A2 (Rst.need n) c2]] W fun e w' =>
      ∃ A c, e = .returned (.tuple #[.agg #[.int .i64 (n : Int), .slice A (Rst.need n) c], .int .i64 0]) ∧ Nums w' w'.heap.size A (Rst.pack (List.zipWith (fun a b => a && b) x y)) ∧ Below W.heap.size W w' := by
  have hk := need_le hn
  have hf1 : Rst.formed (n : Int) (Rst.pack x) = true := by rw [← hx]; exact Rst.formed_pack (by omega)
  have hf2 : Rst.formed (n : Int) (Rst.pack y) = true := by rw [← hy]; exact Rst.formed_pack (by omega)
  have h := and_any (n : Int) (n : Int) A1 A2 (Rst.need n) (Rst.need n) c1 c2 W.heap.size (Rst.pack x) (Rst.pack y) W (by rw [Rst.pack_length, hx]) (by rw [Rst.pack_length, hy]) (by omega) (by omega) h1 h2 (Nat.le_refl _)
  rw [joinR_yes hf1 hf2 rfl, Rst.join_pack (f := fun a b => a && b) rfl Rst.op_and (hx.trans hy.symm)] at h
  refine h.mono ?_
  rintro e w' ⟨A, c, rfl, ho, hb⟩
  have hl : (Rst.pack (List.zipWith (fun a b => a && b) x y)).length = Rst.need n := by rw [Rst.pack_length, List.length_zipWith, hx, hy, Nat.min_self]
  exact ⟨A, c, by simp only [hl]; rfl, ho.row, hb⟩
/-- refused -/
theorem andE (N1 N2 : Int) (A1 A2 : Option Addr) (n1 n2 c1 c2 : Nat) (a b : List UInt64) (W : World) (hl1 : a.length = n1) (hl2 : b.length = n2) (hn1 : n1 ≤ 140737488351232) (hn2 : n2 ≤ 140737488351232) (h1 : Nums W W.heap.size A1 a) (h2 : Nums W W.heap.size A2 b)
    (hno : ¬ (Rst.formed N1 a = true ∧ Rst.formed N2 b = true ∧ N1 = N2)) :
    Calls Tryd.prog 19 #[.agg #[.int .i64 N1, .slice A1 n1 c1], .agg #[.int .i64 N2, .slice A2 n2 c2]] W fun e w' =>
      ∃ A c, e = .returned (.tuple #[.agg #[.int .i64 0, .slice A 0 c], .int .i64 1]) ∧ Nums w' w'.heap.size A [] ∧ Below W.heap.size W w' := by
  have h := and_any N1 N2 A1 A2 n1 n2 c1 c2 W.heap.size a b W hl1 hl2 hn1 hn2 h1 h2 (Nat.le_refl _)
  rw [joinR_no hno] at h
  refine h.mono ?_
  rintro e w' ⟨A, c, rfl, ho, hb⟩
  exact ⟨A, c, rfl, ho.row, hb⟩
end Go.Proofs.YtggelnlbdpdegaaDoor
