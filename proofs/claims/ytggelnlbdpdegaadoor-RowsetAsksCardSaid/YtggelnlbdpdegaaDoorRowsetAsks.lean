/- PROVED: the law RowsetAsks (whether any set is formed, has a row, how many, and of which granules, is the document's, and the set stays) returns true and leaves its arguments as they were, for every argument, where the table of math/bits reads as the program's text lays it.
   Conditions: none but the form's own reach (a slice has fewer than 2^47 bytes). -/
import Derived.Test.YtggelnlbdpdegaaDoorRstArg
import Derived.Test.YtggelnlbdpdegaaDoorRstUni
import Derived.Test.YtggelnlbdpdegaaDoorRstGran
import Derived.Test.YtggelnlbdpdegaaDoorRstRefG
import Derived.Test.YtggelnlbdpdegaaDoorRstVars
namespace Go.Proofs.YtggelnlbdpdegaaDoor.rowsetAsks
open Go.ChangeShapes Go.WideShapes Go.ChangeAt Go.RowKit
set_option maxRecDepth 100000

theorem has_mem (N : Int) (ws : List UInt64) (i : Int) : hasRow N ws i = decide (i ∈ asInts (listR N ws)) := by
  unfold hasRow listR
  by_cases hf : Rst.formed N ws = true
  · rw [if_pos hf, hf, Bool.true_and]
    rw [Bool.eq_iff_iff]
    simp only [Bool.and_eq_true, decide_eq_true_eq]
    constructor
    · rintro ⟨h0, h1, h2⟩
      exact List.mem_map.2 ⟨i.toNat, Rst.rows_mem.2 ⟨by omega, h2⟩, by omega⟩
    · intro h
      obtain ⟨r, hr, rfl⟩ := List.mem_map.1 h
      obtain ⟨h1, h2⟩ := Rst.rows_mem.1 hr
      exact ⟨by omega, by omega, by simpa using h2⟩
  · rw [if_neg hf]
    rw [Bool.not_eq_true] at hf
    rw [hf]
    simp [asInts]
theorem count_list (N : Int) (ws : List UInt64) : countRow N ws = (listR N ws).length := by
  rw [← walked_rows]
  unfold countRow walked
  by_cases hf : Rst.formed N ws = true
  · rw [if_pos hf, if_pos hf, Rst.rows_length]
    rfl
  · rw [if_neg hf, if_neg hf]
    simp [Rst.rows]
theorem step (i : Int) (l : List Int) (k : Nat) (h : k < l.length) : decide (i ∈ l.take (k + 1)) = (decide (i ∈ l.take k) || (l[k] == i)) := by
  rw [List.take_succ_eq_append_getElem h, Bool.eq_iff_iff]
  simp only [decide_eq_true_eq, Bool.or_eq_true, List.mem_append, List.mem_singleton, beq_iff_eq]
  exact ⟨fun h => h.imp id Eq.symm, fun h => h.imp id Eq.symm⟩
theorem gran_short (N : Int) (ws : List UInt64) : (granR N ws).length ≤ 4096 := by
  unfold granR asInts
  rw [List.length_map]
  exact Nat.le_trans (Rst.gran_length _) (listR_small N ws)
theorem granL (N : Int) (A : Option Addr) (n c : Nat) (ws : List UInt64) (l : List Int) (he : granR N ws = l) (W : World) (hl : ws.length = n) (hn : 8 * n ≤ 140737488351232) (hb : Nums W W.heap.size A ws) (ht : Tab64 W) :
    Calls Tryd.prog 14 #[.agg #[.int .i64 N, .slice A n c]] W fun e w' => ∃ A' c', e = .returned (.slice A' l.length c') ∧ Ints w' w'.heap.size A' l ∧ Below W.heap.size W w' := by
  refine (granules_any N A n c W.heap.size ws W hl hn hb (Nat.le_refl _) ht).mono ?_
  rintro e w' ⟨A', m, c', rfl, ho, hb⟩
  have hm := ho.len
  rw [he] at ho hm
  subst hm
  exact ⟨A', c', rfl, ho.row, hb⟩
theorem intsL (A1 A2 : Option Addr) (k c1 c2 : Nat) (l : List Int) (hk : l.length = k) (hs : k ≤ 4096) (W : World) (h1 : Ints W W.heap.size A1 l) (h2 : Ints W W.heap.size A2 l) :
    Calls Tryd.prog 13 #[.slice A1 k c1, .slice A2 k c2] W fun e w' => e = .returned (.bool true) ∧ Below W.heap.size W w' := by
  have h := ints_any A1 A2 k k c1 c2 W.heap.size W.heap.size l l W hk hk (by omega) (by omega) h1 h2
  rw [decide_eq_true rfl] at h
  exact h.mono fun e w' ⟨he, hd⟩ => ⟨he, hd.below _⟩

theorem refGranL (N : Int) (A : Option Addr) (n c : Nat) (ws : List UInt64) (l : List Int) (he : granR N ws = l) (W : World) (hl : ws.length = n) (hn : 8 * n ≤ 140737488351232) (hb : Nums W W.heap.size A ws) :
    Calls Tryd.prog 15 #[.agg #[.int .i64 N, .slice A n c]] W fun e w' => ∃ A' c', e = .returned (.slice A' l.length c') ∧ Ints w' w'.heap.size A' l ∧ Below W.heap.size W w' := by
  refine (refGranules_any N A n c W.heap.size ws W hl (by omega) hb (Nat.le_refl _)).mono ?_
  rintro e w' ⟨A', m, c', rfl, ho, hb⟩
  have hm := ho.len
  rw [he] at ho hm
  subst hm
  exact ⟨A', c', rfl, ho.row, hb⟩
theorem sameL (M : Int) (ws : List UInt64) (k : Nat) (hk : ws.length = k) (h : 8 * k ≤ 140737488351232) (A1 A2 : Option Addr) (c1 c2 : Nat) (W : World) (h1 : Nums W W.heap.size A1 ws) (h2 : Nums W W.heap.size A2 ws) :
    Calls Tryd.prog 16 #[.agg #[.int .i64 M, .slice A1 k c1], .agg #[.int .i64 M, .slice A2 k c2]] W fun e w' => e = .returned (.bool true) ∧ Below W.heap.size W w' := by
  have h := same_any M M A1 A2 k k c1 c2 W.heap.size W.heap.size ws ws W hk hk (by omega) (by omega) h1 h2 (Nat.le_refl _) (Nat.le_refl _)
  rw [decide_eq_true ⟨rfl, rfl⟩] at h
  exact h

set_option maxHeartbeats 16000000 in
theorem walk (N0 : Int) (a0 : Option Addr) (n0 cap0 : Nat) (l0 : List UInt64) (i : Int) (w : World)
    (_na0 : -9223372036854775808 ≤ N0) (_nb0 : N0 ≤ 9223372036854775807) (e0 : l0.length = n0) (_ec0 : n0 ≤ cap0) (hn0 : 8 * n0 ≤ 140737488351232) (b0 : Nums w w.heap.size a0 l0) (_na1 : -9223372036854775808 ≤ i) (_nb1 : i ≤ 9223372036854775807) (ht : Tab64 w) :
    Calls Tryd.prog 3 #[rval N0 a0 n0 cap0, .int .i64 i] w fun e w' => e = .returned (.bool true) ∧ Below w.heap.size w w' := by
  have CFo := (fun A c W h => formed_any N0 A n0 c W.heap.size l0 W e0 (by omega) h (Nat.le_refl _))
  have CFr := (fun A c W h => refFormed_any N0 A n0 c W.heap.size l0 W e0 (by omega) h (Nat.le_refl _))
  have CH := (fun A c W h => has_any N0 A n0 c W.heap.size l0 i W e0 (by omega) h (Nat.le_refl _))
  have CC := (fun A c W h => count_any N0 A n0 c W.heap.size l0 W e0 (by omega) h (Nat.le_refl _))
  rw [has_mem] at CH
  rw [count_list] at CC
  have CL := (fun A c W h => list_any N0 A n0 c W.heap.size l0 W e0 (by omega) h (Nat.le_refl _))
  have hPs := listR_small N0 l0
  have hGs := gran_short N0 l0
  obtain ⟨G, hG⟩ : ∃ G, granR N0 l0 = G := ⟨_, rfl⟩
  obtain ⟨P, hP⟩ : ∃ P, asInts (listR N0 l0) = P := ⟨_, rfl⟩
  have hPl : P.length = (listR N0 l0).length := by rw [← hP]; exact asInts_length _
  rw [← hPl] at CC hPs
  rw [hP] at CH CL
  have CG := (fun A c W h1 h2 => granL N0 A n0 c l0 G hG W e0 hn0 h1 h2)
  have CR := (fun A c W h1 => refGranL N0 A n0 c l0 G hG W e0 hn0 h1)
  have CS := (fun A1 A2 c1 c2 W h1 h2 => sameL N0 l0 n0 e0 hn0 A1 A2 c1 c2 W h1 h2)
  have CP := (fun A c W h1 => copy_any N0 A n0 c W.heap.size l0 W e0 hn0 h1 (Nat.le_refl _))
  rw [hG] at hGs
  obtain ⟨m, hm⟩ : ∃ m, G.length = m := ⟨_, rfl⟩
  have CI := (fun A1 A2 c1 c2 W h1 h2 => intsL A1 A2 m c1 c2 G hm (by omega) W h1 h2)
  rw [hm] at CG CR
  generalize Rst.formed N0 l0 = F at *
  clear hPl hP hG hGs hm e0
  obtain ⟨L, hL⟩ : ∃ L, P.length = L := ⟨_, rfl⟩
  rw [hL] at CC hPs
  obtain ⟨H, hH⟩ : ∃ H, decide (i ∈ P) = H := ⟨_, rfl⟩
  rw [hH] at CH
  have HH := Lib.hid hH
  have HL := Lib.hid hL
  clear hH hL
  unfold rval at CFo CFr CH CC CL CP
  replace CFo := Lib.hid CFo
  replace CFr := Lib.hid CFr
  replace CH := Lib.hid CH
  replace CC := Lib.hid CC
  replace CL := Lib.hid CL
  replace CG := Lib.hid CG
  replace CR := Lib.hid CR
  replace CS := Lib.hid CS
  replace CP := Lib.hid CP
  replace CI := Lib.hid CI
  have x0 := (RBox.new w N0 a0 n0 cap0)
  have hbel : Below w.heap.size w (w.alloc (.cells #[.int .i64 N0, .slice a0 n0 cap0] 24)) := by
    refine Below.alloc (Below.refl _ _) ?_ _ <;> (simp <;> omega)
  have r0 := (b0.below hbel).wide hbel.size
  have ht := ht.on hbel
  clear b0
  unfold rval
  go_enter Tryd.func3, Tryd.ntmps3
  go_wp2_with fail
  generalize (w.alloc (.cells #[.int .i64 N0, .slice a0 n0 cap0] 24)) = w0 at *
  refine (rstAlive_any w0).mono ?_
  rintro e w1 ⟨rfl, hb⟩
  have x0 := x0.below hb x0.lt
  have r0 := (r0.below hb).wide hb.size
  have hbel := hbel.trans (hb.mono hbel.size)
  have ht := ht.on hb
  clear hb
  obtain ⟨c_x0_0, c_x0_1⟩ := x0.cell
  go_wp2_with fail
  refine (CP.out _ _ _ r0).mono ?_
  rintro e w2 ⟨A3, c3, rfl, q3o, hb⟩
  have x0 := x0.below hb x0.lt
  have r0 := (r0.below hb).wide hb.size
  have hbel := hbel.trans (hb.mono hbel.size)
  have ht := ht.on hb
  clear hb
  have q3 := q3o.row
  clear q3o
  have hbA : Below w2.heap.size w2 (w2.alloc (.cells #[.int .i64 N0, .slice A3 n0 c3] 24)) := (Below.refl _ _).alloc (Nat.le_refl _) _
  have x3N := RBox.new w2 N0 A3 n0 c3
  have x0 := x0.below hbA x0.lt
  have r0 := (r0.below hbA).wide hbA.size
  have q3 := (q3.below hbA).wide hbA.size
  have hbel := hbel.trans (hbA.mono hbel.size)
  have ht := ht.on hbA
  obtain ⟨b_x3, hb_x3⟩ : ∃ b, b = w2.heap.size := ⟨_, rfl⟩
  rw [← hb_x3] at x3N
  have HB_x3 := Lib.hid hb_x3
  have x3 := x3N
  clear hbA x3N hb_x3
  clear c_x0_0 c_x0_1
  obtain ⟨c_x0_0, c_x0_1⟩ := x0.cell
  obtain ⟨c_x3_0, c_x3_1⟩ := x3.cell
  go_wp2_with fail
  generalize (w2.alloc (.cells #[.int .i64 N0, .slice A3 n0 c3] 24)) = w3 at *
  rw [← HB_x3.out]
  refine (CL.out _ _ _ r0).mono ?_
  rintro e w4 ⟨A4, p, c4, rfl, q4o, hb⟩
  have x0 := x0.below hb x0.lt
  have x3 := x3.below hb x3.lt
  have r0 := (r0.below hb).wide hb.size
  have q3 := (q3.below hb).wide hb.size
  have hbel := hbel.trans (hb.mono hbel.size)
  have ht := ht.on hb
  clear hb
  have q4 := q4o.row
  have hpL : L = p := by rw [← HL.out]; exact q4o.len
  clear q4o
  subst hpL
  clear c_x0_0 c_x0_1 c_x3_0 c_x3_1
  go_wp2
  go_loopw [7, 8] (fun h x wr => ∃ (k : Nat), k ≤ L ∧ x = .int .i64 k ∧ h = .bool (decide (i ∈ P.take k)) ∧ w4 = wr) (fun _ x _ => L - (intOf x).toNat)
  case atStart => exact ⟨0, Nat.zero_le _, rfl, by simp, rfl⟩
  case round =>
    obtain ⟨k, hk, rfl, rfl, rfl⟩ := hrel
    by_cases hlt : k < L
    · have hk' : k < P.length := by rw [HL.out]; exact hlt
      obtain ⟨ad, rfl, _, d1⟩ := q4.get hk'
      have hst := step i P k hk'
      simp only [ival] at d1
      generalize P[k] = x at *
      have i1 : (k : Int) < (L : Int) := by omega
      have i0 : (0 : Int) ≤ (k : Int) := by omega
      rcases hm : decide (i ∈ P.take k) with _ | _
      · rw [hm, Bool.false_or] at hst
        rcases hx : (x == i) with _ | _
        · have Hs := Lib.hid (hst.trans hx)
          clear hst hm
          go_wp2
          go_roundw
          case rel => exact ⟨k + 1, by omega, by go_num, by rw [Hs.out], by trivial⟩
          case measure => simp [intOf]; omega
        · have Hs := Lib.hid (hst.trans hx)
          clear hst hm
          go_wp2
          go_roundw
          case rel => exact ⟨k + 1, by omega, by go_num, by rw [Hs.out], by trivial⟩
          case measure => simp [intOf]; omega
      · rw [hm, Bool.true_or] at hst
        have Hs := Lib.hid hst
        clear hst hm
        go_wp2
        go_roundw
        case rel => exact ⟨k + 1, by omega, by go_num, by rw [Hs.out], by trivial⟩
        case measure => simp [intOf]; omega
    · obtain rfl : L = k := by omega
      rw [List.take_of_length_le (by rw [HL.out]; exact Nat.le_refl _), HH.out]
      clear HH HL
      go_wp2_with fail
      have hBel : Below w4.heap.size w4 w4 := Below.refl _ _
      have HK := Lib.hid (fun W' (h : Below w4.heap.size w4 W') =>
        (⟨(x3.below h x3.lt).cell.1, (x3.below h x3.lt).cell.2, (x0.below h x0.lt).cell.1, (x0.below h x0.lt).cell.2⟩ : W'.cell? ⟨b_x3, 0, none⟩ = some (.int .i64 N0) ∧ W'.cell? ⟨b_x3, 1, none⟩ = some (.slice A3 n0 c3) ∧ W'.cell? ⟨w.heap.size, 0, none⟩ = some (.int .i64 N0) ∧ W'.cell? ⟨w.heap.size, 1, none⟩ = some (.slice a0 n0 cap0)))
      replace hBel := hBel.drew
      refine wp_region_held_drew (S := fun W' => W'.cell? ⟨b_x3, 0, none⟩ = some (.int .i64 N0) ∧ W'.cell? ⟨b_x3, 1, none⟩ = some (.slice A3 n0 c3) ∧ W'.cell? ⟨w.heap.size, 0, none⟩ = some (.int .i64 N0) ∧ W'.cell? ⟨w.heap.size, 1, none⟩ = some (.slice a0 n0 cap0)) (by kernel_rfl) (HK.out _ hBel) (fun hHeld => ?_)
      change wpAnyH _ _ _ _ _ 32 #[false, false, false, false, false, false, false, false, false, false, false, false, false, false, false, false, false, false, false, false, false, false, false, false, false, false, false, false, false, false, false, false] _ _
      generalize w4.drew = wD at *
      refine wpAnyH_take (i := 0) (oi := { dst := some 30, op := _, type := _, pos := _, after := _, guard := _ }) (v := (.agg #[.int .i64 N0, .slice A3 n0 c3])) rfl (by kernel_rfl) (by kernel_rfl) (by kernel_rfl) (fun _ _ _ h => h) (Or.inl ⟨by rfl, by intro w hSw; (try dsimp only at hSw); go_simp⟩) (by assumption) ?_
      simp only [Act.put, List.setIfInBounds_toArray, List.set_cons_zero, List.set_cons_succ]
      refine wpAnyH_take (i := 2) (oi := { dst := some 32, op := _, type := _, pos := _, after := _, guard := _ }) (v := (.agg #[.int .i64 N0, .slice a0 n0 cap0])) rfl (by kernel_rfl) (by kernel_rfl) (by kernel_rfl) (fun _ _ _ h => h) (Or.inl ⟨by rfl, by intro w hSw; (try dsimp only at hSw); go_simp⟩) (by assumption) ?_
      simp only [Act.put, List.setIfInBounds_toArray, List.set_cons_zero, List.set_cons_succ]
      refine wpAnyH_ready (rs := [1]) (by kernel_rfl) (by simp) ?_
      refine AllReadyH.cons (o := { dst := some 31, op := _, type := _, pos := _, after := _, guard := _ }) rfl (fun KK hK => ?_) ?_
      · go_simp
        refine (CFo.out A3 c3 _ ((q3.below hBel).wide hBel.size)).mono ?_
        rintro e wq ⟨rfl, hq⟩
        go_wp2_with fail
        replace hBel := hBel.trans (hq.mono hBel.size)
        clear hq
        refine hK.out _ _ (HK.out _ hBel) (fun hHeld => ?_)
        clear hK KK
        simp only [List.setIfInBounds_toArray, List.set_cons_zero, List.set_cons_succ]
        refine wpAnyH_ready (rs := [3]) (by kernel_rfl) (by simp) ?_
        refine AllReadyH.cons (o := { dst := some 33, op := _, type := _, pos := _, after := _, guard := _ }) rfl (fun KK hK => ?_) ?_
        · go_simp
          refine (CFr.out a0 cap0 _ ((r0.below hBel).wide hBel.size)).mono ?_
          rintro e wq ⟨rfl, hq⟩
          go_wp2_with fail
          replace hBel := hBel.trans (hq.mono hBel.size)
          clear hq
          refine hK.out _ _ (HK.out _ hBel) (fun hHeld => ?_)
          clear hK KK
          simp only [List.setIfInBounds_toArray, List.set_cons_zero, List.set_cons_succ]
          refine wpAnyH_take (i := 4) (oi := { dst := some 34, op := _, type := _, pos := _, after := _, guard := _ }) (v := (.bool true)) rfl (by kernel_rfl) (by kernel_rfl) (by kernel_rfl) (fun _ _ _ h => h) (Or.inl ⟨by rfl, by intro w hSw; (try dsimp only at hSw); go_simp⟩) (by assumption) ?_
          simp only [Act.put, List.setIfInBounds_toArray, List.set_cons_zero, List.set_cons_succ]
          refine wpAnyH_take (i := 5) (oi := { dst := some 35, op := _, type := _, pos := _, after := _, guard := _ }) (v := (.bool true)) rfl (by kernel_rfl) (by kernel_rfl) (by kernel_rfl) (fun _ _ _ h => h) (Or.inl ⟨by rfl, fun _ _ => rfl⟩) (by assumption) ?_
          simp only [Act.put, List.setIfInBounds_toArray, List.set_cons_zero, List.set_cons_succ]
          refine wpAnyH_take (i := 6) (oi := { dst := some 36, op := _, type := _, pos := _, after := _, guard := _ }) (v := (.agg #[.int .i64 N0, .slice A3 n0 c3])) rfl (by kernel_rfl) (by kernel_rfl) (by kernel_rfl) (fun _ _ _ h => h) (Or.inl ⟨by rfl, by intro w hSw; (try dsimp only at hSw); go_simp⟩) (by assumption) ?_
          simp only [Act.put, List.setIfInBounds_toArray, List.set_cons_zero, List.set_cons_succ]
          refine wpAnyH_take (i := 7) (oi := { dst := some 37, op := _, type := _, pos := _, after := _, guard := _ }) (v := (.int .i64 i)) rfl (by kernel_rfl) (by kernel_rfl) (by kernel_rfl) (fun _ _ _ h => h) (Or.inl ⟨by rfl, fun _ _ => rfl⟩) (by assumption) ?_
          simp only [Act.put, List.setIfInBounds_toArray, List.set_cons_zero, List.set_cons_succ]
          refine wpAnyH_take (i := 9) (oi := { dst := some 39, op := _, type := _, pos := _, after := _, guard := _ }) (v := (.bool H)) rfl (by kernel_rfl) (by kernel_rfl) (by kernel_rfl) (fun _ _ _ h => h) (Or.inl ⟨by rfl, fun _ _ => rfl⟩) (by assumption) ?_
          simp only [Act.put, List.setIfInBounds_toArray, List.set_cons_zero, List.set_cons_succ]
          refine wpAnyH_ready (rs := [8]) (by kernel_rfl) (by simp) ?_
          refine AllReadyH.cons (o := { dst := some 38, op := _, type := _, pos := _, after := _, guard := _ }) rfl (fun KK hK => ?_) ?_
          · go_simp
            refine (CH.out A3 c3 _ ((q3.below hBel).wide hBel.size)).mono ?_
            rintro e wq ⟨rfl, hq⟩
            go_wp2_with fail
            replace hBel := hBel.trans (hq.mono hBel.size)
            clear hq
            refine hK.out _ _ (HK.out _ hBel) (fun hHeld => ?_)
            clear hK KK
            simp only [List.setIfInBounds_toArray, List.set_cons_zero, List.set_cons_succ]
            refine wpAnyH_take (i := 10) (oi := { dst := some 40, op := _, type := _, pos := _, after := _, guard := _ }) (v := (.bool true)) rfl (by kernel_rfl) (by kernel_rfl) (by kernel_rfl) (fun _ _ _ h => h) (Or.inl ⟨by rfl, by intro w hSw; (try dsimp only at hSw); go_simp⟩) (by assumption) ?_
            simp only [Act.put, List.setIfInBounds_toArray, List.set_cons_zero, List.set_cons_succ]
            refine wpAnyH_take (i := 11) (oi := { dst := some 41, op := _, type := _, pos := _, after := _, guard := _ }) (v := (.bool true)) rfl (by kernel_rfl) (by kernel_rfl) (by kernel_rfl) (fun _ _ _ h => h) (Or.inl ⟨by rfl, fun _ _ => rfl⟩) (by assumption) ?_
            simp only [Act.put, List.setIfInBounds_toArray, List.set_cons_zero, List.set_cons_succ]
            refine wpAnyH_take (i := 12) (oi := { dst := some 42, op := _, type := _, pos := _, after := _, guard := _ }) (v := (.bool true)) rfl (by kernel_rfl) (by kernel_rfl) (by kernel_rfl) (fun _ _ _ h => h) (Or.inl ⟨by rfl, fun _ _ => rfl⟩) (by assumption) ?_
            simp only [Act.put, List.setIfInBounds_toArray, List.set_cons_zero, List.set_cons_succ]
            refine wpAnyH_take (i := 13) (oi := { dst := some 43, op := _, type := _, pos := _, after := _, guard := _ }) (v := (.agg #[.int .i64 N0, .slice A3 n0 c3])) rfl (by kernel_rfl) (by kernel_rfl) (by kernel_rfl) (fun _ _ _ h => h) (Or.inl ⟨by rfl, by intro w hSw; (try dsimp only at hSw); go_simp⟩) (by assumption) ?_
            simp only [Act.put, List.setIfInBounds_toArray, List.set_cons_zero, List.set_cons_succ]
            refine wpAnyH_take (i := 15) (oi := { dst := some 45, op := _, type := _, pos := _, after := _, guard := _ }) (v := (.slice A4 L c4)) rfl (by kernel_rfl) (by kernel_rfl) (by kernel_rfl) (fun _ _ _ h => h) (Or.inl ⟨by rfl, fun _ _ => rfl⟩) (by assumption) ?_
            simp only [Act.put, List.setIfInBounds_toArray, List.set_cons_zero, List.set_cons_succ]
            refine wpAnyH_take (i := 16) (oi := { dst := some 46, op := _, type := _, pos := _, after := _, guard := _ }) (v := (.int .i64 (L : Int))) rfl (by kernel_rfl) (by kernel_rfl) (by kernel_rfl) (fun _ _ _ h => h) (Or.inl ⟨by rfl, by intro w hSw; (try dsimp only at hSw); go_simp⟩) (by assumption) ?_
            simp only [Act.put, List.setIfInBounds_toArray, List.set_cons_zero, List.set_cons_succ]
            refine wpAnyH_ready (rs := [14]) (by kernel_rfl) (by simp) ?_
            refine AllReadyH.cons (o := { dst := some 44, op := _, type := _, pos := _, after := _, guard := _ }) rfl (fun KK hK => ?_) ?_
            · go_simp
              refine (CC.out A3 c3 _ ((q3.below hBel).wide hBel.size)).mono ?_
              rintro e wq ⟨rfl, hq⟩
              go_wp2_with fail
              replace hBel := hBel.trans (hq.mono hBel.size)
              clear hq
              refine hK.out _ _ (HK.out _ hBel) (fun hHeld => ?_)
              clear hK KK
              simp only [List.setIfInBounds_toArray, List.set_cons_zero, List.set_cons_succ]
              refine wpAnyH_take (i := 17) (oi := { dst := some 47, op := _, type := _, pos := _, after := _, guard := _ }) (v := (.bool true)) rfl (by kernel_rfl) (by kernel_rfl) (by kernel_rfl) (fun _ _ _ h => h) (Or.inl ⟨by rfl, by intro w hSw; (try dsimp only at hSw); go_simp⟩) (by assumption) ?_
              simp only [Act.put, List.setIfInBounds_toArray, List.set_cons_zero, List.set_cons_succ]
              refine wpAnyH_take (i := 18) (oi := { dst := some 48, op := _, type := _, pos := _, after := _, guard := _ }) (v := (.bool true)) rfl (by kernel_rfl) (by kernel_rfl) (by kernel_rfl) (fun _ _ _ h => h) (Or.inl ⟨by rfl, fun _ _ => rfl⟩) (by assumption) ?_
              simp only [Act.put, List.setIfInBounds_toArray, List.set_cons_zero, List.set_cons_succ]
              refine wpAnyH_take (i := 19) (oi := { dst := some 49, op := _, type := _, pos := _, after := _, guard := _ }) (v := (.bool true)) rfl (by kernel_rfl) (by kernel_rfl) (by kernel_rfl) (fun _ _ _ h => h) (Or.inl ⟨by rfl, fun _ _ => rfl⟩) (by assumption) ?_
              simp only [Act.put, List.setIfInBounds_toArray, List.set_cons_zero, List.set_cons_succ]
              refine wpAnyH_take (i := 20) (oi := { dst := some 50, op := _, type := _, pos := _, after := _, guard := _ }) (v := (.agg #[.int .i64 N0, .slice A3 n0 c3])) rfl (by kernel_rfl) (by kernel_rfl) (by kernel_rfl) (fun _ _ _ h => h) (Or.inl ⟨by rfl, by intro w hSw; (try dsimp only at hSw); go_simp⟩) (by assumption) ?_
              simp only [Act.put, List.setIfInBounds_toArray, List.set_cons_zero, List.set_cons_succ]
              refine wpAnyH_take (i := 22) (oi := { dst := some 52, op := _, type := _, pos := _, after := _, guard := _ }) (v := (.agg #[.int .i64 N0, .slice a0 n0 cap0])) rfl (by kernel_rfl) (by kernel_rfl) (by kernel_rfl) (fun _ _ _ h => h) (Or.inl ⟨by rfl, by intro w hSw; (try dsimp only at hSw); go_simp⟩) (by assumption) ?_
              simp only [Act.put, List.setIfInBounds_toArray, List.set_cons_zero, List.set_cons_succ]
              refine wpAnyH_ready (rs := [21]) (by kernel_rfl) (by simp) ?_
              refine AllReadyH.cons (o := { dst := some 51, op := _, type := _, pos := _, after := _, guard := _ }) rfl (fun KK hK => ?_) ?_
              · go_simp
                refine (CG.out A3 c3 _ ((q3.below hBel).wide hBel.size) (ht.on hBel)).mono ?_
                rintro e wq ⟨A7, c7, rfl, q7, hq⟩
                go_wp2_with fail
                replace hBel := hBel.trans (hq.mono hBel.size)
                clear hq
                refine hK.out _ _ (HK.out _ hBel) (fun hHeld => ?_)
                clear hK KK
                simp only [List.setIfInBounds_toArray, List.set_cons_zero, List.set_cons_succ]
                refine wpAnyH_ready (rs := [23]) (by kernel_rfl) (by simp) ?_
                refine AllReadyH.cons (o := { dst := some 53, op := _, type := _, pos := _, after := _, guard := _ }) rfl (fun KK hK => ?_) ?_
                · go_simp
                  refine (CR.out a0 cap0 _ ((r0.below hBel).wide hBel.size)).mono ?_
                  rintro e wr ⟨A8, c8, rfl, q8, hq⟩
                  go_wp2_with fail
                  replace hBel := hBel.trans (hq.mono hBel.size)
                  replace q7 := (q7.below hq).wide hq.size
                  clear hq
                  refine hK.out _ _ (HK.out _ hBel) (fun hHeld => ?_)
                  clear hK KK
                  simp only [List.setIfInBounds_toArray, List.set_cons_zero, List.set_cons_succ]
                  refine wpAnyH_ready (rs := [24]) (by kernel_rfl) (by simp) ?_
                  refine AllReadyH.cons (o := { dst := some 54, op := _, type := _, pos := _, after := _, guard := _ }) rfl (fun KK hK => ?_) ?_
                  · go_simp
                    refine (CI.out _ _ _ _ _ q7 q8).mono ?_
                    rintro e wq ⟨rfl, hq⟩
                    go_wp2_with fail
                    replace hBel := hBel.trans (hq.mono hBel.size)
                    clear hq
                    refine hK.out _ _ (HK.out _ hBel) (fun hHeld => ?_)
                    clear hK KK
                    simp only [List.setIfInBounds_toArray, List.set_cons_zero, List.set_cons_succ]
                    refine wpAnyH_take (i := 25) (oi := { dst := some 55, op := _, type := _, pos := _, after := _, guard := _ }) (v := (.bool true)) rfl (by kernel_rfl) (by kernel_rfl) (by kernel_rfl) (fun _ _ _ h => h) (Or.inl ⟨by rfl, fun _ _ => rfl⟩) (by assumption) ?_
                    simp only [Act.put, List.setIfInBounds_toArray, List.set_cons_zero, List.set_cons_succ]
                    refine wpAnyH_take (i := 26) (oi := { dst := some 56, op := _, type := _, pos := _, after := _, guard := _ }) (v := (.bool true)) rfl (by kernel_rfl) (by kernel_rfl) (by kernel_rfl) (fun _ _ _ h => h) (Or.inl ⟨by rfl, fun _ _ => rfl⟩) (by assumption) ?_
                    simp only [Act.put, List.setIfInBounds_toArray, List.set_cons_zero, List.set_cons_succ]
                    refine wpAnyH_take (i := 27) (oi := { dst := some 57, op := _, type := _, pos := _, after := _, guard := _ }) (v := (.agg #[.int .i64 N0, .slice A3 n0 c3])) rfl (by kernel_rfl) (by kernel_rfl) (by kernel_rfl) (fun _ _ _ h => h) (Or.inl ⟨by rfl, by intro w hSw; (try dsimp only at hSw); go_simp⟩) (by assumption) ?_
                    simp only [Act.put, List.setIfInBounds_toArray, List.set_cons_zero, List.set_cons_succ]
                    refine wpAnyH_take (i := 28) (oi := { dst := some 58, op := _, type := _, pos := _, after := _, guard := _ }) (v := (.agg #[.int .i64 N0, .slice a0 n0 cap0])) rfl (by kernel_rfl) (by kernel_rfl) (by kernel_rfl) (fun _ _ _ h => h) (Or.inl ⟨by rfl, by intro w hSw; (try dsimp only at hSw); go_simp⟩) (by assumption) ?_
                    simp only [Act.put, List.setIfInBounds_toArray, List.set_cons_zero, List.set_cons_succ]
                    refine wpAnyH_ready (rs := [29]) (by kernel_rfl) (by simp) ?_
                    refine AllReadyH.cons (o := { dst := some 59, op := _, type := _, pos := _, after := _, guard := _ }) rfl (fun KK hK => ?_) ?_
                    · go_simp
                      refine (CS.out _ _ _ _ _ ((q3.below hBel).wide hBel.size) ((r0.below hBel).wide hBel.size)).mono ?_
                      rintro e wq ⟨rfl, hq⟩
                      go_wp2_with fail
                      replace hBel := hBel.trans (hq.mono hBel.size)
                      clear hq
                      refine hK.out _ _ (HK.out _ hBel) (fun hHeld => ?_)
                      clear hK KK
                      simp only [List.setIfInBounds_toArray, List.set_cons_zero, List.set_cons_succ]
                      refine wpAnyH_take (i := 30) (oi := { dst := some 60, op := _, type := _, pos := _, after := _, guard := _ }) (v := (.bool true)) rfl (by kernel_rfl) (by kernel_rfl) (by kernel_rfl) (fun _ _ _ h => h) (Or.inl ⟨by rfl, fun _ _ => rfl⟩) (by assumption) ?_
                      simp only [Act.put, List.setIfInBounds_toArray, List.set_cons_zero, List.set_cons_succ]
                      refine wpAnyH_take (i := 31) (oi := { dst := some 4, op := _, type := _, pos := _, after := _, guard := _ }) (v := (.bool true)) rfl (by kernel_rfl) (by kernel_rfl) (by kernel_rfl) (fun _ _ _ h => h) (Or.inl ⟨by rfl, fun _ _ => rfl⟩) (by assumption) ?_
                      simp only [Act.put, List.setIfInBounds_toArray, List.set_cons_zero, List.set_cons_succ]
                      refine wpAnyH_done (by kernel_rfl) ?_ _
                      clear HK hHeld
                      go_wp2
                      go_ret
                      exact ⟨rfl, hbel.trans (hBel.mono hbel.size)⟩
                    exact AllReadyH.nil
                  exact AllReadyH.nil
                exact AllReadyH.nil
              exact AllReadyH.nil
            exact AllReadyH.nil
          exact AllReadyH.nil
        exact AllReadyH.nil
      exact AllReadyH.nil
/-- from the walk to the post of the row -/
theorem contract (H : Type) (enc : TypeId × Value → H) (W : World) (base : Nat) (args : Array Value) (ds gs : List (DataW H)) (before : List MemPlace)
    (hval : ∀ (j : Nat) t v, Tryd.f3.params[j]? = some t → args[j]? = some v → Value.okWide Tryd.prog W .any base t v)
    (hW : DataW.Whole enc Tryd.prog Tryd.f3.params.toList Rows.rowsetAsksSpec.vars false W args.toList ds gs before) (hL : laidMetH Tryd.prog Rows.rowsetAsksRow.laid W)
    (hsz0 : (DataW.weightsEach Tryd.prog (Tryd.f3.params.toList ++ Rows.rowsetAsksSpec.plain.varTypes Tryd.prog) (ds ++ gs)).all (· ≤ reachBytes) = true) :
    Calls Tryd.prog 3 args W fun e W' => ∃ v, e = .returned v ∧ Rows.rowsetAsksSpec.post enc Tryd.prog Tryd.f3 false true false false W args v W' := by
  have hW' := hW
  obtain ⟨p, q, hA0, hV, rfl, hfz, hnd⟩ := hW
  have hA : DataW.TrodAll enc Tryd.prog W 0 (fun _ => true) true Tryd.f3.params.toList args.toList ds p := hA0
  rw [Tryd.params3] at hA hval hsz0
  obtain ⟨v0, vs0, d0, ds0, p0, q0, hargs, rfl, rfl, h0, r0⟩ := trodAll_cons hA
  obtain ⟨v1, vs1, d1, ds1, p1, q1, rfl, rfl, rfl, h1, r1⟩ := trodAll_cons r0
  obtain ⟨rfl, rfl, rfl⟩ := trodAll_nil r1
  obtain rfl : args = #[v0, v1] := by cases args; simp_all
  obtain ⟨rfl, rfl⟩ := trodVars_none hV
  have lt0 : ∀ x ∈ p0, x.block < W.heap.size := by obtain ⟨m, hm⟩ := h0; exact DataW.trod_lt m _ _ _ hm
  obtain ⟨N0, a0, len0, cap0, l0, rfl, na0, nb0, e0, ec0, b0, dd0, de0, k0⟩ := open_rows (hval 0 24 v0 rfl rfl) h0
  have reach0 := reach_rows hsz0 (j := 0) rfl rfl de0 k0
  obtain ⟨x1, rfl, rfl, rfl, w1⟩ := open_int Tryd.underlying3 (hval 1 3 v1 rfl rfl) h1
  clear hA0
  refine (walk N0 a0 len0 cap0 l0 x1 W na0 nb0 e0 ec0 reach0 b0 (by have := bounds_i64 w1; omega) (by have := bounds_i64 w1; omega) (vars hL)).mono fun e W' ⟨he, bel⟩ => ?_
  subst he
  exact ⟨_, rfl, _, _, _, [], _, [], hW', trodAll_mk1 (shut_bool Tryd.underlying4 _), (trodAll_cons_mk (Below.trod laidOut (by kernel_rfl) (of_decide_eq_true (by kernel_rfl)) h0 bel lt0) (trodAll_cons_mk (shut_int Tryd.underlying3 w1) trodAll_mk0)), rfl, bel.frame _, fun h => by cases h⟩

theorem laid_met (os : Os) : laidMet Tryd.prog Rows.rowsetAsksRow.laid ((laidWorld os).forCall (fun _ _ => 0) ⟨#[], #[.agg #[.int .i64 0, .slice none 0 0], .int .i64 0], []⟩).memory :=
  laidMet_of_run' 8 (by kernel_rfl) (by kernel_rfl)
theorem reads (os : Os) {H : Type} (enc : TypeId × Value → H) : ∃ places, DataW.whole enc Tryd.prog ((laidWorld os).forCall (fun _ _ => 0) ⟨#[], #[.agg #[.int .i64 0, .slice none 0 0], .int .i64 0], []⟩).memory Tryd.f3.params.toList Rows.rowsetAsksSpec.vars false #[Value.agg #[.int .i64 0, .slice none 0 0], .int .i64 0].toList 8 = some ([.agg [.lit (.int .i64 0), .nil], .lit (.int .i64 0)], [], places) :=
  ⟨[], by kernel_rfl⟩

set_option maxRecDepth 100000 in
theorem lifted (os : Os) (started : os.Started) (H : Type) (enc : TypeId × Value → H) (F : Stop.Interp) :
    ReturnsInHanded {} Tryd.checked os 3 .any ((OpenSpec.ofChange Rows.rowsetAsksSpec).preRow enc Tryd.prog Tryd.f3 Rows.rowsetAsksRow.domain false Rows.rowsetAsksRow.laid) (((OpenSpec.ofChange Rows.rowsetAsksSpec).at F).post enc Tryd.prog Tryd.f3 false true false false) := by
  obtain ⟨places, hx⟩ := reads os enc
  refine returnsInHanded_of_row (C := Tryd.checked) (s := OpenSpec.ofChange Rows.rowsetAsksSpec) own started (by kernel_rfl) Tryd.func3
    (witness_row_at (enc := enc) (C := Tryd.checked) false (laidWorld os) #[.agg #[.int .i64 0, .slice none 0 0], .int .i64 0] rfl (by kernel_rfl) (by kernel_rfl) (by kernel_rfl)
      (OpenSpec.preRow_of_cond 8 hx (by kernel_rfl) (fun k hk => by cases hk) (by kernel_rfl) (laid_met os))) ?_
  intro W base args ds gs before hval hW _ _ hsz hL _ _
  exact contract H enc W base args ds gs before hval hW hL hsz

theorem said : Rows.RowsetAsksSaid :=
  OpenClaim.holds_of_cond 3 Tryd.f3 rfl rfl rfl rfl rfl rfl rfl ⟨rfl, rfl, rfl, rfl, rfl⟩ rfl rfl rfl rfl rfl (by kernel_rfl) Tryd.func3 (by kernel_rfl)
    (of_decide_eq_true (by kernel_rfl)) (by unfold Func.isWrapper; first | (rw [if_pos (by decide +kernel)]; kernel_rfl) | (rw [if_neg (by decide +kernel)]; exact ⟨rfl, rfl⟩))
    (fun os started H enc _ F => by rw [OpenClaim.pre_eq_preRow]; exact lifted os started H enc F)

theorem plain (f : FuncId) (fn : Func) (hf : Tryd.pinned.checked.prog.funcNamed "dragnet/dragnetlaw09.RowsetAsks" = some f) (hfn : Tryd.pinned.checked.prog.funcs[f]? = some fn) :
    false = Tryd.pinned.checked.prog.looks [] ∧ ∀ (j : Nat) t, fn.params[j]? = some t → Tryd.pinned.checked.prog.wantsStandIn t = false := by
  obtain rfl : f = 3 := Option.some.inj ((show Tryd.prog.funcNamed "dragnet/dragnetlaw09.RowsetAsks" = some 3 by kernel_rfl).symm.trans hf) |>.symm
  obtain rfl : fn = Tryd.f3 := (Option.some.inj (Tryd.func3.symm.trans hfn)).symm
  refine ⟨by kernel_rfl, fun j t ht => ?_⟩
  rw [Tryd.params3] at ht
  have hm : t = 24 ∨ t = 3 := by simpa using Array.mem_of_getElem? ht
  rcases hm with rfl | rfl
  · exact (show Tryd.prog.wantsStandIn 24 = false by kernel_rfl)
  · exact (show Tryd.prog.wantsStandIn 3 = false by kernel_rfl)

/-- THE CARD -/
theorem card : Rows.RowsetAsksCardSaid :=
  Claim7.holds_tied_plain_at .later [] _ _ _ _ said (fun _ h => by cases h) (by kernel_rfl) (fun _ h => by cases h) rowsetAsks_row_tie rfl ⟨rfl, rfl⟩ (by kernel_rfl) rfl plain (by kernel_rfl)
end Go.Proofs.YtggelnlbdpdegaaDoor.rowsetAsks
