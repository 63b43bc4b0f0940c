/- PROVED: the law IntsPuts (any column is laid behind any bytes as the document says, or refused, and stays; of up to 200 cells, or more than 4096) returns true and leaves its arguments as they were, for every argument.
   Conditions: none but the form's own reach (a slice has fewer than 2^47 bytes). -/
import Derived.Test.YtgjopffdgdimlaaBF

namespace Go.Proofs.Ytgjopffdgdimlaa.intsPuts
open Go.ChangeShapes Go.WideShapes Go.ChangeAt Go.RowKit

set_option maxHeartbeats 4000000 in
set_option maxRecDepth 100000 in
theorem walk (A1 : Option Addr) (m cap1 : Nat) (b : List UInt8) (A : Option Addr) (n cap : Nat) (l : List (Bool × Int)) (w : World) (hl1 : b.length = m) (_hcap1 : m ≤ cap1) (hm : m ≤ 140737488351232) (hb1 : Bytes w w.heap.size A1 b)
    (hl : l.length = n) (_hcap : n ≤ cap) (hn : 16 * n ≤ 140737488351232) (hf : Ict.fits l) (hb : Cols w w.heap.size A l) :
    Calls Try.prog 3 #[.slice A1 m cap1, .slice A n cap] w fun e w' => e = .returned (.bool true) ∧ Below w.heap.size w w' := by
  by_cases hbig : 200 < n ∧ n ≤ 4096
  · have h1 : (200 : Int) < (n : Int) := by omega
    have h2 : (n : Int) ≤ 4096 := by omega
    clear hb hb1 hl hl1 hbig
    go_enter Try.func3, Try.ntmps3
    go_wp2_with fail
    refine (alive_any w).mono ?_
    rintro e w1 ⟨rfl, hbel1⟩
    go_wp2
    go_ret
    exact ⟨rfl, hbel1⟩
  have hlen : n ≤ 4096 → (Ict.bytes l).length ≤ 2000 := fun h => by
    have := Ict.bytes_length l (by omega)
    omega
  have C1 := Lib.hid fun W (hbel : Below w.heap.size w W) => copy_any A1 m cap1 w.heap.size b W hl1 (by omega) (hb1.below hbel) hbel.size
  have C2 := Lib.hid fun W (hbel : Below w.heap.size w W) => copyC_any A n cap w.heap.size l W hl hn (hb.below hbel) hbel.size
  have C3 := Lib.hid fun A3 c3 A4 c4 W (h3 : Bytes W W.heap.size A3 b) (h4 : Cols W W.heap.size A4 l) => icPut_any A3 A4 m c3 n c4 W.heap.size b l W hl1 hl hm hf (by intro h; rw [List.length_append]; have := hlen h; omega) h3 h4 (Nat.le_refl _)
  have C4 := Lib.hid fun A3 c3 W (hbel : Below w.heap.size w W) (h3 : Bytes W W.heap.size A3 b) => same_any A3 A1 m m c3 cap1 _ _ b b W hl1 hl1 h3 (hb1.below hbel)
  have C5 := Lib.hid fun A4 c4 W (hbel : Below w.heap.size w W) (h4 : Cols W W.heap.size A4 l) => sameC_any A4 n c4 _ l A n cap _ l W hl hl hn hn h4 (hb.below hbel)
  have C6 := Lib.hid fun W (hbel : Below w.heap.size w W) => formed_any A n cap w.heap.size l W hl (hb.below hbel) hbel.size
  have C7 := Lib.hid fun W (hbel : Below w.heap.size w W) => refFormed_any A n cap w.heap.size l W hl hn (hb.below hbel)
  have C8 := Lib.hid fun W (hbel : Below w.heap.size w W) (h : n ≤ 4096) => refBytesC_any A n cap w.heap.size l W hl h hf (hb.below hbel) hbel.size
  have C9 := Lib.hid fun A3 A4 c3 c4 B3 B4 W (h3 : Bytes W B3 A3 (b ++ Ict.bytes l)) (h4 : Bytes W B4 A4 (b ++ Ict.bytes l)) => same_any A3 A4 (b ++ Ict.bytes l).length (b ++ Ict.bytes l).length c3 c4 B3 B4 _ _ W rfl rfl h3 h4
  have hn4 : Ict.formed l = true → n ≤ 4096 := fun h => by
    simp only [Ict.formed, Bool.and_eq_true, decide_eq_true_eq, hl] at h
    exact h.1
  have hput : Ict.put b l = if Ict.formed l then (b ++ Ict.bytes l, 0) else ([], 1) := rfl
  rw [hput] at C3
  have hbb : (b == b) = true := beq_self_eq_true _
  rw [hbb] at C4
  have hbc : (b ++ Ict.bytes l == b ++ Ict.bytes l) = true := beq_self_eq_true _
  rw [hbc] at C9
  rw [show decide (l = l) = true from by simp] at C5
  have hTl : (b ++ Ict.bytes l).length = m + (Ict.bytes l).length := by rw [List.length_append, hl1]
  rw [hTl] at C9
  have HTl := Lib.hid hTl
  unfold PackPost at C3
  have hc200 : ¬ ((200 : Int) < (n : Int)) ∨ ¬ ((n : Int) ≤ 4096) := by omega
  clear hput hbb hbc hTl hl hl1 hf
  generalize Ict.formed l = F at *
  generalize Ict.bytes l = T at *
  have hguard : ((200 : Int) < (n : Int)) → ¬ ((n : Int) ≤ 4096) := by omega
  have hff : (false != false) = false := rfl
  have htt : (true != true) = false := rfl
  cases F
  · simp only [Bool.false_eq_true, if_false, List.length_nil] at C3
    by_cases h2 : (200 : Int) < (n : Int)
    · have h3 := hguard h2
      clear hc200 hguard hbig C8 C9
      · go_enter Try.func3, Try.ntmps3
        go_wp2_with fail
        refine (alive_any w).mono ?_
        rintro e w1 ⟨rfl, hbel1⟩
        have C1' := Lib.hid (C1.out w1 hbel1)
        clear C1
        go_wp2_with fail
        refine C1'.out.mono ?_
        rintro e w2 ⟨A3, c3, rfl, ho3, hb2⟩
        have hbel2 := hbel1.trans (hb2.mono hbel1.size)
        have ho3 := ho3.low hbel1.size
        have C2' := Lib.hid (C2.out w2 hbel2)
        clear C2 C1' hb2
        go_wp2_with fail
        refine C2'.out.mono ?_
        rintro e w3 ⟨A4, c4, rfl, ho4, hb3⟩
        have hbel3 := hbel2.trans (hb3.mono hbel2.size)
        have ho3 := ho3.below hb3
        have hA3 : ∀ k, blk A3 = some k → k < w3.heap.size := fun k h => (ho3.lt h).2
        have C3' := Lib.hid (C3.out A3 c3 A4 c4 w3 ho3.bytes (ho4.row (fun _ => rfl)))
        clear C3 C2' hb3
        go_wp2_with fail
        refine C3'.out.mono ?_
        rintro e w4 ⟨A5, c5, rfl, ho5, hb4⟩
        have hbel4 := hbel3.trans (hb4.mono hbel3.size)
        have ho3 := ho3.below hb4
        have ho4 := ho4.below hb4
        have C4' := Lib.hid (C4.out A3 c3 w4 hbel4 ho3.bytes)
        clear C4 C3' hb4
        go_wp2_with fail
        refine C4'.out.mono ?_
        rintro e w4' ⟨rfl, rfl⟩
        have C5' := Lib.hid (C5.out A4 c4 w4 hbel4 (ho4.row (fun _ => rfl)))
        clear C5 C4'
        go_wp2_with fail
        refine C5'.out.mono ?_
        rintro e w5 ⟨rfl, hd5⟩
        have hbel5 := hbel4.trans (hd5.below _)
        have ho5 := ho5.below (hd5.below _)
        have ho3 := ho3.below (hd5.below _)
        have C6' := Lib.hid (C6.out w5 hbel5)
        clear C6 C5' hd5 ho4
        go_wp2_with fail
        refine C6'.out.mono ?_
        rintro e w6 ⟨rfl, hb6⟩
        have hbel6 := hbel5.trans (hb6.mono hbel5.size)
        have ho5 := ho5.below hb6
        have ho3 := ho3.below hb6
        have C7' := Lib.hid (C7.out w6 hbel6)
        clear C6' hb6
        go_wp2_with fail
        refine C7'.out.mono ?_
        rintro e w6' ⟨rfl, rfl⟩
        go_wp2_with fail
        refine C7'.out.mono ?_
        rintro e w6' ⟨rfl, rfl⟩
        clear C7' C7
        go_wp2
        go_ret
        exact ⟨rfl, hbel6⟩
    · clear hc200 hguard hbig C8 C9
      · go_enter Try.func3, Try.ntmps3
        go_wp2_with fail
        refine (alive_any w).mono ?_
        rintro e w1 ⟨rfl, hbel1⟩
        have C1' := Lib.hid (C1.out w1 hbel1)
        clear C1
        go_wp2_with fail
        refine C1'.out.mono ?_
        rintro e w2 ⟨A3, c3, rfl, ho3, hb2⟩
        have hbel2 := hbel1.trans (hb2.mono hbel1.size)
        have ho3 := ho3.low hbel1.size
        have C2' := Lib.hid (C2.out w2 hbel2)
        clear C2 C1' hb2
        go_wp2_with fail
        refine C2'.out.mono ?_
        rintro e w3 ⟨A4, c4, rfl, ho4, hb3⟩
        have hbel3 := hbel2.trans (hb3.mono hbel2.size)
        have ho3 := ho3.below hb3
        have hA3 : ∀ k, blk A3 = some k → k < w3.heap.size := fun k h => (ho3.lt h).2
        have C3' := Lib.hid (C3.out A3 c3 A4 c4 w3 ho3.bytes (ho4.row (fun _ => rfl)))
        clear C3 C2' hb3
        go_wp2_with fail
        refine C3'.out.mono ?_
        rintro e w4 ⟨A5, c5, rfl, ho5, hb4⟩
        have hbel4 := hbel3.trans (hb4.mono hbel3.size)
        have ho3 := ho3.below hb4
        have ho4 := ho4.below hb4
        have C4' := Lib.hid (C4.out A3 c3 w4 hbel4 ho3.bytes)
        clear C4 C3' hb4
        go_wp2_with fail
        refine C4'.out.mono ?_
        rintro e w4' ⟨rfl, rfl⟩
        have C5' := Lib.hid (C5.out A4 c4 w4 hbel4 (ho4.row (fun _ => rfl)))
        clear C5 C4'
        go_wp2_with fail
        refine C5'.out.mono ?_
        rintro e w5 ⟨rfl, hd5⟩
        have hbel5 := hbel4.trans (hd5.below _)
        have ho5 := ho5.below (hd5.below _)
        have ho3 := ho3.below (hd5.below _)
        have C6' := Lib.hid (C6.out w5 hbel5)
        clear C6 C5' hd5 ho4
        go_wp2_with fail
        refine C6'.out.mono ?_
        rintro e w6 ⟨rfl, hb6⟩
        have hbel6 := hbel5.trans (hb6.mono hbel5.size)
        have ho5 := ho5.below hb6
        have ho3 := ho3.below hb6
        have C7' := Lib.hid (C7.out w6 hbel6)
        clear C6' hb6
        go_wp2_with fail
        refine C7'.out.mono ?_
        rintro e w6' ⟨rfl, rfl⟩
        go_wp2_with fail
        refine C7'.out.mono ?_
        rintro e w6' ⟨rfl, rfl⟩
        clear C7' C7
        go_wp2
        go_ret
        exact ⟨rfl, hbel6⟩
  · simp only [if_true] at C3
    rw [HTl.out] at C3
    by_cases h2 : (200 : Int) < (n : Int)
    · exact absurd (hn4 rfl) (by have := hguard h2; omega)
    · have hn5 := hn4 rfl
      clear hc200 hguard hbig hn4
      · go_enter Try.func3, Try.ntmps3
        go_wp2_with fail
        refine (alive_any w).mono ?_
        rintro e w1 ⟨rfl, hbel1⟩
        have C1' := Lib.hid (C1.out w1 hbel1)
        clear C1
        go_wp2_with fail
        refine C1'.out.mono ?_
        rintro e w2 ⟨A3, c3, rfl, ho3, hb2⟩
        have hbel2 := hbel1.trans (hb2.mono hbel1.size)
        have ho3 := ho3.low hbel1.size
        have C2' := Lib.hid (C2.out w2 hbel2)
        clear C2 C1' hb2
        go_wp2_with fail
        refine C2'.out.mono ?_
        rintro e w3 ⟨A4, c4, rfl, ho4, hb3⟩
        have hbel3 := hbel2.trans (hb3.mono hbel2.size)
        have ho3 := ho3.below hb3
        have hA3 : ∀ k, blk A3 = some k → k < w3.heap.size := fun k h => (ho3.lt h).2
        have C3' := Lib.hid (C3.out A3 c3 A4 c4 w3 ho3.bytes (ho4.row (fun _ => rfl)))
        clear C3 C2' hb3
        go_wp2_with fail
        refine C3'.out.mono ?_
        rintro e w4 ⟨A5, c5, rfl, ho5, hb4⟩
        have hbel4 := hbel3.trans (hb4.mono hbel3.size)
        have ho3 := ho3.below hb4
        have ho4 := ho4.below hb4
        have C4' := Lib.hid (C4.out A3 c3 w4 hbel4 ho3.bytes)
        clear C4 C3' hb4
        go_wp2_with fail
        refine C4'.out.mono ?_
        rintro e w4' ⟨rfl, rfl⟩
        have C5' := Lib.hid (C5.out A4 c4 w4 hbel4 (ho4.row (fun _ => rfl)))
        clear C5 C4'
        go_wp2_with fail
        refine C5'.out.mono ?_
        rintro e w5 ⟨rfl, hd5⟩
        have hbel5 := hbel4.trans (hd5.below _)
        have ho5 := ho5.below (hd5.below _)
        have ho3 := ho3.below (hd5.below _)
        have C6' := Lib.hid (C6.out w5 hbel5)
        clear C6 C5' hd5 ho4
        go_wp2_with fail
        refine C6'.out.mono ?_
        rintro e w6 ⟨rfl, hb6⟩
        have hbel6 := hbel5.trans (hb6.mono hbel5.size)
        have ho5 := ho5.below hb6
        have ho3 := ho3.below hb6
        have C7' := Lib.hid (C7.out w6 hbel6)
        clear C6' hb6
        go_wp2_with fail
        refine C7'.out.mono ?_
        rintro e w6' ⟨rfl, rfl⟩
        go_wp2_with fail
        refine C7'.out.mono ?_
        rintro e w6' ⟨rfl, rfl⟩
        clear C7' C7
        have C8' := Lib.hid (C8.out w6 hbel6 hn5)
        have hT2 := hlen hn5
        clear C8
        go_wp2_with fail
        refine C8'.out.mono ?_
        rintro e w7 ⟨A7, c7, rfl, ho7, hb7⟩
        have hbel7 := hbel6.trans (hb7.mono hbel6.size)
        have ho5 := ho5.below hb7
        have ho3 := ho3.below hb7
        have ho7b := ho7.bytes
        have hs7 := hb7.size
        clear C8' hb7 ho7
        go_wp2_with (at_builtin; refine wpList_append_bytes rfl (.tmp 60) (.tmp 62) rfl w.heap.size A3 m c3 b rfl ho3 _ A7 T.length c7 T rfl rfl ho7b (by omega) hbel7.size ?_; intro A8 c8 w8 ho8 hg8 hat8)
        have hbel8 := hbel7.grown hg8 hbel7.size (fun k hk => (ho3.lt hk).1)
        have hx8 := ho5.kept hg8 (by
          rcases h : blk A5 with _ | k
          · exact .inl rfl
          · refine .inr fun e => ?_
            have h1 := hA3 k e.symm
            have h2 := (ho5.lt h).1
            omega)
        have C9' := Lib.hid (C9.out A5 A8 c5 c8 _ _ w8 hx8.bytes ho8.bytes)
        clear C9 hx8 ho8 ho5 ho3
        go_wp2_with fail
        refine C9'.out.mono ?_
        rintro e w9 ⟨rfl, rfl⟩
        go_wp2
        go_ret
        exact ⟨rfl, hbel8⟩

set_option maxRecDepth 100000 in
/-- from the walk to the post of the row -/
theorem contract (H : Type) (enc : TypeId × Value → H) (W : World) (base : Nat) (args : Array Value) (ds gs : List (DataW H)) (before : List MemPlace)
    (hval : ∀ (j : Nat) t v, Try.f3.params[j]? = some t → args[j]? = some v → Value.okWide Try.prog W .any base t v)
    (hW : DataW.Whole enc Try.prog Try.f3.params.toList Rows.intsPutsSpec.vars false W args.toList ds gs before) (_ : laidMetH Try.prog Rows.intsPutsRow.laid W)
    (hsz0 : (DataW.weightsEach Try.prog (Try.f3.params.toList ++ Rows.intsPutsSpec.plain.varTypes Try.prog) (ds ++ gs)).all (· ≤ reachBytes) = true) :
    Calls Try.prog 3 args W fun e W' => ∃ v, e = .returned v ∧ Rows.intsPutsSpec.post enc Try.prog Try.f3 false true false false W args v W' := by
  have hW' := hW
  obtain ⟨p, q, hA0, hV, rfl, hfz, hnd⟩ := hW
  have hA : DataW.TrodAll enc Try.prog W 0 (fun _ => true) true Try.f3.params.toList args.toList ds p := hA0
  rw [Try.params3] at hA hval hsz0
  obtain ⟨v0, vs0, d0, ds0, p0, q0, hargs, rfl, rfl, h0, r0⟩ := trodAll_cons hA
  obtain ⟨v1, vs1, d1, ds1, p1, q1, rfl, rfl, rfl, h1, r1⟩ := trodAll_cons r0
  obtain ⟨rfl, rfl, rfl⟩ := trodAll_nil r1
  obtain rfl : args = #[v0, v1] := by cases args; simp_all
  obtain ⟨rfl, rfl⟩ := trodVars_none hV
  obtain ⟨a0, len0, cap0, rfl⟩ := okWide_slice Try.underlying22 (hval 0 22 v0 rfl rfl)
  have lt0 : ∀ x ∈ p0, x.block < W.heap.size := by obtain ⟨m, hm⟩ := h0; exact DataW.trod_lt m _ _ _ hm
  obtain ⟨l0, e0, ec0, b0, k0⟩ := open_bytes h0
  have reach0 := reach_bytes hsz0 (j := 0) rfl rfl k0
  obtain ⟨a1, len1, cap1, rfl⟩ := okWide_slice Try.underlying23 (hval 1 23 v1 rfl rfl)
  have lt1 : ∀ x ∈ p1, x.block < W.heap.size := by obtain ⟨m, hm⟩ := h1; exact DataW.trod_lt m _ _ _ hm
  obtain ⟨l1, e1, ec1, ef1, b1, k1⟩ := open_cells h1
  have reach1 := reach_cells hsz0 (j := 1) rfl rfl k1
  clear hA0
  refine (walk a0 len0 cap0 l0 a1 len1 cap1 l1 W e0 ec0 reach0 b0 e1 ec1 reach1 ef1 b1).mono fun e W' ⟨he, bel⟩ => ?_
  subst he
  exact ⟨_, rfl, _, _, _, [], _, [], hW', trodAll_mk1 (shut_bool Try.underlying4 _), (trodAll_cons_mk (Below.trod laidOut (by kernel_rfl) (of_decide_eq_true (by kernel_rfl)) h0 bel lt0) (trodAll_cons_mk (Below.trod laidOut (by kernel_rfl) (of_decide_eq_true (by kernel_rfl)) h1 bel lt1) trodAll_mk0)), rfl, bel.frame _, fun h => by cases h⟩

theorem laid_met (os : Os) : laidMet Try.prog Rows.intsPutsRow.laid ((World.holding Try.prog os ⟨#[], #[], []⟩).forCall (fun _ _ => 0) ⟨#[], #[.slice none 0 0, .slice none 0 0], []⟩).memory :=
  laidMet_of_run' 8 (by kernel_rfl) (by kernel_rfl)
theorem reads (os : Os) {H : Type} (enc : TypeId × Value → H) : ∃ places, DataW.whole enc Try.prog ((World.holding Try.prog os ⟨#[], #[], []⟩).forCall (fun _ _ => 0) ⟨#[], #[.slice none 0 0, .slice none 0 0], []⟩).memory Try.f3.params.toList Rows.intsPutsSpec.vars false #[Value.slice none 0 0, .slice none 0 0].toList 8 = some ([.nil, .nil], [], places) :=
  ⟨[], by kernel_rfl⟩

set_option maxRecDepth 100000 in
theorem lifted (os : Os) (started : os.Started) (H : Type) (enc : TypeId × Value → H) (F : Stop.Interp) :
    ReturnsInHanded {} Try.checked os 3 .any ((OpenSpec.ofChange Rows.intsPutsSpec).preRow enc Try.prog Try.f3 Rows.intsPutsRow.domain false Rows.intsPutsRow.laid) (((OpenSpec.ofChange Rows.intsPutsSpec).at F).post enc Try.prog Try.f3 false true false false) := by
  obtain ⟨places, hx⟩ := reads os enc
  refine returnsInHanded_of_row (C := Try.checked) (s := OpenSpec.ofChange Rows.intsPutsSpec) own started (by kernel_rfl) Try.func3
    (witness_row_at (enc := enc) (C := Try.checked) false (World.holding Try.prog os ⟨#[], #[], []⟩) #[.slice none 0 0, .slice none 0 0] rfl (by kernel_rfl) (by kernel_rfl) (by kernel_rfl)
      (OpenSpec.preRow_of_cond 8 hx (by kernel_rfl) (fun k hk => by cases hk) (by kernel_rfl) (laid_met os))) ?_
  intro W base args ds gs before hval hW _ _ hsz hL _ _
  exact contract H enc W base args ds gs before hval hW hL hsz

theorem said : Rows.IntsPutsSaid :=
  OpenClaim.holds_of_cond 3 Try.f3 rfl rfl rfl rfl rfl rfl rfl ⟨rfl, rfl, rfl, rfl, rfl⟩ rfl rfl rfl rfl rfl (by kernel_rfl) Try.func3 (by kernel_rfl)
    (of_decide_eq_true (by kernel_rfl)) (by unfold Func.isWrapper; first | (rw [if_pos (by decide +kernel)]; kernel_rfl) | (rw [if_neg (by decide +kernel)]; exact ⟨rfl, rfl⟩))
    (fun os started H enc _ F => by rw [OpenClaim.pre_eq_preRow]; exact lifted os started H enc F)

end Go.Proofs.Ytgjopffdgdimlaa.intsPuts
