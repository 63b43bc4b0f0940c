/- PROVED: the law RowsetWalks (the rows of any set are told in order, up to where the loop is left) returns true and leaves its arguments as they were, for every argument, where the table of math/bits reads as the program's text lays it.
   Conditions: none but the form's own reach (a slice has fewer than 2^47 bytes). -/
import Derived.Test.YtggelnlbdpdegaaDoorRstArg
import Derived.Test.YtggelnlbdpdegaaDoorRstGran
import Derived.Test.YtggelnlbdpdegaaDoorRstVars
import Derived.Test.YtggelnlbdpdegaaDoorSeqR
namespace Go.Proofs.YtggelnlbdpdegaaDoor.rowsetWalks
open Go.ChangeShapes Go.WideShapes Go.ChangeAt Go.RowKit Go.Shelf
set_option maxRecDepth 100000
attribute [local go_sem] Oper.semAt_some

theorem box_below {w w' : World} {b : Nat} {t : TypeId} {v : Value} (h : Boxed w b t v) (hb : Below w.heap.size w w') : Boxed w' b t v := (hb.block b h.lt).trans h
/-- behind q rows -/
def WInv (W0 : World) (b6 : Nat) (q : Nat) (W : World) : Prop := Boxed W b6 3 (.int .i64 (q : Int)) ∧ W0.grownBy W (some b6)
/-- a round has returned -/
def WOut (w : World) (rb : Nat) (W : World) : Prop := Boxed W rb 4 (.bool true) ∧ Below w.heap.size w W
theorem winv_own (W0 : World) (b6 : Nat) (hb : b6 < W0.heap.size) : OwnFrom W0.heap.size (WInv W0 b6) := by
  rintro q W W' row ⟨h1, h2⟩ hg hr
  refine ⟨h1.kept hg ?_, h2.andThen hg (fun j e => .inl (hr j e).1)⟩
  intro e
  have := (hr b6 e.symm).1
  omega
theorem wout_own (w : World) (rb B : Nat) (hb : rb < B) (hB : w.heap.size ≤ B) : OwnFrom B (fun (_ : Unit) => WOut w rb) := by
  rintro _ W W' row ⟨h1, h2⟩ hg hr
  refine ⟨h1.kept hg ?_, h2.grown hg h2.size (fun k e => Nat.le_trans hB (hr k e).1)⟩
  intro e
  have := (hr rb e.symm).1
  omega

set_option maxHeartbeats 4000000 in
theorem walk (N0 : Int) (a0 : Option Addr) (n0 cap0 : Nat) (l0 : List UInt64) (i : Int) (w : World)
    (_na0 : -9223372036854775808 ≤ N0) (_nb0 : N0 ≤ 9223372036854775807) (e0 : l0.length = n0) (_ec0 : n0 ≤ cap0) (hn0 : 8 * n0 ≤ 140737488351232) (b0 : Nums w w.heap.size a0 l0) (_na1 : -9223372036854775808 ≤ i) (_nb1 : i ≤ 9223372036854775807) (ht : Tab64 w) :
    Calls Tryd.prog 4 #[rval N0 a0 n0 cap0, .int .i64 i] w fun e w' => e = .returned (.bool true) ∧ Below w.heap.size w w' := by
  have CL := (fun A c W h => list_any N0 A n0 c W.heap.size l0 W e0 (by omega) h (Nat.le_refl _))
  have CA := (fun A c W h => all_any N0 A n0 c W.heap.size l0 W e0 hn0 h (Nat.le_refl _))
  have hPs := listR_small N0 l0
  have hw64 := walked_small N0 l0
  have hwr := walked_rows N0 l0
  obtain ⟨P, hP⟩ : ∃ P, P = asInts (listR N0 l0) := ⟨_, rfl⟩
  rw [← hP] at CL
  have hPl : P.length ≤ 4096 := by rw [hP, asInts_length]; exact hPs
  have HW : Hid (asInts (Rst.rows (walked N0 l0) (64 * (walked N0 l0).length)) = P) := Lib.hid (by rw [hwr, hP])
  generalize walked N0 l0 = wk at *
  clear hPs hwr hP e0
  unfold rval at CL CA ⊢
  replace CL := Lib.hid CL
  replace CA := Lib.hid CA
  have x2 := ((RBox.new w N0 a0 n0 cap0).alloc (.cells #[.int .i64 i] 3)).alloc (.cells #[.bool false] 4)
  have x3 := (Boxed.new (w.alloc (.cells #[.int .i64 N0, .slice a0 n0 cap0] 24)) 3 (.int .i64 i)).alloc (.cells #[.bool false] 4)
  have x4 := Boxed.new ((w.alloc (.cells #[.int .i64 N0, .slice a0 n0 cap0] 24)).alloc (.cells #[.int .i64 i] 3)) 4 (.bool false)
  have hbel : Below w.heap.size w (((w.alloc (.cells #[.int .i64 N0, .slice a0 n0 cap0] 24)).alloc (.cells #[.int .i64 i] 3)).alloc (.cells #[.bool false] 4)) := (((Below.refl _ _).alloc (Nat.le_refl _) _).alloc (by simp) _).alloc (by simp; omega) _
  simp only [World.size_alloc] at x3 x4
  have r0 := (b0.below hbel).wide hbel.size
  have HG := Lib.hid ht.lt
  have ht := ht.on hbel
  clear b0
  refine (callsIn_wide (n := 3)).1 ?_
  refine callsIn_of_wp_marks Tryd.func4 rfl trivial ?_ rfl
  simp only [Tryd.ntmps4, List.size_toArray, List.length_cons, List.length_nil, Nat.reduceAdd, Nat.reduceSub, Array.replicate_succ, Array.replicate_zero, List.push_toArray, List.append_toArray, List.nil_append, List.cons_append]
  gi_wp2_with fail
  generalize ((w.alloc (.cells #[.int .i64 N0, .slice a0 n0 cap0] 24)).alloc (.cells #[.int .i64 i] 3)).alloc (.cells #[.bool false] 4) = w0 at *
  refine ⟨trivial, (callsIn_wide.2 (rstAlive_any w0)).mono ?_⟩
  rintro e w1 ⟨rfl, hb⟩
  replace x2 := x2.below hb x2.lt
  replace x3 := box_below x3 hb
  replace x4 := box_below x4 hb
  replace r0 := (r0.below hb).wide hb.size
  replace ht := ht.on hb
  replace hbel := hbel.trans (hb.mono hbel.size)
  clear hb
  obtain ⟨c20, c21⟩ := x2.cell
  gi_wp2_with fail
  refine ⟨trivial, (callsIn_wide.2 (CL.out _ _ _ r0)).mono ?_⟩
  rintro e w2 ⟨A5, L, c5, rfl, q5o, hb⟩
  have q5 := q5o.row
  have hL := q5o.len
  have HBS := Lib.hid (show w.heap.size + 1 + 1 + 1 ≤ w2.heap.size by have h1 := x4.lt; have h2 := hb.size; omega)
  clear q5o c20 c21
  replace x2 := x2.below hb x2.lt
  replace x3 := box_below x3 hb
  replace x4 := box_below x4 hb
  replace r0 := (r0.below hb).wide hb.size
  replace ht := ht.on hb
  replace hbel := hbel.trans (hb.mono hbel.size)
  clear hb
  have x5 := (Boxed.new w2 27 (.slice A5 L c5)).alloc (.cells #[.int .i64 0] 3)
  have x6 := Boxed.new (w2.alloc (.cells #[.slice A5 L c5] 27)) 3 (.int .i64 0)
  simp only [World.size_alloc] at x6
  have hb : Below w2.heap.size w2 ((w2.alloc (.cells #[.slice A5 L c5] 27)).alloc (.cells #[.int .i64 0] 3)) := ((Below.refl _ _).alloc (Nat.le_refl _) _).alloc (by simp) _
  replace x2 := x2.below hb x2.lt
  replace x3 := box_below x3 hb
  replace x4 := box_below x4 hb
  replace r0 := (r0.below hb).wide hb.size
  replace q5 := q5.below hb
  replace ht := ht.on hb
  replace hbel := hbel.trans (hb.mono hbel.size)
  obtain ⟨c20, c21⟩ := x2.cell
  clear hb
  gi_wp2_with fail
  have HS3 := Lib.hid (show ((w2.alloc (.cells #[.slice A5 L c5] 27)).alloc (.cells #[.int .i64 0] 3)).heap.size = w2.heap.size + 1 + 1 by simp)
  generalize (w2.alloc (.cells #[.slice A5 L c5] 27)).alloc (.cells #[.int .i64 0] 3) = w3 at *
  refine ⟨trivial, (callsIn_wide.2 (CA.out _ _ _ r0)).mono ?_⟩
  rintro e W0 ⟨b, k, c', A', rfl, hbb, hvb, hkl, hrow, hlow, hblt, hb⟩
  have hs3 : w3.heap.size = w2.heap.size + 1 + 1 := HS3.out
  have hs0 := hb.size
  have hbs := HBS.out
  clear c20 c21 x2 r0
  replace x3 := box_below x3 hb
  replace x4 := box_below x4 hb
  replace x5 := box_below x5 hb
  replace x6 := box_below x6 hb
  replace q5 := q5.below (hb.mono (by omega))
  replace ht := ht.on hb
  replace hbel := hbel.trans (hb.mono hbel.size)
  clear hb
  have hk64 : k ≤ 64 := by rw [← hkl]; exact hw64
  have hyl := yields_all 2 A' k c' b W0.heap.size wk hkl hk64
  rw [show 64 * k = 64 * wk.length by rw [hkl], HW.out] at hyl
  clear HW hw64
  have hg0 : 0 < w.heap.size := HG.out
  have hsees : ∀ q W, WInv W0 (w2.heap.size + 1) q W → SeesW A' k c' b W0.heap.size wk W := fun q W h =>
    sees_grown h.2 hvb hrow (fun ad h => by have := hlow ad h; omega) (by omega) ht (by omega)
  have hinv0 : WInv W0 (w2.heap.size + 1) 0 W0 := ⟨x6, World.grownBy.refl _ _⟩
  gi_wp2_with fail
  refine wpIn_seqR (gf := 27) (lb := #[.pointer (some ⟨b, 0, none⟩)]) (vs := P.map ival) (S := SeesW A' k c' b W0.heap.size wk) rfl (enters_of Tryd.func27 (by kernel_rfl) rfl)
    hyl rfl (WInv W0 (w2.heap.size + 1)) (WOut w (w.heap.size + 1 + 1)) (winv_own _ _ (by omega)) (wout_own _ _ _ (by omega) (by omega)) hsees hinv0
    (fun v => { tmps := #[.agg #[.int .i64 N0, .slice a0 n0 cap0], .int .i64 i, .pointer (some ⟨w.heap.size, 0, none⟩), .pointer (some ⟨w.heap.size + 1, 0, none⟩), .pointer (some ⟨w.heap.size + 1 + 1, 0, none⟩), .pointer (some ⟨w2.heap.size, 0, none⟩), .pointer (some ⟨w2.heap.size + 1, 0, none⟩), v, .bool true, .bool false, .agg #[.int .i64 N0, .slice a0 n0 cap0], .slice A5 L c5, .agg #[.int .i64 N0, .slice a0 n0 cap0], .func (.func 27) #[] #[.pointer (some ⟨b, 0, none⟩)], v, undef, undef, undef, undef, undef, undef, undef, undef, undef, undef, undef, undef, undef, undef, undef, undef, undef, undef, undef, undef, undef], defers := [] }) ?assign ?body ?done ?stop
  case assign =>
    intro l' v W K hK
    gi_wp2
    exact hK
  case stop =>
    rintro D W hD ⟨h1, h2⟩ hK
    gi_wp2
    refine ⟨by simp, .inl ⟨_, _, rfl, run_takeDeferred hK, ?_⟩⟩
    have hg := grownBy_putObj' W D (.deferred none)
    have c4 := (h1.kept hg (by intro e; injection e with e; omega)).cell
    refine ⟨.bool true, ?_, rfl, h2.grown hg h2.size (fun k e => by cases e; omega)⟩
    simp [results, Tryd.f4, go_sem, c4]
  case done =>
    rintro D W hD ⟨h1, h2⟩ hK
    rw [List.length_map, hL] at h1
    have y5 := x5.kept h2 (by intro e; injection e with e; omega)
    have y4 := x4.kept h2 (by intro e; injection e with e; omega)
    have d6 := h1.cell
    have d5 := y5.cell
    have f4 := y4.frozen
    have d4 := y4.cell
    have hLL : ((L : Int) == (L : Int)) = true := beq_self_eq_true _
    have z4 := y4.set (.bool true)
    have hK2 := (KeepsOthers.setCell W ⟨w.heap.size + 1 + 1, 0, none⟩ (.bool true)).same D _ hK rfl
    have hbW := (hbel.grown h2 hbel.size (fun k e => by cases e; omega)).setCell (p := ⟨w.heap.size + 1 + 1, 0, none⟩) (show w.heap.size ≤ w.heap.size + 1 + 1 by omega) (.bool true)
    have hDs := h2.size
    gi_wp2
    refine ⟨by simp, .inl ⟨_, _, rfl, run_takeDeferred hK2, ?_⟩⟩
    have hg := grownBy_putObj' (W.setCell ⟨w.heap.size + 1 + 1, 0, none⟩ (.bool true)) D (.deferred none)
    have c4 := (z4.kept hg (by intro e; injection e with e; omega)).cell
    refine ⟨.bool true, ?_, rfl, hbW.grown hg hbW.size (fun k e => by cases e; omega)⟩
    simp [results, Tryd.f4, go_sem, c4]
  case body =>
    rintro l' q W hq ⟨h1, h2⟩
    have hq' : q < P.length := by simpa using hq
    rw [show (P.map ival)[q] = .int .i64 P[q] by simp [ival]]
    obtain ⟨ad, rfl, had, d1⟩ := q5.get hq'
    have d1 := h2.cell d1 (by rw [addr_add_block]; intro e; injection e with e; omega)
    simp only [ival] at d1
    generalize P[q] = x at *
    have hqL : q < L := by rw [← hL]; exact hq'
    have hqs : q ≤ 4096 := by omega
    have y5 := x5.kept h2 (by intro e; injection e with e; omega)
    have y4 := x4.kept h2 (by intro e; injection e with e; omega)
    have y3 := x3.kept h2 (by intro e; injection e with e; omega)
    have d6 := h1.cell
    have g6 := h1.frozen
    have d5 := y5.cell
    have d3 := y3.cell
    have f4 := y4.frozen
    have d4 := y4.cell
    have y4' := y4.other (B' := w2.heap.size + 1) (by omega) (.int .i64 ((q : Int) + 1))
    have d4' := y4'.cell
    have f4' := y4'.frozen
    have hge : decide (L ≤ q) = false := decide_eq_false (by omega)
    have hxx : (x != x) = false := by simp
    have hWs := h2.size
    have hk1 := KeepsOthers.setCell W ⟨w2.heap.size + 1, 0, none⟩ (.int .i64 ((q : Int) + 1))
    have hg1 : W0.grownBy (W.setCell ⟨w2.heap.size + 1, 0, none⟩ (.int .i64 ((q : Int) + 1))) (some (w2.heap.size + 1)) := h2.andThen (Lib.grownBy_setCell W (w2.heap.size + 1) 0 _) (fun j e => .inr e)
    have h6 : Boxed (W.setCell ⟨w2.heap.size + 1, 0, none⟩ (.int .i64 ((q : Int) + 1))) (w2.heap.size + 1) 3 (.int .i64 ((q + 1 : Nat) : Int)) := by
      rw [show ((q + 1 : Nat) : Int) = (q : Int) + 1 by omega]
      exact h1.set _
    by_cases hqi : (q : Int) + 1 = i
    · have hqi' : (((q : Int) + 1) == i) = true := by rw [hqi]; exact beq_self_eq_true _
      clear hqi
      have hk2 := hk1.trans (KeepsOthers.setCell _ ⟨w.heap.size + 1 + 1, 0, none⟩ (.bool true))
      have hb2 := (hbel.grown hg1 hbel.size (fun k e => by cases e; omega)).setCell (p := ⟨w.heap.size + 1 + 1, 0, none⟩) (show w.heap.size ≤ w.heap.size + 1 + 1 by omega) (.bool true)
      have z4 := y4'.set (.bool true)
      gi_wp2
      exact ⟨hk2, z4, hb2⟩
    · have hqi' : (((q : Int) + 1) == i) = false := beq_eq_false_iff_ne.2 hqi
      clear hqi
      gi_wp2
      exact ⟨hk1, h6, hg1⟩
/-- from the walk to the post of the row -/
theorem contract (H : Type) (enc : TypeId × Value → H) (W : World) (base : Nat) (args : Array Value) (ds gs : List (DataW H)) (before : List MemPlace)
    (hval : ∀ (j : Nat) t v, Tryd.f4.params[j]? = some t → args[j]? = some v → Value.okWide Tryd.prog W .any base t v)
    (hW : DataW.Whole enc Tryd.prog Tryd.f4.params.toList Rows.rowsetWalksSpec.vars false W args.toList ds gs before) (hL : laidMetH Tryd.prog Rows.rowsetWalksRow.laid W)
    (hsz0 : (DataW.weightsEach Tryd.prog (Tryd.f4.params.toList ++ Rows.rowsetWalksSpec.plain.varTypes Tryd.prog) (ds ++ gs)).all (· ≤ reachBytes) = true) :
    Calls Tryd.prog 4 args W fun e W' => ∃ v, e = .returned v ∧ Rows.rowsetWalksSpec.post enc Tryd.prog Tryd.f4 false true false false W args v W' := by
  have hW' := hW
  obtain ⟨p, q, hA0, hV, rfl, hfz, hnd⟩ := hW
  have hA : DataW.TrodAll enc Tryd.prog W 0 (fun _ => true) true Tryd.f4.params.toList args.toList ds p := hA0
  rw [Tryd.params4] at hA hval hsz0
  obtain ⟨v0, vs0, d0, ds0, p0, q0, hargs, rfl, rfl, h0, r0⟩ := trodAll_cons hA
  obtain ⟨v1, vs1, d1, ds1, p1, q1, rfl, rfl, rfl, h1, r1⟩ := trodAll_cons r0
  obtain ⟨rfl, rfl, rfl⟩ := trodAll_nil r1
  obtain rfl : args = #[v0, v1] := by cases args; simp_all
  obtain ⟨rfl, rfl⟩ := trodVars_none hV
  have lt0 : ∀ x ∈ p0, x.block < W.heap.size := by obtain ⟨m, hm⟩ := h0; exact DataW.trod_lt m _ _ _ hm
  obtain ⟨N0, a0, len0, cap0, l0, rfl, na0, nb0, e0, ec0, b0, dd0, de0, k0⟩ := open_rows (hval 0 24 v0 rfl rfl) h0
  have reach0 := reach_rows hsz0 (j := 0) rfl rfl de0 k0
  obtain ⟨x1, rfl, rfl, rfl, w1⟩ := open_int Tryd.underlying3 (hval 1 3 v1 rfl rfl) h1
  clear hA0
  refine (walk N0 a0 len0 cap0 l0 x1 W na0 nb0 e0 ec0 reach0 b0 (by have := bounds_i64 w1; omega) (by have := bounds_i64 w1; omega) (vars hL)).mono fun e W' ⟨he, bel⟩ => ?_
  subst he
  exact ⟨_, rfl, _, _, _, [], _, [], hW', trodAll_mk1 (shut_bool Tryd.underlying4 _), (trodAll_cons_mk (Below.trod laidOut (by kernel_rfl) (of_decide_eq_true (by kernel_rfl)) h0 bel lt0) (trodAll_cons_mk (shut_int Tryd.underlying3 w1) trodAll_mk0)), rfl, bel.frame _, fun h => by cases h⟩

theorem laid_met (os : Os) : laidMet Tryd.prog Rows.rowsetWalksRow.laid ((laidWorld os).forCall (fun _ _ => 0) ⟨#[], #[.agg #[.int .i64 0, .slice none 0 0], .int .i64 0], []⟩).memory :=
  laidMet_of_run' 8 (by kernel_rfl) (by kernel_rfl)
theorem reads (os : Os) {H : Type} (enc : TypeId × Value → H) : ∃ places, DataW.whole enc Tryd.prog ((laidWorld os).forCall (fun _ _ => 0) ⟨#[], #[.agg #[.int .i64 0, .slice none 0 0], .int .i64 0], []⟩).memory Tryd.f4.params.toList Rows.rowsetWalksSpec.vars false #[Value.agg #[.int .i64 0, .slice none 0 0], .int .i64 0].toList 8 = some ([.agg [.lit (.int .i64 0), .nil], .lit (.int .i64 0)], [], places) :=
  ⟨[], by kernel_rfl⟩

set_option maxRecDepth 100000 in
theorem lifted (os : Os) (started : os.Started) (H : Type) (enc : TypeId × Value → H) (F : Stop.Interp) :
    ReturnsInHanded {} Tryd.checked os 4 .any ((OpenSpec.ofChange Rows.rowsetWalksSpec).preRow enc Tryd.prog Tryd.f4 Rows.rowsetWalksRow.domain false Rows.rowsetWalksRow.laid) (((OpenSpec.ofChange Rows.rowsetWalksSpec).at F).post enc Tryd.prog Tryd.f4 false true false false) := by
  obtain ⟨places, hx⟩ := reads os enc
  refine returnsInHanded_of_row (C := Tryd.checked) (s := OpenSpec.ofChange Rows.rowsetWalksSpec) own started (by kernel_rfl) Tryd.func4
    (witness_row_at (enc := enc) (C := Tryd.checked) false (laidWorld os) #[.agg #[.int .i64 0, .slice none 0 0], .int .i64 0] rfl (by kernel_rfl) (by kernel_rfl) (by kernel_rfl)
      (OpenSpec.preRow_of_cond 8 hx (by kernel_rfl) (fun k hk => by cases hk) (by kernel_rfl) (laid_met os))) ?_
  intro W base args ds gs before hval hW _ _ hsz hL _ _
  exact contract H enc W base args ds gs before hval hW hL hsz

theorem said : Rows.RowsetWalksSaid :=
  OpenClaim.holds_of_cond 4 Tryd.f4 rfl rfl rfl rfl rfl rfl rfl ⟨rfl, rfl, rfl, rfl, rfl⟩ rfl rfl rfl rfl rfl (by kernel_rfl) Tryd.func4 (by kernel_rfl)
    (of_decide_eq_true (by kernel_rfl)) (by unfold Func.isWrapper; first | (rw [if_pos (by decide +kernel)]; kernel_rfl) | (rw [if_neg (by decide +kernel)]; exact ⟨rfl, rfl⟩))
    (fun os started H enc _ F => by rw [OpenClaim.pre_eq_preRow]; exact lifted os started H enc F)

theorem plain (f : FuncId) (fn : Func) (hf : Tryd.pinned.checked.prog.funcNamed "dragnet/dragnetlaw09.RowsetWalks" = some f) (hfn : Tryd.pinned.checked.prog.funcs[f]? = some fn) :
    false = Tryd.pinned.checked.prog.looks [] ∧ ∀ (j : Nat) t, fn.params[j]? = some t → Tryd.pinned.checked.prog.wantsStandIn t = false := by
  obtain rfl : f = 4 := Option.some.inj ((show Tryd.prog.funcNamed "dragnet/dragnetlaw09.RowsetWalks" = some 4 by kernel_rfl).symm.trans hf) |>.symm
  obtain rfl : fn = Tryd.f4 := (Option.some.inj (Tryd.func4.symm.trans hfn)).symm
  refine ⟨by kernel_rfl, fun j t ht => ?_⟩
  rw [Tryd.params4] at ht
  have hm : t = 24 ∨ t = 3 := by simpa using Array.mem_of_getElem? ht
  rcases hm with rfl | rfl
  · exact (show Tryd.prog.wantsStandIn 24 = false by kernel_rfl)
  · exact (show Tryd.prog.wantsStandIn 3 = false by kernel_rfl)

/-- THE CARD -/
theorem card : Rows.RowsetWalksCardSaid :=
  Claim7.holds_tied_plain_at .later [] _ _ _ _ said (fun _ h => by cases h) (by kernel_rfl) (fun _ h => by cases h) rowsetWalks_row_tie rfl ⟨rfl, rfl⟩ (by kernel_rfl) rfl plain (by kernel_rfl)
end Go.Proofs.YtggelnlbdpdegaaDoor.rowsetWalks
