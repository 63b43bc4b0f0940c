/- PROVED: the law TokenCases (a line and the line made lower have the same tokens) returns true and leaves its argument as it was.
   Conditions: the second form: the argument holds at most 1048576 values and letters (the first form is false by size alone). -/
import Derived.Test.YtahcmpmfknmecaaTokLaw
import Derived.Test.YtahcmpmfknmecaaTokSame
import Derived.Test.YtahcmpmfknmecaaTokLow
import Derived.Test.YtahcmpmfknmecaaStrBytes
import Derived.Deep.RegionHeld3
namespace Go.Proofs.Ytahcmpmfknmecaa.tokenCases
open Go.ChangeShapes Go.WideShapes Go.ChangeAt Go.RowKit
set_option maxRecDepth 100000

set_option maxHeartbeats 1000000 in
theorem walk (A : Option Addr) (n cap : Nat) (l : List UInt8) (w : World)
    (hl : l.length = n) (hcap : n ≤ cap) (_hn : n ≤ 140737488351232) (hb : Bytes w w.heap.size A l) (hsm : n ≤ 1048576) :
    Calls Try.prog 6 #[.slice A n cap] w fun e w' => e = .returned (.bool true) ∧ Below w.heap.size w w' := by
  have C1 := Lib.hid fun w' B hb hB => cut_any A n cap B l w' hl hcap (by omega) hb hB
  have C2 := Lib.hid fun w' => lower_any l w' (by omega)
  have C3 := fun A2 c2 w' B (hc : n ≤ c2) hb hB => cut_any A2 n c2 B (Tok.lower l) w' ((Tok.lower_length l).trans hl) hc (by omega) hb hB
  have HS := fun W B (h : Bytes W B A l) => run_string_of h cap
  have HB := fun W => run_bytes_of (Tok.lower l) W
  rw [Tok.lower_length] at HB
  rw [hl] at HS HB
  rw [Tok.cuts_lower] at C3
  replace HS := Lib.hid HS
  replace HB := Lib.hid HB
  replace C3 := Lib.hid C3
  have hk := Tok.cuts_len l
  rw [hl] at hk
  generalize Tok.cuts l = X at *
  generalize Tok.lower l = L at *
  have C5 := Lib.hid fun A1 A2 c1 c2 w' h1 h2 => sameTok_any A1 A2 X.length c1 c2 X w' rfl (by omega) h1 h2
  clear hl
  go_enter Try.func6, Try.ntmps6
  go_wp2_with fail
  refine (tokAlive_any w).mono ?_
  rintro e w1 ⟨rfl, hbel1⟩
  have hx1 := (hb.below hbel1).wide hbel1.size
  go_wp2_with fail
  refine wp_region_held_drew (S := fun w' => (convert 22 9 (.slice A n cap)).run Try.prog w' = .ok (.string ⟨l.toArray⟩) w') (by kernel_rfl) (HS.out _ _ (by exact hx1)) (fun hHeld => ?_)
  change wpAnyH _ _ _ _ _ 9 #[false, false, false, false, false, false, false, false, false] _ _
  refine wpAnyH_take (i := 0) (oi := { dst := some 7, op := _, type := _, pos := _, after := _, guard := _ }) (v := (.slice A n cap)) rfl (by kernel_rfl) (by kernel_rfl) (by kernel_rfl) (fun _ _ _ h => h) (Or.inl ⟨by rfl, fun _ _ => rfl⟩) (by assumption) ?_
  simp only [Act.put, List.setIfInBounds_toArray, List.set_cons_zero, List.set_cons_succ]
  refine wpAnyH_take (i := 2) (oi := { dst := some 9, op := _, type := _, pos := _, after := _, guard := _ }) (v := (.slice A n cap)) rfl (by kernel_rfl) (by kernel_rfl) (by kernel_rfl) (fun _ _ _ h => h) (Or.inl ⟨by rfl, fun _ _ => rfl⟩) (by assumption) ?_
  simp only [Act.put, List.setIfInBounds_toArray, List.set_cons_zero, List.set_cons_succ]
  refine wpAnyH_take (i := 3) (oi := { dst := some 10, op := _, type := _, pos := _, after := _, guard := _ }) (v := (.string ⟨l.toArray⟩)) rfl (by kernel_rfl) (by kernel_rfl) (by kernel_rfl) (fun _ _ _ h => h) (Or.inl ⟨by rfl, by intro w hSw; (try dsimp only at hSw); go_simp⟩) (by assumption) ?_
  simp only [Act.put, List.setIfInBounds_toArray, List.set_cons_zero, List.set_cons_succ]
  refine wpAnyH_ready (rs := [1]) (by kernel_rfl) (by simp) ?_
  refine AllReadyH.cons (o := { dst := some 8, op := _, type := _, pos := _, after := _, guard := _ }) rfl (fun K hK => ?_) AllReadyH.nil
  go_simp
  refine (C1.out _ _ (by exact hx1) (by exact Nat.le_refl _)).mono ?_
  rintro e w2 ⟨A2, c2, rfl, ho2, hb2⟩
  have hsz2 := (below_of_drew hb2).size
  have hx2 := hx1.below (below_of_drew hb2)
  go_wp2_with fail
  refine hK.out _ _ (HS.out _ _ hx2) (fun hHeld => ?_)
  clear hK K
  simp only [List.setIfInBounds_toArray, List.set_cons_zero, List.set_cons_succ]
  refine wpAnyH_ready (rs := [4]) (by kernel_rfl) (by simp) ?_
  refine AllReadyH.cons (o := { dst := some 11, op := _, type := _, pos := _, after := _, guard := _ }) rfl (fun K hK => ?_) AllReadyH.nil
  go_simp
  refine (C2.out _).mono ?_
  rintro e w3 ⟨rfl, hb3⟩
  have hs3 : w1.heap.size ≤ w3.heap.size := Nat.le_trans hsz2 hb3.size
  obtain ⟨c3, w4, hc3, hrun4, hby4, hb4⟩ := HB.out w3
  have hs4 : w1.heap.size ≤ w4.heap.size := Nat.le_trans hs3 hb4.size
  have hx3 := hx2.below (hb3.mono hsz2)
  have hx4 := hx3.below (hb4.mono hs3)
  go_wp2_with fail
  refine hK.out _ _ (HS.out _ _ hx3) (fun hHeld => ?_)
  clear hK K
  simp only [List.setIfInBounds_toArray, List.set_cons_zero, List.set_cons_succ]
  refine wpAnyH_ready (rs := [5]) (by kernel_rfl) (by simp) ?_
  refine AllReadyH.cons (o := { dst := some 12, op := _, type := _, pos := _, after := _, guard := _ }) rfl (fun K hK => ?_) AllReadyH.nil
  go_simp
  refine hK.out _ _ (HS.out _ _ hx4) (fun hHeld => ?_)
  clear hK K
  simp only [List.setIfInBounds_toArray, List.set_cons_zero, List.set_cons_succ]
  refine wpAnyH_ready (rs := [6]) (by kernel_rfl) (by simp) ?_
  refine AllReadyH.cons (o := { dst := some 13, op := _, type := _, pos := _, after := _, guard := _ }) rfl (fun K hK => ?_) AllReadyH.nil
  go_simp
  refine (C3.out _ _ _ _ (by exact hc3) (by exact hby4) (by exact Nat.le_refl _)).mono ?_
  rintro e w5 ⟨A5, c5, rfl, ho5, hb5⟩
  have hx5 := hx4.below (hb5.mono hs4)
  go_wp2_with fail
  refine hK.out _ _ (HS.out _ _ hx5) (fun hHeld => ?_)
  clear hK K
  simp only [List.setIfInBounds_toArray, List.set_cons_zero, List.set_cons_succ]
  refine wpAnyH_take (i := 7) (oi := { dst := some 3, op := _, type := _, pos := _, after := _, guard := _ }) (v := (.slice A2 X.length c2)) rfl (by kernel_rfl) (by kernel_rfl) (by kernel_rfl) (fun _ _ _ h => h) (Or.inl ⟨by rfl, fun _ _ => rfl⟩) (by assumption) ?_
  simp only [Act.put, List.setIfInBounds_toArray, List.set_cons_zero, List.set_cons_succ]
  refine wpAnyH_take (i := 8) (oi := { dst := some 4, op := _, type := _, pos := _, after := _, guard := _ }) (v := (.slice A5 X.length c5)) rfl (by kernel_rfl) (by kernel_rfl) (by kernel_rfl) (fun _ _ _ h => h) (Or.inl ⟨by rfl, fun _ _ => rfl⟩) (by assumption) ?_
  simp only [Act.put, List.setIfInBounds_toArray, List.set_cons_zero, List.set_cons_succ]
  refine wpAnyH_done (by kernel_rfl) ?_ _
  have hbel5 := (((below_of_drew hb2).trans (hb3.mono hsz2)).trans (hb4.mono hs3)).trans (hb5.mono hs4)
  have hbel6 := hbel1.trans (hbel5.mono hbel1.size)
  have hz : Toks w5 A2 X := ho2.toks.below ((hb3.trans (hb4.mono hb3.size)).trans (hb5.mono (Nat.le_trans hb3.size hb4.size)))
  have S1 := Lib.hid (C5.out A2 A5 c2 c5 w5 hz ho5.toks)
  clear C1 C2 C3 C5
  go_wp2_with fail
  refine S1.out.mono ?_
  rintro e w7 ⟨rfl, hd7⟩
  go_wp2
  go_ret
  exact ⟨rfl, hbel6.trans (hd7.below _)⟩

theorem short {H : Type} {d0 : DataW H} {n0 : Nat} (hk : Rows.uptoSmall H [d0] = true)
    (h0 : d0 = .nil ∧ n0 = 0 ∨ ∃ elems spare, d0 = .slice elems spare ∧ elems.length = n0) : n0 ≤ 1048576 := by
  have h : Rows.uptoBulkAll [d0] ≤ 1048576 := of_decide_eq_true hk
  simp only [Rows.uptoBulkAll] at h
  have g0 := bulk_le h0
  omega

/-- from the walk to the post of the row -/
theorem contract (H : Type) (enc : TypeId × Value → H) (W : World) (base : Nat) (args : Array Value) (ds gs : List (DataW H)) (before : List MemPlace)
    (hval : ∀ (j : Nat) t v, Try.f6.params[j]? = some t → args[j]? = some v → Value.okWide Try.prog W .any base t v)
    (hW : DataW.Whole enc Try.prog Try.f6.params.toList Rows.tokenCasesSpec.vars false W args.toList ds gs before) (_ : laidMetH Try.prog Rows.tokenCasesUptoRow.laid W)
    (hsz0 : (DataW.weightsEach Try.prog (Try.f6.params.toList ++ Rows.tokenCasesSpec.plain.varTypes Try.prog) (ds ++ gs)).all (· ≤ reachBytes) = true) (hk : Rows.uptoSmall H (ds ++ gs) = true) :
    Calls Try.prog 6 args W fun e W' => ∃ v, e = .returned v ∧ Rows.tokenCasesSpec.post enc Try.prog Try.f6 false true false false W args v W' := by
  have hW' := hW
  obtain ⟨p, q, hA0, hV, rfl, hfz, hnd⟩ := hW
  have hA : DataW.TrodAll enc Try.prog W 0 (fun _ => true) true Try.f6.params.toList args.toList ds p := hA0
  rw [Try.params6] at hA hval hsz0
  obtain ⟨v0, vs0, d0, ds0, p0, q0, hargs, rfl, rfl, h0, r0⟩ := trodAll_cons hA
  obtain ⟨rfl, rfl, rfl⟩ := trodAll_nil r0
  obtain rfl : args = #[v0] := by cases args; simp_all
  obtain ⟨rfl, rfl⟩ := trodVars_none hV
  obtain ⟨a0, len0, cap0, rfl⟩ := okWide_slice Try.underlying22 (hval 0 22 v0 rfl rfl)
  have lt0 : ∀ x ∈ p0, x.block < W.heap.size := by obtain ⟨m, hm⟩ := h0; exact DataW.trod_lt m _ _ _ hm
  obtain ⟨l0, e0, ec0, b0, k0⟩ := open_bytes h0
  have reach0 := reach_bytes hsz0 (j := 0) rfl rfl k0
  clear hA0
  have hs := short (by simpa using hk) k0
  refine (walk a0 len0 cap0 l0 W e0 ec0 reach0 b0 hs).mono fun e W' ⟨he, bel⟩ => ?_
  subst he
  exact ⟨_, rfl, _, _, _, [], _, [], hW', trodAll_mk1 (shut_bool Try.underlying4 _), (trodAll_cons_mk (Below.trod laidOut (by kernel_rfl) (of_decide_eq_true (by kernel_rfl)) h0 bel lt0) trodAll_mk0), rfl, bel.frame _, fun h => by cases h⟩

theorem laid_met (os : Os) : laidMet Try.prog Rows.tokenCasesUptoRow.laid ((World.holding Try.prog os ⟨#[], #[], []⟩).forCall (fun _ _ => 0) ⟨#[], #[.slice none 0 0], []⟩).memory :=
  laidMet_of_run' 8 (by kernel_rfl) (by kernel_rfl)
theorem reads (os : Os) {H : Type} (enc : TypeId × Value → H) : ∃ places, DataW.whole enc Try.prog ((World.holding Try.prog os ⟨#[], #[], []⟩).forCall (fun _ _ => 0) ⟨#[], #[.slice none 0 0], []⟩).memory Try.f6.params.toList Rows.tokenCasesSpec.vars false #[Value.slice none 0 0].toList 8 = some ([.nil], [], places) :=
  ⟨[], by kernel_rfl⟩

set_option maxRecDepth 100000 in
theorem lifted (os : Os) (started : os.Started) (H : Type) (enc : TypeId × Value → H) (F : Stop.Interp) :
    ReturnsInHanded {} Try.checked os 6 .any ((Rows.OpenSpec.upto Rows.tokenCasesSpec).preRow enc Try.prog Try.f6 Rows.tokenCasesUptoRow.domain false Rows.tokenCasesUptoRow.laid) (((Rows.OpenSpec.upto Rows.tokenCasesSpec).at F).post enc Try.prog Try.f6 false true false false) := by
  obtain ⟨places, hx⟩ := reads os enc
  refine returnsInHanded_of_row (C := Try.checked) (s := Rows.OpenSpec.upto Rows.tokenCasesSpec) own started (by kernel_rfl) Try.func6
    (witness_row_at (enc := enc) (C := Try.checked) false (World.holding Try.prog os ⟨#[], #[], []⟩) #[.slice none 0 0] rfl (by kernel_rfl) (by kernel_rfl) (by kernel_rfl)
      (OpenSpec.preRow_of_cond 8 hx (by kernel_rfl) (fun k hk => by cases hk; kernel_rfl) (by kernel_rfl) (laid_met os))) ?_
  intro W base args ds gs before hval hW _ hcond hsz hL _ _
  exact contract H enc W base args ds gs before hval hW hL hsz (hcond _ rfl)

theorem said : Rows.TokenCasesUptoSaid :=
  OpenClaim.holds_of_cond 6 Try.f6 rfl rfl rfl rfl rfl rfl rfl ⟨rfl, rfl, rfl, rfl, rfl⟩ rfl rfl rfl rfl rfl (by kernel_rfl) Try.func6 (by kernel_rfl)
    (of_decide_eq_true (by kernel_rfl)) (by unfold Func.isWrapper; first | (rw [if_pos (by decide +kernel)]; kernel_rfl) | (rw [if_neg (by decide +kernel)]; exact ⟨rfl, rfl⟩))
    (fun os started H enc _ F => by rw [OpenClaim.pre_eq_preRow]; exact lifted os started H enc F)

end Go.Proofs.Ytahcmpmfknmecaa.tokenCases
