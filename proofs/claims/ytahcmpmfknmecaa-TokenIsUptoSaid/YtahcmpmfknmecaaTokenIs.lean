/- PROVED: the law TokenIs (whether any text is a term, and the text made lower, are the document's; a term is the one token of itself) returns true and leaves its argument as it was.
   Conditions: the second form: the argument holds at most 1048576 values and letters (the first form is false by size alone). -/
import Derived.Test.YtahcmpmfknmecaaTokLaw
import Derived.Test.YtahcmpmfknmecaaTokLow
import Derived.Test.YtahcmpmfknmecaaTokRefIs
import Derived.Test.YtahcmpmfknmecaaStrBytes
import Derived.ChangeMaps5
namespace Go.Proofs.Ytahcmpmfknmecaa.tokenIs
open Go.ChangeShapes Go.WideShapes Go.ChangeAt Go.RowKit Go.ChangeMaps
set_option maxRecDepth 100000

set_option maxHeartbeats 1000000 in
theorem walk (s : List UInt8) (w : World) (_hm : s.length ≤ maxLen) (hsm : s.length ≤ 1048576) :
    Calls Try.prog 5 #[.string ⟨s.toArray⟩] w fun e w' => e = .returned (.bool true) ∧ Below w.heap.size w w' := by
  have C1 := fun A c B w' (hc : s.length ≤ c) hb hB => cut_any A s.length c B s w' rfl hc (by omega) hb hB
  have C2 := fun w' => is_any s w' (by omega)
  have C3 := fun w' => refIs_any s w' (by omega)
  have C4 := fun w' => lower_any s w' (by omega)
  have C5 := fun w' => refLower_any s w' (by omega)
  have HC := Lib.hid (Tok.cuts_is (s := s))
  generalize Tok.cuts s = X at *
  generalize Tok.lower s = L at *
  replace C1 := Lib.hid C1
  replace C4 := Lib.hid C4
  replace C5 := Lib.hid C5
  have hLL : (L == L) = true := by simp
  have hss : (s == s) = true := by simp
  go_enter Try.func5, Try.ntmps5
  go_wp2_with fail
  refine (tokAlive_any w).mono ?_
  rintro e w1 ⟨rfl, hbel1⟩
  obtain ⟨c2, w2, hc2, hrun2, hby2, hb2⟩ := run_bytes_of s w1
  have hbel2 := hbel1.trans (hb2.mono hbel1.size)
  rcases hI : Tok.is s with _ | _
  · rw [hI] at C2 C3
    replace C2 := Lib.hid C2
    replace C3 := Lib.hid C3
    clear HC hI
    go_wp2_with fail
    refine (C1.out _ c2 _ w2 hc2 hby2 (Nat.le_refl _)).mono ?_
    rintro e w3 ⟨A3, c3, rfl, _, hb3⟩
    have hbel3 := hbel2.trans (hb3.mono hbel2.size)
    clear hrun2 hby2 hb2 hb3 hbel2 hbel1 C1
    go_wp2_with fail
    refine (C2.out _).mono ?_
    rintro e w4 ⟨rfl, rfl⟩
    go_wp2_with fail
    refine (C3.out _).mono ?_
    rintro e w5 ⟨rfl, hb5⟩
    have hbel5 := hbel3.trans (hb5.mono hbel3.size)
    go_wp2_with fail
    refine (C4.out _).mono ?_
    rintro e w6 ⟨rfl, hb6⟩
    have hbel6 := hbel5.trans (hb6.mono hbel5.size)
    go_wp2_with fail
    refine (C5.out _).mono ?_
    rintro e w7 ⟨rfl, hb7⟩
    have hbel7 := hbel6.trans (hb7.mono hbel6.size)
    go_wp2
    go_ret
    exact ⟨rfl, hbel7⟩
  · rw [hI] at C2 C3
    replace C2 := Lib.hid C2
    replace C3 := Lib.hid C3
    obtain rfl := HC.out hI
    clear HC hI
    go_wp2_with fail
    refine (C1.out _ c2 _ w2 hc2 hby2 (Nat.le_refl _)).mono ?_
    rintro e w3 ⟨A3, c3, rfl, ho3, hb3⟩
    have hbel3 := hbel2.trans (hb3.mono hbel2.size)
    have ht3 := ho3.toks
    clear hrun2 hby2 hb2 hb3 hbel2 hbel1 C1 ho3
    go_wp2_with fail
    refine (C2.out _).mono ?_
    rintro e w4 ⟨rfl, rfl⟩
    go_wp2_with fail
    refine (C3.out _).mono ?_
    rintro e w5 ⟨rfl, hb5⟩
    have hbel5 := hbel3.trans (hb5.mono hbel3.size)
    have ht5 := ht3.below hb5
    go_wp2_with fail
    refine (C4.out _).mono ?_
    rintro e w6 ⟨rfl, hb6⟩
    have hbel6 := hbel5.trans (hb6.mono hbel5.size)
    have ht6 := ht5.below hb6
    go_wp2_with fail
    refine (C5.out _).mono ?_
    rintro e w7 ⟨rfl, hb7⟩
    have hbel7 := hbel6.trans (hb7.mono hbel6.size)
    obtain ⟨g, rfl, _, ha, hb⟩ := (ht6.below hb7).get (k := 0) (by simp)
    simp only [List.getElem_cons_zero, Nat.zero_mul, Nat.zero_add] at ha hb
    go_wp2
    go_ret
    exact ⟨rfl, hbel7⟩

theorem short {H : Type} {d0 : DataW H} {n0 : Nat} (hk : Rows.uptoSmall H [d0] = true)
    (h0 : ∃ b, d0 = .lit (.string b) ∧ b.length = n0) : n0 ≤ 1048576 := by
  have h : Rows.uptoBulkAll [d0] ≤ 1048576 := of_decide_eq_true hk
  simp only [Rows.uptoBulkAll] at h
  have g0 : n0 + 1 ≤ Rows.uptoBulk d0 := by obtain ⟨b, rfl, rfl⟩ := h0; simp [Rows.uptoBulk]
  omega

/-- from the walk to the post of the row -/
theorem contract (H : Type) (enc : TypeId × Value → H) (W : World) (base : Nat) (args : Array Value) (ds gs : List (DataW H)) (before : List MemPlace)
    (hval : ∀ (j : Nat) t v, Try.f5.params[j]? = some t → args[j]? = some v → Value.okWide Try.prog W .any base t v)
    (hW : DataW.Whole enc Try.prog Try.f5.params.toList Rows.tokenIsSpec.vars false W args.toList ds gs before) (_ : laidMetH Try.prog Rows.tokenIsUptoRow.laid W)
    (hsz0 : (DataW.weightsEach Try.prog (Try.f5.params.toList ++ Rows.tokenIsSpec.plain.varTypes Try.prog) (ds ++ gs)).all (· ≤ reachBytes) = true) (hk : Rows.uptoSmall H (ds ++ gs) = true) :
    Calls Try.prog 5 args W fun e W' => ∃ v, e = .returned v ∧ Rows.tokenIsSpec.post enc Try.prog Try.f5 false true false false W args v W' := by
  have hW' := hW
  obtain ⟨p, q, hA0, hV, rfl, hfz, hnd⟩ := hW
  have hA : DataW.TrodAll enc Try.prog W 0 (fun _ => true) true Try.f5.params.toList args.toList ds p := hA0
  rw [Try.params5] at hA hval hsz0
  obtain ⟨v0, vs0, d0, ds0, p0, q0, hargs, rfl, rfl, h0, r0⟩ := trodAll_cons hA
  obtain ⟨rfl, rfl, rfl⟩ := trodAll_nil r0
  obtain rfl : args = #[v0] := by cases args; simp_all
  obtain ⟨rfl, rfl⟩ := trodVars_none hV
  obtain ⟨⟨⟨l0⟩⟩, rfl, rfl, rfl, z0⟩ := open_string Try.underlying9 (hval 0 9 v0 rfl rfl) h0
  have k0 : ∃ b : List UInt8, (DataW.lit (.string l0) : DataW H) = .lit (.string b) ∧ b.length = l0.length := ⟨l0, rfl, rfl⟩
  clear hA0
  have hs := short (by simpa using hk) k0
  refine (walk l0 W (by simpa [ByteArray.size] using z0) hs).mono fun e W' ⟨he, bel⟩ => ?_
  subst he
  exact ⟨_, rfl, _, _, _, [], _, [], hW', trodAll_mk1 (shut_bool Try.underlying4 _), (trodAll_cons_mk (shut_string Try.underlying9 z0) trodAll_mk0), rfl, bel.frame _, fun h => by cases h⟩

theorem laid_met (os : Os) : laidMet Try.prog Rows.tokenIsUptoRow.laid ((World.holding Try.prog os ⟨#[], #[], []⟩).forCall (fun _ _ => 0) ⟨#[], #[.string ⟨#[]⟩], []⟩).memory :=
  laidMet_of_run' 8 (by kernel_rfl) (by kernel_rfl)
theorem reads (os : Os) {H : Type} (enc : TypeId × Value → H) : ∃ places, DataW.whole enc Try.prog ((World.holding Try.prog os ⟨#[], #[], []⟩).forCall (fun _ _ => 0) ⟨#[], #[.string ⟨#[]⟩], []⟩).memory Try.f5.params.toList Rows.tokenIsSpec.vars false #[Value.string ⟨#[]⟩].toList 8 = some ([.lit (.string [])], [], places) :=
  ⟨[], by kernel_rfl⟩

set_option maxRecDepth 100000 in
theorem lifted (os : Os) (started : os.Started) (H : Type) (enc : TypeId × Value → H) (F : Stop.Interp) :
    ReturnsInHanded {} Try.checked os 5 .any ((Rows.OpenSpec.upto Rows.tokenIsSpec).preRow enc Try.prog Try.f5 Rows.tokenIsUptoRow.domain false Rows.tokenIsUptoRow.laid) (((Rows.OpenSpec.upto Rows.tokenIsSpec).at F).post enc Try.prog Try.f5 false true false false) := by
  obtain ⟨places, hx⟩ := reads os enc
  refine returnsInHanded_of_row (C := Try.checked) (s := Rows.OpenSpec.upto Rows.tokenIsSpec) own started (by kernel_rfl) Try.func5
    (witness_row_at (enc := enc) (C := Try.checked) false (World.holding Try.prog os ⟨#[], #[], []⟩) #[.string ⟨#[]⟩] rfl (by kernel_rfl) (by kernel_rfl) (by kernel_rfl)
      (OpenSpec.preRow_of_cond 8 hx (by kernel_rfl) (fun k hk => by cases hk; kernel_rfl) (by kernel_rfl) (laid_met os))) ?_
  intro W base args ds gs before hval hW _ hcond hsz hL _ _
  exact contract H enc W base args ds gs before hval hW hL hsz (hcond _ rfl)

theorem said : Rows.TokenIsUptoSaid :=
  OpenClaim.holds_of_cond 5 Try.f5 rfl rfl rfl rfl rfl rfl rfl ⟨rfl, rfl, rfl, rfl, rfl⟩ rfl rfl rfl rfl rfl (by kernel_rfl) Try.func5 (by kernel_rfl)
    (of_decide_eq_true (by kernel_rfl)) (by unfold Func.isWrapper; first | (rw [if_pos (by decide +kernel)]; kernel_rfl) | (rw [if_neg (by decide +kernel)]; exact ⟨rfl, rfl⟩))
    (fun os started H enc _ F => by rw [OpenClaim.pre_eq_preRow]; exact lifted os started H enc F)

end Go.Proofs.Ytahcmpmfknmecaa.tokenIs
