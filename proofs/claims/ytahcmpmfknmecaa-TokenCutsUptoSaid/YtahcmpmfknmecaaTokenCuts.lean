/- PROVED: the law TokenCuts (any line is cut into tokens as the document says, and stays) returns true and leaves its argument as it was.
   Conditions: the second form: the argument holds at most 1048576 values and letters (the first form is false by size alone). -/
import Derived.Test.YtahcmpmfknmecaaTokLaw
import Derived.Test.YtahcmpmfknmecaaTokSame
import Derived.Test.YtahcmpmfknmecaaTokRefCut
namespace Go.Proofs.Ytahcmpmfknmecaa.tokenCuts
open Go.ChangeShapes Go.WideShapes Go.ChangeAt Go.RowKit

set_option maxHeartbeats 1000000 in
theorem walk (A : Option Addr) (n cap : Nat) (l : List UInt8) (w : World)
    (hl : l.length = n) (hcap : n ≤ cap) (_hn : n ≤ 140737488351232) (hb : Bytes w w.heap.size A l) (hsm : n ≤ 1048576) :
    Calls Try.prog 3 #[.slice A n cap] w fun e w' => e = .returned (.bool true) ∧ Below w.heap.size w w' := by
  have C1 := Lib.hid fun w' B hb hB => copy_any A n cap B l w' hl (by omega) hb hB
  have C2 := Lib.hid fun A2 c2 w' hc hb => cut_any A2 n c2 _ l w' hl hc (by omega) hb (Nat.le_refl _)
  have C3 := Lib.hid fun w' B hb hB => refCut_any A n cap B l w' hl hcap (by omega) hb hB
  have C4 := Lib.hid fun A1 A2 c1 c2 B1 B2 w' h1 h2 => same_any A1 A2 n n c1 c2 B1 B2 l l w' hl hl h1 h2
  have hk := Tok.cuts_len l
  rw [hl] at hk
  generalize Tok.cuts l = X at *
  have C5 := Lib.hid fun A1 A2 c1 c2 w' h1 h2 => sameTok_any A1 A2 X.length c1 c2 X w' rfl (by omega) h1 h2
  clear hl
  go_enter Try.func3, Try.ntmps3
  go_wp2_with fail
  refine (tokAlive_any w).mono ?_
  rintro e w1 ⟨rfl, hbel1⟩
  have hx1 := (hb.below hbel1).wide hbel1.size
  go_wp2_with fail
  refine (C1.out w1 _ hx1 (Nat.le_refl _)).mono ?_
  rintro e w2 ⟨A2, c2, rfl, ho2, hb2⟩
  have hx2 := (hx1.below hb2).wide hb2.size
  have hbel2 := hbel1.trans (hb2.mono hbel1.size)
  clear hx1 C1
  go_wp2_with fail
  refine (C2.out A2 c2 w2 (by exact ho2.cap) ho2.bytes).mono ?_
  rintro e w3 ⟨A3, c3, rfl, ho3, hb3⟩
  have hx3 := (hx2.below hb3).wide hb3.size
  have hy3 := (ho2.bytes.below hb3).wide hb3.size
  have hbel3 := hbel2.trans (hb3.mono hbel2.size)
  clear hx2 C2 ho2
  go_wp2_with fail
  refine (C3.out w3 _ hx3 (Nat.le_refl _)).mono ?_
  rintro e w4 ⟨A4, c4, rfl, ho4, hb4⟩
  have hx4 := hx3.below hb4
  have hy4 := hy3.below hb4
  have hz4 := ho3.toks.below hb4
  have hbel4 := hbel3.trans (hb4.mono hbel3.size)
  clear hx3 hy3 C3 ho3
  have S1 := Lib.hid (C5.out A3 A4 c3 c4 w4 hz4 ho4.toks)
  clear C5
  go_wp2_with fail
  refine S1.out.mono ?_
  rintro e w5 ⟨rfl, hd5⟩
  clear S1
  have S2 := C4.out A2 A c2 cap _ _ w5 (hy4.below (hd5.below _)) (hx4.below (hd5.below _))
  rw [beq_self_eq_true] at S2
  replace S2 := Lib.hid S2
  clear C4
  go_wp2_with fail
  refine S2.out.mono ?_
  rintro e w6 ⟨rfl, rfl⟩
  clear S2
  go_wp2
  go_ret
  exact ⟨rfl, hbel4.trans (hd5.below _)⟩

theorem short {H : Type} {d0 : DataW H} {n0 : Nat} (hk : Rows.uptoSmall H [d0] = true)
    (h0 : d0 = .nil ∧ n0 = 0 ∨ ∃ elems spare, d0 = .slice elems spare ∧ elems.length = n0) : n0 ≤ 1048576 := by
  have h : Rows.uptoBulkAll [d0] ≤ 1048576 := of_decide_eq_true hk
  simp only [Rows.uptoBulkAll] at h
  have g0 := bulk_le h0
  omega

/-- from the walk to the post of the row -/
theorem contract (H : Type) (enc : TypeId × Value → H) (W : World) (base : Nat) (args : Array Value) (ds gs : List (DataW H)) (before : List MemPlace)
    (hval : ∀ (j : Nat) t v, Try.f3.params[j]? = some t → args[j]? = some v → Value.okWide Try.prog W .any base t v)
    (hW : DataW.Whole enc Try.prog Try.f3.params.toList Rows.tokenCutsSpec.vars false W args.toList ds gs before) (_ : laidMetH Try.prog Rows.tokenCutsUptoRow.laid W)
    (hsz0 : (DataW.weightsEach Try.prog (Try.f3.params.toList ++ Rows.tokenCutsSpec.plain.varTypes Try.prog) (ds ++ gs)).all (· ≤ reachBytes) = true) (hk : Rows.uptoSmall H (ds ++ gs) = true) :
    Calls Try.prog 3 args W fun e W' => ∃ v, e = .returned v ∧ Rows.tokenCutsSpec.post enc Try.prog Try.f3 false true false false W args v W' := by
  have hW' := hW
  obtain ⟨p, q, hA0, hV, rfl, hfz, hnd⟩ := hW
  have hA : DataW.TrodAll enc Try.prog W 0 (fun _ => true) true Try.f3.params.toList args.toList ds p := hA0
  rw [Try.params3] at hA hval hsz0
  obtain ⟨v0, vs0, d0, ds0, p0, q0, hargs, rfl, rfl, h0, r0⟩ := trodAll_cons hA
  obtain ⟨rfl, rfl, rfl⟩ := trodAll_nil r0
  obtain rfl : args = #[v0] := by cases args; simp_all
  obtain ⟨rfl, rfl⟩ := trodVars_none hV
  obtain ⟨a0, len0, cap0, rfl⟩ := okWide_slice Try.underlying22 (hval 0 22 v0 rfl rfl)
  have lt0 : ∀ x ∈ p0, x.block < W.heap.size := by obtain ⟨m, hm⟩ := h0; exact DataW.trod_lt m _ _ _ hm
  obtain ⟨l0, e0, ec0, b0, k0⟩ := open_bytes h0
  have reach0 := reach_bytes hsz0 (j := 0) rfl rfl k0
  clear hA0
  have hs := short (by simpa using hk) k0
  refine (walk a0 len0 cap0 l0 W e0 ec0 reach0 b0 hs).mono fun e W' ⟨he, bel⟩ => ?_
  subst he
  exact ⟨_, rfl, _, _, _, [], _, [], hW', trodAll_mk1 (shut_bool Try.underlying4 _), (trodAll_cons_mk (Below.trod laidOut (by kernel_rfl) (of_decide_eq_true (by kernel_rfl)) h0 bel lt0) trodAll_mk0), rfl, bel.frame _, fun h => by cases h⟩

theorem laid_met (os : Os) : laidMet Try.prog Rows.tokenCutsUptoRow.laid ((World.holding Try.prog os ⟨#[], #[], []⟩).forCall (fun _ _ => 0) ⟨#[], #[.slice none 0 0], []⟩).memory :=
  laidMet_of_run' 8 (by kernel_rfl) (by kernel_rfl)
theorem reads (os : Os) {H : Type} (enc : TypeId × Value → H) : ∃ places, DataW.whole enc Try.prog ((World.holding Try.prog os ⟨#[], #[], []⟩).forCall (fun _ _ => 0) ⟨#[], #[.slice none 0 0], []⟩).memory Try.f3.params.toList Rows.tokenCutsSpec.vars false #[Value.slice none 0 0].toList 8 = some ([.nil], [], places) :=
  ⟨[], by kernel_rfl⟩

set_option maxRecDepth 100000 in
theorem lifted (os : Os) (started : os.Started) (H : Type) (enc : TypeId × Value → H) (F : Stop.Interp) :
    ReturnsInHanded {} Try.checked os 3 .any ((Rows.OpenSpec.upto Rows.tokenCutsSpec).preRow enc Try.prog Try.f3 Rows.tokenCutsUptoRow.domain false Rows.tokenCutsUptoRow.laid) (((Rows.OpenSpec.upto Rows.tokenCutsSpec).at F).post enc Try.prog Try.f3 false true false false) := by
  obtain ⟨places, hx⟩ := reads os enc
  refine returnsInHanded_of_row (C := Try.checked) (s := Rows.OpenSpec.upto Rows.tokenCutsSpec) own started (by kernel_rfl) Try.func3
    (witness_row_at (enc := enc) (C := Try.checked) false (World.holding Try.prog os ⟨#[], #[], []⟩) #[.slice none 0 0] rfl (by kernel_rfl) (by kernel_rfl) (by kernel_rfl)
      (OpenSpec.preRow_of_cond 8 hx (by kernel_rfl) (fun k hk => by cases hk; kernel_rfl) (by kernel_rfl) (laid_met os))) ?_
  intro W base args ds gs before hval hW _ hcond hsz hL _ _
  exact contract H enc W base args ds gs before hval hW hL hsz (hcond _ rfl)

theorem said : Rows.TokenCutsUptoSaid :=
  OpenClaim.holds_of_cond 3 Try.f3 rfl rfl rfl rfl rfl rfl rfl ⟨rfl, rfl, rfl, rfl, rfl⟩ rfl rfl rfl rfl rfl (by kernel_rfl) Try.func3 (by kernel_rfl)
    (of_decide_eq_true (by kernel_rfl)) (by unfold Func.isWrapper; first | (rw [if_pos (by decide +kernel)]; kernel_rfl) | (rw [if_neg (by decide +kernel)]; exact ⟨rfl, rfl⟩))
    (fun os started H enc _ F => by rw [OpenClaim.pre_eq_preRow]; exact lifted os started H enc F)

end Go.Proofs.Ytahcmpmfknmecaa.tokenCuts
