/- PROVED: the law TokenTerms (the terms of any line of up to 2000 bytes are the document's, rising, and terms) returns true and leaves its argument as it was.
   Conditions: none beyond the statement's own (the first form). -/
import Derived.Test.YtahcmpmfknmecaaTokLaw
import Derived.Test.YtahcmpmfknmecaaTokWith
import Derived.Test.YtahcmpmfknmecaaTokIs
import Derived.Deep.QuietTactic
import Derived.BigQuiet
import Derived.RegionTactic
namespace Go.Proofs.Ytahcmpmfknmecaa.tokenTerms
open Go.ChangeShapes Go.WideShapes Go.ChangeAt Go.RowKit
set_option maxRecDepth 100000

set_option maxHeartbeats 2000000 in
theorem walk (A : Option Addr) (n cap : Nat) (l : List UInt8) (w : World)
    (hl : l.length = n) (hcap : n ≤ cap) (_hn : n ≤ 140737488351232) (hb : Bytes w w.heap.size A l) :
    Calls Try.prog 4 #[.slice A n cap] w fun e w' => e = .returned (.bool true) ∧ Below w.heap.size w w' := by
  by_cases hbig : 2000 < n
  · have i1 : (2000 : Int) < (n : Int) := by omega
    go_enter Try.func4, Try.ntmps4
    go_wp2_with fail
    refine (tokAlive_any w).mono ?_
    rintro e w1 ⟨rfl, hbel1⟩
    go_wp2
    go_ret
    exact ⟨rfl, hbel1⟩
  have i1 : ¬ (2000 : Int) < (n : Int) := by omega
  have C1 := fun w' B hb hB => terms_any A n cap B l w' hl hcap (by omega) hb hB
  have C2 := fun w' B hb hB => refTerms_any A n cap B l w' hl hcap (by omega) hb hB
  have hlen := Tok.terms_len l
  rw [hl] at hlen
  have HI := Lib.hid (show ∀ x ∈ Tok.terms l, Tok.is x = true from fun x hx => Tok.found_is l x ((Tok.mem_terms l x).1 hx))
  have HP := Lib.hid (Tok.rising_terms l)
  generalize Tok.terms l = R at *
  obtain ⟨N, hN⟩ : ∃ N, N = R.length := ⟨_, rfl⟩
  have D1 : ∀ w' B hb hB, Calls Try.prog 15 #[.slice A n cap] w' fun e W => ∃ A c, e = .returned (.slice A N c) ∧ Strs W W.heap.size A R ∧ Below w'.heap.size w' W := fun w' B hb hB => by
    refine (C1 w' B hb hB).mono ?_
    rintro e W ⟨A, c, rfl, h1, h2⟩
    rw [← hN]
    exact ⟨A, c, rfl, h1, h2⟩
  have D2 : ∀ w' B hb hB, Calls Try.prog 18 #[.slice A n cap] w' fun e W => ∃ A c, e = .returned (.slice A N c) ∧ Strs W W.heap.size A R ∧ Below w'.heap.size w' W := fun w' B hb hB => by
    refine (C2 w' B hb hB).mono ?_
    rintro e W ⟨A, c, rfl, h1, h2⟩
    rw [← hN]
    exact ⟨A, c, rfl, h1, h2⟩
  have C5 := Lib.hid fun A1 A2 c1 c2 B1 B2 w' h1 h2 => sameStr_any A1 A2 N c1 c2 B1 B2 R w' hN.symm (by omega) h1 h2
  replace D1 := Lib.hid D1
  replace D2 := Lib.hid D2
  have HN := Lib.hid hN
  have hNb : N ≤ 2001 := by omega
  clear C1 C2 hN hl hlen
  go_enter Try.func4, Try.ntmps4
  go_wp2_with fail
  refine (tokAlive_any w).mono ?_
  rintro e w1 ⟨rfl, hbel1⟩
  have hx1 := (hb.below hbel1).wide hbel1.size
  clear hb
  go_wp2_with fail
  refine (D1.out w1 _ hx1 (Nat.le_refl _)).mono ?_
  rintro e w2 ⟨A2, c2, rfl, hs2, hb2⟩
  have hx2 := (hx1.below hb2).wide hb2.size
  have hbel2 := hbel1.trans (hb2.mono hbel1.size)
  clear D1 hx1 hb2 hbel1
  go_wp2
  go_loopw [4] (fun i wr => ∃ (k : Nat), k ≤ N ∧ i = .int .i64 k ∧ Strs wr w2.heap.size A2 R ∧ Drawn w2 wr) (fun i _ => N - (intOf i).toNat)
  case atStart => exact ⟨0, Nat.zero_le _, rfl, hs2, Drawn.refl _⟩
  case round =>
    clear hs2
    obtain ⟨k, hk, rfl, hs, hd⟩ := hrel
    by_cases hlt : k < N
    · have hk' : k < R.length := by have := HN.out; omega
      obtain ⟨ad, rfl, _, hc⟩ := hs.get hk'
      have C6 := Lib.hid fun W => is_any R[k] W (by have := ((Tok.is_iff _).1 (HI.out R[k] (List.getElem_mem hk'))).1.2; omega)
      rw [HI.out R[k] (List.getElem_mem hk')] at C6
      simp only [sval] at hc
      have i1 : (k : Int) < (N : Int) := by omega
      have i0 : (0 : Int) ≤ (k : Int) := by omega
      rcases Nat.eq_zero_or_pos k with h0 | h0
      · have k0 : ¬ (0 : Int) < (k : Int) := by omega
        have kd : decide (0 < k) = false := decide_eq_false (by omega)
        generalize R[k] = x at *
        clear h0 hk'
        go_wp2_with fail
        go_quiet ((go_at_call 16; exact quiet_left (C6.out _)))
        go_wp2
        go_roundw
        case rel => exact ⟨k + 1, by omega, by go_num, hs, hd.drewN _⟩
        case measure => simp [intOf]; omega
      · obtain ⟨j, hj⟩ : ∃ j, k = j + 1 := ⟨k - 1, by omega⟩
        have hj' : j < R.length := by omega
        obtain ⟨ad', had, _, hc'⟩ := hs.get hj'
        cases had
        simp only [sval] at hc'
        have hL : Op.bytesLess R[j] R[k] = true := by rw [Tok.less_eq, decide_eq_true_eq]; exact List.pairwise_iff_getElem.1 HP.out j k hj' hk' (by omega)
        generalize R[k] = x at *
        generalize R[j] = y at *
        have hw1 : IntKind.i64.wrap ((k : Int) - 1) = (j : Int) := by rw [IntWalk.i64_in _ (by omega)]; omega
        have j1 : (j : Int) < (N : Int) := by omega
        have j0 : (0 : Int) ≤ (j : Int) := by omega
        have k1 : (0 : Int) < (k : Int) := by omega
        clear hj hj' hk'
        go_wp2_with fail
        go_quiet ((go_at_call 16; exact quiet_left (C6.out _)))
        go_wp2
        go_roundw
        case rel => exact ⟨k + 1, by omega, by go_num, hs, hd.drewN _⟩
        case measure => simp [intOf]; omega
    · have hbel3 := hbel2.trans (hd.below _)
      have hx3 := hx2.below (hd.below _)
      have hsz3 := (hd.below w2.heap.size).size
      go_wp2_with fail
      refine (D2.out wr _ hx3 hsz3).mono ?_
      rintro e w4 ⟨A4, c4, rfl, hs4, hb4⟩
      have hbel4 := hbel3.trans (hb4.mono hbel3.size)
      have hs5 := hs.below (hb4.mono hsz3)
      have S1 := Lib.hid (C5.out A2 A4 c2 c4 _ _ w4 hs5 hs4)
      clear C5 D2 hs hs4
      go_wp2_with fail
      refine S1.out.mono ?_
      rintro e w5 ⟨rfl, hd5⟩
      go_wp2
      go_ret
      exact ⟨rfl, hbel4.trans (hd5.below _)⟩

/-- from the walk to the post of the row -/
theorem contract (H : Type) (enc : TypeId × Value → H) (W : World) (base : Nat) (args : Array Value) (ds gs : List (DataW H)) (before : List MemPlace)
    (hval : ∀ (j : Nat) t v, Try.f4.params[j]? = some t → args[j]? = some v → Value.okWide Try.prog W .any base t v)
    (hW : DataW.Whole enc Try.prog Try.f4.params.toList Rows.tokenTermsSpec.vars false W args.toList ds gs before) (_ : laidMetH Try.prog Rows.tokenTermsRow.laid W)
    (hsz0 : (DataW.weightsEach Try.prog (Try.f4.params.toList ++ Rows.tokenTermsSpec.plain.varTypes Try.prog) (ds ++ gs)).all (· ≤ reachBytes) = true) :
    Calls Try.prog 4 args W fun e W' => ∃ v, e = .returned v ∧ Rows.tokenTermsSpec.post enc Try.prog Try.f4 false true false false W args v W' := by
  have hW' := hW
  obtain ⟨p, q, hA0, hV, rfl, hfz, hnd⟩ := hW
  have hA : DataW.TrodAll enc Try.prog W 0 (fun _ => true) true Try.f4.params.toList args.toList ds p := hA0
  rw [Try.params4] at hA hval hsz0
  obtain ⟨v0, vs0, d0, ds0, p0, q0, hargs, rfl, rfl, h0, r0⟩ := trodAll_cons hA
  obtain ⟨rfl, rfl, rfl⟩ := trodAll_nil r0
  obtain rfl : args = #[v0] := by cases args; simp_all
  obtain ⟨rfl, rfl⟩ := trodVars_none hV
  obtain ⟨a0, len0, cap0, rfl⟩ := okWide_slice Try.underlying22 (hval 0 22 v0 rfl rfl)
  have lt0 : ∀ x ∈ p0, x.block < W.heap.size := by obtain ⟨m, hm⟩ := h0; exact DataW.trod_lt m _ _ _ hm
  obtain ⟨l0, e0, ec0, b0, k0⟩ := open_bytes h0
  have reach0 := reach_bytes hsz0 (j := 0) rfl rfl k0
  clear hA0
  refine (walk a0 len0 cap0 l0 W e0 ec0 reach0 b0).mono fun e W' ⟨he, bel⟩ => ?_
  subst he
  exact ⟨_, rfl, _, _, _, [], _, [], hW', trodAll_mk1 (shut_bool Try.underlying4 _), (trodAll_cons_mk (Below.trod laidOut (by kernel_rfl) (of_decide_eq_true (by kernel_rfl)) h0 bel lt0) trodAll_mk0), rfl, bel.frame _, fun h => by cases h⟩

theorem laid_met (os : Os) : laidMet Try.prog Rows.tokenTermsRow.laid ((World.holding Try.prog os ⟨#[], #[], []⟩).forCall (fun _ _ => 0) ⟨#[], #[.slice none 0 0], []⟩).memory :=
  laidMet_of_run' 8 (by kernel_rfl) (by kernel_rfl)
theorem reads (os : Os) {H : Type} (enc : TypeId × Value → H) : ∃ places, DataW.whole enc Try.prog ((World.holding Try.prog os ⟨#[], #[], []⟩).forCall (fun _ _ => 0) ⟨#[], #[.slice none 0 0], []⟩).memory Try.f4.params.toList Rows.tokenTermsSpec.vars false #[Value.slice none 0 0].toList 8 = some ([.nil], [], places) :=
  ⟨[], by kernel_rfl⟩

set_option maxRecDepth 100000 in
theorem lifted (os : Os) (started : os.Started) (H : Type) (enc : TypeId × Value → H) (F : Stop.Interp) :
    ReturnsInHanded {} Try.checked os 4 .any ((OpenSpec.ofChange Rows.tokenTermsSpec).preRow enc Try.prog Try.f4 Rows.tokenTermsRow.domain false Rows.tokenTermsRow.laid) (((OpenSpec.ofChange Rows.tokenTermsSpec).at F).post enc Try.prog Try.f4 false true false false) := by
  obtain ⟨places, hx⟩ := reads os enc
  refine returnsInHanded_of_row (C := Try.checked) (s := OpenSpec.ofChange Rows.tokenTermsSpec) own started (by kernel_rfl) Try.func4
    (witness_row_at (enc := enc) (C := Try.checked) false (World.holding Try.prog os ⟨#[], #[], []⟩) #[.slice none 0 0] rfl (by kernel_rfl) (by kernel_rfl) (by kernel_rfl)
      (OpenSpec.preRow_of_cond 8 hx (by kernel_rfl) (fun k hk => by cases hk) (by kernel_rfl) (laid_met os))) ?_
  intro W base args ds gs before hval hW _ _ hsz hL _ _
  exact contract H enc W base args ds gs before hval hW hL hsz

theorem said : Rows.TokenTermsSaid :=
  OpenClaim.holds_of_cond 4 Try.f4 rfl rfl rfl rfl rfl rfl rfl ⟨rfl, rfl, rfl, rfl, rfl⟩ rfl rfl rfl rfl rfl (by kernel_rfl) Try.func4 (by kernel_rfl)
    (of_decide_eq_true (by kernel_rfl)) (by unfold Func.isWrapper; first | (rw [if_pos (by decide +kernel)]; kernel_rfl) | (rw [if_neg (by decide +kernel)]; exact ⟨rfl, rfl⟩))
    (fun os started H enc _ F => by rw [OpenClaim.pre_eq_preRow]; exact lifted os started H enc F)

end Go.Proofs.Ytahcmpmfknmecaa.tokenTerms
