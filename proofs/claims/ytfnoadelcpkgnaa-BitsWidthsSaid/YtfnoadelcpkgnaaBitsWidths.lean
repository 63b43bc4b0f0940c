/- PROVED: the law BitsWidths (the least width of any numbers is the document's: by it they are packed, by a lesser one not; of up to 65,536 numbers) returns true and leaves its arguments as they were, for every argument.
   Conditions: none but the form's own reach (a slice has fewer than 2^47 bytes). -/
import Derived.Test.YtfnoadelcpkgnaaLawIn
import Derived.Test.YtfnoadelcpkgnaaBitsLaw
namespace Go.Proofs.Ytfnoadelcpkgnaa.bitsWidths
open Go.ChangeShapes Go.WideShapes Go.ChangeAt Go.RowKit

set_option maxHeartbeats 1000000 in
theorem walk (A : Option Addr) (n cap : Nat) (l : List UInt64) (w : World)
    (hl : l.length = n) (_hcap : n ≤ cap) (hn : 8 * n ≤ 140737488351232) (hb : Nums w w.heap.size A l) :
    Calls Try.prog 5 #[.slice A n cap] w fun e w' => e = .returned (.bool true) ∧ Below w.heap.size w w' := by
  by_cases hbig : 65536 < n
  · clear hb hl
    go_enter Try.func5, Try.ntmps5
    go_wp2_with fail
    refine (alive_any w).mono ?_
    rintro e w1 ⟨rfl, hbel1⟩
    go_wp2
    go_ret
    exact ⟨rfl, hbel1⟩
  · have C1 := fun w' B hb => width_any A n cap B l w' hl (by omega) hb
    have C2 := fun w' B hb hB => pack_any A n cap B (Bits.width l : Int) l w' hl (by omega) hb hB
    have C3 := fun w' B hb hB => pack_any A n cap B ((Bits.width l : Int) - 1) l w' hl (by omega) hb hB
    have C4 := fun w' B hb => refWidth_any A n cap B l w' hl (by omega) hb
    have h64 := Bits.width_le64 l
    unfold PackPost at C2 C3
    rw [Bits.pack_ok h64 (Bits.fit_width l)] at C2
    by_cases hW : Bits.width l = 0
    · have e3 : Bits.pack l ((Bits.width l : Int) - 1) = ([], 1) := by unfold Bits.pack; rw [if_pos (by omega)]
      rw [e3] at C3
      simp only at C2 C3
      generalize (Bits.packed (Bits.width l) l) = P at C2
      rw [hW] at C1 C2 C3 C4
      rw [show (((0 : Nat) : Int) - 1) = -1 from rfl] at C3
      replace C1 := Lib.hid C1
      replace C2 := Lib.hid C2
      replace C3 := Lib.hid C3
      replace C4 := Lib.hid C4
      clear hl e3 hW h64
      go_enter Try.func5, Try.ntmps5
      go_wp2_with fail
      refine (alive_any w).mono ?_
      rintro e w1 ⟨rfl, hbel1⟩
      have hx1 := hb.below hbel1
      go_wp2_with fail
      refine (C1.out w1 _ hx1).mono ?_
      rintro e w2 ⟨rfl, rfl⟩
      go_wp2_with fail
      refine (C2.out w1 _ hx1 hbel1.size).mono ?_
      rintro e w2 ⟨A2, c2, rfl, ho2, hb2⟩
      have hx2 := (hx1.wide hbel1.size).below hb2
      have hbel2 := hbel1.trans (hb2.mono hbel1.size)
      clear hx1 C2 ho2 C1
      go_wp2_with fail
      refine (C3.out w2 _ hx2 hb2.size).mono ?_
      rintro e w3 ⟨A3, c3, rfl, ho3, hb3⟩
      have hx3 := (hx2.wide hb2.size).below hb3
      have hbel3 := hbel2.trans (hb3.mono hbel2.size)
      clear hx2 C3 ho3
      go_wp2_with fail
      refine (C4.out w3 _ hx3).mono ?_
      rintro e w4 ⟨rfl, rfl⟩
      clear C4
      go_wp2
      go_ret
      exact ⟨rfl, hbel3⟩
    · have e3 : Bits.pack l ((Bits.width l : Int) - 1) = ([], 7) := by
        have h := Bits.pack_range (l := l) (w := Bits.width l - 1) (by omega) (fun h => by have := (Bits.width_le_iff l (by omega)).2 h; omega)
        rw [show (((Bits.width l - 1 : Nat)) : Int) = (Bits.width l : Int) - 1 from by omega] at h
        exact h
      rw [e3] at C3
      simp only at C2 C3
      generalize (Bits.packed (Bits.width l) l) = P at C2
      generalize Bits.width l = V at *
      have hV0 : 0 < V := by omega
      have hd1 : decide ((V : Int) = 0) = false := decide_eq_false (by omega)
      have hd2 : ((V : Int) == 0) = false := by rw [beq_eq_false_iff_ne]; omega
      have hd3 : ((V : Int) == (V : Int)) = true := beq_self_eq_true _
      have hd4 : decide (0 < (V : Int)) = true := decide_eq_true (by omega)
      replace C1 := Lib.hid C1
      replace C2 := Lib.hid C2
      replace C3 := Lib.hid C3
      replace C4 := Lib.hid C4
      clear hl e3 hW
      go_enter Try.func5, Try.ntmps5
      go_wp2_with fail
      refine (alive_any w).mono ?_
      rintro e w1 ⟨rfl, hbel1⟩
      have hx1 := hb.below hbel1
      go_wp2_with fail
      refine (C1.out w1 _ hx1).mono ?_
      rintro e w2 ⟨rfl, rfl⟩
      go_wp2_with fail
      refine (C2.out w1 _ hx1 hbel1.size).mono ?_
      rintro e w2 ⟨A2, c2, rfl, ho2, hb2⟩
      have hx2 := (hx1.wide hbel1.size).below hb2
      have hbel2 := hbel1.trans (hb2.mono hbel1.size)
      clear hx1 C2 ho2 C1
      go_wp2_with fail
      refine (C3.out w2 _ hx2 hb2.size).mono ?_
      rintro e w3 ⟨A3, c3, rfl, ho3, hb3⟩
      have hx3 := (hx2.wide hb2.size).below hb3
      have hbel3 := hbel2.trans (hb3.mono hbel2.size)
      clear hx2 C3 ho3
      go_wp2_with fail
      refine (C4.out w3 _ hx3).mono ?_
      rintro e w4 ⟨rfl, rfl⟩
      clear C4
      go_wp2
      go_ret
      exact ⟨rfl, hbel3⟩

/-- from the walk to the post of the row -/
theorem contract (H : Type) (enc : TypeId × Value → H) (W : World) (base : Nat) (args : Array Value) (ds gs : List (DataW H)) (before : List MemPlace)
    (hval : ∀ (j : Nat) t v, Try.f5.params[j]? = some t → args[j]? = some v → Value.okWide Try.prog W .any base t v)
    (hW : DataW.Whole enc Try.prog Try.f5.params.toList Rows.bitsWidthsSpec.vars false W args.toList ds gs before) (_ : laidMetH Try.prog Rows.bitsWidthsRow.laid W)
    (hsz0 : (DataW.weightsEach Try.prog (Try.f5.params.toList ++ Rows.bitsWidthsSpec.plain.varTypes Try.prog) (ds ++ gs)).all (· ≤ reachBytes) = true) :
    Calls Try.prog 5 args W fun e W' => ∃ v, e = .returned v ∧ Rows.bitsWidthsSpec.post enc Try.prog Try.f5 false true false false W args v W' := by
  have hW' := hW
  obtain ⟨p, q, hA0, hV, rfl, hfz, hnd⟩ := hW
  have hA : DataW.TrodAll enc Try.prog W 0 (fun _ => true) true Try.f5.params.toList args.toList ds p := hA0
  rw [Try.params5] at hA hval hsz0
  obtain ⟨v0, vs0, d0, ds0, p0, q0, hargs, rfl, rfl, h0, r0⟩ := trodAll_cons hA
  obtain ⟨rfl, rfl, rfl⟩ := trodAll_nil r0
  obtain rfl : args = #[v0] := by cases args; simp_all
  obtain ⟨rfl, rfl⟩ := trodVars_none hV
  obtain ⟨a0, len0, cap0, rfl⟩ := okWide_slice Try.underlying22 (hval 0 22 v0 rfl rfl)
  have lt0 : ∀ x ∈ p0, x.block < W.heap.size := by obtain ⟨m, hm⟩ := h0; exact DataW.trod_lt m _ _ _ hm
  obtain ⟨l0, e0, ec0, b0, k0⟩ := open_nums h0
  have reach0 := reach_nums hsz0 (j := 0) rfl rfl k0
  clear hA0
  refine (walk a0 len0 cap0 l0 W e0 ec0 reach0 b0).mono fun e W' ⟨he, bel⟩ => ?_
  subst he
  exact ⟨_, rfl, _, _, _, [], _, [], hW', trodAll_mk1 (shut_bool Try.underlying4 _), (trodAll_cons_mk (Below.trod laidOut (by kernel_rfl) (of_decide_eq_true (by kernel_rfl)) h0 bel lt0) trodAll_mk0), rfl, bel.frame _, fun h => by cases h⟩

theorem laid_met (os : Os) : laidMet Try.prog Rows.bitsWidthsRow.laid ((World.holding Try.prog os ⟨#[], #[], []⟩).forCall (fun _ _ => 0) ⟨#[], #[.slice none 0 0], []⟩).memory :=
  laidMet_of_run' 8 (by kernel_rfl) (by kernel_rfl)
theorem reads (os : Os) {H : Type} (enc : TypeId × Value → H) : ∃ places, DataW.whole enc Try.prog ((World.holding Try.prog os ⟨#[], #[], []⟩).forCall (fun _ _ => 0) ⟨#[], #[.slice none 0 0], []⟩).memory Try.f5.params.toList Rows.bitsWidthsSpec.vars false #[Value.slice none 0 0].toList 8 = some ([.nil], [], places) :=
  ⟨[], by kernel_rfl⟩

set_option maxRecDepth 100000 in
theorem lifted (os : Os) (started : os.Started) (H : Type) (enc : TypeId × Value → H) (F : Stop.Interp) :
    ReturnsInHanded {} Try.checked os 5 .any ((OpenSpec.ofChange Rows.bitsWidthsSpec).preRow enc Try.prog Try.f5 Rows.bitsWidthsRow.domain false Rows.bitsWidthsRow.laid) (((OpenSpec.ofChange Rows.bitsWidthsSpec).at F).post enc Try.prog Try.f5 false true false false) := by
  obtain ⟨places, hx⟩ := reads os enc
  refine returnsInHanded_of_row (C := Try.checked) (s := OpenSpec.ofChange Rows.bitsWidthsSpec) own started (by kernel_rfl) Try.func5
    (witness_row_at (enc := enc) (C := Try.checked) false (World.holding Try.prog os ⟨#[], #[], []⟩) #[.slice none 0 0] rfl (by kernel_rfl) (by kernel_rfl) (by kernel_rfl)
      (OpenSpec.preRow_of_cond 8 hx (by kernel_rfl) (fun k hk => by cases hk) (by kernel_rfl) (laid_met os))) ?_
  intro W base args ds gs before hval hW _ _ hsz hL _ _
  exact contract H enc W base args ds gs before hval hW hL hsz

theorem said : Rows.BitsWidthsSaid :=
  OpenClaim.holds_of_cond 5 Try.f5 rfl rfl rfl rfl rfl rfl rfl ⟨rfl, rfl, rfl, rfl, rfl⟩ rfl rfl rfl rfl rfl (by kernel_rfl) Try.func5 (by kernel_rfl)
    (of_decide_eq_true (by kernel_rfl)) (by unfold Func.isWrapper; first | (rw [if_pos (by decide +kernel)]; kernel_rfl) | (rw [if_neg (by decide +kernel)]; exact ⟨rfl, rfl⟩))
    (fun os started H enc _ F => by rw [OpenClaim.pre_eq_preRow]; exact lifted os started H enc F)

end Go.Proofs.Ytfnoadelcpkgnaa.bitsWidths
