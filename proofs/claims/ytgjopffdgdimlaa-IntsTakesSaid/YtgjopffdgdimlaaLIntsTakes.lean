/- PROVED: the law IntsTakes (the column that any bytes of up to 5000 begin with is the document's, or there is none) returns true and leaves its argument as it was, for every argument.
   Conditions: none but the form's own reach (a slice has fewer than 2^47 bytes). -/
import Derived.Test.YtgjopffdgdimlaaBG

namespace Go.Proofs.Ytgjopffdgdimlaa.intsTakes
open Go.ChangeShapes Go.WideShapes Go.ChangeAt Go.RowKit

theorem take_short (b : List UInt8) : (Ict.take b).1.length ≤ 4096 := by
  unfold Ict.take
  rcases h : Ict.marksOf b with _ | ⟨M, s⟩
  · simp
  · have := (Ict.marksOf_bits h).2.1
    dsimp only
    split
    · simp only [Ict.join_length]; exact this
    · simp

set_option maxHeartbeats 4000000 in
set_option maxRecDepth 100000 in
theorem walk (A : Option Addr) (m cap : Nat) (b : List UInt8) (w : World) (hl : b.length = m) (hcap : m ≤ cap) (_hm : m ≤ 140737488351232) (hb : Bytes w w.heap.size A b) :
    Calls Try.prog 4 #[.slice A m cap] w fun e w' => e = .returned (.bool true) ∧ Below w.heap.size w w' := by
  by_cases hbig : 5000 < m
  · have hbig' : (5000 : Int) < (m : Int) := by omega
    clear hb hl hbig
    go_enter Try.func4, Try.ntmps4
    go_wp2_with fail
    refine (alive_any w).mono ?_
    rintro e w1 ⟨rfl, hbel1⟩
    go_wp2
    go_ret
    exact ⟨rfl, hbel1⟩
  have hsm : ¬ ((5000 : Int) < (m : Int)) := by omega
  have C1 := Lib.hid fun W (hbel : Below w.heap.size w W) => copy_any A m cap w.heap.size b W hl (by omega) (hb.below hbel) hbel.size
  have C2 := Lib.hid fun A1 c1 W (h : Bytes W W.heap.size A1 b) (hc : m ≤ c1) => icTake_any A1 m c1 W.heap.size b W hl hc (by omega) h (Nat.le_refl _)
  have C3 := Lib.hid fun W (hbel : Below w.heap.size w W) => refTakeC_any A m cap w.heap.size b W hl hcap (by omega) (hb.below hbel) hbel.size
  have C5 := Lib.hid fun A1 c1 W (hbel : Below w.heap.size w W) (h : Bytes W W.heap.size A1 b) => same_any A1 A m m c1 cap W.heap.size w.heap.size b b W hl hl h (hb.below hbel)
  rw [show (b == b) = true from beq_self_eq_true _] at C5
  have hsh := take_short b
  unfold TakeCPost at C2 C3
  generalize Ict.take b = R at *
  obtain ⟨L, u, E⟩ := R
  simp only at C2 C3 hsh
  have C4 := Lib.hid fun A1 c1 A2 c2 B1 B2 W (h1 : Cols W B1 A1 L) (h2 : Cols W B2 A2 L) => sameC_any A1 L.length c1 B1 L A2 L.length c2 B2 L W rfl rfl (by omega) (by omega) h1 h2
  rw [show decide (L = L) = true from by simp] at C4
  have hu : ((u : Int) == (u : Int)) = true := beq_self_eq_true _
  have hE : ((E : Int) == (E : Int)) = true := beq_self_eq_true _
  clear hl hcap hbig hb
  go_enter Try.func4, Try.ntmps4
  go_wp2_with fail
  refine (alive_any w).mono ?_
  rintro e w1 ⟨rfl, hbel1⟩
  have C1' := Lib.hid (C1.out w1 hbel1)
  go_wp2_with fail
  refine C1'.out.mono ?_
  rintro e w2 ⟨A1, c1, rfl, ho1, hb2⟩
  have hbel2 := hbel1.trans (hb2.mono hbel1.size)
  have C2' := Lib.hid (C2.out A1 c1 w2 ho1.bytes (by exact ho1.cap))
  clear C1 C1' C2 hb2
  go_wp2_with fail
  refine C2'.out.mono ?_
  rintro e w3 ⟨A3, c3, rfl, ho3, hb3⟩
  have hbel3 := hbel2.trans (hb3.mono hbel2.size)
  have ho1 := ho1.below hb3
  have C3' := Lib.hid (C3.out w3 hbel3)
  clear C2' C3 hb3
  go_wp2_with fail
  refine C3'.out.mono ?_
  rintro e w4 ⟨A4, c4, rfl, ho4, hb4⟩
  have hbel4 := hbel3.trans (hb4.mono hbel3.size)
  have ho1 := ho1.below hb4
  have ho3 := ho3.below hb4
  have C4' := Lib.hid (C4.out A3 c3 A4 c4 _ _ w4 (ho3.row (fun _ => rfl)) (ho4.row (fun _ => rfl)))
  clear C3' C4 hb4 ho3 ho4
  go_wp2_with fail
  refine C4'.out.mono ?_
  rintro e w5 ⟨rfl, hd5⟩
  have hbel5 := hbel4.trans (hd5.below _)
  have ho1 := ho1.below (hd5.below _)
  have C5' := Lib.hid (C5.out A1 c1 w5 hbel5 ho1.bytes)
  clear C4' C5 ho1 hd5
  go_wp2_with fail
  refine C5'.out.mono ?_
  rintro e w6 ⟨rfl, rfl⟩
  clear C5'
  go_wp2
  go_ret
  exact ⟨rfl, hbel5⟩

set_option maxRecDepth 100000 in
/-- from the walk to the post of the row -/
theorem contract (H : Type) (enc : TypeId × Value → H) (W : World) (base : Nat) (args : Array Value) (ds gs : List (DataW H)) (before : List MemPlace)
    (hval : ∀ (j : Nat) t v, Try.f4.params[j]? = some t → args[j]? = some v → Value.okWide Try.prog W .any base t v)
    (hW : DataW.Whole enc Try.prog Try.f4.params.toList Rows.intsTakesSpec.vars false W args.toList ds gs before) (_ : laidMetH Try.prog Rows.intsTakesRow.laid W)
    (hsz0 : (DataW.weightsEach Try.prog (Try.f4.params.toList ++ Rows.intsTakesSpec.plain.varTypes Try.prog) (ds ++ gs)).all (· ≤ reachBytes) = true) :
    Calls Try.prog 4 args W fun e W' => ∃ v, e = .returned v ∧ Rows.intsTakesSpec.post enc Try.prog Try.f4 false true false false W args v W' := by
  have hW' := hW
  obtain ⟨p, q, hA0, hV, rfl, hfz, hnd⟩ := hW
  have hA : DataW.TrodAll enc Try.prog W 0 (fun _ => true) true Try.f4.params.toList args.toList ds p := hA0
  rw [Try.params4] at hA hval hsz0
  obtain ⟨v0, vs0, d0, ds0, p0, q0, hargs, rfl, rfl, h0, r0⟩ := trodAll_cons hA
  obtain ⟨rfl, rfl, rfl⟩ := trodAll_nil r0
  obtain rfl : args = #[v0] := by cases args; simp_all
  obtain ⟨rfl, rfl⟩ := trodVars_none hV
  obtain ⟨a0, len0, cap0, rfl⟩ := okWide_slice Try.underlying22 (hval 0 22 v0 rfl rfl)
  have lt0 : ∀ x ∈ p0, x.block < W.heap.size := by obtain ⟨m, hm⟩ := h0; exact DataW.trod_lt m _ _ _ hm
  obtain ⟨l0, e0, ec0, b0, k0⟩ := open_bytes h0
  have reach0 := reach_bytes hsz0 (j := 0) rfl rfl k0
  clear hA0
  refine (walk a0 len0 cap0 l0 W e0 ec0 reach0 b0).mono fun e W' ⟨he, bel⟩ => ?_
  subst he
  exact ⟨_, rfl, _, _, _, [], _, [], hW', trodAll_mk1 (shut_bool Try.underlying4 _), (trodAll_cons_mk (Below.trod laidOut (by kernel_rfl) (of_decide_eq_true (by kernel_rfl)) h0 bel lt0) trodAll_mk0), rfl, bel.frame _, fun h => by cases h⟩

theorem laid_met (os : Os) : laidMet Try.prog Rows.intsTakesRow.laid ((World.holding Try.prog os ⟨#[], #[], []⟩).forCall (fun _ _ => 0) ⟨#[], #[.slice none 0 0], []⟩).memory :=
  laidMet_of_run' 8 (by kernel_rfl) (by kernel_rfl)
theorem reads (os : Os) {H : Type} (enc : TypeId × Value → H) : ∃ places, DataW.whole enc Try.prog ((World.holding Try.prog os ⟨#[], #[], []⟩).forCall (fun _ _ => 0) ⟨#[], #[.slice none 0 0], []⟩).memory Try.f4.params.toList Rows.intsTakesSpec.vars false #[Value.slice none 0 0].toList 8 = some ([.nil], [], places) :=
  ⟨[], by kernel_rfl⟩

set_option maxRecDepth 100000 in
theorem lifted (os : Os) (started : os.Started) (H : Type) (enc : TypeId × Value → H) (F : Stop.Interp) :
    ReturnsInHanded {} Try.checked os 4 .any ((OpenSpec.ofChange Rows.intsTakesSpec).preRow enc Try.prog Try.f4 Rows.intsTakesRow.domain false Rows.intsTakesRow.laid) (((OpenSpec.ofChange Rows.intsTakesSpec).at F).post enc Try.prog Try.f4 false true false false) := by
  obtain ⟨places, hx⟩ := reads os enc
  refine returnsInHanded_of_row (C := Try.checked) (s := OpenSpec.ofChange Rows.intsTakesSpec) own started (by kernel_rfl) Try.func4
    (witness_row_at (enc := enc) (C := Try.checked) false (World.holding Try.prog os ⟨#[], #[], []⟩) #[.slice none 0 0] rfl (by kernel_rfl) (by kernel_rfl) (by kernel_rfl)
      (OpenSpec.preRow_of_cond 8 hx (by kernel_rfl) (fun k hk => by cases hk) (by kernel_rfl) (laid_met os))) ?_
  intro W base args ds gs before hval hW _ _ hsz hL _ _
  exact contract H enc W base args ds gs before hval hW hL hsz

theorem said : Rows.IntsTakesSaid :=
  OpenClaim.holds_of_cond 4 Try.f4 rfl rfl rfl rfl rfl rfl rfl ⟨rfl, rfl, rfl, rfl, rfl⟩ rfl rfl rfl rfl rfl (by kernel_rfl) Try.func4 (by kernel_rfl)
    (of_decide_eq_true (by kernel_rfl)) (by unfold Func.isWrapper; first | (rw [if_pos (by decide +kernel)]; kernel_rfl) | (rw [if_neg (by decide +kernel)]; exact ⟨rfl, rfl⟩))
    (fun os started H enc _ F => by rw [OpenClaim.pre_eq_preRow]; exact lifted os started H enc F)

end Go.Proofs.Ytgjopffdgdimlaa.intsTakes
