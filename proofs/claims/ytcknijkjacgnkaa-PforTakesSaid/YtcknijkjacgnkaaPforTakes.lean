/- PROVED: the law PforTakes (the block that any bytes begin with is the document's, or there is none) returns true and leaves its arguments as they were, for every argument.
   Conditions: none but the form's own reach (a slice has fewer than 2^47 bytes). -/
import Derived.Test.YtcknijkjacgnkaaLawIn
import Derived.Test.YtcknijkjacgnkaaPforLaw
import Derived.Test.YtcknijkjacgnkaaRefTakeBlock
namespace Go.Proofs.Ytcknijkjacgnkaa.pforTakes
open Go.ChangeShapes Go.WideShapes Go.ChangeAt Go.RowKit

set_option maxHeartbeats 1000000 in
theorem walk (A : Option Addr) (n cap : Nat) (b : List UInt8) (w : World)
    (hl : b.length = n) (hcap : n ≤ cap) (hn : n ≤ 140737488351232) (hb : Bytes w w.heap.size A b) :
    Calls Try.prog 4 #[.slice A n cap] w fun e w' => e = .returned (.bool true) ∧ Below w.heap.size w w' := by
  have C1 := Lib.hid fun w' B hb hB => copy_any A n cap B b w' hl (by omega) hb hB
  have C2 := fun A1 c1 w' hb hc => takeBlock_any A1 n c1 w'.heap.size b w' hl hc (by omega) hb (Nat.le_refl _)
  have C3 := fun w' B hb hB => refTakeBlock_any A n cap B b w' hl hcap (by omega) hb hB
  have C5 := Lib.hid fun A1 A2 c1 c2 B1 B2 w' h1 h2 => same_any A1 A2 n n c1 c2 B1 B2 b b w' hl hl h1 h2
  have hlen : (Pfor.takeBlock b).1.length ≤ 32 := by
    rcases Pfor.takeBlock_cases b with ⟨l, hg, _, e⟩ | e
    · rw [e]; exact hg.2
    · rw [e]; exact Nat.zero_le _
  unfold TakesPost at C2 C3
  generalize Pfor.takeBlock b = R at C2 C3 hlen
  obtain ⟨L, k, E⟩ := R
  simp only at C2 C3 hlen
  have C4 := Lib.hid fun A1 A2 c1 c2 B1 B2 w' h1 h2 => same64_wide A1 A2 L.length c1 c2 B1 B2 L w' rfl (by omega) h1 h2
  generalize L.length = m at *
  replace C2 := Lib.hid C2
  replace C3 := Lib.hid C3
  have hkk : ((k : Int) == (k : Int)) = true := beq_self_eq_true _
  have hEE : ((E : Int) == (E : Int)) = true := beq_self_eq_true _
  generalize (k : Int) = κ at *
  generalize (E : Int) = ε at *
  clear hl hlen
  go_enter Try.func4, Try.ntmps4
  go_wp2_with fail
  refine (alive_any w).mono ?_
  rintro e w1 ⟨rfl, hbel1⟩
  have hx1 := hb.below hbel1
  go_wp2_with fail
  refine (C1.out w1 _ hx1 hbel1.size).mono ?_
  rintro e w2 ⟨A2, c2, rfl, ho2, hb2⟩
  have hx2 := (hx1.wide hbel1.size).below hb2
  have hbel2 := hbel1.trans (hb2.mono hbel1.size)
  clear hx1 C1
  go_wp2_with fail
  refine (C2.out A2 c2 w2 ho2.bytes (by exact ho2.cap)).mono ?_
  rintro e w3 ⟨A3, c3, rfl, ho3, hb3⟩
  have ho23 := ho2.below hb3
  have hx3 := (hx2.wide hb2.size).below hb3
  have hbel3 := hbel2.trans (hb3.mono hbel2.size)
  clear hx2 C2 ho2
  go_wp2_with fail
  refine (C3.out w3 _ hx3 hb3.size).mono ?_
  rintro e w4 ⟨A4, c4, rfl, ho4, hb4⟩
  have ho24 := ho23.below hb4
  have ho34 := ho3.below hb4
  have hx4 := (hx3.wide hb3.size).below hb4
  have hbel4 := hbel3.trans (hb4.mono hbel3.size)
  clear hx3 C3 ho23 ho3
  go_wp2_with fail
  refine (C4.out A3 A4 c3 c4 _ _ w4 ho34.row ho4.row).mono ?_
  rintro e w5 ⟨rfl, hd⟩
  clear C4 ho34 ho4
  have hd5 := hd.below w4.heap.size
  have ho25 := ho24.below hd5
  have hx5 := (hx4.wide hb4.size).below hd5
  have S1 := C5.out A2 A c2 cap _ _ w5 ho25.bytes hx5
  rw [beq_self_eq_true] at S1
  replace S1 := Lib.hid S1
  go_wp2_with fail
  refine S1.out.mono ?_
  rintro e w6 ⟨rfl, rfl⟩
  clear S1 C5
  go_wp2
  go_ret
  exact ⟨rfl, hbel4.trans (hd5.mono hbel4.size)⟩

/-- from the walk to the post of the row -/
theorem contract (H : Type) (enc : TypeId × Value → H) (W : World) (base : Nat) (args : Array Value) (ds gs : List (DataW H)) (before : List MemPlace)
    (hval : ∀ (j : Nat) t v, Try.f4.params[j]? = some t → args[j]? = some v → Value.okWide Try.prog W .any base t v)
    (hW : DataW.Whole enc Try.prog Try.f4.params.toList Rows.pforTakesSpec.vars false W args.toList ds gs before) (_ : laidMetH Try.prog Rows.pforTakesRow.laid W)
    (hsz0 : (DataW.weightsEach Try.prog (Try.f4.params.toList ++ Rows.pforTakesSpec.plain.varTypes Try.prog) (ds ++ gs)).all (· ≤ reachBytes) = true) :
    Calls Try.prog 4 args W fun e W' => ∃ v, e = .returned v ∧ Rows.pforTakesSpec.post enc Try.prog Try.f4 false true false false W args v W' := by
  have hW' := hW
  obtain ⟨p, q, hA0, hV, rfl, hfz, hnd⟩ := hW
  have hA : DataW.TrodAll enc Try.prog W 0 (fun _ => true) true Try.f4.params.toList args.toList ds p := hA0
  rw [Try.params4] at hA hval hsz0
  obtain ⟨v0, vs0, d0, ds0, p0, q0, hargs, rfl, rfl, h0, r0⟩ := trodAll_cons hA
  obtain ⟨rfl, rfl, rfl⟩ := trodAll_nil r0
  obtain rfl : args = #[v0] := by cases args; simp_all
  obtain ⟨rfl, rfl⟩ := trodVars_none hV
  obtain ⟨a0, len0, cap0, rfl⟩ := okWide_slice Try.underlying22 (hval 0 22 v0 rfl rfl)
  have lt0 : ∀ x ∈ p0, x.block < W.heap.size := by obtain ⟨m, hm⟩ := h0; exact DataW.trod_lt m _ _ _ hm
  obtain ⟨l0, e0, ec0, b0, k0⟩ := open_bytes h0
  have reach0 := reach_bytes hsz0 (j := 0) rfl rfl k0
  clear hA0
  refine (walk a0 len0 cap0 l0 W e0 ec0 reach0 b0).mono fun e W' ⟨he, bel⟩ => ?_
  subst he
  exact ⟨_, rfl, _, _, _, [], _, [], hW', trodAll_mk1 (shut_bool Try.underlying4 _), (trodAll_cons_mk (Below.trod laidOut (by kernel_rfl) (of_decide_eq_true (by kernel_rfl)) h0 bel lt0) trodAll_mk0), rfl, bel.frame _, fun h => by cases h⟩

theorem laid_met (os : Os) : laidMet Try.prog Rows.pforTakesRow.laid ((World.holding Try.prog os ⟨#[], #[], []⟩).forCall (fun _ _ => 0) ⟨#[], #[.slice none 0 0], []⟩).memory :=
  laidMet_of_run' 8 (by kernel_rfl) (by kernel_rfl)
theorem reads (os : Os) {H : Type} (enc : TypeId × Value → H) : ∃ places, DataW.whole enc Try.prog ((World.holding Try.prog os ⟨#[], #[], []⟩).forCall (fun _ _ => 0) ⟨#[], #[.slice none 0 0], []⟩).memory Try.f4.params.toList Rows.pforTakesSpec.vars false #[Value.slice none 0 0].toList 8 = some ([.nil], [], places) :=
  ⟨[], by kernel_rfl⟩

set_option maxRecDepth 100000 in
theorem lifted (os : Os) (started : os.Started) (H : Type) (enc : TypeId × Value → H) (F : Stop.Interp) :
    ReturnsInHanded {} Try.checked os 4 .any ((OpenSpec.ofChange Rows.pforTakesSpec).preRow enc Try.prog Try.f4 Rows.pforTakesRow.domain false Rows.pforTakesRow.laid) (((OpenSpec.ofChange Rows.pforTakesSpec).at F).post enc Try.prog Try.f4 false true false false) := by
  obtain ⟨places, hx⟩ := reads os enc
  refine returnsInHanded_of_row (C := Try.checked) (s := OpenSpec.ofChange Rows.pforTakesSpec) own started (by kernel_rfl) Try.func4
    (witness_row_at (enc := enc) (C := Try.checked) false (World.holding Try.prog os ⟨#[], #[], []⟩) #[.slice none 0 0] rfl (by kernel_rfl) (by kernel_rfl) (by kernel_rfl)
      (OpenSpec.preRow_of_cond 8 hx (by kernel_rfl) (fun k hk => by cases hk) (by kernel_rfl) (laid_met os))) ?_
  intro W base args ds gs before hval hW _ _ hsz hL _ _
  exact contract H enc W base args ds gs before hval hW hL hsz

theorem said : Rows.PforTakesSaid :=
  OpenClaim.holds_of_cond 4 Try.f4 rfl rfl rfl rfl rfl rfl rfl ⟨rfl, rfl, rfl, rfl, rfl⟩ rfl rfl rfl rfl rfl (by kernel_rfl) Try.func4 (by kernel_rfl)
    (of_decide_eq_true (by kernel_rfl)) (by unfold Func.isWrapper; first | (rw [if_pos (by decide +kernel)]; kernel_rfl) | (rw [if_neg (by decide +kernel)]; exact ⟨rfl, rfl⟩))
    (fun os started H enc _ F => by rw [OpenClaim.pre_eq_preRow]; exact lifted os started H enc F)

end Go.Proofs.Ytcknijkjacgnkaa.pforTakes
