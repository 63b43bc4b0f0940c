/- PROVED: the law BitsUnpacks (any bytes are unpacked as any count of numbers of any width as the document says, or refused) returns true and leaves its arguments as they were, for every argument.
   Conditions: none but the form's own reach (a slice has fewer than 2^47 bytes). -/
import Derived.Test.YtfnoadelcpkgnaaLawIn
import Derived.Test.YtfnoadelcpkgnaaBitsLaw
namespace Go.Proofs.Ytfnoadelcpkgnaa.bitsUnpacks
open Go.ChangeShapes Go.WideShapes Go.ChangeAt Go.RowKit

set_option maxHeartbeats 1000000 in
theorem walk (A : Option Addr) (n cap : Nat) (b : List UInt8) (y z : Int) (w : World)
    (hl : b.length = n) (_hcap : n ≤ cap) (hn : n ≤ 140737488351232) (hb : Bytes w w.heap.size A b) (_h0 : -9223372036854775808 ≤ y) (_h1 : y ≤ 9223372036854775807) (_h2 : -9223372036854775808 ≤ z) (_h3 : z ≤ 9223372036854775807) :
    Calls Try.prog 4 #[.slice A n cap, .int .i64 y, .int .i64 z] w fun e w' => e = .returned (.bool true) ∧ Below w.heap.size w w' := by
  have C1 := Lib.hid fun w' B hb hB => copy_any A n cap B b w' hl (by omega) hb hB
  have C2 := fun A' c' w' B hb hB => unpack_any A' n c' B y z b w' hl hb hB (by omega)
  have C3 := fun w' B hb hB => refUnpack_any A n cap B y z b w' hl hb hB (by omega)
  have C4 := Lib.hid fun A1 A2 c1 c2 B1 B2 w' h1 h2 => same_any A1 A2 n n c1 c2 B1 B2 b b w' hl hl h1 h2
  unfold UnpackPost at C2 C3
  have hlen := Bits.unpack_len b y z
  generalize Bits.unpack b y z = R at C2 C3 hlen
  obtain ⟨P, E⟩ := R
  simp only at C2 C3 hlen
  have C5 := Lib.hid fun A1 A2 c1 c2 B1 B2 w' h1 h2 => same64_any A1 A2 P.length c1 c2 B1 B2 P w' rfl (by omega) h1 h2
  generalize P.length = p at *
  replace C2 := Lib.hid C2
  replace C3 := Lib.hid C3
  have hEE : ((E : Int) == (E : Int)) = true := beq_self_eq_true _
  generalize (E : Int) = ε at *
  clear hl
  go_enter Try.func4, Try.ntmps4
  go_wp2_with fail
  refine (alive_any w).mono ?_
  rintro e w1 ⟨rfl, hbel1⟩
  have hx1 := hb.below hbel1
  go_wp2_with fail
  refine (C1.out w1 _ hx1 hbel1.size).mono ?_
  rintro e w2 ⟨A2, c2, rfl, ho2, hb2⟩
  have hx2 := (hx1.wide hbel1.size).below hb2
  have hbel2 := hbel1.trans (hb2.mono hbel1.size)
  clear hx1 C1
  go_wp2_with fail
  refine (C2.out A2 c2 w2 _ ho2.bytes (Nat.le_refl _)).mono ?_
  rintro e w3 ⟨A3, c3, rfl, ho3, hb3⟩
  have ho23 := ho2.below hb3
  have hx3 := (hx2.wide hb2.size).below hb3
  have hbel3 := hbel2.trans (hb3.mono hbel2.size)
  clear hx2 C2 ho2
  go_wp2_with fail
  refine (C3.out w3 _ hx3 hb3.size).mono ?_
  rintro e w4 ⟨A4, c4, rfl, ho4, hb4⟩
  have ho24 := ho23.below hb4
  have ho34 := ho3.below hb4
  have hx4 := (hx3.wide hb3.size).below hb4
  have hbel4 := hbel3.trans (hb4.mono hbel3.size)
  clear hx3 C3 ho23 ho3
  go_wp2_with fail
  refine (C5.out A3 A4 c3 c4 _ _ w4 ho34.row ho4.row).mono ?_
  rintro e w5 ⟨rfl, hd⟩
  have hd5 := hd.below w4.heap.size
  have S1 := C4.out A2 A c2 cap _ _ w5 (ho24.below hd5).bytes ((hx4.wide hb4.size).below hd5)
  rw [beq_self_eq_true] at S1
  replace S1 := Lib.hid S1
  clear C4 C5 hd
  go_wp2_with fail
  refine S1.out.mono ?_
  rintro e w6 ⟨rfl, rfl⟩
  clear S1
  go_wp2
  go_ret
  exact ⟨rfl, hbel4.trans (hd5.mono hbel4.size)⟩

/-- from the walk to the post of the row -/
theorem contract (H : Type) (enc : TypeId × Value → H) (W : World) (base : Nat) (args : Array Value) (ds gs : List (DataW H)) (before : List MemPlace)
    (hval : ∀ (j : Nat) t v, Try.f4.params[j]? = some t → args[j]? = some v → Value.okWide Try.prog W .any base t v)
    (hW : DataW.Whole enc Try.prog Try.f4.params.toList Rows.bitsUnpacksSpec.vars false W args.toList ds gs before) (_ : laidMetH Try.prog Rows.bitsUnpacksRow.laid W)
    (hsz0 : (DataW.weightsEach Try.prog (Try.f4.params.toList ++ Rows.bitsUnpacksSpec.plain.varTypes Try.prog) (ds ++ gs)).all (· ≤ reachBytes) = true) :
    Calls Try.prog 4 args W fun e W' => ∃ v, e = .returned v ∧ Rows.bitsUnpacksSpec.post enc Try.prog Try.f4 false true false false W args v W' := by
  have hW' := hW
  obtain ⟨p, q, hA0, hV, rfl, hfz, hnd⟩ := hW
  have hA : DataW.TrodAll enc Try.prog W 0 (fun _ => true) true Try.f4.params.toList args.toList ds p := hA0
  rw [Try.params4] at hA hval hsz0
  obtain ⟨v0, vs0, d0, ds0, p0, q0, hargs, rfl, rfl, h0, r0⟩ := trodAll_cons hA
  obtain ⟨v1, vs1, d1, ds1, p1, q1, rfl, rfl, rfl, h1, r1⟩ := trodAll_cons r0
  obtain ⟨v2, vs2, d2, ds2, p2, q2, rfl, rfl, rfl, h2, r2⟩ := trodAll_cons r1
  obtain ⟨rfl, rfl, rfl⟩ := trodAll_nil r2
  obtain rfl : args = #[v0, v1, v2] := by cases args; simp_all
  obtain ⟨rfl, rfl⟩ := trodVars_none hV
  obtain ⟨a0, len0, cap0, rfl⟩ := okWide_slice Try.underlying25 (hval 0 25 v0 rfl rfl)
  have lt0 : ∀ x ∈ p0, x.block < W.heap.size := by obtain ⟨m, hm⟩ := h0; exact DataW.trod_lt m _ _ _ hm
  obtain ⟨l0, e0, ec0, b0, k0⟩ := open_bytes h0
  have reach0 := reach_bytes hsz0 (j := 0) rfl rfl k0
  obtain ⟨x1, rfl, rfl, rfl, w1⟩ := open_int Try.underlying3 (hval 1 3 v1 rfl rfl) h1
  obtain ⟨x2, rfl, rfl, rfl, w2⟩ := open_int Try.underlying3 (hval 2 3 v2 rfl rfl) h2
  clear hA0
  refine (walk a0 len0 cap0 l0 x1 x2 W e0 ec0 reach0 b0 (by have := bounds_i64 w1; omega) (by have := bounds_i64 w1; omega) (by have := bounds_i64 w2; omega) (by have := bounds_i64 w2; omega)).mono fun e W' ⟨he, bel⟩ => ?_
  subst he
  exact ⟨_, rfl, _, _, _, [], _, [], hW', trodAll_mk1 (shut_bool Try.underlying4 _), (trodAll_cons_mk (Below.trod laidOut (by kernel_rfl) (of_decide_eq_true (by kernel_rfl)) h0 bel lt0) (trodAll_cons_mk (shut_int Try.underlying3 w1) (trodAll_cons_mk (shut_int Try.underlying3 w2) trodAll_mk0))), rfl, bel.frame _, fun h => by cases h⟩

theorem laid_met (os : Os) : laidMet Try.prog Rows.bitsUnpacksRow.laid ((World.holding Try.prog os ⟨#[], #[], []⟩).forCall (fun _ _ => 0) ⟨#[], #[.slice none 0 0, .int .i64 0, .int .i64 0], []⟩).memory :=
  laidMet_of_run' 8 (by kernel_rfl) (by kernel_rfl)
theorem reads (os : Os) {H : Type} (enc : TypeId × Value → H) : ∃ places, DataW.whole enc Try.prog ((World.holding Try.prog os ⟨#[], #[], []⟩).forCall (fun _ _ => 0) ⟨#[], #[.slice none 0 0, .int .i64 0, .int .i64 0], []⟩).memory Try.f4.params.toList Rows.bitsUnpacksSpec.vars false #[Value.slice none 0 0, .int .i64 0, .int .i64 0].toList 8 = some ([.nil, .lit (.int .i64 0), .lit (.int .i64 0)], [], places) :=
  ⟨[], by kernel_rfl⟩

set_option maxRecDepth 100000 in
theorem lifted (os : Os) (started : os.Started) (H : Type) (enc : TypeId × Value → H) (F : Stop.Interp) :
    ReturnsInHanded {} Try.checked os 4 .any ((OpenSpec.ofChange Rows.bitsUnpacksSpec).preRow enc Try.prog Try.f4 Rows.bitsUnpacksRow.domain false Rows.bitsUnpacksRow.laid) (((OpenSpec.ofChange Rows.bitsUnpacksSpec).at F).post enc Try.prog Try.f4 false true false false) := by
  obtain ⟨places, hx⟩ := reads os enc
  refine returnsInHanded_of_row (C := Try.checked) (s := OpenSpec.ofChange Rows.bitsUnpacksSpec) own started (by kernel_rfl) Try.func4
    (witness_row_at (enc := enc) (C := Try.checked) false (World.holding Try.prog os ⟨#[], #[], []⟩) #[.slice none 0 0, .int .i64 0, .int .i64 0] rfl (by kernel_rfl) (by kernel_rfl) (by kernel_rfl)
      (OpenSpec.preRow_of_cond 8 hx (by kernel_rfl) (fun k hk => by cases hk) (by kernel_rfl) (laid_met os))) ?_
  intro W base args ds gs before hval hW _ _ hsz hL _ _
  exact contract H enc W base args ds gs before hval hW hL hsz

theorem said : Rows.BitsUnpacksSaid :=
  OpenClaim.holds_of_cond 4 Try.f4 rfl rfl rfl rfl rfl rfl rfl ⟨rfl, rfl, rfl, rfl, rfl⟩ rfl rfl rfl rfl rfl (by kernel_rfl) Try.func4 (by kernel_rfl)
    (of_decide_eq_true (by kernel_rfl)) (by unfold Func.isWrapper; first | (rw [if_pos (by decide +kernel)]; kernel_rfl) | (rw [if_neg (by decide +kernel)]; exact ⟨rfl, rfl⟩))
    (fun os started H enc _ F => by rw [OpenClaim.pre_eq_preRow]; exact lifted os started H enc F)

end Go.Proofs.Ytfnoadelcpkgnaa.bitsUnpacks
