/- PROVED: the law LzUnpacks (any bytes are unpacked as the document says, or with its error, and stay; to up to a million bytes) returns true and leaves its arguments as they were, for every argument.
   Conditions: none but the form's own reach (a slice has fewer than 2^47 bytes). -/
import Derived.Test.YtonknkmbkfndcaaLzLaw
import Derived.Test.YtonknkmbkfndcaaLzRefUnpAny
namespace Go.Proofs.Ytonknkmbkfndcaa.lzUnpacks
open Go.ChangeShapes Go.WideShapes Go.ChangeAt Go.RowKit

set_option maxHeartbeats 1000000 in
theorem walk (A : Option Addr) (n cap : Nat) (l : List UInt8) (y : Int) (w : World)
    (hl : l.length = n) (hcap : n ≤ cap) (hn : n ≤ 140737488351232) (hb : Bytes w w.heap.size A l) (_h0 : -9223372036854775808 ≤ y) (_h1 : y ≤ 9223372036854775807) :
    Calls Try.prog 4 #[.slice A n cap, .int .i64 y] w fun e w' => e = .returned (.bool true) ∧ Below w.heap.size w w' := by
  by_cases hbig : 1048576 < y
  · clear hb hl
    go_enter Try.func4, Try.ntmps4
    go_wp2_with fail
    refine (lzAlive_any w).mono ?_
    rintro e w1 ⟨rfl, hbel1⟩
    go_wp2
    go_ret
    exact ⟨rfl, hbel1⟩
  · have C1 := fun w' B hb hB => copy_any A n cap B l w' hl (by omega) hb hB
    have C2 := fun A2 c2 w' hc hb => unpack_any A2 n c2 _ l y w' hl hc (by omega) (by omega) hb (Nat.le_refl _)
    have C3 := fun w' B hb hB => refUnpack_any A n cap B l y w' hl hcap (by omega) (by omega) hb hB
    have C4 := Lib.hid fun A1 A2 c1 c2 B1 B2 w' h1 h2 => same_any A1 A2 n n c1 c2 B1 B2 l l w' hl hl h1 h2
    rcases hR : Lz.unpack l y with ⟨L, E⟩
    rw [hR] at C2 C3
    unfold UnPost at C2 C3
    dsimp only at C2 C3
    have C5 := fun A1 A2 c1 c2 B1 B2 w' h1 h2 => same_any A1 A2 L.length L.length c1 c2 B1 B2 L L w' rfl rfl h1 h2
    generalize L.length = k at *
    have hEE : ((E : Int) == (E : Int)) = true := by simp
    replace C1 := Lib.hid C1
    replace C2 := Lib.hid C2
    replace C3 := Lib.hid C3
    replace C5 := Lib.hid C5
    clear hl hR
    go_enter Try.func4, Try.ntmps4
    go_wp2_with fail
    refine (lzAlive_any w).mono ?_
    rintro e w1 ⟨rfl, hbel1⟩
    have hx1 := (hb.below hbel1).wide hbel1.size
    go_wp2_with fail
    refine (C1.out w1 _ hx1 (Nat.le_refl _)).mono ?_
    rintro e w2 ⟨A2, c2, rfl, ho2, hb2⟩
    have hx2 := (hx1.below hb2).wide hb2.size
    have hbel2 := hbel1.trans (hb2.mono hbel1.size)
    clear hx1 C1
    go_wp2_with fail
    refine (C2.out A2 c2 w2 (by exact ho2.cap) ho2.bytes).mono ?_
    rintro e w3 ⟨A3, c3, rfl, ho3, hb3⟩
    have hx3 := (hx2.below hb3).wide hb3.size
    have hy3 := (ho2.bytes.below hb3).wide hb3.size
    have hbel3 := hbel2.trans (hb3.mono hbel2.size)
    clear hx2 C2 ho2
    go_wp2_with fail
    refine (C3.out w3 _ hx3 (Nat.le_refl _)).mono ?_
    rintro e w4 ⟨A4, c4, rfl, ho4, hb4⟩
    have hx4 := hx3.below hb4
    have hy4 := hy3.below hb4
    have hz4 := ho3.bytes.below hb4
    have hbel4 := hbel3.trans (hb4.mono hbel3.size)
    clear hx3 hy3 C3 ho3
    have S1 := C5.out A3 A4 c3 c4 _ _ w4 hz4 ho4.bytes
    rw [beq_self_eq_true] at S1
    replace S1 := Lib.hid S1
    have S2 := C4.out A2 A c2 cap _ _ w4 hy4 hx4
    rw [beq_self_eq_true] at S2
    replace S2 := Lib.hid S2
    clear C4 C5
    go_wp2_with fail
    refine S1.out.mono ?_
    rintro e w5 ⟨rfl, rfl⟩
    clear S1
    go_wp2_with fail
    refine S2.out.mono ?_
    rintro e w6 ⟨rfl, rfl⟩
    clear S2
    go_wp2
    go_ret
    exact ⟨rfl, hbel4⟩

/-- from the walk to the post of the row -/
theorem contract (H : Type) (enc : TypeId × Value → H) (W : World) (base : Nat) (args : Array Value) (ds gs : List (DataW H)) (before : List MemPlace)
    (hval : ∀ (j : Nat) t v, Try.f4.params[j]? = some t → args[j]? = some v → Value.okWide Try.prog W .any base t v)
    (hW : DataW.Whole enc Try.prog Try.f4.params.toList Rows.lzUnpacksSpec.vars false W args.toList ds gs before) (_ : laidMetH Try.prog Rows.lzUnpacksRow.laid W)
    (hsz0 : (DataW.weightsEach Try.prog (Try.f4.params.toList ++ Rows.lzUnpacksSpec.plain.varTypes Try.prog) (ds ++ gs)).all (· ≤ reachBytes) = true) :
    Calls Try.prog 4 args W fun e W' => ∃ v, e = .returned v ∧ Rows.lzUnpacksSpec.post enc Try.prog Try.f4 false true false false W args v W' := by
  have hW' := hW
  obtain ⟨p, q, hA0, hV, rfl, hfz, hnd⟩ := hW
  have hA : DataW.TrodAll enc Try.prog W 0 (fun _ => true) true Try.f4.params.toList args.toList ds p := hA0
  rw [Try.params4] at hA hval hsz0
  obtain ⟨v0, vs0, d0, ds0, p0, q0, hargs, rfl, rfl, h0, r0⟩ := trodAll_cons hA
  obtain ⟨v1, vs1, d1, ds1, p1, q1, rfl, rfl, rfl, h1, r1⟩ := trodAll_cons r0
  obtain ⟨rfl, rfl, rfl⟩ := trodAll_nil r1
  obtain rfl : args = #[v0, v1] := by cases args; simp_all
  obtain ⟨rfl, rfl⟩ := trodVars_none hV
  obtain ⟨a0, len0, cap0, rfl⟩ := okWide_slice Try.underlying22 (hval 0 22 v0 rfl rfl)
  have lt0 : ∀ x ∈ p0, x.block < W.heap.size := by obtain ⟨m, hm⟩ := h0; exact DataW.trod_lt m _ _ _ hm
  obtain ⟨l0, e0, ec0, b0, k0⟩ := open_bytes h0
  have reach0 := reach_bytes hsz0 (j := 0) rfl rfl k0
  obtain ⟨x1, rfl, rfl, rfl, w1⟩ := open_int Try.underlying3 (hval 1 3 v1 rfl rfl) h1
  clear hA0
  refine (walk a0 len0 cap0 l0 x1 W e0 ec0 reach0 b0 (by have := bounds_i64 w1; omega) (by have := bounds_i64 w1; omega)).mono fun e W' ⟨he, bel⟩ => ?_
  subst he
  exact ⟨_, rfl, _, _, _, [], _, [], hW', trodAll_mk1 (shut_bool Try.underlying4 _), (trodAll_cons_mk (Below.trod laidOut (by kernel_rfl) (of_decide_eq_true (by kernel_rfl)) h0 bel lt0) (trodAll_cons_mk (shut_int Try.underlying3 w1) trodAll_mk0)), rfl, bel.frame _, fun h => by cases h⟩

theorem laid_met (os : Os) : laidMet Try.prog Rows.lzUnpacksRow.laid ((World.holding Try.prog os ⟨#[], #[], []⟩).forCall (fun _ _ => 0) ⟨#[], #[.slice none 0 0, .int .i64 0], []⟩).memory :=
  laidMet_of_run' 8 (by kernel_rfl) (by kernel_rfl)
theorem reads (os : Os) {H : Type} (enc : TypeId × Value → H) : ∃ places, DataW.whole enc Try.prog ((World.holding Try.prog os ⟨#[], #[], []⟩).forCall (fun _ _ => 0) ⟨#[], #[.slice none 0 0, .int .i64 0], []⟩).memory Try.f4.params.toList Rows.lzUnpacksSpec.vars false #[Value.slice none 0 0, .int .i64 0].toList 8 = some ([.nil, .lit (.int .i64 0)], [], places) :=
  ⟨[], by kernel_rfl⟩

set_option maxRecDepth 100000 in
theorem lifted (os : Os) (started : os.Started) (H : Type) (enc : TypeId × Value → H) (F : Stop.Interp) :
    ReturnsInHanded {} Try.checked os 4 .any ((OpenSpec.ofChange Rows.lzUnpacksSpec).preRow enc Try.prog Try.f4 Rows.lzUnpacksRow.domain false Rows.lzUnpacksRow.laid) (((OpenSpec.ofChange Rows.lzUnpacksSpec).at F).post enc Try.prog Try.f4 false true false false) := by
  obtain ⟨places, hx⟩ := reads os enc
  refine returnsInHanded_of_row (C := Try.checked) (s := OpenSpec.ofChange Rows.lzUnpacksSpec) own started (by kernel_rfl) Try.func4
    (witness_row_at (enc := enc) (C := Try.checked) false (World.holding Try.prog os ⟨#[], #[], []⟩) #[.slice none 0 0, .int .i64 0] rfl (by kernel_rfl) (by kernel_rfl) (by kernel_rfl)
      (OpenSpec.preRow_of_cond 8 hx (by kernel_rfl) (fun k hk => by cases hk) (by kernel_rfl) (laid_met os))) ?_
  intro W base args ds gs before hval hW _ _ hsz hL _ _
  exact contract H enc W base args ds gs before hval hW hL hsz

theorem said : Rows.LzUnpacksSaid :=
  OpenClaim.holds_of_cond 4 Try.f4 rfl rfl rfl rfl rfl rfl rfl ⟨rfl, rfl, rfl, rfl, rfl⟩ rfl rfl rfl rfl rfl (by kernel_rfl) Try.func4 (by kernel_rfl)
    (of_decide_eq_true (by kernel_rfl)) (by unfold Func.isWrapper; first | (rw [if_pos (by decide +kernel)]; kernel_rfl) | (rw [if_neg (by decide +kernel)]; exact ⟨rfl, rfl⟩))
    (fun os started H enc _ F => by rw [OpenClaim.pre_eq_preRow]; exact lifted os started H enc F)

end Go.Proofs.Ytonknkmbkfndcaa.lzUnpacks
