/- PROVED: the law NumPuts (any number, folded or not, is put behind any bytes as the document says, and what stood in their spare room stays) returns true and leaves its arguments as they were, for every byte slice, uint64 and int.
   Conditions: none but the form's own reach (a slice has fewer than 2^47 bytes). -/
import Derived.Test.YtpcmedaaggeliaaLawIn
import Derived.Test.YtpcmedaaggeliaaNumLaw
import Derived.Test.YtpcmedaaggeliaaRefNum
namespace Go.Proofs.Ytpcmedaaggeliaa.numPuts
open Go.ChangeShapes Go.WideShapes Go.ChangeAt Go.RowKit

set_option maxHeartbeats 1000000 in
theorem walk (A : Option Addr) (n cap : Nat) (l : List UInt8) (v : Nat) (z : Int) (w : World)
    (hl : l.length = n) (_ : n ≤ cap) (hn : n ≤ 140737488351232) (hb : Bytes w w.heap.size A l) (hv : v < 18446744073709551616) (h0 : -9223372036854775808 ≤ z) (h1 : z ≤ 9223372036854775807) :
    Calls Try.prog 3 #[.slice A n cap, .int .u64 (v : Int), .int .i64 z] w fun e w' => e = .returned (.bool true) ∧ Below w.heap.size w w' := by
  have Hl := Lib.hid hl
  have C1 := Lib.hid fun g w' B hb hB => put_any (some ⟨g, 0, none⟩) n (n + 20) B v l w' hl hv (by omega) hb hB
  have C2 := Lib.hid fun g w' B hb hB => putInt_any (some ⟨g, 0, none⟩) n (n + 20) B z l w' hl h0 h1 (by omega) hb hB
  have R1 := Lib.hid fun w' => refBytes_any v w' hv
  have R2 := Lib.hid fun w' => refInt_any z w' h0 h1
  have hs1 := Num.size_le9 hv
  have hs2 := Num.size_le9 (Num.fold_lt h0 h1)
  have Hn1 := Lib.hid (Num.num_length v)
  have Hn2 := Lib.hid (Num.num_length (Num.fold z))
  clear hl
  generalize Num.size v = s1 at *
  generalize Num.num v = N1 at *
  generalize Num.size (Num.fold z) = s2 at *
  generalize Num.num (Num.fold z) = N2 at *
  generalize (v : Int) = x at *
  go_enter Try.func3, Try.ntmps3
  go_wp2_with fail
  refine (alive_any w).mono ?_
  rintro e w1 ⟨rfl, hbel1⟩
  have hx1 := hb.below hbel1
  go_wp2_with fail
  refine (spare_any A n cap w.heap.size l w1 Hl.out (by omega) hx1 hbel1.size).mono ?_
  rintro e w2 ⟨g, rfl, ho2, hbel2⟩
  have hx2 := (hx1.wide hbel1.size).below hbel2
  have hown : Bytes w2 w2.heap.size (some ⟨g, 0, none⟩) l := by
    have := ho2.bytes.take n
    rwa [List.take_left' Hl.out] at this
  go_wp2_with fail
  refine (C1.out g w2 w2.heap.size hown (Nat.le_refl _)).mono ?_
  rintro e w3 ⟨g3, c3, rfl, ho3, hbel3⟩
  have hown3 := hown.below hbel3
  have ho2' := ho2.below hbel3
  have hx3 := (hx2.wide hbel2.size).below hbel3
  go_wp2_with fail
  refine (C2.out g w3 w2.heap.size hown3 hbel3.size).mono ?_
  rintro e w4 ⟨g4, c4, rfl, ho4, hbel4⟩
  have ho2'' := ho2'.below hbel4
  have hx4 := (hx3.wide hbel3.size).below hbel4
  have ho3' := ho3.below hbel4
  clear C1 C2 hown hown3 ho2 ho2' hx1 hx2 hx3 ho3
  go_wp2_with fail
  refine (kept_any g n cap _ _ A l w4 Hl.out (by omega) ho2'' hx4).mono ?_
  rintro e w5 ⟨rfl, rfl⟩
  go_wp2_with fail
  refine (R1.out w4).mono ?_
  rintro e w5 ⟨g5, c5, rfl, ho5, hbel5⟩
  have hx5 := (hx4.wide hbel4.size).below hbel5
  have ho3'' := ho3'.below hbel5
  have ho4' := ho4.below hbel5
  have hc3 : n + s1 ≤ c3 := ho3''.cap
  clear ho2'' hx4 ho3' ho4
  go_wp2_with fail
  refine (behind_any _ A _ n s1 c3 cap c5 _ _ _ l N1 w5 Hl.out Hn1.out hc3 (by omega) ho3''.bytes hx5 ho5.bytes).mono ?_
  rintro e w6 ⟨rfl, rfl⟩
  clear ho3'' ho5
  go_wp2_with fail
  refine (R2.out w5).mono ?_
  rintro e w6 ⟨g6, c6, rfl, ho6, hbel6⟩
  have hx6 := (hx5.wide hbel5.size).below hbel6
  have ho4'' := ho4'.below hbel6
  have hc4 : n + s2 ≤ c4 := ho4''.cap
  go_wp2_with fail
  refine (behind_any _ A _ n s2 c4 cap c6 _ _ _ l N2 w6 Hl.out Hn2.out hc4 (by omega) ho4''.bytes hx6 ho6.bytes).mono ?_
  rintro e w7 ⟨rfl, rfl⟩
  go_wp2
  go_ret
  refine ⟨rfl, ?_⟩
  have hA := hbel1.trans (hbel2.mono hbel1.size)
  have hB := hA.trans (hbel3.mono hA.size)
  have hC := hB.trans (hbel4.mono hB.size)
  have hD := hC.trans (hbel5.mono hC.size)
  exact hD.trans (hbel6.mono hD.size)

/-- from the walk to the post of the row -/
theorem contract (H : Type) (enc : TypeId × Value → H) (W : World) (base : Nat) (args : Array Value) (ds gs : List (DataW H)) (before : List MemPlace)
    (hval : ∀ (j : Nat) t v, Try.f3.params[j]? = some t → args[j]? = some v → Value.okWide Try.prog W .any base t v)
    (hW : DataW.Whole enc Try.prog Try.f3.params.toList Rows.numPutsSpec.vars false W args.toList ds gs before) (_ : laidMetH Try.prog Rows.numPutsRow.laid W)
    (hsz0 : (DataW.weightsEach Try.prog (Try.f3.params.toList ++ Rows.numPutsSpec.plain.varTypes Try.prog) (ds ++ gs)).all (· ≤ reachBytes) = true) :
    Calls Try.prog 3 args W fun e W' => ∃ v, e = .returned v ∧ Rows.numPutsSpec.post enc Try.prog Try.f3 false true false false W args v W' := by
  have hW' := hW
  obtain ⟨p, q, hA0, hV, rfl, hfz, hnd⟩ := hW
  have hA : DataW.TrodAll enc Try.prog W 0 (fun _ => true) true Try.f3.params.toList args.toList ds p := hA0
  rw [Try.params3] at hA hval hsz0
  obtain ⟨v0, vs0, d0, ds0, p0, q0, hargs, rfl, rfl, h0, r0⟩ := trodAll_cons hA
  obtain ⟨v1, vs1, d1, ds1, p1, q1, rfl, rfl, rfl, h1, r1⟩ := trodAll_cons r0
  obtain ⟨v2, vs2, d2, ds2, p2, q2, rfl, rfl, rfl, h2, r2⟩ := trodAll_cons r1
  obtain ⟨rfl, rfl, rfl⟩ := trodAll_nil r2
  obtain rfl : args = #[v0, v1, v2] := by cases args; simp_all
  obtain ⟨rfl, rfl⟩ := trodVars_none hV
  obtain ⟨a0, len0, cap0, rfl⟩ := okWide_slice Try.underlying22 (hval 0 22 v0 rfl rfl)
  have lt0 : ∀ x ∈ p0, x.block < W.heap.size := by obtain ⟨m, hm⟩ := h0; exact DataW.trod_lt m _ _ _ hm
  obtain ⟨l0, e0, ec0, b0, k0⟩ := open_bytes h0
  have reach0 := reach_bytes hsz0 (j := 0) rfl rfl k0
  obtain ⟨x1, rfl, rfl, rfl, w1⟩ := open_int Try.underlying23 (hval 1 23 v1 rfl rfl) h1
  obtain ⟨c1, rfl⟩ := Int.eq_ofNat_of_zero_le (bounds_u64 w1).1
  obtain ⟨x2, rfl, rfl, rfl, w2⟩ := open_int Try.underlying3 (hval 2 3 v2 rfl rfl) h2
  clear hA0
  refine (walk a0 len0 cap0 l0 c1 x2 W e0 ec0 reach0 b0 (by have := (bounds_u64 w1).2; omega) (by have := bounds_i64 w2; omega) (by have := bounds_i64 w2; omega)).mono fun e W' ⟨he, bel⟩ => ?_
  subst he
  exact ⟨_, rfl, _, _, _, [], _, [], hW', trodAll_mk1 (shut_bool Try.underlying4 _), (trodAll_cons_mk (Below.trod laidOut (by kernel_rfl) (of_decide_eq_true (by kernel_rfl)) h0 bel lt0) (trodAll_cons_mk (shut_int Try.underlying23 w1) (trodAll_cons_mk (shut_int Try.underlying3 w2) trodAll_mk0))), rfl, bel.frame _, fun h => by cases h⟩

theorem laid_met (os : Os) : laidMet Try.prog Rows.numPutsRow.laid ((World.holding Try.prog os ⟨#[], #[], []⟩).forCall (fun _ _ => 0) ⟨#[], #[.slice none 0 0, .int .u64 0, .int .i64 0], []⟩).memory :=
  laidMet_of_run' 8 (by kernel_rfl) (by kernel_rfl)
theorem reads (os : Os) {H : Type} (enc : TypeId × Value → H) : ∃ places, DataW.whole enc Try.prog ((World.holding Try.prog os ⟨#[], #[], []⟩).forCall (fun _ _ => 0) ⟨#[], #[.slice none 0 0, .int .u64 0, .int .i64 0], []⟩).memory Try.f3.params.toList Rows.numPutsSpec.vars false #[Value.slice none 0 0, .int .u64 0, .int .i64 0].toList 8 = some ([.nil, .lit (.int .u64 0), .lit (.int .i64 0)], [], places) :=
  ⟨[], by kernel_rfl⟩

set_option maxRecDepth 100000 in
theorem lifted (os : Os) (started : os.Started) (H : Type) (enc : TypeId × Value → H) (F : Stop.Interp) :
    ReturnsInHanded {} Try.checked os 3 .any ((OpenSpec.ofChange Rows.numPutsSpec).preRow enc Try.prog Try.f3 Rows.numPutsRow.domain false Rows.numPutsRow.laid) (((OpenSpec.ofChange Rows.numPutsSpec).at F).post enc Try.prog Try.f3 false true false false) := by
  obtain ⟨places, hx⟩ := reads os enc
  refine returnsInHanded_of_row (C := Try.checked) (s := OpenSpec.ofChange Rows.numPutsSpec) own started (by kernel_rfl) Try.func3
    (witness_row_at (enc := enc) (C := Try.checked) false (World.holding Try.prog os ⟨#[], #[], []⟩) #[.slice none 0 0, .int .u64 0, .int .i64 0] rfl (by kernel_rfl) (by kernel_rfl) (by kernel_rfl)
      (OpenSpec.preRow_of_cond 8 hx (by kernel_rfl) (fun k hk => by cases hk) (by kernel_rfl) (laid_met os))) ?_
  intro W base args ds gs before hval hW _ _ hsz hL _ _
  exact contract H enc W base args ds gs before hval hW hL hsz

theorem said : Rows.NumPutsSaid :=
  OpenClaim.holds_of_cond 3 Try.f3 rfl rfl rfl rfl rfl rfl rfl ⟨rfl, rfl, rfl, rfl, rfl⟩ rfl rfl rfl rfl rfl (by kernel_rfl) Try.func3 (by kernel_rfl)
    (of_decide_eq_true (by kernel_rfl)) (by unfold Func.isWrapper; first | (rw [if_pos (by decide +kernel)]; kernel_rfl) | (rw [if_neg (by decide +kernel)]; exact ⟨rfl, rfl⟩))
    (fun os started H enc _ F => by rw [OpenClaim.pre_eq_preRow]; exact lifted os started H enc F)

end Go.Proofs.Ytpcmedaaggeliaa.numPuts
