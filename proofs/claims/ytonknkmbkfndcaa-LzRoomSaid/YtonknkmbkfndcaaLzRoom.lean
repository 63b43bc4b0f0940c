/- PROVED: the law LzRoom (what is unpacked with some room is unpacked alike with more; to up to a million bytes) returns true and leaves its arguments as they were, for every argument.
   Conditions: none but the form's own reach (a slice has fewer than 2^47 bytes). -/
import Derived.Test.YtonknkmbkfndcaaLzLaw
namespace Go.Proofs.Ytonknkmbkfndcaa.lzRoom
open Go.ChangeShapes Go.WideShapes Go.ChangeAt Go.RowKit

theorem room (l : List UInt8) (y : Int) (x : Nat) : ((Lz.unpack l y).2 = 0 → 0 ≤ y ∧ Lz.unpack l (y + (x : Int)) = Lz.unpack l y ∧ ((Lz.unpack l y).1.length : Int) ≤ y) ∧ ((Lz.unpack l y).2 ≠ 0 → (Lz.unpack l y).1 = []) := by
  by_cases h : y < 0
  · have e : Lz.unpack l y = ([], 1) := by unfold Lz.unpack; rw [if_pos h]
    rw [e]
    exact ⟨fun h => absurd h (by decide), fun _ => rfl⟩
  · have e : Lz.unpack l y = Lz.run y.toNat (l.length + 1) l [] := by unfold Lz.unpack; rw [if_neg h]
    have e2 : Lz.unpack l (y + (x : Int)) = Lz.run (y + (x : Int)).toNat (l.length + 1) l [] := by unfold Lz.unpack; rw [if_neg (by omega)]
    have hr := Lz.run_room y.toNat (y + (x : Int)).toNat (by omega) (l.length + 1) l [] (Nat.zero_le _)
    rw [e2, e]
    exact ⟨fun h0 => ⟨by omega, (hr.1 h0).1, by have := (hr.1 h0).2; omega⟩, hr.2⟩

set_option maxHeartbeats 1000000 in
theorem walk (A : Option Addr) (n cap : Nat) (l : List UInt8) (y : Int) (x : Nat) (w : World)
    (hl : l.length = n) (hcap : n ≤ cap) (hn : n ≤ 140737488351232) (hb : Bytes w w.heap.size A l) (_h0 : -9223372036854775808 ≤ y) (_h1 : y ≤ 9223372036854775807) (hx : x < 65536) :
    Calls Try.prog 7 #[.slice A n cap, .int .i64 y, .int .u16 (x : Int)] w fun e w' => e = .returned (.bool true) ∧ Below w.heap.size w w' := by
  by_cases hbig : 1048576 < y
  · clear hb hl
    go_enter Try.func7, Try.ntmps7
    go_wp2_with fail
    refine (lzAlive_any w).mono ?_
    rintro e w1 ⟨rfl, hbel1⟩
    go_wp2
    go_ret
    exact ⟨rfl, hbel1⟩
  · have C1 := fun w' B hb hB => unpack_any A n cap B l y w' hl hcap (by omega) (by omega) hb hB
    have C2 := fun w' B hb hB => unpack_any A n cap B l (y + (x : Int)) w' hl hcap (by omega) (by omega) hb hB
    obtain ⟨hr1, hr2⟩ := room l y x
    obtain ⟨xz, hxz, hx0, hx1⟩ : ∃ xz : Int, xz = (x : Int) ∧ 0 ≤ xz ∧ xz ≤ 65535 := ⟨x, rfl, by omega, by omega⟩
    rw [← hxz] at hr1 C2 ⊢
    have hyx : y + xz ≤ 1200000 := by omega
    rcases hR : Lz.unpack l y with ⟨L, E⟩
    rw [hR] at C1 hr1 hr2
    by_cases hE : E = 0
    · obtain ⟨hy0, h2, h3⟩ := hr1 hE
      rw [h2] at C2
      subst hE
      unfold UnPost at C1 C2
      dsimp only at C1 C2 h3
      have C4 := fun A1 A2 c1 c2 B1 B2 w' h1 h2 => same_any A1 A2 L.length L.length c1 c2 B1 B2 L L w' rfl rfl h1 h2
      simp only [Int.natCast_zero] at C1 C2
      generalize L.length = k at *
      replace C1 := Lib.hid C1
      replace C2 := Lib.hid C2
      replace C4 := Lib.hid C4
      clear hl hr1 hr2 hR h2 hxz hx
      go_enter Try.func7, Try.ntmps7
      go_wp2_with fail
      refine (lzAlive_any w).mono ?_
      rintro e w1 ⟨rfl, hbel1⟩
      have hx1 := (hb.below hbel1).wide hbel1.size
      go_wp2_with fail
      refine (C1.out w1 _ hx1 (Nat.le_refl _)).mono ?_
      rintro e w2 ⟨A2, c2, rfl, ho2, hb2⟩
      have hx2 := (hx1.below hb2).wide hb2.size
      have hbel2 := hbel1.trans (hb2.mono hbel1.size)
      clear hx1 C1
      go_wp2_with fail
      refine (C2.out w2 _ hx2 (Nat.le_refl _)).mono ?_
      rintro e w3 ⟨A3, c3, rfl, ho3, hb3⟩
      have ho2' := ho2.below hb3
      have hbel3 := hbel2.trans (hb3.mono hbel2.size)
      clear hx2 C2 ho2
      have S1 := C4.out A2 A3 c2 c3 _ _ w3 ho2'.bytes ho3.bytes
      rw [beq_self_eq_true] at S1
      replace S1 := Lib.hid S1
      clear C4
      go_wp2_with fail
      refine S1.out.mono ?_
      rintro e w4 ⟨rfl, rfl⟩
      clear S1
      go_wp2
      go_ret
      exact ⟨rfl, hbel3⟩
    · have hL := hr2 hE
      dsimp only at hL
      subst hL
      unfold UnPost at C1
      simp only [List.length_nil] at C1
      have hE' : ¬ ((E : Int) = 0) := by omega
      replace C1 := Lib.hid C1
      clear hl hr1 hr2 hR C2 hxz hE hx
      go_enter Try.func7, Try.ntmps7
      go_wp2_with fail
      refine (lzAlive_any w).mono ?_
      rintro e w1 ⟨rfl, hbel1⟩
      have hx1 := (hb.below hbel1).wide hbel1.size
      go_wp2_with fail
      refine (C1.out w1 _ hx1 (Nat.le_refl _)).mono ?_
      rintro e w2 ⟨A2, c2, rfl, ho2, hb2⟩
      have hbel2 := hbel1.trans (hb2.mono hbel1.size)
      clear hx1 C1 ho2
      go_wp2
      go_ret
      exact ⟨rfl, hbel2⟩

/-- from the walk to the post of the row -/
theorem contract (H : Type) (enc : TypeId × Value → H) (W : World) (base : Nat) (args : Array Value) (ds gs : List (DataW H)) (before : List MemPlace)
    (hval : ∀ (j : Nat) t v, Try.f7.params[j]? = some t → args[j]? = some v → Value.okWide Try.prog W .any base t v)
    (hW : DataW.Whole enc Try.prog Try.f7.params.toList Rows.lzRoomSpec.vars false W args.toList ds gs before) (_ : laidMetH Try.prog Rows.lzRoomRow.laid W)
    (hsz0 : (DataW.weightsEach Try.prog (Try.f7.params.toList ++ Rows.lzRoomSpec.plain.varTypes Try.prog) (ds ++ gs)).all (· ≤ reachBytes) = true) :
    Calls Try.prog 7 args W fun e W' => ∃ v, e = .returned v ∧ Rows.lzRoomSpec.post enc Try.prog Try.f7 false true false false W args v W' := by
  have hW' := hW
  obtain ⟨p, q, hA0, hV, rfl, hfz, hnd⟩ := hW
  have hA : DataW.TrodAll enc Try.prog W 0 (fun _ => true) true Try.f7.params.toList args.toList ds p := hA0
  rw [Try.params7] at hA hval hsz0
  obtain ⟨v0, vs0, d0, ds0, p0, q0, hargs, rfl, rfl, h0, r0⟩ := trodAll_cons hA
  obtain ⟨v1, vs1, d1, ds1, p1, q1, rfl, rfl, rfl, h1, r1⟩ := trodAll_cons r0
  obtain ⟨v2, vs2, d2, ds2, p2, q2, rfl, rfl, rfl, h2, r2⟩ := trodAll_cons r1
  obtain ⟨rfl, rfl, rfl⟩ := trodAll_nil r2
  obtain rfl : args = #[v0, v1, v2] := by cases args; simp_all
  obtain ⟨rfl, rfl⟩ := trodVars_none hV
  obtain ⟨a0, len0, cap0, rfl⟩ := okWide_slice Try.underlying22 (hval 0 22 v0 rfl rfl)
  have lt0 : ∀ x ∈ p0, x.block < W.heap.size := by obtain ⟨m, hm⟩ := h0; exact DataW.trod_lt m _ _ _ hm
  obtain ⟨l0, e0, ec0, b0, k0⟩ := open_bytes h0
  have reach0 := reach_bytes hsz0 (j := 0) rfl rfl k0
  obtain ⟨x1, rfl, rfl, rfl, w1⟩ := open_int Try.underlying3 (hval 1 3 v1 rfl rfl) h1
  obtain ⟨x2, rfl, rfl, rfl, w2⟩ := open_int Try.underlying32 (hval 2 32 v2 rfl rfl) h2
  obtain ⟨c2, rfl⟩ := Int.eq_ofNat_of_zero_le (bounds_u16 w2).1
  clear hA0
  refine (walk a0 len0 cap0 l0 x1 c2 W e0 ec0 reach0 b0 (by have := bounds_i64 w1; omega) (by have := bounds_i64 w1; omega) (by have := (bounds_u16 w2).2; omega)).mono fun e W' ⟨he, bel⟩ => ?_
  subst he
  exact ⟨_, rfl, _, _, _, [], _, [], hW', trodAll_mk1 (shut_bool Try.underlying4 _), (trodAll_cons_mk (Below.trod laidOut (by kernel_rfl) (of_decide_eq_true (by kernel_rfl)) h0 bel lt0) (trodAll_cons_mk (shut_int Try.underlying3 w1) (trodAll_cons_mk (shut_int Try.underlying32 w2) trodAll_mk0))), rfl, bel.frame _, fun h => by cases h⟩

theorem laid_met (os : Os) : laidMet Try.prog Rows.lzRoomRow.laid ((World.holding Try.prog os ⟨#[], #[], []⟩).forCall (fun _ _ => 0) ⟨#[], #[.slice none 0 0, .int .i64 0, .int .u16 0], []⟩).memory :=
  laidMet_of_run' 8 (by kernel_rfl) (by kernel_rfl)
theorem reads (os : Os) {H : Type} (enc : TypeId × Value → H) : ∃ places, DataW.whole enc Try.prog ((World.holding Try.prog os ⟨#[], #[], []⟩).forCall (fun _ _ => 0) ⟨#[], #[.slice none 0 0, .int .i64 0, .int .u16 0], []⟩).memory Try.f7.params.toList Rows.lzRoomSpec.vars false #[Value.slice none 0 0, .int .i64 0, .int .u16 0].toList 8 = some ([.nil, .lit (.int .i64 0), .lit (.int .u16 0)], [], places) :=
  ⟨[], by kernel_rfl⟩

set_option maxRecDepth 100000 in
theorem lifted (os : Os) (started : os.Started) (H : Type) (enc : TypeId × Value → H) (F : Stop.Interp) :
    ReturnsInHanded {} Try.checked os 7 .any ((OpenSpec.ofChange Rows.lzRoomSpec).preRow enc Try.prog Try.f7 Rows.lzRoomRow.domain false Rows.lzRoomRow.laid) (((OpenSpec.ofChange Rows.lzRoomSpec).at F).post enc Try.prog Try.f7 false true false false) := by
  obtain ⟨places, hx⟩ := reads os enc
  refine returnsInHanded_of_row (C := Try.checked) (s := OpenSpec.ofChange Rows.lzRoomSpec) own started (by kernel_rfl) Try.func7
    (witness_row_at (enc := enc) (C := Try.checked) false (World.holding Try.prog os ⟨#[], #[], []⟩) #[.slice none 0 0, .int .i64 0, .int .u16 0] rfl (by kernel_rfl) (by kernel_rfl) (by kernel_rfl)
      (OpenSpec.preRow_of_cond 8 hx (by kernel_rfl) (fun k hk => by cases hk) (by kernel_rfl) (laid_met os))) ?_
  intro W base args ds gs before hval hW _ _ hsz hL _ _
  exact contract H enc W base args ds gs before hval hW hL hsz

theorem said : Rows.LzRoomSaid :=
  OpenClaim.holds_of_cond 7 Try.f7 rfl rfl rfl rfl rfl rfl rfl ⟨rfl, rfl, rfl, rfl, rfl⟩ rfl rfl rfl rfl rfl (by kernel_rfl) Try.func7 (by kernel_rfl)
    (of_decide_eq_true (by kernel_rfl)) (by unfold Func.isWrapper; first | (rw [if_pos (by decide +kernel)]; kernel_rfl) | (rw [if_neg (by decide +kernel)]; exact ⟨rfl, rfl⟩))
    (fun os started H enc _ F => by rw [OpenClaim.pre_eq_preRow]; exact lifted os started H enc F)

end Go.Proofs.Ytonknkmbkfndcaa.lzRoom
