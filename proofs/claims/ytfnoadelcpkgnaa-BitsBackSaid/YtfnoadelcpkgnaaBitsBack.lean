/- PROVED: the law BitsBack (what is packed is unpacked as it was; of up to 4096 numbers) returns true and leaves its arguments as they were, for every argument.
   Conditions: none but the form's own reach (a slice has fewer than 2^47 bytes). -/
import Derived.Test.YtfnoadelcpkgnaaLawIn
import Derived.Test.YtfnoadelcpkgnaaBitsLaw
namespace Go.Proofs.Ytfnoadelcpkgnaa.bitsBack
open Go.ChangeShapes Go.WideShapes Go.ChangeAt Go.RowKit

set_option maxHeartbeats 1000000 in
theorem walk (A : Option Addr) (n cap : Nat) (l : List UInt64) (u : Nat) (w : World)
    (hl : l.length = n) (_hcap : n ≤ cap) (hn : 8 * n ≤ 140737488351232) (hb : Nums w w.heap.size A l) (hu : u ≤ 255) :
    Calls Try.prog 6 #[.slice A n cap, .int .u8 (u : Int)] w fun e w' => e = .returned (.bool true) ∧ Below w.heap.size w w' := by
  by_cases hbig : 4096 < n
  · clear hb hl
    go_enter Try.func6, Try.ntmps6
    go_wp2_with fail
    refine (alive_any w).mono ?_
    rintro e w1 ⟨rfl, hbel1⟩
    go_wp2
    go_ret
    exact ⟨rfl, hbel1⟩
  · have hrem : (u : Int) % 65 = ((u % 65 : Nat) : Int) := by omega
    have hv : u % 65 ≤ 64 := by omega
    generalize u % 65 = v at *
    have C1 := fun w' B hb hB => pack_any A n cap B (v : Int) l w' hl (by omega) hb hB
    unfold PackPost at C1
    by_cases hf : Bits.width l ≤ v
    · have hfit := (Bits.width_le_iff l hv).1 hf
      rw [Bits.pack_ok hv hfit] at C1
      have hpl := Bits.packed_length v l
      have hup := Bits.unpack_pack hv hfit (by omega)
      rw [hl] at hpl hup
      have C2 := fun A' c' w' B hb hB => unpack_any A' (Bits.size n v) c' B (n : Int) (v : Int) (Bits.packed v l) w' hpl hb hB (by have := Bits.size_le (n := n) (v := v) (by omega) hv; omega)
      unfold UnpackPost at C2
      rw [hup] at C2
      simp only [hpl, hl] at C1 C2
      have C3 := Lib.hid fun A1 A2 c1 c2 B1 B2 w' h1 h2 => same64_any A1 A2 n c1 c2 B1 B2 l w' hl (by omega) h1 h2
      have hs : (Bits.size n v : Int) = ((n : Int) * (v : Int) + 7) / 8 := by unfold Bits.size; rw [Int.natCast_ediv, Int.natCast_add, Int.natCast_mul]; rfl
      have hp0 : 0 ≤ (n : Int) * (v : Int) := Int.mul_nonneg (by omega) (by omega)
      have hp1 : (n : Int) * (v : Int) ≤ 4194304 := by have := (Bits.size_le (n := n) (v := v) (by omega) hv).2; rw [← Int.natCast_mul]; omega
      have hse : ((Bits.size n v : Int) == ((n : Int) * (v : Int) + 7) / 8) = true := by rw [beq_iff_eq]; exact hs
      generalize Bits.size n v = S at *
      replace C1 := Lib.hid C1
      replace C2 := Lib.hid C2
      clear hl hpl hup hfit hf hs
      go_enter Try.func6, Try.ntmps6
      go_wp2_with fail
      refine (alive_any w).mono ?_
      rintro e w1 ⟨rfl, hbel1⟩
      have hx1 := hb.below hbel1
      go_wp2_with fail
      refine (C1.out w1 _ hx1 hbel1.size).mono ?_
      rintro e w2 ⟨A2, c2, rfl, ho2, hb2⟩
      have hx2 := (hx1.wide hbel1.size).below hb2
      have hbel2 := hbel1.trans (hb2.mono hbel1.size)
      clear hx1 C1
      go_wp2_with fail
      refine (C2.out A2 c2 w2 _ ho2.bytes (Nat.le_refl _)).mono ?_
      rintro e w3 ⟨A3, c3, rfl, ho3, hb3⟩
      have hx3 := (hx2.wide hb2.size).below hb3
      have hbel3 := hbel2.trans (hb3.mono hbel2.size)
      clear hx2 C2 ho2
      go_wp2_with fail
      refine (C3.out A A3 cap c3 _ _ w3 hx3 ho3.row).mono ?_
      rintro e w4 ⟨rfl, hd⟩
      clear C3
      go_wp2
      go_ret
      exact ⟨rfl, hbel3.trans (hd.below _)⟩
    · rw [Bits.pack_range hv (fun h => hf ((Bits.width_le_iff l hv).2 h))] at C1
      have C2 := fun w' B hb => width_any A n cap B l w' hl (by omega) hb
      have h64 := Bits.width_le64 l
      generalize Bits.width l = V at *
      simp only [List.length_nil] at C1
      replace C1 := Lib.hid C1
      replace C2 := Lib.hid C2
      clear hl
      go_enter Try.func6, Try.ntmps6
      go_wp2_with fail
      refine (alive_any w).mono ?_
      rintro e w1 ⟨rfl, hbel1⟩
      have hx1 := hb.below hbel1
      go_wp2_with fail
      refine (C1.out w1 _ hx1 hbel1.size).mono ?_
      rintro e w2 ⟨A2, c2, rfl, ho2, hb2⟩
      have hx2 := (hx1.wide hbel1.size).below hb2
      have hbel2 := hbel1.trans (hb2.mono hbel1.size)
      clear hx1 C1 ho2
      go_wp2_with fail
      refine (C2.out w2 _ hx2).mono ?_
      rintro e w3 ⟨rfl, rfl⟩
      clear C2
      have hgt : decide ((v : Int) < (V : Int)) = true := decide_eq_true (by omega)
      go_wp2
      go_ret
      exact ⟨rfl, hbel2⟩

/-- from the walk to the post of the row -/
theorem contract (H : Type) (enc : TypeId × Value → H) (W : World) (base : Nat) (args : Array Value) (ds gs : List (DataW H)) (before : List MemPlace)
    (hval : ∀ (j : Nat) t v, Try.f6.params[j]? = some t → args[j]? = some v → Value.okWide Try.prog W .any base t v)
    (hW : DataW.Whole enc Try.prog Try.f6.params.toList Rows.bitsBackSpec.vars false W args.toList ds gs before) (_ : laidMetH Try.prog Rows.bitsBackRow.laid W)
    (hsz0 : (DataW.weightsEach Try.prog (Try.f6.params.toList ++ Rows.bitsBackSpec.plain.varTypes Try.prog) (ds ++ gs)).all (· ≤ reachBytes) = true) :
    Calls Try.prog 6 args W fun e W' => ∃ v, e = .returned v ∧ Rows.bitsBackSpec.post enc Try.prog Try.f6 false true false false W args v W' := by
  have hW' := hW
  obtain ⟨p, q, hA0, hV, rfl, hfz, hnd⟩ := hW
  have hA : DataW.TrodAll enc Try.prog W 0 (fun _ => true) true Try.f6.params.toList args.toList ds p := hA0
  rw [Try.params6] at hA hval hsz0
  obtain ⟨v0, vs0, d0, ds0, p0, q0, hargs, rfl, rfl, h0, r0⟩ := trodAll_cons hA
  obtain ⟨v1, vs1, d1, ds1, p1, q1, rfl, rfl, rfl, h1, r1⟩ := trodAll_cons r0
  obtain ⟨rfl, rfl, rfl⟩ := trodAll_nil r1
  obtain rfl : args = #[v0, v1] := by cases args; simp_all
  obtain ⟨rfl, rfl⟩ := trodVars_none hV
  obtain ⟨a0, len0, cap0, rfl⟩ := okWide_slice Try.underlying22 (hval 0 22 v0 rfl rfl)
  have lt0 : ∀ x ∈ p0, x.block < W.heap.size := by obtain ⟨m, hm⟩ := h0; exact DataW.trod_lt m _ _ _ hm
  obtain ⟨l0, e0, ec0, b0, k0⟩ := open_nums h0
  have reach0 := reach_nums hsz0 (j := 0) rfl rfl k0
  obtain ⟨x1, rfl, rfl, rfl, w1⟩ := open_int Try.underlying5 (hval 1 5 v1 rfl rfl) h1
  obtain ⟨c1, rfl⟩ := Int.eq_ofNat_of_zero_le (bounds_u8 w1).1
  clear hA0
  refine (walk a0 len0 cap0 l0 c1 W e0 ec0 reach0 b0 (by have := (bounds_u8 w1).2; omega)).mono fun e W' ⟨he, bel⟩ => ?_
  subst he
  exact ⟨_, rfl, _, _, _, [], _, [], hW', trodAll_mk1 (shut_bool Try.underlying4 _), (trodAll_cons_mk (Below.trod laidOut (by kernel_rfl) (of_decide_eq_true (by kernel_rfl)) h0 bel lt0) (trodAll_cons_mk (shut_int Try.underlying5 w1) trodAll_mk0)), rfl, bel.frame _, fun h => by cases h⟩

theorem laid_met (os : Os) : laidMet Try.prog Rows.bitsBackRow.laid ((World.holding Try.prog os ⟨#[], #[], []⟩).forCall (fun _ _ => 0) ⟨#[], #[.slice none 0 0, .int .u8 0], []⟩).memory :=
  laidMet_of_run' 8 (by kernel_rfl) (by kernel_rfl)
theorem reads (os : Os) {H : Type} (enc : TypeId × Value → H) : ∃ places, DataW.whole enc Try.prog ((World.holding Try.prog os ⟨#[], #[], []⟩).forCall (fun _ _ => 0) ⟨#[], #[.slice none 0 0, .int .u8 0], []⟩).memory Try.f6.params.toList Rows.bitsBackSpec.vars false #[Value.slice none 0 0, .int .u8 0].toList 8 = some ([.nil, .lit (.int .u8 0)], [], places) :=
  ⟨[], by kernel_rfl⟩

set_option maxRecDepth 100000 in
theorem lifted (os : Os) (started : os.Started) (H : Type) (enc : TypeId × Value → H) (F : Stop.Interp) :
    ReturnsInHanded {} Try.checked os 6 .any ((OpenSpec.ofChange Rows.bitsBackSpec).preRow enc Try.prog Try.f6 Rows.bitsBackRow.domain false Rows.bitsBackRow.laid) (((OpenSpec.ofChange Rows.bitsBackSpec).at F).post enc Try.prog Try.f6 false true false false) := by
  obtain ⟨places, hx⟩ := reads os enc
  refine returnsInHanded_of_row (C := Try.checked) (s := OpenSpec.ofChange Rows.bitsBackSpec) own started (by kernel_rfl) Try.func6
    (witness_row_at (enc := enc) (C := Try.checked) false (World.holding Try.prog os ⟨#[], #[], []⟩) #[.slice none 0 0, .int .u8 0] rfl (by kernel_rfl) (by kernel_rfl) (by kernel_rfl)
      (OpenSpec.preRow_of_cond 8 hx (by kernel_rfl) (fun k hk => by cases hk) (by kernel_rfl) (laid_met os))) ?_
  intro W base args ds gs before hval hW _ _ hsz hL _ _
  exact contract H enc W base args ds gs before hval hW hL hsz

theorem said : Rows.BitsBackSaid :=
  OpenClaim.holds_of_cond 6 Try.f6 rfl rfl rfl rfl rfl rfl rfl ⟨rfl, rfl, rfl, rfl, rfl⟩ rfl rfl rfl rfl rfl (by kernel_rfl) Try.func6 (by kernel_rfl)
    (of_decide_eq_true (by kernel_rfl)) (by unfold Func.isWrapper; first | (rw [if_pos (by decide +kernel)]; kernel_rfl) | (rw [if_neg (by decide +kernel)]; exact ⟨rfl, rfl⟩))
    (fun os started H enc _ F => by rw [OpenClaim.pre_eq_preRow]; exact lifted os started H enc F)

end Go.Proofs.Ytfnoadelcpkgnaa.bitsBack
