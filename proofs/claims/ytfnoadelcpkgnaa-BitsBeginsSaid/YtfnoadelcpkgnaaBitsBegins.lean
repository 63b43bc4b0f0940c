/- PROVED: the law BitsBegins (what a list begins with, packed, is what the list, packed, begins with, where it ends with a byte; of up to 4096 numbers) returns true and leaves its arguments as they were, for every argument.
   Conditions: none but the form's own reach (a slice has fewer than 2^47 bytes). -/
import Derived.Test.YtfnoadelcpkgnaaLawIn
import Derived.Test.YtfnoadelcpkgnaaBitsLaw
namespace Go.Proofs.Ytfnoadelcpkgnaa.bitsBegins
open Go.ChangeShapes Go.WideShapes Go.ChangeAt Go.RowKit

theorem size64 (W : World) : (sizeOf 41).run Try.prog W = .ok 1 W := by
  obtain ⟨i0, hi0, hz0, hz1, hz2⟩ := info_parts u64_info
  simp [sizeOf, typeInfo, hi0, hz1]
theorem elemNums : Try.prog.elem 22 = 41 := by kernel_rfl
theorem run_cut_nums (A : Option Addr) (n cap hi : Nat) (h2 : hi ≤ cap) (W : World) :
    (Instr.slice 22 (.slice A n cap) none (some (.int .i64 (hi : Int))) none).run Try.prog W = .ok (.slice A hi cap) W := by
  rw [run_slice_h (P := Try.prog) (w := W) (kh := .i64) (h := (hi : Int)) (h0 := by omega) (h2 := by omega) (ht := by rw [elemNums]; exact Try.underlying22)]
  rw [elemNums, size64]
  by_cases hc : cap = 0 <;> cases A <;> simp [Result.andThen, sliced, Addr.add]

set_option maxHeartbeats 1000000 in
theorem walk (A : Option Addr) (n cap : Nat) (l : List UInt64) (K u : Nat) (w : World)
    (hl : l.length = n) (hcap : n ≤ cap) (hn : 8 * n ≤ 140737488351232) (hb : Nums w w.heap.size A l) (hK : K ≤ 65535) (hu : u ≤ 255) :
    Calls Try.prog 8 #[.slice A n cap, .int .u16 (K : Int), .int .u8 (u : Int)] w fun e w' => e = .returned (.bool true) ∧ Below w.heap.size w w' := by
  by_cases hbig : 4096 < n
  · clear hb hl
    go_enter Try.func8, Try.ntmps8
    go_wp2_with fail
    refine (alive_any w).mono ?_
    rintro e w1 ⟨rfl, hbel1⟩
    go_wp2
    go_ret
    exact ⟨rfl, hbel1⟩
  · have hrem : (u : Int).tmod 65 = ((u % 65 : Nat) : Int) := by rw [Int.tmod_eq_emod_of_nonneg (by omega)]; omega
    have hrem2 : (K : Int).tmod ((n : Int) + 1) = ((K % (n + 1) : Nat) : Int) := by rw [Int.tmod_eq_emod_of_nonneg (by omega), Int.natCast_emod]; rfl
    have hv : u % 65 ≤ 64 := by omega
    have hi : K % (n + 1) ≤ n := by have := Nat.mod_lt K (show 0 < n + 1 by omega); omega
    have hw1 : IntKind.i64.wrap ((n : Int) + 1) = (n : Int) + 1 := IntWalk.i64_in _ (by omega)
    have hne : ¬ ((n : Int) + 1 = 0) := by omega
    generalize u % 65 = v at *
    generalize K % (n + 1) = i at *
    have C1 := fun w' B hb hB => pack_any A n cap B (v : Int) l w' hl (by omega) hb hB
    have C2 := fun w' B hb hB => pack_any A i cap B (v : Int) (l.take i) w' (by rw [List.length_take]; omega) (by omega) hb hB
    unfold PackPost at C1 C2
    have hcut := run_cut_nums A n cap i (by omega)
    have hvi : v * i ≤ 262144 := Nat.mul_le_mul hv (show i ≤ 4096 by omega)
    have hP : (v : Int) * (i : Int) = ((v * i : Nat) : Int) := by rw [Int.natCast_mul]
    by_cases hf : Bits.Fit v l
    · have hft := hf.take i
      rw [Bits.pack_ok hv hf] at C1
      rw [Bits.pack_ok hv hft] at C2
      have hp1 := Bits.packed_length v l
      have hp2 := Bits.packed_length v (l.take i)
      have hli : (l.take i).length = i := by rw [List.length_take]; omega
      rw [hl] at hp1
      rw [hli] at hp2
      have hS1 := Bits.size_le (n := n) (v := v) (by omega) hv
      have hle : Bits.size i v ≤ Bits.size n v := by
        have := Nat.mul_le_mul_right v hi
        unfold Bits.size
        omega
      have htake : v * i % 8 = 0 → Bits.packed v (l.take i) = (Bits.packed v l).take (Bits.size i v) := fun h => Bits.packed_take hf (by omega) (by rw [Nat.mul_comm]; exact h)
      simp only [hp1, hp2] at C1 C2
      have C5 := Lib.hid fun A1 A2 c1 c2 B1 B2 w' h1 h2 => same_any A1 A2 (Bits.size i v) (Bits.size i v) c1 c2 B1 B2 (Bits.packed v (l.take i)) (Bits.packed v (l.take i)) w' hp2 hp2 h1 h2
      have Htake := Lib.hid htake
      replace C1 := Lib.hid C1
      replace C2 := Lib.hid C2
      generalize Bits.size n v = S1 at *
      generalize Bits.size i v = S2 at *
      clear hl hft hf hp1 hp2 htake hli
      generalize Bits.packed v l = P1 at *
      generalize Bits.packed v (l.take i) = P2 at *
      generalize v * i = q at *
      by_cases h8 : q % 8 = 0
      · have hq8 : (q : Int) % 8 = 0 := by omega
        have hP2 := Htake.out h8
        clear Htake h8
        go_enter Try.func8, Try.ntmps8
        go_wp2_with fail
        refine (alive_any w).mono ?_
        rintro e w1 ⟨rfl, hbel1⟩
        have hx1 := hb.below hbel1
        go_wp2_with fail
        go_quiet (fail)
        have hx1q : Nums (w1.drewN nq) w.heap.size A l := hx1
        have hbel1q : Below w.heap.size w (w1.drewN nq) := below_drewN hbel1 nq
        clear hx1 hbel1
        go_wp2_with fail
        refine (C1.out (w1.drewN nq) _ hx1q hbel1q.size).mono ?_
        rintro e w2 ⟨A2, c2, rfl, ho2, hb2⟩
        have hx2 := (hx1q.wide hbel1q.size).below hb2
        have hbel2 := hbel1q.trans (hb2.mono hbel1q.size)
        clear hx1q C1
        go_wp2_with fail
        refine (C2.out w2 _ (hx2.take i) hb2.size).mono ?_
        rintro e w3 ⟨A3, c3, rfl, ho3, hb3⟩
        have hbel3 := hbel2.trans (hb3.mono hbel2.size)
        clear hx2 C2
        have hcut2 := run_cut_h A2 S1 c2 S2 (by have := ho2.cap; omega)
        have hB1 := (ho2.below hb3).bytes.take S2
        rw [← hP2] at hB1
        have S := C5.out A2 A3 c2 c3 _ _ w3 hB1 ho3.bytes
        rw [beq_self_eq_true] at S
        replace S := Lib.hid S
        have hd : decide ((S2 : Int) ≤ (S1 : Int)) = true := decide_eq_true (by omega)
        clear C5 hB1 ho3 hP2 ho2
        go_wp2_with fail
        refine S.out.mono ?_
        rintro e w4 ⟨rfl, rfl⟩
        clear S
        go_wp2
        go_ret
        exact ⟨rfl, hbel3⟩
      · have hq8 : (q : Int) % 8 = ((q % 8 : Nat) : Int) := by omega
        have hq9 : 0 < q % 8 := by omega
        clear Htake h8 C5
        generalize q % 8 = r at *
        go_enter Try.func8, Try.ntmps8
        go_wp2_with fail
        refine (alive_any w).mono ?_
        rintro e w1 ⟨rfl, hbel1⟩
        have hx1 := hb.below hbel1
        go_wp2_with fail
        go_quiet (fail)
        have hx1q : Nums (w1.drewN nq) w.heap.size A l := hx1
        have hbel1q : Below w.heap.size w (w1.drewN nq) := below_drewN hbel1 nq
        clear hx1 hbel1
        go_wp2_with fail
        refine (C1.out (w1.drewN nq) _ hx1q hbel1q.size).mono ?_
        rintro e w2 ⟨A2, c2, rfl, ho2, hb2⟩
        have hx2 := (hx1q.wide hbel1q.size).below hb2
        have hbel2 := hbel1q.trans (hb2.mono hbel1q.size)
        clear hx1q C1
        go_wp2_with fail
        refine (C2.out w2 _ (hx2.take i) hb2.size).mono ?_
        rintro e w3 ⟨A3, c3, rfl, ho3, hb3⟩
        have hbel3 := hbel2.trans (hb3.mono hbel2.size)
        clear hx2 C2
        clear ho2 ho3
        go_wp2
        go_ret
        exact ⟨rfl, hbel3⟩
    · rw [Bits.pack_range hv hf] at C1
      generalize Bits.pack (l.take i) (v : Int) = R at C2
      obtain ⟨P2, E2⟩ := R
      simp only [List.length_nil] at C1 C2
      generalize P2.length = p2 at C2
      generalize (E2 : Int) = ε at C2
      generalize v * i = q at *
      replace C1 := Lib.hid C1
      replace C2 := Lib.hid C2
      clear hl hf
      go_enter Try.func8, Try.ntmps8
      go_wp2_with fail
      refine (alive_any w).mono ?_
      rintro e w1 ⟨rfl, hbel1⟩
      have hx1 := hb.below hbel1
      go_wp2_with fail
      go_quiet (fail)
      have hx1q : Nums (w1.drewN nq) w.heap.size A l := hx1
      have hbel1q : Below w.heap.size w (w1.drewN nq) := below_drewN hbel1 nq
      clear hx1 hbel1
      go_wp2_with fail
      refine (C1.out (w1.drewN nq) _ hx1q hbel1q.size).mono ?_
      rintro e w2 ⟨A2, c2, rfl, ho2, hb2⟩
      have hx2 := (hx1q.wide hbel1q.size).below hb2
      have hbel2 := hbel1q.trans (hb2.mono hbel1q.size)
      clear hx1q C1
      go_wp2_with fail
      refine (C2.out w2 _ (hx2.take i) hb2.size).mono ?_
      rintro e w3 ⟨A3, c3, rfl, ho3, hb3⟩
      have hbel3 := hbel2.trans (hb3.mono hbel2.size)
      clear hx2 C2
      clear ho2 ho3
      go_wp2
      go_ret
      exact ⟨rfl, hbel3⟩

/-- from the walk to the post of the row -/
theorem contract (H : Type) (enc : TypeId × Value → H) (W : World) (base : Nat) (args : Array Value) (ds gs : List (DataW H)) (before : List MemPlace)
    (hval : ∀ (j : Nat) t v, Try.f8.params[j]? = some t → args[j]? = some v → Value.okWide Try.prog W .any base t v)
    (hW : DataW.Whole enc Try.prog Try.f8.params.toList Rows.bitsBeginsSpec.vars false W args.toList ds gs before) (_ : laidMetH Try.prog Rows.bitsBeginsRow.laid W)
    (hsz0 : (DataW.weightsEach Try.prog (Try.f8.params.toList ++ Rows.bitsBeginsSpec.plain.varTypes Try.prog) (ds ++ gs)).all (· ≤ reachBytes) = true) :
    Calls Try.prog 8 args W fun e W' => ∃ v, e = .returned v ∧ Rows.bitsBeginsSpec.post enc Try.prog Try.f8 false true false false W args v W' := by
  have hW' := hW
  obtain ⟨p, q, hA0, hV, rfl, hfz, hnd⟩ := hW
  have hA : DataW.TrodAll enc Try.prog W 0 (fun _ => true) true Try.f8.params.toList args.toList ds p := hA0
  rw [Try.params8] at hA hval hsz0
  obtain ⟨v0, vs0, d0, ds0, p0, q0, hargs, rfl, rfl, h0, r0⟩ := trodAll_cons hA
  obtain ⟨v1, vs1, d1, ds1, p1, q1, rfl, rfl, rfl, h1, r1⟩ := trodAll_cons r0
  obtain ⟨v2, vs2, d2, ds2, p2, q2, rfl, rfl, rfl, h2, r2⟩ := trodAll_cons r1
  obtain ⟨rfl, rfl, rfl⟩ := trodAll_nil r2
  obtain rfl : args = #[v0, v1, v2] := by cases args; simp_all
  obtain ⟨rfl, rfl⟩ := trodVars_none hV
  obtain ⟨a0, len0, cap0, rfl⟩ := okWide_slice Try.underlying22 (hval 0 22 v0 rfl rfl)
  have lt0 : ∀ x ∈ p0, x.block < W.heap.size := by obtain ⟨m, hm⟩ := h0; exact DataW.trod_lt m _ _ _ hm
  obtain ⟨l0, e0, ec0, b0, k0⟩ := open_nums h0
  have reach0 := reach_nums hsz0 (j := 0) rfl rfl k0
  obtain ⟨x1, rfl, rfl, rfl, w1⟩ := open_int Try.underlying39 (hval 1 39 v1 rfl rfl) h1
  obtain ⟨c1, rfl⟩ := Int.eq_ofNat_of_zero_le (bounds_u16 w1).1
  obtain ⟨x2, rfl, rfl, rfl, w2⟩ := open_int Try.underlying5 (hval 2 5 v2 rfl rfl) h2
  obtain ⟨c2, rfl⟩ := Int.eq_ofNat_of_zero_le (bounds_u8 w2).1
  clear hA0
  refine (walk a0 len0 cap0 l0 c1 c2 W e0 ec0 reach0 b0 (by have := (bounds_u16 w1).2; omega) (by have := (bounds_u8 w2).2; omega)).mono fun e W' ⟨he, bel⟩ => ?_
  subst he
  exact ⟨_, rfl, _, _, _, [], _, [], hW', trodAll_mk1 (shut_bool Try.underlying4 _), (trodAll_cons_mk (Below.trod laidOut (by kernel_rfl) (of_decide_eq_true (by kernel_rfl)) h0 bel lt0) (trodAll_cons_mk (shut_int Try.underlying39 w1) (trodAll_cons_mk (shut_int Try.underlying5 w2) trodAll_mk0))), rfl, bel.frame _, fun h => by cases h⟩

theorem laid_met (os : Os) : laidMet Try.prog Rows.bitsBeginsRow.laid ((World.holding Try.prog os ⟨#[], #[], []⟩).forCall (fun _ _ => 0) ⟨#[], #[.slice none 0 0, .int .u16 0, .int .u8 0], []⟩).memory :=
  laidMet_of_run' 8 (by kernel_rfl) (by kernel_rfl)
theorem reads (os : Os) {H : Type} (enc : TypeId × Value → H) : ∃ places, DataW.whole enc Try.prog ((World.holding Try.prog os ⟨#[], #[], []⟩).forCall (fun _ _ => 0) ⟨#[], #[.slice none 0 0, .int .u16 0, .int .u8 0], []⟩).memory Try.f8.params.toList Rows.bitsBeginsSpec.vars false #[Value.slice none 0 0, .int .u16 0, .int .u8 0].toList 8 = some ([.nil, .lit (.int .u16 0), .lit (.int .u8 0)], [], places) :=
  ⟨[], by kernel_rfl⟩

set_option maxRecDepth 100000 in
theorem lifted (os : Os) (started : os.Started) (H : Type) (enc : TypeId × Value → H) (F : Stop.Interp) :
    ReturnsInHanded {} Try.checked os 8 .any ((OpenSpec.ofChange Rows.bitsBeginsSpec).preRow enc Try.prog Try.f8 Rows.bitsBeginsRow.domain false Rows.bitsBeginsRow.laid) (((OpenSpec.ofChange Rows.bitsBeginsSpec).at F).post enc Try.prog Try.f8 false true false false) := by
  obtain ⟨places, hx⟩ := reads os enc
  refine returnsInHanded_of_row (C := Try.checked) (s := OpenSpec.ofChange Rows.bitsBeginsSpec) own started (by kernel_rfl) Try.func8
    (witness_row_at (enc := enc) (C := Try.checked) false (World.holding Try.prog os ⟨#[], #[], []⟩) #[.slice none 0 0, .int .u16 0, .int .u8 0] rfl (by kernel_rfl) (by kernel_rfl) (by kernel_rfl)
      (OpenSpec.preRow_of_cond 8 hx (by kernel_rfl) (fun k hk => by cases hk) (by kernel_rfl) (laid_met os))) ?_
  intro W base args ds gs before hval hW _ _ hsz hL _ _
  exact contract H enc W base args ds gs before hval hW hL hsz

theorem said : Rows.BitsBeginsSaid :=
  OpenClaim.holds_of_cond 8 Try.f8 rfl rfl rfl rfl rfl rfl rfl ⟨rfl, rfl, rfl, rfl, rfl⟩ rfl rfl rfl rfl rfl (by kernel_rfl) Try.func8 (by kernel_rfl)
    (of_decide_eq_true (by kernel_rfl)) (by unfold Func.isWrapper; first | (rw [if_pos (by decide +kernel)]; kernel_rfl) | (rw [if_neg (by decide +kernel)]; exact ⟨rfl, rfl⟩))
    (fun os started H enc _ F => by rw [OpenClaim.pre_eq_preRow]; exact lifted os started H enc F)

end Go.Proofs.Ytfnoadelcpkgnaa.bitsBegins
