/- PROVED: the law PforFew (a block is taken as it was, and by no width it would have fewer bytes) returns true and leaves its arguments as they were, for every argument.
   Conditions: none but the form's own reach (a slice has fewer than 2^47 bytes). -/
import Derived.Test.YtcknijkjacgnkaaLawIn
import Derived.Test.YtcknijkjacgnkaaPforLaw
import Derived.Test.YtcknijkjacgnkaaTakeBlock
namespace Go.Proofs.Ytcknijkjacgnkaa.pforFew
open Go.ChangeShapes Go.WideShapes Go.ChangeAt Go.RowKit

set_option maxHeartbeats 1000000 in
theorem walk (A : Option Addr) (n cap : Nat) (l : List UInt64) (x : Nat) (w : World)
    (hl : l.length = n) (_hcap : n ≤ cap) (hn : 8 * n ≤ 140737488351232) (hb : Nums w w.heap.size A l) (hx : x < 256) :
    Calls Try.prog 8 #[.slice A n cap, .int .u8 (x : Int)] w fun e w' => e = .returned (.bool true) ∧ Below w.heap.size w w' := by
  by_cases hg : 1 ≤ l.length ∧ l.length ≤ 32
  · have C1 := fun w' B hb hB => putBlock_any none A 0 0 n cap B [] l w' rfl hl (by omega) (by omega) (Bytes.nil w' B none) hb hB
    unfold PackPost at C1
    have e : Pfor.putBlock [] l = (Pfor.block l, 0) := by unfold Pfor.putBlock; rw [if_pos hg, List.nil_append]
    rw [e] at C1
    simp only [Int.natCast_zero] at C1
    have C2 := fun A1 c1 w' hb hc => takeBlock_any A1 (Pfor.block l).length c1 w'.heap.size (Pfor.block l) w' rfl hc (by have := Pfor.block_length_le hg.2; omega) hb (Nat.le_refl _)
    have ht := Pfor.takeBlock_block (l := l) hg []
    rw [List.append_nil] at ht
    unfold TakesPost at C2
    rw [ht] at C2
    simp only [hl, Int.natCast_zero] at C2
    have C3 := Lib.hid fun A1 A2 c1 c2 B1 B2 w' h1 h2 => same64_wide A1 A2 n c1 c2 B1 B2 l w' hl hn h1 h2
    have C4 := fun w' B hb hB => refBy_any A n cap B (x % 65) l w' hl (by omega) (by omega) (by omega) hb hB
    have hle := Pfor.block_least l (w := x % 65) (by omega)
    have hq : ((x % 65 : Nat) : Int) = (x : Int) % 65 := by omega
    rw [hq] at C4
    have hle' : ((Pfor.block l).length : Int) ≤ ((Pfor.byW (x % 65) l).length : Int) := by omega
    have hm1 : 1 ≤ n := by omega
    have hm2 : n ≤ 32 := by omega
    replace C1 := Lib.hid C1
    replace C2 := Lib.hid C2
    replace C4 := Lib.hid C4
    clear ht e hl hg hq hle
    generalize Pfor.block l = K at *
    generalize Pfor.byW (x % 65) l = Y at *
    generalize hkl : K.length = k at *
    clear hkl
    generalize Y.length = y at *
    go_enter Try.func8, Try.ntmps8
    go_wp2_with fail
    refine (alive_any w).mono ?_
    rintro e w1 ⟨rfl, hbel1⟩
    have hx1 := hb.below hbel1
    go_wp2_with fail
    refine (C1.out w1 _ hx1 hbel1.size).mono ?_
    rintro e w2 ⟨A2, c2, rfl, ho2, hb2⟩
    have hx2 := (hx1.wide hbel1.size).below hb2
    have hbel2 := hbel1.trans (hb2.mono hbel1.size)
    clear hx1 C1
    go_wp2_with fail
    refine (C2.out A2 c2 w2 ho2.bytes (by exact ho2.cap)).mono ?_
    rintro e w3 ⟨A3, c3, rfl, ho3, hb3⟩
    have hx3 := (hx2.wide hb2.size).below hb3
    have hbel3 := hbel2.trans (hb3.mono hbel2.size)
    clear hx2 C2 ho2
    go_wp2_with fail
    refine (C3.out A A3 cap c3 _ _ w3 hx3 ho3.row).mono ?_
    rintro e w4 ⟨rfl, hd⟩
    clear C3 ho3
    have hd4 := hd.below w3.heap.size
    have hx4 := (hx3.wide hb3.size).below hd4
    have hbel4 := hbel3.trans (hd4.mono hbel3.size)
    clear hx3 hd
    go_wp2_with fail
    refine (C4.out w4 _ hx4 hd4.size).mono ?_
    rintro e w5 ⟨g5, c5, rfl, ho5, hb5⟩
    clear C4
    go_wp2
    go_ret
    exact ⟨rfl, hbel4.trans (hb5.mono hbel4.size)⟩
  · have hm1 : ¬ (1 ≤ n ∧ n ≤ 32) := by omega
    clear hl hg hb
    by_cases hless : (n : Int) < 1
    · clear hm1
      go_enter Try.func8, Try.ntmps8
      go_wp2_with fail
      refine (alive_any w).mono ?_
      rintro e w1 ⟨rfl, hbel1⟩
      go_wp2
      go_ret
      exact ⟨rfl, hbel1⟩
    · have hmore : 32 < (n : Int) := by omega
      clear hm1
      go_enter Try.func8, Try.ntmps8
      go_wp2_with fail
      refine (alive_any w).mono ?_
      rintro e w1 ⟨rfl, hbel1⟩
      go_wp2
      go_ret
      exact ⟨rfl, hbel1⟩

/-- from the walk to the post of the row -/
theorem contract (H : Type) (enc : TypeId × Value → H) (W : World) (base : Nat) (args : Array Value) (ds gs : List (DataW H)) (before : List MemPlace)
    (hval : ∀ (j : Nat) t v, Try.f8.params[j]? = some t → args[j]? = some v → Value.okWide Try.prog W .any base t v)
    (hW : DataW.Whole enc Try.prog Try.f8.params.toList Rows.pforFewSpec.vars false W args.toList ds gs before) (_ : laidMetH Try.prog Rows.pforFewRow.laid W)
    (hsz0 : (DataW.weightsEach Try.prog (Try.f8.params.toList ++ Rows.pforFewSpec.plain.varTypes Try.prog) (ds ++ gs)).all (· ≤ reachBytes) = true) :
    Calls Try.prog 8 args W fun e W' => ∃ v, e = .returned v ∧ Rows.pforFewSpec.post enc Try.prog Try.f8 false true false false W args v W' := by
  have hW' := hW
  obtain ⟨p, q, hA0, hV, rfl, hfz, hnd⟩ := hW
  have hA : DataW.TrodAll enc Try.prog W 0 (fun _ => true) true Try.f8.params.toList args.toList ds p := hA0
  rw [Try.params8] at hA hval hsz0
  obtain ⟨v0, vs0, d0, ds0, p0, q0, hargs, rfl, rfl, h0, r0⟩ := trodAll_cons hA
  obtain ⟨v1, vs1, d1, ds1, p1, q1, rfl, rfl, rfl, h1, r1⟩ := trodAll_cons r0
  obtain ⟨rfl, rfl, rfl⟩ := trodAll_nil r1
  obtain rfl : args = #[v0, v1] := by cases args; simp_all
  obtain ⟨rfl, rfl⟩ := trodVars_none hV
  obtain ⟨a0, len0, cap0, rfl⟩ := okWide_slice Try.underlying23 (hval 0 23 v0 rfl rfl)
  have lt0 : ∀ x ∈ p0, x.block < W.heap.size := by obtain ⟨m, hm⟩ := h0; exact DataW.trod_lt m _ _ _ hm
  obtain ⟨l0, e0, ec0, b0, k0⟩ := open_nums h0
  have reach0 := reach_nums hsz0 (j := 0) rfl rfl k0
  obtain ⟨x1, rfl, rfl, rfl, w1⟩ := open_int Try.underlying5 (hval 1 5 v1 rfl rfl) h1
  obtain ⟨c1, rfl⟩ := Int.eq_ofNat_of_zero_le (bounds_u8 w1).1
  clear hA0
  refine (walk a0 len0 cap0 l0 c1 W e0 ec0 reach0 b0 (by have := (bounds_u8 w1).2; omega)).mono fun e W' ⟨he, bel⟩ => ?_
  subst he
  exact ⟨_, rfl, _, _, _, [], _, [], hW', trodAll_mk1 (shut_bool Try.underlying4 _), (trodAll_cons_mk (Below.trod laidOut (by kernel_rfl) (of_decide_eq_true (by kernel_rfl)) h0 bel lt0) (trodAll_cons_mk (shut_int Try.underlying5 w1) trodAll_mk0)), rfl, bel.frame _, fun h => by cases h⟩

theorem laid_met (os : Os) : laidMet Try.prog Rows.pforFewRow.laid ((World.holding Try.prog os ⟨#[], #[], []⟩).forCall (fun _ _ => 0) ⟨#[], #[.slice none 0 0, .int .u8 0], []⟩).memory :=
  laidMet_of_run' 8 (by kernel_rfl) (by kernel_rfl)
theorem reads (os : Os) {H : Type} (enc : TypeId × Value → H) : ∃ places, DataW.whole enc Try.prog ((World.holding Try.prog os ⟨#[], #[], []⟩).forCall (fun _ _ => 0) ⟨#[], #[.slice none 0 0, .int .u8 0], []⟩).memory Try.f8.params.toList Rows.pforFewSpec.vars false #[Value.slice none 0 0, .int .u8 0].toList 8 = some ([.nil, .lit (.int .u8 0)], [], places) :=
  ⟨[], by kernel_rfl⟩

set_option maxRecDepth 100000 in
theorem lifted (os : Os) (started : os.Started) (H : Type) (enc : TypeId × Value → H) (F : Stop.Interp) :
    ReturnsInHanded {} Try.checked os 8 .any ((OpenSpec.ofChange Rows.pforFewSpec).preRow enc Try.prog Try.f8 Rows.pforFewRow.domain false Rows.pforFewRow.laid) (((OpenSpec.ofChange Rows.pforFewSpec).at F).post enc Try.prog Try.f8 false true false false) := by
  obtain ⟨places, hx⟩ := reads os enc
  refine returnsInHanded_of_row (C := Try.checked) (s := OpenSpec.ofChange Rows.pforFewSpec) own started (by kernel_rfl) Try.func8
    (witness_row_at (enc := enc) (C := Try.checked) false (World.holding Try.prog os ⟨#[], #[], []⟩) #[.slice none 0 0, .int .u8 0] rfl (by kernel_rfl) (by kernel_rfl) (by kernel_rfl)
      (OpenSpec.preRow_of_cond 8 hx (by kernel_rfl) (fun k hk => by cases hk) (by kernel_rfl) (laid_met os))) ?_
  intro W base args ds gs before hval hW _ _ hsz hL _ _
  exact contract H enc W base args ds gs before hval hW hL hsz

theorem said : Rows.PforFewSaid :=
  OpenClaim.holds_of_cond 8 Try.f8 rfl rfl rfl rfl rfl rfl rfl ⟨rfl, rfl, rfl, rfl, rfl⟩ rfl rfl rfl rfl rfl (by kernel_rfl) Try.func8 (by kernel_rfl)
    (of_decide_eq_true (by kernel_rfl)) (by unfold Func.isWrapper; first | (rw [if_pos (by decide +kernel)]; kernel_rfl) | (rw [if_neg (by decide +kernel)]; exact ⟨rfl, rfl⟩))
    (fun os started H enc _ F => by rw [OpenClaim.pre_eq_preRow]; exact lifted os started H enc F)

end Go.Proofs.Ytcknijkjacgnkaa.pforFew
