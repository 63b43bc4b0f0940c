/- PROVED: the law TextsNeverLong (a granule of one line again and again has few bytes more than these; of lines of up to 4096 bytes) returns true and leaves its arguments as they were, for every byte slice and every number.
   Conditions: none but the form's own reach (a slice has fewer than 2^47 bytes). -/
import Derived.Test.YtoebeibmmclhpaaNTG
namespace Go.Proofs.Ytoebeibmmclhpaa.textsNeverLong
open Go.ChangeShapes Go.WideShapes Go.ChangeAt Go.RowKit
set_option maxRecDepth 100000

set_option maxHeartbeats 4000000 in
theorem walk (A : Option Addr) (n cap : Nat) (l : List UInt8) (x : Nat) (w : World)
    (hl : l.length = n) (hcap : n ≤ cap) (_ : n ≤ 140737488351232) (hb : Bytes w w.heap.size A l) (hx : x < 256) :
    Calls Try.prog 3 #[.slice A n cap, .int .u8 (x : Int)] w fun e w' => e = .returned (.bool true) ∧ Below w.heap.size w w' := by
  by_cases hbig : 4096 < n
  · have hbig' : (4096 : Int) < (n : Int) := by omega
    clear hb hl hbig
    go_enter Try.func3, Try.ntmps3
    go_wp2_with fail
    refine (txAlive_any w).mono ?_
    rintro e w1 ⟨rfl, hbel1⟩
    go_wp2
    go_ret
    exact ⟨rfl, hbel1⟩
  · have hsm : ¬ ((4096 : Int) < (n : Int)) := by omega
    obtain ⟨t, ht⟩ : ∃ t, t = x % 16 := ⟨_, rfl⟩
    have hti : (x : Int) % 16 = (t : Int) := by omega
    have ht15 : t ≤ 15 := by omega
    have hr := Texts.right_rep (l := l) (k := t + 1) (by omega) (by omega) (by omega)
    have hfew := Texts.bytes_few (l := l) (k := t + 1) (by omega) (by omega)
    have hfl := Texts.flat_rep l (t + 1)
    have hNb : (t + 1) * n ≤ 65536 := by
      have := Nat.mul_le_mul (show t + 1 ≤ 16 by omega) (show n ≤ 4096 by omega)
      omega
    rw [hl] at hfew hfl
    have P1 := fun A1 c1 w' (hc : t + 1 ≤ c1) (h1 : Samples w' w'.heap.size A1 (List.replicate (t + 1) l)) => putTexts_any none A1 0 (t + 1) 0 c1 [] (List.replicate (t + 1) l) w' rfl (by omega) (by simp) hc (by omega) (fun _ => .inr ⟨by omega, by omega⟩) (Bytes.nil _ _ _) h1
    have hp : Texts.put [] (List.replicate (t + 1) l) = (Texts.bytes (List.replicate (t + 1) l), 0) := by unfold Texts.put; rw [if_pos hr, List.nil_append]
    rw [hp] at P1
    unfold PairPost at P1
    simp only [Int.natCast_zero] at P1
    have HS := Lib.hid fun (wr : World) (A1 : Option Addr) (c1 : Nat) (us : List Unit) (h : ROwn (oneV A n cap) 22 wr w.heap.size A1 (t + 1) c1 us) (h1 : Bytes wr w.heap.size A l) (h2 : w.heap.size ≤ wr.heap.size) => rep_samples h hl hcap h1 h2
    generalize Texts.bytes (List.replicate (t + 1) l) = Y at *
    obtain ⟨y, hy⟩ : ∃ y, Y.length = y := ⟨_, rfl⟩
    rw [hy] at P1 hfew
    have hmul : ∀ k, k ≤ t + 1 → k * n ≤ 65536 := fun k hk => by
      have := Nat.mul_le_mul_right n hk
      omega
    have Hmul := Lib.hid hmul
    have Hsucc := Lib.hid (fun k => Nat.succ_mul k n)
    obtain ⟨N, hN⟩ : ∃ N, N = (t + 1) * n := ⟨_, rfl⟩
    rw [← hN] at hfew hNb
    have HN := Lib.hid hN
    have hle : (y : Int) ≤ (N : Int) + (N : Int) / 255 + 2 + 9 + 72 := by omega
    replace P1 := Lib.hid P1
    clear hr hfl hp hy hmul hN ht hbig hl hfew
    go_enter Try.func3, Try.ntmps3
    go_wp2_with fail
    refine (txAlive_any w).mono ?_
    rintro e w1 ⟨rfl, hbel1⟩
    go_wp2
    go_loopw [5, 6, 7] (fun s m i wr => ∃ (k M c1 : Nat) (A1 : Option Addr) (us : List Unit), k ≤ t + 1 ∧ s = .slice A1 k c1 ∧ m = .int .i64 M ∧ i = .int .i64 k ∧ Hid (M = k * n) ∧ M ≤ 65536 ∧ ROwn (oneV A n cap) 22 wr w.heap.size A1 k c1 us ∧ Below w.heap.size w wr) (fun _ _ i _ => t + 1 - (intOf i).toNat)
    case atStart => exact ⟨0, 0, 0, none, [], by omega, rfl, rfl, rfl, Lib.hid (by simp), by omega, ROwn.nil _ _ _ _, hbel1⟩
    case round =>
      clear hbel1
      obtain ⟨k, M, c1, A1, us, hk, rfl, rfl, rfl, HM, hM, ho, hbel⟩ := hrel
      by_cases hlt : k ≤ t
      · have hM2 := Hmul.out (k + 1) (by omega)
        have hM3 := Hsucc.out k
        rw [← HM.out] at hM3
        have HM3 := Lib.hid hM3
        have hM4 : M + n ≤ 65536 := by rw [← hM3]; exact hM2
        have hone : Row (oneV A n cap) (wr.alloc (.cells #[.slice A n cap] 22)) (wr.alloc (.cells #[.slice A n cap] 22)).heap.size (some ⟨wr.heap.size, 0, none⟩) [()] :=
          (ROwn.lit (f := oneV A n cap) (e := 22) wr wr.heap.size [()] (Nat.le_refl _) (by simp [maxLen])).row
        have hoA := ho.alloc (.cells #[.slice A n cap] 22)
        have hbA := hbel.alloc hbel.size (.cells #[.slice A n cap] 22)
        have i0 : (0 : Int) ≤ (k : Int) := by omega
        have i1 : (k : Int) ≤ (t : Int) := by omega
        clear hM3 hM2 ho P1 HS
        go_wp2_with (at_builtin; refine wpList_append_row (elemOne A n cap) rfl (.tmp 22) (.tmp 24) rfl w.heap.size A1 k c1 _ rfl hoA _ _ 1 1 [()] rfl rfl hone (by omega) (by simp only [maxLen]; omega) hbA.size ?_; intro A3 c3 w3 ho3 hg3 hat3)
        have hb3 := hbA.grown hg3 hbA.size (fun q hq => (hoA.lt hq).1)
        go_roundw
        case rel => exact ⟨k + 1, M + n, c3, A3, _, by omega, rfl, by go_num, by go_num, Lib.hid HM3.out.symm, by omega, ho3, hb3⟩
        case measure => simp [intOf]; omega
      · obtain rfl : k = t + 1 := by omega
        have hMN : M = N := HM.out.trans HN.out.symm
        subst hMN
        have hs := HS.out wr A1 c1 us ho (hb.below hbel) hbel.size
        have C1 := Lib.hid (P1.out A1 c1 wr ho.cap hs)
        have i1 : ¬ (((t + 1 : Nat) : Int) ≤ (t : Int)) := by omega
        clear HS P1 hs ho Hmul Hsucc
        obtain ⟨t', ht'⟩ : ∃ t', t' = t + 1 := ⟨_, rfl⟩
        rw [← ht'] at C1 i1 ⊢
        clear ht'
        go_wp2_with fail
        refine C1.out.mono ?_
        rintro e w4 ⟨A4, c4, rfl, _, hb4⟩
        have bel4 := hbel.trans (hb4.mono hbel.size)
        clear C1
        go_wp2
        go_ret
        exact ⟨rfl, bel4⟩
set_option maxRecDepth 100000 in
/-- from the walk to the post of the row -/
theorem contract (H : Type) (enc : TypeId × Value → H) (W : World) (base : Nat) (args : Array Value) (ds gs : List (DataW H)) (before : List MemPlace)
    (hval : ∀ (j : Nat) t v, Try.f3.params[j]? = some t → args[j]? = some v → Value.okWide Try.prog W .any base t v)
    (hW : DataW.Whole enc Try.prog Try.f3.params.toList Rows.textsNeverLongSpec.vars false W args.toList ds gs before) (_ : laidMetH Try.prog Rows.textsNeverLongRow.laid W)
    (hsz0 : (DataW.weightsEach Try.prog (Try.f3.params.toList ++ Rows.textsNeverLongSpec.plain.varTypes Try.prog) (ds ++ gs)).all (· ≤ reachBytes) = true) :
    Calls Try.prog 3 args W fun e W' => ∃ v, e = .returned v ∧ Rows.textsNeverLongSpec.post enc Try.prog Try.f3 false true false false W args v W' := by
  have hW' := hW
  obtain ⟨p, q, hA0, hV, rfl, hfz, hnd⟩ := hW
  have hA : DataW.TrodAll enc Try.prog W 0 (fun _ => true) true Try.f3.params.toList args.toList ds p := hA0
  rw [Try.params3] at hA hval hsz0
  obtain ⟨v0, vs0, d0, ds0, p0, q0, hargs, rfl, rfl, h0, r0⟩ := trodAll_cons hA
  obtain ⟨v1, vs1, d1, ds1, p1, q1, rfl, rfl, rfl, h1, r1⟩ := trodAll_cons r0
  obtain ⟨rfl, rfl, rfl⟩ := trodAll_nil r1
  obtain rfl : args = #[v0, v1] := by cases args; simp_all
  obtain ⟨rfl, rfl⟩ := trodVars_none hV
  obtain ⟨a0, len0, cap0, rfl⟩ := okWide_slice Try.underlying22 (hval 0 22 v0 rfl rfl)
  have lt0 : ∀ x ∈ p0, x.block < W.heap.size := by obtain ⟨m, hm⟩ := h0; exact DataW.trod_lt m _ _ _ hm
  obtain ⟨l0, e0, ec0, b0, k0⟩ := open_bytes h0
  have reach0 := reach_bytes hsz0 (j := 0) rfl rfl k0
  obtain ⟨x1, rfl, rfl, rfl, w1⟩ := open_int Try.underlying5 (hval 1 5 v1 rfl rfl) h1
  obtain ⟨c1, rfl⟩ := Int.eq_ofNat_of_zero_le (bounds_u8 w1).1
  clear hA0
  refine (walk a0 len0 cap0 l0 c1 W e0 ec0 reach0 b0 (by have := (bounds_u8 w1).2; omega)).mono fun e W' ⟨he, bel⟩ => ?_
  subst he
  exact ⟨_, rfl, _, _, _, [], _, [], hW', trodAll_mk1 (shut_bool Try.underlying4 _), (trodAll_cons_mk (Below.trod laidOut (by kernel_rfl) (of_decide_eq_true (by kernel_rfl)) h0 bel lt0) (trodAll_cons_mk (shut_int Try.underlying5 w1) trodAll_mk0)), rfl, bel.frame _, fun h => by cases h⟩

theorem laid_met (os : Os) : laidMet Try.prog Rows.textsNeverLongRow.laid ((World.holding Try.prog os ⟨#[], #[], []⟩).forCall (fun _ _ => 0) ⟨#[], #[.slice none 0 0, .int .u8 0], []⟩).memory :=
  laidMet_of_run' 8 (by kernel_rfl) (by kernel_rfl)
theorem reads (os : Os) {H : Type} (enc : TypeId × Value → H) : ∃ places, DataW.whole enc Try.prog ((World.holding Try.prog os ⟨#[], #[], []⟩).forCall (fun _ _ => 0) ⟨#[], #[.slice none 0 0, .int .u8 0], []⟩).memory Try.f3.params.toList Rows.textsNeverLongSpec.vars false #[Value.slice none 0 0, .int .u8 0].toList 8 = some ([.nil, .lit (.int .u8 0)], [], places) :=
  ⟨[], by kernel_rfl⟩

set_option maxRecDepth 100000 in
theorem lifted (os : Os) (started : os.Started) (H : Type) (enc : TypeId × Value → H) (F : Stop.Interp) :
    ReturnsInHanded {} Try.checked os 3 .any ((OpenSpec.ofChange Rows.textsNeverLongSpec).preRow enc Try.prog Try.f3 Rows.textsNeverLongRow.domain false Rows.textsNeverLongRow.laid) (((OpenSpec.ofChange Rows.textsNeverLongSpec).at F).post enc Try.prog Try.f3 false true false false) := by
  obtain ⟨places, hx⟩ := reads os enc
  refine returnsInHanded_of_row (C := Try.checked) (s := OpenSpec.ofChange Rows.textsNeverLongSpec) own started (by kernel_rfl) Try.func3
    (witness_row_at (enc := enc) (C := Try.checked) false (World.holding Try.prog os ⟨#[], #[], []⟩) #[.slice none 0 0, .int .u8 0] rfl (by kernel_rfl) (by kernel_rfl) (by kernel_rfl)
      (OpenSpec.preRow_of_cond 8 hx (by kernel_rfl) (fun k hk => by cases hk) (by kernel_rfl) (laid_met os))) ?_
  intro W base args ds gs before hval hW _ _ hsz hL _ _
  exact contract H enc W base args ds gs before hval hW hL hsz

theorem said : Rows.TextsNeverLongSaid :=
  OpenClaim.holds_of_cond 3 Try.f3 rfl rfl rfl rfl rfl rfl rfl ⟨rfl, rfl, rfl, rfl, rfl⟩ rfl rfl rfl rfl rfl (by kernel_rfl) Try.func3 (by kernel_rfl)
    (of_decide_eq_true (by kernel_rfl)) (by unfold Func.isWrapper; first | (rw [if_pos (by decide +kernel)]; kernel_rfl) | (rw [if_neg (by decide +kernel)]; exact ⟨rfl, rfl⟩))
    (fun os started H enc _ F => by rw [OpenClaim.pre_eq_preRow]; exact lifted os started H enc F)

end Go.Proofs.Ytoebeibmmclhpaa.textsNeverLong
