/- PROVED: the law LzNeverLong (packed bytes are at most n + n / 255 + 2 bytes, of n, and are unpacked; of up to 65,536 bytes) returns true and leaves its arguments as they were, for every argument.
   Conditions: none but the form's own reach (a slice has fewer than 2^47 bytes). -/
import Derived.Test.YtonknkmbkfndcaaLzLaw
namespace Go.Proofs.Ytonknkmbkfndcaa.lzNeverLong
open Go.ChangeShapes Go.WideShapes Go.ChangeAt Go.RowKit

def many (l : List UInt8) : Nat → List UInt8
  | 0 => []
  | k + 1 => many l k ++ l
theorem many_length (l : List UInt8) : ∀ k, (many l k).length = k * l.length
  | 0 => by simp [many]
  | k + 1 => by rw [many, List.length_append, many_length l k, Nat.succ_mul]

set_option maxHeartbeats 1000000 in
theorem walk (A : Option Addr) (n cap : Nat) (l : List UInt8) (x : Nat) (w : World)
    (hl : l.length = n) (_hcap : n ≤ cap) (_hn : n ≤ 140737488351232) (hb : Bytes w w.heap.size A l) (hx : x < 256) :
    Calls Try.prog 6 #[.slice A n cap, .int .u8 (x : Int)] w fun e w' => e = .returned (.bool true) ∧ Below w.heap.size w w' := by
  by_cases hbig : 16384 < n
  · have hbig' : (16384 : Int) < (n : Int) := by omega
    clear hb hl hbig
    go_enter Try.func6, Try.ntmps6
    go_wp2_with fail
    refine (lzAlive_any w).mono ?_
    rintro e w1 ⟨rfl, hbel1⟩
    go_wp2
    go_ret
    exact ⟨rfl, hbel1⟩
  · have hsm : ¬ ((16384 : Int) < (n : Int)) := by omega
    obtain ⟨t, ht⟩ : ∃ t, t = x % 4 := ⟨_, rfl⟩
    have hti : (x : Int) % 4 = (t : Int) := by omega
    have ht3 : t ≤ 3 := by omega
    have hml := many_length l (t + 1)
    rw [hl] at hml
    have hNb : (t + 1) * n ≤ 65536 := by
      have := Nat.mul_le_mul (show t + 1 ≤ 4 by omega) (show n ≤ 16384 by omega)
      omega
    obtain ⟨Z, hZ⟩ : ∃ Z, Z = many l (t + 1) := ⟨_, rfl⟩
    rw [← hZ] at hml
    have hXl := Lz.packed_length Z
    have hu := Lz.unpack_packed Z (Z.length : Int)
    rw [if_neg (by omega), if_pos (Int.le_refl _)] at hu
    have hZb : Z.length ≤ 65536 := by omega
    have C1 := fun A1 c1 w' hc hb => pack_any A1 Z.length c1 _ Z w' rfl hc (by omega) hb (Nat.le_refl _)
    generalize Lz.packed Z = X at *
    have C2 := fun A1 c1 w' hc hb => unpack_any A1 X.length c1 _ X (Z.length : Int) w' rfl hc (by omega) (by omega) hb (Nat.le_refl _)
    rw [hu] at C2
    unfold UnPost at C2
    dsimp only at C2
    simp only [Int.natCast_zero] at C2
    have C4 := fun A1 A2 c1 c2 B1 B2 w' h1 h2 => same_any A1 A2 Z.length Z.length c1 c2 B1 B2 Z Z w' rfl rfl h1 h2
    have HZ := Lib.hid hZ
    have Hml := Lib.hid (many_length l)
    rw [hl] at Hml
    have Hl := Lib.hid hl
    have HmlZ := Lib.hid hml
    generalize X.length = k at *
    generalize Z.length = N at *
    have hlong : ¬ ((N : Int) + (N : Int) / 255 + 2 < (k : Int)) := by omega
    replace C1 := Lib.hid C1
    replace C2 := Lib.hid C2
    replace C4 := Lib.hid C4
    clear hl hZ hml hu hXl hNb hbig
    have Ht := Lib.hid ht; clear ht
    go_enter Try.func6, Try.ntmps6
    go_wp2_with fail
    refine (lzAlive_any w).mono ?_
    rintro e w1 ⟨rfl, hbel1⟩
    go_wp2
    go_loopw [5, 6] (fun o i wr => ∃ (j m : Nat) (A' : Option Addr) (c' : Nat), j ≤ t + 1 ∧ i = .int .i64 j ∧ o = .slice A' m c' ∧ m ≤ 65536 ∧ Own wr w.heap.size A' m c' (many l j) ∧ Below w.heap.size w wr ∧ w.heap.size ≤ wr.heap.size) (fun _ i _ => t + 1 - (intOf i).toNat)
    case atStart => exact ⟨0, 0, none, 0, by omega, rfl, rfl, by omega, own_none _ _, hbel1, hbel1.size⟩
    case round =>
      clear hbel1
      obtain ⟨j, m, A', c', hj, rfl, rfl, hm, ho, hbel, hsz⟩ := hrel
      have hlen := ho.len
      rw [Hml.out] at hlen
      have hbr := hb.below hbel
      by_cases hlt : j ≤ t
      · have hlt' : (j : Int) ≤ (t : Int) := by omega
        have hmn : m + n ≤ 65536 := by
          have := Nat.mul_le_mul (show j + 1 ≤ 4 by omega) (show n ≤ 16384 by omega)
          rw [Nat.succ_mul] at this
          omega
        clear hlen
        go_wp2_with (at_builtin; refine wpList_append_bytes rfl (.tmp 22) (.tmp 23) rfl w.heap.size A' m c' _ rfl ho _ A n cap l rfl Hl.out hbr (by omega) hsz ?_; intro A2 c2 w2 ho2 hg2 hat2)
        have hbel2 := hbel.grown hg2 hsz (fun k hk => (ho.lt hk).1)
        go_roundw
        case rel => exact ⟨j + 1, m + n, A2, c2, by omega, by go_num, rfl, hmn, ho2, hbel2, Nat.le_trans hsz hg2.size⟩
        case measure => simp [intOf]; omega
      · obtain rfl : j = t + 1 := by omega
        have hmN : m = N := by rw [← hlen]; exact HmlZ.out.symm
        have hlt' : ¬ (((t + 1 : Nat) : Int) ≤ (t : Int)) := by omega
        subst hmN
        rw [← HZ.out] at ho
        clear hlen hbr
        go_wp2_with fail
        refine (C1.out A' c' _ (by exact ho.cap) ho.bytes).mono ?_
        rintro e w2 ⟨A2, c2, rfl, ho2, hb2⟩
        have ho' := ho.below hb2
        have hbel2 := hbel.trans (hb2.mono hsz)
        have hsz2 : w.heap.size ≤ w2.heap.size := Nat.le_trans hsz hb2.size
        clear C1 ho
        go_wp2_with fail
        refine (C2.out A2 c2 w2 (by exact ho2.cap) ho2.bytes).mono ?_
        rintro e w3 ⟨A3, c3, rfl, ho3, hb3⟩
        have ho'' := ho'.below hb3
        have hbel3 := hbel2.trans (hb3.mono hsz2)
        clear C2 ho2 ho'
        have S1 := C4.out A3 A' c3 c' _ _ w3 ho3.bytes ho''.bytes
        rw [beq_self_eq_true] at S1
        replace S1 := Lib.hid S1
        clear C4
        go_wp2_with fail
        refine S1.out.mono ?_
        rintro e w4 ⟨rfl, rfl⟩
        clear S1
        go_wp2
        go_ret
        exact ⟨rfl, hbel3⟩

/-- from the walk to the post of the row -/
theorem contract (H : Type) (enc : TypeId × Value → H) (W : World) (base : Nat) (args : Array Value) (ds gs : List (DataW H)) (before : List MemPlace)
    (hval : ∀ (j : Nat) t v, Try.f6.params[j]? = some t → args[j]? = some v → Value.okWide Try.prog W .any base t v)
    (hW : DataW.Whole enc Try.prog Try.f6.params.toList Rows.lzNeverLongSpec.vars false W args.toList ds gs before) (_ : laidMetH Try.prog Rows.lzNeverLongRow.laid W)
    (hsz0 : (DataW.weightsEach Try.prog (Try.f6.params.toList ++ Rows.lzNeverLongSpec.plain.varTypes Try.prog) (ds ++ gs)).all (· ≤ reachBytes) = true) :
    Calls Try.prog 6 args W fun e W' => ∃ v, e = .returned v ∧ Rows.lzNeverLongSpec.post enc Try.prog Try.f6 false true false false W args v W' := by
  have hW' := hW
  obtain ⟨p, q, hA0, hV, rfl, hfz, hnd⟩ := hW
  have hA : DataW.TrodAll enc Try.prog W 0 (fun _ => true) true Try.f6.params.toList args.toList ds p := hA0
  rw [Try.params6] at hA hval hsz0
  obtain ⟨v0, vs0, d0, ds0, p0, q0, hargs, rfl, rfl, h0, r0⟩ := trodAll_cons hA
  obtain ⟨v1, vs1, d1, ds1, p1, q1, rfl, rfl, rfl, h1, r1⟩ := trodAll_cons r0
  obtain ⟨rfl, rfl, rfl⟩ := trodAll_nil r1
  obtain rfl : args = #[v0, v1] := by cases args; simp_all
  obtain ⟨rfl, rfl⟩ := trodVars_none hV
  obtain ⟨a0, len0, cap0, rfl⟩ := okWide_slice Try.underlying22 (hval 0 22 v0 rfl rfl)
  have lt0 : ∀ x ∈ p0, x.block < W.heap.size := by obtain ⟨m, hm⟩ := h0; exact DataW.trod_lt m _ _ _ hm
  obtain ⟨l0, e0, ec0, b0, k0⟩ := open_bytes h0
  have reach0 := reach_bytes hsz0 (j := 0) rfl rfl k0
  obtain ⟨x1, rfl, rfl, rfl, w1⟩ := open_int Try.underlying5 (hval 1 5 v1 rfl rfl) h1
  obtain ⟨c1, rfl⟩ := Int.eq_ofNat_of_zero_le (bounds_u8 w1).1
  clear hA0
  refine (walk a0 len0 cap0 l0 c1 W e0 ec0 reach0 b0 (by have := (bounds_u8 w1).2; omega)).mono fun e W' ⟨he, bel⟩ => ?_
  subst he
  exact ⟨_, rfl, _, _, _, [], _, [], hW', trodAll_mk1 (shut_bool Try.underlying4 _), (trodAll_cons_mk (Below.trod laidOut (by kernel_rfl) (of_decide_eq_true (by kernel_rfl)) h0 bel lt0) (trodAll_cons_mk (shut_int Try.underlying5 w1) trodAll_mk0)), rfl, bel.frame _, fun h => by cases h⟩

theorem laid_met (os : Os) : laidMet Try.prog Rows.lzNeverLongRow.laid ((World.holding Try.prog os ⟨#[], #[], []⟩).forCall (fun _ _ => 0) ⟨#[], #[.slice none 0 0, .int .u8 0], []⟩).memory :=
  laidMet_of_run' 8 (by kernel_rfl) (by kernel_rfl)
theorem reads (os : Os) {H : Type} (enc : TypeId × Value → H) : ∃ places, DataW.whole enc Try.prog ((World.holding Try.prog os ⟨#[], #[], []⟩).forCall (fun _ _ => 0) ⟨#[], #[.slice none 0 0, .int .u8 0], []⟩).memory Try.f6.params.toList Rows.lzNeverLongSpec.vars false #[Value.slice none 0 0, .int .u8 0].toList 8 = some ([.nil, .lit (.int .u8 0)], [], places) :=
  ⟨[], by kernel_rfl⟩

set_option maxRecDepth 100000 in
theorem lifted (os : Os) (started : os.Started) (H : Type) (enc : TypeId × Value → H) (F : Stop.Interp) :
    ReturnsInHanded {} Try.checked os 6 .any ((OpenSpec.ofChange Rows.lzNeverLongSpec).preRow enc Try.prog Try.f6 Rows.lzNeverLongRow.domain false Rows.lzNeverLongRow.laid) (((OpenSpec.ofChange Rows.lzNeverLongSpec).at F).post enc Try.prog Try.f6 false true false false) := by
  obtain ⟨places, hx⟩ := reads os enc
  refine returnsInHanded_of_row (C := Try.checked) (s := OpenSpec.ofChange Rows.lzNeverLongSpec) own started (by kernel_rfl) Try.func6
    (witness_row_at (enc := enc) (C := Try.checked) false (World.holding Try.prog os ⟨#[], #[], []⟩) #[.slice none 0 0, .int .u8 0] rfl (by kernel_rfl) (by kernel_rfl) (by kernel_rfl)
      (OpenSpec.preRow_of_cond 8 hx (by kernel_rfl) (fun k hk => by cases hk) (by kernel_rfl) (laid_met os))) ?_
  intro W base args ds gs before hval hW _ _ hsz hL _ _
  exact contract H enc W base args ds gs before hval hW hL hsz

theorem said : Rows.LzNeverLongSaid :=
  OpenClaim.holds_of_cond 6 Try.f6 rfl rfl rfl rfl rfl rfl rfl ⟨rfl, rfl, rfl, rfl, rfl⟩ rfl rfl rfl rfl rfl (by kernel_rfl) Try.func6 (by kernel_rfl)
    (of_decide_eq_true (by kernel_rfl)) (by unfold Func.isWrapper; first | (rw [if_pos (by decide +kernel)]; kernel_rfl) | (rw [if_neg (by decide +kernel)]; exact ⟨rfl, rfl⟩))
    (fun os started H enc _ F => by rw [OpenClaim.pre_eq_preRow]; exact lifted os started H enc F)

end Go.Proofs.Ytonknkmbkfndcaa.lzNeverLong
