/- PROVED: the law IntsBack (a column that is put is taken as it was, whatever stands behind; of up to 500 cells) returns true and leaves its arguments as they were, for every argument.
   Conditions: none but the form's own reach (a slice has fewer than 2^47 bytes). -/
import Derived.Test.YtgjopffdgdimlaaBG

namespace Go.Proofs.Ytgjopffdgdimlaa.intsBack
open Go.ChangeShapes Go.WideShapes Go.ChangeAt Go.RowKit

set_option maxHeartbeats 4000000 in
set_option maxRecDepth 100000 in
theorem walk (A : Option Addr) (n cap : Nat) (l : List (Bool × Int)) (A0 : Option Addr) (m cap0 : Nat) (b : List UInt8) (w : World)
    (hl : l.length = n) (_hcap : n ≤ cap) (hn : 16 * n ≤ 140737488351232) (hf : Ict.fits l) (hb : Cols w w.heap.size A l)
    (hl0 : b.length = m) (_hcap0 : m ≤ cap0) (hm : m ≤ 140737488351232) (hb0 : Bytes w w.heap.size A0 b) :
    Calls Try.prog 6 #[.slice A n cap, .slice A0 m cap0] w fun e w' => e = .returned (.bool true) ∧ Below w.heap.size w w' := by
  by_cases hbig : 500 < n
  · have hbig' : (500 : Int) < (n : Int) := by omega
    clear hb hb0 hl hl0 hbig
    go_enter Try.func6, Try.ntmps6
    go_wp2_with fail
    refine (alive_any w).mono ?_
    rintro e w1 ⟨rfl, hbel1⟩
    go_wp2
    go_ret
    exact ⟨rfl, hbel1⟩
  have hsm : ¬ ((500 : Int) < (n : Int)) := by omega
  have hlen := Ict.bytes_length l (by omega)
  rw [hl] at hlen
  have C1 := Lib.hid fun W (hbel : Below w.heap.size w W) => icPut_any none A 0 0 n cap w.heap.size [] l W rfl hl (by omega) hf (by intro h; rw [List.nil_append]; omega) (Bytes.nil W _ none) (hb.below hbel) hbel.size
  have C2 := Lib.hid fun W (hbel : Below w.heap.size w W) => refFormed_any A n cap w.heap.size l W hl hn (hb.below hbel)
  have C3 := Lib.hid fun A1 c1 W (h : Bytes W W.heap.size A1 (Ict.bytes l)) => copy_any A1 (Ict.bytes l).length c1 W.heap.size (Ict.bytes l) W rfl (by omega) h (Nat.le_refl _)
  have C4 := Lib.hid fun A1 c1 W (h : Bytes W W.heap.size A1 (Ict.bytes l ++ b)) (hc : (Ict.bytes l).length + m ≤ c1) => icTake_any A1 ((Ict.bytes l).length + m) c1 W.heap.size (Ict.bytes l ++ b) W (by rw [List.length_append, hl0]) hc (by omega) h (Nat.le_refl _)
  have C5 := Lib.hid fun A1 c1 W (hbel : Below w.heap.size w W) (h : Cols W W.heap.size A1 l) => sameC_any A n cap w.heap.size l A1 n c1 W.heap.size l W hl hl hn hn (hb.below hbel) h
  rw [show decide (l = l) = true from by simp] at C5
  have hput : Ict.put [] l = if Ict.formed l then (Ict.bytes l, 0) else ([], 1) := by unfold Ict.put; rw [List.nil_append]
  rw [hput] at C1
  have htk := Ict.take_bytes l b
  unfold PackPost at C1
  unfold TakeCPost at C4
  rcases hF : Ict.formed l with _ | _
  · rw [hF] at C1 C2
    simp only [Bool.false_eq_true, if_false, List.length_nil] at C1
    clear C3 C4 C5 hput htk hF hl hl0 hb hb0 hlen hbig hf
    go_enter Try.func6, Try.ntmps6
    go_wp2_with fail
    refine (alive_any w).mono ?_
    rintro e w1 ⟨rfl, hbel1⟩
    have C1' := Lib.hid (C1.out w1 hbel1)
    go_wp2_with fail
    refine C1'.out.mono ?_
    rintro e w2 ⟨A2, c2, rfl, ho2, hb2⟩
    have hbel2 := hbel1.trans (hb2.mono hbel1.size)
    have C2' := Lib.hid (C2.out w2 hbel2)
    clear C1 C1' C2
    go_wp2_with fail
    refine C2'.out.mono ?_
    rintro e w2' ⟨rfl, rfl⟩
    go_wp2
    go_ret
    exact ⟨rfl, hbel2⟩
  · rw [hF] at C1
    simp only [if_true] at C1
    rw [htk hF hf] at C4
    simp only [hl] at C4
    have Hl0 := Lib.hid hl0
    clear C2 hput htk hF hl hl0 hbig hf
    generalize Ict.bytes l = T at *
    generalize hkl : T.length = k at *
    clear hkl
    go_enter Try.func6, Try.ntmps6
    go_wp2_with fail
    refine (alive_any w).mono ?_
    rintro e w1 ⟨rfl, hbel1⟩
    have C1' := Lib.hid (C1.out w1 hbel1)
    go_wp2_with fail
    refine C1'.out.mono ?_
    rintro e w2 ⟨A2, c2, rfl, ho2, hb2⟩
    have hbel2 := hbel1.trans (hb2.mono hbel1.size)
    have C3' := Lib.hid (C3.out A2 c2 w2 ho2.bytes)
    clear C1 C1' C3 hb2
    go_wp2_with fail
    refine C3'.out.mono ?_
    rintro e w3 ⟨A3, c3, rfl, ho3, hb3⟩
    have hbel3 := hbel2.trans (hb3.mono hbel2.size)
    have hy3 := hb0.below hbel3
    clear C3' ho2 hb0
    go_wp2_with (at_builtin; refine wpList_append_wide rfl (.tmp 27) (.tmp 28) rfl w2.heap.size A3 k c3 T rfl ho3 _ A0 m cap0 b rfl Hl0.out hy3 (by omega) hb3.size ?_; intro A5 c5 w5 ho5 hg5)
    have hbel5 := hbel3.grown hg5 hbel3.size (fun k hk => by have := (ho3.lt hk).1; have := hbel2.size; omega)
    have C4' := Lib.hid (C4.out A5 c5 w5 ho5.bytes (by exact ho5.cap))
    clear C4 ho3 hy3 hg5
    refine C4'.out.mono ?_
    rintro e w6 ⟨A6, c6, rfl, ho6, hb6⟩
    have hbel6 := hbel5.trans (hb6.mono hbel5.size)
    have C5' := Lib.hid (C5.out A6 c6 w6 hbel6 (ho6.row (fun _ => rfl)))
    clear C4' C5 ho5 ho6 hb6
    go_wp2_with fail
    refine C5'.out.mono ?_
    rintro e w7 ⟨rfl, hd⟩
    clear C5'
    go_wp2
    go_ret
    exact ⟨rfl, hbel6.trans (hd.below _)⟩

set_option maxRecDepth 100000 in
/-- from the walk to the post of the row -/
theorem contract (H : Type) (enc : TypeId × Value → H) (W : World) (base : Nat) (args : Array Value) (ds gs : List (DataW H)) (before : List MemPlace)
    (hval : ∀ (j : Nat) t v, Try.f6.params[j]? = some t → args[j]? = some v → Value.okWide Try.prog W .any base t v)
    (hW : DataW.Whole enc Try.prog Try.f6.params.toList Rows.intsBackSpec.vars false W args.toList ds gs before) (_ : laidMetH Try.prog Rows.intsBackRow.laid W)
    (hsz0 : (DataW.weightsEach Try.prog (Try.f6.params.toList ++ Rows.intsBackSpec.plain.varTypes Try.prog) (ds ++ gs)).all (· ≤ reachBytes) = true) :
    Calls Try.prog 6 args W fun e W' => ∃ v, e = .returned v ∧ Rows.intsBackSpec.post enc Try.prog Try.f6 false true false false W args v W' := by
  have hW' := hW
  obtain ⟨p, q, hA0, hV, rfl, hfz, hnd⟩ := hW
  have hA : DataW.TrodAll enc Try.prog W 0 (fun _ => true) true Try.f6.params.toList args.toList ds p := hA0
  rw [Try.params6] at hA hval hsz0
  obtain ⟨v0, vs0, d0, ds0, p0, q0, hargs, rfl, rfl, h0, r0⟩ := trodAll_cons hA
  obtain ⟨v1, vs1, d1, ds1, p1, q1, rfl, rfl, rfl, h1, r1⟩ := trodAll_cons r0
  obtain ⟨rfl, rfl, rfl⟩ := trodAll_nil r1
  obtain rfl : args = #[v0, v1] := by cases args; simp_all
  obtain ⟨rfl, rfl⟩ := trodVars_none hV
  obtain ⟨a0, len0, cap0, rfl⟩ := okWide_slice Try.underlying23 (hval 0 23 v0 rfl rfl)
  have lt0 : ∀ x ∈ p0, x.block < W.heap.size := by obtain ⟨m, hm⟩ := h0; exact DataW.trod_lt m _ _ _ hm
  obtain ⟨l0, e0, ec0, ef0, b0, k0⟩ := open_cells h0
  have reach0 := reach_cells hsz0 (j := 0) rfl rfl k0
  obtain ⟨a1, len1, cap1, rfl⟩ := okWide_slice Try.underlying22 (hval 1 22 v1 rfl rfl)
  have lt1 : ∀ x ∈ p1, x.block < W.heap.size := by obtain ⟨m, hm⟩ := h1; exact DataW.trod_lt m _ _ _ hm
  obtain ⟨l1, e1, ec1, b1, k1⟩ := open_bytes h1
  have reach1 := reach_bytes hsz0 (j := 1) rfl rfl k1
  clear hA0
  refine (walk a0 len0 cap0 l0 a1 len1 cap1 l1 W e0 ec0 reach0 ef0 b0 e1 ec1 reach1 b1).mono fun e W' ⟨he, bel⟩ => ?_
  subst he
  exact ⟨_, rfl, _, _, _, [], _, [], hW', trodAll_mk1 (shut_bool Try.underlying4 _), (trodAll_cons_mk (Below.trod laidOut (by kernel_rfl) (of_decide_eq_true (by kernel_rfl)) h0 bel lt0) (trodAll_cons_mk (Below.trod laidOut (by kernel_rfl) (of_decide_eq_true (by kernel_rfl)) h1 bel lt1) trodAll_mk0)), rfl, bel.frame _, fun h => by cases h⟩

theorem laid_met (os : Os) : laidMet Try.prog Rows.intsBackRow.laid ((World.holding Try.prog os ⟨#[], #[], []⟩).forCall (fun _ _ => 0) ⟨#[], #[.slice none 0 0, .slice none 0 0], []⟩).memory :=
  laidMet_of_run' 8 (by kernel_rfl) (by kernel_rfl)
theorem reads (os : Os) {H : Type} (enc : TypeId × Value → H) : ∃ places, DataW.whole enc Try.prog ((World.holding Try.prog os ⟨#[], #[], []⟩).forCall (fun _ _ => 0) ⟨#[], #[.slice none 0 0, .slice none 0 0], []⟩).memory Try.f6.params.toList Rows.intsBackSpec.vars false #[Value.slice none 0 0, .slice none 0 0].toList 8 = some ([.nil, .nil], [], places) :=
  ⟨[], by kernel_rfl⟩

set_option maxRecDepth 100000 in
theorem lifted (os : Os) (started : os.Started) (H : Type) (enc : TypeId × Value → H) (F : Stop.Interp) :
    ReturnsInHanded {} Try.checked os 6 .any ((OpenSpec.ofChange Rows.intsBackSpec).preRow enc Try.prog Try.f6 Rows.intsBackRow.domain false Rows.intsBackRow.laid) (((OpenSpec.ofChange Rows.intsBackSpec).at F).post enc Try.prog Try.f6 false true false false) := by
  obtain ⟨places, hx⟩ := reads os enc
  refine returnsInHanded_of_row (C := Try.checked) (s := OpenSpec.ofChange Rows.intsBackSpec) own started (by kernel_rfl) Try.func6
    (witness_row_at (enc := enc) (C := Try.checked) false (World.holding Try.prog os ⟨#[], #[], []⟩) #[.slice none 0 0, .slice none 0 0] rfl (by kernel_rfl) (by kernel_rfl) (by kernel_rfl)
      (OpenSpec.preRow_of_cond 8 hx (by kernel_rfl) (fun k hk => by cases hk) (by kernel_rfl) (laid_met os))) ?_
  intro W base args ds gs before hval hW _ _ hsz hL _ _
  exact contract H enc W base args ds gs before hval hW hL hsz

theorem said : Rows.IntsBackSaid :=
  OpenClaim.holds_of_cond 6 Try.f6 rfl rfl rfl rfl rfl rfl rfl ⟨rfl, rfl, rfl, rfl, rfl⟩ rfl rfl rfl rfl rfl (by kernel_rfl) Try.func6 (by kernel_rfl)
    (of_decide_eq_true (by kernel_rfl)) (by unfold Func.isWrapper; first | (rw [if_pos (by decide +kernel)]; kernel_rfl) | (rw [if_neg (by decide +kernel)]; exact ⟨rfl, rfl⟩))
    (fun os started H enc _ F => by rw [OpenClaim.pre_eq_preRow]; exact lifted os started H enc F)

end Go.Proofs.Ytgjopffdgdimlaa.intsBack
