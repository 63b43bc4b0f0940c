/- PROVED: the law PforInts (any list of whole numbers is laid, and taken, as the document says; of up to 500 numbers and 5000 bytes) returns true and leaves its arguments as they were, for every argument.
   Conditions: none but the form's own reach (a slice has fewer than 2^47 bytes). -/
import Derived.Test.YtcknijkjacgnkaaLawIn
import Derived.Test.YtcknijkjacgnkaaPforLaw
import Derived.Test.YtcknijkjacgnkaaTakeList
import Derived.Test.YtcknijkjacgnkaaRefList
import Derived.Test.YtcknijkjacgnkaaPforLen
import Derived.Test.YtcknijkjacgnkaaIntsPut
namespace Go.Proofs.Ytcknijkjacgnkaa.pforInts
open Go.ChangeShapes Go.WideShapes Go.ChangeAt Go.RowKit

set_option maxHeartbeats 1000000 in
theorem walk (A : Option Addr) (n cap : Nat) (l : List Int) (A0 : Option Addr) (m cap0 : Nat) (b : List UInt8) (z : Int) (w : World)
    (hl : l.length = n) (_hcap : n ≤ cap) (_hn : 8 * n ≤ 140737488351232) (hf : Fits64 l) (hb : Ints w w.heap.size A l)
    (hl0 : b.length = m) (hcap0 : m ≤ cap0) (_hm : m ≤ 140737488351232) (hb0 : Bytes w w.heap.size A0 b) (hz0 : -9223372036854775808 ≤ z) (hz1 : z ≤ 9223372036854775807) :
    Calls Try.prog 6 #[.slice A n cap, .slice A0 m cap0, .int .i64 z] w fun e w' => e = .returned (.bool true) ∧ Below w.heap.size w w' := by
  by_cases hbig : 500 < n
  · have hbig' : (500 : Int) < (n : Int) := by omega
    clear hb hb0 hl hl0 hbig
    go_enter Try.func6, Try.ntmps6
    go_wp2_with fail
    refine (alive_any w).mono ?_
    rintro e w1 ⟨rfl, hbel1⟩
    go_wp2
    go_ret
    exact ⟨rfl, hbel1⟩
  have hsm : ¬ ((500 : Int) < (n : Int)) := by omega
  by_cases hbig2 : 5000 < m
  · have hbig' : (5000 : Int) < (m : Int) := by omega
    clear hb hb0 hl hl0 hbig hbig2
    go_enter Try.func6, Try.ntmps6
    go_wp2_with fail
    refine (alive_any w).mono ?_
    rintro e w1 ⟨rfl, hbel1⟩
    go_wp2
    go_ret
    exact ⟨rfl, hbel1⟩
  have hsm2 : ¬ ((5000 : Int) < (m : Int)) := by omega
  have C1 := fun w' hb1 hb2 => putInts_any A0 A m cap0 n cap b l w' hl0 hl (by omega) (by omega) hf hb1 hb2
  have hll := Pfor.list_length_le (foldL l) (by rw [foldL_length]; omega)
  rw [foldL_length, hl] at hll
  have hlen := takeList_len b z
  rw [hl0] at hlen
  have C2 := fun w' hb => takeInts_any A0 m cap0 b z w' hl0 hcap0 (by omega) hb hz0 hz1 (by omega)
  have C3 := fun w' B hb hB => refTakeInts_any A0 m cap0 B b z w' hl0 hcap0 (by omega) hb hB hz1 (by omega)
  have C4 := Lib.hid fun w' B hb hB => copy_any A0 m cap0 B b w' hl0 (by omega) hb hB
  have C5 := fun w' B hb hB => refInts_any A n cap B l w' hl (by omega) hf hb hB
  have hlen2 : (Pfor.takeInts b z).1.length ≤ 32 * m := by unfold Pfor.takeInts; simp only [unfoldL_length]; exact hlen
  clear hlen
  unfold TakesIPost at C2 C3
  generalize Pfor.takeInts b z = R at C2 C3 hlen2
  obtain ⟨L, k, E⟩ := R
  simp only at C2 C3 hlen2
  have C6 := Lib.hid fun A1 A2 c1 c2 B1 B2 w' h1 h2 => sameInts_any A1 A2 L.length c1 c2 B1 B2 L w' rfl (by omega) h1 h2
  generalize Pfor.list (foldL l) = T at *
  have hTl : (b ++ T).length = m + T.length := by rw [List.length_append, hl0]
  rw [hTl] at C1
  have C7 := Lib.hid fun A1 A2 c1 c2 B1 B2 w' h1 h2 => same_any A1 A2 (m + T.length) (m + T.length) c1 c2 B1 B2 (b ++ T) (b ++ T) w' hTl hTl h1 h2
  generalize hkl : T.length = t at *
  have Hkl := Lib.hid hkl
  generalize L.length = q at *
  replace C1 := Lib.hid C1
  replace C2 := Lib.hid C2
  replace C3 := Lib.hid C3
  replace C5 := Lib.hid C5
  have hkk : ((k : Int) == (k : Int)) = true := beq_self_eq_true _
  have hEE : ((E : Int) == (E : Int)) = true := beq_self_eq_true _
  generalize (k : Int) = κ at *
  generalize (E : Int) = ε at *
  clear hl hl0 hbig hbig2 hTl hkl
  go_enter Try.func6, Try.ntmps6
  go_wp2_with fail
  refine (alive_any w).mono ?_
  rintro e w1 ⟨rfl, hbel1⟩
  have hx1 := (hb.below hbel1).wide hbel1.size
  have hy1 := (hb0.below hbel1).wide hbel1.size
  go_wp2_with fail
  refine (C1.out w1 hy1 hx1).mono ?_
  rintro e w2 ⟨g2, c2, rfl, ho2, hb2⟩
  have hx2 := (hx1.below hb2).wide hb2.size
  have hy2 := (hy1.below hb2).wide hb2.size
  have hbel2 := hbel1.trans (hb2.mono hbel1.size)
  clear hx1 hy1 C1
  go_wp2_with fail
  refine (C2.out w2 hy2).mono ?_
  rintro e w3 ⟨A3, c3, rfl, ho3, hb3⟩
  have ho23 := ho2.below hb3
  have hx3 := (hx2.below hb3).wide hb3.size
  have hy3 := (hy2.below hb3).wide hb3.size
  have hbel3 := hbel2.trans (hb3.mono hbel2.size)
  clear hx2 hy2 C2 ho2
  go_wp2_with fail
  refine (C3.out w3 _ hy3 (Nat.le_refl _)).mono ?_
  rintro e w4 ⟨A4, c4, rfl, ho4, hb4⟩
  have ho24 := ho23.below hb4
  have ho34 := ho3.below hb4
  have hx4 := (hx3.below hb4).wide hb4.size
  have hy4 := (hy3.below hb4).wide hb4.size
  have hbel4 := hbel3.trans (hb4.mono hbel3.size)
  clear hx3 hy3 C3 ho23 ho3
  go_wp2_with fail
  refine (C4.out w4 _ hy4 (Nat.le_refl _)).mono ?_
  rintro e w5 ⟨A5, c5, rfl, ho5, hb5⟩
  have hx5 := (hx4.below hb5).wide hb5.size
  have hbel5 := hbel4.trans (hb5.mono hbel4.size)
  clear hx4 hy4 C4
  go_wp2_with fail
  refine (C5.out w5 _ hx5 (Nat.le_refl _)).mono ?_
  rintro e w6 ⟨g6, c6, rfl, ho6, hb6⟩
  have ho56 := ho5.below hb6
  have hbel6 := hbel5.trans (hb6.mono hbel5.size)
  have h6b := ho6.bytes
  have hsz6 : w4.heap.size ≤ w6.heap.size := Nat.le_trans hb5.size hb6.size
  have hb46 := hb5.trans (hb6.mono hb5.size)
  clear C5 hx5 ho5 ho6
  go_wp2_with (at_builtin; refine wpList_append_bytes rfl (.tmp 43) (.tmp 45) rfl w4.heap.size A5 m c5 b rfl ho56 _ _ t c6 T rfl Hkl.out h6b (by omega) hsz6 ?_; intro A7 c7 w7 ho7 hg7 hat7)
  have hb47 := hb46.grown hg7 hsz6 (fun k hk => (ho56.lt hk).1)
  have hbel7 := hbel4.trans (hb47.mono hbel4.size)
  have h2b := ho24.bytes.below hb47
  have h3r := ho34.row.below hb47
  have h4r := ho4.row.below hb47
  have S2 := C7.out _ A7 c2 c7 _ _ w7 h2b ho7.bytes
  rw [beq_self_eq_true] at S2
  replace S2 := Lib.hid S2
  clear ho24 ho34 ho4 ho56 hg7 hat7 hb46 h6b C7
  refine S2.out.mono ?_
  rintro e w8 ⟨rfl, rfl⟩
  clear S2
  go_wp2_with fail
  refine (C6.out A3 A4 c3 c4 _ _ w7 h3r h4r).mono ?_
  rintro e w9 ⟨rfl, hd⟩
  clear C6
  go_wp2
  go_ret
  exact ⟨rfl, hbel7.trans (hd.below _)⟩

/-- from the walk to the post of the row -/
theorem contract (H : Type) (enc : TypeId × Value → H) (W : World) (base : Nat) (args : Array Value) (ds gs : List (DataW H)) (before : List MemPlace)
    (hval : ∀ (j : Nat) t v, Try.f6.params[j]? = some t → args[j]? = some v → Value.okWide Try.prog W .any base t v)
    (hW : DataW.Whole enc Try.prog Try.f6.params.toList Rows.pforIntsSpec.vars false W args.toList ds gs before) (_ : laidMetH Try.prog Rows.pforIntsRow.laid W)
    (hsz0 : (DataW.weightsEach Try.prog (Try.f6.params.toList ++ Rows.pforIntsSpec.plain.varTypes Try.prog) (ds ++ gs)).all (· ≤ reachBytes) = true) :
    Calls Try.prog 6 args W fun e W' => ∃ v, e = .returned v ∧ Rows.pforIntsSpec.post enc Try.prog Try.f6 false true false false W args v W' := by
  have hW' := hW
  obtain ⟨p, q, hA0, hV, rfl, hfz, hnd⟩ := hW
  have hA : DataW.TrodAll enc Try.prog W 0 (fun _ => true) true Try.f6.params.toList args.toList ds p := hA0
  rw [Try.params6] at hA hval hsz0
  obtain ⟨v0, vs0, d0, ds0, p0, q0, hargs, rfl, rfl, h0, r0⟩ := trodAll_cons hA
  obtain ⟨v1, vs1, d1, ds1, p1, q1, rfl, rfl, rfl, h1, r1⟩ := trodAll_cons r0
  obtain ⟨v2, vs2, d2, ds2, p2, q2, rfl, rfl, rfl, h2, r2⟩ := trodAll_cons r1
  obtain ⟨rfl, rfl, rfl⟩ := trodAll_nil r2
  obtain rfl : args = #[v0, v1, v2] := by cases args; simp_all
  obtain ⟨rfl, rfl⟩ := trodVars_none hV
  obtain ⟨a0, len0, cap0, rfl⟩ := okWide_slice Try.underlying40 (hval 0 40 v0 rfl rfl)
  have lt0 : ∀ x ∈ p0, x.block < W.heap.size := by obtain ⟨m, hm⟩ := h0; exact DataW.trod_lt m _ _ _ hm
  obtain ⟨l0, e0, ec0, ef0, b0, k0⟩ := open_intsI h0
  have reach0 := reach_intsI hsz0 (j := 0) rfl rfl k0
  obtain ⟨a1, len1, cap1, rfl⟩ := okWide_slice Try.underlying22 (hval 1 22 v1 rfl rfl)
  have lt1 : ∀ x ∈ p1, x.block < W.heap.size := by obtain ⟨m, hm⟩ := h1; exact DataW.trod_lt m _ _ _ hm
  obtain ⟨l1, e1, ec1, b1, k1⟩ := open_bytes h1
  have reach1 := reach_bytes hsz0 (j := 1) rfl rfl k1
  obtain ⟨x2, rfl, rfl, rfl, w2⟩ := open_int Try.underlying3 (hval 2 3 v2 rfl rfl) h2
  clear hA0
  refine (walk a0 len0 cap0 l0 a1 len1 cap1 l1 x2 W e0 ec0 reach0 ef0 b0 e1 ec1 reach1 b1 (by have := bounds_i64 w2; omega) (by have := bounds_i64 w2; omega)).mono fun e W' ⟨he, bel⟩ => ?_
  subst he
  exact ⟨_, rfl, _, _, _, [], _, [], hW', trodAll_mk1 (shut_bool Try.underlying4 _), (trodAll_cons_mk (Below.trod laidOut (by kernel_rfl) (of_decide_eq_true (by kernel_rfl)) h0 bel lt0) (trodAll_cons_mk (Below.trod laidOut (by kernel_rfl) (of_decide_eq_true (by kernel_rfl)) h1 bel lt1) (trodAll_cons_mk (shut_int Try.underlying3 w2) trodAll_mk0))), rfl, bel.frame _, fun h => by cases h⟩

theorem laid_met (os : Os) : laidMet Try.prog Rows.pforIntsRow.laid ((World.holding Try.prog os ⟨#[], #[], []⟩).forCall (fun _ _ => 0) ⟨#[], #[.slice none 0 0, .slice none 0 0, .int .i64 0], []⟩).memory :=
  laidMet_of_run' 8 (by kernel_rfl) (by kernel_rfl)
theorem reads (os : Os) {H : Type} (enc : TypeId × Value → H) : ∃ places, DataW.whole enc Try.prog ((World.holding Try.prog os ⟨#[], #[], []⟩).forCall (fun _ _ => 0) ⟨#[], #[.slice none 0 0, .slice none 0 0, .int .i64 0], []⟩).memory Try.f6.params.toList Rows.pforIntsSpec.vars false #[Value.slice none 0 0, .slice none 0 0, .int .i64 0].toList 8 = some ([.nil, .nil, .lit (.int .i64 0)], [], places) :=
  ⟨[], by kernel_rfl⟩

set_option maxRecDepth 100000 in
theorem lifted (os : Os) (started : os.Started) (H : Type) (enc : TypeId × Value → H) (F : Stop.Interp) :
    ReturnsInHanded {} Try.checked os 6 .any ((OpenSpec.ofChange Rows.pforIntsSpec).preRow enc Try.prog Try.f6 Rows.pforIntsRow.domain false Rows.pforIntsRow.laid) (((OpenSpec.ofChange Rows.pforIntsSpec).at F).post enc Try.prog Try.f6 false true false false) := by
  obtain ⟨places, hx⟩ := reads os enc
  refine returnsInHanded_of_row (C := Try.checked) (s := OpenSpec.ofChange Rows.pforIntsSpec) own started (by kernel_rfl) Try.func6
    (witness_row_at (enc := enc) (C := Try.checked) false (World.holding Try.prog os ⟨#[], #[], []⟩) #[.slice none 0 0, .slice none 0 0, .int .i64 0] rfl (by kernel_rfl) (by kernel_rfl) (by kernel_rfl)
      (OpenSpec.preRow_of_cond 8 hx (by kernel_rfl) (fun k hk => by cases hk) (by kernel_rfl) (laid_met os))) ?_
  intro W base args ds gs before hval hW _ _ hsz hL _ _
  exact contract H enc W base args ds gs before hval hW hL hsz

theorem said : Rows.PforIntsSaid :=
  OpenClaim.holds_of_cond 6 Try.f6 rfl rfl rfl rfl rfl rfl rfl ⟨rfl, rfl, rfl, rfl, rfl⟩ rfl rfl rfl rfl rfl (by kernel_rfl) Try.func6 (by kernel_rfl)
    (of_decide_eq_true (by kernel_rfl)) (by unfold Func.isWrapper; first | (rw [if_pos (by decide +kernel)]; kernel_rfl) | (rw [if_neg (by decide +kernel)]; exact ⟨rfl, rfl⟩))
    (fun os started H enc _ F => by rw [OpenClaim.pre_eq_preRow]; exact lifted os started H enc F)

end Go.Proofs.Ytcknijkjacgnkaa.pforInts
