/- PROVED: the law SymDecodes (any bytes are decoded by any table as the document says, or with its error) returns true and leaves its arguments as they were, for every list of strings, byte slice and bound, of together at most 1048576 values and letters.
   Condition: that bound (the second form; the first is false by size alone). -/
import Derived.Test.YtmcioglidgbibaaSymLaw
import Derived.Test.YtmcioglidgbibaaSymRefDec
namespace Go.Proofs.Ytmcioglidgbibaa.symDecodes
open Go.ChangeShapes Go.WideShapes Go.ChangeAt Go.RowKit
set_option maxRecDepth 100000

set_option maxHeartbeats 1000000 in
theorem walk (A : Option Addr) (n cap : Nat) (t : List (List UInt8)) (Ab : Option Addr) (m capb : Nat) (b : List UInt8) (y : Int) (w : World)
    (hl : t.length = n) (hcap : n ≤ cap) (hn : 16 * n ≤ 140737488351232) (ht : Strs w w.heap.size A t) (hs : ∀ s ∈ t, s.length ≤ maxLen)
    (hlb : b.length = m) (hcapb : m ≤ capb) (_ : m ≤ 140737488351232) (hb : Bytes w w.heap.size Ab b) (h0 : -9223372036854775808 ≤ y) (h1 : y ≤ 9223372036854775807) (hu : n + m ≤ 1048576) :
    Calls Try.prog 5 #[.slice A n cap, .slice Ab m capb, .int .i64 y] w fun e w' => e = .returned (.bool true) ∧ Below w.heap.size w w' := by
  have C1 := fun w' B (h1 : Strs w' B A t) (hb : Bytes w' B Ab b) (hB : B ≤ w'.heap.size) => decode_any A Ab n m cap capb B y t b w' hl hcap (by omega) hlb hcapb (by omega) h0 (by omega) h1 hs hb hB
  have C2 := fun w' B (h1 : Strs w' B A t) (hb : Bytes w' B Ab b) (hB : B ≤ w'.heap.size) => refDecode_any A Ab n m cap capb B y t b w' hl (by omega) hlb hcapb (by omega) h0 (by omega) h1 hs hb hB
  rcases hR : Sym.decoded t b y with ⟨L, E⟩
  rw [hR] at C1 C2
  unfold PairPost at C1 C2
  dsimp only at C1 C2
  have C5 := fun A1 A2 c1 c2 B1 B2 w' h1 h2 => same_any A1 A2 L.length L.length c1 c2 B1 B2 L L w' rfl rfl h1 h2
  generalize L.length = k at *
  have hEE : ((E : Int) == (E : Int)) = true := by simp
  replace C1 := Lib.hid C1
  replace C2 := Lib.hid C2
  replace C5 := Lib.hid C5
  clear hl hlb hR
  go_enter Try.func5, Try.ntmps5
  go_wp2_with fail
  refine (symAlive_any w).mono ?_
  rintro e w1 ⟨rfl, hbel1⟩
  have hx1 := (hb.below hbel1).wide hbel1.size
  have ht1 := (ht.below hbel1).wide hbel1.size
  go_wp2_with fail
  refine (C1.out w1 _ ht1 hx1 (Nat.le_refl _)).mono ?_
  rintro e w2 ⟨A2, c2, rfl, ho2, hb2⟩
  have hx2 := (hx1.below hb2).wide hb2.size
  have ht2 := (ht1.below hb2).wide hb2.size
  have hbel2 := hbel1.trans (hb2.mono hbel1.size)
  clear hx1 ht1 C1
  go_wp2_with fail
  refine (C2.out w2 _ ht2 hx2 (Nat.le_refl _)).mono ?_
  rintro e w3 ⟨A3, c3, rfl, ho3, hb3⟩
  have hy3 := ho2.bytes.below hb3
  have hbel3 := hbel2.trans (hb3.mono hbel2.size)
  clear hx2 ht2 C2 ho2
  have S1 := C5.out A2 A3 c2 c3 _ _ w3 hy3 ho3.bytes
  rw [beq_self_eq_true] at S1
  replace S1 := Lib.hid S1
  clear C5
  go_wp2_with fail
  refine S1.out.mono ?_
  rintro e w5 ⟨rfl, rfl⟩
  clear S1
  go_wp2
  go_ret
  exact ⟨rfl, hbel3⟩

theorem short {H : Type} {d0 d1 d2 : DataW H} {n0 n1 : Nat} (hk : Rows.uptoSmall H [d0, d1, d2] = true)
    (h0 : d0 = .nil ∧ n0 = 0 ∨ ∃ elems spare, d0 = .slice elems spare ∧ elems.length = n0) (h1 : d1 = .nil ∧ n1 = 0 ∨ ∃ elems spare, d1 = .slice elems spare ∧ elems.length = n1) : n0 + n1 ≤ 1048576 := by
  have h : Rows.uptoBulkAll [d0, d1, d2] ≤ 1048576 := of_decide_eq_true hk
  simp only [Rows.uptoBulkAll] at h
  have g0 := bulk_le h0
  have g1 := bulk_le h1
  omega

/-- from the walk to the post of the row -/
theorem contract (H : Type) (enc : TypeId × Value → H) (W : World) (base : Nat) (args : Array Value) (ds gs : List (DataW H)) (before : List MemPlace)
    (hval : ∀ (j : Nat) t v, Try.f5.params[j]? = some t → args[j]? = some v → Value.okWide Try.prog W .any base t v)
    (hW : DataW.Whole enc Try.prog Try.f5.params.toList Rows.symDecodesSpec.vars false W args.toList ds gs before) (_ : laidMetH Try.prog Rows.symDecodesUptoRow.laid W)
    (hsz0 : (DataW.weightsEach Try.prog (Try.f5.params.toList ++ Rows.symDecodesSpec.plain.varTypes Try.prog) (ds ++ gs)).all (· ≤ reachBytes) = true) (hk : Rows.uptoSmall H (ds ++ gs) = true) :
    Calls Try.prog 5 args W fun e W' => ∃ v, e = .returned v ∧ Rows.symDecodesSpec.post enc Try.prog Try.f5 false true false false W args v W' := by
  have hW' := hW
  obtain ⟨p, q, hA0, hV, rfl, hfz, hnd⟩ := hW
  have hA : DataW.TrodAll enc Try.prog W 0 (fun _ => true) true Try.f5.params.toList args.toList ds p := hA0
  rw [Try.params5] at hA hval hsz0
  obtain ⟨v0, vs0, d0, ds0, p0, q0, hargs, rfl, rfl, h0, r0⟩ := trodAll_cons hA
  obtain ⟨v1, vs1, d1, ds1, p1, q1, rfl, rfl, rfl, h1, r1⟩ := trodAll_cons r0
  obtain ⟨v2, vs2, d2, ds2, p2, q2, rfl, rfl, rfl, h2, r2⟩ := trodAll_cons r1
  obtain ⟨rfl, rfl, rfl⟩ := trodAll_nil r2
  obtain rfl : args = #[v0, v1, v2] := by cases args; simp_all
  obtain ⟨rfl, rfl⟩ := trodVars_none hV
  obtain ⟨a0, len0, cap0, rfl⟩ := okWide_slice Try.underlying25 (hval 0 25 v0 rfl rfl)
  have lt0 : ∀ x ∈ p0, x.block < W.heap.size := by obtain ⟨m, hm⟩ := h0; exact DataW.trod_lt m _ _ _ hm
  obtain ⟨l0, e0, ec0, b0, em0, k0⟩ := open_strs h0
  have reach0 := reach_strs hsz0 (j := 0) rfl rfl k0
  obtain ⟨a1, len1, cap1, rfl⟩ := okWide_slice Try.underlying24 (hval 1 24 v1 rfl rfl)
  have lt1 : ∀ x ∈ p1, x.block < W.heap.size := by obtain ⟨m, hm⟩ := h1; exact DataW.trod_lt m _ _ _ hm
  obtain ⟨l1, e1, ec1, b1, k1⟩ := open_bytes h1
  have reach1 := reach_bytes hsz0 (j := 1) rfl rfl k1
  obtain ⟨x2, rfl, rfl, rfl, w2⟩ := open_int Try.underlying3 (hval 2 3 v2 rfl rfl) h2
  clear hA0
  have hs := short (by simpa using hk) k0 k1
  refine (walk a0 len0 cap0 l0 a1 len1 cap1 l1 x2 W e0 ec0 reach0 b0 em0 e1 ec1 reach1 b1 (by have := bounds_i64 w2; omega) (by have := bounds_i64 w2; omega) hs).mono fun e W' ⟨he, bel⟩ => ?_
  subst he
  exact ⟨_, rfl, _, _, _, [], _, [], hW', trodAll_mk1 (shut_bool Try.underlying4 _), (trodAll_cons_mk (Below.trod laidOut (by kernel_rfl) (of_decide_eq_true (by kernel_rfl)) h0 bel lt0) (trodAll_cons_mk (Below.trod laidOut (by kernel_rfl) (of_decide_eq_true (by kernel_rfl)) h1 bel lt1) (trodAll_cons_mk (shut_int Try.underlying3 w2) trodAll_mk0))), rfl, bel.frame _, fun h => by cases h⟩

theorem laid_met (os : Os) : laidMet Try.prog Rows.symDecodesUptoRow.laid ((World.holding Try.prog os ⟨#[], #[], []⟩).forCall (fun _ _ => 0) ⟨#[], #[.slice none 0 0, .slice none 0 0, .int .i64 0], []⟩).memory :=
  laidMet_of_run' 8 (by kernel_rfl) (by kernel_rfl)
theorem reads (os : Os) {H : Type} (enc : TypeId × Value → H) : ∃ places, DataW.whole enc Try.prog ((World.holding Try.prog os ⟨#[], #[], []⟩).forCall (fun _ _ => 0) ⟨#[], #[.slice none 0 0, .slice none 0 0, .int .i64 0], []⟩).memory Try.f5.params.toList Rows.symDecodesSpec.vars false #[Value.slice none 0 0, .slice none 0 0, .int .i64 0].toList 8 = some ([.nil, .nil, .lit (.int .i64 0)], [], places) :=
  ⟨[], by kernel_rfl⟩

set_option maxRecDepth 100000 in
theorem lifted (os : Os) (started : os.Started) (H : Type) (enc : TypeId × Value → H) (F : Stop.Interp) :
    ReturnsInHanded {} Try.checked os 5 .any ((Rows.OpenSpec.upto Rows.symDecodesSpec).preRow enc Try.prog Try.f5 Rows.symDecodesUptoRow.domain false Rows.symDecodesUptoRow.laid) (((Rows.OpenSpec.upto Rows.symDecodesSpec).at F).post enc Try.prog Try.f5 false true false false) := by
  obtain ⟨places, hx⟩ := reads os enc
  refine returnsInHanded_of_row (C := Try.checked) (s := Rows.OpenSpec.upto Rows.symDecodesSpec) own started (by kernel_rfl) Try.func5
    (witness_row_at (enc := enc) (C := Try.checked) false (World.holding Try.prog os ⟨#[], #[], []⟩) #[.slice none 0 0, .slice none 0 0, .int .i64 0] rfl (by kernel_rfl) (by kernel_rfl) (by kernel_rfl)
      (OpenSpec.preRow_of_cond 8 hx (by kernel_rfl) (fun k hk => by cases hk; kernel_rfl) (by kernel_rfl) (laid_met os))) ?_
  intro W base args ds gs before hval hW _ hcond hsz hL _ _
  exact contract H enc W base args ds gs before hval hW hL hsz (hcond _ rfl)

theorem said : Rows.SymDecodesUptoSaid :=
  OpenClaim.holds_of_cond 5 Try.f5 rfl rfl rfl rfl rfl rfl rfl ⟨rfl, rfl, rfl, rfl, rfl⟩ rfl rfl rfl rfl rfl (by kernel_rfl) Try.func5 (by kernel_rfl)
    (of_decide_eq_true (by kernel_rfl)) (by unfold Func.isWrapper; first | (rw [if_pos (by decide +kernel)]; kernel_rfl) | (rw [if_neg (by decide +kernel)]; exact ⟨rfl, rfl⟩))
    (fun os started H enc _ F => by rw [OpenClaim.pre_eq_preRow]; exact lifted os started H enc F)

end Go.Proofs.Ytmcioglidgbibaa.symDecodes
