/- PROVED: the law SymEncodes (any bytes are encoded by any table as the document says, or refused, and stay) returns true and leaves its arguments as they were, for every list of strings and byte slice of together at most 1048576 values and letters.
   Condition: that bound (the second form; the first is false by size alone). -/
import Derived.Test.YtmcioglidgbibaaSymLaw
import Derived.Test.YtmcioglidgbibaaSymRefEnc
namespace Go.Proofs.Ytmcioglidgbibaa.symEncodes
open Go.ChangeShapes Go.WideShapes Go.ChangeAt Go.RowKit
set_option maxRecDepth 100000

set_option maxHeartbeats 1000000 in
theorem walk (A : Option Addr) (n cap : Nat) (t : List (List UInt8)) (Ab : Option Addr) (m capb : Nat) (b : List UInt8) (w : World)
    (hl : t.length = n) (_ : n ≤ cap) (hn : 16 * n ≤ 140737488351232) (ht : Strs w w.heap.size A t) (hs : ∀ s ∈ t, s.length ≤ maxLen)
    (hlb : b.length = m) (hcapb : m ≤ capb) (_ : m ≤ 140737488351232) (hb : Bytes w w.heap.size Ab b) (hu : n + m ≤ 1048576) :
    Calls Try.prog 4 #[.slice A n cap, .slice Ab m capb] w fun e w' => e = .returned (.bool true) ∧ Below w.heap.size w w' := by
  have K1 := fun w' B (h1 : Strs w' B A t) (hB : B ≤ w'.heap.size) => copyStr_any A n cap B t w' hl (by omega) h1 hB
  have K2 := fun w' B (hb : Bytes w' B Ab b) (hB : B ≤ w'.heap.size) => copy_any Ab m capb B b w' hlb (by omega) hb hB
  have C1 := fun A1 A2 c1 c2 w' B (hc1 : n ≤ c1) (hc2 : m ≤ c2) (h1 : Strs w' B A1 t) (hb : Bytes w' B A2 b) (hB : B ≤ w'.heap.size) => encode_any A1 A2 n m c1 c2 B t b w' hl hc1 (by omega) hlb hc2 (by omega) h1 hs hb hB
  have C2 := fun w' B (h1 : Strs w' B A t) (hb : Bytes w' B Ab b) (hB : B ≤ w'.heap.size) => refEncode_any A Ab n m cap capb B t b w' hl (by omega) hlb hcapb (by omega) h1 hs hb hB
  have F1 := Lib.hid fun A1 c1 w' B (hc1 : n ≤ c1) (h1 : Strs w' B A1 t) => formed_any A1 n c1 B t w' hl hc1 (by omega) h1 hs
  have F2 := Lib.hid fun w' B (h1 : Strs w' B A t) => refFormed_any A n cap B t w' hl (by omega) h1 hs
  have S2 := Lib.hid fun A1 A2 c1 c2 B1 B2 w' (h1 : Strs w' B1 A1 t) (h2 : Strs w' B2 A2 t) => sameStr_any A1 A2 n c1 c2 B1 B2 t w' hl (by omega) h1 h2
  have S3 := Lib.hid fun A1 A2 c1 c2 B1 B2 w' (h1 : Bytes w' B1 A1 b) (h2 : Bytes w' B2 A2 b) => same_any A1 A2 m m c1 c2 B1 B2 b b w' hlb hlb h1 h2
  rcases hR : Sym.encoded t b with ⟨L, E⟩
  rw [hR] at C1 C2
  unfold PairPost at C1 C2
  dsimp only at C1 C2
  have C5 := fun A1 A2 c1 c2 B1 B2 w' h1 h2 => same_any A1 A2 L.length L.length c1 c2 B1 B2 L L w' rfl rfl h1 h2
  generalize L.length = k at *
  have hEE : ((E : Int) == (E : Int)) = true := by simp
  generalize Sym.formed t = fd at *
  have hff : (fd == fd) = true := by simp
  replace C1 := Lib.hid C1
  replace C2 := Lib.hid C2
  replace C5 := Lib.hid C5
  replace K1 := Lib.hid K1
  replace K2 := Lib.hid K2
  clear hl hlb hR
  go_enter Try.func4, Try.ntmps4
  go_wp2_with fail
  refine (symAlive_any w).mono ?_
  rintro e w1 ⟨rfl, hbel1⟩
  have hx1 := (hb.below hbel1).wide hbel1.size
  have ht1 := (ht.below hbel1).wide hbel1.size
  go_wp2_with fail
  refine (K1.out w1 _ ht1 (Nat.le_refl _)).mono ?_
  rintro e w2 ⟨A2, c2, rfl, ho2, hb2⟩
  have hx2 := (hx1.below hb2).wide hb2.size
  have ht2 := (ht1.below hb2).wide hb2.size
  have hbel2 := hbel1.trans (hb2.mono hbel1.size)
  clear hx1 ht1 K1
  go_wp2_with fail
  refine (K2.out w2 _ hx2 (Nat.le_refl _)).mono ?_
  rintro e w3 ⟨A3, c3, rfl, ho3, hb3⟩
  have hx3 := (hx2.below hb3).wide hb3.size
  have ht3 := (ht2.below hb3).wide hb3.size
  have hown3 := ho2.below hb3
  have hbel3 := hbel2.trans (hb3.mono hbel2.size)
  clear hx2 ht2 K2 ho2
  go_wp2_with fail
  refine (C1.out A2 A3 c2 c3 w3 _ hown3.cap (by exact ho3.cap) hown3.row ho3.bytes (Nat.le_refl _)).mono ?_
  rintro e w4 ⟨A4, c4, rfl, ho4, hb4⟩
  have hx4 := (hx3.below hb4).wide hb4.size
  have ht4 := (ht3.below hb4).wide hb4.size
  have hown4 := hown3.below hb4
  have hmine4 := ho3.below hb4
  have hbel4 := hbel3.trans (hb4.mono hbel3.size)
  clear hx3 ht3 C1 hown3 ho3
  go_wp2_with fail
  refine (C2.out w4 _ ht4 hx4 (Nat.le_refl _)).mono ?_
  rintro e w5 ⟨A5, c5, rfl, ho5, hb5⟩
  have hx5 := hx4.below hb5
  have ht5 := ht4.below hb5
  have hown5 := hown4.below hb5
  have hmine5 := hmine4.below hb5
  have hy5 := ho4.bytes.below hb5
  have hbel5 := hbel4.trans (hb5.mono hbel4.size)
  clear hx4 ht4 C2 hown4 hmine4 ho4
  have T1 := C5.out A4 A5 c4 c5 _ _ w5 hy5 ho5.bytes
  rw [beq_self_eq_true] at T1
  replace T1 := Lib.hid T1
  clear C5
  go_wp2_with fail
  refine T1.out.mono ?_
  rintro e w6 ⟨rfl, rfl⟩
  clear T1
  go_wp2_with fail
  refine (F1.out A2 c2 w5 _ hown5.cap hown5.row).mono ?_
  rintro e w6 ⟨rfl, rfl⟩
  go_wp2_with fail
  refine (F2.out w5 _ ht5).mono ?_
  rintro e w6 ⟨rfl, hd6⟩
  have hx6 : Bytes w6 _ Ab b := hx5.below (hd6.below _)
  have ht6 : Strs w6 _ A t := ht5.below (hd6.below _)
  have hown6 : Strs w6 _ A2 t := hown5.row.below (hd6.below _)
  have hmine6 : Bytes w6 _ A3 b := hmine5.bytes.below (hd6.below _)
  have hbel6 := hbel5.trans (hd6.below w.heap.size)
  clear F1 F2 hx5 ht5 hown5 hmine5 hd6
  go_wp2_with fail
  refine (S2.out A2 A c2 cap _ _ w6 hown6 ht6).mono ?_
  rintro e w7 ⟨rfl, hd7⟩
  have hx7 : Bytes w7 _ Ab b := hx6.below (hd7.below _)
  have hmine7 : Bytes w7 _ A3 b := hmine6.below (hd7.below _)
  have hbel7 := hbel6.trans (hd7.below w.heap.size)
  clear S2 hx6 ht6 hown6 hmine6 hd7
  have T3 := S3.out A3 Ab c3 capb _ _ w7 hmine7 hx7
  rw [beq_self_eq_true] at T3
  replace T3 := Lib.hid T3
  clear S3
  go_wp2_with fail
  refine T3.out.mono ?_
  rintro e w8 ⟨rfl, rfl⟩
  clear T3
  go_wp2
  go_ret
  exact ⟨rfl, hbel7⟩

theorem short {H : Type} {d0 d1 : DataW H} {n0 n1 : Nat} (hk : Rows.uptoSmall H [d0, d1] = true)
    (h0 : d0 = .nil ∧ n0 = 0 ∨ ∃ elems spare, d0 = .slice elems spare ∧ elems.length = n0) (h1 : d1 = .nil ∧ n1 = 0 ∨ ∃ elems spare, d1 = .slice elems spare ∧ elems.length = n1) : n0 + n1 ≤ 1048576 := by
  have h : Rows.uptoBulkAll [d0, d1] ≤ 1048576 := of_decide_eq_true hk
  simp only [Rows.uptoBulkAll] at h
  have g0 := bulk_le h0
  have g1 := bulk_le h1
  omega

/-- from the walk to the post of the row -/
theorem contract (H : Type) (enc : TypeId × Value → H) (W : World) (base : Nat) (args : Array Value) (ds gs : List (DataW H)) (before : List MemPlace)
    (hval : ∀ (j : Nat) t v, Try.f4.params[j]? = some t → args[j]? = some v → Value.okWide Try.prog W .any base t v)
    (hW : DataW.Whole enc Try.prog Try.f4.params.toList Rows.symEncodesSpec.vars false W args.toList ds gs before) (_ : laidMetH Try.prog Rows.symEncodesUptoRow.laid W)
    (hsz0 : (DataW.weightsEach Try.prog (Try.f4.params.toList ++ Rows.symEncodesSpec.plain.varTypes Try.prog) (ds ++ gs)).all (· ≤ reachBytes) = true) (hk : Rows.uptoSmall H (ds ++ gs) = true) :
    Calls Try.prog 4 args W fun e W' => ∃ v, e = .returned v ∧ Rows.symEncodesSpec.post enc Try.prog Try.f4 false true false false W args v W' := by
  have hW' := hW
  obtain ⟨p, q, hA0, hV, rfl, hfz, hnd⟩ := hW
  have hA : DataW.TrodAll enc Try.prog W 0 (fun _ => true) true Try.f4.params.toList args.toList ds p := hA0
  rw [Try.params4] at hA hval hsz0
  obtain ⟨v0, vs0, d0, ds0, p0, q0, hargs, rfl, rfl, h0, r0⟩ := trodAll_cons hA
  obtain ⟨v1, vs1, d1, ds1, p1, q1, rfl, rfl, rfl, h1, r1⟩ := trodAll_cons r0
  obtain ⟨rfl, rfl, rfl⟩ := trodAll_nil r1
  obtain rfl : args = #[v0, v1] := by cases args; simp_all
  obtain ⟨rfl, rfl⟩ := trodVars_none hV
  obtain ⟨a0, len0, cap0, rfl⟩ := okWide_slice Try.underlying25 (hval 0 25 v0 rfl rfl)
  have lt0 : ∀ x ∈ p0, x.block < W.heap.size := by obtain ⟨m, hm⟩ := h0; exact DataW.trod_lt m _ _ _ hm
  obtain ⟨l0, e0, ec0, b0, em0, k0⟩ := open_strs h0
  have reach0 := reach_strs hsz0 (j := 0) rfl rfl k0
  obtain ⟨a1, len1, cap1, rfl⟩ := okWide_slice Try.underlying24 (hval 1 24 v1 rfl rfl)
  have lt1 : ∀ x ∈ p1, x.block < W.heap.size := by obtain ⟨m, hm⟩ := h1; exact DataW.trod_lt m _ _ _ hm
  obtain ⟨l1, e1, ec1, b1, k1⟩ := open_bytes h1
  have reach1 := reach_bytes hsz0 (j := 1) rfl rfl k1
  clear hA0
  have hs := short (by simpa using hk) k0 k1
  refine (walk a0 len0 cap0 l0 a1 len1 cap1 l1 W e0 ec0 reach0 b0 em0 e1 ec1 reach1 b1 hs).mono fun e W' ⟨he, bel⟩ => ?_
  subst he
  exact ⟨_, rfl, _, _, _, [], _, [], hW', trodAll_mk1 (shut_bool Try.underlying4 _), (trodAll_cons_mk (Below.trod laidOut (by kernel_rfl) (of_decide_eq_true (by kernel_rfl)) h0 bel lt0) (trodAll_cons_mk (Below.trod laidOut (by kernel_rfl) (of_decide_eq_true (by kernel_rfl)) h1 bel lt1) trodAll_mk0)), rfl, bel.frame _, fun h => by cases h⟩

theorem laid_met (os : Os) : laidMet Try.prog Rows.symEncodesUptoRow.laid ((World.holding Try.prog os ⟨#[], #[], []⟩).forCall (fun _ _ => 0) ⟨#[], #[.slice none 0 0, .slice none 0 0], []⟩).memory :=
  laidMet_of_run' 8 (by kernel_rfl) (by kernel_rfl)
theorem reads (os : Os) {H : Type} (enc : TypeId × Value → H) : ∃ places, DataW.whole enc Try.prog ((World.holding Try.prog os ⟨#[], #[], []⟩).forCall (fun _ _ => 0) ⟨#[], #[.slice none 0 0, .slice none 0 0], []⟩).memory Try.f4.params.toList Rows.symEncodesSpec.vars false #[Value.slice none 0 0, .slice none 0 0].toList 8 = some ([.nil, .nil], [], places) :=
  ⟨[], by kernel_rfl⟩

set_option maxRecDepth 100000 in
theorem lifted (os : Os) (started : os.Started) (H : Type) (enc : TypeId × Value → H) (F : Stop.Interp) :
    ReturnsInHanded {} Try.checked os 4 .any ((Rows.OpenSpec.upto Rows.symEncodesSpec).preRow enc Try.prog Try.f4 Rows.symEncodesUptoRow.domain false Rows.symEncodesUptoRow.laid) (((Rows.OpenSpec.upto Rows.symEncodesSpec).at F).post enc Try.prog Try.f4 false true false false) := by
  obtain ⟨places, hx⟩ := reads os enc
  refine returnsInHanded_of_row (C := Try.checked) (s := Rows.OpenSpec.upto Rows.symEncodesSpec) own started (by kernel_rfl) Try.func4
    (witness_row_at (enc := enc) (C := Try.checked) false (World.holding Try.prog os ⟨#[], #[], []⟩) #[.slice none 0 0, .slice none 0 0] rfl (by kernel_rfl) (by kernel_rfl) (by kernel_rfl)
      (OpenSpec.preRow_of_cond 8 hx (by kernel_rfl) (fun k hk => by cases hk; kernel_rfl) (by kernel_rfl) (laid_met os))) ?_
  intro W base args ds gs before hval hW _ hcond hsz hL _ _
  exact contract H enc W base args ds gs before hval hW hL hsz (hcond _ rfl)

theorem said : Rows.SymEncodesUptoSaid :=
  OpenClaim.holds_of_cond 4 Try.f4 rfl rfl rfl rfl rfl rfl rfl ⟨rfl, rfl, rfl, rfl, rfl⟩ rfl rfl rfl rfl rfl (by kernel_rfl) Try.func4 (by kernel_rfl)
    (of_decide_eq_true (by kernel_rfl)) (by unfold Func.isWrapper; first | (rw [if_pos (by decide +kernel)]; kernel_rfl) | (rw [if_neg (by decide +kernel)]; exact ⟨rfl, rfl⟩))
    (fun os started H enc _ F => by rw [OpenClaim.pre_eq_preRow]; exact lifted os started H enc F)

end Go.Proofs.Ytmcioglidgbibaa.symEncodes
