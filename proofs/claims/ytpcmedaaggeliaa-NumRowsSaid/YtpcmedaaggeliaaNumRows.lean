/- PROVED: the law NumRows (any row is put and taken as the document says, or refused, and what is taken is new memory) returns true and leaves its arguments as they were, for every two byte slices and every int.
   Conditions: none but the form's own reach (a slice has fewer than 2^47 bytes). -/
import Derived.Test.YtpcmedaaggeliaaLawIn
import Derived.Test.YtpcmedaaggeliaaNumLaw
import Derived.Test.YtpcmedaaggeliaaTakeRow
namespace Go.Proofs.Ytpcmedaaggeliaa.numRows
open Go.ChangeShapes Go.WideShapes Go.ChangeAt Go.RowKit

set_option maxHeartbeats 2000000 in
theorem walk (A : Option Addr) (n cap : Nat) (l : List UInt8) (A2 : Option Addr) (n2 cap2 : Nat) (l2 : List UInt8) (most : Int) (w : World)
    (hl : l.length = n) (hcap : n ≤ cap) (hn : n ≤ 140737488351232) (hb : Bytes w w.heap.size A l) (hl2 : l2.length = n2) (_ : n2 ≤ cap2) (hn2 : n2 ≤ 140737488351232) (hb2 : Bytes w w.heap.size A2 l2)
    (h0 : -9223372036854775808 ≤ most) (h1 : most ≤ 9223372036854775807) :
    Calls Try.prog 6 #[.slice A n cap, .slice A2 n2 cap2, .int .i64 most] w fun e w' => e = .returned (.bool true) ∧ Below w.heap.size w w' := by
  have Hl := Lib.hid hl
  have C1 := Lib.hid fun g w' B hb hb2 hB => putRow_any (some ⟨g, 0, none⟩) A2 n n2 (n + 20) cap2 B w.heap.size l l2 w' hl hl2 (by omega) (by omega) hb hb2 hB
  have C2 := Lib.hid fun g w' B hb hB => takeRow_any (some ⟨g, 0, none⟩) n (n + 20) B l most w' hl (by omega) (by omega) hb hB h0 h1
  have C3 := Lib.hid fun w' B hb hB => refTakeRow_any A n cap B l most w' hl hcap (by omega) hb hB h0 h1
  have C4 := Lib.hid fun w' B hb hB => refRow_any A2 n2 cap2 B l2 w' hl2 (by omega) hb hB
  have Hr : (Num.row l2).length = Num.size n2 + n2 := by rw [Num.row_length, hl2]
  have hs9 := Num.size_le9 (v := n2) (by omega)
  replace Hr := Lib.hid Hr
  have hple := Num.takeRow_le l most
  rw [hl] at hple
  clear hl hl2 h0 h1
  have hm : Num.size n2 + n2 ≤ 140737488351232 + 9 := by omega
  generalize Num.size n2 + n2 = m at *
  generalize Num.row l2 = N at *
  generalize Num.takeRow l most = R at *
  obtain ⟨P, ks, es⟩ := R
  unfold RowPost at C2 C3
  simp only at C2 C3 hple
  generalize hp : P.length = pl at *
  have Hp := Lib.hid hp; clear hp hs9 hcap
  go_enter Try.func6, Try.ntmps6
  go_wp2_with fail
  refine (alive_any w).mono ?_
  rintro e w1 ⟨rfl, hbel1⟩
  have hx1 := hb.below hbel1
  have hy1 := hb2.below hbel1
  go_wp2_with fail
  refine (spare_any A n cap w.heap.size l w1 Hl.out (by omega) hx1 hbel1.size).mono ?_
  rintro e w2 ⟨g, rfl, ho2, hbel2⟩
  have hx2 := (hx1.wide hbel1.size).below hbel2
  have hy2 := hy1.below (hbel2.mono hbel1.size)
  have hown : Bytes w2 w2.heap.size (some ⟨g, 0, none⟩) l := by
    have := ho2.bytes.take n
    rwa [List.take_left' Hl.out] at this
  have hsz2 := Nat.le_trans hbel1.size hbel2.size
  go_wp2_with fail
  refine (C1.out g w2 w2.heap.size hown hy2 (Nat.le_refl _) hsz2).mono ?_
  rintro e w3 ⟨g3, c3, rfl, ho3, hbel3⟩
  have hown3 := hown.below hbel3
  have ho23 := ho2.below hbel3
  have hx3 := (hx2.wide hbel2.size).below hbel3
  have hy3 := hy2.below (hbel3.mono hsz2)
  clear C1 hown ho2 hx1 hx2 hy1 hy2
  go_wp2_with fail
  refine (C2.out g w3 w2.heap.size hown3 hbel3.size).mono ?_
  rintro e w4 ⟨A4, c4, rfl, ho4, hbel4⟩
  have ho24 := ho23.below hbel4
  have ho34 := ho3.below hbel4
  have hx4 := (hx3.wide hbel3.size).below hbel4
  have hsz3 := Nat.le_trans hsz2 hbel3.size
  have hy4 := hy3.below (hbel4.mono hsz3)
  have Ho23 := Lib.hid ho23
  have Hx3 := Lib.hid (hx3.wide hbel3.size)
  clear C2 hown3 ho23 ho3 hx3 hy3
  go_wp2_with fail
  refine (C3.out w4 w3.heap.size hx4 hbel4.size).mono ?_
  rintro e w5 ⟨A5, c5, rfl, ho5, hbel5⟩
  have ho25 := ho24.below hbel5
  have ho35 := ho34.below hbel5
  have ho45 := ho4.below hbel5
  have hx5 := (hx4.wide hbel4.size).below hbel5
  have hsz4 := Nat.le_trans hsz3 hbel4.size
  have hy5 := hy4.below (hbel5.mono hsz4)
  clear C3 ho24 ho34 ho4 hx4 hy4
  go_wp2_with fail
  refine (same_any A4 A5 pl pl c4 c5 _ _ P P w5 Hp.out Hp.out ho45.bytes ho5.bytes).mono ?_
  rintro e w6 ⟨rfl, rfl⟩
  rw [beq_self_eq_true]
  clear ho5
  go_wp2_with fail
  refine (C4.out w5 w.heap.size hy5 (Nat.le_trans hsz4 hbel5.size)).mono ?_
  rintro e w6 ⟨g6, c6, rfl, ho6, hbel6⟩
  have ho26 := ho25.below hbel6
  have ho36 := ho35.below hbel6
  have ho46 := ho45.below hbel6
  have hx6 := (hx5.wide hbel5.size).below hbel6
  have hc3 := ho36.cap
  clear C4 ho25 ho35 ho45 hx5 hy5
  go_wp2_with fail
  refine (behind_any _ A _ n m c3 cap c6 _ _ _ l N w6 Hl.out Hr.out hc3 (by omega) ho36.bytes hx6 ho6.bytes).mono ?_
  rintro e w7 ⟨rfl, rfl⟩
  clear ho36 ho6 hb hb2
  have h36 := hbel4.trans ((hbel5.trans (hbel6.mono hbel5.size)).mono hbel4.size)
  have HB := Lib.hid (hbel1.trans ((hbel2.trans ((hbel3.trans (h36.mono hbel3.size)).mono hbel2.size)).mono hbel1.size))
  have HS := Lib.hid (Nat.le_trans hbel1.size (Nat.le_trans hbel2.size hbel3.size))
  have H36 := Lib.hid h36
  clear hbel1 hbel2 hbel3 hbel4 hbel5 hbel6 h36 hx6 ho26 hsz2 hsz3 hsz4 hc3
  go_wp2
  go_loopw [16] (fun i wr => ∃ (k : Nat) (l' : List UInt8), k ≤ pl ∧ i = .int .i64 k ∧ Own wr w3.heap.size A4 pl c4 l' ∧ Below w3.heap.size w6 wr) (fun i _ => pl - (intOf i).toNat)
  case atStart => exact ⟨0, P, Nat.zero_le _, rfl, ho46, Below.refl _ _⟩
  case round =>
    obtain ⟨k, l', hk, rfl, ho, hbl⟩ := hrel
    have Hl' := Lib.hid ho.len
    by_cases hlt : k < pl
    · obtain ⟨g4, rfl, hg1, hg2⟩ := ho.at_ (by omega)
      have hk' : k < l'.length := by have := Hl'.out; omega
      have hcell := ho.cell hk'
      have hfree := ho.free k
      generalize hbyte : l'[k].toNat = b at hcell
      have hb256 : b < 256 := by rw [← hbyte]; exact Num.byte_lt _
      clear hbyte
      have hx : bits .xor .u8 (b : Int) 255 = ((b ^^^ 255 : Nat) : Int) := u8_xor_nat b 255 hb256 (by omega)
      have hst := ho.store k (UInt8.ofNat (b ^^^ 255))
      rw [bval_small (Nat.xor_lt_two_pow (n := 8) hb256 (by omega))] at hst
      have Hst := Lib.hid hst; clear hst
      have Hbl := Lib.hid (hbl.setCell (p := ⟨g4, k, none⟩) hg1 (.int .u8 ((b ^^^ 255 : Nat) : Int)))
      generalize b ^^^ 255 = z at hx Hst Hbl
      go_wp2
      go_roundw
      case rel => exact ⟨k + 1, _, by omega, by go_num, Hst.out, Hbl.out⟩
      case measure => simp [intOf]; omega
    · obtain rfl : k = pl := by omega
      go_wp2_with fail
      have hall := H36.out.trans hbl
      refine (kept_any g n cap _ w1.heap.size A l wr Hl.out (by omega) (Ho23.out.below hall) (Hx3.out.below hall)).mono ?_
      rintro e w8 ⟨rfl, rfl⟩
      go_wp2
      go_ret
      exact ⟨rfl, HB.out.trans (hbl.mono HS.out)⟩

/-- from the walk to the post of the row -/
theorem contract (H : Type) (enc : TypeId × Value → H) (W : World) (base : Nat) (args : Array Value) (ds gs : List (DataW H)) (before : List MemPlace)
    (hval : ∀ (j : Nat) t v, Try.f6.params[j]? = some t → args[j]? = some v → Value.okWide Try.prog W .any base t v)
    (hW : DataW.Whole enc Try.prog Try.f6.params.toList Rows.numRowsSpec.vars false W args.toList ds gs before) (_ : laidMetH Try.prog Rows.numRowsRow.laid W)
    (hsz0 : (DataW.weightsEach Try.prog (Try.f6.params.toList ++ Rows.numRowsSpec.plain.varTypes Try.prog) (ds ++ gs)).all (· ≤ reachBytes) = true) :
    Calls Try.prog 6 args W fun e W' => ∃ v, e = .returned v ∧ Rows.numRowsSpec.post enc Try.prog Try.f6 false true false false W args v W' := by
  have hW' := hW
  obtain ⟨p, q, hA0, hV, rfl, hfz, hnd⟩ := hW
  have hA : DataW.TrodAll enc Try.prog W 0 (fun _ => true) true Try.f6.params.toList args.toList ds p := hA0
  rw [Try.params6] at hA hval hsz0
  obtain ⟨v0, vs0, d0, ds0, p0, q0, hargs, rfl, rfl, h0, r0⟩ := trodAll_cons hA
  obtain ⟨v1, vs1, d1, ds1, p1, q1, rfl, rfl, rfl, h1, r1⟩ := trodAll_cons r0
  obtain ⟨v2, vs2, d2, ds2, p2, q2, rfl, rfl, rfl, h2, r2⟩ := trodAll_cons r1
  obtain ⟨rfl, rfl, rfl⟩ := trodAll_nil r2
  obtain rfl : args = #[v0, v1, v2] := by cases args; simp_all
  obtain ⟨rfl, rfl⟩ := trodVars_none hV
  obtain ⟨a0, len0, cap0, rfl⟩ := okWide_slice Try.underlying22 (hval 0 22 v0 rfl rfl)
  have lt0 : ∀ x ∈ p0, x.block < W.heap.size := by obtain ⟨m, hm⟩ := h0; exact DataW.trod_lt m _ _ _ hm
  obtain ⟨l0, e0, ec0, b0, k0⟩ := open_bytes h0
  have reach0 := reach_bytes hsz0 (j := 0) rfl rfl k0
  obtain ⟨a1, len1, cap1, rfl⟩ := okWide_slice Try.underlying22 (hval 1 22 v1 rfl rfl)
  have lt1 : ∀ x ∈ p1, x.block < W.heap.size := by obtain ⟨m, hm⟩ := h1; exact DataW.trod_lt m _ _ _ hm
  obtain ⟨l1, e1, ec1, b1, k1⟩ := open_bytes h1
  have reach1 := reach_bytes hsz0 (j := 1) rfl rfl k1
  obtain ⟨x2, rfl, rfl, rfl, w2⟩ := open_int Try.underlying3 (hval 2 3 v2 rfl rfl) h2
  clear hA0
  refine (walk a0 len0 cap0 l0 a1 len1 cap1 l1 x2 W e0 ec0 reach0 b0 e1 ec1 reach1 b1 (by have := bounds_i64 w2; omega) (by have := bounds_i64 w2; omega)).mono fun e W' ⟨he, bel⟩ => ?_
  subst he
  exact ⟨_, rfl, _, _, _, [], _, [], hW', trodAll_mk1 (shut_bool Try.underlying4 _), (trodAll_cons_mk (Below.trod laidOut (by kernel_rfl) (of_decide_eq_true (by kernel_rfl)) h0 bel lt0) (trodAll_cons_mk (Below.trod laidOut (by kernel_rfl) (of_decide_eq_true (by kernel_rfl)) h1 bel lt1) (trodAll_cons_mk (shut_int Try.underlying3 w2) trodAll_mk0))), rfl, bel.frame _, fun h => by cases h⟩

theorem laid_met (os : Os) : laidMet Try.prog Rows.numRowsRow.laid ((World.holding Try.prog os ⟨#[], #[], []⟩).forCall (fun _ _ => 0) ⟨#[], #[.slice none 0 0, .slice none 0 0, .int .i64 0], []⟩).memory :=
  laidMet_of_run' 8 (by kernel_rfl) (by kernel_rfl)
theorem reads (os : Os) {H : Type} (enc : TypeId × Value → H) : ∃ places, DataW.whole enc Try.prog ((World.holding Try.prog os ⟨#[], #[], []⟩).forCall (fun _ _ => 0) ⟨#[], #[.slice none 0 0, .slice none 0 0, .int .i64 0], []⟩).memory Try.f6.params.toList Rows.numRowsSpec.vars false #[Value.slice none 0 0, .slice none 0 0, .int .i64 0].toList 8 = some ([.nil, .nil, .lit (.int .i64 0)], [], places) :=
  ⟨[], by kernel_rfl⟩

set_option maxRecDepth 100000 in
theorem lifted (os : Os) (started : os.Started) (H : Type) (enc : TypeId × Value → H) (F : Stop.Interp) :
    ReturnsInHanded {} Try.checked os 6 .any ((OpenSpec.ofChange Rows.numRowsSpec).preRow enc Try.prog Try.f6 Rows.numRowsRow.domain false Rows.numRowsRow.laid) (((OpenSpec.ofChange Rows.numRowsSpec).at F).post enc Try.prog Try.f6 false true false false) := by
  obtain ⟨places, hx⟩ := reads os enc
  refine returnsInHanded_of_row (C := Try.checked) (s := OpenSpec.ofChange Rows.numRowsSpec) own started (by kernel_rfl) Try.func6
    (witness_row_at (enc := enc) (C := Try.checked) false (World.holding Try.prog os ⟨#[], #[], []⟩) #[.slice none 0 0, .slice none 0 0, .int .i64 0] rfl (by kernel_rfl) (by kernel_rfl) (by kernel_rfl)
      (OpenSpec.preRow_of_cond 8 hx (by kernel_rfl) (fun k hk => by cases hk) (by kernel_rfl) (laid_met os))) ?_
  intro W base args ds gs before hval hW _ _ hsz hL _ _
  exact contract H enc W base args ds gs before hval hW hL hsz

theorem said : Rows.NumRowsSaid :=
  OpenClaim.holds_of_cond 6 Try.f6 rfl rfl rfl rfl rfl rfl rfl ⟨rfl, rfl, rfl, rfl, rfl⟩ rfl rfl rfl rfl rfl (by kernel_rfl) Try.func6 (by kernel_rfl)
    (of_decide_eq_true (by kernel_rfl)) (by unfold Func.isWrapper; first | (rw [if_pos (by decide +kernel)]; kernel_rfl) | (rw [if_neg (by decide +kernel)]; exact ⟨rfl, rfl⟩))
    (fun os started H enc _ F => by rw [OpenClaim.pre_eq_preRow]; exact lifted os started H enc F)

end Go.Proofs.Ytpcmedaaggeliaa.numRows
