/- PROVED: the law NumBack (what is put is taken as it was, whatever stands behind) returns true and leaves its arguments as they were, for every uint64 and two byte slices of together at most 1048576 values.
   Condition: that bound (the second form; the first is false by size alone). -/
import Derived.Test.YtpcmedaaggeliaaLawIn
import Derived.Test.YtpcmedaaggeliaaNumLaw
import Derived.Test.YtpcmedaaggeliaaTakeRow
namespace Go.Proofs.Ytpcmedaaggeliaa.numBack
open Go.ChangeShapes Go.WideShapes Go.ChangeAt Go.RowKit

theorem takeRow_row (l t : List UInt8) (h : l.length ≤ 1048576) : Num.takeRow (Num.row l ++ t) (l.length : Int) = (l, Num.size l.length + l.length, 0) := by
  have ht : Num.take (Num.row l ++ t) = (l.length, Num.size l.length, 0) := by
    unfold Num.row
    rw [List.append_assoc]
    exact Num.take_num (by omega) _
  unfold Num.takeRow
  rw [ht, if_neg (by omega), if_pos rfl, if_neg (by simp only; omega), if_neg (by rw [List.length_append, Num.row_length]; simp only; omega)]
  simp only
  rw [Num.row, List.append_assoc, List.drop_left' (Num.num_length _), List.take_left' rfl]

set_option maxHeartbeats 2000000 in
theorem walk (v : Nat) (A : Option Addr) (n cap : Nat) (l : List UInt8) (A2 : Option Addr) (n2 cap2 : Nat) (l2 : List UInt8) (w : World)
    (hv : v < 18446744073709551616) (hl : l.length = n) (_ : n ≤ cap) (_ : n ≤ 140737488351232) (hb : Bytes w w.heap.size A l) (hl2 : l2.length = n2) (_ : n2 ≤ cap2) (_ : n2 ≤ 140737488351232) (hb2 : Bytes w w.heap.size A2 l2)
    (hs : n + n2 ≤ 1048576) :
    Calls Try.prog 7 #[.int .u64 (v : Int), .slice A n cap, .slice A2 n2 cap2] w fun e w' => e = .returned (.bool true) ∧ Below w.heap.size w w' := by
  have Hl := Lib.hid hl
  have Hl2 := Lib.hid hl2
  have hs9 := Num.size_le9 hv
  have hr9 := Num.size_le9 (v := n) (by omega)
  have C1 := Lib.hid fun w' => put_any none 0 0 0 v [] w' rfl hv (by omega) (Bytes.nil _ _ _) (Nat.zero_le _)
  have C2 := Lib.hid fun g c w' B hb1 hb2 hB hB2 => putRow_any (some ⟨g, 0, none⟩) A (Num.size v) n c cap B w.heap.size (Num.num v) l w' (Num.num_length v) hl (by omega) (by omega) hb1 hb2 hB hB2
  have hL1 : (Num.num v ++ Num.row l).length = Num.size v + (Num.size n + n) := by rw [List.length_append, Num.num_length, Num.row_length, hl]
  have hL2 : (Num.row l).length = Num.size n + n := by rw [Num.row_length, hl]
  have ht : Num.take (Num.num v ++ Num.row l ++ l2) = (v, Num.size v, 0) := by rw [List.append_assoc]; exact Num.take_num hv _
  have C3 := fun (B0 : Option Addr) (c : Nat) w' B hc hb => take_any B0 (Num.size v + (Num.size n + n) + n2) c B (Num.num v ++ Num.row l ++ l2) w' (by rw [List.length_append, hL1, hl2]) hc (by omega) hb
  unfold TakePost at C3
  simp only [ht] at C3
  have hr := takeRow_row l l2 (by omega)
  have C4 := fun (B0 : Option Addr) (c : Nat) w' B hc hb hB => takeRow_any B0 (Num.size n + n + n2) c B (Num.row l ++ l2) (n : Int) w' (by rw [List.length_append, hL2, hl2]) hc (by omega) hb hB (by omega) (by omega)
  rw [hl] at hr
  unfold RowPost at C4
  simp only [hr, hl] at C4
  have HL1 := Lib.hid hL1
  have HL2 := Lib.hid hL2
  have Hd := Lib.hid (show (Num.num v ++ Num.row l).drop (Num.size v) = Num.row l from List.drop_left' (Num.num_length v))
  replace C3 := Lib.hid C3
  replace C4 := Lib.hid C4
  clear hl hl2 ht hr hL1 hL2 hv
  have hsv := Num.size_pos v
  have hsn := Num.size_pos n
  generalize Num.size v = s at *
  generalize Num.size n = sn at *
  generalize Num.num v = N at *
  generalize Num.row l = R at *
  generalize (v : Int) = x at *
  go_enter Try.func7, Try.ntmps7
  go_wp2_with fail
  refine (alive_any w).mono ?_
  rintro e w1 ⟨rfl, hbel1⟩
  have hx1 := hb.below hbel1
  have hy1 := hb2.below hbel1
  go_wp2_with fail
  refine (C1.out w1).mono ?_
  rintro e w2 ⟨g2, c2, rfl, ho2, hbel2⟩
  rw [Nat.zero_add, List.nil_append] at ho2
  rw [Nat.zero_add]
  have hsz1 := hbel1.size
  have hsz2 := Nat.le_trans hsz1 hbel2.size
  have hx2 := hx1.below (hbel2.mono hsz1)
  have hy2 := hy1.below (hbel2.mono hsz1)
  clear C1
  go_wp2_with fail
  refine (C2.out g2 c2 w2 w2.heap.size ho2.bytes hx2 (Nat.le_refl _) hsz2).mono ?_
  rintro e w3 ⟨g3, c3, rfl, ho3, hbel3⟩
  have hx3 := hx2.below (hbel3.mono hsz2)
  have hy3 := hy2.below (hbel3.mono hsz2)
  have hsz3 := Nat.le_trans hsz2 hbel3.size
  have hc3 := ho3.cap
  clear C2 ho2
  go_wp2_with fail
  refine (copy_any _ (s + (sn + n)) c3 w3.heap.size (N ++ R) w3 HL1.out (by omega) ho3.bytes (Nat.le_refl _)).mono ?_
  rintro e w4 ⟨A4, c4, rfl, ho4, hbel4⟩
  have hy4 := hy3.below (hbel4.mono hsz3)
  go_wp2_with (at_builtin; refine wpList_append_bytes rfl (.tmp 22) (.tmp 23) rfl w3.heap.size A4 (s + (sn + n)) c4 _ rfl ho4 _ A2 n2 cap2 l2 rfl Hl2.out hy4 (by omega) hbel4.size ?_; intro A5 c5 w5 ho5 hg5 hat5)
  have hbel5 := hbel4.grown hg5 hbel4.size (fun k hk => (ho4.lt hk).1)
  have ho35 := ho3.below hbel5
  have hx5 := hx3.below (hbel5.mono hsz3)
  have hy5 := hy3.below (hbel5.mono hsz3)
  have hsz5 := Nat.le_trans hsz3 hbel5.size
  have hxR : Bytes w5 w5.heap.size (cutAt (some ⟨g3, 0, none⟩) c3 s) R := by
    have := ho35.bytes.cut (k := s) (cap := c3) (by rw [HL1.out]; omega) (by rw [HL1.out]; exact hc3)
    rwa [Hd.out] at this
  have hcut := run_cut_l (some ⟨g3, 0, none⟩) (s + (sn + n)) c3 s (by omega)
  rw [show s + (sn + n) - s = sn + n from by omega] at hcut
  generalize cutAt (some ⟨g3, 0, none⟩) c3 s = AR at hcut hxR
  have hc5 := ho5.cap
  have hB15 := hbel1.trans ((hbel2.trans ((hbel3.trans (hbel5.mono hbel3.size)).mono hbel2.size)).mono hbel1.size)
  clear hg5 hat5 ho4 ho3 ho35 hbel4 hbel3 hbel2 hbel1 hy4 hy3 hx3 hy2 hx2 hy1 hx1 hbel5 hb hb2
  refine (C3.out A5 c5 w5 w5.heap.size hc5 ho5.bytes).mono ?_
  rintro e w6 ⟨rfl, rfl⟩
  clear C3 ho5 hsz1 hsz2 hsz3
  go_wp2_with fail
  refine (copy_any AR (sn + n) (c3 - s) w5.heap.size R w5 HL2.out (by omega) hxR (Nat.le_refl _)).mono ?_
  rintro e w6 ⟨A6, c6, rfl, ho6, hbel6⟩
  have hy6 := hy5.below (hbel6.mono hsz5)
  clear hcut
  go_wp2_with (at_builtin; refine wpList_append_bytes rfl (.tmp 46) (.tmp 47) rfl w5.heap.size A6 (sn + n) c6 _ rfl ho6 _ A2 n2 cap2 l2 rfl Hl2.out hy6 (by omega) hbel6.size ?_; intro A7 c7 w7 ho7 hg7 hat7)
  have hbel7 := hbel6.grown hg7 hbel6.size (fun k hk => (ho6.lt hk).1)
  have hx7 := hx5.below (hbel7.mono hsz5)
  have hc7 := ho7.cap
  clear hg7 hat7 ho6 hbel6 hy6 hy5 hx5 hxR
  refine (C4.out A7 c7 w7 w7.heap.size hc7 ho7.bytes (Nat.le_refl _)).mono ?_
  rintro e w8 ⟨A8, c8, rfl, ho8, hbel8⟩
  have hsz7 := Nat.le_trans hsz5 hbel7.size
  have hx8 := hx7.below (hbel8.mono hsz7)
  clear C4 ho7
  go_wp2_with fail
  refine (same_any A8 A n n c8 cap _ _ l l w8 Hl.out Hl.out ho8.bytes hx8).mono ?_
  rintro e w9 ⟨rfl, rfl⟩
  rw [beq_self_eq_true]
  go_wp2
  go_ret
  exact ⟨rfl, (hB15.trans (hbel7.mono hsz5)).trans (hbel8.mono hsz7)⟩

theorem short {H : Type} {d0 d1 d2 : DataW H} {n1 n2 : Nat} (hk : Rows.uptoSmall H [d0, d1, d2] = true)
    (h1 : d1 = .nil ∧ n1 = 0 ∨ ∃ elems spare, d1 = .slice elems spare ∧ elems.length = n1) (h2 : d2 = .nil ∧ n2 = 0 ∨ ∃ elems spare, d2 = .slice elems spare ∧ elems.length = n2) : n1 + n2 ≤ 1048576 := by
  have h : Rows.uptoBulkAll [d0, d1, d2] ≤ 1048576 := of_decide_eq_true hk
  simp only [Rows.uptoBulkAll] at h
  have g1 := bulk_le h1
  have g2 := bulk_le h2
  omega

/-- from the walk to the post of the row -/
theorem contract (H : Type) (enc : TypeId × Value → H) (W : World) (base : Nat) (args : Array Value) (ds gs : List (DataW H)) (before : List MemPlace)
    (hval : ∀ (j : Nat) t v, Try.f7.params[j]? = some t → args[j]? = some v → Value.okWide Try.prog W .any base t v)
    (hW : DataW.Whole enc Try.prog Try.f7.params.toList Rows.numBackSpec.vars false W args.toList ds gs before) (_ : laidMetH Try.prog Rows.numBackUptoRow.laid W)
    (hsz0 : (DataW.weightsEach Try.prog (Try.f7.params.toList ++ Rows.numBackSpec.plain.varTypes Try.prog) (ds ++ gs)).all (· ≤ reachBytes) = true) (hk : Rows.uptoSmall H (ds ++ gs) = true) :
    Calls Try.prog 7 args W fun e W' => ∃ v, e = .returned v ∧ Rows.numBackSpec.post enc Try.prog Try.f7 false true false false W args v W' := by
  have hW' := hW
  obtain ⟨p, q, hA0, hV, rfl, hfz, hnd⟩ := hW
  have hA : DataW.TrodAll enc Try.prog W 0 (fun _ => true) true Try.f7.params.toList args.toList ds p := hA0
  rw [Try.params7] at hA hval hsz0
  obtain ⟨v0, vs0, d0, ds0, p0, q0, hargs, rfl, rfl, h0, r0⟩ := trodAll_cons hA
  obtain ⟨v1, vs1, d1, ds1, p1, q1, rfl, rfl, rfl, h1, r1⟩ := trodAll_cons r0
  obtain ⟨v2, vs2, d2, ds2, p2, q2, rfl, rfl, rfl, h2, r2⟩ := trodAll_cons r1
  obtain ⟨rfl, rfl, rfl⟩ := trodAll_nil r2
  obtain rfl : args = #[v0, v1, v2] := by cases args; simp_all
  obtain ⟨rfl, rfl⟩ := trodVars_none hV
  obtain ⟨x0, rfl, rfl, rfl, w0⟩ := open_int Try.underlying23 (hval 0 23 v0 rfl rfl) h0
  obtain ⟨c0, rfl⟩ := Int.eq_ofNat_of_zero_le (bounds_u64 w0).1
  obtain ⟨a1, len1, cap1, rfl⟩ := okWide_slice Try.underlying22 (hval 1 22 v1 rfl rfl)
  have lt1 : ∀ x ∈ p1, x.block < W.heap.size := by obtain ⟨m, hm⟩ := h1; exact DataW.trod_lt m _ _ _ hm
  obtain ⟨l1, e1, ec1, b1, k1⟩ := open_bytes h1
  have reach1 := reach_bytes hsz0 (j := 1) rfl rfl k1
  obtain ⟨a2, len2, cap2, rfl⟩ := okWide_slice Try.underlying22 (hval 2 22 v2 rfl rfl)
  have lt2 : ∀ x ∈ p2, x.block < W.heap.size := by obtain ⟨m, hm⟩ := h2; exact DataW.trod_lt m _ _ _ hm
  obtain ⟨l2, e2, ec2, b2, k2⟩ := open_bytes h2
  have reach2 := reach_bytes hsz0 (j := 2) rfl rfl k2
  clear hA0
  have hs := short (by simpa using hk) k1 k2
  refine (walk c0 a1 len1 cap1 l1 a2 len2 cap2 l2 W (by have := (bounds_u64 w0).2; omega) e1 ec1 reach1 b1 e2 ec2 reach2 b2 hs).mono fun e W' ⟨he, bel⟩ => ?_
  subst he
  exact ⟨_, rfl, _, _, _, [], _, [], hW', trodAll_mk1 (shut_bool Try.underlying4 _), (trodAll_cons_mk (shut_int Try.underlying23 w0) (trodAll_cons_mk (Below.trod laidOut (by kernel_rfl) (of_decide_eq_true (by kernel_rfl)) h1 bel lt1) (trodAll_cons_mk (Below.trod laidOut (by kernel_rfl) (of_decide_eq_true (by kernel_rfl)) h2 bel lt2) trodAll_mk0))), rfl, bel.frame _, fun h => by cases h⟩

theorem laid_met (os : Os) : laidMet Try.prog Rows.numBackUptoRow.laid ((World.holding Try.prog os ⟨#[], #[], []⟩).forCall (fun _ _ => 0) ⟨#[], #[.int .u64 0, .slice none 0 0, .slice none 0 0], []⟩).memory :=
  laidMet_of_run' 8 (by kernel_rfl) (by kernel_rfl)
theorem reads (os : Os) {H : Type} (enc : TypeId × Value → H) : ∃ places, DataW.whole enc Try.prog ((World.holding Try.prog os ⟨#[], #[], []⟩).forCall (fun _ _ => 0) ⟨#[], #[.int .u64 0, .slice none 0 0, .slice none 0 0], []⟩).memory Try.f7.params.toList Rows.numBackSpec.vars false #[Value.int .u64 0, .slice none 0 0, .slice none 0 0].toList 8 = some ([.lit (.int .u64 0), .nil, .nil], [], places) :=
  ⟨[], by kernel_rfl⟩

set_option maxRecDepth 100000 in
theorem lifted (os : Os) (started : os.Started) (H : Type) (enc : TypeId × Value → H) (F : Stop.Interp) :
    ReturnsInHanded {} Try.checked os 7 .any ((Rows.OpenSpec.upto Rows.numBackSpec).preRow enc Try.prog Try.f7 Rows.numBackUptoRow.domain false Rows.numBackUptoRow.laid) (((Rows.OpenSpec.upto Rows.numBackSpec).at F).post enc Try.prog Try.f7 false true false false) := by
  obtain ⟨places, hx⟩ := reads os enc
  refine returnsInHanded_of_row (C := Try.checked) (s := Rows.OpenSpec.upto Rows.numBackSpec) own started (by kernel_rfl) Try.func7
    (witness_row_at (enc := enc) (C := Try.checked) false (World.holding Try.prog os ⟨#[], #[], []⟩) #[.int .u64 0, .slice none 0 0, .slice none 0 0] rfl (by kernel_rfl) (by kernel_rfl) (by kernel_rfl)
      (OpenSpec.preRow_of_cond 8 hx (by kernel_rfl) (fun k hk => by cases hk; kernel_rfl) (by kernel_rfl) (laid_met os))) ?_
  intro W base args ds gs before hval hW _ hcond hsz hL _ _
  exact contract H enc W base args ds gs before hval hW hL hsz (hcond _ rfl)

theorem said : Rows.NumBackUptoSaid :=
  OpenClaim.holds_of_cond 7 Try.f7 rfl rfl rfl rfl rfl rfl rfl ⟨rfl, rfl, rfl, rfl, rfl⟩ rfl rfl rfl rfl rfl (by kernel_rfl) Try.func7 (by kernel_rfl)
    (of_decide_eq_true (by kernel_rfl)) (by unfold Func.isWrapper; first | (rw [if_pos (by decide +kernel)]; kernel_rfl) | (rw [if_neg (by decide +kernel)]; exact ⟨rfl, rfl⟩))
    (fun os started H enc _ F => by rw [OpenClaim.pre_eq_preRow]; exact lifted os started H enc F)

end Go.Proofs.Ytpcmedaaggeliaa.numBack
