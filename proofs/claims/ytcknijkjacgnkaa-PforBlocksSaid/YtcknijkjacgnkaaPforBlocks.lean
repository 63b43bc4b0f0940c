/- PROVED: the law PforBlocks (any numbers are laid as a block behind any bytes as the document says, or refused, and stay) returns true and leaves its arguments as they were, for every argument.
   Conditions: none but the form's own reach (a slice has fewer than 2^47 bytes). -/
import Derived.Test.YtcknijkjacgnkaaLawIn
import Derived.Test.YtcknijkjacgnkaaPforLaw
namespace Go.Proofs.Ytcknijkjacgnkaa.pforBlocks
open Go.ChangeShapes Go.WideShapes Go.ChangeAt Go.RowKit

set_option maxHeartbeats 1000000 in
theorem walk (A : Option Addr) (n cap : Nat) (b : List UInt8) (A0 : Option Addr) (m cap0 : Nat) (l : List UInt64) (w : World)
    (hl : b.length = n) (_hcap : n ≤ cap) (hn : n ≤ 140737488351232) (hb : Bytes w w.heap.size A b)
    (hl0 : l.length = m) (_hcap0 : m ≤ cap0) (hm : 8 * m ≤ 140737488351232) (hb0 : Nums w w.heap.size A0 l) :
    Calls Try.prog 3 #[.slice A n cap, .slice A0 m cap0] w fun e w' => e = .returned (.bool true) ∧ Below w.heap.size w w' := by
  have C1 := Lib.hid fun w' B hb hB => copy_any A n cap B b w' hl (by omega) hb hB
  have C2 := Lib.hid fun w' B hb hB => copy64_wide A0 m cap0 B l w' hl0 hm hb hB
  have C3 := fun A1 c1 A2 c2 w' B hb1 hb2 hB => putBlock_any A1 A2 n c1 m c2 B b l w' hl hl0 (by omega) (by omega) hb1 hb2 hB
  have C4 := Lib.hid fun A1 A2 c1 c2 B1 B2 w' h1 h2 => same_any A1 A2 n n c1 c2 B1 B2 b b w' hl hl h1 h2
  have C5 := Lib.hid fun A1 A2 c1 c2 B1 B2 w' h1 h2 => same64_wide A1 A2 m c1 c2 B1 B2 l w' hl0 hm h1 h2
  unfold PackPost at C3
  by_cases hg : 1 ≤ l.length ∧ l.length ≤ 32
  · have e : Pfor.putBlock b l = (b ++ Pfor.block l, 0) := by unfold Pfor.putBlock; rw [if_pos hg]
    rw [e] at C3
    simp only [List.length_append, hl] at C3
    have C6 := Lib.hid fun w' B hb hB => refBlock_any A0 m cap0 B l w' hl0 (by omega) (by omega) hb hB
    have h268 := Pfor.block_length_le hg.2
    have hpos := Pfor.block_pos l
    have hm1 : 1 ≤ m := by omega
    have hm2 : m ≤ 32 := by omega
    generalize Pfor.block l = K at *
    have Hl := Lib.hid hl
    have C7 := Lib.hid fun A1 A2 c1 c2 B1 B2 w' h1 h2 => same_any A1 A2 (n + K.length) (n + K.length) c1 c2 B1 B2 (b ++ K) (b ++ K) w' (by rw [List.length_append, Hl.out]) (by rw [List.length_append, Hl.out]) h1 h2
    generalize hkl : K.length = k at *
    have Hkl := Lib.hid hkl
    replace C3 := Lib.hid C3
    clear hl hl0 e hg hkl
    go_enter Try.func3, Try.ntmps3
    go_wp2_with fail
    refine (alive_any w).mono ?_
    rintro e w1 ⟨rfl, hbel1⟩
    have hx1 := hb.below hbel1
    have hy1 := hb0.below hbel1
    go_wp2_with fail
    refine (C1.out w1 _ hx1 hbel1.size).mono ?_
    rintro e w2 ⟨A2, c2, rfl, ho2, hb2⟩
    have hx2 := (hx1.wide hbel1.size).below hb2
    have hy2 := (hy1.wide hbel1.size).below hb2
    have hbel2 := hbel1.trans (hb2.mono hbel1.size)
    clear hx1 hy1 C1
    go_wp2_with fail
    refine (C2.out w2 _ hy2 hb2.size).mono ?_
    rintro e w3 ⟨A3, c3, rfl, ho3, hb3⟩
    have ho23 := ho2.below hb3
    have hx3 := (hx2.wide hb2.size).below hb3
    have hy3 := (hy2.wide hb2.size).below hb3
    have hbel3 := hbel2.trans (hb3.mono hbel2.size)
    clear hx2 hy2 C2 ho2
    go_wp2_with fail
    refine (C3.out A2 c2 A3 c3 w3 _ ho23.bytes ho3.row (Nat.le_refl _)).mono ?_
    rintro e w4 ⟨A4, c4, rfl, ho4, hb4⟩
    have ho24 := ho23.below hb4
    have ho34 := ho3.below hb4
    have hx4 := (hx3.wide hb3.size).below hb4
    have hy4 := (hy3.wide hb3.size).below hb4
    have hbel4 := hbel3.trans (hb4.mono hbel3.size)
    have hlt2 : ∀ k, blk A2 = some k → k < w3.heap.size := fun k hk => (ho23.lt hk).2
    clear hx3 hy3 C3 ho23 ho3
    have S1 := C4.out A2 A c2 cap _ _ w4 ho24.bytes hx4
    rw [beq_self_eq_true] at S1
    replace S1 := Lib.hid S1
    go_wp2_with fail
    refine S1.out.mono ?_
    rintro e w5 ⟨rfl, rfl⟩
    clear S1 C4
    go_wp2_with fail
    refine (C5.out A3 A0 c3 cap0 _ _ w4 ho34.row hy4).mono ?_
    rintro e w5 ⟨rfl, hd⟩
    clear C5 ho34
    have hd5 := hd.below w4.heap.size
    have ho25 := ho24.below hd5
    have ho45 := ho4.below hd5
    have hy5 := (hy4.wide hb4.size).below hd5
    have hbel5 := hbel4.trans (hd5.mono hbel4.size)
    clear ho24 ho4 hy4 hx4 hd
    go_wp2_with fail
    refine (C6.out w5 _ hy5 hd5.size).mono ?_
    rintro e w6 ⟨g6, c6, rfl, ho6, hb6⟩
    have ho26 := ho25.below hb6
    have ho46 := ho45.below hb6
    have hbel6 := hbel5.trans (hb6.mono hbel5.size)
    have h6b := ho6.bytes
    have hsz6 : w1.heap.size ≤ w6.heap.size := Nat.le_trans hb2.size (Nat.le_trans hb3.size (Nat.le_trans hb4.size (Nat.le_trans hd5.size hb6.size)))
    clear C6 ho25 ho45 hy5 ho6
    go_wp2_with (at_builtin; refine wpList_append_bytes rfl (.tmp 50) (.tmp 52) rfl w1.heap.size A2 n c2 _ rfl ho26 _ _ k c6 K rfl Hkl.out h6b (by omega) hsz6 ?_; intro A7 c7 w7 ho7 hg7 hat7)
    have hbel7 := hbel6.grown hg7 hbel6.size (fun k hk => Nat.le_trans hbel1.size (ho26.lt hk).1)
    have ho47 := ho46.kept hg7 (by
      rcases Classical.em (blk A4 = none) with h | h
      · exact .inl h
      · refine .inr fun e => ?_
        obtain ⟨q, hq⟩ := Option.ne_none_iff_exists'.1 h
        have h1 := (ho46.lt hq).1
        have h2 := hlt2 q (by rw [← e]; exact hq)
        omega)
    have S2 := C7.out A4 A7 c4 c7 _ _ w7 ho47.bytes ho7.bytes
    rw [beq_self_eq_true] at S2
    replace S2 := Lib.hid S2
    refine S2.out.mono ?_
    rintro e w8 ⟨rfl, rfl⟩
    clear S2 C7
    go_wp2
    go_ret
    exact ⟨rfl, hbel7⟩
  · have e : Pfor.putBlock b l = ([], 1) := by unfold Pfor.putBlock; rw [if_neg hg]
    rw [e] at C3
    simp only [List.length_nil] at C3
    have hm1 : ¬ (1 ≤ m ∧ m ≤ 32) := by omega
    have hd : (decide ((m : Int) < 1) || decide (32 < (m : Int))) = true := by
      by_cases h : (m : Int) < 1
      · rw [decide_eq_true h]; rfl
      · rw [decide_eq_true (show 32 < (m : Int) by omega), Bool.or_true]
    replace C3 := Lib.hid C3
    clear hl hl0 e hg
    go_enter Try.func3, Try.ntmps3
    go_wp2_with fail
    refine (alive_any w).mono ?_
    rintro e w1 ⟨rfl, hbel1⟩
    have hx1 := hb.below hbel1
    have hy1 := hb0.below hbel1
    go_wp2_with fail
    refine (C1.out w1 _ hx1 hbel1.size).mono ?_
    rintro e w2 ⟨A2, c2, rfl, ho2, hb2⟩
    have hx2 := (hx1.wide hbel1.size).below hb2
    have hy2 := (hy1.wide hbel1.size).below hb2
    have hbel2 := hbel1.trans (hb2.mono hbel1.size)
    clear hx1 hy1 C1
    go_wp2_with fail
    refine (C2.out w2 _ hy2 hb2.size).mono ?_
    rintro e w3 ⟨A3, c3, rfl, ho3, hb3⟩
    have ho23 := ho2.below hb3
    have hx3 := (hx2.wide hb2.size).below hb3
    have hy3 := (hy2.wide hb2.size).below hb3
    have hbel3 := hbel2.trans (hb3.mono hbel2.size)
    clear hx2 hy2 C2 ho2
    go_wp2_with fail
    refine (C3.out A2 c2 A3 c3 w3 _ ho23.bytes ho3.row (Nat.le_refl _)).mono ?_
    rintro e w4 ⟨A4, c4, rfl, ho4, hb4⟩
    have ho24 := ho23.below hb4
    have ho34 := ho3.below hb4
    have hx4 := (hx3.wide hb3.size).below hb4
    have hy4 := (hy3.wide hb3.size).below hb4
    have hbel4 := hbel3.trans (hb4.mono hbel3.size)
    clear hx3 hy3 C3 ho23 ho3 ho4
    have S1 := C4.out A2 A c2 cap _ _ w4 ho24.bytes hx4
    rw [beq_self_eq_true] at S1
    replace S1 := Lib.hid S1
    go_wp2_with fail
    refine S1.out.mono ?_
    rintro e w5 ⟨rfl, rfl⟩
    clear S1 C4
    go_wp2_with fail
    refine (C5.out A3 A0 c3 cap0 _ _ w4 ho34.row hy4).mono ?_
    rintro e w5 ⟨rfl, hd5⟩
    clear C5 ho34
    by_cases hless : (m : Int) < 1
    · clear hd hm1
      go_wp2
      go_ret
      exact ⟨rfl, hbel4.trans (hd5.below _)⟩
    · have hmore : 32 < (m : Int) := by omega
      clear hd hm1
      go_wp2
      go_ret
      exact ⟨rfl, hbel4.trans (hd5.below _)⟩

/-- from the walk to the post of the row -/
theorem contract (H : Type) (enc : TypeId × Value → H) (W : World) (base : Nat) (args : Array Value) (ds gs : List (DataW H)) (before : List MemPlace)
    (hval : ∀ (j : Nat) t v, Try.f3.params[j]? = some t → args[j]? = some v → Value.okWide Try.prog W .any base t v)
    (hW : DataW.Whole enc Try.prog Try.f3.params.toList Rows.pforBlocksSpec.vars false W args.toList ds gs before) (_ : laidMetH Try.prog Rows.pforBlocksRow.laid W)
    (hsz0 : (DataW.weightsEach Try.prog (Try.f3.params.toList ++ Rows.pforBlocksSpec.plain.varTypes Try.prog) (ds ++ gs)).all (· ≤ reachBytes) = true) :
    Calls Try.prog 3 args W fun e W' => ∃ v, e = .returned v ∧ Rows.pforBlocksSpec.post enc Try.prog Try.f3 false true false false W args v W' := by
  have hW' := hW
  obtain ⟨p, q, hA0, hV, rfl, hfz, hnd⟩ := hW
  have hA : DataW.TrodAll enc Try.prog W 0 (fun _ => true) true Try.f3.params.toList args.toList ds p := hA0
  rw [Try.params3] at hA hval hsz0
  obtain ⟨v0, vs0, d0, ds0, p0, q0, hargs, rfl, rfl, h0, r0⟩ := trodAll_cons hA
  obtain ⟨v1, vs1, d1, ds1, p1, q1, rfl, rfl, rfl, h1, r1⟩ := trodAll_cons r0
  obtain ⟨rfl, rfl, rfl⟩ := trodAll_nil r1
  obtain rfl : args = #[v0, v1] := by cases args; simp_all
  obtain ⟨rfl, rfl⟩ := trodVars_none hV
  obtain ⟨a0, len0, cap0, rfl⟩ := okWide_slice Try.underlying22 (hval 0 22 v0 rfl rfl)
  have lt0 : ∀ x ∈ p0, x.block < W.heap.size := by obtain ⟨m, hm⟩ := h0; exact DataW.trod_lt m _ _ _ hm
  obtain ⟨l0, e0, ec0, b0, k0⟩ := open_bytes h0
  have reach0 := reach_bytes hsz0 (j := 0) rfl rfl k0
  obtain ⟨a1, len1, cap1, rfl⟩ := okWide_slice Try.underlying23 (hval 1 23 v1 rfl rfl)
  have lt1 : ∀ x ∈ p1, x.block < W.heap.size := by obtain ⟨m, hm⟩ := h1; exact DataW.trod_lt m _ _ _ hm
  obtain ⟨l1, e1, ec1, b1, k1⟩ := open_nums h1
  have reach1 := reach_nums hsz0 (j := 1) rfl rfl k1
  clear hA0
  refine (walk a0 len0 cap0 l0 a1 len1 cap1 l1 W e0 ec0 reach0 b0 e1 ec1 reach1 b1).mono fun e W' ⟨he, bel⟩ => ?_
  subst he
  exact ⟨_, rfl, _, _, _, [], _, [], hW', trodAll_mk1 (shut_bool Try.underlying4 _), (trodAll_cons_mk (Below.trod laidOut (by kernel_rfl) (of_decide_eq_true (by kernel_rfl)) h0 bel lt0) (trodAll_cons_mk (Below.trod laidOut (by kernel_rfl) (of_decide_eq_true (by kernel_rfl)) h1 bel lt1) trodAll_mk0)), rfl, bel.frame _, fun h => by cases h⟩

theorem laid_met (os : Os) : laidMet Try.prog Rows.pforBlocksRow.laid ((World.holding Try.prog os ⟨#[], #[], []⟩).forCall (fun _ _ => 0) ⟨#[], #[.slice none 0 0, .slice none 0 0], []⟩).memory :=
  laidMet_of_run' 8 (by kernel_rfl) (by kernel_rfl)
theorem reads (os : Os) {H : Type} (enc : TypeId × Value → H) : ∃ places, DataW.whole enc Try.prog ((World.holding Try.prog os ⟨#[], #[], []⟩).forCall (fun _ _ => 0) ⟨#[], #[.slice none 0 0, .slice none 0 0], []⟩).memory Try.f3.params.toList Rows.pforBlocksSpec.vars false #[Value.slice none 0 0, .slice none 0 0].toList 8 = some ([.nil, .nil], [], places) :=
  ⟨[], by kernel_rfl⟩

set_option maxRecDepth 100000 in
theorem lifted (os : Os) (started : os.Started) (H : Type) (enc : TypeId × Value → H) (F : Stop.Interp) :
    ReturnsInHanded {} Try.checked os 3 .any ((OpenSpec.ofChange Rows.pforBlocksSpec).preRow enc Try.prog Try.f3 Rows.pforBlocksRow.domain false Rows.pforBlocksRow.laid) (((OpenSpec.ofChange Rows.pforBlocksSpec).at F).post enc Try.prog Try.f3 false true false false) := by
  obtain ⟨places, hx⟩ := reads os enc
  refine returnsInHanded_of_row (C := Try.checked) (s := OpenSpec.ofChange Rows.pforBlocksSpec) own started (by kernel_rfl) Try.func3
    (witness_row_at (enc := enc) (C := Try.checked) false (World.holding Try.prog os ⟨#[], #[], []⟩) #[.slice none 0 0, .slice none 0 0] rfl (by kernel_rfl) (by kernel_rfl) (by kernel_rfl)
      (OpenSpec.preRow_of_cond 8 hx (by kernel_rfl) (fun k hk => by cases hk) (by kernel_rfl) (laid_met os))) ?_
  intro W base args ds gs before hval hW _ _ hsz hL _ _
  exact contract H enc W base args ds gs before hval hW hL hsz

theorem said : Rows.PforBlocksSaid :=
  OpenClaim.holds_of_cond 3 Try.f3 rfl rfl rfl rfl rfl rfl rfl ⟨rfl, rfl, rfl, rfl, rfl⟩ rfl rfl rfl rfl rfl (by kernel_rfl) Try.func3 (by kernel_rfl)
    (of_decide_eq_true (by kernel_rfl)) (by unfold Func.isWrapper; first | (rw [if_pos (by decide +kernel)]; kernel_rfl) | (rw [if_neg (by decide +kernel)]; exact ⟨rfl, rfl⟩))
    (fun os started H enc _ F => by rw [OpenClaim.pre_eq_preRow]; exact lifted os started H enc F)

end Go.Proofs.Ytcknijkjacgnkaa.pforBlocks
