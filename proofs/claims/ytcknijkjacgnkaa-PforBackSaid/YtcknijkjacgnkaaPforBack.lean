/- PROVED: the law PforBack (what is laid is taken as it was, whatever stands behind; of up to 500 numbers) returns true and leaves its arguments as they were, for every argument.
   Conditions: none but the form's own reach (a slice has fewer than 2^47 bytes). -/
import Derived.Test.YtcknijkjacgnkaaLawIn
import Derived.Test.YtcknijkjacgnkaaPforLaw
import Derived.Test.YtcknijkjacgnkaaTakeList
import Derived.Deep.DeepAppendWide
namespace Go.Proofs.Ytcknijkjacgnkaa.pforBack
open Go.ChangeShapes Go.WideShapes Go.ChangeAt Go.RowKit

/-- append of bytes, up to more than 2^47 of them -/
theorem run_append_wide (w : World) (base : Nat) (ty : TypeId) (A : Option Addr) (n c : Nat) (l : List UInt8) (hown : Own w base A n c l)
    (B : Nat) (A2 : Option Addr) (m c2 : Nat) (l2 : List UInt8) (hl2 : l2.length = m) (hb : Bytes w B A2 l2) (hbytes : n + m ≤ 200000000000000) (hbase : base ≤ w.heap.size) :
    ∃ A' c' w', (Builtin.append_ #[22, 22] ty #[.slice A n c, .slice A2 m c2]).run Try.prog w = .ok (.slice A' (n + m) c') w' ∧
      Own w' base A' (n + m) c' (l ++ l2) ∧ w.grownBy w' (blk A) := by
  rcases Nat.lt_or_ge 140737488355328 (n + m) with hbig | hsmall
  · obtain ⟨i0, hi0, hz0, hz1, hz2⟩ := info_parts byte_info
    rcases A2 with _ | ad
    · have hm : l2 = [] := by
        rcases Classical.em (l2 = []) with h | h
        · exact h
        · obtain ⟨_, h, _⟩ := hb h; cases h
      subst hm
      obtain rfl : 0 = m := by simpa using hl2
      refine ⟨A, c, w, ?_, by simpa using hown, World.grownBy.refl w _⟩
      rcases hown.2 with ⟨hv, rfl⟩ | ⟨g, cap, cur, hv, _, _, hnc, _⟩
      · injection hv with h1 _ h3
        subst h1 h3
        simp [Builtin.append_, run_underlying Try.underlying22, sizeOf, typeInfo, hi0, Builtin.lenOf, Builtin.firstCells]
      · injection hv with h1 h2 h3
        subst h1 h3
        simp [Builtin.append_, run_underlying Try.underlying22, sizeOf, typeInfo, hi0, Builtin.lenOf, Builtin.firstCells, hnc, storeCells]
    · obtain ⟨v', w', hrun, h2, h3, _⟩ := run_append_own_wide (P := Try.prog) w base 22 ty 5 i0 _ 1 1 Try.underlying22 hi0 hz0 hz1 hz2 rfl (by omega) (.slice A n c) n (bvals l) hown
        ad m c2 (bvals l2) (by rw [bvals_length]; omega) hb.news (bvals_one l2) (by simp only [maxLen]; omega) (by omega) hbase
      rw [← bvals_append] at h2
      rw [ownBlock_eq] at h3
      rcases h2.2 with ⟨rfl, h0⟩ | ⟨g, cap, cur, rfl, _⟩
      · omega
      · exact ⟨_, cap, w', hrun, h2, h3⟩
  · obtain ⟨A', c', w', h1, h2, h3, _⟩ := run_append_bytes w base ty A n c l hown B A2 m c2 l2 hl2 hb hsmall hbase
    exact ⟨A', c', w', h1, h2, h3⟩
theorem wpList_append_wide {w : World} {ops : Array Oper} {rest : List Oper} {o : Oper} {a : Act} {Q : Exit → Act → World → Prop} (hw : Region.wanted o (yielded ops a.tmps) = true) (s x : Operand)
    (ho : o.op = .call { callee := .builtin .append, args := #[s, x], argTypes := #[22, 22] })
    (base : Nat) (A : Option Addr) (n c : Nat) (l : List UInt8) (hs : a.eval s = .slice A n c) (hown : Own w base A n c l)
    (B : Nat) (A2 : Option Addr) (m c2 : Nat) (l2 : List UInt8) (hx : a.eval x = .slice A2 m c2) (hl2 : l2.length = m) (hb : Bytes w B A2 l2) (hbytes : n + m ≤ 200000000000000) (hbase : base ≤ w.heap.size)
    (h : ∀ A' c' w', Own w' base A' (n + m) c' (l ++ l2) → w.grownBy w' (blk A) → wpList Try.prog ops Q rest (a.put o.dst (.slice A' (n + m) c')) w') :
    wpList Try.prog ops Q (o :: rest) a w := by
  obtain ⟨A', c', w', hrun, h2, h3⟩ := run_append_wide w base o.type A n c l hown B A2 m c2 l2 hl2 hb hbytes hbase
  refine wpList_step fun K hK => ?_
  rw [if_pos hw]
  unfold Oper.wp execOp
  simp only [ho, resolve, invoke, builtin, Sem.run_bind, Sem.run_pure, Result.andThen_ok, List.map_toArray, List.map_cons, List.map_nil, hs, hx, hrun]
  exact hK _ _ (h A' c' w' h2 h3)

set_option maxHeartbeats 1000000 in
theorem walk (A : Option Addr) (n cap : Nat) (l : List UInt64) (A0 : Option Addr) (m cap0 : Nat) (b : List UInt8) (w : World)
    (hl : l.length = n) (hcap : n ≤ cap) (_hn : 8 * n ≤ 140737488351232) (hb : Nums w w.heap.size A l)
    (hl0 : b.length = m) (_hcap0 : m ≤ cap0) (hm : m ≤ 140737488351232) (hb0 : Bytes w w.heap.size A0 b) :
    Calls Try.prog 7 #[.slice A n cap, .slice A0 m cap0] w fun e w' => e = .returned (.bool true) ∧ Below w.heap.size w w' := by
  by_cases hbig : 500 < n
  · have hbig' : (500 : Int) < (n : Int) := by omega
    clear hb hb0 hl hl0 hbig
    go_enter Try.func7, Try.ntmps7
    go_wp2_with fail
    refine (alive_any w).mono ?_
    rintro e w1 ⟨rfl, hbel1⟩
    go_wp2
    go_ret
    exact ⟨rfl, hbel1⟩
  · have hsm : ¬ ((500 : Int) < (n : Int)) := by omega
    have C1 := fun w' hb => putList_any none A 0 0 n cap [] l w' rfl hl (by omega) (by omega) hcap (Bytes.nil w' _ none) hb
    simp only [List.nil_append] at C1
    have hll := Pfor.list_length_le l (by omega)
    rw [hl] at hll
    have C2 := fun A1 c1 w' B hb hB => copy_any A1 (Pfor.list l).length c1 B (Pfor.list l) w' rfl (by omega) hb hB
    have C3 := fun A1 c1 w' hb hc => takeList_any A1 ((Pfor.list l).length + m) c1 (Pfor.list l ++ b) (n : Int) w' (by rw [List.length_append, hl0]) hc (by omega) hb (by omega) (by omega) (.inl (by omega))
    have ht := Pfor.takeList_list l b (by omega)
    rw [hl] at ht
    unfold TakesPost at C3
    rw [ht] at C3
    simp only [hl, Int.natCast_zero] at C3
    have C4 := Lib.hid fun A1 A2 c1 c2 B1 B2 w' h1 h2 => same64_wide A1 A2 n c1 c2 B1 B2 l w' hl (by omega) h1 h2
    replace C1 := Lib.hid C1
    replace C2 := Lib.hid C2
    replace C3 := Lib.hid C3
    have Hl0 := Lib.hid hl0
    clear hl hl0 ht hbig
    generalize Pfor.list l = T at *
    generalize hkl : T.length = k at *
    clear hkl
    go_enter Try.func7, Try.ntmps7
    go_wp2_with fail
    refine (alive_any w).mono ?_
    rintro e w1 ⟨rfl, hbel1⟩
    have hx1 := (hb.below hbel1).wide hbel1.size
    have hy1 := (hb0.below hbel1).wide hbel1.size
    go_wp2_with fail
    refine (C1.out w1 hx1).mono ?_
    rintro e w2 ⟨g2, c2, rfl, ho2, hb2⟩
    have hx2 := (hx1.below hb2).wide hb2.size
    have hy2 := (hy1.below hb2).wide hb2.size
    have hbel2 := hbel1.trans (hb2.mono hbel1.size)
    clear hx1 hy1 C1
    go_wp2_with fail
    refine (C2.out _ c2 w2 _ ho2.bytes (Nat.le_refl _)).mono ?_
    rintro e w3 ⟨A3, c3, rfl, ho3, hb3⟩
    have hx3 := hx2.below hb3
    have hy3 := hy2.below hb3
    have hbel3 := hbel2.trans (hb3.mono hbel2.size)
    clear hx2 hy2 C2 ho2
    go_wp2_with (at_builtin; refine wpList_append_wide rfl (.tmp 18) (.tmp 19) rfl w2.heap.size A3 k c3 T rfl ho3 _ A0 m cap0 b rfl Hl0.out hy3 (by omega) hb3.size ?_; intro A5 c5 w5 ho5 hg5)
    have hb5 := (Below.refl w2.heap.size w3).grown hg5 hb3.size (fun k hk => (ho3.lt hk).1)
    have hx5 := hx3.below hb5
    have hbel5 := hbel3.trans (hb5.mono hbel2.size)
    have hsz5 : w2.heap.size ≤ w5.heap.size := Nat.le_trans hb3.size hb5.size
    clear hx3 hy3 hg5 ho3
    refine (C3.out A5 c5 w5 ho5.bytes (by exact ho5.cap)).mono ?_
    rintro e w6 ⟨A6, c6, rfl, ho6, hb6⟩
    have hx6 := (hx5.wide hsz5).below hb6
    have hbel6 := hbel5.trans (hb6.mono hbel5.size)
    clear hx5 C3 ho5
    go_wp2_with fail
    refine (C4.out A A6 cap c6 _ _ w6 hx6 ho6.row).mono ?_
    rintro e w7 ⟨rfl, hd⟩
    clear C4
    go_wp2
    go_ret
    exact ⟨rfl, hbel6.trans (hd.below _)⟩

/-- from the walk to the post of the row -/
theorem contract (H : Type) (enc : TypeId × Value → H) (W : World) (base : Nat) (args : Array Value) (ds gs : List (DataW H)) (before : List MemPlace)
    (hval : ∀ (j : Nat) t v, Try.f7.params[j]? = some t → args[j]? = some v → Value.okWide Try.prog W .any base t v)
    (hW : DataW.Whole enc Try.prog Try.f7.params.toList Rows.pforBackSpec.vars false W args.toList ds gs before) (_ : laidMetH Try.prog Rows.pforBackRow.laid W)
    (hsz0 : (DataW.weightsEach Try.prog (Try.f7.params.toList ++ Rows.pforBackSpec.plain.varTypes Try.prog) (ds ++ gs)).all (· ≤ reachBytes) = true) :
    Calls Try.prog 7 args W fun e W' => ∃ v, e = .returned v ∧ Rows.pforBackSpec.post enc Try.prog Try.f7 false true false false W args v W' := by
  have hW' := hW
  obtain ⟨p, q, hA0, hV, rfl, hfz, hnd⟩ := hW
  have hA : DataW.TrodAll enc Try.prog W 0 (fun _ => true) true Try.f7.params.toList args.toList ds p := hA0
  rw [Try.params7] at hA hval hsz0
  obtain ⟨v0, vs0, d0, ds0, p0, q0, hargs, rfl, rfl, h0, r0⟩ := trodAll_cons hA
  obtain ⟨v1, vs1, d1, ds1, p1, q1, rfl, rfl, rfl, h1, r1⟩ := trodAll_cons r0
  obtain ⟨rfl, rfl, rfl⟩ := trodAll_nil r1
  obtain rfl : args = #[v0, v1] := by cases args; simp_all
  obtain ⟨rfl, rfl⟩ := trodVars_none hV
  obtain ⟨a0, len0, cap0, rfl⟩ := okWide_slice Try.underlying23 (hval 0 23 v0 rfl rfl)
  have lt0 : ∀ x ∈ p0, x.block < W.heap.size := by obtain ⟨m, hm⟩ := h0; exact DataW.trod_lt m _ _ _ hm
  obtain ⟨l0, e0, ec0, b0, k0⟩ := open_nums h0
  have reach0 := reach_nums hsz0 (j := 0) rfl rfl k0
  obtain ⟨a1, len1, cap1, rfl⟩ := okWide_slice Try.underlying22 (hval 1 22 v1 rfl rfl)
  have lt1 : ∀ x ∈ p1, x.block < W.heap.size := by obtain ⟨m, hm⟩ := h1; exact DataW.trod_lt m _ _ _ hm
  obtain ⟨l1, e1, ec1, b1, k1⟩ := open_bytes h1
  have reach1 := reach_bytes hsz0 (j := 1) rfl rfl k1
  clear hA0
  refine (walk a0 len0 cap0 l0 a1 len1 cap1 l1 W e0 ec0 reach0 b0 e1 ec1 reach1 b1).mono fun e W' ⟨he, bel⟩ => ?_
  subst he
  exact ⟨_, rfl, _, _, _, [], _, [], hW', trodAll_mk1 (shut_bool Try.underlying4 _), (trodAll_cons_mk (Below.trod laidOut (by kernel_rfl) (of_decide_eq_true (by kernel_rfl)) h0 bel lt0) (trodAll_cons_mk (Below.trod laidOut (by kernel_rfl) (of_decide_eq_true (by kernel_rfl)) h1 bel lt1) trodAll_mk0)), rfl, bel.frame _, fun h => by cases h⟩

theorem laid_met (os : Os) : laidMet Try.prog Rows.pforBackRow.laid ((World.holding Try.prog os ⟨#[], #[], []⟩).forCall (fun _ _ => 0) ⟨#[], #[.slice none 0 0, .slice none 0 0], []⟩).memory :=
  laidMet_of_run' 8 (by kernel_rfl) (by kernel_rfl)
theorem reads (os : Os) {H : Type} (enc : TypeId × Value → H) : ∃ places, DataW.whole enc Try.prog ((World.holding Try.prog os ⟨#[], #[], []⟩).forCall (fun _ _ => 0) ⟨#[], #[.slice none 0 0, .slice none 0 0], []⟩).memory Try.f7.params.toList Rows.pforBackSpec.vars false #[Value.slice none 0 0, .slice none 0 0].toList 8 = some ([.nil, .nil], [], places) :=
  ⟨[], by kernel_rfl⟩

set_option maxRecDepth 100000 in
theorem lifted (os : Os) (started : os.Started) (H : Type) (enc : TypeId × Value → H) (F : Stop.Interp) :
    ReturnsInHanded {} Try.checked os 7 .any ((OpenSpec.ofChange Rows.pforBackSpec).preRow enc Try.prog Try.f7 Rows.pforBackRow.domain false Rows.pforBackRow.laid) (((OpenSpec.ofChange Rows.pforBackSpec).at F).post enc Try.prog Try.f7 false true false false) := by
  obtain ⟨places, hx⟩ := reads os enc
  refine returnsInHanded_of_row (C := Try.checked) (s := OpenSpec.ofChange Rows.pforBackSpec) own started (by kernel_rfl) Try.func7
    (witness_row_at (enc := enc) (C := Try.checked) false (World.holding Try.prog os ⟨#[], #[], []⟩) #[.slice none 0 0, .slice none 0 0] rfl (by kernel_rfl) (by kernel_rfl) (by kernel_rfl)
      (OpenSpec.preRow_of_cond 8 hx (by kernel_rfl) (fun k hk => by cases hk) (by kernel_rfl) (laid_met os))) ?_
  intro W base args ds gs before hval hW _ _ hsz hL _ _
  exact contract H enc W base args ds gs before hval hW hL hsz

theorem said : Rows.PforBackSaid :=
  OpenClaim.holds_of_cond 7 Try.f7 rfl rfl rfl rfl rfl rfl rfl ⟨rfl, rfl, rfl, rfl, rfl⟩ rfl rfl rfl rfl rfl (by kernel_rfl) Try.func7 (by kernel_rfl)
    (of_decide_eq_true (by kernel_rfl)) (by unfold Func.isWrapper; first | (rw [if_pos (by decide +kernel)]; kernel_rfl) | (rw [if_neg (by decide +kernel)]; exact ⟨rfl, rfl⟩))
    (fun os started H enc _ F => by rw [OpenClaim.pre_eq_preRow]; exact lifted os started H enc F)

end Go.Proofs.Ytcknijkjacgnkaa.pforBack
