/- pfor.TakeList. -/
import Derived.Test.YtcknijkjacgnkaaPutList
import Derived.Test.YtcknijkjacgnkaaTakeBlock
namespace Go.Proofs.Ytcknijkjacgnkaa
open Go.RowKit Go.Shelf
attribute [local go_sem] Oper.semAt_some

theorem wpListIn_append_nums {F : Fence} {k : Nat} {w : World} {ops : Array Oper} {rest : List Oper} {o : Oper} {a : Act} {Q : Exit → Act → World → Prop} (hgd : o.guard = none) (s x : Operand)
    (ho : o.op = .call { callee := .builtin .append, args := #[s, x], argTypes := #[23, 23] })
    (base : Nat) (A : Option Addr) (n c : Nat) (l : List UInt64) (hs : a.eval s = .slice A n c) (hown : NOwn w base A n c l)
    (B : Nat) (A2 : Option Addr) (m c2 : Nat) (l2 : List UInt64) (hx : a.eval x = .slice A2 m c2) (hl2 : l2.length = m) (hb : Nums w B A2 l2) (hbytes : (n + m) * 8 ≤ 140737488355328) (hm : n + m ≤ maxLen) (hbase : base ≤ w.heap.size)
    (h : ∀ A' c' w', NOwn w' base A' (n + m) c' (l ++ l2) → w.grownBy w' (blk A) → (blk A' = blk A ∨ blk A' = some w.heap.size) → wpListIn F k Try.prog ops Q rest (a.put o.dst (.slice A' (n + m) c')) w') :
    wpListIn F k Try.prog ops Q (o :: rest) a w := by
  obtain ⟨A', c', w', hrun, h2, h3, h4⟩ := run_append_row elem64 w base o.type A n c l hown B A2 m c2 l2 hl2 hb hbytes hm hbase
  refine wpListIn_plain hgd fun K hK' => ?_
  unfold Oper.wpIn
  refine ⟨by simp [Oper.about, ho, resolve, Target.leads, Sem.run_pure], ?_⟩
  rw [Oper.semAt_plain F _ _ (by rw [ho]; intro c hc; cases hc)]
  simp only [execOp, ho, resolve, invoke, builtin, Sem.run_bind, Sem.run_pure, Result.andThen_ok, List.map_toArray, List.map_cons, List.map_nil, hs, hx, hrun]
  exact hK' _ _ (h A' c' w' h2 h3 h4)

theorem nown_cells {w : World} {base n c k : Nat} {A : Option Addr} {l : List UInt64} {o : Obj} (h : NOwn w base A n c l) (hk : blk A = some k) (ho : w.heap[k]? = some o) : o.isCells = true := by
  rcases h.2 with ⟨hv, _⟩ | ⟨g, cap, cur, hv, _, hg, _⟩
  · injection hv with h1; subst h1; cases hk
  · injection hv with h1
    subst h1
    have e' : g = k := by simpa [blk] using hk
    subst e'
    rw [hg] at ho
    cases ho
    rfl
theorem box_nums {w : World} {base B n c : Nat} {t : TypeId} {v : Value} {A : Option Addr} {l : List UInt64} (h : NOwn w base A n c l) (hb : Boxed w B t v) (ht : t ≠ 50) : some B ≠ blk A := by
  have := hb.not_row ht h
  rwa [ownBlock_eq] at this
theorem nums_box {w : World} {base B n c : Nat} {t : TypeId} {v : Value} {A : Option Addr} {l : List UInt64} (h : NOwn w base A n c l) (hb : Boxed w B t v) (ht : t ≠ 50) : blk A = none ∨ blk A ≠ some B := .inr fun e => box_nums h hb ht e.symm

/-- the boxes of TakeList: the bytes, the three results, where one stands, the numbers -/
def TakeBoxes (w : World) (vb v4 v5 v6 vs vl : Value) (W : World) : Prop :=
  Boxed W (w.heap.size) 22 vb ∧ Boxed W (w.heap.size + 1) 23 v4 ∧ Boxed W (w.heap.size + 1 + 1) 3 v5 ∧ Boxed W (w.heap.size + 1 + 1 + 1) 27 v6 ∧ Boxed W (w.heap.size + 1 + 1 + 1 + 1) 3 vs ∧ Boxed W (w.heap.size + 1 + 1 + 1 + 1 + 1) 23 vl
theorem TakeBoxes.kept {w W W' : World} {vb v4 v5 v6 vs vl : Value} {row : Option Nat} (h : TakeBoxes w vb v4 v5 v6 vs vl W) (hg : W.grownBy W' row) (hr : ∀ B, (∃ t v, Boxed W B t v ∧ t ≠ 50) → some B ≠ row) : TakeBoxes w vb v4 v5 v6 vs vl W' := by
  obtain ⟨h1, h2, h3, h4, h5, h6⟩ := h
  exact ⟨h1.kept hg (hr _ ⟨_, _, h1, by decide⟩), h2.kept hg (hr _ ⟨_, _, h2, by decide⟩), h3.kept hg (hr _ ⟨_, _, h3, by decide⟩), h4.kept hg (hr _ ⟨_, _, h4, by decide⟩), h5.kept hg (hr _ ⟨_, _, h5, by decide⟩), h6.kept hg (hr _ ⟨_, _, h6, by decide⟩)⟩
theorem TakeBoxes.below {w W W' : World} {vb v4 v5 v6 vs vl : Value} (h : TakeBoxes w vb v4 v5 v6 vs vl W) (hb : Below W.heap.size W W') : TakeBoxes w vb v4 v5 v6 vs vl W' :=
  h.kept (row := none) ⟨hb.os, hb.tape, hb.output, hb.size, fun k hk _ => hb.block k hk⟩ (by simp)
/-- between two rounds of TakeList: m numbers are left -/
def TakeInv (w : World) (A : Option Addr) (n cap : Nat) (b : List UInt8) (v : Nat) (R : List UInt64 × Nat × Nat) (m : Nat) (W : World) : Prop :=
  ∃ (A2 : Option Addr) (c at_ : Nat) (acc : List UInt64), TakeBoxes w (.slice A n cap) (.slice none 0 0) (.int .i64 0) (.int .i64 0) (.int .i64 (at_ : Int)) (.slice A2 acc.length c) W ∧ NOwn W w.heap.size A2 acc.length c acc ∧
    at_ ≤ n ∧ acc.length + m = v ∧ acc.length ≤ 32 * at_ ∧ Pfor.takeBlocks b m acc at_ = R ∧ Below w.heap.size w W
/-- a round of TakeList has returned -/
def TakeOut (w : World) (A : Option Addr) (n cap : Nat) (R : List UInt64 × Nat × Nat) (W : World) : Prop :=
  ∃ vs vl, TakeBoxes w (.slice A n cap) (.slice none 0 0) (.int .i64 0) (.int .i64 2) vs vl W ∧ R = ([], 0, 2) ∧ Below w.heap.size w W
theorem not_cells_box {W : World} {row : Option Nat} {B0 : Nat} (hr : ∀ r, row = some r → B0 ≤ r ∧ ∃ o : Obj, W.heap[r]? = some o ∧ o.isCells = false) : ∀ B, (∃ t v, Boxed W B t v ∧ t ≠ 50) → some B ≠ row := by
  rintro B ⟨t, v, hb, _⟩ e
  obtain ⟨_, o, ho, hc⟩ := hr B e.symm
  have hb' : W.heap[B]? = some (.cells #[v] t (0, 0)) := hb
  rw [hb'] at ho
  cases ho
  cases hc
theorem takeInv_own (w : World) (A : Option Addr) (n cap : Nat) (b : List UInt8) (v : Nat) (R : List UInt64 × Nat × Nat) (B : Nat) (hB : w.heap.size ≤ B) : OwnFrom B (TakeInv w A n cap b v R) := by
  rintro m W W' row ⟨A2, c, at_, acc, h1, h2, h3, h4, h5, h6, h7⟩ hg hr
  refine ⟨A2, c, at_, acc, h1.kept hg (not_cells_box hr), h2.kept hg ?_, h3, h4, h5, h6, h7.grown hg h7.size (fun k e => Nat.le_trans hB (hr k e).1)⟩
  cases row with
  | none => cases hA : blk A2 <;> simp
  | some r =>
    refine .inr fun e => ?_
    obtain ⟨_, o, ho, hc⟩ := hr r rfl
    rw [nown_cells h2 e ho] at hc
    cases hc
theorem takeOut_own (w : World) (A : Option Addr) (n cap : Nat) (R : List UInt64 × Nat × Nat) (B : Nat) (hB : w.heap.size ≤ B) : OwnFrom B (fun (_ : Unit) => TakeOut w A n cap R) := by
  rintro _ W W' row ⟨vs, vl, h1, h2, h3⟩ hg hr
  exact ⟨vs, vl, h1.kept hg (not_cells_box hr), h2, h3.grown hg h3.size (fun k e => Nat.le_trans hB (hr k e).1)⟩

theorem TakeBoxes.set3 {w W : World} {vb v4 v5 v6 vs vl : Value} (h : TakeBoxes w vb v4 v5 v6 vs vl W) (a b c : Value) :
    TakeBoxes w vb a b c vs vl (((W.setCell ⟨w.heap.size + 1, 0, none⟩ a).setCell ⟨w.heap.size + 1 + 1, 0, none⟩ b).setCell ⟨w.heap.size + 1 + 1 + 1, 0, none⟩ c) := by
  obtain ⟨h1, h2, h3, h4, h5, h6⟩ := h
  exact ⟨((h1.other (by omega) _).other (by omega) _).other (by omega) _, ((h2.set _).other (by omega) _).other (by omega) _, ((h3.other (by omega) _).set _).other (by omega) _, ((h4.other (by omega) _).other (by omega) _).set _,
    ((h5.other (by omega) _).other (by omega) _).other (by omega) _, ((h6.other (by omega) _).other (by omega) _).other (by omega) _⟩
theorem TakeBoxes.setL {w W : World} {vb v4 v5 v6 vs vl : Value} (h : TakeBoxes w vb v4 v5 v6 vs vl W) (a b : Value) :
    TakeBoxes w vb v4 v5 v6 b a ((W.setCell ⟨w.heap.size + 1 + 1 + 1 + 1 + 1, 0, none⟩ a).setCell ⟨w.heap.size + 1 + 1 + 1 + 1, 0, none⟩ b) := by
  obtain ⟨h1, h2, h3, h4, h5, h6⟩ := h
  exact ⟨(h1.other (by omega) _).other (by omega) _, (h2.other (by omega) _).other (by omega) _, (h3.other (by omega) _).other (by omega) _, (h4.other (by omega) _).other (by omega) _, (h5.other (by omega) _).set _, (h6.set _).other (by omega) _⟩
theorem NOwn.set {W : World} {base B n c i : Nat} {t : TypeId} {v : Value} {A : Option Addr} {l : List UInt64} (h : NOwn W base A n c l) (hb : Boxed W B t v) (ht : t ≠ 50) (u : Value) : NOwn (W.setCell ⟨B, i, none⟩ u) base A n c l :=
  h.kept (Lib.grownBy_setCell W B i u) (nums_box h hb ht)

set_option maxHeartbeats 4000000 in
set_option maxRecDepth 100000 in
theorem takeList_any (A : Option Addr) (n cap : Nat) (b : List UInt8) (z : Int) (w : World) (hl : b.length = n) (hcap : n ≤ cap) (hm : n ≤ 281474976710656) (hb : Bytes w w.heap.size A b)
    (hz0 : -9223372036854775808 ≤ z) (hz1 : z ≤ 9223372036854775807) (hbig : z ≤ 1000000 ∨ n ≤ 10000) :
    Calls Try.prog 19 #[.slice A n cap, .int .i64 z] w (TakesPost w (Pfor.takeList b z)) := by
  refine (callsIn_wide (n := 3)).1 ?_
  refine callsIn_of_wp_marks Try.func19 rfl trivial ?_ rfl
  simp only [Try.ntmps19, List.size_toArray, List.length_cons, List.length_nil, Nat.reduceAdd, Nat.reduceSub, Array.replicate_succ, Array.replicate_zero, List.push_toArray, List.append_toArray, List.nil_append, List.cons_append]
  unfold Pfor.takeList
  by_cases hz : z < 0
  · rw [if_pos hz]
    gi_wp2
    refine ⟨.tuple #[.slice none 0 0, .int .i64 0, .int .i64 1], ?_, none, 0, rfl, nown_none _ _, (((((Below.refl _ w).alloc (Nat.le_refl _) _).alloc (by simp) _).alloc (by simp; omega) _).alloc (by simp; omega) _)⟩
    simp [results, Try.f19, go_sem]
  · rw [if_neg hz]
    have HT := fun (W' : World) (hB : Below w.heap.size w W') => take_any A n cap w.heap.size b W' hl hcap (by omega) (hb.below hB)
    unfold TakePost at HT
    have hbel4 : Below w.heap.size w ((((w.alloc (.cells #[.slice A n cap] 22)).alloc (.cells #[.slice none 0 0] 23)).alloc (.cells #[.int .i64 0] 3)).alloc (.cells #[.int .i64 0] 27)) := ((((Below.refl _ w).alloc (Nat.le_refl _) _).alloc (by simp) _).alloc (by simp; omega) _).alloc (by simp; omega) _
    rcases Num.take_cases b with ⟨v, s, ht⟩ | ⟨e, ht, he⟩
    · obtain ⟨hq1, hq2, hsl, hv⟩ := Num.num_take ht
      clear hq1 hq2
      rw [hl] at hsl
      simp only [ht, ne_eq, not_true, if_false] at HT ⊢
      obtain ⟨V, hV, hV0, hV1⟩ : ∃ V : Int, V = (v : Int) ∧ 0 ≤ V ∧ V ≤ 18446744073709551615 := ⟨_, rfl, by omega, by omega⟩
      rw [← hV] at HT
      have HT4 := Lib.hid (HT _ hbel4)
      clear HT
      by_cases hzv : z < V
      · rw [if_pos (by rw [← hV]; exact hzv)]
        clear hV ht
        gi_wp2_with (refine ⟨trivial, ?_⟩; gi_at_call 39; refine (callsIn_wide.2 HT4.out).mono ?_; rintro e w1 ⟨rfl, rfl⟩)
        refine ⟨.tuple #[.slice none 0 0, .int .i64 0, .int .i64 5], ?_, none, 0, rfl, nown_none _ _, ((((((Below.refl _ w).alloc (Nat.le_refl _) _).alloc (by simp) _).alloc (by simp; omega) _).alloc (by simp; omega) _).alloc (by simp; omega) _)⟩
        simp [results, Try.f19, go_sem]
      · rw [if_neg (by rw [← hV]; exact hzv)]
        have hsz : s ≤ 9 := by
          have h1 := (Num.num_take ht).2.1
          have h2 := Num.size_le9 hv
          omega
        have hs1 : 1 ≤ s := by
          have h1 := (Num.num_take ht).2.1
          have h2 := Num.size_pos v
          omega
        have HB := blockLengths_any v ((((((w.alloc (.cells #[.slice A n cap] 22)).alloc (.cells #[.slice none 0 0] 23)).alloc (.cells #[.int .i64 0] 3)).alloc (.cells #[.int .i64 0] 27)).alloc (.cells #[.int .i64 (s : Int)] 3)).alloc (.cells #[.slice none 0 0] 23))
        rw [← hV] at HB
        have hb7 : Below w.heap.size w (((((((w.alloc (.cells #[.slice A n cap] 22)).alloc (.cells #[.slice none 0 0] 23)).alloc (.cells #[.int .i64 0] 3)).alloc (.cells #[.int .i64 0] 27)).alloc (.cells #[.int .i64 (s : Int)] 3)).alloc (.cells #[.slice none 0 0] 23)).alloc (.cells #[.int .i64 V] 3)) := (((((((Below.refl _ w).alloc (Nat.le_refl _) _).alloc (by simp) _).alloc (by simp; omega) _).alloc (by simp; omega) _).alloc (by simp; omega) _).alloc (by simp; omega) _).alloc (by simp; omega) _
        have hboxes : TakeBoxes w (.slice A n cap) (.slice none 0 0) (.int .i64 0) (.int .i64 0) (.int .i64 (s : Int)) (.slice none 0 0) (((((((w.alloc (.cells #[.slice A n cap] 22)).alloc (.cells #[.slice none 0 0] 23)).alloc (.cells #[.int .i64 0] 3)).alloc (.cells #[.int .i64 0] 27)).alloc (.cells #[.int .i64 (s : Int)] 3)).alloc (.cells #[.slice none 0 0] 23)).alloc (.cells #[.int .i64 V] 3)) := by
          have e0 := Boxed.new w 22 (.slice A n cap)
          have e1 := Boxed.new (w.alloc (.cells #[.slice A n cap] 22)) 23 (.slice none 0 0)
          have e2 := Boxed.new ((w.alloc (.cells #[.slice A n cap] 22)).alloc (.cells #[.slice none 0 0] 23)) 3 (.int .i64 0)
          have e3 := Boxed.new (((w.alloc (.cells #[.slice A n cap] 22)).alloc (.cells #[.slice none 0 0] 23)).alloc (.cells #[.int .i64 0] 3)) 27 (.int .i64 0)
          have e4 := Boxed.new ((((w.alloc (.cells #[.slice A n cap] 22)).alloc (.cells #[.slice none 0 0] 23)).alloc (.cells #[.int .i64 0] 3)).alloc (.cells #[.int .i64 0] 27)) 3 (.int .i64 (s : Int))
          have e5 := Boxed.new (((((w.alloc (.cells #[.slice A n cap] 22)).alloc (.cells #[.slice none 0 0] 23)).alloc (.cells #[.int .i64 0] 3)).alloc (.cells #[.int .i64 0] 27)).alloc (.cells #[.int .i64 (s : Int)] 3)) 23 (.slice none 0 0)
          simp only [World.size_alloc] at e1 e2 e3 e4 e5
          exact ⟨(((((e0.alloc _).alloc _).alloc _).alloc _).alloc _).alloc _, ((((e1.alloc _).alloc _).alloc _).alloc _).alloc _, (((e2.alloc _).alloc _).alloc _).alloc _, ((e3.alloc _).alloc _).alloc _, (e4.alloc _).alloc _, e5.alloc _⟩
        have hcn : (((((((w.alloc (.cells #[.slice A n cap] 22)).alloc (.cells #[.slice none 0 0] 23)).alloc (.cells #[.int .i64 0] 3)).alloc (.cells #[.int .i64 0] 27)).alloc (.cells #[.int .i64 (s : Int)] 3)).alloc (.cells #[.slice none 0 0] 23)).alloc (.cells #[.int .i64 V] 3)).cell? ⟨w.heap.size + 1 + 1 + 1 + 1 + 1 + 1, 0, none⟩ = some (.int .i64 V) := by rw [World.cell?_alloc_at _ _ _ _ (by simp)]; rfl
        have hsz7 : (((((((w.alloc (.cells #[.slice A n cap] 22)).alloc (.cells #[.slice none 0 0] 23)).alloc (.cells #[.int .i64 0] 3)).alloc (.cells #[.int .i64 0] 27)).alloc (.cells #[.int .i64 (s : Int)] 3)).alloc (.cells #[.slice none 0 0] 23)).alloc (.cells #[.int .i64 V] 3)).heap.size = w.heap.size + 1 + 1 + 1 + 1 + 1 + 1 + 1 := by simp
        obtain ⟨R, hR⟩ : ∃ R, Pfor.takeBlocks b v [] s = R := ⟨_, rfl⟩
        rw [hR]
        have hinv : TakeInv w A n cap b v R v (((((((w.alloc (.cells #[.slice A n cap] 22)).alloc (.cells #[.slice none 0 0] 23)).alloc (.cells #[.int .i64 0] 3)).alloc (.cells #[.int .i64 0] 27)).alloc (.cells #[.int .i64 (s : Int)] 3)).alloc (.cells #[.slice none 0 0] 23)).alloc (.cells #[.int .i64 V] 3)) := ⟨none, 0, s, [], hboxes, nown_none _ _, hsl, by simp, by simp, hR, hb7⟩
        have HV := Lib.hid hV
        have HBB := Lib.hid HB
        have HRR := Lib.hid hR
        have hvz : v ≤ 9223372036854775807 := by omega
        have hbig2 : ∀ k at_ m : Nat, k ≤ 32 * at_ → at_ ≤ n → k + m = v → k ≤ 1000000 := fun k at_ m h1 h2 h3 => by omega
        have Hbig := Lib.hid hbig2
        clear hV ht HB hR hbig2 hboxes
        gi_wp2_with (first | (refine ⟨trivial, ?_⟩; gi_at_call 39; refine (callsIn_wide.2 HT4.out).mono ?_; rintro e w1 ⟨rfl, rfl⟩) | (refine ⟨trivial, ?_⟩; gi_at_call 38; refine (callsIn_wide.2 HBB.out).mono ?_; rintro e w2 ⟨rfl, rfl⟩))
        generalize (((((((w.alloc (.cells #[.slice A n cap] 22)).alloc (.cells #[.slice none 0 0] 23)).alloc (.cells #[.int .i64 0] 3)).alloc (.cells #[.int .i64 0] 27)).alloc (.cells #[.int .i64 (s : Int)] 3)).alloc (.cells #[.slice none 0 0] 23)).alloc (.cells #[.int .i64 V] 3)) = W0 at *
        have hcn' := hcn
        rw [HV.out] at hcn'
        refine wpIn_lens (gf := 60) (lb := #[.pointer (some ⟨w.heap.size + 1 + 1 + 1 + 1 + 1 + 1, 0, none⟩)]) (n0 := v) rfl (enters_of Try.func60 (by kernel_rfl) rfl)
          (lens_of 2 (w.heap.size + 1 + 1 + 1 + 1 + 1 + 1) v W0 hvz (by omega) hcn') rfl (TakeInv w A n cap b v R) (TakeOut w A n cap R) (takeInv_own _ _ _ _ _ _ _ _ hb7.size) (takeOut_own _ _ _ _ _ _ hb7.size) hinv
          (fun m => { tmps := #[.slice A n cap, .int .i64 z, .pointer (some ⟨w.heap.size, 0, none⟩), undef, .pointer (some ⟨w.heap.size + 1, 0, none⟩), .pointer (some ⟨w.heap.size + 1 + 1, 0, none⟩), .pointer (some ⟨w.heap.size + 1 + 1 + 1, 0, none⟩), .int .u64 V, .pointer (some ⟨w.heap.size + 1 + 1 + 1 + 1, 0, none⟩), .int .i64 0, .pointer (some ⟨w.heap.size + 1 + 1 + 1 + 1 + 1, 0, none⟩), .int .i64 ((min m 32 : Nat) : Int), undef, undef, undef, .int .i64 z, .bool false, (.tuple #[.int .u64 V, .int .i64 (s : Int), .int .i64 0]), .slice A n cap, (.tuple #[.int .u64 V, .int .i64 (s : Int), .int .i64 0]), .int .u64 V, .int .i64 (s : Int), .int .i64 0, .int .i64 0, .bool false, .int .u64 V, .int .i64 z, .int .u64 z, .bool (decide (z < V)), .int .u64 V, .int .i64 V, .func (.func 60) #[] #[.pointer (some ⟨w.heap.size + 1 + 1 + 1 + 1 + 1 + 1, 0, none⟩)], .int .i64 ((min m 32 : Nat) : Int), undef, undef, undef, undef, undef, undef, undef, undef, undef, undef, undef, undef, undef, undef, undef, undef, undef, undef, undef, undef, undef, undef, undef, undef], defers := [] }) ?assign ?body ?done ?stop
        case assign =>
          intro l' m W K hK
          gi_wp2
          exact hK
        case stop =>
          rintro D W hD ⟨vs, vl, hbx, rfl, hbel⟩ hK
          gi_wp2
          refine ⟨by simp, .inl ⟨_, _, rfl, run_takeDeferred hK, ?_⟩⟩
          have hg := grownBy_putObj' W D (.deferred none)
          have hbx' := hbx.kept hg (not_cells_box (B0 := 0) (fun r e => by cases e; exact ⟨Nat.zero_le _, _, hK, rfl⟩))
          have c4 := hbx'.2.1.cell
          have c5 := hbx'.2.2.1.cell
          have c6 := hbx'.2.2.2.1.cell
          refine ⟨.tuple #[.slice none 0 0, .int .i64 0, .int .i64 2], ?_, none, 0, rfl, nown_none _ _, hbel.grown hg hbel.size (fun k e => by cases e; have := hb7.size; omega)⟩
          simp [results, Try.f19, go_sem, c4, c5, c6]
        case done =>
          rintro D W hD ⟨A2, c, at_, acc, hbx, hown, hat, hav, ha32, hRm, hbel⟩ hK
          rw [Pfor.takeBlocks_zero] at hRm
          subst hRm
          have d4 := hbx.2.1.cell
          have d5 := hbx.2.2.1.cell
          have d6 := hbx.2.2.2.1.cell
          have ds := hbx.2.2.2.2.1.cell
          have dl := hbx.2.2.2.2.2.cell
          have f4 := hbx.2.1.frozen
          have f5 := hbx.2.2.1.frozen
          have f6 := hbx.2.2.2.1.frozen
          gi_wp2
          refine wpIn_wide.2 ?_
          go_region
          have hbx3 := hbx.set3 (.slice A2 acc.length c) (.int .i64 (at_ : Int)) (.int .i64 0)
          have ho1 := hown.set (i := 0) hbx.2.1 (by decide) (.slice A2 acc.length c)
          have ho2 := ho1.set (i := 0) (hbx.2.2.1.other (B' := w.heap.size + 1) (by omega) (.slice A2 acc.length c)) (by decide) (.int .i64 (at_ : Int))
          have ho3 := ho2.set (i := 0) ((hbx.2.2.2.1.other (B' := w.heap.size + 1) (by omega) (.slice A2 acc.length c)).other (B' := w.heap.size + 1 + 1) (by omega) (.int .i64 (at_ : Int))) (by decide) (.int .i64 0)
          have hb3 := ((hbel.setCell (p := ⟨w.heap.size + 1, 0, none⟩) (show w.heap.size ≤ w.heap.size + 1 by omega) (.slice A2 acc.length c)).setCell (p := ⟨w.heap.size + 1 + 1, 0, none⟩) (show w.heap.size ≤ w.heap.size + 1 + 1 by omega) (.int .i64 (at_ : Int))).setCell (p := ⟨w.heap.size + 1 + 1 + 1, 0, none⟩) (show w.heap.size ≤ w.heap.size + 1 + 1 + 1 by omega) (.int .i64 0)
          have hK3 := (((KeepsOthers.setCell W ⟨w.heap.size + 1, 0, none⟩ (.slice A2 acc.length c)).trans (KeepsOthers.setCell _ ⟨w.heap.size + 1 + 1, 0, none⟩ (.int .i64 (at_ : Int)))).trans (KeepsOthers.setCell _ ⟨w.heap.size + 1 + 1 + 1, 0, none⟩ (.int .i64 0))).same D _ hK rfl
          generalize ((W.setCell ⟨w.heap.size + 1, 0, none⟩ (.slice A2 acc.length c)).setCell ⟨w.heap.size + 1 + 1, 0, none⟩ (.int .i64 (at_ : Int))).setCell ⟨w.heap.size + 1 + 1 + 1, 0, none⟩ (.int .i64 0) = W3 at *
          have hKd : W3.drew.heap[D]? = some (.deferred (some [])) := hK3
          gi_wp2
          refine ⟨by simp, .inl ⟨_, _, rfl, run_takeDeferred hKd, ?_⟩⟩
          have hg := grownBy_putObj' W3.drew D (.deferred none)
          have hbx' := TakeBoxes.kept (W := W3.drew) (by exact hbx3) hg (not_cells_box (B0 := 0) (fun r e => by cases e; exact ⟨Nat.zero_le _, _, hKd, rfl⟩))
          have ho' := ROwn.kept (w := W3.drew) (by exact ho3) hg (by
            cases hA : blk A2 with
            | none => exact .inl rfl
            | some q =>
              refine .inr fun e => ?_
              cases e
              have := nown_cells ho3 hA hK3
              cases this)
          have c4 := hbx'.2.1.cell
          have c5 := hbx'.2.2.1.cell
          have c6 := hbx'.2.2.2.1.cell
          refine ⟨.tuple #[.slice A2 acc.length c, .int .i64 (at_ : Int), .int .i64 0], ?_, A2, c, rfl, ho', hb3.drew.grown hg (by exact hb3.size) (fun k e => by cases e; have := hb7.size; omega)⟩
          simp [results, Try.f19, go_sem, c4, c5, c6]
        case body =>
          rintro l' m W hm' ⟨A2, c, at_, acc, hbx, hown, hat, hav, ha32, hRm, hbel⟩
          obtain ⟨x, hx⟩ : ∃ x, x = min m 32 := ⟨_, rfl⟩
          rw [← hx]
          rw [Pfor.takeBlocks_pos b hm', ← hx] at hRm
          have hHT := takeBlock_any (cutAt A cap at_) (n - at_) (cap - at_) w.heap.size (b.drop at_) W (by rw [List.length_drop, hl]) (by omega) (by omega) ((hb.below hbel).cut (k := at_) (cap := cap) (by omega) (by omega)) hbel.size
          unfold TakesPost at hHT
          have hslc := run_cut_from A n cap at_ (n - at_) (by omega)
          have hacc := Hbig.out acc.length at_ m ha32 hat hav
          have Hx := Lib.hid hx; clear hx
          have cb := hbx.1.cell
          have cs := hbx.2.2.2.2.1.cell
          generalize cutAt A cap at_ = A1 at *
          rcases Pfor.takeBlock_cases (b.drop at_) with ⟨L, hg, hpre, ht⟩ | ht
          · rw [ht] at hHT hRm
            have hk := hpre.length_le
            rw [List.length_drop, hl] at hk
            have hk4 := Pfor.block_pos L
            have hL1 := hg.1
            have hL32 := hg.2
            simp only at hHT hRm
            obtain ⟨kk, hkk⟩ : ∃ kk, kk = (Pfor.block L).length := ⟨_, rfl⟩
            rw [← hkk] at hHT hRm hk hk4
            clear hkk hpre ht hg
            by_cases hlx : L.length = x
            · rw [if_pos ⟨trivial, hlx⟩] at hRm
              rw [hlx] at hHT
              have HH := Lib.hid hHT
              have HRm := Lib.hid hRm
              have hx32 : x ≤ 32 := by omega
              have hx1 : 1 ≤ x := by omega
              clear hHT hRm
              gi_wp2_with (first | (refine ⟨trivial, ?_⟩; gi_at_call 16; refine (CallsIn.inRound l' (callsIn_wide.2 HH.out)).mono ?_; rintro e w3 ⟨A3, c3, rfl, ho3, hb3⟩; have hbx3 := hbx.below hb3; have cl3 := hbx3.2.2.2.2.2.cell; have ho2' := hown.below hb3; have hb3' := hbel.trans (hb3.mono hbel.size); have hsz3 := hb3'.size; have ho3r := ho3.row) | (gi_at_builtin; refine wpListIn_append_nums rfl (.tmp 49) (.tmp 50) rfl w.heap.size A2 acc.length c acc rfl ho2' _ A3 x c3 L rfl hlx ho3r (by omega) (by simp only [maxLen]; omega) hsz3 ?_; intro A5 c5 w4 ho4 hg4 hat4; have hbx4 := hbx3.kept hg4 (fun B hB => by obtain ⟨t, u, h1, h2⟩ := hB; exact box_nums ho2' h1 h2); have cl4 := hbx4.2.2.2.2.2.cell; have fl4 := hbx4.2.2.2.2.2.frozen; have cs4 := hbx4.2.2.2.2.1.cell; have fs4 := hbx4.2.2.2.2.1.frozen))
              have hk4' : KeepsOthers w3 w4 := KeepsOthers.of_grownBy hg4 (fun j o hj hjo => nown_cells ho2' hj hjo)
              have hb4 := hb3'.grown hg4 hsz3 (fun k hk => (ho2'.lt hk).1)
              have hbx5 := hbx4.setL (.slice A5 (acc.length + x) c5) (.int .i64 ((at_ : Int) + (kk : Int)))
              have ho5 := (ho4.set (i := 0) hbx4.2.2.2.2.2 (by decide) (.slice A5 (acc.length + x) c5)).set (i := 0) (hbx4.2.2.2.2.1.other (B' := w.heap.size + 1 + 1 + 1 + 1 + 1) (by omega) (.slice A5 (acc.length + x) c5)) (by decide) (.int .i64 ((at_ : Int) + (kk : Int)))
              have hb5 := (hb4.setCell (p := ⟨w.heap.size + 1 + 1 + 1 + 1 + 1, 0, none⟩) (show w.heap.size ≤ w.heap.size + 1 + 1 + 1 + 1 + 1 by omega) (.slice A5 (acc.length + x) c5)).setCell (p := ⟨w.heap.size + 1 + 1 + 1 + 1, 0, none⟩) (show w.heap.size ≤ w.heap.size + 1 + 1 + 1 + 1 by omega) (.int .i64 ((at_ : Int) + (kk : Int)))
              have hal : acc.length + x = (acc ++ L).length := by rw [List.length_append, hlx]
              rw [hal, show (at_ : Int) + (kk : Int) = ((at_ + kk : Nat) : Int) from by omega] at hbx5 ho5 hb5
              have hxx := Hx.out
              have hinv5 : TakeInv w A n cap b v R (m - 32) ((w4.setCell ⟨w.heap.size + 1 + 1 + 1 + 1 + 1, 0, none⟩ (.slice A5 (acc ++ L).length c5)).setCell ⟨w.heap.size + 1 + 1 + 1 + 1, 0, none⟩ (.int .i64 ((at_ + kk : Nat) : Int))) :=
                ⟨A5, c5, at_ + kk, acc ++ L, hbx5, ho5, by omega, by rw [← hal]; omega, by rw [← hal]; omega, HRm.out, hb5⟩
              rw [← hal, show ((at_ + kk : Nat) : Int) = (at_ : Int) + (kk : Int) from by omega] at hinv5
              exact ⟨(((KeepsOthers.below hb3).trans hk4').trans (KeepsOthers.setCell _ _ _)).trans (KeepsOthers.setCell _ _ _), hinv5⟩
            · rw [if_neg (fun h => hlx h.2)] at hRm
              have hI : (L.length : Int) ≠ (x : Int) := by omega
              have HH := Lib.hid hHT
              have HRm := Lib.hid hRm
              clear hHT hRm
              gi_wp2_with (refine ⟨trivial, ?_⟩; gi_at_call 16; refine (CallsIn.inRound l' (callsIn_wide.2 HH.out)).mono ?_; rintro e w3 ⟨A3, c3, rfl, ho3, hb3⟩; have hbx3 := hbx.below hb3; have r4 := hbx3.2.1.cell; have r5 := hbx3.2.2.1.cell; have r6 := hbx3.2.2.2.1.cell; have q4 := hbx3.2.1.frozen; have q5 := hbx3.2.2.1.frozen; have q6 := hbx3.2.2.2.1.frozen)
              have hb4 := ((((hbel.trans (hb3.mono hbel.size)).setCell (p := ⟨w.heap.size + 1, 0, none⟩) (show w.heap.size ≤ w.heap.size + 1 by omega) (.slice none 0 0)).setCell (p := ⟨w.heap.size + 1 + 1, 0, none⟩) (show w.heap.size ≤ w.heap.size + 1 + 1 by omega) (.int .i64 0)).setCell (p := ⟨w.heap.size + 1 + 1 + 1, 0, none⟩) (show w.heap.size ≤ w.heap.size + 1 + 1 + 1 by omega) (.int .i64 2))
              exact ⟨(((KeepsOthers.below hb3).trans (KeepsOthers.setCell _ _ _)).trans (KeepsOthers.setCell _ _ _)).trans (KeepsOthers.setCell _ _ _), _, _, hbx3.set3 (.slice none 0 0) (.int .i64 0) (.int .i64 2), HRm.out.symm, hb4⟩
          · rw [ht] at hHT hRm
            simp only [List.length_nil] at hHT
            rw [if_neg (fun h => by have := h.1; cases this)] at hRm
            have HH := Lib.hid hHT
            have HRm := Lib.hid hRm
            clear hHT hRm
            gi_wp2_with (refine ⟨trivial, ?_⟩; gi_at_call 16; refine (CallsIn.inRound l' (callsIn_wide.2 HH.out)).mono ?_; rintro e w3 ⟨A3, c3, rfl, ho3, hb3⟩; have hbx3 := hbx.below hb3; have r4 := hbx3.2.1.cell; have r5 := hbx3.2.2.1.cell; have r6 := hbx3.2.2.2.1.cell; have q4 := hbx3.2.1.frozen; have q5 := hbx3.2.2.1.frozen; have q6 := hbx3.2.2.2.1.frozen)
            have hb4 := ((((hbel.trans (hb3.mono hbel.size)).setCell (p := ⟨w.heap.size + 1, 0, none⟩) (show w.heap.size ≤ w.heap.size + 1 by omega) (.slice none 0 0)).setCell (p := ⟨w.heap.size + 1 + 1, 0, none⟩) (show w.heap.size ≤ w.heap.size + 1 + 1 by omega) (.int .i64 0)).setCell (p := ⟨w.heap.size + 1 + 1 + 1, 0, none⟩) (show w.heap.size ≤ w.heap.size + 1 + 1 + 1 by omega) (.int .i64 2))
            exact ⟨(((KeepsOthers.below hb3).trans (KeepsOthers.setCell _ _ _)).trans (KeepsOthers.setCell _ _ _)).trans (KeepsOthers.setCell _ _ _), _, _, hbx3.set3 (.slice none 0 0) (.int .i64 0) (.int .i64 2), HRm.out.symm, hb4⟩
    · have he' : ¬ ((e : Int) = 0) := by omega
      simp only [ht] at HT ⊢
      rw [if_pos (by omega)]
      have HT4 := Lib.hid (HT _ hbel4)
      clear HT ht he
      gi_wp2_with (refine ⟨trivial, ?_⟩; gi_at_call 39; refine (callsIn_wide.2 HT4.out).mono ?_; rintro e' w1 ⟨rfl, rfl⟩)
      refine ⟨.tuple #[.slice none 0 0, .int .i64 0, .int .i64 2], ?_, none, 0, rfl, nown_none _ _, ((((((Below.refl _ w).alloc (Nat.le_refl _) _).alloc (by simp) _).alloc (by simp; omega) _).alloc (by simp; omega) _).alloc (by simp; omega) _)⟩
      simp [results, Try.f19, go_sem]
end Go.Proofs.Ytcknijkjacgnkaa
