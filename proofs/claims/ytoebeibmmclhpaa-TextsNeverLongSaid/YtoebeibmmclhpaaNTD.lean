/- Texts of several layers, one behind the other: PutList. -/
import Derived.Test.YtoebeibmmclhpaaNTC
/- pfor.PutList. -/
namespace Go.Proofs.Ytoebeibmmclhpaa
open Go.RowKit Go.Shelf
set_option maxRecDepth 100000
attribute [local go_sem] Oper.semAt_some
/-- a box of another kind than bytes is no row of bytes -/
theorem box_apart {w : World} {base B n c : Nat} {t : TypeId} {v : Value} {A : Option Addr} {l : List UInt8} (h : Own w base A n c l) (hb : Boxed w B t v) (ht : t ≠ 5) : blk A = none ∨ blk A ≠ some B := by
  rcases h.2 with ⟨hv, _⟩ | ⟨g, cap, cur, hv, _, hg, _⟩
  · injection hv with h1; subst h1; exact .inl rfl
  · injection hv with h1
    subst h1
    refine .inr fun e => ?_
    have e' : g = B := by simpa [blk] using e
    subst e'
    have hb' : w.heap[g]? = some (.cells #[v] t (0, 0)) := hb
    rw [hg] at hb'
    injection hb' with hb'
    injection hb' with _ h2
    exact ht h2.symm
theorem own_cells {w : World} {base n c k : Nat} {A : Option Addr} {l : List UInt8} {o : Obj} (h : Own w base A n c l) (hk : blk A = some k) (ho : w.heap[k]? = some o) : o.isCells = true := by
  rcases h.2 with ⟨hv, _⟩ | ⟨g, cap, cur, hv, _, hg, _⟩
  · injection hv with h1; subst h1; cases hk
  · injection hv with h1
    subst h1
    have e' : g = k := by simpa [blk] using hk
    subst e'
    rw [hg] at ho
    cases ho
    rfl
theorem box_kept {w w' : World} {B : Nat} {t : TypeId} {v : Value} {row : Option Nat} (h : Boxed w B t v) (hg : w.grownBy w' row) (hr : ∀ r, row = some r → ∃ o : Obj, w.heap[r]? = some o ∧ o.isCells = false) : Boxed w' B t v :=
  h.kept hg (fun e => by
    obtain ⟨o, ho, hc⟩ := hr B e.symm
    have hb : w.heap[B]? = some (.cells #[v] t (0, 0)) := h
    rw [hb] at ho
    cases ho
    cases hc)
/-- between two rounds of PutList: m numbers are left -/
def PutInv (w : World) (Bo Bl : Nat) (T : List UInt8) (m : Nat) (W : World) : Prop :=
  ∃ (A A2 : Option Addr) (c c2 : Nat) (O : List UInt8) (rest : List UInt64), rest.length = m ∧ m ≤ c2 ∧ Nums w w.heap.size A2 rest ∧ O ++ Pfor.blocks rest = T ∧
    Boxed W Bo 22 (.slice A O.length c) ∧ Own W w.heap.size A O.length c O ∧ Boxed W Bl 37 (.slice A2 m c2) ∧ Below w.heap.size w W
theorem putInv_own (w : World) (Bo Bl B : Nat) (T : List UInt8) (hB : w.heap.size ≤ B) : OwnFrom B (PutInv w Bo Bl T) := by
  rintro m W W' row ⟨A, A2, c, c2, O, rest, h1, h2, h3, h4, h5, h6, h7, h8⟩ hg hr
  refine ⟨A, A2, c, c2, O, rest, h1, h2, h3, h4, box_kept h5 hg (fun r e => (hr r e).2), h6.kept hg ?_, box_kept h7 hg (fun r e => (hr r e).2), h8.grown hg h8.size (fun k e => Nat.le_trans hB (hr k e).1)⟩
  cases row with
  | none => cases hA : blk A <;> simp
  | some r =>
    refine .inr fun e => ?_
    obtain ⟨_, o, ho, hc⟩ := hr r rfl
    rw [own_cells h6 e ho] at hc
    cases hc
theorem elem23 : Try.prog.elem 37 = 43 := by kernel_rfl
theorem size64 (W : World) : (sizeOf 43).run Try.prog W = .ok 1 W := by
  obtain ⟨i0, hi0, hz0, hz1, hz2⟩ := info_parts u64_info
  simp [sizeOf, typeInfo, hi0, hz1]
theorem run_nums_h (A : Option Addr) (n cap hi : Nat) (h2 : hi ≤ cap) (W : World) :
    (Instr.slice 37 (.slice A n cap) none (some (.int .i64 (hi : Int))) none).run Try.prog W = .ok (.slice A hi cap) W := by
  rw [run_slice_h (P := Try.prog) (w := W) (kh := .i64) (h := (hi : Int)) (h0 := by omega) (h2 := by omega) (ht := by rw [elem23]; exact Try.underlying37)]
  rw [elem23, size64]
  by_cases hc : cap = 0 <;> cases A <;> simp [Result.andThen, sliced, Addr.add]
theorem run_nums_l (A : Option Addr) (n cap lo m : Nat) (h1 : n = lo + m) (W : World) :
    (Instr.slice 37 (.slice A n cap) (some (.int .i64 (lo : Int))) none none).run Try.prog W = .ok (.slice (cutAt A cap lo) m (cap - lo)) W := by
  rw [run_slice_l (P := Try.prog) (w := W) (kl := .i64) (l := (lo : Int)) (h0 := by omega) (h1 := by omega) (ht := by rw [elem23]; exact Try.underlying37)]
  rw [elem23, size64, show m = n - lo from by omega]
  simp [Result.andThen, sliced, cutAt]
theorem stepIn_append_bytes {F : Fence} {k : Nat} {w : World} {ops : Array Oper} {o : Oper} {a : Act} {K : Act → World → Prop} {Q : Exit → Act → World → Prop} {E : Prop} (hw : Region.wanted o (yielded ops a.tmps) = true) (s x : Operand)
    (ho : o.op = .call { callee := .builtin .append, args := #[s, x], argTypes := #[22, 22] })
    (base : Nat) (A : Option Addr) (n c : Nat) (l : List UInt8) (hs : a.eval s = .slice A n c) (hown : Own w base A n c l)
    (B : Nat) (A2 : Option Addr) (m c2 : Nat) (l2 : List UInt8) (hx : a.eval x = .slice A2 m c2) (hl2 : l2.length = m) (hb : Bytes w B A2 l2) (hbytes : n + m ≤ 140737488355328) (hbase : base ≤ w.heap.size)
    (h : ∀ A' c' w', Own w' base A' (n + m) c' (l ++ l2) → w.grownBy w' (blk A) → (blk A' = blk A ∨ blk A' = some w.heap.size) → K (a.put o.dst (.slice A' (n + m) c')) w') :
    if Region.wanted o (yielded ops a.tmps) = true then Oper.wpIn F k Try.prog o a w K Q else E := by
  obtain ⟨A', c', w', hrun, h2, h3, h4⟩ := run_append_bytes w base o.type A n c l hown B A2 m c2 l2 hl2 hb hbytes hbase
  rw [if_pos hw]
  unfold Oper.wpIn
  refine ⟨by simp [Oper.about, ho, resolve, Target.leads, Sem.run_pure], ?_⟩
  rw [Oper.semAt_plain F _ _ (by rw [ho]; intro c hc; cases hc)]
  simp only [execOp, ho, resolve, invoke, builtin, Sem.run_bind, Sem.run_pure, Result.andThen_ok, List.map_toArray, List.map_cons, List.map_nil, hs, hx, hrun]
  exact h A' c' w' h2 h3 h4
set_option maxHeartbeats 4000000 in
set_option maxRecDepth 100000 in
theorem putList_wide (A1 A2 : Option Addr) (n1 c1 n2 c2 : Nat) (b : List UInt8) (l : List UInt64) (w : World) (hl1 : b.length = n1) (hl2 : l.length = n2) (hn1 : n1 ≤ 140737488355328) (hn2 : n2 ≤ 1000000) (hc2 : n2 ≤ c2) (hTot : (b ++ Pfor.list l).length ≤ 140737488355328)
    (hb1 : Bytes w w.heap.size A1 b) (hb2 : Nums w w.heap.size A2 l) :
    Calls Try.prog 12 #[.slice A1 n1 c1, .slice A2 n2 c2] w (MadeIn w.heap.size w (b ++ Pfor.list l).length (b ++ Pfor.list l)) := by
  refine (callsIn_wide (n := 3)).1 ?_
  refine callsIn_of_wp_marks Try.func12 rfl trivial ?_ rfl
  simp only [Try.ntmps12, List.size_toArray, List.length_cons, List.length_nil, Nat.reduceAdd, Nat.reduceSub, Array.replicate_succ, Array.replicate_zero, List.push_toArray, List.append_toArray, List.nil_append, List.cons_append]
  have bl0 := Boxed.new w 37 (.slice A2 n2 c2)
  have hbl0 : Below w.heap.size w (w.alloc (.cells #[.slice A2 n2 c2] 37)) := (Below.refl _ w).alloc (Nat.le_refl _) _
  have HP := put_any A1 n1 c1 w.heap.size n2 b _ hl1 (by omega) (by omega) (hb1.below hbl0) (by simp)
  rw [show (w.alloc (.cells #[.slice A2 n2 c2] 37)).heap.size = w.heap.size + 1 from by simp] at HP
  have hcl := bl0.cell
  have hs9 := Num.size_le9 (show n2 < 18446744073709551616 by omega)
  replace HP := Lib.hid HP
  gi_wp2_with (first | (refine ⟨trivial, ?_⟩; gi_at_call 22; refine (callsIn_wide.2 HP.out).mono ?_; rintro e w1 ⟨g1, k1, rfl, ho1, hb1'⟩; have bl1 := Boxed.kept (W' := w1) bl0 (row := none) ⟨hb1'.os, hb1'.tape, hb1'.output, hb1'.size, fun k hk _ => hb1'.block k (by simpa using hk)⟩ (by simp); have bl2 := bl1.alloc (.cells #[.slice (some ⟨g1, 0, none⟩) (n1 + Num.size n2) k1] 22); have bo2 := Boxed.new w1 22 (.slice (some ⟨g1, 0, none⟩) (n1 + Num.size n2) k1); have hcl2 := bl2.cell) | (refine ⟨trivial, ?_⟩; gi_at_call 23; refine (callsIn_wide.2 (blockLengths_any n2 _)).mono ?_; rintro e w2 ⟨rfl, rfl⟩))
  have hb1g : Below w.heap.size w w1 := hbl0.trans (hb1'.mono (Nat.le_succ _))
  have hlt1 : w.heap.size < w1.heap.size := by have := hb1'.size; simp at this; omega
  have hT0 : (b ++ Num.num n2) ++ Pfor.blocks l = b ++ Pfor.list l := by rw [Pfor.list, hl2, List.append_assoc]
  have hOl : (b ++ Num.num n2).length = n1 + Num.size n2 := by rw [List.length_append, hl1, Num.num_length]
  have hTl : (b ++ Pfor.list l).length ≤ 140737488355328 := hTot
  clear hTot
  generalize b ++ Pfor.list l = T at *
  obtain ⟨Bo, hBo⟩ : ∃ Bo, Bo = w1.heap.size := ⟨_, rfl⟩
  obtain ⟨Bl, hBl⟩ : ∃ Bl, Bl = w.heap.size := ⟨_, rfl⟩
  have bo3 := bo2.alloc (.cells #[.int .i64 (n2 : Int)] 3)
  have bl3 := bl2.alloc (.cells #[.int .i64 (n2 : Int)] 3)
  have ho3 := ((ho1.low (b' := w.heap.size) (Nat.le_succ _)).alloc (.cells #[.slice (some ⟨g1, 0, none⟩) (n1 + Num.size n2) k1] 22)).alloc (.cells #[.int .i64 (n2 : Int)] 3)
  have hbel3 : Below w.heap.size w ((w1.alloc (.cells #[.slice (some ⟨g1, 0, none⟩) (n1 + Num.size n2) k1] 22)).alloc (.cells #[.int .i64 (n2 : Int)] 3)) := (hb1g.alloc hb1g.size _).alloc (by simp; omega) _
  have hcn : ((w1.alloc (.cells #[.slice (some ⟨g1, 0, none⟩) (n1 + Num.size n2) k1] 22)).alloc (.cells #[.int .i64 (n2 : Int)] 3)).cell? ⟨w1.heap.size + 1, 0, none⟩ = some (.int .i64 (n2 : Int)) := by rw [World.cell?_alloc_at _ _ _ _ (by simp)]; rfl
  have hinv : PutInv w w1.heap.size w.heap.size T n2 ((w1.alloc (.cells #[.slice (some ⟨g1, 0, none⟩) (n1 + Num.size n2) k1] 22)).alloc (.cells #[.int .i64 (n2 : Int)] 3)) := by
    refine ⟨some ⟨g1, 0, none⟩, A2, k1, c2, b ++ Num.num n2, l, hl2, hc2, hb2, hT0, ?_, ?_, bl3, hbel3⟩
    · rw [hOl]; exact bo3
    · rw [hOl]; exact ho3
  have hsz3 : ((w1.alloc (.cells #[.slice (some ⟨g1, 0, none⟩) (n1 + Num.size n2) k1] 22)).alloc (.cells #[.int .i64 (n2 : Int)] 3)).heap.size = w1.heap.size + 2 := by simp
  generalize (w1.alloc (.cells #[.slice (some ⟨g1, 0, none⟩) (n1 + Num.size n2) k1] 22)).alloc (.cells #[.int .i64 (n2 : Int)] 3) = W0 at *
  refine wpIn_lens (gf := 35) (lb := #[.pointer (some ⟨w1.heap.size + 1, 0, none⟩)]) (n0 := n2) rfl (enters_of Try.func35 (by kernel_rfl) rfl)
    (lens_of 2 (w1.heap.size + 1) n2 W0 (by omega) (by omega) hcn) rfl (PutInv w w1.heap.size w.heap.size T) (fun _ => False) (putInv_own _ _ _ _ _ hbel3.size) (fun _ _ _ _ h _ _ => h) hinv
    (fun m => { tmps := #[.slice A1 n1 c1, .slice A2 n2 c2, undef, .pointer (some ⟨w.heap.size, 0, none⟩), .slice none 0 0, .pointer (some ⟨w1.heap.size, 0, none⟩), .int .i64 ((min m 32 : Nat) : Int), .slice A1 n1 c1, .slice A2 n2 c2, .int .i64 (n2 : Int), .int .u64 (n2 : Int),
      .slice (some ⟨g1, 0, none⟩) (n1 + Num.size n2) k1, .slice A2 n2 c2, .int .i64 (n2 : Int), .func (.func 35) #[] #[.pointer (some ⟨w1.heap.size + 1, 0, none⟩)], .int .i64 ((min m 32 : Nat) : Int), undef, undef, undef, undef, undef, undef, undef, undef, undef, undef], defers := [] }) ?assign ?body ?done ?stop
  case assign =>
    intro l' m W K hK
    gi_wp2
    exact hK
  case stop =>
    rintro D W _ h _
    exact h.elim
  case done =>
    rintro D W hD ⟨A, A2', c, c2', O, rest, hrl, _, _, hT, hbo, hown, _, hbel⟩ hK
    obtain rfl : rest = [] := List.eq_nil_of_length_eq_zero hrl
    rw [Pfor.blocks_nil, List.append_nil] at hT
    subst hT
    have hc := hbo.cell
    gi_wp2
    refine ⟨by simp, .inl ⟨_, _, rfl, run_takeDeferred hK, ?_⟩⟩
    have hg := grownBy_putObj' W D (.deferred none)
    have hpos : 0 < O.length := by
      have h9 := congrArg List.length hT0
      rw [List.length_append, hOl] at h9
      have := Num.size_pos n2
      omega
    obtain ⟨g9, rfl, hg9, _⟩ := hown.at_ hpos
    have hown' := hown.kept hg (.inr (fun e => by
      have e' : g9 = D := by simpa [blk] using e
      subst e'
      have := own_cells hown rfl hK
      cases this))
    exact ⟨_, results_tmp rfl _ _ _, g9, c, rfl, hown', hbel.grown hg hbel.size (fun k e => by cases e; have := hbel3.size; omega)⟩
  case body =>
    rintro l' m W hm ⟨A, A2', c, c2', O, rest, hrl, hcap, hnums, hT, hbo, hown, hbl, hbel⟩
    obtain ⟨x, hx⟩ : ∃ x, x = min m 32 := ⟨_, rfl⟩
    have hx1 : 1 ≤ x := by omega
    have hx32 : x ≤ 32 := by omega
    have hxm : x ≤ m := by omega
    have hxl : (rest.take x).length = x := by rw [List.length_take]; omega
    have hrest : rest ≠ [] := fun h => by rw [h] at hrl; simp at hrl; omega
    have htk : rest.take x = rest.take 32 := by
      rcases Nat.lt_or_ge m 32 with h | h
      · rw [List.take_of_length_le (by omega), List.take_of_length_le (by omega)]
      · rw [show x = 32 from by omega]
    have hdr : rest.drop x = rest.drop 32 := by
      rcases Nat.lt_or_ge m 32 with h | h
      · rw [List.drop_of_length_le (by omega), List.drop_of_length_le (by omega)]
      · rw [show x = 32 from by omega]
    rw [Pfor.blocks_cons hrest, ← htk, ← hdr, ← List.append_assoc] at hT
    have hOT : O.length + (Pfor.block (rest.take x)).length ≤ T.length := by rw [← hT]; simp only [List.length_append]; omega
    have HE := Lib.hid (fun (W' : World) (hb : Below w.heap.size w W') => encodeBlock_any A2' x c2' w.heap.size (rest.take x) W' hxl hx1 hx32 ((hnums.below hb).take x) hb.size)
    generalize hKK : Pfor.block (rest.take x) = K at *
    clear hKK
    rw [← hx]
    have Hx := Lib.hid hx; clear hx
    have hco := hbo.cell
    have hcl' := hbl.cell
    have hsl := run_nums_h A2' m c2' x (by omega)
    have hne : w1.heap.size ≠ w.heap.size := by omega
    -- behind the block's encoding
    have HX := Lib.hid (fun (w3 : World) (hb3 : Below W.heap.size W.drew w3) => show Below w.heap.size w w3 ∧ Own w3 w.heap.size A O.length c O ∧ Boxed w3 w1.heap.size 22 (.slice A O.length c) ∧ Boxed w3 w.heap.size 37 (.slice A2' m c2') ∧
        w3.cell? ⟨w1.heap.size, 0, none⟩ = some (.slice A O.length c) ∧ KeepsOthers W w3 from by
      have hb3' : Below W.heap.size W w3 := below_of_drew hb3
      have hgn : W.grownBy w3 none := ⟨hb3'.os, hb3'.tape, hb3'.output, hb3'.size, fun k hk _ => hb3'.block k hk⟩
      have bo := hbo.kept hgn (by simp)
      exact ⟨hbel.trans (hb3'.mono hbel.size), hown.below hb3', bo, hbl.kept hgn (by simp), bo.cell, KeepsOthers.below hb3'⟩)
    -- behind the append, and the store
    have HY := Lib.hid (fun (w3 w4 : World) (A5 : Option Addr) (c5 : Nat) (K : List UInt8) (ho3 : Own w3 w.heap.size A O.length c O) (bo3 : Boxed w3 w1.heap.size 22 (.slice A O.length c)) (bl3 : Boxed w3 w.heap.size 37 (.slice A2' m c2'))
        (hb3 : Below w.heap.size w w3) (hk3 : KeepsOthers W w3) (ho4 : Own w4 w.heap.size A5 (O.length + K.length) c5 (O ++ K)) (hg4 : w3.grownBy w4 (blk A)) =>
        show Own (w4.setCell ⟨w1.heap.size, 0, none⟩ (.slice A5 (O.length + K.length) c5)) w.heap.size A5 (O.length + K.length) c5 (O ++ K) ∧ Boxed (w4.setCell ⟨w1.heap.size, 0, none⟩ (.slice A5 (O.length + K.length) c5)) w1.heap.size 22 (.slice A5 (O.length + K.length) c5) ∧
          Boxed (w4.setCell ⟨w1.heap.size, 0, none⟩ (.slice A5 (O.length + K.length) c5)) w.heap.size 37 (.slice A2' m c2') ∧ Below w.heap.size w (w4.setCell ⟨w1.heap.size, 0, none⟩ (.slice A5 (O.length + K.length) c5)) ∧
          KeepsOthers W (w4.setCell ⟨w1.heap.size, 0, none⟩ (.slice A5 (O.length + K.length) c5)) ∧ w4.cell? ⟨w1.heap.size, 0, none⟩ = some (.slice A O.length c) ∧ w4.frozen? ⟨w1.heap.size, 0, none⟩ = false from by
      have nb : ∀ {B : Nat} {t : TypeId} {v : Value}, Boxed w3 B t v → t ≠ 5 → some B ≠ blk A := fun hb ht e => by
        rcases box_apart ho3 hb ht with h | h
        · rw [h] at e; cases e
        · exact h e.symm
      have bo4 := bo3.kept hg4 (nb bo3 (by decide))
      have bl4 := bl3.kept hg4 (nb bl3 (by decide))
      have hb4 := hb3.grown hg4 hb3.size (fun k hk => (ho3.lt hk).1)
      have hk4 : KeepsOthers w3 w4 := KeepsOthers.of_grownBy hg4 (fun j o hj hjo => own_cells ho3 hj hjo)
      have ho5 := ho4.kept (Lib.grownBy_setCell w4 w1.heap.size 0 (.slice A5 (O.length + K.length) c5)) (box_apart ho4 bo4 (by decide))
      exact ⟨ho5, bo4.set _, bl4.other (by omega) _, hb4.setCell (p := ⟨w1.heap.size, 0, none⟩) (Nat.le_of_lt hlt1) _, (hk3.trans hk4).trans (KeepsOthers.setCell _ _ _), bo4.cell, bo4.frozen⟩)
    have hOK : O.length + K.length ≤ 140737488355328 := by omega
    gi_wp2
    refine wpIn_mono (Q := fun e a' W' => e = .normal ∧ ∃ (A5 : Option Addr) (c5 g3 k3 : Nat), a' = { tmps := #[.slice A1 n1 c1, .slice A2 n2 c2, undef, .pointer (some ⟨w.heap.size, 0, none⟩), .slice none 0 0, .pointer (some ⟨w1.heap.size, 0, none⟩), .int .i64 (x : Int), .slice A1 n1 c1, .slice A2 n2 c2, .int .i64 (n2 : Int), .int .u64 (n2 : Int), .slice (some ⟨g1, 0, none⟩) (n1 + Num.size n2) k1, .slice A2 n2 c2, .int .i64 (n2 : Int), .func (.func 35) #[] #[.pointer (some ⟨w1.heap.size + 1, 0, none⟩)], .int .i64 (x : Int), .slice A O.length c, .slice A2' m c2', .int .i64 (x : Int), .slice A2' x c2', .slice (some ⟨g3, 0, none⟩) K.length k3, .slice A5 (O.length + K.length) c5, undef, undef, undef, undef], defers := [] } ∧
      Own W' w.heap.size A5 (O.length + K.length) c5 (O ++ K) ∧ Boxed W' w1.heap.size 22 (.slice A5 (O.length + K.length) c5) ∧ Boxed W' w.heap.size 37 (.slice A2' m c2') ∧ Below w.heap.size w W' ∧ KeepsOthers W W') ?_ ?_
    · refine wpIn_region_any (by kernel_rfl) ?_
      change wpAnyIn _ _ _ _ _ _ _ _ _ (World.drew _)
      refine wpAnyIn_ready (rs := [0, 1, 2]) (by kernel_rfl) (by simp) ?_
      refine AllReadyIn.cons rfl (fun K hK => ?_) ?_
      · go_simp
        refine hK _ _ ?_
        clear hK K
        refine wpAnyIn_ready (rs := [1, 2]) (by kernel_rfl) (by simp) ?_
        refine AllReadyIn.cons rfl (fun K hK => ?_) ?_
        · go_simp
          refine hK _ _ ?_
          clear hK K
          refine wpAnyIn_ready (rs := [2]) (by kernel_rfl) (by simp) ?_
          refine AllReadyIn.cons rfl (fun K hK => ?_) ?_
          · go_simp
            refine hK _ _ ?_
            clear hK K
            refine wpAnyIn_ready (rs := [3]) (by kernel_rfl) (by simp) ?_
            refine AllReadyIn.cons rfl (fun K hK => ?_) ?_
            · go_simp
              refine hK _ _ ?_
              clear hK K
              refine wpAnyIn_ready (rs := [4]) (by kernel_rfl) (by simp) ?_
              refine AllReadyIn.cons rfl (fun K hK => ?_) ?_
              · go_simp
                refine ⟨trivial, ?_⟩
                gi_at_call 24
                refine (CallsIn.inRound l' (callsIn_wide.2 (HE.out W.drew hbel.drew))).mono ?_
                rintro e w3 ⟨g3, k3, rfl, ho3, hb3⟩
                refine hK _ _ ?_
                clear hK K
                obtain ⟨hb3', ho3', bo3', bl3', hco3, hko3⟩ := HX.out w3 hb3
                refine wpAnyIn_ready (rs := [5]) (by kernel_rfl) (by simp) ?_
                refine AllReadyIn.cons rfl (fun K hK => ?_) ?_
                · refine stepIn_append_bytes (by rfl) (.tmp 16) (.tmp 20) (by rfl) w.heap.size A O.length c O (by rfl) (by exact ho3') _ _ _ k3 _ (by rfl) rfl (by exact ho3.bytes) (by omega) (by exact hb3'.size) ?_
                  intro A5 c5 w4 ho4 hg4 hat4
                  refine hK _ _ ?_
                  clear hK K
                  obtain ⟨ho5, bo5, bl5, hbel5, hko5, hc4, hf4⟩ := HY.out w3 w4 A5 c5 _ ho3' bo3' bl3' hb3' hko3 ho4 hg4
                  refine wpAnyIn_ready (rs := [6]) (by kernel_rfl) (by simp) ?_
                  refine AllReadyIn.cons rfl (fun K hK => ?_) ?_
                  · go_simp
                    refine hK _ _ ?_
                    clear hK K
                    refine wpAnyIn_done (by kernel_rfl) ?_ _
                    exact ⟨rfl, A5, c5, g3, k3, rfl, ho5, bo5, bl5, hbel5, hko5⟩
                  exact AllReadyIn.nil
                exact AllReadyIn.nil
              exact AllReadyIn.nil
            exact AllReadyIn.nil
          exact AllReadyIn.nil
        refine AllReadyIn.cons rfl (fun K hK => ?_) ?_
        · go_simp
          refine hK _ _ ?_
          clear hK K
          refine wpAnyIn_ready (rs := [1]) (by kernel_rfl) (by simp) ?_
          refine AllReadyIn.cons rfl (fun K hK => ?_) ?_
          · go_simp
            refine hK _ _ ?_
            clear hK K
            refine wpAnyIn_ready (rs := [3]) (by kernel_rfl) (by simp) ?_
            refine AllReadyIn.cons rfl (fun K hK => ?_) ?_
            · go_simp
              refine hK _ _ ?_
              clear hK K
              refine wpAnyIn_ready (rs := [4]) (by kernel_rfl) (by simp) ?_
              refine AllReadyIn.cons rfl (fun K hK => ?_) ?_
              · go_simp
                refine ⟨trivial, ?_⟩
                gi_at_call 24
                refine (CallsIn.inRound l' (callsIn_wide.2 (HE.out W.drew hbel.drew))).mono ?_
                rintro e w3 ⟨g3, k3, rfl, ho3, hb3⟩
                refine hK _ _ ?_
                clear hK K
                obtain ⟨hb3', ho3', bo3', bl3', hco3, hko3⟩ := HX.out w3 hb3
                refine wpAnyIn_ready (rs := [5]) (by kernel_rfl) (by simp) ?_
                refine AllReadyIn.cons rfl (fun K hK => ?_) ?_
                · refine stepIn_append_bytes (by rfl) (.tmp 16) (.tmp 20) (by rfl) w.heap.size A O.length c O (by rfl) (by exact ho3') _ _ _ k3 _ (by rfl) rfl (by exact ho3.bytes) (by omega) (by exact hb3'.size) ?_
                  intro A5 c5 w4 ho4 hg4 hat4
                  refine hK _ _ ?_
                  clear hK K
                  obtain ⟨ho5, bo5, bl5, hbel5, hko5, hc4, hf4⟩ := HY.out w3 w4 A5 c5 _ ho3' bo3' bl3' hb3' hko3 ho4 hg4
                  refine wpAnyIn_ready (rs := [6]) (by kernel_rfl) (by simp) ?_
                  refine AllReadyIn.cons rfl (fun K hK => ?_) ?_
                  · go_simp
                    refine hK _ _ ?_
                    clear hK K
                    refine wpAnyIn_done (by kernel_rfl) ?_ _
                    exact ⟨rfl, A5, c5, g3, k3, rfl, ho5, bo5, bl5, hbel5, hko5⟩
                  exact AllReadyIn.nil
                exact AllReadyIn.nil
              exact AllReadyIn.nil
            exact AllReadyIn.nil
          exact AllReadyIn.nil
        exact AllReadyIn.nil
      refine AllReadyIn.cons rfl (fun K hK => ?_) ?_
      · go_simp
        refine hK _ _ ?_
        clear hK K
        refine wpAnyIn_ready (rs := [0, 2]) (by kernel_rfl) (by simp) ?_
        refine AllReadyIn.cons rfl (fun K hK => ?_) ?_
        · go_simp
          refine hK _ _ ?_
          clear hK K
          refine wpAnyIn_ready (rs := [2]) (by kernel_rfl) (by simp) ?_
          refine AllReadyIn.cons rfl (fun K hK => ?_) ?_
          · go_simp
            refine hK _ _ ?_
            clear hK K
            refine wpAnyIn_ready (rs := [3]) (by kernel_rfl) (by simp) ?_
            refine AllReadyIn.cons rfl (fun K hK => ?_) ?_
            · go_simp
              refine hK _ _ ?_
              clear hK K
              refine wpAnyIn_ready (rs := [4]) (by kernel_rfl) (by simp) ?_
              refine AllReadyIn.cons rfl (fun K hK => ?_) ?_
              · go_simp
                refine ⟨trivial, ?_⟩
                gi_at_call 24
                refine (CallsIn.inRound l' (callsIn_wide.2 (HE.out W.drew hbel.drew))).mono ?_
                rintro e w3 ⟨g3, k3, rfl, ho3, hb3⟩
                refine hK _ _ ?_
                clear hK K
                obtain ⟨hb3', ho3', bo3', bl3', hco3, hko3⟩ := HX.out w3 hb3
                refine wpAnyIn_ready (rs := [5]) (by kernel_rfl) (by simp) ?_
                refine AllReadyIn.cons rfl (fun K hK => ?_) ?_
                · refine stepIn_append_bytes (by rfl) (.tmp 16) (.tmp 20) (by rfl) w.heap.size A O.length c O (by rfl) (by exact ho3') _ _ _ k3 _ (by rfl) rfl (by exact ho3.bytes) (by omega) (by exact hb3'.size) ?_
                  intro A5 c5 w4 ho4 hg4 hat4
                  refine hK _ _ ?_
                  clear hK K
                  obtain ⟨ho5, bo5, bl5, hbel5, hko5, hc4, hf4⟩ := HY.out w3 w4 A5 c5 _ ho3' bo3' bl3' hb3' hko3 ho4 hg4
                  refine wpAnyIn_ready (rs := [6]) (by kernel_rfl) (by simp) ?_
                  refine AllReadyIn.cons rfl (fun K hK => ?_) ?_
                  · go_simp
                    refine hK _ _ ?_
                    clear hK K
                    refine wpAnyIn_done (by kernel_rfl) ?_ _
                    exact ⟨rfl, A5, c5, g3, k3, rfl, ho5, bo5, bl5, hbel5, hko5⟩
                  exact AllReadyIn.nil
                exact AllReadyIn.nil
              exact AllReadyIn.nil
            exact AllReadyIn.nil
          exact AllReadyIn.nil
        refine AllReadyIn.cons rfl (fun K hK => ?_) ?_
        · go_simp
          refine hK _ _ ?_
          clear hK K
          refine wpAnyIn_ready (rs := [0, 3]) (by kernel_rfl) (by simp) ?_
          refine AllReadyIn.cons rfl (fun K hK => ?_) ?_
          · go_simp
            refine hK _ _ ?_
            clear hK K
            refine wpAnyIn_ready (rs := [3]) (by kernel_rfl) (by simp) ?_
            refine AllReadyIn.cons rfl (fun K hK => ?_) ?_
            · go_simp
              refine hK _ _ ?_
              clear hK K
              refine wpAnyIn_ready (rs := [4]) (by kernel_rfl) (by simp) ?_
              refine AllReadyIn.cons rfl (fun K hK => ?_) ?_
              · go_simp
                refine ⟨trivial, ?_⟩
                gi_at_call 24
                refine (CallsIn.inRound l' (callsIn_wide.2 (HE.out W.drew hbel.drew))).mono ?_
                rintro e w3 ⟨g3, k3, rfl, ho3, hb3⟩
                refine hK _ _ ?_
                clear hK K
                obtain ⟨hb3', ho3', bo3', bl3', hco3, hko3⟩ := HX.out w3 hb3
                refine wpAnyIn_ready (rs := [5]) (by kernel_rfl) (by simp) ?_
                refine AllReadyIn.cons rfl (fun K hK => ?_) ?_
                · refine stepIn_append_bytes (by rfl) (.tmp 16) (.tmp 20) (by rfl) w.heap.size A O.length c O (by rfl) (by exact ho3') _ _ _ k3 _ (by rfl) rfl (by exact ho3.bytes) (by omega) (by exact hb3'.size) ?_
                  intro A5 c5 w4 ho4 hg4 hat4
                  refine hK _ _ ?_
                  clear hK K
                  obtain ⟨ho5, bo5, bl5, hbel5, hko5, hc4, hf4⟩ := HY.out w3 w4 A5 c5 _ ho3' bo3' bl3' hb3' hko3 ho4 hg4
                  refine wpAnyIn_ready (rs := [6]) (by kernel_rfl) (by simp) ?_
                  refine AllReadyIn.cons rfl (fun K hK => ?_) ?_
                  · go_simp
                    refine hK _ _ ?_
                    clear hK K
                    refine wpAnyIn_done (by kernel_rfl) ?_ _
                    exact ⟨rfl, A5, c5, g3, k3, rfl, ho5, bo5, bl5, hbel5, hko5⟩
                  exact AllReadyIn.nil
                exact AllReadyIn.nil
              exact AllReadyIn.nil
            exact AllReadyIn.nil
          refine AllReadyIn.cons rfl (fun K hK => ?_) ?_
          · go_simp
            refine hK _ _ ?_
            clear hK K
            refine wpAnyIn_ready (rs := [0, 4]) (by kernel_rfl) (by simp) ?_
            refine AllReadyIn.cons rfl (fun K hK => ?_) ?_
            · go_simp
              refine hK _ _ ?_
              clear hK K
              refine wpAnyIn_ready (rs := [4]) (by kernel_rfl) (by simp) ?_
              refine AllReadyIn.cons rfl (fun K hK => ?_) ?_
              · go_simp
                refine ⟨trivial, ?_⟩
                gi_at_call 24
                refine (CallsIn.inRound l' (callsIn_wide.2 (HE.out W.drew hbel.drew))).mono ?_
                rintro e w3 ⟨g3, k3, rfl, ho3, hb3⟩
                refine hK _ _ ?_
                clear hK K
                obtain ⟨hb3', ho3', bo3', bl3', hco3, hko3⟩ := HX.out w3 hb3
                refine wpAnyIn_ready (rs := [5]) (by kernel_rfl) (by simp) ?_
                refine AllReadyIn.cons rfl (fun K hK => ?_) ?_
                · refine stepIn_append_bytes (by rfl) (.tmp 16) (.tmp 20) (by rfl) w.heap.size A O.length c O (by rfl) (by exact ho3') _ _ _ k3 _ (by rfl) rfl (by exact ho3.bytes) (by omega) (by exact hb3'.size) ?_
                  intro A5 c5 w4 ho4 hg4 hat4
                  refine hK _ _ ?_
                  clear hK K
                  obtain ⟨ho5, bo5, bl5, hbel5, hko5, hc4, hf4⟩ := HY.out w3 w4 A5 c5 _ ho3' bo3' bl3' hb3' hko3 ho4 hg4
                  refine wpAnyIn_ready (rs := [6]) (by kernel_rfl) (by simp) ?_
                  refine AllReadyIn.cons rfl (fun K hK => ?_) ?_
                  · go_simp
                    refine hK _ _ ?_
                    clear hK K
                    refine wpAnyIn_done (by kernel_rfl) ?_ _
                    exact ⟨rfl, A5, c5, g3, k3, rfl, ho5, bo5, bl5, hbel5, hko5⟩
                  exact AllReadyIn.nil
                exact AllReadyIn.nil
              exact AllReadyIn.nil
            refine AllReadyIn.cons rfl (fun K hK => ?_) ?_
            · go_simp
              refine ⟨trivial, ?_⟩
              gi_at_call 24
              refine (CallsIn.inRound l' (callsIn_wide.2 (HE.out W.drew hbel.drew))).mono ?_
              rintro e w3 ⟨g3, k3, rfl, ho3, hb3⟩
              refine hK _ _ ?_
              clear hK K
              obtain ⟨hb3', ho3', bo3', bl3', hco3, hko3⟩ := HX.out w3 hb3
              refine wpAnyIn_ready (rs := [0]) (by kernel_rfl) (by simp) ?_
              refine AllReadyIn.cons rfl (fun K hK => ?_) ?_
              · go_simp
                refine hK _ _ ?_
                clear hK K
                refine wpAnyIn_ready (rs := [5]) (by kernel_rfl) (by simp) ?_
                refine AllReadyIn.cons rfl (fun K hK => ?_) ?_
                · refine stepIn_append_bytes (by rfl) (.tmp 16) (.tmp 20) (by rfl) w.heap.size A O.length c O (by rfl) (by exact ho3') _ _ _ k3 _ (by rfl) rfl (by exact ho3.bytes) (by omega) (by exact hb3'.size) ?_
                  intro A5 c5 w4 ho4 hg4 hat4
                  refine hK _ _ ?_
                  clear hK K
                  obtain ⟨ho5, bo5, bl5, hbel5, hko5, hc4, hf4⟩ := HY.out w3 w4 A5 c5 _ ho3' bo3' bl3' hb3' hko3 ho4 hg4
                  refine wpAnyIn_ready (rs := [6]) (by kernel_rfl) (by simp) ?_
                  refine AllReadyIn.cons rfl (fun K hK => ?_) ?_
                  · go_simp
                    refine hK _ _ ?_
                    clear hK K
                    refine wpAnyIn_done (by kernel_rfl) ?_ _
                    exact ⟨rfl, A5, c5, g3, k3, rfl, ho5, bo5, bl5, hbel5, hko5⟩
                  exact AllReadyIn.nil
                exact AllReadyIn.nil
              exact AllReadyIn.nil
            exact AllReadyIn.nil
          exact AllReadyIn.nil
        exact AllReadyIn.nil
      refine AllReadyIn.cons rfl (fun K hK => ?_) ?_
      · go_simp
        refine hK _ _ ?_
        clear hK K
        refine wpAnyIn_ready (rs := [0, 1]) (by kernel_rfl) (by simp) ?_
        refine AllReadyIn.cons rfl (fun K hK => ?_) ?_
        · go_simp
          refine hK _ _ ?_
          clear hK K
          refine wpAnyIn_ready (rs := [1]) (by kernel_rfl) (by simp) ?_
          refine AllReadyIn.cons rfl (fun K hK => ?_) ?_
          · go_simp
            refine hK _ _ ?_
            clear hK K
            refine wpAnyIn_ready (rs := [3]) (by kernel_rfl) (by simp) ?_
            refine AllReadyIn.cons rfl (fun K hK => ?_) ?_
            · go_simp
              refine hK _ _ ?_
              clear hK K
              refine wpAnyIn_ready (rs := [4]) (by kernel_rfl) (by simp) ?_
              refine AllReadyIn.cons rfl (fun K hK => ?_) ?_
              · go_simp
                refine ⟨trivial, ?_⟩
                gi_at_call 24
                refine (CallsIn.inRound l' (callsIn_wide.2 (HE.out W.drew hbel.drew))).mono ?_
                rintro e w3 ⟨g3, k3, rfl, ho3, hb3⟩
                refine hK _ _ ?_
                clear hK K
                obtain ⟨hb3', ho3', bo3', bl3', hco3, hko3⟩ := HX.out w3 hb3
                refine wpAnyIn_ready (rs := [5]) (by kernel_rfl) (by simp) ?_
                refine AllReadyIn.cons rfl (fun K hK => ?_) ?_
                · refine stepIn_append_bytes (by rfl) (.tmp 16) (.tmp 20) (by rfl) w.heap.size A O.length c O (by rfl) (by exact ho3') _ _ _ k3 _ (by rfl) rfl (by exact ho3.bytes) (by omega) (by exact hb3'.size) ?_
                  intro A5 c5 w4 ho4 hg4 hat4
                  refine hK _ _ ?_
                  clear hK K
                  obtain ⟨ho5, bo5, bl5, hbel5, hko5, hc4, hf4⟩ := HY.out w3 w4 A5 c5 _ ho3' bo3' bl3' hb3' hko3 ho4 hg4
                  refine wpAnyIn_ready (rs := [6]) (by kernel_rfl) (by simp) ?_
                  refine AllReadyIn.cons rfl (fun K hK => ?_) ?_
                  · go_simp
                    refine hK _ _ ?_
                    clear hK K
                    refine wpAnyIn_done (by kernel_rfl) ?_ _
                    exact ⟨rfl, A5, c5, g3, k3, rfl, ho5, bo5, bl5, hbel5, hko5⟩
                  exact AllReadyIn.nil
                exact AllReadyIn.nil
              exact AllReadyIn.nil
            exact AllReadyIn.nil
          exact AllReadyIn.nil
        refine AllReadyIn.cons rfl (fun K hK => ?_) ?_
        · go_simp
          refine hK _ _ ?_
          clear hK K
          refine wpAnyIn_ready (rs := [0, 3]) (by kernel_rfl) (by simp) ?_
          refine AllReadyIn.cons rfl (fun K hK => ?_) ?_
          · go_simp
            refine hK _ _ ?_
            clear hK K
            refine wpAnyIn_ready (rs := [3]) (by kernel_rfl) (by simp) ?_
            refine AllReadyIn.cons rfl (fun K hK => ?_) ?_
            · go_simp
              refine hK _ _ ?_
              clear hK K
              refine wpAnyIn_ready (rs := [4]) (by kernel_rfl) (by simp) ?_
              refine AllReadyIn.cons rfl (fun K hK => ?_) ?_
              · go_simp
                refine ⟨trivial, ?_⟩
                gi_at_call 24
                refine (CallsIn.inRound l' (callsIn_wide.2 (HE.out W.drew hbel.drew))).mono ?_
                rintro e w3 ⟨g3, k3, rfl, ho3, hb3⟩
                refine hK _ _ ?_
                clear hK K
                obtain ⟨hb3', ho3', bo3', bl3', hco3, hko3⟩ := HX.out w3 hb3
                refine wpAnyIn_ready (rs := [5]) (by kernel_rfl) (by simp) ?_
                refine AllReadyIn.cons rfl (fun K hK => ?_) ?_
                · refine stepIn_append_bytes (by rfl) (.tmp 16) (.tmp 20) (by rfl) w.heap.size A O.length c O (by rfl) (by exact ho3') _ _ _ k3 _ (by rfl) rfl (by exact ho3.bytes) (by omega) (by exact hb3'.size) ?_
                  intro A5 c5 w4 ho4 hg4 hat4
                  refine hK _ _ ?_
                  clear hK K
                  obtain ⟨ho5, bo5, bl5, hbel5, hko5, hc4, hf4⟩ := HY.out w3 w4 A5 c5 _ ho3' bo3' bl3' hb3' hko3 ho4 hg4
                  refine wpAnyIn_ready (rs := [6]) (by kernel_rfl) (by simp) ?_
                  refine AllReadyIn.cons rfl (fun K hK => ?_) ?_
                  · go_simp
                    refine hK _ _ ?_
                    clear hK K
                    refine wpAnyIn_done (by kernel_rfl) ?_ _
                    exact ⟨rfl, A5, c5, g3, k3, rfl, ho5, bo5, bl5, hbel5, hko5⟩
                  exact AllReadyIn.nil
                exact AllReadyIn.nil
              exact AllReadyIn.nil
            exact AllReadyIn.nil
          refine AllReadyIn.cons rfl (fun K hK => ?_) ?_
          · go_simp
            refine hK _ _ ?_
            clear hK K
            refine wpAnyIn_ready (rs := [0, 4]) (by kernel_rfl) (by simp) ?_
            refine AllReadyIn.cons rfl (fun K hK => ?_) ?_
            · go_simp
              refine hK _ _ ?_
              clear hK K
              refine wpAnyIn_ready (rs := [4]) (by kernel_rfl) (by simp) ?_
              refine AllReadyIn.cons rfl (fun K hK => ?_) ?_
              · go_simp
                refine ⟨trivial, ?_⟩
                gi_at_call 24
                refine (CallsIn.inRound l' (callsIn_wide.2 (HE.out W.drew hbel.drew))).mono ?_
                rintro e w3 ⟨g3, k3, rfl, ho3, hb3⟩
                refine hK _ _ ?_
                clear hK K
                obtain ⟨hb3', ho3', bo3', bl3', hco3, hko3⟩ := HX.out w3 hb3
                refine wpAnyIn_ready (rs := [5]) (by kernel_rfl) (by simp) ?_
                refine AllReadyIn.cons rfl (fun K hK => ?_) ?_
                · refine stepIn_append_bytes (by rfl) (.tmp 16) (.tmp 20) (by rfl) w.heap.size A O.length c O (by rfl) (by exact ho3') _ _ _ k3 _ (by rfl) rfl (by exact ho3.bytes) (by omega) (by exact hb3'.size) ?_
                  intro A5 c5 w4 ho4 hg4 hat4
                  refine hK _ _ ?_
                  clear hK K
                  obtain ⟨ho5, bo5, bl5, hbel5, hko5, hc4, hf4⟩ := HY.out w3 w4 A5 c5 _ ho3' bo3' bl3' hb3' hko3 ho4 hg4
                  refine wpAnyIn_ready (rs := [6]) (by kernel_rfl) (by simp) ?_
                  refine AllReadyIn.cons rfl (fun K hK => ?_) ?_
                  · go_simp
                    refine hK _ _ ?_
                    clear hK K
                    refine wpAnyIn_done (by kernel_rfl) ?_ _
                    exact ⟨rfl, A5, c5, g3, k3, rfl, ho5, bo5, bl5, hbel5, hko5⟩
                  exact AllReadyIn.nil
                exact AllReadyIn.nil
              exact AllReadyIn.nil
            refine AllReadyIn.cons rfl (fun K hK => ?_) ?_
            · go_simp
              refine ⟨trivial, ?_⟩
              gi_at_call 24
              refine (CallsIn.inRound l' (callsIn_wide.2 (HE.out W.drew hbel.drew))).mono ?_
              rintro e w3 ⟨g3, k3, rfl, ho3, hb3⟩
              refine hK _ _ ?_
              clear hK K
              obtain ⟨hb3', ho3', bo3', bl3', hco3, hko3⟩ := HX.out w3 hb3
              refine wpAnyIn_ready (rs := [0]) (by kernel_rfl) (by simp) ?_
              refine AllReadyIn.cons rfl (fun K hK => ?_) ?_
              · go_simp
                refine hK _ _ ?_
                clear hK K
                refine wpAnyIn_ready (rs := [5]) (by kernel_rfl) (by simp) ?_
                refine AllReadyIn.cons rfl (fun K hK => ?_) ?_
                · refine stepIn_append_bytes (by rfl) (.tmp 16) (.tmp 20) (by rfl) w.heap.size A O.length c O (by rfl) (by exact ho3') _ _ _ k3 _ (by rfl) rfl (by exact ho3.bytes) (by omega) (by exact hb3'.size) ?_
                  intro A5 c5 w4 ho4 hg4 hat4
                  refine hK _ _ ?_
                  clear hK K
                  obtain ⟨ho5, bo5, bl5, hbel5, hko5, hc4, hf4⟩ := HY.out w3 w4 A5 c5 _ ho3' bo3' bl3' hb3' hko3 ho4 hg4
                  refine wpAnyIn_ready (rs := [6]) (by kernel_rfl) (by simp) ?_
                  refine AllReadyIn.cons rfl (fun K hK => ?_) ?_
                  · go_simp
                    refine hK _ _ ?_
                    clear hK K
                    refine wpAnyIn_done (by kernel_rfl) ?_ _
                    exact ⟨rfl, A5, c5, g3, k3, rfl, ho5, bo5, bl5, hbel5, hko5⟩
                  exact AllReadyIn.nil
                exact AllReadyIn.nil
              exact AllReadyIn.nil
            exact AllReadyIn.nil
          exact AllReadyIn.nil
        exact AllReadyIn.nil
      exact AllReadyIn.nil
    · rintro e a' W' ⟨rfl, A5, c5, g3, k3, rfl, ho5, bo5, bl5, hbel5, hko5⟩
      have hc5 := bl5.cell
      have hf5 := bl5.frozen
      have hsl2 := run_nums_l A2' m c2' x (m - x) (by omega)
      have hmx : m - x = m - 32 := by have := Hx.out; omega
      have hnums2 := hnums.drop (k := x) (cap := c2') (by omega) (by omega)
      have bo6 := bo5.other (B' := w.heap.size) hne (.slice (cutAt A2' c2' x) (m - x) (c2' - x))
      have bl6 := bl5.set (.slice (cutAt A2' c2' x) (m - x) (c2' - x))
      have ho6 := ho5.kept (Lib.grownBy_setCell W' w.heap.size 0 (.slice (cutAt A2' c2' x) (m - x) (c2' - x))) (box_apart ho5 bl5 (by decide))
      have hbel6 := hbel5.setCell (p := ⟨w.heap.size, 0, none⟩) (Nat.le_refl _) (.slice (cutAt A2' c2' x) (m - x) (c2' - x))
      have hko6 := hko5.trans (KeepsOthers.setCell W' ⟨w.heap.size, 0, none⟩ (.slice (cutAt A2' c2' x) (m - x) (c2' - x)))
      rw [hmx] at bo6 bl6 ho6 hbel6 hko6 hsl2
      rw [← List.length_append] at bo6 ho6
      have hinv6 : PutInv w w1.heap.size w.heap.size T (m - 32) (W'.setCell ⟨w.heap.size, 0, none⟩ (.slice (cutAt A2' c2' x) (m - 32) (c2' - x))) :=
        ⟨A5, cutAt A2' c2' x, c5, c2' - x, O ++ K, rest.drop x, by rw [List.length_drop]; omega, by omega, hnums2, hT, bo6, ho6, bl6, hbel6⟩
      have Hinv := Lib.hid hinv6
      have Hko := Lib.hid hko6
      clear hinv6 hko6 bo6 bl6 ho6 hbel6 hko5 hbel5 bo5 ho5 HX HY HE
      gi_wp2
      exact ⟨Hko.out, Hinv.out⟩
end Go.Proofs.Ytoebeibmmclhpaa
