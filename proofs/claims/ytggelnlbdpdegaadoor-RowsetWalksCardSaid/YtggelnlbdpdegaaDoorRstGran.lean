/- rowset.Granules. -/
import Derived.Test.YtggelnlbdpdegaaDoorRstAll
namespace Go.Proofs.YtggelnlbdpdegaaDoor
open Go.RowKit Go.Shelf
set_option maxRecDepth 100000
attribute [local go_sem] Oper.semAt_some

theorem walked_rows (N : Int) (ws : List UInt64) : Rst.rows (walked N ws) (64 * (walked N ws).length) = listR N ws := by
  unfold walked listR
  rcases hf : Rst.formed N ws with _ | _
  · simp [Rst.rows]
  · obtain ⟨l, hl, rfl, rfl⟩ := Rst.formed_iff.1 hf
    rw [if_pos rfl, if_pos rfl, Rst.rows_pack, Int.toNat_natCast]
theorem walked_small (N : Int) (ws : List UInt64) : (walked N ws).length ≤ 64 := by
  unfold walked
  split
  · rename_i hf
    obtain ⟨l, hl, rfl, rfl⟩ := Rst.formed_iff.1 hf
    rw [Rst.pack_length]
    exact need_le hl
  · simp
theorem listR_small (N : Int) (ws : List UInt64) : (listR N ws).length ≤ 4096 := by
  unfold listR
  split
  · rename_i hf
    have := Rst.rows_length_le ws N.toNat
    have := (Rst.formed_range hf).2.1
    omega
  · simp
theorem listR_lt {N : Int} {ws : List UInt64} {r : Nat} (h : r ∈ listR N ws) : r < 4096 := by
  unfold listR at h
  split at h
  · rename_i hf
    have := (Rst.rows_mem.1 h).1
    have := (Rst.formed_range hf).2.1
    omega
  · cases h
/-- a set's granules -/
def granR (N : Int) (ws : List UInt64) : List Int := asInts (Rst.gran (listR N ws))
theorem rown_cells {α : Type} {f : α → Value} {e : TypeId} {w : World} {base n c k : Nat} {A : Option Addr} {l : List α} {o : Obj} (h : ROwn f e w base A n c l) (hk : blk A = some k) (ho : w.heap[k]? = some o) : o.isCells = true := by
  rcases h.2 with ⟨hv, _⟩ | ⟨g, cap, cur, hv, _, hg, _⟩
  · injection hv with h1; subst h1; cases hk
  · injection hv with h1
    subst h1
    have e' : g = k := by simpa [blk] using hk
    subst e'
    rw [hg] at ho
    cases ho
    rfl
theorem rown_kept {α : Type} {f : α → Value} {e : TypeId} {w w' : World} {base n c : Nat} {A : Option Addr} {l : List α} {row : Option Nat} (h : ROwn f e w base A n c l) (hg : w.grownBy w' row) (hr : ∀ r, row = some r → ∃ o : Obj, w.heap[r]? = some o ∧ o.isCells = false) : ROwn f e w' base A n c l := by
  refine h.kept hg ?_
  cases row with
  | none => cases hA : blk A <;> simp
  | some r =>
    refine .inr fun e => ?_
    obtain ⟨o, ho, hc⟩ := hr r rfl
    rw [rown_cells h e ho] at hc
    cases hc
/-- behind q rows -/
def GranInv (W1 : World) (bg : Nat) (P : List Nat) (q : Nat) (W : World) : Prop :=
  ∃ (A2 : Option Addr) (c2 : Nat), W.heap[bg]? = some (.cells #[.slice A2 (Rst.gran (P.take q)).length c2] 27) ∧ IOwn W W1.heap.size A2 (Rst.gran (P.take q)).length c2 (asInts (Rst.gran (P.take q))) ∧ W1.grownBy W (some bg)
theorem granInv_own (W1 : World) (bg : Nat) (P : List Nat) (hbg : bg < W1.heap.size) : OwnFrom W1.heap.size (GranInv W1 bg P) := by
  rintro q W W' row ⟨A2, c2, h1, h2, h3⟩ hg hr
  refine ⟨A2, c2, ?_, rown_kept h2 hg (fun r e => (hr r e).2), h3.andThen hg (fun j e => .inl (hr j e).1)⟩
  refine (hg.block bg (Array.getElem?_eq_some_iff.1 h1).1 ?_).trans h1
  intro e
  have := (hr bg e.symm).1
  omega
theorem sees_grown {W1 W : World} {A : Option Addr} {k c b bg : Nat} {ws : List UInt64} (hg : W1.grownBy W (some bg)) (hv : W1.heap[b]? = some (.cells #[.slice A k c] 22)) (hrow : Nums W1 W1.heap.size A ws) (hlow : ∀ ad, A = some ad → ad.block ≠ bg) (hb : b ≠ bg) (ht : Tab64 W1) (hg0 : 0 ≠ bg) :
    SeesW A k c b W1.heap.size ws W := by
  have hbl : b < W1.heap.size := (Array.getElem?_eq_some_iff.1 hv).1
  refine ⟨?_, ?_, fun i hi => hg.cell (ht i hi) (by intro e; injection e with e; exact hg0 e)⟩
  · have h2 := (hg.block b hbl (by intro e; injection e with e; exact hb e)).trans hv
    have := Go.Joins.cell_of_block h2 0
    simpa using this
  · intro hn
    obtain ⟨ad, ha, hlt, hc⟩ := hrow hn
    exact ⟨ad, ha, hlt, fun i hi => hg.cell (hc i hi) (by rw [addr_add_block]; intro e; injection e with e; exact hlow ad ha e)⟩

theorem wpListIn_append_row {α : Type} {f : α → Value} {t e : TypeId} {bytes : Nat} (E : Elem f t e bytes) {F : Fence} {k : Nat} {w : World} {ops : Array Oper} {rest : List Oper} {o : Oper} {a : Act} {Q : Exit → Act → World → Prop} (hgd : o.guard = none) (s x : Operand)
    (ho : o.op = .call { callee := .builtin .append, args := #[s, x], argTypes := #[t, t] })
    (base : Nat) (A : Option Addr) (n c : Nat) (l : List α) (hs : a.eval s = .slice A n c) (hown : ROwn f e w base A n c l)
    (B : Nat) (A2 : Option Addr) (m c2 : Nat) (l2 : List α) (hx : a.eval x = .slice A2 m c2) (hl2 : l2.length = m) (hb : Row f w B A2 l2) (hbytes : (n + m) * bytes ≤ 140737488355328) (hm : n + m ≤ maxLen) (hbase : base ≤ w.heap.size)
    (h : ∀ A' c' w', ROwn f e w' base A' (n + m) c' (l ++ l2) → w.grownBy w' (blk A) → (blk A' = blk A ∨ blk A' = some w.heap.size) → wpListIn F k Tryd.prog ops Q rest (a.put o.dst (.slice A' (n + m) c')) w') :
    wpListIn F k Tryd.prog ops Q (o :: rest) a w := by
  obtain ⟨A', c', w', hrun, h2, h3, h4⟩ := run_append_row E w base o.type A n c l hown B A2 m c2 l2 hl2 hb hbytes hm hbase
  refine wpListIn_plain hgd fun K hK' => ?_
  unfold Oper.wpIn
  refine ⟨by simp [Oper.about, ho, resolve, Target.leads, Sem.run_pure], ?_⟩
  rw [Oper.semAt_plain F _ _ (by rw [ho]; intro c hc; cases hc)]
  simp only [execOp, ho, resolve, invoke, builtin, Sem.run_bind, Sem.run_pure, Result.andThen_ok, List.map_toArray, List.map_cons, List.map_nil, hs, hx, hrun]
  exact hK' _ _ (h A' c' w' h2 h3 h4)
theorem gran_take {P : List Nat} {q : Nat} (h : q < P.length) : Rst.gran (P.take (q + 1)) = Rst.addG (Rst.gran (P.take q)) P[q] := by
  rw [List.take_succ_eq_append_getElem h, Rst.gran_snoc]
theorem asInts_length (l : List Nat) : (asInts l).length = l.length := by simp [asInts]

theorem gran_push {w2 W w8 : World} {bg c5 : Nat} {A2 A5 : Option Addr} {P G : List Nat} {q d c2 : Nat} {tmp : Obj} (hbg : bg < w2.heap.size) (h1 : W.heap[bg]? = some (.cells #[.slice A2 G.length c2] 27))
    (h2 : IOwn W w2.heap.size A2 G.length c2 (asInts G)) (h3 : w2.grownBy W (some bg)) (hnx : Rst.gran (P.take (q + 1)) = G ++ [d])
    (ho8 : IOwn w8 w2.heap.size A5 (G.length + 1) c5 (asInts G ++ [(d : Int)])) (hg8 : (W.alloc tmp).grownBy w8 (blk A2)) :
    KeepsOthers W (w8.setCell ⟨bg, 0, none⟩ (.slice A5 (G.length + 1) c5)) ∧ GranInv w2 bg P (q + 1) (w8.setCell ⟨bg, 0, none⟩ (.slice A5 (G.length + 1) c5)) := by
  have h2' := h2.alloc tmp
  have hbx : Go.Boxed W bg 27 (.slice A2 G.length c2) := h1
  have hx8 : Go.Boxed w8 bg 27 (.slice A2 G.length c2) := (hbx.alloc tmp).kept hg8 (fun e => by have := (h2'.lt e.symm).1; omega)
  have hlen : (Rst.gran (P.take (q + 1))).length = G.length + 1 := by rw [hnx]; simp
  refine ⟨((KeepsOthers.below ((Below.refl _ W).alloc (Nat.le_refl _) tmp)).trans (KeepsOthers.of_grownBy hg8 (fun j o hj hjo => rown_cells h2' hj hjo))).trans (KeepsOthers.setCell w8 _ _), A5, c5, ?_, ?_, ?_⟩
  · rw [hlen]; exact hx8.set _
  · rw [hlen, hnx]
    have : asInts (G ++ [d]) = asInts G ++ [(d : Int)] := by simp [asInts]
    rw [this]
    exact ho8.kept (Lib.grownBy_setCell w8 bg 0 _) (.inr fun e => by have := (ho8.lt e).1; omega)
  · exact ((h3.andThen (World.grownBy_alloc W tmp none) (fun j e => by cases e)).andThen hg8 (fun j e => .inl (h2'.lt e).1)).andThen (Lib.grownBy_setCell w8 bg 0 _) (fun j e => .inr e)

set_option maxHeartbeats 4000000 in
theorem granules_any (N : Int) (A : Option Addr) (n c B : Nat) (ws : List UInt64) (w : World) (hl : ws.length = n) (hn : 8 * n ≤ 140737488351232) (hb : Nums w B A ws) (hB : B ≤ w.heap.size) (ht : Tab64 w) :
    Calls Tryd.prog 14 #[rval N A n c] w fun e w' => ∃ A' m c', e = .returned (.slice A' m c') ∧ IOwn w' w.heap.size A' m c' (granR N ws) ∧ Below w.heap.size w w' := by
  obtain ⟨P, hP⟩ : ∃ P, P = listR N ws := ⟨_, rfl⟩
  have hPs := listR_small N ws
  have hPb : ∀ r, r ∈ P → r < 4096 := fun r h => listR_lt (by rw [← hP]; exact h)
  unfold granR
  rw [← hP] at hPs ⊢
  have hg00 := ht.lt
  refine (callsIn_wide (n := 3)).1 ?_
  refine callsIn_of_wp_marks Tryd.func14 rfl trivial ?_ rfl
  simp only [Tryd.ntmps14, List.size_toArray, List.length_cons, List.length_nil, Nat.reduceAdd, Nat.reduceSub, Array.replicate_succ, Array.replicate_zero, List.push_toArray, List.append_toArray, List.nil_append, List.cons_append]
  have hbel : Below w.heap.size w ((w.alloc (.cells #[.int .i64 N, .slice A n c] 24)).alloc (.cells #[.slice none 0 0] 27)) := ((Below.refl _ _).alloc (Nat.le_refl _) _).alloc (by simp) _
  have hsz : ((w.alloc (.cells #[.int .i64 N, .slice A n c] 24)).alloc (.cells #[.slice none 0 0] 27)).heap.size = w.heap.size + 1 + 1 := by simp
  have hv : ((w.alloc (.cells #[.int .i64 N, .slice A n c] 24)).alloc (.cells #[.slice none 0 0] 27)).heap[w.heap.size + 1]? = some (.cells #[.slice none 0 0] 27) := by
    have e : (w.alloc (.cells #[.int .i64 N, .slice A n c] 24)).heap.size = w.heap.size + 1 := by simp
    rw [← e]
    exact World.alloc_heap_new _ _
  have hb := hb.below (hbel.mono hB)
  have ht := ht.on hbel
  have HA := Lib.hid (all_any N A n c B ws _ hl hn hb (by omega))
  unfold rval at HA ⊢
  gi_wp2_with fail
  refine ⟨trivial, (callsIn_wide.2 HA.out).mono ?_⟩
  rintro e w2 ⟨b, k, c3, A3, rfl, hbb, hvb, hkl, hrow, hlow, hblt, hb2⟩
  have hk64 : k ≤ 64 := by rw [← hkl]; exact walked_small N ws
  have hyl := yields_all 2 A3 k c3 b w2.heap.size (walked N ws) hkl hk64
  rw [show 64 * k = 64 * (walked N ws).length by rw [hkl], walked_rows] at hyl
  rw [← hP] at hyl
  clear hP
  have hv2 := (hb2.block (w.heap.size + 1) (by omega)).trans hv
  have hbel2 := hbel.trans (hb2.mono (by omega))
  have ht2 := ht.on hb2
  have hbgl : w.heap.size + 1 < w2.heap.size := (Array.getElem?_eq_some_iff.1 hv2).1
  have hinv0 : GranInv w2 (w.heap.size + 1) P 0 w2 := ⟨none, 0, hv2, ROwn.nil _ _ _ _, World.grownBy.refl _ _⟩
  generalize walked N ws = wk at *
  generalize (w.alloc (.cells #[.int .i64 N, .slice A n c] 24)).alloc (.cells #[.slice none 0 0] 27) = w1 at *
  have hg0 : 0 ≠ w.heap.size + 1 := by omega
  have hsees : ∀ q W, GranInv w2 (w.heap.size + 1) P q W → SeesW A3 k c3 b w2.heap.size wk W := fun q W ⟨_, _, _, _, h3⟩ =>
    sees_grown h3 hvb hrow (fun ad h => by have := hlow ad h; omega) (by omega) ht2 hg0
  clear HA hl hb ht
  gi_wp2_with fail
  refine wpIn_seq (gf := 27) (lb := #[.pointer (some ⟨b, 0, none⟩)]) (id := 0) (vs := (asInts P).map ival) (S := SeesW A3 k c3 b w2.heap.size wk) rfl (enters_of Tryd.func27 (by kernel_rfl) rfl)
    hyl rfl (GranInv w2 (w.heap.size + 1) P) (fun _ => False) (granInv_own _ _ _ hbgl) (fun _ _ _ _ h => h.elim) hsees hinv0
    (fun v => { tmps := #[.agg #[.int .i64 N, .slice A n c], .pointer (some ⟨w.heap.size, 0, none⟩), .slice none 0 0, .pointer (some ⟨w.heap.size + 1, 0, none⟩), v, undef, .agg #[.int .i64 N, .slice A n c], .func (.func 27) #[] #[.pointer (some ⟨b, 0, none⟩)], v, undef, undef, undef, undef, undef, undef, undef, undef, undef, undef, undef, undef, undef, undef, undef, undef, undef, undef, undef, undef], defers := [] }) ?assign ?body ?done ?stop
  case assign =>
    intro l' v W K hK
    gi_wp2
    exact hK
  case stop =>
    intro D W hD h
    exact h.elim
  case done =>
    rintro D W hD ⟨A2, c2, h1, h2, h3⟩ hK
    rw [List.length_map, asInts_length, List.take_length] at h1 h2
    have c1 := Go.Joins.cell_of_block h1 0
    simp only [List.getElem?_toArray, List.getElem?_cons_zero] at c1
    gi_wp2
    refine ⟨by simp, .inl ⟨_, _, rfl, run_takeDeferred hK, ?_⟩⟩
    refine ⟨.slice A2 (Rst.gran P).length c2, ?_, A2, _, c2, rfl, ?_, ?_⟩
    · simp [results, Tryd.f14, go_sem]
    · exact (rown_kept h2 (grownBy_putObj' W D (.deferred none)) (fun r e => by cases e; exact ⟨_, hK, rfl⟩)).low (by omega)
    · exact (hbel2.grown h3 (by omega) (fun k e => by cases e; omega)).grown (grownBy_putObj' W D (.deferred none)) (by have := h3.size; omega) (fun k e => by cases e; omega)
  case body =>
    rintro l' q W hq ⟨A2, c2, h1, h2, h3⟩
    have hq' : q < P.length := by simpa [asInts] using hq
    rw [show ((asInts P).map ival)[q] = .int .i64 ((P[q] : Nat) : Int) by simp [asInts, ival]]
    have hnx := gran_take hq'
    have hgl : (Rst.gran (P.take q)).length ≤ 4096 := Nat.le_trans (Rst.gran_length _) (by rw [List.length_take]; omega)
    have hP16 : ((P[q] : Nat) : Int).tdiv 16 = ((P[q] / 16 : Nat) : Int) := (Int.ofNat_tdiv P[q] 16).symm
    have hg3 := h3.size
    have hpb : P[q] / 16 ≤ 4096 := by have := hPb _ (List.getElem_mem hq'); omega
    unfold Rst.addG at hnx
    generalize P[q] / 16 = d at *
    generalize P[q] = p at *
    have hwr : wrap64 (d : Int) = d := by unfold wrap64; omega
    clear hpb
    generalize Rst.gran (P.take q) = G at *
    have c1 := Go.Joins.cell_of_block h1 0
    simp only [List.getElem?_toArray, List.getElem?_cons_zero] at c1
    rcases List.eq_nil_or_concat G with rfl | ⟨G', x, rfl⟩
    · simp only [List.length_nil] at *
      have hnx' : Rst.gran (P.take (q + 1)) = ([] : List Nat) ++ [d] := by rw [hnx]; simp
      clear hnx
      have hone := (iown_one W (d : Int)).row
      have h2' := h2.alloc (.cells #[.int .i64 (d : Int)] 3)
      gi_wp2_with (gi_at_builtin; refine wpListIn_append_row elemI rfl (.tmp 24) (.tmp 26) rfl w2.heap.size A2 0 c2 _ rfl h2' _ _ 1 1 [_] rfl rfl hone (by omega) (by simp only [maxLen]; omega) (by simp; omega) ?_; intro A5 c5 w8 ho8 hg8 hat8; have hx8 : Go.Boxed w8 (w.heap.size + 1) 27 (.slice A2 0 c2) := ((show Go.Boxed W (w.heap.size + 1) 27 (.slice A2 0 c2) from h1).alloc _).kept hg8 (fun e => by have := (h2'.lt e.symm).1; omega); have hc8 := hx8.cell; have hz8 := hx8.frozen)
      exact gran_push (G := []) hbgl h1 h2 h3 hnx' ho8 hg8
    · have hG : (asInts (G' ++ [x])).length = G'.length + 1 := by simp [asInts]
      have hGx : (asInts (G' ++ [x]))[G'.length]'(by omega) = (x : Int) := by simp [asInts]
      rw [List.concat_eq_append] at *
      rw [List.length_append, List.length_singleton] at *
      obtain ⟨g, rfl, hgb, hgs⟩ := h2.at_ (by omega)
      have hgc := h2.cell (k := G'.length) (by omega)
      rw [hGx] at hgc
      unfold ival at hgc
      have hl0 : ((G'.length : Int) + 1 == 0) = false := by simp; omega
      have hlw : wrap64 ((G'.length : Int) + 1 - 1) = G'.length := by unfold wrap64; omega
      rw [List.getLast?_concat] at hnx
      by_cases hxd : x = d
      · rw [if_pos (by rw [hxd])] at hnx
        have hxd' : ((x : Int) == (d : Int)) = true := by rw [hxd]; exact beq_self_eq_true _
        gi_wp2
        refine ⟨KeepsOthers.below (Below.refl _ _), some ⟨g, 0, none⟩, c2, ?_, ?_, h3⟩
        · rw [hnx, List.length_append, List.length_singleton]
          exact h1
        · rw [hnx, List.length_append, List.length_singleton]
          exact h2
      · rw [if_neg (by simp only [Option.some.injEq]; exact hxd)] at hnx
        have hxd' : ((x : Int) != (d : Int)) = true := bne_iff_ne.2 (fun e => hxd (Int.ofNat_inj.1 e))
        have hone := (iown_one W (d : Int)).row
        have h2' := h2.alloc (.cells #[.int .i64 (d : Int)] 3)
        have hby := Lib.hid (show (G'.length + 1 + 1) * 8 ≤ 140737488355328 by omega)
        have hml := Lib.hid (show G'.length + 1 + 1 ≤ maxLen by simp only [maxLen]; omega)
        have hba := Lib.hid (show w2.heap.size ≤ (W.alloc (.cells #[.int .i64 (d : Int)] 3)).heap.size by simp; omega)
        gi_wp2_with (gi_at_builtin; refine wpListIn_append_row elemI rfl (.tmp 24) (.tmp 26) rfl w2.heap.size (some ⟨g, 0, none⟩) (G'.length + 1) c2 _ rfl h2' _ _ 1 1 [_] rfl rfl hone hby.out hml.out hba.out ?_; intro A5 c5 w8 ho8 hg8 hat8; have hx8 : Go.Boxed w8 (w.heap.size + 1) 27 (.slice (some ⟨g, 0, none⟩) (G'.length + 1) c2) := ((show Go.Boxed W (w.heap.size + 1) 27 (.slice (some ⟨g, 0, none⟩) (G'.length + 1) c2) from h1).alloc _).kept hg8 (fun e => by have := (h2'.lt e.symm).1; omega); have hc8 := hx8.cell; have hz8 := hx8.frozen)
        have hgx : (G' ++ [x]).length = G'.length + 1 := by simp
        have := gran_push (G := G' ++ [x]) (tmp := .cells #[.int .i64 (d : Int)] 3) (A5 := A5) (c5 := c5) (w8 := w8) (A2 := some ⟨g, 0, none⟩) (c2 := c2) hbgl (by rw [hgx]; exact h1) (by rw [hgx]; exact h2) h3 hnx (by rw [hgx]; exact ho8) hg8
        rw [hgx] at this
        exact this
end Go.Proofs.YtggelnlbdpdegaaDoor
