/- Texts of several layers, one behind the other: Keeps Lens PutList RefList TakeList IntsF IntsPut PforLen IntsEq. -/
import Derived.Test.YtgjopffdgdimlaaBC
import Derived.RangeFuncNested
import Derived.RangeFuncBound
import Derived.RangeFuncCalls
import Derived.RangeFuncLeaves
import Derived.RangeFuncBox
import Derived.Shelf.Abstract
import Derived.Shelf.RegionOpen
import Derived.WalkKit
import Derived.OwnWalkIn
import Derived.TacticsInMore
import Derived.LoopNIn
import Derived.LoopIn
import Derived.Laws.Small
import Derived.Deep.QuietTactic
import Derived.BigQuiet
import Derived.Lib.Hide
import Derived.RegionTactic
/- What makes memory keeps all else. -/
namespace Go.Proofs.Ytgjopffdgdimlaa
open Go.RowKit
theorem KeepsOthers.below {W W' : World} (h : Below W.heap.size W W') : KeepsOthers W W' :=
  ⟨h.size, fun k o hk _ => by rw [h.block k (Array.getElem?_eq_some_iff.1 hk).1]; exact hk⟩
end Go.Proofs.Ytgjopffdgdimlaa

/- A loop over an iterator that counts down: the law, with the number that is left as the ghost; blockLengths and its closure. -/
namespace Go.Proofs.Ytgjopffdgdimlaa
open Go.RowKit Go.Shelf
set_option maxRecDepth 100000


/-- How a round may be left: it goes on with m left, or it returns. -/
def lenPost (I : Nat → World → Prop) (Ix : World → Prop) (m : Nat) (W : World) : Exit → Act → World → Prop
  | .normal, _, W' => KeepsOthers W W' ∧ I m W'
  | .ret, _, W' => KeepsOthers W W' ∧ Ix W'
  | _, _, _ => False

/-- The iterator gf, with what it captured, counts n0 down by 32 and says each time how many there are of the 32. -/
def Lens (n gf : Nat) (lb : Array Value) (n0 : Nat) (w : World) : Prop :=
  ∀ (l : Nat) (J : Nat → World → Prop) (Jx : World → Prop) (W : World), Below w.heap.size w W →
    (∀ m W1, 0 < m → J m W1 → YieldAt Fence.wide (n - 1) Try.prog l #[.int .i64 ((min m 32 : Nat) : Int)] W1 fun e W' => (e = .returned (.bool true) ∧ J (m - 32) W') ∨ (e = .returned (.bool false) ∧ Jx W')) →
    J n0 W → CallsIn Fence.wide n Try.prog gf (#[.func (.yield l) #[] #[]] ++ lb) W fun e W' => (∃ v, e = .returned v) ∧ (J 0 W' ∨ Jx W')

section law
variable {n n0 gf : Nat} {g : Operand} {ps : Array Tmp} {assign body : Code} {Q : Exit → Act → World → Prop} {a : Act} {w : World} {lb : Array Value}
theorem wpIn_lens (hg : a.eval g = .func (.func gf) #[] lb) (eg : ∀ args w, (callFunc gf args).run Try.prog w = .ok (.enter gf args) w) (hseq : Lens (n - 1) gf lb n0 w) (hps : ps.size = 1)
    (I : Nat → World → Prop) (Ix : World → Prop) (hI : OwnFrom w.heap.size I) (hIx : OwnFrom w.heap.size fun (_ : Unit) => Ix) (h0 : I n0 w) (a₁ : Nat → Act)
    (hassign : ∀ (l m : Nat) (W : World) (K : Act → World → Prop), K (a₁ m) W →
      assign.wpIn (Fence.wide.inRound l) (n - 1 - 1) Try.prog (Exit.then K (fun _ _ _ => False)) { tmps := (ps.zip #[.int .i64 ((min m 32 : Nat) : Int)]).foldl (fun t (p, v) => t.setIfInBounds p v) a.tmps, defers := [] } W)
    (hbody : ∀ (l m : Nat) (W : World), 0 < m → I m W → body.wpIn (Fence.wide.inRound l) (n - 1 - 1) Try.prog (lenPost I Ix (m - 32) W) (a₁ m) W)
    (hdone : ∀ (D : Nat) (W : World), w.heap.size ≤ D → I 0 W → W.heap[D]? = some (.deferred (some [])) → Q .normal { a with defers := { target := .collected D, args := #[] } :: a.defers } W)
    (hstop : ∀ (D : Nat) (W : World), w.heap.size ≤ D → Ix W → W.heap[D]? = some (.deferred (some [])) → Code.ret.wpIn Fence.wide n Try.prog Q { a with defers := { target := .collected D, args := #[] } :: a.defers } W) :
    (Code.rangeFunc g ps assign body).wpIn Fence.wide n Try.prog Q a w := by
  refine wpIn_rangeFunc fun fn hfn => ?_
  -- the record, in the states that it comes to
  generalize hrc : (fun (st : LoopState) (pe : Option Code) => ({ state := st, pending := pe, fn, tmps := a.tmps, params := ps, assign, body, defers := w.heap.size } : Loop)) = rc
  have erc : ∀ st pe, rc st pe = { state := st, pending := pe, fn, tmps := a.tmps, params := ps, assign, body, defers := w.heap.size } := fun st pe => by rw [← hrc]
  generalize hW1 : (w.alloc (.deferred (some []))).alloc (.loop (rc .ready none)) = W1
  have sz1 : (w.alloc (.deferred (some []))).heap.size = w.heap.size + 1 := by simp
  have rec1 : W1.heap[w.heap.size + 1]? = some (.loop (rc .ready none)) := by
    rw [← hW1, ← sz1]; exact World.alloc_heap_new _ _
  have def1 : W1.heap[w.heap.size]? = some (.deferred (some [])) := by
    rw [← hW1, Below.heap_alloc _ _ _ (by omega)]; exact World.alloc_heap_new w _
  have bel1 : Below w.heap.size w W1 := by
    rw [← hW1]; exact ((Below.refl _ w).alloc (Nat.le_refl _) _).alloc (by omega) _
  have inv1 : I n0 W1 := by rw [← hW1]; exact hI.alloc _ (hI.alloc _ h0)
  have henter : (Instr.enterLoop fn a.tmps ps assign body Fence.wide.round).run Try.prog w = .ok (w.heap.size + 1, [{ target := .collected w.heap.size, args := #[] }]) W1 := by
    rw [← hW1, erc]; exact run_enterLoop_outer _ _ _ _ _
  refine ⟨_, _, W1, { target := .fn (.func gf) lb, args := #[.func (.yield (w.heap.size + 1)) #[] #[]] }, W1, gf, #[.func (.yield (w.heap.size + 1)) #[] #[]] ++ lb, W1, henter, ?_, fun _ _ => trivial, ?_, (fun h => by cases h), ?_⟩
  · simp only [resolve, hg]
    simp [go_sem]
  · simp [invoke, go_sem, eg]
  -- what lies between two rounds, and behind the last
  refine (hseq (w.heap.size + 1) (fun m W => I m W ∧ W.heap[w.heap.size + 1]? = some (.loop (rc .ready none)) ∧ W.heap[w.heap.size]? = some (.deferred (some [])))
    (fun W => Ix W ∧ W.heap[w.heap.size + 1]? = some (.loop (rc .done (some .ret))) ∧ W.heap[w.heap.size]? = some (.deferred (some []))) W1 bel1 ?_ ⟨inv1, rec1, def1⟩).mono ?_
  · rintro m W hm ⟨hi, hl, hk⟩
    have hlt : w.heap.size + 1 < W.heap.size := (Array.getElem?_eq_some_iff.1 hl).1
    have hy := run_yield (P := Try.prog) (args := #[.int .i64 ((min m 32 : Nat) : Int)]) hl (by rw [erc]; exact hps.symm)
    have hbg := run_beginRound (P := Try.prog) hl (by rw [erc])
    generalize hWb : W.putObj (w.heap.size + 1) (.loop { rc .ready none with state := .busy }) = Wb at hbg
    have busy : Wb.heap[w.heap.size + 1]? = some (.loop { rc .ready none with state := .busy }) := by rw [← hWb]; exact World.putObj_heap_same hlt
    have defb : Wb.heap[w.heap.size]? = some (.deferred (some [])) := by rw [← hWb, World.putObj_heap_other (by omega)]; exact hk
    have invb : I m Wb := by rw [← hWb]; exact hI.putObj _ hi (by omega) hl rfl
    rw [erc] at hy
    refine ⟨fn, _, assign, body, hy, roundIn_of_wpIn hfn (hassign _ m W _ ⟨Wb, hbg, wpIn_mono (hbody _ m Wb hm invb) ?_⟩)⟩
    -- the end of a round
    have fin : ∀ (jump : Option Code) (W3 : World), KeepsOthers Wb W3 → ∃ st W4, (Instr.endRound (w.heap.size + 1) jump).run Try.prog W3 = .ok (.bool jump.isNone) W4 ∧ st = (if jump.isNone then LoopState.ready else LoopState.done) ∧
        W4 = W3.putObj (w.heap.size + 1) (.loop (rc st jump)) ∧ W3.heap[w.heap.size + 1]? = some (.loop { rc .ready none with state := .busy }) ∧ W4.heap[w.heap.size + 1]? = some (.loop (rc st jump)) ∧ W4.heap[w.heap.size]? = some (.deferred (some [])) := fun jump W3 hko => by
      have b3 := hko.same _ _ busy rfl
      have he := run_endRound (P := Try.prog) jump b3
      refine ⟨_, _, he, rfl, by rw [erc, erc], b3, ?_, ?_⟩
      · rw [World.putObj_heap_same (Array.getElem?_eq_some_iff.1 b3).1, erc, erc]
      · rw [World.putObj_heap_other (by omega)]; exact hko.same _ _ defb rfl
    rintro e a3 W3 hp
    cases e with
    | normal =>
      obtain ⟨st, W4, hr, rfl, hW4, b3, r4, d4⟩ := fin none W3 hp.1
      exact ⟨_, W4, hr, .inl ⟨rfl, by rw [hW4]; exact hI.putObj _ hp.2 (by omega) b3 rfl, r4, d4⟩⟩
    | ret =>
      obtain ⟨st, W4, hr, rfl, hW4, b3, r4, d4⟩ := fin (some .ret) W3 hp.1
      exact ⟨_, W4, hr, .inr ⟨rfl, by rw [hW4]; exact hIx.putObj (s := ()) _ hp.2 (by omega) b3 rfl, r4, d4⟩⟩
    | exit _ => exact hp.elim
    | goto _ => exact hp.elim
    | panic _ => exact hp.elim
    | outgrown => exact hp.elim
  · rintro e W2 ⟨⟨v, rfl⟩, (⟨hi, hl, hk⟩ | ⟨hi, hl, hk⟩)⟩
    · have hend := run_endLoop (P := Try.prog) hl (by rw [erc]; simp)
      rw [show (rc .ready none).pending = none from by rw [erc]] at hend
      exact ⟨none, _, hend, hdone _ _ (Nat.le_refl _) (hI.putObj _ hi (by omega) hl rfl) ((World.putObj_heap_other (by omega)).trans hk)⟩
    · have hend := run_endLoop (P := Try.prog) hl (by rw [erc]; simp)
      rw [show (rc .done (some .ret)).pending = some .ret from by rw [erc]] at hend
      exact ⟨some .ret, _, hend, hstop _ _ (Nat.le_refl _) (hIx.putObj (s := ()) _ hi (by omega) hl rfl) ((World.putObj_heap_other (by omega)).trans hk)⟩
end law

theorem blockLengths_any (n : Nat) (w : World) : Calls Try.prog 70 #[.int .i64 (n : Int)] w fun e w' =>
    e = .returned (.func (.func 80) #[] #[.pointer (some ⟨w.heap.size, 0, none⟩)]) ∧ w' = w.alloc (.cells #[.int .i64 (n : Int)] 3) := by
  have hmf : ∀ (fn : Fn) (first cap : Array Value) (w : World), (Instr.makeFunc fn first cap).run Try.prog w = .ok (.func fn first cap) w := fun _ _ _ _ => rfl
  go_enter Try.func70, Try.ntmps70
  go_wp2
  go_ret
  exact ⟨rfl, rfl⟩

attribute [local go_sem] Oper.semAt_some
set_option maxHeartbeats 1000000 in
theorem lens_of (n b n0 : Nat) (w : World) (hn0 : n0 ≤ 9223372036854775807) (hb : b < w.heap.size) (hc : w.cell? ⟨b, 0, none⟩ = some (.int .i64 (n0 : Int))) :
    Lens n 80 #[.pointer (some ⟨b, 0, none⟩)] n0 w := by
  intro l J Jx W hW hY h0
  have hcell := (hW.cell (p := ⟨b, 0, none⟩) hb).trans hc
  refine callsIn_of_wp Try.func80 rfl trivial ?_ rfl
  simp only [Try.ntmps80, List.size_toArray, List.length_cons, List.length_nil, Nat.reduceAdd, Nat.reduceSub, Array.replicate_succ, Array.replicate_zero, List.push_toArray, List.append_toArray, List.nil_append, List.cons_append]
  gi_wp2
  gi_loopw [3] (fun s wr => ∃ z : Int, s = .int .i64 z ∧ z ≤ 9223372036854775807 ∧ -32 ≤ z ∧ J z.toNat wr) (fun s _ => (intOf s).toNat)
  case atStart => exact ⟨n0, rfl, by omega, by omega, h0⟩
  case round =>
    obtain ⟨z, rfl, hz, hz', hJ⟩ := hrel
    by_cases h : 0 < z
    · obtain ⟨fn, tmps, assign, body, hy, hR⟩ := hY z.toNat wr (by omega) hJ
      have hmin : ((min z.toNat 32 : Nat) : Int) = if 32 < z then 32 else z := by split <;> omega
      rw [hmin] at hy
      gi_wp2
      · refine ⟨(fun h => by cases h), hR.mono ?_⟩
        rintro e W3 (⟨rfl, hJ3⟩ | ⟨rfl, hJx3⟩)
        · gi_wp2
          go_roundw
          case rel => exact ⟨z - 32, rfl, by omega, by omega, by rw [show (z - 32).toNat = z.toNat - 32 from by omega]; exact hJ3⟩
          case measure => simp [intOf]; omega
        · gi_wp2
          refine bodyPost_ret (results_none rfl _ _ _) rfl ?_
          exact ⟨⟨_, rfl⟩, .inr hJx3⟩
      · refine ⟨(fun h => by cases h), hR.mono ?_⟩
        rintro e W3 (⟨rfl, hJ3⟩ | ⟨rfl, hJx3⟩)
        · gi_wp2
          go_roundw
          case rel => exact ⟨z - 32, rfl, by omega, by omega, by rw [show (z - 32).toNat = z.toNat - 32 from by omega]; exact hJ3⟩
          case measure => simp [intOf]; omega
        · gi_wp2
          refine bodyPost_ret (results_none rfl _ _ _) rfl ?_
          exact ⟨⟨_, rfl⟩, .inr hJx3⟩
    · gi_wp2
      go_end0
      exact ⟨⟨_, rfl⟩, .inl (by rw [show z.toNat = 0 from by omega] at hJ; exact hJ)⟩
end Go.Proofs.Ytgjopffdgdimlaa

/- pfor.PutList. -/
namespace Go.Proofs.Ytgjopffdgdimlaa
open Go.RowKit Go.Shelf
set_option maxRecDepth 100000
attribute [local go_sem] Oper.semAt_some

/-- a box of another kind than bytes is no row of bytes -/
theorem box_apart {w : World} {base B n c : Nat} {t : TypeId} {v : Value} {A : Option Addr} {l : List UInt8} (h : Own w base A n c l) (hb : Boxed w B t v) (ht : t ≠ 5) : blk A = none ∨ blk A ≠ some B := by
  rcases h.2 with ⟨hv, _⟩ | ⟨g, cap, cur, hv, _, hg, _⟩
  · injection hv with h1; subst h1; exact .inl rfl
  · injection hv with h1
    subst h1
    refine .inr fun e => ?_
    have e' : g = B := by simpa [blk] using e
    subst e'
    have hb' : w.heap[g]? = some (.cells #[v] t (0, 0)) := hb
    rw [hg] at hb'
    injection hb' with hb'
    injection hb' with _ h2
    exact ht h2.symm
theorem own_cells {w : World} {base n c k : Nat} {A : Option Addr} {l : List UInt8} {o : Obj} (h : Own w base A n c l) (hk : blk A = some k) (ho : w.heap[k]? = some o) : o.isCells = true := by
  rcases h.2 with ⟨hv, _⟩ | ⟨g, cap, cur, hv, _, hg, _⟩
  · injection hv with h1; subst h1; cases hk
  · injection hv with h1
    subst h1
    have e' : g = k := by simpa [blk] using hk
    subst e'
    rw [hg] at ho
    cases ho
    rfl
theorem box_kept {w w' : World} {B : Nat} {t : TypeId} {v : Value} {row : Option Nat} (h : Boxed w B t v) (hg : w.grownBy w' row) (hr : ∀ r, row = some r → ∃ o : Obj, w.heap[r]? = some o ∧ o.isCells = false) : Boxed w' B t v :=
  h.kept hg (fun e => by
    obtain ⟨o, ho, hc⟩ := hr B e.symm
    have hb : w.heap[B]? = some (.cells #[v] t (0, 0)) := h
    rw [hb] at ho
    cases ho
    cases hc)

/-- between two rounds of PutList: m numbers are left -/
def PutInv (w : World) (Bo Bl : Nat) (T : List UInt8) (m : Nat) (W : World) : Prop :=
  ∃ (A A2 : Option Addr) (c c2 : Nat) (O : List UInt8) (rest : List UInt64), rest.length = m ∧ m ≤ c2 ∧ Nums w w.heap.size A2 rest ∧ O ++ Pfor.blocks rest = T ∧
    Boxed W Bo 22 (.slice A O.length c) ∧ Own W w.heap.size A O.length c O ∧ Boxed W Bl 49 (.slice A2 m c2) ∧ Below w.heap.size w W
theorem putInv_own (w : World) (Bo Bl B : Nat) (T : List UInt8) (hB : w.heap.size ≤ B) : OwnFrom B (PutInv w Bo Bl T) := by
  rintro m W W' row ⟨A, A2, c, c2, O, rest, h1, h2, h3, h4, h5, h6, h7, h8⟩ hg hr
  refine ⟨A, A2, c, c2, O, rest, h1, h2, h3, h4, box_kept h5 hg (fun r e => (hr r e).2), h6.kept hg ?_, box_kept h7 hg (fun r e => (hr r e).2), h8.grown hg h8.size (fun k e => Nat.le_trans hB (hr k e).1)⟩
  cases row with
  | none => cases hA : blk A <;> simp
  | some r =>
    refine .inr fun e => ?_
    obtain ⟨_, o, ho, hc⟩ := hr r rfl
    rw [own_cells h6 e ho] at hc
    cases hc

theorem elem23 : Try.prog.elem 49 = 54 := by kernel_rfl
theorem size64 (W : World) : (sizeOf 54).run Try.prog W = .ok 1 W := by
  obtain ⟨i0, hi0, hz0, hz1, hz2⟩ := info_parts u64_info
  simp [sizeOf, typeInfo, hi0, hz1]
theorem run_nums_h (A : Option Addr) (n cap hi : Nat) (h2 : hi ≤ cap) (W : World) :
    (Instr.slice 49 (.slice A n cap) none (some (.int .i64 (hi : Int))) none).run Try.prog W = .ok (.slice A hi cap) W := by
  rw [run_slice_h (P := Try.prog) (w := W) (kh := .i64) (h := (hi : Int)) (h0 := by omega) (h2 := by omega) (ht := by rw [elem23]; exact Try.underlying49)]
  rw [elem23, size64]
  by_cases hc : cap = 0 <;> cases A <;> simp [Result.andThen, sliced, Addr.add]
theorem run_nums_l (A : Option Addr) (n cap lo m : Nat) (h1 : n = lo + m) (W : World) :
    (Instr.slice 49 (.slice A n cap) (some (.int .i64 (lo : Int))) none none).run Try.prog W = .ok (.slice (cutAt A cap lo) m (cap - lo)) W := by
  rw [run_slice_l (P := Try.prog) (w := W) (kl := .i64) (l := (lo : Int)) (h0 := by omega) (h1 := by omega) (ht := by rw [elem23]; exact Try.underlying49)]
  rw [elem23, size64, show m = n - lo from by omega]
  simp [Result.andThen, sliced, cutAt]
theorem stepIn_append_bytes {F : Fence} {k : Nat} {w : World} {ops : Array Oper} {o : Oper} {a : Act} {K : Act → World → Prop} {Q : Exit → Act → World → Prop} {E : Prop} (hw : Region.wanted o (yielded ops a.tmps) = true) (s x : Operand)
    (ho : o.op = .call { callee := .builtin .append, args := #[s, x], argTypes := #[22, 22] })
    (base : Nat) (A : Option Addr) (n c : Nat) (l : List UInt8) (hs : a.eval s = .slice A n c) (hown : Own w base A n c l)
    (B : Nat) (A2 : Option Addr) (m c2 : Nat) (l2 : List UInt8) (hx : a.eval x = .slice A2 m c2) (hl2 : l2.length = m) (hb : Bytes w B A2 l2) (hbytes : n + m ≤ 140737488355328) (hbase : base ≤ w.heap.size)
    (h : ∀ A' c' w', Own w' base A' (n + m) c' (l ++ l2) → w.grownBy w' (blk A) → (blk A' = blk A ∨ blk A' = some w.heap.size) → K (a.put o.dst (.slice A' (n + m) c')) w') :
    if Region.wanted o (yielded ops a.tmps) = true then Oper.wpIn F k Try.prog o a w K Q else E := by
  obtain ⟨A', c', w', hrun, h2, h3, h4⟩ := run_append_bytes w base o.type A n c l hown B A2 m c2 l2 hl2 hb hbytes hbase
  rw [if_pos hw]
  unfold Oper.wpIn
  refine ⟨by simp [Oper.about, ho, resolve, Target.leads, Sem.run_pure], ?_⟩
  rw [Oper.semAt_plain F _ _ (by rw [ho]; intro c hc; cases hc)]
  simp only [execOp, ho, resolve, invoke, builtin, Sem.run_bind, Sem.run_pure, Result.andThen_ok, List.map_toArray, List.map_cons, List.map_nil, hs, hx, hrun]
  exact h A' c' w' h2 h3 h4

set_option maxHeartbeats 4000000 in
set_option maxRecDepth 100000 in
theorem putList_wide (A1 A2 : Option Addr) (n1 c1 n2 c2 : Nat) (b : List UInt8) (l : List UInt64) (w : World) (hl1 : b.length = n1) (hl2 : l.length = n2) (hn1 : n1 ≤ 140737488355328) (hn2 : n2 ≤ 1000000) (hc2 : n2 ≤ c2) (hTot : (b ++ Pfor.list l).length ≤ 140737488355328)
    (hb1 : Bytes w w.heap.size A1 b) (hb2 : Nums w w.heap.size A2 l) :
    Calls Try.prog 55 #[.slice A1 n1 c1, .slice A2 n2 c2] w (MadeIn w.heap.size w (b ++ Pfor.list l).length (b ++ Pfor.list l)) := by
  refine (callsIn_wide (n := 3)).1 ?_
  refine callsIn_of_wp_marks Try.func55 rfl trivial ?_ rfl
  simp only [Try.ntmps55, List.size_toArray, List.length_cons, List.length_nil, Nat.reduceAdd, Nat.reduceSub, Array.replicate_succ, Array.replicate_zero, List.push_toArray, List.append_toArray, List.nil_append, List.cons_append]
  have bl0 := Boxed.new w 49 (.slice A2 n2 c2)
  have hbl0 : Below w.heap.size w (w.alloc (.cells #[.slice A2 n2 c2] 49)) := (Below.refl _ w).alloc (Nat.le_refl _) _
  have HP := put_any A1 n1 c1 w.heap.size n2 b _ hl1 (by omega) (by omega) (hb1.below hbl0) (by simp)
  rw [show (w.alloc (.cells #[.slice A2 n2 c2] 49)).heap.size = w.heap.size + 1 from by simp] at HP
  have hcl := bl0.cell
  have hs9 := Num.size_le9 (show n2 < 18446744073709551616 by omega)
  replace HP := Lib.hid HP
  gi_wp2_with (first | (refine ⟨trivial, ?_⟩; gi_at_call 28; refine (callsIn_wide.2 HP.out).mono ?_; rintro e w1 ⟨g1, k1, rfl, ho1, hb1'⟩; have bl1 := Boxed.kept (W' := w1) bl0 (row := none) ⟨hb1'.os, hb1'.tape, hb1'.output, hb1'.size, fun k hk _ => hb1'.block k (by simpa using hk)⟩ (by simp); have bl2 := bl1.alloc (.cells #[.slice (some ⟨g1, 0, none⟩) (n1 + Num.size n2) k1] 22); have bo2 := Boxed.new w1 22 (.slice (some ⟨g1, 0, none⟩) (n1 + Num.size n2) k1); have hcl2 := bl2.cell) | (refine ⟨trivial, ?_⟩; gi_at_call 70; refine (callsIn_wide.2 (blockLengths_any n2 _)).mono ?_; rintro e w2 ⟨rfl, rfl⟩))
  have hb1g : Below w.heap.size w w1 := hbl0.trans (hb1'.mono (Nat.le_succ _))
  have hlt1 : w.heap.size < w1.heap.size := by have := hb1'.size; simp at this; omega
  have hT0 : (b ++ Num.num n2) ++ Pfor.blocks l = b ++ Pfor.list l := by rw [Pfor.list, hl2, List.append_assoc]
  have hOl : (b ++ Num.num n2).length = n1 + Num.size n2 := by rw [List.length_append, hl1, Num.num_length]
  have hTl : (b ++ Pfor.list l).length ≤ 140737488355328 := hTot
  clear hTot
  generalize b ++ Pfor.list l = T at *
  obtain ⟨Bo, hBo⟩ : ∃ Bo, Bo = w1.heap.size := ⟨_, rfl⟩
  obtain ⟨Bl, hBl⟩ : ∃ Bl, Bl = w.heap.size := ⟨_, rfl⟩
  have bo3 := bo2.alloc (.cells #[.int .i64 (n2 : Int)] 3)
  have bl3 := bl2.alloc (.cells #[.int .i64 (n2 : Int)] 3)
  have ho3 := ((ho1.low (b' := w.heap.size) (Nat.le_succ _)).alloc (.cells #[.slice (some ⟨g1, 0, none⟩) (n1 + Num.size n2) k1] 22)).alloc (.cells #[.int .i64 (n2 : Int)] 3)
  have hbel3 : Below w.heap.size w ((w1.alloc (.cells #[.slice (some ⟨g1, 0, none⟩) (n1 + Num.size n2) k1] 22)).alloc (.cells #[.int .i64 (n2 : Int)] 3)) := (hb1g.alloc hb1g.size _).alloc (by simp; omega) _
  have hcn : ((w1.alloc (.cells #[.slice (some ⟨g1, 0, none⟩) (n1 + Num.size n2) k1] 22)).alloc (.cells #[.int .i64 (n2 : Int)] 3)).cell? ⟨w1.heap.size + 1, 0, none⟩ = some (.int .i64 (n2 : Int)) := by rw [World.cell?_alloc_at _ _ _ _ (by simp)]; rfl
  have hinv : PutInv w w1.heap.size w.heap.size T n2 ((w1.alloc (.cells #[.slice (some ⟨g1, 0, none⟩) (n1 + Num.size n2) k1] 22)).alloc (.cells #[.int .i64 (n2 : Int)] 3)) := by
    refine ⟨some ⟨g1, 0, none⟩, A2, k1, c2, b ++ Num.num n2, l, hl2, hc2, hb2, hT0, ?_, ?_, bl3, hbel3⟩
    · rw [hOl]; exact bo3
    · rw [hOl]; exact ho3
  have hsz3 : ((w1.alloc (.cells #[.slice (some ⟨g1, 0, none⟩) (n1 + Num.size n2) k1] 22)).alloc (.cells #[.int .i64 (n2 : Int)] 3)).heap.size = w1.heap.size + 2 := by simp
  generalize (w1.alloc (.cells #[.slice (some ⟨g1, 0, none⟩) (n1 + Num.size n2) k1] 22)).alloc (.cells #[.int .i64 (n2 : Int)] 3) = W0 at *
  refine wpIn_lens (gf := 80) (lb := #[.pointer (some ⟨w1.heap.size + 1, 0, none⟩)]) (n0 := n2) rfl (enters_of Try.func80 (by kernel_rfl) rfl)
    (lens_of 2 (w1.heap.size + 1) n2 W0 (by omega) (by omega) hcn) rfl (PutInv w w1.heap.size w.heap.size T) (fun _ => False) (putInv_own _ _ _ _ _ hbel3.size) (fun _ _ _ _ h _ _ => h) hinv
    (fun m => { tmps := #[.slice A1 n1 c1, .slice A2 n2 c2, undef, .pointer (some ⟨w.heap.size, 0, none⟩), .slice none 0 0, .pointer (some ⟨w1.heap.size, 0, none⟩), .int .i64 ((min m 32 : Nat) : Int), .slice A1 n1 c1, .slice A2 n2 c2, .int .i64 (n2 : Int), .int .u64 (n2 : Int),
      .slice (some ⟨g1, 0, none⟩) (n1 + Num.size n2) k1, .slice A2 n2 c2, .int .i64 (n2 : Int), .func (.func 80) #[] #[.pointer (some ⟨w1.heap.size + 1, 0, none⟩)], .int .i64 ((min m 32 : Nat) : Int), undef, undef, undef, undef, undef, undef, undef, undef, undef, undef], defers := [] }) ?assign ?body ?done ?stop
  case assign =>
    intro l' m W K hK
    gi_wp2
    exact hK
  case stop =>
    rintro D W _ h _
    exact h.elim
  case done =>
    rintro D W hD ⟨A, A2', c, c2', O, rest, hrl, _, _, hT, hbo, hown, _, hbel⟩ hK
    obtain rfl : rest = [] := List.eq_nil_of_length_eq_zero hrl
    rw [Pfor.blocks_nil, List.append_nil] at hT
    subst hT
    have hc := hbo.cell
    gi_wp2
    refine ⟨by simp, .inl ⟨_, _, rfl, run_takeDeferred hK, ?_⟩⟩
    have hg := grownBy_putObj' W D (.deferred none)
    have hpos : 0 < O.length := by
      have h9 := congrArg List.length hT0
      rw [List.length_append, hOl] at h9
      have := Num.size_pos n2
      omega
    obtain ⟨g9, rfl, hg9, _⟩ := hown.at_ hpos
    have hown' := hown.kept hg (.inr (fun e => by
      have e' : g9 = D := by simpa [blk] using e
      subst e'
      have := own_cells hown rfl hK
      cases this))
    exact ⟨_, results_tmp rfl _ _ _, g9, c, rfl, hown', hbel.grown hg hbel.size (fun k e => by cases e; have := hbel3.size; omega)⟩
  case body =>
    rintro l' m W hm ⟨A, A2', c, c2', O, rest, hrl, hcap, hnums, hT, hbo, hown, hbl, hbel⟩
    obtain ⟨x, hx⟩ : ∃ x, x = min m 32 := ⟨_, rfl⟩
    have hx1 : 1 ≤ x := by omega
    have hx32 : x ≤ 32 := by omega
    have hxm : x ≤ m := by omega
    have hxl : (rest.take x).length = x := by rw [List.length_take]; omega
    have hrest : rest ≠ [] := fun h => by rw [h] at hrl; simp at hrl; omega
    have htk : rest.take x = rest.take 32 := by
      rcases Nat.lt_or_ge m 32 with h | h
      · rw [List.take_of_length_le (by omega), List.take_of_length_le (by omega)]
      · rw [show x = 32 from by omega]
    have hdr : rest.drop x = rest.drop 32 := by
      rcases Nat.lt_or_ge m 32 with h | h
      · rw [List.drop_of_length_le (by omega), List.drop_of_length_le (by omega)]
      · rw [show x = 32 from by omega]
    rw [Pfor.blocks_cons hrest, ← htk, ← hdr, ← List.append_assoc] at hT
    have hOT : O.length + (Pfor.block (rest.take x)).length ≤ T.length := by rw [← hT]; simp only [List.length_append]; omega
    have HE := Lib.hid (fun (W' : World) (hb : Below w.heap.size w W') => encodeBlock_any A2' x c2' w.heap.size (rest.take x) W' hxl hx1 hx32 ((hnums.below hb).take x) hb.size)
    generalize hKK : Pfor.block (rest.take x) = K at *
    clear hKK
    rw [← hx]
    have Hx := Lib.hid hx; clear hx
    have hco := hbo.cell
    have hcl' := hbl.cell
    have hsl := run_nums_h A2' m c2' x (by omega)
    have hne : w1.heap.size ≠ w.heap.size := by omega
    -- behind the block's encoding
    have HX := Lib.hid (fun (w3 : World) (hb3 : Below W.heap.size W.drew w3) => show Below w.heap.size w w3 ∧ Own w3 w.heap.size A O.length c O ∧ Boxed w3 w1.heap.size 22 (.slice A O.length c) ∧ Boxed w3 w.heap.size 49 (.slice A2' m c2') ∧
        w3.cell? ⟨w1.heap.size, 0, none⟩ = some (.slice A O.length c) ∧ KeepsOthers W w3 from by
      have hb3' : Below W.heap.size W w3 := below_of_drew hb3
      have hgn : W.grownBy w3 none := ⟨hb3'.os, hb3'.tape, hb3'.output, hb3'.size, fun k hk _ => hb3'.block k hk⟩
      have bo := hbo.kept hgn (by simp)
      exact ⟨hbel.trans (hb3'.mono hbel.size), hown.below hb3', bo, hbl.kept hgn (by simp), bo.cell, KeepsOthers.below hb3'⟩)
    -- behind the append, and the store
    have HY := Lib.hid (fun (w3 w4 : World) (A5 : Option Addr) (c5 : Nat) (K : List UInt8) (ho3 : Own w3 w.heap.size A O.length c O) (bo3 : Boxed w3 w1.heap.size 22 (.slice A O.length c)) (bl3 : Boxed w3 w.heap.size 49 (.slice A2' m c2'))
        (hb3 : Below w.heap.size w w3) (hk3 : KeepsOthers W w3) (ho4 : Own w4 w.heap.size A5 (O.length + K.length) c5 (O ++ K)) (hg4 : w3.grownBy w4 (blk A)) =>
        show Own (w4.setCell ⟨w1.heap.size, 0, none⟩ (.slice A5 (O.length + K.length) c5)) w.heap.size A5 (O.length + K.length) c5 (O ++ K) ∧ Boxed (w4.setCell ⟨w1.heap.size, 0, none⟩ (.slice A5 (O.length + K.length) c5)) w1.heap.size 22 (.slice A5 (O.length + K.length) c5) ∧
          Boxed (w4.setCell ⟨w1.heap.size, 0, none⟩ (.slice A5 (O.length + K.length) c5)) w.heap.size 49 (.slice A2' m c2') ∧ Below w.heap.size w (w4.setCell ⟨w1.heap.size, 0, none⟩ (.slice A5 (O.length + K.length) c5)) ∧
          KeepsOthers W (w4.setCell ⟨w1.heap.size, 0, none⟩ (.slice A5 (O.length + K.length) c5)) ∧ w4.cell? ⟨w1.heap.size, 0, none⟩ = some (.slice A O.length c) ∧ w4.frozen? ⟨w1.heap.size, 0, none⟩ = false from by
      have nb : ∀ {B : Nat} {t : TypeId} {v : Value}, Boxed w3 B t v → t ≠ 5 → some B ≠ blk A := fun hb ht e => by
        rcases box_apart ho3 hb ht with h | h
        · rw [h] at e; cases e
        · exact h e.symm
      have bo4 := bo3.kept hg4 (nb bo3 (by decide))
      have bl4 := bl3.kept hg4 (nb bl3 (by decide))
      have hb4 := hb3.grown hg4 hb3.size (fun k hk => (ho3.lt hk).1)
      have hk4 : KeepsOthers w3 w4 := KeepsOthers.of_grownBy hg4 (fun j o hj hjo => own_cells ho3 hj hjo)
      have ho5 := ho4.kept (Lib.grownBy_setCell w4 w1.heap.size 0 (.slice A5 (O.length + K.length) c5)) (box_apart ho4 bo4 (by decide))
      exact ⟨ho5, bo4.set _, bl4.other (by omega) _, hb4.setCell (p := ⟨w1.heap.size, 0, none⟩) (Nat.le_of_lt hlt1) _, (hk3.trans hk4).trans (KeepsOthers.setCell _ _ _), bo4.cell, bo4.frozen⟩)
    have hOK : O.length + K.length ≤ 140737488355328 := by omega
    gi_wp2
    refine wpIn_mono (Q := fun e a' W' => e = .normal ∧ ∃ (A5 : Option Addr) (c5 g3 k3 : Nat), a' = { tmps := #[.slice A1 n1 c1, .slice A2 n2 c2, undef, .pointer (some ⟨w.heap.size, 0, none⟩), .slice none 0 0, .pointer (some ⟨w1.heap.size, 0, none⟩), .int .i64 (x : Int), .slice A1 n1 c1, .slice A2 n2 c2, .int .i64 (n2 : Int), .int .u64 (n2 : Int), .slice (some ⟨g1, 0, none⟩) (n1 + Num.size n2) k1, .slice A2 n2 c2, .int .i64 (n2 : Int), .func (.func 80) #[] #[.pointer (some ⟨w1.heap.size + 1, 0, none⟩)], .int .i64 (x : Int), .slice A O.length c, .slice A2' m c2', .int .i64 (x : Int), .slice A2' x c2', .slice (some ⟨g3, 0, none⟩) K.length k3, .slice A5 (O.length + K.length) c5, undef, undef, undef, undef], defers := [] } ∧
      Own W' w.heap.size A5 (O.length + K.length) c5 (O ++ K) ∧ Boxed W' w1.heap.size 22 (.slice A5 (O.length + K.length) c5) ∧ Boxed W' w.heap.size 49 (.slice A2' m c2') ∧ Below w.heap.size w W' ∧ KeepsOthers W W') ?_ ?_
    · refine wpIn_region_any (by kernel_rfl) ?_
      change wpAnyIn _ _ _ _ _ _ _ _ _ (World.drew _)
      refine wpAnyIn_ready (rs := [0, 1, 2]) (by kernel_rfl) (by simp) ?_
      refine AllReadyIn.cons rfl (fun K hK => ?_) ?_
      · go_simp
        refine hK _ _ ?_
        clear hK K
        refine wpAnyIn_ready (rs := [1, 2]) (by kernel_rfl) (by simp) ?_
        refine AllReadyIn.cons rfl (fun K hK => ?_) ?_
        · go_simp
          refine hK _ _ ?_
          clear hK K
          refine wpAnyIn_ready (rs := [2]) (by kernel_rfl) (by simp) ?_
          refine AllReadyIn.cons rfl (fun K hK => ?_) ?_
          · go_simp
            refine hK _ _ ?_
            clear hK K
            refine wpAnyIn_ready (rs := [3]) (by kernel_rfl) (by simp) ?_
            refine AllReadyIn.cons rfl (fun K hK => ?_) ?_
            · go_simp
              refine hK _ _ ?_
              clear hK K
              refine wpAnyIn_ready (rs := [4]) (by kernel_rfl) (by simp) ?_
              refine AllReadyIn.cons rfl (fun K hK => ?_) ?_
              · go_simp
                refine ⟨trivial, ?_⟩
                gi_at_call 71
                refine (CallsIn.inRound l' (callsIn_wide.2 (HE.out W.drew hbel.drew))).mono ?_
                rintro e w3 ⟨g3, k3, rfl, ho3, hb3⟩
                refine hK _ _ ?_
                clear hK K
                obtain ⟨hb3', ho3', bo3', bl3', hco3, hko3⟩ := HX.out w3 hb3
                refine wpAnyIn_ready (rs := [5]) (by kernel_rfl) (by simp) ?_
                refine AllReadyIn.cons rfl (fun K hK => ?_) ?_
                · refine stepIn_append_bytes (by rfl) (.tmp 16) (.tmp 20) (by rfl) w.heap.size A O.length c O (by rfl) (by exact ho3') _ _ _ k3 _ (by rfl) rfl (by exact ho3.bytes) (by omega) (by exact hb3'.size) ?_
                  intro A5 c5 w4 ho4 hg4 hat4
                  refine hK _ _ ?_
                  clear hK K
                  obtain ⟨ho5, bo5, bl5, hbel5, hko5, hc4, hf4⟩ := HY.out w3 w4 A5 c5 _ ho3' bo3' bl3' hb3' hko3 ho4 hg4
                  refine wpAnyIn_ready (rs := [6]) (by kernel_rfl) (by simp) ?_
                  refine AllReadyIn.cons rfl (fun K hK => ?_) ?_
                  · go_simp
                    refine hK _ _ ?_
                    clear hK K
                    refine wpAnyIn_done (by kernel_rfl) ?_ _
                    exact ⟨rfl, A5, c5, g3, k3, rfl, ho5, bo5, bl5, hbel5, hko5⟩
                  exact AllReadyIn.nil
                exact AllReadyIn.nil
              exact AllReadyIn.nil
            exact AllReadyIn.nil
          exact AllReadyIn.nil
        refine AllReadyIn.cons rfl (fun K hK => ?_) ?_
        · go_simp
          refine hK _ _ ?_
          clear hK K
          refine wpAnyIn_ready (rs := [1]) (by kernel_rfl) (by simp) ?_
          refine AllReadyIn.cons rfl (fun K hK => ?_) ?_
          · go_simp
            refine hK _ _ ?_
            clear hK K
            refine wpAnyIn_ready (rs := [3]) (by kernel_rfl) (by simp) ?_
            refine AllReadyIn.cons rfl (fun K hK => ?_) ?_
            · go_simp
              refine hK _ _ ?_
              clear hK K
              refine wpAnyIn_ready (rs := [4]) (by kernel_rfl) (by simp) ?_
              refine AllReadyIn.cons rfl (fun K hK => ?_) ?_
              · go_simp
                refine ⟨trivial, ?_⟩
                gi_at_call 71
                refine (CallsIn.inRound l' (callsIn_wide.2 (HE.out W.drew hbel.drew))).mono ?_
                rintro e w3 ⟨g3, k3, rfl, ho3, hb3⟩
                refine hK _ _ ?_
                clear hK K
                obtain ⟨hb3', ho3', bo3', bl3', hco3, hko3⟩ := HX.out w3 hb3
                refine wpAnyIn_ready (rs := [5]) (by kernel_rfl) (by simp) ?_
                refine AllReadyIn.cons rfl (fun K hK => ?_) ?_
                · refine stepIn_append_bytes (by rfl) (.tmp 16) (.tmp 20) (by rfl) w.heap.size A O.length c O (by rfl) (by exact ho3') _ _ _ k3 _ (by rfl) rfl (by exact ho3.bytes) (by omega) (by exact hb3'.size) ?_
                  intro A5 c5 w4 ho4 hg4 hat4
                  refine hK _ _ ?_
                  clear hK K
                  obtain ⟨ho5, bo5, bl5, hbel5, hko5, hc4, hf4⟩ := HY.out w3 w4 A5 c5 _ ho3' bo3' bl3' hb3' hko3 ho4 hg4
                  refine wpAnyIn_ready (rs := [6]) (by kernel_rfl) (by simp) ?_
                  refine AllReadyIn.cons rfl (fun K hK => ?_) ?_
                  · go_simp
                    refine hK _ _ ?_
                    clear hK K
                    refine wpAnyIn_done (by kernel_rfl) ?_ _
                    exact ⟨rfl, A5, c5, g3, k3, rfl, ho5, bo5, bl5, hbel5, hko5⟩
                  exact AllReadyIn.nil
                exact AllReadyIn.nil
              exact AllReadyIn.nil
            exact AllReadyIn.nil
          exact AllReadyIn.nil
        exact AllReadyIn.nil
      refine AllReadyIn.cons rfl (fun K hK => ?_) ?_
      · go_simp
        refine hK _ _ ?_
        clear hK K
        refine wpAnyIn_ready (rs := [0, 2]) (by kernel_rfl) (by simp) ?_
        refine AllReadyIn.cons rfl (fun K hK => ?_) ?_
        · go_simp
          refine hK _ _ ?_
          clear hK K
          refine wpAnyIn_ready (rs := [2]) (by kernel_rfl) (by simp) ?_
          refine AllReadyIn.cons rfl (fun K hK => ?_) ?_
          · go_simp
            refine hK _ _ ?_
            clear hK K
            refine wpAnyIn_ready (rs := [3]) (by kernel_rfl) (by simp) ?_
            refine AllReadyIn.cons rfl (fun K hK => ?_) ?_
            · go_simp
              refine hK _ _ ?_
              clear hK K
              refine wpAnyIn_ready (rs := [4]) (by kernel_rfl) (by simp) ?_
              refine AllReadyIn.cons rfl (fun K hK => ?_) ?_
              · go_simp
                refine ⟨trivial, ?_⟩
                gi_at_call 71
                refine (CallsIn.inRound l' (callsIn_wide.2 (HE.out W.drew hbel.drew))).mono ?_
                rintro e w3 ⟨g3, k3, rfl, ho3, hb3⟩
                refine hK _ _ ?_
                clear hK K
                obtain ⟨hb3', ho3', bo3', bl3', hco3, hko3⟩ := HX.out w3 hb3
                refine wpAnyIn_ready (rs := [5]) (by kernel_rfl) (by simp) ?_
                refine AllReadyIn.cons rfl (fun K hK => ?_) ?_
                · refine stepIn_append_bytes (by rfl) (.tmp 16) (.tmp 20) (by rfl) w.heap.size A O.length c O (by rfl) (by exact ho3') _ _ _ k3 _ (by rfl) rfl (by exact ho3.bytes) (by omega) (by exact hb3'.size) ?_
                  intro A5 c5 w4 ho4 hg4 hat4
                  refine hK _ _ ?_
                  clear hK K
                  obtain ⟨ho5, bo5, bl5, hbel5, hko5, hc4, hf4⟩ := HY.out w3 w4 A5 c5 _ ho3' bo3' bl3' hb3' hko3 ho4 hg4
                  refine wpAnyIn_ready (rs := [6]) (by kernel_rfl) (by simp) ?_
                  refine AllReadyIn.cons rfl (fun K hK => ?_) ?_
                  · go_simp
                    refine hK _ _ ?_
                    clear hK K
                    refine wpAnyIn_done (by kernel_rfl) ?_ _
                    exact ⟨rfl, A5, c5, g3, k3, rfl, ho5, bo5, bl5, hbel5, hko5⟩
                  exact AllReadyIn.nil
                exact AllReadyIn.nil
              exact AllReadyIn.nil
            exact AllReadyIn.nil
          exact AllReadyIn.nil
        refine AllReadyIn.cons rfl (fun K hK => ?_) ?_
        · go_simp
          refine hK _ _ ?_
          clear hK K
          refine wpAnyIn_ready (rs := [0, 3]) (by kernel_rfl) (by simp) ?_
          refine AllReadyIn.cons rfl (fun K hK => ?_) ?_
          · go_simp
            refine hK _ _ ?_
            clear hK K
            refine wpAnyIn_ready (rs := [3]) (by kernel_rfl) (by simp) ?_
            refine AllReadyIn.cons rfl (fun K hK => ?_) ?_
            · go_simp
              refine hK _ _ ?_
              clear hK K
              refine wpAnyIn_ready (rs := [4]) (by kernel_rfl) (by simp) ?_
              refine AllReadyIn.cons rfl (fun K hK => ?_) ?_
              · go_simp
                refine ⟨trivial, ?_⟩
                gi_at_call 71
                refine (CallsIn.inRound l' (callsIn_wide.2 (HE.out W.drew hbel.drew))).mono ?_
                rintro e w3 ⟨g3, k3, rfl, ho3, hb3⟩
                refine hK _ _ ?_
                clear hK K
                obtain ⟨hb3', ho3', bo3', bl3', hco3, hko3⟩ := HX.out w3 hb3
                refine wpAnyIn_ready (rs := [5]) (by kernel_rfl) (by simp) ?_
                refine AllReadyIn.cons rfl (fun K hK => ?_) ?_
                · refine stepIn_append_bytes (by rfl) (.tmp 16) (.tmp 20) (by rfl) w.heap.size A O.length c O (by rfl) (by exact ho3') _ _ _ k3 _ (by rfl) rfl (by exact ho3.bytes) (by omega) (by exact hb3'.size) ?_
                  intro A5 c5 w4 ho4 hg4 hat4
                  refine hK _ _ ?_
                  clear hK K
                  obtain ⟨ho5, bo5, bl5, hbel5, hko5, hc4, hf4⟩ := HY.out w3 w4 A5 c5 _ ho3' bo3' bl3' hb3' hko3 ho4 hg4
                  refine wpAnyIn_ready (rs := [6]) (by kernel_rfl) (by simp) ?_
                  refine AllReadyIn.cons rfl (fun K hK => ?_) ?_
                  · go_simp
                    refine hK _ _ ?_
                    clear hK K
                    refine wpAnyIn_done (by kernel_rfl) ?_ _
                    exact ⟨rfl, A5, c5, g3, k3, rfl, ho5, bo5, bl5, hbel5, hko5⟩
                  exact AllReadyIn.nil
                exact AllReadyIn.nil
              exact AllReadyIn.nil
            exact AllReadyIn.nil
          refine AllReadyIn.cons rfl (fun K hK => ?_) ?_
          · go_simp
            refine hK _ _ ?_
            clear hK K
            refine wpAnyIn_ready (rs := [0, 4]) (by kernel_rfl) (by simp) ?_
            refine AllReadyIn.cons rfl (fun K hK => ?_) ?_
            · go_simp
              refine hK _ _ ?_
              clear hK K
              refine wpAnyIn_ready (rs := [4]) (by kernel_rfl) (by simp) ?_
              refine AllReadyIn.cons rfl (fun K hK => ?_) ?_
              · go_simp
                refine ⟨trivial, ?_⟩
                gi_at_call 71
                refine (CallsIn.inRound l' (callsIn_wide.2 (HE.out W.drew hbel.drew))).mono ?_
                rintro e w3 ⟨g3, k3, rfl, ho3, hb3⟩
                refine hK _ _ ?_
                clear hK K
                obtain ⟨hb3', ho3', bo3', bl3', hco3, hko3⟩ := HX.out w3 hb3
                refine wpAnyIn_ready (rs := [5]) (by kernel_rfl) (by simp) ?_
                refine AllReadyIn.cons rfl (fun K hK => ?_) ?_
                · refine stepIn_append_bytes (by rfl) (.tmp 16) (.tmp 20) (by rfl) w.heap.size A O.length c O (by rfl) (by exact ho3') _ _ _ k3 _ (by rfl) rfl (by exact ho3.bytes) (by omega) (by exact hb3'.size) ?_
                  intro A5 c5 w4 ho4 hg4 hat4
                  refine hK _ _ ?_
                  clear hK K
                  obtain ⟨ho5, bo5, bl5, hbel5, hko5, hc4, hf4⟩ := HY.out w3 w4 A5 c5 _ ho3' bo3' bl3' hb3' hko3 ho4 hg4
                  refine wpAnyIn_ready (rs := [6]) (by kernel_rfl) (by simp) ?_
                  refine AllReadyIn.cons rfl (fun K hK => ?_) ?_
                  · go_simp
                    refine hK _ _ ?_
                    clear hK K
                    refine wpAnyIn_done (by kernel_rfl) ?_ _
                    exact ⟨rfl, A5, c5, g3, k3, rfl, ho5, bo5, bl5, hbel5, hko5⟩
                  exact AllReadyIn.nil
                exact AllReadyIn.nil
              exact AllReadyIn.nil
            refine AllReadyIn.cons rfl (fun K hK => ?_) ?_
            · go_simp
              refine ⟨trivial, ?_⟩
              gi_at_call 71
              refine (CallsIn.inRound l' (callsIn_wide.2 (HE.out W.drew hbel.drew))).mono ?_
              rintro e w3 ⟨g3, k3, rfl, ho3, hb3⟩
              refine hK _ _ ?_
              clear hK K
              obtain ⟨hb3', ho3', bo3', bl3', hco3, hko3⟩ := HX.out w3 hb3
              refine wpAnyIn_ready (rs := [0]) (by kernel_rfl) (by simp) ?_
              refine AllReadyIn.cons rfl (fun K hK => ?_) ?_
              · go_simp
                refine hK _ _ ?_
                clear hK K
                refine wpAnyIn_ready (rs := [5]) (by kernel_rfl) (by simp) ?_
                refine AllReadyIn.cons rfl (fun K hK => ?_) ?_
                · refine stepIn_append_bytes (by rfl) (.tmp 16) (.tmp 20) (by rfl) w.heap.size A O.length c O (by rfl) (by exact ho3') _ _ _ k3 _ (by rfl) rfl (by exact ho3.bytes) (by omega) (by exact hb3'.size) ?_
                  intro A5 c5 w4 ho4 hg4 hat4
                  refine hK _ _ ?_
                  clear hK K
                  obtain ⟨ho5, bo5, bl5, hbel5, hko5, hc4, hf4⟩ := HY.out w3 w4 A5 c5 _ ho3' bo3' bl3' hb3' hko3 ho4 hg4
                  refine wpAnyIn_ready (rs := [6]) (by kernel_rfl) (by simp) ?_
                  refine AllReadyIn.cons rfl (fun K hK => ?_) ?_
                  · go_simp
                    refine hK _ _ ?_
                    clear hK K
                    refine wpAnyIn_done (by kernel_rfl) ?_ _
                    exact ⟨rfl, A5, c5, g3, k3, rfl, ho5, bo5, bl5, hbel5, hko5⟩
                  exact AllReadyIn.nil
                exact AllReadyIn.nil
              exact AllReadyIn.nil
            exact AllReadyIn.nil
          exact AllReadyIn.nil
        exact AllReadyIn.nil
      refine AllReadyIn.cons rfl (fun K hK => ?_) ?_
      · go_simp
        refine hK _ _ ?_
        clear hK K
        refine wpAnyIn_ready (rs := [0, 1]) (by kernel_rfl) (by simp) ?_
        refine AllReadyIn.cons rfl (fun K hK => ?_) ?_
        · go_simp
          refine hK _ _ ?_
          clear hK K
          refine wpAnyIn_ready (rs := [1]) (by kernel_rfl) (by simp) ?_
          refine AllReadyIn.cons rfl (fun K hK => ?_) ?_
          · go_simp
            refine hK _ _ ?_
            clear hK K
            refine wpAnyIn_ready (rs := [3]) (by kernel_rfl) (by simp) ?_
            refine AllReadyIn.cons rfl (fun K hK => ?_) ?_
            · go_simp
              refine hK _ _ ?_
              clear hK K
              refine wpAnyIn_ready (rs := [4]) (by kernel_rfl) (by simp) ?_
              refine AllReadyIn.cons rfl (fun K hK => ?_) ?_
              · go_simp
                refine ⟨trivial, ?_⟩
                gi_at_call 71
                refine (CallsIn.inRound l' (callsIn_wide.2 (HE.out W.drew hbel.drew))).mono ?_
                rintro e w3 ⟨g3, k3, rfl, ho3, hb3⟩
                refine hK _ _ ?_
                clear hK K
                obtain ⟨hb3', ho3', bo3', bl3', hco3, hko3⟩ := HX.out w3 hb3
                refine wpAnyIn_ready (rs := [5]) (by kernel_rfl) (by simp) ?_
                refine AllReadyIn.cons rfl (fun K hK => ?_) ?_
                · refine stepIn_append_bytes (by rfl) (.tmp 16) (.tmp 20) (by rfl) w.heap.size A O.length c O (by rfl) (by exact ho3') _ _ _ k3 _ (by rfl) rfl (by exact ho3.bytes) (by omega) (by exact hb3'.size) ?_
                  intro A5 c5 w4 ho4 hg4 hat4
                  refine hK _ _ ?_
                  clear hK K
                  obtain ⟨ho5, bo5, bl5, hbel5, hko5, hc4, hf4⟩ := HY.out w3 w4 A5 c5 _ ho3' bo3' bl3' hb3' hko3 ho4 hg4
                  refine wpAnyIn_ready (rs := [6]) (by kernel_rfl) (by simp) ?_
                  refine AllReadyIn.cons rfl (fun K hK => ?_) ?_
                  · go_simp
                    refine hK _ _ ?_
                    clear hK K
                    refine wpAnyIn_done (by kernel_rfl) ?_ _
                    exact ⟨rfl, A5, c5, g3, k3, rfl, ho5, bo5, bl5, hbel5, hko5⟩
                  exact AllReadyIn.nil
                exact AllReadyIn.nil
              exact AllReadyIn.nil
            exact AllReadyIn.nil
          exact AllReadyIn.nil
        refine AllReadyIn.cons rfl (fun K hK => ?_) ?_
        · go_simp
          refine hK _ _ ?_
          clear hK K
          refine wpAnyIn_ready (rs := [0, 3]) (by kernel_rfl) (by simp) ?_
          refine AllReadyIn.cons rfl (fun K hK => ?_) ?_
          · go_simp
            refine hK _ _ ?_
            clear hK K
            refine wpAnyIn_ready (rs := [3]) (by kernel_rfl) (by simp) ?_
            refine AllReadyIn.cons rfl (fun K hK => ?_) ?_
            · go_simp
              refine hK _ _ ?_
              clear hK K
              refine wpAnyIn_ready (rs := [4]) (by kernel_rfl) (by simp) ?_
              refine AllReadyIn.cons rfl (fun K hK => ?_) ?_
              · go_simp
                refine ⟨trivial, ?_⟩
                gi_at_call 71
                refine (CallsIn.inRound l' (callsIn_wide.2 (HE.out W.drew hbel.drew))).mono ?_
                rintro e w3 ⟨g3, k3, rfl, ho3, hb3⟩
                refine hK _ _ ?_
                clear hK K
                obtain ⟨hb3', ho3', bo3', bl3', hco3, hko3⟩ := HX.out w3 hb3
                refine wpAnyIn_ready (rs := [5]) (by kernel_rfl) (by simp) ?_
                refine AllReadyIn.cons rfl (fun K hK => ?_) ?_
                · refine stepIn_append_bytes (by rfl) (.tmp 16) (.tmp 20) (by rfl) w.heap.size A O.length c O (by rfl) (by exact ho3') _ _ _ k3 _ (by rfl) rfl (by exact ho3.bytes) (by omega) (by exact hb3'.size) ?_
                  intro A5 c5 w4 ho4 hg4 hat4
                  refine hK _ _ ?_
                  clear hK K
                  obtain ⟨ho5, bo5, bl5, hbel5, hko5, hc4, hf4⟩ := HY.out w3 w4 A5 c5 _ ho3' bo3' bl3' hb3' hko3 ho4 hg4
                  refine wpAnyIn_ready (rs := [6]) (by kernel_rfl) (by simp) ?_
                  refine AllReadyIn.cons rfl (fun K hK => ?_) ?_
                  · go_simp
                    refine hK _ _ ?_
                    clear hK K
                    refine wpAnyIn_done (by kernel_rfl) ?_ _
                    exact ⟨rfl, A5, c5, g3, k3, rfl, ho5, bo5, bl5, hbel5, hko5⟩
                  exact AllReadyIn.nil
                exact AllReadyIn.nil
              exact AllReadyIn.nil
            exact AllReadyIn.nil
          refine AllReadyIn.cons rfl (fun K hK => ?_) ?_
          · go_simp
            refine hK _ _ ?_
            clear hK K
            refine wpAnyIn_ready (rs := [0, 4]) (by kernel_rfl) (by simp) ?_
            refine AllReadyIn.cons rfl (fun K hK => ?_) ?_
            · go_simp
              refine hK _ _ ?_
              clear hK K
              refine wpAnyIn_ready (rs := [4]) (by kernel_rfl) (by simp) ?_
              refine AllReadyIn.cons rfl (fun K hK => ?_) ?_
              · go_simp
                refine ⟨trivial, ?_⟩
                gi_at_call 71
                refine (CallsIn.inRound l' (callsIn_wide.2 (HE.out W.drew hbel.drew))).mono ?_
                rintro e w3 ⟨g3, k3, rfl, ho3, hb3⟩
                refine hK _ _ ?_
                clear hK K
                obtain ⟨hb3', ho3', bo3', bl3', hco3, hko3⟩ := HX.out w3 hb3
                refine wpAnyIn_ready (rs := [5]) (by kernel_rfl) (by simp) ?_
                refine AllReadyIn.cons rfl (fun K hK => ?_) ?_
                · refine stepIn_append_bytes (by rfl) (.tmp 16) (.tmp 20) (by rfl) w.heap.size A O.length c O (by rfl) (by exact ho3') _ _ _ k3 _ (by rfl) rfl (by exact ho3.bytes) (by omega) (by exact hb3'.size) ?_
                  intro A5 c5 w4 ho4 hg4 hat4
                  refine hK _ _ ?_
                  clear hK K
                  obtain ⟨ho5, bo5, bl5, hbel5, hko5, hc4, hf4⟩ := HY.out w3 w4 A5 c5 _ ho3' bo3' bl3' hb3' hko3 ho4 hg4
                  refine wpAnyIn_ready (rs := [6]) (by kernel_rfl) (by simp) ?_
                  refine AllReadyIn.cons rfl (fun K hK => ?_) ?_
                  · go_simp
                    refine hK _ _ ?_
                    clear hK K
                    refine wpAnyIn_done (by kernel_rfl) ?_ _
                    exact ⟨rfl, A5, c5, g3, k3, rfl, ho5, bo5, bl5, hbel5, hko5⟩
                  exact AllReadyIn.nil
                exact AllReadyIn.nil
              exact AllReadyIn.nil
            refine AllReadyIn.cons rfl (fun K hK => ?_) ?_
            · go_simp
              refine ⟨trivial, ?_⟩
              gi_at_call 71
              refine (CallsIn.inRound l' (callsIn_wide.2 (HE.out W.drew hbel.drew))).mono ?_
              rintro e w3 ⟨g3, k3, rfl, ho3, hb3⟩
              refine hK _ _ ?_
              clear hK K
              obtain ⟨hb3', ho3', bo3', bl3', hco3, hko3⟩ := HX.out w3 hb3
              refine wpAnyIn_ready (rs := [0]) (by kernel_rfl) (by simp) ?_
              refine AllReadyIn.cons rfl (fun K hK => ?_) ?_
              · go_simp
                refine hK _ _ ?_
                clear hK K
                refine wpAnyIn_ready (rs := [5]) (by kernel_rfl) (by simp) ?_
                refine AllReadyIn.cons rfl (fun K hK => ?_) ?_
                · refine stepIn_append_bytes (by rfl) (.tmp 16) (.tmp 20) (by rfl) w.heap.size A O.length c O (by rfl) (by exact ho3') _ _ _ k3 _ (by rfl) rfl (by exact ho3.bytes) (by omega) (by exact hb3'.size) ?_
                  intro A5 c5 w4 ho4 hg4 hat4
                  refine hK _ _ ?_
                  clear hK K
                  obtain ⟨ho5, bo5, bl5, hbel5, hko5, hc4, hf4⟩ := HY.out w3 w4 A5 c5 _ ho3' bo3' bl3' hb3' hko3 ho4 hg4
                  refine wpAnyIn_ready (rs := [6]) (by kernel_rfl) (by simp) ?_
                  refine AllReadyIn.cons rfl (fun K hK => ?_) ?_
                  · go_simp
                    refine hK _ _ ?_
                    clear hK K
                    refine wpAnyIn_done (by kernel_rfl) ?_ _
                    exact ⟨rfl, A5, c5, g3, k3, rfl, ho5, bo5, bl5, hbel5, hko5⟩
                  exact AllReadyIn.nil
                exact AllReadyIn.nil
              exact AllReadyIn.nil
            exact AllReadyIn.nil
          exact AllReadyIn.nil
        exact AllReadyIn.nil
      exact AllReadyIn.nil
    · rintro e a' W' ⟨rfl, A5, c5, g3, k3, rfl, ho5, bo5, bl5, hbel5, hko5⟩
      have hc5 := bl5.cell
      have hf5 := bl5.frozen
      have hsl2 := run_nums_l A2' m c2' x (m - x) (by omega)
      have hmx : m - x = m - 32 := by have := Hx.out; omega
      have hnums2 := hnums.drop (k := x) (cap := c2') (by omega) (by omega)
      have bo6 := bo5.other (B' := w.heap.size) hne (.slice (cutAt A2' c2' x) (m - x) (c2' - x))
      have bl6 := bl5.set (.slice (cutAt A2' c2' x) (m - x) (c2' - x))
      have ho6 := ho5.kept (Lib.grownBy_setCell W' w.heap.size 0 (.slice (cutAt A2' c2' x) (m - x) (c2' - x))) (box_apart ho5 bl5 (by decide))
      have hbel6 := hbel5.setCell (p := ⟨w.heap.size, 0, none⟩) (Nat.le_refl _) (.slice (cutAt A2' c2' x) (m - x) (c2' - x))
      have hko6 := hko5.trans (KeepsOthers.setCell W' ⟨w.heap.size, 0, none⟩ (.slice (cutAt A2' c2' x) (m - x) (c2' - x)))
      rw [hmx] at bo6 bl6 ho6 hbel6 hko6 hsl2
      rw [← List.length_append] at bo6 ho6
      have hinv6 : PutInv w w1.heap.size w.heap.size T (m - 32) (W'.setCell ⟨w.heap.size, 0, none⟩ (.slice (cutAt A2' c2' x) (m - 32) (c2' - x))) :=
        ⟨A5, cutAt A2' c2' x, c5, c2' - x, O ++ K, rest.drop x, by rw [List.length_drop]; omega, by omega, hnums2, hT, bo6, ho6, bl6, hbel6⟩
      have Hinv := Lib.hid hinv6
      have Hko := Lib.hid hko6
      clear hinv6 hko6 bo6 bl6 ho6 hbel6 hko5 hbel5 bo5 ho5 HX HY HE
      gi_wp2
      exact ⟨Hko.out, Hinv.out⟩
theorem putList_any (A1 A2 : Option Addr) (n1 c1 n2 c2 : Nat) (b : List UInt8) (l : List UInt64) (w : World) (hl1 : b.length = n1) (hl2 : l.length = n2) (hn1 : n1 ≤ 1000000) (hn2 : n2 ≤ 1000000) (hc2 : n2 ≤ c2)
    (hb1 : Bytes w w.heap.size A1 b) (hb2 : Nums w w.heap.size A2 l) :
    Calls Try.prog 55 #[.slice A1 n1 c1, .slice A2 n2 c2] w (MadeIn w.heap.size w (b ++ Pfor.list l).length (b ++ Pfor.list l)) := by
  refine putList_wide A1 A2 n1 c1 n2 c2 b l w hl1 hl2 (by omega) hn2 hc2 ?_ hb1 hb2
  have := Pfor.list_length_le l (by omega)
  rw [List.length_append]; omega
end Go.Proofs.Ytgjopffdgdimlaa

/- The document's List and TakeList. -/
namespace Go.Proofs.Ytgjopffdgdimlaa
open Go.RowKit
set_option maxRecDepth 100000

theorem run_nums_lh (A : Option Addr) (n cap lo hi m : Nat) (h1 : hi = lo + m) (h2 : hi ≤ cap) (W : World) :
    (Instr.slice 49 (.slice A n cap) (some (.int .i64 (lo : Int))) (some (.int .i64 (hi : Int))) none).run Try.prog W = .ok (.slice (cutAt A cap lo) m (cap - lo)) W := by
  rw [run_slice_lh (P := Try.prog) (w := W) (kl := .i64) (kh := .i64) (l := (lo : Int)) (h := (hi : Int)) (h0 := by omega) (h1 := by omega) (h2 := by omega) (ht := by rw [elem23]; exact Try.underlying49)]
  rw [elem23, size64, show m = hi - lo from by omega]
  simp [Result.andThen, sliced, cutAt]

set_option maxHeartbeats 2000000 in
theorem refList_any (A : Option Addr) (n cap B : Nat) (l : List UInt64) (w : World) (hl : l.length = n) (hn : n ≤ 1000000) (hcap : n ≤ cap) (hb : Nums w B A l) (hB : B ≤ w.heap.size) :
    Calls Try.prog 58 #[.slice A n cap] w (MadeIn w.heap.size w (Pfor.list l).length (Pfor.list l)) := by
  have hb := hb.wide hB
  have H0 := Lib.hid (refBytes_any n w (by omega))
  have hs9 := Num.size_le9 (show n < 18446744073709551616 by omega)
  have hs1 := Num.size_pos n
  have hL : Num.num n ++ Pfor.blocks (l.drop 0) = Pfor.list l := by rw [Pfor.list, hl, List.drop_zero]
  have hll := Pfor.list_length_le l (by omega)
  have hnl : (Num.num n).length = Num.size n := Num.num_length _
  have Hl := Lib.hid hl
  have HL := Lib.hid hL
  have Hnl := Lib.hid hnl
  have hTl : (Pfor.list l).length ≤ 268000009 := by omega
  have hT1 : 0 < (Pfor.list l).length := by rw [← hL, List.length_append, hnl]; omega
  clear hl hL hll hnl
  generalize Pfor.list l = T at *
  generalize Num.num n = N0 at *
  generalize Num.size n = s at *
  go_enter Try.func58, Try.ntmps58
  go_wp2_with fail
  refine H0.out.mono ?_
  rintro e w1 ⟨g1, k1, rfl, ho1, hb1⟩
  clear H0
  go_wp2
  go_loopw [3, 4] (fun q i wr => ∃ (j c k : Nat) (A2 : Option Addr) (O : List UInt8), j < n + 32 ∧ i = .int .i64 j ∧ q = .slice A2 k c ∧ k ≤ T.length ∧ Own wr w.heap.size A2 k c O ∧ O ++ Pfor.blocks (l.drop j) = T ∧ Below w.heap.size w wr) (fun _ i _ => n - (intOf i).toNat)
  case atStart => exact ⟨0, k1, s, _, N0, by omega, rfl, rfl, by have h := congrArg List.length HL.out; rw [List.length_append, Hnl.out] at h; omega, ho1, HL.out, hb1⟩
  case round =>
    clear ho1 hb1
    obtain ⟨j, c, k, A2, O, hj, rfl, rfl, hk, ho, hT, hbr⟩ := hrel
    have hszr := hbr.size
    have hbx := hb.below hbr
    by_cases hlt : j < n
    · have hrl : (l.drop j).length = n - j := by rw [List.length_drop, Hl.out]
      have hne : l.drop j ≠ [] := fun h => by rw [h] at hrl; simp at hrl; omega
      obtain ⟨x, hx⟩ : ∃ x, x = min (n - j) 32 := ⟨_, rfl⟩
      have hxl : ((l.drop j).take x).length = x := by rw [List.length_take, hrl]; omega
      have htk : (l.drop j).take x = (l.drop j).take 32 := by
        rcases Nat.lt_or_ge (n - j) 32 with h | h
        · rw [List.take_of_length_le (by omega), List.take_of_length_le (by omega)]
        · rw [show x = 32 from by omega]
      have hrow := (hbx.drop (k := j) (cap := cap) (by rw [Hl.out]; omega) (by rw [Hl.out]; exact hcap)).take x
      have HB := Lib.hid (refBlock_any (cutAt A cap j) x (cap - j) w.heap.size ((l.drop j).take x) wr hxl (by omega) (by omega) hrow hszr)
      rw [Pfor.blocks_cons hne, ← htk, List.drop_drop, ← List.append_assoc] at hT
      have hOK : O.length + (Pfor.block ((l.drop j).take x)).length ≤ T.length := by rw [← hT]; simp only [List.length_append]; omega
      have hOl := ho.len
      generalize hKK : Pfor.block ((l.drop j).take x) = K at *
      clear hKK htk hxl hrow
      have hsl := run_nums_lh A n cap j (j + x) x rfl (by omega)
      rw [show ((j + x : Nat) : Int) = (j : Int) + (x : Int) from by omega] at hsl
      generalize cutAt A cap j = A3 at *
      have HT := Lib.hid hT
      clear hT hne hrl
      by_cases h32 : j + 32 < n
      · obtain rfl : x = 32 := by omega
        have h32' : (j : Int) + 32 < (n : Int) := by omega
        rw [show ((32 : Nat) : Int) = 32 from rfl] at hsl
        clear hx
        go_wp2_with fail
        refine HB.out.mono ?_
        rintro e w2 ⟨g2, k2, rfl, ho2, hb2⟩
        clear HB hsl
        have ho' := ho.below hb2
        have hb2' := hbr.trans (hb2.mono hszr)
        have hsz2 := hb2'.size
        have h2b := ho2.bytes
        go_wp2_with (at_builtin; refine wpList_append_bytes rfl (.tmp 15) (.tmp 24) rfl w.heap.size A2 k c O rfl ho' _ _ _ k2 K rfl rfl h2b (by omega) hsz2 ?_; intro A5 c5 w5 ho5 hg5 hat5)
        have hb5 := hb2'.grown hg5 hsz2 (fun k hk => (ho'.lt hk).1)
        clear hat5
        go_roundw
        case rel => exact ⟨j + 32, c5, k + K.length, A5, O ++ K, by omega, by go_num, rfl, by omega, ho5, HT.out, hb5⟩
        case measure => simp [intOf]; omega
      · have h32' : ¬ ((j : Int) + 32 < (n : Int)) := by omega
        have hjx : (j : Int) + (x : Int) = (n : Int) := by omega
        rw [hjx] at hsl
        clear hx hjx
        go_wp2_with fail
        refine HB.out.mono ?_
        rintro e w2 ⟨g2, k2, rfl, ho2, hb2⟩
        clear HB hsl
        have ho' := ho.below hb2
        have hb2' := hbr.trans (hb2.mono hszr)
        have hsz2 := hb2'.size
        have h2b := ho2.bytes
        go_wp2_with (at_builtin; refine wpList_append_bytes rfl (.tmp 15) (.tmp 24) rfl w.heap.size A2 k c O rfl ho' _ _ _ k2 K rfl rfl h2b (by omega) hsz2 ?_; intro A5 c5 w5 ho5 hg5 hat5)
        have hb5 := hb2'.grown hg5 hsz2 (fun k hk => (ho'.lt hk).1)
        clear hat5
        go_roundw
        case rel => exact ⟨j + 32, c5, k + K.length, A5, O ++ K, by omega, by go_num, rfl, by omega, ho5, HT.out, hb5⟩
        case measure => simp [intOf]; omega
    · rw [List.drop_of_length_le (by rw [Hl.out]; omega), Pfor.blocks_nil, List.append_nil] at hT
      go_wp2
      go_ret
      subst hT
      have hlen := ho.len
      obtain ⟨g9, rfl, _⟩ := ho.at_ (by omega)
      rw [hlen]
      exact ⟨g9, c, rfl, ho, hbr⟩

set_option maxHeartbeats 2000000 in
theorem refTakeList_any (A : Option Addr) (n cap B : Nat) (b : List UInt8) (z : Int) (w : World) (hl : b.length = n) (hcap : n ≤ cap) (hm : n ≤ 10000) (hb : Bytes w B A b) (hB : B ≤ w.heap.size) (hz1 : z ≤ 9223372036854775807) :
    Calls Try.prog 65 #[.slice A n cap, .int .i64 z] w (TakesPost w (Pfor.takeList b z)) := by
  have hb := hb.wide hB
  unfold Pfor.takeList
  by_cases hz : z < 0
  · rw [if_pos hz]
    go_enter Try.func65, Try.ntmps65
    go_wp2
    go_ret3
    exact ⟨none, 0, rfl, nown_none _ _, Below.refl _ _⟩
  rw [if_neg hz]
  have HT := refTake_any A n cap w.heap.size b w hl (by omega) hb
  unfold RefTakePost at HT
  rcases Num.take_cases b with ⟨v, s, ht⟩ | ⟨e, ht, he⟩
  · obtain ⟨hq1, hq2, hsl, hv⟩ := Num.num_take ht
    clear hq1 hq2
    rw [hl] at hsl
    simp only [ht, ne_eq, not_true, if_false] at HT ⊢
    obtain ⟨V, hV, hV0, hV1⟩ : ∃ V : Int, V = (v : Int) ∧ 0 ≤ V ∧ V ≤ 18446744073709551615 := ⟨_, rfl, by omega, by omega⟩
    rw [← hV] at HT
    replace HT := Lib.hid HT
    by_cases hzv : z < V
    · rw [if_pos (by rw [← hV]; exact hzv)]
      clear hV ht
      go_enter Try.func65, Try.ntmps65
      go_wp2_with fail
      refine HT.out.mono ?_
      rintro e w1 ⟨rfl, hb1⟩
      clear HT
      go_wp2
      go_ret3
      exact ⟨none, 0, rfl, nown_none _ _, hb1⟩
    · rw [if_neg (by rw [← hV]; exact hzv)]
      obtain ⟨R, hR⟩ : ∃ R, Pfor.takeBlocks b v [] s = R := ⟨_, rfl⟩
      rw [hR]
      have HR := Lib.hid hR
      have HV := Lib.hid hV
      clear hV ht hR
      go_enter Try.func65, Try.ntmps65
      go_wp2_with fail
      refine HT.out.mono ?_
      rintro e w1 ⟨rfl, hb1⟩
      clear HT
      go_wp2
      go_loopw [8, 10] (fun q p wr => ∃ (at_ m k c : Nat) (A2 : Option Addr) (acc : List UInt64), q = .int .i64 at_ ∧ p = .slice A2 k c ∧ NOwn wr w.heap.size A2 k c acc ∧ at_ ≤ n ∧ k + m = v ∧ k ≤ 32 * at_ ∧ Pfor.takeBlocks b m acc at_ = R ∧ Below w.heap.size w wr) (fun _ p _ => v - (match p with | .slice _ k _ => k | _ => 0))
      case atStart => exact ⟨s, v, 0, 0, none, [], rfl, rfl, nown_none _ _, hsl, by omega, by omega, HR.out, hb1⟩
      case round =>
        clear hb1 HR
        obtain ⟨at_, m, k, c, A2, acc, rfl, rfl, ho, hat, hkm, hk32, hRm, hbr⟩ := hrel
        have hszr := hbr.size
        have hVv := HV.out
        by_cases hm0 : m = 0
        · subst hm0
          rw [Pfor.takeBlocks_zero] at hRm
          have hstop : ¬ ((k : Int) < V) := by omega
          clear hVv
          go_wp2
          go_ret3
          subst hRm
          have hlen := ho.len
          exact ⟨A2, c, by simp only [hlen]; rfl, by simp only [hlen]; exact ho, hbr⟩
        · have hgo : (k : Int) < V := by omega
          obtain ⟨x, hx⟩ : ∃ x, x = min m 32 := ⟨_, rfl⟩
          rw [Pfor.takeBlocks_pos b (by omega), ← hx] at hRm
          have hHT := refTakeBlock_any (cutAt A cap at_) (n - at_) (cap - at_) w.heap.size (b.drop at_) wr (by rw [List.length_drop, hl]) (by omega) (by omega) ((hb.below hbr).cut (k := at_) (cap := cap) (by omega) (by omega)) hszr
          unfold TakesPost at hHT
          have hslc := run_cut_from A n cap at_ (n - at_) (by omega)
          generalize cutAt A cap at_ = A1 at *
          rcases Pfor.takeBlock_cases (b.drop at_) with ⟨L, hg, hpre, ht⟩ | ht
          · rw [ht] at hHT hRm
            have hk := hpre.length_le
            rw [List.length_drop, hl] at hk
            have hk4 := Pfor.block_pos L
            have hL1 := hg.1
            have hL32 := hg.2
            simp only at hHT hRm
            obtain ⟨kk, hkk⟩ : ∃ kk, kk = (Pfor.block L).length := ⟨_, rfl⟩
            rw [← hkk] at hHT hRm hk hk4
            clear hkk hpre ht hg
            have hmin : (if V - (k : Int) < 32 then V - (k : Int) else 32) = (x : Int) := by split <;> omega
            by_cases hlx : L.length = x
            · rw [if_pos ⟨trivial, hlx⟩] at hRm
              rw [hlx] at hHT
              have HH := Lib.hid hHT
              have HRm := Lib.hid hRm
              have hx32 : x ≤ 32 := by omega
              have hx1 : 1 ≤ x := by omega
              have Hx := Lib.hid hx
              clear hHT hRm hx hVv
              go_wp2_with fail
              refine HH.out.mono ?_
              rintro e w3 ⟨A3, c3, rfl, ho3, hb3⟩
              clear HH
              have ho' := ho.below hb3
              have hb3' := hbr.trans (hb3.mono hszr)
              have hsz3 := hb3'.size
              have h3r := ho3.row
              clear ho ho3
              go_wp2_with (at_builtin; refine wpList_append_row elem64 rfl (.tmp 55) (.tmp 56) rfl w.heap.size A2 k c acc rfl ho' _ A3 x c3 L rfl hlx h3r (by omega) (by simp only [maxLen]; omega) hsz3 ?_; intro A5 c5 w5 ho5 hg5 hat5)
              have hb5 := hb3'.grown hg5 hsz3 (fun k hk => (ho'.lt hk).1)
              have hVv := HV.out
              have hxx := Hx.out
              go_roundw
              case rel => exact ⟨at_ + kk, m - 32, k + x, c5, A5, acc ++ L, by go_num, rfl, ho5, by omega, by omega, by omega, HRm.out, hb5⟩
              case measure => simp only; omega
            · rw [if_neg (fun h => hlx h.2)] at hRm
              have HH := Lib.hid hHT
              have HRm := Lib.hid hRm
              have hI : ¬ ((L.length : Int) = (x : Int)) := by omega
              have Hx := Lib.hid hx
              clear hHT hRm hx hVv
              go_wp2_with fail
              refine HH.out.mono ?_
              rintro e w3 ⟨A3, c3, rfl, ho3, hb3⟩
              clear HH
              go_wp2
              go_ret3
              rw [← HRm.out]
              exact ⟨none, 0, rfl, nown_none _ _, hbr.trans (hb3.mono hszr)⟩
          · rw [ht] at hHT hRm
            simp only [List.length_nil] at hHT
            rw [if_neg (fun h => by have := h.1; cases this)] at hRm
            have HH := Lib.hid hHT
            have HRm := Lib.hid hRm
            have Hx := Lib.hid hx
            clear hHT hRm hx hVv
            go_wp2_with fail
            refine HH.out.mono ?_
            rintro e w3 ⟨A3, c3, rfl, ho3, hb3⟩
            clear HH
            go_wp2
            go_ret3
            rw [← HRm.out]
            exact ⟨none, 0, rfl, nown_none _ _, hbr.trans (hb3.mono hszr)⟩
  · have he' : ¬ ((e : Int) = 0) := by omega
    simp only [ht] at HT ⊢
    rw [if_pos (by omega)]
    replace HT := Lib.hid HT
    clear ht he
    go_enter Try.func65, Try.ntmps65
    go_wp2_with fail
    refine HT.out.mono ?_
    rintro e' w1 ⟨rfl, hb1⟩
    clear HT
    go_wp2
    go_ret3
    exact ⟨none, 0, rfl, nown_none _ _, hb1⟩
end Go.Proofs.Ytgjopffdgdimlaa

/- pfor.TakeList. -/
namespace Go.Proofs.Ytgjopffdgdimlaa
open Go.RowKit Go.Shelf
set_option maxRecDepth 100000
attribute [local go_sem] Oper.semAt_some

theorem wpListIn_append_nums {F : Fence} {k : Nat} {w : World} {ops : Array Oper} {rest : List Oper} {o : Oper} {a : Act} {Q : Exit → Act → World → Prop} (hgd : o.guard = none) (s x : Operand)
    (ho : o.op = .call { callee := .builtin .append, args := #[s, x], argTypes := #[49, 49] })
    (base : Nat) (A : Option Addr) (n c : Nat) (l : List UInt64) (hs : a.eval s = .slice A n c) (hown : NOwn w base A n c l)
    (B : Nat) (A2 : Option Addr) (m c2 : Nat) (l2 : List UInt64) (hx : a.eval x = .slice A2 m c2) (hl2 : l2.length = m) (hb : Nums w B A2 l2) (hbytes : (n + m) * 8 ≤ 140737488355328) (hm : n + m ≤ maxLen) (hbase : base ≤ w.heap.size)
    (h : ∀ A' c' w', NOwn w' base A' (n + m) c' (l ++ l2) → w.grownBy w' (blk A) → (blk A' = blk A ∨ blk A' = some w.heap.size) → wpListIn F k Try.prog ops Q rest (a.put o.dst (.slice A' (n + m) c')) w') :
    wpListIn F k Try.prog ops Q (o :: rest) a w := by
  obtain ⟨A', c', w', hrun, h2, h3, h4⟩ := run_append_row elem64 w base o.type A n c l hown B A2 m c2 l2 hl2 hb hbytes hm hbase
  refine wpListIn_plain hgd fun K hK' => ?_
  unfold Oper.wpIn
  refine ⟨by simp [Oper.about, ho, resolve, Target.leads, Sem.run_pure], ?_⟩
  rw [Oper.semAt_plain F _ _ (by rw [ho]; intro c hc; cases hc)]
  simp only [execOp, ho, resolve, invoke, builtin, Sem.run_bind, Sem.run_pure, Result.andThen_ok, List.map_toArray, List.map_cons, List.map_nil, hs, hx, hrun]
  exact hK' _ _ (h A' c' w' h2 h3 h4)

theorem nown_cells {w : World} {base n c k : Nat} {A : Option Addr} {l : List UInt64} {o : Obj} (h : NOwn w base A n c l) (hk : blk A = some k) (ho : w.heap[k]? = some o) : o.isCells = true := by
  rcases h.2 with ⟨hv, _⟩ | ⟨g, cap, cur, hv, _, hg, _⟩
  · injection hv with h1; subst h1; cases hk
  · injection hv with h1
    subst h1
    have e' : g = k := by simpa [blk] using hk
    subst e'
    rw [hg] at ho
    cases ho
    rfl
theorem box_nums {w : World} {base B n c : Nat} {t : TypeId} {v : Value} {A : Option Addr} {l : List UInt64} (h : NOwn w base A n c l) (hb : Boxed w B t v) (ht : t ≠ 54) : some B ≠ blk A := by
  have := hb.not_row ht h
  rwa [ownBlock_eq] at this
theorem nums_box {w : World} {base B n c : Nat} {t : TypeId} {v : Value} {A : Option Addr} {l : List UInt64} (h : NOwn w base A n c l) (hb : Boxed w B t v) (ht : t ≠ 54) : blk A = none ∨ blk A ≠ some B := .inr fun e => box_nums h hb ht e.symm

/-- the boxes of TakeList: the bytes, the three results, where one stands, the numbers -/
def TakeBoxes (w : World) (vb v4 v5 v6 vs vl : Value) (W : World) : Prop :=
  Boxed W (w.heap.size) 22 vb ∧ Boxed W (w.heap.size + 1) 49 v4 ∧ Boxed W (w.heap.size + 1 + 1) 3 v5 ∧ Boxed W (w.heap.size + 1 + 1 + 1) 27 v6 ∧ Boxed W (w.heap.size + 1 + 1 + 1 + 1) 3 vs ∧ Boxed W (w.heap.size + 1 + 1 + 1 + 1 + 1) 49 vl
theorem TakeBoxes.kept {w W W' : World} {vb v4 v5 v6 vs vl : Value} {row : Option Nat} (h : TakeBoxes w vb v4 v5 v6 vs vl W) (hg : W.grownBy W' row) (hr : ∀ B, (∃ t v, Boxed W B t v ∧ t ≠ 54) → some B ≠ row) : TakeBoxes w vb v4 v5 v6 vs vl W' := by
  obtain ⟨h1, h2, h3, h4, h5, h6⟩ := h
  exact ⟨h1.kept hg (hr _ ⟨_, _, h1, by decide⟩), h2.kept hg (hr _ ⟨_, _, h2, by decide⟩), h3.kept hg (hr _ ⟨_, _, h3, by decide⟩), h4.kept hg (hr _ ⟨_, _, h4, by decide⟩), h5.kept hg (hr _ ⟨_, _, h5, by decide⟩), h6.kept hg (hr _ ⟨_, _, h6, by decide⟩)⟩
theorem TakeBoxes.below {w W W' : World} {vb v4 v5 v6 vs vl : Value} (h : TakeBoxes w vb v4 v5 v6 vs vl W) (hb : Below W.heap.size W W') : TakeBoxes w vb v4 v5 v6 vs vl W' :=
  h.kept (row := none) ⟨hb.os, hb.tape, hb.output, hb.size, fun k hk _ => hb.block k hk⟩ (by simp)
/-- between two rounds of TakeList: m numbers are left -/
def TakeInv (w : World) (A : Option Addr) (n cap : Nat) (b : List UInt8) (v : Nat) (R : List UInt64 × Nat × Nat) (m : Nat) (W : World) : Prop :=
  ∃ (A2 : Option Addr) (c at_ : Nat) (acc : List UInt64), TakeBoxes w (.slice A n cap) (.slice none 0 0) (.int .i64 0) (.int .i64 0) (.int .i64 (at_ : Int)) (.slice A2 acc.length c) W ∧ NOwn W w.heap.size A2 acc.length c acc ∧
    at_ ≤ n ∧ acc.length + m = v ∧ acc.length ≤ 32 * at_ ∧ Pfor.takeBlocks b m acc at_ = R ∧ Below w.heap.size w W
/-- a round of TakeList has returned -/
def TakeOut (w : World) (A : Option Addr) (n cap : Nat) (R : List UInt64 × Nat × Nat) (W : World) : Prop :=
  ∃ vs vl, TakeBoxes w (.slice A n cap) (.slice none 0 0) (.int .i64 0) (.int .i64 2) vs vl W ∧ R = ([], 0, 2) ∧ Below w.heap.size w W
theorem not_cells_box {W : World} {row : Option Nat} {B0 : Nat} (hr : ∀ r, row = some r → B0 ≤ r ∧ ∃ o : Obj, W.heap[r]? = some o ∧ o.isCells = false) : ∀ B, (∃ t v, Boxed W B t v ∧ t ≠ 54) → some B ≠ row := by
  rintro B ⟨t, v, hb, _⟩ e
  obtain ⟨_, o, ho, hc⟩ := hr B e.symm
  have hb' : W.heap[B]? = some (.cells #[v] t (0, 0)) := hb
  rw [hb'] at ho
  cases ho
  cases hc
theorem takeInv_own (w : World) (A : Option Addr) (n cap : Nat) (b : List UInt8) (v : Nat) (R : List UInt64 × Nat × Nat) (B : Nat) (hB : w.heap.size ≤ B) : OwnFrom B (TakeInv w A n cap b v R) := by
  rintro m W W' row ⟨A2, c, at_, acc, h1, h2, h3, h4, h5, h6, h7⟩ hg hr
  refine ⟨A2, c, at_, acc, h1.kept hg (not_cells_box hr), h2.kept hg ?_, h3, h4, h5, h6, h7.grown hg h7.size (fun k e => Nat.le_trans hB (hr k e).1)⟩
  cases row with
  | none => cases hA : blk A2 <;> simp
  | some r =>
    refine .inr fun e => ?_
    obtain ⟨_, o, ho, hc⟩ := hr r rfl
    rw [nown_cells h2 e ho] at hc
    cases hc
theorem takeOut_own (w : World) (A : Option Addr) (n cap : Nat) (R : List UInt64 × Nat × Nat) (B : Nat) (hB : w.heap.size ≤ B) : OwnFrom B (fun (_ : Unit) => TakeOut w A n cap R) := by
  rintro _ W W' row ⟨vs, vl, h1, h2, h3⟩ hg hr
  exact ⟨vs, vl, h1.kept hg (not_cells_box hr), h2, h3.grown hg h3.size (fun k e => Nat.le_trans hB (hr k e).1)⟩

theorem TakeBoxes.set3 {w W : World} {vb v4 v5 v6 vs vl : Value} (h : TakeBoxes w vb v4 v5 v6 vs vl W) (a b c : Value) :
    TakeBoxes w vb a b c vs vl (((W.setCell ⟨w.heap.size + 1, 0, none⟩ a).setCell ⟨w.heap.size + 1 + 1, 0, none⟩ b).setCell ⟨w.heap.size + 1 + 1 + 1, 0, none⟩ c) := by
  obtain ⟨h1, h2, h3, h4, h5, h6⟩ := h
  exact ⟨((h1.other (by omega) _).other (by omega) _).other (by omega) _, ((h2.set _).other (by omega) _).other (by omega) _, ((h3.other (by omega) _).set _).other (by omega) _, ((h4.other (by omega) _).other (by omega) _).set _,
    ((h5.other (by omega) _).other (by omega) _).other (by omega) _, ((h6.other (by omega) _).other (by omega) _).other (by omega) _⟩
theorem TakeBoxes.setL {w W : World} {vb v4 v5 v6 vs vl : Value} (h : TakeBoxes w vb v4 v5 v6 vs vl W) (a b : Value) :
    TakeBoxes w vb v4 v5 v6 b a ((W.setCell ⟨w.heap.size + 1 + 1 + 1 + 1 + 1, 0, none⟩ a).setCell ⟨w.heap.size + 1 + 1 + 1 + 1, 0, none⟩ b) := by
  obtain ⟨h1, h2, h3, h4, h5, h6⟩ := h
  exact ⟨(h1.other (by omega) _).other (by omega) _, (h2.other (by omega) _).other (by omega) _, (h3.other (by omega) _).other (by omega) _, (h4.other (by omega) _).other (by omega) _, (h5.other (by omega) _).set _, (h6.set _).other (by omega) _⟩
theorem NOwn.set {W : World} {base B n c i : Nat} {t : TypeId} {v : Value} {A : Option Addr} {l : List UInt64} (h : NOwn W base A n c l) (hb : Boxed W B t v) (ht : t ≠ 54) (u : Value) : NOwn (W.setCell ⟨B, i, none⟩ u) base A n c l :=
  h.kept (Lib.grownBy_setCell W B i u) (nums_box h hb ht)

set_option maxHeartbeats 4000000 in
set_option maxRecDepth 100000 in
theorem takeList_any (A : Option Addr) (n cap : Nat) (b : List UInt8) (z : Int) (w : World) (hl : b.length = n) (hcap : n ≤ cap) (hm : n ≤ 281474976710656) (hb : Bytes w w.heap.size A b)
    (hz0 : -9223372036854775808 ≤ z) (hz1 : z ≤ 9223372036854775807) (hbig : z ≤ 1000000 ∨ n ≤ 10000) :
    Calls Try.prog 63 #[.slice A n cap, .int .i64 z] w (TakesPost w (Pfor.takeList b z)) := by
  refine (callsIn_wide (n := 3)).1 ?_
  refine callsIn_of_wp_marks Try.func63 rfl trivial ?_ rfl
  simp only [Try.ntmps63, List.size_toArray, List.length_cons, List.length_nil, Nat.reduceAdd, Nat.reduceSub, Array.replicate_succ, Array.replicate_zero, List.push_toArray, List.append_toArray, List.nil_append, List.cons_append]
  unfold Pfor.takeList
  by_cases hz : z < 0
  · rw [if_pos hz]
    gi_wp2
    refine ⟨.tuple #[.slice none 0 0, .int .i64 0, .int .i64 1], ?_, none, 0, rfl, nown_none _ _, (((((Below.refl _ w).alloc (Nat.le_refl _) _).alloc (by simp) _).alloc (by simp; omega) _).alloc (by simp; omega) _)⟩
    simp [results, Try.f63, go_sem]
  · rw [if_neg hz]
    have HT := fun (W' : World) (hB : Below w.heap.size w W') => take_any A n cap w.heap.size b W' hl hcap (by omega) (hb.below hB)
    unfold TakePost at HT
    have hbel4 : Below w.heap.size w ((((w.alloc (.cells #[.slice A n cap] 22)).alloc (.cells #[.slice none 0 0] 49)).alloc (.cells #[.int .i64 0] 3)).alloc (.cells #[.int .i64 0] 27)) := ((((Below.refl _ w).alloc (Nat.le_refl _) _).alloc (by simp) _).alloc (by simp; omega) _).alloc (by simp; omega) _
    rcases Num.take_cases b with ⟨v, s, ht⟩ | ⟨e, ht, he⟩
    · obtain ⟨hq1, hq2, hsl, hv⟩ := Num.num_take ht
      clear hq1 hq2
      rw [hl] at hsl
      simp only [ht, ne_eq, not_true, if_false] at HT ⊢
      obtain ⟨V, hV, hV0, hV1⟩ : ∃ V : Int, V = (v : Int) ∧ 0 ≤ V ∧ V ≤ 18446744073709551615 := ⟨_, rfl, by omega, by omega⟩
      rw [← hV] at HT
      have HT4 := Lib.hid (HT _ hbel4)
      clear HT
      by_cases hzv : z < V
      · rw [if_pos (by rw [← hV]; exact hzv)]
        clear hV ht
        gi_wp2_with (refine ⟨trivial, ?_⟩; gi_at_call 60; refine (callsIn_wide.2 HT4.out).mono ?_; rintro e w1 ⟨rfl, rfl⟩)
        refine ⟨.tuple #[.slice none 0 0, .int .i64 0, .int .i64 5], ?_, none, 0, rfl, nown_none _ _, ((((((Below.refl _ w).alloc (Nat.le_refl _) _).alloc (by simp) _).alloc (by simp; omega) _).alloc (by simp; omega) _).alloc (by simp; omega) _)⟩
        simp [results, Try.f63, go_sem]
      · rw [if_neg (by rw [← hV]; exact hzv)]
        have hsz : s ≤ 9 := by
          have h1 := (Num.num_take ht).2.1
          have h2 := Num.size_le9 hv
          omega
        have hs1 : 1 ≤ s := by
          have h1 := (Num.num_take ht).2.1
          have h2 := Num.size_pos v
          omega
        have HB := blockLengths_any v ((((((w.alloc (.cells #[.slice A n cap] 22)).alloc (.cells #[.slice none 0 0] 49)).alloc (.cells #[.int .i64 0] 3)).alloc (.cells #[.int .i64 0] 27)).alloc (.cells #[.int .i64 (s : Int)] 3)).alloc (.cells #[.slice none 0 0] 49))
        rw [← hV] at HB
        have hb7 : Below w.heap.size w (((((((w.alloc (.cells #[.slice A n cap] 22)).alloc (.cells #[.slice none 0 0] 49)).alloc (.cells #[.int .i64 0] 3)).alloc (.cells #[.int .i64 0] 27)).alloc (.cells #[.int .i64 (s : Int)] 3)).alloc (.cells #[.slice none 0 0] 49)).alloc (.cells #[.int .i64 V] 3)) := (((((((Below.refl _ w).alloc (Nat.le_refl _) _).alloc (by simp) _).alloc (by simp; omega) _).alloc (by simp; omega) _).alloc (by simp; omega) _).alloc (by simp; omega) _).alloc (by simp; omega) _
        have hboxes : TakeBoxes w (.slice A n cap) (.slice none 0 0) (.int .i64 0) (.int .i64 0) (.int .i64 (s : Int)) (.slice none 0 0) (((((((w.alloc (.cells #[.slice A n cap] 22)).alloc (.cells #[.slice none 0 0] 49)).alloc (.cells #[.int .i64 0] 3)).alloc (.cells #[.int .i64 0] 27)).alloc (.cells #[.int .i64 (s : Int)] 3)).alloc (.cells #[.slice none 0 0] 49)).alloc (.cells #[.int .i64 V] 3)) := by
          have e0 := Boxed.new w 22 (.slice A n cap)
          have e1 := Boxed.new (w.alloc (.cells #[.slice A n cap] 22)) 49 (.slice none 0 0)
          have e2 := Boxed.new ((w.alloc (.cells #[.slice A n cap] 22)).alloc (.cells #[.slice none 0 0] 49)) 3 (.int .i64 0)
          have e3 := Boxed.new (((w.alloc (.cells #[.slice A n cap] 22)).alloc (.cells #[.slice none 0 0] 49)).alloc (.cells #[.int .i64 0] 3)) 27 (.int .i64 0)
          have e4 := Boxed.new ((((w.alloc (.cells #[.slice A n cap] 22)).alloc (.cells #[.slice none 0 0] 49)).alloc (.cells #[.int .i64 0] 3)).alloc (.cells #[.int .i64 0] 27)) 3 (.int .i64 (s : Int))
          have e5 := Boxed.new (((((w.alloc (.cells #[.slice A n cap] 22)).alloc (.cells #[.slice none 0 0] 49)).alloc (.cells #[.int .i64 0] 3)).alloc (.cells #[.int .i64 0] 27)).alloc (.cells #[.int .i64 (s : Int)] 3)) 49 (.slice none 0 0)
          simp only [World.size_alloc] at e1 e2 e3 e4 e5
          exact ⟨(((((e0.alloc _).alloc _).alloc _).alloc _).alloc _).alloc _, ((((e1.alloc _).alloc _).alloc _).alloc _).alloc _, (((e2.alloc _).alloc _).alloc _).alloc _, ((e3.alloc _).alloc _).alloc _, (e4.alloc _).alloc _, e5.alloc _⟩
        have hcn : (((((((w.alloc (.cells #[.slice A n cap] 22)).alloc (.cells #[.slice none 0 0] 49)).alloc (.cells #[.int .i64 0] 3)).alloc (.cells #[.int .i64 0] 27)).alloc (.cells #[.int .i64 (s : Int)] 3)).alloc (.cells #[.slice none 0 0] 49)).alloc (.cells #[.int .i64 V] 3)).cell? ⟨w.heap.size + 1 + 1 + 1 + 1 + 1 + 1, 0, none⟩ = some (.int .i64 V) := by rw [World.cell?_alloc_at _ _ _ _ (by simp)]; rfl
        have hsz7 : (((((((w.alloc (.cells #[.slice A n cap] 22)).alloc (.cells #[.slice none 0 0] 49)).alloc (.cells #[.int .i64 0] 3)).alloc (.cells #[.int .i64 0] 27)).alloc (.cells #[.int .i64 (s : Int)] 3)).alloc (.cells #[.slice none 0 0] 49)).alloc (.cells #[.int .i64 V] 3)).heap.size = w.heap.size + 1 + 1 + 1 + 1 + 1 + 1 + 1 := by simp
        obtain ⟨R, hR⟩ : ∃ R, Pfor.takeBlocks b v [] s = R := ⟨_, rfl⟩
        rw [hR]
        have hinv : TakeInv w A n cap b v R v (((((((w.alloc (.cells #[.slice A n cap] 22)).alloc (.cells #[.slice none 0 0] 49)).alloc (.cells #[.int .i64 0] 3)).alloc (.cells #[.int .i64 0] 27)).alloc (.cells #[.int .i64 (s : Int)] 3)).alloc (.cells #[.slice none 0 0] 49)).alloc (.cells #[.int .i64 V] 3)) := ⟨none, 0, s, [], hboxes, nown_none _ _, hsl, by simp, by simp, hR, hb7⟩
        have HV := Lib.hid hV
        have HBB := Lib.hid HB
        have HRR := Lib.hid hR
        have hvz : v ≤ 9223372036854775807 := by omega
        have hbig2 : ∀ k at_ m : Nat, k ≤ 32 * at_ → at_ ≤ n → k + m = v → k ≤ 1000000 := fun k at_ m h1 h2 h3 => by omega
        have Hbig := Lib.hid hbig2
        clear hV ht HB hR hbig2 hboxes
        gi_wp2_with (first | (refine ⟨trivial, ?_⟩; gi_at_call 60; refine (callsIn_wide.2 HT4.out).mono ?_; rintro e w1 ⟨rfl, rfl⟩) | (refine ⟨trivial, ?_⟩; gi_at_call 70; refine (callsIn_wide.2 HBB.out).mono ?_; rintro e w2 ⟨rfl, rfl⟩))
        generalize (((((((w.alloc (.cells #[.slice A n cap] 22)).alloc (.cells #[.slice none 0 0] 49)).alloc (.cells #[.int .i64 0] 3)).alloc (.cells #[.int .i64 0] 27)).alloc (.cells #[.int .i64 (s : Int)] 3)).alloc (.cells #[.slice none 0 0] 49)).alloc (.cells #[.int .i64 V] 3)) = W0 at *
        have hcn' := hcn
        rw [HV.out] at hcn'
        refine wpIn_lens (gf := 80) (lb := #[.pointer (some ⟨w.heap.size + 1 + 1 + 1 + 1 + 1 + 1, 0, none⟩)]) (n0 := v) rfl (enters_of Try.func80 (by kernel_rfl) rfl)
          (lens_of 2 (w.heap.size + 1 + 1 + 1 + 1 + 1 + 1) v W0 hvz (by omega) hcn') rfl (TakeInv w A n cap b v R) (TakeOut w A n cap R) (takeInv_own _ _ _ _ _ _ _ _ hb7.size) (takeOut_own _ _ _ _ _ _ hb7.size) hinv
          (fun m => { tmps := #[.slice A n cap, .int .i64 z, .pointer (some ⟨w.heap.size, 0, none⟩), undef, .pointer (some ⟨w.heap.size + 1, 0, none⟩), .pointer (some ⟨w.heap.size + 1 + 1, 0, none⟩), .pointer (some ⟨w.heap.size + 1 + 1 + 1, 0, none⟩), .int .u64 V, .pointer (some ⟨w.heap.size + 1 + 1 + 1 + 1, 0, none⟩), .int .i64 0, .pointer (some ⟨w.heap.size + 1 + 1 + 1 + 1 + 1, 0, none⟩), .int .i64 ((min m 32 : Nat) : Int), undef, undef, undef, .int .i64 z, .bool false, (.tuple #[.int .u64 V, .int .i64 (s : Int), .int .i64 0]), .slice A n cap, (.tuple #[.int .u64 V, .int .i64 (s : Int), .int .i64 0]), .int .u64 V, .int .i64 (s : Int), .int .i64 0, .int .i64 0, .bool false, .int .u64 V, .int .i64 z, .int .u64 z, .bool (decide (z < V)), .int .u64 V, .int .i64 V, .func (.func 80) #[] #[.pointer (some ⟨w.heap.size + 1 + 1 + 1 + 1 + 1 + 1, 0, none⟩)], .int .i64 ((min m 32 : Nat) : Int), undef, undef, undef, undef, undef, undef, undef, undef, undef, undef, undef, undef, undef, undef, undef, undef, undef, undef, undef, undef, undef, undef, undef, undef], defers := [] }) ?assign ?body ?done ?stop
        case assign =>
          intro l' m W K hK
          gi_wp2
          exact hK
        case stop =>
          rintro D W hD ⟨vs, vl, hbx, rfl, hbel⟩ hK
          gi_wp2
          refine ⟨by simp, .inl ⟨_, _, rfl, run_takeDeferred hK, ?_⟩⟩
          have hg := grownBy_putObj' W D (.deferred none)
          have hbx' := hbx.kept hg (not_cells_box (B0 := 0) (fun r e => by cases e; exact ⟨Nat.zero_le _, _, hK, rfl⟩))
          have c4 := hbx'.2.1.cell
          have c5 := hbx'.2.2.1.cell
          have c6 := hbx'.2.2.2.1.cell
          refine ⟨.tuple #[.slice none 0 0, .int .i64 0, .int .i64 2], ?_, none, 0, rfl, nown_none _ _, hbel.grown hg hbel.size (fun k e => by cases e; have := hb7.size; omega)⟩
          simp [results, Try.f63, go_sem, c4, c5, c6]
        case done =>
          rintro D W hD ⟨A2, c, at_, acc, hbx, hown, hat, hav, ha32, hRm, hbel⟩ hK
          rw [Pfor.takeBlocks_zero] at hRm
          subst hRm
          have d4 := hbx.2.1.cell
          have d5 := hbx.2.2.1.cell
          have d6 := hbx.2.2.2.1.cell
          have ds := hbx.2.2.2.2.1.cell
          have dl := hbx.2.2.2.2.2.cell
          have f4 := hbx.2.1.frozen
          have f5 := hbx.2.2.1.frozen
          have f6 := hbx.2.2.2.1.frozen
          gi_wp2
          refine wpIn_wide.2 ?_
          go_region
          have hbx3 := hbx.set3 (.slice A2 acc.length c) (.int .i64 (at_ : Int)) (.int .i64 0)
          have ho1 := hown.set (i := 0) hbx.2.1 (by decide) (.slice A2 acc.length c)
          have ho2 := ho1.set (i := 0) (hbx.2.2.1.other (B' := w.heap.size + 1) (by omega) (.slice A2 acc.length c)) (by decide) (.int .i64 (at_ : Int))
          have ho3 := ho2.set (i := 0) ((hbx.2.2.2.1.other (B' := w.heap.size + 1) (by omega) (.slice A2 acc.length c)).other (B' := w.heap.size + 1 + 1) (by omega) (.int .i64 (at_ : Int))) (by decide) (.int .i64 0)
          have hb3 := ((hbel.setCell (p := ⟨w.heap.size + 1, 0, none⟩) (show w.heap.size ≤ w.heap.size + 1 by omega) (.slice A2 acc.length c)).setCell (p := ⟨w.heap.size + 1 + 1, 0, none⟩) (show w.heap.size ≤ w.heap.size + 1 + 1 by omega) (.int .i64 (at_ : Int))).setCell (p := ⟨w.heap.size + 1 + 1 + 1, 0, none⟩) (show w.heap.size ≤ w.heap.size + 1 + 1 + 1 by omega) (.int .i64 0)
          have hK3 := (((KeepsOthers.setCell W ⟨w.heap.size + 1, 0, none⟩ (.slice A2 acc.length c)).trans (KeepsOthers.setCell _ ⟨w.heap.size + 1 + 1, 0, none⟩ (.int .i64 (at_ : Int)))).trans (KeepsOthers.setCell _ ⟨w.heap.size + 1 + 1 + 1, 0, none⟩ (.int .i64 0))).same D _ hK rfl
          generalize ((W.setCell ⟨w.heap.size + 1, 0, none⟩ (.slice A2 acc.length c)).setCell ⟨w.heap.size + 1 + 1, 0, none⟩ (.int .i64 (at_ : Int))).setCell ⟨w.heap.size + 1 + 1 + 1, 0, none⟩ (.int .i64 0) = W3 at *
          have hKd : W3.drew.heap[D]? = some (.deferred (some [])) := hK3
          gi_wp2
          refine ⟨by simp, .inl ⟨_, _, rfl, run_takeDeferred hKd, ?_⟩⟩
          have hg := grownBy_putObj' W3.drew D (.deferred none)
          have hbx' := TakeBoxes.kept (W := W3.drew) (by exact hbx3) hg (not_cells_box (B0 := 0) (fun r e => by cases e; exact ⟨Nat.zero_le _, _, hKd, rfl⟩))
          have ho' := ROwn.kept (w := W3.drew) (by exact ho3) hg (by
            cases hA : blk A2 with
            | none => exact .inl rfl
            | some q =>
              refine .inr fun e => ?_
              cases e
              have := nown_cells ho3 hA hK3
              cases this)
          have c4 := hbx'.2.1.cell
          have c5 := hbx'.2.2.1.cell
          have c6 := hbx'.2.2.2.1.cell
          refine ⟨.tuple #[.slice A2 acc.length c, .int .i64 (at_ : Int), .int .i64 0], ?_, A2, c, rfl, ho', hb3.drew.grown hg (by exact hb3.size) (fun k e => by cases e; have := hb7.size; omega)⟩
          simp [results, Try.f63, go_sem, c4, c5, c6]
        case body =>
          rintro l' m W hm' ⟨A2, c, at_, acc, hbx, hown, hat, hav, ha32, hRm, hbel⟩
          obtain ⟨x, hx⟩ : ∃ x, x = min m 32 := ⟨_, rfl⟩
          rw [← hx]
          rw [Pfor.takeBlocks_pos b hm', ← hx] at hRm
          have hHT := takeBlock_any (cutAt A cap at_) (n - at_) (cap - at_) w.heap.size (b.drop at_) W (by rw [List.length_drop, hl]) (by omega) (by omega) ((hb.below hbel).cut (k := at_) (cap := cap) (by omega) (by omega)) hbel.size
          unfold TakesPost at hHT
          have hslc := run_cut_from A n cap at_ (n - at_) (by omega)
          have hacc := Hbig.out acc.length at_ m ha32 hat hav
          have Hx := Lib.hid hx; clear hx
          have cb := hbx.1.cell
          have cs := hbx.2.2.2.2.1.cell
          generalize cutAt A cap at_ = A1 at *
          rcases Pfor.takeBlock_cases (b.drop at_) with ⟨L, hg, hpre, ht⟩ | ht
          · rw [ht] at hHT hRm
            have hk := hpre.length_le
            rw [List.length_drop, hl] at hk
            have hk4 := Pfor.block_pos L
            have hL1 := hg.1
            have hL32 := hg.2
            simp only at hHT hRm
            obtain ⟨kk, hkk⟩ : ∃ kk, kk = (Pfor.block L).length := ⟨_, rfl⟩
            rw [← hkk] at hHT hRm hk hk4
            clear hkk hpre ht hg
            by_cases hlx : L.length = x
            · rw [if_pos ⟨trivial, hlx⟩] at hRm
              rw [hlx] at hHT
              have HH := Lib.hid hHT
              have HRm := Lib.hid hRm
              have hx32 : x ≤ 32 := by omega
              have hx1 : 1 ≤ x := by omega
              clear hHT hRm
              gi_wp2_with (first | (refine ⟨trivial, ?_⟩; gi_at_call 77; refine (CallsIn.inRound l' (callsIn_wide.2 HH.out)).mono ?_; rintro e w3 ⟨A3, c3, rfl, ho3, hb3⟩; have hbx3 := hbx.below hb3; have cl3 := hbx3.2.2.2.2.2.cell; have ho2' := hown.below hb3; have hb3' := hbel.trans (hb3.mono hbel.size); have hsz3 := hb3'.size; have ho3r := ho3.row) | (gi_at_builtin; refine wpListIn_append_nums rfl (.tmp 49) (.tmp 50) rfl w.heap.size A2 acc.length c acc rfl ho2' _ A3 x c3 L rfl hlx ho3r (by omega) (by simp only [maxLen]; omega) hsz3 ?_; intro A5 c5 w4 ho4 hg4 hat4; have hbx4 := hbx3.kept hg4 (fun B hB => by obtain ⟨t, u, h1, h2⟩ := hB; exact box_nums ho2' h1 h2); have cl4 := hbx4.2.2.2.2.2.cell; have fl4 := hbx4.2.2.2.2.2.frozen; have cs4 := hbx4.2.2.2.2.1.cell; have fs4 := hbx4.2.2.2.2.1.frozen))
              have hk4' : KeepsOthers w3 w4 := KeepsOthers.of_grownBy hg4 (fun j o hj hjo => nown_cells ho2' hj hjo)
              have hb4 := hb3'.grown hg4 hsz3 (fun k hk => (ho2'.lt hk).1)
              have hbx5 := hbx4.setL (.slice A5 (acc.length + x) c5) (.int .i64 ((at_ : Int) + (kk : Int)))
              have ho5 := (ho4.set (i := 0) hbx4.2.2.2.2.2 (by decide) (.slice A5 (acc.length + x) c5)).set (i := 0) (hbx4.2.2.2.2.1.other (B' := w.heap.size + 1 + 1 + 1 + 1 + 1) (by omega) (.slice A5 (acc.length + x) c5)) (by decide) (.int .i64 ((at_ : Int) + (kk : Int)))
              have hb5 := (hb4.setCell (p := ⟨w.heap.size + 1 + 1 + 1 + 1 + 1, 0, none⟩) (show w.heap.size ≤ w.heap.size + 1 + 1 + 1 + 1 + 1 by omega) (.slice A5 (acc.length + x) c5)).setCell (p := ⟨w.heap.size + 1 + 1 + 1 + 1, 0, none⟩) (show w.heap.size ≤ w.heap.size + 1 + 1 + 1 + 1 by omega) (.int .i64 ((at_ : Int) + (kk : Int)))
              have hal : acc.length + x = (acc ++ L).length := by rw [List.length_append, hlx]
              rw [hal, show (at_ : Int) + (kk : Int) = ((at_ + kk : Nat) : Int) from by omega] at hbx5 ho5 hb5
              have hxx := Hx.out
              have hinv5 : TakeInv w A n cap b v R (m - 32) ((w4.setCell ⟨w.heap.size + 1 + 1 + 1 + 1 + 1, 0, none⟩ (.slice A5 (acc ++ L).length c5)).setCell ⟨w.heap.size + 1 + 1 + 1 + 1, 0, none⟩ (.int .i64 ((at_ + kk : Nat) : Int))) :=
                ⟨A5, c5, at_ + kk, acc ++ L, hbx5, ho5, by omega, by rw [← hal]; omega, by rw [← hal]; omega, HRm.out, hb5⟩
              rw [← hal, show ((at_ + kk : Nat) : Int) = (at_ : Int) + (kk : Int) from by omega] at hinv5
              exact ⟨(((KeepsOthers.below hb3).trans hk4').trans (KeepsOthers.setCell _ _ _)).trans (KeepsOthers.setCell _ _ _), hinv5⟩
            · rw [if_neg (fun h => hlx h.2)] at hRm
              have hI : (L.length : Int) ≠ (x : Int) := by omega
              have HH := Lib.hid hHT
              have HRm := Lib.hid hRm
              clear hHT hRm
              gi_wp2_with (refine ⟨trivial, ?_⟩; gi_at_call 77; refine (CallsIn.inRound l' (callsIn_wide.2 HH.out)).mono ?_; rintro e w3 ⟨A3, c3, rfl, ho3, hb3⟩; have hbx3 := hbx.below hb3; have r4 := hbx3.2.1.cell; have r5 := hbx3.2.2.1.cell; have r6 := hbx3.2.2.2.1.cell; have q4 := hbx3.2.1.frozen; have q5 := hbx3.2.2.1.frozen; have q6 := hbx3.2.2.2.1.frozen)
              have hb4 := ((((hbel.trans (hb3.mono hbel.size)).setCell (p := ⟨w.heap.size + 1, 0, none⟩) (show w.heap.size ≤ w.heap.size + 1 by omega) (.slice none 0 0)).setCell (p := ⟨w.heap.size + 1 + 1, 0, none⟩) (show w.heap.size ≤ w.heap.size + 1 + 1 by omega) (.int .i64 0)).setCell (p := ⟨w.heap.size + 1 + 1 + 1, 0, none⟩) (show w.heap.size ≤ w.heap.size + 1 + 1 + 1 by omega) (.int .i64 2))
              exact ⟨(((KeepsOthers.below hb3).trans (KeepsOthers.setCell _ _ _)).trans (KeepsOthers.setCell _ _ _)).trans (KeepsOthers.setCell _ _ _), _, _, hbx3.set3 (.slice none 0 0) (.int .i64 0) (.int .i64 2), HRm.out.symm, hb4⟩
          · rw [ht] at hHT hRm
            simp only [List.length_nil] at hHT
            rw [if_neg (fun h => by have := h.1; cases this)] at hRm
            have HH := Lib.hid hHT
            have HRm := Lib.hid hRm
            clear hHT hRm
            gi_wp2_with (refine ⟨trivial, ?_⟩; gi_at_call 77; refine (CallsIn.inRound l' (callsIn_wide.2 HH.out)).mono ?_; rintro e w3 ⟨A3, c3, rfl, ho3, hb3⟩; have hbx3 := hbx.below hb3; have r4 := hbx3.2.1.cell; have r5 := hbx3.2.2.1.cell; have r6 := hbx3.2.2.2.1.cell; have q4 := hbx3.2.1.frozen; have q5 := hbx3.2.2.1.frozen; have q6 := hbx3.2.2.2.1.frozen)
            have hb4 := ((((hbel.trans (hb3.mono hbel.size)).setCell (p := ⟨w.heap.size + 1, 0, none⟩) (show w.heap.size ≤ w.heap.size + 1 by omega) (.slice none 0 0)).setCell (p := ⟨w.heap.size + 1 + 1, 0, none⟩) (show w.heap.size ≤ w.heap.size + 1 + 1 by omega) (.int .i64 0)).setCell (p := ⟨w.heap.size + 1 + 1 + 1, 0, none⟩) (show w.heap.size ≤ w.heap.size + 1 + 1 + 1 by omega) (.int .i64 2))
            exact ⟨(((KeepsOthers.below hb3).trans (KeepsOthers.setCell _ _ _)).trans (KeepsOthers.setCell _ _ _)).trans (KeepsOthers.setCell _ _ _), _, _, hbx3.set3 (.slice none 0 0) (.int .i64 0) (.int .i64 2), HRm.out.symm, hb4⟩
    · have he' : ¬ ((e : Int) = 0) := by omega
      simp only [ht] at HT ⊢
      rw [if_pos (by omega)]
      have HT4 := Lib.hid (HT _ hbel4)
      clear HT ht he
      gi_wp2_with (refine ⟨trivial, ?_⟩; gi_at_call 60; refine (callsIn_wide.2 HT4.out).mono ?_; rintro e' w1 ⟨rfl, rfl⟩)
      refine ⟨.tuple #[.slice none 0 0, .int .i64 0, .int .i64 2], ?_, none, 0, rfl, nown_none _ _, ((((((Below.refl _ w).alloc (Nat.le_refl _) _).alloc (by simp) _).alloc (by simp; omega) _).alloc (by simp; omega) _).alloc (by simp; omega) _)⟩
      simp [results, Try.f63, go_sem]
end Go.Proofs.Ytgjopffdgdimlaa

/- Numbers folded and unfolded, by the document and by the landed code. -/
namespace Go.Proofs.Ytgjopffdgdimlaa
open Go.ChangeShapes Go.WideShapes Go.ChangeAt Go.RowKit
set_option maxRecDepth 100000

/-- integers folded -/
def foldL (l : List Int) : List UInt64 := l.map fun z => UInt64.ofNat (Num.fold z)
/-- numbers unfolded -/
def unfoldL (l : List UInt64) : List Int := l.map fun v => Num.unfold v.toNat
theorem foldL_length (l : List Int) : (foldL l).length = l.length := by simp [foldL]
theorem unfoldL_length (l : List UInt64) : (unfoldL l).length = l.length := by simp [unfoldL]
theorem foldL_get {l : List Int} {k : Nat} (hk : k < l.length) : (foldL l)[k]'(by rw [foldL_length]; exact hk) = UInt64.ofNat (Num.fold l[k]) := by simp [foldL]
theorem unfoldL_get {l : List UInt64} {k : Nat} (hk : k < l.length) : (unfoldL l)[k]'(by rw [unfoldL_length]; exact hk) = Num.unfold l[k].toNat := by simp [unfoldL]
theorem uval_fold {z : Int} (h : -9223372036854775808 ≤ z ∧ z ≤ 9223372036854775807) : uval (UInt64.ofNat (Num.fold z)) = .int .u64 (Num.fold z : Int) := by
  unfold uval
  rw [Bits.toNat_ofNat (Num.fold_lt h.1 h.2)]

set_option maxHeartbeats 1000000 in
theorem folded_any (A : Option Addr) (n cap B : Nat) (l : List Int) (w : World) (hl : l.length = n) (hn : n ≤ 1000000) (hf : Fits64 l) (hb : Ints w B A l) (hB : B ≤ w.heap.size) :
    Calls Try.prog 59 #[.slice A n cap] w fun e w' => ∃ A' c, e = .returned (.slice A' n c) ∧ NOwn w' w.heap.size A' n c (foldL l) ∧ Below w.heap.size w w' := by
  have hb := hb.wide hB
  have Hl := Lib.hid hl; clear hl
  go_enter Try.func59, Try.ntmps59
  go_wp2
  go_loopw [3, 4] (fun q i wr => ∃ (k c : Nat) (A2 : Option Addr), k ≤ n ∧ i = .int .i64 k ∧ q = .slice A2 k c ∧ NOwn wr w.heap.size A2 k c ((foldL l).take k) ∧ Below w.heap.size w wr) (fun _ i _ => n - (intOf i).toNat)
  case atStart => exact ⟨0, 0, none, by omega, rfl, rfl, nown_none _ _, Below.refl _ _⟩
  case round =>
    obtain ⟨k, c, A2, hk, rfl, rfl, ho, hbr⟩ := hrel
    have hszr := hbr.size
    have hbx := hb.below hbr
    by_cases hlt : k < n
    · have hk' : k < l.length := by have := Hl.out; omega
      obtain ⟨ad, rfl, _, hcell⟩ := hbx.get hk'
      simp only [ival] at hcell
      have hz := hf l[k] (List.getElem_mem hk')
      have HF := refFold_any l[k] wr hz.1 hz.2
      have hu := uval_fold hz
      have htk : (foldL l).take (k + 1) = (foldL l).take k ++ [UInt64.ofNat (Num.fold l[k])] := by rw [List.take_succ_eq_append_getElem (by rw [foldL_length]; exact hk'), foldL_get hk']
      generalize UInt64.ofNat (Num.fold l[k]) = y at hu htk
      generalize ((Num.fold l[k] : Nat) : Int) = f at hu HF
      generalize l[k] = z at *
      have hone := nown_lit1 wr y f hu
      have hor := hone.row
      have hoA := ho.alloc (.cells #[.int .u64 f] 54)
      have hbA : Below w.heap.size w (wr.alloc (.cells #[.int .u64 f] 54)) := hbr.alloc hszr _
      have hszA := hbA.size
      replace HF := Lib.hid HF
      have Htk := Lib.hid htk
      clear hone hu ho htk hz
      go_wp2_with fail
      refine HF.out.mono ?_
      rintro e w1 ⟨rfl, rfl⟩
      clear HF
      go_wp2_with (at_builtin; refine wpList_append_row elem64 rfl (.tmp 11) (.tmp 17) rfl w.heap.size A2 k c _ rfl hoA _ _ 1 1 [_] rfl rfl hor (by omega) (by simp only [maxLen]; omega) hszA ?_; intro A3 c3 w3 ho3 hg3 hat3)
      have hb3 := hbA.grown hg3 hszA (fun k hk => (hoA.lt hk).1)
      clear hat3
      go_roundw
      case rel => exact ⟨k + 1, c3, A3, by omega, by go_num, rfl, by rw [Htk.out]; exact ho3, hb3⟩
      case measure => simp [intOf]; omega
    · obtain rfl : k = n := by omega
      rw [List.take_of_length_le (by rw [foldL_length, Hl.out]; exact Nat.le_refl _)] at ho
      go_wp2
      go_ret
      exact ⟨A2, c, rfl, ho, hbr⟩

set_option maxHeartbeats 1000000 in
theorem unfolded_any (A : Option Addr) (n cap B : Nat) (l : List UInt64) (w : World) (hl : l.length = n) (hn : n ≤ 1000000) (hb : Nums w B A l) (hB : B ≤ w.heap.size) :
    Calls Try.prog 66 #[.slice A n cap] w fun e w' => ∃ A' c, e = .returned (.slice A' n c) ∧ IOwn w' w.heap.size A' n c (unfoldL l) ∧ Below w.heap.size w w' := by
  have hb := hb.wide hB
  have Hl := Lib.hid hl; clear hl
  go_enter Try.func66, Try.ntmps66
  go_wp2
  go_loopw [3, 4] (fun q i wr => ∃ (k c : Nat) (A2 : Option Addr), k ≤ n ∧ i = .int .i64 k ∧ q = .slice A2 k c ∧ IOwn wr w.heap.size A2 k c ((unfoldL l).take k) ∧ Below w.heap.size w wr) (fun _ i _ => n - (intOf i).toNat)
  case atStart => exact ⟨0, 0, none, by omega, rfl, rfl, iown_none _ _, Below.refl _ _⟩
  case round =>
    obtain ⟨k, c, A2, hk, rfl, rfl, ho, hbr⟩ := hrel
    have hszr := hbr.size
    have hbx := hb.below hbr
    by_cases hlt : k < n
    · have hk' : k < l.length := by have := Hl.out; omega
      obtain ⟨ad, rfl, _, hcell⟩ := hbx.get hk'
      simp only [uval] at hcell
      have HF := refUnfold_any l[k].toNat wr (Bits.u64_lt _)
      have htk : (unfoldL l).take (k + 1) = (unfoldL l).take k ++ [Num.unfold l[k].toNat] := by rw [List.take_succ_eq_append_getElem (by rw [unfoldL_length]; exact hk'), unfoldL_get hk']
      generalize Num.unfold l[k].toNat = y at HF htk
      generalize (l[k].toNat : Int) = z at *
      have hor := (iown_lit1 wr y).row
      have hoA := ho.alloc (.cells #[.int .i64 y] 3)
      have hbA : Below w.heap.size w (wr.alloc (.cells #[.int .i64 y] 3)) := hbr.alloc hszr _
      have hszA := hbA.size
      replace HF := Lib.hid HF
      have Htk := Lib.hid htk
      clear ho htk
      go_wp2_with fail
      refine HF.out.mono ?_
      rintro e w1 ⟨rfl, rfl⟩
      clear HF
      go_wp2_with (at_builtin; refine wpList_append_row elemI rfl (.tmp 11) (.tmp 17) rfl w.heap.size A2 k c _ rfl hoA _ _ 1 1 [_] rfl rfl hor (by omega) (by simp only [maxLen]; omega) hszA ?_; intro A3 c3 w3 ho3 hg3 hat3)
      have hb3 := hbA.grown hg3 hszA (fun k hk => (hoA.lt hk).1)
      clear hat3
      go_roundw
      case rel => exact ⟨k + 1, c3, A3, by omega, by go_num, rfl, by rw [Htk.out]; exact ho3, hb3⟩
      case measure => simp [intOf]; omega
    · obtain rfl : k = n := by omega
      rw [List.take_of_length_le (by rw [unfoldL_length, Hl.out]; exact Nat.le_refl _)] at ho
      go_wp2
      go_ret
      exact ⟨A2, c, rfl, ho, hbr⟩
end Go.Proofs.Ytgjopffdgdimlaa

/- pfor.PutInts and pfor.TakeInts; the document's Ints and TakeInts. -/
namespace Go.Proofs.Ytgjopffdgdimlaa
open Go.RowKit
set_option maxRecDepth 100000

set_option maxHeartbeats 2000000 in
theorem putInts_wide (A1 A2 : Option Addr) (n1 c1 n2 c2 : Nat) (b : List UInt8) (l : List Int) (w : World) (hl1 : b.length = n1) (hl2 : l.length = n2) (hn1 : n1 ≤ 140737488355328) (hn2 : n2 ≤ 1000000) (hf : Fits64 l) (hTot : (b ++ Pfor.list (foldL l)).length ≤ 140737488355328)
    (hb1 : Bytes w w.heap.size A1 b) (hb2 : Ints w w.heap.size A2 l) :
    Calls Try.prog 29 #[.slice A1 n1 c1, .slice A2 n2 c2] w (MadeIn w.heap.size w (b ++ Pfor.list (foldL l)).length (b ++ Pfor.list (foldL l))) := by
  have hmk := run_make_nums n2 (by omega) w
  have ho0 := own_nums w n2 (by simp only [maxLen]; omega)
  have hbel0 : Below w.heap.size w (w.alloc (.cells (madeCells #[.int .u64 0] n2) 54)) := (Below.refl _ _).alloc (Nat.le_refl _) _
  generalize w.alloc (.cells (madeCells #[.int .u64 0] n2) 54) = w0 at *
  have hFl : (foldL l).length = n2 := by rw [foldL_length, hl2]
  have HP := Lib.hid (fun (g : Nat) (wr : World) (hbel : Below w.heap.size w wr) (ho : NOwn wr w.heap.size (some ⟨g, 0, none⟩) n2 n2 (foldL l)) => putList_wide A1 (some ⟨g, 0, none⟩) n1 c1 n2 n2 b (foldL l) wr hl1 hFl hn1 hn2 (Nat.le_refl _) hTot ((hb1.below hbel).wide hbel.size) ho.row)
  have HFl := Lib.hid hFl
  have Hl := Lib.hid hl2
  generalize b ++ Pfor.list (foldL l) = T at *
  obtain ⟨g, hg⟩ : ∃ g, g = w.heap.size := ⟨_, rfl⟩
  rw [← hg] at hmk ho0 hbel0 hb2 HP ⊢
  have Hg := Lib.hid hg
  clear hFl hl1 hl2 hb1 hg
  go_enter Try.func29, Try.ntmps29
  go_wp2
  go_loopw [13] (fun i wr => ∃ (k : Nat), k ≤ n2 ∧ i = .int .i64 k ∧ NOwn wr g (some ⟨g, 0, none⟩) n2 n2 ((foldL l).take k ++ List.replicate (n2 - k) 0) ∧ Below g w wr) (fun i _ => n2 - (intOf i).toNat)
  case atStart => exact ⟨0, by omega, rfl, by simpa using ho0, hbel0⟩
  case round =>
    clear ho0 hbel0 hmk
    obtain ⟨k, hk, rfl, ho, hbel⟩ := hrel
    have hbr := hb2.below hbel
    by_cases hlt : k < n2
    · have hk' : k < l.length := by have := Hl.out; omega
      obtain ⟨ad, rfl, hlt', hcell⟩ := hbr.get hk'
      simp only [ival] at hcell
      have hz := hf l[k] (List.getElem_mem hk')
      have HF := fold_any l[k] wr hz.1 hz.2
      have hu := uval_fold hz
      obtain ⟨hg1, hg2⟩ := fill_get (0 : UInt64) HFl.out hlt
      have hold := ho.cell hg1
      rw [hg2] at hold
      have hold' : wr.cell? ⟨g, k, none⟩ = some (.int .u64 0) := hold
      have hfree := ho.free k
      have hst := ho.store k ((foldL l)[k]'(by rw [HFl.out]; exact hlt))
      rw [fill_set (0 : UInt64) HFl.out hlt, foldL_get hk', hu] at hst
      have hb3 := hbel.setCell (p := ⟨g, k, none⟩) (Nat.le_refl _) (.int .u64 ((Num.fold l[k] : Nat) : Int))
      generalize ((Num.fold l[k] : Nat) : Int) = f at hst HF hb3
      generalize l[k] = z at hcell HF
      replace HF := Lib.hid HF
      have Hst := Lib.hid hst
      have Hbl := Lib.hid hb3
      clear hst hu hold hg1 hg2 ho hz hb3
      go_wp2_with fail
      refine HF.out.mono ?_
      rintro e w1 ⟨rfl, rfl⟩
      clear HF
      go_wp2
      go_roundw
      case rel => exact ⟨k + 1, by omega, by go_num, Hst.out, Hbl.out⟩
      case measure => simp [intOf]; omega
    · obtain rfl : k = n2 := by omega
      rw [Nat.sub_self, List.replicate_zero, List.append_nil, List.take_of_length_le (by rw [HFl.out]; exact Nat.le_refl _)] at ho
      have C1 := Lib.hid (HP.out g wr hbel ho)
      clear HP
      have hgs : g ≤ wr.heap.size := ho.size
      go_wp2_with fail
      refine C1.out.mono ?_
      rintro e w2 ⟨g2, c2', rfl, ho2, hb2'⟩
      clear C1
      go_wp2
      go_ret
      exact ⟨g2, c2', rfl, ho2.low hgs, hbel.trans (hb2'.mono hgs)⟩
theorem putInts_any (A1 A2 : Option Addr) (n1 c1 n2 c2 : Nat) (b : List UInt8) (l : List Int) (w : World) (hl1 : b.length = n1) (hl2 : l.length = n2) (hn1 : n1 ≤ 1000000) (hn2 : n2 ≤ 1000000) (hf : Fits64 l)
    (hb1 : Bytes w w.heap.size A1 b) (hb2 : Ints w w.heap.size A2 l) :
    Calls Try.prog 29 #[.slice A1 n1 c1, .slice A2 n2 c2] w (MadeIn w.heap.size w (b ++ Pfor.list (foldL l)).length (b ++ Pfor.list (foldL l))) := by
  refine putInts_wide A1 A2 n1 c1 n2 c2 b l w hl1 hl2 (by omega) hn2 hf ?_ hb1 hb2
  have := Pfor.list_length_le (foldL l) (by rw [foldL_length]; omega)
  rw [foldL_length] at this
  rw [List.length_append]; omega

/-- what TakeInts answers -/
def TakesIPost (w : World) (r : List Int × Nat × Nat) (e : Ending) (w' : World) : Prop :=
  ∃ A c, e = .returned (.tuple #[.slice A r.1.length c, .int .i64 (r.2.1 : Int), .int .i64 (r.2.2 : Int)]) ∧ IOwn w' w.heap.size A r.1.length c r.1 ∧ Below w.heap.size w w'
noncomputable def Pfor.takeInts (b : List UInt8) (z : Int) : List Int × Nat × Nat := (unfoldL (Pfor.takeList b z).1, (Pfor.takeList b z).2.1, (Pfor.takeList b z).2.2)

theorem takeBlocks_bad (b : List UInt8) (v : Nat) : ∀ (acc : List UInt64) (at_ : Nat), (Pfor.takeBlocks b v acc at_).2.2 ≠ 0 → (Pfor.takeBlocks b v acc at_).1 = [] ∧ (Pfor.takeBlocks b v acc at_).2.1 = 0 := by
  induction v using Nat.strongRecOn with
  | ind v ih =>
    intro acc at_ h
    rcases Nat.eq_zero_or_pos v with h0 | h0
    · subst h0
      rw [Pfor.takeBlocks_zero] at h
      exact absurd rfl h
    · rw [Pfor.takeBlocks_pos b h0] at h ⊢
      split at h
      · rename_i hok
        rw [if_pos hok]
        exact ih (v - 32) (by omega) _ _ h
      · rename_i hok
        rw [if_neg hok]
        exact ⟨rfl, rfl⟩
theorem takeList_bad (b : List UInt8) (z : Int) (h : (Pfor.takeList b z).2.2 ≠ 0) : (Pfor.takeList b z).1 = [] ∧ (Pfor.takeList b z).2.1 = 0 := by
  unfold Pfor.takeList at h ⊢
  split
  · exact ⟨rfl, rfl⟩
  · rename_i h1
    rw [if_neg h1] at h
    split
    · exact ⟨rfl, rfl⟩
    · rename_i h2
      rw [if_neg h2] at h
      split
      · exact ⟨rfl, rfl⟩
      · rename_i h3
        rw [if_neg h3] at h
        exact takeBlocks_bad b _ _ _ h

set_option maxHeartbeats 2000000 in
theorem takeInts_wide (A : Option Addr) (n cap : Nat) (b : List UInt8) (z : Int) (w : World) (hl : b.length = n) (hcap : n ≤ cap) (hm : n ≤ 281474976710656) (hbig : z ≤ 1000000 ∨ n ≤ 10000) (hb : Bytes w w.heap.size A b)
    (hz0 : -9223372036854775808 ≤ z) (hz1 : z ≤ 9223372036854775807) (hlen : (Pfor.takeList b z).1.length ≤ 1000000) :
    Calls Try.prog 37 #[.slice A n cap, .int .i64 z] w (TakesIPost w (Pfor.takeInts b z)) := by
  have H0 := takeList_any A n cap b z w hl hcap (by omega) hb hz0 hz1 hbig
  clear hbig
  have hbad := takeList_bad b z
  unfold Pfor.takeInts
  unfold TakesPost at H0
  generalize Pfor.takeList b z = R at *
  obtain ⟨L, k, E⟩ := R
  simp only at H0 hbad hlen ⊢
  by_cases hE : E = 0
  · subst hE
    simp only [Int.natCast_zero] at H0
    have hUl : (unfoldL L).length = L.length := unfoldL_length L
    have HUl := Lib.hid hUl
    unfold TakesIPost
    simp only [hUl]
    have hmk := fun w' => run_make_ints L.length (by omega) w'
    have hoi := fun w' => own_ints w' L.length (by simp only [maxLen]; omega)
    obtain ⟨q, hq⟩ : ∃ q, q = L.length := ⟨_, rfl⟩
    rw [← hq] at H0 hlen hmk HUl
    simp only [← hq] at hoi ⊢
    have Hq := Lib.hid hq
    replace H0 := Lib.hid H0
    clear hUl hbad hq hb
    go_enter Try.func37, Try.ntmps37
    go_wp2_with fail
    refine H0.out.mono ?_
    rintro e w1 ⟨A1, c1, rfl, ho1, hb1⟩
    clear H0
    have hmk1 := hmk w1
    have ho0 := hoi w1
    have hbel0 : Below w1.heap.size w1 (w1.alloc (.cells (madeCells #[.int .i64 0] q) 3)) := (Below.refl _ _).alloc (Nat.le_refl _) _
    generalize w1.alloc (.cells (madeCells #[.int .i64 0] q) 3) = w0 at *
    have hrow := ho1.row
    obtain ⟨g, hg⟩ : ∃ g, g = w1.heap.size := ⟨_, rfl⟩
    rw [← hg] at hmk1 ho0 hbel0 hrow
    have hgw : w.heap.size ≤ g := by rw [hg]; exact hb1.size
    clear hmk hoi ho1 hg
    go_wp2
    go_loopw [28] (fun i wr => ∃ (k : Nat), k ≤ q ∧ i = .int .i64 k ∧ IOwn wr g (some ⟨g, 0, none⟩) q q ((unfoldL L).take k ++ List.replicate (q - k) 0) ∧ Below g w1 wr) (fun i _ => q - (intOf i).toNat)
    case atStart => exact ⟨0, by omega, rfl, by simpa using ho0, hbel0⟩
    case round =>
      clear ho0 hbel0 hmk1
      obtain ⟨j, hj, rfl, ho, hbel⟩ := hrel
      have hbr := hrow.below hbel
      by_cases hlt : j < q
      · have hj' : j < L.length := by have := Hq.out; omega
        obtain ⟨ad, rfl, hlt', hcell⟩ := hbr.get hj'
        simp only [uval] at hcell
        have HF := unfold_any L[j].toNat wr (Bits.u64_lt _)
        obtain ⟨hg1, hg2⟩ := fill_get (0 : Int) HUl.out hlt
        have hold := ho.cell hg1
        rw [hg2] at hold
        have hold' : wr.cell? ⟨g, j, none⟩ = some (.int .i64 0) := hold
        have hfree := ho.free j
        have hst := ho.store j ((unfoldL L)[j]'(by rw [HUl.out]; exact hlt))
        rw [fill_set (0 : Int) HUl.out hlt, unfoldL_get hj'] at hst
        have hb3 := hbel.setCell (p := ⟨g, j, none⟩) (Nat.le_refl _) (.int .i64 (Num.unfold L[j].toNat))
        simp only [ival] at hst
        generalize Num.unfold L[j].toNat = f at hst HF hb3
        generalize (L[j].toNat : Int) = y at hcell HF
        replace HF := Lib.hid HF
        have Hst := Lib.hid hst
        have Hbl := Lib.hid hb3
        clear hst hold hg1 hg2 ho hb3
        go_wp2_with fail
        refine HF.out.mono ?_
        rintro e w2 ⟨rfl, rfl⟩
        clear HF
        go_wp2
        go_roundw
        case rel => exact ⟨j + 1, by omega, by go_num, Hst.out, Hbl.out⟩
        case measure => simp [intOf]; omega
      · obtain rfl : j = q := by omega
        rw [Nat.sub_self, List.replicate_zero, List.append_nil, List.take_of_length_le (by rw [HUl.out]; exact Nat.le_refl _)] at ho
        go_wp2
        go_ret3
        exact ⟨some ⟨g, 0, none⟩, j, rfl, ho.low hgw, hb1.trans (hbel.mono hgw)⟩
  · obtain ⟨rfl, rfl⟩ := hbad hE
    have hE' : ¬ ((E : Int) = 0) := by omega
    simp only [List.length_nil, Int.natCast_zero] at H0
    replace H0 := Lib.hid H0
    clear hb hE hbad hlen
    go_enter Try.func37, Try.ntmps37
    go_wp2_with fail
    refine H0.out.mono ?_
    rintro e w1 ⟨A1, c1, rfl, ho1, hb1⟩
    clear H0
    go_wp2
    go_ret3
    exact ⟨none, 0, rfl, iown_none _ _, hb1⟩

theorem takeInts_any (A : Option Addr) (n cap : Nat) (b : List UInt8) (z : Int) (w : World) (hl : b.length = n) (hcap : n ≤ cap) (hm : n ≤ 10000) (hb : Bytes w w.heap.size A b)
    (hz0 : -9223372036854775808 ≤ z) (hz1 : z ≤ 9223372036854775807) (hlen : (Pfor.takeList b z).1.length ≤ 1000000) :
    Calls Try.prog 37 #[.slice A n cap, .int .i64 z] w (TakesIPost w (Pfor.takeInts b z)) := takeInts_wide A n cap b z w hl hcap (by omega) (.inr hm) hb hz0 hz1 hlen

theorem refInts_any (A : Option Addr) (n cap B : Nat) (l : List Int) (w : World) (hl : l.length = n) (hn : n ≤ 1000000) (hf : Fits64 l) (hb : Ints w B A l) (hB : B ≤ w.heap.size) :
    Calls Try.prog 34 #[.slice A n cap] w (MadeIn w.heap.size w (Pfor.list (foldL l)).length (Pfor.list (foldL l))) := by
  have H1 := Lib.hid (folded_any A n cap B l w hl hn hf hb hB)
  have H2 := Lib.hid (fun A2 c2 w' hb hc => refList_any A2 n c2 _ (foldL l) w' (by rw [foldL_length, hl]) hn hc hb (Nat.le_refl _))
  generalize Pfor.list (foldL l) = T at *
  clear hb hl
  go_enter Try.func34, Try.ntmps34
  go_wp2_with fail
  refine H1.out.mono ?_
  rintro e w1 ⟨A1, c1, rfl, ho1, hb1⟩
  clear H1
  go_wp2_with fail
  refine (H2.out A1 c1 w1 ho1.row (by exact ho1.cap)).mono ?_
  rintro e w2 ⟨g2, c2, rfl, ho2, hb2⟩
  clear H2
  go_wp2
  go_ret
  exact ⟨g2, c2, rfl, ho2.low hb1.size, hb1.trans (hb2.mono hb1.size)⟩

theorem refTakeInts_any (A : Option Addr) (n cap B : Nat) (b : List UInt8) (z : Int) (w : World) (hl : b.length = n) (hcap : n ≤ cap) (hm : n ≤ 10000) (hb : Bytes w B A b) (hB : B ≤ w.heap.size) (hz1 : z ≤ 9223372036854775807) (hlen : (Pfor.takeList b z).1.length ≤ 1000000) :
    Calls Try.prog 42 #[.slice A n cap, .int .i64 z] w (TakesIPost w (Pfor.takeInts b z)) := by
  have H0 := refTakeList_any A n cap B b z w hl hcap hm hb hB hz1
  unfold Pfor.takeInts
  unfold TakesPost at H0
  generalize Pfor.takeList b z = R at *
  obtain ⟨L, k, E⟩ := R
  simp only at H0 hlen ⊢
  have H1 := fun A2 c2 w' hb => unfolded_any A2 L.length c2 _ L w' rfl hlen hb (Nat.le_refl _)
  unfold TakesIPost
  simp only [unfoldL_length]
  generalize unfoldL L = U at *
  generalize L.length = q at *
  generalize (k : Int) = κ at *
  generalize (E : Int) = ε at *
  replace H0 := Lib.hid H0
  replace H1 := Lib.hid H1
  clear hb hl
  go_enter Try.func42, Try.ntmps42
  go_wp2_with fail
  refine H0.out.mono ?_
  rintro e w1 ⟨A1, c1, rfl, ho1, hb1⟩
  clear H0
  go_wp2_with fail
  refine (H1.out A1 c1 w1 ho1.row).mono ?_
  rintro e w2 ⟨A2, c2, rfl, ho2, hb2⟩
  clear H1
  go_wp2
  go_ret3
  exact ⟨A2, c2, rfl, ho2.low hb1.size, hb1.trans (hb2.mono hb1.size)⟩
end Go.Proofs.Ytgjopffdgdimlaa

/- How long a list that is taken can be. -/
namespace Go.Proofs.Ytgjopffdgdimlaa

theorem takeBlocks_len (b : List UInt8) (v : Nat) : ∀ (acc : List UInt64) (at_ : Nat), acc.length ≤ 32 * at_ → at_ ≤ b.length → (Pfor.takeBlocks b v acc at_).1.length ≤ 32 * b.length := by
  induction v using Nat.strongRecOn with
  | ind v ih =>
    intro acc at_ h1 h2
    rcases Nat.eq_zero_or_pos v with h0 | h0
    · subst h0
      rw [Pfor.takeBlocks_zero]
      simp only
      omega
    · rw [Pfor.takeBlocks_pos b h0]
      split
      · rename_i hok
        rcases Pfor.takeBlock_cases (b.drop at_) with ⟨L, hg, hp, e⟩ | e
        · have hk := hp.length_le
          have h4 := Pfor.block_pos L
          rw [List.length_drop] at hk
          rw [e] at hok ⊢
          simp only at hok ⊢
          have := hg.2
          exact ih (v - 32) (by omega) _ _ (by rw [List.length_append]; omega) (by omega)
        · rw [e] at hok
          have := hok.1
          cases this
      · exact Nat.zero_le _
theorem takeList_len (b : List UInt8) (z : Int) : (Pfor.takeList b z).1.length ≤ 32 * b.length := by
  unfold Pfor.takeList
  split
  · exact Nat.zero_le _
  · split
    · exact Nat.zero_le _
    · split
      · exact Nat.zero_le _
      · rename_i h _
        rcases Num.take_cases b with ⟨v, s, ht⟩ | ⟨e, ht, he⟩
        · have h3 := (Num.num_take ht).2.2.1
          rw [ht]
          exact takeBlocks_len b v [] s (by simp) h3
        · rw [ht] at h
          simp only at h
          omega
end Go.Proofs.Ytgjopffdgdimlaa

/- The document's Ints: two lists of int compared. -/
namespace Go.Proofs.Ytgjopffdgdimlaa
open Go.RowKit
set_option maxRecDepth 100000

theorem take_same {α : Type} {a b : List α} {k : Nat} (ha : k < a.length) (hb : k < b.length) (h : a.take k = b.take k) (he : a[k] = b[k]) : a.take (k + 1) = b.take (k + 1) := by
  rw [List.take_succ_eq_append_getElem ha, List.take_succ_eq_append_getElem hb, h, he]
theorem ne_at {α : Type} {a b : List α} {k : Nat} (ha : k < a.length) (hb : k < b.length) (he : a[k] ≠ b[k]) : a ≠ b := by
  intro h; subst h; exact he rfl

theorem Drawn.row {α : Type} {f : α → Value} {w w' : World} {B : Nat} {A : Option Addr} {l : List α} (hd : Drawn w w') (h : Row f w B A l) : Row f w' B A l := by
  obtain ⟨q, rfl⟩ := hd
  exact h
theorem Drawn.cell {w w' : World} {a : Addr} {v : Value} (hd : Drawn w w') (h : w.cell? a = some v) : w'.cell? a = some v := by
  obtain ⟨q, rfl⟩ := hd
  exact h
set_option maxHeartbeats 400000 in
theorem ints_any (A1 A2 : Option Addr) (n1 n2 c1 c2 B1 B2 : Nat) (a b : List Int) (w : World) (hl1 : a.length = n1) (hl2 : b.length = n2) (hn1 : n1 ≤ 140737488351232) (hn2 : n2 ≤ 140737488351232) (ha : Ints w B1 A1 a) (hb : Ints w B2 A2 b) :
    Calls Try.prog 24 #[.slice A1 n1 c1, .slice A2 n2 c2] w fun e w' => e = .returned (.bool (decide (a = b))) ∧ Drawn w w' := by
  by_cases hn : n1 = n2
  · subst hn
    have hnn2 : ((n1 : Int) != (n1 : Int)) = false := by simp
    have Hl1 := Lib.hid hl1
    have Hl2 := Lib.hid hl2
    generalize hdd : decide (a = b) = dd
    have Hdd := Lib.hid hdd
    clear hl1 hl2 hdd
    go_enter Try.func24, Try.ntmps24
    go_wp2
    go_loopw [5] (fun i wr => ∃ (k : Nat), k ≤ n1 ∧ i = .int .i64 k ∧ a.take k = b.take k ∧ Drawn w wr) (fun i _ => n1 - (intOf i).toNat)
    case atStart => exact ⟨0, Nat.zero_le _, rfl, rfl, Drawn.refl _⟩
    case round =>
      obtain ⟨k, hk, rfl, htk, hd⟩ := hrel
      have Htk := Lib.hid htk
      clear htk
      have ha := hd.row ha
      have hb := hd.row hb
      by_cases hlt : k < n1
      · have hka : k < a.length := by have := Hl1.out; omega
        have hkb : k < b.length := by have := Hl2.out; omega
        obtain ⟨ad1, rfl, _, d1⟩ := ha.get hka
        obtain ⟨ad2, rfl, _, d2⟩ := hb.get hkb
        simp only [ival] at d1 d2
        have i1 : (k : Int) < (n1 : Int) := by omega
        have i0 : (0 : Int) ≤ (k : Int) := by omega
        by_cases he : a[k] = b[k]
        · have Ht := Lib.hid (take_same hka hkb Htk.out he)
          rw [← he] at d2
          generalize a[k] = x at d1 d2
          have hxx : (x != x) = false := by simp
          clear he
          go_wp2_with fail
          go_quiet (fail)
          go_wp2
          go_roundw
          case rel => exact ⟨k + 1, by omega, by go_num, Ht.out, hd.drewN _⟩
          case measure => simp [intOf]; omega
        · have Hn := Lib.hid (ne_at hka hkb he)
          have hne : (a[k] != b[k]) = true := by
            rw [bne_iff_ne]
            exact he
          generalize a[k] = x at *
          generalize b[k] = y at *
          clear he
          go_wp2_with fail
          go_quiet (fail)
          go_wp2
          go_ret
          refine ⟨?_, hd.drewN _⟩
          rw [← Hdd.out, decide_eq_false (fun h => Hn.out h)]
          rfl
      · obtain rfl : k = n1 := by omega
        have he : a = b := by
          have := Htk.out
          rwa [List.take_of_length_le (by rw [Hl1.out]; exact Nat.le_refl _), List.take_of_length_le (by rw [Hl2.out]; exact Nat.le_refl _)] at this
        have Hd := Lib.hid (show dd = true by rw [← Hdd.out]; exact decide_eq_true he)
        clear he
        go_wp2
        go_ret
        refine ⟨?_, hd⟩
        rw [Hd.out]
        rfl
  · have hne : ((n1 : Int) != (n2 : Int)) = true := bne_iff_ne.2 (by omega)
    have hdd : decide (a = b) = false := decide_eq_false (fun h => hn (by rw [← hl1, ← hl2, h]))
    rw [hdd]
    clear hdd hl1 hl2 hn
    go_enter Try.func24, Try.ntmps24
    go_wp2
    go_ret
    exact ⟨rfl, Drawn.refl _⟩

end Go.Proofs.Ytgjopffdgdimlaa
