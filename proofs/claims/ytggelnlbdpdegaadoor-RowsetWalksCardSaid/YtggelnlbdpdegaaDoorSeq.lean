/- A loop over an iterator that yields a list of values, one behind the other: the law, with the place as the ghost. -/
import Derived.Test.YtggelnlbdpdegaaDoorRow
import Derived.RangeFuncNested
import Derived.RangeFuncBound
import Derived.RangeFuncCalls
import Derived.RangeFuncLeaves
import Derived.RangeFuncBox
import Derived.Shelf.Abstract
import Derived.Shelf.RegionOpen
import Derived.WalkKit
import Derived.OwnWalkIn
import Derived.TacticsInMore
import Derived.LoopNIn
import Derived.LoopIn
import Derived.Laws.Small
namespace Go.Proofs.YtggelnlbdpdegaaDoor
open Go.RowKit Go.Shelf
set_option maxRecDepth 100000

theorem KeepsOthers.below {W W' : World} (h : Below W.heap.size W W') : KeepsOthers W W' :=
  ⟨h.size, fun k o hk _ => by rw [h.block k (Array.getElem?_eq_some_iff.1 hk).1]; exact hk⟩

/-- How a round may be left: it goes on to the next place, or it breaks. -/
def seqPost (I : Nat → World → Prop) (Ix : World → Prop) (id k : Nat) (W : World) : Exit → Act → World → Prop
  | .normal, _, W' => KeepsOthers W W' ∧ I (k + 1) W'
  | .exit j, _, W' => j = id ∧ KeepsOthers W W' ∧ Ix W'
  | _, _, _ => False

/-- The iterator gf, with what it captured, yields vs one behind the other, as long as what it reads (S) stays. -/
def Yields (n gf : Nat) (lb : Array Value) (vs : List Value) (S : World → Prop) : Prop :=
  ∀ (l : Nat) (J : Nat → World → Prop) (Jx : World → Prop) (W : World), (∀ k W1, J k W1 → S W1) →
    (∀ k W1, (h : k < vs.length) → J k W1 → YieldAt Fence.wide (n - 1) Tryd.prog l #[vs[k]] W1 fun e W' => (e = .returned (.bool true) ∧ J (k + 1) W') ∨ (e = .returned (.bool false) ∧ Jx W')) →
    J 0 W → CallsIn Fence.wide n Tryd.prog gf (#[.func (.yield l) #[] #[]] ++ lb) W fun e W' => (∃ v, e = .returned v) ∧ (J vs.length W' ∨ Jx W')

section law
variable {n gf id : Nat} {vs : List Value} {S : World → Prop} {g : Operand} {ps : Array Tmp} {assign body : Code} {Q : Exit → Act → World → Prop} {a : Act} {w : World} {lb : Array Value}
theorem wpIn_seq (hg : a.eval g = .func (.func gf) #[] lb) (eg : ∀ args w, (callFunc gf args).run Tryd.prog w = .ok (.enter gf args) w) (hseq : Yields (n - 1) gf lb vs S) (hps : ps.size = 1)
    (I : Nat → World → Prop) (Ix : World → Prop) (hI : OwnFrom w.heap.size I) (hIx : OwnFrom w.heap.size fun (_ : Unit) => Ix) (hIS : ∀ k W, I k W → S W) (h0 : I 0 w) (a₁ : Value → Act)
    (hassign : ∀ (l : Nat) (v : Value) (W : World) (K : Act → World → Prop), K (a₁ v) W →
      assign.wpIn (Fence.wide.inRound l) (n - 1 - 1) Tryd.prog (Exit.then K (fun _ _ _ => False)) { tmps := (ps.zip #[v]).foldl (fun t (p, v) => t.setIfInBounds p v) a.tmps, defers := [] } W)
    (hbody : ∀ (l k : Nat) (W : World) (h : k < vs.length), I k W → body.wpIn (Fence.wide.inRound l) (n - 1 - 1) Tryd.prog (seqPost I Ix id k W) (a₁ vs[k]) W)
    (hdone : ∀ (D : Nat) (W : World), w.heap.size ≤ D → I vs.length W → W.heap[D]? = some (.deferred (some [])) → Q .normal { a with defers := { target := .collected D, args := #[] } :: a.defers } W)
    (hstop : ∀ (D : Nat) (W : World), w.heap.size ≤ D → Ix W → W.heap[D]? = some (.deferred (some [])) → (Code.exit id).wpIn Fence.wide n Tryd.prog Q { a with defers := { target := .collected D, args := #[] } :: a.defers } W) :
    (Code.rangeFunc g ps assign body).wpIn Fence.wide n Tryd.prog Q a w := by
  refine wpIn_rangeFunc fun fn hfn => ?_
  -- the record, in the states that it comes to
  generalize hrc : (fun (st : LoopState) (pe : Option Code) => ({ state := st, pending := pe, fn, tmps := a.tmps, params := ps, assign, body, defers := w.heap.size } : Loop)) = rc
  have erc : ∀ st pe, rc st pe = { state := st, pending := pe, fn, tmps := a.tmps, params := ps, assign, body, defers := w.heap.size } := fun st pe => by rw [← hrc]
  generalize hW1 : (w.alloc (.deferred (some []))).alloc (.loop (rc .ready none)) = W1
  have sz1 : (w.alloc (.deferred (some []))).heap.size = w.heap.size + 1 := by simp
  have rec1 : W1.heap[w.heap.size + 1]? = some (.loop (rc .ready none)) := by
    rw [← hW1, ← sz1]; exact World.alloc_heap_new _ _
  have def1 : W1.heap[w.heap.size]? = some (.deferred (some [])) := by
    rw [← hW1, Below.heap_alloc _ _ _ (by omega)]; exact World.alloc_heap_new w _
  have inv1 : I 0 W1 := by rw [← hW1]; exact hI.alloc _ (hI.alloc _ h0)
  have henter : (Instr.enterLoop fn a.tmps ps assign body Fence.wide.round).run Tryd.prog w = .ok (w.heap.size + 1, [{ target := .collected w.heap.size, args := #[] }]) W1 := by
    rw [← hW1, erc]; exact run_enterLoop_outer _ _ _ _ _
  refine ⟨_, _, W1, { target := .fn (.func gf) lb, args := #[.func (.yield (w.heap.size + 1)) #[] #[]] }, W1, gf, #[.func (.yield (w.heap.size + 1)) #[] #[]] ++ lb, W1, henter, ?_, fun _ _ => trivial, ?_, (fun h => by cases h), ?_⟩
  · simp only [resolve, hg]
    simp [go_sem]
  · simp [invoke, go_sem, eg]
  -- what lies between two rounds, and behind the last
  refine (hseq (w.heap.size + 1) (fun k W => I k W ∧ W.heap[w.heap.size + 1]? = some (.loop (rc .ready none)) ∧ W.heap[w.heap.size]? = some (.deferred (some [])))
    (fun W => Ix W ∧ W.heap[w.heap.size + 1]? = some (.loop (rc .done (some (.exit id)))) ∧ W.heap[w.heap.size]? = some (.deferred (some []))) W1 (fun k W h => hIS k W h.1) ?_ ⟨inv1, rec1, def1⟩).mono ?_
  · rintro m W hm ⟨hi, hl, hk⟩
    have hlt : w.heap.size + 1 < W.heap.size := (Array.getElem?_eq_some_iff.1 hl).1
    have hy := run_yield (P := Tryd.prog) (args := #[vs[m]]) hl (by rw [erc]; exact hps.symm)
    have hbg := run_beginRound (P := Tryd.prog) hl (by rw [erc])
    generalize hWb : W.putObj (w.heap.size + 1) (.loop { rc .ready none with state := .busy }) = Wb at hbg
    have busy : Wb.heap[w.heap.size + 1]? = some (.loop { rc .ready none with state := .busy }) := by rw [← hWb]; exact World.putObj_heap_same hlt
    have defb : Wb.heap[w.heap.size]? = some (.deferred (some [])) := by rw [← hWb, World.putObj_heap_other (by omega)]; exact hk
    have invb : I m Wb := by rw [← hWb]; exact hI.putObj _ hi (by omega) hl rfl
    rw [erc] at hy
    refine ⟨fn, _, assign, body, hy, roundIn_of_wpIn hfn (hassign _ vs[m] W _ ⟨Wb, hbg, wpIn_mono (hbody _ m Wb hm invb) ?_⟩)⟩
    -- the end of a round
    have fin : ∀ (jump : Option Code) (W3 : World), KeepsOthers Wb W3 → ∃ st W4, (Instr.endRound (w.heap.size + 1) jump).run Tryd.prog W3 = .ok (.bool jump.isNone) W4 ∧ st = (if jump.isNone then LoopState.ready else LoopState.done) ∧
        W4 = W3.putObj (w.heap.size + 1) (.loop (rc st jump)) ∧ W3.heap[w.heap.size + 1]? = some (.loop { rc .ready none with state := .busy }) ∧ W4.heap[w.heap.size + 1]? = some (.loop (rc st jump)) ∧ W4.heap[w.heap.size]? = some (.deferred (some [])) := fun jump W3 hko => by
      have b3 := hko.same _ _ busy rfl
      have he := run_endRound (P := Tryd.prog) jump b3
      refine ⟨_, _, he, rfl, by rw [erc, erc], b3, ?_, ?_⟩
      · rw [World.putObj_heap_same (Array.getElem?_eq_some_iff.1 b3).1, erc, erc]
      · rw [World.putObj_heap_other (by omega)]; exact hko.same _ _ defb rfl
    rintro e a3 W3 hp
    cases e with
    | normal =>
      obtain ⟨st, W4, hr, rfl, hW4, b3, r4, d4⟩ := fin none W3 hp.1
      exact ⟨_, W4, hr, .inl ⟨rfl, by rw [hW4]; exact hI.putObj _ hp.2 (by omega) b3 rfl, r4, d4⟩⟩
    | exit j =>
      obtain ⟨rfl, hp⟩ := hp
      obtain ⟨st, W4, hr, rfl, hW4, b3, r4, d4⟩ := fin (some (.exit j)) W3 hp.1
      exact ⟨_, W4, hr, .inr ⟨rfl, by rw [hW4]; exact hIx.putObj (s := ()) _ hp.2 (by omega) b3 rfl, r4, d4⟩⟩
    | ret => exact hp.elim
    | goto _ => exact hp.elim
    | panic _ => exact hp.elim
    | outgrown => exact hp.elim
  · rintro e W2 ⟨⟨v, rfl⟩, (⟨hi, hl, hk⟩ | ⟨hi, hl, hk⟩)⟩
    · have hend := run_endLoop (P := Tryd.prog) hl (by rw [erc]; simp)
      rw [show (rc .ready none).pending = none from by rw [erc]] at hend
      exact ⟨none, _, hend, hdone _ _ (Nat.le_refl _) (hI.putObj _ hi (by omega) hl rfl) ((World.putObj_heap_other (by omega)).trans hk)⟩
    · have hend := run_endLoop (P := Tryd.prog) hl (by rw [erc]; simp)
      rw [show (rc .done (some (.exit id))).pending = some (.exit id) from by rw [erc]] at hend
      exact ⟨some (.exit id), _, hend, hstop _ _ (Nat.le_refl _) (hIx.putObj (s := ()) _ hi (by omega) hl rfl) ((World.putObj_heap_other (by omega)).trans hk)⟩
end law

end Go.Proofs.YtggelnlbdpdegaaDoor
