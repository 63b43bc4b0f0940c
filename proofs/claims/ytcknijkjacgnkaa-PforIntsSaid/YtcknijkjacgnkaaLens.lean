/- A loop over an iterator that counts down: the law, with the number that is left as the ghost; blockLengths and its closure. -/
import Derived.Test.YtcknijkjacgnkaaPforLaw
import Derived.RangeFuncNested
import Derived.RangeFuncBound
import Derived.RangeFuncCalls
import Derived.RangeFuncLeaves
import Derived.RangeFuncBox
import Derived.Shelf.Abstract
import Derived.Shelf.RegionOpen
import Derived.WalkKit
import Derived.OwnWalkIn
import Derived.TacticsInMore
import Derived.LoopNIn
import Derived.LoopIn
import Derived.Laws.Small
namespace Go.Proofs.Ytcknijkjacgnkaa
open Go.RowKit Go.Shelf

theorem KeepsOthers.below {W W' : World} (h : Below W.heap.size W W') : KeepsOthers W W' :=
  ⟨h.size, fun k o hk _ => by rw [h.block k (Array.getElem?_eq_some_iff.1 hk).1]; exact hk⟩

/-- How a round may be left: it goes on with m left, or it returns. -/
def lenPost (I : Nat → World → Prop) (Ix : World → Prop) (m : Nat) (W : World) : Exit → Act → World → Prop
  | .normal, _, W' => KeepsOthers W W' ∧ I m W'
  | .ret, _, W' => KeepsOthers W W' ∧ Ix W'
  | _, _, _ => False

/-- The iterator gf, with what it captured, counts n0 down by 32 and says each time how many there are of the 32. -/
def Lens (n gf : Nat) (lb : Array Value) (n0 : Nat) (w : World) : Prop :=
  ∀ (l : Nat) (J : Nat → World → Prop) (Jx : World → Prop) (W : World), Below w.heap.size w W →
    (∀ m W1, 0 < m → J m W1 → YieldAt Fence.wide (n - 1) Try.prog l #[.int .i64 ((min m 32 : Nat) : Int)] W1 fun e W' => (e = .returned (.bool true) ∧ J (m - 32) W') ∨ (e = .returned (.bool false) ∧ Jx W')) →
    J n0 W → CallsIn Fence.wide n Try.prog gf (#[.func (.yield l) #[] #[]] ++ lb) W fun e W' => (∃ v, e = .returned v) ∧ (J 0 W' ∨ Jx W')

section law
variable {n n0 gf : Nat} {g : Operand} {ps : Array Tmp} {assign body : Code} {Q : Exit → Act → World → Prop} {a : Act} {w : World} {lb : Array Value}
theorem wpIn_lens (hg : a.eval g = .func (.func gf) #[] lb) (eg : ∀ args w, (callFunc gf args).run Try.prog w = .ok (.enter gf args) w) (hseq : Lens (n - 1) gf lb n0 w) (hps : ps.size = 1)
    (I : Nat → World → Prop) (Ix : World → Prop) (hI : OwnFrom w.heap.size I) (hIx : OwnFrom w.heap.size fun (_ : Unit) => Ix) (h0 : I n0 w) (a₁ : Nat → Act)
    (hassign : ∀ (l m : Nat) (W : World) (K : Act → World → Prop), K (a₁ m) W →
      assign.wpIn (Fence.wide.inRound l) (n - 1 - 1) Try.prog (Exit.then K (fun _ _ _ => False)) { tmps := (ps.zip #[.int .i64 ((min m 32 : Nat) : Int)]).foldl (fun t (p, v) => t.setIfInBounds p v) a.tmps, defers := [] } W)
    (hbody : ∀ (l m : Nat) (W : World), 0 < m → I m W → body.wpIn (Fence.wide.inRound l) (n - 1 - 1) Try.prog (lenPost I Ix (m - 32) W) (a₁ m) W)
    (hdone : ∀ (D : Nat) (W : World), w.heap.size ≤ D → I 0 W → W.heap[D]? = some (.deferred (some [])) → Q .normal { a with defers := { target := .collected D, args := #[] } :: a.defers } W)
    (hstop : ∀ (D : Nat) (W : World), w.heap.size ≤ D → Ix W → W.heap[D]? = some (.deferred (some [])) → Code.ret.wpIn Fence.wide n Try.prog Q { a with defers := { target := .collected D, args := #[] } :: a.defers } W) :
    (Code.rangeFunc g ps assign body).wpIn Fence.wide n Try.prog Q a w := by
  refine wpIn_rangeFunc fun fn hfn => ?_
  -- the record, in the states that it comes to
  generalize hrc : (fun (st : LoopState) (pe : Option Code) => ({ state := st, pending := pe, fn, tmps := a.tmps, params := ps, assign, body, defers := w.heap.size } : Loop)) = rc
  have erc : ∀ st pe, rc st pe = { state := st, pending := pe, fn, tmps := a.tmps, params := ps, assign, body, defers := w.heap.size } := fun st pe => by rw [← hrc]
  generalize hW1 : (w.alloc (.deferred (some []))).alloc (.loop (rc .ready none)) = W1
  have sz1 : (w.alloc (.deferred (some []))).heap.size = w.heap.size + 1 := by simp
  have rec1 : W1.heap[w.heap.size + 1]? = some (.loop (rc .ready none)) := by
    rw [← hW1, ← sz1]; exact World.alloc_heap_new _ _
  have def1 : W1.heap[w.heap.size]? = some (.deferred (some [])) := by
    rw [← hW1, Below.heap_alloc _ _ _ (by omega)]; exact World.alloc_heap_new w _
  have bel1 : Below w.heap.size w W1 := by
    rw [← hW1]; exact ((Below.refl _ w).alloc (Nat.le_refl _) _).alloc (by omega) _
  have inv1 : I n0 W1 := by rw [← hW1]; exact hI.alloc _ (hI.alloc _ h0)
  have henter : (Instr.enterLoop fn a.tmps ps assign body Fence.wide.round).run Try.prog w = .ok (w.heap.size + 1, [{ target := .collected w.heap.size, args := #[] }]) W1 := by
    rw [← hW1, erc]; exact run_enterLoop_outer _ _ _ _ _
  refine ⟨_, _, W1, { target := .fn (.func gf) lb, args := #[.func (.yield (w.heap.size + 1)) #[] #[]] }, W1, gf, #[.func (.yield (w.heap.size + 1)) #[] #[]] ++ lb, W1, henter, ?_, fun _ _ => trivial, ?_, (fun h => by cases h), ?_⟩
  · simp only [resolve, hg]
    simp [go_sem]
  · simp [invoke, go_sem, eg]
  -- what lies between two rounds, and behind the last
  refine (hseq (w.heap.size + 1) (fun m W => I m W ∧ W.heap[w.heap.size + 1]? = some (.loop (rc .ready none)) ∧ W.heap[w.heap.size]? = some (.deferred (some [])))
    (fun W => Ix W ∧ W.heap[w.heap.size + 1]? = some (.loop (rc .done (some .ret))) ∧ W.heap[w.heap.size]? = some (.deferred (some []))) W1 bel1 ?_ ⟨inv1, rec1, def1⟩).mono ?_
  · rintro m W hm ⟨hi, hl, hk⟩
    have hlt : w.heap.size + 1 < W.heap.size := (Array.getElem?_eq_some_iff.1 hl).1
    have hy := run_yield (P := Try.prog) (args := #[.int .i64 ((min m 32 : Nat) : Int)]) hl (by rw [erc]; exact hps.symm)
    have hbg := run_beginRound (P := Try.prog) hl (by rw [erc])
    generalize hWb : W.putObj (w.heap.size + 1) (.loop { rc .ready none with state := .busy }) = Wb at hbg
    have busy : Wb.heap[w.heap.size + 1]? = some (.loop { rc .ready none with state := .busy }) := by rw [← hWb]; exact World.putObj_heap_same hlt
    have defb : Wb.heap[w.heap.size]? = some (.deferred (some [])) := by rw [← hWb, World.putObj_heap_other (by omega)]; exact hk
    have invb : I m Wb := by rw [← hWb]; exact hI.putObj _ hi (by omega) hl rfl
    rw [erc] at hy
    refine ⟨fn, _, assign, body, hy, roundIn_of_wpIn hfn (hassign _ m W _ ⟨Wb, hbg, wpIn_mono (hbody _ m Wb hm invb) ?_⟩)⟩
    -- the end of a round
    have fin : ∀ (jump : Option Code) (W3 : World), KeepsOthers Wb W3 → ∃ st W4, (Instr.endRound (w.heap.size + 1) jump).run Try.prog W3 = .ok (.bool jump.isNone) W4 ∧ st = (if jump.isNone then LoopState.ready else LoopState.done) ∧
        W4 = W3.putObj (w.heap.size + 1) (.loop (rc st jump)) ∧ W3.heap[w.heap.size + 1]? = some (.loop { rc .ready none with state := .busy }) ∧ W4.heap[w.heap.size + 1]? = some (.loop (rc st jump)) ∧ W4.heap[w.heap.size]? = some (.deferred (some [])) := fun jump W3 hko => by
      have b3 := hko.same _ _ busy rfl
      have he := run_endRound (P := Try.prog) jump b3
      refine ⟨_, _, he, rfl, by rw [erc, erc], b3, ?_, ?_⟩
      · rw [World.putObj_heap_same (Array.getElem?_eq_some_iff.1 b3).1, erc, erc]
      · rw [World.putObj_heap_other (by omega)]; exact hko.same _ _ defb rfl
    rintro e a3 W3 hp
    cases e with
    | normal =>
      obtain ⟨st, W4, hr, rfl, hW4, b3, r4, d4⟩ := fin none W3 hp.1
      exact ⟨_, W4, hr, .inl ⟨rfl, by rw [hW4]; exact hI.putObj _ hp.2 (by omega) b3 rfl, r4, d4⟩⟩
    | ret =>
      obtain ⟨st, W4, hr, rfl, hW4, b3, r4, d4⟩ := fin (some .ret) W3 hp.1
      exact ⟨_, W4, hr, .inr ⟨rfl, by rw [hW4]; exact hIx.putObj (s := ()) _ hp.2 (by omega) b3 rfl, r4, d4⟩⟩
    | exit _ => exact hp.elim
    | goto _ => exact hp.elim
    | panic _ => exact hp.elim
    | outgrown => exact hp.elim
  · rintro e W2 ⟨⟨v, rfl⟩, (⟨hi, hl, hk⟩ | ⟨hi, hl, hk⟩)⟩
    · have hend := run_endLoop (P := Try.prog) hl (by rw [erc]; simp)
      rw [show (rc .ready none).pending = none from by rw [erc]] at hend
      exact ⟨none, _, hend, hdone _ _ (Nat.le_refl _) (hI.putObj _ hi (by omega) hl rfl) ((World.putObj_heap_other (by omega)).trans hk)⟩
    · have hend := run_endLoop (P := Try.prog) hl (by rw [erc]; simp)
      rw [show (rc .done (some .ret)).pending = some .ret from by rw [erc]] at hend
      exact ⟨some .ret, _, hend, hstop _ _ (Nat.le_refl _) (hIx.putObj (s := ()) _ hi (by omega) hl rfl) ((World.putObj_heap_other (by omega)).trans hk)⟩
end law

theorem blockLengths_any (n : Nat) (w : World) : Calls Try.prog 38 #[.int .i64 (n : Int)] w fun e w' =>
    e = .returned (.func (.func 60) #[] #[.pointer (some ⟨w.heap.size, 0, none⟩)]) ∧ w' = w.alloc (.cells #[.int .i64 (n : Int)] 3) := by
  have hmf : ∀ (fn : Fn) (first cap : Array Value) (w : World), (Instr.makeFunc fn first cap).run Try.prog w = .ok (.func fn first cap) w := fun _ _ _ _ => rfl
  go_enter Try.func38, Try.ntmps38
  go_wp2
  go_ret
  exact ⟨rfl, rfl⟩

attribute [local go_sem] Oper.semAt_some
set_option maxHeartbeats 1000000 in
theorem lens_of (n b n0 : Nat) (w : World) (hn0 : n0 ≤ 9223372036854775807) (hb : b < w.heap.size) (hc : w.cell? ⟨b, 0, none⟩ = some (.int .i64 (n0 : Int))) :
    Lens n 60 #[.pointer (some ⟨b, 0, none⟩)] n0 w := by
  intro l J Jx W hW hY h0
  have hcell := (hW.cell (p := ⟨b, 0, none⟩) hb).trans hc
  refine callsIn_of_wp Try.func60 rfl trivial ?_ rfl
  simp only [Try.ntmps60, List.size_toArray, List.length_cons, List.length_nil, Nat.reduceAdd, Nat.reduceSub, Array.replicate_succ, Array.replicate_zero, List.push_toArray, List.append_toArray, List.nil_append, List.cons_append]
  gi_wp2
  gi_loopw [3] (fun s wr => ∃ z : Int, s = .int .i64 z ∧ z ≤ 9223372036854775807 ∧ -32 ≤ z ∧ J z.toNat wr) (fun s _ => (intOf s).toNat)
  case atStart => exact ⟨n0, rfl, by omega, by omega, h0⟩
  case round =>
    obtain ⟨z, rfl, hz, hz', hJ⟩ := hrel
    by_cases h : 0 < z
    · obtain ⟨fn, tmps, assign, body, hy, hR⟩ := hY z.toNat wr (by omega) hJ
      have hmin : ((min z.toNat 32 : Nat) : Int) = if 32 < z then 32 else z := by split <;> omega
      rw [hmin] at hy
      gi_wp2
      · refine ⟨(fun h => by cases h), hR.mono ?_⟩
        rintro e W3 (⟨rfl, hJ3⟩ | ⟨rfl, hJx3⟩)
        · gi_wp2
          go_roundw
          case rel => exact ⟨z - 32, rfl, by omega, by omega, by rw [show (z - 32).toNat = z.toNat - 32 from by omega]; exact hJ3⟩
          case measure => simp [intOf]; omega
        · gi_wp2
          refine bodyPost_ret (results_none rfl _ _ _) rfl ?_
          exact ⟨⟨_, rfl⟩, .inr hJx3⟩
      · refine ⟨(fun h => by cases h), hR.mono ?_⟩
        rintro e W3 (⟨rfl, hJ3⟩ | ⟨rfl, hJx3⟩)
        · gi_wp2
          go_roundw
          case rel => exact ⟨z - 32, rfl, by omega, by omega, by rw [show (z - 32).toNat = z.toNat - 32 from by omega]; exact hJ3⟩
          case measure => simp [intOf]; omega
        · gi_wp2
          refine bodyPost_ret (results_none rfl _ _ _) rfl ?_
          exact ⟨⟨_, rfl⟩, .inr hJx3⟩
    · gi_wp2
      go_end0
      exact ⟨⟨_, rfl⟩, .inl (by rw [show z.toNat = 0 from by omega] at hJ; exact hJ)⟩
end Go.Proofs.Ytcknijkjacgnkaa
