/- The document's Granules. -/
import Derived.Test.YtggelnlbdpdegaaDoorRstGran
namespace Go.Proofs.YtggelnlbdpdegaaDoor
open Go.RowKit
set_option maxRecDepth 100000

set_option maxHeartbeats 4000000 in
theorem refGranules_any (N : Int) (A : Option Addr) (n c B : Nat) (ws : List UInt64) (w : World) (hl : ws.length = n) (hn : n ≤ 140737488351232) (hb : Nums w B A ws) (hB : B ≤ w.heap.size) :
    Calls Tryd.prog 15 #[rval N A n c] w fun e w' => ∃ A' m c', e = .returned (.slice A' m c') ∧ IOwn w' w.heap.size A' m c' (granR N ws) ∧ Below w.heap.size w w' := by
  have hx1 := RBox.new w N A n c
  have hbel : Below w.heap.size w (w.alloc (.cells #[.int .i64 N, .slice A n c] 24)) := (Below.refl _ _).alloc (Nat.le_refl _) _
  have hsz : (w.alloc (.cells #[.int .i64 N, .slice A n c] 24)).heap.size = w.heap.size + 1 := by simp
  have hb := hb.below (hbel.mono hB)
  have HL := Lib.hid (list_any N A n c B ws _ hl hn hb (by omega))
  have hPs := listR_small N ws
  have hPb : ∀ r, r ∈ listR N ws → r < 4096 := fun r h => listR_lt h
  unfold granR
  generalize listR N ws = P at *
  clear hb hl
  unfold rval at HL ⊢
  go_enter Tryd.func15, Tryd.ntmps15
  go_wp2_with fail
  generalize w.alloc (.cells #[.int .i64 N, .slice A n c] 24) = w1 at *
  refine HL.out.mono ?_
  rintro e w2 ⟨AL, p, cL, rfl, hoL, hb2⟩
  have hbel := hbel.trans (hb2.mono (by omega))
  have hs2 := hb2.size
  have hpl : P.length = p := by have := hoL.len; simpa [asInts] using this
  have hro := hoL.row
  have Hpl := Lib.hid hpl
  have hp64 : p ≤ 4096 := by omega
  clear HL hoL hx1 hb2 hpl
  go_wp2
  go_loopw [3, 5] (fun o i wr => ∃ (k q cc : Nat) (A2 : Option Addr), k ≤ p ∧ i = .int .i64 k ∧ o = .slice A2 q cc ∧ q = (Rst.gran (P.take k)).length ∧ IOwn wr w2.heap.size A2 q cc (asInts (Rst.gran (P.take k))) ∧ Below w2.heap.size w2 wr) (fun _ i _ => p - (intOf i).toNat)
  case atStart => exact ⟨0, 0, 0, none, by omega, rfl, rfl, rfl, ROwn.nil _ _ _ _, Below.refl _ _⟩
  case round =>
    obtain ⟨k, q, cc, A2, hk, rfl, rfl, hq, hoq, hbr⟩ := hrel
    by_cases hlt : k < p
    · have hk' : k < P.length := by rw [Hpl.out]; exact hlt
      obtain ⟨ad, rfl, _, d1⟩ := (hro.below hbr).get (k := k) (by rw [asInts_length]; exact hk')
      rw [show (asInts P)[k]'(by rw [asInts_length]; exact hk') = ((P[k] : Nat) : Int) by simp [asInts]] at d1
      simp only [ival] at d1
      have hnx := gran_take hk'
      have hgl : (Rst.gran (P.take k)).length ≤ 4096 := Nat.le_trans (Rst.gran_length _) (by rw [List.length_take]; omega)
      have hP16 : ((P[k] : Nat) : Int).tdiv 16 = ((P[k] / 16 : Nat) : Int) := (Int.ofNat_tdiv P[k] 16).symm
      have hpb : P[k] / 16 ≤ 4096 := by have := hPb _ (List.getElem_mem hk'); omega
      unfold Rst.addG at hnx
      generalize P[k] / 16 = d at *
      generalize P[k] = p0 at *
      have hwr : wrap64 (d : Int) = d := by unfold wrap64; omega
      clear hpb
      generalize Rst.gran (P.take k) = G at *
      have i1 : (k : Int) < (p : Int) := by omega
      have i0 : (0 : Int) ≤ (k : Int) := by omega
      have hszr := hbr.size
      rcases List.eq_nil_or_concat G with rfl | ⟨G', x, rfl⟩
      · obtain rfl : q = 0 := by simpa using hq
        have Hnx := Lib.hid (show Rst.gran (P.take (k + 1)) = ([] : List Nat) ++ [d] by rw [hnx]; simp)
        clear hnx hq
        go_wp2_with fail
        go_quiet (fail)
        have hoq1 : IOwn (wr.drewN nq) w2.heap.size A2 0 cc (asInts []) := hoq
        have hbr1 := below_drewN hbr nq
        have d2 : (wr.drewN nq).cell? (ad.add k) = some (.int .i64 (p0 : Int)) := d1
        have hs1 : w2.heap.size ≤ (wr.drewN nq).heap.size := hszr
        clear hoq hbr d1 hszr
        generalize wr.drewN nq = wq at *
        have hone := (iown_one wq (d : Int)).row
        have hoA := hoq1.alloc (.cells #[.int .i64 (d : Int)] 3)
        have hbA : Below w2.heap.size w2 (wq.alloc (.cells #[.int .i64 (d : Int)] 3)) := hbr1.alloc hs1 _
        have hszA := hbA.size
        clear hoq1
        go_wp2_with (at_builtin; refine wpList_append_row elemI rfl (.tmp 31) (.tmp 37) rfl w2.heap.size A2 0 cc _ rfl hoA _ _ 1 1 [_] rfl rfl hone (by omega) (by simp only [maxLen]; omega) hszA ?_; intro A3 c3 w4 ho3 hg3 hat3)
        have hb4 := hbA.grown hg3 hszA (fun k hk => (hoA.lt hk).1)
        clear hat3 hg3
        go_roundw
        case rel => exact ⟨k + 1, 1, c3, A3, by omega, by go_num, rfl, by rw [Hnx.out]; rfl, by rw [Hnx.out]; exact ho3, hb4⟩
        case measure => simp [intOf]; omega
      · rw [List.concat_eq_append] at *
        have hG : (asInts (G' ++ [x])).length = G'.length + 1 := by simp [asInts]
        have hGx : (asInts (G' ++ [x]))[G'.length]'(by omega) = (x : Int) := by simp [asInts]
        rw [List.length_append, List.length_singleton] at *
        subst hq
        obtain ⟨g, rfl, hgb, hgs⟩ := hoq.at_ (by omega)
        have hgc := hoq.cell (k := G'.length) (by omega)
        rw [hGx] at hgc
        unfold ival at hgc
        have hl0 : ((G'.length : Int) + 1 == 0) = false := by simp; omega
        have hlw : wrap64 ((G'.length : Int) + 1 - 1) = G'.length := by unfold wrap64; omega
        rw [List.getLast?_concat] at hnx
        have HG := Lib.hid hG
        clear hG hGx
        by_cases hxd : x = d
        · rw [if_pos (by rw [hxd])] at hnx
          have Hnx := Lib.hid hnx
          have hxd' : ((x : Int) != (d : Int)) = false := by rw [hxd]; exact bne_self_eq_false _
          clear hnx hxd
          go_wp2_with fail
          go_quiet (fail)
          go_wp2
          go_roundw
          case rel => exact ⟨k + 1, G'.length + 1, cc, _, by omega, by go_num, rfl, by rw [Hnx.out]; simp, by rw [Hnx.out]; exact hoq, below_drewN hbr _⟩
          case measure => simp [intOf]; omega
        · rw [if_neg (by simp only [Option.some.injEq]; exact hxd)] at hnx
          have Hnx := Lib.hid hnx
          have hxd' : ((x : Int) != (d : Int)) = true := bne_iff_ne.2 (fun e => hxd (Int.ofNat_inj.1 e))
          clear hnx hxd
          go_wp2_with fail
          go_quiet (fail)
          have hoq1 : IOwn (wr.drewN nq) w2.heap.size (some ⟨g, 0, none⟩) (G'.length + 1) cc (asInts (G' ++ [x])) := hoq
          have hbr1 := below_drewN hbr nq
          have d2 : (wr.drewN nq).cell? (ad.add k) = some (.int .i64 (p0 : Int)) := d1
          have hs1 : w2.heap.size ≤ (wr.drewN nq).heap.size := hszr
          clear hoq hbr d1 hszr hgc hgs
          generalize wr.drewN nq = wq at *
          have hone := (iown_one wq (d : Int)).row
          have hoA := hoq1.alloc (.cells #[.int .i64 (d : Int)] 3)
          have hbA : Below w2.heap.size w2 (wq.alloc (.cells #[.int .i64 (d : Int)] 3)) := hbr1.alloc hs1 _
          have hszA := hbA.size
          have Hby := Lib.hid (show (G'.length + 1 + 1) * 8 ≤ 140737488355328 by omega)
          have Hml := Lib.hid (show G'.length + 1 + 1 ≤ maxLen by simp only [maxLen]; omega)
          clear hoq1
          go_wp2_with (at_builtin; refine wpList_append_row elemI rfl (.tmp 31) (.tmp 37) rfl w2.heap.size (some ⟨g, 0, none⟩) (G'.length + 1) cc _ rfl hoA _ _ 1 1 [_] rfl rfl hone Hby.out Hml.out hszA ?_; intro A3 c3 w4 ho3 hg3 hat3)
          have hb4 := hbA.grown hg3 hszA (fun k hk => (hoA.lt hk).1)
          clear hat3 hg3
          go_roundw
          case rel => exact ⟨k + 1, G'.length + 1 + 1, c3, A3, by omega, by go_num, rfl, by rw [Hnx.out]; simp, by rw [Hnx.out]; unfold asInts at ho3 ⊢; rw [List.map_append]; exact ho3, hb4⟩
          case measure => simp [intOf]; omega
    · obtain rfl : k = p := by omega
      have Htk := Lib.hid (show P.take k = P from List.take_of_length_le (by rw [Hpl.out]; exact Nat.le_refl _))
      clear hq
      go_wp2
      go_ret
      refine ⟨A2, q, cc, rfl, ?_, hbel.trans (hbr.mono (by omega))⟩
      rw [Htk.out] at hoq
      exact hoq.low (by omega)
end Go.Proofs.YtggelnlbdpdegaaDoor
