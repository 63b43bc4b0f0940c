/- PROVED: the law IntsHold (each number of a column is in its granule's zone, whose ends stand there) returns true and leaves its argument as it was, for every argument.
   Conditions: none but the form's own reach (a slice has fewer than 2^47 bytes). -/
import Derived.Test.YtgjopffdgdimlaaBH

namespace Go.Proofs.Ytgjopffdgdimlaa.intsHold
open Go.ChangeShapes Go.WideShapes Go.ChangeAt Go.RowKit

theorem any_succ (cs : List (Bool × Int)) (P : Bool × Int → Bool) {j : Nat} (hj : j < cs.length) : (cs.take (j + 1)).any P = ((cs.take j).any P || P cs[j]) := by
  rw [List.take_succ_eq_append_getElem hj, List.any_append]
  simp

set_option maxHeartbeats 8000000 in
set_option maxRecDepth 100000 in
theorem walk (A : Option Addr) (n cap : Nat) (l : List (Bool × Int)) (w : World) (hl : l.length = n) (hcap : n ≤ cap) (hn : 16 * n ≤ 140737488351232) (_hf : Ict.fits l) (hb : Cols w w.heap.size A l) :
    Calls Try.prog 8 #[.slice A n cap] w fun e w' => e = .returned (.bool true) ∧ Below w.heap.size w w' := by
  have HZ := Lib.hid (fun W (hbel : Below w.heap.size w W) => icZones_any A n cap w.heap.size l W hl hcap (hb.below hbel) hbel.size)
  have HF := Lib.hid (fun W (hbel : Below w.heap.size w W) => refFormed_any A n cap w.heap.size l W hl hn (hb.below hbel))
  have hZl := Ict.zones_length l
  have hC : Ict.formed l = true → Ict.count l = (n + 15) / 16 ∧ n ≤ 4096 := fun h => by
    refine ⟨by unfold Ict.count; rw [h, if_pos rfl, hl], ?_⟩
    simp only [Ict.formed, Bool.and_eq_true, decide_eq_true_eq, hl] at h
    exact h.1
  have hC0 : Ict.formed l = false → Ict.count l = 0 := fun h => by unfold Ict.count; rw [h]; rfl
  have hZg : ∀ k, (h : k < (Ict.zones l).length) → (Ict.zones l)[k] = Ict.zoneAt l k := fun k h => by simp [Ict.zones]
  rw [hZl] at HZ
  have Hl := Lib.hid hl
  have HZg := Lib.hid hZg
  have HZl := Lib.hid hZl
  generalize Ict.count l = C at *
  clear hl hcap hn hZg hZl
  rcases hfm : Ict.formed l with _ | _
  · rw [hfm] at HF
    have hc := hC0 hfm
    rw [hc] at HZ
    clear hC hC0 hfm hb HZg HZl hc
    go_enter Try.func8, Try.ntmps8
    go_wp2_with fail
    refine (alive_any w).mono ?_
    rintro e w1 ⟨rfl, hb1⟩
    have HZ' := Lib.hid (HZ.out w1 hb1)
    go_wp2_with fail
    refine HZ'.out.mono ?_
    rintro e w2 ⟨A1, c1, rfl, ho1, hb2⟩
    have hb12 := hb1.trans (hb2.mono hb1.size)
    have HF' := Lib.hid (HF.out w2 hb12)
    clear HZ HZ' HF
    go_wp2_with fail
    refine HF'.out.mono ?_
    rintro e w2' ⟨rfl, rfl⟩
    go_wp2
    go_ret
    exact ⟨rfl, hb12⟩
  · rw [hfm] at HF
    obtain ⟨hc, hn4⟩ := hC hfm
    have HC := Lib.hid hc
    have hC3 : C ≤ 256 := by omega
    clear hC hC0 hfm hc
    go_enter Try.func8, Try.ntmps8
    go_wp2_with fail
    refine (alive_any w).mono ?_
    rintro e w1 ⟨rfl, hb1⟩
    have HZ' := Lib.hid (HZ.out w1 hb1)
    go_wp2_with fail
    refine HZ'.out.mono ?_
    rintro e w2 ⟨A1, c1, rfl, ho1, hb2⟩
    have hb12 := hb1.trans (hb2.mono hb1.size)
    have HF' := Lib.hid (HF.out w2 hb12)
    clear HZ HZ' HF
    go_wp2_with fail
    refine HF'.out.mono ?_
    rintro e w2' ⟨rfl, rfl⟩
    have hrow := hb.below hb12
    clear HF' hb hb2
    go_wp2
    go_loopw [4] (fun i wr => ∃ (k u : Nat), k ≤ C ∧ i = .int .i64 (k : Int) ∧ wr = w2.drewN u) (fun i _ => C - (intOf i).toNat)
    case atStart => exact ⟨0, 0, by omega, rfl, rfl⟩
    case round =>
      obtain ⟨k, u, hk, rfl, hwr⟩ := hrel
      have hdr : Drawn w2 wr := ⟨u, hwr⟩
      clear hwr
      by_cases hlt : k < C
      · have hkz : k < (Ict.zones l).length := by rw [HZl.out]; exact hlt
        have hoz := ho1.drawn hdr
        have hcz := hrow.drawn hdr
        obtain ⟨g, rfl, _, _⟩ := hoz.at_ (by omega)
        have d0 := hoz.cell (fun _ => rfl) (k := k) (j := 0) hkz (by omega)
        have d1 := hoz.cell (fun _ => rfl) (k := k) (j := 1) hkz (by omega)
        have d2 := hoz.cell (fun _ => rfl) (k := k) (j := 2) hkz (by omega)
        rw [HZg.out k hkz] at d0 d1 d2
        have hsay := Ict.zone_says (Ict.gran l k)
        rw [show Ict.zone (Ict.gran l k) = Ict.zoneAt l k from rfl] at hsay
        have HSo := Lib.hid (fun W (hd : Drawn wr W) => some_any A n cap w.heap.size k l W Hl.out hn4 (by omega) (hcz.drawn hd))
        generalize Ict.zoneAt l k = z at *
        obtain ⟨s, lo, hi⟩ := z
        have x0 : wr.cell? ⟨g, k * 3, none⟩ = some (.bool s) := d0
        have x1 : wr.cell? ⟨g, k * 3 + 1, none⟩ = some (.int .i64 lo) := d1
        have x2 : wr.cell? ⟨g, k * 3 + 2, none⟩ = some (.int .i64 hi) := d2
        obtain ⟨sy0, sy1, sy2, sy3⟩ := hsay
        simp only at sy0 sy1 sy2 sy3
        rw [← sy0] at HSo
        have hgl := Ict.gran_length l k
        rw [Hl.out] at hgl
        have HG := Lib.hid (fun j (h : j < (Ict.gran l k).length) => Ict.gran_get h)
        generalize Ict.gran l k = cs at *
        obtain ⟨q, hq⟩ : ∃ q, q = cs.length := ⟨_, rfl⟩
        rw [← hq] at hgl
        have Hq := Lib.hid hq
        have Hgl := Lib.hid hgl
        have hq16 : q ≤ 16 := by omega
        have S0 := Lib.hid sy0
        have S1 := Lib.hid sy1
        have S2 := Lib.hid sy2
        have S3 := Lib.hid sy3
        have i1 : (k : Int) < (C : Int) := by omega
        have i0 : (0 : Int) ≤ (k : Int) := by omega
        clear d0 d1 d2 sy0 sy1 sy2 sy3 hq hgl hoz hkz
        go_wp2
        obtain ⟨w5, rfl⟩ : ∃ w5, w5 = wr := ⟨_, rfl⟩
        go_loopw [5, 6, 7] (fun p r i wx => ∃ (j I u2 : Nat), j ≤ q ∧ Hid (I = 16 * k + j) ∧ i = .int .i64 (I : Int) ∧ p = .bool ((cs.take j).any fun c => c.1 && c.2 == lo) ∧ r = .bool ((cs.take j).any fun c => c.1 && c.2 == hi) ∧ wx = w5.drewN u2) (fun _ _ i _ => 16 * k + q - (intOf i).toNat)
        case atStart => exact ⟨0, 16 * k, 0, Nat.zero_le _, Lib.hid rfl, by simp, rfl, rfl, rfl⟩
        case round =>
          obtain ⟨j, I, u2, hj, HI, rfl, rfl, rfl, hwx⟩ := hrel
          have hdx : Drawn w5 wr := ⟨u2, hwx⟩
          have y0 := hdx.cell x0
          have y1 := hdx.cell x1
          have y2 := hdx.cell x2
          clear hwx
          by_cases hjl : j < q
          · have hj' : j < cs.length := by have := Hq.out; omega
            obtain ⟨h', hgg⟩ := HG.out j hj'
            have hIl : I < l.length := by have := HI.out; omega
            obtain ⟨ad, rfl, _, m0, m1, m2⟩ := Cols.at_ (hcz.drawn hdx) hIl
            have hcl : l[I] = cs[j] := by
              rw [hgg]
              congr 1
            rw [hcl] at m0 m1 m2
            have ap := any_succ cs (fun c => c.1 && c.2 == lo) hj'
            have aq := any_succ cs (fun c => c.1 && c.2 == hi) hj'
            have hmem := List.getElem_mem hj'
            have hins := S1.out _ hmem
            have hso : cs[j].1 = true → s = true := fun h => by rw [S0.out]; exact List.any_eq_true.2 ⟨_, hmem, h⟩
            have n1 : (I : Int) < (n : Int) := by have := HI.out; have := Hgl.out; omega
            have n0 : (0 : Int) ≤ (I : Int) := by omega
            have n2 : (I : Int) < 16 * (k : Int) + 16 := by have := HI.out; have := Hgl.out; omega
            have hI4 : (I : Int) ≤ 5000 := by have := HI.out; omega
            generalize cs[j] = c at *
            obtain ⟨h, x⟩ := c
            simp only at m0 m1 m2 ap aq hins hso
            have AP := Lib.hid ap
            have AQ := Lib.hid aq
            generalize ((cs.take j).any fun c => c.1 && c.2 == lo) = P at *
            generalize ((cs.take j).any fun c => c.1 && c.2 == hi) = Q at *
            clear ap aq hgg hcl
            cases h
            · cases P
              · cases Q
                · have EP := Lib.hid (AP.out.trans (show (false || (false && x == lo)) = false from rfl))
                  have EQ := Lib.hid (AQ.out.trans (show (false || (false && x == hi)) = false from rfl))
                  clear AP AQ hins hso
                  as_aux_lemma =>
                    go_wp2_with fail
                    go_quiet (fail)
                    go_wp2_with fail
                    go_quiet (fail)
                    go_wp2_with fail
                    go_quiet (fail)
                    go_wp2
                    go_roundw
                    case rel =>
                      obtain ⟨q1, hq1⟩ := hdx.drewN (_ + _ + _)
                      exact ⟨j + 1, I + 1, q1, by omega, Lib.hid (by have := HI.out; omega), by go_num, by rw [EP.out], by rw [EQ.out], hq1⟩
                    case measure => have := HI.out; simp [intOf]; omega
                · have EP := Lib.hid (AP.out.trans (show (false || (false && x == lo)) = false from rfl))
                  have EQ := Lib.hid (AQ.out.trans (show (true || (false && x == hi)) = true from rfl))
                  clear AP AQ hins hso
                  as_aux_lemma =>
                    go_wp2_with fail
                    go_quiet (fail)
                    go_wp2_with fail
                    go_quiet (fail)
                    go_wp2_with fail
                    go_quiet (fail)
                    go_wp2
                    go_roundw
                    case rel =>
                      obtain ⟨q1, hq1⟩ := hdx.drewN (_ + _ + _)
                      exact ⟨j + 1, I + 1, q1, by omega, Lib.hid (by have := HI.out; omega), by go_num, by rw [EP.out], by rw [EQ.out], hq1⟩
                    case measure => have := HI.out; simp [intOf]; omega
              · cases Q
                · have EP := Lib.hid (AP.out.trans (show (true || (false && x == lo)) = true from rfl))
                  have EQ := Lib.hid (AQ.out.trans (show (false || (false && x == hi)) = false from rfl))
                  clear AP AQ hins hso
                  as_aux_lemma =>
                    go_wp2_with fail
                    go_quiet (fail)
                    go_wp2_with fail
                    go_quiet (fail)
                    go_wp2_with fail
                    go_quiet (fail)
                    go_wp2
                    go_roundw
                    case rel =>
                      obtain ⟨q1, hq1⟩ := hdx.drewN (_ + _ + _)
                      exact ⟨j + 1, I + 1, q1, by omega, Lib.hid (by have := HI.out; omega), by go_num, by rw [EP.out], by rw [EQ.out], hq1⟩
                    case measure => have := HI.out; simp [intOf]; omega
                · have EP := Lib.hid (AP.out.trans (show (true || (false && x == lo)) = true from rfl))
                  have EQ := Lib.hid (AQ.out.trans (show (true || (false && x == hi)) = true from rfl))
                  clear AP AQ hins hso
                  as_aux_lemma =>
                    go_wp2_with fail
                    go_quiet (fail)
                    go_wp2_with fail
                    go_quiet (fail)
                    go_wp2_with fail
                    go_quiet (fail)
                    go_wp2
                    go_roundw
                    case rel =>
                      obtain ⟨q1, hq1⟩ := hdx.drewN (_ + _ + _)
                      exact ⟨j + 1, I + 1, q1, by omega, Lib.hid (by have := HI.out; omega), by go_num, by rw [EP.out], by rw [EQ.out], hq1⟩
                    case measure => have := HI.out; simp [intOf]; omega
            · obtain rfl := hso rfl
              obtain ⟨hlo, hhi⟩ := hins rfl
              have r1 : ¬ x < lo := by omega
              have r2 : ¬ hi < x := by omega
              cases P
              · rcases hxl : (x == lo) with _ | _
                · have EP := Lib.hid (AP.out.trans (show (false || (true && x == lo)) = false by rw [hxl]; rfl))
                  cases Q
                  · rcases hxh : (x == hi) with _ | _
                    · have EQ := Lib.hid (AQ.out.trans (show (false || (true && x == hi)) = false by rw [hxh]; rfl))
                      clear AP AQ hins hso
                      as_aux_lemma =>
                        go_wp2_with fail
                        go_quiet (fail)
                        go_wp2_with fail
                        go_quiet (fail)
                        go_wp2_with fail
                        go_quiet (fail)
                        go_wp2
                        go_roundw
                        case rel =>
                          obtain ⟨q1, hq1⟩ := hdx.drewN (_ + _ + _)
                          exact ⟨j + 1, I + 1, q1, by omega, Lib.hid (by have := HI.out; omega), by go_num, by rw [EP.out], by rw [EQ.out], hq1⟩
                        case measure => have := HI.out; simp [intOf]; omega
                    · have EQ := Lib.hid (AQ.out.trans (show (false || (true && x == hi)) = true by rw [hxh]; rfl))
                      clear AP AQ hins hso
                      as_aux_lemma =>
                        go_wp2_with fail
                        go_quiet (fail)
                        go_wp2_with fail
                        go_quiet (fail)
                        go_wp2_with fail
                        go_quiet (fail)
                        go_wp2
                        go_roundw
                        case rel =>
                          obtain ⟨q1, hq1⟩ := hdx.drewN (_ + _ + _)
                          exact ⟨j + 1, I + 1, q1, by omega, Lib.hid (by have := HI.out; omega), by go_num, by rw [EP.out], by rw [EQ.out], hq1⟩
                        case measure => have := HI.out; simp [intOf]; omega
                  · have EQ := Lib.hid (AQ.out.trans (show (true || (true && x == hi)) = true from rfl))
                    clear AP AQ hins hso
                    as_aux_lemma =>
                      go_wp2_with fail
                      go_quiet (fail)
                      go_wp2_with fail
                      go_quiet (fail)
                      go_wp2_with fail
                      go_quiet (fail)
                      go_wp2
                      go_roundw
                      case rel =>
                        obtain ⟨q1, hq1⟩ := hdx.drewN (_ + _ + _)
                        exact ⟨j + 1, I + 1, q1, by omega, Lib.hid (by have := HI.out; omega), by go_num, by rw [EP.out], by rw [EQ.out], hq1⟩
                      case measure => have := HI.out; simp [intOf]; omega
                · have EP := Lib.hid (AP.out.trans (show (false || (true && x == lo)) = true by rw [hxl]; rfl))
                  cases Q
                  · rcases hxh : (x == hi) with _ | _
                    · have EQ := Lib.hid (AQ.out.trans (show (false || (true && x == hi)) = false by rw [hxh]; rfl))
                      clear AP AQ hins hso
                      as_aux_lemma =>
                        go_wp2_with fail
                        go_quiet (fail)
                        go_wp2_with fail
                        go_quiet (fail)
                        go_wp2_with fail
                        go_quiet (fail)
                        go_wp2
                        go_roundw
                        case rel =>
                          obtain ⟨q1, hq1⟩ := hdx.drewN (_ + _ + _)
                          exact ⟨j + 1, I + 1, q1, by omega, Lib.hid (by have := HI.out; omega), by go_num, by rw [EP.out], by rw [EQ.out], hq1⟩
                        case measure => have := HI.out; simp [intOf]; omega
                    · have EQ := Lib.hid (AQ.out.trans (show (false || (true && x == hi)) = true by rw [hxh]; rfl))
                      clear AP AQ hins hso
                      as_aux_lemma =>
                        go_wp2_with fail
                        go_quiet (fail)
                        go_wp2_with fail
                        go_quiet (fail)
                        go_wp2_with fail
                        go_quiet (fail)
                        go_wp2
                        go_roundw
                        case rel =>
                          obtain ⟨q1, hq1⟩ := hdx.drewN (_ + _ + _)
                          exact ⟨j + 1, I + 1, q1, by omega, Lib.hid (by have := HI.out; omega), by go_num, by rw [EP.out], by rw [EQ.out], hq1⟩
                        case measure => have := HI.out; simp [intOf]; omega
                  · have EQ := Lib.hid (AQ.out.trans (show (true || (true && x == hi)) = true from rfl))
                    clear AP AQ hins hso
                    as_aux_lemma =>
                      go_wp2_with fail
                      go_quiet (fail)
                      go_wp2_with fail
                      go_quiet (fail)
                      go_wp2_with fail
                      go_quiet (fail)
                      go_wp2
                      go_roundw
                      case rel =>
                        obtain ⟨q1, hq1⟩ := hdx.drewN (_ + _ + _)
                        exact ⟨j + 1, I + 1, q1, by omega, Lib.hid (by have := HI.out; omega), by go_num, by rw [EP.out], by rw [EQ.out], hq1⟩
                      case measure => have := HI.out; simp [intOf]; omega
              · have EP := Lib.hid (AP.out.trans (show (true || (true && x == lo)) = true from rfl))
                cases Q
                · rcases hxh : (x == hi) with _ | _
                  · have EQ := Lib.hid (AQ.out.trans (show (false || (true && x == hi)) = false by rw [hxh]; rfl))
                    clear AP AQ hins hso
                    as_aux_lemma =>
                      go_wp2_with fail
                      go_quiet (fail)
                      go_wp2_with fail
                      go_quiet (fail)
                      go_wp2_with fail
                      go_quiet (fail)
                      go_wp2
                      go_roundw
                      case rel =>
                        obtain ⟨q1, hq1⟩ := hdx.drewN (_ + _ + _)
                        exact ⟨j + 1, I + 1, q1, by omega, Lib.hid (by have := HI.out; omega), by go_num, by rw [EP.out], by rw [EQ.out], hq1⟩
                      case measure => have := HI.out; simp [intOf]; omega
                  · have EQ := Lib.hid (AQ.out.trans (show (false || (true && x == hi)) = true by rw [hxh]; rfl))
                    clear AP AQ hins hso
                    as_aux_lemma =>
                      go_wp2_with fail
                      go_quiet (fail)
                      go_wp2_with fail
                      go_quiet (fail)
                      go_wp2_with fail
                      go_quiet (fail)
                      go_wp2
                      go_roundw
                      case rel =>
                        obtain ⟨q1, hq1⟩ := hdx.drewN (_ + _ + _)
                        exact ⟨j + 1, I + 1, q1, by omega, Lib.hid (by have := HI.out; omega), by go_num, by rw [EP.out], by rw [EQ.out], hq1⟩
                      case measure => have := HI.out; simp [intOf]; omega
                · have EQ := Lib.hid (AQ.out.trans (show (true || (true && x == hi)) = true from rfl))
                  clear AP AQ hins hso
                  as_aux_lemma =>
                    go_wp2_with fail
                    go_quiet (fail)
                    go_wp2_with fail
                    go_quiet (fail)
                    go_wp2_with fail
                    go_quiet (fail)
                    go_wp2
                    go_roundw
                    case rel =>
                      obtain ⟨q1, hq1⟩ := hdx.drewN (_ + _ + _)
                      exact ⟨j + 1, I + 1, q1, by omega, Lib.hid (by have := HI.out; omega), by go_num, by rw [EP.out], by rw [EQ.out], hq1⟩
                    case measure => have := HI.out; simp [intOf]; omega
          · rw [List.take_of_length_le (by have := Hq.out; omega)]
            have HSx := Lib.hid (fun u => HSo.out (wr.drewN u) (hdx.drewN u))
            have hgz := guard_zone
            have hend : (I : Int) < (n : Int) → ¬ (I : Int) < 16 * (k : Int) + 16 := by have := HI.out; have := Hgl.out; omega
            cases s
            · have hz := S3.out rfl
              simp only [Prod.mk.injEq, true_and] at hz
              obtain ⟨rfl, rfl⟩ := hz
              have hrun := fun W => run_eq_zone false false 0 0 0 0 W
              rw [decide_eq_true rfl] at hrun
              generalize (cs.any fun c => c.1 && c.2 == 0) = P at *
              by_cases hin : (I : Int) < (n : Int)
              · have n2 := hend hin
                clear hend
                as_aux_lemma =>
                  go_wp2_with fail
                  go_quiet ((go_at_call 25; exact quiet_left (HSx.out _)))
                  go_wp2
                  go_roundw
                  case rel => obtain ⟨q1, hq1⟩ := (hdr.trans hdx).drewN _; exact ⟨k + 1, q1, by omega, by go_num, hq1⟩
                  case measure => simp [intOf]; omega
              · clear hend
                as_aux_lemma =>
                  go_wp2_with fail
                  go_quiet ((go_at_call 25; exact quiet_left (HSx.out _)))
                  go_wp2
                  go_roundw
                  case rel => obtain ⟨q1, hq1⟩ := (hdr.trans hdx).drewN _; exact ⟨k + 1, q1, by omega, by go_num, hq1⟩
                  case measure => simp [intOf]; omega
            · obtain ⟨e1, e2⟩ := S2.out rfl
              rw [e1, e2]
              clear e1 e2
              by_cases hin : (I : Int) < (n : Int)
              · have n2 := hend hin
                clear hend
                as_aux_lemma =>
                  go_wp2_with fail
                  go_quiet ((go_at_call 25; exact quiet_left (HSx.out _)))
                  go_wp2
                  go_roundw
                  case rel => obtain ⟨q1, hq1⟩ := (hdr.trans hdx).drewN _; exact ⟨k + 1, q1, by omega, by go_num, hq1⟩
                  case measure => simp [intOf]; omega
              · clear hend
                as_aux_lemma =>
                  go_wp2_with fail
                  go_quiet ((go_at_call 25; exact quiet_left (HSx.out _)))
                  go_wp2
                  go_roundw
                  case rel => obtain ⟨q1, hq1⟩ := (hdr.trans hdx).drewN _; exact ⟨k + 1, q1, by omega, by go_num, hq1⟩
                  case measure => simp [intOf]; omega
      · have hCk : k = C := by omega
        have hfin : ((n : Int) + 15).tdiv 16 = (C : Int) := by
          have h1 := (Int.ofNat_tdiv (n + 15) 16).symm
          have h2 : ((n : Int) + 15).tdiv 16 = (((n + 15) / 16 : Nat) : Int) := by simpa using h1
          rw [h2, HC.out]
        subst hCk
        go_wp2
        go_ret
        exact ⟨rfl, hb12.trans (hdr.below _)⟩

set_option maxRecDepth 100000 in
/-- from the walk to the post of the row -/
theorem contract (H : Type) (enc : TypeId × Value → H) (W : World) (base : Nat) (args : Array Value) (ds gs : List (DataW H)) (before : List MemPlace)
    (hval : ∀ (j : Nat) t v, Try.f8.params[j]? = some t → args[j]? = some v → Value.okWide Try.prog W .any base t v)
    (hW : DataW.Whole enc Try.prog Try.f8.params.toList Rows.intsHoldSpec.vars false W args.toList ds gs before) (_ : laidMetH Try.prog Rows.intsHoldRow.laid W)
    (hsz0 : (DataW.weightsEach Try.prog (Try.f8.params.toList ++ Rows.intsHoldSpec.plain.varTypes Try.prog) (ds ++ gs)).all (· ≤ reachBytes) = true) :
    Calls Try.prog 8 args W fun e W' => ∃ v, e = .returned v ∧ Rows.intsHoldSpec.post enc Try.prog Try.f8 false true false false W args v W' := by
  have hW' := hW
  obtain ⟨p, q, hA0, hV, rfl, hfz, hnd⟩ := hW
  have hA : DataW.TrodAll enc Try.prog W 0 (fun _ => true) true Try.f8.params.toList args.toList ds p := hA0
  rw [Try.params8] at hA hval hsz0
  obtain ⟨v0, vs0, d0, ds0, p0, q0, hargs, rfl, rfl, h0, r0⟩ := trodAll_cons hA
  obtain ⟨rfl, rfl, rfl⟩ := trodAll_nil r0
  obtain rfl : args = #[v0] := by cases args; simp_all
  obtain ⟨rfl, rfl⟩ := trodVars_none hV
  obtain ⟨a0, len0, cap0, rfl⟩ := okWide_slice Try.underlying23 (hval 0 23 v0 rfl rfl)
  have lt0 : ∀ x ∈ p0, x.block < W.heap.size := by obtain ⟨m, hm⟩ := h0; exact DataW.trod_lt m _ _ _ hm
  obtain ⟨l0, e0, ec0, ef0, b0, k0⟩ := open_cells h0
  have reach0 := reach_cells hsz0 (j := 0) rfl rfl k0
  clear hA0
  refine (walk a0 len0 cap0 l0 W e0 ec0 reach0 ef0 b0).mono fun e W' ⟨he, bel⟩ => ?_
  subst he
  exact ⟨_, rfl, _, _, _, [], _, [], hW', trodAll_mk1 (shut_bool Try.underlying4 _), (trodAll_cons_mk (Below.trod laidOut (by kernel_rfl) (of_decide_eq_true (by kernel_rfl)) h0 bel lt0) trodAll_mk0), rfl, bel.frame _, fun h => by cases h⟩

theorem laid_met (os : Os) : laidMet Try.prog Rows.intsHoldRow.laid ((World.holding Try.prog os ⟨#[], #[], []⟩).forCall (fun _ _ => 0) ⟨#[], #[.slice none 0 0], []⟩).memory :=
  laidMet_of_run' 8 (by kernel_rfl) (by kernel_rfl)
theorem reads (os : Os) {H : Type} (enc : TypeId × Value → H) : ∃ places, DataW.whole enc Try.prog ((World.holding Try.prog os ⟨#[], #[], []⟩).forCall (fun _ _ => 0) ⟨#[], #[.slice none 0 0], []⟩).memory Try.f8.params.toList Rows.intsHoldSpec.vars false #[Value.slice none 0 0].toList 8 = some ([.nil], [], places) :=
  ⟨[], by kernel_rfl⟩

set_option maxRecDepth 100000 in
theorem lifted (os : Os) (started : os.Started) (H : Type) (enc : TypeId × Value → H) (F : Stop.Interp) :
    ReturnsInHanded {} Try.checked os 8 .any ((OpenSpec.ofChange Rows.intsHoldSpec).preRow enc Try.prog Try.f8 Rows.intsHoldRow.domain false Rows.intsHoldRow.laid) (((OpenSpec.ofChange Rows.intsHoldSpec).at F).post enc Try.prog Try.f8 false true false false) := by
  obtain ⟨places, hx⟩ := reads os enc
  refine returnsInHanded_of_row (C := Try.checked) (s := OpenSpec.ofChange Rows.intsHoldSpec) own started (by kernel_rfl) Try.func8
    (witness_row_at (enc := enc) (C := Try.checked) false (World.holding Try.prog os ⟨#[], #[], []⟩) #[.slice none 0 0] rfl (by kernel_rfl) (by kernel_rfl) (by kernel_rfl)
      (OpenSpec.preRow_of_cond 8 hx (by kernel_rfl) (fun k hk => by cases hk) (by kernel_rfl) (laid_met os))) ?_
  intro W base args ds gs before hval hW _ _ hsz hL _ _
  exact contract H enc W base args ds gs before hval hW hL hsz

theorem said : Rows.IntsHoldSaid :=
  OpenClaim.holds_of_cond 8 Try.f8 rfl rfl rfl rfl rfl rfl rfl ⟨rfl, rfl, rfl, rfl, rfl⟩ rfl rfl rfl rfl rfl (by kernel_rfl) Try.func8 (by kernel_rfl)
    (of_decide_eq_true (by kernel_rfl)) (by unfold Func.isWrapper; first | (rw [if_pos (by decide +kernel)]; kernel_rfl) | (rw [if_neg (by decide +kernel)]; exact ⟨rfl, rfl⟩))
    (fun os started H enc _ F => by rw [OpenClaim.pre_eq_preRow]; exact lifted os started H enc F)

end Go.Proofs.Ytgjopffdgdimlaa.intsHold
