/- dragnetref05.Pack -/
import Derived.Test.YtonknkmbkfndcaaLzRefPart
namespace Go.Proofs.Ytonknkmbkfndcaa
open Go.RowKit

set_option maxHeartbeats 4000000 in
theorem refPack_any (A : Option Addr) (n cap B : Nat) (l : List UInt8) (w : World) (hl : l.length = n) (hcap : n ≤ cap) (hm : n ≤ 1000000000) (hb : Bytes w B A l) (hB : B ≤ w.heap.size) :
    Calls Try.prog 12 #[.slice A n cap] w (MadeAt w.heap.size w (Lz.packed l).length (Lz.packed l)) := by
  have hXl := Lz.packed_length l
  rw [hl] at hXl
  obtain ⟨X, hX⟩ : ∃ X, X = Lz.packed l := ⟨_, rfl⟩
  rw [← hX] at hXl ⊢
  have HX := Lib.hid (show Lz.pack l (n + 1) 0 0 = X from by rw [hX, Lz.packed, hl])
  have Hl := Lib.hid hl
  have hb := hb.wide hB
  clear hX hl hB
  have HF := Lib.hid fun p w' h4 hbw => before_any A n cap w.heap.size p l w' Hl.out h4 (by omega) hbw
  go_enter Try.func12, Try.ntmps12
  go_wp2
  generalize hGe : w.heap.size = G at *
  have HGe := Lib.hid hGe; clear hGe
  go_loopw [3, 4, 5] (fun o s i wr => ∃ (m s' p f : Nat) (A' : Option Addr) (c' : Nat) (T : List UInt8), o = .slice A' m c' ∧ s = .int .i64 s' ∧ i = .int .i64 p ∧ s' ≤ p ∧ p ≤ n ∧ n - p < f ∧ T ++ Lz.pack l f s' p = X ∧ Own wr G A' m c' T ∧ Below G w wr ∧ G ≤ wr.heap.size) (fun _ _ i _ => n - (intOf i).toNat)
  case atStart => exact ⟨0, 0, 0, n + 1, none, 0, [], rfl, rfl, rfl, Nat.le_refl _, Nat.zero_le _, by omega, HX.out, own_none2 _ _, Below.refl _ _, Nat.le_of_eq HGe.out.symm⟩
  case round =>
    clear HX
    obtain ⟨m, s, p, f, A', c', T, rfl, rfl, rfl, hsp, hpn, hf, hX, ho, hbel, hGr⟩ := hrel
    obtain ⟨f, rfl⟩ : ∃ f', f = f' + 1 := ⟨f - 1, by omega⟩
    have hTl := ho.len
    have hmX : m ≤ X.length := by rw [← hX, List.length_append, hTl]; omega
    have hbr := hb.below hbel
    rw [Lz.pack] at hX
    by_cases h4 : p + 4 ≤ n
    · rw [if_pos (by rw [Hl.out]; exact h4)] at hX
      have H1 := HF.out p wr h4 hbr
      have h4' : (4 : Int) ≤ (n : Int) - (p : Int) := by omega
      rcases hbf : Lz.before l p p with _ | k
      · rw [hbf] at hX H1
        simp only [lastVal] at H1
        dsimp only at hX
        replace H1 := Lib.hid H1
        have HX := Lib.hid hX
        clear hX hTl hbf hbr
        go_wp2_with fail
        refine H1.out.mono ?_
        rintro e w1 ⟨rfl, hd1⟩
        have ho1 := ho.below (hd1.below _)
        have hbel1 := hbel.trans (hd1.below _)
        have hG1 : G ≤ w1.heap.size := Nat.le_trans hGr (hd1.below 0).size
        clear H1 hd1 ho hbel
        go_wp2
        go_roundw
        case rel => exact ⟨m, s, p + 1, f, A', c', T, rfl, rfl, by go_num, by omega, by omega, by omega, HX.out, ho1, hbel1, hG1⟩
        case measure => simp [intOf]; omega
      · have hlast := Lz.before_last l p
        rw [hbf] at hX H1 hlast
        simp only [lastVal] at H1
        dsimp only at hX
        have hkp := hlast.1
        have hkd := hlast.2.1
        have hN4 := Lz.cpl_four hkp (by rw [Hl.out]; exact h4) hlast.2.2.1
        have hNn := Lz.cpl_le (b := l) hkp (by rw [Hl.out]; exact hpn)
        rw [Hl.out] at hNn
        generalize Lz.cpl (l.drop k) (l.drop p) = N at *
        have hls : ((l.drop s).take (p - s)).length = p - s := by rw [List.length_take, List.length_drop, Hl.out]; omega
        have hpx : m + (Lz.part ((l.drop s).take (p - s)) (p - k) N).length ≤ X.length := by rw [← hX, List.length_append, List.length_append, hTl]; omega
        rw [← List.append_assoc] at hX
        have hrun := run_cut_lh A n cap s p hsp (by omega)
        have H3 := fun wq hbw => refPart_any (cutAt A cap s) (p - s) (cap - s) (p - k) N ((l.drop s).take (p - s)) wq hls hbw (by omega) (by omega) (by omega) hN4.1 (by omega)
        have hcutB := fun wq C (h : Bytes wq C A l) => (h.cut (k := s) (cap := cap) (by rw [Hl.out]; omega) (by rw [Hl.out]; omega)).take (p - s)
        rw [show ((p - k : Nat) : Int) = (p : Int) - (k : Int) from by omega] at H3
        generalize cutAt A cap s = As at *
        generalize (l.drop s).take (p - s) = Y at *
        generalize Lz.part Y (p - k) N = PT at *
        generalize p - s = ls at *
        generalize cap - s = cs at *
        replace H1 := Lib.hid H1
        replace H3 := Lib.hid H3
        have HcB := Lib.hid hcutB
        have HX := Lib.hid hX
        have HN4 := Lib.hid hN4
        have hN4' := hN4.1
        clear hX hTl hbf hbr hlast hls hcutB hN4
        have hkneg : ¬ ((k : Int) < 0) := by omega
        go_wp2_with fail
        refine H1.out.mono ?_
        rintro e w1 ⟨rfl, hd1⟩
        have ho1 := ho.below (hd1.below _)
        have hbel1 := hbel.trans (hd1.below _)
        have hG1 : G ≤ w1.heap.size := Nat.le_trans hGr (hd1.below 0).size
        clear H1 hd1 ho hbel
        go_wp2
        go_loopw [7] (fun t wq => ∃ (j : Nat), 4 ≤ j ∧ j ≤ N ∧ t = .int .i64 j ∧ j + Lz.cpl (l.drop (k + j)) (l.drop (p + j)) = N ∧ Own wq G A' m c' T ∧ Below G w wq ∧ G ≤ wq.heap.size) (fun t _ => N - (intOf t).toNat)
        case atStart => exact ⟨4, by omega, hN4', rfl, HN4.out.2.symm, ho1, hbel1, hG1⟩
        case round =>
          clear ho1 hbel1 hG1
          obtain ⟨j, hj4, hj, rfl, hc, ho, hbel, hGq⟩ := hrel
          have hb1 := hb.below hbel
          have hs := Lz.cpl_step (b := l) (k := k + j) (i := p + j) (by omega)
          by_cases h1 : p + j < n
          · have h1' : p + j < l.length := by have := Hl.out; omega
            have h1'' : (p : Int) + (j : Int) < (n : Int) := by omega
            have d1 : decide ((p : Int) + (j : Int) < (n : Int)) = true := decide_eq_true h1''
            obtain ⟨ad, rfl⟩ := hb1.addr (k := p + j) h1'
            have c0 := hb1.at_ (k := k + j) (by omega)
            have c1 := hb1.at_ (k := p + j) h1'
            have x0 := run_index_at ad n cap (k + j) (by omega)
            have x1 := run_index_at ad n cap (p + j) (by omega)
            rw [Int.natCast_add] at x0 x1
            by_cases h2 : Lz.at_ l (k + j) = Lz.at_ l (p + j)
            · have Hc := Lib.hid hc
              rw [if_pos ⟨h1', h2⟩] at hs
              have Hs := Lib.hid hs
              have hjN : j + 1 ≤ N := by rw [hs] at hc; omega
              rw [h2] at c0
              generalize Lz.at_ l (p + j) = z at *
              generalize ad.add (k + j) = p0 at *
              generalize ad.add (p + j) = p1 at *
              have d2 : ((z : Int) == (z : Int)) = true := by simp
              clear h2 h1' hs hc hb1
              go_wp2_with fail
              go_quiet (fail)
              go_wp2
              go_roundw
              case rel => exact ⟨j + 1, by omega, hjN, by go_num, by rw [← Hc.out, Hs.out]; simp only [Nat.add_assoc]; omega, ho.below ((Drawn.drewN (Drawn.refl _) _).below _), hbel.trans ((Drawn.drewN (Drawn.refl _) _).below _), hGq⟩
              case measure => simp [intOf]; omega
            · rw [if_neg (fun e => h2 e.2)] at hs
              have d2 : (((Lz.at_ l (k + j) : Nat) : Int) == ((Lz.at_ l (p + j) : Nat) : Int)) = false := by simp; omega
              have hjN : j = N := by rw [hs] at hc; omega
              generalize Lz.at_ l (k + j) = z0 at *
              generalize Lz.at_ l (p + j) = z at *
              generalize ad.add (k + j) = p0 at *
              generalize ad.add (p + j) = p1 at *
              clear h2 h1' hs hc hb1
              subst hjN
              go_wp2_with fail
              go_quiet (fail)
              rename_i nq
              have ho2 := ho.below ((Drawn.drewN (Drawn.refl _) nq).below _)
              have hbel2 := hbel.trans ((Drawn.drewN (Drawn.refl _) nq).below _)
              have hGq2 := hGq
              go_wp2_with fail
              refine (H3.out _ ((HcB.out _ _ (hb.below hbel2)).wide hGq2)).mono ?_
              rintro e w3 ⟨A3, c3, rfl, ho3, hb3⟩
              have ho4 := ho2.below hb3
              have hbel3 := hbel2.trans (hb3.mono hGq2)
              have hG3 : G ≤ w3.heap.size := Nat.le_trans hGq2 hb3.size
              have hbP := ho3.bytes
              clear H3 ho2 hbel2 hb3 ho3 HcB
              go_wp2_with (at_builtin; refine wpList_append_bytes rfl (.tmp 43) (.tmp 52) rfl G A' m c' T rfl ho4 _ A3 _ c3 PT rfl rfl hbP (by omega) hG3 ?_; intro A5 c5 w5 ho5 hg5 hat5)
              have hbel5 := hbel3.grown hg5 hG3 (fun k hk => (ho4.lt hk).1)
              have hG5 : G ≤ w5.heap.size := Nat.le_trans hG3 hg5.size
              go_roundw
              case rel => exact ⟨m + PT.length, p + j, p + j, f, A5, c5, T ++ PT, rfl, by go_num, by go_num, Nat.le_refl _, by omega, by omega, HX.out, ho5, hbel5, hG5⟩
              case measure => simp [intOf]; omega
          · rw [if_neg (by have := Hl.out; omega)] at hs
            have hjN : j = N := by rw [hs] at hc; omega
            have d1 : decide ((p : Int) + (j : Int) < (n : Int)) = false := decide_eq_false (by omega)
            have h1'' : ¬ ((p : Int) + (j : Int) < (n : Int)) := by omega
            clear hs hc hb1
            subst hjN
            go_wp2_with fail
            go_quiet (fail)
            rename_i nq
            have ho2 := ho.below ((Drawn.drewN (Drawn.refl _) nq).below _)
            have hbel2 := hbel.trans ((Drawn.drewN (Drawn.refl _) nq).below _)
            have hGq2 := hGq
            go_wp2_with fail
            refine (H3.out _ ((HcB.out _ _ (hb.below hbel2)).wide hGq2)).mono ?_
            rintro e w3 ⟨A3, c3, rfl, ho3, hb3⟩
            have ho4 := ho2.below hb3
            have hbel3 := hbel2.trans (hb3.mono hGq2)
            have hG3 : G ≤ w3.heap.size := Nat.le_trans hGq2 hb3.size
            have hbP := ho3.bytes
            clear H3 ho2 hbel2 hb3 ho3 HcB
            go_wp2_with (at_builtin; refine wpList_append_bytes rfl (.tmp 43) (.tmp 52) rfl G A' m c' T rfl ho4 _ A3 _ c3 PT rfl rfl hbP (by omega) hG3 ?_; intro A5 c5 w5 ho5 hg5 hat5)
            have hbel5 := hbel3.grown hg5 hG3 (fun k hk => (ho4.lt hk).1)
            have hG5 : G ≤ w5.heap.size := Nat.le_trans hG3 hg5.size
            go_roundw
            case rel => exact ⟨m + PT.length, p + j, p + j, f, A5, c5, T ++ PT, rfl, by go_num, by go_num, Nat.le_refl _, by omega, by omega, HX.out, ho5, hbel5, hG5⟩
            case measure => simp [intOf]; omega
    · rw [if_neg (by rw [Hl.out]; exact h4)] at hX
      have h4' : ¬ ((4 : Int) ≤ (n : Int) - (p : Int)) := by omega
      have hls : (l.drop s).length = n - s := by rw [List.length_drop, Hl.out]
      have hrun := run_cut_l A n cap s (by omega)
      have hcut := (hbr.wide hGr).cut (k := s) (cap := cap) (by rw [Hl.out]; omega) (by rw [Hl.out]; omega)
      have H1 := refLast_any (cutAt A cap s) (n - s) (cap - s) (l.drop s) wr hls hcut (by omega)
      have hXX : m + (Lz.lits (l.drop s) 0).length = X.length := by rw [← hX, List.length_append, hTl]
      generalize cutAt A cap s = As at *
      generalize n - s = ls at *
      generalize cap - s = cs at *
      replace H1 := Lib.hid H1
      generalize Lz.lits (l.drop s) 0 = PT at *
      have HXX := Lib.hid hXX
      have HX := Lib.hid hX
      have hmb : m + PT.length ≤ 140737488355328 := by omega
      clear hXX hX hcut hls hTl
      go_wp2_with fail
      refine H1.out.mono ?_
      rintro e w1 ⟨A1, c1, rfl, ho1, hb1⟩
      have ho2 := ho.below hb1
      have hbel1 := hbel.trans (hb1.mono hGr)
      have hG1 : G ≤ w1.heap.size := Nat.le_trans hGr hb1.size
      have hbP := ho1.bytes
      clear H1 ho hbel
      go_wp2_with (at_builtin; refine wpList_append_bytes rfl (.tmp 58) (.tmp 62) rfl G A' m c' T rfl ho2 _ A1 _ c1 PT rfl rfl hbP (by omega) hG1 ?_; intro A4 c4 w4 ho4 hg4 hat4)
      go_ret
      rw [HX.out, HXX.out] at ho4
      exact ⟨A4, c4, by rw [← HXX.out]; rfl, ho4, hbel1.grown hg4 hG1 (fun k hk => (ho2.lt hk).1)⟩
end Go.Proofs.Ytonknkmbkfndcaa
