/- dragnetref05.Unpack -/
import Derived.Test.YtonknkmbkfndcaaLzRefB
import Derived.Test.YtonknkmbkfndcaaLzUnp
namespace Go.Proofs.Ytonknkmbkfndcaa
open Go.RowKit

theorem run_index_own2 (g m c i : Nat) (hi : i < m) (u : World) : (Instr.indexAt 22 (.slice (some ⟨g, 0, none⟩) m c) (.int .i64 (i : Int))).run Try.prog u = .ok (.pointer (some ⟨g, i, none⟩)) u := by
  obtain ⟨i0, hi0, hz0, hz1, hz2⟩ := info_parts byte_info
  have he : Try.prog.elem 22 = 5 := by kernel_rfl
  rw [run_indexAt_slice _ _ _ _ _ _ _ Try.underlying22, if_pos ⟨by omega, by omega⟩, he]
  by_cases h0 : i = 0 <;> simp [sizeOf, typeInfo, hi0, hz1, Addr.add, h0]

theorem Bytes.idx {w : World} {B : Nat} {A : Option Addr} {l : List UInt8} (h : Bytes w B A l) {k : Nat} (hk : k < l.length) :
    ∃ p : Addr, (∀ w', Below B w w' → w'.cell? p = some (.int .u8 (Lz.at_ l k : Int))) ∧ ∀ n c u, k < n → (Instr.indexAt 22 (.slice A n c) (.int .i64 (k : Int))).run Try.prog u = .ok (.pointer (some p)) u := by
  obtain ⟨ad, rfl⟩ := h.addr hk
  exact ⟨ad.add k, fun w' hb => (h.below hb).at_ hk, fun n c u hn => run_index_at ad n c k hn u⟩
theorem Own.cellD {w : World} {base g : Nat} {n c : Nat} {l : List UInt8} (h : Own w base (some ⟨g, 0, none⟩) n c l) {k : Nat} (hk : k < l.length) : w.cell? ⟨g, k, none⟩ = some (.int .u8 ((l.getD k 0).toNat : Int)) := by
  rw [h.cell hk]
  simp [List.getD_eq_getElem?_getD, List.getElem?_eq_getElem hk]

set_option maxRecDepth 100000 in
set_option maxHeartbeats 8000000 in
theorem refUnpack_pos (A : Option Addr) (n cap B : Nat) (l : List UInt8) (most : Nat) (w : World) (hl : l.length = n) (hcap : n ≤ cap) (hm : n ≤ 140737488355328) (hmost : most ≤ 100000000) (hb : Bytes w B A l) (hB : B ≤ w.heap.size) :
    Calls Try.prog 14 #[.slice A n cap, .int .i64 (most : Int)] w (UnPost w (Lz.run most (n + 1) l [])) := by
  generalize hR : Lz.run most (n + 1) l [] = R
  have HR0 := Lib.hid hR; clear hR
  have Hl := Lib.hid hl; clear hl
  have hb := hb.wide hB
  clear hB
  have hmost0 : ¬ ((most : Int) < 0) := by omega
  go_enter Try.func14, Try.ntmps14
  go_wp2
  generalize hGe : w.heap.size = G at *
  have HGe := Lib.hid hGe; clear hGe
  go_loopw [6, 7] (fun o i wr => ∃ (p f m : Nat) (A' : Option Addr) (c' : Nat) (out : List UInt8), o = .slice A' m c' ∧ i = .int .i64 p ∧ p ≤ n ∧ n - p < f ∧ Lz.run most f (l.drop p) out = R ∧ m ≤ most ∧ Own wr G A' m c' out ∧ Below G w wr ∧ G ≤ wr.heap.size) (fun _ i _ => n - (intOf i).toNat)
  case atStart => exact ⟨0, n + 1, 0, none, 0, [], rfl, rfl, Nat.zero_le _, by omega, HR0.out, Nat.zero_le _, own_none2 _ _, Below.refl _ _, Nat.le_of_eq HGe.out.symm⟩
  case round =>
    clear HR0
    obtain ⟨p, f, m, A', c', out, rfl, rfl, hpn, hf, hR, hmm, ho, hbel, hGr⟩ := hrel
    obtain ⟨f, rfl⟩ : ∃ f', f = f' + 1 := ⟨f - 1, by omega⟩
    have hlo := ho.len
    by_cases hp : p < n
    · have hpl : p < l.length := by rw [Hl.out]; exact hp
      rw [List.drop_eq_getElem_cons hpl, Lz.run_cons, hlo] at hR
      obtain ⟨p0, hc0, hi0⟩ := hb.idx hpl
      have hcell := hc0 _ hbel
      rw [Lz.at_get hpl] at hcell
      have hidx := fun u => hi0 n cap u hp
      clear hc0 hi0
      obtain ⟨h, mm, hh, hmm15, e1, e2, hdiv, _⟩ := nibbles l[p]
      rw [e1, e2] at hR
      have hmod : ((l[p].toNat : Nat) : Int) % 16 = (mm : Int) := by omega
      have hx256 := l[p].toNat_lt
      generalize l[p].toNat = X at *
      have hp' : ¬ ((n : Int) ≤ (p : Int)) := by omega
      have hHR := Lib.hid hR
      clear hR hlo e1 e2 hpl
      go_wp2_with fail
      go_quiet (fail)
      rename_i nq
      replace ho := ho.below ((Drawn.drewN (Drawn.refl _) nq).below _)
      replace hbel := hbel.trans ((Drawn.drewN (Drawn.refl _) nq).below _)
      replace hGr : G ≤ (wr.drewN nq).heap.size := hGr
      rw [hmod]
      clear hcell hidx hdiv hmod hx256
      generalize wr.drewN nq = wr at *
      have hR := hHR.out
      clear hHR
      by_cases h15 : h = 15
      · subst h15
        have e : Lz.takeCount 15 (l.drop (p + 1)) = Lz.takeExt 15 (l.drop (p + 1)) := rfl
        rw [e] at hR
        obtain ⟨p1, hp1⟩ : ∃ p1, p1 = p + 1 := ⟨_, rfl⟩
        have hp1i : (p : Int) + 1 = (p1 : Int) := by omega
        have hp1n : p1 ≤ n := by omega
        have hp1p : p < p1 := by omega
        rw [← hp1] at hR
        clear hp1 e
        have S1 := sum_any A n cap G p1 l wr Hl.out hp1n (by omega) (hb.below hbel)
        have hck := fun c b2 => Lz.takeExt_length (l.drop p1) 15 c b2
        have hdl : (l.drop p1).length = n - p1 := by rw [List.length_drop, Hl.out]
        rw [hdl] at hck
        rcases hT : Lz.takeExt 15 (l.drop p1) with _ | ⟨c, b2⟩
        · rw [hT] at hR S1
          have HR2 := Lib.hid hR.symm
          replace S1 := Lib.hid S1
          clear hR hck hT ho hdl
          go_wp2_with fail
          refine S1.out.mono ?_
          rintro e w7 ⟨⟨v7, rfl⟩, rfl⟩
          clear S1
          go_wp2
          go_ret2
          rw [HR2.out]
          exact ⟨none, 0, rfl, own_none2 _ _, by rw [HGe.out]; exact hbel⟩
        · rw [hT] at hR S1
          dsimp only at hR
          obtain ⟨hl7, hb2, hc63⟩ := hck c b2 hT
          rw [List.drop_drop, show p1 + (n - p1 - b2.length) = n - b2.length from by omega] at hb2
          have hp5 : p1 < n - b2.length := by omega
          have hp5n : n - b2.length ≤ n := by omega
          unfold SumPost at S1
          dsimp only at S1
          generalize n - b2.length = p2 at *
          replace S1 := Lib.hid S1
          have hp2p : p < p2 := by omega
          have hc8 : (c : Int) ≤ 100000000000000000 := by omega
          clear hck hT hl7 hc63 hdl
          have HRX := Lib.hid hR
          have HB2 := Lib.hid hb2
          clear hR hb2
          go_wp2_with fail
          refine S1.out.mono ?_
          rintro e w7 ⟨rfl, rfl⟩
          clear S1
          have hp2neg : ¬ ((p2 : Int) < 0) := by omega
          have hR := HRX.out
          have hb2 := HB2.out
          clear HRX HB2
          have hl2 : b2.length = n - p2 := by rw [hb2, List.length_drop, Hl.out]
          rw [hl2] at hR
          by_cases h1 : most < m + c
          · rw [if_pos h1] at hR
            have HR2 := Lib.hid hR.symm
            have h1' : (most : Int) - (m : Int) < (c : Int) := by omega
            clear hR ho hl2 hb2
            go_wp2
            go_ret2
            rw [HR2.out]
            exact ⟨none, 0, rfl, own_none2 _ _, by rw [HGe.out]; exact hbel⟩
          · rw [if_neg h1] at hR
            have h1' : ¬ ((most : Int) - (m : Int) < (c : Int)) := by omega
            by_cases h2 : n - p2 < c
            · rw [if_pos h2] at hR
              have HR2 := Lib.hid hR.symm
              have h2' : (n : Int) - (p2 : Int) < (c : Int) := by omega
              clear hR ho hl2 hb2
              go_wp2
              go_ret2
              rw [HR2.out]
              exact ⟨none, 0, rfl, own_none2 _ _, by rw [HGe.out]; exact hbel⟩
            · rw [if_neg h2] at hR
              have h2' : ¬ ((n : Int) - (p2 : Int) < (c : Int)) := by omega
              obtain ⟨p3, hp3⟩ : ∃ p3, p3 = p2 + c := ⟨_, rfl⟩
              have hp3i : (p2 : Int) + (c : Int) = (p3 : Int) := by omega
              have hbr := hb.below hbel
              have hsrc := (hbr.cut (k := p2) (cap := cap) (by rw [Hl.out]; omega) (by rw [Hl.out]; omega)).take c
              rw [← hb2] at hsrc
              have hlsrc : (b2.take c).length = c := by rw [List.length_take, hl2]; omega
              have hrest : b2.drop c = l.drop p3 := by rw [hb2, List.drop_drop, hp3]
              rw [hrest] at hR
              have hrun := run_cut_lh A n cap p2 p3 (by omega) (by omega)
              rw [show p3 - p2 = c from by omega] at hrun
              generalize cutAt A cap p2 = As at *
              generalize cap - p2 = cs at *
              generalize hT3 : b2.take c = T3 at *
              have HT3 := Lib.hid hlsrc
              have hmc : m + c ≤ 140737488355328 := by omega
              have hp3n : p3 ≤ n := by omega
              have hp3p : p < p3 := by omega
              have hrl : (l.drop p3).length = n - p3 := by rw [List.length_drop, Hl.out]
              have Hm := Lib.hid (show m + c ≤ most from by omega)
              clear hT3 hlsrc hrest hl2 hb2 hbr
              have Hp3 := Lib.hid hp3; clear hp3
              rcases hT4 : l.drop p3 with _ | ⟨x, _ | ⟨y, b3⟩⟩
              · rw [hT4] at hR hrl
                obtain rfl : p3 = n := by simp at hrl; omega
                dsimp only at hR
                have HR2 := Lib.hid hR
                clear hR hrl hT4
                by_cases hm0 : mm = 0
                · subst hm0
                  have hc := fun A1 c1 w1 ho hG => copy_any A1 (m + c) c1 w1.heap.size (out ++ T3) w1 ho hmc (hG) (Nat.le_refl _)
                  replace hc := Lib.hid hc
                  go_wp2_with (at_builtin; refine wpList_append_bytes rfl (.tmp 53) (.tmp 59) rfl G A' m c' out rfl ho _ As c cs T3 rfl HT3.out hsrc (by omega) hGr ?_; intro A5 c5 w5 ho5 hg5 hat5)
                  have hbel5 := hbel.grown hg5 hGr (fun k hk => (ho.lt hk).1)
                  have hG5 : G ≤ w5.heap.size := Nat.le_trans hGr hg5.size
                  refine (hc.out A5 c5 w5 ho5.len ho5.bytes).mono ?_
                  rintro e w6 ⟨A6, c6, rfl, ho6, hb6⟩
                  have hlen6 := ho6.len
                  clear hc
                  go_wp2
                  go_ret2
                  have e := HR2.out
                  simp only [if_true] at e
                  subst e
                  exact ⟨A6, c6, by rw [hlen6]; rfl, by rw [hlen6, HGe.out]; exact ho6.low hG5, by rw [HGe.out]; exact hbel5.trans (hb6.mono hG5)⟩
                · have hm0' : ¬ ((mm : Int) = 0) := by omega
                  have hm0'' : ((mm : Int) != 0) = true := by simp; omega
                  have e := HR2.out
                  rw [if_neg hm0] at e
                  have HR3 := Lib.hid e.symm
                  clear e HR2 hm0
                  go_wp2_with (at_builtin; refine wpList_append_bytes rfl (.tmp 53) (.tmp 59) rfl G A' m c' out rfl ho _ As c cs T3 rfl HT3.out hsrc (by omega) hGr ?_; intro A5 c5 w5 ho5 hg5 hat5)
                  have hbel5 := hbel.grown hg5 hGr (fun k hk => (ho.lt hk).1)
                  go_ret2
                  rw [HR3.out]
                  exact ⟨none, 0, rfl, own_none2 _ _, by rw [HGe.out]; exact hbel5⟩
              · rw [hT4] at hR hrl
                have hn1 : n = p3 + 1 := by simp at hrl; omega
                have HR2 := Lib.hid hR.symm
                have e1 : ¬ ((p3 : Int) = (n : Int)) := by omega
                have e2 : (n : Int) - (p3 : Int) < 2 := by omega
                clear hR hrl hT4 hn1
                go_wp2_with (at_builtin; refine wpList_append_bytes rfl (.tmp 53) (.tmp 59) rfl G A' m c' out rfl ho _ As c cs T3 rfl HT3.out hsrc (by omega) hGr ?_; intro A5 c5 w5 ho5 hg5 hat5)
                have hbel5 := hbel.grown hg5 hGr (fun k hk => (ho.lt hk).1)
                go_ret2
                rw [HR2.out]
                exact ⟨none, 0, rfl, own_none2 _ _, by rw [HGe.out]; exact hbel5⟩
              · have hx0 : Lz.at_ l p3 = x.toNat := by
                  have e := Lz.getD_drop l p3 0
                  rw [hT4, Nat.add_zero] at e
                  unfold Lz.at_
                  rw [← e]; rfl
                have hy0 : Lz.at_ l (p3 + 1) = y.toNat := by
                  have e := Lz.getD_drop l p3 1
                  rw [hT4] at e
                  unfold Lz.at_
                  rw [← e]; rfl
                have hb3 : b3 = l.drop (p3 + 2) := by rw [← List.drop_drop, hT4]; rfl
                rw [hT4] at hR hrl
                have hn2 : p3 + 2 ≤ n := by simp at hrl; omega
                dsimp only at hR
                have e1 : ¬ ((p3 : Int) = (n : Int)) := by omega
                have e2 : ¬ ((n : Int) - (p3 : Int) < 2) := by omega
                have hx1 := x.toNat_lt
                have hy1 := y.toNat_lt
                have hd64 : x.toNat + 256 * y.toNat ≤ 65535 := by omega
                have hdi : ((x.toNat : Nat) : Int) + 256 * ((y.toNat : Nat) : Int) = ((x.toNat + 256 * y.toNat : Nat) : Int) := by omega
                obtain ⟨a0, hca, hia⟩ := hb.idx (k := p3) (by rw [Hl.out]; omega)
                obtain ⟨a1, hcb, hib⟩ := hb.idx (k := p3 + 1) (by rw [Hl.out]; omega)
                rw [hx0] at hca
                rw [hy0] at hcb
                have HCA := Lib.hid hca
                have HCB := Lib.hid hcb
                have r0 := fun u => hia n cap u (by omega)
                have r1 := fun u => hib n cap u (by omega)
                rw [show ((p3 + 1 : Nat) : Int) = (p3 : Int) + 1 from by omega] at r1
                clear hca hcb hia hib
                generalize x.toNat + 256 * y.toNat = d at *
                generalize x.toNat = x0 at *
                generalize y.toNat = y0 at *
                obtain ⟨p4, hp4⟩ : ∃ p4, p4 = p3 + 2 := ⟨_, rfl⟩
                have hp4i : (p3 : Int) + 2 = (p4 : Int) := by omega
                have hp4p : p < p4 := by omega
                have hp4n : p4 ≤ n := by omega
                rw [← hp4] at hb3
                clear hrl hT4 hx0 hy0 hn2 hp4
                go_wp2_with (at_builtin; refine wpList_append_bytes rfl (.tmp 53) (.tmp 59) rfl G A' m c' out rfl ho _ As c cs T3 rfl HT3.out hsrc (by omega) hGr ?_; intro A5 c5 w5 ho5 hg5 hat5)
                have hbel5 := hbel.grown hg5 hGr (fun k hk => (ho.lt hk).1)
                have hG5 : G ≤ w5.heap.size := Nat.le_trans hGr hg5.size
                have ca := HCA.out w5 hbel5
                have cb := HCB.out w5 hbel5
                clear hg5 hat5 ho hbel hGr hrun hsrc HT3 HCA HCB
                go_quiet (fail)
                rename_i nq
                replace ho5 := ho5.below ((Drawn.drewN (Drawn.refl _) nq).below _)
                replace hbel5 := hbel5.trans ((Drawn.drewN (Drawn.refl _) nq).below _)
                have hG5 : G ≤ (w5.drewN nq).heap.size := hG5
                clear ca cb r0 r1
                generalize w5.drewN nq = w6 at *
                have hmI : ((m + c : Nat) : Int) = (m : Int) + (c : Int) := by omega
                obtain ⟨m5, hm5⟩ : ∃ m5, m5 = m + c := ⟨_, rfl⟩
                have hm5i : (m : Int) + (c : Int) = (m5 : Int) := by omega
                rw [← hm5] at ho5 hR Hm hmc ⊢
                clear hm5 hmI
                generalize out ++ T3 = O5 at *
                have hm5m := Hm.out
                by_cases hd0 : d = 0 ∨ m5 < d
                · rw [if_pos hd0] at hR
                  have HR2 := Lib.hid hR.symm
                  clear hR ho5 hb3
                  by_cases hdz : d = 0
                  · subst hdz
                    clear hd0
                    go_wp2
                    go_ret2
                    rw [HR2.out]
                    exact ⟨none, 0, rfl, own_none2 _ _, by rw [HGe.out]; exact hbel5⟩
                  · have hdz' : ¬ ((d : Int) = 0) := by omega
                    have hdl : (m5 : Int) < (d : Int) := by omega
                    clear hd0 hdz
                    go_wp2
                    go_ret2
                    rw [HR2.out]
                    exact ⟨none, 0, rfl, own_none2 _ _, by rw [HGe.out]; exact hbel5⟩
                · rw [if_neg hd0] at hR
                  have hdz' : ¬ ((d : Int) = 0) := by omega
                  have hdl : ¬ ((m5 : Int) < (d : Int)) := by omega
                  have hd1 : 1 ≤ d := by omega
                  have hd2 : d ≤ m5 := by omega
                  clear hd0
                  by_cases hm15 : mm = 15
                  · subst hm15
                    have e : Lz.takeCount 15 b3 = Lz.takeExt 15 (l.drop p4) := by rw [hb3]; rfl
                    rw [e] at hR
                    have S1 := sum_any A n cap G p4 l w6 Hl.out hp4n (by omega) (hb.below hbel5)
                    have hck := fun c7 b4 => Lz.takeExt_length (l.drop p4) 15 c7 b4
                    have hdl4 : (l.drop p4).length = n - p4 := by rw [List.length_drop, Hl.out]
                    rw [hdl4] at hck
                    clear e hb3
                    rcases hT : Lz.takeExt 15 (l.drop p4) with _ | ⟨c7, b4⟩
                    · rw [hT] at hR S1
                      have HR2 := Lib.hid hR.symm
                      replace S1 := Lib.hid S1
                      clear hR hck hT ho5 hdl4
                      go_wp2_with fail
                      refine S1.out.mono ?_
                      rintro e w7 ⟨⟨v7, rfl⟩, rfl⟩
                      clear S1
                      go_wp2
                      go_ret2
                      rw [HR2.out]
                      exact ⟨none, 0, rfl, own_none2 _ _, by rw [HGe.out]; exact hbel5⟩
                    · rw [hT] at hR S1
                      dsimp only at hR
                      obtain ⟨hl7, hb4, hc63⟩ := hck c7 b4 hT
                      rw [List.drop_drop, show p4 + (n - p4 - b4.length) = n - b4.length from by omega] at hb4
                      have hp5 : p4 < n - b4.length := by omega
                      have hp5n : n - b4.length ≤ n := by omega
                      unfold SumPost at S1
                      dsimp only at S1
                      generalize n - b4.length = p5 at *
                      subst hb4
                      replace S1 := Lib.hid S1
                      have hp5p : p < p5 := by omega
                      have hc8 : (c7 : Int) ≤ 100000000000000000 := by omega
                      clear hck hT hl7 hc63 hdl4
                      go_wp2_with fail
                      refine S1.out.mono ?_
                      rintro e w7 ⟨rfl, rfl⟩
                      clear S1
                      have hp5neg : ¬ ((p5 : Int) < 0) := by omega
                      by_cases h3 : most < m5 + (c7 + 4)
                      · rw [if_pos h3] at hR
                        have HR2 := Lib.hid hR.symm
                        have h3' : (most : Int) - (m5 : Int) < (c7 : Int) + 4 := by omega
                        clear hR ho5
                        go_wp2
                        go_ret2
                        rw [HR2.out]
                        exact ⟨none, 0, rfl, own_none2 _ _, by rw [HGe.out]; exact hbel5⟩
                      · rw [if_neg h3] at hR
                        have h3' : ¬ ((most : Int) - (m5 : Int) < (c7 : Int) + 4) := by omega
                        have HR2 := Lib.hid hR
                        clear hR
                        go_wp2
                        go_loopw [6, 8] (fun o y wq => ∃ (j r : Nat) (A6 : Option Addr) (c6 : Nat), j + r = c7 + 4 ∧ y = .int .i64 r ∧ o = .slice A6 (m5 + j) c6 ∧ Own wq G A6 (m5 + j) c6 (Lz.back O5 d j) ∧ Below G w wq ∧ G ≤ wq.heap.size) (fun _ y _ => (intOf y).toNat)
                        case atStart => exact ⟨0, c7 + 4, A5, c5, by omega, by go_num, rfl, ho5, hbel5, hG5⟩
                        case round =>
                          clear ho5 hbel5 hG5
                          obtain ⟨j, r, A6, c6, hjr, rfl, rfl, ho6, hbel6, hG6⟩ := hrel
                          by_cases hr : r = 0
                          · subst hr
                            have Hj := Lib.hid (show j = c7 + 4 from by omega)
                            have hj5 : m5 + j ≤ most := by omega
                            clear hjr h3 h3'
                            go_wp2
                            go_roundw
                            case rel => exact ⟨p5, f, m5 + j, A6, c6, _, rfl, rfl, by omega, by omega, by rw [Hj.out]; exact HR2.out, hj5, ho6, hbel6, hG6⟩
                            case measure => simp [intOf]; omega
                          · have hr' : (0 : Int) < (r : Int) := by omega
                            have hbl := Lz.back_length d j O5
                            have hol := ho6.len
                            obtain ⟨q, hq⟩ : ∃ q, q = m5 + j - d := ⟨_, rfl⟩
                            have hqi : (m5 : Int) + (j : Int) - (d : Int) = (q : Int) := by omega
                            obtain ⟨g6, rfl, hg60, hg61⟩ := ho6.at_ (by omega)
                            have hcell := ho6.cellD (k := q) (by rw [hol]; omega)
                            have hidx := run_index_own2 g6 (m5 + j) c6 q (by omega)
                            have hlq : (Lz.back O5 d j).length - d = q := by rw [hol]; exact hq.symm
                            have hsn : Lz.back O5 d (j + 1) = Lz.back O5 d j ++ [(Lz.back O5 d j).getD q 0] := by rw [Lz.back_snoc, hlq]
                            generalize (Lz.back O5 d j).getD q 0 = v at *
                            have Hsn := Lib.hid hsn
                            have hone := own_one wr v ((v.toNat : Nat) : Int) rfl
                            have hv := v.toNat_lt
                            have hb1 := hone.bytes
                            have ho7 := ho6.alloc (.cells #[.int .u8 ((v.toNat : Nat) : Int)] 5)
                            have hbel7 : Below G w (wr.alloc (.cells #[.int .u8 ((v.toNat : Nat) : Int)] 5)) := hbel6.alloc hG6 _
                            have hG7 : G ≤ (wr.alloc (.cells #[.int .u8 ((v.toNat : Nat) : Int)] 5)).heap.size := by simp; omega
                            have Hq := Lib.hid hq
                            clear hsn hlq hbl hol hone hq ho6 hbel6
                            generalize ((v.toNat : Nat) : Int) = vz at *
                            go_wp2_with (at_builtin; refine wpList_append_bytes rfl (.tmp 123) (.tmp 131) rfl G _ (m5 + j) c6 _ rfl ho7 _ _ 1 1 [v] rfl rfl hb1 (by omega) hG7 ?_; intro A8 c8 w8 ho8 hg8 hat8)
                            have hbel8 := hbel7.grown hg8 hG7 (fun k hk => (ho7.lt hk).1)
                            go_roundw
                            case rel => exact ⟨j + 1, r - 1, A8, c8, by omega, congrArg (Value.int .i64) (by omega), rfl, by rw [Hsn.out]; exact ho8, hbel8, Nat.le_trans hG7 hg8.size⟩
                            case measure => simp [intOf]; omega
                  · have hm15' : ¬ ((mm : Int) = 15) := by omega
                    have e : Lz.takeCount mm b3 = some (mm, b3) := by unfold Lz.takeCount; rw [if_pos (by omega)]
                    rw [e] at hR
                    dsimp only at hR
                    obtain ⟨c7, hc7⟩ : ∃ c7, c7 = mm := ⟨_, rfl⟩
                    obtain ⟨p5, hp5⟩ : ∃ p5, p5 = p4 := ⟨_, rfl⟩
                    subst hc7 hp5
                    have hp5p := hp4p
                    have hp5n := hp4n
                    subst hb3
                    clear e hm15
                    by_cases h3 : most < m5 + (c7 + 4)
                    · rw [if_pos h3] at hR
                      have HR2 := Lib.hid hR.symm
                      have h3' : (most : Int) - (m5 : Int) < (c7 : Int) + 4 := by omega
                      clear hR ho5
                      go_wp2
                      go_ret2
                      rw [HR2.out]
                      exact ⟨none, 0, rfl, own_none2 _ _, by rw [HGe.out]; exact hbel5⟩
                    · rw [if_neg h3] at hR
                      have h3' : ¬ ((most : Int) - (m5 : Int) < (c7 : Int) + 4) := by omega
                      have HR2 := Lib.hid hR
                      clear hR
                      go_wp2
                      go_loopw [6, 8] (fun o y wq => ∃ (j r : Nat) (A6 : Option Addr) (c6 : Nat), j + r = c7 + 4 ∧ y = .int .i64 r ∧ o = .slice A6 (m5 + j) c6 ∧ Own wq G A6 (m5 + j) c6 (Lz.back O5 d j) ∧ Below G w wq ∧ G ≤ wq.heap.size) (fun _ y _ => (intOf y).toNat)
                      case atStart => exact ⟨0, c7 + 4, A5, c5, by omega, by go_num, rfl, ho5, hbel5, hG5⟩
                      case round =>
                        clear ho5 hbel5 hG5
                        obtain ⟨j, r, A6, c6, hjr, rfl, rfl, ho6, hbel6, hG6⟩ := hrel
                        by_cases hr : r = 0
                        · subst hr
                          have Hj := Lib.hid (show j = c7 + 4 from by omega)
                          have hj5 : m5 + j ≤ most := by omega
                          clear hjr h3 h3'
                          go_wp2
                          go_roundw
                          case rel => exact ⟨p5, f, m5 + j, A6, c6, _, rfl, rfl, by omega, by omega, by rw [Hj.out]; exact HR2.out, hj5, ho6, hbel6, hG6⟩
                          case measure => simp [intOf]; omega
                        · have hr' : (0 : Int) < (r : Int) := by omega
                          have hbl := Lz.back_length d j O5
                          have hol := ho6.len
                          obtain ⟨q, hq⟩ : ∃ q, q = m5 + j - d := ⟨_, rfl⟩
                          have hqi : (m5 : Int) + (j : Int) - (d : Int) = (q : Int) := by omega
                          obtain ⟨g6, rfl, hg60, hg61⟩ := ho6.at_ (by omega)
                          have hcell := ho6.cellD (k := q) (by rw [hol]; omega)
                          have hidx := run_index_own2 g6 (m5 + j) c6 q (by omega)
                          have hlq : (Lz.back O5 d j).length - d = q := by rw [hol]; exact hq.symm
                          have hsn : Lz.back O5 d (j + 1) = Lz.back O5 d j ++ [(Lz.back O5 d j).getD q 0] := by rw [Lz.back_snoc, hlq]
                          generalize (Lz.back O5 d j).getD q 0 = v at *
                          have Hsn := Lib.hid hsn
                          have hone := own_one wr v ((v.toNat : Nat) : Int) rfl
                          have hv := v.toNat_lt
                          have hb1 := hone.bytes
                          have ho7 := ho6.alloc (.cells #[.int .u8 ((v.toNat : Nat) : Int)] 5)
                          have hbel7 : Below G w (wr.alloc (.cells #[.int .u8 ((v.toNat : Nat) : Int)] 5)) := hbel6.alloc hG6 _
                          have hG7 : G ≤ (wr.alloc (.cells #[.int .u8 ((v.toNat : Nat) : Int)] 5)).heap.size := by simp; omega
                          have Hq := Lib.hid hq
                          clear hsn hlq hbl hol hone hq ho6 hbel6
                          generalize ((v.toNat : Nat) : Int) = vz at *
                          go_wp2_with (at_builtin; refine wpList_append_bytes rfl (.tmp 123) (.tmp 131) rfl G _ (m5 + j) c6 _ rfl ho7 _ _ 1 1 [v] rfl rfl hb1 (by omega) hG7 ?_; intro A8 c8 w8 ho8 hg8 hat8)
                          have hbel8 := hbel7.grown hg8 hG7 (fun k hk => (ho7.lt hk).1)
                          go_roundw
                          case rel => exact ⟨j + 1, r - 1, A8, c8, by omega, congrArg (Value.int .i64) (by omega), rfl, by rw [Hsn.out]; exact ho8, hbel8, Nat.le_trans hG7 hg8.size⟩
                          case measure => simp [intOf]; omega
      · have h15' : ¬ ((h : Int) = 15) := by omega
        have e : Lz.takeCount h (l.drop (p + 1)) = some (h, l.drop (p + 1)) := by unfold Lz.takeCount; rw [if_pos (by omega)]
        rw [e] at hR
        dsimp only at hR
        obtain ⟨p2, hp2⟩ : ∃ p2, p2 = p + 1 := ⟨_, rfl⟩
        have hp1i : (p : Int) + 1 = (p2 : Int) := by omega
        have hp5n : p2 ≤ n := by omega
        have hp2p : p < p2 := by omega
        rw [← hp2] at hR
        obtain ⟨c, hc⟩ : ∃ c, c = h := ⟨_, rfl⟩
        subst hc
        obtain ⟨b2, hb2⟩ : ∃ b2, b2 = l.drop p2 := ⟨_, rfl⟩
        rw [← hb2] at hR
        have hc8 : (c : Int) ≤ 100000000000000000 := by omega
        clear hp2 e h15
        have hl2 : b2.length = n - p2 := by rw [hb2, List.length_drop, Hl.out]
        rw [hl2] at hR
        by_cases h1 : most < m + c
        · rw [if_pos h1] at hR
          have HR2 := Lib.hid hR.symm
          have h1' : (most : Int) - (m : Int) < (c : Int) := by omega
          clear hR ho hl2 hb2
          go_wp2
          go_ret2
          rw [HR2.out]
          exact ⟨none, 0, rfl, own_none2 _ _, by rw [HGe.out]; exact hbel⟩
        · rw [if_neg h1] at hR
          have h1' : ¬ ((most : Int) - (m : Int) < (c : Int)) := by omega
          by_cases h2 : n - p2 < c
          · rw [if_pos h2] at hR
            have HR2 := Lib.hid hR.symm
            have h2' : (n : Int) - (p2 : Int) < (c : Int) := by omega
            clear hR ho hl2 hb2
            go_wp2
            go_ret2
            rw [HR2.out]
            exact ⟨none, 0, rfl, own_none2 _ _, by rw [HGe.out]; exact hbel⟩
          · rw [if_neg h2] at hR
            have h2' : ¬ ((n : Int) - (p2 : Int) < (c : Int)) := by omega
            obtain ⟨p3, hp3⟩ : ∃ p3, p3 = p2 + c := ⟨_, rfl⟩
            have hp3i : (p2 : Int) + (c : Int) = (p3 : Int) := by omega
            have hbr := hb.below hbel
            have hsrc := (hbr.cut (k := p2) (cap := cap) (by rw [Hl.out]; omega) (by rw [Hl.out]; omega)).take c
            rw [← hb2] at hsrc
            have hlsrc : (b2.take c).length = c := by rw [List.length_take, hl2]; omega
            have hrest : b2.drop c = l.drop p3 := by rw [hb2, List.drop_drop, hp3]
            rw [hrest] at hR
            have hrun := run_cut_lh A n cap p2 p3 (by omega) (by omega)
            rw [show p3 - p2 = c from by omega] at hrun
            generalize cutAt A cap p2 = As at *
            generalize cap - p2 = cs at *
            generalize hT3 : b2.take c = T3 at *
            have HT3 := Lib.hid hlsrc
            have hmc : m + c ≤ 140737488355328 := by omega
            have hp3n : p3 ≤ n := by omega
            have hp3p : p < p3 := by omega
            have hrl : (l.drop p3).length = n - p3 := by rw [List.length_drop, Hl.out]
            have Hm := Lib.hid (show m + c ≤ most from by omega)
            clear hT3 hlsrc hrest hl2 hb2 hbr
            have Hp3 := Lib.hid hp3; clear hp3
            rcases hT4 : l.drop p3 with _ | ⟨x, _ | ⟨y, b3⟩⟩
            · rw [hT4] at hR hrl
              obtain rfl : p3 = n := by simp at hrl; omega
              dsimp only at hR
              have HR2 := Lib.hid hR
              clear hR hrl hT4
              by_cases hm0 : mm = 0
              · subst hm0
                have hc := fun A1 c1 w1 ho hG => copy_any A1 (m + c) c1 w1.heap.size (out ++ T3) w1 ho hmc (hG) (Nat.le_refl _)
                replace hc := Lib.hid hc
                go_wp2_with (at_builtin; refine wpList_append_bytes rfl (.tmp 53) (.tmp 59) rfl G A' m c' out rfl ho _ As c cs T3 rfl HT3.out hsrc (by omega) hGr ?_; intro A5 c5 w5 ho5 hg5 hat5)
                have hbel5 := hbel.grown hg5 hGr (fun k hk => (ho.lt hk).1)
                have hG5 : G ≤ w5.heap.size := Nat.le_trans hGr hg5.size
                refine (hc.out A5 c5 w5 ho5.len ho5.bytes).mono ?_
                rintro e w6 ⟨A6, c6, rfl, ho6, hb6⟩
                have hlen6 := ho6.len
                clear hc
                go_wp2
                go_ret2
                have e := HR2.out
                simp only [if_true] at e
                subst e
                exact ⟨A6, c6, by rw [hlen6]; rfl, by rw [hlen6, HGe.out]; exact ho6.low hG5, by rw [HGe.out]; exact hbel5.trans (hb6.mono hG5)⟩
              · have hm0' : ¬ ((mm : Int) = 0) := by omega
                have hm0'' : ((mm : Int) != 0) = true := by simp; omega
                have e := HR2.out
                rw [if_neg hm0] at e
                have HR3 := Lib.hid e.symm
                clear e HR2 hm0
                go_wp2_with (at_builtin; refine wpList_append_bytes rfl (.tmp 53) (.tmp 59) rfl G A' m c' out rfl ho _ As c cs T3 rfl HT3.out hsrc (by omega) hGr ?_; intro A5 c5 w5 ho5 hg5 hat5)
                have hbel5 := hbel.grown hg5 hGr (fun k hk => (ho.lt hk).1)
                go_ret2
                rw [HR3.out]
                exact ⟨none, 0, rfl, own_none2 _ _, by rw [HGe.out]; exact hbel5⟩
            · rw [hT4] at hR hrl
              have hn1 : n = p3 + 1 := by simp at hrl; omega
              have HR2 := Lib.hid hR.symm
              have e1 : ¬ ((p3 : Int) = (n : Int)) := by omega
              have e2 : (n : Int) - (p3 : Int) < 2 := by omega
              clear hR hrl hT4 hn1
              go_wp2_with (at_builtin; refine wpList_append_bytes rfl (.tmp 53) (.tmp 59) rfl G A' m c' out rfl ho _ As c cs T3 rfl HT3.out hsrc (by omega) hGr ?_; intro A5 c5 w5 ho5 hg5 hat5)
              have hbel5 := hbel.grown hg5 hGr (fun k hk => (ho.lt hk).1)
              go_ret2
              rw [HR2.out]
              exact ⟨none, 0, rfl, own_none2 _ _, by rw [HGe.out]; exact hbel5⟩
            · have hx0 : Lz.at_ l p3 = x.toNat := by
                have e := Lz.getD_drop l p3 0
                rw [hT4, Nat.add_zero] at e
                unfold Lz.at_
                rw [← e]; rfl
              have hy0 : Lz.at_ l (p3 + 1) = y.toNat := by
                have e := Lz.getD_drop l p3 1
                rw [hT4] at e
                unfold Lz.at_
                rw [← e]; rfl
              have hb3 : b3 = l.drop (p3 + 2) := by rw [← List.drop_drop, hT4]; rfl
              rw [hT4] at hR hrl
              have hn2 : p3 + 2 ≤ n := by simp at hrl; omega
              dsimp only at hR
              have e1 : ¬ ((p3 : Int) = (n : Int)) := by omega
              have e2 : ¬ ((n : Int) - (p3 : Int) < 2) := by omega
              have hx1 := x.toNat_lt
              have hy1 := y.toNat_lt
              have hd64 : x.toNat + 256 * y.toNat ≤ 65535 := by omega
              have hdi : ((x.toNat : Nat) : Int) + 256 * ((y.toNat : Nat) : Int) = ((x.toNat + 256 * y.toNat : Nat) : Int) := by omega
              obtain ⟨a0, hca, hia⟩ := hb.idx (k := p3) (by rw [Hl.out]; omega)
              obtain ⟨a1, hcb, hib⟩ := hb.idx (k := p3 + 1) (by rw [Hl.out]; omega)
              rw [hx0] at hca
              rw [hy0] at hcb
              have HCA := Lib.hid hca
              have HCB := Lib.hid hcb
              have r0 := fun u => hia n cap u (by omega)
              have r1 := fun u => hib n cap u (by omega)
              rw [show ((p3 + 1 : Nat) : Int) = (p3 : Int) + 1 from by omega] at r1
              clear hca hcb hia hib
              generalize x.toNat + 256 * y.toNat = d at *
              generalize x.toNat = x0 at *
              generalize y.toNat = y0 at *
              obtain ⟨p4, hp4⟩ : ∃ p4, p4 = p3 + 2 := ⟨_, rfl⟩
              have hp4i : (p3 : Int) + 2 = (p4 : Int) := by omega
              have hp4p : p < p4 := by omega
              have hp4n : p4 ≤ n := by omega
              rw [← hp4] at hb3
              clear hrl hT4 hx0 hy0 hn2 hp4
              go_wp2_with (at_builtin; refine wpList_append_bytes rfl (.tmp 53) (.tmp 59) rfl G A' m c' out rfl ho _ As c cs T3 rfl HT3.out hsrc (by omega) hGr ?_; intro A5 c5 w5 ho5 hg5 hat5)
              have hbel5 := hbel.grown hg5 hGr (fun k hk => (ho.lt hk).1)
              have hG5 : G ≤ w5.heap.size := Nat.le_trans hGr hg5.size
              have ca := HCA.out w5 hbel5
              have cb := HCB.out w5 hbel5
              clear hg5 hat5 ho hbel hGr hrun hsrc HT3 HCA HCB
              go_quiet (fail)
              rename_i nq
              replace ho5 := ho5.below ((Drawn.drewN (Drawn.refl _) nq).below _)
              replace hbel5 := hbel5.trans ((Drawn.drewN (Drawn.refl _) nq).below _)
              have hG5 : G ≤ (w5.drewN nq).heap.size := hG5
              clear ca cb r0 r1
              generalize w5.drewN nq = w6 at *
              have hmI : ((m + c : Nat) : Int) = (m : Int) + (c : Int) := by omega
              obtain ⟨m5, hm5⟩ : ∃ m5, m5 = m + c := ⟨_, rfl⟩
              have hm5i : (m : Int) + (c : Int) = (m5 : Int) := by omega
              rw [← hm5] at ho5 hR Hm hmc ⊢
              clear hm5 hmI
              generalize out ++ T3 = O5 at *
              have hm5m := Hm.out
              by_cases hd0 : d = 0 ∨ m5 < d
              · rw [if_pos hd0] at hR
                have HR2 := Lib.hid hR.symm
                clear hR ho5 hb3
                by_cases hdz : d = 0
                · subst hdz
                  clear hd0
                  go_wp2
                  go_ret2
                  rw [HR2.out]
                  exact ⟨none, 0, rfl, own_none2 _ _, by rw [HGe.out]; exact hbel5⟩
                · have hdz' : ¬ ((d : Int) = 0) := by omega
                  have hdl : (m5 : Int) < (d : Int) := by omega
                  clear hd0 hdz
                  go_wp2
                  go_ret2
                  rw [HR2.out]
                  exact ⟨none, 0, rfl, own_none2 _ _, by rw [HGe.out]; exact hbel5⟩
              · rw [if_neg hd0] at hR
                have hdz' : ¬ ((d : Int) = 0) := by omega
                have hdl : ¬ ((m5 : Int) < (d : Int)) := by omega
                have hd1 : 1 ≤ d := by omega
                have hd2 : d ≤ m5 := by omega
                clear hd0
                by_cases hm15 : mm = 15
                · subst hm15
                  have e : Lz.takeCount 15 b3 = Lz.takeExt 15 (l.drop p4) := by rw [hb3]; rfl
                  rw [e] at hR
                  have S1 := sum_any A n cap G p4 l w6 Hl.out hp4n (by omega) (hb.below hbel5)
                  have hck := fun c7 b4 => Lz.takeExt_length (l.drop p4) 15 c7 b4
                  have hdl4 : (l.drop p4).length = n - p4 := by rw [List.length_drop, Hl.out]
                  rw [hdl4] at hck
                  clear e hb3
                  rcases hT : Lz.takeExt 15 (l.drop p4) with _ | ⟨c7, b4⟩
                  · rw [hT] at hR S1
                    have HR2 := Lib.hid hR.symm
                    replace S1 := Lib.hid S1
                    clear hR hck hT ho5 hdl4
                    go_wp2_with fail
                    refine S1.out.mono ?_
                    rintro e w7 ⟨⟨v7, rfl⟩, rfl⟩
                    clear S1
                    go_wp2
                    go_ret2
                    rw [HR2.out]
                    exact ⟨none, 0, rfl, own_none2 _ _, by rw [HGe.out]; exact hbel5⟩
                  · rw [hT] at hR S1
                    dsimp only at hR
                    obtain ⟨hl7, hb4, hc63⟩ := hck c7 b4 hT
                    rw [List.drop_drop, show p4 + (n - p4 - b4.length) = n - b4.length from by omega] at hb4
                    have hp5 : p4 < n - b4.length := by omega
                    have hp5n : n - b4.length ≤ n := by omega
                    unfold SumPost at S1
                    dsimp only at S1
                    generalize n - b4.length = p5 at *
                    subst hb4
                    replace S1 := Lib.hid S1
                    have hp5p : p < p5 := by omega
                    have hc8 : (c7 : Int) ≤ 100000000000000000 := by omega
                    clear hck hT hl7 hc63 hdl4
                    go_wp2_with fail
                    refine S1.out.mono ?_
                    rintro e w7 ⟨rfl, rfl⟩
                    clear S1
                    have hp5neg : ¬ ((p5 : Int) < 0) := by omega
                    by_cases h3 : most < m5 + (c7 + 4)
                    · rw [if_pos h3] at hR
                      have HR2 := Lib.hid hR.symm
                      have h3' : (most : Int) - (m5 : Int) < (c7 : Int) + 4 := by omega
                      clear hR ho5
                      go_wp2
                      go_ret2
                      rw [HR2.out]
                      exact ⟨none, 0, rfl, own_none2 _ _, by rw [HGe.out]; exact hbel5⟩
                    · rw [if_neg h3] at hR
                      have h3' : ¬ ((most : Int) - (m5 : Int) < (c7 : Int) + 4) := by omega
                      have HR2 := Lib.hid hR
                      clear hR
                      go_wp2
                      go_loopw [6, 8] (fun o y wq => ∃ (j r : Nat) (A6 : Option Addr) (c6 : Nat), j + r = c7 + 4 ∧ y = .int .i64 r ∧ o = .slice A6 (m5 + j) c6 ∧ Own wq G A6 (m5 + j) c6 (Lz.back O5 d j) ∧ Below G w wq ∧ G ≤ wq.heap.size) (fun _ y _ => (intOf y).toNat)
                      case atStart => exact ⟨0, c7 + 4, A5, c5, by omega, by go_num, rfl, ho5, hbel5, hG5⟩
                      case round =>
                        clear ho5 hbel5 hG5
                        obtain ⟨j, r, A6, c6, hjr, rfl, rfl, ho6, hbel6, hG6⟩ := hrel
                        by_cases hr : r = 0
                        · subst hr
                          have Hj := Lib.hid (show j = c7 + 4 from by omega)
                          have hj5 : m5 + j ≤ most := by omega
                          clear hjr h3 h3'
                          go_wp2
                          go_roundw
                          case rel => exact ⟨p5, f, m5 + j, A6, c6, _, rfl, rfl, by omega, by omega, by rw [Hj.out]; exact HR2.out, hj5, ho6, hbel6, hG6⟩
                          case measure => simp [intOf]; omega
                        · have hr' : (0 : Int) < (r : Int) := by omega
                          have hbl := Lz.back_length d j O5
                          have hol := ho6.len
                          obtain ⟨q, hq⟩ : ∃ q, q = m5 + j - d := ⟨_, rfl⟩
                          have hqi : (m5 : Int) + (j : Int) - (d : Int) = (q : Int) := by omega
                          obtain ⟨g6, rfl, hg60, hg61⟩ := ho6.at_ (by omega)
                          have hcell := ho6.cellD (k := q) (by rw [hol]; omega)
                          have hidx := run_index_own2 g6 (m5 + j) c6 q (by omega)
                          have hlq : (Lz.back O5 d j).length - d = q := by rw [hol]; exact hq.symm
                          have hsn : Lz.back O5 d (j + 1) = Lz.back O5 d j ++ [(Lz.back O5 d j).getD q 0] := by rw [Lz.back_snoc, hlq]
                          generalize (Lz.back O5 d j).getD q 0 = v at *
                          have Hsn := Lib.hid hsn
                          have hone := own_one wr v ((v.toNat : Nat) : Int) rfl
                          have hv := v.toNat_lt
                          have hb1 := hone.bytes
                          have ho7 := ho6.alloc (.cells #[.int .u8 ((v.toNat : Nat) : Int)] 5)
                          have hbel7 : Below G w (wr.alloc (.cells #[.int .u8 ((v.toNat : Nat) : Int)] 5)) := hbel6.alloc hG6 _
                          have hG7 : G ≤ (wr.alloc (.cells #[.int .u8 ((v.toNat : Nat) : Int)] 5)).heap.size := by simp; omega
                          have Hq := Lib.hid hq
                          clear hsn hlq hbl hol hone hq ho6 hbel6
                          generalize ((v.toNat : Nat) : Int) = vz at *
                          go_wp2_with (at_builtin; refine wpList_append_bytes rfl (.tmp 123) (.tmp 131) rfl G _ (m5 + j) c6 _ rfl ho7 _ _ 1 1 [v] rfl rfl hb1 (by omega) hG7 ?_; intro A8 c8 w8 ho8 hg8 hat8)
                          have hbel8 := hbel7.grown hg8 hG7 (fun k hk => (ho7.lt hk).1)
                          go_roundw
                          case rel => exact ⟨j + 1, r - 1, A8, c8, by omega, congrArg (Value.int .i64) (by omega), rfl, by rw [Hsn.out]; exact ho8, hbel8, Nat.le_trans hG7 hg8.size⟩
                          case measure => simp [intOf]; omega
                · have hm15' : ¬ ((mm : Int) = 15) := by omega
                  have e : Lz.takeCount mm b3 = some (mm, b3) := by unfold Lz.takeCount; rw [if_pos (by omega)]
                  rw [e] at hR
                  dsimp only at hR
                  obtain ⟨c7, hc7⟩ : ∃ c7, c7 = mm := ⟨_, rfl⟩
                  obtain ⟨p5, hp5⟩ : ∃ p5, p5 = p4 := ⟨_, rfl⟩
                  subst hc7 hp5
                  have hp5p := hp4p
                  have hp5n := hp4n
                  subst hb3
                  clear e hm15
                  by_cases h3 : most < m5 + (c7 + 4)
                  · rw [if_pos h3] at hR
                    have HR2 := Lib.hid hR.symm
                    have h3' : (most : Int) - (m5 : Int) < (c7 : Int) + 4 := by omega
                    clear hR ho5
                    go_wp2
                    go_ret2
                    rw [HR2.out]
                    exact ⟨none, 0, rfl, own_none2 _ _, by rw [HGe.out]; exact hbel5⟩
                  · rw [if_neg h3] at hR
                    have h3' : ¬ ((most : Int) - (m5 : Int) < (c7 : Int) + 4) := by omega
                    have HR2 := Lib.hid hR
                    clear hR
                    go_wp2
                    go_loopw [6, 8] (fun o y wq => ∃ (j r : Nat) (A6 : Option Addr) (c6 : Nat), j + r = c7 + 4 ∧ y = .int .i64 r ∧ o = .slice A6 (m5 + j) c6 ∧ Own wq G A6 (m5 + j) c6 (Lz.back O5 d j) ∧ Below G w wq ∧ G ≤ wq.heap.size) (fun _ y _ => (intOf y).toNat)
                    case atStart => exact ⟨0, c7 + 4, A5, c5, by omega, by go_num, rfl, ho5, hbel5, hG5⟩
                    case round =>
                      clear ho5 hbel5 hG5
                      obtain ⟨j, r, A6, c6, hjr, rfl, rfl, ho6, hbel6, hG6⟩ := hrel
                      by_cases hr : r = 0
                      · subst hr
                        have Hj := Lib.hid (show j = c7 + 4 from by omega)
                        have hj5 : m5 + j ≤ most := by omega
                        clear hjr h3 h3'
                        go_wp2
                        go_roundw
                        case rel => exact ⟨p5, f, m5 + j, A6, c6, _, rfl, rfl, by omega, by omega, by rw [Hj.out]; exact HR2.out, hj5, ho6, hbel6, hG6⟩
                        case measure => simp [intOf]; omega
                      · have hr' : (0 : Int) < (r : Int) := by omega
                        have hbl := Lz.back_length d j O5
                        have hol := ho6.len
                        obtain ⟨q, hq⟩ : ∃ q, q = m5 + j - d := ⟨_, rfl⟩
                        have hqi : (m5 : Int) + (j : Int) - (d : Int) = (q : Int) := by omega
                        obtain ⟨g6, rfl, hg60, hg61⟩ := ho6.at_ (by omega)
                        have hcell := ho6.cellD (k := q) (by rw [hol]; omega)
                        have hidx := run_index_own2 g6 (m5 + j) c6 q (by omega)
                        have hlq : (Lz.back O5 d j).length - d = q := by rw [hol]; exact hq.symm
                        have hsn : Lz.back O5 d (j + 1) = Lz.back O5 d j ++ [(Lz.back O5 d j).getD q 0] := by rw [Lz.back_snoc, hlq]
                        generalize (Lz.back O5 d j).getD q 0 = v at *
                        have Hsn := Lib.hid hsn
                        have hone := own_one wr v ((v.toNat : Nat) : Int) rfl
                        have hv := v.toNat_lt
                        have hb1 := hone.bytes
                        have ho7 := ho6.alloc (.cells #[.int .u8 ((v.toNat : Nat) : Int)] 5)
                        have hbel7 : Below G w (wr.alloc (.cells #[.int .u8 ((v.toNat : Nat) : Int)] 5)) := hbel6.alloc hG6 _
                        have hG7 : G ≤ (wr.alloc (.cells #[.int .u8 ((v.toNat : Nat) : Int)] 5)).heap.size := by simp; omega
                        have Hq := Lib.hid hq
                        clear hsn hlq hbl hol hone hq ho6 hbel6
                        generalize ((v.toNat : Nat) : Int) = vz at *
                        go_wp2_with (at_builtin; refine wpList_append_bytes rfl (.tmp 123) (.tmp 131) rfl G _ (m5 + j) c6 _ rfl ho7 _ _ 1 1 [v] rfl rfl hb1 (by omega) hG7 ?_; intro A8 c8 w8 ho8 hg8 hat8)
                        have hbel8 := hbel7.grown hg8 hG7 (fun k hk => (ho7.lt hk).1)
                        go_roundw
                        case rel => exact ⟨j + 1, r - 1, A8, c8, by omega, congrArg (Value.int .i64) (by omega), rfl, by rw [Hsn.out]; exact ho8, hbel8, Nat.le_trans hG7 hg8.size⟩
                        case measure => simp [intOf]; omega
    · have HR2 := Lib.hid (show R = ([], 2) from by rw [← hR, List.drop_of_length_le (by rw [Hl.out]; omega)]; rfl)
      have hp' : (n : Int) ≤ (p : Int) := by omega
      clear hR ho
      go_wp2
      go_ret2
      rw [HR2.out]
      exact ⟨none, 0, rfl, own_none2 _ _, by rw [HGe.out]; exact hbel⟩
end Go.Proofs.Ytonknkmbkfndcaa
