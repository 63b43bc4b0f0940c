/- lz.Pack -/
import Derived.Test.YtonknkmbkfndcaaLzAdd
import Derived.Test.YtonknkmbkfndcaaLzApp
import Derived.Carry
namespace Go.Proofs.Ytonknkmbkfndcaa
open Go.RowKit Go.Maps

theorem Hist.below {w w' : World} {M B : Nat} {b : List UInt8} {i : Nat} (h : Hist w M b i) (hb : Below B w w') (hM : M < B) : Hist w' M b i := by
  obtain ⟨D, k, hk, ⟨es, clock, h1, h2⟩, r⟩ := h
  exact ⟨D, k, hk, ⟨es, clock, (hb.block M hM).trans h1, h2⟩, r⟩
theorem hist_made (w : World) (b : List UInt8) : Hist (w.alloc (.map #[] 0)) w.heap.size b 0 := by
  refine ⟨.map [], 0, Nat.le_refl _, World.ownsMap_made w _ _ _, fun q _ => ⟨none, fun k hk => by omega, rfl⟩⟩

/-- what holds between the rounds: the struct and the map in it, made by this call as its first two blocks -/
def PSt (w : World) (G : Nat) (A : Option Addr) (n cap : Nat) (l : List UInt8) (p : Nat) (wr : World) : Prop :=
  wr.cell? ⟨G + 1, 0, none⟩ = some (.slice A n cap) ∧ wr.cell? ⟨G + 1, 1, none⟩ = some (.map (some G)) ∧ (p + 4 ≤ n → Hist wr G l p) ∧ Below G w wr ∧ G + 2 ≤ wr.heap.size
namespace PSt
variable {w wr wr' : World} {G : Nat} {A : Option Addr} {n cap : Nat} {l : List UInt8} {p : Nat}
theorem below (h : PSt w G A n cap l p wr) (hb : Below (G + 2) wr wr') : PSt w G A n cap l p wr' := by
  obtain ⟨h1, h2, h3, h4, h5⟩ := h
  exact ⟨(hb.cell (p := ⟨G + 1, 0, none⟩) (by show G + 1 < G + 2; omega)).trans h1, (hb.cell (p := ⟨G + 1, 1, none⟩) (by show G + 1 < G + 2; omega)).trans h2, fun h => (h3 h).below hb (by omega), h4.trans (hb.mono (by omega)), Nat.le_trans h5 hb.size⟩
theorem drawn (h : PSt w G A n cap l p wr) (hd : Drawn wr wr') : PSt w G A n cap l p wr' := h.below (hd.below _)
theorem add (h : PSt w G A n cap l p wr) (hg : wr.grownBy wr' (some G)) (hh : p + 4 ≤ n → Hist wr' G l (p + 1)) (hw : G ≤ wr.heap.size) : PSt w G A n cap l (p + 1) wr' := by
  obtain ⟨h1, h2, h3, h4, h5⟩ := h
  exact ⟨hg.cell h1 (by simp), hg.cell h2 (by simp), fun h => hh (by omega), h4.grown hg hw (fun k hk => by cases hk; exact Nat.le_refl _), Nat.le_trans h5 hg.size⟩
end PSt
theorem Own.add {w w' : World} {G : Nat} {A : Option Addr} {n c : Nat} {l : List UInt8} (h : Own w (G + 2) A n c l) (hg : w.grownBy w' (some G)) : Own w' (G + 2) A n c l :=
  h.kept hg (by
    rcases hA : blk A with _ | k
    · exact .inl rfl
    · refine .inr fun e => ?_
      have := (h.lt hA).1
      injection e with e
      omega)
theorem own_none' (w : World) (base : Nat) : Own w base none 0 0 [] := World.ownsRow_nil w base _ _

set_option maxHeartbeats 4000000 in
theorem pack_any (A : Option Addr) (n cap B : Nat) (l : List UInt8) (w : World) (hl : l.length = n) (hcap : n ≤ cap) (hm : n ≤ 1000000000) (hb : Bytes w B A l) (hB : B ≤ w.heap.size) :
    Calls Try.prog 10 #[.slice A n cap] w (MadeAt w.heap.size w (Lz.packed l).length (Lz.packed l)) := by
  have hmm := @run_makeMap Try.prog
  have hst0 : PSt w w.heap.size A n cap l 0 ((w.alloc (.map #[] 0)).alloc (.cells #[.slice A n cap, .map (some w.heap.size)] 36)) := by
    have e1 : (w.alloc (.map #[] 0)).heap.size = w.heap.size + 1 := by simp
    refine ⟨?_, ?_, fun _ => ?_, ?_, ?_⟩
    · rw [World.cell?_alloc_at _ _ _ _ (by rw [e1])]; rfl
    · rw [World.cell?_alloc_at _ _ _ _ (by rw [e1])]; rfl
    · exact (hist_made w l).kept (World.grownBy_alloc _ _ none) (by simp)
    · exact ((Below.refl _ w).alloc (Nat.le_refl _) _).alloc (by simp) _
    · simp
  have hXl := Lz.packed_length l
  rw [hl] at hXl
  obtain ⟨X, hX⟩ : ∃ X, X = Lz.packed l := ⟨_, rfl⟩
  rw [← hX] at hXl ⊢
  have HX := Lib.hid (show Lz.pack l (n + 1) 0 0 = X from by rw [hX, Lz.packed, hl])
  have Hl := Lib.hid hl
  have hb := hb.wide hB
  clear hX hl hB
  have HF := Lib.hid fun p w' h4 hbw hB' hh => find_any A n cap w.heap.size w.heap.size p l w' Hl.out h4 (by omega) hbw hB' hh
  have HA := Lib.hid fun p w' hp hbw hB' hh => add_any A n cap w.heap.size w.heap.size p l w' Hl.out (by omega) hp hbw hB' (Nat.le_refl _) hh
  have HG := Lib.hid fun k p w' hk hp hbw => agreeing_any A n cap w.heap.size k p l w' Hl.out hk hp (by omega) hbw
  go_enter Try.func10, Try.ntmps10
  go_wp2
  generalize (w.alloc (.map #[] 0)).alloc (.cells #[.slice A n cap, .map (some w.heap.size)] 36) = w0 at *
  generalize hGe : w.heap.size = G at *
  have HGe := Lib.hid hGe; clear hGe
  clear hmm
  go_loopw [3, 5, 6] (fun o s i wr => ∃ (m s' p f : Nat) (A' : Option Addr) (c' : Nat) (T : List UInt8), o = .slice A' m c' ∧ s = .int .i64 s' ∧ i = .int .i64 p ∧ s' ≤ p ∧ p ≤ n ∧ n - p < f ∧ T ++ Lz.pack l f s' p = X ∧ Own wr (G + 2) A' m c' T ∧ PSt w G A n cap l p wr) (fun _ _ i _ => n - (intOf i).toNat)
  case atStart => exact ⟨0, 0, 0, n + 1, none, 0, [], rfl, rfl, rfl, Nat.le_refl _, Nat.zero_le _, by omega, HX.out, own_none' _ _, hst0⟩
  case round =>
    clear hst0 HX
    obtain ⟨m, s, p, f, A', c', T, rfl, rfl, rfl, hsp, hpn, hf, hX, ho, hst⟩ := hrel
    obtain ⟨f, rfl⟩ : ∃ f', f = f' + 1 := ⟨f - 1, by omega⟩
    have hTl := ho.len
    have hmX : m ≤ X.length := by rw [← hX, List.length_append, hTl]; omega
    have hbr := hb.below hst.2.2.2.1
    have hGr : G + 2 ≤ wr.heap.size := hst.2.2.2.2
    rw [Lz.pack] at hX
    by_cases h4 : p + 4 ≤ n
    · rw [if_pos (by rw [Hl.out]; exact h4)] at hX
      have H1 := HF.out p wr h4 hbr (by omega) (hst.2.2.1 h4)
      have h4' : (p : Int) + 4 ≤ (n : Int) := by omega
      have c0 := hst.1
      have c1 := hst.2.1
      rcases hbf : Lz.before l p p with _ | k
      · rw [hbf] at hX H1
        simp only [foundVal] at H1
        dsimp only at hX
        replace H1 := Lib.hid H1
        have HX := Lib.hid hX
        clear hX hTl hbf hbr
        go_wp2_with fail
        refine H1.out.mono ?_
        rintro e w1 ⟨rfl, hb1⟩
        have hb1' := hb1.mono hGr
        replace hst := hst.below hb1'
        replace ho := ho.below (hb1)
        have hGr1 := hst.2.2.2.2
        have H2 := Lib.hid (HA.out p w1 (by omega) (hb.below hst.2.2.2.1) (by omega) hst.2.2.1)
        replace c0 := hst.1
        replace c1 := hst.2.1
        clear H1 hb1 hb1'
        go_wp2_with fail
        refine H2.out.mono ?_
        rintro e w2 ⟨rfl, hh2, hg2⟩
        have ho2 := ho.add hg2
        have hst2 := hst.add hg2 hh2 (by omega)
        clear H2 c0 c1 ho hst
        go_wp2
        go_roundw
        case rel => exact ⟨m, s, p + 1, f, A', c', T, rfl, rfl, by go_num, by omega, by omega, by omega, HX.out, ho2, hst2⟩
        case measure => simp [intOf]; omega
      · have hlast := Lz.before_last l p
        rw [hbf] at hX H1 hlast
        simp only [foundVal] at H1
        dsimp only at hX
        have hkp := hlast.1
        have hkd := hlast.2.1
        have hN4 := (Lz.cpl_four hkp (by rw [Hl.out]; exact h4) hlast.2.2.1).1
        have hNn := Lz.cpl_le (b := l) hkp (by rw [Hl.out]; exact hpn)
        rw [Hl.out] at hNn
        have H2 := HG.out k p
        generalize Lz.cpl (l.drop k) (l.drop p) = N at *
        have hls : ((l.drop s).take (p - s)).length = p - s := by rw [List.length_take, List.length_drop, Hl.out]; omega
        have hpl := Lz.part_length ((l.drop s).take (p - s)) (p - k) N
        have hpx : m + (Lz.part ((l.drop s).take (p - s)) (p - k) N).length ≤ X.length := by rw [← hX, List.length_append, List.length_append, hTl]; omega
        rw [← List.append_assoc] at hX
        have hrun := run_cut_lh A n cap s p hsp (by omega)
        have H3 := fun wq ho hG hbw => appendPart_any A' m c' (G + 2) T (cutAt A cap s) (p - s) (cap - s) G (p - k) N ((l.drop s).take (p - s)) wq ho hG hls hbw (by omega) (by omega) hN4 (by omega) (by omega) (by omega)
        have hcutB := fun wq (h : Bytes wq G A l) => (h.cut (k := s) (cap := cap) (by rw [Hl.out]; omega) (by rw [Hl.out]; omega)).take (p - s)
        rw [show ((p - k : Nat) : Int) = (p : Int) - (k : Int) from by omega] at H3
        generalize cutAt A cap s = As at *
        generalize (l.drop s).take (p - s) = Y at *
        generalize Lz.part Y (p - k) N = PT at *
        generalize p - s = ls at *
        generalize cap - s = cs at *
        replace H1 := Lib.hid H1
        replace H2 := Lib.hid H2
        replace H3 := Lib.hid H3
        have HcB := Lib.hid hcutB
        have HX := Lib.hid hX
        clear hX hTl hbf hbr hlast hls hpl hcutB
        go_wp2_with fail
        refine H1.out.mono ?_
        rintro e w1 ⟨rfl, hb1⟩
        replace hst := hst.below (hb1.mono hGr)
        replace ho := ho.below hb1
        replace c0 := hst.1
        replace c1 := hst.2.1
        clear H1 hb1
        go_wp2_with fail
        refine (H2.out w1 hkp hpn (hb.below hst.2.2.2.1)).mono ?_
        rintro e w2 ⟨rfl, hd2⟩
        replace hst := hst.drawn hd2
        replace ho := ho.below (hd2.below _)
        replace c0 := hst.1
        replace c1 := hst.2.1
        clear H2 hd2
        go_wp2_with fail
        refine (H3.out w2 ho hst.2.2.2.2 (HcB.out _ (hb.below hst.2.2.2.1))).mono ?_
        rintro e w3 ⟨A3, c3, rfl, ho3, hb3⟩
        replace hst := hst.below hb3
        replace c0 := hst.1
        replace c1 := hst.2.1
        clear H3 hb3 ho hrun HcB
        go_wp2
        go_loopw [6, 46] (fun i t wq => ∃ (j : Nat), j ≤ N ∧ i = .int .i64 ((p : Int) + (j : Int)) ∧ t = .int .i64 j ∧ Own wq (G + 2) A3 (m + PT.length) c3 (T ++ PT) ∧ PSt w G A n cap l (p + j) wq) (fun _ t _ => N - (intOf t).toNat)
        case atStart => exact ⟨0, Nat.zero_le _, by go_num, rfl, ho3, hst⟩
        case round =>
          clear hst ho3 c0 c1
          obtain ⟨j, hj, rfl, rfl, ho, hst⟩ := hrel
          have c0 := hst.1
          have c1 := hst.2.1
          have hGq := hst.2.2.2.2
          by_cases hjN : j < N
          · have H4 := HA.out (p + j) _ (by omega) (hb.below hst.2.2.2.1) (by omega) hst.2.2.1
            rw [Int.natCast_add] at H4
            replace H4 := Lib.hid H4
            go_wp2_with fail
            refine H4.out.mono ?_
            rintro e w5 ⟨rfl, hh5, hg5⟩
            have ho5 := ho.add hg5
            have hst5 := hst.add hg5 hh5 (by omega)
            clear H4 c0 c1 ho hst
            go_wp2
            go_roundw
            case rel => exact ⟨j + 1, by omega, by go_num, by go_num, ho5, hst5⟩
            case measure => simp [intOf]; omega
          · obtain rfl : j = N := by omega
            go_wp2
            go_roundw
            case rel => exact ⟨m + PT.length, p + j, p + j, f, A3, c3, T ++ PT, rfl, by go_num, by go_num, Nat.le_refl _, by omega, by omega, HX.out, ho, hst⟩
            case measure => simp [intOf]; omega
    · rw [if_neg (by rw [Hl.out]; exact h4)] at hX
      have h4' : ¬ ((p : Int) + 4 ≤ (n : Int)) := by omega
      have hls : (l.drop s).length = n - s := by rw [List.length_drop, Hl.out]
      have hrun := run_cut_l A n cap s (by omega)
      have hcut := hbr.cut (k := s) (cap := cap) (by rw [Hl.out]; omega) (by rw [Hl.out]; omega)
      have H1 := appendLiterals_any A' m c' (G + 2) T (cutAt A cap s) (n - s) (cap - s) G 0 (l.drop s) wr ho hGr hls hcut (by omega) (by omega) (by omega) (by omega)
      rw [Int.natCast_zero, hX] at H1
      have hXX : m + (Lz.lits (l.drop s) 0).length = X.length := by rw [← hX, List.length_append, hTl]
      rw [hXX] at H1
      generalize cutAt A cap s = As at *
      generalize n - s = ls at *
      generalize cap - s = cs at *
      replace H1 := Lib.hid H1
      clear hXX hX hcut hls hTl
      go_wp2_with fail
      refine H1.out.mono ?_
      rintro e w1 ⟨A1, c1, rfl, ho1, hb1⟩
      have hbel := hst.2.2.2.1.trans (hb1.mono (by omega))
      clear H1
      go_wp2
      go_ret
      exact ⟨A1, c1, rfl, ho1.low (by omega), hbel⟩
end Go.Proofs.Ytonknkmbkfndcaa
