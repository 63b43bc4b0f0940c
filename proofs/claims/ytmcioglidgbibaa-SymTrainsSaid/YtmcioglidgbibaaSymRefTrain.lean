/- The document's Train. -/
import Derived.Test.YtmcioglidgbibaaSymBest
import Derived.Test.YtmcioglidgbibaaSymRefPie
import Derived.Test.YtmcioglidgbibaaSymTake
import Derived.Test.YtmcioglidgbibaaSymCmp
namespace Go.Proofs.Ytmcioglidgbibaa
open Go.RowKit
set_option maxRecDepth 100000

/-- two blocks of unlike elements are two -/
theorem blocks_apart {w : World} {b1 b2 e1 e2 s1 s2 n1 n2 : Nat} {v1 v2 : Value} {xs1 xs2 : List Value} (h1 : w.ownsRow b1 e1 s1 v1 n1 xs1) (h2 : w.ownsRow b2 e2 s2 v2 n2 xs2) (hne : e1 ≠ e2) :
    v1.ownBlock = none ∨ v1.ownBlock ≠ v2.ownBlock := by
  rcases h1.2 with ⟨rfl, _⟩ | ⟨g1, cap1, cur1, rfl, _, hg1, _⟩
  · exact .inl rfl
  · refine .inr fun he => ?_
    rcases h2.2 with ⟨rfl, _⟩ | ⟨g2, cap2, cur2, rfl, _, hg2, _⟩
    · cases he
    · injection he with he
      have he' : g1 = g2 := he
      subst he'
      rw [hg1] at hg2
      injection hg2 with hg2
      injection hg2 with _ ht
      exact hne ht

/-- what the two slices hold, and that what was before stays -/
def Held (w : World) (M : Nat) (A2 : Option Addr) (N c2 : Nat) (l : List (List UInt8 × Nat)) (A3 : Option Addr) (c3 : Nat) (T : List (List UInt8)) (W : World) : Prop :=
  POwn W M A2 N c2 l ∧ SOwn W M A3 T.length c3 T ∧ M ≤ W.heap.size ∧ W.os = w.os ∧ W.tape = w.tape ∧ W.output = w.output ∧ w.heap.size ≤ W.heap.size ∧ ∀ k, k < M → W.heap[k]? = w.heap[k]?
namespace Held
variable {w W W' : World} {M : Nat} {A2 : Option Addr} {N c2 : Nat} {l : List (List UInt8 × Nat)} {A3 : Option Addr} {c3 : Nat} {T : List (List UInt8)}
theorem mk' (h1 : POwn W M A2 N c2 l) (h2 : SOwn W M A3 T.length c3 T) (h3 : M ≤ W.heap.size) (h4 : Below M w W) : Held w M A2 N c2 l A3 c3 T W := ⟨h1, h2, h3, h4.os, h4.tape, h4.output, h4.size, h4.block⟩
theorem bel (h : Held w M A2 N c2 l A3 c3 T W) : Below M w W := ⟨h.2.2.2.1, h.2.2.2.2.1, h.2.2.2.2.2.1, h.2.2.2.2.2.2.1, h.2.2.2.2.2.2.2⟩
theorem below (h : Held w M A2 N c2 l A3 c3 T W) (hb : Below W.heap.size W W') : Held w M A2 N c2 l A3 c3 T W' :=
  mk' (h.1.below hb) (h.2.1.below hb) (Nat.le_trans h.2.2.1 hb.size) (h.bel.trans (hb.mono h.2.2.1))
theorem drewN (h : Held w M A2 N c2 l A3 c3 T W) (q : Nat) : Held w M A2 N c2 l A3 c3 T (W.drewN q) := h
end Held
theorem worth_held {w W : World} {M : Nat} {A2 : Option Addr} {N c2 : Nat} {l : List (List UInt8 × Nat)} {A3 : Option Addr} {c3 : Nat} {T : List (List UInt8)} (p : List UInt8 × Nat) (h1 : p.1.length ≤ 8) (h2 : p.2 ≤ 7168) (h : Held w M A2 N c2 l A3 c3 T W) :
    Calls Try.prog 34 #[.agg #[.string ⟨p.1.toArray⟩, .int .i64 (p.2 : Int)]] W fun e w' => e = .returned (.int .i64 (wort p)) ∧ Held w M A2 N c2 l A3 c3 T w' :=
  (worth_any p.1 p.2 W h1 h2).mono fun _ _ ⟨h3, h4⟩ => ⟨h3, h.below h4⟩

theorem nb_less {Wr Wb : Int} {xm xb : List UInt8} (h1 : decide (Wb < Wr) = false) (h2 : (Wr == Wb) = false) : ¬ (Wb < Wr ∨ (Wr = Wb ∧ xm < xb)) := by
  rintro (h | ⟨h, _⟩)
  · exact of_decide_eq_false h1 h
  · rw [h, beq_self_eq_true] at h2; cases h2
theorem nb_text {Wr Wb : Int} {xm xb : List UInt8} (h1 : decide (Wb < Wr) = false) (h2 : Op.bytesLess xm xb = false) : ¬ (Wb < Wr ∨ (Wr = Wb ∧ xm < xb)) := by
  rintro (h | ⟨_, h⟩)
  · exact of_decide_eq_false h1 h
  · rw [less_eq] at h2; exact of_decide_eq_false h2 h
theorem bt_text {Wr Wb : Int} {xm xb : List UInt8} (h1 : (Wr == Wb) = true) (h2 : Op.bytesLess xm xb = true) : Wb < Wr ∨ (Wr = Wb ∧ xm < xb) :=
  .inr ⟨by simpa using h1, by rw [less_eq] at h2; exact of_decide_eq_true h2⟩

set_option maxHeartbeats 8000000 in
theorem refTrain_any (A : Option Addr) (n cap B : Nat) (ss : List (List UInt8)) (w : World) (hl : ss.length = n) (hn : n ≤ 140737488355328) (hs : ∀ s ∈ ss, s.length ≤ 140737488351232) (h1 : Samples w B A ss) (hB : B ≤ w.heap.size) :
    Calls Try.prog 12 #[.slice A n cap] w fun e w' => ∃ A' c, e = .returned (.slice A' (Sym.train (Sym.pieces ss 1024)).length c) ∧ SOwn w' w.heap.size A' (Sym.train (Sym.pieces ss 1024)).length c (Sym.train (Sym.pieces ss 1024)) ∧ Below w.heap.size w w' := by
  have HC := Lib.hid (refPieces_any A n cap B ss w hl hn hs h1 hB)
  have hPl := Sym.pieces_length ss 1024
  have hP8 := Lib.hid (Sym.pieces_len ss 1024)
  generalize Sym.pieces ss 1024 = P at *
  obtain ⟨M, hM⟩ : ∃ M, M = w.heap.size := ⟨_, rfl⟩
  rw [← hM] at HC ⊢
  have HM := Lib.hid hM
  clear hl hs h1 hM hB
  go_enter Try.func12, Try.ntmps12
  go_wp2_with fail
  refine HC.out.mono ?_
  rintro e w1 ⟨A1, c1, l1, rfl, hown1, htl1, hbel1⟩
  clear HC
  have hsz1 : M ≤ w1.heap.size := Nat.le_trans (by rw [HM.out]; exact Nat.le_refl _) hbel1.size
  obtain ⟨N, hN⟩ : ∃ N, N = l1.length := ⟨_, rfl⟩
  rw [← hN] at hown1 ⊢
  have hheld1 : Held w M A1 N c1 l1 none 0 [] w1 := Held.mk' hown1 (ROwn.nil _ _ _ _) hsz1 hbel1
  have hNl : N ≤ 7168 := by have := Sym.tells_len htl1; omega
  have HL1 := Lib.hid (Sym.left_srt l1 P htl1)
  clear hown1 htl1 hbel1 hsz1 hN
  go_wp2
  go_loopg [4] 32 (fun g tv wx => ∃ (k : Nat) (l : List (List UInt8 × Nat)) (A3 : Option Addr) (c3 : Nat) (T : List (List UInt8)), k + g = 32 ∧ tv = .slice A3 T.length c3 ∧ T.length = k ∧ T = (Sym.srt P).take k ∧ Sym.Left l P T ∧ Held w M A1 N c1 l A3 c3 T wx)
  case atStart => exact ⟨0, l1, none, 0, [], by omega, rfl, rfl, rfl, HL1.out, hheld1⟩
  case round =>
    clear hheld1 HL1
    obtain ⟨_, l, A3, c3, T, hkg, rfl, rfl, hTe, hLf, hheld⟩ := hrel
    have hlN := hheld.1.len
    have HTe := Lib.hid hTe
    have HLf := Lib.hid hLf
    have H8 : Hid (∀ p ∈ l, p.1.length ≤ 8 ∧ p.2 ≤ 7168) := Lib.hid fun p hp => ⟨(hP8.out p.1 ((hLf.2.1 _).1 (List.mem_map_of_mem hp))).2, by have := Sym.left_times hLf hp; omega⟩
    clear hTe hLf
    obtain ⟨G, rfl⟩ : ∃ G, G = gk := ⟨_, rfl⟩
    obtain ⟨wx, rfl⟩ : ∃ wx, wx = wr := ⟨_, rfl⟩
    by_cases hk : T.length < 32
    · have hk' : (T.length : Int) < 32 := by omega
      go_wp2
      go_loopg [5, 6] N (fun g2 bv iv wz => ∃ (r : Nat) (z : Int), r + g2 = N ∧ bv = .int .i64 z ∧ iv = .int .i64 (r : Int) ∧ Sym.Best l r z ∧ Held w M A1 N c1 l A3 c3 T wz)
      case atStart => exact ⟨0, -1, by omega, rfl, rfl, Sym.best_zero l, hheld⟩
      case round =>
        clear hheld
        obtain ⟨r, z, hrg, rfl, rfl, hbest, hq⟩ := hrel
        have HB := Lib.hid hbest
        have hz := Sym.best_is hbest
        clear hbest
        by_cases hr : r < l.length
        · have hr' : (r : Int) < (N : Int) := by omega
          have hr0 : (0 : Int) ≤ (r : Int) := by omega
          obtain ⟨g, rfl, hgM, hgl⟩ := hq.1.at_ (by omega)
          have hp8 := H8.out _ (List.getElem_mem hr)
          have HWi := Lib.hid fun W => worth_held (w := w) (W := W) (M := M) (A2 := some ⟨g, 0, none⟩) (N := N) (c2 := c1) (l := l) (A3 := A3) (c3 := c3) (T := T) l[r] hp8.1 hp8.2
          have htx := Lib.hid fun W (h : Held w M (some ⟨g, 0, none⟩) N c1 l A3 c3 T W) => h.1.text hr
          have htm := Lib.hid fun W (h : Held w M (some ⟨g, 0, none⟩) N c1 l A3 c3 T W) => h.1.times hr
          by_cases h2 : l[r].2 < 2
          · have HN := Lib.hid (Sym.best_few hr HB.out h2)
            have hct := htm.out _ hq
            generalize l[r].2 = tm at *
            have hd2 : decide ((2 : Int) ≤ (tm : Int)) = false := decide_eq_false (by omega)
            clear hz HWi htx htm hp8 HB H8 HTe HLf
            go_wp2_with fail
            go_quiet (fail)
            go_wp2
            go_roundg (N - (r + 1))
            case measure => omega
            case rel => exact ⟨r + 1, z, by omega, rfl, by go_num, HN.out, hq.drewN _⟩
          · have h2' : 2 ≤ l[r].2 := by omega
            rcases hz with rfl | ⟨b, hb, rfl, hbr⟩
            · have HN := Lib.hid (Sym.best_first hr HB.out h2')
              have hct := htm.out _ hq
              generalize l[r].2 = tm at *
              have hd2 : decide ((2 : Int) ≤ (tm : Int)) = true := decide_eq_true (by omega)
              clear HWi htx htm hp8 HB H8 HTe HLf
              go_wp2_with fail
              go_quiet (fail)
              go_wp2
              go_roundg (N - (r + 1))
              case measure => omega
              case rel => exact ⟨r + 1, r, by omega, rfl, by go_num, HN.out, hq.drewN _⟩
            · have hb' : (b : Int) < (N : Int) := by omega
              have hb0 : (0 : Int) ≤ (b : Int) := by omega
              have hbn : decide ((b : Int) < 0) = false := decide_eq_false (by omega)
              have hp8b := H8.out _ (List.getElem_mem hb)
              have HWb := Lib.hid fun W => worth_held (w := w) (W := W) (M := M) (A2 := some ⟨g, 0, none⟩) (N := N) (c2 := c1) (l := l) (A3 := A3) (c3 := c3) (T := T) l[b] hp8b.1 hp8b.2
              have Hmore := Lib.hid fun hw => Sym.best_more hr hb HB.out h2' hw
              have Hsame := Lib.hid fun hw => Sym.best_same hr hb HB.out hw
              have hC : Hid (∀ W, Held w M (some ⟨g, 0, none⟩) N c1 l A3 c3 T W → W.cell? ⟨g, r * 2, none⟩ = some (.string ⟨l[r].1.toArray⟩) ∧ W.cell? ⟨g, r * 2 + 1, none⟩ = some (.int .i64 (l[r].2 : Int)) ∧ W.cell? ⟨g, b * 2, none⟩ = some (.string ⟨l[b].1.toArray⟩) ∧ W.cell? ⟨g, b * 2 + 1, none⟩ = some (.int .i64 (l[b].2 : Int))) := Lib.hid fun W h => ⟨h.1.text hr, h.1.times hr, h.1.text hb, h.1.times hb⟩
              unfold Sym.bt at Hmore Hsame
              clear hp8 hp8b htx htm HB H8 HTe HLf
              have hd2 : decide ((2 : Int) ≤ (l[r].2 : Int)) = true := decide_eq_true (by omega)
              generalize wort l[r] = Wr at *
              generalize wort l[b] = Wb at *
              generalize l[r].2 = tm at *
              generalize l[b].2 = tb at *
              generalize l[r].1 = xm at *
              generalize l[b].1 = xb at *
              obtain ⟨gb, hgb⟩ : ∃ gb, decide (Wb < Wr) = gb := ⟨_, rfl⟩
              obtain ⟨eb, heb⟩ : ∃ eb, (Wr == Wb) = eb := ⟨_, rfl⟩
              obtain ⟨lb, hlb⟩ : ∃ lb, Op.bytesLess xm xb = lb := ⟨_, rfl⟩
              clear h2 h2'
              go_wp2_with fail
              -- WALK
              refine wp_region_held_drew (S := fun W => W.cell? ⟨g, r * 2, none⟩ = some (.string ⟨xm.toArray⟩) ∧ W.cell? ⟨g, r * 2 + 1, none⟩ = some (.int .i64 (tm : Int)) ∧ W.cell? ⟨g, b * 2, none⟩ = some (.string ⟨xb.toArray⟩) ∧ W.cell? ⟨g, b * 2 + 1, none⟩ = some (.int .i64 (tb : Int))) (by kernel_rfl) (hC.out _ hq) (fun hHeld => ?_)
              change wpAnyH _ _ _ _ _ 49 #[false, false, false, false, false, false, false, false, false, false, false, false, false, false, false, false, false, false, false, false, false, false, false, false, false, false, false, false, false, false, false, false, false, false, false, false, false, false, false, false, false, false, false, false, false, false, false, false, false] _ _
              refine wpAnyH_take (i := 0) (oi := { dst := some 18, op := _, type := _, pos := _, after := _, guard := _ }) (v := (.slice (some ⟨g, 0, none⟩) N c1)) rfl (by kernel_rfl) (by kernel_rfl) (by kernel_rfl) (fun _ _ _ h => h) (Or.inl ⟨by rfl, fun _ _ => rfl⟩) (by assumption) ?_
              simp only [Act.put, List.setIfInBounds_toArray, List.set_cons_zero, List.set_cons_succ]
              refine wpAnyH_take (i := 1) (oi := { dst := some 19, op := _, type := _, pos := _, after := _, guard := _ }) (v := (.int .i64 (r : Int))) rfl (by kernel_rfl) (by kernel_rfl) (by kernel_rfl) (fun _ _ _ h => h) (Or.inl ⟨by rfl, fun _ _ => rfl⟩) (by assumption) ?_
              simp only [Act.put, List.setIfInBounds_toArray, List.set_cons_zero, List.set_cons_succ]
              refine wpAnyH_take (i := 2) (oi := { dst := some 20, op := _, type := _, pos := _, after := _, guard := _ }) (v := (.pointer (some ⟨g, r * 2, none⟩))) rfl (by kernel_rfl) (by kernel_rfl) (by kernel_rfl) (fun _ _ _ h => h) (Or.inl ⟨by rfl, by intro w hSw; (try dsimp only at hSw); go_simp⟩) (by assumption) ?_
              simp only [Act.put, List.setIfInBounds_toArray, List.set_cons_zero, List.set_cons_succ]
              refine wpAnyH_take (i := 3) (oi := { dst := some 21, op := _, type := _, pos := _, after := _, guard := _ }) (v := (.pointer (some ⟨g, r * 2 + 1, none⟩))) rfl (by kernel_rfl) (by kernel_rfl) (by kernel_rfl) (fun _ _ _ h => h) (Or.inl ⟨by rfl, by intro w hSw; (try dsimp only at hSw); go_simp⟩) (by assumption) ?_
              simp only [Act.put, List.setIfInBounds_toArray, List.set_cons_zero, List.set_cons_succ]
              refine wpAnyH_take (i := 4) (oi := { dst := some 22, op := _, type := _, pos := _, after := _, guard := _ }) (v := (.int .i64 (tm : Int))) rfl (by kernel_rfl) (by kernel_rfl) (by kernel_rfl) (fun _ _ _ h => h) (Or.inl ⟨by rfl, by intro w hSw; (try dsimp only at hSw); go_simp⟩) (by assumption) ?_
              simp only [Act.put, List.setIfInBounds_toArray, List.set_cons_zero, List.set_cons_succ]
              refine wpAnyH_take (i := 5) (oi := { dst := some 23, op := _, type := _, pos := _, after := _, guard := _ }) (v := (.bool true)) rfl (by kernel_rfl) (by kernel_rfl) (by kernel_rfl) (fun _ _ _ h => h) (Or.inl ⟨by rfl, by intro w hSw; (try dsimp only at hSw); go_simp⟩) (by assumption) ?_
              simp only [Act.put, List.setIfInBounds_toArray, List.set_cons_zero, List.set_cons_succ]
              refine wpAnyH_take (i := 6) (oi := { dst := some 24, op := _, type := _, pos := _, after := _, guard := _ }) (v := (.bool true)) rfl (by kernel_rfl) (by kernel_rfl) (by kernel_rfl) (fun _ _ _ h => h) (Or.inl ⟨by rfl, fun _ _ => rfl⟩) (by assumption) ?_
              simp only [Act.put, List.setIfInBounds_toArray, List.set_cons_zero, List.set_cons_succ]
              refine wpAnyH_take (i := 7) (oi := { dst := some 25, op := _, type := _, pos := _, after := _, guard := _ }) (v := (.int .i64 (b : Int))) rfl (by kernel_rfl) (by kernel_rfl) (by kernel_rfl) (fun _ _ _ h => h) (Or.inl ⟨by rfl, fun _ _ => rfl⟩) (by assumption) ?_
              simp only [Act.put, List.setIfInBounds_toArray, List.set_cons_zero, List.set_cons_succ]
              refine wpAnyH_take (i := 8) (oi := { dst := some 26, op := _, type := _, pos := _, after := _, guard := _ }) (v := (.bool false)) rfl (by kernel_rfl) (by kernel_rfl) (by kernel_rfl) (fun _ _ _ h => h) (Or.inl ⟨by rfl, by intro w hSw; (try dsimp only at hSw); go_simp⟩) (by assumption) ?_
              simp only [Act.put, List.setIfInBounds_toArray, List.set_cons_zero, List.set_cons_succ]
              refine wpAnyH_take (i := 9) (oi := { dst := some 27, op := _, type := _, pos := _, after := _, guard := _ }) (v := (.bool false)) rfl (by kernel_rfl) (by kernel_rfl) (by kernel_rfl) (fun _ _ _ h => h) (Or.inl ⟨by rfl, fun _ _ => rfl⟩) (by assumption) ?_
              simp only [Act.put, List.setIfInBounds_toArray, List.set_cons_zero, List.set_cons_succ]
              refine wpAnyH_take (i := 10) (oi := { dst := some 28, op := _, type := _, pos := _, after := _, guard := _ }) (v := (.slice (some ⟨g, 0, none⟩) N c1)) rfl (by kernel_rfl) (by kernel_rfl) (by kernel_rfl) (fun _ _ _ h => h) (Or.inl ⟨by rfl, fun _ _ => rfl⟩) (by assumption) ?_
              simp only [Act.put, List.setIfInBounds_toArray, List.set_cons_zero, List.set_cons_succ]
              refine wpAnyH_take (i := 11) (oi := { dst := some 29, op := _, type := _, pos := _, after := _, guard := _ }) (v := (.int .i64 (r : Int))) rfl (by kernel_rfl) (by kernel_rfl) (by kernel_rfl) (fun _ _ _ h => h) (Or.inl ⟨by rfl, fun _ _ => rfl⟩) (by assumption) ?_
              simp only [Act.put, List.setIfInBounds_toArray, List.set_cons_zero, List.set_cons_succ]
              refine wpAnyH_take (i := 12) (oi := { dst := some 30, op := _, type := _, pos := _, after := _, guard := _ }) (v := (.pointer (some ⟨g, r * 2, none⟩))) rfl (by kernel_rfl) (by kernel_rfl) (by kernel_rfl) (fun _ _ _ h => h) (Or.inl ⟨by rfl, by intro w hSw; (try dsimp only at hSw); go_simp⟩) (by assumption) ?_
              simp only [Act.put, List.setIfInBounds_toArray, List.set_cons_zero, List.set_cons_succ]
              refine wpAnyH_take (i := 13) (oi := { dst := some 31, op := _, type := _, pos := _, after := _, guard := _ }) (v := (.agg #[.string ⟨xm.toArray⟩, .int .i64 (tm : Int)])) rfl (by kernel_rfl) (by kernel_rfl) (by kernel_rfl) (fun _ _ _ h => h) (Or.inl ⟨by rfl, by intro w hSw; (try dsimp only at hSw); go_simp⟩) (by assumption) ?_
              simp only [Act.put, List.setIfInBounds_toArray, List.set_cons_zero, List.set_cons_succ]
              refine wpAnyH_take (i := 15) (oi := { dst := some 33, op := _, type := _, pos := _, after := _, guard := _ }) (v := (.slice (some ⟨g, 0, none⟩) N c1)) rfl (by kernel_rfl) (by kernel_rfl) (by kernel_rfl) (fun _ _ _ h => h) (Or.inl ⟨by rfl, fun _ _ => rfl⟩) (by assumption) ?_
              simp only [Act.put, List.setIfInBounds_toArray, List.set_cons_zero, List.set_cons_succ]
              refine wpAnyH_take (i := 16) (oi := { dst := some 34, op := _, type := _, pos := _, after := _, guard := _ }) (v := (.int .i64 (b : Int))) rfl (by kernel_rfl) (by kernel_rfl) (by kernel_rfl) (fun _ _ _ h => h) (Or.inl ⟨by rfl, fun _ _ => rfl⟩) (by assumption) ?_
              simp only [Act.put, List.setIfInBounds_toArray, List.set_cons_zero, List.set_cons_succ]
              refine wpAnyH_take (i := 17) (oi := { dst := some 35, op := _, type := _, pos := _, after := _, guard := _ }) (v := (.pointer (some ⟨g, b * 2, none⟩))) rfl (by kernel_rfl) (by kernel_rfl) (by kernel_rfl) (fun _ _ _ h => h) (Or.inl ⟨by rfl, by intro w hSw; (try dsimp only at hSw); go_simp⟩) (by assumption) ?_
              simp only [Act.put, List.setIfInBounds_toArray, List.set_cons_zero, List.set_cons_succ]
              refine wpAnyH_take (i := 18) (oi := { dst := some 36, op := _, type := _, pos := _, after := _, guard := _ }) (v := (.agg #[.string ⟨xb.toArray⟩, .int .i64 (tb : Int)])) rfl (by kernel_rfl) (by kernel_rfl) (by kernel_rfl) (fun _ _ _ h => h) (Or.inl ⟨by rfl, by intro w hSw; (try dsimp only at hSw); go_simp⟩) (by assumption) ?_
              simp only [Act.put, List.setIfInBounds_toArray, List.set_cons_zero, List.set_cons_succ]
              refine wpAnyH_ready (rs := [14]) (by kernel_rfl) (by simp) ?_
              refine AllReadyH.cons (o := { dst := some 32, op := _, type := _, pos := _, after := _, guard := _ }) rfl (fun K hK => ?_) AllReadyH.nil
              go_simp
              refine (HWi.out _ (by exact hq)).mono ?_
              rintro e w5 ⟨rfl, hq⟩
              go_wp2_with fail
              refine hK.out _ _ (hC.out _ hq) (fun hHeld => ?_)
              clear hK K
              simp only [List.setIfInBounds_toArray, List.set_cons_zero, List.set_cons_succ]
              refine wpAnyH_ready (rs := [19]) (by kernel_rfl) (by simp) ?_
              refine AllReadyH.cons (o := { dst := some 37, op := _, type := _, pos := _, after := _, guard := _ }) rfl (fun K hK => ?_) AllReadyH.nil
              go_simp
              refine (HWb.out _ (by exact hq)).mono ?_
              rintro e w5 ⟨rfl, hq⟩
              go_wp2_with fail
              refine hK.out _ _ (hC.out _ hq) (fun hHeld => ?_)
              clear hK K
              simp only [List.setIfInBounds_toArray, List.set_cons_zero, List.set_cons_succ]
              refine wpAnyH_take (i := 20) (oi := { dst := some 38, op := _, type := _, pos := _, after := _, guard := _ }) (v := (.bool gb)) rfl (by kernel_rfl) (by kernel_rfl) (by kernel_rfl) (fun _ _ _ h => h) (Or.inl ⟨by rfl, by intro w hSw; (try dsimp only at hSw); go_simp⟩) (by assumption) ?_
              simp only [Act.put, List.setIfInBounds_toArray, List.set_cons_zero, List.set_cons_succ]
              refine wpAnyH_take (i := 21) (oi := { dst := some 39, op := _, type := _, pos := _, after := _, guard := _ }) (v := (.bool gb)) rfl (by kernel_rfl) (by kernel_rfl) (by kernel_rfl) (fun _ _ _ h => h) (Or.inl ⟨by rfl, fun _ _ => rfl⟩) (by assumption) ?_
              simp only [Act.put, List.setIfInBounds_toArray, List.set_cons_zero, List.set_cons_succ]
              refine wpAnyH_take (i := 22) (oi := { dst := some 40, op := _, type := _, pos := _, after := _, guard := _ }) (v := (.bool gb)) rfl (by kernel_rfl) (by kernel_rfl) (by kernel_rfl) (fun _ _ _ h => h) (Or.inl ⟨by rfl, fun _ _ => rfl⟩) (by assumption) ?_
              simp only [Act.put, List.setIfInBounds_toArray, List.set_cons_zero, List.set_cons_succ]
              cases gb
              · refine wpAnyH_take (i := 23) (oi := { dst := some 41, op := _, type := _, pos := _, after := _, guard := _ }) (v := (.slice (some ⟨g, 0, none⟩) N c1)) rfl (by kernel_rfl) (by kernel_rfl) (by kernel_rfl) (fun _ _ _ h => h) (Or.inl ⟨by rfl, fun _ _ => rfl⟩) (by assumption) ?_
                simp only [Act.put, List.setIfInBounds_toArray, List.set_cons_zero, List.set_cons_succ]
                refine wpAnyH_take (i := 24) (oi := { dst := some 42, op := _, type := _, pos := _, after := _, guard := _ }) (v := (.int .i64 (r : Int))) rfl (by kernel_rfl) (by kernel_rfl) (by kernel_rfl) (fun _ _ _ h => h) (Or.inl ⟨by rfl, fun _ _ => rfl⟩) (by assumption) ?_
                simp only [Act.put, List.setIfInBounds_toArray, List.set_cons_zero, List.set_cons_succ]
                refine wpAnyH_take (i := 25) (oi := { dst := some 43, op := _, type := _, pos := _, after := _, guard := _ }) (v := (.pointer (some ⟨g, r * 2, none⟩))) rfl (by kernel_rfl) (by kernel_rfl) (by kernel_rfl) (fun _ _ _ h => h) (Or.inl ⟨by rfl, by intro w hSw; (try dsimp only at hSw); go_simp⟩) (by assumption) ?_
                simp only [Act.put, List.setIfInBounds_toArray, List.set_cons_zero, List.set_cons_succ]
                refine wpAnyH_take (i := 26) (oi := { dst := some 44, op := _, type := _, pos := _, after := _, guard := _ }) (v := (.agg #[.string ⟨xm.toArray⟩, .int .i64 (tm : Int)])) rfl (by kernel_rfl) (by kernel_rfl) (by kernel_rfl) (fun _ _ _ h => h) (Or.inl ⟨by rfl, by intro w hSw; (try dsimp only at hSw); go_simp⟩) (by assumption) ?_
                simp only [Act.put, List.setIfInBounds_toArray, List.set_cons_zero, List.set_cons_succ]
                refine wpAnyH_take (i := 28) (oi := { dst := some 46, op := _, type := _, pos := _, after := _, guard := _ }) (v := (.slice (some ⟨g, 0, none⟩) N c1)) rfl (by kernel_rfl) (by kernel_rfl) (by kernel_rfl) (fun _ _ _ h => h) (Or.inl ⟨by rfl, fun _ _ => rfl⟩) (by assumption) ?_
                simp only [Act.put, List.setIfInBounds_toArray, List.set_cons_zero, List.set_cons_succ]
                refine wpAnyH_take (i := 29) (oi := { dst := some 47, op := _, type := _, pos := _, after := _, guard := _ }) (v := (.int .i64 (b : Int))) rfl (by kernel_rfl) (by kernel_rfl) (by kernel_rfl) (fun _ _ _ h => h) (Or.inl ⟨by rfl, fun _ _ => rfl⟩) (by assumption) ?_
                simp only [Act.put, List.setIfInBounds_toArray, List.set_cons_zero, List.set_cons_succ]
                refine wpAnyH_take (i := 30) (oi := { dst := some 48, op := _, type := _, pos := _, after := _, guard := _ }) (v := (.pointer (some ⟨g, b * 2, none⟩))) rfl (by kernel_rfl) (by kernel_rfl) (by kernel_rfl) (fun _ _ _ h => h) (Or.inl ⟨by rfl, by intro w hSw; (try dsimp only at hSw); go_simp⟩) (by assumption) ?_
                simp only [Act.put, List.setIfInBounds_toArray, List.set_cons_zero, List.set_cons_succ]
                refine wpAnyH_take (i := 31) (oi := { dst := some 49, op := _, type := _, pos := _, after := _, guard := _ }) (v := (.agg #[.string ⟨xb.toArray⟩, .int .i64 (tb : Int)])) rfl (by kernel_rfl) (by kernel_rfl) (by kernel_rfl) (fun _ _ _ h => h) (Or.inl ⟨by rfl, by intro w hSw; (try dsimp only at hSw); go_simp⟩) (by assumption) ?_
                simp only [Act.put, List.setIfInBounds_toArray, List.set_cons_zero, List.set_cons_succ]
                refine wpAnyH_ready (rs := [27]) (by kernel_rfl) (by simp) ?_
                refine AllReadyH.cons (o := { dst := some 45, op := _, type := _, pos := _, after := _, guard := _ }) rfl (fun K hK => ?_) AllReadyH.nil
                go_simp
                refine (HWi.out _ (by exact hq)).mono ?_
                rintro e w5 ⟨rfl, hq⟩
                go_wp2_with fail
                refine hK.out _ _ (hC.out _ hq) (fun hHeld => ?_)
                clear hK K
                simp only [List.setIfInBounds_toArray, List.set_cons_zero, List.set_cons_succ]
                refine wpAnyH_ready (rs := [32]) (by kernel_rfl) (by simp) ?_
                refine AllReadyH.cons (o := { dst := some 50, op := _, type := _, pos := _, after := _, guard := _ }) rfl (fun K hK => ?_) AllReadyH.nil
                go_simp
                refine (HWb.out _ (by exact hq)).mono ?_
                rintro e w5 ⟨rfl, hq⟩
                go_wp2_with fail
                refine hK.out _ _ (hC.out _ hq) (fun hHeld => ?_)
                clear hK K
                simp only [List.setIfInBounds_toArray, List.set_cons_zero, List.set_cons_succ]
                refine wpAnyH_take (i := 33) (oi := { dst := some 51, op := _, type := _, pos := _, after := _, guard := _ }) (v := (.bool eb)) rfl (by kernel_rfl) (by kernel_rfl) (by kernel_rfl) (fun _ _ _ h => h) (Or.inl ⟨by rfl, by intro w hSw; (try dsimp only at hSw); go_simp⟩) (by assumption) ?_
                simp only [Act.put, List.setIfInBounds_toArray, List.set_cons_zero, List.set_cons_succ]
                refine wpAnyH_take (i := 34) (oi := { dst := some 52, op := _, type := _, pos := _, after := _, guard := _ }) (v := (.bool eb)) rfl (by kernel_rfl) (by kernel_rfl) (by kernel_rfl) (fun _ _ _ h => h) (Or.inl ⟨by rfl, fun _ _ => rfl⟩) (by assumption) ?_
                simp only [Act.put, List.setIfInBounds_toArray, List.set_cons_zero, List.set_cons_succ]
                cases eb
                · refine wpAnyH_take (i := 35) (oi := { dst := some 53, op := _, type := _, pos := _, after := _, guard := _ }) (v := undef) rfl (by kernel_rfl) (by kernel_rfl) (by kernel_rfl) (fun _ _ _ h => h) (Or.inr ⟨by rfl, rfl⟩) (by assumption) ?_
                  simp only [Act.put, List.setIfInBounds_toArray, List.set_cons_zero, List.set_cons_succ]
                  refine wpAnyH_take (i := 36) (oi := { dst := some 54, op := _, type := _, pos := _, after := _, guard := _ }) (v := undef) rfl (by kernel_rfl) (by kernel_rfl) (by kernel_rfl) (fun _ _ _ h => h) (Or.inr ⟨by rfl, rfl⟩) (by assumption) ?_
                  simp only [Act.put, List.setIfInBounds_toArray, List.set_cons_zero, List.set_cons_succ]
                  refine wpAnyH_take (i := 37) (oi := { dst := some 55, op := _, type := _, pos := _, after := _, guard := _ }) (v := undef) rfl (by kernel_rfl) (by kernel_rfl) (by kernel_rfl) (fun _ _ _ h => h) (Or.inr ⟨by rfl, rfl⟩) (by assumption) ?_
                  simp only [Act.put, List.setIfInBounds_toArray, List.set_cons_zero, List.set_cons_succ]
                  refine wpAnyH_take (i := 38) (oi := { dst := some 56, op := _, type := _, pos := _, after := _, guard := _ }) (v := undef) rfl (by kernel_rfl) (by kernel_rfl) (by kernel_rfl) (fun _ _ _ h => h) (Or.inr ⟨by rfl, rfl⟩) (by assumption) ?_
                  simp only [Act.put, List.setIfInBounds_toArray, List.set_cons_zero, List.set_cons_succ]
                  refine wpAnyH_take (i := 39) (oi := { dst := some 57, op := _, type := _, pos := _, after := _, guard := _ }) (v := undef) rfl (by kernel_rfl) (by kernel_rfl) (by kernel_rfl) (fun _ _ _ h => h) (Or.inr ⟨by rfl, rfl⟩) (by assumption) ?_
                  simp only [Act.put, List.setIfInBounds_toArray, List.set_cons_zero, List.set_cons_succ]
                  refine wpAnyH_take (i := 40) (oi := { dst := some 58, op := _, type := _, pos := _, after := _, guard := _ }) (v := undef) rfl (by kernel_rfl) (by kernel_rfl) (by kernel_rfl) (fun _ _ _ h => h) (Or.inr ⟨by rfl, rfl⟩) (by assumption) ?_
                  simp only [Act.put, List.setIfInBounds_toArray, List.set_cons_zero, List.set_cons_succ]
                  refine wpAnyH_take (i := 41) (oi := { dst := some 59, op := _, type := _, pos := _, after := _, guard := _ }) (v := undef) rfl (by kernel_rfl) (by kernel_rfl) (by kernel_rfl) (fun _ _ _ h => h) (Or.inr ⟨by rfl, rfl⟩) (by assumption) ?_
                  simp only [Act.put, List.setIfInBounds_toArray, List.set_cons_zero, List.set_cons_succ]
                  refine wpAnyH_take (i := 42) (oi := { dst := some 60, op := _, type := _, pos := _, after := _, guard := _ }) (v := undef) rfl (by kernel_rfl) (by kernel_rfl) (by kernel_rfl) (fun _ _ _ h => h) (Or.inr ⟨by rfl, rfl⟩) (by assumption) ?_
                  simp only [Act.put, List.setIfInBounds_toArray, List.set_cons_zero, List.set_cons_succ]
                  refine wpAnyH_take (i := 43) (oi := { dst := some 61, op := _, type := _, pos := _, after := _, guard := _ }) (v := undef) rfl (by kernel_rfl) (by kernel_rfl) (by kernel_rfl) (fun _ _ _ h => h) (Or.inr ⟨by rfl, rfl⟩) (by assumption) ?_
                  simp only [Act.put, List.setIfInBounds_toArray, List.set_cons_zero, List.set_cons_succ]
                  refine wpAnyH_take (i := 44) (oi := { dst := some 62, op := _, type := _, pos := _, after := _, guard := _ }) (v := undef) rfl (by kernel_rfl) (by kernel_rfl) (by kernel_rfl) (fun _ _ _ h => h) (Or.inr ⟨by rfl, rfl⟩) (by assumption) ?_
                  simp only [Act.put, List.setIfInBounds_toArray, List.set_cons_zero, List.set_cons_succ]
                  refine wpAnyH_take (i := 45) (oi := { dst := some 63, op := _, type := _, pos := _, after := _, guard := _ }) (v := undef) rfl (by kernel_rfl) (by kernel_rfl) (by kernel_rfl) (fun _ _ _ h => h) (Or.inr ⟨by rfl, rfl⟩) (by assumption) ?_
                  simp only [Act.put, List.setIfInBounds_toArray, List.set_cons_zero, List.set_cons_succ]
                  refine wpAnyH_take (i := 46) (oi := { dst := some 64, op := _, type := _, pos := _, after := _, guard := _ }) (v := (.bool false)) rfl (by kernel_rfl) (by kernel_rfl) (by kernel_rfl) (fun _ _ _ h => h) (Or.inl ⟨by rfl, fun _ _ => rfl⟩) (by assumption) ?_
                  simp only [Act.put, List.setIfInBounds_toArray, List.set_cons_zero, List.set_cons_succ]
                  refine wpAnyH_take (i := 47) (oi := { dst := some 65, op := _, type := _, pos := _, after := _, guard := _ }) (v := (.bool false)) rfl (by kernel_rfl) (by kernel_rfl) (by kernel_rfl) (fun _ _ _ h => h) (Or.inl ⟨by rfl, fun _ _ => rfl⟩) (by assumption) ?_
                  simp only [Act.put, List.setIfInBounds_toArray, List.set_cons_zero, List.set_cons_succ]
                  refine wpAnyH_take (i := 48) (oi := { dst := some 66, op := _, type := _, pos := _, after := _, guard := _ }) (v := (.bool false)) rfl (by kernel_rfl) (by kernel_rfl) (by kernel_rfl) (fun _ _ _ h => h) (Or.inl ⟨by rfl, fun _ _ => rfl⟩) (by assumption) ?_
                  simp only [Act.put, List.setIfInBounds_toArray, List.set_cons_zero, List.set_cons_succ]
                  refine wpAnyH_done (by kernel_rfl) ?_ _
                  go_wp2
                  go_roundg (N - (r + 1))
                  case measure => omega
                  case rel => exact ⟨r + 1, b, by omega, rfl, by go_num, Hsame.out (nb_less hgb heb), hq⟩
                · refine wpAnyH_take (i := 35) (oi := { dst := some 53, op := _, type := _, pos := _, after := _, guard := _ }) (v := (.slice (some ⟨g, 0, none⟩) N c1)) rfl (by kernel_rfl) (by kernel_rfl) (by kernel_rfl) (fun _ _ _ h => h) (Or.inl ⟨by rfl, fun _ _ => rfl⟩) (by assumption) ?_
                  simp only [Act.put, List.setIfInBounds_toArray, List.set_cons_zero, List.set_cons_succ]
                  refine wpAnyH_take (i := 36) (oi := { dst := some 54, op := _, type := _, pos := _, after := _, guard := _ }) (v := (.int .i64 (r : Int))) rfl (by kernel_rfl) (by kernel_rfl) (by kernel_rfl) (fun _ _ _ h => h) (Or.inl ⟨by rfl, fun _ _ => rfl⟩) (by assumption) ?_
                  simp only [Act.put, List.setIfInBounds_toArray, List.set_cons_zero, List.set_cons_succ]
                  refine wpAnyH_take (i := 37) (oi := { dst := some 55, op := _, type := _, pos := _, after := _, guard := _ }) (v := (.pointer (some ⟨g, r * 2, none⟩))) rfl (by kernel_rfl) (by kernel_rfl) (by kernel_rfl) (fun _ _ _ h => h) (Or.inl ⟨by rfl, by intro w hSw; (try dsimp only at hSw); go_simp⟩) (by assumption) ?_
                  simp only [Act.put, List.setIfInBounds_toArray, List.set_cons_zero, List.set_cons_succ]
                  refine wpAnyH_take (i := 38) (oi := { dst := some 56, op := _, type := _, pos := _, after := _, guard := _ }) (v := (.pointer (some ⟨g, r * 2, none⟩))) rfl (by kernel_rfl) (by kernel_rfl) (by kernel_rfl) (fun _ _ _ h => h) (Or.inl ⟨by rfl, by intro w hSw; (try dsimp only at hSw); go_simp⟩) (by assumption) ?_
                  simp only [Act.put, List.setIfInBounds_toArray, List.set_cons_zero, List.set_cons_succ]
                  refine wpAnyH_take (i := 39) (oi := { dst := some 57, op := _, type := _, pos := _, after := _, guard := _ }) (v := (.string ⟨xm.toArray⟩)) rfl (by kernel_rfl) (by kernel_rfl) (by kernel_rfl) (fun _ _ _ h => h) (Or.inl ⟨by rfl, by intro w hSw; (try dsimp only at hSw); go_simp⟩) (by assumption) ?_
                  simp only [Act.put, List.setIfInBounds_toArray, List.set_cons_zero, List.set_cons_succ]
                  refine wpAnyH_take (i := 40) (oi := { dst := some 58, op := _, type := _, pos := _, after := _, guard := _ }) (v := (.slice (some ⟨g, 0, none⟩) N c1)) rfl (by kernel_rfl) (by kernel_rfl) (by kernel_rfl) (fun _ _ _ h => h) (Or.inl ⟨by rfl, fun _ _ => rfl⟩) (by assumption) ?_
                  simp only [Act.put, List.setIfInBounds_toArray, List.set_cons_zero, List.set_cons_succ]
                  refine wpAnyH_take (i := 41) (oi := { dst := some 59, op := _, type := _, pos := _, after := _, guard := _ }) (v := (.int .i64 (b : Int))) rfl (by kernel_rfl) (by kernel_rfl) (by kernel_rfl) (fun _ _ _ h => h) (Or.inl ⟨by rfl, fun _ _ => rfl⟩) (by assumption) ?_
                  simp only [Act.put, List.setIfInBounds_toArray, List.set_cons_zero, List.set_cons_succ]
                  refine wpAnyH_take (i := 42) (oi := { dst := some 60, op := _, type := _, pos := _, after := _, guard := _ }) (v := (.pointer (some ⟨g, b * 2, none⟩))) rfl (by kernel_rfl) (by kernel_rfl) (by kernel_rfl) (fun _ _ _ h => h) (Or.inl ⟨by rfl, by intro w hSw; (try dsimp only at hSw); go_simp⟩) (by assumption) ?_
                  simp only [Act.put, List.setIfInBounds_toArray, List.set_cons_zero, List.set_cons_succ]
                  refine wpAnyH_take (i := 43) (oi := { dst := some 61, op := _, type := _, pos := _, after := _, guard := _ }) (v := (.pointer (some ⟨g, b * 2, none⟩))) rfl (by kernel_rfl) (by kernel_rfl) (by kernel_rfl) (fun _ _ _ h => h) (Or.inl ⟨by rfl, by intro w hSw; (try dsimp only at hSw); go_simp⟩) (by assumption) ?_
                  simp only [Act.put, List.setIfInBounds_toArray, List.set_cons_zero, List.set_cons_succ]
                  refine wpAnyH_take (i := 44) (oi := { dst := some 62, op := _, type := _, pos := _, after := _, guard := _ }) (v := (.string ⟨xb.toArray⟩)) rfl (by kernel_rfl) (by kernel_rfl) (by kernel_rfl) (fun _ _ _ h => h) (Or.inl ⟨by rfl, by intro w hSw; (try dsimp only at hSw); go_simp⟩) (by assumption) ?_
                  simp only [Act.put, List.setIfInBounds_toArray, List.set_cons_zero, List.set_cons_succ]
                  refine wpAnyH_take (i := 45) (oi := { dst := some 63, op := _, type := _, pos := _, after := _, guard := _ }) (v := (.bool lb)) rfl (by kernel_rfl) (by kernel_rfl) (by kernel_rfl) (fun _ _ _ h => h) (Or.inl ⟨by rfl, by intro w hSw; (try dsimp only at hSw); go_simp⟩) (by assumption) ?_
                  simp only [Act.put, List.setIfInBounds_toArray, List.set_cons_zero, List.set_cons_succ]
                  refine wpAnyH_take (i := 46) (oi := { dst := some 64, op := _, type := _, pos := _, after := _, guard := _ }) (v := (.bool lb)) rfl (by kernel_rfl) (by kernel_rfl) (by kernel_rfl) (fun _ _ _ h => h) (Or.inl ⟨by rfl, fun _ _ => rfl⟩) (by assumption) ?_
                  simp only [Act.put, List.setIfInBounds_toArray, List.set_cons_zero, List.set_cons_succ]
                  refine wpAnyH_take (i := 47) (oi := { dst := some 65, op := _, type := _, pos := _, after := _, guard := _ }) (v := (.bool lb)) rfl (by kernel_rfl) (by kernel_rfl) (by kernel_rfl) (fun _ _ _ h => h) (Or.inl ⟨by rfl, fun _ _ => rfl⟩) (by assumption) ?_
                  simp only [Act.put, List.setIfInBounds_toArray, List.set_cons_zero, List.set_cons_succ]
                  refine wpAnyH_take (i := 48) (oi := { dst := some 66, op := _, type := _, pos := _, after := _, guard := _ }) (v := (.bool lb)) rfl (by kernel_rfl) (by kernel_rfl) (by kernel_rfl) (fun _ _ _ h => h) (Or.inl ⟨by rfl, fun _ _ => rfl⟩) (by assumption) ?_
                  simp only [Act.put, List.setIfInBounds_toArray, List.set_cons_zero, List.set_cons_succ]
                  refine wpAnyH_done (by kernel_rfl) ?_ _
                  cases lb
                  · go_wp2
                    go_roundg (N - (r + 1))
                    case measure => omega
                    case rel => exact ⟨r + 1, b, by omega, rfl, by go_num, Hsame.out (nb_text hgb hlb), hq⟩
                  · go_wp2
                    go_roundg (N - (r + 1))
                    case measure => omega
                    case rel => exact ⟨r + 1, r, by omega, rfl, by go_num, Hmore.out (bt_text heb hlb), hq⟩
              · refine wpAnyH_take (i := 23) (oi := { dst := some 41, op := _, type := _, pos := _, after := _, guard := _ }) (v := undef) rfl (by kernel_rfl) (by kernel_rfl) (by kernel_rfl) (fun _ _ _ h => h) (Or.inr ⟨by rfl, rfl⟩) (by assumption) ?_
                simp only [Act.put, List.setIfInBounds_toArray, List.set_cons_zero, List.set_cons_succ]
                refine wpAnyH_take (i := 24) (oi := { dst := some 42, op := _, type := _, pos := _, after := _, guard := _ }) (v := undef) rfl (by kernel_rfl) (by kernel_rfl) (by kernel_rfl) (fun _ _ _ h => h) (Or.inr ⟨by rfl, rfl⟩) (by assumption) ?_
                simp only [Act.put, List.setIfInBounds_toArray, List.set_cons_zero, List.set_cons_succ]
                refine wpAnyH_take (i := 25) (oi := { dst := some 43, op := _, type := _, pos := _, after := _, guard := _ }) (v := undef) rfl (by kernel_rfl) (by kernel_rfl) (by kernel_rfl) (fun _ _ _ h => h) (Or.inr ⟨by rfl, rfl⟩) (by assumption) ?_
                simp only [Act.put, List.setIfInBounds_toArray, List.set_cons_zero, List.set_cons_succ]
                refine wpAnyH_take (i := 26) (oi := { dst := some 44, op := _, type := _, pos := _, after := _, guard := _ }) (v := undef) rfl (by kernel_rfl) (by kernel_rfl) (by kernel_rfl) (fun _ _ _ h => h) (Or.inr ⟨by rfl, rfl⟩) (by assumption) ?_
                simp only [Act.put, List.setIfInBounds_toArray, List.set_cons_zero, List.set_cons_succ]
                refine wpAnyH_take (i := 27) (oi := { dst := some 45, op := _, type := _, pos := _, after := _, guard := _ }) (v := undef) rfl (by kernel_rfl) (by kernel_rfl) (by kernel_rfl) (fun _ _ _ h => h) (Or.inr ⟨by rfl, rfl⟩) (by assumption) ?_
                simp only [Act.put, List.setIfInBounds_toArray, List.set_cons_zero, List.set_cons_succ]
                refine wpAnyH_take (i := 28) (oi := { dst := some 46, op := _, type := _, pos := _, after := _, guard := _ }) (v := undef) rfl (by kernel_rfl) (by kernel_rfl) (by kernel_rfl) (fun _ _ _ h => h) (Or.inr ⟨by rfl, rfl⟩) (by assumption) ?_
                simp only [Act.put, List.setIfInBounds_toArray, List.set_cons_zero, List.set_cons_succ]
                refine wpAnyH_take (i := 29) (oi := { dst := some 47, op := _, type := _, pos := _, after := _, guard := _ }) (v := undef) rfl (by kernel_rfl) (by kernel_rfl) (by kernel_rfl) (fun _ _ _ h => h) (Or.inr ⟨by rfl, rfl⟩) (by assumption) ?_
                simp only [Act.put, List.setIfInBounds_toArray, List.set_cons_zero, List.set_cons_succ]
                refine wpAnyH_take (i := 30) (oi := { dst := some 48, op := _, type := _, pos := _, after := _, guard := _ }) (v := undef) rfl (by kernel_rfl) (by kernel_rfl) (by kernel_rfl) (fun _ _ _ h => h) (Or.inr ⟨by rfl, rfl⟩) (by assumption) ?_
                simp only [Act.put, List.setIfInBounds_toArray, List.set_cons_zero, List.set_cons_succ]
                refine wpAnyH_take (i := 31) (oi := { dst := some 49, op := _, type := _, pos := _, after := _, guard := _ }) (v := undef) rfl (by kernel_rfl) (by kernel_rfl) (by kernel_rfl) (fun _ _ _ h => h) (Or.inr ⟨by rfl, rfl⟩) (by assumption) ?_
                simp only [Act.put, List.setIfInBounds_toArray, List.set_cons_zero, List.set_cons_succ]
                refine wpAnyH_take (i := 32) (oi := { dst := some 50, op := _, type := _, pos := _, after := _, guard := _ }) (v := undef) rfl (by kernel_rfl) (by kernel_rfl) (by kernel_rfl) (fun _ _ _ h => h) (Or.inr ⟨by rfl, rfl⟩) (by assumption) ?_
                simp only [Act.put, List.setIfInBounds_toArray, List.set_cons_zero, List.set_cons_succ]
                refine wpAnyH_take (i := 33) (oi := { dst := some 51, op := _, type := _, pos := _, after := _, guard := _ }) (v := undef) rfl (by kernel_rfl) (by kernel_rfl) (by kernel_rfl) (fun _ _ _ h => h) (Or.inr ⟨by rfl, rfl⟩) (by assumption) ?_
                simp only [Act.put, List.setIfInBounds_toArray, List.set_cons_zero, List.set_cons_succ]
                refine wpAnyH_take (i := 34) (oi := { dst := some 52, op := _, type := _, pos := _, after := _, guard := _ }) (v := undef) rfl (by kernel_rfl) (by kernel_rfl) (by kernel_rfl) (fun _ _ _ h => h) (Or.inr ⟨by rfl, rfl⟩) (by assumption) ?_
                simp only [Act.put, List.setIfInBounds_toArray, List.set_cons_zero, List.set_cons_succ]
                refine wpAnyH_take (i := 35) (oi := { dst := some 53, op := _, type := _, pos := _, after := _, guard := _ }) (v := undef) rfl (by kernel_rfl) (by kernel_rfl) (by kernel_rfl) (fun _ _ _ h => h) (Or.inr ⟨by rfl, rfl⟩) (by assumption) ?_
                simp only [Act.put, List.setIfInBounds_toArray, List.set_cons_zero, List.set_cons_succ]
                refine wpAnyH_take (i := 36) (oi := { dst := some 54, op := _, type := _, pos := _, after := _, guard := _ }) (v := undef) rfl (by kernel_rfl) (by kernel_rfl) (by kernel_rfl) (fun _ _ _ h => h) (Or.inr ⟨by rfl, rfl⟩) (by assumption) ?_
                simp only [Act.put, List.setIfInBounds_toArray, List.set_cons_zero, List.set_cons_succ]
                refine wpAnyH_take (i := 37) (oi := { dst := some 55, op := _, type := _, pos := _, after := _, guard := _ }) (v := undef) rfl (by kernel_rfl) (by kernel_rfl) (by kernel_rfl) (fun _ _ _ h => h) (Or.inr ⟨by rfl, rfl⟩) (by assumption) ?_
                simp only [Act.put, List.setIfInBounds_toArray, List.set_cons_zero, List.set_cons_succ]
                refine wpAnyH_take (i := 38) (oi := { dst := some 56, op := _, type := _, pos := _, after := _, guard := _ }) (v := undef) rfl (by kernel_rfl) (by kernel_rfl) (by kernel_rfl) (fun _ _ _ h => h) (Or.inr ⟨by rfl, rfl⟩) (by assumption) ?_
                simp only [Act.put, List.setIfInBounds_toArray, List.set_cons_zero, List.set_cons_succ]
                refine wpAnyH_take (i := 39) (oi := { dst := some 57, op := _, type := _, pos := _, after := _, guard := _ }) (v := undef) rfl (by kernel_rfl) (by kernel_rfl) (by kernel_rfl) (fun _ _ _ h => h) (Or.inr ⟨by rfl, rfl⟩) (by assumption) ?_
                simp only [Act.put, List.setIfInBounds_toArray, List.set_cons_zero, List.set_cons_succ]
                refine wpAnyH_take (i := 40) (oi := { dst := some 58, op := _, type := _, pos := _, after := _, guard := _ }) (v := undef) rfl (by kernel_rfl) (by kernel_rfl) (by kernel_rfl) (fun _ _ _ h => h) (Or.inr ⟨by rfl, rfl⟩) (by assumption) ?_
                simp only [Act.put, List.setIfInBounds_toArray, List.set_cons_zero, List.set_cons_succ]
                refine wpAnyH_take (i := 41) (oi := { dst := some 59, op := _, type := _, pos := _, after := _, guard := _ }) (v := undef) rfl (by kernel_rfl) (by kernel_rfl) (by kernel_rfl) (fun _ _ _ h => h) (Or.inr ⟨by rfl, rfl⟩) (by assumption) ?_
                simp only [Act.put, List.setIfInBounds_toArray, List.set_cons_zero, List.set_cons_succ]
                refine wpAnyH_take (i := 42) (oi := { dst := some 60, op := _, type := _, pos := _, after := _, guard := _ }) (v := undef) rfl (by kernel_rfl) (by kernel_rfl) (by kernel_rfl) (fun _ _ _ h => h) (Or.inr ⟨by rfl, rfl⟩) (by assumption) ?_
                simp only [Act.put, List.setIfInBounds_toArray, List.set_cons_zero, List.set_cons_succ]
                refine wpAnyH_take (i := 43) (oi := { dst := some 61, op := _, type := _, pos := _, after := _, guard := _ }) (v := undef) rfl (by kernel_rfl) (by kernel_rfl) (by kernel_rfl) (fun _ _ _ h => h) (Or.inr ⟨by rfl, rfl⟩) (by assumption) ?_
                simp only [Act.put, List.setIfInBounds_toArray, List.set_cons_zero, List.set_cons_succ]
                refine wpAnyH_take (i := 44) (oi := { dst := some 62, op := _, type := _, pos := _, after := _, guard := _ }) (v := undef) rfl (by kernel_rfl) (by kernel_rfl) (by kernel_rfl) (fun _ _ _ h => h) (Or.inr ⟨by rfl, rfl⟩) (by assumption) ?_
                simp only [Act.put, List.setIfInBounds_toArray, List.set_cons_zero, List.set_cons_succ]
                refine wpAnyH_take (i := 45) (oi := { dst := some 63, op := _, type := _, pos := _, after := _, guard := _ }) (v := undef) rfl (by kernel_rfl) (by kernel_rfl) (by kernel_rfl) (fun _ _ _ h => h) (Or.inr ⟨by rfl, rfl⟩) (by assumption) ?_
                simp only [Act.put, List.setIfInBounds_toArray, List.set_cons_zero, List.set_cons_succ]
                refine wpAnyH_take (i := 46) (oi := { dst := some 64, op := _, type := _, pos := _, after := _, guard := _ }) (v := undef) rfl (by kernel_rfl) (by kernel_rfl) (by kernel_rfl) (fun _ _ _ h => h) (Or.inr ⟨by rfl, rfl⟩) (by assumption) ?_
                simp only [Act.put, List.setIfInBounds_toArray, List.set_cons_zero, List.set_cons_succ]
                refine wpAnyH_take (i := 47) (oi := { dst := some 65, op := _, type := _, pos := _, after := _, guard := _ }) (v := (.bool true)) rfl (by kernel_rfl) (by kernel_rfl) (by kernel_rfl) (fun _ _ _ h => h) (Or.inl ⟨by rfl, fun _ _ => rfl⟩) (by assumption) ?_
                simp only [Act.put, List.setIfInBounds_toArray, List.set_cons_zero, List.set_cons_succ]
                refine wpAnyH_take (i := 48) (oi := { dst := some 66, op := _, type := _, pos := _, after := _, guard := _ }) (v := (.bool true)) rfl (by kernel_rfl) (by kernel_rfl) (by kernel_rfl) (fun _ _ _ h => h) (Or.inl ⟨by rfl, fun _ _ => rfl⟩) (by assumption) ?_
                simp only [Act.put, List.setIfInBounds_toArray, List.set_cons_zero, List.set_cons_succ]
                refine wpAnyH_done (by kernel_rfl) ?_ _
                go_wp2
                go_roundg (N - (r + 1))
                case measure => omega
                case rel => exact ⟨r + 1, r, by omega, rfl, by go_num, Hmore.out (.inl (of_decide_eq_true hgb)), hq⟩
              -- END
        · have hr' : ¬ ((r : Int) < (N : Int)) := by omega
          have hrl : r = l.length := by omega
          have hB2 := HB.out
          rw [hrl] at hB2
          have hL2 : Sym.Left l P ((Sym.srt P).take T.length) := by rw [← HTe.out]; exact HLf.out
          clear HB hrl
          rcases hz with rfl | ⟨b, hb, rfl, hbr⟩
          · have hTr : Hid (T = Sym.train P) := by
              have h1 := Sym.best_none hL2 hB2
              have h2 := HTe.out
              rw [List.take_of_length_le h1] at h2
              refine Lib.hid ?_
              unfold Sym.train
              rw [List.take_of_length_le (by omega)]
              exact h2
            clear hB2 hL2
            go_wp2
            go_ret
            exact ⟨A3, c3, by rw [← hTr.out]; rfl, by rw [← hTr.out]; exact hq.2.1, hq.bel⟩
          · have HNX := Lib.hid (Sym.best_next hL2 hb hB2).1
            rw [← HTe.out] at HNX
            have hb0 : (0 : Int) ≤ (b : Int) := by omega
            have hb' : (b : Int) < (N : Int) := by omega
            have hbn : ¬ ((b : Int) < 0) := by omega
            obtain ⟨g, rfl, hgM, hgl⟩ := hq.1.at_ (by omega)
            have hct := hq.1.text hb
            have HLT := Lib.hid (Sym.left_take HLf.out hb)
            have hst := Lib.hid fun (W : World) (hW : POwn W M (some ⟨g, 0, none⟩) N c1 l) => hW.store hb 0
            have htimes := Lib.hid fun (W : World) (hW : POwn W M (some ⟨g, 0, none⟩) N c1 l) => hW.times hb
            have hone := (own_str wr l[b].1).row
            have hoa := hq.2.1.alloc (.cells #[.string ⟨l[b].1.toArray⟩] 9)
            have hpa := hq.1.alloc (.cells #[.string ⟨l[b].1.toArray⟩] 9)
            have hba : Below M w (wr.alloc (.cells #[.string ⟨l[b].1.toArray⟩] 9)) := hq.bel.alloc hq.2.2.1 _
            have hsza : M ≤ (wr.alloc (.cells #[.string ⟨l[b].1.toArray⟩] 9)).heap.size := Nat.le_trans hq.2.2.1 (by simp)
            clear hB2 hL2
            generalize l.set b (l[b].1, 0) = l5 at *
            generalize l[b].2 = tb at *
            generalize l[b].1 = xb at *
            have hne1 : blk (some ⟨g, 0, none⟩) = none ∨ blk (some ⟨g, 0, none⟩) ≠ blk A3 := by
              have := blocks_apart hpa hoa (by decide)
              rwa [ownBlock_eq, ownBlock_eq] at this
            go_wp2_with (at_builtin; refine wpList_append_row elemStr rfl (.tmp 71) (.tmp 77) rfl M A3 T.length c3 T rfl hoa _ _ 1 1 [xb] rfl rfl hone (by omega) (by simp only [maxLen]; omega) hsza ?_; intro A5 c5 w5 ho5 hg5 hat5; have hp5 : POwn w5 M (some ⟨g, 0, none⟩) N c1 l := hpa.kept hg5 hne1; have hct5 := htimes.out _ hp5; have hfr5 := hp5.free (b * 2 + 1))
            have hb5 : Below M w w5 := hba.grown hg5 hsza (fun q hq => (hoa.lt hq).1)
            have hs5 : M ≤ w5.heap.size := Nat.le_trans hsza hg5.size
            have hne2 : blk A5 = none ∨ blk A5 ≠ some g := by
              have := blocks_apart ho5 hp5 (by decide)
              rwa [ownBlock_eq, ownBlock_eq] at this
            have hp6 : POwn (w5.setCell ⟨g, b * 2 + 1, none⟩ (.int .i64 0)) M (some ⟨g, 0, none⟩) N c1 l5 := hst.out _ hp5
            have ho6 : SOwn (w5.setCell ⟨g, b * 2 + 1, none⟩ (.int .i64 0)) M A5 (T.length + 1) c5 (T ++ [xb]) := ho5.kept (POwn.store_grown w5 g _ _) hne2
            have hb6 : Below M w (w5.setCell ⟨g, b * 2 + 1, none⟩ (.int .i64 0)) := hb5.grown (POwn.store_grown w5 g _ _) hs5 (fun z hz => by cases hz; exact hgM)
            have hs6 : M ≤ (w5.setCell ⟨g, b * 2 + 1, none⟩ (.int .i64 0)).heap.size := by simpa using hs5
            have Hl5 := Lib.hid (show (T ++ [xb]).length = T.length + 1 from by simp)
            have hheld6 : Held w M (some ⟨g, 0, none⟩) N c1 l5 A5 c5 (T ++ [xb]) (w5.setCell ⟨g, b * 2 + 1, none⟩ (.int .i64 0)) := Held.mk' hp6 (by rw [Hl5.out]; exact ho6) hs6 hb6
            clear hg5 hat5 hoa hone hba hpa hne1 hne2 hp6 ho6 hb6 hs6 hp5 hb5 hs5 ho5 hct
            go_roundg (32 - (T.length + 1))
            case measure => omega
            case rel => exact ⟨T.length + 1, l5, A5, c5, T ++ [xb], by omega, by rw [Hl5.out], Hl5.out, HNX.out.symm, HLT.out, hheld6⟩
    · have hk' : ¬ ((T.length : Int) < 32) := by omega
      have hTr : Hid (T = Sym.train P) := by
        have h2 := HTe.out
        have h3 : T.length = 32 := by omega
        rw [h3] at h2
        exact Lib.hid h2
      go_wp2
      go_ret
      exact ⟨A3, c3, by rw [← hTr.out]; rfl, by rw [← hTr.out]; exact hheld.2.1, hheld.bel⟩
end Go.Proofs.Ytmcioglidgbibaa
