/- Texts of several layers, one behind the other: SymRefTrain SymForm2 SymRefEnc AppStr SymDec ReaderRow SymRefTake. -/
import Derived.Test.YtoebeibmmclhpaaGreatGTA
import Derived.Test.YtoebeibmmclhpaaGreatGTB
import Derived.Test.YtoebeibmmclhpaaGreatGTC
import Derived.Test.YtoebeibmmclhpaaGreatGTJ
import Derived.Lib.AppendStr
/- The document's Train. -/
namespace Go.Proofs.YtoebeibmmclhpaaGreat
open Go.RowKit
set_option maxRecDepth 100000
/-- two blocks of unlike elements are two -/
theorem blocks_apart {w : World} {b1 b2 e1 e2 s1 s2 n1 n2 : Nat} {v1 v2 : Value} {xs1 xs2 : List Value} (h1 : w.ownsRow b1 e1 s1 v1 n1 xs1) (h2 : w.ownsRow b2 e2 s2 v2 n2 xs2) (hne : e1 ≠ e2) :
    v1.ownBlock = none ∨ v1.ownBlock ≠ v2.ownBlock := by
  rcases h1.2 with ⟨rfl, _⟩ | ⟨g1, cap1, cur1, rfl, _, hg1, _⟩
  · exact .inl rfl
  · refine .inr fun he => ?_
    rcases h2.2 with ⟨rfl, _⟩ | ⟨g2, cap2, cur2, rfl, _, hg2, _⟩
    · cases he
    · injection he with he
      have he' : g1 = g2 := he
      subst he'
      rw [hg1] at hg2
      injection hg2 with hg2
      injection hg2 with _ ht
      exact hne ht
/-- what the two slices hold, and that what was before stays -/
def Held (w : World) (M : Nat) (A2 : Option Addr) (N c2 : Nat) (l : List (List UInt8 × Nat)) (A3 : Option Addr) (c3 : Nat) (T : List (List UInt8)) (W : World) : Prop :=
  POwn W M A2 N c2 l ∧ SOwn W M A3 T.length c3 T ∧ M ≤ W.heap.size ∧ W.os = w.os ∧ W.tape = w.tape ∧ W.output = w.output ∧ w.heap.size ≤ W.heap.size ∧ ∀ k, k < M → W.heap[k]? = w.heap[k]?
namespace Held
variable {w W W' : World} {M : Nat} {A2 : Option Addr} {N c2 : Nat} {l : List (List UInt8 × Nat)} {A3 : Option Addr} {c3 : Nat} {T : List (List UInt8)}
theorem mk' (h1 : POwn W M A2 N c2 l) (h2 : SOwn W M A3 T.length c3 T) (h3 : M ≤ W.heap.size) (h4 : Below M w W) : Held w M A2 N c2 l A3 c3 T W := ⟨h1, h2, h3, h4.os, h4.tape, h4.output, h4.size, h4.block⟩
theorem bel (h : Held w M A2 N c2 l A3 c3 T W) : Below M w W := ⟨h.2.2.2.1, h.2.2.2.2.1, h.2.2.2.2.2.1, h.2.2.2.2.2.2.1, h.2.2.2.2.2.2.2⟩
theorem below (h : Held w M A2 N c2 l A3 c3 T W) (hb : Below W.heap.size W W') : Held w M A2 N c2 l A3 c3 T W' :=
  mk' (h.1.below hb) (h.2.1.below hb) (Nat.le_trans h.2.2.1 hb.size) (h.bel.trans (hb.mono h.2.2.1))
theorem drewN (h : Held w M A2 N c2 l A3 c3 T W) (q : Nat) : Held w M A2 N c2 l A3 c3 T (W.drewN q) := h
end Held
theorem worth_held {w W : World} {M : Nat} {A2 : Option Addr} {N c2 : Nat} {l : List (List UInt8 × Nat)} {A3 : Option Addr} {c3 : Nat} {T : List (List UInt8)} (p : List UInt8 × Nat) (h1 : p.1.length ≤ 8) (h2 : p.2 ≤ 7168) (h : Held w M A2 N c2 l A3 c3 T W) :
    Calls Tryz.prog 51 #[.agg #[.string ⟨p.1.toArray⟩, .int .i64 (p.2 : Int)]] W fun e w' => e = .returned (.int .i64 (wort p)) ∧ Held w M A2 N c2 l A3 c3 T w' :=
  (worth_any p.1 p.2 W h1 h2).mono fun _ _ ⟨h3, h4⟩ => ⟨h3, h.below h4⟩
theorem nb_less {Wr Wb : Int} {xm xb : List UInt8} (h1 : decide (Wb < Wr) = false) (h2 : (Wr == Wb) = false) : ¬ (Wb < Wr ∨ (Wr = Wb ∧ xm < xb)) := by
  rintro (h | ⟨h, _⟩)
  · exact of_decide_eq_false h1 h
  · rw [h, beq_self_eq_true] at h2; cases h2
theorem nb_text {Wr Wb : Int} {xm xb : List UInt8} (h1 : decide (Wb < Wr) = false) (h2 : Op.bytesLess xm xb = false) : ¬ (Wb < Wr ∨ (Wr = Wb ∧ xm < xb)) := by
  rintro (h | ⟨_, h⟩)
  · exact of_decide_eq_false h1 h
  · rw [less_eq] at h2; exact of_decide_eq_false h2 h
theorem bt_text {Wr Wb : Int} {xm xb : List UInt8} (h1 : (Wr == Wb) = true) (h2 : Op.bytesLess xm xb = true) : Wb < Wr ∨ (Wr = Wb ∧ xm < xb) :=
  .inr ⟨by simpa using h1, by rw [less_eq] at h2; exact of_decide_eq_true h2⟩
set_option maxHeartbeats 8000000 in
theorem refTrain_any (A : Option Addr) (n cap B : Nat) (ss : List (List UInt8)) (w : World) (hl : ss.length = n) (hn : n ≤ 140737488355328) (hs : ∀ s ∈ ss, s.length ≤ 140737488351232) (h1 : Samples w B A ss) (hB : B ≤ w.heap.size) :
    Calls Tryz.prog 25 #[.slice A n cap] w fun e w' => ∃ A' c, e = .returned (.slice A' (Sym.train (Sym.pieces ss 1024)).length c) ∧ SOwn w' w.heap.size A' (Sym.train (Sym.pieces ss 1024)).length c (Sym.train (Sym.pieces ss 1024)) ∧ Below w.heap.size w w' := by
  have HC := Lib.hid (refPieces_any A n cap B ss w hl hn hs h1 hB)
  have hPl := Sym.pieces_length ss 1024
  have hP8 := Lib.hid (Sym.pieces_len ss 1024)
  generalize Sym.pieces ss 1024 = P at *
  obtain ⟨M, hM⟩ : ∃ M, M = w.heap.size := ⟨_, rfl⟩
  rw [← hM] at HC ⊢
  have HM := Lib.hid hM
  clear hl hs h1 hM hB
  go_enter Tryz.func25, Tryz.ntmps25
  go_wp2_with fail
  refine HC.out.mono ?_
  rintro e w1 ⟨A1, c1, l1, rfl, hown1, htl1, hbel1⟩
  clear HC
  have hsz1 : M ≤ w1.heap.size := Nat.le_trans (by rw [HM.out]; exact Nat.le_refl _) hbel1.size
  obtain ⟨N, hN⟩ : ∃ N, N = l1.length := ⟨_, rfl⟩
  rw [← hN] at hown1 ⊢
  have hheld1 : Held w M A1 N c1 l1 none 0 [] w1 := Held.mk' hown1 (ROwn.nil _ _ _ _) hsz1 hbel1
  have hNl : N ≤ 7168 := by have := Sym.tells_len htl1; omega
  have HL1 := Lib.hid (Sym.left_srt l1 P htl1)
  clear hown1 htl1 hbel1 hsz1 hN
  go_wp2
  go_loopg [4] 32 (fun g tv wx => ∃ (k : Nat) (l : List (List UInt8 × Nat)) (A3 : Option Addr) (c3 : Nat) (T : List (List UInt8)), k + g = 32 ∧ tv = .slice A3 T.length c3 ∧ T.length = k ∧ T = (Sym.srt P).take k ∧ Sym.Left l P T ∧ Held w M A1 N c1 l A3 c3 T wx)
  case atStart => exact ⟨0, l1, none, 0, [], by omega, rfl, rfl, rfl, HL1.out, hheld1⟩
  case round =>
    clear hheld1 HL1
    obtain ⟨_, l, A3, c3, T, hkg, rfl, rfl, hTe, hLf, hheld⟩ := hrel
    have hlN := hheld.1.len
    have HTe := Lib.hid hTe
    have HLf := Lib.hid hLf
    have H8 : Hid (∀ p ∈ l, p.1.length ≤ 8 ∧ p.2 ≤ 7168) := Lib.hid fun p hp => ⟨(hP8.out p.1 ((hLf.2.1 _).1 (List.mem_map_of_mem hp))).2, by have := Sym.left_times hLf hp; omega⟩
    clear hTe hLf
    obtain ⟨G, rfl⟩ : ∃ G, G = gk := ⟨_, rfl⟩
    obtain ⟨wx, rfl⟩ : ∃ wx, wx = wr := ⟨_, rfl⟩
    by_cases hk : T.length < 32
    · have hk' : (T.length : Int) < 32 := by omega
      go_wp2
      go_loopg [5, 6] N (fun g2 bv iv wz => ∃ (r : Nat) (z : Int), r + g2 = N ∧ bv = .int .i64 z ∧ iv = .int .i64 (r : Int) ∧ Sym.Best l r z ∧ Held w M A1 N c1 l A3 c3 T wz)
      case atStart => exact ⟨0, -1, by omega, rfl, rfl, Sym.best_zero l, hheld⟩
      case round =>
        clear hheld
        obtain ⟨r, z, hrg, rfl, rfl, hbest, hq⟩ := hrel
        have HB := Lib.hid hbest
        have hz := Sym.best_is hbest
        clear hbest
        by_cases hr : r < l.length
        · have hr' : (r : Int) < (N : Int) := by omega
          have hr0 : (0 : Int) ≤ (r : Int) := by omega
          obtain ⟨g, rfl, hgM, hgl⟩ := hq.1.at_ (by omega)
          have hp8 := H8.out _ (List.getElem_mem hr)
          have HWi := Lib.hid fun W => worth_held (w := w) (W := W) (M := M) (A2 := some ⟨g, 0, none⟩) (N := N) (c2 := c1) (l := l) (A3 := A3) (c3 := c3) (T := T) l[r] hp8.1 hp8.2
          have htx := Lib.hid fun W (h : Held w M (some ⟨g, 0, none⟩) N c1 l A3 c3 T W) => h.1.text hr
          have htm := Lib.hid fun W (h : Held w M (some ⟨g, 0, none⟩) N c1 l A3 c3 T W) => h.1.times hr
          by_cases h2 : l[r].2 < 2
          · have HN := Lib.hid (Sym.best_few hr HB.out h2)
            have hct := htm.out _ hq
            generalize l[r].2 = tm at *
            have hd2 : decide ((2 : Int) ≤ (tm : Int)) = false := decide_eq_false (by omega)
            clear hz HWi htx htm hp8 HB H8 HTe HLf
            go_wp2_with fail
            go_quiet (fail)
            go_wp2
            go_roundg (N - (r + 1))
            case measure => omega
            case rel => exact ⟨r + 1, z, by omega, rfl, by go_num, HN.out, hq.drewN _⟩
          · have h2' : 2 ≤ l[r].2 := by omega
            rcases hz with rfl | ⟨b, hb, rfl, hbr⟩
            · have HN := Lib.hid (Sym.best_first hr HB.out h2')
              have hct := htm.out _ hq
              generalize l[r].2 = tm at *
              have hd2 : decide ((2 : Int) ≤ (tm : Int)) = true := decide_eq_true (by omega)
              clear HWi htx htm hp8 HB H8 HTe HLf
              go_wp2_with fail
              go_quiet (fail)
              go_wp2
              go_roundg (N - (r + 1))
              case measure => omega
              case rel => exact ⟨r + 1, r, by omega, rfl, by go_num, HN.out, hq.drewN _⟩
            · have hb' : (b : Int) < (N : Int) := by omega
              have hb0 : (0 : Int) ≤ (b : Int) := by omega
              have hbn : decide ((b : Int) < 0) = false := decide_eq_false (by omega)
              have hp8b := H8.out _ (List.getElem_mem hb)
              have HWb := Lib.hid fun W => worth_held (w := w) (W := W) (M := M) (A2 := some ⟨g, 0, none⟩) (N := N) (c2 := c1) (l := l) (A3 := A3) (c3 := c3) (T := T) l[b] hp8b.1 hp8b.2
              have Hmore := Lib.hid fun hw => Sym.best_more hr hb HB.out h2' hw
              have Hsame := Lib.hid fun hw => Sym.best_same hr hb HB.out hw
              have hC : Hid (∀ W, Held w M (some ⟨g, 0, none⟩) N c1 l A3 c3 T W → W.cell? ⟨g, r * 2, none⟩ = some (.string ⟨l[r].1.toArray⟩) ∧ W.cell? ⟨g, r * 2 + 1, none⟩ = some (.int .i64 (l[r].2 : Int)) ∧ W.cell? ⟨g, b * 2, none⟩ = some (.string ⟨l[b].1.toArray⟩) ∧ W.cell? ⟨g, b * 2 + 1, none⟩ = some (.int .i64 (l[b].2 : Int))) := Lib.hid fun W h => ⟨h.1.text hr, h.1.times hr, h.1.text hb, h.1.times hb⟩
              unfold Sym.bt at Hmore Hsame
              clear hp8 hp8b htx htm HB H8 HTe HLf
              have hd2 : decide ((2 : Int) ≤ (l[r].2 : Int)) = true := decide_eq_true (by omega)
              generalize wort l[r] = Wr at *
              generalize wort l[b] = Wb at *
              generalize l[r].2 = tm at *
              generalize l[b].2 = tb at *
              generalize l[r].1 = xm at *
              generalize l[b].1 = xb at *
              obtain ⟨gb, hgb⟩ : ∃ gb, decide (Wb < Wr) = gb := ⟨_, rfl⟩
              obtain ⟨eb, heb⟩ : ∃ eb, (Wr == Wb) = eb := ⟨_, rfl⟩
              obtain ⟨lb, hlb⟩ : ∃ lb, Op.bytesLess xm xb = lb := ⟨_, rfl⟩
              clear h2 h2'
              go_wp2_with fail
              -- WALK
              refine wp_region_held_drew (S := fun W => W.cell? ⟨g, r * 2, none⟩ = some (.string ⟨xm.toArray⟩) ∧ W.cell? ⟨g, r * 2 + 1, none⟩ = some (.int .i64 (tm : Int)) ∧ W.cell? ⟨g, b * 2, none⟩ = some (.string ⟨xb.toArray⟩) ∧ W.cell? ⟨g, b * 2 + 1, none⟩ = some (.int .i64 (tb : Int))) (by kernel_rfl) (hC.out _ hq) (fun hHeld => ?_)
              change wpAnyH _ _ _ _ _ 49 #[false, false, false, false, false, false, false, false, false, false, false, false, false, false, false, false, false, false, false, false, false, false, false, false, false, false, false, false, false, false, false, false, false, false, false, false, false, false, false, false, false, false, false, false, false, false, false, false, false] _ _
              refine wpAnyH_take (i := 0) (oi := { dst := some 18, op := _, type := _, pos := _, after := _, guard := _ }) (v := (.slice (some ⟨g, 0, none⟩) N c1)) rfl (by kernel_rfl) (by kernel_rfl) (by kernel_rfl) (fun _ _ _ h => h) (Or.inl ⟨by rfl, fun _ _ => rfl⟩) (by assumption) ?_
              simp only [Act.put, List.setIfInBounds_toArray, List.set_cons_zero, List.set_cons_succ]
              refine wpAnyH_take (i := 1) (oi := { dst := some 19, op := _, type := _, pos := _, after := _, guard := _ }) (v := (.int .i64 (r : Int))) rfl (by kernel_rfl) (by kernel_rfl) (by kernel_rfl) (fun _ _ _ h => h) (Or.inl ⟨by rfl, fun _ _ => rfl⟩) (by assumption) ?_
              simp only [Act.put, List.setIfInBounds_toArray, List.set_cons_zero, List.set_cons_succ]
              refine wpAnyH_take (i := 2) (oi := { dst := some 20, op := _, type := _, pos := _, after := _, guard := _ }) (v := (.pointer (some ⟨g, r * 2, none⟩))) rfl (by kernel_rfl) (by kernel_rfl) (by kernel_rfl) (fun _ _ _ h => h) (Or.inl ⟨by rfl, by intro w hSw; (try dsimp only at hSw); go_simp⟩) (by assumption) ?_
              simp only [Act.put, List.setIfInBounds_toArray, List.set_cons_zero, List.set_cons_succ]
              refine wpAnyH_take (i := 3) (oi := { dst := some 21, op := _, type := _, pos := _, after := _, guard := _ }) (v := (.pointer (some ⟨g, r * 2 + 1, none⟩))) rfl (by kernel_rfl) (by kernel_rfl) (by kernel_rfl) (fun _ _ _ h => h) (Or.inl ⟨by rfl, by intro w hSw; (try dsimp only at hSw); go_simp⟩) (by assumption) ?_
              simp only [Act.put, List.setIfInBounds_toArray, List.set_cons_zero, List.set_cons_succ]
              refine wpAnyH_take (i := 4) (oi := { dst := some 22, op := _, type := _, pos := _, after := _, guard := _ }) (v := (.int .i64 (tm : Int))) rfl (by kernel_rfl) (by kernel_rfl) (by kernel_rfl) (fun _ _ _ h => h) (Or.inl ⟨by rfl, by intro w hSw; (try dsimp only at hSw); go_simp⟩) (by assumption) ?_
              simp only [Act.put, List.setIfInBounds_toArray, List.set_cons_zero, List.set_cons_succ]
              refine wpAnyH_take (i := 5) (oi := { dst := some 23, op := _, type := _, pos := _, after := _, guard := _ }) (v := (.bool true)) rfl (by kernel_rfl) (by kernel_rfl) (by kernel_rfl) (fun _ _ _ h => h) (Or.inl ⟨by rfl, by intro w hSw; (try dsimp only at hSw); go_simp⟩) (by assumption) ?_
              simp only [Act.put, List.setIfInBounds_toArray, List.set_cons_zero, List.set_cons_succ]
              refine wpAnyH_take (i := 6) (oi := { dst := some 24, op := _, type := _, pos := _, after := _, guard := _ }) (v := (.bool true)) rfl (by kernel_rfl) (by kernel_rfl) (by kernel_rfl) (fun _ _ _ h => h) (Or.inl ⟨by rfl, fun _ _ => rfl⟩) (by assumption) ?_
              simp only [Act.put, List.setIfInBounds_toArray, List.set_cons_zero, List.set_cons_succ]
              refine wpAnyH_take (i := 7) (oi := { dst := some 25, op := _, type := _, pos := _, after := _, guard := _ }) (v := (.int .i64 (b : Int))) rfl (by kernel_rfl) (by kernel_rfl) (by kernel_rfl) (fun _ _ _ h => h) (Or.inl ⟨by rfl, fun _ _ => rfl⟩) (by assumption) ?_
              simp only [Act.put, List.setIfInBounds_toArray, List.set_cons_zero, List.set_cons_succ]
              refine wpAnyH_take (i := 8) (oi := { dst := some 26, op := _, type := _, pos := _, after := _, guard := _ }) (v := (.bool false)) rfl (by kernel_rfl) (by kernel_rfl) (by kernel_rfl) (fun _ _ _ h => h) (Or.inl ⟨by rfl, by intro w hSw; (try dsimp only at hSw); go_simp⟩) (by assumption) ?_
              simp only [Act.put, List.setIfInBounds_toArray, List.set_cons_zero, List.set_cons_succ]
              refine wpAnyH_take (i := 9) (oi := { dst := some 27, op := _, type := _, pos := _, after := _, guard := _ }) (v := (.bool false)) rfl (by kernel_rfl) (by kernel_rfl) (by kernel_rfl) (fun _ _ _ h => h) (Or.inl ⟨by rfl, fun _ _ => rfl⟩) (by assumption) ?_
              simp only [Act.put, List.setIfInBounds_toArray, List.set_cons_zero, List.set_cons_succ]
              refine wpAnyH_take (i := 10) (oi := { dst := some 28, op := _, type := _, pos := _, after := _, guard := _ }) (v := (.slice (some ⟨g, 0, none⟩) N c1)) rfl (by kernel_rfl) (by kernel_rfl) (by kernel_rfl) (fun _ _ _ h => h) (Or.inl ⟨by rfl, fun _ _ => rfl⟩) (by assumption) ?_
              simp only [Act.put, List.setIfInBounds_toArray, List.set_cons_zero, List.set_cons_succ]
              refine wpAnyH_take (i := 11) (oi := { dst := some 29, op := _, type := _, pos := _, after := _, guard := _ }) (v := (.int .i64 (r : Int))) rfl (by kernel_rfl) (by kernel_rfl) (by kernel_rfl) (fun _ _ _ h => h) (Or.inl ⟨by rfl, fun _ _ => rfl⟩) (by assumption) ?_
              simp only [Act.put, List.setIfInBounds_toArray, List.set_cons_zero, List.set_cons_succ]
              refine wpAnyH_take (i := 12) (oi := { dst := some 30, op := _, type := _, pos := _, after := _, guard := _ }) (v := (.pointer (some ⟨g, r * 2, none⟩))) rfl (by kernel_rfl) (by kernel_rfl) (by kernel_rfl) (fun _ _ _ h => h) (Or.inl ⟨by rfl, by intro w hSw; (try dsimp only at hSw); go_simp⟩) (by assumption) ?_
              simp only [Act.put, List.setIfInBounds_toArray, List.set_cons_zero, List.set_cons_succ]
              refine wpAnyH_take (i := 13) (oi := { dst := some 31, op := _, type := _, pos := _, after := _, guard := _ }) (v := (.agg #[.string ⟨xm.toArray⟩, .int .i64 (tm : Int)])) rfl (by kernel_rfl) (by kernel_rfl) (by kernel_rfl) (fun _ _ _ h => h) (Or.inl ⟨by rfl, by intro w hSw; (try dsimp only at hSw); go_simp⟩) (by assumption) ?_
              simp only [Act.put, List.setIfInBounds_toArray, List.set_cons_zero, List.set_cons_succ]
              refine wpAnyH_take (i := 15) (oi := { dst := some 33, op := _, type := _, pos := _, after := _, guard := _ }) (v := (.slice (some ⟨g, 0, none⟩) N c1)) rfl (by kernel_rfl) (by kernel_rfl) (by kernel_rfl) (fun _ _ _ h => h) (Or.inl ⟨by rfl, fun _ _ => rfl⟩) (by assumption) ?_
              simp only [Act.put, List.setIfInBounds_toArray, List.set_cons_zero, List.set_cons_succ]
              refine wpAnyH_take (i := 16) (oi := { dst := some 34, op := _, type := _, pos := _, after := _, guard := _ }) (v := (.int .i64 (b : Int))) rfl (by kernel_rfl) (by kernel_rfl) (by kernel_rfl) (fun _ _ _ h => h) (Or.inl ⟨by rfl, fun _ _ => rfl⟩) (by assumption) ?_
              simp only [Act.put, List.setIfInBounds_toArray, List.set_cons_zero, List.set_cons_succ]
              refine wpAnyH_take (i := 17) (oi := { dst := some 35, op := _, type := _, pos := _, after := _, guard := _ }) (v := (.pointer (some ⟨g, b * 2, none⟩))) rfl (by kernel_rfl) (by kernel_rfl) (by kernel_rfl) (fun _ _ _ h => h) (Or.inl ⟨by rfl, by intro w hSw; (try dsimp only at hSw); go_simp⟩) (by assumption) ?_
              simp only [Act.put, List.setIfInBounds_toArray, List.set_cons_zero, List.set_cons_succ]
              refine wpAnyH_take (i := 18) (oi := { dst := some 36, op := _, type := _, pos := _, after := _, guard := _ }) (v := (.agg #[.string ⟨xb.toArray⟩, .int .i64 (tb : Int)])) rfl (by kernel_rfl) (by kernel_rfl) (by kernel_rfl) (fun _ _ _ h => h) (Or.inl ⟨by rfl, by intro w hSw; (try dsimp only at hSw); go_simp⟩) (by assumption) ?_
              simp only [Act.put, List.setIfInBounds_toArray, List.set_cons_zero, List.set_cons_succ]
              refine wpAnyH_ready (rs := [14]) (by kernel_rfl) (by simp) ?_
              refine AllReadyH.cons (o := { dst := some 32, op := _, type := _, pos := _, after := _, guard := _ }) rfl (fun K hK => ?_) AllReadyH.nil
              go_simp
              refine (HWi.out _ (by exact hq)).mono ?_
              rintro e w5 ⟨rfl, hq⟩
              go_wp2_with fail
              refine hK.out _ _ (hC.out _ hq) (fun hHeld => ?_)
              clear hK K
              simp only [List.setIfInBounds_toArray, List.set_cons_zero, List.set_cons_succ]
              refine wpAnyH_ready (rs := [19]) (by kernel_rfl) (by simp) ?_
              refine AllReadyH.cons (o := { dst := some 37, op := _, type := _, pos := _, after := _, guard := _ }) rfl (fun K hK => ?_) AllReadyH.nil
              go_simp
              refine (HWb.out _ (by exact hq)).mono ?_
              rintro e w5 ⟨rfl, hq⟩
              go_wp2_with fail
              refine hK.out _ _ (hC.out _ hq) (fun hHeld => ?_)
              clear hK K
              simp only [List.setIfInBounds_toArray, List.set_cons_zero, List.set_cons_succ]
              refine wpAnyH_take (i := 20) (oi := { dst := some 38, op := _, type := _, pos := _, after := _, guard := _ }) (v := (.bool gb)) rfl (by kernel_rfl) (by kernel_rfl) (by kernel_rfl) (fun _ _ _ h => h) (Or.inl ⟨by rfl, by intro w hSw; (try dsimp only at hSw); go_simp⟩) (by assumption) ?_
              simp only [Act.put, List.setIfInBounds_toArray, List.set_cons_zero, List.set_cons_succ]
              refine wpAnyH_take (i := 21) (oi := { dst := some 39, op := _, type := _, pos := _, after := _, guard := _ }) (v := (.bool gb)) rfl (by kernel_rfl) (by kernel_rfl) (by kernel_rfl) (fun _ _ _ h => h) (Or.inl ⟨by rfl, fun _ _ => rfl⟩) (by assumption) ?_
              simp only [Act.put, List.setIfInBounds_toArray, List.set_cons_zero, List.set_cons_succ]
              refine wpAnyH_take (i := 22) (oi := { dst := some 40, op := _, type := _, pos := _, after := _, guard := _ }) (v := (.bool gb)) rfl (by kernel_rfl) (by kernel_rfl) (by kernel_rfl) (fun _ _ _ h => h) (Or.inl ⟨by rfl, fun _ _ => rfl⟩) (by assumption) ?_
              simp only [Act.put, List.setIfInBounds_toArray, List.set_cons_zero, List.set_cons_succ]
              cases gb
              · refine wpAnyH_take (i := 23) (oi := { dst := some 41, op := _, type := _, pos := _, after := _, guard := _ }) (v := (.slice (some ⟨g, 0, none⟩) N c1)) rfl (by kernel_rfl) (by kernel_rfl) (by kernel_rfl) (fun _ _ _ h => h) (Or.inl ⟨by rfl, fun _ _ => rfl⟩) (by assumption) ?_
                simp only [Act.put, List.setIfInBounds_toArray, List.set_cons_zero, List.set_cons_succ]
                refine wpAnyH_take (i := 24) (oi := { dst := some 42, op := _, type := _, pos := _, after := _, guard := _ }) (v := (.int .i64 (r : Int))) rfl (by kernel_rfl) (by kernel_rfl) (by kernel_rfl) (fun _ _ _ h => h) (Or.inl ⟨by rfl, fun _ _ => rfl⟩) (by assumption) ?_
                simp only [Act.put, List.setIfInBounds_toArray, List.set_cons_zero, List.set_cons_succ]
                refine wpAnyH_take (i := 25) (oi := { dst := some 43, op := _, type := _, pos := _, after := _, guard := _ }) (v := (.pointer (some ⟨g, r * 2, none⟩))) rfl (by kernel_rfl) (by kernel_rfl) (by kernel_rfl) (fun _ _ _ h => h) (Or.inl ⟨by rfl, by intro w hSw; (try dsimp only at hSw); go_simp⟩) (by assumption) ?_
                simp only [Act.put, List.setIfInBounds_toArray, List.set_cons_zero, List.set_cons_succ]
                refine wpAnyH_take (i := 26) (oi := { dst := some 44, op := _, type := _, pos := _, after := _, guard := _ }) (v := (.agg #[.string ⟨xm.toArray⟩, .int .i64 (tm : Int)])) rfl (by kernel_rfl) (by kernel_rfl) (by kernel_rfl) (fun _ _ _ h => h) (Or.inl ⟨by rfl, by intro w hSw; (try dsimp only at hSw); go_simp⟩) (by assumption) ?_
                simp only [Act.put, List.setIfInBounds_toArray, List.set_cons_zero, List.set_cons_succ]
                refine wpAnyH_take (i := 28) (oi := { dst := some 46, op := _, type := _, pos := _, after := _, guard := _ }) (v := (.slice (some ⟨g, 0, none⟩) N c1)) rfl (by kernel_rfl) (by kernel_rfl) (by kernel_rfl) (fun _ _ _ h => h) (Or.inl ⟨by rfl, fun _ _ => rfl⟩) (by assumption) ?_
                simp only [Act.put, List.setIfInBounds_toArray, List.set_cons_zero, List.set_cons_succ]
                refine wpAnyH_take (i := 29) (oi := { dst := some 47, op := _, type := _, pos := _, after := _, guard := _ }) (v := (.int .i64 (b : Int))) rfl (by kernel_rfl) (by kernel_rfl) (by kernel_rfl) (fun _ _ _ h => h) (Or.inl ⟨by rfl, fun _ _ => rfl⟩) (by assumption) ?_
                simp only [Act.put, List.setIfInBounds_toArray, List.set_cons_zero, List.set_cons_succ]
                refine wpAnyH_take (i := 30) (oi := { dst := some 48, op := _, type := _, pos := _, after := _, guard := _ }) (v := (.pointer (some ⟨g, b * 2, none⟩))) rfl (by kernel_rfl) (by kernel_rfl) (by kernel_rfl) (fun _ _ _ h => h) (Or.inl ⟨by rfl, by intro w hSw; (try dsimp only at hSw); go_simp⟩) (by assumption) ?_
                simp only [Act.put, List.setIfInBounds_toArray, List.set_cons_zero, List.set_cons_succ]
                refine wpAnyH_take (i := 31) (oi := { dst := some 49, op := _, type := _, pos := _, after := _, guard := _ }) (v := (.agg #[.string ⟨xb.toArray⟩, .int .i64 (tb : Int)])) rfl (by kernel_rfl) (by kernel_rfl) (by kernel_rfl) (fun _ _ _ h => h) (Or.inl ⟨by rfl, by intro w hSw; (try dsimp only at hSw); go_simp⟩) (by assumption) ?_
                simp only [Act.put, List.setIfInBounds_toArray, List.set_cons_zero, List.set_cons_succ]
                refine wpAnyH_ready (rs := [27]) (by kernel_rfl) (by simp) ?_
                refine AllReadyH.cons (o := { dst := some 45, op := _, type := _, pos := _, after := _, guard := _ }) rfl (fun K hK => ?_) AllReadyH.nil
                go_simp
                refine (HWi.out _ (by exact hq)).mono ?_
                rintro e w5 ⟨rfl, hq⟩
                go_wp2_with fail
                refine hK.out _ _ (hC.out _ hq) (fun hHeld => ?_)
                clear hK K
                simp only [List.setIfInBounds_toArray, List.set_cons_zero, List.set_cons_succ]
                refine wpAnyH_ready (rs := [32]) (by kernel_rfl) (by simp) ?_
                refine AllReadyH.cons (o := { dst := some 50, op := _, type := _, pos := _, after := _, guard := _ }) rfl (fun K hK => ?_) AllReadyH.nil
                go_simp
                refine (HWb.out _ (by exact hq)).mono ?_
                rintro e w5 ⟨rfl, hq⟩
                go_wp2_with fail
                refine hK.out _ _ (hC.out _ hq) (fun hHeld => ?_)
                clear hK K
                simp only [List.setIfInBounds_toArray, List.set_cons_zero, List.set_cons_succ]
                refine wpAnyH_take (i := 33) (oi := { dst := some 51, op := _, type := _, pos := _, after := _, guard := _ }) (v := (.bool eb)) rfl (by kernel_rfl) (by kernel_rfl) (by kernel_rfl) (fun _ _ _ h => h) (Or.inl ⟨by rfl, by intro w hSw; (try dsimp only at hSw); go_simp⟩) (by assumption) ?_
                simp only [Act.put, List.setIfInBounds_toArray, List.set_cons_zero, List.set_cons_succ]
                refine wpAnyH_take (i := 34) (oi := { dst := some 52, op := _, type := _, pos := _, after := _, guard := _ }) (v := (.bool eb)) rfl (by kernel_rfl) (by kernel_rfl) (by kernel_rfl) (fun _ _ _ h => h) (Or.inl ⟨by rfl, fun _ _ => rfl⟩) (by assumption) ?_
                simp only [Act.put, List.setIfInBounds_toArray, List.set_cons_zero, List.set_cons_succ]
                cases eb
                · refine wpAnyH_take (i := 35) (oi := { dst := some 53, op := _, type := _, pos := _, after := _, guard := _ }) (v := undef) rfl (by kernel_rfl) (by kernel_rfl) (by kernel_rfl) (fun _ _ _ h => h) (Or.inr ⟨by rfl, rfl⟩) (by assumption) ?_
                  simp only [Act.put, List.setIfInBounds_toArray, List.set_cons_zero, List.set_cons_succ]
                  refine wpAnyH_take (i := 36) (oi := { dst := some 54, op := _, type := _, pos := _, after := _, guard := _ }) (v := undef) rfl (by kernel_rfl) (by kernel_rfl) (by kernel_rfl) (fun _ _ _ h => h) (Or.inr ⟨by rfl, rfl⟩) (by assumption) ?_
                  simp only [Act.put, List.setIfInBounds_toArray, List.set_cons_zero, List.set_cons_succ]
                  refine wpAnyH_take (i := 37) (oi := { dst := some 55, op := _, type := _, pos := _, after := _, guard := _ }) (v := undef) rfl (by kernel_rfl) (by kernel_rfl) (by kernel_rfl) (fun _ _ _ h => h) (Or.inr ⟨by rfl, rfl⟩) (by assumption) ?_
                  simp only [Act.put, List.setIfInBounds_toArray, List.set_cons_zero, List.set_cons_succ]
                  refine wpAnyH_take (i := 38) (oi := { dst := some 56, op := _, type := _, pos := _, after := _, guard := _ }) (v := undef) rfl (by kernel_rfl) (by kernel_rfl) (by kernel_rfl) (fun _ _ _ h => h) (Or.inr ⟨by rfl, rfl⟩) (by assumption) ?_
                  simp only [Act.put, List.setIfInBounds_toArray, List.set_cons_zero, List.set_cons_succ]
                  refine wpAnyH_take (i := 39) (oi := { dst := some 57, op := _, type := _, pos := _, after := _, guard := _ }) (v := undef) rfl (by kernel_rfl) (by kernel_rfl) (by kernel_rfl) (fun _ _ _ h => h) (Or.inr ⟨by rfl, rfl⟩) (by assumption) ?_
                  simp only [Act.put, List.setIfInBounds_toArray, List.set_cons_zero, List.set_cons_succ]
                  refine wpAnyH_take (i := 40) (oi := { dst := some 58, op := _, type := _, pos := _, after := _, guard := _ }) (v := undef) rfl (by kernel_rfl) (by kernel_rfl) (by kernel_rfl) (fun _ _ _ h => h) (Or.inr ⟨by rfl, rfl⟩) (by assumption) ?_
                  simp only [Act.put, List.setIfInBounds_toArray, List.set_cons_zero, List.set_cons_succ]
                  refine wpAnyH_take (i := 41) (oi := { dst := some 59, op := _, type := _, pos := _, after := _, guard := _ }) (v := undef) rfl (by kernel_rfl) (by kernel_rfl) (by kernel_rfl) (fun _ _ _ h => h) (Or.inr ⟨by rfl, rfl⟩) (by assumption) ?_
                  simp only [Act.put, List.setIfInBounds_toArray, List.set_cons_zero, List.set_cons_succ]
                  refine wpAnyH_take (i := 42) (oi := { dst := some 60, op := _, type := _, pos := _, after := _, guard := _ }) (v := undef) rfl (by kernel_rfl) (by kernel_rfl) (by kernel_rfl) (fun _ _ _ h => h) (Or.inr ⟨by rfl, rfl⟩) (by assumption) ?_
                  simp only [Act.put, List.setIfInBounds_toArray, List.set_cons_zero, List.set_cons_succ]
                  refine wpAnyH_take (i := 43) (oi := { dst := some 61, op := _, type := _, pos := _, after := _, guard := _ }) (v := undef) rfl (by kernel_rfl) (by kernel_rfl) (by kernel_rfl) (fun _ _ _ h => h) (Or.inr ⟨by rfl, rfl⟩) (by assumption) ?_
                  simp only [Act.put, List.setIfInBounds_toArray, List.set_cons_zero, List.set_cons_succ]
                  refine wpAnyH_take (i := 44) (oi := { dst := some 62, op := _, type := _, pos := _, after := _, guard := _ }) (v := undef) rfl (by kernel_rfl) (by kernel_rfl) (by kernel_rfl) (fun _ _ _ h => h) (Or.inr ⟨by rfl, rfl⟩) (by assumption) ?_
                  simp only [Act.put, List.setIfInBounds_toArray, List.set_cons_zero, List.set_cons_succ]
                  refine wpAnyH_take (i := 45) (oi := { dst := some 63, op := _, type := _, pos := _, after := _, guard := _ }) (v := undef) rfl (by kernel_rfl) (by kernel_rfl) (by kernel_rfl) (fun _ _ _ h => h) (Or.inr ⟨by rfl, rfl⟩) (by assumption) ?_
                  simp only [Act.put, List.setIfInBounds_toArray, List.set_cons_zero, List.set_cons_succ]
                  refine wpAnyH_take (i := 46) (oi := { dst := some 64, op := _, type := _, pos := _, after := _, guard := _ }) (v := (.bool false)) rfl (by kernel_rfl) (by kernel_rfl) (by kernel_rfl) (fun _ _ _ h => h) (Or.inl ⟨by rfl, fun _ _ => rfl⟩) (by assumption) ?_
                  simp only [Act.put, List.setIfInBounds_toArray, List.set_cons_zero, List.set_cons_succ]
                  refine wpAnyH_take (i := 47) (oi := { dst := some 65, op := _, type := _, pos := _, after := _, guard := _ }) (v := (.bool false)) rfl (by kernel_rfl) (by kernel_rfl) (by kernel_rfl) (fun _ _ _ h => h) (Or.inl ⟨by rfl, fun _ _ => rfl⟩) (by assumption) ?_
                  simp only [Act.put, List.setIfInBounds_toArray, List.set_cons_zero, List.set_cons_succ]
                  refine wpAnyH_take (i := 48) (oi := { dst := some 66, op := _, type := _, pos := _, after := _, guard := _ }) (v := (.bool false)) rfl (by kernel_rfl) (by kernel_rfl) (by kernel_rfl) (fun _ _ _ h => h) (Or.inl ⟨by rfl, fun _ _ => rfl⟩) (by assumption) ?_
                  simp only [Act.put, List.setIfInBounds_toArray, List.set_cons_zero, List.set_cons_succ]
                  refine wpAnyH_done (by kernel_rfl) ?_ _
                  go_wp2
                  go_roundg (N - (r + 1))
                  case measure => omega
                  case rel => exact ⟨r + 1, b, by omega, rfl, by go_num, Hsame.out (nb_less hgb heb), hq⟩
                · refine wpAnyH_take (i := 35) (oi := { dst := some 53, op := _, type := _, pos := _, after := _, guard := _ }) (v := (.slice (some ⟨g, 0, none⟩) N c1)) rfl (by kernel_rfl) (by kernel_rfl) (by kernel_rfl) (fun _ _ _ h => h) (Or.inl ⟨by rfl, fun _ _ => rfl⟩) (by assumption) ?_
                  simp only [Act.put, List.setIfInBounds_toArray, List.set_cons_zero, List.set_cons_succ]
                  refine wpAnyH_take (i := 36) (oi := { dst := some 54, op := _, type := _, pos := _, after := _, guard := _ }) (v := (.int .i64 (r : Int))) rfl (by kernel_rfl) (by kernel_rfl) (by kernel_rfl) (fun _ _ _ h => h) (Or.inl ⟨by rfl, fun _ _ => rfl⟩) (by assumption) ?_
                  simp only [Act.put, List.setIfInBounds_toArray, List.set_cons_zero, List.set_cons_succ]
                  refine wpAnyH_take (i := 37) (oi := { dst := some 55, op := _, type := _, pos := _, after := _, guard := _ }) (v := (.pointer (some ⟨g, r * 2, none⟩))) rfl (by kernel_rfl) (by kernel_rfl) (by kernel_rfl) (fun _ _ _ h => h) (Or.inl ⟨by rfl, by intro w hSw; (try dsimp only at hSw); go_simp⟩) (by assumption) ?_
                  simp only [Act.put, List.setIfInBounds_toArray, List.set_cons_zero, List.set_cons_succ]
                  refine wpAnyH_take (i := 38) (oi := { dst := some 56, op := _, type := _, pos := _, after := _, guard := _ }) (v := (.pointer (some ⟨g, r * 2, none⟩))) rfl (by kernel_rfl) (by kernel_rfl) (by kernel_rfl) (fun _ _ _ h => h) (Or.inl ⟨by rfl, by intro w hSw; (try dsimp only at hSw); go_simp⟩) (by assumption) ?_
                  simp only [Act.put, List.setIfInBounds_toArray, List.set_cons_zero, List.set_cons_succ]
                  refine wpAnyH_take (i := 39) (oi := { dst := some 57, op := _, type := _, pos := _, after := _, guard := _ }) (v := (.string ⟨xm.toArray⟩)) rfl (by kernel_rfl) (by kernel_rfl) (by kernel_rfl) (fun _ _ _ h => h) (Or.inl ⟨by rfl, by intro w hSw; (try dsimp only at hSw); go_simp⟩) (by assumption) ?_
                  simp only [Act.put, List.setIfInBounds_toArray, List.set_cons_zero, List.set_cons_succ]
                  refine wpAnyH_take (i := 40) (oi := { dst := some 58, op := _, type := _, pos := _, after := _, guard := _ }) (v := (.slice (some ⟨g, 0, none⟩) N c1)) rfl (by kernel_rfl) (by kernel_rfl) (by kernel_rfl) (fun _ _ _ h => h) (Or.inl ⟨by rfl, fun _ _ => rfl⟩) (by assumption) ?_
                  simp only [Act.put, List.setIfInBounds_toArray, List.set_cons_zero, List.set_cons_succ]
                  refine wpAnyH_take (i := 41) (oi := { dst := some 59, op := _, type := _, pos := _, after := _, guard := _ }) (v := (.int .i64 (b : Int))) rfl (by kernel_rfl) (by kernel_rfl) (by kernel_rfl) (fun _ _ _ h => h) (Or.inl ⟨by rfl, fun _ _ => rfl⟩) (by assumption) ?_
                  simp only [Act.put, List.setIfInBounds_toArray, List.set_cons_zero, List.set_cons_succ]
                  refine wpAnyH_take (i := 42) (oi := { dst := some 60, op := _, type := _, pos := _, after := _, guard := _ }) (v := (.pointer (some ⟨g, b * 2, none⟩))) rfl (by kernel_rfl) (by kernel_rfl) (by kernel_rfl) (fun _ _ _ h => h) (Or.inl ⟨by rfl, by intro w hSw; (try dsimp only at hSw); go_simp⟩) (by assumption) ?_
                  simp only [Act.put, List.setIfInBounds_toArray, List.set_cons_zero, List.set_cons_succ]
                  refine wpAnyH_take (i := 43) (oi := { dst := some 61, op := _, type := _, pos := _, after := _, guard := _ }) (v := (.pointer (some ⟨g, b * 2, none⟩))) rfl (by kernel_rfl) (by kernel_rfl) (by kernel_rfl) (fun _ _ _ h => h) (Or.inl ⟨by rfl, by intro w hSw; (try dsimp only at hSw); go_simp⟩) (by assumption) ?_
                  simp only [Act.put, List.setIfInBounds_toArray, List.set_cons_zero, List.set_cons_succ]
                  refine wpAnyH_take (i := 44) (oi := { dst := some 62, op := _, type := _, pos := _, after := _, guard := _ }) (v := (.string ⟨xb.toArray⟩)) rfl (by kernel_rfl) (by kernel_rfl) (by kernel_rfl) (fun _ _ _ h => h) (Or.inl ⟨by rfl, by intro w hSw; (try dsimp only at hSw); go_simp⟩) (by assumption) ?_
                  simp only [Act.put, List.setIfInBounds_toArray, List.set_cons_zero, List.set_cons_succ]
                  refine wpAnyH_take (i := 45) (oi := { dst := some 63, op := _, type := _, pos := _, after := _, guard := _ }) (v := (.bool lb)) rfl (by kernel_rfl) (by kernel_rfl) (by kernel_rfl) (fun _ _ _ h => h) (Or.inl ⟨by rfl, by intro w hSw; (try dsimp only at hSw); go_simp⟩) (by assumption) ?_
                  simp only [Act.put, List.setIfInBounds_toArray, List.set_cons_zero, List.set_cons_succ]
                  refine wpAnyH_take (i := 46) (oi := { dst := some 64, op := _, type := _, pos := _, after := _, guard := _ }) (v := (.bool lb)) rfl (by kernel_rfl) (by kernel_rfl) (by kernel_rfl) (fun _ _ _ h => h) (Or.inl ⟨by rfl, fun _ _ => rfl⟩) (by assumption) ?_
                  simp only [Act.put, List.setIfInBounds_toArray, List.set_cons_zero, List.set_cons_succ]
                  refine wpAnyH_take (i := 47) (oi := { dst := some 65, op := _, type := _, pos := _, after := _, guard := _ }) (v := (.bool lb)) rfl (by kernel_rfl) (by kernel_rfl) (by kernel_rfl) (fun _ _ _ h => h) (Or.inl ⟨by rfl, fun _ _ => rfl⟩) (by assumption) ?_
                  simp only [Act.put, List.setIfInBounds_toArray, List.set_cons_zero, List.set_cons_succ]
                  refine wpAnyH_take (i := 48) (oi := { dst := some 66, op := _, type := _, pos := _, after := _, guard := _ }) (v := (.bool lb)) rfl (by kernel_rfl) (by kernel_rfl) (by kernel_rfl) (fun _ _ _ h => h) (Or.inl ⟨by rfl, fun _ _ => rfl⟩) (by assumption) ?_
                  simp only [Act.put, List.setIfInBounds_toArray, List.set_cons_zero, List.set_cons_succ]
                  refine wpAnyH_done (by kernel_rfl) ?_ _
                  cases lb
                  · go_wp2
                    go_roundg (N - (r + 1))
                    case measure => omega
                    case rel => exact ⟨r + 1, b, by omega, rfl, by go_num, Hsame.out (nb_text hgb hlb), hq⟩
                  · go_wp2
                    go_roundg (N - (r + 1))
                    case measure => omega
                    case rel => exact ⟨r + 1, r, by omega, rfl, by go_num, Hmore.out (bt_text heb hlb), hq⟩
              · refine wpAnyH_take (i := 23) (oi := { dst := some 41, op := _, type := _, pos := _, after := _, guard := _ }) (v := undef) rfl (by kernel_rfl) (by kernel_rfl) (by kernel_rfl) (fun _ _ _ h => h) (Or.inr ⟨by rfl, rfl⟩) (by assumption) ?_
                simp only [Act.put, List.setIfInBounds_toArray, List.set_cons_zero, List.set_cons_succ]
                refine wpAnyH_take (i := 24) (oi := { dst := some 42, op := _, type := _, pos := _, after := _, guard := _ }) (v := undef) rfl (by kernel_rfl) (by kernel_rfl) (by kernel_rfl) (fun _ _ _ h => h) (Or.inr ⟨by rfl, rfl⟩) (by assumption) ?_
                simp only [Act.put, List.setIfInBounds_toArray, List.set_cons_zero, List.set_cons_succ]
                refine wpAnyH_take (i := 25) (oi := { dst := some 43, op := _, type := _, pos := _, after := _, guard := _ }) (v := undef) rfl (by kernel_rfl) (by kernel_rfl) (by kernel_rfl) (fun _ _ _ h => h) (Or.inr ⟨by rfl, rfl⟩) (by assumption) ?_
                simp only [Act.put, List.setIfInBounds_toArray, List.set_cons_zero, List.set_cons_succ]
                refine wpAnyH_take (i := 26) (oi := { dst := some 44, op := _, type := _, pos := _, after := _, guard := _ }) (v := undef) rfl (by kernel_rfl) (by kernel_rfl) (by kernel_rfl) (fun _ _ _ h => h) (Or.inr ⟨by rfl, rfl⟩) (by assumption) ?_
                simp only [Act.put, List.setIfInBounds_toArray, List.set_cons_zero, List.set_cons_succ]
                refine wpAnyH_take (i := 27) (oi := { dst := some 45, op := _, type := _, pos := _, after := _, guard := _ }) (v := undef) rfl (by kernel_rfl) (by kernel_rfl) (by kernel_rfl) (fun _ _ _ h => h) (Or.inr ⟨by rfl, rfl⟩) (by assumption) ?_
                simp only [Act.put, List.setIfInBounds_toArray, List.set_cons_zero, List.set_cons_succ]
                refine wpAnyH_take (i := 28) (oi := { dst := some 46, op := _, type := _, pos := _, after := _, guard := _ }) (v := undef) rfl (by kernel_rfl) (by kernel_rfl) (by kernel_rfl) (fun _ _ _ h => h) (Or.inr ⟨by rfl, rfl⟩) (by assumption) ?_
                simp only [Act.put, List.setIfInBounds_toArray, List.set_cons_zero, List.set_cons_succ]
                refine wpAnyH_take (i := 29) (oi := { dst := some 47, op := _, type := _, pos := _, after := _, guard := _ }) (v := undef) rfl (by kernel_rfl) (by kernel_rfl) (by kernel_rfl) (fun _ _ _ h => h) (Or.inr ⟨by rfl, rfl⟩) (by assumption) ?_
                simp only [Act.put, List.setIfInBounds_toArray, List.set_cons_zero, List.set_cons_succ]
                refine wpAnyH_take (i := 30) (oi := { dst := some 48, op := _, type := _, pos := _, after := _, guard := _ }) (v := undef) rfl (by kernel_rfl) (by kernel_rfl) (by kernel_rfl) (fun _ _ _ h => h) (Or.inr ⟨by rfl, rfl⟩) (by assumption) ?_
                simp only [Act.put, List.setIfInBounds_toArray, List.set_cons_zero, List.set_cons_succ]
                refine wpAnyH_take (i := 31) (oi := { dst := some 49, op := _, type := _, pos := _, after := _, guard := _ }) (v := undef) rfl (by kernel_rfl) (by kernel_rfl) (by kernel_rfl) (fun _ _ _ h => h) (Or.inr ⟨by rfl, rfl⟩) (by assumption) ?_
                simp only [Act.put, List.setIfInBounds_toArray, List.set_cons_zero, List.set_cons_succ]
                refine wpAnyH_take (i := 32) (oi := { dst := some 50, op := _, type := _, pos := _, after := _, guard := _ }) (v := undef) rfl (by kernel_rfl) (by kernel_rfl) (by kernel_rfl) (fun _ _ _ h => h) (Or.inr ⟨by rfl, rfl⟩) (by assumption) ?_
                simp only [Act.put, List.setIfInBounds_toArray, List.set_cons_zero, List.set_cons_succ]
                refine wpAnyH_take (i := 33) (oi := { dst := some 51, op := _, type := _, pos := _, after := _, guard := _ }) (v := undef) rfl (by kernel_rfl) (by kernel_rfl) (by kernel_rfl) (fun _ _ _ h => h) (Or.inr ⟨by rfl, rfl⟩) (by assumption) ?_
                simp only [Act.put, List.setIfInBounds_toArray, List.set_cons_zero, List.set_cons_succ]
                refine wpAnyH_take (i := 34) (oi := { dst := some 52, op := _, type := _, pos := _, after := _, guard := _ }) (v := undef) rfl (by kernel_rfl) (by kernel_rfl) (by kernel_rfl) (fun _ _ _ h => h) (Or.inr ⟨by rfl, rfl⟩) (by assumption) ?_
                simp only [Act.put, List.setIfInBounds_toArray, List.set_cons_zero, List.set_cons_succ]
                refine wpAnyH_take (i := 35) (oi := { dst := some 53, op := _, type := _, pos := _, after := _, guard := _ }) (v := undef) rfl (by kernel_rfl) (by kernel_rfl) (by kernel_rfl) (fun _ _ _ h => h) (Or.inr ⟨by rfl, rfl⟩) (by assumption) ?_
                simp only [Act.put, List.setIfInBounds_toArray, List.set_cons_zero, List.set_cons_succ]
                refine wpAnyH_take (i := 36) (oi := { dst := some 54, op := _, type := _, pos := _, after := _, guard := _ }) (v := undef) rfl (by kernel_rfl) (by kernel_rfl) (by kernel_rfl) (fun _ _ _ h => h) (Or.inr ⟨by rfl, rfl⟩) (by assumption) ?_
                simp only [Act.put, List.setIfInBounds_toArray, List.set_cons_zero, List.set_cons_succ]
                refine wpAnyH_take (i := 37) (oi := { dst := some 55, op := _, type := _, pos := _, after := _, guard := _ }) (v := undef) rfl (by kernel_rfl) (by kernel_rfl) (by kernel_rfl) (fun _ _ _ h => h) (Or.inr ⟨by rfl, rfl⟩) (by assumption) ?_
                simp only [Act.put, List.setIfInBounds_toArray, List.set_cons_zero, List.set_cons_succ]
                refine wpAnyH_take (i := 38) (oi := { dst := some 56, op := _, type := _, pos := _, after := _, guard := _ }) (v := undef) rfl (by kernel_rfl) (by kernel_rfl) (by kernel_rfl) (fun _ _ _ h => h) (Or.inr ⟨by rfl, rfl⟩) (by assumption) ?_
                simp only [Act.put, List.setIfInBounds_toArray, List.set_cons_zero, List.set_cons_succ]
                refine wpAnyH_take (i := 39) (oi := { dst := some 57, op := _, type := _, pos := _, after := _, guard := _ }) (v := undef) rfl (by kernel_rfl) (by kernel_rfl) (by kernel_rfl) (fun _ _ _ h => h) (Or.inr ⟨by rfl, rfl⟩) (by assumption) ?_
                simp only [Act.put, List.setIfInBounds_toArray, List.set_cons_zero, List.set_cons_succ]
                refine wpAnyH_take (i := 40) (oi := { dst := some 58, op := _, type := _, pos := _, after := _, guard := _ }) (v := undef) rfl (by kernel_rfl) (by kernel_rfl) (by kernel_rfl) (fun _ _ _ h => h) (Or.inr ⟨by rfl, rfl⟩) (by assumption) ?_
                simp only [Act.put, List.setIfInBounds_toArray, List.set_cons_zero, List.set_cons_succ]
                refine wpAnyH_take (i := 41) (oi := { dst := some 59, op := _, type := _, pos := _, after := _, guard := _ }) (v := undef) rfl (by kernel_rfl) (by kernel_rfl) (by kernel_rfl) (fun _ _ _ h => h) (Or.inr ⟨by rfl, rfl⟩) (by assumption) ?_
                simp only [Act.put, List.setIfInBounds_toArray, List.set_cons_zero, List.set_cons_succ]
                refine wpAnyH_take (i := 42) (oi := { dst := some 60, op := _, type := _, pos := _, after := _, guard := _ }) (v := undef) rfl (by kernel_rfl) (by kernel_rfl) (by kernel_rfl) (fun _ _ _ h => h) (Or.inr ⟨by rfl, rfl⟩) (by assumption) ?_
                simp only [Act.put, List.setIfInBounds_toArray, List.set_cons_zero, List.set_cons_succ]
                refine wpAnyH_take (i := 43) (oi := { dst := some 61, op := _, type := _, pos := _, after := _, guard := _ }) (v := undef) rfl (by kernel_rfl) (by kernel_rfl) (by kernel_rfl) (fun _ _ _ h => h) (Or.inr ⟨by rfl, rfl⟩) (by assumption) ?_
                simp only [Act.put, List.setIfInBounds_toArray, List.set_cons_zero, List.set_cons_succ]
                refine wpAnyH_take (i := 44) (oi := { dst := some 62, op := _, type := _, pos := _, after := _, guard := _ }) (v := undef) rfl (by kernel_rfl) (by kernel_rfl) (by kernel_rfl) (fun _ _ _ h => h) (Or.inr ⟨by rfl, rfl⟩) (by assumption) ?_
                simp only [Act.put, List.setIfInBounds_toArray, List.set_cons_zero, List.set_cons_succ]
                refine wpAnyH_take (i := 45) (oi := { dst := some 63, op := _, type := _, pos := _, after := _, guard := _ }) (v := undef) rfl (by kernel_rfl) (by kernel_rfl) (by kernel_rfl) (fun _ _ _ h => h) (Or.inr ⟨by rfl, rfl⟩) (by assumption) ?_
                simp only [Act.put, List.setIfInBounds_toArray, List.set_cons_zero, List.set_cons_succ]
                refine wpAnyH_take (i := 46) (oi := { dst := some 64, op := _, type := _, pos := _, after := _, guard := _ }) (v := undef) rfl (by kernel_rfl) (by kernel_rfl) (by kernel_rfl) (fun _ _ _ h => h) (Or.inr ⟨by rfl, rfl⟩) (by assumption) ?_
                simp only [Act.put, List.setIfInBounds_toArray, List.set_cons_zero, List.set_cons_succ]
                refine wpAnyH_take (i := 47) (oi := { dst := some 65, op := _, type := _, pos := _, after := _, guard := _ }) (v := (.bool true)) rfl (by kernel_rfl) (by kernel_rfl) (by kernel_rfl) (fun _ _ _ h => h) (Or.inl ⟨by rfl, fun _ _ => rfl⟩) (by assumption) ?_
                simp only [Act.put, List.setIfInBounds_toArray, List.set_cons_zero, List.set_cons_succ]
                refine wpAnyH_take (i := 48) (oi := { dst := some 66, op := _, type := _, pos := _, after := _, guard := _ }) (v := (.bool true)) rfl (by kernel_rfl) (by kernel_rfl) (by kernel_rfl) (fun _ _ _ h => h) (Or.inl ⟨by rfl, fun _ _ => rfl⟩) (by assumption) ?_
                simp only [Act.put, List.setIfInBounds_toArray, List.set_cons_zero, List.set_cons_succ]
                refine wpAnyH_done (by kernel_rfl) ?_ _
                go_wp2
                go_roundg (N - (r + 1))
                case measure => omega
                case rel => exact ⟨r + 1, r, by omega, rfl, by go_num, Hmore.out (.inl (of_decide_eq_true hgb)), hq⟩
              -- END
        · have hr' : ¬ ((r : Int) < (N : Int)) := by omega
          have hrl : r = l.length := by omega
          have hB2 := HB.out
          rw [hrl] at hB2
          have hL2 : Sym.Left l P ((Sym.srt P).take T.length) := by rw [← HTe.out]; exact HLf.out
          clear HB hrl
          rcases hz with rfl | ⟨b, hb, rfl, hbr⟩
          · have hTr : Hid (T = Sym.train P) := by
              have h1 := Sym.best_none hL2 hB2
              have h2 := HTe.out
              rw [List.take_of_length_le h1] at h2
              refine Lib.hid ?_
              unfold Sym.train
              rw [List.take_of_length_le (by omega)]
              exact h2
            clear hB2 hL2
            go_wp2
            go_ret
            exact ⟨A3, c3, by rw [← hTr.out]; rfl, by rw [← hTr.out]; exact hq.2.1, hq.bel⟩
          · have HNX := Lib.hid (Sym.best_next hL2 hb hB2).1
            rw [← HTe.out] at HNX
            have hb0 : (0 : Int) ≤ (b : Int) := by omega
            have hb' : (b : Int) < (N : Int) := by omega
            have hbn : ¬ ((b : Int) < 0) := by omega
            obtain ⟨g, rfl, hgM, hgl⟩ := hq.1.at_ (by omega)
            have hct := hq.1.text hb
            have HLT := Lib.hid (Sym.left_take HLf.out hb)
            have hst := Lib.hid fun (W : World) (hW : POwn W M (some ⟨g, 0, none⟩) N c1 l) => hW.store hb 0
            have htimes := Lib.hid fun (W : World) (hW : POwn W M (some ⟨g, 0, none⟩) N c1 l) => hW.times hb
            have hone := (own_str wr l[b].1).row
            have hoa := hq.2.1.alloc (.cells #[.string ⟨l[b].1.toArray⟩] 9)
            have hpa := hq.1.alloc (.cells #[.string ⟨l[b].1.toArray⟩] 9)
            have hba : Below M w (wr.alloc (.cells #[.string ⟨l[b].1.toArray⟩] 9)) := hq.bel.alloc hq.2.2.1 _
            have hsza : M ≤ (wr.alloc (.cells #[.string ⟨l[b].1.toArray⟩] 9)).heap.size := Nat.le_trans hq.2.2.1 (by simp)
            clear hB2 hL2
            generalize l.set b (l[b].1, 0) = l5 at *
            generalize l[b].2 = tb at *
            generalize l[b].1 = xb at *
            have hne1 : blk (some ⟨g, 0, none⟩) = none ∨ blk (some ⟨g, 0, none⟩) ≠ blk A3 := by
              have := blocks_apart hpa hoa (by decide)
              rwa [ownBlock_eq, ownBlock_eq] at this
            go_wp2_with (at_builtin; refine wpList_append_row elemStr rfl (.tmp 71) (.tmp 77) rfl M A3 T.length c3 T rfl hoa _ _ 1 1 [xb] rfl rfl hone (by omega) (by simp only [maxLen]; omega) hsza ?_; intro A5 c5 w5 ho5 hg5 hat5; have hp5 : POwn w5 M (some ⟨g, 0, none⟩) N c1 l := hpa.kept hg5 hne1; have hct5 := htimes.out _ hp5; have hfr5 := hp5.free (b * 2 + 1))
            have hb5 : Below M w w5 := hba.grown hg5 hsza (fun q hq => (hoa.lt hq).1)
            have hs5 : M ≤ w5.heap.size := Nat.le_trans hsza hg5.size
            have hne2 : blk A5 = none ∨ blk A5 ≠ some g := by
              have := blocks_apart ho5 hp5 (by decide)
              rwa [ownBlock_eq, ownBlock_eq] at this
            have hp6 : POwn (w5.setCell ⟨g, b * 2 + 1, none⟩ (.int .i64 0)) M (some ⟨g, 0, none⟩) N c1 l5 := hst.out _ hp5
            have ho6 : SOwn (w5.setCell ⟨g, b * 2 + 1, none⟩ (.int .i64 0)) M A5 (T.length + 1) c5 (T ++ [xb]) := ho5.kept (POwn.store_grown w5 g _ _) hne2
            have hb6 : Below M w (w5.setCell ⟨g, b * 2 + 1, none⟩ (.int .i64 0)) := hb5.grown (POwn.store_grown w5 g _ _) hs5 (fun z hz => by cases hz; exact hgM)
            have hs6 : M ≤ (w5.setCell ⟨g, b * 2 + 1, none⟩ (.int .i64 0)).heap.size := by simpa using hs5
            have Hl5 := Lib.hid (show (T ++ [xb]).length = T.length + 1 from by simp)
            have hheld6 : Held w M (some ⟨g, 0, none⟩) N c1 l5 A5 c5 (T ++ [xb]) (w5.setCell ⟨g, b * 2 + 1, none⟩ (.int .i64 0)) := Held.mk' hp6 (by rw [Hl5.out]; exact ho6) hs6 hb6
            clear hg5 hat5 hoa hone hba hpa hne1 hne2 hp6 ho6 hb6 hs6 hp5 hb5 hs5 ho5 hct
            go_roundg (32 - (T.length + 1))
            case measure => omega
            case rel => exact ⟨T.length + 1, l5, A5, c5, T ++ [xb], by omega, by rw [Hl5.out], Hl5.out, HNX.out.symm, HLT.out, hheld6⟩
    · have hk' : ¬ ((T.length : Int) < 32) := by omega
      have hTr : Hid (T = Sym.train P) := by
        have h2 := HTe.out
        have h3 : T.length = 32 := by omega
        rw [h3] at h2
        exact Lib.hid h2
      go_wp2
      go_ret
      exact ⟨A3, c3, by rw [← hTr.out]; rfl, by rw [← hTr.out]; exact hheld.2.1, hheld.bel⟩
end Go.Proofs.YtoebeibmmclhpaaGreat

/- The document's Formed. -/
namespace Go.Proofs.YtoebeibmmclhpaaGreat
open Go.RowKit
set_option maxRecDepth 100000
set_option maxHeartbeats 1000000 in
theorem refFormed_any (A : Option Addr) (n cap B : Nat) (t : List (List UInt8)) (w : World) (hl : t.length = n) (hn : n ≤ 140737488355328) (h1 : Strs w B A t) (hs : ∀ s ∈ t, s.length ≤ maxLen) :
    Calls Tryz.prog 52 #[.slice A n cap] w fun e w' => e = .returned (.bool (Sym.formed t)) ∧ Drawn w w' := by
  by_cases h32 : 32 < n
  · rw [Sym.not_long (by omega)]
    have h32' : (32 : Int) < (n : Int) := by omega
    clear h1 hs hl
    go_enter Tryz.func52, Tryz.ntmps52
    go_wp2
    go_ret
    exact ⟨rfl, Drawn.refl _⟩
  · have h32' : ¬ ((32 : Int) < (n : Int)) := by omega
    have Hl := Lib.hid hl; clear hl
    have Hs := Lib.hid hs; clear hs
    go_enter Tryz.func52, Tryz.ntmps52
    go_wp2
    go_loopw [3] (fun i wr => ∃ (k : Nat), k ≤ n ∧ i = .int .i64 k ∧ Sym.Ok t k ∧ Strs wr B A t ∧ Drawn w wr) (fun i _ => n - (intOf i).toNat)
    case atStart => exact ⟨0, Nat.zero_le _, rfl, Sym.ok_zero t, h1, Drawn.refl _⟩
    case round =>
      clear h1
      obtain ⟨k, hk, rfl, hok, h1, hdr⟩ := hrel
      by_cases hlt : k < n
      · have hk' : k < t.length := by have := Hl.out; omega
        obtain ⟨ad1, rfl, _, hc1⟩ := h1.get hk'
        have hmax := Hs.out _ (List.getElem_mem hk')
        unfold maxLen at hmax
        have HL := Lib.hid (Sym.not_len hk')
        have HT := Lib.hid (Sym.not_twice hk')
        have HS := Lib.hid (Sym.ok_step hk' hok)
        simp only [sval] at hc1
        obtain ⟨x, hx⟩ : ∃ x, x = t[k] := ⟨_, rfl⟩
        rw [← hx] at hc1 hmax HL HT HS
        have Hx := Lib.hid hx; clear hx
        by_cases hx2 : x.length < 2
        · have hd : decide ((x.length : Int) < 2) = true := by simp; omega
          go_wp2
          go_ret
          exact ⟨by rw [HL.out (.inl hx2)]; rfl, hdr⟩
        · by_cases hx8 : 8 < x.length
          · have hd : decide ((x.length : Int) < 2) = false := by simp; omega
            have hd8 : decide (8 < (x.length : Int)) = true := by simp; omega
            go_wp2
            go_ret
            exact ⟨by rw [HL.out (.inr hx8)]; rfl, hdr⟩
          · have hd : decide ((x.length : Int) < 2) = false := by simp; omega
            have hd8 : decide (8 < (x.length : Int)) = false := by simp; omega
            clear hok
            go_wp2
            go_loopw [4] (fun i wq => ∃ (j : Nat), j ≤ k ∧ i = .int .i64 j ∧ x ∉ t.take j ∧ Strs wq B (some ad1) t ∧ Drawn w wq) (fun i _ => k - (intOf i).toNat)
            case atStart => exact ⟨0, Nat.zero_le _, rfl, by simp, h1, hdr⟩
            case round =>
              clear h1 hc1 hdr
              obtain ⟨j, hj, rfl, hnot, h1, hdr⟩ := hrel
              obtain ⟨_, hh, _, hc1⟩ := h1.get hk'
              cases hh
              by_cases hjk : j < k
              · have hj' : j < t.length := by omega
                obtain ⟨_, hh, _, hc2⟩ := h1.get hj'
                cases hh
                simp only [sval] at hc1 hc2
                rw [← Hx.out] at hc1
                have hts := Lib.hid (List.take_succ_eq_append_getElem hj')
                have hmem : t[j] ∈ t.take k := List.mem_take_iff_getElem.2 ⟨j, by omega, rfl⟩
                generalize t[j] = y at *
                have i1 : (k : Int) < (n : Int) := by omega
                have i2 : (j : Int) < (n : Int) := by omega
                have i3 : (j : Int) < (k : Int) := by omega
                have i0 : (0 : Int) ≤ (k : Int) := by omega
                have i00 : (0 : Int) ≤ (j : Int) := by omega
                by_cases hxy : x = y
                · subst hxy
                  have hxx : (x == x) = true := by simp
                  go_wp2_with fail
                  go_quiet (fail)
                  go_wp2
                  go_ret
                  exact ⟨by rw [HT.out hmem]; rfl, hdr.drewN _⟩
                · have hxx : (x == y) = false := by simpa using hxy
                  go_wp2_with fail
                  go_quiet (fail)
                  go_wp2
                  go_roundw
                  case rel => exact ⟨j + 1, by omega, by go_num, by rw [hts.out]; simp [hnot, hxy], h1, hdr.drewN _⟩
                  case measure => simp [intOf]; omega
              · obtain rfl : j = k := by omega
                have HR := Lib.hid (HS.out (by omega) (by omega) hnot)
                go_wp2
                go_roundw
                case rel => exact ⟨j + 1, by omega, by go_num, HR.out, h1, hdr⟩
                case measure => simp [intOf]; omega
      · have HE : Hid (Sym.formed t = true) := by
          have hkn : k = t.length := by have := Hl.out; omega
          rw [hkn] at hok
          exact Lib.hid (Sym.ok_all hok (by omega))
        clear hok
        go_wp2
        go_ret
        exact ⟨by rw [HE.out]; rfl, hdr⟩
end Go.Proofs.YtoebeibmmclhpaaGreat

/- The document's longest and Encode. -/
namespace Go.Proofs.YtoebeibmmclhpaaGreat
open Go.RowKit Go.Maps
set_option maxRecDepth 100000
namespace Sym
/-- the place of the best, -1: none -/
def at_ : Option Nat → Int
  | none => -1
  | some k => k
theorem upto_lt {t : List (List UInt8)} {b : List UInt8} {i k : Nat} (hi : i ≤ t.length) (h : upto t b i = some k) : k < i := by
  rcases upto_is t b i hi with ⟨e, _⟩ | ⟨k', e, hk, _⟩
  · rw [e] at h; cases h
  · rw [e] at h; injection h with h; omega
theorem upto_no {t : List (List UInt8)} {b : List UInt8} {i : Nat} (hi : i < t.length) (h : ¬ t[i] <+: b) : upto t b (i + 1) = upto t b i := by
  rw [upto, getD_eq hi, if_neg h]
theorem upto_first {t : List (List UInt8)} {b : List UInt8} {i : Nat} (hi : i < t.length) (h : t[i] <+: b) (hn : upto t b i = none) : upto t b (i + 1) = some i := by
  rw [upto, getD_eq hi, if_pos h, hn]
theorem upto_more {t : List (List UInt8)} {b : List UInt8} {i k : Nat} (hi : i < t.length) (hk : k < t.length) (h : t[i] <+: b) (hn : upto t b i = some k) (hl : t[k].length < t[i].length) : upto t b (i + 1) = some i := by
  rw [upto, getD_eq hi, if_pos h, hn]
  simp only [getD_eq hk, if_pos hl]
theorem upto_less {t : List (List UInt8)} {b : List UInt8} {i k : Nat} (hi : i < t.length) (hk : k < t.length) (h : t[i] <+: b) (hn : upto t b i = some k) (hl : ¬ t[k].length < t[i].length) : upto t b (i + 1) = some k := by
  rw [upto, getD_eq hi, if_pos h, hn]
  simp only [getD_eq hk, if_neg hl]
theorem prefix_take {s b : List UInt8} : s <+: b ↔ b.take s.length = s := by
  rw [List.prefix_iff_eq_take]
  exact eq_comm
end Sym
set_option maxHeartbeats 4000000 in
theorem longest_any (A Ab : Option Addr) (n m cap capb B : Nat) (t : List (List UInt8)) (b : List UInt8) (w : World) (hl : t.length = n) (hn : n ≤ 32) (hlb : b.length = m) (hcapb : m ≤ capb) (_hm : m ≤ 140737488355328)
    (h1 : Strs w B A t) (hs : ∀ s ∈ t, s.length ≤ 8) (hb : Bytes w B Ab b) :
    Calls Tryz.prog 53 #[.slice A n cap, .slice Ab m capb] w fun e w' => e = .returned (.int .i64 (Sym.at_ (Sym.longest t b))) ∧ Drawn w w' := by
  have Hl := Lib.hid hl; clear hl
  have Hlb := Lib.hid hlb; clear hlb
  have Hs := Lib.hid hs; clear hs
  go_enter Tryz.func53, Tryz.ntmps53
  go_wp2
  go_loopw [5, 6] (fun r i wr => ∃ (k : Nat), k ≤ n ∧ i = .int .i64 k ∧ r = .int .i64 (Sym.at_ (Sym.upto t b k)) ∧ Strs wr B A t ∧ Bytes wr B Ab b ∧ Drawn w wr) (fun _ i _ => n - (intOf i).toNat)
  case atStart => exact ⟨0, Nat.zero_le _, rfl, rfl, h1, hb, Drawn.refl _⟩
  case round =>
    clear h1 hb
    obtain ⟨k, hk, rfl, rfl, h1, hb, hdr⟩ := hrel
    by_cases hlt : k < n
    · have hk' : k < t.length := by have := Hl.out; omega
      obtain ⟨ad1, rfl, _, hc1⟩ := h1.get hk'
      have h8 := Hs.out _ (List.getElem_mem hk')
      have i1 : (k : Int) < (n : Int) := by omega
      have i0 : (0 : Int) ≤ (k : Int) := by omega
      have hno := Lib.hid (Sym.upto_no (b := b) hk')
      have hfi := Lib.hid (Sym.upto_first (b := b) hk')
      have hmo := Lib.hid (fun j hj => Sym.upto_more (b := b) (k := j) hk' hj)
      have hle := Lib.hid (fun j hj => Sym.upto_less (b := b) (k := j) hk' hj)
      have hpre := Lib.hid (@Sym.prefix_take t[k] b)
      simp only [sval] at hc1
      obtain ⟨x, hx⟩ : ∃ x, x = t[k] := ⟨_, rfl⟩
      rw [← hx] at hc1 h8 hno hfi hmo hle hpre
      have Hx := Lib.hid hx; clear hx
      by_cases hxm : x.length ≤ m
      · have hd1 : decide ((x.length : Int) ≤ (m : Int)) = true := by simp; omega
        have hcut := run_cut_h Ab m capb x.length (by omega)
        have hcv := fun q => run_string_of ((hb.take x.length).drewN q) capb
        rw [show (b.take x.length).length = x.length from by rw [List.length_take, Hlb.out]; omega] at hcv
        by_cases hp : b.take x.length = x
        · rw [hp] at hcv
          have hxx : (x == x) = true := by simp
          have hpx := hpre.out.2 hp
          clear hpre hp
          rcases hu : Sym.upto t b k with _ | j
          · have HR := Lib.hid (hfi.out hpx hu)
            clear hno hmo hle hfi hpx hu
            simp only [Sym.at_]
            go_wp2_with fail
            go_quiet (fail)
            go_wp2
            go_roundw
            case rel => exact ⟨k + 1, by omega, by go_num, by rw [HR.out], h1, hb, hdr.drewN _⟩
            case measure => simp [intOf]; omega
          · have hjk := Sym.upto_lt (by omega) hu
            have hj' : j < t.length := by omega
            obtain ⟨_, hh, _, hc2⟩ := h1.get hj'
            cases hh
            have hmo := Lib.hid (hmo.out j hj' hpx hu)
            have hle := Lib.hid (hle.out j hj' hpx hu)
            have h8' := Hs.out _ (List.getElem_mem hj')
            simp only [sval] at hc2
            generalize t[j] = y at *
            have i2 : (j : Int) < (n : Int) := by omega
            have i3 : (0 : Int) ≤ (j : Int) := by omega
            have hneg : decide ((j : Int) < 0) = false := by simp
            clear hno hfi hpx hu
            simp only [Sym.at_]
            by_cases hyx : y.length < x.length
            · have hd2 : decide (y.length < x.length) = true := by simpa using hyx
              have HR := Lib.hid (hmo.out hyx)
              go_wp2_with fail
              go_quiet (fail)
              go_wp2
              go_roundw
              case rel => exact ⟨k + 1, by omega, by go_num, by rw [HR.out], h1, hb, hdr.drewN _⟩
              case measure => simp [intOf]; omega
            · have hd2 : decide (y.length < x.length) = false := by simpa using hyx
              have HR := Lib.hid (hle.out hyx)
              go_wp2_with fail
              go_quiet (fail)
              go_wp2
              go_roundw
              case rel => exact ⟨k + 1, by omega, by go_num, by rw [HR.out], h1, hb, hdr.drewN _⟩
              case measure => simp [intOf]; omega
        · have hnp := Lib.hid (hno.out (fun h => hp (hpre.out.1 h)))
          generalize b.take x.length = y at *
          have hyx : (y == x) = false := by simpa using hp
          clear hpre hp hno hfi hmo hle
          go_wp2_with fail
          go_quiet (fail)
          go_wp2
          go_roundw
          case rel => exact ⟨k + 1, by omega, by go_num, by rw [hnp.out], h1, hb, hdr.drewN _⟩
          case measure => simp [intOf]; omega
      · have hd1 : decide ((x.length : Int) ≤ (m : Int)) = false := by simp; omega
        have hnp := Lib.hid (hno.out (fun h => hxm (by rw [← Hlb.out]; exact h.length_le)))
        clear hpre hno hfi hmo hle
        go_wp2_with fail
        go_quiet (fail)
        go_wp2
        go_roundw
        case rel => exact ⟨k + 1, by omega, by go_num, by rw [hnp.out], h1, hb, hdr.drewN _⟩
        case measure => simp [intOf]; omega
    · obtain rfl : k = n := by omega
      have HE : Hid (Sym.longest t b = Sym.upto t b k) := Lib.hid (by unfold Sym.longest; rw [Hl.out])
      go_wp2
      go_ret
      exact ⟨by rw [HE.out]; rfl, hdr⟩
set_option maxHeartbeats 4000000 in
theorem refEncode_any (A Ab : Option Addr) (n m cap capb B : Nat) (t : List (List UInt8)) (b : List UInt8) (w : World) (hl : t.length = n) (hn : n ≤ 140737488355328) (hlb : b.length = m) (hcapb : m ≤ capb) (hm : m ≤ 70368744177664)
    (h1 : Strs w B A t) (hs : ∀ s ∈ t, s.length ≤ maxLen) (hb : Bytes w B Ab b) (hB : B ≤ w.heap.size) :
    Calls Tryz.prog 26 #[.slice A n cap, .slice Ab m capb] w (PairPost w (Sym.encoded t b)) := by
  have HF := refFormed_any A n cap B t w hl hn h1 hs
  unfold Sym.encoded
  by_cases hf : Sym.Formed t
  · rw [Sym.formed_iff.2 hf] at HF
    rw [if_pos hf]
    replace HF := Lib.hid HF
    have Hf := Lib.hid hf
    have h1' := h1.wide hB
    have hb' := hb.wide hB
    have hn32 : n ≤ 32 := by rw [← hl]; exact hf.1
    have HLO := Lib.hid (fun (A1 : Option Addr) (m1 c1 B1 : Nat) (b1 : List UInt8) (w1 : World) (hlb1 : b1.length = m1) (hc1 : m1 ≤ c1) (hm1 : m1 ≤ 140737488355328) (h11 : Strs w1 B1 A t) (hb1 : Bytes w1 B1 A1 b1) => longest_any A A1 n m1 cap c1 B1 t b1 w1 hl hn32 hlb1 hc1 hm1 h11 (fun s hs => (hf.2.1 s hs).2) hb1)
    have Hl := Lib.hid hl
    have Hlb := Lib.hid hlb
    clear hl h1 hs hf hb hlb
    go_enter Tryz.func26, Tryz.ntmps26
    go_wp2_with fail
    refine HF.out.mono ?_
    rintro e w1 ⟨rfl, hd1⟩
    clear HF
    go_wp2
    go_loopg [6, 7] m (fun g ov i wx => ∃ k A2 c2 o, k + g = m ∧ i = .int .i64 (k : Int) ∧ ov = .slice A2 o.length c2 ∧ Own wx w.heap.size A2 o.length c2 o ∧ o ++ Sym.encode t (b.drop k) = Sym.encode t b ∧ o.length + 2 * g ≤ 2 * m ∧ Below w.heap.size w wx)
    case atStart => exact ⟨0, none, 0, [], by omega, rfl, rfl, own_none _ _, rfl, by simp, hd1.below _⟩
    case round =>
      obtain ⟨k, A2, c2, o, hkg, rfl, rfl, hown, henc, hsz, hbel⟩ := hrel
      have HENC := Lib.hid henc; clear henc
      have hszw := hbel.size
      by_cases hkm : k < m
      · have hkm' : (k : Int) < (m : Int) := by omega
        have hsl := run_cut_from Ab m capb k (m - k) (by omega)
        have h1r := h1'.below hbel
        have hbr := hb'.below hbel
        have hcut := hbr.cut (k := k) (cap := capb) (by rw [Hlb.out]; omega) (by rw [Hlb.out]; exact hcapb)
        have HL := Lib.hid (HLO.out (cutAt Ab capb k) (m - k) (capb - k) w.heap.size (b.drop k) wr (by rw [List.length_drop, Hlb.out]) (by omega) (by omega) h1r hcut)
        have hlk := Sym.longest_is t (b.drop k)
        rcases hlo : Sym.longest t (b.drop k) with _ | j
        · rw [hlo] at HL
          simp only [Sym.at_] at HL
          obtain ⟨x, hx, hdrop⟩ : ∃ x, b[k]? = some x ∧ b.drop k = x :: b.drop (k + 1) := ⟨b[k]'(by rw [Hlb.out]; exact hkm), List.getElem?_eq_getElem _, List.drop_eq_getElem_cons _⟩
          have HEN : Hid (Sym.encode t (b.drop k) = 255 :: x :: Sym.encode t (b.drop (k + 1))) := Lib.hid (by rw [hdrop]; exact Sym.encode_none (by rw [← hdrop]; exact hlo))
          obtain ⟨ad, rfl, hblk, hcell⟩ := hbr.get (k := k) (by rw [Hlb.out]; exact hkm)
          rw [show b[k]'(by rw [Hlb.out]; exact hkm) = x from by rw [List.getElem?_eq_getElem (by rw [Hlb.out]; exact hkm)] at hx; injection hx] at hcell
          generalize cutAt (some ad) capb k = A3 at *
          clear hlk hlo hcut hdrop hx
          go_wp2_with fail
          refine HL.out.mono ?_
          rintro e w2 ⟨rfl, hd2⟩
          clear HL
          have hbel2 := hbel.trans (hd2.below w.heap.size)
          have hcell2 : w2.cell? (ad.add k) = some (.int .u8 (x.toNat : Int)) := by obtain ⟨q, rfl⟩ := hd2; exact hcell
          have hown2 : Own w2 w.heap.size A2 o.length c2 o := by obtain ⟨q, rfl⟩ := hd2; exact hown
          have hsz2 : w.heap.size ≤ w2.heap.size := hbel2.size
          have hone := own_byte2 w2 255 x 255 (x.toNat : Int) rfl rfl
          have hob := hone.bytes
          have hoa := hown2.alloc (.cells #[.int .u8 255, .int .u8 (x.toNat : Int)] 5)
          have hba : Below w.heap.size w (w2.alloc (.cells #[.int .u8 255, .int .u8 (x.toNat : Int)] 5)) := hbel2.alloc hsz2 _
          have hsza : w.heap.size ≤ (w2.alloc (.cells #[.int .u8 255, .int .u8 (x.toNat : Int)] 5)).heap.size := by simp; omega
          clear hone hown hown2 hd2 hcell hbr h1r hbel2
          go_wp2_with (at_builtin; refine wpList_append_bytes rfl (.tmp 23) (.tmp 28) rfl w.heap.size A2 o.length c2 o rfl hoa _ _ 2 2 [255, x] rfl rfl hob (by omega) hsza ?_; intro A5 c5 w5 ho5 hg5 hat5)
          have hb5 : Below w.heap.size w w5 := hba.grown hg5 hsza (fun q hq => (hoa.lt hq).1)
          have HE5 : Hid ((o ++ [255, x]) ++ Sym.encode t (b.drop (k + 1)) = Sym.encode t b) := Lib.hid (by rw [← HENC.out, HEN.out, List.append_assoc]; rfl)
          have Hl5 := Lib.hid (show (o ++ [255, x]).length = o.length + 2 from by simp)
          clear hba hoa hob hg5 hat5 hsl hcell2
          go_roundg (m - (k + 1))
          case measure => omega
          case rel => exact ⟨k + 1, A5, c5, o ++ [255, x], by omega, by go_num, by rw [Hl5.out], by rw [Hl5.out]; exact ho5, HE5.out, by rw [Hl5.out]; omega, hb5⟩
        · rw [hlo] at HL hlk
          simp only [Sym.at_] at HL
          obtain ⟨hj', hp, _⟩ := hlk
          have h2 := (Hf.out.2.1 _ (List.getElem_mem hj')).1
          have h8 := (Hf.out.2.1 _ (List.getElem_mem hj')).2
          have hple := hp.length_le
          rw [List.length_drop, Hlb.out] at hple
          have HEN := Lib.hid (Sym.encode_some hlo (by rw [Sym.getD_eq hj']; omega))
          rw [Sym.getD_eq hj', List.drop_drop] at HEN
          have hjn : j < n := by rw [← Hl.out]; exact hj'
          obtain ⟨ad, rfl, hblk, hcell⟩ := h1r.get hj'
          simp only [sval] at hcell
          generalize t[j] = s at *
          generalize cutAt Ab capb k = A3 at *
          clear hp hlo hcut
          go_wp2_with fail
          refine HL.out.mono ?_
          rintro e w2 ⟨rfl, hd2⟩
          clear HL
          have hbel2 := hbel.trans (hd2.below w.heap.size)
          have hcell2 : w2.cell? (ad.add j) = some (.string ⟨s.toArray⟩) := by obtain ⟨q, rfl⟩ := hd2; exact hcell
          have hown2 : Own w2 w.heap.size A2 o.length c2 o := by obtain ⟨q, rfl⟩ := hd2; exact hown
          have hsz2 : w.heap.size ≤ w2.heap.size := hbel2.size
          have hjj : (j : Int) % 256 = (j : Int) := by omega
          have hone := own_byte w2 (UInt8.ofNat j) (j : Int) (bval_lt (by omega))
          have hob := hone.bytes
          have hoa := hown2.alloc (.cells #[.int .u8 (j : Int)] 5)
          have hba : Below w.heap.size w (w2.alloc (.cells #[.int .u8 (j : Int)] 5)) := hbel2.alloc hsz2 _
          have hsza : w.heap.size ≤ (w2.alloc (.cells #[.int .u8 (j : Int)] 5)).heap.size := by simp; omega
          have hca : (w2.alloc (.cells #[.int .u8 (j : Int)] 5)).cell? (ad.add j) = some (.string ⟨s.toArray⟩) := (((Below.refl w.heap.size w2).alloc hsz2 _).cell (by rw [addr_add_block]; exact hblk)).trans hcell2
          have i1 : (j : Int) < (n : Int) := by omega
          clear hone hown hown2 hd2 hcell hbr h1r hbel2 hcell2
          go_wp2_with (at_builtin; refine wpList_append_bytes rfl (.tmp 32) (.tmp 35) rfl w.heap.size A2 o.length c2 o rfl hoa _ _ 1 1 [UInt8.ofNat j] rfl rfl hob (by omega) hsza ?_; intro A5 c5 w5 ho5 hg5 hat5; have hc5 := (((Below.refl w.heap.size _).grown hg5 hsza (fun q hq => (hoa.lt hq).1)).cell (by rw [addr_add_block]; exact hblk)).trans hca)
          have hb5 : Below w.heap.size w w5 := hba.grown hg5 hsza (fun q hq => (hoa.lt hq).1)
          have HE5 : Hid ((o ++ [UInt8.ofNat j]) ++ Sym.encode t (b.drop (k + s.length)) = Sym.encode t b) := Lib.hid (by rw [← HENC.out, HEN.out, List.append_assoc]; rfl)
          have Hl5 := Lib.hid (show (o ++ [UInt8.ofNat j]).length = o.length + 1 from by simp)
          clear hba hoa hob hg5 hat5 hsl hca
          go_roundg (m - (k + s.length))
          case measure => omega
          case rel => exact ⟨k + s.length, A5, c5, o ++ [UInt8.ofNat j], by omega, by go_num, by rw [Hl5.out], by rw [Hl5.out]; exact ho5, HE5.out, by rw [Hl5.out]; omega, hb5⟩
      · have hkm' : ¬ ((k : Int) < (m : Int)) := by omega
        have HE : Hid (Sym.encode t b = o) := by
          have hr : b.drop k = [] := List.drop_eq_nil_of_le (by rw [Hlb.out]; omega)
          have := HENC.out
          rw [hr, Sym.encode_nil, List.append_nil] at this
          exact Lib.hid this.symm
        clear HENC
        go_wp2
        go_ret2
        exact ⟨A2, c2, by rw [HE.out]; rfl, by rw [HE.out]; exact hown, hbel⟩
  · rw [Sym.formed_not.2 hf] at HF
    rw [if_neg hf]
    replace HF := Lib.hid HF
    clear h1 hs hl hb hf
    go_enter Tryz.func26, Tryz.ntmps26
    go_wp2_with fail
    refine HF.out.mono ?_
    rintro e w' ⟨rfl, hd⟩
    clear HF
    go_wp2
    go_ret2
    exact PairPost.none 1 (hd.below _)
end Go.Proofs.YtoebeibmmclhpaaGreat

/- A string's bytes appended to a byte slice of one's own. -/
namespace Go.Proofs.YtoebeibmmclhpaaGreat
open Go.RowKit
set_option maxRecDepth 100000
theorem run_append_str (w : World) (base : Nat) (ty : TypeId) (A : Option Addr) (n c : Nat) (l : List UInt8) (hown : Own w base A n c l) (s : List UInt8) (hbytes : n + s.length ≤ 140737488355328) (hbase : base ≤ w.heap.size) :
    ∃ A' c' w', (Builtin.append_ #[22, 9] ty #[.slice A n c, .string ⟨s.toArray⟩]).run Tryz.prog w = .ok (.slice A' (n + s.length) c') w' ∧
      Own w' base A' (n + s.length) c' (l ++ s) ∧ w.grownBy w' (blk A) := by
  obtain ⟨i0, hi0, hz0, hz1, hz2⟩ := info_parts byte_info
  have hsz : (⟨s.toArray⟩ : ByteArray).size = s.length := by rw [ByteArray.size, List.size_toArray]
  obtain ⟨v', w', hrun, h2, h3, _⟩ := Lib.run_append_own_string (P := Tryz.prog) w base 22 9 ty 5 i0 Tryz.underlying22 Tryz.underlying9 hi0 hz0 hz1 hz2 (.slice A n c) n (bvals l) hown ⟨s.toArray⟩ (by rw [hsz]; simp only [maxLen]; omega) (by rw [hsz]; exact hbytes) hbase
  rw [hsz] at h2
  have hcells : Lib.strCells ⟨s.toArray⟩ = bvals s := rfl
  rw [hcells, ← bvals_append] at h2
  rw [ownBlock_eq] at h3
  rcases h2.2 with ⟨rfl, h0⟩ | ⟨g, cap, cur, rfl, _⟩
  · refine ⟨none, 0, w', ?_, ?_, h3⟩
    · rw [h0]; exact hrun
    · unfold Own; rw [h0] at h2 ⊢; exact h2
  · exact ⟨_, cap, w', hrun, h2, h3⟩
theorem wpList_append_str {w : World} {ops : Array Oper} {rest : List Oper} {o : Oper} {a : Act} {Q : Exit → Act → World → Prop} (hw : Region.wanted o (yielded ops a.tmps) = true) (s x : Operand)
    (ho : o.op = .call { callee := .builtin .append, args := #[s, x], argTypes := #[22, 9] })
    (base : Nat) (A : Option Addr) (n c : Nat) (l : List UInt8) (hs : a.eval s = .slice A n c) (hown : Own w base A n c l)
    (l2 : List UInt8) (hx : a.eval x = .string ⟨l2.toArray⟩) (hbytes : n + l2.length ≤ 140737488355328) (hbase : base ≤ w.heap.size)
    (h : ∀ A' c' w', Own w' base A' (n + l2.length) c' (l ++ l2) → w.grownBy w' (blk A) → wpList Tryz.prog ops Q rest (a.put o.dst (.slice A' (n + l2.length) c')) w') :
    wpList Tryz.prog ops Q (o :: rest) a w := by
  obtain ⟨A', c', w', hrun, h2, h3⟩ := run_append_str w base o.type A n c l hown l2 hbytes hbase
  refine wpList_step fun K hK => ?_
  rw [if_pos hw]
  unfold Oper.wp execOp
  simp only [ho, resolve, invoke, builtin, Sem.run_bind, Sem.run_pure, Result.andThen_ok, List.map_toArray, List.map_cons, List.map_nil, hs, hx, hrun]
  exact hK _ _ (h A' c' w' h2 h3)
theorem step_append_str {w : World} {ops : Array Oper} {o : Oper} {a : Act} {K : Act → World → Prop} {Q : Exit → Act → World → Prop} {E : Prop} (hw : Region.wanted o (yielded ops a.tmps) = true) (s x : Operand)
    (ho : o.op = .call { callee := .builtin .append, args := #[s, x], argTypes := #[22, 9] })
    (base : Nat) (A : Option Addr) (n c : Nat) (l : List UInt8) (hs : a.eval s = .slice A n c) (hown : Own w base A n c l)
    (l2 : List UInt8) (hx : a.eval x = .string ⟨l2.toArray⟩) (hbytes : n + l2.length ≤ 140737488355328) (hbase : base ≤ w.heap.size)
    (h : ∀ A' c' w', Own w' base A' (n + l2.length) c' (l ++ l2) → w.grownBy w' (blk A) → K (a.put o.dst (.slice A' (n + l2.length) c')) w') :
    if Region.wanted o (yielded ops a.tmps) = true then Oper.wp Tryz.prog o a w K Q else E := by
  obtain ⟨A', c', w', hrun, h2, h3⟩ := run_append_str w base o.type A n c l hown l2 hbytes hbase
  rw [if_pos hw]
  unfold Oper.wp execOp
  simp only [ho, resolve, invoke, builtin, Sem.run_bind, Sem.run_pure, Result.andThen_ok, List.map_toArray, List.map_cons, List.map_nil, hs, hx, hrun]
  exact h A' c' w' h2 h3
end Go.Proofs.YtoebeibmmclhpaaGreat

/- sym.takeCode, sym.Decode. -/
namespace Go.Proofs.YtoebeibmmclhpaaGreat
open Go.RowKit
set_option maxRecDepth 100000
/-- what takeCode answers -/
def codeVal : Option (List UInt8 × Nat) → Value
  | none => .tuple #[.string ⟨#[]⟩, .int .i64 0, .bool false]
  | some (s, k) => .tuple #[.string ⟨s.toArray⟩, .int .i64 (k : Int), .bool true]
set_option maxHeartbeats 1000000 in
theorem takeCode_any (A Ab : Option Addr) (n m cap capb B : Nat) (t : List (List UInt8)) (b : List UInt8) (w : World) (hl : t.length = n) (hn : n ≤ 32) (hlb : b.length = m) (hm1 : 1 ≤ m) (hcapb : m ≤ capb) (h1 : Strs w B A t) (hb : Bytes w B Ab b) :
    Calls Tryz.prog 92 #[.slice A n cap, .slice Ab m capb] w fun e w' => e = .returned (codeVal (Sym.code t b)) ∧ w = w' := by
  obtain ⟨c, r, rfl⟩ : ∃ c r, b = c :: r := by
    cases b with
    | nil => simp at hlb; omega
    | cons c r => exact ⟨c, r, rfl⟩
  obtain ⟨ad, rfl, _, hcell⟩ := hb.get (k := 0) (by simp)
  simp only [List.getElem_cons_zero] at hcell
  rw [show ad.add 0 = ad from by simp [Addr.add]] at hcell
  have hc256 := Num.byte_lt c
  have i0 : (0 : Int) < (m : Int) := by omega
  by_cases hct : c.toNat < n
  · have hct' : c.toNat < t.length := by omega
    have HC := Lib.hid (Sym.code_sym r hct')
    rw [Sym.getD_eq hct'] at HC
    obtain ⟨ad1, rfl, _, hc1⟩ := h1.get hct'
    simp only [sval] at hc1
    generalize t[c.toNat] = x at *
    have hlt : (c.toNat : Int) < (n : Int) := by omega
    have hge : (0 : Int) ≤ (c.toNat : Int) := by omega
    clear h1 hb hl hlb
    go_enter Tryz.func92, Tryz.ntmps92
    go_wp2
    go_ret3
    exact ⟨by rw [HC.out]; rfl, rfl⟩
  · have hct' : ¬ c.toNat < t.length := by omega
    have hlt : ¬ ((c.toNat : Int) < (n : Int)) := by omega
    by_cases h255 : c = 255
    · subst h255
      have h2 : ((255 : UInt8).toNat : Int) = 255 := by decide
      rw [h2] at hcell hlt
      cases r with
      | nil =>
        have HC : Hid (Sym.code t [255] = none) := Lib.hid (by show (if (255 : UInt8).toNat < t.length then _ else _) = _; rw [if_neg hct']; rfl)
        have hm' : ¬ ((1 : Int) < (m : Int)) := by simp at hlb; omega
        clear h1 hb hl hlb
        go_enter Tryz.func92, Tryz.ntmps92
        go_wp2
        go_ret3
        exact ⟨by rw [HC.out]; rfl, rfl⟩
      | cons d r =>
        have HC := Lib.hid (Sym.code_esc (t := t) d r (by omega))
        have hm' : (1 : Int) < (m : Int) := by simp at hlb; omega
        have hcut : ∀ W : World, (Instr.slice 22 (.slice (some ad) m capb) (some (.int .i64 (1 : Int))) (some (.int .i64 (2 : Int))) none).run Tryz.prog W = .ok (.slice (cutAt (some ad) capb 1) 1 (capb - 1)) W := run_cut_lh (some ad) m capb 1 2 (by omega) (by omega)
        have hbc := (hb.cut (k := 1) (cap := capb) (by simp) (by omega)).take 1
        rw [show ((255 :: d :: r).drop 1).take 1 = [d] from rfl] at hbc
        have hcv := run_string_of hbc (capb - 1)
        rw [show [d].length = 1 from rfl] at hcv
        generalize cutAt (some ad) capb 1 = A2 at *
        clear h1 hb hl hlb hbc
        go_enter Tryz.func92, Tryz.ntmps92
        go_wp2
        go_ret3
        exact ⟨by rw [HC.out]; rfl, rfl⟩
    · have HC : Hid (Sym.code t (c :: r) = none) := Lib.hid (by show (if c.toNat < t.length then _ else _) = _; rw [if_neg hct', if_neg h255])
      have h2 : ((c.toNat : Int) == 255) = false := by
        have : c.toNat ≠ 255 := fun e => h255 (UInt8.toNat_inj.1 e)
        simp; omega
      clear h1 hb hl hlb
      go_enter Tryz.func92, Tryz.ntmps92
      go_wp2
      go_ret3
      exact ⟨by rw [HC.out]; rfl, rfl⟩
set_option maxHeartbeats 4000000 in
theorem decode_any (A Ab : Option Addr) (n m cap capb B : Nat) (most : Int) (t : List (List UInt8)) (b : List UInt8) (w : World) (hl : t.length = n) (hcap : n ≤ cap) (hn : n ≤ 140737488355328) (hlb : b.length = m) (hcapb : m ≤ capb) (hm : m ≤ 17592186044416)
    (h0 : -9223372036854775808 ≤ most) (h63 : most ≤ 9223372036854775807) (h1 : Strs w B A t) (hs : ∀ s ∈ t, s.length ≤ maxLen) (hb : Bytes w B Ab b) (hB : B ≤ w.heap.size) :
    Calls Tryz.prog 61 #[.slice A n cap, .slice Ab m capb, .int .i64 most] w (PairPost w (Sym.decoded t b most)) := by
  have HF := formed_any A n cap B t w hl hcap hn h1 hs
  unfold Sym.decoded
  by_cases hf : Sym.Formed t
  · rw [Sym.formed_iff.2 hf] at HF
    replace HF := Lib.hid HF
    by_cases hneg : most < 0
    · rw [if_neg (fun h => by omega)]
      clear h1 hs hl hb hf
      go_enter Tryz.func61, Tryz.ntmps61
      go_wp2_with fail
      refine HF.out.mono ?_
      rintro e w' ⟨rfl, rfl⟩
      clear HF
      go_wp2
      go_ret2
      exact PairPost.none 1 (Below.refl _ _)
    · rw [if_pos ⟨hf, by omega⟩]
      have hneg' : 0 ≤ most := by omega
      have h1' := h1.wide hB
      have hb' := hb.wide hB
      have hn32 : n ≤ 32 := by rw [← hl]; exact hf.1
      have HTC := Lib.hid (fun (A1 : Option Addr) (m1 c1 : Nat) (b1 : List UInt8) (w1 : World) (hlb1 : b1.length = m1) (hm1 : 1 ≤ m1) (hc1 : m1 ≤ c1) (h11 : Strs w1 w.heap.size A t) (hb1 : Bytes w1 w.heap.size A1 b1) => takeCode_any A A1 n m1 cap c1 w.heap.size t b1 w1 hl hn32 hlb1 hm1 hc1 h11 hb1)
      have Hf := Lib.hid hf
      clear hl h1 hs hf hb
      go_enter Tryz.func61, Tryz.ntmps61
      go_wp2_with fail
      refine HF.out.mono ?_
      rintro e w' ⟨rfl, rfl⟩
      clear HF
      go_wp2
      go_loopg [1, 8] m (fun g bv ov wx => ∃ A1 c1 rest A2 c2 o, bv = .slice A1 g c1 ∧ rest.length = g ∧ g ≤ c1 ∧ Bytes wx w.heap.size A1 rest ∧ ov = .slice A2 o.length c2 ∧ Own wx w.heap.size A2 o.length c2 o ∧ Sym.decode t most o rest = Sym.decode t most [] b ∧ o.length + 8 * g ≤ 8 * m ∧ (o.length : Int) ≤ most ∧ Below w.heap.size w wx)
      case atStart => exact ⟨Ab, capb, b, none, 0, [], rfl, hlb, hcapb, hb', rfl, own_none _ _, rfl, by simp, by simpa using hneg', Below.refl _ _⟩
      case round =>
        obtain ⟨A1, c1, rest, A2, c2, o, rfl, hrl, hc1', hbr, rfl, hown, hdec, hsz, hmo, hbel⟩ := hrel
        clear hb'
        have HDEC := Lib.hid hdec; clear hdec
        have HRL := Lib.hid hrl; clear hrl
        have hszw := hbel.size
        by_cases hg0 : gk = 0
        · have hg1 : ¬ ((0 : Int) < (gk : Int)) := by omega
          have HE : Hid (Sym.decode t most [] b = (o, 0)) := by
            have hr : rest = [] := List.eq_nil_of_length_eq_zero (HRL.out.trans hg0)
            have := HDEC.out
            rw [hr, Sym.decode_nil] at this
            exact Lib.hid this.symm
          clear HDEC HRL hbr
          go_wp2
          go_ret2
          exact ⟨A2, c2, by rw [HE.out]; rfl, by rw [HE.out]; exact hown, hbel⟩
        · have hg1 : (0 : Int) < (gk : Int) := by omega
          have HT := Lib.hid (HTC.out A1 gk c1 rest wr HRL.out (by omega) hc1' (h1'.below hbel) hbr)
          rcases hcode : Sym.code t rest with _ | ⟨s, k⟩
          · rw [hcode] at HT
            have HE : Hid (Sym.decode t most [] b = ([], 2)) := Lib.hid (by rw [← HDEC.out]; exact Sym.decode_none (fun h => by have := HRL.out; rw [h] at this; simp at this; omega) hcode)
            simp only [codeVal] at HT
            clear hcode HDEC hbr hown
            go_wp2_with fail
            refine HT.out.mono ?_
            rintro e w2 ⟨rfl, rfl⟩
            clear HT
            go_wp2
            go_ret2
            exact ⟨none, 0, by rw [HE.out]; rfl, by rw [HE.out]; exact own_none _ _, hbel⟩
          · rw [hcode] at HT
            have hk := Sym.code_size hcode
            rw [HRL.out] at hk
            have hs8 := Sym.code_long (fun s hs => (Hf.out.2.1 s hs).2) hcode
            have HD := Lib.hid (Sym.decode_some (most := most) (out := o) hcode)
            simp only [codeVal] at HT
            by_cases hlong : most - (o.length : Int) < (s.length : Int)
            · have HE : Hid (Sym.decode t most [] b = ([], 5)) := Lib.hid (by rw [← HDEC.out, HD.out, if_pos hlong])
              clear hcode HDEC hbr hown HD
              go_wp2_with fail
              refine HT.out.mono ?_
              rintro e w2 ⟨rfl, rfl⟩
              clear HT
              go_wp2
              go_ret2
              exact ⟨none, 0, by rw [HE.out]; rfl, by rw [HE.out]; exact own_none _ _, hbel⟩
            · have HE : Hid (Sym.decode t most (o ++ s) (rest.drop k) = Sym.decode t most [] b) := Lib.hid (by rw [← HDEC.out, HD.out, if_neg hlong])
              have hrest := hbr.cut (k := k) (cap := c1) (by rw [HRL.out]; exact hk.2) (by rw [HRL.out]; exact hc1')
              have HRL2 : Hid ((rest.drop k).length = gk - k) := Lib.hid (by rw [List.length_drop, HRL.out])
              have hsl := run_cut_from A1 gk c1 k (gk - k) (by omega)
              generalize rest.drop k = rest2 at *
              generalize cutAt A1 c1 k = A3 at *
              clear hcode HDEC hbr HD
              go_wp2_with fail
              refine HT.out.mono ?_
              rintro e w2 ⟨rfl, rfl⟩
              clear HT
              go_wp2_with fail
              go_region_held3 (fun _ => True) (trivial) (first | (refine step_append_str (by rfl) (.tmp 38) (.tmp 39) (by rfl) w.heap.size A2 o.length c2 o (by rfl) (by exact hown) s (by rfl) (by omega) (by exact hszw) ?_; intro A5 c5 w5 ho5 hg5))
              have hb5 : Below w.heap.size wr w5 := ((Below.refl _ wr).drew).grown hg5 hszw (fun q hq => (hown.lt hq).1)
              have hr5 := hrest.below hb5
              have hbel5 := hbel.trans hb5
              have Hl5 := Lib.hid (show (o ++ s).length = o.length + s.length from by simp)
              clear hg5 hb5 hrest hsl hown
              go_wp2
              go_roundg (gk - k)
              case measure => omega
              case rel => exact ⟨A3, c1 - k, rest2, A5, c5, o ++ s, rfl, HRL2.out, by omega, hr5, by rw [Hl5.out], by rw [Hl5.out]; exact ho5, HE.out, by rw [Hl5.out]; omega, by rw [Hl5.out]; omega, hbel5⟩
  · rw [Sym.formed_not.2 hf] at HF
    rw [if_neg (fun h => hf h.1)]
    replace HF := Lib.hid HF
    clear h1 hs hl hb hf
    go_enter Tryz.func61, Tryz.ntmps61
    go_wp2_with fail
    refine HF.out.mono ?_
    rintro e w' ⟨rfl, rfl⟩
    clear HF
    go_wp2
    go_ret2
    exact PairPost.none 1 (Below.refl _ _)
end Go.Proofs.YtoebeibmmclhpaaGreat

/- The document's Reader: Row. -/
namespace Go.Proofs.YtoebeibmmclhpaaGreat
open Go.RowKit
set_option maxRecDepth 100000
/-- what Row leaves -/
def RdRowPost (w : World) (g : Nat) (A : Option Addr) (n cap at_ : Nat) (R : List UInt8 × Nat × Nat) (e : Ending) (w' : World) : Prop :=
  ∃ A' c, e = .returned (.slice A' R.1.length c) ∧ Own w' w.heap.size A' R.1.length c R.1 ∧ Rd w' g A n cap (at_ + R.2.1) (R.2.2 != 0) ∧ w.grownBy w' (some g)
set_option maxHeartbeats 2000000 in
theorem row_any (g n cap at_ B : Nat) (most : Int) (A : Option Addr) (b : List UInt8) (w : World) (h : Rd w g A n cap at_ false) (hl : b.length = n) (hcap : n ≤ cap) (hm : n ≤ 140737488355328) (hat : at_ ≤ n) (hb : Bytes w B A b) (hB : B ≤ w.heap.size) (h0 : -9223372036854775808 ≤ most) (h1 : most ≤ 9223372036854775807) :
    Calls Tryz.prog 98 #[.pointer (some ⟨g, 0, none⟩), .int .i64 most] w (RdRowPost w g A n cap at_ (Num.takeRow (b.drop at_) most)) := by
  have hcut := hb.cut (k := at_) (cap := cap) (by omega) (by omega)
  have HT := fun (w' : World) (hc : Bytes w' B (cutAt A cap at_) (b.drop at_)) (hB' : B ≤ w'.heap.size) => refTakeRow_any (cutAt A cap at_) (n - at_) (cap - at_) B (b.drop at_) most w' (by rw [List.length_drop, hl]) (by omega) (by omega) hc hB' h0 h1
  have hR2 : (Num.takeRow (b.drop at_) most).2.1 ≤ n := by
    unfold Num.takeRow
    split
    · simp
    · split
      · split
        · simp
        · split
          · simp
          · rename_i h
            rw [List.length_drop, hl] at h
            simp only
            omega
      · simp
  have hsl := run_cut_from A n cap at_ (n - at_) (by omega)
  have hc0 := h.b
  have hc1 := h.at'
  have hc2 := h.bad'
  generalize Num.takeRow (b.drop at_) most = R at *
  obtain ⟨rl, rk, re⟩ := R
  unfold RowPost at HT
  unfold RdRowPost
  simp only at HT hR2 ⊢
  generalize cutAt A cap at_ = A1 at *
  replace HT := Lib.hid HT
  have hlt := h.lt
  obtain ⟨bd, hbd⟩ : ∃ bd, bd = ((re : Int) != 0) := ⟨_, rfl⟩
  have Hbd : Hid ((re != 0) = bd) := Lib.hid (by rw [hbd]; cases re <;> simp <;> omega)
  have hbd' := hbd.symm
  clear hb hl hbd
  go_enter Tryz.func98, Tryz.ntmps98
  go_wp2_with fail
  go_region_held3 (fun w' => w'.cell? ⟨g, 0, none⟩ = some (.slice A n cap) ∧ w'.cell? ⟨g, 1, none⟩ = some (.int .i64 (at_ : Int))) (first | exact ⟨hc0, hc1⟩ | exact ⟨(h.below (below_of_drew hbel)).b, (h.below (below_of_drew hbel)).at'⟩) (first | (go_at_call 35; refine (HT.out _ (by exact hcut) (by exact hB)).mono ?_; rintro e w1 ⟨A4, c4, rfl, ho4, hbel⟩))
  have hbel1 := below_of_drew hbel
  have hr1 := h.below hbel1
  have d1 := hr1.at'
  have d2 := hr1.bad'
  have d3 := hr1.f1
  have d4 := hr1.f2
  have hr2 := (hr1.setAt (at_ + rk)).setBad bd
  rw [show ((at_ + rk : Nat) : Int) = (at_ : Int) + (rk : Int) from by omega] at hr2
  have hgr : w.grownBy ((w1.setCell ⟨g, 1, none⟩ (.int .i64 ((at_ : Int) + (rk : Int)))).setCell ⟨g, 2, none⟩ (.bool bd)) (some g) := Lib.grownBy_setB (Lib.grownBy_setB (Lib.grownBy_below (World.grownBy.refl w (some g)) hbel1) 1 _) 2 _
  have ho4' : Own w1 w.heap.size A4 rl.length c4 rl := ho4
  have hne : blk A4 = none ∨ blk A4 ≠ some g := .inr (fun h => by have := (ho4'.lt h).1; omega)
  have ho5 : Own ((w1.setCell ⟨g, 1, none⟩ (.int .i64 ((at_ : Int) + (rk : Int)))).setCell ⟨g, 2, none⟩ (.bool bd)) w.heap.size A4 rl.length c4 rl := ho4'.kept (Lib.grownBy_setB (Lib.grownBy_setB (World.grownBy.refl w1 (some g)) 1 _) 2 _) hne
  have Hr2 := Lib.hid hr2
  have Hgr := Lib.hid hgr
  have Ho5 := Lib.hid ho5
  clear hr2 hgr hr1 hbel HT h hc0 hc1 hc2 hsl hcut ho4 ho4' ho5 hne
  go_wp2
  go_ret
  exact ⟨A4, c4, rfl, Ho5.out, by rw [Hbd.out]; exact Hr2.out, Hgr.out⟩
end Go.Proofs.YtoebeibmmclhpaaGreat

/- The document's TakeTable. -/
namespace Go.Proofs.YtoebeibmmclhpaaGreat
open Go.RowKit
set_option maxRecDepth 100000
theorem Rd.grown {w w' : World} {g : Nat} {A : Option Addr} {n cap at_ : Nat} {bad : Bool} {row : Option Nat} (h : Rd w g A n cap at_ bad) (hg : w.grownBy w' row) (hne : some g ≠ row) : Rd w' g A n cap at_ bad := by
  have hb := hg.block g h.lt hne
  have hc : ∀ i, w'.cell? ⟨g, i, none⟩ = w.cell? ⟨g, i, none⟩ := fun i => by unfold World.cell?; rw [hb]
  have hf : ∀ i, w'.frozen? ⟨g, i, none⟩ = w.frozen? ⟨g, i, none⟩ := fun i => by unfold World.frozen?; rw [hb]
  exact ⟨(hc 0).trans h.b, (hc 1).trans h.at', (hc 2).trans h.bad', (hf 1).trans h.f1, (hf 2).trans h.f2, Nat.lt_of_lt_of_le h.lt hg.size⟩
theorem Rd.made (w : World) (A : Option Addr) (n cap : Nat) : Rd (w.alloc (.cells #[.slice A n cap, .int .i64 0, .bool false] 115)) w.heap.size A n cap 0 false :=
  ⟨by rw [World.cell?_alloc_at _ _ _ _ rfl]; rfl, by rw [World.cell?_alloc_at _ _ _ _ rfl]; rfl, by rw [World.cell?_alloc_at _ _ _ _ rfl]; rfl, by simp, by simp, by simp⟩
theorem cell_drawn0 {w w' : World} (hd : Drawn w w') {p : Addr} {v : Value} (h : w.cell? p = some v) : w'.cell? p = some v := by
  obtain ⟨q, rfl⟩ := hd
  exact h
/-- what is known of a table that is being taken: nothing was wrong, and what is left leads to T; or T is refused -/
def Taking (b : List UInt8) (T : List (List UInt8) × Nat × Nat) (g : Nat) (t : List (List UInt8)) (at_ : Nat) (bad : Bool) : Prop :=
  (bad = false ∧ T = Sym.told (Sym.rows b g t at_) ∧ ∀ s ∈ t, s.length ≤ 8) ∨ (bad = true ∧ T = ([], 0, 2))
set_option maxHeartbeats 4000000 in
theorem refTakeTable_any (A : Option Addr) (n cap B : Nat) (b : List UInt8) (w : World) (hl : b.length = n) (hcap : n ≤ cap) (hm : n ≤ 140737488355328) (hb : Bytes w B A b) (hB : B ≤ w.heap.size) :
    Calls Tryz.prog 65 #[.slice A n cap] w (TabPost w (Sym.takeTable b)) := by
  obtain ⟨G, hG⟩ : ∃ G, G = w.heap.size := ⟨_, rfl⟩
  have hrd := Rd.made w A n cap
  have hb' : Bytes (w.alloc (.cells #[.slice A n cap, .int .i64 0, .bool false] 115)) w.heap.size A b := (hb.wide hB).below ((Below.refl _ w).alloc (Nat.le_refl _) _)
  have hbel0 : Below w.heap.size w (w.alloc (.cells #[.slice A n cap, .int .i64 0, .bool false] 115)) := (Below.refl _ w).alloc (Nat.le_refl _) _
  have HC := count_any w.heap.size n cap 0 w.heap.size 32 A b _ hrd hl hcap hm (Nat.zero_le _) hb' (by omega)
  have hv32 := Pfor.rd_le 32 b 0
  obtain ⟨R, hR⟩ : ∃ R, R = Pfor.rd 32 b 0 := ⟨_, rfl⟩
  rw [← hR] at HC hv32
  have HT0 : Hid (Taking b (Sym.takeTable b) R.1 [] R.2.1 R.2.2 ∧ R.2.1 ≤ n) := by
    rw [hR]
    unfold Pfor.rd Taking Sym.takeTable
    rw [List.drop_zero]
    rcases Num.take_cases b with ⟨v, s, ht⟩ | ⟨e, ht, he⟩
    · obtain ⟨_, _, hsn, _⟩ := Num.num_take ht
      rw [ht]
      by_cases h32 : v ≤ 32
      · simp only [h32, and_self, if_true]
        exact Lib.hid ⟨.inl ⟨trivial, by rw [Nat.zero_add], by simp⟩, by omega⟩
      · simp only [h32, and_false, if_false]
        exact Lib.hid ⟨.inr ⟨trivial, trivial⟩, by omega⟩
    · rw [ht]
      have : ¬ (e = 0 ∧ (0 : Nat) ≤ 32) := by omega
      simp only [this, if_false]
      exact Lib.hid ⟨.inr ⟨trivial, trivial⟩, by omega⟩
  obtain ⟨v, s0, bd0⟩ := R
  simp only at HC hv32 HT0
  obtain ⟨w0, hw0⟩ : ∃ w0, w0 = w.alloc (.cells #[.slice A n cap, .int .i64 0, .bool false] 115) := ⟨_, rfl⟩
  have hsz0 : w.heap.size + 1 ≤ w0.heap.size := by rw [hw0]; simp
  rw [← hw0] at HC hb' hbel0
  rw [← hG] at HC hb' hbel0 hsz0
  rw [show ((32 : Nat) : Int) = 32 from rfl] at HC
  replace HC := Lib.hid HC
  have Hw0 := Lib.hid hw0
  have HG := Lib.hid hG
  have Hl := Lib.hid hl
  generalize Sym.takeTable b = T at *
  clear hR hb hl hw0 hrd hG
  go_enter Tryz.func65, Tryz.ntmps65
  go_wp2_with fail
  rw [← Hw0.out, ← HG.out]
  refine HC.out.mono ?_
  rintro e w1 ⟨rfl, hrd1, hg1⟩
  clear HC
  have hbel1 : Below G w w1 := hbel0.grown hg1 (by omega) (fun k hk => by cases hk; exact Nat.le_refl _)
  have hb1 : Bytes w1 G A b := hb'.below ((Below.refl G w0).grown hg1 (by omega) (fun k hk => by cases hk; exact Nat.le_refl _))
  have hsz1 : G + 1 ≤ w1.heap.size := Nat.le_trans hsz0 hg1.size
  obtain ⟨htk0, hs0n⟩ := HT0.out
  have Htk0 := Lib.hid htk0
  clear hb' hbel0 hg1 HT0 htk0 Hw0
  go_wp2
  go_loopg [6, 7] v (fun g tv nv wx => ∃ (at_ : Nat) (bd : Bool) (A2 : Option Addr) (c2 : Nat) (t : List (List UInt8)), nv = .int .i64 (g : Int) ∧ at_ ≤ n ∧ tv = .slice A2 t.length c2 ∧ SOwn wx (G + 1) A2 t.length c2 t ∧ t.length + g ≤ 32 ∧ Taking b T g t at_ bd ∧ Rd wx G A n cap at_ bd ∧ Bytes wx G A b ∧ Below G w wx ∧ G + 1 ≤ wx.heap.size)
  case atStart => exact ⟨s0, bd0, none, 0, [], rfl, hs0n, rfl, sown_none _ _, by simpa using hv32, Htk0.out, hrd1, hb1, hbel1, hsz1⟩
  case round =>
    clear hrd1 hb1 hbel1 hsz1 Htk0
    obtain ⟨at_, bd, A2, c2, t, rfl, hat, rfl, hown, htl, htk, hrd, hbr, hbel, hszr⟩ := hrel
    have Htk := Lib.hid htk; clear htk
    have d0 := hrd.b
    have d1 := hrd.at'
    have d2 := hrd.bad'
    have HB : Hid (Below w.heap.size w wr) := Lib.hid (by rw [← HG.out]; exact hbel)
    have HO : Hid (SOwn wr w.heap.size A2 t.length c2 t) := Lib.hid (hown.low (by rw [← HG.out]; omega))
    cases bd
    · -- nothing was wrong
      by_cases hg0 : gk = 0
      · have hgp : ¬ ((0 : Int) < (gk : Int)) := by omega
        obtain ⟨hT, h8⟩ : T = Sym.told (some (t, at_)) ∧ ∀ s ∈ t, s.length ≤ 8 := by
          rcases Htk.out with ⟨_, hT, h8⟩ | ⟨h, _⟩
          · rw [hg0] at hT; exact ⟨hT, h8⟩
          · cases h
        have HF := refFormed_any A2 t.length c2 wr.heap.size t wr rfl (by omega) hown.row (fun s hs => by have := h8 s hs; unfold maxLen; omega)
        by_cases hf : Sym.Formed t
        · rw [Sym.formed_iff.2 hf] at HF
          rw [Sym.told, if_pos hf] at hT
          have HT := Lib.hid hT
          replace HF := Lib.hid HF
          clear hf hT h8 hown hrd hbr hbel Htk
          go_wp2_with fail
          refine HF.out.mono ?_
          rintro e w2 ⟨rfl, hd2⟩
          clear HF
          have e1 := cell_drawn0 hd2 d1
          have e2 := cell_drawn0 hd2 d2
          have HB2 : Hid (Below w.heap.size w w2) := Lib.hid (HB.out.trans (hd2.below _))
          have HO2 : Hid (SOwn w2 w.heap.size A2 t.length c2 t) := Lib.hid (by obtain ⟨q, rfl⟩ := hd2; exact HO.out)
          clear hd2 HB HO
          go_wp2_with fail
          go_quiet (fail)
          go_wp2
          go_ret3
          rw [HT.out]
          exact ⟨A2, c2, rfl, HO2.out, below_drewN HB2.out _⟩
        · rw [Sym.formed_not.2 hf] at HF
          rw [Sym.told, if_neg hf] at hT
          have HT := Lib.hid hT
          replace HF := Lib.hid HF
          clear hf hT h8 hown hrd hbr hbel Htk
          go_wp2_with fail
          refine HF.out.mono ?_
          rintro e w2 ⟨rfl, hd2⟩
          clear HF
          have HB2 : Hid (Below w.heap.size w w2) := Lib.hid (HB.out.trans (hd2.below _))
          clear hd2 HB HO
          go_wp2
          go_ret3
          rw [HT.out]
          exact TabPost.none 2 HB2.out
      · have hgp : (0 : Int) < (gk : Int) := by omega
        have HRow := row_any G n cap at_ G 8 A b wr hrd Hl.out hcap hm hat hbr (by omega) (by omega) (by omega)
        obtain ⟨y, q, e0, hy, hy8, hq, HTK⟩ : ∃ y q e0, Num.takeRow (b.drop at_) 8 = (y, q, e0) ∧ y.length ≤ 8 ∧ at_ + q ≤ n ∧ Hid (Taking b T (gk - 1) (t ++ [y]) (at_ + q) (e0 != 0)) := by
          obtain ⟨hT, h8⟩ : T = Sym.told (Sym.rows b gk t at_) ∧ ∀ s ∈ t, s.length ≤ 8 := by
            rcases Htk.out with ⟨_, hT, h8⟩ | ⟨h, _⟩
            · exact ⟨hT, h8⟩
            · cases h
          rw [show gk = (gk - 1) + 1 from by omega, Sym.rows] at hT
          rcases Sym.takeRow_cases (b.drop at_) with ⟨y, q, hy, hy8, hq1, hq⟩ | ⟨e, hy, he0, he5⟩
          · rw [List.length_drop, Hl.out] at hq
            rw [hy, if_pos rfl] at hT
            refine ⟨y, q, 0, hy, hy8, by omega, Lib.hid (.inl ⟨rfl, hT, fun z hz => ?_⟩)⟩
            rcases List.mem_append.1 hz with h | h
            · exact h8 z h
            · rw [List.mem_singleton.1 h]; exact hy8
          · rw [hy, if_neg he0] at hT
            exact ⟨[], 0, e, hy, by simp, by omega, Lib.hid (.inr ⟨by simpa using he0, hT⟩)⟩
        rw [hy] at HRow
        unfold RdRowPost at HRow
        simp only at HRow
        replace HRow := Lib.hid HRow
        generalize (e0 != 0) = bd2 at *
        clear hy hrd Htk HB HO d0 d1
        go_wp2_with fail
        refine HRow.out.mono ?_
        rintro e w2 ⟨A4, c4, rfl, ho4, hrd2, hg2⟩
        clear HRow
        have hcv := run_string_of ho4.bytes c4
        have hbel2 : Below G w w2 := hbel.grown hg2 (by omega) (fun k hk => by cases hk; exact Nat.le_refl _)
        have hbr2 : Bytes w2 G A b := hbr.below ((Below.refl G wr).grown hg2 (by omega) (fun k hk => by cases hk; exact Nat.le_refl _))
        have hown2 : SOwn w2 (G + 1) A2 t.length c2 t := hown.kept hg2 (.inr (fun h => by have := (hown.lt h).1; omega))
        have hsz2 : G + 1 ≤ w2.heap.size := Nat.le_trans hszr hg2.size
        have hone := (own_str w2 y).row
        have hoa := hown2.alloc (.cells #[.string ⟨y.toArray⟩] 9)
        have hba : Below G w (w2.alloc (.cells #[.string ⟨y.toArray⟩] 9)) := hbel2.alloc (by omega) _
        have hbb : Bytes (w2.alloc (.cells #[.string ⟨y.toArray⟩] 9)) G A b := hbr2.below ((Below.refl G w2).alloc (by omega) _)
        have hra : Rd (w2.alloc (.cells #[.string ⟨y.toArray⟩] 9)) G A n cap (at_ + q) bd2 := hrd2.below ((Below.refl _ w2).alloc (Nat.le_refl _) _)
        have hsza : G + 1 ≤ (w2.alloc (.cells #[.string ⟨y.toArray⟩] 9)).heap.size := by simp; omega
        clear ho4 hown hown2 hbel2 hrd2 hbr hbr2 hg2 hbel
        go_wp2_with (at_builtin; refine wpList_append_row elemStr rfl (.tmp 24) (.tmp 28) rfl (G + 1) A2 t.length c2 t rfl hoa _ _ 1 1 [y] rfl rfl hone (by omega) (by simp only [maxLen]; omega) hsza ?_; intro A5 c5 w5 ho5 hg5 hat5)
        have hfar : some G ≠ blk A2 := fun h => by have := (hoa.lt h.symm).1; omega
        have hbel5 : Below G w w5 := hba.grown hg5 (by omega) (fun k hk => Nat.le_of_succ_le (hoa.lt hk).1)
        have hbr5 : Bytes w5 G A b := hbb.below ((Below.refl G _).grown hg5 (by omega) (fun k hk => Nat.le_of_succ_le (hoa.lt hk).1))
        have hrd5 := hra.grown hg5 hfar
        have hsz5 : G + 1 ≤ w5.heap.size := Nat.le_trans hsza hg5.size
        have Hl5 := Lib.hid (show (t ++ [y]).length = t.length + 1 from by simp)
        clear hg5 hat5 hoa hone hba hbb hra hcv hfar
        go_roundg (gk - 1)
        case measure => omega
        case rel => exact ⟨at_ + q, bd2, A5, c5, t ++ [y], congrArg (Value.int IntKind.i64) (by omega), hq, by rw [Hl5.out], by rw [Hl5.out]; exact ho5, by rw [Hl5.out]; omega, HTK.out, hrd5, hbr5, hbel5, hsz5⟩
    · have HT : Hid (T = ([], 0, 2)) := by
        rcases Htk.out with ⟨h, _⟩ | ⟨_, h⟩
        · cases h
        · exact Lib.hid h
      clear hown hrd hbr hbel Htk d0 d1 HO
      by_cases hg0 : gk = 0
      · have hgp : ¬ ((0 : Int) < (gk : Int)) := by omega
        go_wp2
        go_ret3
        rw [HT.out]
        exact TabPost.none 2 HB.out
      · have hgp : (0 : Int) < (gk : Int) := by omega
        go_wp2
        go_ret3
        rw [HT.out]
        exact TabPost.none 2 HB.out
end Go.Proofs.YtoebeibmmclhpaaGreat
