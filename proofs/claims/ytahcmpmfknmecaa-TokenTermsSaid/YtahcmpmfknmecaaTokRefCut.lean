/- The document's Cut. -/
import Derived.Test.YtahcmpmfknmecaaTokCut
import Derived.Deep.LoopGhost
namespace Go.Proofs.Ytahcmpmfknmecaa
open Go.RowKit
set_option maxRecDepth 100000

theorem Tok.rest_past {l : List UInt8} {i : Nat} (h : l.length ≤ i) : Tok.rest [] (l.drop i) = [] := by rw [List.drop_eq_nil_of_le h]; rfl
/-- a run's end, and the byte behind it -/
theorem Tok.step_run {l : List UInt8} {s j : Nat} (hs : s < j) (hj : j ≤ l.length) (h : ∀ h : j < l.length, Tok.inB l[j] = false) : Tok.rest (Tok.piece l s j) (l.drop j) = Tok.term (Tok.piece l s j) :: Tok.rest [] (l.drop (j + 1)) := by
  rcases Nat.lt_or_ge j l.length with hlt | hge
  · rw [Tok.step_stop hs hlt (h hlt), Tok.step_out hlt (h hlt)]
  · obtain rfl : j = l.length := by omega
    rw [Tok.step_end hs, Tok.at_end, Tok.rest_past (by omega)]

set_option maxHeartbeats 4000000 in
theorem refCut_any (A : Option Addr) (n cap B : Nat) (l : List UInt8) (w : World) (hl : l.length = n) (hcap : n ≤ cap) (hn : n ≤ 10000000) (hb : Bytes w B A l) (hB : B ≤ w.heap.size) :
    Calls Try.prog 13 #[.slice A n cap] w (CutPost w (Tok.cuts l)) := by
  generalize hR : Tok.cuts l = R
  have HR := Lib.hid hR; clear hR
  have Hl := Lib.hid hl; clear hl
  have hb := hb.wide hB
  obtain ⟨M, hM⟩ : ∃ M, M = w.heap.size := ⟨_, rfl⟩
  rw [← hM] at hb
  have HM := Lib.hid hM
  clear hM
  go_enter Try.func13, Try.ntmps13
  go_wp2
  go_loopg [3, 4] (n + 1) (fun g lv iv wx => ∃ (i : Nat) (A2 : Option Addr) (c2 : Nat) (ts : List (List UInt8)), i + g = n + 1 ∧ iv = .int .i64 (i : Int) ∧ lv = .slice A2 ts.length c2 ∧ TOwn wx M A2 ts.length c2 ts ∧ ts ++ Tok.rest [] (l.drop i) = R ∧ ts.length ≤ i ∧ Below M w wx ∧ M ≤ wx.heap.size)
  case atStart => exact ⟨0, none, 0, [], by omega, rfl, rfl, TOwn.nil _ _, HR.out, Nat.le_refl _, Below.refl _ _, by rw [HM.out]; exact Nat.le_refl _⟩
  case round =>
    obtain ⟨i, A2, c2, ts, hig, rfl, rfl, ho, hR, hts, hbel, hsz⟩ := hrel
    by_cases hlt : i < n
    · have hin : i < l.length := by have := Hl.out; omega
      have i1 : (i : Int) < (n : Int) := by omega
      have i0 : (0 : Int) ≤ (i : Int) := by omega
      have hbw := hb.below hbel
      obtain ⟨ad, rfl, _, hcell⟩ := hbw.get hin
      have H1 := Lib.hid fun W => refIn_any l[i] W
      have Hout := Lib.hid (Tok.step_out hin)
      have Hin := Lib.hid (fun h => (⟨hin, h⟩ : ∃ h : i < l.length, Tok.inB l[i] = true))
      rcases hx : Tok.inB l[i] with _ | _
      · have hR2 := hR
        rw [Hout.out hx] at hR2
        have HR2 := Lib.hid hR2
        rw [hx] at H1
        clear hx hR hR2 Hin Hout
        generalize l[i] = x at *
        go_wp2_with fail
        refine (H1.out _).mono ?_
        rintro e w2 ⟨rfl, rfl⟩
        go_wp2
        go_roundg (n + 1 - (i + 1))
        case measure => omega
        case rel => exact ⟨i + 1, A2, c2, ts, by omega, by go_num, rfl, ho, HR2.out, by omega, hbel, hsz⟩
      · have hR2 := hR
        rw [← Tok.piece_self l i] at hR2
        have HR2 := Lib.hid hR2
        have Hin2 := Lib.hid (Hin.out hx)
        rw [hx] at H1
        clear hx hR hR2 Hin Hout
        generalize l[i] = x at *
        go_wp2_with fail
        refine (H1.out _).mono ?_
        rintro e w2 ⟨rfl, rfl⟩
        clear hcell H1
        obtain ⟨G, rfl⟩ : ∃ G, G = gk := ⟨_, rfl⟩
        obtain ⟨wx, rfl⟩ : ∃ wx, wx = wr := ⟨_, rfl⟩
        go_wp2
        go_loopg [4] (n - i) (fun g2 jv wz => ∃ j : Nat, j + g2 = n ∧ i ≤ j ∧ jv = .int .i64 (j : Int) ∧ (i = j → ∃ h : j < l.length, Tok.inB l[j] = true) ∧ ts ++ Tok.rest (Tok.piece l i j) (l.drop j) = R ∧ wz = wx)
        case atStart => exact ⟨i, by omega, Nat.le_refl _, rfl, fun _ => Hin2.out, HR2.out, rfl⟩
        case round =>
          clear HR2 Hin2
          obtain ⟨j, hjg, hij, rfl, hjin, hR, rfl⟩ := hrel
          by_cases hjn : j < n
          · have hjl : j < l.length := by have := Hl.out; omega
            have j1 : (j : Int) < (n : Int) := by omega
            have j0 : (0 : Int) ≤ (j : Int) := by omega
            obtain ⟨ad2, hA2, _, hcell⟩ := hbw.get hjl
            cases hA2
            have H1 := Lib.hid fun W => refIn_any l[j] W
            have Hstep := Lib.hid (Tok.step_in hij hjl)
            have Hstop := Lib.hid fun h => Tok.step_run (l := l) (s := i) (j := j) h (by omega)
            rcases hx : Tok.inB l[j] with _ | _
            · have hlt' : i < j := by
                rcases Nat.lt_or_ge i j with h | h
                · exact h
                · obtain ⟨h', h''⟩ := hjin (by omega)
                  rw [h''] at hx
                  cases hx
              have hR2 := hR
              rw [Hstop.out hlt' (fun _ => hx), List.append_cons] at hR2
              have HR2 := Lib.hid hR2
              have hjn' : j ≤ n := by omega
              rw [hx] at H1
              clear hx hR hR2 hjin Hstep Hstop
              generalize l[j] = y at *
              have hcut := run_cut_lh (some ad) n cap i j hij (by omega)
              have hpl := Tok.piece_length (l := l) hij (by rw [Hl.out]; exact hjn')
              have hbp : Bytes wr M (cutAt (some ad) cap i) (Tok.piece l i j) := (hbw.cut (k := i) (cap := cap) (by rw [Hl.out]; omega) (by rw [Hl.out]; exact hcap)).take (j - i)
              have HT := Lib.hid (show Tok.term (Tok.piece l i j) = if j - i ≤ 64 then Tok.lower (Tok.piece l i j) else [] from by unfold Tok.term; rw [hpl])
              have hne : blk A2 = none ∨ blk A2 ≠ some wr.heap.size := by
                rcases hb2 : blk A2 with _ | q
                · exact .inl rfl
                · refine .inr fun e => ?_
                  cases e
                  exact absurd (ho.lt hb2).2 (Nat.lt_irrefl _)
              have ho1 := ho.alloc (.cells #[.int .i64 (ts.length : Int), .string ⟨#[]⟩] 36)
              have hbel1 : Below M w (wr.alloc (.cells #[.int .i64 (ts.length : Int), .string ⟨#[]⟩] 36)) := hbel.alloc hsz _
              have hca1 : (wr.alloc (.cells #[.int .i64 (ts.length : Int), .string ⟨#[]⟩] 36)).cell? ⟨wr.heap.size, 0, none⟩ = some (.int .i64 (ts.length : Int)) := by rw [World.cell?_alloc_at _ _ _ _ rfl]; rfl
              have hcb1 : (wr.alloc (.cells #[.int .i64 (ts.length : Int), .string ⟨#[]⟩] 36)).cell? ⟨wr.heap.size, 1, none⟩ = some (.string ⟨#[]⟩) := by rw [World.cell?_alloc_at _ _ _ _ rfl]; rfl
              have hbp1 : Bytes (wr.alloc (.cells #[.int .i64 (ts.length : Int), .string ⟨#[]⟩] 36)) M (cutAt (some ad) cap i) (Tok.piece l i j) := hbp.below ((Below.refl _ _).alloc hsz _)
              have hsz1 : (wr.alloc (.cells #[.int .i64 (ts.length : Int), .string ⟨#[]⟩] 36)).heap.size = wr.heap.size + 1 := by simp
              have hfr1 : (wr.alloc (.cells #[.int .i64 (ts.length : Int), .string ⟨#[]⟩] 36)).frozen? ⟨wr.heap.size, 1, none⟩ = false := by
                have : (wr.alloc (.cells #[.int .i64 (ts.length : Int), .string ⟨#[]⟩] 36)).heap[wr.heap.size]? = some (.cells #[.int .i64 (ts.length : Int), .string ⟨#[]⟩] 36) := by
                  show (wr.heap.push _)[wr.heap.size]? = _
                  simp
                simp only [World.frozen?, this]
                simp
              by_cases h64 : j - i ≤ 64
              · have h64' : (j : Int) - (i : Int) ≤ 64 := by omega
                have hT := HT.out
                rw [if_pos h64] at hT
                rw [hT] at HR2
                have hcv := run_string_of hbp1 (cap - i)
                rw [hpl] at hcv
                have C := Lib.hid (refLower_any (Tok.piece l i j) (wr.alloc (.cells #[.int .i64 (ts.length : Int), .string ⟨#[]⟩] 36)) (by omega))
                clear HT hT hbp hbp1 hpl
                generalize Tok.lower (Tok.piece l i j) = T at *
                generalize Tok.piece l i j = P at *
                go_wp2_with fail
                refine (H1.out _).mono ?_
                rintro e w2 ⟨rfl, rfl⟩
                go_wp2_with fail
                refine C.out.mono ?_
                rintro e w3 ⟨rfl, hbel3⟩
                rw [hsz1] at hbel3
                have hcA : w3.cell? ⟨wr.heap.size, 0, none⟩ = some (.int .i64 (ts.length : Int)) := (hbel3.cell (Nat.lt_succ_self _)).trans hca1
                have hcB : w3.cell? ⟨wr.heap.size, 1, none⟩ = some (.string ⟨#[]⟩) := (hbel3.cell (Nat.lt_succ_self _)).trans hcb1
                have hfr : w3.frozen? ⟨wr.heap.size, 1, none⟩ = false := by
                  have := hbel3.block wr.heap.size (Nat.lt_succ_self _)
                  unfold World.frozen? at hfr1 ⊢
                  rw [this]
                  exact hfr1
                have hcA2 : (w3.setCell ⟨wr.heap.size, 1, none⟩ (.string ⟨T.toArray⟩)).cell? ⟨wr.heap.size, 0, none⟩ = some (.int .i64 (ts.length : Int)) := by rw [World.cell?_setCell_other _ _ _ _ (by simp)]; exact hcA
                have hcB2 : (w3.setCell ⟨wr.heap.size, 1, none⟩ (.string ⟨T.toArray⟩)).cell? ⟨wr.heap.size, 1, none⟩ = some (.string ⟨T.toArray⟩) := World.cell?_setCell_same _ _ _ hcB
                have hb31 : Below (wr.alloc (.cells #[.int .i64 (ts.length : Int), .string ⟨#[]⟩] 36)).heap.size (wr.alloc (.cells #[.int .i64 (ts.length : Int), .string ⟨#[]⟩] 36)) w3 := by rw [hsz1]; exact hbel3
                have ho4 : TOwn (w3.setCell ⟨wr.heap.size, 1, none⟩ (.string ⟨T.toArray⟩)) M A2 ts.length c2 ts := (ho1.below hb31).kept (row := some wr.heap.size) (Lib.grownBy_setB (World.grownBy.refl w3 (some wr.heap.size)) 1 _) hne
                have hs3 : M ≤ w3.heap.size := by have := hbel3.size; rw [hsz1] at this; omega
                have hbel4 : Below M w (w3.setCell ⟨wr.heap.size, 1, none⟩ (.string ⟨T.toArray⟩)) := (hbel1.trans (hbel3.mono (by omega))).grown (row := some wr.heap.size) (Lib.grownBy_setB (World.grownBy.refl w3 (some wr.heap.size)) 1 _) hs3 (fun z hz => by cases hz; exact hsz)
                have hs4 : M ≤ (w3.setCell ⟨wr.heap.size, 1, none⟩ (.string ⟨T.toArray⟩)).heap.size := by simpa using hs3
                clear C hb31 hbel3 hs3 hcv hcut hca1 hcb1 hfr1 hsz1 ho1 hbel1
                generalize hw4 : w3.setCell ⟨wr.heap.size, 1, none⟩ (.string ⟨T.toArray⟩) = w4 at *
                have hc1 : (w4.alloc (.cells #[.int .i64 (ts.length : Int), .string ⟨T.toArray⟩] 36)).cell? ⟨w4.heap.size, 0, none⟩ = some (.int .i64 (ts.length : Int)) := by rw [World.cell?_alloc_at _ _ _ _ rfl]; rfl
                have hc2 : (w4.alloc (.cells #[.int .i64 (ts.length : Int), .string ⟨T.toArray⟩] 36)).cell? ⟨w4.heap.size, 1, none⟩ = some (.string ⟨T.toArray⟩) := by rw [World.cell?_alloc_at _ _ _ _ rfl]; rfl
                have hoa := ho4.alloc (.cells #[.int .i64 (ts.length : Int), .string ⟨T.toArray⟩] 36)
                have hba : Below M w (w4.alloc (.cells #[.int .i64 (ts.length : Int), .string ⟨T.toArray⟩] 36)) := hbel4.alloc hs4 _
                have hsza : M ≤ (w4.alloc (.cells #[.int .i64 (ts.length : Int), .string ⟨T.toArray⟩] 36)).heap.size := Nat.le_trans hs4 (by simp)
                go_wp2_with (at_builtin; refine wpList_append_token rfl (.tmp 47) (.tmp 49) rfl M A2 ts.length c2 ts rfl hoa w4.heap.size T rfl hc1 hc2 (by omega) hsza ?_; intro A6 c6 w6 ho6 hg6)
                have hbel6 : Below M w w6 := hba.grown hg6 hsza (fun z hz => (hoa.lt hz).1)
                have hsz6 : M ≤ w6.heap.size := Nat.le_trans hsza hg6.size
                have Hl6 := Lib.hid (show (ts ++ [T]).length = ts.length + 1 from by simp)
                clear hg6 hoa hba hc1 hc2
                go_roundg (n + 1 - (j + 1))
                case measure => omega
                case rel => exact ⟨j + 1, A6, c6, ts ++ [T], by omega, by go_num, by rw [Hl6.out], by rw [Hl6.out]; exact ho6, HR2.out, by rw [Hl6.out]; omega, hbel6, hsz6⟩
              · have h64' : ¬ (j : Int) - (i : Int) ≤ 64 := by omega
                have hT := HT.out
                rw [if_neg h64] at hT
                rw [hT] at HR2
                have hs1 : M ≤ (wr.alloc (.cells #[.int .i64 (ts.length : Int), .string ⟨#[]⟩] 36)).heap.size := by omega
                clear HT hT hbp hbp1 hpl hfr1 hcut
                have hoa := ho1.alloc (.cells #[.int .i64 (ts.length : Int), .string ⟨#[]⟩] 36)
                have hba := hbel1.alloc hs1 (.cells #[.int .i64 (ts.length : Int), .string ⟨#[]⟩] 36)
                have hc1 : ((wr.alloc (.cells #[.int .i64 (ts.length : Int), .string ⟨#[]⟩] 36)).alloc (.cells #[.int .i64 (ts.length : Int), .string ⟨#[]⟩] 36)).cell? ⟨(wr.alloc (.cells #[.int .i64 (ts.length : Int), .string ⟨#[]⟩] 36)).heap.size, 0, none⟩ = some (.int .i64 (ts.length : Int)) := by rw [World.cell?_alloc_at _ _ _ _ rfl]; rfl
                have hc2 : ((wr.alloc (.cells #[.int .i64 (ts.length : Int), .string ⟨#[]⟩] 36)).alloc (.cells #[.int .i64 (ts.length : Int), .string ⟨#[]⟩] 36)).cell? ⟨(wr.alloc (.cells #[.int .i64 (ts.length : Int), .string ⟨#[]⟩] 36)).heap.size, 1, none⟩ = some (.string ⟨#[]⟩) := by rw [World.cell?_alloc_at _ _ _ _ rfl]; rfl
                have hsza : M ≤ ((wr.alloc (.cells #[.int .i64 (ts.length : Int), .string ⟨#[]⟩] 36)).alloc (.cells #[.int .i64 (ts.length : Int), .string ⟨#[]⟩] 36)).heap.size := Nat.le_trans hs1 (by simp)
                rw [hsz1] at hc1 hc2
                go_wp2_with fail
                refine (H1.out _).mono ?_
                rintro e w2 ⟨rfl, rfl⟩
                go_wp2_with (at_builtin; refine wpList_append_token rfl (.tmp 47) (.tmp 49) rfl M A2 ts.length c2 ts rfl hoa (wr.heap.size + 1) [] rfl hc1 hc2 (by omega) hsza ?_; intro A6 c6 w6 ho6 hg6)
                have hbel6 : Below M w w6 := hba.grown hg6 hsza (fun z hz => (hoa.lt hz).1)
                have hsz6 : M ≤ w6.heap.size := Nat.le_trans hsza hg6.size
                have Hl6 := Lib.hid (show (ts ++ [[]]).length = ts.length + 1 from by simp)
                clear hg6 hoa hba hc1 hc2
                go_roundg (n + 1 - (j + 1))
                case measure => omega
                case rel => exact ⟨j + 1, A6, c6, ts ++ [[]], by omega, by go_num, by rw [Hl6.out], by rw [Hl6.out]; exact ho6, HR2.out, by rw [Hl6.out]; omega, hbel6, hsz6⟩
            · have hR2 := hR
              rw [Hstep.out hx] at hR2
              have HR2 := Lib.hid hR2
              rw [hx] at H1
              clear hx hR hR2 Hstep Hstop hjin
              generalize l[j] = y at *
              go_wp2_with fail
              refine (H1.out _).mono ?_
              rintro e w2 ⟨rfl, rfl⟩
              go_wp2
              go_roundg (n - (j + 1))
              case measure => omega
              case rel => exact ⟨j + 1, by omega, by omega, by go_num, fun h => absurd h (by omega), HR2.out, rfl⟩
          · have hj : j = n := by omega
            have hlt' : i < j := by omega
            have hR2 := hR
            rw [Tok.step_run hlt' (by have := Hl.out; omega) (fun h => absurd h (by have := Hl.out; omega)), List.append_cons] at hR2
            have HR2 := Lib.hid hR2
            have j1 : ¬ (j : Int) < (n : Int) := by omega
            have hjn' : j ≤ n := by omega
            clear hR hR2 hjin hj
            have hcut := run_cut_lh (some ad) n cap i j hij (by omega)
            have hpl := Tok.piece_length (l := l) hij (by rw [Hl.out]; exact hjn')
            have hbp : Bytes wr M (cutAt (some ad) cap i) (Tok.piece l i j) := (hbw.cut (k := i) (cap := cap) (by rw [Hl.out]; omega) (by rw [Hl.out]; exact hcap)).take (j - i)
            have HT := Lib.hid (show Tok.term (Tok.piece l i j) = if j - i ≤ 64 then Tok.lower (Tok.piece l i j) else [] from by unfold Tok.term; rw [hpl])
            have hne : blk A2 = none ∨ blk A2 ≠ some wr.heap.size := by
              rcases hb2 : blk A2 with _ | q
              · exact .inl rfl
              · refine .inr fun e => ?_
                cases e
                exact absurd (ho.lt hb2).2 (Nat.lt_irrefl _)
            have ho1 := ho.alloc (.cells #[.int .i64 (ts.length : Int), .string ⟨#[]⟩] 36)
            have hbel1 : Below M w (wr.alloc (.cells #[.int .i64 (ts.length : Int), .string ⟨#[]⟩] 36)) := hbel.alloc hsz _
            have hca1 : (wr.alloc (.cells #[.int .i64 (ts.length : Int), .string ⟨#[]⟩] 36)).cell? ⟨wr.heap.size, 0, none⟩ = some (.int .i64 (ts.length : Int)) := by rw [World.cell?_alloc_at _ _ _ _ rfl]; rfl
            have hcb1 : (wr.alloc (.cells #[.int .i64 (ts.length : Int), .string ⟨#[]⟩] 36)).cell? ⟨wr.heap.size, 1, none⟩ = some (.string ⟨#[]⟩) := by rw [World.cell?_alloc_at _ _ _ _ rfl]; rfl
            have hbp1 : Bytes (wr.alloc (.cells #[.int .i64 (ts.length : Int), .string ⟨#[]⟩] 36)) M (cutAt (some ad) cap i) (Tok.piece l i j) := hbp.below ((Below.refl _ _).alloc hsz _)
            have hsz1 : (wr.alloc (.cells #[.int .i64 (ts.length : Int), .string ⟨#[]⟩] 36)).heap.size = wr.heap.size + 1 := by simp
            have hfr1 : (wr.alloc (.cells #[.int .i64 (ts.length : Int), .string ⟨#[]⟩] 36)).frozen? ⟨wr.heap.size, 1, none⟩ = false := by
              have : (wr.alloc (.cells #[.int .i64 (ts.length : Int), .string ⟨#[]⟩] 36)).heap[wr.heap.size]? = some (.cells #[.int .i64 (ts.length : Int), .string ⟨#[]⟩] 36) := by
                show (wr.heap.push _)[wr.heap.size]? = _
                simp
              simp only [World.frozen?, this]
              simp
            by_cases h64 : j - i ≤ 64
            · have h64' : (j : Int) - (i : Int) ≤ 64 := by omega
              have hT := HT.out
              rw [if_pos h64] at hT
              rw [hT] at HR2
              have hcv := run_string_of hbp1 (cap - i)
              rw [hpl] at hcv
              have C := Lib.hid (refLower_any (Tok.piece l i j) (wr.alloc (.cells #[.int .i64 (ts.length : Int), .string ⟨#[]⟩] 36)) (by omega))
              clear HT hT hbp hbp1 hpl
              generalize Tok.lower (Tok.piece l i j) = T at *
              generalize Tok.piece l i j = P at *
              go_wp2_with fail
              refine C.out.mono ?_
              rintro e w3 ⟨rfl, hbel3⟩
              rw [hsz1] at hbel3
              have hcA : w3.cell? ⟨wr.heap.size, 0, none⟩ = some (.int .i64 (ts.length : Int)) := (hbel3.cell (Nat.lt_succ_self _)).trans hca1
              have hcB : w3.cell? ⟨wr.heap.size, 1, none⟩ = some (.string ⟨#[]⟩) := (hbel3.cell (Nat.lt_succ_self _)).trans hcb1
              have hfr : w3.frozen? ⟨wr.heap.size, 1, none⟩ = false := by
                have := hbel3.block wr.heap.size (Nat.lt_succ_self _)
                unfold World.frozen? at hfr1 ⊢
                rw [this]
                exact hfr1
              have hcA2 : (w3.setCell ⟨wr.heap.size, 1, none⟩ (.string ⟨T.toArray⟩)).cell? ⟨wr.heap.size, 0, none⟩ = some (.int .i64 (ts.length : Int)) := by rw [World.cell?_setCell_other _ _ _ _ (by simp)]; exact hcA
              have hcB2 : (w3.setCell ⟨wr.heap.size, 1, none⟩ (.string ⟨T.toArray⟩)).cell? ⟨wr.heap.size, 1, none⟩ = some (.string ⟨T.toArray⟩) := World.cell?_setCell_same _ _ _ hcB
              have hb31 : Below (wr.alloc (.cells #[.int .i64 (ts.length : Int), .string ⟨#[]⟩] 36)).heap.size (wr.alloc (.cells #[.int .i64 (ts.length : Int), .string ⟨#[]⟩] 36)) w3 := by rw [hsz1]; exact hbel3
              have ho4 : TOwn (w3.setCell ⟨wr.heap.size, 1, none⟩ (.string ⟨T.toArray⟩)) M A2 ts.length c2 ts := (ho1.below hb31).kept (row := some wr.heap.size) (Lib.grownBy_setB (World.grownBy.refl w3 (some wr.heap.size)) 1 _) hne
              have hs3 : M ≤ w3.heap.size := by have := hbel3.size; rw [hsz1] at this; omega
              have hbel4 : Below M w (w3.setCell ⟨wr.heap.size, 1, none⟩ (.string ⟨T.toArray⟩)) := (hbel1.trans (hbel3.mono (by omega))).grown (row := some wr.heap.size) (Lib.grownBy_setB (World.grownBy.refl w3 (some wr.heap.size)) 1 _) hs3 (fun z hz => by cases hz; exact hsz)
              have hs4 : M ≤ (w3.setCell ⟨wr.heap.size, 1, none⟩ (.string ⟨T.toArray⟩)).heap.size := by simpa using hs3
              clear C hb31 hbel3 hs3 hcv hcut hca1 hcb1 hfr1 hsz1 ho1 hbel1
              generalize hw4 : w3.setCell ⟨wr.heap.size, 1, none⟩ (.string ⟨T.toArray⟩) = w4 at *
              have hc1 : (w4.alloc (.cells #[.int .i64 (ts.length : Int), .string ⟨T.toArray⟩] 36)).cell? ⟨w4.heap.size, 0, none⟩ = some (.int .i64 (ts.length : Int)) := by rw [World.cell?_alloc_at _ _ _ _ rfl]; rfl
              have hc2 : (w4.alloc (.cells #[.int .i64 (ts.length : Int), .string ⟨T.toArray⟩] 36)).cell? ⟨w4.heap.size, 1, none⟩ = some (.string ⟨T.toArray⟩) := by rw [World.cell?_alloc_at _ _ _ _ rfl]; rfl
              have hoa := ho4.alloc (.cells #[.int .i64 (ts.length : Int), .string ⟨T.toArray⟩] 36)
              have hba : Below M w (w4.alloc (.cells #[.int .i64 (ts.length : Int), .string ⟨T.toArray⟩] 36)) := hbel4.alloc hs4 _
              have hsza : M ≤ (w4.alloc (.cells #[.int .i64 (ts.length : Int), .string ⟨T.toArray⟩] 36)).heap.size := Nat.le_trans hs4 (by simp)
              go_wp2_with (at_builtin; refine wpList_append_token rfl (.tmp 47) (.tmp 49) rfl M A2 ts.length c2 ts rfl hoa w4.heap.size T rfl hc1 hc2 (by omega) hsza ?_; intro A6 c6 w6 ho6 hg6)
              have hbel6 : Below M w w6 := hba.grown hg6 hsza (fun z hz => (hoa.lt hz).1)
              have hsz6 : M ≤ w6.heap.size := Nat.le_trans hsza hg6.size
              have Hl6 := Lib.hid (show (ts ++ [T]).length = ts.length + 1 from by simp)
              clear hg6 hoa hba hc1 hc2
              go_roundg (n + 1 - (j + 1))
              case measure => omega
              case rel => exact ⟨j + 1, A6, c6, ts ++ [T], by omega, by go_num, by rw [Hl6.out], by rw [Hl6.out]; exact ho6, HR2.out, by rw [Hl6.out]; omega, hbel6, hsz6⟩
            · have h64' : ¬ (j : Int) - (i : Int) ≤ 64 := by omega
              have hT := HT.out
              rw [if_neg h64] at hT
              rw [hT] at HR2
              have hs1 : M ≤ (wr.alloc (.cells #[.int .i64 (ts.length : Int), .string ⟨#[]⟩] 36)).heap.size := by omega
              clear HT hT hbp hbp1 hpl hfr1 hcut
              have hoa := ho1.alloc (.cells #[.int .i64 (ts.length : Int), .string ⟨#[]⟩] 36)
              have hba := hbel1.alloc hs1 (.cells #[.int .i64 (ts.length : Int), .string ⟨#[]⟩] 36)
              have hc1 : ((wr.alloc (.cells #[.int .i64 (ts.length : Int), .string ⟨#[]⟩] 36)).alloc (.cells #[.int .i64 (ts.length : Int), .string ⟨#[]⟩] 36)).cell? ⟨(wr.alloc (.cells #[.int .i64 (ts.length : Int), .string ⟨#[]⟩] 36)).heap.size, 0, none⟩ = some (.int .i64 (ts.length : Int)) := by rw [World.cell?_alloc_at _ _ _ _ rfl]; rfl
              have hc2 : ((wr.alloc (.cells #[.int .i64 (ts.length : Int), .string ⟨#[]⟩] 36)).alloc (.cells #[.int .i64 (ts.length : Int), .string ⟨#[]⟩] 36)).cell? ⟨(wr.alloc (.cells #[.int .i64 (ts.length : Int), .string ⟨#[]⟩] 36)).heap.size, 1, none⟩ = some (.string ⟨#[]⟩) := by rw [World.cell?_alloc_at _ _ _ _ rfl]; rfl
              have hsza : M ≤ ((wr.alloc (.cells #[.int .i64 (ts.length : Int), .string ⟨#[]⟩] 36)).alloc (.cells #[.int .i64 (ts.length : Int), .string ⟨#[]⟩] 36)).heap.size := Nat.le_trans hs1 (by simp)
              rw [hsz1] at hc1 hc2
              go_wp2_with (at_builtin; refine wpList_append_token rfl (.tmp 47) (.tmp 49) rfl M A2 ts.length c2 ts rfl hoa (wr.heap.size + 1) [] rfl hc1 hc2 (by omega) hsza ?_; intro A6 c6 w6 ho6 hg6)
              have hbel6 : Below M w w6 := hba.grown hg6 hsza (fun z hz => (hoa.lt hz).1)
              have hsz6 : M ≤ w6.heap.size := Nat.le_trans hsza hg6.size
              have Hl6 := Lib.hid (show (ts ++ [[]]).length = ts.length + 1 from by simp)
              clear hg6 hoa hba hc1 hc2
              go_roundg (n + 1 - (j + 1))
              case measure => omega
              case rel => exact ⟨j + 1, A6, c6, ts ++ [[]], by omega, by go_num, by rw [Hl6.out], by rw [Hl6.out]; exact ho6, HR2.out, by rw [Hl6.out]; omega, hbel6, hsz6⟩
    · have HE : Hid (R = ts) := Lib.hid (by rw [Tok.rest_past (by have := Hl.out; omega), List.append_nil] at hR; exact hR.symm)
      have i1 : ¬ (i : Int) < (n : Int) := by omega
      clear hR
      go_wp2
      go_ret
      rw [HE.out]
      rw [HM.out] at ho hbel
      exact ⟨A2, c2, rfl, ho, hbel⟩
end Go.Proofs.Ytahcmpmfknmecaa
