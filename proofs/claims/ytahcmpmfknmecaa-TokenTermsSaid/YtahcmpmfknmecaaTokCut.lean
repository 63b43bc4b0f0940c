/- token.Cut: from label to label. -/
import Derived.Test.YtahcmpmfknmecaaTokLow
import Derived.Test.YtahcmpmfknmecaaTokRow
import Derived.Test.YtahcmpmfknmecaaGotos
import Derived.Test.YtahcmpmfknmecaaCuts
import Derived.Deep.RegionHeld3
import Derived.StillTailTactics
namespace Go.Proofs.Ytahcmpmfknmecaa
open Go.RowKit
set_option maxRecDepth 100000

theorem list_frame {l : List Value} {n : Nat} (h : l.length = n) : l = (List.range n).map (fun i => l.getD i undef) := by
  apply List.ext_getElem
  · simp [h]
  · intro i h1 h2
    simp [List.getD_eq_getElem?_getD, List.getElem?_eq_getElem h1]
/-- the frame of Cut: the line, the tokens, where it stands, where the run began -/
def CutAt (A : Option Addr) (n cap : Nat) (A2 : Option Addr) (m c2 i : Nat) (v : Value) (a : Act) : Prop :=
  (a.tmps.size = 43 ∧ a.defers = []) ∧ a.tmps.getD 0 undef = .slice A n cap ∧ a.tmps.getD 3 undef = .slice A2 m c2 ∧ a.tmps.getD 4 undef = .int .i64 (i : Int) ∧ a.tmps.getD 5 undef = v
theorem CutAt.frame {A : Option Addr} {n cap : Nat} {A2 : Option Addr} {m c2 i : Nat} {v : Value} {a : Act} (h : CutAt A n cap A2 m c2 i v a) : ∃ g : Nat → Value, a = { tmps := #[.slice A n cap, g 1, g 2, .slice A2 m c2, .int .i64 (i : Int), v, g 6, g 7, g 8, g 9, g 10, g 11, g 12, g 13, g 14, g 15, g 16, g 17, g 18, g 19, g 20, g 21, g 22, g 23, g 24, g 25, g 26, g 27, g 28, g 29, g 30, g 31, g 32, g 33, g 34, g 35, g 36, g 37, g 38, g 39, g 40, g 41, g 42], defers := [] } := by
  rcases a with ⟨⟨l⟩, d⟩
  obtain ⟨⟨h1, h2⟩, h3, h4, h5, h6⟩ := h
  cases h2
  refine ⟨fun i => l.getD i undef, ?_⟩
  have e := list_frame (l := l) (n := 43) h1
  rw [← h3, ← h4, ← h5, ← h6]
  simp only [Array.getD_eq_getD_getElem?, List.getElem?_toArray, ← List.getD_eq_getElem?_getD]
  exact congrArg (fun x : List Value => ({ tmps := ⟨x⟩, defers := [] } : Act)) e

/-- what Cut answers -/
def CutPost (w : World) (R : List (List UInt8)) (e : Ending) (w' : World) : Prop := ∃ A c, e = .returned (.slice A R.length c) ∧ TOwn w' w.heap.size A R.length c R ∧ Below w.heap.size w w'

/-- what holds at each label -/
def CutJ (w : World) (A : Option Addr) (n cap : Nat) (l : List UInt8) (R : List (List UInt8)) (lab m : Nat) (a : Act) (w' : World) : Prop :=
  (lab = 0 ∧ ∃ (i : Nat) (v : Value) (A2 : Option Addr) (c2 : Nat) (ts : List (List UInt8)), CutAt A n cap A2 ts.length c2 i v a ∧ i ≤ n ∧ TOwn w' w.heap.size A2 ts.length c2 ts ∧ ts ++ Tok.rest [] (l.drop i) = R ∧ ts.length ≤ i ∧ Below w.heap.size w w' ∧ m = 3 * (n - i) + 1) ∨
  (lab = 1 ∧ ∃ (i s : Nat) (A2 : Option Addr) (c2 : Nat) (ts : List (List UInt8)), CutAt A n cap A2 ts.length c2 i (.int .i64 (s : Int)) a ∧ s ≤ i ∧ i ≤ n ∧ (s = i → ∃ h : i < l.length, Tok.inB l[i] = true) ∧ TOwn w' w.heap.size A2 ts.length c2 ts ∧ ts ++ Tok.rest (Tok.piece l s i) (l.drop i) = R ∧ ts.length ≤ s ∧ Below w.heap.size w w' ∧ m = if s = i then 3 * (n - i) else 3 * (n - i) + 2)

set_option maxHeartbeats 4000000 in
theorem cut_any (A : Option Addr) (n cap B : Nat) (l : List UInt8) (w : World) (hl : l.length = n) (hcap : n ≤ cap) (hn : n ≤ 10000000) (hb : Bytes w B A l) (hB : B ≤ w.heap.size) :
    Calls Try.prog 12 #[.slice A n cap] w (CutPost w (Tok.cuts l)) := by
  generalize hR : Tok.cuts l = R
  have HR := Lib.hid hR; clear hR
  have Hl := Lib.hid hl; clear hl
  go_enter Try.func12, Try.ntmps12
  go_wp2
  refine wp_scope_gotos2 (CutJ w A n cap l R) ?_ ?_
  · -- from a label on
    clear HR
    rintro L nn a w1 (⟨rfl, i, v, A2, c2, ts, ha, hi, ho, hR, hts, hbel, rfl⟩ | ⟨rfl, i, s, A2, c2, ts, ha, hsi, hi, hin, ho, hR, hts, hbel, rfl⟩)
    · refine ⟨_, rfl, ?_⟩
      obtain ⟨g, rfl⟩ := ha.frame
      clear ha
      have hbw := (hb.wide hB).below hbel
      by_cases hend : i = n
      · subst hend
        rw [← Hl.out, Tok.at_end, List.append_nil] at hR
        have HE := Lib.hid hR.symm; clear hR
        go_wp2
        go_ret
        rw [HE.out]
        exact ⟨A2, c2, rfl, ho, hbel⟩
      · have hin : i < l.length := by have := Hl.out; omega
        have i1 : (i : Int) < (n : Int) := by omega
        have i0 : (0 : Int) ≤ (i : Int) := by omega
        have ine : ((i : Int) == (n : Int)) = false := by simp; omega
        have ine' : ¬ (i : Int) = (n : Int) := by omega
        obtain ⟨ad, rfl, _, hcell⟩ := hbw.get hin
        have H1 := Lib.hid fun W => tokenByte_any l[i] W
        have Hout := Lib.hid (Tok.step_out hin)
        have Hin := Lib.hid (fun h => (⟨hin, h⟩ : ∃ h : i < l.length, Tok.inB l[i] = true))
        rcases hx : Tok.inB l[i] with _ | _
        · have hR2 := hR
          rw [Hout.out hx] at hR2
          have HR2 := Lib.hid hR2
          rw [hx] at H1
          clear hx hR hR2 Hin Hout
          generalize l[i] = x at *
          go_wp2_with fail
          refine (H1.out _).mono ?_
          rintro e w2 ⟨rfl, rfl⟩
          go_wp2
          go_step3
          exact ⟨3 * (n - (i + 1)) + 1, by omega, .inl ⟨rfl, i + 1, _, A2, c2, ts, ⟨⟨rfl, rfl⟩, rfl, rfl, rfl, rfl⟩, by omega, ho, HR2.out, by omega, hbel, rfl⟩⟩
        · have HR2 := Lib.hid hR
          have Hin2 := Lib.hid (Hin.out hx)
          rw [hx] at H1
          clear hx hR Hin Hout
          generalize l[i] = x at *
          go_wp2_with fail
          refine (H1.out _).mono ?_
          rintro e w2 ⟨rfl, rfl⟩
          go_wp2
          go_step3
          exact ⟨3 * (n - i), by omega, .inr ⟨rfl, i, i, A2, c2, ts, ⟨⟨rfl, rfl⟩, rfl, rfl, rfl, rfl⟩, Nat.le_refl _, hi, fun _ => Hin2.out, ho, by rw [Tok.piece_self]; exact HR2.out, hts, hbel, by rw [if_pos rfl]⟩⟩
    · refine ⟨_, rfl, ?_⟩
      obtain ⟨g, rfl⟩ := ha.frame
      clear ha
      have hbw := (hb.wide hB).below hbel
      by_cases hend : i = n
      · have hlt : s < i := by
          rcases Nat.lt_or_ge s i with h | h
          · exact h
          · obtain ⟨h', _⟩ := hin (by omega)
            have := Hl.out
            omega
        have hR2 := hR
        rw [show i = l.length from by rw [Hl.out]; exact hend, Tok.step_end (by rw [Hl.out]; omega), ← show i = l.length from by rw [Hl.out]; exact hend, List.append_cons] at hR2
        have HR2 := Lib.hid hR2
        have i1 : ¬ (i : Int) < (n : Int) := by omega
        clear hR2 hin hend
        have hcut := run_cut_lh A n cap s i hsi (by omega)
        have hpl := Tok.piece_length (l := l) hsi (by rw [Hl.out]; exact hi)
        have hbp : Bytes w1 w.heap.size (cutAt A cap s) (Tok.piece l s i) := (hbw.cut (k := s) (cap := cap) (by rw [Hl.out]; omega) (by rw [Hl.out]; exact hcap)).take (i - s)
        have C := Lib.hid (termOf_any (cutAt A cap s) (i - s) (cap - s) w.heap.size (Tok.piece l s i) w1 hpl (by omega) hbp)
        clear hbp hpl hR
        generalize Tok.term (Tok.piece l s i) = T at *
        generalize cutAt A cap s = A3 at *
        go_wp2_with fail
        refine C.out.mono ?_
        rintro e w3 ⟨rfl, hbel3⟩
        have hc1 : (w3.alloc (.cells #[.int .i64 (ts.length : Int), .string ⟨T.toArray⟩] 36)).cell? ⟨w3.heap.size, 0, none⟩ = some (.int .i64 (ts.length : Int)) := by rw [World.cell?_alloc_at _ _ _ _ rfl]; rfl
        have hc2 : (w3.alloc (.cells #[.int .i64 (ts.length : Int), .string ⟨T.toArray⟩] 36)).cell? ⟨w3.heap.size, 1, none⟩ = some (.string ⟨T.toArray⟩) := by rw [World.cell?_alloc_at _ _ _ _ rfl]; rfl
        have hoa := (ho.below hbel3).alloc (.cells #[.int .i64 (ts.length : Int), .string ⟨T.toArray⟩] 36)
        have hba : Below w.heap.size w (w3.alloc (.cells #[.int .i64 (ts.length : Int), .string ⟨T.toArray⟩] 36)) := (hbel.trans (hbel3.mono hbel.size)).alloc (Nat.le_trans hbel.size hbel3.size) _
        have hsza : w.heap.size ≤ (w3.alloc (.cells #[.int .i64 (ts.length : Int), .string ⟨T.toArray⟩] 36)).heap.size := hba.size
        clear C
        go_wp2_with (at_builtin; refine wpList_append_token rfl (.tmp 32) (.tmp 41) rfl w.heap.size A2 ts.length c2 ts rfl hoa w3.heap.size T rfl hc1 hc2 (by omega) hsza ?_; intro A6 c6 w6 ho6 hg6)
        have hbel6 : Below w.heap.size w w6 := hba.grown hg6 hsza (fun z hz => (hoa.lt hz).1)
        have Hl6 := Lib.hid (show (ts ++ [T]).length = ts.length + 1 from by simp)
        clear hg6 hoa hba hc1 hc2
        go_step3
        refine ⟨3 * (n - i) + 1, by rw [if_neg (by omega)]; omega, .inl ⟨rfl, i, _, A6, c6, ts ++ [T], ⟨⟨rfl, rfl⟩, rfl, by rw [Hl6.out]; rfl, rfl, rfl⟩, hi, by rw [Hl6.out]; exact ho6, HR2.out, by rw [Hl6.out]; omega, hbel6, rfl⟩⟩
      · have hin' : i < l.length := by have := Hl.out; omega
        have i1 : (i : Int) < (n : Int) := by omega
        have i0 : (0 : Int) ≤ (i : Int) := by omega
        obtain ⟨ad, hA, _, hcell⟩ := hbw.get hin'
        have H1 := Lib.hid fun W => tokenByte_any l[i] W
        have Hstop := Lib.hid fun h => Tok.step_stop (s := s) h hin'
        have Hin := Lib.hid (Tok.step_in hsi hin')
        rcases hx : Tok.inB l[i] with _ | _
        · have hlt : s < i := by
            rcases Nat.lt_or_ge s i with h | h
            · exact h
            · obtain ⟨h', h''⟩ := hin (by omega)
              rw [h''] at hx
              cases hx
          have hR2 := hR
          rw [Hstop.out hlt hx, List.append_cons] at hR2
          have HR2 := Lib.hid hR2
          rw [hx] at H1
          clear hx hR2 Hin Hstop hin
          have hcut := run_cut_lh A n cap s i hsi (by omega)
          have hpl := Tok.piece_length (l := l) hsi (by rw [Hl.out]; exact hi)
          have hbp : Bytes w1 w.heap.size (cutAt A cap s) (Tok.piece l s i) := (hbw.cut (k := s) (cap := cap) (by rw [Hl.out]; omega) (by rw [Hl.out]; exact hcap)).take (i - s)
          have C := Lib.hid (termOf_any (cutAt A cap s) (i - s) (cap - s) w.heap.size (Tok.piece l s i) w1 hpl (by omega) hbp)
          clear hbp hpl hR
          generalize Tok.term (Tok.piece l s i) = T at *
          generalize cutAt A cap s = A3 at *
          subst hA
          generalize l[i] = x at *
          go_wp2_with fail
          refine (H1.out _).mono ?_
          rintro e w2 ⟨rfl, rfl⟩
          go_wp2_with fail
          refine C.out.mono ?_
          rintro e w3 ⟨rfl, hbel3⟩
          have hc1 : (w3.alloc (.cells #[.int .i64 (ts.length : Int), .string ⟨T.toArray⟩] 36)).cell? ⟨w3.heap.size, 0, none⟩ = some (.int .i64 (ts.length : Int)) := by rw [World.cell?_alloc_at _ _ _ _ rfl]; rfl
          have hc2 : (w3.alloc (.cells #[.int .i64 (ts.length : Int), .string ⟨T.toArray⟩] 36)).cell? ⟨w3.heap.size, 1, none⟩ = some (.string ⟨T.toArray⟩) := by rw [World.cell?_alloc_at _ _ _ _ rfl]; rfl
          have hoa := (ho.below hbel3).alloc (.cells #[.int .i64 (ts.length : Int), .string ⟨T.toArray⟩] 36)
          have hba : Below w.heap.size w (w3.alloc (.cells #[.int .i64 (ts.length : Int), .string ⟨T.toArray⟩] 36)) := (hbel.trans (hbel3.mono hbel.size)).alloc (Nat.le_trans hbel.size hbel3.size) _
          have hsza : w.heap.size ≤ (w3.alloc (.cells #[.int .i64 (ts.length : Int), .string ⟨T.toArray⟩] 36)).heap.size := hba.size
          clear C
          go_wp2_with (at_builtin; refine wpList_append_token rfl (.tmp 32) (.tmp 41) rfl w.heap.size A2 ts.length c2 ts rfl hoa w3.heap.size T rfl hc1 hc2 (by omega) hsza ?_; intro A6 c6 w6 ho6 hg6)
          have hbel6 : Below w.heap.size w w6 := hba.grown hg6 hsza (fun z hz => (hoa.lt hz).1)
          have Hl6 := Lib.hid (show (ts ++ [T]).length = ts.length + 1 from by simp)
          clear hg6 hoa hba hc1 hc2
          go_step3
          refine ⟨3 * (n - i) + 1, by rw [if_neg (by omega)]; omega, .inl ⟨rfl, i, _, A6, c6, ts ++ [T], ⟨⟨rfl, rfl⟩, rfl, by rw [Hl6.out]; rfl, rfl, rfl⟩, hi, by rw [Hl6.out]; exact ho6, HR2.out, by rw [Hl6.out]; omega, hbel6, rfl⟩⟩
        · have hR2 := hR
          rw [Hin.out hx] at hR2
          have HR2 := Lib.hid hR2
          rw [hx] at H1
          clear hx hR hR2 Hin Hstop hin
          subst hA
          generalize l[i] = x at *
          go_wp2_with fail
          refine (H1.out _).mono ?_
          rintro e w2 ⟨rfl, rfl⟩
          go_wp2
          go_step3
          exact ⟨3 * (n - (i + 1)) + 2, by split <;> omega, .inr ⟨rfl, i + 1, s, A2, c2, ts, ⟨⟨rfl, rfl⟩, rfl, rfl, rfl, rfl⟩, by omega, by omega, fun h => absurd h (by omega), ho, HR2.out, hts, hbel, by rw [if_neg (by omega)]⟩⟩
  · intro Pass
    have PASS := Lib.hid Pass; clear Pass
    go_wp2
    go_step3
    rename_i hK
    refine hK _ _ ?_
    refine use_pass (PASS.out 0 (3 * (n - 0) + 1) _ _ (.inl ⟨rfl, 0, _, none, 0, [], ⟨⟨rfl, rfl⟩, rfl, rfl, rfl, rfl⟩, Nat.zero_le _, TOwn.nil _ _, HR.out, Nat.le_refl _, Below.refl _ _, rfl⟩)) rfl ?_
    exact Exit.jumps_mono (fun l a w ⟨n', _, h⟩ => ⟨n', h⟩)
end Go.Proofs.Ytahcmpmfknmecaa
