/- token.Terms. -/
import Derived.Test.YtahcmpmfknmecaaTokSort
import Derived.Test.YtahcmpmfknmecaaTokTerms
import Derived.Test.YtahcmpmfknmecaaTokCut
import Derived.Test.YtahcmpmfknmecaaTokRow
import Derived.WalkSpells
import Derived.WalkLawsBesides
namespace Go.Proofs.Ytahcmpmfknmecaa
open Go.RowKit
set_option maxRecDepth 100000

/-- a literal of one string -/
theorem own_str1 (w : World) (s : List UInt8) : SOwn (w.alloc (.cells #[.string ⟨s.toArray⟩] 9)) w.heap.size (some ⟨w.heap.size, 0, none⟩) 1 1 [s] :=
  ROwn.lit (f := sval) (e := 9) w w.heap.size [s] (Nat.le_refl _) (by simp [maxLen])
/-- what Terms answers -/
def TermsPost (w : World) (R : List (List UInt8)) (e : Ending) (w' : World) : Prop := ∃ A c, e = .returned (.slice A R.length c) ∧ Strs w' w'.heap.size A R ∧ Below w.heap.size w w'

set_option maxHeartbeats 2000000 in
theorem terms_any (A : Option Addr) (n cap B : Nat) (l : List UInt8) (w : World) (hl : l.length = n) (hcap : n ≤ cap) (hn : n ≤ 100000) (hb : Bytes w B A l) (hB : B ≤ w.heap.size) :
    Calls Try.prog 15 #[.slice A n cap] w (TermsPost w (Tok.terms l)) := by
  have C := cut_any A n cap B l w hl hcap (by omega) hb hB
  have hk := Tok.cuts_len l
  rw [hl] at hk
  have HR := Lib.hid (show Tok.terms l = Lib.compact ((Tok.there (Tok.cuts l)).mergeSort fun x y => decide (x ≤ y)) from rfl)
  generalize Tok.terms l = R at *
  generalize Tok.cuts l = X at *
  obtain ⟨N, hN⟩ : ∃ N, N = X.length := ⟨_, rfl⟩
  have D : Calls Try.prog 12 #[.slice A n cap] w fun e W => ∃ A c, e = .returned (.slice A N c) ∧ TOwn W w.heap.size A N c X ∧ Below w.heap.size w W := by
    refine C.mono ?_
    rintro e W ⟨A, c, rfl, h1, h2⟩
    rw [← hN] at h1 ⊢
    exact ⟨A, c, rfl, h1, h2⟩
  replace D := Lib.hid D
  have hNb : N ≤ 100001 := by omega
  have HN := Lib.hid hN
  clear C hN hk hl hb
  go_enter Try.func15, Try.ntmps15
  go_wp2_with fail
  refine D.out.mono ?_
  rintro e w1 ⟨A1, c1, rfl, ho1, hb1⟩
  have ht1 := ho1.toks
  clear ho1 D
  obtain ⟨M, hM⟩ : ∃ M, M = w1.heap.size := ⟨_, rfl⟩
  have HM := Lib.hid hM
  go_wp2
  go_loopw [3, 9] (fun o i wr => ∃ (k : Nat) (A2 : Option Addr) (m c2 : Nat) (ts : List (List UInt8)), k ≤ N ∧ i = .int .i64 k ∧ o = .slice A2 m c2 ∧ SOwn wr M A2 m c2 ts ∧ Hid (ts = Tok.there (X.take k)) ∧ m ≤ k ∧ Below M w1 wr) (fun _ i _ => N - (intOf i).toNat)
  case atStart => exact ⟨0, none, 0, 0, [], Nat.zero_le _, rfl, rfl, ROwn.nil _ _ _ _, Lib.hid rfl, Nat.le_refl _, Below.refl _ _⟩
  case round =>
    obtain ⟨k, A2, m, c2, ts, hk, rfl, rfl, hown, HT, hmk, hbel⟩ := hrel
    have hsz : M ≤ wr.heap.size := by have := hbel.size; have := HM.out; omega
    by_cases hlt : k < N
    · have hk' : k < X.length := by have := HN.out; omega
      obtain ⟨g, rfl, hg, ha, hb⟩ := (ht1.below (by rw [← HM.out]; exact hbel)).get hk'
      have H0 := Lib.hid (Tok.there_none hk')
      have H1 := Lib.hid (Tok.there_some hk')
      rw [← HT.out] at H0 H1
      generalize X[k] = x at *
      have i1 : (k : Int) < (N : Int) := by omega
      have i0 : (0 : Int) ≤ (k : Int) := by omega
      by_cases hx : x = []
      · subst hx
        have e0 : (([] : List UInt8) == []) = true := rfl
        have hba : Below M w1 (wr.alloc (.cells #[.int .i64 (k : Int), .string ⟨([] : List UInt8).toArray⟩] 36)) := hbel.alloc hsz _
        have hoa := hown.alloc (.cells #[.int .i64 (k : Int), .string ⟨([] : List UInt8).toArray⟩] 36)
        have HT2 := Lib.hid (H0.out rfl).symm
        clear H0 H1 hown hbel
        go_wp2
        go_roundw
        case rel => exact ⟨k + 1, A2, m, c2, ts, by omega, by go_num, rfl, hoa, HT2, by omega, hba⟩
        case measure => simp [intOf]; omega
      · have e0 : (x == []) = false := by simpa using hx
        have hne : ¬ x.toArray = #[] := by simpa using hx
        have hone := (own_str1 (wr.alloc (.cells #[.int .i64 (k : Int), .string ⟨x.toArray⟩] 36)) x).row
        rw [show (wr.alloc (.cells #[.int .i64 (k : Int), .string ⟨x.toArray⟩] 36)).heap.size = wr.heap.size + 1 from by simp] at hone
        have hoa := (hown.alloc (.cells #[.int .i64 (k : Int), .string ⟨x.toArray⟩] 36)).alloc (.cells #[.string ⟨x.toArray⟩] 9)
        have hba : Below M w1 ((wr.alloc (.cells #[.int .i64 (k : Int), .string ⟨x.toArray⟩] 36)).alloc (.cells #[.string ⟨x.toArray⟩] 9)) := (hbel.alloc hsz _).alloc (by simp; omega) _
        have hsza : M ≤ ((wr.alloc (.cells #[.int .i64 (k : Int), .string ⟨x.toArray⟩] 36)).alloc (.cells #[.string ⟨x.toArray⟩] 9)).heap.size := by simp; omega
        have HT2 := Lib.hid (H1.out hx).symm
        clear H0 H1 hown hbel
        go_wp2_with (at_builtin; refine wpList_append_row elemStr rfl (.tmp 16) (.tmp 19) rfl M A2 m c2 ts rfl hoa _ _ 1 1 [x] rfl rfl hone (by omega) (by simp only [maxLen]; omega) hsza ?_; intro A5 c5 w5 ho5 hg5 hat5)
        have hbel5 := hba.grown hg5 hsza (fun q hq => (hoa.lt hq).1)
        clear hg5 hat5 hoa hone hba
        go_roundw
        case rel => exact ⟨k + 1, A5, m + 1, c5, ts ++ [x], by omega, by go_num, by go_num, ho5, HT2, by omega, hbel5⟩
        case measure => simp [intOf]; omega
    · obtain rfl : k = N := by omega
      have HT2 : ts = Tok.there X := by have := HT.out; rwa [List.take_of_length_le (by have := HN.out; omega)] at this
      have HR2 : R = Lib.compact (ts.mergeSort fun x y => decide (x ≤ y)) := by rw [HT2]; exact HR.out
      replace HR2 := Lib.hid HR2
      have hbs := hb1.size
      have S1 := Lib.hid (sortS_any A2 m c2 ts wr hown (by omega))
      have hlt2 : ∀ q, blk A2 = some q → M ≤ q := fun q hq => (hown.lt hq).1
      clear HT2 HR HT hown
      go_wp2_with fail
      refine S1.out.mono ?_
      rintro e w3 ⟨rfl, ho3, hg3⟩
      have hbel3 := hbel.grown hg3 hsz hlt2
      have hsz3 : M ≤ w3.heap.size := by have := hbel3.size; have := HM.out; omega
      have S2 := Lib.hid (compactS_any A2 m c2 _ w3 ho3 (by omega))
      rw [← HR2.out] at S2
      clear S1 HR2
      go_wp2_with fail
      refine S2.out.mono ?_
      rintro e w4 ⟨rfl, ho4, hg4⟩
      have hbel4 := hbel3.grown hg4 hsz3 hlt2
      clear S2
      go_wp2
      go_ret
      exact ⟨A2, c2, rfl, ho4.row, hb1.trans (hbel4.mono (by rw [HM.out]; exact hbs))⟩
end Go.Proofs.Ytahcmpmfknmecaa
