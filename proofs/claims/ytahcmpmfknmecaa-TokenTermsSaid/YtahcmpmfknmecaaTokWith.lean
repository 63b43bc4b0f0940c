/- The document's With and Terms. -/
import Derived.Test.YtahcmpmfknmecaaTokTermsW
import Derived.Test.YtahcmpmfknmecaaTokRefCut
namespace Go.Proofs.Ytahcmpmfknmecaa
open Go.RowKit
set_option maxRecDepth 100000

theorem Tok.with_step {t : List (List UInt8)} {k : Nat} (h : k < t.length) (s : List UInt8) (b : Bool) :
    Tok.withGo s b (t.drop k) = (if !b && !Op.bytesLess t[k] s then [s] else []) ++ ((if t[k] == s then [] else [t[k]]) ++ Tok.withGo s (b || !Op.bytesLess t[k] s) (t.drop (k + 1))) := by
  rw [List.drop_eq_getElem_cons h]
  rfl
/-- what With answers -/
def WithPost (w : World) (R : List (List UInt8)) (e : Ending) (w' : World) : Prop := ∃ A c, e = .returned (.slice A R.length c) ∧ SOwn w' w.heap.size A R.length c R ∧ Below w.heap.size w w'
theorem WithPost.of {w w' : World} {M : Nat} {R ts : List (List UInt8)} {A : Option Addr} {m c : Nat} (hM : M = w.heap.size) (h : ts = R) (ho : SOwn w' M A m c ts) (hb : Below M w w') : WithPost w R (.returned (.slice A m c)) w' := by
  subst hM
  subst h
  have := ho.len
  subst this
  exact ⟨A, c, rfl, ho, hb⟩

set_option maxHeartbeats 4000000 in
theorem with_any (A : Option Addr) (n c B : Nat) (t : List (List UInt8)) (s : List UInt8) (w : World) (hl : t.length = n) (hn : n ≤ 1000000) (hb : Strs w B A t) (hB : B ≤ w.heap.size) :
    Calls Try.prog 28 #[.slice A n c, .string ⟨s.toArray⟩] w (WithPost w (Tok.withGo s false t)) := by
  obtain ⟨R, hR⟩ : ∃ R, R = Tok.withGo s false t := ⟨_, rfl⟩
  rw [← hR]
  have HR := Lib.hid hR; clear hR
  have Hl := Lib.hid hl; clear hl
  obtain ⟨M, hM⟩ : ∃ M, M = w.heap.size := ⟨_, rfl⟩
  rw [hM.symm] at hB
  have HM := Lib.hid hM; clear hM
  go_enter Try.func28, Try.ntmps28
  go_wp2
  go_loopw [5, 6, 7] (fun o p i wr => ∃ (k : Nat) (A2 : Option Addr) (m c2 : Nat) (ts : List (List UInt8)) (b : Bool), k ≤ n ∧ i = .int .i64 k ∧ o = .slice A2 m c2 ∧ p = .bool b ∧ SOwn wr M A2 m c2 ts ∧ Hid (ts ++ Tok.withGo s b (t.drop k) = R) ∧ m ≤ 2 * k ∧ Below M w wr) (fun _ _ i _ => n - (intOf i).toNat)
  case atStart => exact ⟨0, none, 0, 0, [], false, Nat.zero_le _, rfl, rfl, rfl, ROwn.nil _ _ _ _, Lib.hid (by rw [HR.out]; rfl), by omega, Below.refl _ _⟩
  case round =>
    obtain ⟨k, A2, m, c2, ts, b, hk, rfl, rfl, rfl, hown, HT, hmk, hbel⟩ := hrel
    have hsz : M ≤ wr.heap.size := by have := hbel.size; have := HM.out; omega
    by_cases hlt : k < n
    · have hk' : k < t.length := by have := Hl.out; omega
      obtain ⟨ad, rfl, hag, hc⟩ := hb.get hk'
      have HC : Hid (∀ W, Below M w W → W.cell? (ad.add k) = some (.string ⟨t[k].toArray⟩)) := Lib.hid fun W h => (h.cell (by rw [addr_add_block]; omega)).trans hc
      have hcw := HC.out wr hbel
      have hT := HT.out
      rw [Tok.with_step hk' s b] at hT
      clear hc HT
      generalize t[k] = x at *
      have i1 : (k : Int) < (n : Int) := by omega
      have i0 : (0 : Int) ≤ (k : Int) := by omega
      have hone := (own_str1 wr x).row
      have hoa := hown.alloc (.cells #[.string ⟨x.toArray⟩] 9)
      have hba : Below M w (wr.alloc (.cells #[.string ⟨x.toArray⟩] 9)) := hbel.alloc hsz _
      have hsza : M ≤ (wr.alloc (.cells #[.string ⟨x.toArray⟩] 9)).heap.size := by simp; omega
      have hones := (own_str1 wr s).row
      have hoas := hown.alloc (.cells #[.string ⟨s.toArray⟩] 9)
      have hbas : Below M w (wr.alloc (.cells #[.string ⟨s.toArray⟩] 9)) := hbel.alloc hsz _
      have hszas : M ≤ (wr.alloc (.cells #[.string ⟨s.toArray⟩] 9)).heap.size := by simp; omega
      rcases hL : Op.bytesLess x s with _ | _
      · rw [hL] at hT
        rcases b with _ | _
        · by_cases hxs : x = s
          · -- s comes first, and x is it
            have e1 : (x == s) = true := by simpa using hxs
            rw [e1] at hT
            have HT2 : Hid ((ts ++ [s]) ++ Tok.withGo s true (t.drop (k + 1)) = R) := Lib.hid (by simpa using hT)
            clear hT hown hbel hone hoa hba hsza
            subst hxs
            go_wp2_with (at_builtin; refine wpList_append_row elemStr rfl (.tmp 24) (.tmp 26) rfl M A2 m c2 ts rfl hoas _ _ 1 1 [x] rfl rfl hones (by omega) (by simp only [maxLen]; omega) hszas ?_; intro A5 c5 w5 ho5 hg5 hat5; have hbel5 := hbas.grown hg5 hszas (fun q hq => (hoas.lt hq).1); have hcw5 := HC.out w5 hbel5)
            clear hg5 hat5 hoas hones hbas
            go_roundw
            case rel => exact ⟨k + 1, A5, m + 1, c5, ts ++ [x], true, by omega, by go_num, by go_num, rfl, ho5, HT2, by omega, hbel5⟩
            case measure => simp [intOf]; omega
          · -- s comes first, and then x
            have e1 : (x == s) = false := by simpa using hxs
            rw [e1] at hT
            have HT2 : Hid ((ts ++ [s] ++ [x]) ++ Tok.withGo s true (t.drop (k + 1)) = R) := Lib.hid (by simpa using hT)
            clear hT hown hbel hone hoa hba hsza
            go_wp2_with (at_builtin; first
              | (refine wpList_append_row elemStr rfl (.tmp 24) (.tmp 26) rfl M A2 m c2 ts rfl hoas _ _ 1 1 [s] rfl rfl hones (by omega) (by simp only [maxLen]; omega) hszas ?_; intro A5 c5 w5 ho5 hg5 hat5; have hbel5 := hbas.grown hg5 hszas (fun q hq => (hoas.lt hq).1); have hcw5 := HC.out w5 hbel5; have hsz5 : M ≤ w5.heap.size := (by have := hbel5.size; have := HM.out; omega); have hone5 := (own_str1 w5 x).row; have hoa5 := ho5.alloc (.cells #[.string ⟨x.toArray⟩] 9); have hba5 : Below M w (w5.alloc (.cells #[.string ⟨x.toArray⟩] 9)) := hbel5.alloc hsz5 _; have hsza5 : M ≤ (w5.alloc (.cells #[.string ⟨x.toArray⟩] 9)).heap.size := (by simp; omega))
              | (refine wpList_append_row elemStr rfl (.tmp 34) (.tmp 39) rfl M A5 (m + 1) c5 (ts ++ [s]) rfl hoa5 _ _ 1 1 [x] rfl rfl hone5 (by omega) (by simp only [maxLen]; omega) hsza5 ?_; intro A6 c6 w6 ho6 hg6 hat6; have hbel6 := hba5.grown hg6 hsza5 (fun q hq => (hoa5.lt hq).1)))
            clear hg5 hat5 hoas hones hbas hg6 hat6 hoa5 hone5 hba5
            go_roundw
            case rel => exact ⟨k + 1, A6, m + 1 + 1, c6, ts ++ [s] ++ [x], true, by omega, by go_num, by go_num, rfl, ho6, HT2, by omega, hbel6⟩
            case measure => simp [intOf]; omega
        · by_cases hxs : x = s
          · have e1 : (x == s) = true := by simpa using hxs
            rw [e1] at hT
            have HT2 : Hid (ts ++ Tok.withGo s true (t.drop (k + 1)) = R) := Lib.hid (by simpa using hT)
            clear hT hone hoa hba hsza hones hoas hbas hszas
            subst hxs
            go_wp2
            go_roundw
            case rel => exact ⟨k + 1, A2, m, c2, ts, true, by omega, by go_num, rfl, rfl, hown, HT2, by omega, hbel⟩
            case measure => simp [intOf]; omega
          · have e1 : (x == s) = false := by simpa using hxs
            rw [e1] at hT
            have HT2 : Hid ((ts ++ [x]) ++ Tok.withGo s true (t.drop (k + 1)) = R) := Lib.hid (by simpa using hT)
            clear hT hown hbel hones hoas hbas hszas
            go_wp2_with (at_builtin; refine wpList_append_row elemStr rfl (.tmp 34) (.tmp 39) rfl M A2 m c2 ts rfl hoa _ _ 1 1 [x] rfl rfl hone (by omega) (by simp only [maxLen]; omega) hsza ?_; intro A5 c5 w5 ho5 hg5 hat5; have hbel5 := hba.grown hg5 hsza (fun q hq => (hoa.lt hq).1))
            clear hg5 hat5 hoa hone hba
            go_roundw
            case rel => exact ⟨k + 1, A5, m + 1, c5, ts ++ [x], true, by omega, by go_num, by go_num, rfl, ho5, HT2, by omega, hbel5⟩
            case measure => simp [intOf]; omega
      · rw [hL] at hT
        by_cases hxs : x = s
        · subst hxs
          rw [Tok.less_eq, decide_eq_true_eq] at hL
          exact absurd hL (List.lt_irrefl _)
        · have e1 : (x == s) = false := by simpa using hxs
          rw [e1] at hT
          have HT2 : Hid ((ts ++ [x]) ++ Tok.withGo s b (t.drop (k + 1)) = R) := Lib.hid (by simpa using hT)
          clear hT hown hbel hones hoas hbas hszas
          rcases b with _ | _
          all_goals
            go_wp2_with (at_builtin; refine wpList_append_row elemStr rfl (.tmp 34) (.tmp 39) rfl M A2 m c2 ts rfl hoa _ _ 1 1 [x] rfl rfl hone (by omega) (by simp only [maxLen]; omega) hsza ?_; intro A5 c5 w5 ho5 hg5 hat5; have hbel5 := hba.grown hg5 hsza (fun q hq => (hoa.lt hq).1))
            clear hg5 hat5 hoa hone hba
            go_roundw
            case rel => exact ⟨k + 1, A5, m + 1, c5, ts ++ [x], _, by omega, by go_num, by go_num, rfl, ho5, HT2, by omega, hbel5⟩
            case measure => simp [intOf]; omega
    · have hT := HT.out
      rw [List.drop_of_length_le (by have := Hl.out; omega)] at hT
      rcases b with _ | _
      · have HT2 : Hid (ts ++ [s] = R) := Lib.hid (by simpa [Tok.withGo] using hT)
        have hones := (own_str1 wr s).row
        have hoas := hown.alloc (.cells #[.string ⟨s.toArray⟩] 9)
        have hbas : Below M w (wr.alloc (.cells #[.string ⟨s.toArray⟩] 9)) := hbel.alloc hsz _
        have hszas : M ≤ (wr.alloc (.cells #[.string ⟨s.toArray⟩] 9)).heap.size := by simp; omega
        clear hT HT hown hbel
        go_wp2_with (at_builtin; refine wpList_append_row elemStr rfl (.tmp 43) (.tmp 45) rfl M A2 m c2 ts rfl hoas _ _ 1 1 [s] rfl rfl hones (by omega) (by simp only [maxLen]; omega) hszas ?_; intro A5 c5 w5 ho5 hg5 hat5; have hbel5 := hbas.grown hg5 hszas (fun q hq => (hoas.lt hq).1))
        go_ret
        exact WithPost.of HM.out HT2.out ho5 hbel5
      · have HT2 : Hid (ts = R) := Lib.hid (by simpa [Tok.withGo] using hT)
        clear hT HT
        go_wp2
        go_ret
        exact WithPost.of HM.out HT2.out hown hbel

set_option maxHeartbeats 2000000 in
theorem refTerms_any (A : Option Addr) (n cap B : Nat) (l : List UInt8) (w : World) (hl : l.length = n) (hcap : n ≤ cap) (hn : n ≤ 100000) (hb : Bytes w B A l) (hB : B ≤ w.heap.size) :
    Calls Try.prog 18 #[.slice A n cap] w (TermsPost w (Tok.terms l)) := by
  have C := refCut_any A n cap B l w hl hcap (by omega) hb hB
  have hk := Tok.cuts_len l
  rw [hl] at hk
  have HR := Lib.hid (show Tok.terms l = Tok.withs [] (Tok.there (Tok.cuts l)) from (Tok.withs_terms l).symm)
  generalize Tok.terms l = R at *
  generalize Tok.cuts l = X at *
  obtain ⟨N, hN⟩ : ∃ N, N = X.length := ⟨_, rfl⟩
  have D : Calls Try.prog 13 #[.slice A n cap] w fun e W => ∃ A c, e = .returned (.slice A N c) ∧ TOwn W w.heap.size A N c X ∧ Below w.heap.size w W := by
    refine C.mono ?_
    rintro e W ⟨A, c, rfl, h1, h2⟩
    rw [← hN] at h1 ⊢
    exact ⟨A, c, rfl, h1, h2⟩
  replace D := Lib.hid D
  have hNb : N ≤ 100001 := by omega
  have HN := Lib.hid hN
  clear C hN hk hl hb
  go_enter Try.func18, Try.ntmps18
  go_wp2_with fail
  refine D.out.mono ?_
  rintro e w1 ⟨A1, c1, rfl, ho1, hb1⟩
  have ht1 := ho1.toks
  clear ho1 D
  go_wp2
  go_loopw [3, 5] (fun o i wr => ∃ (k : Nat) (A2 : Option Addr) (m c2 : Nat) (ts : List (List UInt8)), k ≤ N ∧ i = .int .i64 k ∧ o = .slice A2 m c2 ∧ Strs wr wr.heap.size A2 ts ∧ Hid (ts.length = m) ∧ Hid (ts = Tok.withs [] (Tok.there (X.take k))) ∧ m ≤ k ∧ Below w1.heap.size w1 wr) (fun _ i _ => N - (intOf i).toNat)
  case atStart => exact ⟨0, none, 0, 0, [], Nat.zero_le _, rfl, rfl, Row.nil _ _ _ _, Lib.hid rfl, Lib.hid rfl, Nat.le_refl _, Below.refl _ _⟩
  case round =>
    obtain ⟨k, A2, m, c2, ts, hk, rfl, rfl, hown, Hm, HT, hmk, hbel⟩ := hrel
    by_cases hlt : k < N
    · have hk' : k < X.length := by have := HN.out; omega
      obtain ⟨g, rfl, hg, ha, hb⟩ := (ht1.below hbel).get hk'
      have H0 := Lib.hid (Tok.there_none hk')
      have H1 := Lib.hid (Tok.there_some hk')
      generalize X[k] = x at *
      have i1 : (k : Int) < (N : Int) := by omega
      have i0 : (0 : Int) ≤ (k : Int) := by omega
      by_cases hx : x = []
      · subst hx
        have e0 : (([] : List UInt8) == []) = true := rfl
        have HT2 : Hid (ts = Tok.withs [] (Tok.there (X.take (k + 1)))) := Lib.hid (by rw [H0.out rfl]; exact HT.out)
        clear H0 H1
        go_wp2
        go_roundw
        case rel => exact ⟨k + 1, A2, m, c2, ts, by omega, by go_num, rfl, hown, Hm, HT2, by omega, hbel⟩
        case measure => simp [intOf]; omega
      · have e0 : (x == []) = false := by simpa using hx
        have hne : ¬ x.toArray = #[] := by simpa using hx
        have S := Lib.hid (with_any A2 m c2 _ ts x wr Hm.out (by omega) hown (Nat.le_refl _))
        have HT2 : Hid (Tok.withGo x false ts = Tok.withs [] (Tok.there (X.take (k + 1)))) := Lib.hid (by rw [H1.out hx, Tok.withs_snoc, ← HT.out])
        have HL := Lib.hid (Tok.withGo_len x false ts)
        clear H0 H1
        go_wp2_with fail
        refine S.out.mono ?_
        rintro e w5 ⟨A5, c5, rfl, ho5, hb5⟩
        have hbel5 := hbel.trans (hb5.mono hbel.size)
        have hlen : (Tok.withGo x false ts).length ≤ k + 1 := by have := HL.out; have := Hm.out; omega
        have hst := ho5.row
        generalize Tok.withGo x false ts = ts5 at *
        obtain ⟨m5, hm5⟩ : ∃ m5, m5 = ts5.length := ⟨_, rfl⟩
        rw [← hm5] at hlen ⊢
        have Hm5 := Lib.hid hm5.symm
        clear S HL ho5 hb5 hm5
        go_wp2
        go_roundw
        case rel => exact ⟨k + 1, A5, m5, c5, ts5, by omega, by go_num, rfl, hst, Hm5, HT2, by omega, hbel5⟩
        case measure => simp [intOf]; omega
    · have hkN : k = N := by omega
      have HT2 : R = ts := by have := HT.out; rw [List.take_of_length_le (by have := HN.out; omega)] at this; rw [this]; exact HR.out
      replace HT2 := Lib.hid HT2
      clear HT HR hkN
      have hbs := hb1.size
      go_wp2
      go_ret
      rw [HT2.out]
      refine ⟨A2, c2, ?_, hown, hb1.trans (hbel.mono hbs)⟩
      rw [Hm.out]
      rfl
end Go.Proofs.Ytahcmpmfknmecaa
