/- sym.Train. -/
import Derived.Test.YtmcioglidgbibaaSymSort
import Derived.Test.YtmcioglidgbibaaSymForm
import Derived.Test.YtmcioglidgbibaaSymTake
import Derived.Maps.RangeWalk
import Derived.Sort.KeysCollected
import Derived.Sort.OwnSorted
import Derived.Laws.EntriesVeiled
namespace Go.Proofs.Ytmcioglidgbibaa
open Go.RowKit Go.Maps
set_option maxRecDepth 100000

set_option maxHeartbeats 400000 in
theorem cloneStr_all (A : Option Addr) (n cap B : Nat) (t : List (List UInt8)) (w : World) (hl : t.length = n) (hn : n * 16 ≤ 140737488355328) (hb : Strs w B A t) (hB : B ≤ w.heap.size) :
    Calls Try.prog 32 #[.slice A n cap] w fun e w' => ∃ A' c, e = .returned (.slice A' n c) ∧ SOwn w' w.heap.size A' n c t ∧ Below w.heap.size w w' := by
  have q22 : ∀ (w : World) (a : Option Addr) (n c n' c' : Nat), (binOp .eql 25 (.slice a n c) (.slice none n' c')).run Try.prog w = .ok (.bool a.isNone) w := fun w a n c n' c' => Lib.run_eql_slice_nil w _ _ a n c n' c' Try.underlying25
  cases A with
  | none =>
    have hl0 := hb.none_
    subst hl0
    obtain rfl : 0 = n := by simpa using hl
    clear hb hl
    go_enter Try.func32, Try.ntmps32
    go_wp2
    go_ret
    exact ⟨none, 0, rfl, ROwn.nil _ _ _ _, Below.refl _ _⟩
  | some ad =>
    have Hl := Lib.hid hl; clear hl
    have hb1 : Strs (w.alloc (.cells #[] 9)) B (some ad) t := hb.below ((Below.refl _ _).alloc hB _)
    have ho1 : SOwn (w.alloc (.cells #[] 9)) w.heap.size (some ⟨w.heap.size, 0, none⟩) 0 0 [] := ROwn.made w w.heap.size #[] 0 (Nat.le_refl _) (by simp only [maxLen]; omega) rfl
    have hbel : Below w.heap.size w (w.alloc (.cells #[] 9)) := (Below.refl _ _).alloc (Nat.le_refl _) _
    clear hb
    go_enter Try.func32, Try.ntmps32
    go_wp2_with (at_builtin; refine wpList_append_row elemStr rfl (.tmp 5) (.tmp 6) rfl w.heap.size _ 0 0 [] rfl ho1 B (some ad) n cap t rfl Hl.out hb1 (by omega) (by simp only [maxLen]; omega) (by simp) ?_; intro A1 c1 w1 ho2 hg2 hat2)
    go_ret
    rw [Nat.zero_add] at ho2
    refine ⟨A1, c1, by simp, ho2, hbel.grown hg2 (by simp) ?_⟩
    intro k hk
    simp [blk] at hk
    omega

/-- what was collected: the candidates that are no longer to come -/
def Coll (P : List (List UInt8)) (left : Lit → Bool) (ss : List (List UInt8)) : Prop := ss.Nodup ∧ ∀ s, s ∈ ss ↔ (2 ≤ P.count s ∧ left (.string s) = false)
theorem coll_start {P : List (List UInt8)} {D : DataW Unit} (hD : ∀ s, SaysS .i64 D s (Sym.cnt P s)) : Coll P (Maps.has D) [] := by
  refine ⟨List.nodup_nil, fun s => ⟨(fun h => by cases h), fun ⟨h2, hf⟩ => ?_⟩⟩
  have h := hD s
  unfold Sym.cnt at h
  rw [if_pos (Sym.count_mem h2)] at h
  rw [h.1] at hf
  cases hf
theorem left_step {left : Lit → Bool} {x s : List UInt8} : (left (.string s) && !(Lit.string s).sameKey (.string x)) = false ↔ left (.string s) = false ∨ s = x := by
  by_cases e : s = x
  · subst e
    simp [Lit.sameKey]
  · rw [sameKey_ne (ne_str e)]
    simp [e]
theorem coll_more {P ss : List (List UInt8)} {left : Lit → Bool} {x : List UInt8} (h : Coll P left ss) (hx : left (.string x) = true) (h2 : 2 ≤ P.count x) : Coll P (fun z => left z && !z.sameKey (.string x)) (ss ++ [x]) := by
  refine ⟨?_, fun s => ?_⟩
  · rw [List.nodup_append]
    refine ⟨h.1, by simp, fun a ha b hb => ?_⟩
    rw [List.mem_singleton] at hb
    subst hb
    rintro rfl
    have := ((h.2 a).1 ha).2
    rw [hx] at this
    cases this
  · rw [List.mem_append, List.mem_singleton, h.2, left_step]
    constructor
    · rintro (⟨a, b⟩ | rfl)
      · exact ⟨a, .inl b⟩
      · exact ⟨h2, .inr rfl⟩
    · rintro ⟨a, b | rfl⟩
      · exact .inl ⟨a, b⟩
      · exact .inr rfl
theorem coll_same {P ss : List (List UInt8)} {left : Lit → Bool} {x : List UInt8} (h : Coll P left ss) (h2 : ¬ 2 ≤ P.count x) : Coll P (fun z => left z && !z.sameKey (.string x)) ss := by
  refine ⟨h.1, fun s => ?_⟩
  rw [h.2, left_step]
  constructor
  · rintro ⟨a, b⟩
    exact ⟨a, .inl b⟩
  · rintro ⟨a, b | rfl⟩
    · exact ⟨a, b⟩
    · exact absurd a h2
theorem coll_end {P ss : List (List UInt8)} {left : Lit → Bool} (h : Coll P left ss) (hl : ∀ kl, left kl = false) : ss.mergeSort (Sym.leP P) = Sym.srt P :=
  Sym.srt_unique h.1 fun s => by rw [h.2, hl]; simp
theorem nodup_len : ∀ {ss P : List (List UInt8)}, ss.Nodup → (∀ s ∈ ss, s ∈ P) → ss.length ≤ P.length
  | [], _, _, _ => Nat.zero_le _
  | s :: r, P, hn, hs => by
    rw [List.nodup_cons] at hn
    have hm := hs s (by simp)
    have h := nodup_len (P := P.erase s) hn.2 (fun u hu => (List.mem_erase_of_ne (fun e => hn.1 (by rw [← e]; exact hu))).2 (hs u (by simp [hu])))
    rw [List.length_erase_of_mem hm] at h
    have := List.length_pos_of_mem hm
    rw [List.length_cons]
    omega

set_option maxHeartbeats 4000000 in
theorem train_any (A : Option Addr) (n cap B : Nat) (ss : List (List UInt8)) (w : World) (hl : ss.length = n) (hn : n ≤ 140737488355328) (hs : ∀ s ∈ ss, s.length ≤ 140737488351232) (h1 : Samples w B A ss) (hB : B ≤ w.heap.size) :
    Calls Try.prog 10 #[.slice A n cap] w fun e w' => ∃ A' c, e = .returned (.slice A' (Sym.train (Sym.pieces ss 1024)).length c) ∧ SOwn w' w.heap.size A' (Sym.train (Sym.pieces ss 1024)).length c (Sym.train (Sym.pieces ss 1024)) ∧ Below w.heap.size w w' := by
  have HC := Lib.hid (countPieces_any A n cap B ss w hl hn hs h1 hB)
  have hPl := Sym.pieces_length ss 1024
  have hP8 := Lib.hid (Sym.pieces_len ss 1024)
  generalize Sym.pieces ss 1024 = P at *
  obtain ⟨M, hM⟩ : ∃ M, M = w.heap.size := ⟨_, rfl⟩
  rw [← hM] at HC ⊢
  have HM := Lib.hid hM
  clear hl hs h1 hM hB
  go_enter Try.func10, Try.ntmps10
  go_wp2_with fail
  refine HC.out.mono ?_
  rintro e w1 ⟨rfl, hct, hbel1⟩
  clear HC
  have hMl := StrMap.lt hct
  obtain ⟨D, hown, hD⟩ := hct
  obtain ⟨w4, hw4⟩ : ∃ w4, w4 = (w1.alloc (.cells #[.map (some M)] 45)).alloc (.cells #[.func (.func 27) #[] #[.pointer (some ⟨w1.heap.size, 0, none⟩)]] 47) := ⟨_, rfl⟩
  have hsz4 : w4.heap.size = w1.heap.size + 2 := by rw [hw4]; simp
  have hown4 : w4.ownsMap Try.prog 9 (plainElem Try.prog 3) M P.length D := by rw [hw4]; exact (hown.alloc _).alloc _
  have c3 : w4.cell? ⟨w1.heap.size, 0, none⟩ = some (.map (some M)) := by
    rw [hw4]
    refine (((Below.refl (w1.heap.size + 1) _).alloc (by simp) _).cell (p := ⟨w1.heap.size, 0, none⟩) (Nat.lt_succ_self _)).trans ?_
    rw [World.cell?_alloc_at _ _ _ _ rfl]; rfl
  have c4 : w4.cell? ⟨w1.heap.size + 1, 0, none⟩ = some (.func (.func 27) #[] #[.pointer (some ⟨w1.heap.size, 0, none⟩)]) := by
    rw [hw4]
    rw [World.cell?_alloc_at _ _ _ _ (by simp)]; rfl
  have hbel4 : Below M w w4 := by rw [hw4]; exact (hbel1.alloc (by omega) _).alloc (by simp; omega) _
  go_wp2_with (at_range; rw [← hw4]; refine wpList_range_own _ rfl _ 45 rfl 9 3 strLaw Try.underlying45 _ M P.length _ rfl hown4 ?_; intro w0 hrg0 hg0 hs0; go_frame)
  obtain ⟨g, hg⟩ : ∃ g, g = w1.heap.size := ⟨_, rfl⟩
  obtain ⟨R, hR⟩ : ∃ R, R = w4.heap.size := ⟨_, rfl⟩
  rw [← hg] at c3 c4 hsz4 hMl ⊢
  rw [← hR] at hrg0 hs0 hsz4 ⊢
  have HR := Lib.hid hR
  have HG := Lib.hid hsz4
  have hR2 : R ≤ g + 2 := by omega
  have hR3 : g + 2 ≤ R := by omega
  have hsz0 : g + 2 ≤ w0.heap.size := by omega
  have hbw0 : Below (g + 2) w4 w0 := (Below.refl _ w4).grown hg0 (by omega) (fun j hj => by cases hj)
  clear hw4 hown hg hR hsz4 hown4 hs0 hbel1
  go_loopw [5] (fun v wr => ∃ (left : Lit → Bool) (cnt : Nat) (ts : List (List UInt8)) (Av : Option Addr) (cv : Nat), v = .slice Av ts.length cv ∧ SOwn wr (g + 2) Av ts.length cv ts ∧ wr.ranges Try.prog 9 (plainElem Try.prog 3) M R P.length D left cnt ∧ Coll P left ts ∧ Below (g + 2) w4 wr ∧ g + 2 ≤ wr.heap.size) (fun _ wr => wr.rangeLeft M R)
  case atStart => exact ⟨_, _, [], none, 0, rfl, ROwn.nil _ _ _ _, hrg0, coll_start hD, hbw0, hsz0⟩
  case round =>
    clear hrg0 hbw0 hsz0
    obtain ⟨left, cnt, ts, Av, cv, rfl, hown, hrg, hC, hbel, hszr⟩ := hrel
    have htP : ∀ s ∈ ts, s ∈ P := fun s hs => Sym.count_mem ((hC.2 s).1 hs).1
    have htl := nodup_len hC.1 htP
    have HtP := Lib.hid htP
    clear htP
    go_wp2_with (at_next; refine wpList_next_ranges _ rfl _ rfl 9 strLaw (plainElem Try.prog 3) sval (Value.int .i64) (fun key kl hk => by obtain ⟨x, hx, _⟩ := Maps.keyOf_str Try.underlying9 hk; exact ⟨x, hx⟩) (fun v y hv => by obtain ⟨c, rfl, _⟩ := plainElem_int_inv Try.underlying3 hv; exact ⟨c, rfl⟩) M R P.length _ _ _ rfl hrg ?_ ?_)
    · intro hc0 hl0
      have d3 := (hbel.cell (p := ⟨g, 0, none⟩) (by simp)).trans c3
      have d4 := (hbel.cell (p := ⟨g + 1, 0, none⟩) (by simp)).trans c4
      have HS := sortFunc_any Av ts.length cv (g + 2) (g + 1) g M P ts wr hown (by omega) (by omega) (by omega) (by omega) (fun s hs => (hP8.out s (HtP.out s hs)).2) (by omega) hszr d4 d3 ⟨D, hrg.owns, hD⟩
      rw [coll_end hC hl0] at HS
      replace HS := Lib.hid HS
      have hsl : (Sym.srt P).length = ts.length := by rw [← coll_end hC hl0, List.length_mergeSort]
      have hcap := hown.cap
      have hlow := fun j (hj : blk Av = some j) => (hown.lt hj).1
      obtain ⟨k, hk⟩ : ∃ k, k = ts.length := ⟨_, rfl⟩
      rw [← hk] at HS hcap htl hsl ⊢
      obtain ⟨mm, hmm⟩ : ∃ mm, mm = min k 32 := ⟨_, rfl⟩
      have htr : (Sym.srt P).take mm = Sym.train P := by
        unfold Sym.train
        by_cases h : k ≤ 32
        · rw [List.take_of_length_le (by omega), List.take_of_length_le (by omega)]
        · rw [show mm = 32 from by omega]
      have htrl : (Sym.train P).length = mm := by rw [← htr, List.length_take]; omega
      have Htr := Lib.hid htr
      have Htrl := Lib.hid htrl
      have hmin : min (k : Int) 32 = (mm : Int) := by omega
      have hcut := run_cutStr_h Av k cv mm (by omega)
      have HK := fun (w5 : World) (h5 : SOwn w5 (g + 2) Av k cv (Sym.srt P)) => cloneStr_all Av mm cv w5.heap.size (Sym.train P) w5 htrl (by omega) (by rw [← htr]; exact h5.row.take mm) (Nat.le_refl _)
      replace HK := Lib.hid HK
      have hfar : ∀ j, blk Av = some j → g + 2 ≤ j := fun j hj => hlow j hj
      have Hfar := Lib.hid hfar
      clear hmm hk htr htrl hsl hlow hfar hC hown hrg c3 c4 d3 d4 hc0 hl0
      go_wp2_with fail
      refine HS.out.mono ?_
      rintro e w5 ⟨rfl, ho5, hg5⟩
      have hbel5 : Below (g + 2) w4 w5 := hbel.grown hg5 hszr (fun j hj => Hfar.out j hj)
      go_wp2_with fail
      refine (HK.out w5 ho5).mono ?_
      rintro e w6 ⟨A6, c6, rfl, ho6, hb6⟩
      have hsz5 : g + 2 ≤ w5.heap.size := Nat.le_trans hszr hg5.size
      have hbel6 : Below M w w6 := (hbel4.trans (hbel5.mono (by omega))).trans (hb6.mono (by omega))
      have ho6' := ho6.low (b' := M) (by omega)
      clear HS HK ho5 hg5 hb6 ho6 hcut
      go_wp2
      go_ret
      exact ⟨A6, c6, by rw [Htrl.out]; rfl, by rw [Htrl.out]; exact ho6', hbel6⟩
    · intro x c kl yd yp w2 cnt2 hkey hlk hv hat hrg2 hlt hg2 hs2 hen
      obtain ⟨x', ex, rfl, hxm⟩ := Maps.keyOf_str Try.underlying9 hkey
      obtain rfl : x = x' := encStr_inj ex
      clear ex hkey hxm hs2
      obtain ⟨c', hc', hyd, _⟩ := plainElem_int_inv Try.underlying3 hv
      injection hc' with _ hc'
      subst hc'
      have hxP : x ∈ P := by
        rcases Classical.em (x ∈ P) with h | h
        · exact h
        · have h1 := hD x
          unfold Sym.cnt at h1
          rw [if_neg h] at h1
          have h2 : Maps.has D (.string x) = true := has_true_of_atKey hat
          rw [h1] at h2
          cases h2
      have hcx : c = (P.count x : Int) := by
        have h1 := hD x
        unfold Sym.cnt at h1
        rw [if_pos hxP] at h1
        have h2 := h1.2
        rw [hat] at h2
        have h3 := congrArg Prod.fst hyd
        simp only at h3 h2
        rw [h3] at h2
        injection h2 with h2
        injection h2
      have hx8 := (hP8.out x hxP).2
      have hne : blk Av = none ∨ blk Av ≠ some R := .inr (fun h => row_ne_iter hown hrg (by rw [ownBlock_eq]; exact h.symm))
      have hown2 : SOwn w2 (g + 2) Av ts.length cv ts := hown.kept hg2 hne
      have hbel2 : Below (g + 2) w4 w2 := hbel.grown hg2 hszr (fun j hj => by cases hj; exact hR3)
      have hsz2 : g + 2 ≤ w2.heap.size := Nat.le_trans hszr hg2.size
      have Hme := Lib.hid (show wr.rangeLeft M R = cnt from hrg.left_eq)
      have Hlk := Lib.hid hlk
      have HC2 := Lib.hid hC
      clear hv hyd hat hlk hown hrg hC hg2 hne hbel
      simp only [sval] at hen ⊢
      by_cases hc2 : 2 ≤ P.count x
      · have hcc : (2 : Int) ≤ c := by omega
        have HN := Lib.hid (coll_more HC2.out Hlk.out hc2)
        have hone := (own_str w2 x).row
        have hoa := hown2.alloc (.cells #[.string ⟨x.toArray⟩] 9)
        have hba : Below (g + 2) w4 (w2.alloc (.cells #[.string ⟨x.toArray⟩] 9)) := hbel2.alloc hsz2 _
        have hra := hrg2.alloc (.cells #[.string ⟨x.toArray⟩] 9)
        have hsza : g + 2 ≤ (w2.alloc (.cells #[.string ⟨x.toArray⟩] 9)).heap.size := by simp; omega
        have Hcx := Lib.hid hcx
        clear hcx hown2 hbel2 hrg2 hc2
        go_wp2_with (at_builtin; refine wpList_append_row elemStr rfl (.tmp 21) (.tmp 23) rfl (g + 2) Av ts.length cv ts rfl hoa _ _ 1 1 [x] rfl rfl hone (by omega) (by simp only [maxLen]; omega) hsza ?_; intro A5 c5 w5 ho5 hg5 hat5; go_frame)
        have hneR : some R ≠ blk Av := fun h => row_ne_iter hoa hra (by rw [ownBlock_eq]; exact h)
        have hneM : some M ≠ blk Av := fun h => by have := (hoa.lt h.symm).1; omega
        have hrg5 := hra.kept hg5 hneM hneR
        have hbel5 : Below (g + 2) w4 w5 := hba.grown hg5 hsza (fun j hj => (hoa.lt hj).1)
        have hsz5 : g + 2 ≤ w5.heap.size := Nat.le_trans hsza hg5.size
        have Hl5 := Lib.hid (show (ts ++ [x]).length = ts.length + 1 from by simp)
        clear hg5 hat5 hoa hone hba hra hneR hneM hen
        go_roundw
        case rel => exact ⟨_, cnt2, ts ++ [x], A5, c5, by rw [Hl5.out], by rw [Hl5.out]; exact ho5, hrg5, HN.out, hbel5, hsz5⟩
        case measure => rw [hrg5.left_eq, Hme.out]; exact hlt
      · have hcc : ¬ ((2 : Int) ≤ c) := by omega
        have HN := Lib.hid (coll_same (x := x) HC2.out hc2)
        have Hcx := Lib.hid hcx
        clear hcx hc2
        go_wp2
        go_roundw
        case rel => exact ⟨_, cnt2, ts, Av, cv, rfl, hown2, hrg2, HN.out, hbel2, hsz2⟩
        case measure => rw [hrg2.left_eq, Hme.out]; exact hlt
end Go.Proofs.Ytmcioglidgbibaa
