/- slices.Clone of numbers, rowset.All, and what its closure yields. -/
import Derived.Test.YtggelnlbdpdegaaDoorSeq
import Derived.Test.YtggelnlbdpdegaaDoorRstTz
import Derived.Test.YtggelnlbdpdegaaDoorRstList
import Derived.Lib.SliceRun
namespace Go.Proofs.YtggelnlbdpdegaaDoor
open Go.RowKit Go.Shelf
set_option maxRecDepth 100000

/-- the rows of words, one behind the other, from o on -/
def Rst.from_ : Nat → List UInt64 → List Nat
  | _, [] => []
  | o, x :: r => Rst.lows 64 x.toNat o ++ Rst.from_ (o + 64) r
theorem Rst.from_rows (ws : List UInt64) : ∀ j i, i + j = ws.length → Rst.rows ws (64 * ws.length) = Rst.rows ws (64 * i) ++ Rst.from_ (64 * i) (ws.drop i)
  | 0, i, h => by
    obtain rfl : i = ws.length := by omega
    rw [List.drop_eq_nil_of_le (Nat.le_refl _), Rst.from_, List.append_nil]
  | j + 1, i, h => by
    rw [Rst.from_rows ws j (i + 1) (by omega), Rst.rows_word (show i < ws.length by omega), List.drop_eq_getElem_cons (show i < ws.length by omega), Rst.from_, List.append_assoc, show 64 * (i + 1) = 64 * i + 64 by omega]
theorem Rst.from_all (ws : List UInt64) : Rst.from_ 0 ws = Rst.rows ws (64 * ws.length) := by
  have h := Rst.from_rows ws ws.length 0 (by omega)
  simp only [Nat.mul_zero, List.drop_zero] at h
  rw [h]
  simp [Rst.rows]
theorem Rst.from_at {ws : List UInt64} {i : Nat} (h : i < ws.length) : Rst.from_ (64 * i) (ws.drop i) = Rst.lows 64 ws[i].toNat (64 * i) ++ Rst.from_ (64 * (i + 1)) (ws.drop (i + 1)) := by
  rw [List.drop_eq_getElem_cons h, Rst.from_, show 64 * (i + 1) = 64 * i + 64 by omega]

set_option maxHeartbeats 400000 in
theorem cloneNums_any (A : Option Addr) (n c B : Nat) (l : List UInt64) (w : World) (hl : l.length = n) (hn : 8 * n ≤ 140737488351232) (hb : Nums w B A l) (hB : B ≤ w.heap.size) :
    Calls Tryd.prog 26 #[.slice A n c] w fun e w' => ∃ A' c', e = .returned (.slice A' n c') ∧ NOwn w' w.heap.size A' n c' l ∧ Below w.heap.size w w' := by
  have q22 : ∀ (w : World) (a : Option Addr) (n c n' c' : Nat), (binOp .eql 22 (.slice a n c) (.slice none n' c')).run Tryd.prog w = .ok (.bool a.isNone) w := fun w a n c n' c' => Lib.run_eql_slice_nil w _ _ a n c n' c' Tryd.underlying22
  have Hl := Lib.hid hl
  rcases A with _ | ad
  · obtain rfl := hb.none_
    obtain rfl : 0 = n := by simpa using hl
    clear hl
    go_enter Tryd.func26, Tryd.ntmps26
    go_wp2
    go_ret
    exact ⟨none, 0, rfl, nown_none _ _, Below.refl _ _⟩
  · have ho := ROwn.made (f := uval) (e := 41) w w.heap.size #[] 0 (Nat.le_refl _) (by simp only [maxLen]; omega) rfl
    have hA : Below w.heap.size w (w.alloc (.cells #[] 41)) := (Below.refl _ _).alloc (Nat.le_refl _) _
    have rA := hb.below (hA.mono hB)
    have hzA : w.heap.size ≤ (w.alloc (.cells #[] 41)).heap.size := by simp
    clear hl
    go_enter Tryd.func26, Tryd.ntmps26
    go_wp2_with (at_builtin; refine wpList_append_row elem64 rfl (.tmp 5) (.tmp 6) rfl w.heap.size _ 0 0 [] rfl ho B (some ad) n c l rfl Hl.out rA (by omega) (by simp only [maxLen]; omega) hzA ?_; intro A2 c2 w2 ho2 hg2 hat2)
    have hb2 : Below w.heap.size w w2 := hA.grown hg2 hzA (by intro k hk; simp only [blk, Option.map_some] at hk; injection hk with hk; omega)
    rw [Nat.zero_add, List.nil_append] at ho2
    go_ret
    exact ⟨A2, c2, by simp, ho2, hb2⟩

/-- the words that are walked -/
def walked (N : Int) (ws : List UInt64) : List UInt64 := if Rst.formed N ws = true then ws else []
set_option maxHeartbeats 1000000 in
theorem all_any (N : Int) (A : Option Addr) (n c B : Nat) (ws : List UInt64) (w : World) (hl : ws.length = n) (hn : 8 * n ≤ 140737488351232) (hb : Nums w B A ws) (hB : B ≤ w.heap.size) :
    Calls Tryd.prog 17 #[rval N A n c] w fun e w' => ∃ (b k c' : Nat) (A' : Option Addr), e = .returned (.func (.func 27) #[] #[.pointer (some ⟨b, 0, none⟩)]) ∧
      w.heap.size ≤ b ∧ w'.heap[b]? = some (.cells #[.slice A' k c'] 22) ∧ (walked N ws).length = k ∧ Nums w' w'.heap.size A' (walked N ws) ∧ (∀ ad, A' = some ad → w.heap.size ≤ ad.block) ∧ b < w'.heap.size ∧ Below w.heap.size w w' := by
  have hmf : ∀ (fn : Fn) (first cap : Array Value) (w : World), (Instr.makeFunc fn first cap).run Tryd.prog w = .ok (.func fn first cap) w := fun _ _ _ _ => rfl
  have hx1 := (RBox.new w N A n c).alloc (.cells #[.slice none 0 0] 22)
  have hbel : Below w.heap.size w ((w.alloc (.cells #[.int .i64 N, .slice A n c] 24)).alloc (.cells #[.slice none 0 0] 22)) := ((Below.refl _ _).alloc (Nat.le_refl _) _).alloc (by simp) _
  have hsz : ((w.alloc (.cells #[.int .i64 N, .slice A n c] 24)).alloc (.cells #[.slice none 0 0] 22)).heap.size = w.heap.size + 1 + 1 := by simp
  have hv : ((w.alloc (.cells #[.int .i64 N, .slice A n c] 24)).alloc (.cells #[.slice none 0 0] 22)).heap[w.heap.size + 1]? = some (.cells #[.slice none 0 0] 22) := by
    have e : (w.alloc (.cells #[.int .i64 N, .slice A n c] 24)).heap.size = w.heap.size + 1 := by simp
    rw [← e]
    exact World.alloc_heap_new _ _
  have hb := hb.below (hbel.mono hB)
  have HF := Lib.hid (formed_any N A n c B ws _ hl (by omega) hb (by omega))
  have HC := Lib.hid (fun (W : World) hbW hBW => cloneNums_any A n c B ws W hl hn hbW hBW)
  unfold walked
  have Hl := Lib.hid hl
  clear hl
  by_cases hf : Rst.formed N ws = true
  · rw [if_pos hf]
    rw [hf] at HF
    clear hf
    unfold rval at HF ⊢
    go_enter Tryd.func17, Tryd.ntmps17
    go_wp2_with fail
    generalize (w.alloc (.cells #[.int .i64 N, .slice A n c] 24)).alloc (.cells #[.slice none 0 0] 22) = w1 at *
    refine HF.out.mono ?_
    rintro e w2 ⟨rfl, hb2⟩
    have hx1 := hx1.below hb2 hx1.lt
    have hv : w2.heap[w.heap.size + 1]? = some (.cells #[.slice none 0 0] 22) := (hb2.block _ (by omega)).trans hv
    have hb := hb.below (hb2.mono (by omega))
    have hbel := hbel.trans (hb2.mono (by omega))
    have hs2 := hb2.size
    obtain ⟨c10, c11⟩ := hx1.cell
    clear HF hb2
    go_wp2_with fail
    refine (HC.out _ hb (by omega)).mono ?_
    rintro e w3 ⟨A3, c3, rfl, ho, hb3⟩
    have hv : w3.heap[w.heap.size + 1]? = some (.cells #[.slice none 0 0] 22) := (hb3.block _ (by omega)).trans hv
    have hbel := hbel.trans (hb3.mono (by omega))
    have v0 := Go.Joins.cell_of_block hv 0
    have v1 := Go.Joins.unfrozen_of_block hv 0
    have hvn : (w3.setCell ⟨w.heap.size + 1, 0, none⟩ (.slice A3 n c3)).heap[w.heap.size + 1]? = some (.cells #[.slice A3 n c3] 22) := by
      simp only [World.setCell, Array.getElem?_modify, hv]
      simp
    have hlow : ∀ ad, A3 = some ad → w.heap.size ≤ ad.block := fun ad h => by have := (ho.lt (k := ad.block) (by rw [h]; rfl)).1; omega
    have hrow := (ho.setFar (a := ⟨w.heap.size + 1, 0, none⟩) (by simp; omega) (.slice A3 n c3)).row
    have hbel := hbel.setCell (p := ⟨w.heap.size + 1, 0, none⟩) (by simp) (.slice A3 n c3)
    clear HC hx1 c10 c11 hv hb hb3 ho
    simp only [List.getElem?_toArray, List.getElem?_cons_zero] at v0
    go_wp2
    go_ret
    exact ⟨w.heap.size + 1, n, c3, A3, rfl, by omega, hvn, Hl.out, hrow, hlow, (Array.getElem?_eq_some_iff.1 hvn).1, hbel⟩
  · rw [if_neg hf]
    rw [Bool.not_eq_true] at hf
    rw [hf] at HF
    clear hf HC hb
    unfold rval at HF ⊢
    go_enter Tryd.func17, Tryd.ntmps17
    go_wp2_with fail
    generalize (w.alloc (.cells #[.int .i64 N, .slice A n c] 24)).alloc (.cells #[.slice none 0 0] 22) = w1 at *
    refine HF.out.mono ?_
    rintro e w2 ⟨rfl, hb2⟩
    have hv : w2.heap[w.heap.size + 1]? = some (.cells #[.slice none 0 0] 22) := (hb2.block _ (by omega)).trans hv
    have hbel := hbel.trans (hb2.mono (by omega))
    clear HF hb2 hx1
    go_wp2
    go_ret
    exact ⟨w.heap.size + 1, 0, 0, none, rfl, by omega, hv, rfl, Row.nil _ _ _ _, (fun _ h => by cases h), (Array.getElem?_eq_some_iff.1 hv).1, hbel⟩

/-- what the closure reads: the words' variable, the words, the table -/
def SeesW (A : Option Addr) (k c b B : Nat) (ws : List UInt64) (W : World) : Prop := W.cell? ⟨b, 0, none⟩ = some (.slice A k c) ∧ Nums W B A ws ∧ Tab64 W
theorem drop_cons' {α : Type} {P : List α} {k : Nat} {x : α} {r : List α} (h : P.drop k = x :: r) : ∃ h' : k < P.length, P[k] = x ∧ P.drop (k + 1) = r := by
  have hk : k < P.length := by
    rcases Nat.lt_or_ge k P.length with h' | h'
    · exact h'
    · rw [List.drop_eq_nil_of_le h'] at h; cases h
  rw [List.drop_eq_getElem_cons hk] at h
  injection h with h1 h2
  exact ⟨hk, h1, h2⟩

attribute [local go_sem] Oper.semAt_some
set_option maxHeartbeats 4000000 in
theorem yields_all (m : Nat) (A : Option Addr) (k c b B : Nat) (ws : List UInt64) (hl : ws.length = k) (hk : k ≤ 64) :
    Yields m 27 #[.pointer (some ⟨b, 0, none⟩)] ((asInts (Rst.rows ws (64 * k))).map ival) (SeesW A k c b B ws) := by
  intro y J Jx W hS hY h0
  have HS := Lib.hid hS; clear hS
  have Hl := Lib.hid hl
  obtain ⟨P, hP⟩ : ∃ P, P = Rst.rows ws (64 * k) := ⟨_, rfl⟩
  have HP := Lib.hid (show Rst.from_ 0 ws = P by rw [hP, ← hl]; exact Rst.from_all ws)
  rw [← hP] at hY ⊢
  clear hP hl
  have hYP : ∀ q W1, (h : q < P.length) → J q W1 → YieldAt Fence.wide (m - 1) Tryd.prog y #[.int .i64 ((P[q] : Nat) : Int)] W1 fun e W' => (e = .returned (.bool true) ∧ J (q + 1) W') ∨ (e = .returned (.bool false) ∧ Jx W') := fun q W1 h hJ => by
    have := hY q W1 (by simpa [asInts] using h) hJ
    simpa [asInts, ival] using this
  have HY := Lib.hid hYP; clear hYP hY
  rw [show ((asInts P).map ival).length = P.length by simp [asInts]]
  have hcell := (HS.out 0 W h0).1
  refine callsIn_of_wp Tryd.func27 rfl trivial ?_ rfl
  simp only [Tryd.ntmps27, List.size_toArray, List.length_cons, List.length_nil, Nat.reduceAdd, Nat.reduceSub, Array.replicate_succ, Array.replicate_zero, List.push_toArray, List.append_toArray, List.nil_append, List.cons_append]
  gi_wp2
  gi_loopw [7] (fun i wr => ∃ (j q : Nat), i = .int .i64 (j : Int) ∧ j ≤ k ∧ J q wr ∧ q ≤ P.length ∧ Rst.from_ (64 * j) (ws.drop j) = P.drop q) (fun i _ => k - (intOf i).toNat)
  case atStart => exact ⟨0, 0, rfl, by omega, h0, by omega, by rw [List.drop_zero, List.drop_zero, Nat.mul_zero]; exact HP.out⟩
  case round =>
    clear hcell h0
    obtain ⟨j, q, rfl, hjk, hJ, hqP, hfr⟩ := hrel
    obtain ⟨hcell, hrow, htab⟩ := HS.out q wr hJ
    by_cases hlt : j < k
    · have hj' : j < ws.length := by have := Hl.out; omega
      obtain ⟨ad, hA, _, hc⟩ := hrow.get hj'
      rw [Rst.from_at hj'] at hfr
      simp only [uval] at hc
      have hx := Rst.u64_lt ws[j]
      generalize ws[j].toNat = x at *
      have HFR := Lib.hid hfr
      have HX := Lib.hid hx
      subst hA
      clear hfr hx hrow htab hcell
      have i1 : (j : Int) < (k : Int) := by omega
      have i0 : (0 : Int) ≤ (j : Int) := by omega
      have hj64 : j ≤ 64 := by omega
      gi_wp2_with fail
      gi_loopw [4] (fun v w2 => ∃ (x q : Nat), v = .int .u64 (x : Int) ∧ x < 18446744073709551616 ∧ J q w2 ∧ q ≤ P.length ∧ Rst.lows 64 x (64 * j) ++ Rst.from_ (64 * (j + 1)) (ws.drop (j + 1)) = P.drop q) (fun v _ => (intOf v).toNat)
      case atStart => exact ⟨x, q, rfl, HX.out, hJ, hqP, HFR.out⟩
      case round =>
        clear hJ HFR HX hqP
        obtain ⟨x, q, rfl, hx, hJ, hqP, hfr⟩ := hrel
        by_cases hx0 : x = 0
        · subst hx0
          rw [Rst.lows_zero, List.nil_append] at hfr
          have HFR := Lib.hid hfr
          clear hfr hx
          gi_wp2
          go_roundw
          case rel => exact ⟨j + 1, q, by go_num, hlt, hJ, hqP, HFR.out⟩
          case measure => simp [intOf]; omega
        · rw [Rst.lows_step 64 x (64 * j) hx0 hx, List.cons_append] at hfr
          obtain ⟨hq, hPq, hPd⟩ := drop_cons' hfr.symm
          have HT := Lib.hid (tz_any x wr hx hx0 (HS.out q wr hJ).2.2)
          have hct := (Rst.ctz_lt hx0 hx).2
          rw [(Rst.ctz_lt hx0 hx).1] at hct
          obtain ⟨fn, tmps, assign, body, hy, hRR⟩ := HY.out q wr hq hJ
          rw [hPq] at hy
          have hless := Rst.low_less hx0
          have hand := u64_and_nat x (x - 1) hx (by omega)
          have HPd := Lib.hid hPd
          have HRR := Lib.hid hRR
          obtain ⟨t, ht⟩ : ∃ t, t = Lib.ctzFrom 64 x := ⟨_, rfl⟩
          rw [← ht] at HT hct hy
          obtain ⟨r, hr⟩ : ∃ r : Nat, r = 64 * j + t := ⟨_, rfl⟩
          rw [← hr] at hy
          have hsum : (j : Int) * 64 + (t : Int) = (r : Int) := by omega
          obtain ⟨z, hz⟩ : ∃ z, z = x &&& (x - 1) := ⟨_, rfl⟩
          rw [← hz] at hand hless HPd
          obtain ⟨X, hX, hX0, hX1⟩ : ∃ X : Int, X = (x : Int) ∧ 1 ≤ X ∧ X ≤ 18446744073709551615 := ⟨x, rfl, by omega, by omega⟩
          have hX2 : ((x - 1 : Nat) : Int) = X - 1 := by omega
          rw [hX2, ← hX] at hand
          have hwr : IntKind.u64.wrap (X - 1) = X - 1 := by rw [wrap_u64']; omega
          have hne : (X != 0) = true := bne_iff_ne.2 (by omega)
          rw [← hX] at HT ⊢
          have HXx := Lib.hid hX
          have Hzx := Lib.hid (show z < x from hless)
          have Hx := Lib.hid hx
          have HQ := Lib.hid hq
          clear hx hfr hPq hPd hRR hX hX2 hz ht hr hx0 hless hq hqP
          gi_wp2_with fail
          refine ⟨trivial, (fun h => by cases h), (callsIn_wide.2 HT.out).mono ?_⟩
          rintro e w1 ⟨rfl, rfl⟩
          gi_wp2
          refine ⟨(fun h => by cases h), HRR.out.mono ?_⟩
          rintro e W3 (⟨rfl, hJ3⟩ | ⟨rfl, hJx3⟩)
          · gi_wp2
            go_roundw
            case rel => exact ⟨z, q + 1, rfl, by have := Hzx.out; have := Hx.out; omega, hJ3, HQ.out, HPd.out.symm⟩
            case measure => have := Hzx.out; have := HXx.out; simp [intOf]; omega
          · gi_wp2
            refine bodyPost_ret (results_none rfl _ _ _) rfl ?_
            exact ⟨⟨_, rfl⟩, .inr hJx3⟩
    · obtain rfl : j = k := by omega
      rw [List.drop_eq_nil_of_le (by rw [Hl.out]; exact Nat.le_refl _), Rst.from_] at hfr
      have HPd := Lib.hid (show J P.length wr by
        have h1 := List.drop_eq_nil_iff.1 hfr.symm
        rw [show P.length = q by omega]
        exact hJ)
      clear hfr
      gi_wp2
      go_end0
      exact ⟨⟨_, rfl⟩, .inl HPd.out⟩
end Go.Proofs.YtggelnlbdpdegaaDoor
