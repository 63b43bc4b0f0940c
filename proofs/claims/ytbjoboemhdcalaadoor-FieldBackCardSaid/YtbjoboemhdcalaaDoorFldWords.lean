/- field.words: the words of a line, one behind the other. -/
import Derived.Test.YtbjoboemhdcalaaDoorFldSeq
namespace Go.Proofs.YtbjoboemhdcalaaDoor
open Go.RowKit Go.Shelf
set_option maxRecDepth 100000

/-- a word of the line, as it is yielded -/
def wval (A : Option Addr) (cap : Nat) (p : Nat × Nat) : Value := .slice (cutAt A cap p.1) (p.2 - p.1) (cap - p.1)
/-- what words reads: the line's variable and the line -/
def Sees (A : Option Addr) (n cap b B : Nat) (l : List UInt8) (W : World) : Prop := W.cell? ⟨b, 0, none⟩ = some (.slice A n cap) ∧ Bytes W B A l

theorem words_any (A : Option Addr) (n cap : Nat) (w : World) : Calls Tryd.prog 29 #[.slice A n cap] w fun e w' =>
    e = .returned (.func (.func 39) #[] #[.pointer (some ⟨w.heap.size, 0, none⟩)]) ∧ w' = w.alloc (.cells #[.slice A n cap] 31) := by
  have hmf : ∀ (fn : Fn) (first cap : Array Value) (w : World), (Instr.makeFunc fn first cap).run Tryd.prog w = .ok (.func fn first cap) w := fun _ _ _ _ => rfl
  go_enter Tryd.func29, Tryd.ntmps29
  go_wp2
  go_ret
  exact ⟨rfl, rfl⟩

theorem drop_cons {α : Type} {P : List α} {k : Nat} {x : α} {r : List α} (h : P.drop k = x :: r) : ∃ h' : k < P.length, P[k] = x ∧ P.drop (k + 1) = r := by
  have hk : k < P.length := by
    rcases Nat.lt_or_ge k P.length with h' | h'
    · exact h'
    · rw [List.drop_eq_nil_of_le h'] at h; cases h
  rw [List.drop_eq_getElem_cons hk] at h
  injection h with h1 h2
  exact ⟨hk, h1, h2⟩

attribute [local go_sem] Oper.semAt_some
set_option maxHeartbeats 4000000 in
theorem yields_words (m : Nat) (A : Option Addr) (n cap b B : Nat) (l : List UInt8) (hl : l.length = n) (hnc : n ≤ cap) (hn : n ≤ 140737488355328) :
    Yields m 39 #[.pointer (some ⟨b, 0, none⟩)] ((Fld.spans 0 0 l).map (wval A cap)) (Sees A n cap b B l) := by
  intro y J Jx W hS hY h0
  have HS := Lib.hid hS; clear hS
  have Hl := Lib.hid hl; clear hl
  obtain ⟨P, hP⟩ : ∃ P, P = Fld.spans 0 0 l := ⟨_, rfl⟩
  rw [← hP] at hY ⊢
  have HP := Lib.hid hP; clear hP
  have hYP : ∀ k W1, (h : k < P.length) → J k W1 → YieldAt Fence.wide (m - 1) Tryd.prog y #[wval A cap P[k]] W1 fun e W' => (e = .returned (.bool true) ∧ J (k + 1) W') ∨ (e = .returned (.bool false) ∧ Jx W') := fun k W1 h hJ => by
    have := hY k W1 (by simpa using h) hJ
    rwa [List.getElem_map] at this
  have HY := Lib.hid hYP; clear hYP hY
  rw [List.length_map]
  have hcell := (HS.out 0 W h0).1
  refine callsIn_of_wp Tryd.func39 rfl trivial ?_ rfl
  simp only [Tryd.ntmps39, List.size_toArray, List.length_cons, List.length_nil, Nat.reduceAdd, Nat.reduceSub, Array.replicate_succ, Array.replicate_zero, List.push_toArray, List.append_toArray, List.nil_append, List.cons_append]
  gi_wp2
  gi_loopw [3, 8] (fun a i wr => ∃ (s j k : Nat), a = .int .i64 (s : Int) ∧ i = .int .i64 (j : Int) ∧ s ≤ j ∧ j ≤ n ∧ J k wr ∧ k ≤ P.length ∧ Fld.spans s j (l.drop j) = P.drop k) (fun _ i _ => n - (intOf i).toNat)
  case atStart => exact ⟨0, 0, 0, rfl, rfl, by omega, by omega, h0, by omega, by rw [HP.out]; rfl⟩
  case round =>
    clear hcell h0
    obtain ⟨s, j, k, rfl, rfl, hsj, hjn, hJ, hkP, hsp⟩ := hrel
    obtain ⟨hcell, hbytes⟩ := HS.out k wr hJ
    by_cases hlt : j < n
    · have hj' : j < l.length := by have := Hl.out; omega
      obtain ⟨ad, hA, _, hc⟩ := hbytes.get hj'
      have HB := Lib.hid (fun W => isBlank_any l[j] W)
      have Hb := Lib.hid (Fld.spans_blank (s := s) hj')
      have Hi := Lib.hid (Fld.spans_in (s := s) hj')
      subst hA
      rcases hbl : Fld.blank l[j] with _ | _
      · rw [hbl] at HB
        have HR := Lib.hid (show Fld.spans s (j + 1) (l.drop (j + 1)) = P.drop k by rw [← Hi.out hbl]; exact hsp)
        clear hbl hsp Hb Hi
        generalize l[j] = d at *
        have i1 : (j : Int) < (n : Int) := by omega
        have i0 : (0 : Int) ≤ (j : Int) := by omega
        gi_wp2_with fail
        refine ⟨trivial, (fun h => by cases h), (callsIn_wide.2 (HB.out _)).mono ?_⟩
        rintro e w1 ⟨rfl, rfl⟩
        gi_wp2
        go_roundw
        case rel => exact ⟨s, j + 1, k, rfl, by go_num, by omega, by omega, hJ, hkP, HR.out⟩
        case measure => simp [intOf]; omega
      · rw [hbl] at HB
        have i1 : (j : Int) < (n : Int) := by omega
        have i0 : (0 : Int) ≤ (j : Int) := by omega
        by_cases hss : s < j
        · have hR := hsp
          rw [Hb.out hbl, if_pos hss] at hR
          obtain ⟨hk, hPk, hPd⟩ := drop_cons hR.symm
          obtain ⟨fn, tmps, assign, body, hy, hRR⟩ := HY.out k wr hk hJ
          rw [hPk] at hy
          simp only [wval] at hy
          have HPd := Lib.hid hPd
          have HRR := Lib.hid hRR
          clear hRR hbl hsp Hb Hi hR hPk hPd
          have hcut := run_cut_lh (some ad) n cap s j hsj (by omega)
          have i2 : (s : Int) < (j : Int) := by omega
          generalize l[j] = d at *
          generalize cutAt (some ad) cap s = A3 at *
          gi_wp2_with fail
          refine ⟨trivial, (fun h => by cases h), (callsIn_wide.2 (HB.out _)).mono ?_⟩
          rintro e w1 ⟨rfl, rfl⟩
          gi_wp2
          refine ⟨(fun h => by cases h), HRR.out.mono ?_⟩
          rintro e W3 (⟨rfl, hJ3⟩ | ⟨rfl, hJx3⟩)
          · gi_wp2
            go_roundw
            case rel => exact ⟨j + 1, j + 1, k + 1, by go_num, by go_num, by omega, by omega, hJ3, hk, HPd.out.symm⟩
            case measure => simp [intOf]; omega
          · gi_wp2
            refine bodyPost_ret (results_none rfl _ _ _) rfl ?_
            exact ⟨⟨_, rfl⟩, .inr hJx3⟩
        · have HR := Lib.hid (show Fld.spans (j + 1) (j + 1) (l.drop (j + 1)) = P.drop k by rw [← hsp, Hb.out hbl, if_neg hss])
          have i2 : ¬ (s : Int) < (j : Int) := by omega
          clear hbl hsp Hb Hi
          generalize l[j] = d at *
          gi_wp2_with fail
          refine ⟨trivial, (fun h => by cases h), (callsIn_wide.2 (HB.out _)).mono ?_⟩
          rintro e w1 ⟨rfl, rfl⟩
          gi_wp2
          refine ⟨(fun f h => by cases h), ?_⟩
          gi_wp2
          go_roundw
          case rel => exact ⟨j + 1, j + 1, k, by go_num, by go_num, by omega, by omega, hJ, hkP, HR.out⟩
          case measure => simp [intOf]; omega
    · have hjn' : j = n := by omega
      subst hjn'
      have hR := hsp
      rw [Fld.spans_end (Hl.out.symm)] at hR
      clear hsp
      by_cases hss : s < j
      · rw [if_pos hss] at hR
        obtain ⟨hk, hPk, hPd⟩ := drop_cons hR.symm
        obtain ⟨fn, tmps, assign, body, hy, hRR⟩ := HY.out k wr hk hJ
        rw [hPk] at hy
        simp only [wval] at hy
        have HPd := Lib.hid (show k + 1 = P.length by have := List.drop_eq_nil_iff.1 hPd; omega)
        have HRR := Lib.hid hRR
        clear hRR hR hPk hPd
        have hcut := run_cut_l A j cap s hsj
        have i2 : (s : Int) < (j : Int) := by omega
        generalize cutAt A cap s = A3 at *
        gi_wp2
        refine ⟨(fun h => by cases h), HRR.out.mono ?_⟩
        rintro e W3 (⟨rfl, hJ3⟩ | ⟨rfl, hJx3⟩)
        · gi_wp2
          go_end0
          exact ⟨⟨_, rfl⟩, .inl (by rw [← HPd.out]; exact hJ3)⟩
        · gi_wp2
          go_end0
          exact ⟨⟨_, rfl⟩, .inr hJx3⟩
      · rw [if_neg hss] at hR
        have HPd := Lib.hid (show J P.length wr by
          have h1 := List.drop_eq_nil_iff.1 hR.symm
          rw [show P.length = k by omega]
          exact hJ)
        have i2 : ¬ (s : Int) < (j : Int) := by omega
        clear hR
        gi_wp2
        go_end0
        exact ⟨⟨_, rfl⟩, .inl HPd.out⟩
end Go.Proofs.YtbjoboemhdcalaaDoor
