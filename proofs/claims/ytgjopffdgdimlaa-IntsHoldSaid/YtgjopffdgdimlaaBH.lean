/- Texts of several layers, one behind the other: IcHold. -/
import Derived.Test.YtgjopffdgdimlaaBG

/- The zone of a granule's cells holds each of its numbers, and its ends stand there; the law's helper 'some'. -/
namespace Go.Proofs.Ytgjopffdgdimlaa
open Go.RowKit
set_option maxRecDepth 100000

theorem snoc_ind {α : Type} {P : List α → Prop} (h0 : P []) (hs : ∀ l a, P l → P (l ++ [a])) (l : List α) : P l := by
  have h : ∀ k, k ≤ l.length → P (l.take k) := by
    intro k
    induction k with
    | zero => intro _; rw [List.take_zero]; exact h0
    | succ k ih =>
      intro hk
      rw [List.take_succ_eq_append_getElem (by omega)]
      exact hs _ _ (ih (by omega))
  have := h l.length (Nat.le_refl _)
  rwa [List.take_length] at this
theorem Ict.zone_snoc (cs : List (Bool × Int)) (c : Bool × Int) : Ict.zone (cs ++ [c]) = Ict.zadd (Ict.zone cs) c := by
  unfold Ict.zone
  rw [List.foldl_append]
  rfl
/-- what a zone says of its cells -/
def Ict.Says (cs : List (Bool × Int)) (z : Bool × Int × Int) : Prop :=
  z.1 = cs.any (·.1) ∧ (∀ c ∈ cs, c.1 = true → z.2.1 ≤ c.2 ∧ c.2 ≤ z.2.2) ∧ (z.1 = true → cs.any (fun c => c.1 && c.2 == z.2.1) = true ∧ cs.any (fun c => c.1 && c.2 == z.2.2) = true) ∧ (z.1 = false → z = (false, 0, 0))
theorem Ict.zone_says (cs : List (Bool × Int)) : Ict.Says cs (Ict.zone cs) := by
  refine snoc_ind (P := fun cs => Ict.Says cs (Ict.zone cs)) ?_ ?_ cs
  · exact ⟨rfl, (fun c h => by cases h), (fun h => by cases h), fun _ => rfl⟩
  · intro cs c ih
    rw [Ict.zone_snoc]
    obtain ⟨h1, h2, h3, h4⟩ := ih
    generalize Ict.zone cs = z at *
    obtain ⟨s, lo, hi⟩ := z
    obtain ⟨h, x⟩ := c
    simp only at h1 h2 h3 h4
    cases h
    · refine ⟨?_, ?_, ?_, ?_⟩
      · simp [Ict.zadd, h1]
      · intro c hc hc1
        rcases List.mem_append.1 hc with hc | hc
        · exact h2 c hc hc1
        · rw [List.mem_singleton.1 hc] at hc1; cases hc1
      · intro hs
        have := h3 hs
        simp only [Ict.zadd, Bool.false_eq_true, if_false, List.any_append, this.1, this.2]
        simp
      · intro hs
        exact h4 hs
    · cases s
      · have hno : ∀ c ∈ cs, c.1 = false := by
          intro c hc
          have := (List.any_eq_false.1 h1.symm) c hc
          simpa using this
        refine ⟨by simp [Ict.zadd], ?_, ?_, ?_⟩
        · intro c hc hc1
          rcases List.mem_append.1 hc with hc | hc
          · rw [hno c hc] at hc1; cases hc1
          · rw [List.mem_singleton.1 hc]
            simp [Ict.zadd]
        · intro _
          simp [Ict.zadd]
        · intro hs
          simp [Ict.zadd] at hs
      · refine ⟨by simp [Ict.zadd], ?_, ?_, ?_⟩
        · intro c hc hc1
          simp only [Ict.zadd, if_true]
          rcases List.mem_append.1 hc with hc | hc
          · have := h2 c hc hc1
            omega
          · rw [List.mem_singleton.1 hc]
            simp only
            omega
        · intro _
          obtain ⟨g1, g2⟩ := h3 rfl
          simp only [Ict.zadd, if_true]
          constructor
          · rw [List.any_append]
            by_cases hx : x < lo
            · rw [show min lo x = x by omega]
              simp
            · rw [show min lo x = lo by omega, g1]
              rfl
          · rw [List.any_append]
            by_cases hx : hi < x
            · rw [show max hi x = x by omega]
              simp
            · rw [show max hi x = hi by omega, g2]
              rfl
        · intro hs
          simp [Ict.zadd] at hs
theorem Ict.gran_length (l : List (Bool × Int)) (g : Nat) : (Ict.gran l g).length = min 16 (l.length - 16 * g) := by
  unfold Ict.gran
  rw [List.length_take, List.length_drop]
theorem Ict.gran_get {l : List (Bool × Int)} {g j : Nat} (h : j < (Ict.gran l g).length) : ∃ h' : 16 * g + j < l.length, (Ict.gran l g)[j] = l[16 * g + j] := by
  have h2 := h
  rw [Ict.gran_length] at h2
  have hlt : 16 * g + j < l.length := by omega
  have e : (Ict.gran l g)[j]? = l[16 * g + j]? := by
    unfold Ict.gran
    rw [List.getElem?_take, if_pos (by omega), List.getElem?_drop]
  rw [List.getElem?_eq_getElem h, List.getElem?_eq_getElem hlt] at e
  exact ⟨hlt, Option.some.inj e⟩

set_option maxHeartbeats 1000000 in
theorem some_any (A : Option Addr) (n cap B k : Nat) (l : List (Bool × Int)) (w : World) (hl : l.length = n) (hn : n ≤ 4096) (hk : k ≤ 300) (hb : Cols w B A l) :
    Calls Try.prog 25 #[.slice A n cap, .int .i64 (k : Int)] w fun e w' => e = .returned (.bool ((Ict.gran l k).any (·.1))) ∧ w = w' := by
  have hgl := Ict.gran_length l k
  rw [hl] at hgl
  obtain ⟨q, hq⟩ : ∃ q, q = (Ict.gran l k).length := ⟨_, rfl⟩
  rw [← hq] at hgl
  have Hq := Lib.hid hq
  have Hgl := Lib.hid hgl
  obtain ⟨G, hG⟩ : ∃ G, G = (Ict.gran l k).any (·.1) := ⟨_, rfl⟩
  rw [← hG]
  have HG := Lib.hid hG
  clear hq hgl hG hl
  go_enter Try.func25, Try.ntmps25
  go_wp2
  go_loopw [5] (fun i wr => ∃ (j I : Nat), j ≤ q ∧ Hid (I = 16 * k + j) ∧ i = .int .i64 (I : Int) ∧ ((Ict.gran l k).take j).any (·.1) = false ∧ w = wr) (fun i _ => 16 * k + q - (intOf i).toNat)
  case atStart => exact ⟨0, 16 * k, Nat.zero_le _, Lib.hid rfl, by simp, rfl, rfl⟩
  case round =>
    obtain ⟨j, I, hj, HI, rfl, hno, rfl⟩ := hrel
    by_cases hlt : j < q
    · have hj' : j < (Ict.gran l k).length := by have := Hq.out; omega
      obtain ⟨h', hgg⟩ := Ict.gran_get hj'
      have hIl : I < l.length := by have := HI.out; omega
      obtain ⟨ad, rfl, _, hc0, hc1, hc2⟩ := Cols.at_ hb hIl
      have hcl : l[I] = (Ict.gran l k)[j] := by
        rw [hgg]
        congr 1
      rw [hcl] at hc0
      have htk : ((Ict.gran l k).take (j + 1)).any (·.1) = (Ict.gran l k)[j].1 := by rw [List.take_succ_eq_append_getElem hj', List.any_append, hno]; simp
      have hmem := List.getElem_mem hj'
      have i1 : (I : Int) < (n : Int) := by have := HI.out; have := Hgl.out; omega
      have i0 : (0 : Int) ≤ (I : Int) := by omega
      have i2 : (I : Int) < 16 * (k : Int) + 16 := by have := HI.out; have := Hgl.out; omega
      have HM := Lib.hid (show (Ict.gran l k)[j].1 = true → G = true from fun h => by rw [HG.out]; exact List.any_eq_true.2 ⟨_, hmem, h⟩)
      have Htk := Lib.hid htk
      clear htk hgg hcl hno hc1 hc2
      rcases hh : (Ict.gran l k)[j].1 with _ | _
      · rw [hh] at hc0
        have Hn := Lib.hid (Htk.out.trans hh)
        clear hh Htk HM
        go_wp2
        go_roundw
        case rel => exact ⟨j + 1, I + 1, by omega, Lib.hid (by have := HI.out; omega), by go_num, Hn.out, by trivial⟩
        case measure => have := HI.out; simp [intOf]; omega
      · rw [hh] at hc0
        have Hn := Lib.hid (HM.out hh)
        clear hh Htk HM
        go_wp2
        go_ret
        exact ⟨by rw [Hn.out]; rfl, by trivial⟩
    · have hjq : j = q := by omega
      rw [List.take_of_length_le (by have := Hq.out; omega)] at hno
      have Hn := Lib.hid (show G = false by rw [HG.out]; exact hno)
      clear hno
      by_cases hend : (I : Int) < (n : Int)
      · have i2 : ¬ (I : Int) < 16 * (k : Int) + 16 := by have := HI.out; have := Hgl.out; omega
        go_wp2
        go_ret
        exact ⟨by rw [Hn.out]; rfl, by trivial⟩
      · go_wp2
        go_ret
        exact ⟨by rw [Hn.out]; rfl, by trivial⟩
end Go.Proofs.Ytgjopffdgdimlaa
