/- field.fieldOf: the field of a word. -/
import Derived.Test.YtbjoboemhdcalaaDoorFldCut
namespace Go.Proofs.YtbjoboemhdcalaaDoor
open Go.RowKit
set_option maxRecDepth 100000

theorem cell_marked (w : World) (C : Array Value) (t : TypeId) (m : Nat × Nat) (i : Nat) : (w.alloc (.cells C t m)).cell? ⟨w.heap.size, i, none⟩ = C[i]? := by
  have h : (w.alloc (.cells C t m)).heap[w.heap.size]? = some (.cells C t m) := new_block w _
  simp only [World.cell?, h]
  rfl
theorem run_eq (w : World) : (convert 31 31 (.slice (some ⟨w.heap.size, 0, none⟩) 1 1)).run Tryd.prog (w.alloc (.cells #[.int .u8 61] 5)) = .ok (.slice (some ⟨w.heap.size, 0, none⟩) 1 1) (w.alloc (.cells #[.int .u8 61] 5 (1, 2))) :=
  Lib.run_convert_bytes_const (P := Tryd.prog) w 31 5 #[.int .u8 61] 1 1 Tryd.underlying31 Tryd.underlying5

/-- the block of a field, of one's own -/
theorem FBox.box_below {w w' : World} {g : Nat} {f : Fld.F} (h : FBox w g f) (hd : Drawn w w') : FBox w' g f := by
  obtain ⟨q, rfl⟩ := hd
  exact h

theorem FBox.set {W : World} {g : Nat} {f : Fld.F} (h : FBox W g f) (f' : Fld.F) :
    FBox ((((W.setCell ⟨g, 0, none⟩ (.string ⟨f'.key.toArray⟩)).setCell ⟨g, 1, none⟩ (.int .i64 f'.kind)).setCell ⟨g, 2, none⟩ (.int .i64 f'.int)).setCell ⟨g, 3, none⟩ (.string ⟨f'.text.toArray⟩)) g f' :=
  (Go.Joins.block_setCell (Go.Joins.block_setCell (Go.Joins.block_setCell (Go.Joins.block_setCell h _) _) _) _).trans rfl
theorem below_set {B g : Nat} {w W : World} (h : Below B w W) (hg : B ≤ g) (v0 v1 v2 v3 : Value) : Below B w ((((W.setCell ⟨g, 0, none⟩ v0).setCell ⟨g, 1, none⟩ v1).setCell ⟨g, 2, none⟩ v2).setCell ⟨g, 3, none⟩ v3) :=
  (((h.setCell hg _).setCell hg _).setCell hg _).setCell hg _
theorem Fld.one_long {l : List UInt8} {E : Nat} (h : ¬ (l.drop (E + 1)).length ≤ 64) {P Q : Prop} : ¬ (P ∧ Q ∧ (l.drop (E + 1)).length ≤ 64) := fun x => h x.2.2

set_option maxHeartbeats 4000000 in
theorem fieldOf_any (ad : Addr) (n c B : Nat) (l : List UInt8) (w : World) (hl : l.length = n) (hnc : n ≤ c) (hn : n ≤ 140737488355328) (hb : Bytes w B (some ad) l) (hB : B ≤ w.heap.size) (hne : l ≠ []) (hv : Vars w) :
    Calls Tryd.prog 30 #[.slice (some ad) n c] w (AtPost (Fld.one l) w) := by
  generalize hO : Fld.one l = O
  have HO := Lib.hid hO; clear hO
  have hsz1 : (w.alloc (.cells #[.string ⟨#[]⟩, .int .i64 0, .int .i64 0, .string ⟨#[]⟩] 27)).heap.size = w.heap.size + 1 := by simp
  have hbel1 : Below w.heap.size w (w.alloc (.cells #[.string ⟨#[]⟩, .int .i64 0, .int .i64 0, .string ⟨#[]⟩] 27)) := (Below.refl _ w).alloc (Nat.le_refl _) _
  have hbox1 : FBox (w.alloc (.cells #[.string ⟨#[]⟩, .int .i64 0, .int .i64 0, .string ⟨#[]⟩] 27)) w.heap.size Fld.zero := FBox.new w Fld.zero
  have hcv := run_eq (w.alloc (.cells #[.string ⟨#[]⟩, .int .i64 0, .int .i64 0, .string ⟨#[]⟩] 27))
  rw [hsz1] at hcv
  have hbel2 : Below w.heap.size w ((w.alloc (.cells #[.string ⟨#[]⟩, .int .i64 0, .int .i64 0, .string ⟨#[]⟩] 27)).alloc (.cells #[.int .u8 61] 5 (1, 2))) := hbel1.alloc (by omega) _
  have hbox2 : FBox ((w.alloc (.cells #[.string ⟨#[]⟩, .int .i64 0, .int .i64 0, .string ⟨#[]⟩] 27)).alloc (.cells #[.int .u8 61] 5 (1, 2))) w.heap.size Fld.zero := hbox1.below ((Below.refl _ _).alloc (Nat.le_refl _) _)
  have hc2 : ((w.alloc (.cells #[.string ⟨#[]⟩, .int .i64 0, .int .i64 0, .string ⟨#[]⟩] 27)).alloc (.cells #[.int .u8 61] 5 (1, 2))).cell? ⟨w.heap.size + 1, 0, none⟩ = some (.int .u8 61) := by rw [← hsz1]; exact cell_marked (w.alloc (.cells #[.string ⟨#[]⟩, .int .i64 0, .int .i64 0, .string ⟨#[]⟩] 27)) _ _ _ 0
  have hb2 := (hb.wide hB).below hbel2
  have HC := Lib.hid (cut_any ad n c w.heap.size (w.heap.size + 1) 1 l _ hl hnc hn hb2 hne hc2)
  clear hc2 hbox1 hsz1 hbel1
  generalize hw2 : (w.alloc (.cells #[.string ⟨#[]⟩, .int .i64 0, .int .i64 0, .string ⟨#[]⟩] 27)).alloc (.cells #[.int .u8 61] 5 (1, 2)) = w2 at *
  have Hl := Lib.hid hl; clear hl hw2
  have Hb := Lib.hid hb2; clear hb hb2
  have Hv := Lib.hid (hv.below hbel2); clear hv
  have hone : Hid (O = if Fld.eqAt l < l.length ∧ Fld.isKey (l.take (Fld.eqAt l)) = true ∧ (l.drop (Fld.eqAt l + 1)).length ≤ 64 then some (Fld.mk (l.take (Fld.eqAt l)) (l.drop (Fld.eqAt l + 1))) else none) := Lib.hid HO.out.symm
  clear HO
  unfold cutAns at HC
  by_cases hlt : Fld.eqAt l < l.length
  · rw [if_pos hlt] at HC
    generalize hE : Fld.eqAt l = E at *
    clear hE
    have Hlt := Lib.hid hlt; clear hlt
    have hEn : E + 1 ≤ n := by have := Hl.out; have := Hlt.out; omega
    have hdl : (l.drop (E + 1)).length = n - (E + 1) := by rw [List.length_drop, Hl.out]
    have hkl : (l.take E).length = E := by rw [List.length_take, Hl.out]; omega
    by_cases h64 : n - (E + 1) ≤ 64
    · have t64 : ¬ (64 : Int) < ((n - (E + 1) : Nat) : Int) := by omega
      have hstr : ∀ w3, Drawn w2 w3 → (convert 31 9 (.slice (some ad) E c)).run Tryd.prog w3 = .ok (.string ⟨(l.take E).toArray⟩) w3 ∧
          (convert 31 9 (.slice (cutAt (some ad) c (E + 1)) (n - (E + 1)) (c - (E + 1)))).run Tryd.prog w3 = .ok (.string ⟨(l.drop (E + 1)).toArray⟩) w3 := fun w3 hd => by
        have hb3 := Hb.out.below (hd.below _)
        have h1 := run_string_of (hb3.take E) c
        rw [hkl] at h1
        have h2 := run_string_of (hb3.cut (k := E + 1) (cap := c) (by rw [Hl.out]; omega) (by rw [Hl.out]; exact hnc)) (c - (E + 1))
        rw [hdl] at h2
        exact ⟨h1, h2⟩
      have HS := Lib.hid hstr; clear hstr
      have HK := Lib.hid (fun W => isKey_any (l.take E) W (by rw [hkl]; omega))
      have HNm := Lib.hid (fun W hb => number_any (l.drop (E + 1)) W (by rw [hdl]; omega) (Hv.out.below hb))
      have HT := Lib.hid (show O = if Fld.isKey (l.take E) = true then some (Fld.mk (l.take E) (l.drop (E + 1))) else none by
        rw [hone.out]
        by_cases hk : Fld.isKey (l.take E) = true
        · rw [if_pos ⟨Hlt.out, hk, by rw [hdl]; exact h64⟩, if_pos hk]
        · rw [if_neg (fun h => hk h.2.1), if_neg hk])
      clear hone hdl hkl
      unfold NumPost at HNm
      generalize l.take E = K at *
      generalize l.drop (E + 1) = V at *
      generalize cutAt (some ad) c (E + 1) = A2 at *
      generalize n - (E + 1) = m at *
      go_enter Tryd.func30, Tryd.ntmps30
      go_wp2_with fail
      refine HC.out.mono ?_
      rintro e w3 ⟨rfl, hd⟩
      have hcs1 := fun q => (HS.out (w3.drewN q) (hd.drewN q)).1
      have hcs2 := fun q => (HS.out (w3.drewN q) (hd.drewN q)).2
      have hbox3 := hbox2.box_below hd
      have hbel3 : Below w.heap.size w w3 := hbel2.trans (hd.below _)
      clear HC
      go_wp2_with fail
      go_quiet (fail)
      have hbox4 : FBox (w3.drewN nq) w.heap.size Fld.zero := hbox3
      have hbel4 := below_drewN hbel3 nq
      have hd4 := hd.drewN nq
      clear hcs1 hcs2 hbox3 hbel3 hd
      generalize w3.drewN nq = w4 at *
      rcases hk : Fld.isKey K with _ | _
      · rw [hk] at HK HT
        have HN := Lib.hid (show O = none by rw [HT.out, if_neg (by simp)])
        clear hk HT
        obtain ⟨c0, c1, c2, c3⟩ := hbox4.cell
        have f0 := hbox4.free 0
        have f1 := hbox4.free 1
        have f2 := hbox4.free 2
        have f3 := hbox4.free 3
        simp only [Fld.zero] at c0 c1 c2 c3
        go_wp2_with fail
        refine (HK.out _).mono ?_
        rintro e w5 ⟨rfl, rfl⟩
        go_wp2
        refine bodyPost_ret ((hbox4.set Fld.zero).results rfl rfl) rfl ?_
        exact ⟨by rw [HN.out]; rfl, below_set hbel4 (Nat.le_refl _) _ _ _ _⟩
      · rw [hk] at HK HT
        have HN := Lib.hid (show O = some (Fld.mk K V) by rw [HT.out, if_pos rfl])
        clear hk HT
        have HM := Lib.hid (show Fld.mk K V = match Fld.num V with | some n => ⟨K, 1, n, []⟩ | none => ⟨K, 2, 0, V⟩ from rfl)
        have HNm2 := Lib.hid (HNm.out w4 (hd4.below _))
        clear HNm
        go_wp2_with fail
        refine (HK.out _).mono ?_
        rintro e w5 ⟨rfl, rfl⟩
        rcases hnum : Fld.num V with _ | v
        · rw [hnum] at HNm2 HM
          clear hnum
          simp only [Option.getD_none, Option.isSome_none] at HNm2
          go_wp2_with fail
          refine HNm2.out.mono ?_
          rintro e w6 ⟨rfl, hb6⟩
          have hbox6 := hbox4.below hb6
          have hbel6 := hbel4.trans (hb6.mono hbel4.size)
          obtain ⟨c0, c1, c2, c3⟩ := hbox6.cell
          have f0 := hbox6.free 0
          have f1 := hbox6.free 1
          have f2 := hbox6.free 2
          have f3 := hbox6.free 3
          simp only [Fld.zero] at c0 c1 c2 c3
          go_wp2
          refine bodyPost_ret ((hbox6.set ⟨K, 2, 0, V⟩).results rfl rfl) rfl ?_
          exact ⟨by rw [HN.out, HM.out]; rfl, below_set hbel6 (Nat.le_refl _) _ _ _ _⟩
        · rw [hnum] at HNm2 HM
          clear hnum
          simp only [Option.getD_some, Option.isSome_some] at HNm2
          go_wp2_with fail
          refine HNm2.out.mono ?_
          rintro e w6 ⟨rfl, hb6⟩
          have hbox6 := hbox4.below hb6
          have hbel6 := hbel4.trans (hb6.mono hbel4.size)
          obtain ⟨c0, c1, c2, c3⟩ := hbox6.cell
          have f0 := hbox6.free 0
          have f1 := hbox6.free 1
          have f2 := hbox6.free 2
          have f3 := hbox6.free 3
          simp only [Fld.zero] at c0 c1 c2 c3
          go_wp2
          refine bodyPost_ret ((hbox6.set ⟨K, 1, v, []⟩).results rfl rfl) rfl ?_
          exact ⟨by rw [HN.out, HM.out]; rfl, below_set hbel6 (Nat.le_refl _) _ _ _ _⟩
    · have t64 : (64 : Int) < ((n - (E + 1) : Nat) : Int) := by omega
      have HN := Lib.hid (show O = none by rw [hone.out, if_neg (Fld.one_long (by rw [hdl]; exact h64))])
      clear hone hdl hkl
      generalize cutAt (some ad) c (E + 1) = A2 at *
      generalize n - (E + 1) = m at *
      go_enter Tryd.func30, Tryd.ntmps30
      go_wp2_with fail
      refine HC.out.mono ?_
      rintro e w3 ⟨rfl, hd⟩
      have hbox3 := hbox2.box_below hd
      have hbel3 : Below w.heap.size w w3 := hbel2.trans (hd.below _)
      obtain ⟨c0, c1, c2, c3⟩ := hbox3.cell
      have f0 := hbox3.free 0
      have f1 := hbox3.free 1
      have f2 := hbox3.free 2
      have f3 := hbox3.free 3
      simp only [Fld.zero] at c0 c1 c2 c3
      clear hd
      go_wp2
      refine bodyPost_ret ((hbox3.set Fld.zero).results rfl rfl) rfl ?_
      exact ⟨by rw [HN.out]; rfl, below_set hbel3 (Nat.le_refl _) _ _ _ _⟩
  · rw [if_neg hlt] at HC
    have HN := Lib.hid (show O = none by rw [hone.out, if_neg (fun h => hlt h.1)])
    clear hone hlt
    go_enter Tryd.func30, Tryd.ntmps30
    go_wp2_with fail
    refine HC.out.mono ?_
    rintro e w3 ⟨rfl, hd⟩
    have hbox3 := hbox2.box_below hd
    have hbel3 : Below w.heap.size w w3 := hbel2.trans (hd.below _)
    obtain ⟨c0, c1, c2, c3⟩ := hbox3.cell
    have f0 := hbox3.free 0
    have f1 := hbox3.free 1
    have f2 := hbox3.free 2
    have f3 := hbox3.free 3
    simp only [Fld.zero] at c0 c1 c2 c3
    clear hd
    go_wp2
    refine bodyPost_ret ((hbox3.set Fld.zero).results rfl rfl) rfl ?_
    exact ⟨by rw [HN.out]; rfl, below_set hbel3 (Nat.le_refl _) _ _ _ _⟩
end Go.Proofs.YtbjoboemhdcalaaDoor
