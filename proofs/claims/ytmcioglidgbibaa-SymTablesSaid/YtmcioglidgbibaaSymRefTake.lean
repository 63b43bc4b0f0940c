/- The document's TakeTable. -/
import Derived.Test.YtmcioglidgbibaaSymTake
import Derived.Test.YtmcioglidgbibaaSymForm2
import Derived.Test.YtmcioglidgbibaaReaderRow
namespace Go.Proofs.Ytmcioglidgbibaa
open Go.RowKit
set_option maxRecDepth 100000

theorem Rd.grown {w w' : World} {g : Nat} {A : Option Addr} {n cap at_ : Nat} {bad : Bool} {row : Option Nat} (h : Rd w g A n cap at_ bad) (hg : w.grownBy w' row) (hne : some g ≠ row) : Rd w' g A n cap at_ bad := by
  have hb := hg.block g h.lt hne
  have hc : ∀ i, w'.cell? ⟨g, i, none⟩ = w.cell? ⟨g, i, none⟩ := fun i => by unfold World.cell?; rw [hb]
  have hf : ∀ i, w'.frozen? ⟨g, i, none⟩ = w.frozen? ⟨g, i, none⟩ := fun i => by unfold World.frozen?; rw [hb]
  exact ⟨(hc 0).trans h.b, (hc 1).trans h.at', (hc 2).trans h.bad', (hf 1).trans h.f1, (hf 2).trans h.f2, Nat.lt_of_lt_of_le h.lt hg.size⟩
theorem Rd.made (w : World) (A : Option Addr) (n cap : Nat) : Rd (w.alloc (.cells #[.slice A n cap, .int .i64 0, .bool false] 74)) w.heap.size A n cap 0 false :=
  ⟨by rw [World.cell?_alloc_at _ _ _ _ rfl]; rfl, by rw [World.cell?_alloc_at _ _ _ _ rfl]; rfl, by rw [World.cell?_alloc_at _ _ _ _ rfl]; rfl, by simp, by simp, by simp⟩

theorem cell_drawn0 {w w' : World} (hd : Drawn w w') {p : Addr} {v : Value} (h : w.cell? p = some v) : w'.cell? p = some v := by
  obtain ⟨q, rfl⟩ := hd
  exact h
/-- what is known of a table that is being taken: nothing was wrong, and what is left leads to T; or T is refused -/
def Taking (b : List UInt8) (T : List (List UInt8) × Nat × Nat) (g : Nat) (t : List (List UInt8)) (at_ : Nat) (bad : Bool) : Prop :=
  (bad = false ∧ T = Sym.told (Sym.rows b g t at_) ∧ ∀ s ∈ t, s.length ≤ 8) ∨ (bad = true ∧ T = ([], 0, 2))

set_option maxHeartbeats 4000000 in
theorem refTakeTable_any (A : Option Addr) (n cap B : Nat) (b : List UInt8) (w : World) (hl : b.length = n) (hcap : n ≤ cap) (hm : n ≤ 140737488355328) (hb : Bytes w B A b) (hB : B ≤ w.heap.size) :
    Calls Try.prog 25 #[.slice A n cap] w (TabPost w (Sym.takeTable b)) := by
  obtain ⟨G, hG⟩ : ∃ G, G = w.heap.size := ⟨_, rfl⟩
  have hrd := Rd.made w A n cap
  have hb' : Bytes (w.alloc (.cells #[.slice A n cap, .int .i64 0, .bool false] 74)) w.heap.size A b := (hb.wide hB).below ((Below.refl _ w).alloc (Nat.le_refl _) _)
  have hbel0 : Below w.heap.size w (w.alloc (.cells #[.slice A n cap, .int .i64 0, .bool false] 74)) := (Below.refl _ w).alloc (Nat.le_refl _) _
  have HC := count_any w.heap.size n cap 0 w.heap.size 32 A b _ hrd hl hcap hm (Nat.zero_le _) hb' (by omega)
  have hv32 := Pfor.rd_le 32 b 0
  obtain ⟨R, hR⟩ : ∃ R, R = Pfor.rd 32 b 0 := ⟨_, rfl⟩
  rw [← hR] at HC hv32
  have HT0 : Hid (Taking b (Sym.takeTable b) R.1 [] R.2.1 R.2.2 ∧ R.2.1 ≤ n) := by
    rw [hR]
    unfold Pfor.rd Taking Sym.takeTable
    rw [List.drop_zero]
    rcases Num.take_cases b with ⟨v, s, ht⟩ | ⟨e, ht, he⟩
    · obtain ⟨_, _, hsn, _⟩ := Num.num_take ht
      rw [ht]
      by_cases h32 : v ≤ 32
      · simp only [h32, and_self, if_true]
        exact Lib.hid ⟨.inl ⟨trivial, by rw [Nat.zero_add], by simp⟩, by omega⟩
      · simp only [h32, and_false, if_false]
        exact Lib.hid ⟨.inr ⟨trivial, trivial⟩, by omega⟩
    · rw [ht]
      have : ¬ (e = 0 ∧ (0 : Nat) ≤ 32) := by omega
      simp only [this, if_false]
      exact Lib.hid ⟨.inr ⟨trivial, trivial⟩, by omega⟩
  obtain ⟨v, s0, bd0⟩ := R
  simp only at HC hv32 HT0
  obtain ⟨w0, hw0⟩ : ∃ w0, w0 = w.alloc (.cells #[.slice A n cap, .int .i64 0, .bool false] 74) := ⟨_, rfl⟩
  have hsz0 : w.heap.size + 1 ≤ w0.heap.size := by rw [hw0]; simp
  rw [← hw0] at HC hb' hbel0
  rw [← hG] at HC hb' hbel0 hsz0
  rw [show ((32 : Nat) : Int) = 32 from rfl] at HC
  replace HC := Lib.hid HC
  have Hw0 := Lib.hid hw0
  have HG := Lib.hid hG
  have Hl := Lib.hid hl
  generalize Sym.takeTable b = T at *
  clear hR hb hl hw0 hrd hG
  go_enter Try.func25, Try.ntmps25
  go_wp2_with fail
  rw [← Hw0.out, ← HG.out]
  refine HC.out.mono ?_
  rintro e w1 ⟨rfl, hrd1, hg1⟩
  clear HC
  have hbel1 : Below G w w1 := hbel0.grown hg1 (by omega) (fun k hk => by cases hk; exact Nat.le_refl _)
  have hb1 : Bytes w1 G A b := hb'.below ((Below.refl G w0).grown hg1 (by omega) (fun k hk => by cases hk; exact Nat.le_refl _))
  have hsz1 : G + 1 ≤ w1.heap.size := Nat.le_trans hsz0 hg1.size
  obtain ⟨htk0, hs0n⟩ := HT0.out
  have Htk0 := Lib.hid htk0
  clear hb' hbel0 hg1 HT0 htk0 Hw0
  go_wp2
  go_loopg [6, 7] v (fun g tv nv wx => ∃ (at_ : Nat) (bd : Bool) (A2 : Option Addr) (c2 : Nat) (t : List (List UInt8)), nv = .int .i64 (g : Int) ∧ at_ ≤ n ∧ tv = .slice A2 t.length c2 ∧ SOwn wx (G + 1) A2 t.length c2 t ∧ t.length + g ≤ 32 ∧ Taking b T g t at_ bd ∧ Rd wx G A n cap at_ bd ∧ Bytes wx G A b ∧ Below G w wx ∧ G + 1 ≤ wx.heap.size)
  case atStart => exact ⟨s0, bd0, none, 0, [], rfl, hs0n, rfl, sown_none _ _, by simpa using hv32, Htk0.out, hrd1, hb1, hbel1, hsz1⟩
  case round =>
    clear hrd1 hb1 hbel1 hsz1 Htk0
    obtain ⟨at_, bd, A2, c2, t, rfl, hat, rfl, hown, htl, htk, hrd, hbr, hbel, hszr⟩ := hrel
    have Htk := Lib.hid htk; clear htk
    have d0 := hrd.b
    have d1 := hrd.at'
    have d2 := hrd.bad'
    have HB : Hid (Below w.heap.size w wr) := Lib.hid (by rw [← HG.out]; exact hbel)
    have HO : Hid (SOwn wr w.heap.size A2 t.length c2 t) := Lib.hid (hown.low (by rw [← HG.out]; omega))
    cases bd
    · -- nothing was wrong
      by_cases hg0 : gk = 0
      · have hgp : ¬ ((0 : Int) < (gk : Int)) := by omega
        obtain ⟨hT, h8⟩ : T = Sym.told (some (t, at_)) ∧ ∀ s ∈ t, s.length ≤ 8 := by
          rcases Htk.out with ⟨_, hT, h8⟩ | ⟨h, _⟩
          · rw [hg0] at hT; exact ⟨hT, h8⟩
          · cases h
        have HF := refFormed_any A2 t.length c2 wr.heap.size t wr rfl (by omega) hown.row (fun s hs => by have := h8 s hs; unfold maxLen; omega)
        by_cases hf : Sym.Formed t
        · rw [Sym.formed_iff.2 hf] at HF
          rw [Sym.told, if_pos hf] at hT
          have HT := Lib.hid hT
          replace HF := Lib.hid HF
          clear hf hT h8 hown hrd hbr hbel Htk
          go_wp2_with fail
          refine HF.out.mono ?_
          rintro e w2 ⟨rfl, hd2⟩
          clear HF
          have e1 := cell_drawn0 hd2 d1
          have e2 := cell_drawn0 hd2 d2
          have HB2 : Hid (Below w.heap.size w w2) := Lib.hid (HB.out.trans (hd2.below _))
          have HO2 : Hid (SOwn w2 w.heap.size A2 t.length c2 t) := Lib.hid (by obtain ⟨q, rfl⟩ := hd2; exact HO.out)
          clear hd2 HB HO
          go_wp2_with fail
          go_quiet (fail)
          go_wp2
          go_ret3
          rw [HT.out]
          exact ⟨A2, c2, rfl, HO2.out, below_drewN HB2.out _⟩
        · rw [Sym.formed_not.2 hf] at HF
          rw [Sym.told, if_neg hf] at hT
          have HT := Lib.hid hT
          replace HF := Lib.hid HF
          clear hf hT h8 hown hrd hbr hbel Htk
          go_wp2_with fail
          refine HF.out.mono ?_
          rintro e w2 ⟨rfl, hd2⟩
          clear HF
          have HB2 : Hid (Below w.heap.size w w2) := Lib.hid (HB.out.trans (hd2.below _))
          clear hd2 HB HO
          go_wp2
          go_ret3
          rw [HT.out]
          exact TabPost.none 2 HB2.out
      · have hgp : (0 : Int) < (gk : Int) := by omega
        have HRow := row_any G n cap at_ G 8 A b wr hrd Hl.out hcap hm hat hbr (by omega) (by omega) (by omega)
        obtain ⟨y, q, e0, hy, hy8, hq, HTK⟩ : ∃ y q e0, Num.takeRow (b.drop at_) 8 = (y, q, e0) ∧ y.length ≤ 8 ∧ at_ + q ≤ n ∧ Hid (Taking b T (gk - 1) (t ++ [y]) (at_ + q) (e0 != 0)) := by
          obtain ⟨hT, h8⟩ : T = Sym.told (Sym.rows b gk t at_) ∧ ∀ s ∈ t, s.length ≤ 8 := by
            rcases Htk.out with ⟨_, hT, h8⟩ | ⟨h, _⟩
            · exact ⟨hT, h8⟩
            · cases h
          rw [show gk = (gk - 1) + 1 from by omega, Sym.rows] at hT
          rcases Sym.takeRow_cases (b.drop at_) with ⟨y, q, hy, hy8, hq1, hq⟩ | ⟨e, hy, he0, he5⟩
          · rw [List.length_drop, Hl.out] at hq
            rw [hy, if_pos rfl] at hT
            refine ⟨y, q, 0, hy, hy8, by omega, Lib.hid (.inl ⟨rfl, hT, fun z hz => ?_⟩)⟩
            rcases List.mem_append.1 hz with h | h
            · exact h8 z h
            · rw [List.mem_singleton.1 h]; exact hy8
          · rw [hy, if_neg he0] at hT
            exact ⟨[], 0, e, hy, by simp, by omega, Lib.hid (.inr ⟨by simpa using he0, hT⟩)⟩
        rw [hy] at HRow
        unfold RdRowPost at HRow
        simp only at HRow
        replace HRow := Lib.hid HRow
        generalize (e0 != 0) = bd2 at *
        clear hy hrd Htk HB HO d0 d1
        go_wp2_with fail
        refine HRow.out.mono ?_
        rintro e w2 ⟨A4, c4, rfl, ho4, hrd2, hg2⟩
        clear HRow
        have hcv := run_string_of ho4.bytes c4
        have hbel2 : Below G w w2 := hbel.grown hg2 (by omega) (fun k hk => by cases hk; exact Nat.le_refl _)
        have hbr2 : Bytes w2 G A b := hbr.below ((Below.refl G wr).grown hg2 (by omega) (fun k hk => by cases hk; exact Nat.le_refl _))
        have hown2 : SOwn w2 (G + 1) A2 t.length c2 t := hown.kept hg2 (.inr (fun h => by have := (hown.lt h).1; omega))
        have hsz2 : G + 1 ≤ w2.heap.size := Nat.le_trans hszr hg2.size
        have hone := (own_str w2 y).row
        have hoa := hown2.alloc (.cells #[.string ⟨y.toArray⟩] 9)
        have hba : Below G w (w2.alloc (.cells #[.string ⟨y.toArray⟩] 9)) := hbel2.alloc (by omega) _
        have hbb : Bytes (w2.alloc (.cells #[.string ⟨y.toArray⟩] 9)) G A b := hbr2.below ((Below.refl G w2).alloc (by omega) _)
        have hra : Rd (w2.alloc (.cells #[.string ⟨y.toArray⟩] 9)) G A n cap (at_ + q) bd2 := hrd2.below ((Below.refl _ w2).alloc (Nat.le_refl _) _)
        have hsza : G + 1 ≤ (w2.alloc (.cells #[.string ⟨y.toArray⟩] 9)).heap.size := by simp; omega
        clear ho4 hown hown2 hbel2 hrd2 hbr hbr2 hg2 hbel
        go_wp2_with (at_builtin; refine wpList_append_row elemStr rfl (.tmp 24) (.tmp 28) rfl (G + 1) A2 t.length c2 t rfl hoa _ _ 1 1 [y] rfl rfl hone (by omega) (by simp only [maxLen]; omega) hsza ?_; intro A5 c5 w5 ho5 hg5 hat5)
        have hfar : some G ≠ blk A2 := fun h => by have := (hoa.lt h.symm).1; omega
        have hbel5 : Below G w w5 := hba.grown hg5 (by omega) (fun k hk => Nat.le_of_succ_le (hoa.lt hk).1)
        have hbr5 : Bytes w5 G A b := hbb.below ((Below.refl G _).grown hg5 (by omega) (fun k hk => Nat.le_of_succ_le (hoa.lt hk).1))
        have hrd5 := hra.grown hg5 hfar
        have hsz5 : G + 1 ≤ w5.heap.size := Nat.le_trans hsza hg5.size
        have Hl5 := Lib.hid (show (t ++ [y]).length = t.length + 1 from by simp)
        clear hg5 hat5 hoa hone hba hbb hra hcv hfar
        go_roundg (gk - 1)
        case measure => omega
        case rel => exact ⟨at_ + q, bd2, A5, c5, t ++ [y], congrArg (Value.int IntKind.i64) (by omega), hq, by rw [Hl5.out], by rw [Hl5.out]; exact ho5, by rw [Hl5.out]; omega, HTK.out, hrd5, hbr5, hbel5, hsz5⟩
    · have HT : Hid (T = ([], 0, 2)) := by
        rcases Htk.out with ⟨h, _⟩ | ⟨_, h⟩
        · cases h
        · exact Lib.hid h
      clear hown hrd hbr hbel Htk d0 d1 HO
      by_cases hg0 : gk = 0
      · have hgp : ¬ ((0 : Int) < (gk : Int)) := by omega
        go_wp2
        go_ret3
        rw [HT.out]
        exact TabPost.none 2 HB.out
      · have hgp : (0 : Int) < (gk : Int) := by omega
        go_wp2
        go_ret3
        rw [HT.out]
        exact TabPost.none 2 HB.out
end Go.Proofs.Ytmcioglidgbibaa
