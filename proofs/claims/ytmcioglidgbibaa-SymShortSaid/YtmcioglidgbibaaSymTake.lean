/- sym.TakeTable. -/
import Derived.Test.YtmcioglidgbibaaSymForm
import Derived.Test.YtmcioglidgbibaaSymTab
import Derived.Test.YtmcioglidgbibaaCutFrom
import Derived.Test.YtmcioglidgbibaaBytesEq
import Derived.Deep.LoopGhost
namespace Go.Proofs.Ytmcioglidgbibaa
open Go.RowKit
set_option maxRecDepth 100000

/-- what a call leaves that returns strings of its own, a number and an error -/
def TabPost (w : World) (r : List (List UInt8) × Nat × Nat) (e : Ending) (w' : World) : Prop :=
  ∃ A c, e = .returned (.tuple #[.slice A r.1.length c, .int .i64 (r.2.1 : Int), .int .i64 (r.2.2 : Int)]) ∧ SOwn w' w.heap.size A r.1.length c r.1 ∧ Below w.heap.size w w'
theorem sown_none (w : World) (base : Nat) : SOwn w base none 0 0 [] := ROwn.nil _ _ w base
theorem TabPost.none {w w' : World} (e : Nat) (hb : Below w.heap.size w w') : TabPost w ([], 0, e) (.returned (.tuple #[.slice none 0 0, .int .i64 0, .int .i64 (e : Int)])) w' := ⟨.none, 0, rfl, sown_none _ _, hb⟩
/-- a literal of one string -/
theorem own_str (w : World) (s : List UInt8) : SOwn (w.alloc (.cells #[.string ⟨s.toArray⟩] 9)) w.heap.size (some ⟨w.heap.size, 0, none⟩) 1 1 [s] :=
  ROwn.lit (f := sval) (e := 9) w w.heap.size [s] (Nat.le_refl _) (by simp [maxLen])

set_option maxHeartbeats 4000000 in
theorem takeTable_any (A : Option Addr) (n cap B : Nat) (b : List UInt8) (w : World) (hl : b.length = n) (hcap : n ≤ cap) (hm : n ≤ 140737488355328) (hb : Bytes w B A b) (hB : B ≤ w.heap.size) :
    Calls Try.prog 24 #[.slice A n cap] w (TabPost w (Sym.takeTable b)) := by
  have H1 := take_any A n cap B b w hl hcap (by omega) hb
  unfold TakePost at H1
  unfold Sym.takeTable
  rcases Num.take_cases b with ⟨v, s, ht⟩ | ⟨e, ht, he⟩
  · obtain ⟨_, hs, hsn, hv⟩ := Num.num_take ht
    rw [hl] at hsn
    simp only [ht, true_and] at H1 ⊢
    obtain ⟨x, hx, hx0, hx1⟩ : ∃ x : Int, x = (v : Int) ∧ 0 ≤ x ∧ x ≤ 18446744073709551615 := ⟨v, rfl, by omega, by omega⟩
    rw [← hx] at H1
    replace H1 := Lib.hid H1
    by_cases hv32 : v ≤ 32
    · rw [if_pos hv32]
      have hx32 : ¬ (32 < x) := by omega
      have hx64 : x ≤ 64 := by omega
      have hb' := hb.wide hB
      have Hl := Lib.hid hl
      have Hx := Lib.hid hx
      clear hl hb hs hv hx1 hx ht
      go_enter Try.func24, Try.ntmps24
      go_wp2_with fail
      refine H1.out.mono ?_
      rintro e w1 ⟨rfl, rfl⟩
      clear H1
      go_wp2
      go_loopg [6, 8, 25] v (fun g sv tv i wx => ∃ (k at_ : Nat) (A2 : Option Addr) (c2 : Nat) (t : List (List UInt8)), k + g = v ∧ at_ ≤ n ∧ i = .int .u64 (k : Int) ∧ sv = .int .i64 (at_ : Int) ∧ tv = .slice A2 t.length c2 ∧ SOwn wx w.heap.size A2 t.length c2 t ∧ t.length = k ∧ (∀ s ∈ t, s.length ≤ 8) ∧ Sym.rows b g t at_ = Sym.rows b v [] s ∧ Below w.heap.size w wx)
      case atStart => exact ⟨0, s, none, 0, [], by omega, hsn, rfl, rfl, rfl, sown_none _ _, rfl, by simp, rfl, Below.refl _ _⟩
      case round =>
        obtain ⟨k, at_, A2, c2, t, hkg, hat, rfl, rfl, rfl, hown, htl, h8, hrows, hbel⟩ := hrel
        have HR := Lib.hid hrows; clear hrows
        have H8 := Lib.hid h8; clear h8
        have HTL := Lib.hid htl; clear htl
        have hszw := hbel.size
        by_cases hkv : k < v
        · have hkx : (k : Int) < x := by rw [Hx.out]; omega
          have hbr := hb'.below hbel
          have hsl := run_cut_from A n cap at_ (n - at_) (by omega)
          have hcut := hbr.cut (k := at_) (cap := cap) (by rw [Hl.out]; exact hat) (by rw [Hl.out]; exact hcap)
          have HT := takeRow_any (cutAt A cap at_) (n - at_) (cap - at_) w.heap.size (b.drop at_) 8 wr (by rw [List.length_drop, Hl.out]) (by omega) (by omega) hcut hszw (by omega) (by omega)
          unfold RowPost at HT
          rcases Sym.takeRow_cases (b.drop at_) with ⟨y, q, hy, hy8, hq1, hq⟩ | ⟨e, hy, he0, he5⟩
          · simp only [hy] at HT
            rw [List.length_drop, Hl.out] at hq
            replace HT := Lib.hid HT
            have HR2 : Hid (Sym.rows b (v - (k + 1)) (t ++ [y]) (at_ + q) = Sym.rows b v [] s) := by
              have := HR.out
              rw [show gk = (v - (k + 1)) + 1 from by omega, Sym.rows, hy, if_pos rfl] at this
              exact Lib.hid this
            generalize cutAt A cap at_ = A3 at *
            clear hy hcut hbr
            go_wp2_with fail
            refine HT.out.mono ?_
            rintro e w2 ⟨A4, c4, rfl, ho4, hb4⟩
            clear HT
            have hcv := run_string_of ho4.bytes c4
            have hown2 : SOwn w2 w.heap.size A2 t.length c2 t := hown.below hb4
            have hbel2 := hbel.trans (hb4.mono hszw)
            have hsz2 := hbel2.size
            have hone := (own_str w2 y).row
            have hoa := hown2.alloc (.cells #[.string ⟨y.toArray⟩] 9)
            have hba : Below w.heap.size w (w2.alloc (.cells #[.string ⟨y.toArray⟩] 9)) := hbel2.alloc hsz2 _
            have hsza : w.heap.size ≤ (w2.alloc (.cells #[.string ⟨y.toArray⟩] 9)).heap.size := by simp; omega
            have htl32 : t.length ≤ 32 := by rw [HTL.out]; omega
            clear hb4 ho4 hown hown2 hbel2 hsz2
            go_wp2_with (at_builtin; refine wpList_append_row elemStr rfl (.tmp 37) (.tmp 40) rfl w.heap.size A2 t.length c2 t rfl hoa _ _ 1 1 [y] rfl rfl hone (by omega) (by simp only [maxLen]; omega) hsza ?_; intro A5 c5 w5 ho5 hg5 hat5)
            have hbel5 := hba.grown hg5 hsza (fun q hq => (hoa.lt hq).1)
            have Hl5 := Lib.hid (show (t ++ [y]).length = t.length + 1 from by simp)
            clear hg5 hat5 hoa hone hba hcv hsl
            go_roundg (v - (k + 1))
            case measure => omega
            case rel => exact ⟨k + 1, at_ + q, A5, c5, t ++ [y], by omega, by omega, by go_num, by go_num, by rw [Hl5.out], by rw [Hl5.out]; exact ho5, by rw [Hl5.out, HTL.out], fun z hz => by rcases List.mem_append.1 hz with h | h; exact H8.out z h; rw [List.mem_singleton.1 h]; exact hy8, HR2.out, hbel5⟩
          · simp only [hy] at HT
            replace HT := Lib.hid HT
            have HR2 : Hid (Sym.rows b v [] s = none) := by
              have := HR.out
              rw [show gk = (v - (k + 1)) + 1 from by omega, Sym.rows, hy, if_neg he0] at this
              exact Lib.hid this.symm
            have he' : ¬ ((e : Int) = 0) := by omega
            generalize cutAt A cap at_ = A3 at *
            clear hy hcut hbr
            go_wp2_with fail
            refine HT.out.mono ?_
            rintro e w2 ⟨A4, c4, rfl, ho4, hb4⟩
            clear HT
            have hbel2 := hbel.trans (hb4.mono hszw)
            clear hb4 ho4 hown hsl
            go_wp2
            go_ret3
            exact ⟨none, 0, by rw [HR2.out]; rfl, by rw [HR2.out]; exact sown_none _ _, hbel2⟩
        · have hkx : ¬ ((k : Int) < x) := by rw [Hx.out]; omega
          have HR2 : Hid (Sym.rows b v [] s = some (t, at_)) := by
            have := HR.out
            rw [show gk = 0 from by omega, Sym.rows] at this
            exact Lib.hid this.symm
          have htl32 : t.length ≤ 32 := by rw [HTL.out]; omega
          have hcap2 := hown.cap
          have HF := formed_any A2 t.length c2 wr.heap.size t wr rfl hcap2 (by omega) hown.row (fun s hs => by have := H8.out s hs; unfold maxLen; omega)
          by_cases hf : Sym.Formed t
          · rw [Sym.formed_iff.2 hf] at HF
            replace HF := Lib.hid HF
            have HE : Hid (Sym.told (Sym.rows b v [] s) = (t, at_, 0)) := Lib.hid (by rw [HR2.out, Sym.told, if_pos hf])
            clear hf HR HR2
            go_wp2_with fail
            refine HF.out.mono ?_
            rintro e w2 ⟨rfl, rfl⟩
            clear HF
            go_wp2
            go_ret3
            exact ⟨A2, c2, by rw [HE.out]; rfl, by rw [HE.out]; exact hown, hbel⟩
          · rw [Sym.formed_not.2 hf] at HF
            replace HF := Lib.hid HF
            have HE : Hid (Sym.told (Sym.rows b v [] s) = ([], 0, 2)) := Lib.hid (by rw [HR2.out, Sym.told, if_neg hf])
            clear hf HR HR2
            go_wp2_with fail
            refine HF.out.mono ?_
            rintro e w2 ⟨rfl, rfl⟩
            clear HF
            go_wp2
            go_ret3
            exact ⟨none, 0, by rw [HE.out]; rfl, by rw [HE.out]; exact sown_none _ _, hbel⟩
    · rw [if_neg hv32]
      have hx32 : 32 < x := by omega
      clear hl hb hs hv hx ht
      go_enter Try.func24, Try.ntmps24
      go_wp2_with fail
      refine H1.out.mono ?_
      rintro e w1 ⟨rfl, rfl⟩
      clear H1
      go_wp2
      go_ret3
      exact TabPost.none 2 (Below.refl _ _)
  · simp only [ht] at H1 ⊢
    rw [if_neg (by omega)]
    have he' : ¬ ((e : Int) = 0) := by omega
    replace H1 := Lib.hid H1
    clear hl hb ht he
    go_enter Try.func24, Try.ntmps24
    go_wp2_with fail
    refine H1.out.mono ?_
    rintro e w1 ⟨rfl, rfl⟩
    clear H1
    go_wp2
    go_ret3
    exact TabPost.none 2 (Below.refl _ _)
end Go.Proofs.Ytmcioglidgbibaa
