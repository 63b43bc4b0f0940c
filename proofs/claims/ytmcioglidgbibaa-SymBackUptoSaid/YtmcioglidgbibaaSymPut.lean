/- sym.PutTable and the document's Table. -/
import Derived.Test.YtmcioglidgbibaaSymForm
import Derived.Test.YtmcioglidgbibaaSymEnc
import Derived.Test.YtmcioglidgbibaaSymTab
import Derived.Test.YtmcioglidgbibaaConcat2
import Derived.Test.YtmcioglidgbibaaStrBytes
namespace Go.Proofs.Ytmcioglidgbibaa
open Go.RowKit
set_option maxRecDepth 100000

namespace Sym
/-- the bytes of the first k symbols -/
def part (t : List (List UInt8)) (k : Nat) : List UInt8 := Num.num t.length ++ ((t.take k).map Num.row).flatten
theorem part_zero (t : List (List UInt8)) : part t 0 = Num.num t.length := by simp [part]
theorem part_all (t : List (List UInt8)) : part t t.length = table t := by rw [part, List.take_length, table]
theorem part_step {t : List (List UInt8)} {k : Nat} (hk : k < t.length) : part t (k + 1) = part t k ++ Num.row t[k] := by
  rw [part, part, List.take_succ_eq_append_getElem hk, List.map_append, List.flatten_append, List.append_assoc]
  simp
theorem part_le {t : List (List UInt8)} (ht : Formed t) (k : Nat) : (part t k).length ≤ 553 := by
  have h1 := table_length_le ht
  have h32 := ht.1
  have : (part t k).length ≤ (table t).length := by
    rw [part, table, List.length_append, List.length_append]
    have : (t.map Num.row).flatten = ((t.take k).map Num.row).flatten ++ ((t.drop k).map Num.row).flatten := by
      rw [← List.flatten_append, ← List.map_append, List.take_append_drop]
    rw [this, List.length_append]
    omega
  omega
/-- what PutTable answers -/
def putTable (b : List UInt8) (t : List (List UInt8)) : List UInt8 × Nat := if Formed t then (b ++ table t, 0) else ([], 1)
end Sym

set_option maxHeartbeats 2000000 in
theorem putTable_any (Ab A : Option Addr) (m n capb cap B : Nat) (b : List UInt8) (t : List (List UInt8)) (w : World) (hlb : b.length = m) (hl : t.length = n) (hcap : n ≤ cap) (hn : n ≤ 140737488355328) (hm : m ≤ 140737488351232)
    (hb : Bytes w B Ab b) (h1 : Strs w B A t) (hs : ∀ s ∈ t, s.length ≤ maxLen) (hB : B ≤ w.heap.size) :
    Calls Try.prog 22 #[.slice Ab m capb, .slice A n cap] w (PairPost w (Sym.putTable b t)) := by
  have HF := formed_any A n cap B t w hl hcap hn h1 hs
  unfold Sym.putTable
  by_cases hf : Sym.Formed t
  · rw [Sym.formed_iff.2 hf] at HF
    rw [if_pos hf]
    replace HF := Lib.hid HF
    have hn32 : n ≤ 32 := by rw [← hl]; exact hf.1
    have HP := put_any none 0 0 w.heap.size n [] w rfl (by omega) (by omega) (Bytes.nil _ _ _) (Nat.le_refl _)
    rw [Nat.zero_add, List.nil_append, ← Num.num_length, show Num.num n = Sym.part t 0 from by rw [Sym.part_zero, hl]] at HP
    replace HP := Lib.hid HP
    have Hf := Lib.hid hf
    have Hl := Lib.hid hl
    have Hlb := Lib.hid hlb
    have h1' := h1.wide hB
    have hb' := hb.wide hB
    clear hl h1 hs hf hb hlb
    go_enter Try.func22, Try.ntmps22
    go_wp2_with fail
    refine HF.out.mono ?_
    rintro e w' ⟨rfl, rfl⟩
    clear HF
    go_wp2_with fail
    refine HP.out.mono ?_
    rintro e w1 ⟨g1, c1, rfl, ho1, hbel1⟩
    clear HP
    go_wp2
    go_loopw [6, 18] (fun ev i wr => ∃ (k g c : Nat), k ≤ n ∧ i = .int .i64 k ∧ ev = .slice (some ⟨g, 0, none⟩) (Sym.part t k).length c ∧ Own wr w.heap.size (some ⟨g, 0, none⟩) (Sym.part t k).length c (Sym.part t k) ∧ Below w.heap.size w wr) (fun _ i _ => n - (intOf i).toNat)
    case atStart => exact ⟨0, g1, c1, Nat.zero_le _, rfl, rfl, ho1, hbel1⟩
    case round =>
      clear ho1 hbel1
      obtain ⟨k, g, c, hk, rfl, rfl, hown, hbel⟩ := hrel
      have hpl := Sym.part_le Hf.out k
      by_cases hlt : k < n
      · have hk' : k < t.length := by rw [Hl.out]; exact hlt
        have h1r := h1'.below hbel
        obtain ⟨ad, rfl, _, hcell⟩ := h1r.get hk'
        have h8 := (Hf.out.2.1 _ (List.getElem_mem hk')).2
        have HS := Lib.hid (Sym.part_step hk')
        simp only [sval] at hcell
        generalize t[k] = x at *
        obtain ⟨cx, wx, hcx, hcv, hbx, hblx⟩ := run_bytes_of x wr
        have hownx := hown.below hblx
        have HR := Lib.hid (putRow_any (some ⟨g, 0, none⟩) (some ⟨wr.heap.size, 0, none⟩) (Sym.part t k).length x.length c cx wx.heap.size wx.heap.size (Sym.part t k) x wx rfl rfl (by omega) (by omega) hownx.bytes hbx (Nat.le_refl _) (Nat.le_refl _))
        rw [← Num.row_length, ← List.length_append, ← HS.out] at HR
        have i1 : (k : Int) < (n : Int) := by omega
        have hszw := hbel.size
        generalize Sym.part t k = P at *
        clear h1r hownx hbx HS hown
        go_wp2_with fail
        refine HR.out.mono ?_
        rintro e w2 ⟨g2, c2, rfl, ho2, hb2⟩
        clear HR
        have hbel2 : Below w.heap.size w w2 := (hbel.trans (hblx.mono hszw)).trans (hb2.mono (Nat.le_trans hszw hblx.size))
        have ho2' := ho2.low (Nat.le_trans hszw hblx.size)
        clear hcv hb2 ho2 hblx
        go_wp2
        go_roundw
        case rel => exact ⟨k + 1, g2, c2, by omega, by go_num, rfl, ho2', hbel2⟩
        case measure => simp [intOf]; omega
      · obtain rfl : k = n := by omega
        have HT : Hid (Sym.part t k = Sym.table t) := Lib.hid (by have := Sym.part_all t; rwa [Hl.out] at this)
        rw [HT.out] at hown
        rw [HT.out] at hpl
        have hpos := Sym.table_pos t
        have hbr := hb'.below hbel
        have hszw := hbel.size
        have hbl2 : Below wr.heap.size wr (wr.alloc (.cells #[.slice Ab m capb, .slice (some ⟨g, 0, none⟩) (Sym.table t).length c] 24)) := (Below.refl _ _).alloc (Nat.le_refl _) _
        have hcA : (wr.alloc (.cells #[.slice Ab m capb, .slice (some ⟨g, 0, none⟩) (Sym.table t).length c] 24)).cell? ⟨wr.heap.size, 0, none⟩ = some (.slice Ab m capb) := by rw [World.cell?_alloc_at _ _ _ _ rfl]; rfl
        have hcB : (wr.alloc (.cells #[.slice Ab m capb, .slice (some ⟨g, 0, none⟩) (Sym.table t).length c] 24)).cell? ⟨wr.heap.size, 1, none⟩ = some (.slice (some ⟨g, 0, none⟩) (Sym.table t).length c) := by rw [World.cell?_alloc_at _ _ _ _ rfl]; rfl
        have H2 := concat2_any wr.heap.size m capb (Sym.table t).length c wr.heap.size Ab (some ⟨g, 0, none⟩) b (Sym.table t) _ Hlb.out rfl (by omega) (by omega) ((hbr.wide hszw).below hbl2) (hown.bytes.below hbl2) (by simp) (by simp) hcA hcB
        obtain ⟨N, hN⟩ : ∃ N, N = m + (Sym.table t).length := ⟨_, rfl⟩
        rw [← hN] at H2
        have HN : Hid (((b ++ Sym.table t, 0) : List UInt8 × Nat).1.length = N) := Lib.hid (by rw [hN, List.length_append, Hlb.out])
        replace H2 := Lib.hid H2
        clear hN
        rw [HT.out]
        generalize Sym.table t = T at *
        clear hcA hcB hbr hown HT
        go_wp2_with fail
        refine H2.out.mono ?_
        rintro e w2 ⟨g2, k2, rfl, ho2, hbel2⟩
        clear H2
        have hb3 := hbel.trans ((hbl2.trans (hbel2.mono (by simp))).mono hszw)
        have ho3 := ho2.low (b' := w.heap.size) (by simp; omega)
        clear hbl2 hbel2 ho2
        go_wp2
        go_ret2
        exact ⟨_, k2, by rw [HN.out]; rfl, by rw [HN.out]; exact ho3, hb3⟩
  · rw [Sym.formed_not.2 hf] at HF
    rw [if_neg hf]
    replace HF := Lib.hid HF
    clear h1 hs hl hb hf
    go_enter Try.func22, Try.ntmps22
    go_wp2_with fail
    refine HF.out.mono ?_
    rintro e w' ⟨rfl, rfl⟩
    clear HF
    go_wp2
    go_ret2
    exact PairPost.none 1 (Below.refl _ _)

set_option maxHeartbeats 2000000 in
theorem refTable_any (A : Option Addr) (n cap B : Nat) (t : List (List UInt8)) (w : World) (hl : t.length = n) (hf : Sym.Formed t) (h1 : Strs w B A t) (hB : B ≤ w.heap.size) :
    Calls Try.prog 23 #[.slice A n cap] w (MadeAt w.heap.size w (Sym.table t).length (Sym.table t)) := by
  have hn32 : n ≤ 32 := by rw [← hl]; exact hf.1
  have HP := refBytes_any n w (by omega)
  rw [← Num.num_length, show Num.num n = Sym.part t 0 from by rw [Sym.part_zero, hl]] at HP
  replace HP := Lib.hid HP
  have Hf := Lib.hid hf
  have Hl := Lib.hid hl
  have h1' := h1.wide hB
  clear hl h1 hf
  go_enter Try.func23, Try.ntmps23
  go_wp2_with fail
  refine HP.out.mono ?_
  rintro e w1 ⟨g1, c1, rfl, ho1, hbel1⟩
  clear HP
  go_wp2
  go_loopw [3, 4] (fun ev i wr => ∃ (k : Nat) (A2 : Option Addr) (c : Nat), k ≤ n ∧ i = .int .i64 k ∧ ev = .slice A2 (Sym.part t k).length c ∧ Own wr w.heap.size A2 (Sym.part t k).length c (Sym.part t k) ∧ Below w.heap.size w wr) (fun _ i _ => n - (intOf i).toNat)
  case atStart => exact ⟨0, some ⟨g1, 0, none⟩, c1, Nat.zero_le _, rfl, rfl, ho1, hbel1⟩
  case round =>
    clear ho1 hbel1
    obtain ⟨k, A2, c, hk, rfl, rfl, hown, hbel⟩ := hrel
    have hpl := Sym.part_le Hf.out k
    by_cases hlt : k < n
    · have hk' : k < t.length := by rw [Hl.out]; exact hlt
      have h1r := h1'.below hbel
      obtain ⟨ad, rfl, _, hcell⟩ := h1r.get hk'
      have h8 := (Hf.out.2.1 _ (List.getElem_mem hk')).2
      have HS := Lib.hid (Sym.part_step hk')
      simp only [sval] at hcell
      generalize t[k] = x at *
      have h9 := Num.size_le9 (v := x.length) (by omega)
      obtain ⟨cx, wx, hcx, hcv, hbx, hblx⟩ := run_bytes_of x wr
      have hownx := hown.below hblx
      have HR := refRow_any (some ⟨wr.heap.size, 0, none⟩) x.length cx wx.heap.size x wx rfl (by omega) hbx (Nat.le_refl _)
      rw [← Num.row_length] at HR
      replace HR := Lib.hid HR
      have hrl := Num.row_length x
      have i1 : (k : Int) < (n : Int) := by omega
      have hszw := hbel.size
      have HL : Hid ((Sym.part t (k + 1)).length = (Sym.part t k).length + (Num.row x).length) := Lib.hid (by rw [HS.out, List.length_append])
      generalize Sym.part t k = P at *
      have hrl17 : (Num.row x).length ≤ 17 := by omega
      generalize Num.row x = R at *
      clear h1r hbx hown hrl
      go_wp2_with fail
      refine HR.out.mono ?_
      rintro e w2 ⟨g2, c2, rfl, ho2, hb2⟩
      clear HR
      have hown2 := hownx.below hb2
      have hbel2 : Below w.heap.size w w2 := (hbel.trans (hblx.mono hszw)).trans (hb2.mono (Nat.le_trans hszw hblx.size))
      have hsz2 := hbel2.size
      have hob := ho2.bytes
      clear hcv hb2 ho2 hblx hownx
      go_wp2_with (at_builtin; refine wpList_append_bytes rfl (.tmp 15) (.tmp 21) rfl w.heap.size A2 P.length c P rfl hown2 _ _ R.length c2 R rfl rfl hob (by omega) hsz2 ?_; intro A5 c5 w5 ho5 hg5 hat5)
      have hbel5 := hbel2.grown hg5 hsz2 (fun q hq => (hown2.lt hq).1)
      clear hg5 hat5 hown2 hob
      go_roundw
      case rel => exact ⟨k + 1, A5, c5, by omega, by go_num, by rw [HL.out], by rw [HL.out, HS.out]; exact ho5, hbel5⟩
      case measure => simp [intOf]; omega
    · obtain rfl : k = n := by omega
      have HT : Hid (Sym.table t = Sym.part t k) := Lib.hid (by have := Sym.part_all t; rw [Hl.out] at this; exact this.symm)
      go_wp2
      go_ret
      exact ⟨A2, c, by rw [HT.out]; rfl, by rw [HT.out]; exact hown, hbel⟩
end Go.Proofs.Ytmcioglidgbibaa
