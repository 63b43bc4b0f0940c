/- Texts of several layers, one behind the other: SymRefDec. -/
import Derived.Test.YtoebeibmmclhpaaGreatGTK
/- The document's Decode. -/
namespace Go.Proofs.YtoebeibmmclhpaaGreat
open Go.RowKit
set_option maxRecDepth 100000
set_option maxHeartbeats 4000000 in
theorem refDecode_any (A Ab : Option Addr) (n m cap capb B : Nat) (most : Int) (t : List (List UInt8)) (b : List UInt8) (w : World) (hl : t.length = n) (hn : n ≤ 140737488355328) (hlb : b.length = m) (hcapb : m ≤ capb) (hm : m ≤ 17592186044416)
    (h0 : -9223372036854775808 ≤ most) (h63 : most ≤ 9223372036854775807) (h1 : Strs w B A t) (hs : ∀ s ∈ t, s.length ≤ maxLen) (hb : Bytes w B Ab b) (hB : B ≤ w.heap.size) :
    Calls Tryz.prog 66 #[.slice A n cap, .slice Ab m capb, .int .i64 most] w (PairPost w (Sym.decoded t b most)) := by
  have HF := refFormed_any A n cap B t w hl hn h1 hs
  unfold Sym.decoded
  by_cases hf : Sym.Formed t
  · rw [Sym.formed_iff.2 hf] at HF
    replace HF := Lib.hid HF
    by_cases hneg : most < 0
    · rw [if_neg (fun h => by omega)]
      clear h1 hs hl hb hf
      go_enter Tryz.func66, Tryz.ntmps66
      go_wp2_with fail
      refine HF.out.mono ?_
      rintro e w' ⟨rfl, hd⟩
      clear HF
      go_wp2
      go_ret2
      exact PairPost.none 1 (hd.below _)
    · rw [if_pos ⟨hf, by omega⟩]
      have hneg' : 0 ≤ most := by omega
      have h1' := h1.wide hB
      have hb' := hb.wide hB
      have hn32 : n ≤ 32 := by rw [← hl]; exact hf.1
      have Hf := Lib.hid hf
      have Hl := Lib.hid hl
      have Hlb := Lib.hid hlb
      clear hl h1 hs hf hb hlb
      go_enter Tryz.func66, Tryz.ntmps66
      go_wp2_with fail
      refine HF.out.mono ?_
      rintro e w1 ⟨rfl, hd1⟩
      clear HF
      go_wp2
      go_loopg [8, 9] m (fun g ov i wx => ∃ k A2 c2 o, k + g = m ∧ i = .int .i64 (k : Int) ∧ ov = .slice A2 o.length c2 ∧ Own wx w.heap.size A2 o.length c2 o ∧ Sym.decode t most o (b.drop k) = Sym.decode t most [] b ∧ o.length + 8 * g ≤ 8 * m ∧ (o.length : Int) ≤ most ∧ Below w.heap.size w wx)
      case atStart => exact ⟨0, none, 0, [], by omega, rfl, rfl, own_none _ _, rfl, by simp, by simpa using hneg', hd1.below _⟩
      case round =>
        obtain ⟨k, A2, c2, o, hkg, rfl, rfl, hown, hdec, hsz, hmo, hbel⟩ := hrel
        have HDEC := Lib.hid hdec; clear hdec
        have hszw := hbel.size
        by_cases hkm : k < m
        · have hkm' : (k : Int) < (m : Int) := by omega
          have hge0 : (0 : Int) ≤ (k : Int) := by omega
          have h1r := h1'.below hbel
          have hbr := hb'.below hbel
          have hkb : k < b.length := by rw [Hlb.out]; exact hkm
          have hdrop := Lib.hid (List.drop_eq_getElem_cons hkb)
          obtain ⟨ad, rfl, hblk, hcell⟩ := hbr.get hkb
          generalize b[k] = c at *
          have hc256 := Num.byte_lt c
          by_cases hct : c.toNat < n
          · have hct' : c.toNat < t.length := by rw [Hl.out]; exact hct
            have hcode := Lib.hid (Sym.code_sym (b.drop (k + 1)) hct')
            rw [Sym.getD_eq hct', ← hdrop.out] at hcode
            obtain ⟨ad1, rfl, _, hc1⟩ := h1r.get hct'
            have hs8 := (Hf.out.2.1 _ (List.getElem_mem hct')).2
            simp only [sval] at hc1
            generalize t[c.toNat] = s at *
            have hlt : (c.toNat : Int) < (n : Int) := by omega
            have hge : (0 : Int) ≤ (c.toNat : Int) := by omega
            have HD := Lib.hid (Sym.decode_some (most := most) (out := o) hcode.out)
            rw [List.drop_drop] at HD
            by_cases hlong : most - (o.length : Int) < (s.length : Int)
            · have HE : Hid (Sym.decode t most [] b = ([], 5)) := Lib.hid (by rw [← HDEC.out, HD.out, if_pos hlong])
              clear hcode HDEC hbr h1r hown HD
              go_wp2
              go_ret2
              exact ⟨none, 0, by rw [HE.out]; rfl, by rw [HE.out]; exact own_none _ _, hbel⟩
            · have HE : Hid (Sym.decode t most (o ++ s) (b.drop (k + 1)) = Sym.decode t most [] b) := Lib.hid (by rw [← HDEC.out, HD.out, if_neg hlong])
              clear hcode HDEC hbr h1r HD
              go_wp2_with (at_builtin; refine wpList_append_str rfl (.tmp 68) (.tmp 69) rfl w.heap.size A2 o.length c2 o rfl hown s rfl (by omega) hszw ?_; intro A5 c5 w5 ho5 hg5)
              have hb5 : Below w.heap.size wr w5 := (Below.refl _ wr).grown hg5 hszw (fun q hq => (hown.lt hq).1)
              have hbel5 := hbel.trans hb5
              have Hl5 := Lib.hid (show (o ++ s).length = o.length + s.length from by simp)
              clear hg5 hb5 hown
              go_roundg (m - (k + 1))
              case measure => omega
              case rel => exact ⟨k + 1, A5, c5, o ++ s, by omega, by go_num, by rw [Hl5.out], by rw [Hl5.out]; exact ho5, HE.out, by rw [Hl5.out]; omega, by rw [Hl5.out]; omega, hbel5⟩
          · have hct' : ¬ c.toNat < t.length := by rw [Hl.out]; exact hct
            have hlt : ¬ ((c.toNat : Int) < (n : Int)) := by omega
            by_cases h255 : c = 255
            · subst h255
              have h2 : ((255 : UInt8).toNat : Int) = 255 := by decide
              rw [h2] at hcell hlt
              by_cases hk1 : k + 1 < m
              · have hk1' : (k : Int) < (m : Int) - 1 := by omega
                have hk1b : k + 1 < b.length := by rw [Hlb.out]; exact hk1
                have hdrop2 := Lib.hid (List.drop_eq_getElem_cons hk1b)
                have hcut := run_cut_lh (some ad) m capb (k + 1) (k + 1 + 1) (by omega) (by omega)
                rw [show k + 1 + 1 - (k + 1) = 1 from by omega, show ((k + 1 : Nat) : Int) = (k : Int) + 1 from by omega, show ((k + 1 + 1 : Nat) : Int) = (k : Int) + 1 + 1 from by omega] at hcut
                have hbc := (hbr.cut (k := k + 1) (cap := capb) (by omega) (by rw [Hlb.out]; exact hcapb)).take 1
                rw [hdrop2.out, show ∀ (x : UInt8) (l : List UInt8), (x :: l).take 1 = [x] from fun _ _ => rfl] at hbc
                have hcv := run_string_of hbc (capb - (k + 1))
                rw [show [b[k + 1]].length = 1 from rfl] at hcv
                have hcode := Lib.hid (Sym.code_esc (t := t) b[k + 1] (b.drop (k + 1 + 1)) (by rw [Hl.out]; exact hn32))
                rw [← hdrop2.out, ← hdrop.out] at hcode
                generalize b[k + 1] = x at *
                generalize cutAt (some ad) capb (k + 1) = A3 at *
                have HD := Lib.hid (Sym.decode_some (most := most) (out := o) hcode.out)
                rw [List.drop_drop] at HD
                by_cases hlong : most - (o.length : Int) < 1
                · have HE : Hid (Sym.decode t most [] b = ([], 5)) := Lib.hid (by rw [← HDEC.out, HD.out, if_pos (by simpa using hlong)])
                  clear hcode HDEC hbr h1r hown HD hbc
                  go_wp2
                  go_ret2
                  exact ⟨none, 0, by rw [HE.out]; rfl, by rw [HE.out]; exact own_none _ _, hbel⟩
                · have HE : Hid (Sym.decode t most (o ++ [x]) (b.drop (k + 2)) = Sym.decode t most [] b) := Lib.hid (by rw [← HDEC.out, HD.out, if_neg (by simpa using hlong)])
                  clear hcode HDEC hbr h1r HD hbc
                  go_wp2_with (at_builtin; refine wpList_append_str rfl (.tmp 68) (.tmp 69) rfl w.heap.size A2 o.length c2 o rfl hown [x] rfl (by simp; omega) hszw ?_; intro A5 c5 w5 ho5 hg5)
                  have hb5 : Below w.heap.size wr w5 := (Below.refl _ wr).grown hg5 hszw (fun q hq => (hown.lt hq).1)
                  have hbel5 := hbel.trans hb5
                  have Hl5 := Lib.hid (show (o ++ [x]).length = o.length + 1 from by simp)
                  clear hg5 hb5 hown
                  go_roundg (m - (k + 2))
                  case measure => omega
                  case rel => exact ⟨k + 2, A5, c5, o ++ [x], by omega, by go_num, by rw [Hl5.out], by rw [Hl5.out]; exact ho5, HE.out, by rw [Hl5.out]; omega, by rw [Hl5.out]; omega, hbel5⟩
              · have hk1' : ¬ ((k : Int) < (m : Int) - 1) := by omega
                have hnil : b.drop (k + 1) = [] := List.drop_eq_nil_of_le (by rw [Hlb.out]; omega)
                have hcode : Sym.code t (b.drop k) = none := by
                  rw [hdrop.out, hnil]
                  show (if (255 : UInt8).toNat < t.length then _ else _) = _
                  rw [if_neg hct']; rfl
                have HE : Hid (Sym.decode t most [] b = ([], 2)) := Lib.hid (by rw [← HDEC.out]; exact Sym.decode_none (by rw [hdrop.out]; simp) hcode)
                clear hcode hnil HDEC hbr h1r hown
                go_wp2
                go_ret2
                exact ⟨none, 0, by rw [HE.out]; rfl, by rw [HE.out]; exact own_none _ _, hbel⟩
            · have h2 : ((c.toNat : Int) == 255) = false := by
                have : c.toNat ≠ 255 := fun e => h255 (UInt8.toNat_inj.1 e)
                simp; omega
              have hcode : Sym.code t (b.drop k) = none := by
                rw [hdrop.out]
                show (if c.toNat < t.length then _ else _) = _
                rw [if_neg hct', if_neg h255]
              have HE : Hid (Sym.decode t most [] b = ([], 2)) := Lib.hid (by rw [← HDEC.out]; exact Sym.decode_none (by rw [hdrop.out]; simp) hcode)
              clear hcode HDEC hbr h1r hown
              go_wp2
              go_ret2
              exact ⟨none, 0, by rw [HE.out]; rfl, by rw [HE.out]; exact own_none _ _, hbel⟩
        · have hkm' : ¬ ((k : Int) < (m : Int)) := by omega
          have HE : Hid (Sym.decode t most [] b = (o, 0)) := by
            have hr : b.drop k = [] := List.drop_eq_nil_of_le (by rw [Hlb.out]; omega)
            have := HDEC.out
            rw [hr, Sym.decode_nil] at this
            exact Lib.hid this.symm
          clear HDEC
          go_wp2
          go_ret2
          exact ⟨A2, c2, by rw [HE.out]; rfl, by rw [HE.out]; exact hown, hbel⟩
  · rw [Sym.formed_not.2 hf] at HF
    rw [if_neg (fun h => hf h.1)]
    replace HF := Lib.hid HF
    clear h1 hs hl hb hf
    go_enter Tryz.func66, Tryz.ntmps66
    go_wp2_with fail
    refine HF.out.mono ?_
    rintro e w' ⟨rfl, hd⟩
    clear HF
    go_wp2
    go_ret2
    exact PairPost.none 1 (hd.below _)
end Go.Proofs.YtoebeibmmclhpaaGreat
