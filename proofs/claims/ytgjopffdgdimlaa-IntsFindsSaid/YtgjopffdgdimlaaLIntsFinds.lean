/- PROVED: the law IntsFinds (just the granules that hold a number below, or above, are told) returns true and leaves its argument as it was, for every argument.
   Conditions: none but the form's own reach (a slice has fewer than 2^47 bytes). -/
import Derived.Test.YtgjopffdgdimlaaBF

namespace Go.Proofs.Ytgjopffdgdimlaa.intsFinds
open Go.ChangeShapes Go.WideShapes Go.ChangeAt Go.RowKit

theorem ints_snoc (l : List Nat) (d : Nat) : Ict.ints (l ++ [d]) = Ict.ints l ++ [(d : Int)] := by simp [Ict.ints]
theorem ints_length (l : List Nat) : (Ict.ints l).length = l.length := by simp [Ict.ints]
theorem ints_last (l : List Nat) (d : Nat) : (Ict.ints (l ++ [d]))[l.length]'(by simp [Ict.ints]) = (d : Int) := by simp [Ict.ints]
/-- what the loop holds behind k cells -/
def Held (M : Nat) (w wr : World) (X Y : List Nat) (q r : Value) : Prop :=
  ∃ A3 c3 A4 c4, q = .slice A3 X.length c3 ∧ r = .slice A4 Y.length c4 ∧ IOwn wr M A3 X.length c3 (Ict.ints X) ∧ IOwn wr M A4 Y.length c4 (Ict.ints Y) ∧ (∀ b, blk A3 = some b → blk A4 ≠ some b) ∧ Below M w wr ∧ M ≤ wr.heap.size
/-- one more, on the first list -/
theorem Held.one {M c3 c4 c5 : Nat} {w wr w8 : World} {X Y : List Nat} {A3 A4 A5 : Option Addr} {d : Nat} {tmp : Obj} (h3 : IOwn wr M A3 X.length c3 (Ict.ints X)) (h4 : IOwn wr M A4 Y.length c4 (Ict.ints Y)) (hne : ∀ b, blk A3 = some b → blk A4 ≠ some b) (hb : Below M w wr) (hM : M ≤ wr.heap.size)
    (ho : IOwn w8 M A5 (X.length + 1) c5 (Ict.ints X ++ [(d : Int)])) (hg : (wr.alloc tmp).grownBy w8 (blk A3)) (hat : blk A5 = blk A3 ∨ blk A5 = some (wr.alloc tmp).heap.size) :
    Held M w w8 (X ++ [d]) Y (.slice A5 (X.length + 1) c5) (.slice A4 Y.length c4) := by
  have h4' := h4.alloc tmp
  have h3' := h3.alloc tmp
  have hs := hg.size
  refine ⟨A5, c5, A4, c4, by simp, rfl, by rw [ints_snoc, List.length_append]; exact ho, h4'.kept hg ?_, ?_, (hb.alloc hM tmp).grown hg (by simp; omega) (fun k hk => (h3'.lt hk).1), by simp at hs; omega⟩
  · rcases h : blk A3 with _ | b
    · rcases h5 : blk A4 with _ | b'
      · exact .inl rfl
      · exact .inr (by simp)
    · exact .inr (hne b h)
  · intro b h5 h6
    rcases hat with h7 | h7
    · exact hne b (by rw [← h7]; exact h5) h6
    · rw [h7] at h5
      injection h5 with h5
      have := (h4.lt h6).2
      simp at h5
      omega
/-- one more, on the second list -/
theorem Held.two {M c3 c4 c5 : Nat} {w wr w8 : World} {X Y : List Nat} {A3 A4 A5 : Option Addr} {d : Nat} {tmp : Obj} (h3 : IOwn wr M A3 X.length c3 (Ict.ints X)) (h4 : IOwn wr M A4 Y.length c4 (Ict.ints Y)) (hne : ∀ b, blk A3 = some b → blk A4 ≠ some b) (hb : Below M w wr) (hM : M ≤ wr.heap.size)
    (ho : IOwn w8 M A5 (Y.length + 1) c5 (Ict.ints Y ++ [(d : Int)])) (hg : (wr.alloc tmp).grownBy w8 (blk A4)) (hat : blk A5 = blk A4 ∨ blk A5 = some (wr.alloc tmp).heap.size) :
    Held M w w8 X (Y ++ [d]) (.slice A3 X.length c3) (.slice A5 (Y.length + 1) c5) := by
  obtain ⟨B1, d1, B2, d2, e1, e2, g3, g4, gne, gb, gM⟩ := Held.one (X := Y) (Y := X) h4 h3 (fun b h5 h6 => hne b h6 h5) hb hM ho hg hat
  exact ⟨B2, d2, B1, d1, e2, e1, g4, g3, (fun b h5 h6 => gne b h6 h5), gb, gM⟩

set_option maxHeartbeats 4000000 in
set_option maxRecDepth 100000 in
theorem walk (A : Option Addr) (n cap : Nat) (l : List (Bool × Int)) (N : Int) (w : World) (hl : l.length = n) (hcap : n ≤ cap) (hn : 16 * n ≤ 140737488351232) (_hf : Ict.fits l) (hb : Cols w w.heap.size A l) (_hz0 : -9223372036854775808 ≤ N) (_hz1 : N ≤ 9223372036854775807) :
    Calls Try.prog 7 #[.slice A n cap, .int .i64 N] w fun e w' => e = .returned (.bool true) ∧ Below w.heap.size w w' := by
  have HB := Lib.hid (fun W (hbel : Below w.heap.size w W) => icBelow_any A n cap w.heap.size l N W hl hcap (hb.below hbel) hbel.size)
  have HA := Lib.hid (fun W (hbel : Below w.heap.size w W) => icAbove_any A n cap w.heap.size l N W hl hcap (hb.below hbel) hbel.size)
  have HF := Lib.hid (fun W (hbel : Below w.heap.size w W) => refFormed_any A n cap w.heap.size l W hl hn (hb.below hbel))
  have Hl := Lib.hid hl
  have hbn := Ict.below_none (l := l) (N := N)
  have han := Ict.above_none (l := l) (N := N)
  have hbs := Ict.below_scan (l := l) (N := N)
  have has := Ict.above_scan (l := l) (N := N)
  have hn4 : Ict.formed l = true → n ≤ 4096 := fun h => by
    simp only [Ict.formed, Bool.and_eq_true, decide_eq_true_eq, hl] at h
    exact h.1
  generalize Ict.formed l = F at *
  obtain ⟨LB, hLB⟩ : ∃ LB, LB = Ict.below l N := ⟨_, rfl⟩
  obtain ⟨LA, hLA⟩ : ∃ LA, LA = Ict.above l N := ⟨_, rfl⟩
  rw [← hLB] at HB hbn hbs
  rw [← hLA] at HA han has
  have Hbn := Lib.hid hbn
  have Han := Lib.hid han
  have Hbs := Lib.hid hbs
  have Has := Lib.hid has
  clear hbn han hbs has hLB hLA hl
  go_enter Try.func7, Try.ntmps7
  go_wp2_with fail
  refine (alive_any w).mono ?_
  rintro e w1 ⟨rfl, hb1⟩
  have HB' := Lib.hid (HB.out w1 hb1)
  go_wp2_with fail
  refine HB'.out.mono ?_
  rintro e w2 ⟨A1, c1, rfl, ho1, hb2⟩
  have hb12 := hb1.trans (hb2.mono hb1.size)
  have HA' := Lib.hid (HA.out w2 hb12)
  clear HB HB' hb2
  go_wp2_with fail
  refine HA'.out.mono ?_
  rintro e w3 ⟨A2, c2, rfl, ho2, hb3⟩
  have ho1 := ho1.below hb3
  have hb13 := hb12.trans (hb3.mono hb12.size)
  have HF' := Lib.hid (HF.out w3 hb13)
  clear HA HA' hb3 HF hb12
  go_wp2_with fail
  refine HF'.out.mono ?_
  rintro e w3' ⟨rfl, rfl⟩
  clear HF'
  cases F
  · have e1 := Hbn.out rfl
    have e2 := Han.out rfl
    subst e1 e2
    go_wp2
    go_ret
    exact ⟨rfl, hb13⟩
  · have e1 := Hbs.out rfl
    have e2 := Has.out rfl
    have hn4 := hn4 rfl
    have hrow := hb.below hb13
    have hLBl : LB.length ≤ 257 := by
      rw [e1, ints_length]
      have := Ict.scan_length l (fun c => c.1 && decide (c.2 < N)) l.length
      have := Hl.out
      omega
    have hLAl : LA.length ≤ 257 := by
      rw [e2, ints_length]
      have := Ict.scan_length l (fun c => c.1 && decide (N < c.2)) l.length
      have := Hl.out
      omega
    have E1 := Lib.hid e1
    have E2 := Lib.hid e2
    clear Hbn Han Hbs Has e1 e2 hb
    have hinv0 : Held w3.heap.size w3 w3 (Ict.scan l (fun c => c.1 && decide (c.2 < N)) 0) (Ict.scan l (fun c => c.1 && decide (N < c.2)) 0) (.slice none 0 0) (.slice none 0 0) :=
      ⟨none, 0, none, 0, rfl, rfl, ROwn.nil _ _ _ _, ROwn.nil _ _ _ _, (fun b h => by cases h), Below.refl _ _, Nat.le_refl _⟩
    go_wp2
    go_loopw [7, 8, 9] (fun q r i wr => ∃ (k : Nat), k ≤ n ∧ i = .int .i64 k ∧ Held w3.heap.size w3 wr (Ict.scan l (fun c => c.1 && decide (c.2 < N)) k) (Ict.scan l (fun c => c.1 && decide (N < c.2)) k) q r) (fun _ _ i _ => n - (intOf i).toNat)
    case atStart => exact ⟨0, Nat.zero_le _, rfl, hinv0⟩
    case round =>
      clear hinv0
      obtain ⟨k, hk, rfl, A3, c3, A4, c4, rfl, rfl, h3, h4, hne, hbr, hM⟩ := hrel
      have hx1 := Ict.scan_length l (fun c => c.1 && decide (c.2 < N)) k
      have hx2 := Ict.scan_length l (fun c => c.1 && decide (N < c.2)) k
      by_cases hlt : k < n
      · have hk' : k < l.length := by have := Hl.out; omega
        obtain ⟨ad, rfl, _, m0, m1, m2⟩ := Cols.at_ ((hrow.wide hb13.size).below hbr) hk'
        have hm := fun W (hW : Below w3.heap.size w3 W) => Cols.atAd ((hrow.wide hb13.size).below hW) hk'
        have i1 : (k : Int) < (n : Int) := by omega
        have i0 : (0 : Int) ≤ (k : Int) := by omega
        have s1 := Ict.scan_same (P := fun c => c.1 && decide (c.2 < N)) hk'
        have s2 := Ict.scan_same (P := fun c => c.1 && decide (N < c.2)) hk'
        have t1 := Ict.scan_told (l := l) (P := fun c => c.1 && decide (c.2 < N)) (k := k)
        have t2 := Ict.scan_told (l := l) (P := fun c => c.1 && decide (N < c.2)) (k := k)
        have u1 := Ict.scan_new (P := fun c => c.1 && decide (c.2 < N)) hk'
        have u2 := Ict.scan_new (P := fun c => c.1 && decide (N < c.2)) hk'
        have hdiv : (k : Int).tdiv 16 = ((k / 16 : Nat) : Int) := (Int.ofNat_tdiv k 16).symm
        have hd4 : k / 16 ≤ 4096 := by omega
        generalize k / 16 = d at *
        have hwr : wrap64 (d : Int) = d := by unfold wrap64; omega
        have hX : (Ict.scan l (fun c => c.1 && decide (c.2 < N)) k).length ≤ 300 := by omega
        have hY : (Ict.scan l (fun c => c.1 && decide (N < c.2)) k).length ≤ 300 := by omega
        clear hx1 hx2 hd4
        generalize Ict.scan l (fun c => c.1 && decide (c.2 < N)) k = X at *
        generalize Ict.scan l (fun c => c.1 && decide (N < c.2)) k = Y at *
        generalize hX1 : Ict.scan l (fun c => c.1 && decide (c.2 < N)) (k + 1) = X1 at *
        generalize hY1 : Ict.scan l (fun c => c.1 && decide (N < c.2)) (k + 1) = Y1 at *
        have HX1 := Lib.hid hX1
        have HY1 := Lib.hid hY1
        clear hX1 hY1
        generalize l[k] = cl at *
        obtain ⟨h, z⟩ := cl
        simp only at m0 m1 m2 s1 s2 u1 u2 hm
        have HBR := Lib.hid hbr
        have HM := Lib.hid hm
        clear hm
        cases h
        · have hcc : True := trivial
          have HS := Lib.hid (show X1 = X ∧ Y1 = Y from ⟨s1 (by simp), s2 (by simp)⟩)
          have HH := Lib.hid (show Held w3.heap.size w3 wr X Y (.slice A3 X.length c3) (.slice A4 Y.length c4) from ⟨A3, c3, A4, c4, rfl, rfl, h3, h4, hne, hbr, hM⟩)
          clear s1 s2 t1 t2 u1 u2 h3 h4 hne hbr
          go_wp2
          go_roundw
          case rel => exact ⟨k + 1, by omega, by go_num, by rw [HX1.out, HY1.out, HS.out.1, HS.out.2]; exact HH.out⟩
          case measure => simp [intOf]; omega
        · by_cases hzl : z < N
          · have hzg : ¬ N < z := by omega
            have HR := Lib.hid (show Y1 = Y from s2 (by simp; omega))
            rcases List.eq_nil_or_concat X with rfl | ⟨X0, y, rfl⟩
            · simp only [List.length_nil] at *
              have HN := Lib.hid (show X1 = [] ++ [d] from u1 (by simp; omega) (by simp))
              have h' := h3.alloc (.cells #[.int .i64 (d : Int)] 3)
              have hone := (iown_one wr (d : Int)).row
              have hH := fun A5 c5 w8 => Held.one (w := w3) (c5 := c5) (w8 := w8) (A5 := A5) (d := d) (tmp := .cells #[.int .i64 (d : Int)] 3) h3 h4 hne hbr hM
              have HH := Lib.hid hH
              clear s1 s2 t1 t2 u1 u2 h3 h4 hne hbr hH
              go_wp2_with (at_builtin; refine wpList_append_row elemI rfl (.tmp 65) (.tmp 67) rfl w3.heap.size _ 0 c3 _ rfl h' _ _ 1 1 [_] rfl rfl hone (by omega) (by simp only [maxLen]; omega) (by simp; omega) ?_; intro A5 c5 w8 ho8 hg8 hat8; obtain ⟨m0x, m1x, m2x⟩ := HM.out w8 ((HBR.out.alloc hM _).grown hg8 (by simp; omega) (fun k hk => (h'.lt hk).1)))
              have HH8 := Lib.hid (HH.out A5 c5 w8 ho8 hg8 hat8)
              clear HH ho8 hg8 hat8 h' hone
              go_roundw
              case rel => exact ⟨k + 1, by omega, by go_num, by rw [HX1.out, HY1.out, HR.out, HN.out]; exact HH8.out⟩
              case measure => simp [intOf]; omega
            · rw [List.concat_eq_append] at *
              have hYl : X0.length ≤ 300 := by simp at hX; omega
              obtain ⟨g, rfl, _, _⟩ := h3.at_ (by simp)
              have hgc := h3.cell (k := X0.length) (by rw [ints_length]; simp)
              rw [ints_last] at hgc
              simp only [ival] at hgc
              have hl0 : ((X0.length : Int) + 1 == 0) = false := by simp; omega
              have hlw : wrap64 ((X0.length : Int) + 1 - 1) = X0.length := by unfold wrap64; omega
              by_cases hyd : y = d
              · subst hyd
                have HN := Lib.hid (show X1 = X0 ++ [y] from t1 (by simp))
                have hyy : ((y : Int) != (y : Int)) = false := by simp
                have HH := Lib.hid (show Held w3.heap.size w3 wr (X0 ++ [y]) Y (.slice (some ⟨g, 0, none⟩) (X0 ++ [y]).length c3) (.slice A4 Y.length c4) from ⟨_, c3, A4, c4, rfl, rfl, h3, h4, hne, hbr, hM⟩)
                simp only [List.length_append, List.length_singleton] at *
                clear s1 s2 t1 t2 u1 u2 h3 h4 hne hbr
                go_wp2
                go_roundw
                case rel => exact ⟨k + 1, by omega, by go_num, by rw [HX1.out, HY1.out, HR.out, HN.out]; exact HH.out⟩
                case measure => simp [intOf]; omega
              · have hyn : ((y : Int) != (d : Int)) = true := bne_iff_ne.2 (fun e => hyd (by exact_mod_cast e))
                have HN := Lib.hid (show X1 = (X0 ++ [y]) ++ [d] from u1 (by simp; omega) (by simp; omega))
                clear hyd
                have h' := h3.alloc (.cells #[.int .i64 (d : Int)] 3)
                have hone := (iown_one wr (d : Int)).row
                have hH := fun A5 c5 w8 => Held.one (w := w3) (c5 := c5) (w8 := w8) (A5 := A5) (d := d) (tmp := .cells #[.int .i64 (d : Int)] 3) h3 h4 hne hbr hM
                have HH := Lib.hid hH
                rw [List.length_append, List.length_singleton] at h'
                simp only [List.length_append, List.length_singleton] at *
                clear s1 s2 t1 t2 u1 u2 h3 h4 hne hbr hH
                go_wp2_with (at_builtin; refine wpList_append_row elemI rfl (.tmp 65) (.tmp 67) rfl w3.heap.size _ (X0.length + 1) c3 _ rfl h' _ _ 1 1 [_] rfl rfl hone (by omega) (by simp only [maxLen]; omega) (by simp; omega) ?_; intro A5 c5 w8 ho8 hg8 hat8; obtain ⟨m0x, m1x, m2x⟩ := HM.out w8 ((HBR.out.alloc hM _).grown hg8 (by simp; omega) (fun k hk => (h'.lt hk).1)))
                have HH8 := Lib.hid (HH.out A5 c5 w8 ho8 hg8 hat8)
                clear HH ho8 hg8 hat8 h' hone
                go_roundw
                case rel => exact ⟨k + 1, by omega, by go_num, by rw [HX1.out, HY1.out, HR.out, HN.out]; exact HH8.out⟩
                case measure => simp [intOf]; omega
          · by_cases hzg : N < z
            · have hcc : True := trivial
              have HR := Lib.hid (show X1 = X from s1 (by simp; omega))
              rcases List.eq_nil_or_concat Y with rfl | ⟨Y0, y, rfl⟩
              · simp only [List.length_nil] at *
                have HN := Lib.hid (show Y1 = [] ++ [d] from u2 (by simp; omega) (by simp))
                have h' := h4.alloc (.cells #[.int .i64 (d : Int)] 3)
                have hone := (iown_one wr (d : Int)).row
                have hH := fun A5 c5 w8 => Held.two (w := w3) (c5 := c5) (w8 := w8) (A5 := A5) (d := d) (tmp := .cells #[.int .i64 (d : Int)] 3) h3 h4 hne hbr hM
                have HH := Lib.hid hH
                clear s1 s2 t1 t2 u1 u2 h3 h4 hne hbr hH
                go_wp2_with (at_builtin; refine wpList_append_row elemI rfl (.tmp 98) (.tmp 100) rfl w3.heap.size _ 0 c4 _ rfl h' _ _ 1 1 [_] rfl rfl hone (by omega) (by simp only [maxLen]; omega) (by simp; omega) ?_; intro A5 c5 w8 ho8 hg8 hat8; obtain ⟨m0x, m1x, m2x⟩ := HM.out w8 ((HBR.out.alloc hM _).grown hg8 (by simp; omega) (fun k hk => (h'.lt hk).1)))
                have HH8 := Lib.hid (HH.out A5 c5 w8 ho8 hg8 hat8)
                clear HH ho8 hg8 hat8 h' hone
                go_roundw
                case rel => exact ⟨k + 1, by omega, by go_num, by rw [HX1.out, HY1.out, HR.out, HN.out]; exact HH8.out⟩
                case measure => simp [intOf]; omega
              · rw [List.concat_eq_append] at *
                have hYl : Y0.length ≤ 300 := by simp at hY; omega
                obtain ⟨g, rfl, _, _⟩ := h4.at_ (by simp)
                have hgc := h4.cell (k := Y0.length) (by rw [ints_length]; simp)
                rw [ints_last] at hgc
                simp only [ival] at hgc
                have hl0 : ((Y0.length : Int) + 1 == 0) = false := by simp; omega
                have hlw : wrap64 ((Y0.length : Int) + 1 - 1) = Y0.length := by unfold wrap64; omega
                by_cases hyd : y = d
                · subst hyd
                  have HN := Lib.hid (show Y1 = Y0 ++ [y] from t2 (by simp))
                  have hyy : ((y : Int) != (y : Int)) = false := by simp
                  have HH := Lib.hid (show Held w3.heap.size w3 wr X (Y0 ++ [y]) (.slice A3 X.length c3) (.slice (some ⟨g, 0, none⟩) (Y0 ++ [y]).length c4) from ⟨A3, c3, _, c4, rfl, rfl, h3, h4, hne, hbr, hM⟩)
                  simp only [List.length_append, List.length_singleton] at *
                  clear s1 s2 t1 t2 u1 u2 h3 h4 hne hbr
                  go_wp2
                  go_roundw
                  case rel => exact ⟨k + 1, by omega, by go_num, by rw [HX1.out, HY1.out, HR.out, HN.out]; exact HH.out⟩
                  case measure => simp [intOf]; omega
                · have hyn : ((y : Int) != (d : Int)) = true := bne_iff_ne.2 (fun e => hyd (by exact_mod_cast e))
                  have HN := Lib.hid (show Y1 = (Y0 ++ [y]) ++ [d] from u2 (by simp; omega) (by simp; omega))
                  clear hyd
                  have h' := h4.alloc (.cells #[.int .i64 (d : Int)] 3)
                  have hone := (iown_one wr (d : Int)).row
                  have hH := fun A5 c5 w8 => Held.two (w := w3) (c5 := c5) (w8 := w8) (A5 := A5) (d := d) (tmp := .cells #[.int .i64 (d : Int)] 3) h3 h4 hne hbr hM
                  have HH := Lib.hid hH
                  rw [List.length_append, List.length_singleton] at h'
                  simp only [List.length_append, List.length_singleton] at *
                  clear s1 s2 t1 t2 u1 u2 h3 h4 hne hbr hH
                  go_wp2_with (at_builtin; refine wpList_append_row elemI rfl (.tmp 98) (.tmp 100) rfl w3.heap.size _ (Y0.length + 1) c4 _ rfl h' _ _ 1 1 [_] rfl rfl hone (by omega) (by simp only [maxLen]; omega) (by simp; omega) ?_; intro A5 c5 w8 ho8 hg8 hat8; obtain ⟨m0x, m1x, m2x⟩ := HM.out w8 ((HBR.out.alloc hM _).grown hg8 (by simp; omega) (fun k hk => (h'.lt hk).1)))
                  have HH8 := Lib.hid (HH.out A5 c5 w8 ho8 hg8 hat8)
                  clear HH ho8 hg8 hat8 h' hone
                  go_roundw
                  case rel => exact ⟨k + 1, by omega, by go_num, by rw [HX1.out, HY1.out, HR.out, HN.out]; exact HH8.out⟩
                  case measure => simp [intOf]; omega
            · have hcc : True := trivial
              have HS := Lib.hid (show X1 = X ∧ Y1 = Y from ⟨s1 (by simp; omega), s2 (by simp; omega)⟩)
              have HH := Lib.hid (show Held w3.heap.size w3 wr X Y (.slice A3 X.length c3) (.slice A4 Y.length c4) from ⟨A3, c3, A4, c4, rfl, rfl, h3, h4, hne, hbr, hM⟩)
              clear s1 s2 t1 t2 u1 u2 h3 h4 hne hbr
              go_wp2
              go_roundw
              case rel => exact ⟨k + 1, by omega, by go_num, by rw [HX1.out, HY1.out, HS.out.1, HS.out.2]; exact HH.out⟩
              case measure => simp [intOf]; omega
      · obtain rfl : k = n := by omega
        have EQ1 : LB = Ict.ints (Ict.scan l (fun c => c.1 && decide (c.2 < N)) k) := by rw [← Hl.out]; exact E1.out
        have EQ2 : LA = Ict.ints (Ict.scan l (fun c => c.1 && decide (N < c.2)) k) := by rw [← Hl.out]; exact E2.out
        rw [← EQ1] at h3
        rw [← EQ2] at h4
        have hl1 : (Ict.scan l (fun c => c.1 && decide (c.2 < N)) k).length = LB.length := by rw [EQ1, ints_length]
        have hl2 : (Ict.scan l (fun c => c.1 && decide (N < c.2)) k).length = LA.length := by rw [EQ2, ints_length]
        rw [hl1] at h3 ⊢
        rw [hl2] at h4 ⊢
        have hb14 := hb13.trans (hbr.mono hb13.size)
        have H1 := Lib.hid (ints_any A1 A3 LB.length LB.length c1 c3 _ _ LB LB wr rfl rfl (by omega) (by omega) (ho1.below hbr).row h3.row)
        have H2 := Lib.hid (fun W (hd : Drawn wr W) => ints_any A2 A4 LA.length LA.length c2 c4 _ _ LA LA W rfl rfl (by omega) (by omega) (hd.row (ho2.below hbr).row) (hd.row h4.row))
        rw [show decide (LB = LB) = true from by simp] at H1
        rw [show decide (LA = LA) = true from by simp] at H2
        clear EQ1 EQ2 E1 E2 hl1 hl2 hx1 hx2 hrow
        go_wp2_with fail
        refine H1.out.mono ?_
        rintro e w4 ⟨rfl, hd4⟩
        have H2' := Lib.hid (H2.out w4 hd4)
        clear H1 H2
        go_wp2_with fail
        refine H2'.out.mono ?_
        rintro e w5 ⟨rfl, hd5⟩
        clear H2'
        go_wp2
        go_ret
        exact ⟨rfl, hb14.trans ((hd4.trans hd5).below _)⟩

set_option maxRecDepth 100000 in
/-- from the walk to the post of the row -/
theorem contract (H : Type) (enc : TypeId × Value → H) (W : World) (base : Nat) (args : Array Value) (ds gs : List (DataW H)) (before : List MemPlace)
    (hval : ∀ (j : Nat) t v, Try.f7.params[j]? = some t → args[j]? = some v → Value.okWide Try.prog W .any base t v)
    (hW : DataW.Whole enc Try.prog Try.f7.params.toList Rows.intsFindsSpec.vars false W args.toList ds gs before) (_ : laidMetH Try.prog Rows.intsFindsRow.laid W)
    (hsz0 : (DataW.weightsEach Try.prog (Try.f7.params.toList ++ Rows.intsFindsSpec.plain.varTypes Try.prog) (ds ++ gs)).all (· ≤ reachBytes) = true) :
    Calls Try.prog 7 args W fun e W' => ∃ v, e = .returned v ∧ Rows.intsFindsSpec.post enc Try.prog Try.f7 false true false false W args v W' := by
  have hW' := hW
  obtain ⟨p, q, hA0, hV, rfl, hfz, hnd⟩ := hW
  have hA : DataW.TrodAll enc Try.prog W 0 (fun _ => true) true Try.f7.params.toList args.toList ds p := hA0
  rw [Try.params7] at hA hval hsz0
  obtain ⟨v0, vs0, d0, ds0, p0, q0, hargs, rfl, rfl, h0, r0⟩ := trodAll_cons hA
  obtain ⟨v1, vs1, d1, ds1, p1, q1, rfl, rfl, rfl, h1, r1⟩ := trodAll_cons r0
  obtain ⟨rfl, rfl, rfl⟩ := trodAll_nil r1
  obtain rfl : args = #[v0, v1] := by cases args; simp_all
  obtain ⟨rfl, rfl⟩ := trodVars_none hV
  obtain ⟨a0, len0, cap0, rfl⟩ := okWide_slice Try.underlying23 (hval 0 23 v0 rfl rfl)
  have lt0 : ∀ x ∈ p0, x.block < W.heap.size := by obtain ⟨m, hm⟩ := h0; exact DataW.trod_lt m _ _ _ hm
  obtain ⟨l0, e0, ec0, ef0, b0, k0⟩ := open_cells h0
  have reach0 := reach_cells hsz0 (j := 0) rfl rfl k0
  obtain ⟨x1, rfl, rfl, rfl, w1⟩ := open_int Try.underlying3 (hval 1 3 v1 rfl rfl) h1
  clear hA0
  refine (walk a0 len0 cap0 l0 x1 W e0 ec0 reach0 ef0 b0 (by have := bounds_i64 w1; omega) (by have := bounds_i64 w1; omega)).mono fun e W' ⟨he, bel⟩ => ?_
  subst he
  exact ⟨_, rfl, _, _, _, [], _, [], hW', trodAll_mk1 (shut_bool Try.underlying4 _), (trodAll_cons_mk (Below.trod laidOut (by kernel_rfl) (of_decide_eq_true (by kernel_rfl)) h0 bel lt0) (trodAll_cons_mk (shut_int Try.underlying3 w1) trodAll_mk0)), rfl, bel.frame _, fun h => by cases h⟩

theorem laid_met (os : Os) : laidMet Try.prog Rows.intsFindsRow.laid ((World.holding Try.prog os ⟨#[], #[], []⟩).forCall (fun _ _ => 0) ⟨#[], #[.slice none 0 0, .int .i64 0], []⟩).memory :=
  laidMet_of_run' 8 (by kernel_rfl) (by kernel_rfl)
theorem reads (os : Os) {H : Type} (enc : TypeId × Value → H) : ∃ places, DataW.whole enc Try.prog ((World.holding Try.prog os ⟨#[], #[], []⟩).forCall (fun _ _ => 0) ⟨#[], #[.slice none 0 0, .int .i64 0], []⟩).memory Try.f7.params.toList Rows.intsFindsSpec.vars false #[Value.slice none 0 0, .int .i64 0].toList 8 = some ([.nil, .lit (.int .i64 0)], [], places) :=
  ⟨[], by kernel_rfl⟩

set_option maxRecDepth 100000 in
theorem lifted (os : Os) (started : os.Started) (H : Type) (enc : TypeId × Value → H) (F : Stop.Interp) :
    ReturnsInHanded {} Try.checked os 7 .any ((OpenSpec.ofChange Rows.intsFindsSpec).preRow enc Try.prog Try.f7 Rows.intsFindsRow.domain false Rows.intsFindsRow.laid) (((OpenSpec.ofChange Rows.intsFindsSpec).at F).post enc Try.prog Try.f7 false true false false) := by
  obtain ⟨places, hx⟩ := reads os enc
  refine returnsInHanded_of_row (C := Try.checked) (s := OpenSpec.ofChange Rows.intsFindsSpec) own started (by kernel_rfl) Try.func7
    (witness_row_at (enc := enc) (C := Try.checked) false (World.holding Try.prog os ⟨#[], #[], []⟩) #[.slice none 0 0, .int .i64 0] rfl (by kernel_rfl) (by kernel_rfl) (by kernel_rfl)
      (OpenSpec.preRow_of_cond 8 hx (by kernel_rfl) (fun k hk => by cases hk) (by kernel_rfl) (laid_met os))) ?_
  intro W base args ds gs before hval hW _ _ hsz hL _ _
  exact contract H enc W base args ds gs before hval hW hL hsz

theorem said : Rows.IntsFindsSaid :=
  OpenClaim.holds_of_cond 7 Try.f7 rfl rfl rfl rfl rfl rfl rfl ⟨rfl, rfl, rfl, rfl, rfl⟩ rfl rfl rfl rfl rfl (by kernel_rfl) Try.func7 (by kernel_rfl)
    (of_decide_eq_true (by kernel_rfl)) (by unfold Func.isWrapper; first | (rw [if_pos (by decide +kernel)]; kernel_rfl) | (rw [if_neg (by decide +kernel)]; exact ⟨rfl, rfl⟩))
    (fun os started H enc _ F => by rw [OpenClaim.pre_eq_preRow]; exact lifted os started H enc F)

end Go.Proofs.Ytgjopffdgdimlaa.intsFinds
