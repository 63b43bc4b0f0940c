/- Texts of several layers, one behind the other: IcSame IcRefB IcRefZ IcZEq. -/
import Derived.Test.YtgjopffdgdimlaaBE
import Derived.Laws.StructEq
import Derived.Deep.QuietTactic
import Derived.BigQuiet
import Derived.RegionTactic
/- The document's Copy and Same of columns. -/
namespace Go.Proofs.Ytgjopffdgdimlaa
open Go.RowKit
set_option maxRecDepth 100000

theorem stoodIn_cell : Try.prog.stoodInHeld 46 = false := by kernel_rfl
theorem guard_cell : Try.prog.eqGuardType Try.prog.depth 46 = false := by kernel_rfl
theorem struct_cell : Try.prog.underlying 46 = some (.struct (Try.prog.fieldsOf 46)) := by kernel_rfl
theorem run_eq_cell (a b : Bool) (c d : Int) (W : World) :
    (Op.equalIn 10000 46 (.agg #[.bool a, .int .i64 c]) (.agg #[.bool b, .int .i64 d])).run Try.prog W = .ok (decide ((a, c) = (b, d))) W := by
  rw [run_equalIn_struct W 9999 46 _ _ struct_cell stoodIn_cell]
  rw [show decide ((a, c) = (b, d)) = (a == b && c == d) from by rw [Bool.eq_iff_iff]; simp]
  simp only [Program.fieldsOf, Try.underlying46]
  rcases h1 : (a == b) with _ | _ <;> rcases h2 : (c == d) with _ | _ <;> simp [Op.eqFields, go_sem, h1, h2]

theorem copyC_any (A : Option Addr) (n cap B : Nat) (l : List (Bool × Int)) (w : World) (hl : l.length = n) (hn : 16 * n ≤ 140737488351232) (hb : Cols w B A l) (hB : B ≤ w.heap.size) :
    Calls Try.prog 11 #[.slice A n cap] w fun e w' => ∃ A' c, e = .returned (.slice A' n c) ∧ COwn w' w.heap.size A' n c l ∧ Below w.heap.size w w' := by
  have Hl := Lib.hid hl; clear hl
  have ho1 : COwn (w.alloc (.cells #[] 46)) w.heap.size (some ⟨w.heap.size, 0, none⟩) 0 0 [] := MOwn.lit (f := cellV) (m := 2) (e := 46) (fun _ => rfl) w w.heap.size [] (Nat.le_refl _) (by simp)
  have hbel : Below w.heap.size w (w.alloc (.cells #[] 46)) := (Below.refl _ _).alloc (Nat.le_refl _) _
  have hb1 := (hb.wide hB).below hbel
  clear hb
  go_enter Try.func11, Try.ntmps11
  go_wp2_with (at_builtin; refine wpList_append_mrow elemC rfl (.tmp 3) (.tmp 4) rfl w.heap.size _ 0 0 [] rfl ho1 _ A n cap l rfl Hl.out hb1 (by omega) (by simp only [maxLen]; omega) (by simp) ?_; intro A1 c1 w1 ho2 hg2 hat2)
  go_ret
  rw [Nat.zero_add] at ho2
  refine ⟨A1, c1, by simp, ho2, hbel.grown hg2 (by simp) ?_⟩
  intro k hk
  simp [blk] at hk
  omega

set_option maxHeartbeats 2000000 in
theorem sameC_any (A : Option Addr) (n c B : Nat) (fs : List (Bool × Int)) (A2 : Option Addr) (n2 c2 B2 : Nat) (gs : List (Bool × Int)) (w : World) (hl : fs.length = n) (hl2 : gs.length = n2) (hn : 16 * n ≤ 140737488351232) (hn2 : 16 * n2 ≤ 140737488351232) (hf : Cols w B A fs) (hg : Cols w B2 A2 gs) :
    Calls Try.prog 14 #[.slice A n c, .slice A2 n2 c2] w fun e w' => e = .returned (.bool (decide (fs = gs))) ∧ Drawn w w' := by
  generalize hD : decide (fs = gs) = D
  have HD := Lib.hid hD; clear hD
  by_cases hnn : n = n2
  · subst hnn
    have HL := Lib.hid hl
    have HL2 := Lib.hid hl2
    clear hl hl2
    go_enter Try.func14, Try.ntmps14
    go_wp2
    go_loopw [5] (fun i wr => ∃ (k q : Nat), k ≤ n ∧ i = .int .i64 (k : Int) ∧ fs.take k = gs.take k ∧ wr = w.drewN q) (fun i _ => n - (intOf i).toNat)
    case atStart => exact ⟨0, 0, by omega, rfl, rfl, rfl⟩
    case round =>
      obtain ⟨k, q, hk, rfl, htk, hwr⟩ := hrel
      have hdr : Drawn w wr := ⟨q, hwr⟩
      clear hwr
      by_cases hlt : k < n
      · have h1 : k < fs.length := by have := HL.out; omega
        have h2 : k < gs.length := by have := HL2.out; omega
        obtain ⟨ad, rfl, _, c0, c1, _⟩ := Cols.at_ (hf.drawn hdr) h1
        obtain ⟨ad', rfl, _, d0, d1, _⟩ := Cols.at_ (hg.drawn hdr) h2
        have Hne := Lib.hid (ne_at h1 h2)
        have Hnx := Lib.hid (take_same h1 h2 htk)
        have i1 : (k : Int) < (n : Int) := by omega
        have i0 : (0 : Int) ≤ (k : Int) := by omega
        generalize fs[k] = f at *
        generalize gs[k] = f' at *
        obtain ⟨fa, fz⟩ := f
        obtain ⟨ga, gz⟩ := f'
        simp only at c0 c1 d0 d1
        have hgd := guard_cell
        by_cases heq : (fa, fz) = (ga, gz)
        · have hrun : ∀ W, _ := fun W => run_eq_cell fa ga fz gz W
          rw [decide_eq_true heq] at hrun
          have HR := Lib.hid (Hnx.out heq)
          clear heq Hne Hnx htk
          go_wp2
          go_quiet (fail)
          go_wp2
          go_roundw
          case rel => obtain ⟨q, hq⟩ := hdr.drewN nq; exact ⟨k + 1, q, by omega, by go_num, HR.out, hq⟩
          case measure => simp [intOf]; omega
        · have hrun : ∀ W, _ := fun W => run_eq_cell fa ga fz gz W
          rw [decide_eq_false heq] at hrun
          have HR := Lib.hid (show D = false by rw [← HD.out, decide_eq_false_iff_not]; exact Hne.out heq)
          clear heq Hne Hnx htk
          go_wp2
          go_quiet (fail)
          go_wp2
          go_ret
          exact ⟨by rw [HR.out]; rfl, hdr.drewN _⟩
      · have HR := Lib.hid (show D = true by rw [← HD.out, decide_eq_true_eq]; rwa [List.take_of_length_le (by have := HL.out; omega), List.take_of_length_le (by have := HL2.out; omega)] at htk)
        clear htk
        go_wp2
        go_ret
        exact ⟨by rw [HR.out]; rfl, hdr⟩
  · have hne : ((n : Int) == (n2 : Int)) = false := by simp; omega
    have hne' : ¬ (n : Int) = (n2 : Int) := by omega
    have HR := Lib.hid (show D = false by rw [← HD.out, decide_eq_false_iff_not]; intro e; subst e; omega)
    go_enter Try.func14, Try.ntmps14
    go_wp2
    go_ret
    exact ⟨by rw [HR.out]; rfl, Drawn.refl _⟩
end Go.Proofs.Ytgjopffdgdimlaa

/- The document's Bytes of a column. -/
namespace Go.Proofs.Ytgjopffdgdimlaa
open Go.RowKit
set_option maxRecDepth 100000

theorem rown_apart {α β : Type} {f : α → Value} {f' : β → Value} {e e' : TypeId} {w : World} {b b' n n' c c' : Nat} {A A' : Option Addr} {l : List α} {l' : List β} (h1 : ROwn f e w b A n c l) (h2 : ROwn f' e' w b' A' n' c' l') (hne : e ≠ e') : ∀ k, blk A = some k → blk A' ≠ some k := by
  intro k hk hk'
  rcases h1.2 with ⟨hv, _⟩ | ⟨g, cap, cur, hv, _, hg, _⟩
  · injection hv with h; subst h; cases hk
  · rcases h2.2 with ⟨hv', _⟩ | ⟨g', cap', cur', hv', _, hg', _⟩
    · injection hv' with h; subst h; cases hk'
    · injection hv with h; subst h
      injection hv' with h; subst h
      simp only [blk, Option.map_some, Option.some.injEq] at hk hk'
      subst hk hk'
      rw [hg] at hg'
      injection hg' with hg'
      injection hg' with _ h
      exact hne h
/-- what grows apart from a row leaves it -/
theorem rown_beside {α β : Type} {f : α → Value} {f' : β → Value} {e e' : TypeId} {w w' : World} {b b' n n' c c' : Nat} {A A' : Option Addr} {l : List α} {l' : List β} (h1 : ROwn f e w b A n c l) (h2 : ROwn f' e' w b' A' n' c' l') (hne : e ≠ e') (hg : w.grownBy w' (blk A)) : ROwn f' e' w' b' A' n' c' l' := by
  refine h2.kept hg ?_
  have := rown_apart h1 h2 hne
  rcases h : blk A with _ | k
  · rcases h' : blk A' with _ | k'
    · exact .inl rfl
    · exact .inr (by simp)
  · exact .inr (this k h)
theorem nown_one1 (w : World) (y : UInt64) (f : Int) (h : uval y = .int .u64 f) : NOwn (w.alloc (.cells #[.int .u64 f] 54)) w.heap.size (some ⟨w.heap.size, 0, none⟩) 1 1 [y] := by
  have h1 := ROwn.lit (f := uval) (e := 54) w w.heap.size [y] (Nat.le_refl _) (by simp [maxLen])
  simp only [List.map_cons, List.map_nil, h] at h1
  exact h1

set_option maxHeartbeats 4000000 in
theorem refBytesC_any (A : Option Addr) (n cap B : Nat) (l : List (Bool × Int)) (w : World) (hl : l.length = n) (hn : n ≤ 4096) (hf : Ict.fits l) (hb : Cols w B A l) (hB : B ≤ w.heap.size) :
    Calls Try.prog 17 #[.slice A n cap] w (MadeAt w.heap.size w (Ict.bytes l).length (Ict.bytes l)) := by
  have hb := hb.wide hB
  have Hl := Lib.hid hl
  have hML : (Ict.marks l).length = n := by rw [Ict.marks_length, hl]
  have hNL := Ict.nums_length l
  rw [hl] at hNL
  have H1 := Lib.hid (fun A3 c3 w' (ho : NOwn w' w.heap.size A3 n c3 (Ict.marks l)) => refPack_any A3 n c3 w'.heap.size 1 (Ict.marks l) w' hML (by omega) ho.row (Nat.le_refl _))
  have H2 := Lib.hid (fun w' => refBytes_any n w' (by omega))
  have H3 := Lib.hid (fun A3 c3 w' (ho : IOwn w' w.heap.size A3 (Ict.nums l).length c3 (Ict.nums l)) => refInts_any A3 (Ict.nums l).length c3 w'.heap.size (Ict.nums l) w' rfl (by omega) (Ict.fits_nums hf) ho.row (Nat.le_refl _))
  have hs9 := Num.size_le9 (show n < 18446744073709551616 by omega)
  have hTl := Pfor.list_length_le (foldL (Ict.nums l)) (by rw [foldL_length]; omega)
  rw [foldL_length] at hTl
  have hPl := Bits.pack_short (Ict.marks l)
  rw [hML] at hPl
  have e : Ict.bytes l = (Num.num n ++ (Bits.pack (Ict.marks l) 1).1) ++ Pfor.list (foldL (Ict.nums l)) := by unfold Ict.bytes Ict.head; rw [hl]
  rw [e]
  have hOl : (Num.num n).length = Num.size n := Num.num_length _
  unfold PackPost at H1
  generalize Pfor.list (foldL (Ict.nums l)) = T at *
  have hML' : (Ict.marks l).take n = Ict.marks l := List.take_of_length_le (by omega)
  generalize hPK : Bits.pack (Ict.marks l) 1 = PK at *
  obtain ⟨P, E⟩ := PK
  simp only at H1 hPl ⊢
  unfold MadeAt
  have hUl : (Num.num n ++ P ++ T).length = Num.size n + P.length + T.length := by rw [List.length_append, List.length_append, hOl]
  have HUl := Lib.hid hUl
  generalize Num.num n = O at *
  clear hPK e hl hML hUl hOl
  go_enter Try.func17, Try.ntmps17
  go_wp2
  go_loopw [3, 4, 5] (fun q r i wr => ∃ (k c c2 : Nat) (A1 A2 : Option Addr), k ≤ n ∧ i = .int .i64 k ∧ q = .slice A1 k c ∧ r = .slice A2 (Ict.nums (l.take k)).length c2 ∧ NOwn wr w.heap.size A1 k c (Ict.marks (l.take k)) ∧ IOwn wr w.heap.size A2 (Ict.nums (l.take k)).length c2 (Ict.nums (l.take k)) ∧ Below w.heap.size w wr) (fun _ _ i _ => n - (intOf i).toNat)
  case atStart => exact ⟨0, 0, 0, none, none, by omega, rfl, rfl, rfl, ROwn.nil _ _ _ _, ROwn.nil _ _ _ _, Below.refl _ _⟩
  case round =>
    obtain ⟨k, c, c2, A1, A2, hk, rfl, rfl, rfl, ho, hi, hbel⟩ := hrel
    have hgs := hbel.size
    by_cases hlt : k < n
    · have hk' : k < l.length := by have := Hl.out; omega
      have hk4 : (Ict.nums (l.take k)).length ≤ 4096 := Nat.le_trans (Ict.nums_length _) (by rw [List.length_take]; omega)
      obtain ⟨ad, rfl, hadl, hc0, hc1, hc2⟩ := Cols.at_ (hb.below hbel) hk'
      have HM := Lib.hid (fun W (hW : Below w.heap.size w W) => Cols.atAd (hb.below hW) hk')
      have htk : Ict.nums (l.take (k + 1)) = Ict.nums (l.take k) ++ (if l[k].1 then [l[k].2] else []) := by rw [List.take_succ_eq_append_getElem hk', Ict.nums_snoc]
      have hmk : Ict.marks (l.take (k + 1)) = Ict.marks (l.take k) ++ [Ict.mark l[k]] := by unfold Ict.marks; rw [List.take_succ_eq_append_getElem hk', List.map_append]; rfl
      have i1 : (k : Int) < (n : Int) := by omega
      have i0 : (0 : Int) ≤ (k : Int) := by omega
      generalize l[k] = cl at *
      obtain ⟨h, z⟩ := cl
      simp only at hc0 hc1 hc2 htk
      cases h
      · simp only [Bool.false_eq_true, if_false, List.append_nil] at htk
        have Htk := Lib.hid htk
        have Hmk := Lib.hid hmk
        have hone := (nown_one1 wr (Ict.mark (false, z)) 0 rfl).row
        have hoA := ho.alloc (.cells #[.int .u64 0] 54)
        have hiA := hi.alloc (.cells #[.int .u64 0] 54)
        have hbA := hbel.alloc hgs (.cells #[.int .u64 0] 54)
        clear htk hmk ho hi
        go_wp2_with (at_builtin; refine wpList_append_row elem64 rfl (.tmp 30) (.tmp 31) rfl w.heap.size A1 k c _ rfl hoA _ _ 1 1 [_] rfl rfl hone (by omega) (by simp only [maxLen]; omega) (by simp; omega) ?_; intro A3 c3 w3 ho3 hg3 hat3)
        have hi3 := rown_beside hoA hiA (by decide) hg3
        have hb3 := hbA.grown hg3 hbA.size (fun k hk => (hoA.lt hk).1)
        go_roundw
        case rel => exact ⟨k + 1, c3, c2, A3, A2, by omega, by go_num, rfl, by rw [Htk.out], by rw [Hmk.out]; exact ho3, by rw [Htk.out]; exact hi3, hb3⟩
        case measure => simp [intOf]; omega
      · simp only [if_true] at htk
        have Htk := Lib.hid htk
        have Hmk := Lib.hid hmk
        have hone := (nown_one1 wr (Ict.mark (true, z)) 1 rfl).row
        have hoA := ho.alloc (.cells #[.int .u64 1] 54)
        have hiA := hi.alloc (.cells #[.int .u64 1] 54)
        have hbA := hbel.alloc hgs (.cells #[.int .u64 1] 54)
        clear htk hmk ho hi
        go_wp2_with (first | (at_builtin; refine wpList_append_row elem64 rfl (.tmp 19) (.tmp 20) rfl w.heap.size A1 k c _ rfl hoA _ _ 1 1 [_] rfl rfl hone (by omega) (by simp only [maxLen]; omega) (by simp; omega) ?_; intro A3 c3 w3 ho3 hg3 hat3; have hi3 := rown_beside hoA hiA (by decide) hg3; have hb3 := hbA.grown hg3 hbA.size (fun k hk => (hoA.lt hk).1); obtain ⟨m0, m1, m2⟩ := HM.out w3 hb3; have hone2 := (iown_one w3 z).row; have hi4 := hi3.alloc (.cells #[.int .i64 z] 3); have ho4 := ho3.alloc (.cells #[.int .i64 z] 3); have hb4 := hb3.alloc hb3.size (.cells #[.int .i64 z] 3); have hgs3 := hb3.size) | (at_builtin; refine wpList_append_row elemI rfl (.tmp 22) (.tmp 28) rfl w.heap.size A2 _ c2 _ rfl hi4 _ _ 1 1 [_] rfl rfl hone2 (by omega) (by simp only [maxLen]; omega) (by simp; omega) ?_; intro A5 c5 w5 ho5 hg5 hat5))
        have ho6 := rown_beside hi4 ho4 (by decide) hg5
        have hb6 := hb4.grown hg5 hb4.size (fun k hk => (hi4.lt hk).1)
        go_roundw
        case rel => exact ⟨k + 1, c3, c5, A3, A5, by omega, by go_num, rfl, by rw [Htk.out]; simp, by rw [Hmk.out]; exact ho6, by rw [Htk.out]; simpa using ho5, hb6⟩
        case measure => simp [intOf]; omega
    · obtain rfl : k = n := by omega
      rw [List.take_of_length_le (by rw [Hl.out]; exact Nat.le_refl _)] at ho hi ⊢
      have H1' := Lib.hid (H1.out A1 c wr ho)
      have H3' := H3
      clear hb hML' H1 H3
      go_wp2_with fail
      refine H1'.out.mono ?_
      rintro e w2 ⟨A3, c3, rfl, ho3, hb2⟩
      have hi2 := hi.below hb2
      have hbel2 := hbel.trans (hb2.mono hgs)
      have H2' := Lib.hid (H2.out w2)
      clear H1' ho hi hb2
      go_wp2_with fail
      refine H2'.out.mono ?_
      rintro e w3 ⟨g4, c4, rfl, ho4, hb3⟩
      have ho3' := (ho3.below hb3).bytes
      have hi3 := hi2.below hb3
      have hbel3 := hbel2.trans (hb3.mono hbel2.size)
      have hlt4 : w2.heap.size ≤ g4 := (ho4.lt rfl).1
      have hib := fun k (h : blk A2 = some k) => (hi2.lt h).2
      clear H2' H2 ho3 hi2
      go_wp2_with (at_builtin; refine wpList_append_bytes rfl (.tmp 41) (.tmp 42) rfl w2.heap.size _ _ c4 O rfl ho4 _ A3 P.length c3 P rfl rfl ho3' (by omega) hb3.size ?_; intro A5 c5 w5 ho5 hg5 hat5)
      have hi5 := hi3.kept hg5 (.inr fun e => by have : g4 < w2.heap.size := hib g4 e; omega)
      have hbel5 := hbel3.grown hg5 hbel3.size (fun k hk => by have e : g4 = k := (by simpa [blk] using hk); have := hbel2.size; omega)
      have H4 := Lib.hid (H3'.out A2 c2 w5 hi5)
      refine H4.out.mono ?_
      rintro e w6 ⟨g6, c6, rfl, ho6, hb6⟩
      have ho5' := ho5.below hb6
      have ho6' := ho6.bytes
      have hbel6 := hbel5.trans (hb6.mono hbel5.size)
      have hs6 := hb6.size
      have hs5 := hg5.size
      have hs3 := hb3.size
      clear H4 ho5 ho6 hi5 hi3 ho4 ho3'
      go_wp2_with (at_builtin; refine wpList_append_bytes rfl (.tmp 43) (.tmp 45) rfl w2.heap.size A5 _ c5 _ rfl ho5' _ (some ⟨g6, 0, none⟩) T.length c6 T rfl rfl ho6' (by omega) (by omega) ?_; intro A7 c7 w7 ho7 hg7 hat7)
      have hb7 := hbel6.grown hg7 hbel6.size (fun k hk => by have := (ho5'.lt hk).1; have := hbel2.size; omega)
      go_ret
      exact ⟨A7, c7, by rw [HUl.out]; rfl, by rw [HUl.out]; exact ho7.low (by have := hbel2.size; omega), hb7⟩
end Go.Proofs.Ytgjopffdgdimlaa

/- The document's Zones. -/
namespace Go.Proofs.Ytgjopffdgdimlaa
open Go.RowKit
set_option maxRecDepth 100000

/-- the zones of what the first k cells reach -/
def Ict.zonesTo (l : List (Bool × Int)) (k : Nat) : List (Bool × Int × Int) := (List.range ((k + 15) / 16)).map fun g => Ict.zone (Ict.gran (l.take k) g)
theorem Ict.gran_take (l : List (Bool × Int)) (k g : Nat) : Ict.gran (l.take k) g = (l.drop (16 * g)).take (min 16 (k - 16 * g)) := by
  unfold Ict.gran
  rw [List.drop_take, List.take_take]
theorem Ict.zonesTo_parts (l : List (Bool × Int)) {k : Nat} (hk : k < l.length) :
    ∃ (X : List (Bool × Int × Int)) (y : Bool × Int × Int), X.length = k / 16 ∧ (k % 16 = 0 → Ict.zonesTo l k = X ∧ y = (false, 0, 0)) ∧ (k % 16 ≠ 0 → Ict.zonesTo l k = X ++ [y]) ∧ Ict.zonesTo l (k + 1) = X ++ [Ict.zadd y l[k]] := by
  refine ⟨(List.range (k / 16)).map fun g => Ict.zone (Ict.gran (l.take k) g), Ict.zone (Ict.gran (l.take k) (k / 16)), by simp, fun h => ⟨?_, ?_⟩, fun h => ?_, ?_⟩
  · unfold Ict.zonesTo
    rw [show (k + 15) / 16 = k / 16 from by omega]
  · rw [Ict.gran_take, show min 16 (k - 16 * (k / 16)) = 0 from by omega]
    rfl
  · unfold Ict.zonesTo
    rw [show (k + 15) / 16 = k / 16 + 1 from by omega, List.range_succ, List.map_append]
    rfl
  · unfold Ict.zonesTo
    rw [show (k + 1 + 15) / 16 = k / 16 + 1 from by omega, List.range_succ, List.map_append]
    congr 1
    · apply List.map_congr_left
      intro g hg
      have hg' : g < k / 16 := by simpa using hg
      rw [Ict.gran_take, Ict.gran_take, show min 16 (k + 1 - 16 * g) = min 16 (k - 16 * g) from by omega]
    · simp only [List.map_cons, List.map_nil]
      congr 1
      rw [Ict.gran_take, Ict.gran_take, show min 16 (k + 1 - 16 * (k / 16)) = min 16 (k - 16 * (k / 16)) + 1 from by omega,
        List.take_succ_eq_append_getElem (by rw [List.length_drop]; omega)]
      unfold Ict.zone
      rw [List.foldl_append]
      show Ict.zadd _ _ = Ict.zadd _ _
      congr 1
      rw [List.getElem_drop]
      congr 1
      omega
theorem Ict.zonesTo_length (l : List (Bool × Int)) (k : Nat) : (Ict.zonesTo l k).length = (k + 15) / 16 := by simp [Ict.zonesTo]
theorem Ict.zonesTo_all {l : List (Bool × Int)} (h : Ict.formed l = true) : Ict.zonesTo l l.length = Ict.zones l := by
  unfold Ict.zonesTo Ict.zones Ict.count Ict.zoneAt
  rw [h, if_pos rfl, List.take_length]
/-- a row's last zone set, cell by cell -/
theorem zown_last {w : World} {base c g : Nat} {X : List (Bool × Int × Int)} {y z : Bool × Int × Int} (h : ZOwn w base (some ⟨g, 0, none⟩) (X.length + 1) c (X ++ [y])) :
    ZOwn (((w.setCell ⟨g, X.length * 3, none⟩ (.bool z.1)).setCell ⟨g, X.length * 3 + 1, none⟩ (.int .i64 z.2.1)).setCell ⟨g, X.length * 3 + 2, none⟩ (.int .i64 z.2.2)) base (some ⟨g, 0, none⟩) (X.length + 1) c (X ++ [z]) := by
  have e : ∀ a b : Bool × Int × Int, (X ++ [a]).set X.length b = X ++ [b] := fun a b => by
    rw [List.set_append_right _ _ (Nat.le_refl _), Nat.sub_self]; rfl
  have gt : ∀ a : Bool × Int × Int, (X ++ [a])[X.length]'(by simp) = a := fun a => by simp
  have h0 := h.store (fun _ => rfl) (k := X.length) (j := 0) (u := .bool z.1) (y := (z.1, y.2.1, y.2.2)) (by simp) (by omega) (by rw [gt]; rfl)
  rw [e, Nat.add_zero] at h0
  have h1 := h0.store (fun _ => rfl) (k := X.length) (j := 1) (u := .int .i64 z.2.1) (y := (z.1, z.2.1, y.2.2)) (by simp) (by omega) (by rw [gt]; rfl)
  rw [e] at h1
  have h2 := h1.store (fun _ => rfl) (k := X.length) (j := 2) (u := .int .i64 z.2.2) (y := z) (by simp) (by omega) (by rw [gt]; rfl)
  rw [e] at h2
  exact h2
theorem zown_cells {w : World} {base c g : Nat} {X : List (Bool × Int × Int)} {y : Bool × Int × Int} (h : ZOwn w base (some ⟨g, 0, none⟩) (X.length + 1) c (X ++ [y])) :
    w.cell? ⟨g, X.length * 3, none⟩ = some (.bool y.1) ∧ w.cell? ⟨g, X.length * 3 + 1, none⟩ = some (.int .i64 y.2.1) ∧ w.cell? ⟨g, X.length * 3 + 2, none⟩ = some (.int .i64 y.2.2) := by
  have gt : (X ++ [y])[X.length]'(by simp) = y := by simp
  have c0 := h.cell (fun _ => rfl) (k := X.length) (j := 0) (by simp) (by omega)
  have c1 := h.cell (fun _ => rfl) (k := X.length) (j := 1) (by simp) (by omega)
  have c2 := h.cell (fun _ => rfl) (k := X.length) (j := 2) (by simp) (by omega)
  rw [gt] at c0 c1 c2
  exact ⟨c0, c1, c2⟩

set_option maxHeartbeats 8000000 in
theorem refZones_any (A : Option Addr) (n cap B : Nat) (l : List (Bool × Int)) (w : World) (hl : l.length = n) (hn : 16 * n ≤ 140737488351232) (hb : Cols w B A l) (hB : B ≤ w.heap.size) :
    Calls Try.prog 21 #[.slice A n cap] w fun e w' => ∃ A' c', e = .returned (.slice A' (Ict.zones l).length c') ∧ ZOwn w' w.heap.size A' (Ict.zones l).length c' (Ict.zones l) ∧ Below w.heap.size w w' := by
  have hb := hb.wide hB
  have HF := Lib.hid (refFormed_any A n cap w.heap.size l w hl hn hb)
  have Hl := Lib.hid hl
  rcases hfm : Ict.formed l with _ | _
  · have e : Ict.zones l = [] := by simp [Ict.zones, Ict.count, hfm]
    rw [e]
    rw [hfm] at HF
    clear hfm hl e hb
    go_enter Try.func21, Try.ntmps21
    go_wp2_with fail
    refine HF.out.mono ?_
    rintro e w1 ⟨rfl, rfl⟩
    clear HF
    go_wp2
    go_ret
    exact ⟨none, 0, rfl, MOwn.nil _ _ _ _ _, Below.refl _ _⟩
  · have hn4 : n ≤ 4096 := by
      have h2 := hfm
      simp only [Ict.formed, Bool.and_eq_true, decide_eq_true_eq, hl] at h2
      exact h2.1
    have hall := Ict.zonesTo_all hfm
    rw [hl] at hall
    rw [← hall]
    rw [hfm] at HF
    clear hfm hl hall
    go_enter Try.func21, Try.ntmps21
    go_wp2_with fail
    refine HF.out.mono ?_
    rintro e w1 ⟨rfl, rfl⟩
    clear HF
    go_wp2
    go_loopw [3, 4] (fun q i wr => ∃ (k : Nat) (A2 : Option Addr) (c2 : Nat), k ≤ n ∧ i = .int .i64 k ∧ q = .slice A2 (Ict.zonesTo l k).length c2 ∧ ZOwn wr w.heap.size A2 (Ict.zonesTo l k).length c2 (Ict.zonesTo l k) ∧ Below w.heap.size w wr) (fun _ i _ => n - (intOf i).toNat)
    case atStart => exact ⟨0, none, 0, Nat.zero_le _, rfl, rfl, MOwn.nil _ _ _ _ _, Below.refl _ _⟩
    case round =>
      obtain ⟨k, A2, c2, hk, rfl, rfl, ho, hbel⟩ := hrel
      by_cases hlt : k < n
      · have hk' : k < l.length := by have := Hl.out; omega
        obtain ⟨ad, rfl, hadl, hc0, hc1, hc2⟩ := Cols.at_ (hb.below hbel) hk'
        have HM := Lib.hid (fun W (hW : Below w.heap.size w W) => Cols.atAd (hb.below hW) hk')
        have i1 : (k : Int) < (n : Int) := by omega
        have i0 : (0 : Int) ≤ (k : Int) := by omega
        obtain ⟨X, y, hXl, hx0, hx1, hx2⟩ := Ict.zonesTo_parts l hk'
        have hmod : (k : Int).tmod 16 = ((k % 16 : Nat) : Int) := (Int.ofNat_tmod k 16).symm
        have hXs : X.length ≤ 256 := by omega
        have hgs := hbel.size
        clear hXl
        generalize l[k] = cl at *
        obtain ⟨h, x⟩ := cl
        simp only at hc0 hc1 hc2
        have HX2 := Lib.hid hx2
        clear hx2
        by_cases hm : k % 16 = 0
        · obtain ⟨e0, rfl⟩ := hx0 hm
          rw [e0] at ho ⊢
          rw [hm] at hmod
          have hm0 : ((k : Int).tmod 16 == 0) = true := by rw [hmod]; rfl
          have hm1 : (k : Int) % 16 = 0 := by omega
          have hm2 : ((k : Int) % 16 == 0) = true := by rw [hm1]; rfl
          clear hx0 hx1 hmod hm e0
          have hone := (MOwn.lit (f := zoneV) (m := 3) (e := 41) (fun _ => rfl) wr wr.heap.size [(false, 0, 0)] (Nat.le_refl _) (by simp [maxLen])).row (fun _ => rfl)
          rw [mcat_one] at hone
          have ho' := ho.alloc (.cells (zoneV (false, 0, 0)).toArray 41)
          have hbA := hbel.alloc hgs (.cells (zoneV (false, 0, 0)).toArray 41)
          unfold zoneV at hone ho' hbA
          simp only at hone ho' hbA
          clear ho
          cases h
          · have HA := Lib.hid (show Ict.zadd (false, 0, 0) (false, x) = (false, 0, 0) from rfl)
            go_wp2_with (at_builtin; refine wpList_append_mrow elemZ rfl (.tmp 18) (.tmp 20) rfl w.heap.size A2 X.length c2 _ rfl ho' _ _ 1 1 [(false, 0, 0)] rfl rfl hone (by omega) (by simp only [maxLen]; omega) (by simp; omega) ?_; intro A3 c3 w3 ho3 hg3 hat3; have hb3 := hbA.grown hg3 (by simp; omega) (fun k hk => (ho'.lt hk).1); obtain ⟨m0, m1, m2⟩ := HM.out w3 hb3; obtain ⟨g, rfl, hgl, hgh⟩ := ho3.at_ (by omega); obtain ⟨y0, y1, y2⟩ := zown_cells ho3; simp only at y0 y1 y2 m0 m1 m2; have hlw : wrap64 ((X.length : Int) + 1 - 1) = X.length := (by unfold wrap64; omega); have hgx := hg3.size; have hb4 := hb3.alloc hb3.size (.cells #[.bool false, .int .i64 0, .int .i64 0] 41); obtain ⟨q0, q1, q2⟩ := HM.out _ hb4; simp only at q0 q1 q2; have hblt : (ad.add (k * 2)).block < w3.heap.size := (by rw [addr_add_block]; have := hb3.size; omega))
            have ho4 := ho3.alloc (.cells #[.bool false, .int .i64 0, .int .i64 0] 41)
            have HO := Lib.hid ho4
            go_roundw
            case rel => exact ⟨k + 1, some ⟨g, 0, none⟩, c3, by omega, by go_num, by rw [HX2.out, HA.out]; simp, by rw [HX2.out, HA.out, List.length_append]; exact HO.out, hb4⟩
            case measure => simp [intOf]; omega
          · have hxx : ¬ x < x := Int.lt_irrefl x
            have HA := Lib.hid (show Ict.zadd (false, 0, 0) (true, x) = (true, x, x) from rfl)
            go_wp2_with (at_builtin; refine wpList_append_mrow elemZ rfl (.tmp 18) (.tmp 20) rfl w.heap.size A2 X.length c2 _ rfl ho' _ _ 1 1 [(false, 0, 0)] rfl rfl hone (by omega) (by simp only [maxLen]; omega) (by simp; omega) ?_; intro A3 c3 w3 ho3 hg3 hat3; have hb3 := hbA.grown hg3 (by simp; omega) (fun k hk => (ho'.lt hk).1); obtain ⟨m0, m1, m2⟩ := HM.out w3 hb3; obtain ⟨g, rfl, hgl, hgh⟩ := ho3.at_ (by omega); obtain ⟨y0, y1, y2⟩ := zown_cells ho3; simp only at y0 y1 y2 m0 m1 m2; have hlw : wrap64 ((X.length : Int) + 1 - 1) = X.length := (by unfold wrap64; omega); have hgx := hg3.size; have hb4 := hb3.alloc hb3.size (.cells #[.bool false, .int .i64 0, .int .i64 0] 41); obtain ⟨q0, q1, q2⟩ := HM.out _ hb4; simp only at q0 q1 q2; have hblt : (ad.add (k * 2)).block < w3.heap.size := (by rw [addr_add_block]; have := hb3.size; omega))
            clear m0 m1 m2 y0 y1 y2 hone q0 q1 q2
            have hz0 := ZBox.new w3 (false, 0, 0)
            simp only at hz0
            have ho4 := ho3.alloc (.cells #[.bool false, .int .i64 0, .int .i64 0] 41)
            have hs4 : (w3.alloc (.cells #[.bool false, .int .i64 0, .int .i64 0] 41)).heap.size = w3.heap.size + 1 := by simp
            have hgz : g ≠ w3.heap.size := by omega
            generalize w3.alloc (.cells #[.bool false, .int .i64 0, .int .i64 0] 41) = V0 at *
            obtain ⟨yy, hyy⟩ : ∃ yy : Bool × Int × Int, yy = (false, 0, 0) := ⟨_, rfl⟩
            rw [← hyy] at ho4
            clear ho3 hyy
            obtain ⟨z0, z1, z2⟩ := hz0.cell
            have f0 := hz0.free 0
            have f1 := hz0.free 1
            have f2 := hz0.free 2
            obtain ⟨q0, q1, q2⟩ := HM.out V0 hb4
            simp only at z0 z1 z2 q0 q1 q2
            have hz1 : ZBox (((V0.setCell ⟨w3.heap.size, 0, none⟩ (.bool true)).setCell ⟨w3.heap.size, 1, none⟩ (.int .i64 x)).setCell ⟨w3.heap.size, 2, none⟩ (.int .i64 x)).drew (w3.heap.size) (true, x, x) := (show ZBox (((V0.setCell ⟨w3.heap.size, 0, none⟩ (.bool true)).setCell ⟨w3.heap.size, 1, none⟩ (.int .i64 x)).setCell ⟨w3.heap.size, 2, none⟩ (.int .i64 x)) (w3.heap.size) (true, x, x) from (((hz0.set0 true).set1 x).set2 x))
            have hb5 : Below w.heap.size w (((V0.setCell ⟨w3.heap.size, 0, none⟩ (.bool true)).setCell ⟨w3.heap.size, 1, none⟩ (.int .i64 x)).setCell ⟨w3.heap.size, 2, none⟩ (.int .i64 x)).drew := Below.drew (show Below w.heap.size w (((V0.setCell ⟨w3.heap.size, 0, none⟩ (.bool true)).setCell ⟨w3.heap.size, 1, none⟩ (.int .i64 x)).setCell ⟨w3.heap.size, 2, none⟩ (.int .i64 x)) from (((hb4.setCell (p := ⟨w3.heap.size, 0, none⟩) (by simp; omega) (.bool true)).setCell (p := ⟨w3.heap.size, 1, none⟩) (by simp; omega) (.int .i64 x)).setCell (p := ⟨w3.heap.size, 2, none⟩) (by simp; omega) (.int .i64 x)))
            have ho5 : ZOwn (((V0.setCell ⟨w3.heap.size, 0, none⟩ (.bool true)).setCell ⟨w3.heap.size, 1, none⟩ (.int .i64 x)).setCell ⟨w3.heap.size, 2, none⟩ (.int .i64 x)).drew w.heap.size (some ⟨g, 0, none⟩) (X.length + 1) c3 (X ++ [yy]) := (show ZOwn (((V0.setCell ⟨w3.heap.size, 0, none⟩ (.bool true)).setCell ⟨w3.heap.size, 1, none⟩ (.int .i64 x)).setCell ⟨w3.heap.size, 2, none⟩ (.int .i64 x)) w.heap.size (some ⟨g, 0, none⟩) (X.length + 1) c3 (X ++ [yy]) from (((ho4.kept (row := some (w3.heap.size)) (Lib.grownBy_setCell _ (w3.heap.size) 0 (.bool true)) (.inr (by simpa [blk] using hgz))).kept (row := some (w3.heap.size)) (Lib.grownBy_setCell _ (w3.heap.size) 1 (.int .i64 x)) (.inr (by simpa [blk] using hgz))).kept (row := some (w3.heap.size)) (Lib.grownBy_setCell _ (w3.heap.size) 2 (.int .i64 x)) (.inr (by simpa [blk] using hgz))))
            have hs5 : (((V0.setCell ⟨w3.heap.size, 0, none⟩ (.bool true)).setCell ⟨w3.heap.size, 1, none⟩ (.int .i64 x)).setCell ⟨w3.heap.size, 2, none⟩ (.int .i64 x)).drew.heap.size = V0.heap.size := by simp
            go_region
            generalize (((V0.setCell ⟨w3.heap.size, 0, none⟩ (.bool true)).setCell ⟨w3.heap.size, 1, none⟩ (.int .i64 x)).setCell ⟨w3.heap.size, 2, none⟩ (.int .i64 x)).drew = V1 at *
            clear z0 z1 z2 f0 f1 f2 q0 q1 q2
            obtain ⟨z0, z1, z2⟩ := hz1.cell
            have f0 := hz1.free 0
            have f1 := hz1.free 1
            have f2 := hz1.free 2
            obtain ⟨q0, q1, q2⟩ := HM.out V1 hb5
            simp only at z0 z1 z2 q0 q1 q2
            go_wp2
            have hz2 : ZBox (V1.setCell ⟨w3.heap.size, 1, none⟩ (.int .i64 x)).drew (w3.heap.size) (true, x, x) := (show ZBox (V1.setCell ⟨w3.heap.size, 1, none⟩ (.int .i64 x)) (w3.heap.size) (true, x, x) from (hz1.set1 x))
            have hb6 : Below w.heap.size w (V1.setCell ⟨w3.heap.size, 1, none⟩ (.int .i64 x)).drew := Below.drew (show Below w.heap.size w (V1.setCell ⟨w3.heap.size, 1, none⟩ (.int .i64 x)) from (hb5.setCell (p := ⟨w3.heap.size, 1, none⟩) (by simp; omega) (.int .i64 x)))
            have ho6 : ZOwn (V1.setCell ⟨w3.heap.size, 1, none⟩ (.int .i64 x)).drew w.heap.size (some ⟨g, 0, none⟩) (X.length + 1) c3 (X ++ [yy]) := (show ZOwn (V1.setCell ⟨w3.heap.size, 1, none⟩ (.int .i64 x)) w.heap.size (some ⟨g, 0, none⟩) (X.length + 1) c3 (X ++ [yy]) from (ho5.kept (row := some (w3.heap.size)) (Lib.grownBy_setCell _ (w3.heap.size) 1 (.int .i64 x)) (.inr (by simpa [blk] using hgz))))
            have hs6 : (V1.setCell ⟨w3.heap.size, 1, none⟩ (.int .i64 x)).drew.heap.size = V1.heap.size := by simp
            go_region
            generalize (V1.setCell ⟨w3.heap.size, 1, none⟩ (.int .i64 x)).drew = V2 at *
            clear z0 z1 z2 f0 f1 f2 q0 q1 q2
            obtain ⟨z0, z1, z2⟩ := hz2.cell
            have f0 := hz2.free 0
            have f1 := hz2.free 1
            have f2 := hz2.free 2
            obtain ⟨q0, q1, q2⟩ := HM.out V2 hb6
            simp only at z0 z1 z2 q0 q1 q2
            go_wp2
            have hz3 : ZBox (V2.setCell ⟨w3.heap.size, 2, none⟩ (.int .i64 x)).drew (w3.heap.size) (true, x, x) := (show ZBox (V2.setCell ⟨w3.heap.size, 2, none⟩ (.int .i64 x)) (w3.heap.size) (true, x, x) from (hz2.set2 x))
            have hb7 : Below w.heap.size w (V2.setCell ⟨w3.heap.size, 2, none⟩ (.int .i64 x)).drew := Below.drew (show Below w.heap.size w (V2.setCell ⟨w3.heap.size, 2, none⟩ (.int .i64 x)) from (hb6.setCell (p := ⟨w3.heap.size, 2, none⟩) (by simp; omega) (.int .i64 x)))
            have ho7 : ZOwn (V2.setCell ⟨w3.heap.size, 2, none⟩ (.int .i64 x)).drew w.heap.size (some ⟨g, 0, none⟩) (X.length + 1) c3 (X ++ [yy]) := (show ZOwn (V2.setCell ⟨w3.heap.size, 2, none⟩ (.int .i64 x)) w.heap.size (some ⟨g, 0, none⟩) (X.length + 1) c3 (X ++ [yy]) from (ho6.kept (row := some (w3.heap.size)) (Lib.grownBy_setCell _ (w3.heap.size) 2 (.int .i64 x)) (.inr (by simpa [blk] using hgz))))
            have hs7 : (V2.setCell ⟨w3.heap.size, 2, none⟩ (.int .i64 x)).drew.heap.size = V2.heap.size := by simp
            go_region
            generalize (V2.setCell ⟨w3.heap.size, 2, none⟩ (.int .i64 x)).drew = V3 at *
            clear z0 z1 z2 f0 f1 f2 q0 q1 q2
            obtain ⟨z0, z1, z2⟩ := hz3.cell
            obtain ⟨y0, y1, y2⟩ := zown_cells ho7
            have f0 := ho7.free (X.length * 3)
            have f1 := ho7.free (X.length * 3 + 1)
            have f2 := ho7.free (X.length * 3 + 2)
            have hl8 := zown_last (z := (true, x, x)) ho7
            have hb8 := ((hb7.setCell (p := ⟨g, X.length * 3, none⟩) hgl (.bool true)).setCell (p := ⟨g, X.length * 3 + 1, none⟩) hgl (.int .i64 x)).setCell (p := ⟨g, X.length * 3 + 2, none⟩) hgl (.int .i64 x)
            have HZ8 := Lib.hid hl8
            have HB8 := Lib.hid hb8
            simp only at z0 z1 z2
            clear hl8 hb8 ho7 hb7 ho6 hb6 hz3 hz2 hz0 ho4 hb4 hz1 hb5 ho5
            go_wp2
            go_roundw
            case rel => exact ⟨k + 1, some ⟨g, 0, none⟩, c3, by omega, by go_num, by rw [HX2.out, HA.out]; simp, by rw [HX2.out, HA.out, List.length_append]; exact HZ8.out, HB8.out⟩
            case measure => simp [intOf]; omega
        · have e1 := hx1 hm
          rw [e1] at ho ⊢
          rw [List.length_append, List.length_singleton] at ho ⊢
          have hm0 : ((k : Int).tmod 16 == 0) = false := by rw [hmod]; simp; omega
          have hm1 : ¬ ((k : Int) % 16 = 0) := by omega
          have hm2 : ((k : Int) % 16 == 0) = false := by simp; omega
          clear hx0 hx1 hmod hm e1
          obtain ⟨g, rfl, hgl, hgh⟩ := ho.at_ (by omega)
          obtain ⟨y0, y1, y2⟩ := zown_cells ho
          have hlw : wrap64 ((X.length : Int) + 1 - 1) = X.length := by unfold wrap64; omega
          obtain ⟨s, lo, hi⟩ := y
          have ho3 := ho
          have hb4 := hbel.alloc hgs (.cells #[.bool s, .int .i64 lo, .int .i64 hi] 41)
          obtain ⟨q0, q1, q2⟩ := HM.out _ hb4
          simp only at y0 y1 y2 q0 q1 q2
          have c3 := c2
          clear c3
          cases h
          · have HA := Lib.hid (show Ict.zadd (s, lo, hi) (false, x) = (s, lo, hi) from rfl)
            have HO := Lib.hid (ho.alloc (.cells #[.bool s, .int .i64 lo, .int .i64 hi] 41))
            have HB4 := Lib.hid hb4
            clear hbel ho ho3 hb4
            go_wp2
            go_roundw
            case rel => exact ⟨k + 1, some ⟨g, 0, none⟩, c2, by omega, by go_num, by rw [HX2.out, HA.out]; simp, by rw [HX2.out, HA.out, List.length_append]; exact HO.out, HB4.out⟩
            case measure => simp [intOf]; omega
          · cases s
            · have hxx : ¬ x < x := Int.lt_irrefl x
              have HA := Lib.hid (show Ict.zadd (false, lo, hi) (true, x) = (true, x, x) from rfl)
              go_wp2
              clear y0 y1 y2 q0 q1 q2 ho
              have hz0 := ZBox.new wr (false, lo, hi)
              simp only at hz0
              have ho4 := ho3.alloc (.cells #[.bool false, .int .i64 lo, .int .i64 hi] 41)
              have hs4 : (wr.alloc (.cells #[.bool false, .int .i64 lo, .int .i64 hi] 41)).heap.size = wr.heap.size + 1 := by simp
              have hgz : g ≠ wr.heap.size := by omega
              generalize wr.alloc (.cells #[.bool false, .int .i64 lo, .int .i64 hi] 41) = V0 at *
              obtain ⟨yy, hyy⟩ : ∃ yy : Bool × Int × Int, yy = (false, lo, hi) := ⟨_, rfl⟩
              rw [← hyy] at ho4
              clear ho3 hyy
              obtain ⟨z0, z1, z2⟩ := hz0.cell
              have f0 := hz0.free 0
              have f1 := hz0.free 1
              have f2 := hz0.free 2
              obtain ⟨q0, q1, q2⟩ := HM.out V0 hb4
              simp only at z0 z1 z2 q0 q1 q2
              have hz1 : ZBox (((V0.setCell ⟨wr.heap.size, 0, none⟩ (.bool true)).setCell ⟨wr.heap.size, 1, none⟩ (.int .i64 x)).setCell ⟨wr.heap.size, 2, none⟩ (.int .i64 x)).drew (wr.heap.size) (true, x, x) := (show ZBox (((V0.setCell ⟨wr.heap.size, 0, none⟩ (.bool true)).setCell ⟨wr.heap.size, 1, none⟩ (.int .i64 x)).setCell ⟨wr.heap.size, 2, none⟩ (.int .i64 x)) (wr.heap.size) (true, x, x) from (((hz0.set0 true).set1 x).set2 x))
              have hb5 : Below w.heap.size w (((V0.setCell ⟨wr.heap.size, 0, none⟩ (.bool true)).setCell ⟨wr.heap.size, 1, none⟩ (.int .i64 x)).setCell ⟨wr.heap.size, 2, none⟩ (.int .i64 x)).drew := Below.drew (show Below w.heap.size w (((V0.setCell ⟨wr.heap.size, 0, none⟩ (.bool true)).setCell ⟨wr.heap.size, 1, none⟩ (.int .i64 x)).setCell ⟨wr.heap.size, 2, none⟩ (.int .i64 x)) from (((hb4.setCell (p := ⟨wr.heap.size, 0, none⟩) (by simp; omega) (.bool true)).setCell (p := ⟨wr.heap.size, 1, none⟩) (by simp; omega) (.int .i64 x)).setCell (p := ⟨wr.heap.size, 2, none⟩) (by simp; omega) (.int .i64 x)))
              have ho5 : ZOwn (((V0.setCell ⟨wr.heap.size, 0, none⟩ (.bool true)).setCell ⟨wr.heap.size, 1, none⟩ (.int .i64 x)).setCell ⟨wr.heap.size, 2, none⟩ (.int .i64 x)).drew w.heap.size (some ⟨g, 0, none⟩) (X.length + 1) c2 (X ++ [yy]) := (show ZOwn (((V0.setCell ⟨wr.heap.size, 0, none⟩ (.bool true)).setCell ⟨wr.heap.size, 1, none⟩ (.int .i64 x)).setCell ⟨wr.heap.size, 2, none⟩ (.int .i64 x)) w.heap.size (some ⟨g, 0, none⟩) (X.length + 1) c2 (X ++ [yy]) from (((ho4.kept (row := some (wr.heap.size)) (Lib.grownBy_setCell _ (wr.heap.size) 0 (.bool true)) (.inr (by simpa [blk] using hgz))).kept (row := some (wr.heap.size)) (Lib.grownBy_setCell _ (wr.heap.size) 1 (.int .i64 x)) (.inr (by simpa [blk] using hgz))).kept (row := some (wr.heap.size)) (Lib.grownBy_setCell _ (wr.heap.size) 2 (.int .i64 x)) (.inr (by simpa [blk] using hgz))))
              have hs5 : (((V0.setCell ⟨wr.heap.size, 0, none⟩ (.bool true)).setCell ⟨wr.heap.size, 1, none⟩ (.int .i64 x)).setCell ⟨wr.heap.size, 2, none⟩ (.int .i64 x)).drew.heap.size = V0.heap.size := by simp
              go_region
              generalize (((V0.setCell ⟨wr.heap.size, 0, none⟩ (.bool true)).setCell ⟨wr.heap.size, 1, none⟩ (.int .i64 x)).setCell ⟨wr.heap.size, 2, none⟩ (.int .i64 x)).drew = V1 at *
              clear z0 z1 z2 f0 f1 f2 q0 q1 q2
              obtain ⟨z0, z1, z2⟩ := hz1.cell
              have f0 := hz1.free 0
              have f1 := hz1.free 1
              have f2 := hz1.free 2
              obtain ⟨q0, q1, q2⟩ := HM.out V1 hb5
              simp only at z0 z1 z2 q0 q1 q2
              go_wp2
              have hz2 : ZBox (V1.setCell ⟨wr.heap.size, 1, none⟩ (.int .i64 x)).drew (wr.heap.size) (true, x, x) := (show ZBox (V1.setCell ⟨wr.heap.size, 1, none⟩ (.int .i64 x)) (wr.heap.size) (true, x, x) from (hz1.set1 x))
              have hb6 : Below w.heap.size w (V1.setCell ⟨wr.heap.size, 1, none⟩ (.int .i64 x)).drew := Below.drew (show Below w.heap.size w (V1.setCell ⟨wr.heap.size, 1, none⟩ (.int .i64 x)) from (hb5.setCell (p := ⟨wr.heap.size, 1, none⟩) (by simp; omega) (.int .i64 x)))
              have ho6 : ZOwn (V1.setCell ⟨wr.heap.size, 1, none⟩ (.int .i64 x)).drew w.heap.size (some ⟨g, 0, none⟩) (X.length + 1) c2 (X ++ [yy]) := (show ZOwn (V1.setCell ⟨wr.heap.size, 1, none⟩ (.int .i64 x)) w.heap.size (some ⟨g, 0, none⟩) (X.length + 1) c2 (X ++ [yy]) from (ho5.kept (row := some (wr.heap.size)) (Lib.grownBy_setCell _ (wr.heap.size) 1 (.int .i64 x)) (.inr (by simpa [blk] using hgz))))
              have hs6 : (V1.setCell ⟨wr.heap.size, 1, none⟩ (.int .i64 x)).drew.heap.size = V1.heap.size := by simp
              go_region
              generalize (V1.setCell ⟨wr.heap.size, 1, none⟩ (.int .i64 x)).drew = V2 at *
              clear z0 z1 z2 f0 f1 f2 q0 q1 q2
              obtain ⟨z0, z1, z2⟩ := hz2.cell
              have f0 := hz2.free 0
              have f1 := hz2.free 1
              have f2 := hz2.free 2
              obtain ⟨q0, q1, q2⟩ := HM.out V2 hb6
              simp only at z0 z1 z2 q0 q1 q2
              go_wp2
              have hz3 : ZBox (V2.setCell ⟨wr.heap.size, 2, none⟩ (.int .i64 x)).drew (wr.heap.size) (true, x, x) := (show ZBox (V2.setCell ⟨wr.heap.size, 2, none⟩ (.int .i64 x)) (wr.heap.size) (true, x, x) from (hz2.set2 x))
              have hb7 : Below w.heap.size w (V2.setCell ⟨wr.heap.size, 2, none⟩ (.int .i64 x)).drew := Below.drew (show Below w.heap.size w (V2.setCell ⟨wr.heap.size, 2, none⟩ (.int .i64 x)) from (hb6.setCell (p := ⟨wr.heap.size, 2, none⟩) (by simp; omega) (.int .i64 x)))
              have ho7 : ZOwn (V2.setCell ⟨wr.heap.size, 2, none⟩ (.int .i64 x)).drew w.heap.size (some ⟨g, 0, none⟩) (X.length + 1) c2 (X ++ [yy]) := (show ZOwn (V2.setCell ⟨wr.heap.size, 2, none⟩ (.int .i64 x)) w.heap.size (some ⟨g, 0, none⟩) (X.length + 1) c2 (X ++ [yy]) from (ho6.kept (row := some (wr.heap.size)) (Lib.grownBy_setCell _ (wr.heap.size) 2 (.int .i64 x)) (.inr (by simpa [blk] using hgz))))
              have hs7 : (V2.setCell ⟨wr.heap.size, 2, none⟩ (.int .i64 x)).drew.heap.size = V2.heap.size := by simp
              go_region
              generalize (V2.setCell ⟨wr.heap.size, 2, none⟩ (.int .i64 x)).drew = V3 at *
              clear z0 z1 z2 f0 f1 f2 q0 q1 q2
              obtain ⟨z0, z1, z2⟩ := hz3.cell
              obtain ⟨y0, y1, y2⟩ := zown_cells ho7
              have f0 := ho7.free (X.length * 3)
              have f1 := ho7.free (X.length * 3 + 1)
              have f2 := ho7.free (X.length * 3 + 2)
              have hl8 := zown_last (z := (true, x, x)) ho7
              have hb8 := ((hb7.setCell (p := ⟨g, X.length * 3, none⟩) hgl (.bool true)).setCell (p := ⟨g, X.length * 3 + 1, none⟩) hgl (.int .i64 x)).setCell (p := ⟨g, X.length * 3 + 2, none⟩) hgl (.int .i64 x)
              have HZ8 := Lib.hid hl8
              have HB8 := Lib.hid hb8
              simp only at z0 z1 z2
              clear hl8 hb8 ho7 hb7 ho6 hb6 hz3 hz2 hz0 ho4 hb4 hz1 hb5 ho5
              go_wp2
              go_roundw
              case rel => exact ⟨k + 1, some ⟨g, 0, none⟩, c2, by omega, by go_num, by rw [HX2.out, HA.out]; simp, by rw [HX2.out, HA.out, List.length_append]; exact HZ8.out, HB8.out⟩
              case measure => simp [intOf]; omega
            · have hadd : Ict.zadd (true, lo, hi) (true, x) = (true, min lo x, max hi x) := rfl
              by_cases hlo : x < lo
              · have e1 : min lo x = x := by omega
                by_cases hhi : hi < x
                · have e2 : max hi x = x := by omega
                  rw [e1, e2] at hadd
                  have HA := Lib.hid hadd
                  clear hadd e1 e2
                  go_wp2
                  clear y0 y1 y2 q0 q1 q2 ho
                  have hz0 := ZBox.new wr (true, lo, hi)
                  simp only at hz0
                  have ho4 := ho3.alloc (.cells #[.bool true, .int .i64 lo, .int .i64 hi] 41)
                  have hs4 : (wr.alloc (.cells #[.bool true, .int .i64 lo, .int .i64 hi] 41)).heap.size = wr.heap.size + 1 := by simp
                  have hgz : g ≠ wr.heap.size := by omega
                  generalize wr.alloc (.cells #[.bool true, .int .i64 lo, .int .i64 hi] 41) = V0 at *
                  obtain ⟨yy, hyy⟩ : ∃ yy : Bool × Int × Int, yy = (true, lo, hi) := ⟨_, rfl⟩
                  rw [← hyy] at ho4
                  clear ho3 hyy
                  obtain ⟨z0, z1, z2⟩ := hz0.cell
                  have f0 := hz0.free 0
                  have f1 := hz0.free 1
                  have f2 := hz0.free 2
                  obtain ⟨q0, q1, q2⟩ := HM.out V0 hb4
                  simp only at z0 z1 z2 q0 q1 q2
                  have hz2 : ZBox (V0.setCell ⟨wr.heap.size, 1, none⟩ (.int .i64 x)).drew (wr.heap.size) (true, x, hi) := (show ZBox (V0.setCell ⟨wr.heap.size, 1, none⟩ (.int .i64 x)) (wr.heap.size) (true, x, hi) from (hz0.set1 x))
                  have hb6 : Below w.heap.size w (V0.setCell ⟨wr.heap.size, 1, none⟩ (.int .i64 x)).drew := Below.drew (show Below w.heap.size w (V0.setCell ⟨wr.heap.size, 1, none⟩ (.int .i64 x)) from (hb4.setCell (p := ⟨wr.heap.size, 1, none⟩) (by simp; omega) (.int .i64 x)))
                  have ho6 : ZOwn (V0.setCell ⟨wr.heap.size, 1, none⟩ (.int .i64 x)).drew w.heap.size (some ⟨g, 0, none⟩) (X.length + 1) c2 (X ++ [yy]) := (show ZOwn (V0.setCell ⟨wr.heap.size, 1, none⟩ (.int .i64 x)) w.heap.size (some ⟨g, 0, none⟩) (X.length + 1) c2 (X ++ [yy]) from (ho4.kept (row := some (wr.heap.size)) (Lib.grownBy_setCell _ (wr.heap.size) 1 (.int .i64 x)) (.inr (by simpa [blk] using hgz))))
                  have hs6 : (V0.setCell ⟨wr.heap.size, 1, none⟩ (.int .i64 x)).drew.heap.size = V0.heap.size := by simp
                  go_region
                  generalize (V0.setCell ⟨wr.heap.size, 1, none⟩ (.int .i64 x)).drew = V2 at *
                  clear z0 z1 z2 f0 f1 f2 q0 q1 q2
                  obtain ⟨z0, z1, z2⟩ := hz2.cell
                  have f0 := hz2.free 0
                  have f1 := hz2.free 1
                  have f2 := hz2.free 2
                  obtain ⟨q0, q1, q2⟩ := HM.out V2 hb6
                  simp only at z0 z1 z2 q0 q1 q2
                  go_wp2
                  have hz3 : ZBox (V2.setCell ⟨wr.heap.size, 2, none⟩ (.int .i64 x)).drew (wr.heap.size) (true, x, x) := (show ZBox (V2.setCell ⟨wr.heap.size, 2, none⟩ (.int .i64 x)) (wr.heap.size) (true, x, x) from (hz2.set2 x))
                  have hb7 : Below w.heap.size w (V2.setCell ⟨wr.heap.size, 2, none⟩ (.int .i64 x)).drew := Below.drew (show Below w.heap.size w (V2.setCell ⟨wr.heap.size, 2, none⟩ (.int .i64 x)) from (hb6.setCell (p := ⟨wr.heap.size, 2, none⟩) (by simp; omega) (.int .i64 x)))
                  have ho7 : ZOwn (V2.setCell ⟨wr.heap.size, 2, none⟩ (.int .i64 x)).drew w.heap.size (some ⟨g, 0, none⟩) (X.length + 1) c2 (X ++ [yy]) := (show ZOwn (V2.setCell ⟨wr.heap.size, 2, none⟩ (.int .i64 x)) w.heap.size (some ⟨g, 0, none⟩) (X.length + 1) c2 (X ++ [yy]) from (ho6.kept (row := some (wr.heap.size)) (Lib.grownBy_setCell _ (wr.heap.size) 2 (.int .i64 x)) (.inr (by simpa [blk] using hgz))))
                  have hs7 : (V2.setCell ⟨wr.heap.size, 2, none⟩ (.int .i64 x)).drew.heap.size = V2.heap.size := by simp
                  go_region
                  generalize (V2.setCell ⟨wr.heap.size, 2, none⟩ (.int .i64 x)).drew = V3 at *
                  clear z0 z1 z2 f0 f1 f2 q0 q1 q2
                  obtain ⟨z0, z1, z2⟩ := hz3.cell
                  obtain ⟨y0, y1, y2⟩ := zown_cells ho7
                  have f0 := ho7.free (X.length * 3)
                  have f1 := ho7.free (X.length * 3 + 1)
                  have f2 := ho7.free (X.length * 3 + 2)
                  have hl8 := zown_last (z := (true, x, x)) ho7
                  have hb8 := ((hb7.setCell (p := ⟨g, X.length * 3, none⟩) hgl (.bool true)).setCell (p := ⟨g, X.length * 3 + 1, none⟩) hgl (.int .i64 x)).setCell (p := ⟨g, X.length * 3 + 2, none⟩) hgl (.int .i64 x)
                  have HZ8 := Lib.hid hl8
                  have HB8 := Lib.hid hb8
                  simp only at z0 z1 z2
                  clear hl8 hb8 ho7 hb7 ho6 hb6 hz3 hz2 hz0 ho4 hb4
                  go_wp2
                  go_roundw
                  case rel => exact ⟨k + 1, some ⟨g, 0, none⟩, c2, by omega, by go_num, by rw [HX2.out, HA.out]; simp, by rw [HX2.out, HA.out, List.length_append]; exact HZ8.out, HB8.out⟩
                  case measure => simp [intOf]; omega
                · have e2 : max hi x = hi := by omega
                  rw [e1, e2] at hadd
                  have HA := Lib.hid hadd
                  clear hadd e1 e2
                  go_wp2
                  clear y0 y1 y2 q0 q1 q2 ho
                  have hz0 := ZBox.new wr (true, lo, hi)
                  simp only at hz0
                  have ho4 := ho3.alloc (.cells #[.bool true, .int .i64 lo, .int .i64 hi] 41)
                  have hs4 : (wr.alloc (.cells #[.bool true, .int .i64 lo, .int .i64 hi] 41)).heap.size = wr.heap.size + 1 := by simp
                  have hgz : g ≠ wr.heap.size := by omega
                  generalize wr.alloc (.cells #[.bool true, .int .i64 lo, .int .i64 hi] 41) = V0 at *
                  obtain ⟨yy, hyy⟩ : ∃ yy : Bool × Int × Int, yy = (true, lo, hi) := ⟨_, rfl⟩
                  rw [← hyy] at ho4
                  clear ho3 hyy
                  obtain ⟨z0, z1, z2⟩ := hz0.cell
                  have f0 := hz0.free 0
                  have f1 := hz0.free 1
                  have f2 := hz0.free 2
                  obtain ⟨q0, q1, q2⟩ := HM.out V0 hb4
                  simp only at z0 z1 z2 q0 q1 q2
                  have hz2 : ZBox (V0.setCell ⟨wr.heap.size, 1, none⟩ (.int .i64 x)).drew (wr.heap.size) (true, x, hi) := (show ZBox (V0.setCell ⟨wr.heap.size, 1, none⟩ (.int .i64 x)) (wr.heap.size) (true, x, hi) from (hz0.set1 x))
                  have hb6 : Below w.heap.size w (V0.setCell ⟨wr.heap.size, 1, none⟩ (.int .i64 x)).drew := Below.drew (show Below w.heap.size w (V0.setCell ⟨wr.heap.size, 1, none⟩ (.int .i64 x)) from (hb4.setCell (p := ⟨wr.heap.size, 1, none⟩) (by simp; omega) (.int .i64 x)))
                  have ho6 : ZOwn (V0.setCell ⟨wr.heap.size, 1, none⟩ (.int .i64 x)).drew w.heap.size (some ⟨g, 0, none⟩) (X.length + 1) c2 (X ++ [yy]) := (show ZOwn (V0.setCell ⟨wr.heap.size, 1, none⟩ (.int .i64 x)) w.heap.size (some ⟨g, 0, none⟩) (X.length + 1) c2 (X ++ [yy]) from (ho4.kept (row := some (wr.heap.size)) (Lib.grownBy_setCell _ (wr.heap.size) 1 (.int .i64 x)) (.inr (by simpa [blk] using hgz))))
                  have hs6 : (V0.setCell ⟨wr.heap.size, 1, none⟩ (.int .i64 x)).drew.heap.size = V0.heap.size := by simp
                  go_region
                  generalize (V0.setCell ⟨wr.heap.size, 1, none⟩ (.int .i64 x)).drew = V2 at *
                  clear z0 z1 z2 f0 f1 f2 q0 q1 q2
                  obtain ⟨z0, z1, z2⟩ := hz2.cell
                  have f0 := hz2.free 0
                  have f1 := hz2.free 1
                  have f2 := hz2.free 2
                  obtain ⟨q0, q1, q2⟩ := HM.out V2 hb6
                  simp only at z0 z1 z2 q0 q1 q2
                  go_wp2
                  have hz3 : ZBox (V2.setCell ⟨wr.heap.size, 2, none⟩ (.int .i64 hi)).drew (wr.heap.size) (true, x, hi) := (show ZBox (V2.setCell ⟨wr.heap.size, 2, none⟩ (.int .i64 hi)) (wr.heap.size) (true, x, hi) from (hz2.set2 hi))
                  have hb7 : Below w.heap.size w (V2.setCell ⟨wr.heap.size, 2, none⟩ (.int .i64 hi)).drew := Below.drew (show Below w.heap.size w (V2.setCell ⟨wr.heap.size, 2, none⟩ (.int .i64 hi)) from (hb6.setCell (p := ⟨wr.heap.size, 2, none⟩) (by simp; omega) (.int .i64 hi)))
                  have ho7 : ZOwn (V2.setCell ⟨wr.heap.size, 2, none⟩ (.int .i64 hi)).drew w.heap.size (some ⟨g, 0, none⟩) (X.length + 1) c2 (X ++ [yy]) := (show ZOwn (V2.setCell ⟨wr.heap.size, 2, none⟩ (.int .i64 hi)) w.heap.size (some ⟨g, 0, none⟩) (X.length + 1) c2 (X ++ [yy]) from (ho6.kept (row := some (wr.heap.size)) (Lib.grownBy_setCell _ (wr.heap.size) 2 (.int .i64 hi)) (.inr (by simpa [blk] using hgz))))
                  have hs7 : (V2.setCell ⟨wr.heap.size, 2, none⟩ (.int .i64 hi)).drew.heap.size = V2.heap.size := by simp
                  go_region
                  generalize (V2.setCell ⟨wr.heap.size, 2, none⟩ (.int .i64 hi)).drew = V3 at *
                  clear z0 z1 z2 f0 f1 f2 q0 q1 q2
                  obtain ⟨z0, z1, z2⟩ := hz3.cell
                  obtain ⟨y0, y1, y2⟩ := zown_cells ho7
                  have f0 := ho7.free (X.length * 3)
                  have f1 := ho7.free (X.length * 3 + 1)
                  have f2 := ho7.free (X.length * 3 + 2)
                  have hl8 := zown_last (z := (true, x, hi)) ho7
                  have hb8 := ((hb7.setCell (p := ⟨g, X.length * 3, none⟩) hgl (.bool true)).setCell (p := ⟨g, X.length * 3 + 1, none⟩) hgl (.int .i64 x)).setCell (p := ⟨g, X.length * 3 + 2, none⟩) hgl (.int .i64 hi)
                  have HZ8 := Lib.hid hl8
                  have HB8 := Lib.hid hb8
                  simp only at z0 z1 z2
                  clear hl8 hb8 ho7 hb7 ho6 hb6 hz3 hz2 hz0 ho4 hb4
                  go_wp2
                  go_roundw
                  case rel => exact ⟨k + 1, some ⟨g, 0, none⟩, c2, by omega, by go_num, by rw [HX2.out, HA.out]; simp, by rw [HX2.out, HA.out, List.length_append]; exact HZ8.out, HB8.out⟩
                  case measure => simp [intOf]; omega
              · have e1 : min lo x = lo := by omega
                by_cases hhi : hi < x
                · have e2 : max hi x = x := by omega
                  rw [e1, e2] at hadd
                  have HA := Lib.hid hadd
                  clear hadd e1 e2
                  go_wp2
                  clear y0 y1 y2 q0 q1 q2 ho
                  have hz0 := ZBox.new wr (true, lo, hi)
                  simp only at hz0
                  have ho4 := ho3.alloc (.cells #[.bool true, .int .i64 lo, .int .i64 hi] 41)
                  have hs4 : (wr.alloc (.cells #[.bool true, .int .i64 lo, .int .i64 hi] 41)).heap.size = wr.heap.size + 1 := by simp
                  have hgz : g ≠ wr.heap.size := by omega
                  generalize wr.alloc (.cells #[.bool true, .int .i64 lo, .int .i64 hi] 41) = V0 at *
                  obtain ⟨yy, hyy⟩ : ∃ yy : Bool × Int × Int, yy = (true, lo, hi) := ⟨_, rfl⟩
                  rw [← hyy] at ho4
                  clear ho3 hyy
                  obtain ⟨z0, z1, z2⟩ := hz0.cell
                  have f0 := hz0.free 0
                  have f1 := hz0.free 1
                  have f2 := hz0.free 2
                  obtain ⟨q0, q1, q2⟩ := HM.out V0 hb4
                  simp only at z0 z1 z2 q0 q1 q2
                  have hz2 : ZBox (V0.setCell ⟨wr.heap.size, 1, none⟩ (.int .i64 lo)).drew (wr.heap.size) (true, lo, hi) := (show ZBox (V0.setCell ⟨wr.heap.size, 1, none⟩ (.int .i64 lo)) (wr.heap.size) (true, lo, hi) from (hz0.set1 lo))
                  have hb6 : Below w.heap.size w (V0.setCell ⟨wr.heap.size, 1, none⟩ (.int .i64 lo)).drew := Below.drew (show Below w.heap.size w (V0.setCell ⟨wr.heap.size, 1, none⟩ (.int .i64 lo)) from (hb4.setCell (p := ⟨wr.heap.size, 1, none⟩) (by simp; omega) (.int .i64 lo)))
                  have ho6 : ZOwn (V0.setCell ⟨wr.heap.size, 1, none⟩ (.int .i64 lo)).drew w.heap.size (some ⟨g, 0, none⟩) (X.length + 1) c2 (X ++ [yy]) := (show ZOwn (V0.setCell ⟨wr.heap.size, 1, none⟩ (.int .i64 lo)) w.heap.size (some ⟨g, 0, none⟩) (X.length + 1) c2 (X ++ [yy]) from (ho4.kept (row := some (wr.heap.size)) (Lib.grownBy_setCell _ (wr.heap.size) 1 (.int .i64 lo)) (.inr (by simpa [blk] using hgz))))
                  have hs6 : (V0.setCell ⟨wr.heap.size, 1, none⟩ (.int .i64 lo)).drew.heap.size = V0.heap.size := by simp
                  go_region
                  generalize (V0.setCell ⟨wr.heap.size, 1, none⟩ (.int .i64 lo)).drew = V2 at *
                  clear z0 z1 z2 f0 f1 f2 q0 q1 q2
                  obtain ⟨z0, z1, z2⟩ := hz2.cell
                  have f0 := hz2.free 0
                  have f1 := hz2.free 1
                  have f2 := hz2.free 2
                  obtain ⟨q0, q1, q2⟩ := HM.out V2 hb6
                  simp only at z0 z1 z2 q0 q1 q2
                  go_wp2
                  have hz3 : ZBox (V2.setCell ⟨wr.heap.size, 2, none⟩ (.int .i64 x)).drew (wr.heap.size) (true, lo, x) := (show ZBox (V2.setCell ⟨wr.heap.size, 2, none⟩ (.int .i64 x)) (wr.heap.size) (true, lo, x) from (hz2.set2 x))
                  have hb7 : Below w.heap.size w (V2.setCell ⟨wr.heap.size, 2, none⟩ (.int .i64 x)).drew := Below.drew (show Below w.heap.size w (V2.setCell ⟨wr.heap.size, 2, none⟩ (.int .i64 x)) from (hb6.setCell (p := ⟨wr.heap.size, 2, none⟩) (by simp; omega) (.int .i64 x)))
                  have ho7 : ZOwn (V2.setCell ⟨wr.heap.size, 2, none⟩ (.int .i64 x)).drew w.heap.size (some ⟨g, 0, none⟩) (X.length + 1) c2 (X ++ [yy]) := (show ZOwn (V2.setCell ⟨wr.heap.size, 2, none⟩ (.int .i64 x)) w.heap.size (some ⟨g, 0, none⟩) (X.length + 1) c2 (X ++ [yy]) from (ho6.kept (row := some (wr.heap.size)) (Lib.grownBy_setCell _ (wr.heap.size) 2 (.int .i64 x)) (.inr (by simpa [blk] using hgz))))
                  have hs7 : (V2.setCell ⟨wr.heap.size, 2, none⟩ (.int .i64 x)).drew.heap.size = V2.heap.size := by simp
                  go_region
                  generalize (V2.setCell ⟨wr.heap.size, 2, none⟩ (.int .i64 x)).drew = V3 at *
                  clear z0 z1 z2 f0 f1 f2 q0 q1 q2
                  obtain ⟨z0, z1, z2⟩ := hz3.cell
                  obtain ⟨y0, y1, y2⟩ := zown_cells ho7
                  have f0 := ho7.free (X.length * 3)
                  have f1 := ho7.free (X.length * 3 + 1)
                  have f2 := ho7.free (X.length * 3 + 2)
                  have hl8 := zown_last (z := (true, lo, x)) ho7
                  have hb8 := ((hb7.setCell (p := ⟨g, X.length * 3, none⟩) hgl (.bool true)).setCell (p := ⟨g, X.length * 3 + 1, none⟩) hgl (.int .i64 lo)).setCell (p := ⟨g, X.length * 3 + 2, none⟩) hgl (.int .i64 x)
                  have HZ8 := Lib.hid hl8
                  have HB8 := Lib.hid hb8
                  simp only at z0 z1 z2
                  clear hl8 hb8 ho7 hb7 ho6 hb6 hz3 hz2 hz0 ho4 hb4
                  go_wp2
                  go_roundw
                  case rel => exact ⟨k + 1, some ⟨g, 0, none⟩, c2, by omega, by go_num, by rw [HX2.out, HA.out]; simp, by rw [HX2.out, HA.out, List.length_append]; exact HZ8.out, HB8.out⟩
                  case measure => simp [intOf]; omega
                · have e2 : max hi x = hi := by omega
                  rw [e1, e2] at hadd
                  have HA := Lib.hid hadd
                  clear hadd e1 e2
                  go_wp2
                  clear y0 y1 y2 q0 q1 q2 ho
                  have hz0 := ZBox.new wr (true, lo, hi)
                  simp only at hz0
                  have ho4 := ho3.alloc (.cells #[.bool true, .int .i64 lo, .int .i64 hi] 41)
                  have hs4 : (wr.alloc (.cells #[.bool true, .int .i64 lo, .int .i64 hi] 41)).heap.size = wr.heap.size + 1 := by simp
                  have hgz : g ≠ wr.heap.size := by omega
                  generalize wr.alloc (.cells #[.bool true, .int .i64 lo, .int .i64 hi] 41) = V0 at *
                  obtain ⟨yy, hyy⟩ : ∃ yy : Bool × Int × Int, yy = (true, lo, hi) := ⟨_, rfl⟩
                  rw [← hyy] at ho4
                  clear ho3 hyy
                  obtain ⟨z0, z1, z2⟩ := hz0.cell
                  have f0 := hz0.free 0
                  have f1 := hz0.free 1
                  have f2 := hz0.free 2
                  obtain ⟨q0, q1, q2⟩ := HM.out V0 hb4
                  simp only at z0 z1 z2 q0 q1 q2
                  have hz2 : ZBox (V0.setCell ⟨wr.heap.size, 1, none⟩ (.int .i64 lo)).drew (wr.heap.size) (true, lo, hi) := (show ZBox (V0.setCell ⟨wr.heap.size, 1, none⟩ (.int .i64 lo)) (wr.heap.size) (true, lo, hi) from (hz0.set1 lo))
                  have hb6 : Below w.heap.size w (V0.setCell ⟨wr.heap.size, 1, none⟩ (.int .i64 lo)).drew := Below.drew (show Below w.heap.size w (V0.setCell ⟨wr.heap.size, 1, none⟩ (.int .i64 lo)) from (hb4.setCell (p := ⟨wr.heap.size, 1, none⟩) (by simp; omega) (.int .i64 lo)))
                  have ho6 : ZOwn (V0.setCell ⟨wr.heap.size, 1, none⟩ (.int .i64 lo)).drew w.heap.size (some ⟨g, 0, none⟩) (X.length + 1) c2 (X ++ [yy]) := (show ZOwn (V0.setCell ⟨wr.heap.size, 1, none⟩ (.int .i64 lo)) w.heap.size (some ⟨g, 0, none⟩) (X.length + 1) c2 (X ++ [yy]) from (ho4.kept (row := some (wr.heap.size)) (Lib.grownBy_setCell _ (wr.heap.size) 1 (.int .i64 lo)) (.inr (by simpa [blk] using hgz))))
                  have hs6 : (V0.setCell ⟨wr.heap.size, 1, none⟩ (.int .i64 lo)).drew.heap.size = V0.heap.size := by simp
                  go_region
                  generalize (V0.setCell ⟨wr.heap.size, 1, none⟩ (.int .i64 lo)).drew = V2 at *
                  clear z0 z1 z2 f0 f1 f2 q0 q1 q2
                  obtain ⟨z0, z1, z2⟩ := hz2.cell
                  have f0 := hz2.free 0
                  have f1 := hz2.free 1
                  have f2 := hz2.free 2
                  obtain ⟨q0, q1, q2⟩ := HM.out V2 hb6
                  simp only at z0 z1 z2 q0 q1 q2
                  go_wp2
                  have hz3 : ZBox (V2.setCell ⟨wr.heap.size, 2, none⟩ (.int .i64 hi)).drew (wr.heap.size) (true, lo, hi) := (show ZBox (V2.setCell ⟨wr.heap.size, 2, none⟩ (.int .i64 hi)) (wr.heap.size) (true, lo, hi) from (hz2.set2 hi))
                  have hb7 : Below w.heap.size w (V2.setCell ⟨wr.heap.size, 2, none⟩ (.int .i64 hi)).drew := Below.drew (show Below w.heap.size w (V2.setCell ⟨wr.heap.size, 2, none⟩ (.int .i64 hi)) from (hb6.setCell (p := ⟨wr.heap.size, 2, none⟩) (by simp; omega) (.int .i64 hi)))
                  have ho7 : ZOwn (V2.setCell ⟨wr.heap.size, 2, none⟩ (.int .i64 hi)).drew w.heap.size (some ⟨g, 0, none⟩) (X.length + 1) c2 (X ++ [yy]) := (show ZOwn (V2.setCell ⟨wr.heap.size, 2, none⟩ (.int .i64 hi)) w.heap.size (some ⟨g, 0, none⟩) (X.length + 1) c2 (X ++ [yy]) from (ho6.kept (row := some (wr.heap.size)) (Lib.grownBy_setCell _ (wr.heap.size) 2 (.int .i64 hi)) (.inr (by simpa [blk] using hgz))))
                  have hs7 : (V2.setCell ⟨wr.heap.size, 2, none⟩ (.int .i64 hi)).drew.heap.size = V2.heap.size := by simp
                  go_region
                  generalize (V2.setCell ⟨wr.heap.size, 2, none⟩ (.int .i64 hi)).drew = V3 at *
                  clear z0 z1 z2 f0 f1 f2 q0 q1 q2
                  obtain ⟨z0, z1, z2⟩ := hz3.cell
                  obtain ⟨y0, y1, y2⟩ := zown_cells ho7
                  have f0 := ho7.free (X.length * 3)
                  have f1 := ho7.free (X.length * 3 + 1)
                  have f2 := ho7.free (X.length * 3 + 2)
                  have hl8 := zown_last (z := (true, lo, hi)) ho7
                  have hb8 := ((hb7.setCell (p := ⟨g, X.length * 3, none⟩) hgl (.bool true)).setCell (p := ⟨g, X.length * 3 + 1, none⟩) hgl (.int .i64 lo)).setCell (p := ⟨g, X.length * 3 + 2, none⟩) hgl (.int .i64 hi)
                  have HZ8 := Lib.hid hl8
                  have HB8 := Lib.hid hb8
                  simp only at z0 z1 z2
                  clear hl8 hb8 ho7 hb7 ho6 hb6 hz3 hz2 hz0 ho4 hb4
                  go_wp2
                  go_roundw
                  case rel => exact ⟨k + 1, some ⟨g, 0, none⟩, c2, by omega, by go_num, by rw [HX2.out, HA.out]; simp, by rw [HX2.out, HA.out, List.length_append]; exact HZ8.out, HB8.out⟩
                  case measure => simp [intOf]; omega
      · obtain rfl : k = n := by omega
        go_wp2
        go_ret
        exact ⟨A2, c2, rfl, ho, hbel⟩
end Go.Proofs.Ytgjopffdgdimlaa

/- Two zones compared. -/
namespace Go.Proofs.Ytgjopffdgdimlaa
open Go.RowKit
set_option maxRecDepth 100000

theorem stoodIn_zone : Try.prog.stoodInHeld 41 = false := by kernel_rfl
theorem guard_zone : Try.prog.eqGuardType Try.prog.depth 41 = false := by kernel_rfl
theorem struct_zone : Try.prog.underlying 41 = some (.struct (Try.prog.fieldsOf 41)) := by kernel_rfl
theorem run_eq_zone (a b : Bool) (c d e f : Int) (W : World) :
    (Op.equalIn 10000 41 (.agg #[.bool a, .int .i64 c, .int .i64 e]) (.agg #[.bool b, .int .i64 d, .int .i64 f])).run Try.prog W = .ok (decide ((a, c, e) = (b, d, f))) W := by
  rw [run_equalIn_struct W 9999 41 _ _ struct_zone stoodIn_zone]
  rw [show decide ((a, c, e) = (b, d, f)) = (a == b && (c == d && e == f)) from by rw [Bool.eq_iff_iff]; simp]
  simp only [Program.fieldsOf, Try.underlying41]
  rcases h1 : (a == b) with _ | _ <;> rcases h2 : (c == d) with _ | _ <;> rcases h3 : (e == f) with _ | _ <;> simp [Op.eqFields, go_sem, h1, h2, h3]
end Go.Proofs.Ytgjopffdgdimlaa
