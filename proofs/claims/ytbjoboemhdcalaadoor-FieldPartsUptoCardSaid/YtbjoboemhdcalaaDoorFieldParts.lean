/- PROVED: the law FieldParts (the fields of two lines with a blank between are those of the first, and then those of the second whose keys are new) returns true and leaves its arguments as they were.
   Conditions: the second form: the arguments and the listed package variables hold at most 1048576 values and letters (the first form is false by size alone); the listed package variables (of strconv, math/bits) hold what the program's text lays (the card ties them to the text, by the translator's look). -/
import Derived.Test.YtbjoboemhdcalaaDoorFldVars
import Derived.Test.YtbjoboemhdcalaaDoorCopy
namespace Go.Proofs.YtbjoboemhdcalaaDoor.fieldParts
open Go.ChangeShapes Go.WideShapes Go.ChangeAt Go.RowKit
set_option maxRecDepth 100000

theorem wpList_append_field2 {w : World} {ops : Array Oper} {rest : List Oper} {o : Oper} {a : Act} {Q : Exit → Act → World → Prop} (hw : Region.wanted o (yielded ops a.tmps) = true) (s x : Operand)
    (ho : o.op = .call { callee := .builtin .append, args := #[s, x], argTypes := #[36, 36] })
    (base : Nat) (A : Option Addr) (n c : Nat) (fs : List Fld.F) (hs : a.eval s = .slice A n c) (hown : FOwn w base A n c fs)
    (g2 : Nat) (f : Fld.F) (hx : a.eval x = .slice (some ⟨g2, 0, none⟩) 1 1) (hb : FBox w g2 f) (hbytes : n < 1000) (hbase : base ≤ w.heap.size)
    (h : ∀ A' c' w', FOwn w' base A' (n + 1) c' (fs ++ [f]) → w.grownBy w' (blk A) → (blk A' = blk A ∨ blk A' = some w.heap.size) → wpList Tryd.prog ops Q rest (a.put o.dst (.slice A' (n + 1) c')) w') :
    wpList Tryd.prog ops Q (o :: rest) a w := by
  obtain ⟨h0, h1, h2, h3⟩ := hb.cell
  obtain ⟨i0, hi0, hz0, hz1, hz2⟩ := info_parts field_info
  have hl := hown.len
  obtain ⟨v', w', hrun, k2, k3, _, k5⟩ := run_append_own_at (P := Tryd.prog) w base 36 o.type 27 i0 _ 4 48 Tryd.underlying36 hi0 hz0 hz1 hz2 rfl (by omega) (.slice A n c) n (fcells fs) hown
    ⟨g2, 0, none⟩ 1 1 (fcell f) rfl (fun j u hu => by
      rcases j with _ | _ | _ | _ | j
      · simp [fcell] at hu; rw [← hu]; simpa [Addr.add] using h0
      · simp [fcell] at hu; rw [← hu]; simpa [Addr.add] using h1
      · simp [fcell] at hu; rw [← hu]; simpa [Addr.add] using h2
      · simp [fcell] at hu; rw [← hu]; simpa [Addr.add] using h3
      · simp [fcell] at hu) (by intro u hu; simp only [fcell, List.mem_cons, List.not_mem_nil, or_false] at hu; rcases hu with rfl | rfl | rfl | rfl <;> rfl) (by simp only [maxLen]; omega) (by omega) hbase
  rw [← fcells_snoc] at k2
  rw [ownBlock_eq] at k3 k5
  obtain ⟨A', c', rfl⟩ : ∃ A' c', v' = .slice A' (n + 1) c' := by
    rcases k2.2 with ⟨rfl, h0⟩ | ⟨g, cap, cur, rfl, _⟩
    · omega
    · exact ⟨_, cap, rfl⟩
  rw [ownBlock_eq] at k5
  refine wpList_step fun K hK => ?_
  rw [if_pos hw]
  unfold Oper.wp execOp
  simp only [ho, resolve, invoke, builtin, Sem.run_bind, Sem.run_pure, Result.andThen_ok, List.map_toArray, List.map_cons, List.map_nil, hs, hx, hrun]
  exact hK _ _ (h A' c' w' k2 k3 k5)
theorem sizeFld (W : World) : (sizeOf 27).run Tryd.prog W = .ok 4 W := Tryd.sizeOf27 W
theorem elemFld : Tryd.prog.elem 36 = 27 := by kernel_rfl
theorem run_cut_fld (A : Option Addr) (n cap hi : Nat) (h2 : hi ≤ cap) (W : World) :
    (Instr.slice 36 (.slice A n cap) none (some (.int .i64 (hi : Int))) none).run Tryd.prog W = .ok (.slice A hi cap) W := by
  rw [run_slice_h (P := Tryd.prog) (w := W) (kh := .i64) (h := (hi : Int)) (h0 := by omega) (h2 := by omega) (ht := by rw [elemFld]; exact Tryd.underlying36)]
  rw [elemFld, sizeFld]
  by_cases hc : cap = 0 <;> cases A <;> simp [Result.andThen, sliced, Addr.add]

/-- between two fields of the second line -/
def PartsAt (w : World) (X Y : List Fld.F) (k : Nat) (A3 : Option Addr) (c3 : Nat) (Z : List Fld.F) (A4 : Option Addr) (c4 : Nat) (wr : World) : Prop :=
  Z = Fld.addAll X (Y.take k) ∧ Z.length ≤ 16 ∧ FOwn wr w.heap.size A3 Z.length c3 Z ∧ FOwn wr w.heap.size A4 Y.length c4 Y ∧ (blk A3 = none ∨ blk A3 ≠ blk A4) ∧ Below w.heap.size w wr

set_option maxHeartbeats 4000000 in
theorem walk (A1 : Option Addr) (n1 cap1 : Nat) (a : List UInt8) (A2 : Option Addr) (n2 cap2 : Nat) (b : List UInt8) (w : World)
    (hl1 : a.length = n1) (hc1 : n1 ≤ cap1) (_hn1 : n1 ≤ 140737488351232) (hb1 : Bytes w w.heap.size A1 a) (hl2 : b.length = n2) (hc2 : n2 ≤ cap2) (_hn2 : n2 ≤ 140737488351232) (hb2 : Bytes w w.heap.size A2 b) (hs : n1 + n2 ≤ 1048576) (hv : Vars w) :
    Calls Tryd.prog 7 #[.slice A1 n1 cap1, .slice A2 n2 cap2] w fun e w' => e = .returned (.bool true) ∧ Below w.heap.size w w' := by
  have HA := Lib.hid (fldAlive_any w hv)
  have HV := Lib.hid (fun w' (h : Below w.heap.size w w') => And.intro ((hb1.below h).wide h.size) (And.intro ((hb2.below h).wide h.size) (hv.below h)))
  have C1 := fun w' hb => refRead_any A1 n1 cap1 a w' hl1 hc1 (by omega) hb
  have C2 := fun w' hb hv => read_any A2 n2 cap2 b w' hl2 hc2 (by omega) hb hv
  have C3 := Lib.hid fun w' B hb hB => copy_any A1 n1 cap1 B a w' hl1 (by omega) hb hB
  have C4 := fun A c w' hc hb hv => read_any A (n1 + 1 + n2) c (a ++ 32 :: b) w' (by simp; omega) hc (by omega) hb hv
  have hcat := Fld.read_cat a b 32 rfl
  have hlx := Fld.read_le a
  have hly := Fld.read_le b
  have hlr := Fld.read_le (a ++ 32 :: b)
  have Hl2 := Lib.hid hl2
  unfold ReadPost at C1 C2 C4
  generalize Fld.read (a ++ 32 :: b) = R at *
  generalize Fld.read a = X at *
  generalize Fld.read b = Y at *
  have Hcat := Lib.hid hcat
  replace C1 := Lib.hid C1
  replace C2 := Lib.hid C2
  replace C4 := Lib.hid C4
  clear hcat hl1 hl2 hb1 hb2 hv
  go_enter Tryd.func7, Tryd.ntmps7
  go_wp2_with fail
  refine HA.out.mono ?_
  rintro e w1 ⟨rfl, hbel1⟩
  go_wp2_with fail
  refine (C1.out w1 (HV.out _ hbel1).1).mono ?_
  rintro e w2 ⟨A3, c3, rfl, ho2, hx2⟩
  have hbel2 := hbel1.trans (hx2.mono hbel1.size)
  go_wp2_with fail
  refine (C2.out w2 (HV.out _ hbel2).2.1 (HV.out _ hbel2).2.2).mono ?_
  rintro e w3 ⟨A4, c4, rfl, ho4, hx3⟩
  have hbel3 := hbel2.trans (hx3.mono hbel2.size)
  have ho3 := (ho2.below hx3).low hbel1.size
  have ho4' := ho4.low hbel2.size
  have hdis : blk A3 = none ∨ blk A3 ≠ blk A4 := by
    cases h3 : blk A3 with
    | none => exact .inl rfl
    | some k =>
      refine .inr fun e => ?_
      have k1 := (ho2.lt h3).2
      have k2 := (ho4.lt e.symm).1
      omega
  clear C1 C2 HA ho2 ho4 hx2 hx3 hbel1 hbel2
  go_wp2
  go_loopw [5, 7] (fun s i wr => ∃ (A3 : Option Addr) (c3 : Nat) (Z : List Fld.F) (k : Nat), s = .slice A3 Z.length c3 ∧ i = .int .i64 (k : Int) ∧ k ≤ Y.length ∧ PartsAt w X Y k A3 c3 Z A4 c4 wr) (fun _ i _ => Y.length - (intOf i).toNat)
  case atStart => exact ⟨A3, c3, X, 0, rfl, rfl, by omega, rfl, hlx, ho3, ho4', hdis, hbel3⟩
  case round =>
    clear ho3 ho4' hdis hbel3
    obtain ⟨A3', c3', Z, k, rfl, rfl, hk, hZ, hz16, ho3, ho4, hdis, hbel⟩ := hrel
    by_cases hlt : k < Y.length
    · obtain ⟨g, hA4, hg, k0, k1, k2, k3⟩ := ho4.flds.get hlt
      have hnx := Fld.addAll_take (X := X) hlt
      rw [← hZ] at hnx
      have i1 : (k : Int) < (Y.length : Int) := by omega
      have i0 : (0 : Int) ≤ (k : Int) := by omega
      have HAt := fun key => at_gen A3' Z.length c3' Z key wr rfl (by omega) ho3.flds
      generalize Y[k] = f at *
      obtain ⟨fk, fd, fi, ft⟩ := f
      simp only at k0 k1 k2 k3
      have HAf := Lib.hid (HAt fk)
      have Hnx := Lib.hid hnx
      clear HAt hnx hZ
      obtain rfl := hA4
      go_wp2_with fail
      refine HAf.out.mono ?_
      rintro e w5 ⟨qk, qd, qi, qt, h, rfl, hh, hb5⟩
      have hb6 := hb5.alloc hb5.size (.cells #[.string ⟨qk.toArray⟩, .int .i64 qd, .int .i64 qi, .string ⟨qt.toArray⟩] 27)
      have ho3a := ho3.below hb6
      have ho4a := ho4.below hb6
      have hbel6 := hbel.trans (hb6.mono hbel.size)
      have m0 := (hb6.cell (p := ⟨g, k * 4, none⟩) hg).trans k0
      have m1 := (hb6.cell (p := ⟨g, k * 4 + 1, none⟩) hg).trans k1
      have m2 := (hb6.cell (p := ⟨g, k * 4 + 2, none⟩) hg).trans k2
      have m3 := (hb6.cell (p := ⟨g, k * 4 + 3, none⟩) hg).trans k3
      have Hh := Lib.hid hh
      clear hh k0 k1 k2 k3 hb5 hb6 HAf
      cases h
      · by_cases h15 : Z.length < 16
        · have hd : decide ((Z.length : Int) < 16) = true := decide_eq_true (by omega)
          have hlt16 : (Z.length : Int) < 16 := by omega
          have HR := Lib.hid (show Z ++ [⟨fk, fd, fi, ft⟩] = Fld.addAll X (Y.take (k + 1)) by rw [Hnx.out]; unfold Fld.addF; rw [if_neg (by simp only [Hh.out]; simp; omega)])
          have hb7 : Below (w5.alloc (.cells #[.string ⟨qk.toArray⟩, .int .i64 qd, .int .i64 qi, .string ⟨qt.toArray⟩] 27)).heap.size (w5.alloc (.cells #[.string ⟨qk.toArray⟩, .int .i64 qd, .int .i64 qi, .string ⟨qt.toArray⟩] 27)) ((w5.alloc (.cells #[.string ⟨qk.toArray⟩, .int .i64 qd, .int .i64 qi, .string ⟨qt.toArray⟩] 27)).alloc (.cells #[.string ⟨fk.toArray⟩, .int .i64 fd, .int .i64 fi, .string ⟨ft.toArray⟩] 27)) := (Below.refl _ _).alloc (Nat.le_refl _) _
          have ho3b := ho3a.below hb7
          have ho4b := ho4a.below hb7
          have hbel7 := hbel6.trans (hb7.mono hbel6.size)
          have hbx7 := FBox.new (w5.alloc (.cells #[.string ⟨qk.toArray⟩, .int .i64 qd, .int .i64 qi, .string ⟨qt.toArray⟩] 27)) ⟨fk, fd, fi, ft⟩
          rw [World.size_alloc] at hbx7
          clear Hnx Hh h15 hb7
          go_wp2_with (at_builtin; refine wpList_append_field2 rfl (.tmp 40) (.tmp 45) rfl w.heap.size A3' Z.length c3' Z rfl ho3b (w5.heap.size + 1) ⟨fk, fd, fi, ft⟩ rfl hbx7 (by omega) hbel7.size ?_; intro A5 c5 w8 ho8 hg8 hat8)
          have hbel8 := hbel7.grown hg8 hbel7.size (fun k hk => (ho3b.lt hk).1)
          have ho4c := ho4b.kept hg8 (by
            rcases hdis with h | h
            · exact .inr (by rw [h]; simp [blk])
            · exact .inr (fun e => h e.symm))
          have hdis8 : blk A5 = none ∨ blk A5 ≠ blk (some ⟨g, 0, none⟩) := by
            rcases hat8 with h | h
            · rw [h]; exact hdis
            · refine .inr fun e => ?_
              have := (ho4b.lt (e.symm.trans h)).2
              omega
          go_roundw
          case rel => exact ⟨A5, c5, Z ++ [⟨fk, fd, fi, ft⟩], k + 1, by simp, by go_num, by omega, HR.out, by simp; omega, by simpa using ho8, ho4c, hdis8, hbel8⟩
          case measure => simp [intOf]; omega
        · have hd : decide ((Z.length : Int) < 16) = false := decide_eq_false (by omega)
          have hlt16 : ¬ (Z.length : Int) < 16 := by omega
          have HR := Lib.hid (show Z = Fld.addAll X (Y.take (k + 1)) by rw [Hnx.out]; unfold Fld.addF; rw [if_pos (.inr (by omega))])
          clear Hnx Hh h15
          go_wp2
          go_roundw
          case rel => exact ⟨A3', c3', Z, k + 1, rfl, by go_num, by omega, HR.out, hz16, ho3a, ho4a, hdis, hbel6⟩
          case measure => simp [intOf]; omega
      · have HR := Lib.hid (show Z = Fld.addAll X (Y.take (k + 1)) by rw [Hnx.out]; unfold Fld.addF; rw [if_pos (.inl Hh.out)])
        clear Hnx Hh
        go_wp2
        go_roundw
        case rel => exact ⟨A3', c3', Z, k + 1, rfl, by go_num, by omega, HR.out, hz16, ho3a, ho4a, hdis, hbel6⟩
        case measure => simp [intOf]; omega
    · rw [List.take_of_length_le (by omega)] at hZ
      have Hpre := Lib.hid (show Z <+: R by rw [hZ]; exact Hcat.out.1)
      have Heq := Lib.hid (show Y.length < 16 → R = Z by rw [hZ]; exact Hcat.out.2)
      have i1 : ¬ (k : Int) < (Y.length : Int) := by omega
      have hfz := ho3.flds
      clear hZ Hcat ho3 ho4 hdis
      go_wp2_with fail
      refine (C3.out wr _ (HV.out _ hbel).1 (Nat.le_refl _)).mono ?_
      rintro e w5 ⟨A5, c5, rfl, ho5, hb5⟩
      have hb5a : Below wr.heap.size wr (w5.alloc (.cells #[.int .u8 32] 5)) := hb5.alloc hb5.size _
      have ho5a := ho5.below (show Below w5.heap.size w5 (w5.alloc (.cells #[.int .u8 32] 5)) from (Below.refl _ w5).alloc (Nat.le_refl _) _)
      have hx6 := (own_one w5 32 32 rfl).bytes
      have hy2 := ((HV.out _ hbel).2.1).below hb5a
      have hHf := Lib.hid (fun W (h : Below wr.heap.size wr W) => hfz.below h)
      clear hfz ho5 hb5 C3
      go_wp2_with (at_builtin; first | (refine wpList_append_bytes rfl (.tmp 48) (.tmp 49) rfl wr.heap.size A5 n1 c5 a rfl ho5a _ (some ⟨w5.heap.size, 0, none⟩) 1 1 [32] rfl rfl hx6 (by omega) hb5a.size ?_; intro A6 c6 w6 ho6 hg6 hat6; have hb6 := hb5a.grown hg6 hb5a.size (fun k hk => (ho5a.lt hk).1); have hz2 := ((HV.out _ hbel).2.1).below hb6) | (refine wpList_append_bytes rfl (.tmp 50) (.tmp 51) rfl wr.heap.size A6 (n1 + 1) c6 (a ++ [32]) rfl ho6 _ A2 n2 cap2 b rfl Hl2.out hz2 (by omega) hb6.size ?_; intro A7 c7 w7 ho7 hg7 hat7))
      have hb7 := hb6.grown hg7 hb6.size (fun k hk => (ho6.lt hk).1)
      have hbel7 := hbel.trans (hb7.mono hbel.size)
      rw [show a ++ [32] ++ b = a ++ 32 :: b from by simp] at ho7
      refine (C4.out A7 c7 w7 (by exact ho7.cap) ho7.bytes (HV.out _ hbel7).2.2).mono ?_
      rintro e w8 ⟨A8, c8, rfl, ho8, hb8⟩
      have hb8a := hb7.trans (hb8.mono hb7.size)
      have hbel8 := hbel.trans (hb8a.mono hbel.size)
      have hfz8 := hHf.out w8 hb8a
      have hf8 := ho8.flds
      have hc8 := ho8.cap
      have hzr := Hpre.out.length_le
      clear hHf ho8 hb8 hb8a ho7 hb7 hg7 hat7 ho6 hb6 hg6 hat6 hz2 hy2 hx6 ho5a hb5a C4
      by_cases h16 : Y.length = 16
      · have t16 : ((Y.length : Int) == 16) = true := by rw [h16]; rfl
        have t16' : (Y.length : Int) = 16 := by rw [h16]; rfl
        have hdz : decide (Z.length ≤ R.length) = true := decide_eq_true hzr
        have hdz' : decide ((Z.length : Int) ≤ (R.length : Int)) = true := decide_eq_true (by omega)
        have hcut := run_cut_fld A8 R.length c8 Z.length (by omega)
        have S1 := sameFields_any A8 Z.length c8 (R.take Z.length) A3' Z.length c3' Z w8 (by rw [List.length_take]; omega) rfl (by omega) (by omega) (hf8.take _) hfz8
        rw [decide_eq_true (List.prefix_iff_eq_take.1 Hpre.out).symm] at S1
        replace S1 := Lib.hid S1
        have H16 := Lib.hid h16
        clear h16 Hpre Heq hf8 hfz8
        go_wp2_with fail
        refine S1.out.mono ?_
        rintro e w9 ⟨rfl, hd9⟩
        go_wp2
        go_ret
        exact ⟨rfl, hbel8.trans (hd9.below _)⟩
      · have t16 : ((Y.length : Int) == 16) = false := by simp; omega
        have t16' : ¬ (Y.length : Int) = 16 := by omega
        have S1 := sameFields_any A8 R.length c8 R A3' Z.length c3' Z w8 rfl rfl (by omega) (by omega) hf8 hfz8
        rw [decide_eq_true (Heq.out (by omega))] at S1
        replace S1 := Lib.hid S1
        clear h16 Hpre Heq hf8 hfz8
        go_wp2_with fail
        refine S1.out.mono ?_
        rintro e w9 ⟨rfl, hd9⟩
        go_wp2
        go_ret
        exact ⟨rfl, hbel8.trans (hd9.below _)⟩

theorem short {H : Type} {d0 d1 : DataW H} {n0 n1 : Nat} (hk : Rows.uptoSmall H [d0, d1] = true)
    (h0 : d0 = .nil ∧ n0 = 0 ∨ ∃ elems spare, d0 = .slice elems spare ∧ elems.length = n0) (h1 : d1 = .nil ∧ n1 = 0 ∨ ∃ elems spare, d1 = .slice elems spare ∧ elems.length = n1) : n0 + n1 ≤ 1048576 := by
  have h : Rows.uptoBulkAll [d0, d1] ≤ 1048576 := of_decide_eq_true hk
  simp only [Rows.uptoBulkAll] at h
  have g0 := bulk_le h0
  have g1 := bulk_le h1
  omega

/-- from the walk to the post of the row -/
theorem contract (H : Type) (enc : TypeId × Value → H) (W : World) (base : Nat) (args : Array Value) (ds gs : List (DataW H)) (before : List MemPlace)
    (hval : ∀ (j : Nat) t v, Tryd.f7.params[j]? = some t → args[j]? = some v → Value.okWide Tryd.prog W .any base t v)
    (hW : DataW.Whole enc Tryd.prog Tryd.f7.params.toList Rows.fieldPartsSpec.vars false W args.toList ds gs before) (hL : laidMetH Tryd.prog Rows.fieldPartsUptoRow.laid W)
    (hsz0 : (DataW.weightsEach Tryd.prog (Tryd.f7.params.toList ++ Rows.fieldPartsSpec.plain.varTypes Tryd.prog) (ds ++ gs)).all (· ≤ reachBytes) = true) (hk : Rows.uptoSmall H (ds ++ gs) = true) :
    Calls Tryd.prog 7 args W fun e W' => ∃ v, e = .returned v ∧ Rows.fieldPartsSpec.post enc Tryd.prog Tryd.f7 false true false false W args v W' := by
  have hW' := hW
  obtain ⟨p, q, hA0, hV, rfl, hfz, hnd⟩ := hW
  have hA : DataW.TrodAll enc Tryd.prog W 0 (fun _ => true) true Tryd.f7.params.toList args.toList ds p := hA0
  rw [Tryd.params7] at hA hval hsz0
  obtain ⟨v0, vs0, d0, ds0, p0, q0, hargs, rfl, rfl, h0, r0⟩ := trodAll_cons hA
  obtain ⟨v1, vs1, d1, ds1, p1, q1, rfl, rfl, rfl, h1, r1⟩ := trodAll_cons r0
  obtain ⟨rfl, rfl, rfl⟩ := trodAll_nil r1
  obtain rfl : args = #[v0, v1] := by cases args; simp_all
  obtain ⟨rfl, rfl⟩ := trodVars_none hV
  obtain ⟨a0, len0, cap0, rfl⟩ := okWide_slice Tryd.underlying31 (hval 0 31 v0 rfl rfl)
  have lt0 : ∀ x ∈ p0, x.block < W.heap.size := by obtain ⟨m, hm⟩ := h0; exact DataW.trod_lt m _ _ _ hm
  obtain ⟨l0, e0, ec0, b0, k0⟩ := open_bytes h0
  have reach0 := reach_bytes hsz0 (j := 0) rfl rfl k0
  obtain ⟨a1, len1, cap1, rfl⟩ := okWide_slice Tryd.underlying31 (hval 1 31 v1 rfl rfl)
  have lt1 : ∀ x ∈ p1, x.block < W.heap.size := by obtain ⟨m, hm⟩ := h1; exact DataW.trod_lt m _ _ _ hm
  obtain ⟨l1, e1, ec1, b1, k1⟩ := open_bytes h1
  have reach1 := reach_bytes hsz0 (j := 1) rfl rfl k1
  clear hA0
  have hs := short (by simpa using hk) k0 k1
  refine (walk a0 len0 cap0 l0 a1 len1 cap1 l1 W e0 ec0 reach0 b0 e1 ec1 reach1 b1 hs (vars hL)).mono fun e W' ⟨he, bel⟩ => ?_
  subst he
  exact ⟨_, rfl, _, _, _, [], _, [], hW', trodAll_mk1 (shut_bool Tryd.underlying4 _), (trodAll_cons_mk (Below.trod laidOut (by kernel_rfl) (of_decide_eq_true (by kernel_rfl)) h0 bel lt0) (trodAll_cons_mk (Below.trod laidOut (by kernel_rfl) (of_decide_eq_true (by kernel_rfl)) h1 bel lt1) trodAll_mk0)), rfl, bel.frame _, fun h => by cases h⟩

theorem laid_met (os : Os) : laidMet Tryd.prog Rows.fieldPartsUptoRow.laid ((laidWorld os).forCall (fun _ _ => 0) ⟨#[], #[.slice none 0 0, .slice none 0 0], []⟩).memory :=
  laidMet_of_run' 8 (by kernel_rfl) (by kernel_rfl)
theorem reads (os : Os) {H : Type} (enc : TypeId × Value → H) : ∃ places, DataW.whole enc Tryd.prog ((laidWorld os).forCall (fun _ _ => 0) ⟨#[], #[.slice none 0 0, .slice none 0 0], []⟩).memory Tryd.f7.params.toList Rows.fieldPartsSpec.vars false #[Value.slice none 0 0, .slice none 0 0].toList 8 = some ([.nil, .nil], [], places) :=
  ⟨[], by kernel_rfl⟩

set_option maxRecDepth 100000 in
theorem lifted (os : Os) (started : os.Started) (H : Type) (enc : TypeId × Value → H) (F : Stop.Interp) :
    ReturnsInHanded {} Tryd.checked os 7 .any ((Rows.OpenSpec.upto Rows.fieldPartsSpec).preRow enc Tryd.prog Tryd.f7 Rows.fieldPartsUptoRow.domain false Rows.fieldPartsUptoRow.laid) (((Rows.OpenSpec.upto Rows.fieldPartsSpec).at F).post enc Tryd.prog Tryd.f7 false true false false) := by
  obtain ⟨places, hx⟩ := reads os enc
  refine returnsInHanded_of_row (C := Tryd.checked) (s := Rows.OpenSpec.upto Rows.fieldPartsSpec) own started (by kernel_rfl) Tryd.func7
    (witness_row_at (enc := enc) (C := Tryd.checked) false (laidWorld os) #[.slice none 0 0, .slice none 0 0] rfl (by kernel_rfl) (by kernel_rfl) (by kernel_rfl)
      (OpenSpec.preRow_of_cond 8 hx (by kernel_rfl) (fun k hk => by cases hk; kernel_rfl) (by kernel_rfl) (laid_met os))) ?_
  intro W base args ds gs before hval hW _ hcond hsz hL _ _
  exact contract H enc W base args ds gs before hval hW hL hsz (hcond _ rfl)

theorem said : Rows.FieldPartsUptoSaid :=
  OpenClaim.holds_of_cond 7 Tryd.f7 rfl rfl rfl rfl rfl rfl rfl ⟨rfl, rfl, rfl, rfl, rfl⟩ rfl rfl rfl rfl rfl (by kernel_rfl) Tryd.func7 (by kernel_rfl)
    (of_decide_eq_true (by kernel_rfl)) (by unfold Func.isWrapper; first | (rw [if_pos (by decide +kernel)]; kernel_rfl) | (rw [if_neg (by decide +kernel)]; exact ⟨rfl, rfl⟩))
    (fun os started H enc _ F => by rw [OpenClaim.pre_eq_preRow]; exact lifted os started H enc F)

theorem plain (f : FuncId) (fn : Func) (hf : Tryd.pinned.checked.prog.funcNamed "dragnet/dragnetlaw08.FieldParts" = some f) (hfn : Tryd.pinned.checked.prog.funcs[f]? = some fn) :
    true = Tryd.pinned.checked.prog.looks [] ∧ ∀ (j : Nat) t, fn.params[j]? = some t → Tryd.pinned.checked.prog.wantsStandIn t = false := by
  obtain rfl : f = 7 := Option.some.inj ((show Tryd.prog.funcNamed "dragnet/dragnetlaw08.FieldParts" = some 7 by kernel_rfl).symm.trans hf) |>.symm
  obtain rfl : fn = Tryd.f7 := (Option.some.inj (Tryd.func7.symm.trans hfn)).symm
  refine ⟨by kernel_rfl, fun j t ht => ?_⟩
  rw [Tryd.params7] at ht
  have hm : t = 31 ∨ t = 31 := by simpa using Array.mem_of_getElem? ht
  rcases hm with rfl | rfl
  · exact (show Tryd.prog.wantsStandIn 31 = false by kernel_rfl)
  · exact (show Tryd.prog.wantsStandIn 31 = false by kernel_rfl)

/-- THE CARD -/
theorem card : Rows.FieldPartsUptoCardSaid :=
  Claim7.holds_tied_plain_at .later [] _ _ _ _ said (fun _ h => by cases h) (by kernel_rfl) (fun _ h => by cases h) fieldPartsUpto_row_tie rfl ⟨rfl, rfl⟩ (by kernel_rfl) rfl plain (by kernel_rfl)
end Go.Proofs.YtbjoboemhdcalaaDoor.fieldParts
