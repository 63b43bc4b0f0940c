/- PROVED: the law SymBack (by any table what is encoded is decoded as it was, and is at most twice as long; a table is taken as it was, whatever stands behind) returns true and leaves its arguments as they were, for every list of strings and two byte slices of together at most 1048576 values and letters.
   Condition: that bound (the second form; the first is false by size alone). -/
import Derived.Test.YtmcioglidgbibaaSymLaw
import Derived.Test.YtmcioglidgbibaaSymPut
import Derived.Test.YtmcioglidgbibaaSymTake
import Derived.Test.YtmcioglidgbibaaSymDec
import Derived.Test.YtmcioglidgbibaaSymForm2
namespace Go.Proofs.Ytmcioglidgbibaa.symBack
open Go.ChangeShapes Go.WideShapes Go.ChangeAt Go.RowKit
set_option maxRecDepth 100000

set_option maxHeartbeats 4000000 in
theorem walk (A : Option Addr) (n cap : Nat) (t : List (List UInt8)) (Ab : Option Addr) (m capb : Nat) (b : List UInt8) (Am : Option Addr) (k capm : Nat) (more : List UInt8) (w : World)
    (hl : t.length = n) (hcap : n ≤ cap) (hn : 16 * n ≤ 140737488351232) (ht : Strs w w.heap.size A t) (hs : ∀ s ∈ t, s.length ≤ maxLen)
    (hlb : b.length = m) (hcapb : m ≤ capb) (_ : m ≤ 140737488351232) (hb : Bytes w w.heap.size Ab b)
    (hlm : more.length = k) (_ : k ≤ capm) (_ : k ≤ 140737488351232) (hmo : Bytes w w.heap.size Am more) (hu : n + m + k ≤ 1048576) :
    Calls Try.prog 7 #[.slice A n cap, .slice Ab m capb, .slice Am k capm] w fun e w' => e = .returned (.bool true) ∧ Below w.heap.size w w' := by
  have C1 := fun w' B (h1 : Strs w' B A t) (hb : Bytes w' B Ab b) (hB : B ≤ w'.heap.size) => encode_any A Ab n m cap capb B t b w' hl hcap (by omega) hlb hcapb (by omega) h1 hs hb hB
  have C2 := fun w' B (h1 : Strs w' B A t) (hB : B ≤ w'.heap.size) => putTable_any none A 0 n 0 cap B [] t w' rfl hl hcap (by omega) (by omega) (Bytes.nil _ _ _) h1 hs hB
  unfold Sym.encoded at C1
  unfold Sym.putTable at C2
  by_cases hf : Sym.Formed t
  · rw [if_pos hf] at C1 C2
    have hE2 := Sym.encode_long t (fun s hs => (hf.2.1 s hs).1) m b hlb
    have hT := Sym.table_length_le hf
    have h32 := hf.1
    have hT2 : (Sym.table t).length ≤ 1000 := by omega
    have D1 := fun A1 c1 w' B (hc1 : (Sym.encode t b).length ≤ c1) (h1 : Strs w' B A t) (hb : Bytes w' B A1 (Sym.encode t b)) (hB : B ≤ w'.heap.size) => decode_any A A1 n (Sym.encode t b).length cap c1 B (m : Int) t (Sym.encode t b) w' hl hcap (by omega) rfl hc1 (by omega) (by omega) (by omega) h1 hs hb hB
    have hdec : Sym.decoded t (Sym.encode t b) (m : Int) = (b, 0) := by
      unfold Sym.decoded
      rw [if_pos ⟨hf, by omega⟩, Sym.decode_encode hf (m : Int) m b [] hlb (by simp [hlb])]
      rfl
    rw [hdec] at D1
    have hback := Sym.takeTable_back hf more
    have hlt : (Sym.table t ++ more).length = (Sym.table t).length + k := by rw [List.length_append, hlm]
    have T1 := fun A1 c1 w' B (hc1 : (Sym.table t).length + k ≤ c1) (hb : Bytes w' B A1 (Sym.table t ++ more)) (hB : B ≤ w'.heap.size) => takeTable_any A1 ((Sym.table t).length + k) c1 B (Sym.table t ++ more) w' hlt hc1 (by omega) hb hB
    rw [hback] at T1
    have K1 := fun A1 c1 w' B (hb : Bytes w' B A1 (Sym.table t)) (hB : B ≤ w'.heap.size) => copy_any A1 (Sym.table t).length c1 B (Sym.table t) w' rfl (by omega) hb hB
    have S1 := Lib.hid fun A1 c1 B1 B2 w' (h1 : Bytes w' B1 A1 b) (h2 : Bytes w' B2 Ab b) => same_any A1 Ab m m c1 capb B1 B2 b b w' hlb hlb h1 h2
    have S2 := Lib.hid fun A1 c1 B1 B2 w' (h1 : Strs w' B1 A1 t) (h2 : Strs w' B2 A t) => sameStr_any A1 A n c1 cap B1 B2 t w' hl (by omega) h1 h2
    unfold PairPost at C1 C2 D1
    unfold TabPost at T1
    rw [List.nil_append] at C2
    simp only [hl, hlb] at C1 C2 D1 T1
    have Hlt := Lib.hid hlt
    have Hlm := Lib.hid hlm
    generalize Sym.encode t b = X at *
    obtain ⟨x, hx⟩ : ∃ x, x = X.length := ⟨_, rfl⟩
    rw [← hx] at C1 D1 hE2
    generalize Sym.table t = T at *
    obtain ⟨y, hy⟩ : ∃ y, y = T.length := ⟨_, rfl⟩
    rw [← hy] at C2 T1 K1 hT2 Hlt
    have Hy := Lib.hid hy.symm
    replace C1 := Lib.hid C1
    replace C2 := Lib.hid C2
    replace D1 := Lib.hid D1
    replace T1 := Lib.hid T1
    replace K1 := Lib.hid K1
    have hyy : ((y : Int) == (y : Int)) = true := by simp
    have hxm : (x : Int) ≤ 2 * (m : Int) := by omega
    clear hl hlb hlm hlt hdec hback hf hs hT h32 hx hy
    go_enter Try.func7, Try.ntmps7
    go_wp2_with fail
    refine (symAlive_any w).mono ?_
    rintro e w1 ⟨rfl, hbel1⟩
    have hx1 := (hb.below hbel1).wide hbel1.size
    have ht1 := (ht.below hbel1).wide hbel1.size
    go_wp2_with fail
    refine (C1.out w1 _ ht1 hx1 (Nat.le_refl _)).mono ?_
    rintro e w2 ⟨A2, c2, rfl, ho2, hb2⟩
    have ht2 := (ht1.below hb2).wide hb2.size
    have hbel2 := hbel1.trans (hb2.mono hbel1.size)
    clear hx1 ht1 C1
    go_wp2_with fail
    refine (C2.out w2 _ ht2 (Nat.le_refl _)).mono ?_
    rintro e w3 ⟨A3, c3, rfl, ho3, hb3⟩
    have ht3 := (ht2.below hb3).wide hb3.size
    have hox3 := ho2.below hb3
    have hbel3 := hbel2.trans (hb3.mono hbel2.size)
    clear ht2 C2 ho2
    go_wp2_with fail
    refine (D1.out A2 c2 w3 _ (by exact hox3.cap) ht3 hox3.bytes (Nat.le_refl _)).mono ?_
    rintro e w4 ⟨A4, c4, rfl, ho4, hb4⟩
    have ht4 := (ht3.below hb4).wide hb4.size
    have hop4 := ho3.below hb4
    have hbel4 := hbel3.trans (hb4.mono hbel3.size)
    clear ht3 D1 hox3 ho3
    go_wp2_with fail
    refine (K1.out A3 c3 w4 _ hop4.bytes (Nat.le_refl _)).mono ?_
    rintro e w5 ⟨A5, c5, rfl, ho5, hb5⟩
    have hmo5 : Bytes w5 w.heap.size Am more := hmo.below (hbel4.trans (hb5.mono hbel4.size))
    have hoy5 := ho4.below hb5
    have hbel5 := hbel4.trans (hb5.mono hbel4.size)
    have hsz5 : w4.heap.size ≤ w5.heap.size := hb5.size
    have hwb : w.heap.size ≤ w4.heap.size := hbel4.size
    have hA4lt := Lib.hid (fun g (h : blk A4 = some g) => (ho4.lt h).2)
    clear K1 hop4 ho4
    go_wp2_with (at_builtin; refine wpList_append_bytes rfl (.tmp 53) (.tmp 54) rfl w4.heap.size A5 y c5 T rfl ho5 _ Am k capm more rfl Hlm.out hmo5 (by omega) hsz5 ?_; intro A6 c6 w6 ho6 hg6 hat6)
    have hfar : blk A4 = none ∨ blk A4 ≠ blk A5 := by
      rcases hA4 : blk A4 with _ | g4
      · exact .inl rfl
      · refine .inr fun h => ?_
        have h5 := (ho5.lt h.symm).1
        have h4 := hA4lt.out g4 hA4
        omega
    have hoy6 := hoy5.kept hg6 hfar
    have hbel6 : Below w.heap.size w w6 := hbel5.grown hg6 hbel5.size (fun q hq => Nat.le_trans hwb (ho5.lt hq).1)
    clear hfar hoy5 ho5 hg6 hat6 hA4lt hmo5 hbel5
    refine (T1.out A6 c6 w6 _ (by exact ho6.cap) ho6.bytes (Nat.le_refl _)).mono ?_
    rintro e w7 ⟨A7, c7, rfl, ho7, hb7⟩
    have hoy7 := hoy6.bytes.below hb7
    have hbel7 := hbel6.trans (hb7.mono hbel6.size)
    have hxb7 : Bytes w7 w.heap.size Ab b := hb.below hbel7
    have htt7 : Strs w7 w.heap.size A t := ht.below hbel7
    have U1 := S1.out A4 c4 _ _ w7 hoy7 hxb7
    rw [beq_self_eq_true] at U1
    replace U1 := Lib.hid U1
    have U2 := Lib.hid (S2.out A7 c7 _ _ w7 ho7.row htt7)
    clear S1 S2 T1 hoy6 ho6 ho7 hoy7 hxb7 htt7 hbel6 hb7
    go_wp2_with fail
    refine U1.out.mono ?_
    rintro e w8 ⟨rfl, rfl⟩
    clear U1
    go_wp2_with fail
    refine U2.out.mono ?_
    rintro e w9 ⟨rfl, hd9⟩
    have hbel9 := hbel7.trans (hd9.below w.heap.size)
    clear U2
    go_wp2
    go_ret
    exact ⟨rfl, hbel9⟩
  · rw [if_neg hf] at C1 C2
    have F2 := fun w' B (h1 : Strs w' B A t) => refFormed_any A n cap B t w' hl (by omega) h1 hs
    rw [Sym.formed_not.2 hf] at F2
    unfold PairPost at C1 C2
    simp only [List.length_nil] at C1 C2
    replace C1 := Lib.hid C1
    replace C2 := Lib.hid C2
    replace F2 := Lib.hid F2
    clear hl hlb hlm hf hs
    go_enter Try.func7, Try.ntmps7
    go_wp2_with fail
    refine (symAlive_any w).mono ?_
    rintro e w1 ⟨rfl, hbel1⟩
    have hx1 := (hb.below hbel1).wide hbel1.size
    have ht1 := (ht.below hbel1).wide hbel1.size
    go_wp2_with fail
    refine (C1.out w1 _ ht1 hx1 (Nat.le_refl _)).mono ?_
    rintro e w2 ⟨A2, c2, rfl, ho2, hb2⟩
    have ht2 := (ht1.below hb2).wide hb2.size
    have hbel2 := hbel1.trans (hb2.mono hbel1.size)
    clear hx1 ht1 C1
    go_wp2_with fail
    refine (C2.out w2 _ ht2 (Nat.le_refl _)).mono ?_
    rintro e w3 ⟨A3, c3, rfl, ho3, hb3⟩
    have ht3 := ht2.below hb3
    have hbel3 := hbel2.trans (hb3.mono hbel2.size)
    clear ht2 C2
    go_wp2_with fail
    refine (F2.out w3 _ ht3).mono ?_
    rintro e w4 ⟨rfl, hd4⟩
    have hbel4 := hbel3.trans (hd4.below w.heap.size)
    clear F2
    go_wp2
    go_ret
    exact ⟨rfl, hbel4⟩

theorem short {H : Type} {d0 d1 d2 : DataW H} {n0 n1 n2 : Nat} (hk : Rows.uptoSmall H [d0, d1, d2] = true)
    (h0 : d0 = .nil ∧ n0 = 0 ∨ ∃ elems spare, d0 = .slice elems spare ∧ elems.length = n0) (h1 : d1 = .nil ∧ n1 = 0 ∨ ∃ elems spare, d1 = .slice elems spare ∧ elems.length = n1) (h2 : d2 = .nil ∧ n2 = 0 ∨ ∃ elems spare, d2 = .slice elems spare ∧ elems.length = n2) : n0 + n1 + n2 ≤ 1048576 := by
  have h : Rows.uptoBulkAll [d0, d1, d2] ≤ 1048576 := of_decide_eq_true hk
  simp only [Rows.uptoBulkAll] at h
  have g0 := bulk_le h0
  have g1 := bulk_le h1
  have g2 := bulk_le h2
  omega

/-- from the walk to the post of the row -/
theorem contract (H : Type) (enc : TypeId × Value → H) (W : World) (base : Nat) (args : Array Value) (ds gs : List (DataW H)) (before : List MemPlace)
    (hval : ∀ (j : Nat) t v, Try.f7.params[j]? = some t → args[j]? = some v → Value.okWide Try.prog W .any base t v)
    (hW : DataW.Whole enc Try.prog Try.f7.params.toList Rows.symBackSpec.vars false W args.toList ds gs before) (_ : laidMetH Try.prog Rows.symBackUptoRow.laid W)
    (hsz0 : (DataW.weightsEach Try.prog (Try.f7.params.toList ++ Rows.symBackSpec.plain.varTypes Try.prog) (ds ++ gs)).all (· ≤ reachBytes) = true) (hk : Rows.uptoSmall H (ds ++ gs) = true) :
    Calls Try.prog 7 args W fun e W' => ∃ v, e = .returned v ∧ Rows.symBackSpec.post enc Try.prog Try.f7 false true false false W args v W' := by
  have hW' := hW
  obtain ⟨p, q, hA0, hV, rfl, hfz, hnd⟩ := hW
  have hA : DataW.TrodAll enc Try.prog W 0 (fun _ => true) true Try.f7.params.toList args.toList ds p := hA0
  rw [Try.params7] at hA hval hsz0
  obtain ⟨v0, vs0, d0, ds0, p0, q0, hargs, rfl, rfl, h0, r0⟩ := trodAll_cons hA
  obtain ⟨v1, vs1, d1, ds1, p1, q1, rfl, rfl, rfl, h1, r1⟩ := trodAll_cons r0
  obtain ⟨v2, vs2, d2, ds2, p2, q2, rfl, rfl, rfl, h2, r2⟩ := trodAll_cons r1
  obtain ⟨rfl, rfl, rfl⟩ := trodAll_nil r2
  obtain rfl : args = #[v0, v1, v2] := by cases args; simp_all
  obtain ⟨rfl, rfl⟩ := trodVars_none hV
  obtain ⟨a0, len0, cap0, rfl⟩ := okWide_slice Try.underlying25 (hval 0 25 v0 rfl rfl)
  have lt0 : ∀ x ∈ p0, x.block < W.heap.size := by obtain ⟨m, hm⟩ := h0; exact DataW.trod_lt m _ _ _ hm
  obtain ⟨l0, e0, ec0, b0, em0, k0⟩ := open_strs h0
  have reach0 := reach_strs hsz0 (j := 0) rfl rfl k0
  obtain ⟨a1, len1, cap1, rfl⟩ := okWide_slice Try.underlying24 (hval 1 24 v1 rfl rfl)
  have lt1 : ∀ x ∈ p1, x.block < W.heap.size := by obtain ⟨m, hm⟩ := h1; exact DataW.trod_lt m _ _ _ hm
  obtain ⟨l1, e1, ec1, b1, k1⟩ := open_bytes h1
  have reach1 := reach_bytes hsz0 (j := 1) rfl rfl k1
  obtain ⟨a2, len2, cap2, rfl⟩ := okWide_slice Try.underlying24 (hval 2 24 v2 rfl rfl)
  have lt2 : ∀ x ∈ p2, x.block < W.heap.size := by obtain ⟨m, hm⟩ := h2; exact DataW.trod_lt m _ _ _ hm
  obtain ⟨l2, e2, ec2, b2, k2⟩ := open_bytes h2
  have reach2 := reach_bytes hsz0 (j := 2) rfl rfl k2
  clear hA0
  have hs := short (by simpa using hk) k0 k1 k2
  refine (walk a0 len0 cap0 l0 a1 len1 cap1 l1 a2 len2 cap2 l2 W e0 ec0 reach0 b0 em0 e1 ec1 reach1 b1 e2 ec2 reach2 b2 hs).mono fun e W' ⟨he, bel⟩ => ?_
  subst he
  exact ⟨_, rfl, _, _, _, [], _, [], hW', trodAll_mk1 (shut_bool Try.underlying4 _), (trodAll_cons_mk (Below.trod laidOut (by kernel_rfl) (of_decide_eq_true (by kernel_rfl)) h0 bel lt0) (trodAll_cons_mk (Below.trod laidOut (by kernel_rfl) (of_decide_eq_true (by kernel_rfl)) h1 bel lt1) (trodAll_cons_mk (Below.trod laidOut (by kernel_rfl) (of_decide_eq_true (by kernel_rfl)) h2 bel lt2) trodAll_mk0))), rfl, bel.frame _, fun h => by cases h⟩

theorem laid_met (os : Os) : laidMet Try.prog Rows.symBackUptoRow.laid ((World.holding Try.prog os ⟨#[], #[], []⟩).forCall (fun _ _ => 0) ⟨#[], #[.slice none 0 0, .slice none 0 0, .slice none 0 0], []⟩).memory :=
  laidMet_of_run' 8 (by kernel_rfl) (by kernel_rfl)
theorem reads (os : Os) {H : Type} (enc : TypeId × Value → H) : ∃ places, DataW.whole enc Try.prog ((World.holding Try.prog os ⟨#[], #[], []⟩).forCall (fun _ _ => 0) ⟨#[], #[.slice none 0 0, .slice none 0 0, .slice none 0 0], []⟩).memory Try.f7.params.toList Rows.symBackSpec.vars false #[Value.slice none 0 0, .slice none 0 0, .slice none 0 0].toList 8 = some ([.nil, .nil, .nil], [], places) :=
  ⟨[], by kernel_rfl⟩

set_option maxRecDepth 100000 in
theorem lifted (os : Os) (started : os.Started) (H : Type) (enc : TypeId × Value → H) (F : Stop.Interp) :
    ReturnsInHanded {} Try.checked os 7 .any ((Rows.OpenSpec.upto Rows.symBackSpec).preRow enc Try.prog Try.f7 Rows.symBackUptoRow.domain false Rows.symBackUptoRow.laid) (((Rows.OpenSpec.upto Rows.symBackSpec).at F).post enc Try.prog Try.f7 false true false false) := by
  obtain ⟨places, hx⟩ := reads os enc
  refine returnsInHanded_of_row (C := Try.checked) (s := Rows.OpenSpec.upto Rows.symBackSpec) own started (by kernel_rfl) Try.func7
    (witness_row_at (enc := enc) (C := Try.checked) false (World.holding Try.prog os ⟨#[], #[], []⟩) #[.slice none 0 0, .slice none 0 0, .slice none 0 0] rfl (by kernel_rfl) (by kernel_rfl) (by kernel_rfl)
      (OpenSpec.preRow_of_cond 8 hx (by kernel_rfl) (fun k hk => by cases hk; kernel_rfl) (by kernel_rfl) (laid_met os))) ?_
  intro W base args ds gs before hval hW _ hcond hsz hL _ _
  exact contract H enc W base args ds gs before hval hW hL hsz (hcond _ rfl)

theorem said : Rows.SymBackUptoSaid :=
  OpenClaim.holds_of_cond 7 Try.f7 rfl rfl rfl rfl rfl rfl rfl ⟨rfl, rfl, rfl, rfl, rfl⟩ rfl rfl rfl rfl rfl (by kernel_rfl) Try.func7 (by kernel_rfl)
    (of_decide_eq_true (by kernel_rfl)) (by unfold Func.isWrapper; first | (rw [if_pos (by decide +kernel)]; kernel_rfl) | (rw [if_neg (by decide +kernel)]; exact ⟨rfl, rfl⟩))
    (fun os started H enc _ F => by rw [OpenClaim.pre_eq_preRow]; exact lifted os started H enc F)

end Go.Proofs.Ytmcioglidgbibaa.symBack
