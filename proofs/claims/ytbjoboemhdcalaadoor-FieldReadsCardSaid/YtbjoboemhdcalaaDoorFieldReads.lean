/- PROVED: the law FieldReads (the fields of any line, and the one of any key, are the document's, and the line stays) returns true and leaves its arguments as they were, for any byte slice and any string.
   Condition: the listed package variables (of strconv, math/bits) hold what the program's text lays (the card ties them to the text, by the translator's look). -/
import Derived.Test.YtbjoboemhdcalaaDoorFldVars
import Derived.Test.YtbjoboemhdcalaaDoorCopy
import Derived.ChangeMaps5
namespace Go.Proofs.YtbjoboemhdcalaaDoor.fieldReads
open Go.ChangeShapes Go.WideShapes Go.ChangeAt Go.RowKit Go.ChangeMaps
set_option maxRecDepth 100000

set_option maxHeartbeats 2000000 in
theorem walk (A : Option Addr) (n cap : Nat) (l : List UInt8) (key : List UInt8) (w : World)
    (hl : l.length = n) (hcap : n ≤ cap) (hn : n ≤ 140737488351232) (hb : Bytes w w.heap.size A l) (_hk : key.length ≤ 140737488351232) (hv : Vars w) :
    Calls Tryd.prog 5 #[.slice A n cap, .string ⟨key.toArray⟩] w fun e w' => e = .returned (.bool true) ∧ Below w.heap.size w w' := by
  have HA := Lib.hid (fldAlive_any w hv)
  have HV := Lib.hid (fun w' hb => hv.below (w' := w') hb)
  have C1 := Lib.hid fun w' B hb hB => copy_any A n cap B l w' hl (by omega) hb hB
  have C2 := fun A2 c2 w' hc hb hv => get_any A2 n c2 l key w' hl hc (by omega) hb hv
  have C3 := fun w' hb => refGet_any A n cap l key w' hl hcap (by omega) hb
  have C4 := fun A2 c2 w' hc hb hv => read_any A2 n c2 l w' hl hc (by omega) hb hv
  have C5 := fun w' hb => refRead_any A n cap l w' hl hcap (by omega) hb
  have C6 := Lib.hid fun A1 A2 c1 c2 B1 B2 w' h1 h2 => same_any A1 A2 n n c1 c2 B1 B2 l l w' hl hl h1 h2
  have hle := Fld.read_le l
  unfold AtPost at C2 C3
  unfold ReadPost at C4 C5
  generalize (Fld.at_ (Fld.read l) key).isSome = b at *
  generalize (Fld.at_ (Fld.read l) key).getD Fld.zero = f at *
  generalize Fld.read l = X at *
  obtain ⟨fk, fd, fi, ft⟩ := f
  simp only [fval] at C2 C3
  have hrun : ∀ W, _ := fun W => run_eq_field fk fk fd fd fi fi ft ft W
  rw [decide_eq_true rfl] at hrun
  have hgd := guard_field
  have C7 := Lib.hid fun A1 A2 c1 c2 w' h1 h2 => sameFields_any A1 X.length c1 X A2 X.length c2 X w' rfl rfl (by omega) (by omega) h1 h2
  have hbb : (b == b) = true := by simp
  replace C2 := Lib.hid C2
  replace C3 := Lib.hid C3
  replace C4 := Lib.hid C4
  replace C5 := Lib.hid C5
  clear hl hv hle
  go_enter Tryd.func5, Tryd.ntmps5
  go_wp2_with fail
  refine HA.out.mono ?_
  rintro e w1 ⟨rfl, hbel1⟩
  have hx1 := (hb.below hbel1).wide hbel1.size
  go_wp2_with fail
  refine (C1.out w1 _ hx1 (Nat.le_refl _)).mono ?_
  rintro e w2 ⟨A2, c2, rfl, ho2, hb2⟩
  have hx2 := (hx1.below hb2).wide hb2.size
  have hbel2 := hbel1.trans (hb2.mono hbel1.size)
  have hy2 := ho2.bytes
  have hc2 := ho2.cap
  clear hx1 C1 ho2
  go_wp2_with fail
  refine (C2.out A2 c2 w2 hc2 hy2 (HV.out _ hbel2)).mono ?_
  rintro e w3 ⟨rfl, hb3⟩
  have hb3a := hb3.alloc hb3.size (.cells #[.string ⟨fk.toArray⟩, .int .i64 fd, .int .i64 fi, .string ⟨ft.toArray⟩] 27)
  have hx3 := (hx2.below hb3a).wide hb3a.size
  have hy3 := (hy2.below hb3a).wide hb3a.size
  have hbel3 := hbel2.trans (hb3a.mono hbel2.size)
  have hbx3 := FBox.new w3 ⟨fk, fd, fi, ft⟩
  clear hx2 hy2 C2 hb3 hb3a
  go_wp2_with fail
  refine (C3.out _ hx3).mono ?_
  rintro e w4 ⟨rfl, hb4⟩
  have hb4a := hb4.alloc hb4.size (.cells #[.string ⟨fk.toArray⟩, .int .i64 fd, .int .i64 fi, .string ⟨ft.toArray⟩] 27)
  have hx4 := (hx3.below hb4a).wide hb4a.size
  have hy4 := (hy3.below hb4a).wide hb4a.size
  have hbel4 := hbel3.trans (hb4a.mono hbel3.size)
  have hbx4 := hbx3.below hb4a
  have hbz4 := FBox.new w4 ⟨fk, fd, fi, ft⟩
  clear hx3 hy3 C3 hb4 hb4a hbx3
  go_wp2_with fail
  refine (C4.out A2 c2 _ hc2 hy4 (HV.out _ hbel4)).mono ?_
  rintro e w5 ⟨A5, c5, rfl, ho5, hb5⟩
  have hx5 := (hx4.below hb5).wide hb5.size
  have hy5 := (hy4.below hb5).wide hb5.size
  have hbel5 := hbel4.trans (hb5.mono hbel4.size)
  have hbx5 := hbx4.below hb5
  have hbz5 := hbz4.below hb5
  have hf5 := ho5.flds
  clear hx4 hy4 C4 hb5 hbx4 hbz4 ho5
  go_wp2_with fail
  refine (C5.out _ hx5).mono ?_
  rintro e w6 ⟨A6, c6, rfl, ho6, hb6⟩
  have hx6 := (hx5.below hb6).wide hb6.size
  have hy6 := (hy5.below hb6).wide hb6.size
  have hbel6 := hbel5.trans (hb6.mono hbel5.size)
  have hbx6 := hbx5.below hb6
  have hbz6 := hbz5.below hb6
  have hf6 := hf5.below hb6
  have S1 := Lib.hid (C7.out A5 A6 c5 c6 w6 hf6 ho6.flds)
  clear hx5 hy5 C5 hb6 hbx5 hbz5 hf5 ho6 C7
  go_wp2_with fail
  refine S1.out.mono ?_
  rintro e w7 ⟨rfl, hd7⟩
  have hx7 := hx6.below (hd7.below _)
  have hy7 := hy6.below (hd7.below _)
  have hbel7 := hbel6.trans (hd7.below _)
  have hbx7 := hbx6.box_below hd7
  have hbz7 := hbz6.box_below hd7
  obtain ⟨k0, k1, k2, k3⟩ := hbx7.cell
  obtain ⟨z0, z1, z2, z3⟩ := hbz7.cell
  simp only at k0 k1 k2 k3 z0 z1 z2 z3
  have S2 := C6.out A2 A c2 cap _ _ w7 hy7 hx7
  rw [beq_self_eq_true] at S2
  replace S2 := Lib.hid S2
  clear S1 C6 hx6 hy6 hbx6 hbz6 hbx7 hbz7 hx7 hy7 hd7
  go_wp2_with fail
  refine S2.out.mono ?_
  rintro e w8 ⟨rfl, rfl⟩
  go_wp2
  go_ret
  exact ⟨rfl, hbel7⟩

/-- from the walk to the post of the row -/
theorem contract (H : Type) (enc : TypeId × Value → H) (W : World) (base : Nat) (args : Array Value) (ds gs : List (DataW H)) (before : List MemPlace)
    (hval : ∀ (j : Nat) t v, Tryd.f5.params[j]? = some t → args[j]? = some v → Value.okWide Tryd.prog W .any base t v)
    (hW : DataW.Whole enc Tryd.prog Tryd.f5.params.toList Rows.fieldReadsSpec.vars false W args.toList ds gs before) (hL : laidMetH Tryd.prog Rows.fieldReadsRow.laid W)
    (hsz0 : (DataW.weightsEach Tryd.prog (Tryd.f5.params.toList ++ Rows.fieldReadsSpec.plain.varTypes Tryd.prog) (ds ++ gs)).all (· ≤ reachBytes) = true) :
    Calls Tryd.prog 5 args W fun e W' => ∃ v, e = .returned v ∧ Rows.fieldReadsSpec.post enc Tryd.prog Tryd.f5 false true false false W args v W' := by
  have hW' := hW
  obtain ⟨p, q, hA0, hV, rfl, hfz, hnd⟩ := hW
  have hA : DataW.TrodAll enc Tryd.prog W 0 (fun _ => true) true Tryd.f5.params.toList args.toList ds p := hA0
  rw [Tryd.params5] at hA hval hsz0
  obtain ⟨v0, vs0, d0, ds0, p0, q0, hargs, rfl, rfl, h0, r0⟩ := trodAll_cons hA
  obtain ⟨v1, vs1, d1, ds1, p1, q1, rfl, rfl, rfl, h1, r1⟩ := trodAll_cons r0
  obtain ⟨rfl, rfl, rfl⟩ := trodAll_nil r1
  obtain rfl : args = #[v0, v1] := by cases args; simp_all
  obtain ⟨rfl, rfl⟩ := trodVars_none hV
  obtain ⟨a0, len0, cap0, rfl⟩ := okWide_slice Tryd.underlying31 (hval 0 31 v0 rfl rfl)
  have lt0 : ∀ x ∈ p0, x.block < W.heap.size := by obtain ⟨m, hm⟩ := h0; exact DataW.trod_lt m _ _ _ hm
  obtain ⟨l0, e0, ec0, b0, k0⟩ := open_bytes h0
  have reach0 := reach_bytes hsz0 (j := 0) rfl rfl k0
  obtain ⟨⟨⟨l1⟩⟩, rfl, rfl, rfl, z1⟩ := open_string Tryd.underlying9 (hval 1 9 v1 rfl rfl) h1
  have k1 : ∃ b : List UInt8, (DataW.lit (.string l1) : DataW H) = .lit (.string b) ∧ b.length = l1.length := ⟨l1, rfl, rfl⟩
  have reach1 : l1.length ≤ 140737488351232 := sized_string hsz0 (j := 1) (bytes := l1) rfl rfl
  clear hA0
  refine (walk a0 len0 cap0 l0 l1 W e0 ec0 reach0 b0 reach1 (vars hL)).mono fun e W' ⟨he, bel⟩ => ?_
  subst he
  exact ⟨_, rfl, _, _, _, [], _, [], hW', trodAll_mk1 (shut_bool Tryd.underlying4 _), (trodAll_cons_mk (Below.trod laidOut (by kernel_rfl) (of_decide_eq_true (by kernel_rfl)) h0 bel lt0) (trodAll_cons_mk (shut_string Tryd.underlying9 z1) trodAll_mk0)), rfl, bel.frame _, fun h => by cases h⟩

theorem laid_met (os : Os) : laidMet Tryd.prog Rows.fieldReadsRow.laid ((laidWorld os).forCall (fun _ _ => 0) ⟨#[], #[.slice none 0 0, .string ⟨#[]⟩], []⟩).memory :=
  laidMet_of_run' 8 (by kernel_rfl) (by kernel_rfl)
theorem reads (os : Os) {H : Type} (enc : TypeId × Value → H) : ∃ places, DataW.whole enc Tryd.prog ((laidWorld os).forCall (fun _ _ => 0) ⟨#[], #[.slice none 0 0, .string ⟨#[]⟩], []⟩).memory Tryd.f5.params.toList Rows.fieldReadsSpec.vars false #[Value.slice none 0 0, .string ⟨#[]⟩].toList 8 = some ([.nil, .lit (.string [])], [], places) :=
  ⟨[], by kernel_rfl⟩

set_option maxRecDepth 100000 in
theorem lifted (os : Os) (started : os.Started) (H : Type) (enc : TypeId × Value → H) (F : Stop.Interp) :
    ReturnsInHanded {} Tryd.checked os 5 .any ((OpenSpec.ofChange Rows.fieldReadsSpec).preRow enc Tryd.prog Tryd.f5 Rows.fieldReadsRow.domain false Rows.fieldReadsRow.laid) (((OpenSpec.ofChange Rows.fieldReadsSpec).at F).post enc Tryd.prog Tryd.f5 false true false false) := by
  obtain ⟨places, hx⟩ := reads os enc
  refine returnsInHanded_of_row (C := Tryd.checked) (s := OpenSpec.ofChange Rows.fieldReadsSpec) own started (by kernel_rfl) Tryd.func5
    (witness_row_at (enc := enc) (C := Tryd.checked) false (laidWorld os) #[.slice none 0 0, .string ⟨#[]⟩] rfl (by kernel_rfl) (by kernel_rfl) (by kernel_rfl)
      (OpenSpec.preRow_of_cond 8 hx (by kernel_rfl) (fun k hk => by cases hk) (by kernel_rfl) (laid_met os))) ?_
  intro W base args ds gs before hval hW _ _ hsz hL _ _
  exact contract H enc W base args ds gs before hval hW hL hsz

theorem said : Rows.FieldReadsSaid :=
  OpenClaim.holds_of_cond 5 Tryd.f5 rfl rfl rfl rfl rfl rfl rfl ⟨rfl, rfl, rfl, rfl, rfl⟩ rfl rfl rfl rfl rfl (by kernel_rfl) Tryd.func5 (by kernel_rfl)
    (of_decide_eq_true (by kernel_rfl)) (by unfold Func.isWrapper; first | (rw [if_pos (by decide +kernel)]; kernel_rfl) | (rw [if_neg (by decide +kernel)]; exact ⟨rfl, rfl⟩))
    (fun os started H enc _ F => by rw [OpenClaim.pre_eq_preRow]; exact lifted os started H enc F)

theorem plain (f : FuncId) (fn : Func) (hf : Tryd.pinned.checked.prog.funcNamed "dragnet/dragnetlaw08.FieldReads" = some f) (hfn : Tryd.pinned.checked.prog.funcs[f]? = some fn) :
    true = Tryd.pinned.checked.prog.looks [] ∧ ∀ (j : Nat) t, fn.params[j]? = some t → Tryd.pinned.checked.prog.wantsStandIn t = false := by
  obtain rfl : f = 5 := Option.some.inj ((show Tryd.prog.funcNamed "dragnet/dragnetlaw08.FieldReads" = some 5 by kernel_rfl).symm.trans hf) |>.symm
  obtain rfl : fn = Tryd.f5 := (Option.some.inj (Tryd.func5.symm.trans hfn)).symm
  refine ⟨by kernel_rfl, fun j t ht => ?_⟩
  rw [Tryd.params5] at ht
  have hm : t = 31 ∨ t = 9 := by simpa using Array.mem_of_getElem? ht
  rcases hm with rfl | rfl
  · exact (show Tryd.prog.wantsStandIn 31 = false by kernel_rfl)
  · exact (show Tryd.prog.wantsStandIn 9 = false by kernel_rfl)

/-- THE CARD -/
theorem card : Rows.FieldReadsCardSaid :=
  Claim7.holds_tied_plain_at .later [] _ _ _ _ said (fun _ h => by cases h) (by kernel_rfl) (fun _ h => by cases h) fieldReads_row_tie rfl ⟨rfl, rfl⟩ (by kernel_rfl) rfl plain (by kernel_rfl)
end Go.Proofs.YtbjoboemhdcalaaDoor.fieldReads
