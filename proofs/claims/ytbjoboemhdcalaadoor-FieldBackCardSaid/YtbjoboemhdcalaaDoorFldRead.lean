/- field.Read: the fields of a line. -/
import Derived.Test.YtbjoboemhdcalaaDoorFldWords
import Derived.Test.YtbjoboemhdcalaaDoorFldHas
import Derived.Test.YtbjoboemhdcalaaDoorFldOf
namespace Go.Proofs.YtbjoboemhdcalaaDoor
open Go.RowKit Go.Shelf
set_option maxRecDepth 100000
attribute [local go_sem] Oper.semAt_some

theorem wpListIn_append_field {F : Fence} {k : Nat} {w : World} {ops : Array Oper} {rest : List Oper} {o : Oper} {a : Act} {Q : Exit → Act → World → Prop} (hgd : o.guard = none) (s x : Operand)
    (ho : o.op = .call { callee := .builtin .append, args := #[s, x], argTypes := #[36, 36] })
    (base : Nat) (A : Option Addr) (n c : Nat) (fs : List Fld.F) (hs : a.eval s = .slice A n c) (hown : FOwn w base A n c fs)
    (g2 : Nat) (f : Fld.F) (hx : a.eval x = .slice (some ⟨g2, 0, none⟩) 1 1) (h0 : w.cell? ⟨g2, 0, none⟩ = some (.string ⟨f.key.toArray⟩)) (h1 : w.cell? ⟨g2, 1, none⟩ = some (.int .i64 f.kind)) (h2 : w.cell? ⟨g2, 2, none⟩ = some (.int .i64 f.int)) (h3 : w.cell? ⟨g2, 3, none⟩ = some (.string ⟨f.text.toArray⟩)) (hbytes : n < 1000) (hbase : base ≤ w.heap.size)
    (h : ∀ A' c' w', FOwn w' base A' (n + 1) c' (fs ++ [f]) → w.grownBy w' (blk A) → wpListIn F k Tryd.prog ops Q rest (a.put o.dst (.slice A' (n + 1) c')) w') :
    wpListIn F k Tryd.prog ops Q (o :: rest) a w := by
  obtain ⟨A', c', w', hrun, h2, h3⟩ := run_append_field w base o.type A n c fs hown g2 f h0 h1 h2 h3 hbytes hbase
  refine wpListIn_plain hgd fun K hK' => ?_
  unfold Oper.wpIn
  refine ⟨by simp [Oper.about, ho, resolve, Target.leads, Sem.run_pure], ?_⟩
  rw [Oper.semAt_plain F _ _ (by rw [ho]; intro c hc; cases hc)]
  simp only [execOp, ho, resolve, invoke, builtin, Sem.run_bind, Sem.run_pure, Result.andThen_ok, List.map_toArray, List.map_cons, List.map_nil, hs, hx, hrun]
  exact hK' _ _ (h A' c' w' h2 h3)

theorem fown_box {w : World} {base B n c : Nat} {t : TypeId} {v : Value} {A : Option Addr} {fs : List Fld.F} (h : FOwn w base A n c fs) (hb : Boxed w B t v) (ht : t ≠ 27) : some B ≠ blk A := by
  have := hb.not_row ht h
  rwa [ownBlock_eq] at this
theorem fown_cells {w : World} {base n c k : Nat} {A : Option Addr} {fs : List Fld.F} {o : Obj} (h : FOwn w base A n c fs) (hk : blk A = some k) (ho : w.heap[k]? = some o) : o.isCells = true := by
  rcases h.2 with ⟨hv, _⟩ | ⟨g, cap, cur, hv, _, hg, _⟩
  · injection hv with h1; subst h1; cases hk
  · injection hv with h1
    subst h1
    have e' : g = k := by simpa [blk] using hk
    subst e'
    rw [hg] at ho
    cases ho
    rfl
theorem FOwn.set {W : World} {base B n c i : Nat} {t : TypeId} {v : Value} {A : Option Addr} {fs : List Fld.F} (h : FOwn W base A n c fs) (hb : Boxed W B t v) (ht : t ≠ 27) (u : Value) : FOwn (W.setCell ⟨B, i, none⟩ u) base A n c fs :=
  h.kept (Lib.grownBy_setCell W B i u) (.inr fun e => fown_box h hb ht e.symm)

theorem boxed_below {W W' : World} {B : Nat} {t : TypeId} {v : Value} (h : Boxed W B t v) (hb : Below W.heap.size W W') : Boxed W' B t v := (hb.block B h.lt).trans h
/-- What Read answers: new fields, of one's own. -/
def ReadPost (fs : List Fld.F) (w : World) (e : Ending) (w' : World) : Prop :=
  ∃ A c, e = .returned (.slice A fs.length c) ∧ FOwn w' w.heap.size A fs.length c fs ∧ Below w.heap.size w w'

/-- between two words: the two variables, the fields so far -/
def ReadAt (w : World) (A : Option Addr) (n cap : Nat) (fs : List Fld.F) (W : World) : Prop :=
  ∃ (A2 : Option Addr) (c : Nat), Boxed W w.heap.size 36 (.slice A2 fs.length c) ∧ Boxed W (w.heap.size + 1) 31 (.slice A n cap) ∧ FOwn W w.heap.size A2 fs.length c fs ∧ Below w.heap.size w W
theorem ReadAt.kept {w : World} {A : Option Addr} {n cap : Nat} {fs : List Fld.F} {W W' : World} {row : Option Nat} (h : ReadAt w A n cap fs W) (hg : W.grownBy W' row) (hr : ∀ r, row = some r → w.heap.size ≤ r ∧ ∃ o : Obj, W.heap[r]? = some o ∧ o.isCells = false) : ReadAt w A n cap fs W' := by
  obtain ⟨A2, c, h1, h2, h3, h4⟩ := h
  have hnb : ∀ {B t v}, Boxed W B t v → some B ≠ row := fun {B t v} hb e => by
    obtain ⟨_, o, ho, hc⟩ := hr B e.symm
    rw [show W.heap[B]? = _ from hb] at ho
    cases ho
    cases hc
  refine ⟨A2, c, h1.kept hg (hnb h1), h2.kept hg (hnb h2), h3.kept hg ?_, h4.grown hg h4.size (fun k e => (hr k e).1)⟩
  cases row with
  | none => cases hA : blk A2 <;> simp
  | some r =>
    refine .inr fun e => ?_
    obtain ⟨_, o, ho, hc⟩ := hr r rfl
    rw [fown_cells h3 e ho] at hc
    cases hc
theorem ReadAt.below {w : World} {A : Option Addr} {n cap : Nat} {fs : List Fld.F} {W W' : World} (h : ReadAt w A n cap fs W) (hb : Below W.heap.size W W') : ReadAt w A n cap fs W' :=
  h.kept (row := none) ⟨hb.os, hb.tape, hb.output, hb.size, fun k hk _ => hb.block k hk⟩ (by simp)

/-- behind k words -/
def ReadInv (w : World) (A : Option Addr) (n cap : Nat) (l : List UInt8) (k : Nat) (W : World) : Prop :=
  ∃ fs, fs = Fld.steps [] ((Fld.words l).take k) ∧ fs.length < 16 ∧ ReadAt w A n cap fs W
/-- sixteen fields -/
def ReadOut (w : World) (A : Option Addr) (n cap : Nat) (l : List UInt8) (W : World) : Prop :=
  ∃ fs, fs = Fld.read l ∧ ReadAt w A n cap fs W
theorem readInv_own (w : World) (A : Option Addr) (n cap : Nat) (l : List UInt8) (B : Nat) (hB : w.heap.size ≤ B) : OwnFrom B (ReadInv w A n cap l) := by
  rintro m W W' row ⟨fs, h1, h2, h3⟩ hg hr
  exact ⟨fs, h1, h2, h3.kept hg (fun r e => ⟨Nat.le_trans hB (hr r e).1, (hr r e).2⟩)⟩
theorem readOut_own (w : World) (A : Option Addr) (n cap : Nat) (l : List UInt8) (B : Nat) (hB : w.heap.size ≤ B) : OwnFrom B (fun (_ : Unit) => ReadOut w A n cap l) := by
  rintro _ W W' row ⟨fs, h1, h3⟩ hg hr
  exact ⟨fs, h1, h3.kept hg (fun r e => ⟨Nat.le_trans hB (hr r e).1, (hr r e).2⟩)⟩

theorem Fld.words_length (l : List UInt8) : (Fld.words l).length = (Fld.spans 0 0 l).length := by unfold Fld.words; rw [List.length_map]
theorem Fld.words_get (l : List UInt8) (k : Nat) (h : k < (Fld.spans 0 0 l).length) : (Fld.words l)[k]'(by rw [Fld.words_length]; exact h) = Fld.piece l (Fld.spans 0 0 l)[k].1 (Fld.spans 0 0 l)[k].2 := by unfold Fld.words; rw [List.getElem_map]
theorem Fld.steps_next (l : List UInt8) (k : Nat) (h : k < (Fld.spans 0 0 l).length) : Fld.steps [] ((Fld.words l).take (k + 1)) = Fld.step (Fld.steps [] ((Fld.words l).take k)) (Fld.piece l (Fld.spans 0 0 l)[k].1 (Fld.spans 0 0 l)[k].2) := by
  rw [List.take_succ_eq_append_getElem (by rw [Fld.words_length]; exact h), ← Fld.words_get l k h]
  unfold Fld.steps
  rw [List.foldl_append]
  rfl
theorem Fld.steps_stop (l : List UInt8) (k : Nat) (h : 16 ≤ (Fld.steps [] ((Fld.words l).take k)).length) : Fld.read l = Fld.steps [] ((Fld.words l).take k) := by
  have e : Fld.read l = Fld.steps (Fld.steps [] ((Fld.words l).take k)) ((Fld.words l).drop k) := by
    unfold Fld.read Fld.steps
    rw [← List.foldl_append, List.take_append_drop]
  rw [e, Fld.steps_full _ h]

theorem wpIn_scope_wide {n : Nat} {P : Program} {Q : Exit → Act → World → Prop} {a : Act} {w : World} {c : Code} (h : c.wpIn Fence.wide n P (Exit.noGoto Q) a w) : (Code.scope c).wpIn Fence.wide n P Q a w :=
  wpIn_wide.2 (wp_scope_straight (wpIn_wide.1 h))

set_option maxHeartbeats 4000000 in
theorem read_any (A : Option Addr) (n cap : Nat) (l : List UInt8) (w : World) (hl : l.length = n) (hcap : n ≤ cap) (hn : n ≤ 140737488355328) (hb : Bytes w w.heap.size A l) (hv : Vars w) :
    Calls Tryd.prog 20 #[.slice A n cap] w (ReadPost (Fld.read l) w) := by
  refine (callsIn_wide (n := 3)).1 ?_
  refine callsIn_of_wp_marks Tryd.func20 rfl trivial ?_ rfl
  simp only [Tryd.ntmps20, List.size_toArray, List.length_cons, List.length_nil, Nat.reduceAdd, Nat.reduceSub, Array.replicate_succ, Array.replicate_zero, List.push_toArray, List.append_toArray, List.nil_append, List.cons_append]
  have HW := Lib.hid (words_any A n cap (w.alloc (.cells #[.slice none 0 0] 36)))
  gi_wp2
  refine wpIn_scope_wide ?_
  gi_wp2
  apply wpIn_label
  have hsz1 : (w.alloc (.cells #[.slice none 0 0] 36)).heap.size = w.heap.size + 1 := by simp
  have hx1 : Boxed ((w.alloc (.cells #[.slice none 0 0] 36)).alloc (.cells #[.slice A n cap] 31)) w.heap.size 36 (.slice none 0 0) := (Boxed.new w _ _).alloc _
  have hx2 : Boxed ((w.alloc (.cells #[.slice none 0 0] 36)).alloc (.cells #[.slice A n cap] 31)) (w.heap.size + 1) 31 (.slice A n cap) := by rw [← hsz1]; exact Boxed.new _ _ _
  have hbel0 : Below w.heap.size w ((w.alloc (.cells #[.slice none 0 0] 36)).alloc (.cells #[.slice A n cap] 31)) := ((Below.refl _ w).alloc (Nat.le_refl _) _).alloc (by simp) _
  have hinv0 : ReadInv w A n cap l 0 ((w.alloc (.cells #[.slice none 0 0] 36)).alloc (.cells #[.slice A n cap] 31)) := ⟨[], rfl, by simp, none, 0, hx1, hx2, FOwn.nil _ _, hbel0⟩
  have hszW : w.heap.size ≤ ((w.alloc (.cells #[.slice none 0 0] 36)).alloc (.cells #[.slice A n cap] 31)).heap.size := hbel0.size
  clear hx1 hx2 hbel0 hsz1
  gi_wp2_with (refine ⟨trivial, ?_⟩; gi_at_call 29; refine (callsIn_wide.2 HW.out).mono ?_; rintro e w1 ⟨rfl, rfl⟩)
  clear HW
  generalize (w.alloc (.cells #[.slice none 0 0] 36)).alloc (.cells #[.slice A n cap] 31) = W0 at *
  refine wpIn_seq (gf := 39) (lb := #[.pointer (some ⟨w.heap.size + 1, 0, none⟩)]) (id := 0) (vs := (Fld.spans 0 0 l).map (wval A cap)) (S := Sees A n cap (w.heap.size + 1) w.heap.size l) rfl (enters_of Tryd.func39 (by kernel_rfl) rfl)
    (yields_words 2 A n cap (w.heap.size + 1) w.heap.size l hl hcap hn) rfl (ReadInv w A n cap l) (ReadOut w A n cap l) (readInv_own _ _ _ _ _ _ hszW) (readOut_own _ _ _ _ _ _ hszW) ?sees hinv0
    (fun v => { tmps := #[.slice A n cap, undef, .slice none 0 0, .pointer (some ⟨w.heap.size, 0, none⟩), v, undef, undef, undef, .slice A n cap, .func (.func 39) #[] #[.pointer (some ⟨w.heap.size + 1, 0, none⟩)], v, undef, undef, undef, undef, undef, undef, undef, undef, undef, undef, undef, undef, undef, undef, undef, undef, undef, undef, undef], defers := [] }) ?assign ?body ?done ?stop
  case sees =>
    rintro k W ⟨fs, _, _, A2, c, h1, h2, h3, h4⟩
    exact ⟨h2.cell, hb.below h4⟩
  case assign =>
    intro l' v W K hK
    gi_wp2
    exact hK
  case stop =>
    rintro D W hD ⟨fs, rfl, A2, c, h1, h2, h3, h4⟩ hK
    have c1 := h1.cell
    gi_wp2
    refine ⟨by simp, .inl ⟨_, _, rfl, run_takeDeferred hK, ?_⟩⟩
    refine ⟨.slice A2 (Fld.read l).length c, ?_, A2, c, rfl, ?_, ?_⟩
    · simp [results, Tryd.f20, go_sem]
    · refine h3.kept (grownBy_putObj' W D (.deferred none)) ?_
      cases hA : blk A2 with
      | none => exact .inl rfl
      | some q =>
        refine .inr fun e => ?_
        cases e
        have := fown_cells h3 hA hK
        cases this
    · exact h4.grown (grownBy_putObj' W D (.deferred none)) h4.size (fun k e => by cases e; omega)
  case done =>
    rintro D W hD ⟨fs, hfs, _, A2, c, h1, h2, h3, h4⟩ hK
    rw [List.length_map, List.take_of_length_le (by rw [Fld.words_length]; exact Nat.le_refl _)] at hfs
    obtain rfl : fs = Fld.read l := hfs
    have c1 := h1.cell
    gi_wp2
    refine ⟨by simp, .inl ⟨_, _, rfl, run_takeDeferred hK, ?_⟩⟩
    refine ⟨.slice A2 (Fld.read l).length c, ?_, A2, c, rfl, ?_, ?_⟩
    · simp [results, Tryd.f20, go_sem]
    · refine h3.kept (grownBy_putObj' W D (.deferred none)) ?_
      cases hA : blk A2 with
      | none => exact .inl rfl
      | some q =>
        refine .inr fun e => ?_
        cases e
        have := fown_cells h3 hA hK
        cases this
    · exact h4.grown (grownBy_putObj' W D (.deferred none)) h4.size (fun k e => by cases e; omega)
  case body =>
    rintro l' k W hk ⟨fs, hfs, h16, A2, c, h1, h2, h3, h4⟩
    have hk' : k < (Fld.spans 0 0 l).length := by simpa using hk
    rw [List.getElem_map]
    have hnext := Fld.steps_next l k hk'
    rw [← hfs] at hnext
    have hp := Fld.spans_mem l 0 0 (Nat.le_refl _) _ (List.getElem_mem hk')
    generalize (Fld.spans 0 0 l)[k] = p at *
    obtain ⟨s, e⟩ := p
    simp only at hnext hp
    rw [Nat.zero_add] at hp
    obtain ⟨ad, hA⟩ : ∃ ad, A = some ad := by
      obtain ⟨ad, hA, _⟩ := hb (fun e => by subst e; simp at hp; omega)
      exact ⟨ad, hA⟩
    have hwl : (Fld.piece l s e).length = e - s := Fld.piece_length (by omega)
    have hbw : Bytes W w.heap.size (cutAt A cap s) (Fld.piece l s e) := ((hb.below h4).cut (k := s) (cap := cap) (by omega) (by omega)).take (e - s)
    have hcut : cutAt A cap s = some (ad.add s) := by rw [hA]; unfold cutAt; rw [if_neg (by omega)]; rfl
    unfold wval
    simp only
    rw [hcut] at hbw ⊢
    have HF := Lib.hid (fieldOf_any (ad.add s) (e - s) (cap - s) w.heap.size (Fld.piece l s e) W hwl (by omega) (by omega) hbw h4.size (fun e' => by rw [e'] at hwl; simp at hwl; omega) (hv.below h4))
    generalize ad.add s = ad2 at *
    generalize Fld.piece l s e = wl at *
    have Hp := Lib.hid hp
    have HA := Lib.hid hA
    have Hfs := Lib.hid hfs
    have Hnext := Lib.hid hnext
    clear hp hA hfs hnext hwl hbw hcut
    generalize e - s = m at *
    generalize cap - s = cap2 at *
    unfold AtPost at HF
    rcases hone : Fld.one wl with _ | f
    · rw [hone] at HF
      simp only [Option.getD_none, Option.isSome_none, fval, Fld.zero] at HF
      have HN := Lib.hid (show fs = Fld.steps [] ((Fld.words l).take (k + 1)) by rw [Hnext.out]; unfold Fld.step; rw [hone])
      clear hone
      gi_wp2_with (refine ⟨trivial, ?_⟩; gi_at_call 30; refine (CallsIn.inRound l' (callsIn_wide.2 HF.out)).mono ?_; rintro e w3 ⟨rfl, hb3⟩)
      have hb4 := hb3.alloc hb3.size (.cells #[.string ⟨#[]⟩, .int .i64 0, .int .i64 0, .string ⟨#[]⟩] 27)
      exact ⟨KeepsOthers.below hb4, fs, HN.out, h16, ReadAt.below ⟨A2, c, h1, h2, h3, h4⟩ hb4⟩
    · rw [hone] at HF
      obtain ⟨fk, fd, fi, ft⟩ := f
      simp only [Option.getD_some, Option.isSome_some, fval] at HF
      have hmf : ∀ (fn : Fn) (first cap : Array Value) (w : World), (Instr.makeFunc fn first cap).run Tryd.prog w = .ok (.func fn first cap) w := fun _ _ _ _ => rfl
      have hst : Fld.step fs wl = if Fld.has fs fk = true ∨ 16 ≤ fs.length then fs else fs ++ [⟨fk, fd, fi, ft⟩] := by unfold Fld.step; rw [hone]
      rw [hst] at Hnext
      clear hone hst
      rcases hh : Fld.has fs fk with _ | _
      · have HN := Lib.hid (show fs ++ [⟨fk, fd, fi, ft⟩] = Fld.steps [] ((Fld.words l).take (k + 1)) by rw [Hnext.out, if_neg (by rw [hh]; simp; omega)])
        clear Hnext
        have HC : ∀ (W' : World) (g : Nat), Flds W' A2 fs → FBox W' g ⟨fk, fd, fi, ft⟩ → Calls Tryd.prog 32 #[.slice A2 fs.length c, .func (.func 31) #[] #[.pointer (some ⟨g, 0, none⟩)]] W' fun e w' => e = .returned (.bool false) ∧ Below W'.heap.size W' w' := fun W' g hf hbx => by
          have := has_any A2 fs.length c fs ⟨fk, fd, fi, ft⟩ g W' rfl (by omega) hf hbx
          rw [hh] at this
          exact this
        have HC := Lib.hid HC
        clear hh
        by_cases h15 : fs.length = 15
        · have t16 : ((fs.length : Int) + 1 == 16) = true := by rw [h15]; rfl
          have t16' : (fs.length : Int) + 1 = 16 := by rw [h15]; rfl
          have H15 := Lib.hid h15; clear h15
          gi_wp2_with (first | (refine ⟨trivial, ?_⟩; gi_at_call 30; refine (CallsIn.inRound l' (callsIn_wide.2 HF.out)).mono ?_; rintro e w3 ⟨rfl, hb3⟩; have hb4 := hb3.alloc hb3.size (.cells #[.string ⟨fk.toArray⟩, .int .i64 fd, .int .i64 fi, .string ⟨ft.toArray⟩] 27); have hx4 := boxed_below h1 hb4; have hc4 := hx4.cell; have hf4 := (h3.below hb4).flds; have hbx4 := FBox.new w3 ⟨fk, fd, fi, ft⟩) | (refine ⟨trivial, ?_⟩; gi_at_call 32; refine (CallsIn.inRound l' (callsIn_wide.2 (HC.out _ _ hf4 hbx4))).mono ?_; rintro e w5 ⟨rfl, hb5⟩; have hb6 := hb4.trans (hb5.mono hb4.size); have hc6 := (boxed_below h1 hb6).cell; have hbx6 := hbx4.below hb5; have k0 := hbx6.cell.1; have k1 := hbx6.cell.2.1; have k2 := hbx6.cell.2.2.1; have k3 := hbx6.cell.2.2.2; have hb7 := hb6.alloc hb6.size (.cells #[.string ⟨fk.toArray⟩, .int .i64 fd, .int .i64 fi, .string ⟨ft.toArray⟩] 27); have hx7 := boxed_below h1 hb7; have hy7 := boxed_below h2 hb7; have ho7 := h3.below hb7; have hbx7 := FBox.new w5 ⟨fk, fd, fi, ft⟩; have hbel7 := h4.trans (hb7.mono h4.size)) | (gi_at_builtin; refine wpListIn_append_field rfl (.tmp 22) (.tmp 24) rfl w.heap.size A2 fs.length c fs rfl ho7 w5.heap.size ⟨fk, fd, fi, ft⟩ rfl hbx7.cell.1 hbx7.cell.2.1 hbx7.cell.2.2.1 hbx7.cell.2.2.2 (by omega) hbel7.size ?_; intro A5 c5 w8 ho8 hg8; have hx8 := hx7.kept hg8 (fown_box ho7 hx7 (by decide)); have hy8 := hy7.kept hg8 (fown_box ho7 hy7 (by decide)); have hc8 := hx8.cell; have hz8 := hx8.frozen))
          have hk9 := ((KeepsOthers.below hb7).trans (KeepsOthers.of_grownBy hg8 (fun j o hj hjo => fown_cells ho7 hj hjo))).trans (KeepsOthers.setCell w8 ⟨w.heap.size, 0, none⟩ (.slice A5 (fs.length + 1) c5))
          have hbel9 := (hbel7.grown hg8 hbel7.size (fun k hk => (ho7.lt hk).1)).setCell (p := ⟨w.heap.size, 0, none⟩) (Nat.le_refl _) (.slice A5 (fs.length + 1) c5)
          have hlen : fs.length + 1 = (fs ++ [(⟨fk, fd, fi, ft⟩ : Fld.F)]).length := by simp
          have hat : ReadAt w A n cap (fs ++ [⟨fk, fd, fi, ft⟩]) (w8.setCell ⟨w.heap.size, 0, none⟩ (.slice A5 (fs.length + 1) c5)) :=
            ⟨A5, c5, by rw [← hlen]; exact hx8.set _, hy8.other (by omega) _, by rw [← hlen]; exact ho8.set hx8 (by decide) _, hbel9⟩
          exact ⟨rfl, hk9, _, by rw [HN.out]; exact (Fld.steps_stop l (k + 1) (by rw [← HN.out, ← hlen]; have := H15.out; omega)).symm, hat⟩
        · have t16 : ((fs.length : Int) + 1 == 16) = false := by simp; omega
          have t16' : ¬ (fs.length : Int) + 1 = 16 := by omega
          gi_wp2_with (first | (refine ⟨trivial, ?_⟩; gi_at_call 30; refine (CallsIn.inRound l' (callsIn_wide.2 HF.out)).mono ?_; rintro e w3 ⟨rfl, hb3⟩; have hb4 := hb3.alloc hb3.size (.cells #[.string ⟨fk.toArray⟩, .int .i64 fd, .int .i64 fi, .string ⟨ft.toArray⟩] 27); have hx4 := boxed_below h1 hb4; have hc4 := hx4.cell; have hf4 := (h3.below hb4).flds; have hbx4 := FBox.new w3 ⟨fk, fd, fi, ft⟩) | (refine ⟨trivial, ?_⟩; gi_at_call 32; refine (CallsIn.inRound l' (callsIn_wide.2 (HC.out _ _ hf4 hbx4))).mono ?_; rintro e w5 ⟨rfl, hb5⟩; have hb6 := hb4.trans (hb5.mono hb4.size); have hc6 := (boxed_below h1 hb6).cell; have hbx6 := hbx4.below hb5; have k0 := hbx6.cell.1; have k1 := hbx6.cell.2.1; have k2 := hbx6.cell.2.2.1; have k3 := hbx6.cell.2.2.2; have hb7 := hb6.alloc hb6.size (.cells #[.string ⟨fk.toArray⟩, .int .i64 fd, .int .i64 fi, .string ⟨ft.toArray⟩] 27); have hx7 := boxed_below h1 hb7; have hy7 := boxed_below h2 hb7; have ho7 := h3.below hb7; have hbx7 := FBox.new w5 ⟨fk, fd, fi, ft⟩; have hbel7 := h4.trans (hb7.mono h4.size)) | (gi_at_builtin; refine wpListIn_append_field rfl (.tmp 22) (.tmp 24) rfl w.heap.size A2 fs.length c fs rfl ho7 w5.heap.size ⟨fk, fd, fi, ft⟩ rfl hbx7.cell.1 hbx7.cell.2.1 hbx7.cell.2.2.1 hbx7.cell.2.2.2 (by omega) hbel7.size ?_; intro A5 c5 w8 ho8 hg8; have hx8 := hx7.kept hg8 (fown_box ho7 hx7 (by decide)); have hy8 := hy7.kept hg8 (fown_box ho7 hy7 (by decide)); have hc8 := hx8.cell; have hz8 := hx8.frozen))
          have hk9 := ((KeepsOthers.below hb7).trans (KeepsOthers.of_grownBy hg8 (fun j o hj hjo => fown_cells ho7 hj hjo))).trans (KeepsOthers.setCell w8 ⟨w.heap.size, 0, none⟩ (.slice A5 (fs.length + 1) c5))
          have hbel9 := (hbel7.grown hg8 hbel7.size (fun k hk => (ho7.lt hk).1)).setCell (p := ⟨w.heap.size, 0, none⟩) (Nat.le_refl _) (.slice A5 (fs.length + 1) c5)
          have hlen : fs.length + 1 = (fs ++ [(⟨fk, fd, fi, ft⟩ : Fld.F)]).length := by simp
          have hat : ReadAt w A n cap (fs ++ [⟨fk, fd, fi, ft⟩]) (w8.setCell ⟨w.heap.size, 0, none⟩ (.slice A5 (fs.length + 1) c5)) :=
            ⟨A5, c5, by rw [← hlen]; exact hx8.set _, hy8.other (by omega) _, by rw [← hlen]; exact ho8.set hx8 (by decide) _, hbel9⟩
          exact ⟨hk9, _, HN.out, by rw [← hlen]; omega, hat⟩
      · have HN := Lib.hid (show fs = Fld.steps [] ((Fld.words l).take (k + 1)) by rw [Hnext.out, if_pos (.inl hh)])
        clear Hnext
        have HC : ∀ (W' : World) (g : Nat), Flds W' A2 fs → FBox W' g ⟨fk, fd, fi, ft⟩ → Calls Tryd.prog 32 #[.slice A2 fs.length c, .func (.func 31) #[] #[.pointer (some ⟨g, 0, none⟩)]] W' fun e w' => e = .returned (.bool true) ∧ Below W'.heap.size W' w' := fun W' g hf hbx => by
          have := has_any A2 fs.length c fs ⟨fk, fd, fi, ft⟩ g W' rfl (by omega) hf hbx
          rw [hh] at this
          exact this
        have HC := Lib.hid HC
        clear hh
        gi_wp2_with (first | (refine ⟨trivial, ?_⟩; gi_at_call 30; refine (CallsIn.inRound l' (callsIn_wide.2 HF.out)).mono ?_; rintro e w3 ⟨rfl, hb3⟩; have hb4 := hb3.alloc hb3.size (.cells #[.string ⟨fk.toArray⟩, .int .i64 fd, .int .i64 fi, .string ⟨ft.toArray⟩] 27); have hx4 := boxed_below h1 hb4; have hc4 := hx4.cell; have hf4 := (h3.below hb4).flds; have hbx4 := FBox.new w3 ⟨fk, fd, fi, ft⟩) | (refine ⟨trivial, ?_⟩; gi_at_call 32; refine (CallsIn.inRound l' (callsIn_wide.2 (HC.out _ _ hf4 hbx4))).mono ?_; rintro e w5 ⟨rfl, hb5⟩))
        have hb4 := hb3.alloc hb3.size (.cells #[.string ⟨fk.toArray⟩, .int .i64 fd, .int .i64 fi, .string ⟨ft.toArray⟩] 27)
        have hb6 := hb4.trans (hb5.mono hb4.size)
        exact ⟨KeepsOthers.below hb6, fs, HN.out, h16, ReadAt.below ⟨A2, c, h1, h2, h3, h4⟩ hb6⟩
end Go.Proofs.YtbjoboemhdcalaaDoor
