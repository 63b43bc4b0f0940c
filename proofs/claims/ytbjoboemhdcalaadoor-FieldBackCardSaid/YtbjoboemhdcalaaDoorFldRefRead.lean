/- The document's Read: the fields of a line. -/
import Derived.Test.YtbjoboemhdcalaaDoorFldOne
import Derived.Test.YtbjoboemhdcalaaDoorFldRead
namespace Go.Proofs.YtbjoboemhdcalaaDoor
open Go.RowKit
set_option maxRecDepth 100000

/-- the words from i on -/
def Fld.rest (l : List UInt8) (i : Nat) : List (List UInt8) := (Fld.spans i i (l.drop i)).map fun p => Fld.piece l p.1 p.2
theorem Fld.rest_blank {l : List UInt8} {i : Nat} (h : i < l.length) (hb : Fld.blank l[i] = true) : Fld.rest l i = Fld.rest l (i + 1) := by
  unfold Fld.rest
  rw [Fld.spans_blank h hb, if_neg (by omega)]
theorem Fld.rest_end {l : List UInt8} {i : Nat} (h : l.length ≤ i) : Fld.rest l i = [] := by
  unfold Fld.rest
  rw [List.drop_eq_nil_of_le h]
  simp [Fld.spans]
theorem Fld.rest_word {l : List UInt8} {s e : Nat} (hs : s < e) (he : e ≤ l.length) (h : Fld.spans s s (l.drop s) = Fld.spans s e (l.drop e)) (hb : ∀ h : e < l.length, Fld.blank l[e] = true) : Fld.rest l s = Fld.piece l s e :: Fld.rest l (e + 1) := by
  unfold Fld.rest
  rw [h]
  by_cases hlt : e < l.length
  · rw [Fld.spans_blank hlt (hb hlt), if_pos hs]
    rfl
  · rw [Fld.spans_end (by omega), if_pos hs, List.drop_eq_nil_of_le (by omega)]
    simp [Fld.spans]

/-- between two words -/
def RefReadAt (w : World) (l : List UInt8) (A2 : Option Addr) (c : Nat) (fs : List Fld.F) (j : Nat) (wr : World) : Prop :=
  Fld.steps fs (Fld.rest l j) = Fld.read l ∧ fs.length ≤ 16 ∧ FOwn wr w.heap.size A2 fs.length c fs ∧ Below w.heap.size w wr

/-- What One answers, in letters. -/
def OneGen (wl : List UInt8) (w : World) (e : Ending) (w' : World) : Prop :=
  ∃ fk fd fi ft b, e = .returned (.tuple #[.agg #[.string ⟨(fk : List UInt8).toArray⟩, .int .i64 fd, .int .i64 fi, .string ⟨(ft : List UInt8).toArray⟩], .bool b]) ∧ (b = true → Fld.one wl = some ⟨fk, fd, fi, ft⟩) ∧ (b = false → Fld.one wl = none) ∧ Below w.heap.size w w'
theorem one_gen (l : List UInt8) (w : World) (hl : l.length ≤ 140737488355328) : Calls Tryd.prog 34 #[.string ⟨l.toArray⟩] w (OneGen l w) := (one_any l w hl).mono fun _ _ ⟨f, he, hf, hb⟩ => by
  cases ho : Fld.one l with
  | none => rw [ho] at he; exact ⟨_, _, _, _, false, he, (fun h => by cases h), fun _ => ho, hb⟩
  | some g =>
    rw [ho] at he
    obtain rfl := hf g ho
    exact ⟨_, _, _, _, true, he, fun _ => ho, (fun h => by cases h), hb⟩
/-- What At answers, in letters. -/
def AtGen (fs : List Fld.F) (key : List UInt8) (w : World) (e : Ending) (w' : World) : Prop :=
  ∃ fk fd fi ft b, e = .returned (.tuple #[.agg #[.string ⟨(fk : List UInt8).toArray⟩, .int .i64 fd, .int .i64 fi, .string ⟨(ft : List UInt8).toArray⟩], .bool b]) ∧ Fld.has fs key = b ∧ Below w.heap.size w w'
theorem at_gen (A : Option Addr) (n c : Nat) (fs : List Fld.F) (key : List UInt8) (w : World) (hl : fs.length = n) (hn : n ≤ 1000) (hf : Flds w A fs) :
    Calls Tryd.prog 23 #[.slice A n c, .string ⟨key.toArray⟩] w (AtGen fs key w) := (at_any A n c fs key w hl hn hf).mono fun _ _ ⟨he, hb⟩ => ⟨_, _, _, _, _, he, Fld.has_at fs key, hb⟩

set_option maxHeartbeats 4000000 in
theorem refRead_any (A : Option Addr) (n cap : Nat) (l : List UInt8) (w : World) (hl : l.length = n) (hcap : n ≤ cap) (hn : n ≤ 140737488355328) (hb : Bytes w w.heap.size A l) :
    Calls Tryd.prog 21 #[.slice A n cap] w (ReadPost (Fld.read l) w) := by
  have Hl := Lib.hid hl
  have Hb := Lib.hid hb
  clear hl hb
  go_enter Tryd.func21, Tryd.ntmps21
  go_wp2
  go_loopw [3, 4] (fun a i wr => ∃ (A2 : Option Addr) (c : Nat) (fs : List Fld.F) (j : Nat), a = .slice A2 fs.length c ∧ i = .int .i64 (j : Int) ∧ j ≤ n + 1 ∧ RefReadAt w l A2 c fs j wr) (fun _ i _ => n + 1 - (intOf i).toNat)
  case atStart => exact ⟨none, 0, [], 0, rfl, rfl, by omega, rfl, by simp, FOwn.nil _ _, Below.refl _ _⟩
  case round =>
    obtain ⟨A2, c, fs, j, rfl, rfl, hj, hst, h16, ho, hbel⟩ := hrel
    by_cases hlt : j < n
    · have hj' : j < l.length := by have := Hl.out; omega
      obtain ⟨ad, hA, _, hc⟩ := (Hb.out.below hbel).get hj'
      have HB := Lib.hid (fun W => refBlank_any l[j] W)
      have i1 : (j : Int) < (n : Int) := by omega
      have i0 : (0 : Int) ≤ (j : Int) := by omega
      rcases hbl : Fld.blank l[j] with _ | _
      · rw [hbl] at HB
        have Hst := Lib.hid hst
        have HA := Lib.hid hA
        have Hsp0 := Lib.hid (Fld.spans_in (s := j) hj' hbl)
        clear hst
        have Hd := Lib.hid (show ∀ h : j < l.length, Fld.blank l[j] = false from fun _ => hbl)
        generalize l[j] = d at *
        subst hA
        go_wp2_with fail
        refine (HB.out _).mono ?_
        rintro e w1 ⟨rfl, rfl⟩
        go_wp2
        go_loop [4] (fun i => ∃ (e : Nat), i = .int .i64 (e : Int) ∧ j ≤ e ∧ e ≤ n ∧ Fld.spans j j (l.drop j) = Fld.spans j e (l.drop e)) (fun i => n - (intOf i).toNat)
        case atStart => exact ⟨j, rfl, by omega, by omega, rfl⟩
        case round =>
          clear hc HB Hsp0
          obtain ⟨e, rfl, hje, hen, hsp⟩ := hrel
          have Hsp := Lib.hid hsp
          clear hsp
          have k0 : (0 : Int) ≤ (e : Int) := by omega
          by_cases hgo : ∃ h : e < l.length, Fld.blank l[e] = false
          · obtain ⟨he', hbe⟩ := hgo
            obtain ⟨ad', hA', _, hc'⟩ := (Hb.out.below hbel).get he'
            cases hA'
            have HB2 := Lib.hid (fun W => refBlank_any l[e] W)
            rw [hbe] at HB2
            have HN := Lib.hid (show Fld.spans j j (l.drop j) = Fld.spans j (e + 1) (l.drop (e + 1)) by rw [Hsp.out, Fld.spans_in he' hbe])
            have k1 : (e : Int) < (n : Int) := by have := Hl.out; omega
            clear hbe Hsp
            generalize l[e] = d2 at *
            go_wp2_with fail
            refine (HB2.out _).mono ?_
            rintro e2 w1 ⟨rfl, rfl⟩
            go_wp2
            go_round
            case rel => exact ⟨e + 1, by go_num, by omega, by omega, HN.out⟩
            case measure => simp [intOf]; omega
          · have hje' : j < e := by
              rcases Nat.lt_or_ge j e with h | h
              · exact h
              · obtain rfl : e = j := by omega
                exact absurd ⟨hj', Hd.out hj'⟩ hgo
            have hrest := Fld.rest_word hje' (by have := Hl.out; omega) Hsp.out (fun h => by
              cases hb : Fld.blank l[e] with
              | true => rfl
              | false => exact absurd ⟨h, hb⟩ hgo)
            have hwl : (Fld.piece l j e).length = e - j := Fld.piece_length (by have := Hl.out; omega)
            have hbw : Bytes wr w.heap.size (cutAt (some ad) cap j) (Fld.piece l j e) := ((Hb.out.below hbel).cut (k := j) (cap := cap) (by have := Hl.out; omega) (by have := Hl.out; omega)).take (e - j)
            have hcut := run_cut_lh (some ad) n cap j e hje (by omega)
            have hs := run_string_of hbw (cap - j)
            rw [hwl] at hs
            have HO := Lib.hid (one_gen (Fld.piece l j e) wr (by rw [hwl]; omega))
            have HST := Lib.hid (show Fld.steps (Fld.step fs (Fld.piece l j e)) (Fld.rest l (e + 1)) = Fld.read l by rw [← Fld.steps_cons, ← hrest]; exact Hst.out)
            have hm : e - j ≤ n := by omega
            have HAt := Lib.hid (fun W key hb => at_gen A2 fs.length c fs key W rfl (by omega) (ho.below hb).flds)
            clear hrest hwl hbw Hst Hsp Hd
            generalize Fld.piece l j e = wl at *
            generalize cutAt (some ad) cap j = A3 at *
            have FIN : True := trivial
            by_cases hen2 : e < n
            · have he' : e < l.length := by have := Hl.out; omega
              obtain ⟨ad', hA', _, hc'⟩ := (Hb.out.below hbel).get he'
              cases hA'
              have HB2 := Lib.hid (fun W => refBlank_any l[e] W)
              have hbe : Fld.blank l[e] = true := by
                cases hb : Fld.blank l[e] with
                | true => rfl
                | false => exact absurd ⟨he', hb⟩ hgo
              rw [hbe] at HB2
              have k1 : (e : Int) < (n : Int) := by omega
              clear hbe hgo
              generalize l[e] = d2 at *
              go_wp2_with fail
              refine (HB2.out _).mono ?_
              rintro e2 w1 ⟨rfl, rfl⟩
              go_wp2_with fail
              refine HO.out.mono ?_
              rintro e2 w3 ⟨fk, fd, fi, ft, b, rfl, hb1, hb0, hb3⟩
              have Hb1 := Lib.hid hb1
              have Hb0 := Lib.hid hb0
              have hbA := hb3.alloc hb3.size (.cells #[.string ⟨fk.toArray⟩, .int .i64 fd, .int .i64 fi, .string ⟨ft.toArray⟩] 27)
              have hbxA := FBox.new w3 ⟨fk, fd, fi, ft⟩
              clear hb1 hb0 HO
              go_wp2_with fail
              refine (HAt.out _ _ hbA).mono ?_
              rintro e3 w5 ⟨qk, qd, qi, qt, h, rfl, hh, hb5⟩
              have Hh := Lib.hid hh
              have hb6 := ((hbA.trans (hb5.mono hbA.size)).alloc (Nat.le_trans hbA.size hb5.size) (.cells #[.string ⟨qk.toArray⟩, .int .i64 qd, .int .i64 qi, .string ⟨qt.toArray⟩] 27))
              have ho6 := ho.below hb6
              have hbel6 := hbel.trans (hb6.mono hbel.size)
              have hbx6 := (hbxA.below hb5).below ((Below.refl _ w5).alloc (Nat.le_refl _) (.cells #[.string ⟨qk.toArray⟩, .int .i64 qd, .int .i64 qi, .string ⟨qt.toArray⟩] 27))
              clear hh hbA hbxA hb3 hb5 HAt
              obtain ⟨k0', k1', k2', k3'⟩ := hbx6.cell
              simp only at k0' k1' k2' k3'
              cases b
              · have HR := Lib.hid (show Fld.steps fs (Fld.rest l (e + 1)) = Fld.read l by rw [← HST.out]; unfold Fld.step; rw [Hb0.out rfl])
                clear HST Hb0 Hb1 Hh
                go_wp2
                go_roundw
                case rel => exact ⟨A2, c, fs, e + 1, rfl, by go_num, by omega, HR.out, h16, ho6, hbel6⟩
                case measure => simp [intOf]; omega
              · have HS1 := Lib.hid (show Fld.step fs wl = if Fld.has fs fk = true ∨ 16 ≤ fs.length then fs else fs ++ [⟨fk, fd, fi, ft⟩] by unfold Fld.step; rw [Hb1.out rfl])
                cases h
                · by_cases h15 : fs.length < 16
                  · have hd : decide ((fs.length : Int) < 16) = true := decide_eq_true (by omega)
                    have hlt16 : (fs.length : Int) < 16 := by omega
                    have HR := Lib.hid (show Fld.steps (fs ++ [⟨fk, fd, fi, ft⟩]) (Fld.rest l (e + 1)) = Fld.read l by rw [← HST.out, HS1.out, if_neg (by rw [Hh.out]; simp; omega)])
                    have hb7 : Below (w5.alloc (.cells #[.string ⟨qk.toArray⟩, .int .i64 qd, .int .i64 qi, .string ⟨qt.toArray⟩] 27)).heap.size (w5.alloc (.cells #[.string ⟨qk.toArray⟩, .int .i64 qd, .int .i64 qi, .string ⟨qt.toArray⟩] 27)) ((w5.alloc (.cells #[.string ⟨qk.toArray⟩, .int .i64 qd, .int .i64 qi, .string ⟨qt.toArray⟩] 27)).alloc (.cells #[.string ⟨fk.toArray⟩, .int .i64 fd, .int .i64 fi, .string ⟨ft.toArray⟩] 27)) := (Below.refl _ _).alloc (Nat.le_refl _) _
                    have ho7 := ho6.below hb7
                    have hbel7 := hbel6.trans (hb7.mono hbel6.size)
                    have hbx7 := FBox.new (w5.alloc (.cells #[.string ⟨qk.toArray⟩, .int .i64 qd, .int .i64 qi, .string ⟨qt.toArray⟩] 27)) ⟨fk, fd, fi, ft⟩
                    rw [World.size_alloc] at hbx7
                    clear HST Hb0 Hb1 Hh HS1 h15 hb7
                    go_wp2_with (at_builtin; refine wpList_append_field rfl (.tmp 62) (.tmp 64) rfl w.heap.size A2 fs.length c fs rfl ho7 (w5.heap.size + 1) ⟨fk, fd, fi, ft⟩ rfl hbx7.cell.1 hbx7.cell.2.1 hbx7.cell.2.2.1 hbx7.cell.2.2.2 (by omega) hbel7.size ?_; intro A5 c5 w8 ho8 hg8)
                    have hbel8 := hbel7.grown hg8 hbel7.size (fun k hk => (ho7.lt hk).1)
                    go_roundw
                    case rel => exact ⟨A5, c5, fs ++ [⟨fk, fd, fi, ft⟩], e + 1, by simp, by go_num, by omega, HR.out, by simp; omega, by simpa using ho8, hbel8⟩
                    case measure => simp [intOf]; omega
                  · have hd : decide ((fs.length : Int) < 16) = false := decide_eq_false (by omega)
                    have hlt16 : ¬ (fs.length : Int) < 16 := by omega
                    have HR := Lib.hid (show Fld.steps fs (Fld.rest l (e + 1)) = Fld.read l by rw [← HST.out, HS1.out, if_pos (.inr (by omega))])
                    clear HST Hb0 Hb1 Hh HS1 h15
                    go_wp2
                    go_roundw
                    case rel => exact ⟨A2, c, fs, e + 1, rfl, by go_num, by omega, HR.out, h16, ho6, hbel6⟩
                    case measure => simp [intOf]; omega
                · have HR := Lib.hid (show Fld.steps fs (Fld.rest l (e + 1)) = Fld.read l by rw [← HST.out, HS1.out, if_pos (.inl Hh.out)])
                  clear HST Hb0 Hb1 Hh HS1
                  go_wp2
                  go_roundw
                  case rel => exact ⟨A2, c, fs, e + 1, rfl, by go_num, by omega, HR.out, h16, ho6, hbel6⟩
                  case measure => simp [intOf]; omega
            · have k1 : ¬ (e : Int) < (n : Int) := by omega
              clear hgo
              go_wp2_with fail
              refine HO.out.mono ?_
              rintro e2 w3 ⟨fk, fd, fi, ft, b, rfl, hb1, hb0, hb3⟩
              have Hb1 := Lib.hid hb1
              have Hb0 := Lib.hid hb0
              have hbA := hb3.alloc hb3.size (.cells #[.string ⟨fk.toArray⟩, .int .i64 fd, .int .i64 fi, .string ⟨ft.toArray⟩] 27)
              have hbxA := FBox.new w3 ⟨fk, fd, fi, ft⟩
              clear hb1 hb0 HO
              go_wp2_with fail
              refine (HAt.out _ _ hbA).mono ?_
              rintro e3 w5 ⟨qk, qd, qi, qt, h, rfl, hh, hb5⟩
              have Hh := Lib.hid hh
              have hb6 := ((hbA.trans (hb5.mono hbA.size)).alloc (Nat.le_trans hbA.size hb5.size) (.cells #[.string ⟨qk.toArray⟩, .int .i64 qd, .int .i64 qi, .string ⟨qt.toArray⟩] 27))
              have ho6 := ho.below hb6
              have hbel6 := hbel.trans (hb6.mono hbel.size)
              have hbx6 := (hbxA.below hb5).below ((Below.refl _ w5).alloc (Nat.le_refl _) (.cells #[.string ⟨qk.toArray⟩, .int .i64 qd, .int .i64 qi, .string ⟨qt.toArray⟩] 27))
              clear hh hbA hbxA hb3 hb5 HAt
              obtain ⟨k0', k1', k2', k3'⟩ := hbx6.cell
              simp only at k0' k1' k2' k3'
              cases b
              · have HR := Lib.hid (show Fld.steps fs (Fld.rest l (e + 1)) = Fld.read l by rw [← HST.out]; unfold Fld.step; rw [Hb0.out rfl])
                clear HST Hb0 Hb1 Hh
                go_wp2
                go_roundw
                case rel => exact ⟨A2, c, fs, e + 1, rfl, by go_num, by omega, HR.out, h16, ho6, hbel6⟩
                case measure => simp [intOf]; omega
              · have HS1 := Lib.hid (show Fld.step fs wl = if Fld.has fs fk = true ∨ 16 ≤ fs.length then fs else fs ++ [⟨fk, fd, fi, ft⟩] by unfold Fld.step; rw [Hb1.out rfl])
                cases h
                · by_cases h15 : fs.length < 16
                  · have hd : decide ((fs.length : Int) < 16) = true := decide_eq_true (by omega)
                    have hlt16 : (fs.length : Int) < 16 := by omega
                    have HR := Lib.hid (show Fld.steps (fs ++ [⟨fk, fd, fi, ft⟩]) (Fld.rest l (e + 1)) = Fld.read l by rw [← HST.out, HS1.out, if_neg (by rw [Hh.out]; simp; omega)])
                    have hb7 : Below (w5.alloc (.cells #[.string ⟨qk.toArray⟩, .int .i64 qd, .int .i64 qi, .string ⟨qt.toArray⟩] 27)).heap.size (w5.alloc (.cells #[.string ⟨qk.toArray⟩, .int .i64 qd, .int .i64 qi, .string ⟨qt.toArray⟩] 27)) ((w5.alloc (.cells #[.string ⟨qk.toArray⟩, .int .i64 qd, .int .i64 qi, .string ⟨qt.toArray⟩] 27)).alloc (.cells #[.string ⟨fk.toArray⟩, .int .i64 fd, .int .i64 fi, .string ⟨ft.toArray⟩] 27)) := (Below.refl _ _).alloc (Nat.le_refl _) _
                    have ho7 := ho6.below hb7
                    have hbel7 := hbel6.trans (hb7.mono hbel6.size)
                    have hbx7 := FBox.new (w5.alloc (.cells #[.string ⟨qk.toArray⟩, .int .i64 qd, .int .i64 qi, .string ⟨qt.toArray⟩] 27)) ⟨fk, fd, fi, ft⟩
                    rw [World.size_alloc] at hbx7
                    clear HST Hb0 Hb1 Hh HS1 h15 hb7
                    go_wp2_with (at_builtin; refine wpList_append_field rfl (.tmp 62) (.tmp 64) rfl w.heap.size A2 fs.length c fs rfl ho7 (w5.heap.size + 1) ⟨fk, fd, fi, ft⟩ rfl hbx7.cell.1 hbx7.cell.2.1 hbx7.cell.2.2.1 hbx7.cell.2.2.2 (by omega) hbel7.size ?_; intro A5 c5 w8 ho8 hg8)
                    have hbel8 := hbel7.grown hg8 hbel7.size (fun k hk => (ho7.lt hk).1)
                    go_roundw
                    case rel => exact ⟨A5, c5, fs ++ [⟨fk, fd, fi, ft⟩], e + 1, by simp, by go_num, by omega, HR.out, by simp; omega, by simpa using ho8, hbel8⟩
                    case measure => simp [intOf]; omega
                  · have hd : decide ((fs.length : Int) < 16) = false := decide_eq_false (by omega)
                    have hlt16 : ¬ (fs.length : Int) < 16 := by omega
                    have HR := Lib.hid (show Fld.steps fs (Fld.rest l (e + 1)) = Fld.read l by rw [← HST.out, HS1.out, if_pos (.inr (by omega))])
                    clear HST Hb0 Hb1 Hh HS1 h15
                    go_wp2
                    go_roundw
                    case rel => exact ⟨A2, c, fs, e + 1, rfl, by go_num, by omega, HR.out, h16, ho6, hbel6⟩
                    case measure => simp [intOf]; omega
                · have HR := Lib.hid (show Fld.steps fs (Fld.rest l (e + 1)) = Fld.read l by rw [← HST.out, HS1.out, if_pos (.inl Hh.out)])
                  clear HST Hb0 Hb1 Hh HS1
                  go_wp2
                  go_roundw
                  case rel => exact ⟨A2, c, fs, e + 1, rfl, by go_num, by omega, HR.out, h16, ho6, hbel6⟩
                  case measure => simp [intOf]; omega
      · rw [hbl] at HB
        have HR := Lib.hid (show Fld.steps fs (Fld.rest l (j + 1)) = Fld.read l by rw [← Fld.rest_blank hj' hbl]; exact hst)
        clear hbl hst
        generalize l[j] = d at *
        subst hA
        go_wp2_with fail
        refine (HB.out _).mono ?_
        rintro e w1 ⟨rfl, rfl⟩
        go_wp2
        go_roundw
        case rel => exact ⟨A2, c, fs, j + 1, rfl, by go_num, by omega, HR.out, h16, ho, hbel⟩
        case measure => simp [intOf]; omega
    · have HR := Lib.hid (show fs = Fld.read l by rw [← hst, Fld.rest_end (by have := Hl.out; omega)]; rfl)
      have i1 : ¬ (j : Int) < (n : Int) := by omega
      clear hst
      go_wp2
      go_ret
      exact ⟨A2, c, by rw [← HR.out]; rfl, by rw [← HR.out]; exact ho, hbel⟩
end Go.Proofs.YtbjoboemhdcalaaDoor
