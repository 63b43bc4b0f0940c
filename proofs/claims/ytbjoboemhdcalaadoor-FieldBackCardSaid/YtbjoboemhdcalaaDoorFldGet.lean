/- field.Get: the field of a key in a line. -/
import Derived.Test.YtbjoboemhdcalaaDoorFldRead
namespace Go.Proofs.YtbjoboemhdcalaaDoor
open Go.RowKit
set_option maxRecDepth 100000

set_option maxHeartbeats 2000000 in
theorem get_any (A : Option Addr) (n cap : Nat) (l key : List UInt8) (w : World) (hl : l.length = n) (hcap : n ≤ cap) (hn : n ≤ 140737488355328) (hb : Bytes w w.heap.size A l) (hv : Vars w) :
    Calls Tryd.prog 17 #[.slice A n cap, .string ⟨key.toArray⟩] w (AtPost (Fld.at_ (Fld.read l) key) w) := by
  have hb0 : Below w.heap.size w (w.alloc (.cells #[.string ⟨#[]⟩, .int .i64 0, .int .i64 0, .string ⟨#[]⟩] 27)) := (Below.refl _ w).alloc (Nat.le_refl _) _
  have HR := Lib.hid (read_any A n cap l _ hl hcap hn ((hb.below hb0).wide hb0.size) (hv.below hb0))
  have hle := Fld.read_le l
  generalize hO : Fld.at_ (Fld.read l) key = O
  have HO := Lib.hid hO; clear hO
  have hbx0 : FBox (w.alloc (.cells #[.string ⟨#[]⟩, .int .i64 0, .int .i64 0, .string ⟨#[]⟩] 27)) w.heap.size Fld.zero := FBox.new w Fld.zero
  clear hb hl hv hcap hn
  generalize Fld.read l = fs at *
  unfold ReadPost at HR
  go_enter Tryd.func17, Tryd.ntmps17
  go_wp2_with fail
  refine HR.out.mono ?_
  rintro e w1 ⟨A2, c, rfl, ho, hb1⟩
  have hbel := hb0.trans (hb1.mono hb0.size)
  have hbx := hbx0.below hb1
  have hf := ho.flds
  clear HR hb0 hbx0 ho hb1
  go_wp2
  go_loopw [11] (fun i wr => ∃ (k : Nat), k ≤ fs.length ∧ i = .int .i64 (k : Int) ∧ Fld.at_ (fs.take k) key = none ∧ Below w.heap.size w wr ∧ FBox wr w.heap.size Fld.zero ∧ Flds wr A2 fs) (fun i _ => fs.length - (intOf i).toNat)
  case atStart => exact ⟨0, by omega, rfl, rfl, hbel, hbx, hf⟩
  case round =>
    clear hbel hbx hf
    obtain ⟨k, hk, rfl, hnone, hbel, hbx, hf⟩ := hrel
    by_cases hlt : k < fs.length
    · obtain ⟨g, rfl, hg, c0, c1, c2, c3⟩ := hf.get hlt
      have Hfound := Lib.hid (Fld.at_found hlt hnone)
      have Hnext := Lib.hid (Fld.at_next hlt hnone)
      generalize fs[k] = f at *
      obtain ⟨fk, fd, fi, ft⟩ := f
      simp only at c0 c1 c2 c3
      have hb2 : Below wr.heap.size wr (wr.alloc (.cells #[.string ⟨fk.toArray⟩, .int .i64 fd, .int .i64 fi, .string ⟨ft.toArray⟩] 27)) := (Below.refl _ wr).alloc (Nat.le_refl _) _
      have hbx2 := hbx.below hb2
      have hf2 := hf.below hb2
      have hbel2 := hbel.trans (hb2.mono hbel.size)
      have i1 : (k : Int) < (fs.length : Int) := by omega
      have i0 : (0 : Int) ≤ (k : Int) := by omega
      clear hf hb2
      by_cases hkey : fk = key
      · have HR := Lib.hid (Hfound.out hkey)
        have hb : (fk == key) = true := by simpa using hkey
        have f0 := hbx2.free 0
        have f1 := hbx2.free 1
        have f2 := hbx2.free 2
        have f3 := hbx2.free 3
        obtain ⟨d0, d1, d2, d3⟩ := hbx2.cell
        simp only [Fld.zero] at d0 d1 d2 d3
        clear Hfound Hnext hnone hkey hbx
        go_wp2
        refine bodyPost_ret ((hbx2.set ⟨fk, fd, fi, ft⟩).results rfl rfl) rfl ?_
        exact ⟨by rw [← HO.out, HR.out]; rfl, below_set hbel2 (Nat.le_refl _) _ _ _ _⟩
      · have HR := Lib.hid (Hnext.out hkey)
        have hb : (fk == key) = false := by simpa using hkey
        clear Hfound Hnext hnone hkey
        go_wp2
        go_roundw
        case rel => exact ⟨k + 1, by omega, by go_num, HR.out, hbel2, hbx2, hf2⟩
        case measure => simp [intOf]; omega
    · have HN := Lib.hid (show O = none by rw [← HO.out]; rwa [List.take_of_length_le (by omega)] at hnone)
      clear hnone
      have f0 := hbx.free 0
      have f1 := hbx.free 1
      have f2 := hbx.free 2
      have f3 := hbx.free 3
      obtain ⟨d0, d1, d2, d3⟩ := hbx.cell
      simp only [Fld.zero] at d0 d1 d2 d3
      go_wp2
      refine bodyPost_ret ((hbx.set Fld.zero).results rfl rfl) rfl ?_
      exact ⟨by rw [HN.out]; rfl, below_set hbel (Nat.le_refl _) _ _ _ _⟩
end Go.Proofs.YtbjoboemhdcalaaDoor
