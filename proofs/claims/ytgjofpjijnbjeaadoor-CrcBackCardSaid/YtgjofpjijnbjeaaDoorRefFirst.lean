/- dragnetref01.First, where the frame has its size: the document's first frame. -/
import Derived.Test.YtgjofpjijnbjeaaDoorRefFirstA
import Derived.Deep.RegionWith
namespace Go.Proofs.YtgjofpjijnbjeaaDoor
open Go.RowKit
theorem below_of_drew {B : Nat} {w w' : World} (h : Below B w.drew w') : Below B w w' := ⟨h.os, h.tape, h.output, h.size, h.block⟩

set_option maxHeartbeats 1000000 in
theorem refFirst_ok (ad : Addr) (n cap B : Nat) (l : List UInt8) (w : World) (hl : l.length = n) (hm : n ≤ 140737488355328) (hcap : n ≤ cap) (hb : Bytes w B (some ad) l) (hB : B ≤ w.heap.size) (he : sizeErr l = 0) :
    Calls Tryd.prog 19 #[.slice (some ad) n cap] w (FirstPost w l) := by
  obtain ⟨h1, h2, h3⟩ := sizeErr_zero he
  rw [hl] at h1 h3
  have H := Lib.hid (length_any (some ad) n cap B l w hl (by omega) hm hb)
  have hpl := pay_length he
  have hcut : Bytes w B (some ⟨ad.block, ad.off + 4, none⟩) (pay l) := by
    have := hb.drop (k := 4) (cap := cap) (by omega) (by omega)
    rw [if_neg (by omega)] at this
    exact this.take (word l)
  have hC := fun q => Lib.hid (copy_any (some ⟨ad.block, ad.off + 4, none⟩) (word l) (cap - 4) B (pay l) (w.drewN q) hpl (by omega) (hcut.drewN q) hB)
  have hwhole := hb.take (word l + 8)
  have hwl : (l.take (word l + 8)).length = word l + 8 := by simp; omega
  have Hwl := Lib.hid hwl
  have Hpl := Lib.hid hpl
  have hiff := Lib.hid (frame_pay he)
  have hfl := Lib.hid (frame_length (pay l))
  have hEok := Lib.hid (show sumOk l → frameErr l = 0 from fun h => by unfold frameErr; rw [if_neg (by omega), if_pos h])
  have hEno := Lib.hid (show ¬ sumOk l → frameErr l = 4 from fun h => by unfold frameErr; rw [if_neg (by omega), if_neg h])
  clear hb hcut hl hwl hpl he
  generalize l.take (word l + 8) = t at *
  generalize hp : pay l = p at *
  have Hp := Lib.hid hp; clear hp
  generalize hk : word l = k at *
  have Hk := Lib.hid hk; clear hk
  have hc4 : ¬ cap = 4 := by omega
  have hsl : ∀ W : World, (Instr.slice 22 (.slice (some ad) n cap) (some (.int .i64 4)) (some (.int .i64 (4 + (k : Int)))) none).run Tryd.prog W = .ok (.slice (some ⟨ad.block, ad.off + 4, none⟩) k (cap - 4)) W := fun W => by
    have h := run_cut ad n cap 4 (4 + k) (by omega) (by omega) (by omega) (by omega) W
    rw [show ((4 + k : Nat) : Int) = 4 + (k : Int) from by omega, show 4 + k - 4 = k from by omega] at h
    exact h
  go_enter Tryd.func19, Tryd.ntmps19
  go_wp2_with fail
  refine H.out.mono ?_
  rintro e w1 ⟨rfl, q, rfl⟩
  clear H
  go_wp2_with fail
  refine (hC q).out.mono ?_
  rintro e w1 ⟨A1, c1, rfl, ho1, hb1⟩
  clear hC hsl
  have hwhole1 : Bytes w1 w.heap.size (some ad) t := ((hwhole.wide hB).drewN q).below hb1
  have hw8 : IntKind.i64.wrap ((k : Int) + 8) = (k : Int) + 8 := by rw [IntKind.wrap_i64]; omega
  have hk8 : (0 : Int) ≤ (k : Int) + 8 := by omega
  have hk8c : (k : Int) + 8 ≤ (cap : Int) := by omega
  have hk8n : ((k : Int) + 8).toNat = k + 8 := by omega
  by_cases hok : sumOk l
  · have hE := hEok.out hok
    have hbeq : (frame p == t) = true := by rw [beq_iff_eq]; exact hiff.out.2 hok
    have Hbeq := Lib.hid hbeq
    have HE := Lib.hid hE
    clear hE hbeq hok hEok hEno hiff
    go_wp2_with fail
    go_region_with ((first | (go_at_call 26; refine (frame_any A1 k c1 w1.heap.size p _ Hpl.out h2 (by exact ho1.bytes) (by exact Nat.le_refl _)).mono ?_; rintro e w2 ⟨A5, c5, rfl, ho5, hb5⟩) | (go_at_call 17; refine (same_any A5 (some ad) (k + 8) (k + 8) c5 cap _ _ (frame p) t _ ho5.len Hwl.out (by exact ho5.bytes) (by exact (hwhole1.wide hb1.size).below (below_of_drew hb5))).mono ?_; rintro e w3 ⟨rfl, rfl⟩; rw [Hbeq.out])))
    all_goals
      have hb5' := below_of_drew hb5
      go_wp2
      go_ret3
      refine ⟨(below_of_drewN hb1).trans (hb5'.mono hb1.size), .inr ⟨HE.out, A1, c1, ?_, ?_⟩⟩
      · rw [Hk.out]; rfl
      · rw [Hk.out, Hp.out]; exact ho1.below hb5'
  · have hE := hEno.out hok
    have hbeq : (frame p == t) = false := by rw [beq_eq_false_iff_ne]; exact fun h => hok (hiff.out.1 h)
    have Hbeq := Lib.hid hbeq
    have HE := Lib.hid hE
    clear hE hbeq hok hEok hEno hiff
    go_wp2_with fail
    go_region_with ((first | (go_at_call 26; refine (frame_any A1 k c1 w1.heap.size p _ Hpl.out h2 (by exact ho1.bytes) (by exact Nat.le_refl _)).mono ?_; rintro e w2 ⟨A5, c5, rfl, ho5, hb5⟩) | (go_at_call 17; refine (same_any A5 (some ad) (k + 8) (k + 8) c5 cap _ _ (frame p) t _ ho5.len Hwl.out (by exact ho5.bytes) (by exact (hwhole1.wide hb1.size).below (below_of_drew hb5))).mono ?_; rintro e w3 ⟨rfl, rfl⟩; rw [Hbeq.out])))
    all_goals
      have hb5' := below_of_drew hb5
      go_wp2
      go_ret3
      refine ⟨(below_of_drewN hb1).trans (hb5'.mono hb1.size), .inl ⟨by rw [HE.out]; omega, ?_⟩⟩
      rw [HE.out]
      rfl

theorem refFirst_any (A : Option Addr) (n cap B : Nat) (l : List UInt8) (w : World) (hl : l.length = n) (hm : n ≤ 140737488355328) (hcap : n ≤ cap) (hb : Bytes w B A l) (hB : B ≤ w.heap.size) :
    Calls Tryd.prog 19 #[.slice A n cap] w (FirstPost w l) := by
  by_cases hs : sizeErr l = 0
  · obtain ⟨ad, rfl⟩ := hb.some_ (by have := sizeErr_zero hs; omega)
    exact refFirst_ok ad n cap B l w hl hm hcap hb hB hs
  · exact refFirst_err A n cap B l w hl hm hb hs
end Go.Proofs.YtgjofpjijnbjeaaDoor
