/- The contract of resp.fits. -/
import Derived.Test.YtcjbfgkmpoebgaaDoorRpBase
import Derived.Test.YtcjbfgkmpoebgaaDoorShelf
namespace Go.Proofs.YtcjbfgkmpoebgaaDoor
open Go.RowKit Go.Shelf
attribute [local go_sem] Oper.semAt_some

theorem str_size (s : List UInt8) : (⟨s.toArray⟩ : ByteArray).size = s.length := by show s.toArray.size = _; simp
theorem str_toList (s : List UInt8) : (⟨s.toArray⟩ : ByteArray).toList = s := by rw [Lib.toList_data]
theorem str_empty (s : List UInt8) : ((⟨s.toArray⟩ : ByteArray).toList == (⟨#[]⟩ : ByteArray).toList) = decide (s = []) := by
  rw [str_toList, Lib.toList_data]
  cases s with
  | nil => rfl
  | cons x s => simp

set_option maxRecDepth 100000 in
set_option maxHeartbeats 4000000 in
theorem fits_any (k : Int) (s : List UInt8) (n : Int) (a : Option Addr) (m cap : Nat) (w : World) (hf : Fit k s n m cap) (hca : k = 1 ∨ k = 2 → CA s) :
    Calls Tryd.prog 24 #[rv k s n a m cap] w fun e w' => e = .returned (.bool (Rp.fitsB ⟨k, s, n, m⟩)) ∧ Below w.heap.size w w' := by
  have hsz := str_size s
  have hse := str_empty s
  unfold Fit at hf
  obtain ⟨f1, f2, f3, f4, f5, f6, f7⟩ := hf
  unfold rv
  have hm0 : decide (m = 0) = ((m : Int) == 0) := by by_cases h : m = 0 <;> simp [h]
  have hm1 : decide (m ≤ 65536) = decide ((m : Int) ≤ 65536) := by by_cases h : m ≤ 65536 <;> simp [h] <;> omega
  have hn0 : decide (n = 0) = (n == 0) := by by_cases h : n = 0 <;> simp [h]
  obtain ⟨fb, hfb⟩ : ∃ fb, Rp.fitsB ⟨k, s, n, m⟩ = fb := ⟨_, rfl⟩
  rw [hfb]
  have HN : ∀ (k n : Int) (s : List UInt8) (m : Nat), Hid (Below w.heap.size w (w.alloc (.cells #[.int .i64 k, .string ⟨s.toArray⟩, .int .i64 n, .slice a m cap] 24))) := fun _ _ _ _ => Lib.hid ((Below.refl _ w).alloc (Nat.le_refl _) _)
  by_cases k1 : k = 1 ∨ k = 2
  · clear hse
    have hca' := fun h => hca k1 h (w.alloc (.cells #[.int .i64 k, .string ⟨s.toArray⟩, .int .i64 n, .slice a m cap] 24))
    have HCA := Lib.hid hca'
    have e1 : fb = (decide (s.length ≤ 512) && Rp.plainB s && (n == 0) && ((m : Int) == 0)) := by rw [← hfb, ← hm0, ← hn0]; unfold Rp.fitsB; rw [if_pos k1]
    have E1 := Lib.hid e1
    clear hca hca' e1 hfb hm0 hm1 hn0
    by_cases hl : s.length ≤ 512
    · have hc := HCA.out hl
      have hl' : ((s.length : Int)) ≤ 512 := by omega
      clear HCA
      generalize Rp.plainB s = pb at hc E1
      cases pb <;> rcases Decidable.em (n = 0) with rfl | hn <;> rcases k1 with rfl | rfl <;>
        (go_enter Tryd.func24, Tryd.ntmps24
         go_wp2_with (go_at_call 35; refine hc.mono ?_; rintro e W2 ⟨rfl, hb2⟩; have hbx := (hb2.block w.heap.size (by simp)).trans (World.alloc_heap_new w _); obtain ⟨y0, y1, y2, y3⟩ := cells_four hbx; clear hbx; have HB2 := Lib.hid hb2; clear hb2 hc)
         go_ret
         refine ⟨by rw [E1.out]; simp [*], (HN _ _ _ _).out.trans (HB2.out.mono (HN _ _ _ _).out.size)⟩)
    · have hl' : ¬ ((s.length : Int)) ≤ 512 := by omega
      clear HCA
      rcases k1 with rfl | rfl <;>
        (go_enter Tryd.func24, Tryd.ntmps24
         go_wp2
         go_ret
         exact ⟨by rw [E1.out]; simp [hl], (HN _ _ _ _).out⟩)
  · clear hca
    by_cases k3 : k = 3
    · have E1 : Hid (fb = (decide (s = []) && ((m : Int) == 0))) := Lib.hid (by rw [← hfb]; (try rw [← hm0]); (try rw [← hn0]); (try rw [← hm1]); unfold Rp.fitsB; simp [k3])
      clear k1 hfb hm0 hm1 hn0
      rcases Decidable.em (s = []) with hs | hs <;> subst k3 <;>
        (simp only [hs, decide_true, decide_false] at hse
         have HS := Lib.hid hs
         clear hs
         go_enter Tryd.func24, Tryd.ntmps24
         go_wp2
         go_ret
         exact ⟨by rw [E1.out]; have := HS.out; simp [this], (HN _ _ _ _).out⟩)
    · by_cases k4 : k = 4
      · have E1 : Hid (fb = (decide (s.length ≤ 1048576) && (n == 0) && ((m : Int) == 0))) := Lib.hid (by rw [← hfb]; (try rw [← hm0]); (try rw [← hn0]); (try rw [← hm1]); unfold Rp.fitsB; simp [k4])
        clear k1 k3 hfb hm0 hm1 hn0
        clear hse
        subst k4
        rcases Decidable.em ((s.length : Int) ≤ 1048576) with hl | hl <;> rcases Decidable.em (n = 0) with rfl | hn <;>
          (go_enter Tryd.func24, Tryd.ntmps24
           go_wp2
           go_ret
           exact ⟨by rw [E1.out]; simp [*]; try omega, (HN _ _ _ _).out⟩)
      · by_cases k5 : k = 5
        · have E1 : Hid (fb = (decide (s = []) && (n == 0) && ((m : Int) == 0))) := Lib.hid (by rw [← hfb]; (try rw [← hm0]); (try rw [← hn0]); (try rw [← hm1]); unfold Rp.fitsB; simp [k5])
          clear k1 k3 k4 hfb hm0 hm1 hn0
          subst k5
          rcases Decidable.em (s = []) with hs | hs <;> rcases Decidable.em (n = 0) with rfl | hn <;>
            (simp only [hs, decide_true, decide_false] at hse
             have HS := Lib.hid hs
             clear hs
             go_enter Tryd.func24, Tryd.ntmps24
             go_wp2
             go_ret
             exact ⟨by rw [E1.out]; have := HS.out; simp [*], (HN _ _ _ _).out⟩)
        · by_cases k6 : k = 6
          · have E1 : Hid (fb = (decide (s = []) && (n == 0) && decide ((m : Int) ≤ 65536))) := Lib.hid (by rw [← hfb]; (try rw [← hm0]); (try rw [← hn0]); (try rw [← hm1]); unfold Rp.fitsB; simp [k6])
            clear k1 k3 k4 k5 hfb hm0 hm1 hn0
            subst k6
            rcases Decidable.em (s = []) with hs | hs <;> rcases Decidable.em (n = 0) with rfl | hn <;>
              (simp only [hs, decide_true, decide_false] at hse
               have HS := Lib.hid hs
               clear hs
               go_enter Tryd.func24, Tryd.ntmps24
               go_wp2
               go_ret
               exact ⟨by rw [E1.out]; have := HS.out; simp [*], (HN _ _ _ _).out⟩)
          · have E1 : Hid (fb = false) := Lib.hid (by rw [← hfb]; (try rw [← hm0]); (try rw [← hn0]); (try rw [← hm1]); unfold Rp.fitsB; simp [k1, k3, k4, k5, k6])
            have k1' : ¬ k = 1 := fun h => k1 (.inl h)
            have k2' : ¬ k = 2 := fun h => k1 (.inr h)
            clear k1 hfb hm0 hm1 hn0 hse
            go_enter Tryd.func24, Tryd.ntmps24
            go_wp2
            go_ret
            exact ⟨by rw [E1.out]; rfl, (HN _ _ _ _).out⟩
end Go.Proofs.YtcjbfgkmpoebgaaDoor
