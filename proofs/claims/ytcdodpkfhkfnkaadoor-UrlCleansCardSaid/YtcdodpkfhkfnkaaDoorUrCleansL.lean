/- UrlCleans: the walk. -/
import Derived.Test.YtcdodpkfhkfnkaaDoorUrAwk
namespace Go.Proofs.YtcdodpkfhkfnkaaDoor
open Go.RowKit
set_option linter.unusedVariables false
set_option linter.unusedSimpArgs false
set_option maxRecDepth 10000

theorem clean_head (l : List Int) : ∃ q, cleanI l = 47 :: q := by
  unfold cleanI
  simp only
  split
  · rename_i h
    cases hs : joinI (cleanL (splI 47 l)) with
    | nil => rw [hs] at h; cases h
    | cons c q =>
      rw [hs] at h
      injection h with h
      exact ⟨q, by rw [h]⟩
  · exact ⟨_, rfl⟩
theorem clean_byts {l : List Int} (h : Byts l) : Byts (cleanI l) := by
  have hp : ∀ p ∈ splI 47 l, Byts p := fun p hp => (spl_mem 47 l p hp).2 h
  have hk : ∀ (ps : List (List Int)) (ks : List (List Int)), (∀ p ∈ ps, Byts p) → (∀ p ∈ ks, Byts p) → ∀ p ∈ ps.foldl cstep ks, Byts p := by
    intro ps
    induction ps with
    | nil => intro ks _ hk; exact hk
    | cons x ps ih =>
      intro ks hx hk
      refine ih (cstep ks x) (fun p hp => hx p (by simp [hp])) ?_
      unfold cstep
      split
      · exact hk
      · split
        · split
          · intro p hp; rw [List.mem_singleton.1 hp]; exact Byts.nil
          · intro p hp; exact hk p (List.mem_of_mem_take (by rwa [List.dropLast_eq_take] at hp))
        · intro p hp
          rcases List.mem_append.1 hp with hp | hp
          · exact hk p hp
          · rw [List.mem_singleton.1 hp]; exact hx x (by simp)
  have hc : ∀ p ∈ cleanL (splI 47 l), Byts p := by
    intro p hp'
    unfold cleanL at hp'
    rcases List.mem_append.1 hp' with h1 | h1
    · exact hk _ [] hp (fun p hp => by cases hp) p h1
    · split at h1
      · rw [List.mem_singleton.1 h1]; exact Byts.nil
      · cases h1
  unfold cleanI
  simp only
  split
  · exact join_byts _ hc
  · exact Byts.mk ⟨by decide, by decide⟩ (join_byts _ hc)
set_option maxHeartbeats 1000000 in
theorem urlCleans_walk (s : ByteArray) (w : World) (hs : s.size ≤ maxLen) (hT : TabsU w) :
    Calls Tryd.prog 9 #[.string s] w fun e w' => e = .returned (.bool true) ∧ Below w.heap.size w w' := by
  unfold maxLen at hs
  have HT := Lib.hid hT
  obtain ⟨x, hx⟩ : ∃ x, (if 300 < s.size then s.extract 0 300 else s) = x := ⟨_, rfl⟩
  have hxs : x.size ≤ 300 := by
    rw [← hx]
    split
    · rw [ByteArray.size_extract]; omega
    · omega
  obtain ⟨t, ht⟩ : ∃ t, strL (cleanI (btL x)) = t := ⟨_, rfl⟩
  obtain ⟨q, hq⟩ := clean_head (btL x)
  have hbt : btL t = 47 :: q := by rw [← ht, btL_strL (clean_byts (btL_byts x)), hq]
  have hts : 0 < t.size := by rw [← btL_length, hbt]; simp
  have ht0 : (t[0].toNat : Int) = 47 := by
    have := btL_at t 0 hts
    rw [hbt] at this
    simpa using this.symm
  have C1 : Hid (∀ W : World, TabsU W → Calls Tryd.prog 30 #[.string x] W fun e w' => e = .returned (.string t) ∧ Below W.heap.size W w') := Lib.hid (fun W hW => clean_at x t ht (by omega) W hW.1)
  have C2 : Hid (∀ W : World, Calls Tryd.prog 31 #[.string x] W fun e w' => e = .returned (.string t) ∧ Below W.heap.size W w') := Lib.hid (fun W => rclean_at x t ht (by omega) W)
  have g0 : decide ((0 : Int) < (t.size : Int)) = true := decide_eq_true (by omega)
  clear ht hq hbt hxs hT
  have key : ∀ (W : World), True := fun _ => trivial
  by_cases h : 300 < s.size
  · have d : decide ((300 : Int) < (s.size : Int)) = true := decide_eq_true (by omega)
    have i0 : (300 : Int) ≤ (s.size : Int) := by omega
    rw [if_pos h] at hx
    have HX := Lib.hid hx
    clear hx key
    go_enter Tryd.func9, Tryd.ntmps9
    go_wp2_with fail
    rw [HX.out]
    refine (C1.out _ HT.out).mono ?_
    rintro e w1 ⟨rfl, hb1⟩
    have B1 := Lib.hid hb1
    have T1 := Lib.hid (HT.out.later hb1)
    clear hb1
    go_wp2_with fail
    refine (awake_at _ T1.out).mono ?_
    rintro e w2 ⟨rfl, hb2⟩
    have B2 := Lib.hid (B1.out.trans (hb2.mono B1.out.size))
    clear hb2 B1 T1
    go_wp2_with fail
    refine (C2.out _).mono ?_
    rintro e w3 ⟨rfl, hb3⟩
    have B3 := Lib.hid (B2.out.trans (hb3.mono B2.out.size))
    clear hb3 B2
    go_wp2
    go_ret
    exact ⟨rfl, B3.out⟩
  · have d : decide ((300 : Int) < (s.size : Int)) = false := decide_eq_false (by omega)
    rw [if_neg h] at hx
    subst hx
    clear key
    go_enter Tryd.func9, Tryd.ntmps9
    go_wp2_with fail
    refine (C1.out _ HT.out).mono ?_
    rintro e w1 ⟨rfl, hb1⟩
    have B1 := Lib.hid hb1
    have T1 := Lib.hid (HT.out.later hb1)
    clear hb1
    go_wp2_with fail
    refine (awake_at _ T1.out).mono ?_
    rintro e w2 ⟨rfl, hb2⟩
    have B2 := Lib.hid (B1.out.trans (hb2.mono B1.out.size))
    clear hb2 B1 T1
    go_wp2_with fail
    refine (C2.out _).mono ?_
    rintro e w3 ⟨rfl, hb3⟩
    have B3 := Lib.hid (B2.out.trans (hb3.mono B2.out.size))
    clear hb3 B2
    go_wp2
    go_ret
    exact ⟨rfl, B3.out⟩
end Go.Proofs.YtcdodpkfhkfnkaaDoor
