/- Layer 9's fixed fact. -/
import Derived.Test.YtejmhndlfbmpdaaDoorLnAlk
namespace Go.Proofs.YtejmhndlfbmpdaaDoor
open Go Go.RowKit
set_option linter.unusedVariables false
set_option linter.unusedSimpArgs false
set_option maxRecDepth 10000

theorem lw_byts {l : List Int} (h : Byts l) : Byts (l.map lwI) := by
  intro c hc
  obtain ⟨x, hx, rfl⟩ := List.mem_map.1 hc
  have := h x hx
  unfold lwI
  split <;> omega
theorem say_ok {p : List Int} {y : List Int × List Int} (h : sayL p = some y) (hb : Byts p) : Byts y.1 ∧ Byts y.2 ∧ y.1.length ≤ p.length ∧ y.2.length ≤ p.length := by
  unfold sayL at h
  split at h
  · split at h
    · cases h
    · injection h with h
      subst h
      have bt := hb.take (fi 35 p)
      have l1 := trL_len ((p.take (fi 35 p)).take (fi 58 (p.take (fi 35 p))))
      have l2 := trL_len ((p.take (fi 35 p)).drop (fi 58 (p.take (fi 35 p)) + 1))
      rw [List.length_take, List.length_take] at l1
      rw [List.length_drop, List.length_take] at l2
      dsimp only
      exact ⟨lw_byts (bt.take _).tr, (bt.drop _).tr, by rw [List.length_map]; omega, by omega⟩
  · cases h
theorem pcs_ok : ∀ (cur l : List Int), Byts cur → Byts l → ∀ p ∈ pcs cur l, Byts p ∧ p.length ≤ cur.length + l.length
  | cur, [], hc, _, p, hp => by
    rw [show pcs cur [] = [cur] from rfl] at hp
    rw [List.mem_singleton.1 hp]
    exact ⟨hc, by simp⟩
  | cur, c :: t, hc, hl, p, hp => by
    unfold pcs at hp
    split at hp
    · rcases List.mem_cons.1 hp with rfl | hp
      · exact ⟨hc, by simp⟩
      · have := pcs_ok [] t Byts.nil hl.cons.2 p hp
        exact ⟨this.1, by have := this.2; simp at this ⊢; omega⟩
    · have := pcs_ok (cur ++ [c]) t (hc.append (Byts.mk hl.cons.1 Byts.nil)) hl.cons.2 p hp
      exact ⟨this.1, by have := this.2; simp at this ⊢; omega⟩
theorem lines_len (l : List Int) : (linesL l).length ≤ 5000 := by
  unfold linesL
  have h1 := List.length_filterMap_le sayL (pcs [] (limL l))
  have h2 := pcs_len [] (limL l)
  have h3 := (limL_len l).1
  omega
theorem lines_ok {l : List Int} (h : Byts l) : LnOk (linesL l) := by
  intro x hx
  obtain ⟨p, hp, he⟩ := List.mem_filterMap.1 hx
  obtain ⟨k1, k2⟩ := pcs_ok [] (limL l) Byts.nil (limL_byts h) p hp
  obtain ⟨m1, m2, m3, m4⟩ := say_ok he k1
  have := (limL_len l).1
  simp at k2
  exact ⟨m1, m2, by omega, by omega⟩
def awL : List (List Int × List Int) := [([117, 115, 101, 114, 45, 97, 103, 101, 110, 116], [66, 111, 116]), ([100, 105, 115, 97, 108, 108, 111, 119], [47, 97]), ([99, 114, 97, 119, 108, 45, 100, 101, 108, 97, 121], [49, 46, 53])]
theorem aw_lines : linesL (btL ⟨#[85, 115, 101, 114, 45, 65, 103, 101, 110, 116, 58, 32, 66, 111, 116, 32, 35, 32, 120, 13, 10, 68, 105, 115, 97, 108, 108, 111, 119, 58, 32, 47, 97, 10, 10, 99, 114, 97, 119, 108, 45, 100, 101, 108, 97, 121, 58, 32, 49, 46, 53, 10, 110, 111, 116, 104, 105, 110, 103]⟩) = awL := by decide +kernel
theorem aw_groups : grL awL = [⟨[[98, 111, 116]], [(false, [47, 97])], 1500⟩] := by rfl
theorem aw_delay : delL (btL ⟨#[50, 46, 48, 52, 55, 57]⟩) = some 2047 := by rfl
set_option maxHeartbeats 4000000 in
theorem awake9 (w : World) : Calls Tryd.prog 12 #[] w fun e w' => e = .returned (.bool true) ∧ Below w.heap.size w w' := by
  have PA := Lib.hid (fun W : World => lparse_at ⟨#[85, 115, 101, 114, 45, 65, 103, 101, 110, 116, 58, 32, 66, 111, 116, 32, 35, 32, 120, 13, 10, 68, 105, 115, 97, 108, 108, 111, 119, 58, 32, 47, 97, 10, 10, 99, 114, 97, 119, 108, 45, 100, 101, 108, 97, 121, 58, 32, 49, 46, 53, 10, 110, 111, 116, 104, 105, 110, 103]⟩ (by decide) awL aw_lines W trivial)
  have hok : LnOk awL := by rw [← aw_lines]; exact lines_ok (btL_byts _)
  have GR := Lib.hid (fun (a : Option Addr) (cap : Nat) (W : World) (h : RdLn W a awL) => groups_at awL 3 rfl (by omega) a cap hok W h)
  have DE := Lib.hid (fun W : World => ldelay_at ⟨#[50, 46, 48, 52, 55, 57]⟩ (by decide) (some 2047) aw_delay W trivial)
  have LO := Lib.hid (fun W : World => rlower_at ⟨#[65]⟩ ⟨#[97]⟩ rfl (by decide) W)
  clear hok
  go_enter Tryd.func12, Tryd.ntmps12
  go_wp2_with fail
  refine (PA.out _).mono ?_
  rintro e w1 ⟨a, cap, rfl, ho, hb⟩
  obtain ⟨g, rfl, _⟩ := Own.some_ ho (by decide)
  have HL := Lib.hid (rdLn_own ho rfl)
  have c0 : w1.cell? ⟨g, 0, none⟩ = some (.string ⟨#[117, 115, 101, 114, 45, 97, 103, 101, 110, 116]⟩) := ho.cell rfl
  have c1 : w1.cell? ⟨g, 1, none⟩ = some (.string ⟨#[66, 111, 116]⟩) := ho.cell rfl
  have C0 := Lib.hid c0
  have C1 := Lib.hid c1
  have B1 := Lib.hid hb
  clear ho hb c0 c1
  rw [show awL.length = 3 from rfl]
  go_wp2_with fail
  refine (GR.out _ _ _ HL.out).mono ?_
  rintro e w2 ⟨a2, cap2, GA, rfl, hg, hm, hb⟩
  have C0 := Lib.hid ((hb.cell (World.block_lt_of_cell? _ _ C0.out)).trans C0.out)
  have C1 := Lib.hid ((hb.cell (World.block_lt_of_cell? _ _ C1.out)).trans C1.out)
  have B2 := Lib.hid (B1.out.trans (hb.mono B1.out.size))
  rw [aw_groups] at hm
  have hl := congrArg List.length hm
  rw [List.length_map] at hl
  obtain ⟨x, rfl⟩ := List.length_eq_one_iff.1 hl
  clear hl
  · obtain ⟨gp, aa, ac, ra, rc⟩ := x
    have hgp : gp = ⟨[[98, 111, 116]], [(false, [47, 97])], 1500⟩ := by
      injection hm
    subst hgp
    obtain ⟨g2, rfl, _⟩ := Own.some_ hg.own (by simp)
    have h1 := hg.one (i := 0) rfl
    have G1 := Lib.hid h1
    clear hm hg hb h1
    go_wp2_with fail
    refine (DE.out _).mono ?_
    rintro e w3 ⟨rfl, hb⟩
    have c0 := (hb.cell (World.block_lt_of_cell? _ _ C0.out)).trans C0.out
    have c1 := (hb.cell (World.block_lt_of_cell? _ _ C1.out)).trans C1.out
    have h1 := G1.out.later hb
    have B3 := Lib.hid (B2.out.trans (hb.mono B2.out.size))
    have d0 := h1.c0
    have d1 := h1.c1
    have d2 := h1.c2
    obtain ⟨r, hr, cr⟩ := h1.ag 0 _ rfl
    dsimp only at hr d0 d1 d2 cr
    subst hr
    have cr2 : w3.cell? ⟨r, 0, none⟩ = some (.string ⟨#[98, 111, 116]⟩) := cr
    clear hb h1 cr G1 C0 C1
    simp only [Option.getD_some, Option.isSome_some]
    go_wp2_with fail
    refine (LO.out _).mono ?_
    rintro e w4 ⟨rfl, hb⟩
    have B4 := Lib.hid (B3.out.trans (hb.mono B3.out.size))
    clear hb
    go_wp2
    go_ret
    exact ⟨rfl, B4.out⟩
end Go.Proofs.YtejmhndlfbmpdaaDoor
