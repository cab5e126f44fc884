/- Part of a chain: SpOpn, SpSiz. -/
import Derived.Test.YtimkgaokcldgkaaGreatDoorFq24
import Derived.Test.YtimkgaokcldgkaaGreatDoorFq25
/- Package spill: Open. -/
namespace Go.Proofs.YtimkgaokcldgkaaGreatDoor
open Go Go.RowKit Go.Maps
set_option linter.unusedVariables false
set_option linter.unusedSimpArgs false
set_option maxRecDepth 100000

theorem rdC_of_own {w : World} {B n c size : Nat} {E : TypeId} {a : Option Addr} {xs : List Value} (h : Own w B E size a n c xs) (hp : 0 < size) : RdC w a xs := fun j u hj => by
  have hl := (List.getElem?_eq_some_iff.1 hj).1
  rcases h.form with ⟨rfl, rfl, rfl⟩ | ⟨g, rfl, _, _⟩
  · rw [h.len, Nat.zero_mul] at hl
    omega
  · exact ⟨g, 0, rfl, by rw [Nat.zero_add]; exact h.cell hj⟩
set_option maxHeartbeats 2000000 in
theorem open_at {w : World} {B d bm uc : Nat} {S : Sgs} {V : VF} {ua : Option Addr} {un : Pcs} {most beh fal : Int} (h : Dm w B d bm S V ua uc un most beh fal) (hby : BytS S) (n : Int) :
    Calls Tryz.prog 6 #[.pointer (some ⟨d, 0, none⟩), .int .i64 n] w fun e w' => ∃ (L pm : Nat) (wm : Option Nat) (x : Ix), e = .returned (.tuple #[.pointer (some ⟨L, 0, none⟩), .int .i64 0]) ∧ RepR S (S.map Prod.fst) ix0 x ∧ IxM w' w.heap.size L 2 #[.pointer (some ⟨d, 0, none⟩), .int .i64 n, .map (some pm), .map wm, .int .i64 x.top] 66 pm wm x ∧ Below w.heap.size w w' := by
  obtain ⟨N, hN⟩ : ∃ N, S.length = N := ⟨_, rfl⟩
  have hc := h.cnt
  rw [hN] at hc
  have HD := Lib.hid h
  have SG := Lib.hid (segs_at h N hN)
  have HKW : Hid (∀ s ∈ S.map Prod.fst, okI s) := Lib.hid (fun s hs => h.kw s (gS_keys.1 hs))
  have RP := Lib.hid (fun (W : World) (a : Option Addr) (c : Nat) (hW : Below w.heap.size w W) (hr : RdC W a (inL (S.map Prod.fst))) => replay_at (h.later hW) hby (S.map Prod.fst) N c a (by rw [List.length_map, hN]) hc hr HKW.out)
  clear h hN
  go_enter Tryz.func6, Tryz.ntmps6
  go_wp2_with fail
  refine SG.out.mono ?_
  rintro e w1 ⟨a, c, rfl, ho, hb⟩
  have B1 := Lib.hid hb
  have R2 := Lib.hid (RP.out w1 a c hb (by
    have h9 := rdC_of_own ho (by decide)
    unfold inL
    rw [List.map_map]
    exact h9))
  clear ho hb SG RP
  go_wp2_with fail
  refine R2.out.mono ?_
  rintro e w2 ⟨x, pm, wm, rfl, hrep, hp, hw, hne, hpb, hwb, hb2⟩
  have FIN : Hid (RepR S (S.map Prod.fst) ix0 x ∧ IxM (w2.alloc (.cells #[.pointer (some ⟨d, 0, none⟩), .int .i64 n, .map (some pm), .map wm, .int .i64 x.top] 66)) w.heap.size w2.heap.size 2 #[.pointer (some ⟨d, 0, none⟩), .int .i64 n, .map (some pm), .map wm, .int .i64 x.top] 66 pm wm x ∧ Below w.heap.size w (w2.alloc (.cells #[.pointer (some ⟨d, 0, none⟩), .int .i64 n, .map (some pm), .map wm, .int .i64 x.top] 66))) := Lib.hid (by
    have b2 := B1.out.trans (hb2.mono B1.out.size)
    have al := (Below.refl w2.heap.size w2).alloc (Nat.le_refl _) (.cells #[.pointer (some ⟨d, 0, none⟩), .int .i64 n, .map (some pm), .map wm, .int .i64 x.top] 66)
    refine ⟨hrep, ⟨Box.new w2 _ _, rfl, rfl, rfl, hp.later al, hw.later (fun m hm => al.block m ?_), hne, b2.size, Nat.le_trans B1.out.size hpb, fun m hm => Nat.le_trans B1.out.size (hwb m hm)⟩, b2.alloc b2.size _⟩
    rcases hw with ⟨e, _⟩ | ⟨m2, e, hm2⟩
    · rw [e] at hm; cases hm
    · rw [e] at hm
      cases hm
      exact hm2.lt)
  clear hrep hp hw hne hpb hwb hb2
  go_wp2_with fail
  go_ret2
  exact ⟨_, pm, wm, x, rfl, FIN.out⟩
end Go.Proofs.YtimkgaokcldgkaaGreatDoor
/- Package spill: Size. -/
namespace Go.Proofs.YtimkgaokcldgkaaGreatDoor
open Go Go.RowKit Go.Maps
set_option linter.unusedVariables false
set_option linter.unusedSimpArgs false
set_option maxRecDepth 100000

theorem size_at {w : World} {B d bm uc : Nat} {S : Sgs} {V : VF} {ua : Option Addr} {un : Pcs} {most beh fal : Int} (h : Dm w B d bm S V ua uc un most beh fal) {L : Nat} {n : Int} {p q : Value} {z : Value} (hl : Box w L #[.pointer (some ⟨d, 0, none⟩), .int .i64 n, p, q, z] 66) (N : Nat) (hN : S.length = N) :
    Calls Tryz.prog 46 #[.pointer (some ⟨L, 0, none⟩)] w fun e w' => e = .returned (.int .i64 (N : Int)) ∧ Below w.heap.size w w' := by
  have SG := Lib.hid (segs_at h N hN)
  have c0 := hl.cell 0
  clear h hN
  go_enter Tryz.func46, Tryz.ntmps46
  go_wp2_with fail
  refine SG.out.mono ?_
  rintro e w1 ⟨a, c, rfl, _, hb⟩
  go_wp2_with fail
  go_ret
  exact ⟨rfl, hb⟩
end Go.Proofs.YtimkgaokcldgkaaGreatDoor
