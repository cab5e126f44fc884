/- Part of a chain: LastP. -/
import Derived.Test.YteinblpkcpjpnaaGreatDoorSc03
/- As XLast: the search for what waits for an operation, cut short: an operation waits for earlier ones alone. No program here. -/
namespace Go.Proofs.YteinblpkcpjpnaaGreatDoor
open Go
variable {P : Program} {ops : Array Oper} {Q : Exit → Act → World → Prop} {md : Region.Mode} {S : World → Prop} {k : Nat}

/-- Does j wait for i, perhaps over others behind i? -/
def waitsP (md : Region.Mode) (ops : Array Oper) : Nat → Nat → Nat → Bool
  | 0, _, _ => false
  | n + 1, j, i => match ops[j]? with
    | some o => o.after.any fun e => Region.binds md e && (e.on == i || (Nat.blt i e.on && waitsP md ops n e.on i))
    | none => false
theorem waits_of : ∀ (n j i : Nat), waitsP md ops n j i = true → waitsFor md ops n j i = true
  | 0, _, _, h => by simp [waitsP] at h
  | n + 1, j, i, h => by
    unfold waitsP at h
    unfold waitsFor
    split at h
    · rename_i o ho
      rw [ho]
      obtain ⟨e, he, h⟩ := Array.any_eq_true'.1 h
      simp only [Bool.and_eq_true, Bool.or_eq_true] at h
      refine Array.any_eq_true'.2 ⟨e, he, ?_⟩
      simp only [Bool.and_eq_true, Bool.or_eq_true]
      refine ⟨h.1, ?_⟩
      rcases h.2 with h2 | ⟨_, h2⟩
      · exact Or.inl h2
      · exact Or.inr (waits_of n e.on i h2)
    · cases h
theorem wpAnyL_takeP {i : Nat} {oi : Oper} {v : Value} {fuel : Nat} {listed : Array Bool} {a : Act} {w : World} (hi : ops[i]? = some oi)
    (hs : Region.noSelect ops = true) (hf : Region.free md ops listed i = true) (hr : (Region.ready md ops listed).contains i = true) (hw : waitsP md ops ops.size k i = true)
    (hQ : ∀ c a w, Q (.panic c) (a.put oi.dst v) w → Q (.panic c) a w) (hik : (i == k) = false) (hc : Closed md ops listed) (hy : YieldsIf P ops S oi v a) (hS : S w)
    (h : Closed md ops (listed.setIfInBounds i true) → wpAnyL P md ops Q S k fuel (listed.setIfInBounds i true) (a.put oi.dst v) w) : wpAnyL P md ops Q S k (fuel + 1) listed a w :=
  wpAnyL_take hi hs hf hr (waits_of _ _ _ hw) hQ hik hc hy hS h
end Go.Proofs.YteinblpkcpjpnaaGreatDoor
