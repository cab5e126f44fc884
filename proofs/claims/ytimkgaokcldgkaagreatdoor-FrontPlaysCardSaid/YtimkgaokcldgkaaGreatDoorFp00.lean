/- Part of a chain: Texts, FnOrM, LastP. -/
import Derived.Test.YtimkgaokcldgkaaGreatDoorFq34
import Derived.Test.YtimkgaokcldgkaaGreatDoorFq33
import Derived.Test.YtimkgaokcldgkaaGreatDoorFq07
/- A slice of strings that came in. -/
namespace Go.Proofs.YtimkgaokcldgkaaGreatDoor
open Go.RowKit

end Go.Proofs.YtimkgaokcldgkaaGreatDoor
/- FrontOrder: what its loops hold. -/
namespace Go.Proofs.YtimkgaokcldgkaaGreatDoor
open Go Go.RowKit Go.Maps
set_option linter.unusedVariables false
set_option linter.unusedSimpArgs false
set_option maxRecDepth 100000

section
variable {w wr w' : World} {d L f N K : Nat} {g g2 : Lg} {RD RL RF RD2 RL2 RF2 : Nat → Prop} {F : Ft} {bs bs' : Bxs} {rs : Int → List Rq} {room : Int} {ss : List ByteArray} {zs : List Int} {i : Nat}
theorem FtB.sub (h : FtB w d L K g RD RL f N RF F bs wr) (hs : ∀ b ∈ bs', b ∈ bs) : FtB w d L K g RD RL f N RF F bs' wr := ⟨h.ft, fun b hm => h.bx b (hs b hm)⟩
theorem FtB.put (h : FtB w d L K g RD RL f N RF F bs wr) {b : Nat} {o o' : Obj} (hb : (b, o) ∈ bs) (ho : Only (fun k => k = b) wr w') (hw : w'.heap[b]? = some o') : FtB w d L K g RD RL f N RF F [(b, o')] w' := by
  obtain ⟨q1, q2, q3, q4⟩ := h.bx _ hb
  refine ⟨⟨h.ft.sp.only ho (fun k hk => by subst hk; exact ⟨q2, q4⟩), h.ft.fr.only ho (fun k hk e => q3 (by rw [← e]; exact hk)), h.ft.ap, h.ft.ge⟩, fun c hc => ?_⟩
  rw [List.mem_singleton] at hc
  subst hc
  exact ⟨hw, q2, q3, q4⟩
end
end Go.Proofs.YtimkgaokcldgkaaGreatDoor
/- As XLast: the search for what waits for an operation, cut short: an operation waits for earlier ones alone. No program here. -/
namespace Go.Proofs.YtimkgaokcldgkaaGreatDoor
open Go
variable {P : Program} {ops : Array Oper} {Q : Exit → Act → World → Prop} {md : Region.Mode} {S : World → Prop} {k : Nat}

end Go.Proofs.YtimkgaokcldgkaaGreatDoor
