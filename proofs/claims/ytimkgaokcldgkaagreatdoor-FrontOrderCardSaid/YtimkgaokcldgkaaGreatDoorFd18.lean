/- Part of a chain: SpMod. -/
import Derived.Test.YtimkgaokcldgkaaGreatDoorFd17
import Derived.Test.YtimkgaokcldgkaaGreatDoorFd14
import Derived.Test.YtimkgaokcldgkaaGreatDoorFd00
import Derived.Sort.KeysCollected
/- Package spill, told by lists: what each function makes of a disk and an index. No program here but the types. -/
namespace Go.Proofs.YtimkgaokcldgkaaGreatDoor
open Go Go.RowKit
set_option linter.unusedVariables false
set_option linter.unusedSimpArgs false
set_option maxRecDepth 10000

/-- The records that bytes begin with. -/
def scanN : Nat → List Int → List Rc
  | 0, _ => []
  | k + 1, b => match decR b with
    | none => []
    | some (r, n) => r :: scanN k (b.drop n)
def scanL (b : List Int) : List Rc := scanN b.length b
def usedL (b : List Int) : Nat := (flatR (scanL b)).length
theorem flatR_cons (r : Rc) (t : List Rc) : flatR (r :: t) = encR r ++ flatR t := by simp [flatR]
theorem scanN_ok : ∀ (k : Nat) (b : List Int), Byts b → b.length ≤ k → Scanned b (scanN k b) (flatR (scanN k b)).length
  | 0, b, hb, hk => by
    obtain rfl : b = [] := List.eq_nil_of_length_eq_zero (by omega)
    exact ⟨by simp [scanN], rfl, by simp [scanN, flatR], by simp [scanN, flatR, decR]⟩
  | k + 1, b, hb, hk => by
    unfold scanN
    cases hd : decR b with
    | none => exact ⟨by simp, rfl, by simp [flatR], by simpa [flatR] using hd⟩
    | some p =>
      obtain ⟨r, n⟩ := p
      obtain ⟨h1, h2, h3, h4, h5, h6⟩ := enc_inv hb hd
      obtain ⟨i1, i2, i3, i4⟩ := scanN_ok k (b.drop n) (hb.drop n) (by rw [List.length_drop]; omega)
      dsimp only
      have hl : (flatR (r :: scanN k (b.drop n))).length = n + (flatR (scanN k (b.drop n))).length := by rw [flatR_cons, List.length_append, h5]
      refine ⟨fun x hx => ?_, rfl, ?_, ?_⟩
      · rcases List.mem_cons.1 hx with rfl | hx
        · exact ⟨h1, h2⟩
        · exact i1 x hx
      · rw [hl, ← List.drop_drop, flatR_cons, List.append_assoc, ← i3]
        exact h6
      · rw [hl, ← List.drop_drop]
        exact i4
theorem scan_ok {b : List Int} (hb : Byts b) : Scanned b (scanL b) (usedL b) := scanN_ok _ _ hb (Nat.le_refl _)
theorem scan_eq {b : List Int} (hb : Byts b) {rs : List Rc} {n : Nat} (h : Scanned b rs n) : rs = scanL b ∧ n = usedL b := Scanned.one h (scan_ok hb)
theorem used_le {b : List Int} (hb : Byts b) : usedL b ≤ b.length := by
  have h := (scan_ok hb).2.2.1
  have := congrArg List.length h
  rw [List.length_append] at this
  unfold usedL
  omega
/-- The index that the records of some segments give. -/
def replL (S : Sgs) (l : List Int) : Ix := l.foldl (fun x s => recsI s 0 (scanL (gD S s)) x) ix0
theorem repR_eq {S : Sgs} (hb : BytS S) {l : List Int} {x y : Ix} (h : RepR S l x y) : y = l.foldl (fun x s => recsI s 0 (scanL (gD S s)) x) x := by
  induction h with
  | nil x => rfl
  | snoc h1 h2 ih =>
    rw [List.foldl_append, ← ih, (scan_eq (hb _) h2).1]
    rfl
/-- What lies in a place. -/
def rdL (S : Sgs) (p : Pl) : Option Rc :=
  if ((gD S p.seg).length : Int) < p.off then none else match scanL (partL S p) with
  | [r] => some r
  | _ => none
theorem part_byts {S : Sgs} (hb : BytS S) (p : Pl) : Byts (partL S p) := ((hb p.seg).drop _).take _
theorem rdQ_eq {S : Sgs} (hb : BytS S) {p : Pl} {o : Option Rc} (h : RdQ S p o) : o = rdL S p := by
  unfold rdL
  rcases h with ⟨h1, rfl⟩ | ⟨h1, rs, n, h2, h3⟩
  · rw [if_pos h1]
  · rw [if_neg (by omega), ← (scan_eq (part_byts hb p) h2).1]
    rcases h3 with ⟨r, rfl, rfl⟩ | ⟨h3, rfl⟩
    · rfl
    · match rs, h3 with
      | [], _ => rfl
      | [r], h3 => exact absurd rfl h3
      | a :: b :: t, _ => rfl
/-- A disk. -/
structure Ds where
  S : Sgs
  un : Pcs
  most : Int
  beh : Int
  fal : Int
def Ds.tick (D : Ds) : Ds := { D with beh := wfH D.beh, fal := wfF D.beh D.fal }
def appD (D : Ds) (n : Int) (b : List Int) : Ds × Int :=
  if apF D.S D.most n b.length = true then (D, 5)
  else if wfB D.beh D.fal = true then (D.tick, 7)
  else (⟨pS D.S n (gD D.S n ++ b), D.un ++ [(n, b.length)], D.most, wfH D.beh, wfF D.beh D.fal⟩, 0)
def syncD (D : Ds) : Ds × Int := if wfB D.beh D.fal = true then (D.tick, 7) else (⟨D.S, [], D.most, wfH D.beh, wfF D.beh D.fal⟩, 0)
def dropD (D : Ds) (n : Int) : Ds × Int :=
  if (gS D.S n).isSome = true then (if wfB D.beh D.fal = true then (D.tick, 7) else (⟨dS D.S n, keepP n D.un, D.most, wfH D.beh, wfF D.beh D.fal⟩, 0)) else (D, 4)
def segsL (D : Ds) : List Int := D.S.map Prod.fst
def freshP (D : Ds) (n : Int) (size : Nat) : Pl × Bool := (⟨(followL (segsL D)).1, 0, size⟩, (followL (segsL D)).2 && decide ((D.S.length : Int) < n))
def lastP (D : Ds) (size : Nat) (last : Int) : Option Pl :=
  if usedL (gD D.S last) = (gD D.S last).length ∧ usedL (gD D.S last) + size ≤ 2048 then some ⟨last, (usedL (gD D.S last) : Int), size⟩ else none
/-- Where a record of some size goes. -/
def roomL (D : Ds) (n : Int) (size : Nat) : Pl × Bool :=
  if n < (D.S.length : Int) then (nowh, false) else
  match (segsL D).getLast?.bind (lastP D size) with
  | some p => (p, true)
  | none => freshP D n size
def writeD (D : Ds) (seg : Int) (b : List Int) : Ds × Int := if (appD D seg b).2 = 0 then syncD (appD D seg b).1 else appD D seg b
/-- A log: its disk, how many segments it may use, its index. -/
structure Lg where
  D : Ds
  n : Int
  x : Ix
def encO (r : Rc) : List Int := if soundR r then encR r else []
def atI (x : Ix) (id : Int) : Pl := (gA x.puts id).getD pl0
def loadL (g : Lg) (id : Int) : Option Rc := if (gA g.x.puts id).isSome = true then rdL g.D.S (atI g.x id) else none
def srtS (l : List ByteArray) : List ByteArray := ((l.map fun s => s.data.toList).mergeSort leB).map fun b => ⟨b.toArray⟩
def waitI (x : Ix) (h : ByteArray) : Wt := (gA x.waits h).getD wt0
/-- All records of the state, with their places. -/
def recP (g : Lg) (id : Int) : Option (Pl × List Int) := (loadL g id).map fun r => (atI g.x id, encO ⟨1, r.id, r.host, r.path, r.prio, r.till⟩)
def recW (x : Ix) (h : ByteArray) : Pl × List Int := ((waitI x h).at_, encO ⟨3, 0, h, ⟨#[]⟩, 0, (waitI x h).till⟩)
def recT (x : Ix) : List (Pl × List Int) := if (!(gA x.puts x.top).isSome && decide (0 < x.top)) = true then [(nowh, encO ⟨2, x.top, ⟨#[]⟩, ⟨#[]⟩, 0, 0⟩)] else []
def recsL (g : Lg) : List (Pl × List Int) := (srtI (g.x.puts.map Prod.fst)).filterMap (recP g) ++ (srtS (g.x.waits.map Prod.fst)).map (recW g.x) ++ recT g.x
instance : Inhabited Pl := ⟨pl0⟩
def cmpPl (a b : Pl) : Int := orI (cmpI a.seg b.seg) (cmpI a.off b.off)
def ltP (a b : Pl × List Int) : Bool := decide (cmpPl a.1 b.1 < 0)
def sortedL (g : Lg) : List (Pl × List Int) := (stabS ltP (recsL g).toArray).toList
def packStep (cs : List (List Int)) (b : List Int) : List (List Int) := match cs.findIdx? (fun c => decide (c.length + b.length ≤ 2048)) with
  | none => cs ++ [b]
  | some i => cs.set i (cs.getD i [] ++ b)
def packL (g : Lg) : List (List Int) := ((sortedL g).map Prod.snd).foldl packStep []
/-- New segments are written: the disk, all segments then, and the error. -/
def rewL : Ds → List Int → List (List Int) → Ds × List Int × Int
  | D, all, [] => ((syncD D).1, all, (syncD D).2)
  | D, all, c :: t => if (followL all).2 = true then (if (appD D (followL all).1 c).2 = 0 then rewL (appD D (followL all).1 c).1 (all ++ [(followL all).1]) t else ((appD D (followL all).1 c).1, all, (appD D (followL all).1 c).2)) else (D, all, 5)
def rewriteL (g : Lg) : Ds × List Int × Int := if g.n < ((packL g).length : Int) then (g.D, [], 5) else
  ((rewL g.D (segsL g.D) (packL g)).1, (rewL g.D (segsL g.D) (packL g)).2.1.drop (segsL g.D).length, (rewL g.D (segsL g.D) (packL g)).2.2)
def dropsD : Ds → List Int → Ds × Int
  | D, [] => (D, 0)
  | D, s :: t => if (dropD D s).2 = 0 then dropsD (dropD D s).1 t else dropD D s
def sameQ (a b : Option Rc) : Bool := decide ((a.getD rc0).id = (b.getD rc0).id) && (decide ((a.getD rc0).host = (b.getD rc0).host) && (decide ((a.getD rc0).path = (b.getD rc0).path) && (decide ((a.getD rc0).prio = (b.getD rc0).prio) && decide ((a.getD rc0).till = (b.getD rc0).till))))
def holdsL (g : Lg) (rest all : Ix) : Bool :=
  (srtI (g.x.puts.map Prod.fst)).all (fun id => (gA rest.puts id).isSome && sameQ (rdL g.D.S (atI rest id)) (loadL g id)) &&
  ((srtI (rest.puts.map Prod.fst)).all (fun id => (gA all.puts id).isSome) &&
  ((srtS (all.waits.map Prod.fst)).all (fun h => decide ((waitI rest h).till = (waitI all h).till)) && decide (rest.top = all.top)))
def followX (x rest : Ix) : Ix :=
  { x with
    puts := (srtI (x.puts.map Prod.fst)).foldl (fun S id => pA S id (atI rest id)) x.puts,
    waits := (srtS (x.waits.map Prod.fst)).foldl (fun S h => if (waitI rest h).till = ((gA S h).getD wt0).till then pA S h (waitI rest h) else S) x.waits }
def pruneGo : List Int → Lg → Ix → Lg × Int
  | [], g, _ => (g, 0)
  | s :: t, g, all =>
    if holdsL g (replL g.D.S ((segsL g.D).filter fun k => decide (k ≠ s))) all = true then
      (if (dropsD g.D [s]).2 = 0 then pruneGo t ⟨(dropsD g.D [s]).1, g.n, followX g.x (replL g.D.S ((segsL g.D).filter fun k => decide (k ≠ s)))⟩ (replL g.D.S ((segsL g.D).filter fun k => decide (k ≠ s)))
      else (⟨(dropsD g.D [s]).1, g.n, g.x⟩, (dropsD g.D [s]).2))
    else pruneGo t g all
def pruneL (g : Lg) : Lg × Int := if (syncD g.D).2 = 0 then pruneGo (segsL (syncD g.D).1) ⟨(syncD g.D).1, g.n, g.x⟩ (replL (syncD g.D).1.S (segsL (syncD g.D).1)) else (⟨(syncD g.D).1, g.n, g.x⟩, (syncD g.D).2)
def compactGo (g : Lg) : Lg × Int :=
  if (rewriteL g).2.2 = 0 then (⟨(dropsD (rewriteL g).1 (segsL g.D)).1, g.n, replL (rewriteL g).1.S (rewriteL g).2.1⟩, (dropsD (rewriteL g).1 (segsL g.D)).2)
  else (⟨(dropsD (rewriteL g).1 (rewriteL g).2.1).1, g.n, g.x⟩, (rewriteL g).2.2)
def compactL (g : Lg) : Lg × Int := if g.n < (g.D.S.length : Int) then (if (pruneL g).2 = 0 then compactGo (pruneL g).1 else pruneL g) else compactGo g
/-- A record is written: where, and the error. -/
def noteL (g : Lg) (r : Rc) : Lg × Pl × Int :=
  if soundR r then
    (if (roomL g.D g.n (encR r).length).2 = true then
      (⟨(writeD g.D (roomL g.D g.n (encR r).length).1.seg (encR r)).1, g.n, g.x⟩, (if (writeD g.D (roomL g.D g.n (encR r).length).1.seg (encR r)).2 = 0 then (roomL g.D g.n (encR r).length).1 else nowh), (writeD g.D (roomL g.D g.n (encR r).length).1.seg (encR r)).2)
    else ((compactL g).1, nowh, (compactL g).2))
  else (g, nowh, 2)
def topped (g : Lg) (id : Int) : Lg := ⟨g.D, g.n, { g.x with top := max g.x.top id }⟩
/-- What Put makes of a log that has a place, or has none. -/
def putAt (g : Lg) (r : Rc) (at_ : Pl) : Lg × Int :=
  if (writeD g.D at_.seg (encR r)).2 = 0 then (⟨(writeD g.D at_.seg (encR r)).1, g.n, { g.x with puts := pA g.x.puts r.id at_ }⟩, 0) else (⟨(writeD g.D at_.seg (encR r)).1, g.n, g.x⟩, (writeD g.D at_.seg (encR r)).2)
def putL (g : Lg) (r : Rc) : Lg × Int :=
  if soundR r then
    (if (roomL g.D g.n (encR r).length).2 = true then putAt (topped g r.id) r (roomL g.D g.n (encR r).length).1
    else if (compactL g).2 = 0 then
      (if (roomL (compactL g).1.D (compactL g).1.n (encR r).length).2 = true then putAt (topped (compactL g).1 r.id) r (roomL (compactL g).1.D (compactL g).1.n (encR r).length).1
      else (topped (compactL g).1 r.id, 5))
    else (topped (compactL g).1 r.id, (compactL g).2))
  else (g, 2)
def waitRc (h : ByteArray) (till : Int) : Rc := ⟨3, 0, h, ⟨#[]⟩, 0, till⟩
def waitNote (g : Lg) (h : ByteArray) (till : Int) : Lg × Pl × Int := noteL ⟨g.D, g.n, pauseI g.x h till nowh⟩ (waitRc h till)
def waitL (g : Lg) (h : ByteArray) (till : Int) : Lg × Int :=
  if soundR (waitRc h till) then
    (if newsI g.x h till = true ∧ (waitNote g h till).2.1 ≠ nowh then (⟨(waitNote g h till).1.D, (waitNote g h till).1.n, { (waitNote g h till).1.x with waits := pA (waitNote g h till).1.x.waits h ⟨till, (waitNote g h till).2.1⟩ }⟩, (waitNote g h till).2.2)
    else ((waitNote g h till).1, (waitNote g h till).2.2))
  else (g, 2)
def openL (D : Ds) (n : Int) : Lg := ⟨D, n, replL D.S (segsL D)⟩
end Go.Proofs.YtimkgaokcldgkaaGreatDoor
