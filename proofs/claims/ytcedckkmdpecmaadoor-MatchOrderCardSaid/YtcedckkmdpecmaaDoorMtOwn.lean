/- Slices of rules of one's own, and what is appended to them. -/
import Derived.Test.YtcedckkmdpecmaaDoorMtNN
import Derived.Test.YtcedckkmdpecmaaDoorRowB
import Derived.Test.YtcedckkmdpecmaaDoorLast
namespace Go.Proofs.YtcedckkmdpecmaaDoor
open Go.RowKit
set_option linter.unusedVariables false
set_option linter.unusedSimpArgs false

def OwnL (w : World) (B : Nat) (a : Option Addr) (n cap : Nat) (rs : List Rl) : Prop := w.ownsRow B 34 2 (.slice a n cap) n (flatL rs)
theorem OwnL.len {w : World} {B : Nat} {a : Option Addr} {n cap : Nat} {rs : List Rl} (h : OwnL w B a n cap rs) : rs.length = n := by
  have hl := h.1
  rw [flatL_len] at hl
  omega
theorem OwnL.rd {w : World} {B : Nat} {a : Option Addr} {n cap : Nat} {rs : List Rl} (h : OwnL w B a n cap rs) : RdR w a rs := rdr_of_own h
theorem OwnL.alloc {w : World} {B : Nat} {a : Option Addr} {n cap : Nat} {rs : List Rl} (h : OwnL w B a n cap rs) (o : Obj) : OwnL (w.alloc o) B a n cap rs := World.ownsRow.alloc h o
theorem OwnL.drew {w : World} {B : Nat} {a : Option Addr} {n cap : Nat} {rs : List Rl} (h : OwnL w B a n cap rs) : OwnL w.drew B a n cap rs := h
theorem OwnL.cap_le {w : World} {B : Nat} {a : Option Addr} {n cap : Nat} {rs : List Rl} (h : OwnL w B a n cap rs) : n ≤ cap := by
  rcases h.2 with ⟨e, h0⟩ | ⟨g, c, cur, e, _, _, hnc, _⟩
  · omega
  · injection e with _ _ e3
    rw [e3]
    exact hnc
theorem OwnL.later {w w' : World} {B : Nat} {a : Option Addr} {n cap : Nat} {rs : List Rl} (h : OwnL w B a n cap rs) (hb : Below w.heap.size w w') : OwnL w' B a n cap rs := by
  refine ⟨h.1, ?_⟩
  rcases h.2 with h | ⟨g, c, cur, e, hB, hg, hr⟩
  · exact Or.inl h
  · exact Or.inr ⟨g, c, cur, e, hB, (hb.block g (Array.getElem?_eq_some_iff.1 hg).1).trans hg, hr⟩
theorem OwnL.mono {w : World} {B B' : Nat} {a : Option Addr} {n cap : Nat} {rs : List Rl} (h : OwnL w B a n cap rs) (hB : B' ≤ B) : OwnL w B' a n cap rs := by
  refine ⟨h.1, ?_⟩
  rcases h.2 with h | ⟨g, c, cur, e, hb, hr⟩
  · exact Or.inl h
  · exact Or.inr ⟨g, c, cur, e, Nat.le_trans hB hb, hr⟩
theorem OwnL.empty {w : World} {B : Nat} (hB : B ≤ w.heap.size) : OwnL (w.alloc (.cells #[] 34)) B (some ⟨w.heap.size, 0, none⟩) 0 0 [] :=
  World.ownsRow_lit (base := B) (e := 34) (size := 2) w #[] 0 hB (by unfold maxLen; omega) (by simp)
theorem OwnL.plain {w : World} {B : Nat} {a : Option Addr} {n cap : Nat} {rs : List Rl} (h : OwnL w B a n cap rs) (h0 : 0 < n) : ∃ g, a = some ⟨g, 0, none⟩ := by
  rcases h.2 with ⟨e, h1⟩ | ⟨g, c, cur, e, hb, hg, _⟩
  · omega
  · injection e with e1 e2 e3
    exact ⟨g, e1⟩
theorem cells_new (w : World) (l : List Value) (t : TypeId) : ∀ j u, l[j]? = some u → (w.alloc (.cells l.toArray t)).cell? ((⟨w.heap.size, 0, none⟩ : Addr).add j) = some u := by
  intro j u hj
  rw [Go.WideShapes.add_plain, (Box.new w l.toArray t).cell (0 + j)]
  simpa using hj
theorem OwnL.cells {w : World} {B : Nat} {g n cap : Nat} {rs : List Rl} (h : OwnL w B (some ⟨g, 0, none⟩) n cap rs) : ∀ j u, (flatL rs)[j]? = some u → w.cell? ((⟨g, 0, none⟩ : Addr).add j) = some u := by
  intro j u hj
  rw [Go.WideShapes.add_plain, Nat.zero_add]
  have hlt := (List.getElem?_eq_some_iff.1 hj).1
  have hl := h.1
  exact (World.ownsRow.cellAt h j (by omega)).trans hj
theorem infoRule : (Tryd.prog.info? 34).map (fun i => (i.zero, i.size, i.bytes)) = some (some (.agg #[.bool false, .string ByteArray.empty]), 2, 24) := by kernel_rfl
section
variable {ops : Array Oper} {rest : List Oper} {o : Oper} {act : Act} {Q : Exit → Act → World → Prop} {w : World}
theorem wpList_appL (hgd : o.guard = none) (s x : Operand) (ho : o.op = .call { callee := .builtin .append, args := #[s, x], argTypes := #[29, 29] })
    (B : Nat) (a : Option Addr) (n cap : Nat) (rs : List Rl) (hs : act.eval s = .slice a n cap) (hown : OwnL w B a n cap rs)
    (b2 n2 c2 : Nat) (qs : List Rl) (hn2 : qs.length = n2) (hx : act.eval x = .slice (some ⟨b2, 0, none⟩) n2 c2) (hr : ∀ j u, (flatL qs)[j]? = some u → w.cell? ((⟨b2, 0, none⟩ : Addr).add j) = some u) (hl : n + n2 ≤ 1000000) (hB : B ≤ w.heap.size)
    (h : ∀ a' cap' w', OwnL w' B a' (n + n2) cap' (rs ++ qs) → Below B w w' → wpList Tryd.prog ops Q rest (act.put o.dst (.slice a' (n + n2) cap')) w') : wpList Tryd.prog ops Q (o :: rest) act w := by
  obtain ⟨i0, hi0, hz0, hz1, hz2⟩ := info_parts infoRule
  refine wpList_append_own_at _ hgd s x _ ho B 34 i0 _ 2 24 Tryd.underlying29 hi0 hz0 hz1 hz2 rfl (by decide) (.slice a n cap) _ _ hs hown ⟨b2, 0, none⟩ n2 c2 (flatL qs) hx (by rw [flatL_len, hn2]) hr (flatL_one qs) (by unfold maxLen; omega) (by omega) hB ?_
  intro v' w' hown' hg _ _
  obtain ⟨a', cap', rfl⟩ := own_slice hown'
  exact h a' cap' w' (by unfold OwnL; rw [flatL_append]; exact hown') ((Below.refl _ _).grown hg hB (fun k hk => (hown.lt k hk).1))
theorem step_appL {K : Act → World → Prop} {E : Prop} (hgd : o.guard = none) (s x : Operand) (ho : o.op = .call { callee := .builtin .append, args := #[s, x], argTypes := #[29, 29] })
    (B : Nat) (a : Option Addr) (n cap : Nat) (rs : List Rl) (hs : act.eval s = .slice a n cap) (hown : OwnL w B a n cap rs)
    (b2 n2 c2 : Nat) (qs : List Rl) (hn2 : qs.length = n2) (hx : act.eval x = .slice (some ⟨b2, 0, none⟩) n2 c2) (hr : ∀ j u, (flatL qs)[j]? = some u → w.cell? ((⟨b2, 0, none⟩ : Addr).add j) = some u) (hl : n + n2 ≤ 1000000) (hB : B ≤ w.heap.size)
    (h : ∀ a' cap' w', OwnL w' B a' (n + n2) cap' (rs ++ qs) → Below B w w' → K (act.put o.dst (.slice a' (n + n2) cap')) w') : if Region.wanted o (yielded ops act.tmps) = true then Oper.wp Tryd.prog o act w K Q else E := by
  have hw : Region.wanted o (yielded ops act.tmps) = true := by simp [Region.wanted, hgd]
  rw [if_pos hw]
  obtain ⟨i0, hi0, hz0, hz1, hz2⟩ := info_parts infoRule
  obtain ⟨v', w', hrun, hown', hg, _, _⟩ := run_append_own_at (P := Tryd.prog) w B 29 o.type 34 i0 _ 2 24 Tryd.underlying29 hi0 hz0 hz1 hz2 rfl (by decide) (.slice a n cap) _ _ hown ⟨b2, 0, none⟩ n2 c2 (flatL qs) (by rw [flatL_len, hn2]) hr (flatL_one qs) (by unfold maxLen; omega) (by omega) hB
  obtain ⟨a', cap', rfl⟩ := own_slice hown'
  unfold Oper.wp execOp
  simp only [ho, resolve, invoke, builtin, Sem.run_bind, Sem.run_pure, Result.andThen_ok, List.map_toArray, List.map_cons, List.map_nil, hs, hx, hrun]
  exact h a' cap' w' (by unfold OwnL; rw [flatL_append]; exact hown') ((Below.refl _ _).grown hg hB (fun k hk => (hown.lt k hk).1))
end
/-- Not too many, nor too long. -/
def fewR (rs : List Rl) : List Rl := (rs.take 20).map fun r => ⟨r.allow, c100 r.pat⟩
def cutR (r : Rl) : Rl := ⟨r.allow, c100 r.pat⟩
theorem fewR_size (rs : List Rl) : (fewR rs).length ≤ 20 ∧ ∀ r ∈ fewR rs, r.pat.size ≤ 100 := by
  constructor
  · unfold fewR; rw [List.length_map, List.length_take]; omega
  · intro r hr
    obtain ⟨x, _, rfl⟩ := List.mem_map.1 hr
    exact c100_size x.pat
end Go.Proofs.YtcedckkmdpecmaaDoor
