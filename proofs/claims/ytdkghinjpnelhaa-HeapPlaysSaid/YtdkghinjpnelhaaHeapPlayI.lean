/- The heap and the plain list side by side. -/
import Derived.Test.YtdkghinjpnelhaaHeapList
import Derived.Deep.RegionLaw
import Derived.RegionTactic
namespace Go.Proofs.Ytdkghinjpnelhaa
open Go.RowKit Go.Maps Go.WideMaps

theorem infoP : (Try.prog.info? 48).map (fun i => (i.zero, i.size, i.bytes)) = some (some (.agg #[.int .i64 0, .int .i64 0]), 2, 16) := by kernel_rfl

section
variable {P : Program} (w : World)
/-- append onto a row of one's own, at a step of a region that draws: whether or not there is anything to append. -/
theorem step_append_at {ops : Array Oper} {o : Oper} {a : Act} {K : Act → World → Prop} {Q : Exit → Act → World → Prop} {E : Prop} (hgd : o.guard = none) (s x : Operand) (t : TypeId)
    (ho : o.op = .call { callee := .builtin .append, args := #[s, x], argTypes := #[t, t] })
    (base : Nat) (e : TypeId) (i : TypeInfo) (z : Value) (size bytes : Nat) (ht : P.underlying t = some (.slice e)) (hi : P.info? e = some i) (hz : i.zero = some z)
    (hsize : i.size = size) (hby : i.bytes = bytes) (hzs : z.cells.size = size) (hsz : 0 < size)
    (v : Value) (n : Nat) (xs : List Value) (hs : a.eval s = v) (hown : w.ownsRow base e size v n xs)
    (ad : Addr) (m c : Nat) (news : List Value) (hx : a.eval x = .slice (some ad) m c) (hl : news.length = m * size) (hnews : ∀ j u, news[j]? = some u → w.cell? (ad.add j) = some u) (h1 : ∀ u ∈ news, u.oneCell' = true)
    (h63 : n + m ≤ maxLen) (hbytes : (n + m) * bytes ≤ 140737488355328) (hbase : base ≤ w.heap.size)
    (h : ∀ v' w', w'.ownsRow base e size v' (n + m) (xs ++ news) → w.grownBy w' v.ownBlock → (v' = .slice none 0 0 ↔ v = .slice none 0 0 ∧ m = 0) → (v'.ownBlock = v.ownBlock ∨ v'.ownBlock = some w.heap.size) → K (a.put o.dst v') w') :
    if Region.wanted o (yielded ops a.tmps) = true then Oper.wp P o a w K Q else E := by
  have hw : Region.wanted o (yielded ops a.tmps) = true := by simp [Region.wanted, hgd]
  rw [if_pos hw]
  obtain ⟨v', w', hr, h2, h3, h4, h5⟩ := run_append_own_at (P := P) w base t o.type e i z size bytes ht hi hz hsize hby hzs hsz v n xs hown ad m c news hl hnews h1 h63 hbytes hbase
  unfold Oper.wp execOp
  simp only [ho, resolve, invoke, builtin, Sem.run_bind, Sem.run_pure, Result.andThen_ok, List.map_toArray, List.map_cons, List.map_nil, hs, hx, hr]
  exact h v' w' h2 h3 h4 h5
end

/-- A heap and a list with the same entries. -/
structure PlayI (w wx : World) (i : Nat) (a : Option Addr) (cap : Nat) (es : Ents) (f : Int → Option Nat) (N : Nat) (wk : Int) (al : Option Addr) (capl : Nat) (ls : Ents) (g : Int → Option Nat) : Prop where
  ct : Cont wx w.heap.size (w.heap.size + 1) w.heap.size a cap es f N wk
  row : wx.ownsRow w.heap.size 48 2 (.slice al ls.length capl) ls.length (flat ls)
  sep : ∀ x, al = some x → ¬ Mine (w.heap.size + 1) w.heap.size a x.block
  con : Con ls g
  mem : ∀ z, z ∈ ls ↔ z ∈ es
  len : ls.length = es.length
  le : es.length ≤ i
  cnt : N ≤ 601 * i
  lo : 0 ≤ wk
  hi : wk ≤ 400 * i
  bel : Below w.heap.size w wx
section
variable {w wx wy : World} {i : Nat} {a a' : Option Addr} {cap cap' : Nat} {es es' : Ents} {f f' : Int → Option Nat} {N N' : Nat} {wk wk' : Int} {al : Option Addr} {capl : Nat} {ls : Ents} {g : Int → Option Nat}
theorem own_lt {w : World} {base : Nat} {e : TypeId} {size n cap : Nat} {a : Option Addr} {xs : List Value} (h : w.ownsRow base e size (.slice a n cap) n xs) : ∀ x, a = some x → base ≤ x.block ∧ x.block < w.heap.size := by
  intro x hx
  subst hx
  rcases h.2 with ⟨e, _⟩ | ⟨g, c, cur, e, hb, hg, _⟩
  · cases e
  · injection e with e
    injection e with e
    rw [e]
    exact ⟨hb, lt_of_block hg⟩
theorem PlayI.later (h : PlayI w wx i a cap es f N wk al capl ls g) (hb : Below wx.heap.size wx wy) : PlayI w wy i a cap es f N wk al capl ls g :=
  ⟨h.ct.later hb, row_only h.row (Only.of_below (fun _ => False) hb) (fun _ _ e => e), h.sep, h.con, h.mem, h.len, h.le, h.cnt, h.lo, h.hi, h.bel.trans (hb.mono h.bel.size)⟩
theorem PlayI.turned (h : PlayI w wx i a cap es f N wk al capl ls g) (t : Turn (w.heap.size + 1) w.heap.size a wx a' wy) : wy.ownsRow w.heap.size 48 2 (.slice al ls.length capl) ls.length (flat ls) ∧ ∀ x, al = some x → ¬ Mine (w.heap.size + 1) w.heap.size a' x.block := by
  refine ⟨row_only h.row t.1 (fun k hk e => ?_), fun x hx e => ?_⟩
  · cases al with
    | none => simp [Value.ownBlock] at hk
    | some x => simp [Value.ownBlock] at hk; exact h.sep x rfl (by rw [hk]; exact e)
  · rcases t.mine _ e with e | e
    · exact h.sep x hx e
    · have := (own_lt h.row x hx).2
      omega
theorem list_set {ls : Ents} {q : Nat} {id k0 : Int} (h : ls[q]? = some (id, k0)) (k : Int) : (flat ls).set (q * 2 + 1) (.int .i64 k) = flat (ls.set q (id, k)) := by
  rw [flat_set]
  congr 1
  apply List.ext_getElem?
  intro m
  rw [List.getElem?_set]
  by_cases e : q * 2 = m
  · subst e
    have h1 := flat_fst h
    have hl := (List.getElem?_eq_some_iff.1 h1).1
    rw [if_pos rfl, if_pos hl, h1]
  · rw [if_neg e]

/-- A known number's key is set, in the heap and in the list. -/
theorem PlayI.setOld (h : PlayI w wx i a cap es f N wk al capl ls g) (hi : i < 150) {id k k0 : Int} {q : Nat} (hg : g id = some q) (hq : ls[q]? = some (id, k0)) {gb : Nat} (hal : al = some ⟨gb, 0, none⟩)
    (hs : SetC wx wy w.heap.size (w.heap.size + 1) w.heap.size a a' cap' es N wk id k es' f' N' wk') :
    PlayI w (wy.setCell ⟨gb, q * 2 + 1, none⟩ (.int .i64 k)) (i + 1) a' cap' es' f' N' wk' al capl (ls.set q (id, k)) (upd g id (some q)) ∧ wk' ≤ wk + 2 * digs ls.length ∧ wk ≤ wk' := by
  obtain ⟨c1, m1, l1, n1, k1, k2, t1⟩ := hs
  obtain ⟨r1, s1⟩ := h.turned t1
  subst hal
  have hm : (id, k0) ∈ es := (h.mem _).1 (List.mem_of_getElem? hq)
  have hl : es'.length = es.length := by
    rcases l1 with ⟨l1, _⟩ | ⟨_, l1, _⟩
    · exact l1
    · exact absurd hm (l1 k0)
  have hd := digs_le es'.length
  have ho : Only (fun x => x = gb) wy (wy.setCell ⟨gb, q * 2 + 1, none⟩ (.int .i64 k)) := Only.setCell (R := fun x => x = gb) (Only.refl _ wy) (p := ⟨gb, q * 2 + 1, none⟩) (Or.inl rfl) _
  have hr := (r1.stored (q * 2 + 1) (.int .i64 k)).1
  rw [list_set hq] at hr
  have hle := h.le
  have hcnt := h.cnt
  have hlo := h.lo
  have hhi := h.hi
  have hlen := h.len
  refine ⟨⟨c1.only ho (fun x e e2 => s1 _ rfl (by rw [e] at e2; exact e2)), by rw [List.length_set]; exact hr, s1, h.con.old hg k, fun z => ?_, by rw [List.length_set]; omega, by omega, by omega, by omega, by omega, ?_⟩, by rw [hlen, ← hl]; exact k2, k1⟩
  · rw [old_mem h.con hg k z, m1 z, h.mem z]
  · exact (h.bel.trans (t1.below h.ct.hp h.bel.size)).setCell (p := ⟨gb, q * 2 + 1, none⟩) (own_lt h.row _ rfl).1 _
/-- A new number is set; the list grows. -/
theorem PlayI.setNew (h : PlayI w wx i a cap es f N wk al capl ls g) (hi : i < 150) {id k : Int} (hg : g id = none)
    (hs : SetC wx wy w.heap.size (w.heap.size + 1) w.heap.size a a' cap' es N wk id k es' f' N' wk') {o : Obj} {wz : World} {al' : Option Addr} {capl' : Nat}
    (hown : wz.ownsRow w.heap.size 48 2 (.slice al' (ls.length + 1) capl') (ls.length + 1) (flat ls ++ [.int .i64 id, .int .i64 k])) (hgrow : (wy.alloc o).grownBy wz (Value.slice al ls.length capl).ownBlock)
    (hloc : (Value.slice al' (ls.length + 1) capl').ownBlock = (Value.slice al ls.length capl).ownBlock ∨ (Value.slice al' (ls.length + 1) capl').ownBlock = some (wy.alloc o).heap.size) :
    PlayI w wz (i + 1) a' cap' es' f' N' wk' al' capl' (ls ++ [(id, k)]) (upd g id (some ls.length)) ∧ wk' ≤ wk + 2 * digs (ls.length + 1) ∧ wk ≤ wk' := by
  obtain ⟨c1, m1, l1, n1, k1, k2, t1⟩ := hs
  obtain ⟨r1, s1⟩ := h.turned t1
  have hno : ∀ k', (id, k') ∉ es := by
    intro k' e
    obtain ⟨j, hj, _⟩ := h.con.some_of ((h.mem _).2 e)
    rw [hg] at hj
    cases hj
  have hl : es'.length = es.length + 1 := by
    rcases l1 with ⟨_, k', l1⟩ | ⟨l1, _⟩
    · exact absurd l1 (hno k')
    · exact l1
  have hd := digs_le es'.length
  have ho : Only (fun x => some x = (Value.slice al ls.length capl).ownBlock) wy wz := ((Only.refl _ wy).alloc o).trans (R' := fun x => some x = (Value.slice al ls.length capl).ownBlock) (Only.of_grown hgrow (fun k e => e.symm)) (fun x hx => Or.inl hx)
  have hcl : ∀ x, some x = (Value.slice al ls.length capl).ownBlock → ¬ Mine (w.heap.size + 1) w.heap.size a' x := by
    intro x hx
    cases al with
    | none => simp [Value.ownBlock] at hx
    | some y =>
      simp [Value.ownBlock] at hx
      rw [hx]
      exact s1 y rfl
  have hle := h.le
  have hcnt := h.cnt
  have hlo := h.lo
  have hhi := h.hi
  have hlen := h.len
  refine ⟨⟨c1.only ho (fun x e e2 => hcl x e e2), ?_, ?_, h.con.new hg k, fun z => ?_, by rw [List.length_append]; simp; omega, by omega, by omega, by omega, by omega, ?_⟩, by rw [hlen, ← hl]; exact k2, k1⟩
  · rw [flat_append, List.length_append]
    exact hown
  · intro x hx e
    subst hx
    rcases hloc with e1 | e1
    · exact hcl _ e1 e
    · have h1 := (c1.hp.above e).2
      simp [Value.ownBlock] at e1
      omega
  · rw [new_mem h.con hg k z, m1 z, h.mem z]
  · refine (h.bel.trans (t1.below h.ct.hp h.bel.size)).trans (ho.below (by have := (h.bel.trans (t1.below h.ct.hp h.bel.size)).size; exact this) (fun x hx => ?_))
    cases al with
    | none => simp [Value.ownBlock] at hx
    | some y =>
      simp [Value.ownBlock] at hx
      rw [hx]
      exact (own_lt h.row y rfl).1
/-- An unknown number is dropped. -/
theorem PlayI.dropNo (h : PlayI w wx i a cap es f N wk al capl ls g) : PlayI w wx (i + 1) a cap es f N wk al capl ls g := by
  have hle := h.le
  have hcnt := h.cnt
  have hhi := h.hi
  exact ⟨h.ct, h.row, h.sep, h.con, h.mem, h.len, by omega, by omega, h.lo, by omega, h.bel⟩
/-- A known number is dropped; the list is made anew without it. -/
theorem PlayI.dropYes (h : PlayI w wx i a cap es f N wk al capl ls g) (hi : i < 150) {id : Int} {q : Nat} (hg : g id = some q)
    (hs : DropC wx wy w.heap.size (w.heap.size + 1) w.heap.size a cap es N wk id es' f' N' wk') {wz : World} {al' : Option Addr} {n capl' : Nat}
    (hn : n + 1 = ls.length) (hown : wz.ownsRow w.heap.size 48 2 (.slice al' n capl') n (flat (ls.take q) ++ flat (ls.drop (q + 1)))) (ho : Only (fun _ => False) wy wz) (hloc : ∀ x, al' = some x → wy.heap.size ≤ x.block) :
    PlayI w wz (i + 1) a cap es' f' N' wk' al' capl' (ls.take q ++ ls.drop (q + 1)) (gone g id q) ∧ wk' ≤ wk + 2 * digs ls.length ∧ wk ≤ wk' := by
  obtain ⟨c1, m1, l1, n1, k1, k2, t1⟩ := hs
  obtain ⟨k0, hq⟩ := (h.con id q).1 hg
  have hql := (List.getElem?_eq_some_iff.1 hq).1
  have hel := erase_len hql
  have hd := digs_le es.length
  have hle := h.le
  have hcnt := h.cnt
  have hlo := h.lo
  have hhi := h.hi
  have hlen := h.len
  have hnl : (ls.take q ++ ls.drop (q + 1)).length = n := by omega
  refine ⟨⟨c1.only ho (fun x e _ => e.elim), ?_, fun x hx e => ?_, h.con.erase hg, fun z => ?_, by omega, by omega, by omega, by omega, by omega, ?_⟩, by rw [hlen]; exact k2, k1⟩
  · rw [hnl, flat_append]
    exact hown
  · have h1 := (c1.hp.above e).2
    have h2 := hloc x hx
    omega
  · rw [erase_mem h.con hg z, m1 z, h.mem z]
  · have hb := h.bel.trans (t1.below h.ct.hp h.bel.size)
    exact hb.trans (ho.below hb.size (fun x hx => hx.elim))
end
end Go.Proofs.Ytdkghinjpnelhaa
