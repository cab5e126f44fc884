/- Package audit: the fixed fact. -/
import Derived.Test.YtelakgbpfnlpiaaAudEq
import Derived.Test.YtelakgbpfnlpiaaForget
namespace Go.Proofs.Ytelakgbpfnlpiaa
open Go.RowKit Go.Maps Go.WideMaps

section
variable {P : Program} (w : World)
/-- append onto a row of one's own, at an operation with a guard that holds. -/
theorem wpList_append_wanted {ops : Array Oper} {rest : List Oper} {o : Oper} {a : Act} {Q : Exit → Act → World → Prop} (hw : Region.wanted o (yielded ops a.tmps) = true) (s x : Operand) (t : TypeId)
    (ho : o.op = .call { callee := .builtin .append, args := #[s, x], argTypes := #[t, t] })
    (base : Nat) (e : TypeId) (i : TypeInfo) (z : Value) (size bytes : Nat) (ht : P.underlying t = some (.slice e)) (hi : P.info? e = some i) (hz : i.zero = some z)
    (hsize : i.size = size) (hby : i.bytes = bytes) (hzs : z.cells.size = size) (hsz : 0 < size)
    (v : Value) (n : Nat) (xs : List Value) (hs : a.eval s = v) (hown : w.ownsRow base e size v n xs)
    (ad : Addr) (m c : Nat) (news : List Value) (hx : a.eval x = .slice (some ad) m c) (hl : news.length = m * size) (hnews : ∀ j u, news[j]? = some u → w.cell? (ad.add j) = some u) (h1 : ∀ u ∈ news, u.oneCell' = true)
    (h63 : n + m ≤ maxLen) (hbytes : (n + m) * bytes ≤ 140737488355328) (hbase : base ≤ w.heap.size)
    (h : ∀ v' w', w'.ownsRow base e size v' (n + m) (xs ++ news) → w.grownBy w' v.ownBlock → (v' = .slice none 0 0 ↔ v = .slice none 0 0 ∧ m = 0) → (v'.ownBlock = v.ownBlock ∨ v'.ownBlock = some w.heap.size) → wpList P ops Q rest (a.put o.dst v') w') : wpList P ops Q (o :: rest) a w := by
  unfold wpList
  rw [if_pos hw]
  refine Or.inl ?_
  obtain ⟨v', w', hr, h2, h3, h4, h5⟩ := run_append_own_at (P := P) w base t o.type e i z size bytes ht hi hz hsize hby hzs hsz v n xs hown ad m c news hl hnews h1 h63 hbytes hbase
  unfold Oper.wp execOp
  simp only [ho, resolve, invoke, builtin, Sem.run_bind, Sem.run_pure, Result.andThen_ok, List.map_toArray, List.map_cons, List.map_nil, hs, hx, hr]
  exact h v' w' h2 h3 h4 h5
end
def a1 : Ev := ⟨1, 5, 1, ⟨#[97]⟩, ⟨#[]⟩, 0, 0⟩
def a2 : Ev := ⟨3, 6, 0, ⟨#[97]⟩, ⟨#[]⟩, 0, 0⟩
def a3 : Ev := ⟨2, 9, -1, ⟨#[97]⟩, ⟨#[]⟩, 0, 0⟩
theorem f_gaps4 : gapsL 4 (fun _ => none) ([a1, a2, a3].filter wentE) = true := by kernel_rfl
theorem f_gaps5 : gapsL 5 (fun _ => none) ([a1, a2, a3].filter wentE) = false := by kernel_rfl
theorem f_rate250 : rateL (mulI 1000 1) 250 ([a1, a2, a3].filter wentE) = true := by kernel_rfl
theorem f_rate249 : rateL (mulI 1000 1) 249 ([a1, a2, a3].filter wentE) = false := by kernel_rfl
theorem f_cnt : cntA [a1, a2, a3] = #[.int .i64 0, .int .i64 1, .int .i64 1, .int .i64 1, .int .i64 0] := by kernel_rfl
theorem f_once : onceL (fun _ => false) [a1, a2, a3] = true := by kernel_rfl
theorem f_twice : onceL (fun _ => false) [a1, a2, a3, a1] = false := by kernel_rfl
theorem gaps_as (es : List Ev) (a : Option Addr) (cap : Nat) (n floor : Int) (v : Bool) (w : World) (hr : Rd w a es) (hl : es.length < 1000000) (hok : ∀ e, e ∈ es → EvOk e) (m : Nat) (hm : es.length = m) (hn : floor = n) (h : gapsL floor (fun _ => none) (es.filter wentE) = v) :
    Calls Try.prog 35 #[.slice a m cap, .int .i64 n] w fun e w' => e = .returned (.bool v) ∧ Below w.heap.size w w' := by
  subst hm
  subst hn
  subst h
  exact gaps_at es a cap floor w hr hl hok
theorem rate_as (es : List Ev) (a : Option Addr) (cap : Nat) (rate burst : Int) (v : Bool) (w : World) (hr : Rd w a es) (hl : es.length < 1000000) (m : Nat) (hm : es.length = m) (h : rateL (mulI 1000 burst) rate (es.filter wentE) = v) :
    Calls Try.prog 37 #[.slice a m cap, .int .i64 rate, .int .i64 burst] w fun e w' => e = .returned (.bool v) ∧ Below w.heap.size w w' := by
  subst hm
  subst h
  exact rate_at es a cap rate burst w hr hl
theorem once_as (es : List Ev) (a : Option Addr) (cap : Nat) (v : Bool) (w : World) (hr : Rd w a es) (hl : es.length < 1000000) (hok : ∀ e, e ∈ es → EvOk e) (m : Nat) (hm : es.length = m) (h : onceL (fun _ => false) es = v) :
    Calls Try.prog 39 #[.slice a m cap] w fun e w' => e = .returned (.bool v) ∧ Below w.heap.size w w' := by
  subst hm
  subst h
  exact once_at es a cap w hr hl hok
theorem counts_as (es : List Ev) (a : Option Addr) (cap : Nat) (v : Array Value) (w : World) (hr : Rd w a es) (hl : es.length < 1000000) (m : Nat) (hm : es.length = m) (h : cntA es = v) :
    Calls Try.prog 38 #[.slice a m cap] w fun e w' => e = .returned (.agg v) ∧ Below w.heap.size w w' := by
  subst hm
  subst h
  exact counts_at es a cap w hr hl
theorem row_later {w w' : World} {base : Nat} {e : TypeId} {size : Nat} {v : Value} {n : Nat} {xs : List Value} (h : w.ownsRow base e size v n xs) (hb : Below w.heap.size w w') : w'.ownsRow base e size v n xs := by
  refine ⟨h.1, ?_⟩
  rcases h.2 with hv | ⟨g, cap, cur, rfl, hg0, hh, r⟩
  · exact Or.inl hv
  · exact Or.inr ⟨g, cap, cur, rfl, hg0, (hb.block g (lt_of_block hh)).trans hh, r⟩
theorem ok3 : ∀ e, e ∈ [a1, a2, a3] → EvOk e := by
  intro e he
  simp at he
  rcases he with rfl | rfl | rfl <;> exact ⟨⟨by decide, by decide⟩, ⟨by decide, by decide⟩, ⟨by decide, by decide⟩, by decide⟩
theorem ok4 : ∀ e, e ∈ [a1, a2, a3, a1] → EvOk e := by
  intro e he
  simp at he
  rcases he with rfl | rfl | rfl | rfl <;> exact ⟨⟨by decide, by decide⟩, ⟨by decide, by decide⟩, ⟨by decide, by decide⟩, by decide⟩
set_option maxHeartbeats 2000000 in
theorem awake22 (w : World) : Calls Try.prog 34 #[] w fun e w' => e = .returned (.bool true) ∧ Below w.heap.size w w' := by
  obtain ⟨i0, hi0, hz0, hz1, hz2⟩ := info_parts infoEv
  have heq := eq5_fixed
  go_enter Try.func34, Try.ntmps34
  go_wp2_with fail
  have hrow : (w.alloc (.cells (flatE [a1, a2, a3]).toArray 58)).ownsRow w.heap.size 58 7 (.slice (some ⟨w.heap.size, 0, none⟩) 3 3) 3 (flatE [a1, a2, a3]) := by
    have := World.ownsRow_lit (base := w.heap.size) (e := 58) (size := 7) w (flatE [a1, a2, a3]).toArray 3 (Nat.le_refl _) (by decide) rfl
    simpa using this
  have hB0 : Below w.heap.size w (w.alloc (.cells (flatE [a1, a2, a3]).toArray 58)) := (Below.refl _ _).alloc (Nat.le_refl _) _
  refine calls_forget (fun w' => w'.ownsRow w.heap.size 58 7 (.slice (some ⟨w.heap.size, 0, none⟩) 3 3) 3 (flatE [a1, a2, a3]) ∧ Below w.heap.size w w') ⟨hrow, hB0⟩ ?_
  clear hrow hB0
  rintro w0 ⟨hrow, hB⟩
  refine (gaps_as [a1, a2, a3] _ 3 4 4 true _ (rd_of_own hrow) (by decide) ok3 3 rfl rfl f_gaps4).mono ?_
  rintro e w0' ⟨rfl, hb⟩
  replace hrow := row_later hrow hb
  replace hB := hB.trans (hb.mono hB.size)
  clear hb
  go_wp2_with fail
  refine (gaps_as [a1, a2, a3] _ 3 5 5 false _ (rd_of_own hrow) (by decide) ok3 3 rfl rfl f_gaps5).mono ?_
  rintro e w0' ⟨rfl, hb⟩
  replace hrow := row_later hrow hb
  replace hB := hB.trans (hb.mono hB.size)
  clear hb
  go_wp2_with fail
  refine (rate_as [a1, a2, a3] _ 3 250 1 true _ (rd_of_own hrow) (by decide) 3 rfl f_rate250).mono ?_
  rintro e w0' ⟨rfl, hb⟩
  replace hrow := row_later hrow hb
  replace hB := hB.trans (hb.mono hB.size)
  clear hb
  go_wp2_with fail
  refine (rate_as [a1, a2, a3] _ 3 249 1 false _ (rd_of_own hrow) (by decide) 3 rfl f_rate249).mono ?_
  rintro e w0' ⟨rfl, hb⟩
  replace hrow := row_later hrow hb
  replace hB := hB.trans (hb.mono hB.size)
  clear hb
  go_wp2_with fail
  refine (counts_as [a1, a2, a3] _ 3 _ _ (rd_of_own hrow) (by decide) 3 rfl f_cnt).mono ?_
  rintro e w0' ⟨rfl, hb⟩
  replace hrow := row_later hrow hb
  replace hB := hB.trans (hb.mono hB.size)
  clear hb
  go_wp2_with fail
  refine (once_as [a1, a2, a3] _ 3 true _ (rd_of_own hrow) (by decide) ok3 3 rfl f_once).mono ?_
  rintro e w0' ⟨rfl, hb⟩
  replace hrow := row_later hrow hb
  replace hB := hB.trans (hb.mono hB.size)
  clear hb
  have c0 : w0'.cell? ⟨w.heap.size, 0, none⟩ = some (.int .i64 1) := hrow.cellAt 0 (by decide)
  have c1 : w0'.cell? ⟨w.heap.size, 1, none⟩ = some (.int .i64 5) := hrow.cellAt 1 (by decide)
  have c2 : w0'.cell? ⟨w.heap.size, 2, none⟩ = some (.int .i64 1) := hrow.cellAt 2 (by decide)
  have c3 : w0'.cell? ⟨w.heap.size, 3, none⟩ = some (.string ⟨#[97]⟩) := hrow.cellAt 3 (by decide)
  have c4 : w0'.cell? ⟨w.heap.size, 4, none⟩ = some (.string ⟨#[]⟩) := hrow.cellAt 4 (by decide)
  have c5 : w0'.cell? ⟨w.heap.size, 5, none⟩ = some (.int .i64 0) := hrow.cellAt 5 (by decide)
  have c6 : w0'.cell? ⟨w.heap.size, 6, none⟩ = some (.int .i64 0) := hrow.cellAt 6 (by decide)
  have hbs := hB.size
  go_wp2_with (first
    | (at_builtin; refine wpList_append_wanted _ (by rfl) _ _ 52 rfl w.heap.size 58 i0 (.agg #[.int .i64 0, .int .i64 0, .int .i64 0, .string ByteArray.empty, .string ByteArray.empty, .int .i64 0, .int .i64 0]) 7 72 Try.underlying52 hi0 hz0 hz1 hz2 rfl (by decide) (.slice (some ⟨w.heap.size, 0, none⟩) 3 3) _ _ rfl (hrow.alloc (.cells (evL a1).toArray 58)) ⟨w0'.heap.size, 0, none⟩ 1 1 (evL a1) rfl rfl (cell_seven_new _ _ _) (evL_one a1) (by decide) (by decide) (by simp; omega) ?_
       intro v' w1 hown' hgrow hnil hloc
       obtain ⟨a1', cap1, rfl⟩ := own_slice hown'
       have hB1 := (hB.alloc hbs (.cells (evL a1).toArray 58)).grown hgrow (by simp; omega) (fun x hx => (hrow.lt x hx).1)
       have hrd : Rd w1 a1' [a1, a2, a3, a1] := rd_of_own hown')
    | (go_at_call 39; refine (once_as [a1, a2, a3, a1] _ cap1 false _ hrd (by decide) ok4 4 rfl f_twice).mono ?_; rintro e w2 ⟨rfl, hb⟩)
    | (go_at_call 33; refine (held_as 1 1 (by decide) _).mono ?_; rintro e w3 ⟨rfl, rfl⟩)
    | go_in)
  exact bodyPost_ret (v := .bool true) (by simp [results, Try.results34, go_sem]) rfl ⟨rfl, hB1.trans (hb.mono hB1.size)⟩
end Go.Proofs.Ytelakgbpfnlpiaa
