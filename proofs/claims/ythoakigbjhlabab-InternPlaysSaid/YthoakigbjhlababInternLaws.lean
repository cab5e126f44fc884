/- Package intern: the fixed fact, and what no table answers. -/
import Derived.Test.YthoakigbjhlababTab2
namespace Go.Proofs.Ythoakigbjhlabab
open Go.RowKit Go.Maps Go.WideMaps

theorem find_as {w : World} {B p bm : Nat} {a : Option Addr} {cap : Nat} {most : Int} {ns : List ByteArray} (h : Tab w B p bm a cap most ns) (s : ByteArray) (hs : s.size ≤ maxLen) (hin : s ∈ ns) (i : Int) (hi : (pos ns s : Int) = i) : Calls Try.prog 12 #[.pointer (some ⟨p, 0, none⟩), .string s] w fun e w' => e = .returned (.tuple #[.int .i64 i, .bool true]) ∧ w' = w := by
  subst hi
  exact find_in h s hs hin
theorem name_as {w : World} {B p bm : Nat} {a : Option Addr} {cap : Nat} {most : Int} {ns : List ByteArray} (h : Tab w B p bm a cap most ns) (i : Int) (n : Nat) (hi : (n : Int) = i) (s : ByteArray) (hs : ns[n]? = some s) : Calls Try.prog 15 #[.pointer (some ⟨p, 0, none⟩), .int .i64 i] w fun e w' => e = .returned (.tuple #[.string s, .bool true]) ∧ w' = w := by
  subst hi
  exact name_at h n s hs
theorem len_as {w : World} {B p bm : Nat} {a : Option Addr} {cap : Nat} {most : Int} {ns : List ByteArray} (h : Tab w B p bm a cap most ns) (i : Int) (hi : (ns.length : Int) = i) : Calls Try.prog 14 #[.pointer (some ⟨p, 0, none⟩)] w fun e w' => e = .returned (.int .i64 i) ∧ w' = w := by
  subst hi
  exact len_table h

def nx : ByteArray := ⟨#[120]⟩
def ny : ByteArray := ⟨#[121]⟩
def nz : ByteArray := ⟨#[122]⟩
theorem ny_x : ny ∉ [nx] := by
  intro h
  have := congrArg ByteArray.data (by simpa using h : ny = nx)
  exact absurd this (by decide)
theorem nz_xy : nz ∉ [nx, ny] := by
  intro h
  have h : nz = nx ∨ nz = ny := by simpa using h
  rcases h with h | h
  · exact absurd (congrArg ByteArray.data h) (by decide)
  · exact absurd (congrArg ByteArray.data h) (by decide)
theorem nx_list : nx.toList = [120] := by kernel_rfl
theorem awake06 (w : World) : Calls Try.prog 16 #[] w fun e w' => e = .returned (.bool true) ∧ Below w.heap.size w w' := by
  have hx := nx_list
  go_enter Try.func16, Try.ntmps16
  go_wp2_with (first
    | (go_at_call 11; refine (new_table 2 _).mono ?_; rintro e w0 ⟨rfl, t0, b0⟩)
    | (go_at_call 13; refine (add_full t2 nz (by decide) nz_xy (by decide)).mono ?_; rintro e w3 ⟨rfl, rfl⟩)
    | (go_at_call 13; refine (add_new t1 b1.size ny (by decide) ny_x (by decide) (by decide)).mono ?_; rintro e w2 ⟨rfl, a2, cap2, t2, _, b2, _⟩)
    | (go_at_call 13; refine (add_new t0 b0.size nx (by decide) (by simp) (by decide) (by decide)).mono ?_; rintro e w1 ⟨rfl, a1, cap1, t1, _, b1', _⟩; have b1 := b0.trans b1')
    | (go_at_call 12; refine (find_as t2 ny (by decide) (by simp) 1 rfl).mono ?_; rintro e w3 ⟨rfl, rfl⟩)
    | (go_at_call 15; refine (name_as t2 0 0 rfl nx rfl).mono ?_; rintro e w3 ⟨rfl, rfl⟩)
    | (go_at_call 14; refine (len_as t2 2 rfl).mono ?_; rintro e w3 ⟨rfl, rfl⟩)
    | go_in)
  all_goals go_ret
  all_goals (first | exact ⟨rfl, b1.trans b2⟩ | skip)

end Go.Proofs.Ythoakigbjhlabab
