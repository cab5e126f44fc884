/- InternPlays, walked. -/
import Derived.Test.YthoakigbjhlababList
namespace Go.Proofs.Ythoakigbjhlabab
open Go.RowKit Go.Maps Go.WideMaps

theorem text_ne {x y : ByteArray} (h : x ≠ y) : (x.toList == y.toList) = false := by
  rw [ByteArray.toList_eq, ByteArray.toList_eq]
  simp only [beq_eq_false_iff_ne]
  exact fun e => h (ByteArray.ext (Array.toList_inj.1 e))

set_option maxRecDepth 100000 in
set_option maxHeartbeats 800000 in
theorem internPlays_walk (most : Int) (a : Option Addr) (len cap : Nat) (ss : List ByteArray) (w : World) (_ : (Lit.int .i64 most).wf = true) (hrow : IsTexts w a len cap ss) :
    Calls Try.prog 3 #[.int .i64 most, .slice a len cap] w fun e w' => e = .returned (.bool true) ∧ Below w.heap.size w w' := by
  obtain ⟨i0, hi, hz0, hz1, hz2⟩ := info_parts infoS
  obtain ⟨b, off, hlm, hcap, hc⟩ := texts_facts hrow
  have HC := Lib.hid hc
  have HA := Lib.hid hcap
  clear hrow hc hcap
  go_enter Try.func3, Try.ntmps3
  go_wp2_with fail
  refine (new_table most _).mono ?_
  rintro e w0 ⟨rfl, t0, b0⟩
  have HB0 := Lib.hid (b0.alloc b0.size (.cells #[] 9))
  have T0 := Lib.hid (t0.alloc (.cells #[] 9))
  have L0 := Lib.hid (show Lst (w0.alloc (.cells #[] 9)) w.heap.size (w.heap.size + 1) w.heap.size none (some ⟨w0.heap.size, 0, none⟩) 0 [] from ⟨World.ownsRow_made w0 #[] 0 b0.size (Nat.zero_le _) rfl, fun x hx => by
    injection hx with hx
    subst hx
    have h1 := t0.box.lt
    have h2 := t0.blt
    refine ⟨by simp; omega, by simp; omega, fun y hy => ?_⟩
    cases hy⟩)
  clear t0 b0
  go_wp2_with fail
  go_loopw [6, 7] (fun v i wx => ∃ (k : Nat) (ns : List ByteArray) (a' : Option Addr) (cap' : Nat) (al : Option Addr) (capl : Nat), k ≤ len ∧ k ≤ 100 ∧ ns.length ≤ k ∧ ns.Nodup ∧ i = .int .i64 k ∧ v = .slice al ns.length capl ∧
      Hid (Below w.heap.size w wx) ∧ Hid (Tab wx w.heap.size (w.heap.size + 1) w.heap.size a' cap' most ns) ∧ Hid (Lst wx w.heap.size (w.heap.size + 1) w.heap.size a' al capl ns)) (fun _ i _ => len - (intOf i).toNat)
  case atStart => exact ⟨0, [], none, 0, _, 0, by omega, by omega, by simp, List.nodup_nil, rfl, rfl, HB0, T0, L0⟩
  case round =>
    obtain ⟨k, ns, a', cap', al, capl, hk, hk100, hns, hnd, rfl, rfl, HB, HT, HR⟩ := hrel
    clear HB0 T0 L0
    have HD := Lib.hid hnd
    clear hnd
    by_cases hlt : k < len
    · by_cases h100 : k < 100
      · have hd1 : decide ((k : Int) < len) = true := decide_eq_true (by omega)
        have ha := HA.out (by omega)
        subst ha
        obtain ⟨s, hsz, hcell⟩ := HC.out k hlt
        have hbw := World.block_lt_of_cell? _ _ hcell
        go_wp2_with fail
        go_loopw [8, 9] (fun v i wx => ∃ (j : Nat) (x : Int), j ≤ ns.length ∧ v = .int .i64 x ∧ i = .int .i64 j ∧ Hid (Fnd ns s j x) ∧ Hid (Below w.heap.size w wx) ∧ Hid (Tab wx w.heap.size (w.heap.size + 1) w.heap.size a' cap' most ns) ∧ Hid (Lst wx w.heap.size (w.heap.size + 1) w.heap.size a' al capl ns)) (fun _ i _ => ns.length - (intOf i).toNat)
        case atStart => exact ⟨0, -1, by omega, rfl, rfl, Lib.hid (Or.inl ⟨rfl, by simp⟩), HB, HT, HR⟩
        case round =>
          clear HB HT HR
          obtain ⟨j, x, hj, rfl, rfl, HF, HB, HT, HR⟩ := hrel
          have hcw : wr.cell? ⟨b, off + k, none⟩ = some (.string s) := (HB.out.cell hbw).trans hcell
          by_cases hjn : j < ns.length
          · have hd3 : decide ((j : Int) < ns.length) = true := decide_eq_true (by omega)
            obtain ⟨y, hy⟩ : ∃ y, ns[j]? = some y := ⟨_, List.getElem?_eq_getElem hjn⟩
            obtain ⟨g, hal, hcl⟩ := HR.out.at hy
            subst hal
            clear hcell
            by_cases hys : y = s
            · subst hys
              have HF1 := Lib.hid (Fnd.hit HD.out hy)
              clear hy HF
              go_wp2_with fail
              go_region
              all_goals (go_wp2_with fail)
              all_goals go_roundw
              case rel => exact ⟨j + 1, j, by omega, rfl, by go_num, HF1, Lib.hid HB.out.drew, Lib.hid (HT.out.later ((Below.refl _ _).drew)), Lib.hid (HR.out.later ((Below.refl _ _).drew))⟩
              case measure => simp [intOf]; omega
            · have HF1 := Lib.hid (Fnd.miss HF.out hy hys)
              have hyt := text_ne hys
              clear hy HF
              go_wp2_with fail
              go_region
              all_goals (go_wp2_with fail)
              all_goals go_roundw
              case rel => exact ⟨j + 1, x, by omega, rfl, by go_num, HF1, Lib.hid HB.out.drew, Lib.hid (HT.out.later ((Below.refl _ _).drew)), Lib.hid (HR.out.later ((Below.refl _ _).drew))⟩
              case measure => simp [intOf]; omega
          · have hd3 : decide ((j : Int) < ns.length) = false := decide_eq_false (by omega)
            obtain rfl : j = ns.length := by omega
            clear hcell
            rcases HF.out.all with ⟨hx, hin⟩ | ⟨hin, hx⟩
            · subst hx
              have HI := Lib.hid hin
              clear HF hin
              by_cases hf : most ≤ (ns.length : Int)
              · have hd4 : decide (most ≤ (ns.length : Int)) = true := decide_eq_true hf
                go_wp2_with fail
                refine (find_out HT.out s hsz HI.out).mono ?_
                rintro e w3 ⟨rfl, rfl⟩
                go_wp2_with fail
                refine (add_full HT.out s hsz HI.out hf).mono ?_
                rintro e w3 ⟨rfl, rfl⟩
                go_wp2_with fail
                refine (len_as HT.out ns.length rfl).mono ?_
                rintro e w3 ⟨rfl, rfl⟩
                go_wp2_with fail
                go_roundw
                case rel => exact ⟨k + 1, ns, a', cap', al, capl, by omega, by omega, by omega, HD.out, by go_num, rfl, HB, HT, HR⟩
                case measure => simp [intOf]; omega
              · have hd4 : decide (most ≤ (ns.length : Int)) = false := decide_eq_false hf
                go_wp2_with fail
                refine (find_out HT.out s hsz HI.out).mono ?_
                rintro e w3 ⟨rfl, rfl⟩
                go_wp2_with fail
                refine (add_new HT.out HB.out.size s hsz HI.out (by omega) (by omega)).mono ?_
                rintro e w1 ⟨rfl, a1, cap1, t1, hk1, b1, hs1⟩
                have T1 := Lib.hid t1
                have L1 := Lib.hid (HR.out.added hk1 hs1)
                have HB1 := Lib.hid (HB.out.trans b1)
                have hcw1 : w1.cell? ⟨b, off + k, none⟩ = some (.string s) := (b1.cell hbw).trans hcw
                have hz := HB1.out.size
                have HD1 := Lib.hid (show (ns ++ [s]).Nodup from List.nodup_append.2 ⟨HD.out, by simp, fun x hx y hy e => by simp at hy; subst hy; subst e; exact HI.out hx⟩)
                clear t1 hk1 b1 hs1 HT HR HB hcw hd3 HD
                go_wp2_with (first
                  | (at_builtin; refine wpList_append_own_at _ rfl _ _ 22 rfl w.heap.size 9 i0 (.string ByteArray.empty) 1 16 Try.underlying22 hi hz0 hz1 hz2 rfl (by decide) (.slice al ns.length capl) _ _ rfl (L1.out.row.alloc _) ⟨w1.heap.size, 0, none⟩ 1 1 [.string s] rfl rfl (cell_one_new _ _ _) (fun x hx => by simp at hx; subst hx; rfl) (by unfold maxLen; omega) (by omega) (by simp; omega) ?_
                     intro v' w2 hown' hgrow hnil hloc
                     obtain ⟨al', capl', rfl⟩ := own_slice hown'
                     have T2 := Lib.hid (T1.out.beside L1.out hgrow)
                     have R2 := Lib.hid (L1.out.appended T1.out hown' hloc)
                     have HB2 := Lib.hid ((HB1.out.alloc hz (.cells #[.string s] 9)).grown hgrow (by simp; omega) (fun k hk => ((L1.out.row.alloc (.cells #[.string s] 9)).lt k hk).1))
                     clear hown' hgrow hnil hloc)
                  | (go_at_call 14; refine (len_as T2.out ((ns.length : Int) + 1) (by simp)).mono ?_; rintro e w3 ⟨rfl, rfl⟩)
                  | go_in)
                go_roundw
                case rel => exact ⟨k + 1, ns ++ [s], a1, cap1, al', capl', by omega, by omega, by simp; omega, HD1.out, by go_num, by simp, HB2, T2, R2⟩
                case measure => simp [intOf]; omega
            · obtain ⟨q, hq⟩ : ∃ q, pos ns s = q := ⟨_, rfl⟩
              have hxq : x = (q : Int) := by rw [hx, hq]
              subst hxq
              have HI := Lib.hid hin
              have HQ := Lib.hid hq
              have hd4 : decide ((0 : Int) ≤ (q : Int)) = true := decide_eq_true (by omega)
              clear HF hin hx hq
              go_wp2_with fail
              refine (find_q HT.out s hsz HI.out q HQ.out).mono ?_
              rintro e w3 ⟨rfl, rfl⟩
              go_wp2_with fail
              refine (add_q HT.out s hsz HI.out q HQ.out).mono ?_
              rintro e w3 ⟨rfl, rfl⟩
              go_wp2_with fail
              refine (len_as HT.out ns.length rfl).mono ?_
              rintro e w3 ⟨rfl, rfl⟩
              go_wp2_with fail
              go_roundw
              case rel => exact ⟨k + 1, ns, a', cap', al, capl, by omega, by omega, by omega, HD.out, by go_num, rfl, HB, HT, HR⟩
              case measure => simp [intOf]; omega
      · have hd1 : decide ((k : Int) < len) = true := decide_eq_true (by omega)
        have hd2 : decide ((k : Int) < 100) = false := decide_eq_false (by omega)
        go_wp2_with fail
        go_loopw [14] (fun i wx => ∃ j : Nat, j ≤ ns.length ∧ i = .int .i64 j ∧ Hid (Below w.heap.size w wx) ∧ Hid (Tab wx w.heap.size (w.heap.size + 1) w.heap.size a' cap' most ns) ∧ Hid (Lst wx w.heap.size (w.heap.size + 1) w.heap.size a' al capl ns)) (fun i _ => ns.length - (intOf i).toNat)
        case atStart => exact ⟨0, by omega, rfl, HB, HT, HR⟩
        case round =>
          clear HB HT HR
          obtain ⟨j, hj, rfl, HB, HT, HR⟩ := hrel
          by_cases hjn : j < ns.length
          · have hd3 : decide ((j : Int) < ns.length) = true := decide_eq_true (by omega)
            obtain ⟨s, hs⟩ : ∃ s, ns[j]? = some s := ⟨_, List.getElem?_eq_getElem hjn⟩
            obtain ⟨g, hal, hcl⟩ := HR.out.at hs
            subst hal
            have HG := Lib.hid hs
            clear hs
            go_wp2_with fail
            refine (name_at HT.out j s HG.out).mono ?_
            rintro e w3 ⟨rfl, rfl⟩
            go_wp2_with fail
            go_roundw
            case rel => exact ⟨j + 1, by omega, by go_num, HB, HT, HR⟩
            case measure => simp [intOf]; omega
          · have hd3 : decide ((j : Int) < ns.length) = false := decide_eq_false (by omega)
            go_wp2_with fail
            refine (name_high HT.out (ns.length : Int) (by omega) (Int.le_refl _)).mono ?_
            rintro e w3 ⟨rfl, rfl⟩
            go_wp2_with fail
            refine (awake06 _).mono ?_
            rintro e w4 ⟨rfl, hb4⟩
            go_wp2
            go_ret
            exact ⟨rfl, HB.out.trans (hb4.mono HB.out.size)⟩
    · have hd1 : decide ((k : Int) < len) = false := decide_eq_false (by omega)
      go_wp2_with fail
      go_loopw [14] (fun i wx => ∃ j : Nat, j ≤ ns.length ∧ i = .int .i64 j ∧ Hid (Below w.heap.size w wx) ∧ Hid (Tab wx w.heap.size (w.heap.size + 1) w.heap.size a' cap' most ns) ∧ Hid (Lst wx w.heap.size (w.heap.size + 1) w.heap.size a' al capl ns)) (fun i _ => ns.length - (intOf i).toNat)
      case atStart => exact ⟨0, by omega, rfl, HB, HT, HR⟩
      case round =>
        clear HB HT HR
        obtain ⟨j, hj, rfl, HB, HT, HR⟩ := hrel
        by_cases hjn : j < ns.length
        · have hd3 : decide ((j : Int) < ns.length) = true := decide_eq_true (by omega)
          obtain ⟨s, hs⟩ : ∃ s, ns[j]? = some s := ⟨_, List.getElem?_eq_getElem hjn⟩
          obtain ⟨g, hal, hcl⟩ := HR.out.at hs
          subst hal
          have HG := Lib.hid hs
          clear hs
          go_wp2_with fail
          refine (name_at HT.out j s HG.out).mono ?_
          rintro e w3 ⟨rfl, rfl⟩
          go_wp2_with fail
          go_roundw
          case rel => exact ⟨j + 1, by omega, by go_num, HB, HT, HR⟩
          case measure => simp [intOf]; omega
        · have hd3 : decide ((j : Int) < ns.length) = false := decide_eq_false (by omega)
          go_wp2_with fail
          refine (name_high HT.out (ns.length : Int) (by omega) (Int.le_refl _)).mono ?_
          rintro e w3 ⟨rfl, rfl⟩
          go_wp2_with fail
          refine (awake06 _).mono ?_
          rintro e w4 ⟨rfl, hb4⟩
          go_wp2
          go_ret
          exact ⟨rfl, HB.out.trans (hb4.mono HB.out.size)⟩
end Go.Proofs.Ythoakigbjhlabab
