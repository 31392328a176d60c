/- IndexFunc at Chain's closure. No condition but the lengths. -/
import Derived.Test.YtdiaejdoglccoaaNxt
namespace Go.Proofs.Ytdiaejdoglccoaa
open Go.RowKit Go.Deep Tr

set_option maxHeartbeats 4000000 in
set_option maxRecDepth 100000 in
theorem indexNxt_any (l : List Ed) (n nb lb gl N : Nat) (L : Nat → Int) (A0 : Option Addr) (c0 : Nat) (w : World) (hA : Gr.EdAt w w.heap.size A0 l) (hl : l.length ≤ 100000) (hn : n < N) (hd : ∀ x ∈ l, 0 ≤ x.dst ∧ x.dst < (N : Int)) (hL : LbAt w lb gl N L) (hb0 : -1 ≤ L n ∧ L n ≤ 100000) (hnb : w.heap[nb]? = some (.cells #[.int .i64 n] 3 (0, 0))) (hex : l.any (fun x => Gr.nx L n x) = true) :
    Calls Try.prog 40 #[.slice A0 l.length c0, .func (.func 41) #[] #[.pointer (some ⟨nb, 0, none⟩), .pointer (some ⟨lb, 0, none⟩)]] w fun e w' => ∃ i : Nat, e = .returned (.int .i64 i) ∧ (∃ h : i < l.length, Gr.nx L n l[i] = true ∧ (l.take i).any (fun x => Gr.nx L n x) = false) ∧ Below w.heap.size w w' := by
  have HAA := Lib.hid hA
  have HD := Lib.hid hd
  have HLb := Lib.hid hL
  have HNB := Lib.hid hnb
  have HEX := Lib.hid hex
  have HBD := Lib.hid hb0
  clear hA hd hL hnb hex hb0
  go_enter Try.func40, Try.ntmps40
  go_wp2_with fail
  go_loopw [8] (fun s8 wr => ∃ k : Nat, s8 = .int .i64 k ∧ k ≤ l.length ∧ (l.take k).any (fun x => Gr.nx L n x) = false ∧ Below w.heap.size w wr) (fun s8 _ => l.length - (intOf s8).toNat)
  case atStart => exact ⟨0, rfl, by omega, by simp, Below.refl _ _⟩
  case round =>
    obtain ⟨k, rfl, hk, hall, hb⟩ := hrel
    have HAL := Lib.hid hall
    clear hall
    by_cases hlt : k < l.length
    · have b1 : decide ((k : Int) < (l.length : Int)) = true := decide_eq_true (by omega)
      have b1n : decide (k < l.length) = true := decide_eq_true hlt
      have y2 : (k : Int) < (l.length : Int) := by omega
      obtain ⟨g0, o, rfl, hg, hc⟩ := HAA.out k hlt
      have hd0 := (hb.cell (p := ⟨g0, o + k * 3, none⟩) hg).trans (hc 0 _ rfl)
      have hd1 := (hb.cell (p := ⟨g0, o + k * 3 + 1, none⟩) hg).trans (hc 1 _ rfl)
      have hd2 := (hb.cell (p := ⟨g0, o + k * 3 + 2, none⟩) hg).trans (hc 2 _ rfl)
      clear hc
      have HTK := Lib.hid (show Gr.nx L n l[k] = false → (l.take (k + 1)).any (fun x => Gr.nx L n x) = false from fun h => Gr.any_take _ l k hlt HAL.out h)
      have HDK := HD.out l[k] (List.getElem_mem hlt)
      generalize hx : l[k] = x at hd0 hd1 hd2 HTK HDK
      have HX := Lib.hid hx
      clear hx
      have cc := nxt_any x n nb lb gl N L wr hn HDK (HLb.out.next hb) HBD.out ((hb.block _ (blk_lt HNB.out)).trans HNB.out)
      rw [edA_def] at cc
      clear HDK
      generalize hv : Gr.nx L n x = v at *
      cases v with
      | false =>
        have HN := Lib.hid (HTK.out rfl)
        clear HTK hv
        go_wp2_with fail
        with_reducible refine cc.mono ?_
        clear cc
        rintro e w4 ⟨rfl, hb4⟩
        have HB3 := Lib.hid (hb.trans (hb4.mono hb.size))
        clear hb4 hb hd0 hd1 hd2
        go_wp2_with fail
        go_roundw
        case rel => exact ⟨k + 1, by go_num, by omega, HN.out, HB3.out⟩
        case measure => simp [intOf]; omega
      | true =>
        have HP := Lib.hid (show Gr.nx L n l[k] = true by rw [HX.out]; exact hv)
        clear HTK hv
        go_wp2_with fail
        with_reducible refine cc.mono ?_
        clear cc
        rintro e w4 ⟨rfl, hb4⟩
        have HB3 := Lib.hid (hb.trans (hb4.mono hb.size))
        clear hb4 hb hd0 hd1 hd2
        go_wp2_with fail
        first | go_ret2 | go_ret
        exact ⟨k, rfl, ⟨hlt, HP.out, HAL.out⟩, HB3.out⟩
    · exfalso
      have h1 := Gr.any_full _ l k hlt HAL.out
      rw [HEX.out] at h1
      cases h1
end Go.Proofs.Ytdiaejdoglccoaa
