/-
  Moves: moves.order, any list.
-/
import Derived.Test.YtflbjfcmnopfaaaDoorMvC
namespace Go.Proofs.YtflbjfcmnopfaaaDoor
open Go.RowKit

def s00 : MSt := ⟨fun _ => none, fun _ => 0, []⟩

def BegRel (w : World) (len : Nat) (l : List (Int × Int)) (si : Value) (wr : World) : Prop :=
  ∃ i : Nat, i ≤ len ∧ si = .int .i64 i ∧ Mb (w.heap.size + 1) (w.heap.size + 1 + 1 + 1) w.heap.size (w.heap.size + 1 + 1) (2 * i) ((l.take i).foldl begS s00) wr ∧ BOk (l.map Prod.fst) i ((l.take i).foldl begS s00) ∧ Below w.heap.size w wr

def FreeRel (w W : World) (len : Nat) (l : List (Int × Int)) (s1 : MSt) (si : Value) (wr : World) : Prop :=
  ∃ i : Nat, i ≤ len ∧ si = .int .i64 i ∧ Mv (W.heap.size + 1) (w.heap.size + 1) (w.heap.size + 1 + 1 + 1) W.heap.size w.heap.size (w.heap.size + 1 + 1) (2 * len + 2 * (freeF len (l.take i) s1).out.length) (freeF len (l.take i) s1) wr ∧ MOk (l.map Prod.fst) len (2 * len) (freeF len (l.take i) s1) ∧ Below w.heap.size w wr ∧ W.heap.size + 1 ≤ wr.heap.size

def RingRel (w W : World) (len : Nat) (l : List (Int × Int)) (spare : Int) (s2 : MSt) (si sc : Value) (wr : World) : Prop :=
  ∃ (i : Nat) (s : MSt) (c : Int), i ≤ len ∧ si = .int .i64 i ∧ sc = .int .i64 c ∧ 0 ≤ c ∧ c ≤ i ∧ (l.take i).foldl (ringS len spare) (some (s2, 0)) = some (s, c) ∧ Mv (W.heap.size + 1) (w.heap.size + 1) (w.heap.size + 1 + 1 + 1) W.heap.size w.heap.size (w.heap.size + 1 + 1) (2 * len + 2 * s.out.length) s wr ∧ MOk (l.map Prod.fst) (len + i) (2 * len) s ∧ Below w.heap.size w wr ∧ W.heap.size + 1 ≤ wr.heap.size

def OrdPost (o : List (Int × Int)) (c : Int) (w : World) (e : Ending) (w' : World) : Prop :=
  ∃ v, e = .returned (.tuple #[v, .int .i64 c]) ∧ w'.ownsRow w.heap.size 108 2 v o.length (mvCells o) ∧ Below w.heap.size w w'

theorem order_parts {l : List (Int × Int)} {spare : Int} {o : List (Int × Int)} {c : Int} (h : orderF l spare = some (o, c)) : ∃ s, l.foldl (ringS l.length spare) (some (freeF l.length l (begF l), 0)) = some (s, c) ∧ s.out = o := by
  unfold orderF ringF at h
  cases hr : l.foldl (ringS l.length spare) (some (freeF l.length l (begF l), 0)) with
  | none => rw [hr] at h; cases h
  | some q => rw [hr] at h; cases h; exact ⟨q.1, rfl, rfl⟩

theorem free_next (N : Nat) (l : List (Int × Int)) (i : Nat) (h : i < l.length) (s : MSt) : freeF N (l.take (i + 1)) s = doF N (freeF N (l.take i) s) (l.getD i (0, 0)).1 := by
  unfold freeF
  rw [take_next l i h, List.foldl_append]
  rfl

theorem beg_next (l : List (Int × Int)) (i : Nat) (h : i < l.length) (s : MSt) : (l.take (i + 1)).foldl begS s = begS ((l.take i).foldl begS s) (l.getD i (0, 0)) := by
  rw [take_next l i h, List.foldl_append]
  rfl

theorem own_baseM {B B' : Nat} {w : World} {e size n : Nat} {v : Value} {xs : List Value} (h : w.ownsRow B e size v n xs) (hb : B' ≤ B) : w.ownsRow B' e size v n xs := by
  refine ⟨h.1, ?_⟩
  rcases h.2 with h1 | ⟨g, cap, cur, h1, h2, h3⟩
  · exact .inl h1
  · exact .inr ⟨g, cap, cur, h1, Nat.le_trans hb h2, h3⟩

theorem mem_at {l : List (Int × Int)} {i : Nat} (h : i < l.length) : l.getD i (0, 0) ∈ l := by simp [List.getD, h]

set_option maxHeartbeats 4000000 in
set_option maxRecDepth 100000 in
theorem order_any (a : Option Addr) (len cap : Nat) (l : List (Int × Int)) (spare : Int) (o : List (Int × Int)) (c : Int) (w : World) (hr : MRow w a len cap l) (hlen : len ≤ 500) (hs : -2000 ≤ spare ∧ spare ≤ 2000) (ho : orderF l spare = some (o, c)) :
    Calls Tryd.prog 120 #[.slice a len cap, .int .i64 spare] w (OrdPost o c w) := by
  obtain ⟨sF, hring, hout⟩ := order_parts ho
  have hle := hr.le
  have hmax := hr.max
  unfold maxLen at hmax
  have hl := hr.len_eq
  have HL := Lib.hid hl
  have HR := Lib.hid hr
  have HRING := Lib.hid hring
  have HOUT := Lib.hid hout
  have HS := Lib.hid hs
  have B0 : Hid (BegRel w len l (.int .i64 0) (orderW w)) := Lib.hid ⟨0, Nat.zero_le _, rfl, orderW_mb w, ⟨fun x hx => (by cases hx), fun x v hx => (by cases hx), fun x => ⟨by show -((0 : Nat) : Int) ≤ 0; omega, by show (0 : Int) ≤ ((0 : Nat) : Int); omega⟩, rfl⟩, orderW_below w⟩
  have hmm := @run_makeMap Tryd.prog
  clear hr hl ho hring hout hs
  go_enter Tryd.func120, Tryd.ntmps120
  go_wp2_with fail
  go_loopw [24] (fun si wr => BegRel w len l si wr) (fun si _ => len - (intOf si).toNat)
  case atStart => exact B0.out
  case round =>
    clear B0
    obtain ⟨i, hi, rfl, hV, hok, hB⟩ := hrel
    by_cases hlt : i < len
    · obtain ⟨b, off, rfl, hbl, hc⟩ := HR.out.at_ (by omega)
      have hil : i < l.length := by rw [HL.out]; exact hlt
      have cx : wr.cell? ⟨b, off + (i * 2 + 0), none⟩ = some (.int .i64 (l.getD i (0, 0)).1) := (hB.cell (p := ⟨b, off + (i * 2 + 0), none⟩) hbl).trans (hc i hlt).1
      have cy : wr.cell? ⟨b, off + (i * 2 + 1), none⟩ = some (.int .i64 (l.getD i (0, 0)).2) := (hB.cell (p := ⟨b, off + (i * 2 + 1), none⟩) hbl).trans (hc i hlt).2
      rw [Nat.add_zero] at cx
      rw [← Nat.add_assoc] at cy
      have hin := HR.out.in_ _ (mem_at hil)
      have hkm : (l.getD i (0, 0)).1 ∈ l.map Prod.fst := List.mem_map_of_mem (mem_at hil)
      have hbn := beg_next l i hil s00
      have t1 : decide (i < len) = true := by simpa using hlt
      generalize l.getD i (0, 0) = m at *
      obtain ⟨x, y⟩ := m
      dsimp only at cx cy hin hkm
      have hok2 := bok_next hok hkm hin.2
      rw [← hbn] at hok2
      generalize hs0 : (l.take i).foldl begS s00 = s at *
      have HBN := Lib.hid hbn
      have HOK2 := Lib.hid hok2
      have HOK := Lib.hid hok
      have HV := Lib.hid hV
      have HB := Lib.hid hB
      have hmb := hV.below ((Below.refl _ _).alloc (Nat.le_refl _) (.cells #[.int .i64 x, .int .i64 y] 108))
      have d6 := hmb.at6
      have d7 := hmb.at7
      have HMB := Lib.hid hmb
      have HIN := Lib.hid hin
      have WX := Lib.hid (wf64 (x := x) (by omega) (by omega))
      have WY := Lib.hid (wf64 (x := y) (by omega) (by omega))
      have HZ : Hid (w.heap.size + 1 + 1 + 1 < wr.heap.size) := Lib.hid hV.lt
      clear hc hbn hok2 hok hs0 hV hB hin hkm hil hmb hmm hbl
      by_cases hxy : x = y
      · have t2 : (x == y) = true := by simpa using hxy
        have t3 : (x != y) = false := by simp [hxy]
        have HE : Hid (begS s (x, y) = s) := Lib.hid (by unfold begS; rw [if_pos hxy])
        clear hxy
        go_wp2_with fail
        go_roundw
        case rel => exact ⟨i + 1, by omega, by go_num, by rw [HBN.out, HE.out]; exact HMB.out.mono (by omega), HOK2.out, HB.out.alloc HB.out.size _⟩
        case measure => simp [intOf]; omega
      · have t2 : (x == y) = false := by simpa using hxy
        have t3 : (x != y) = true := by simp [hxy]
        have HE : Hid (begS s (x, y) = ⟨upd s.F x (some y), upd s.A y (s.A y + 1), s.out⟩) := Lib.hid (by unfold begS; rw [if_neg hxy])
        have hay := HOK.out.a y
        have wa := Lib.hid (wf64 (x := s.A y + 1) (by omega) (by omega))
        have hadd : IntKind.i64.wrap (s.A y + 1) = s.A y + 1 := IntWalk.i64_in _ (by omega)
        have HM1 := Lib.hid (show 2 * i < maxLen by unfold maxLen; omega)
        have HM2 := Lib.hid (show 2 * i + 1 < maxLen by unfold maxLen; omega)
        generalize hzv : s.A y = zv at *
        have HZV := Lib.hid hzv
        have HF6 := Lib.hid HMB.out.f
        clear hzv hxy hay
        go_wp2_with (first | (at_mapUpdate; first | (refine wpList_imap_put _ rfl _ _ _ 216 rfl 3 3 Tryd.underlying3 Tryd.underlying216 Tryd.underlying3 w.heap.size (2 * i) _ rfl HF6.out HM1.out x rfl WX.out y rfl WY.out ?_; intro w5 hM5 hT5; obtain ⟨V5, B5⟩ := mb_turnF HMB.out (Nat.le_succ _) hM5 hT5; have e7 := V5.at7; have n5 := (turned_keeps hT5 (k := wr.heap.size) (by simp) (by have := HZ.out; omega)).trans (heap_alloc_new _ _); have m0 : w5.cell? ⟨wr.heap.size, 0, none⟩ = some (.int .i64 x) := by { rw [cell_of_row w5 _ 0 _ _ (0, 0) n5]; rfl }; have m1 : w5.cell? ⟨wr.heap.size, 1, none⟩ = some (.int .i64 y) := by { rw [cell_of_row w5 _ 1 _ _ (0, 0) n5]; rfl }; obtain ⟨S5, a5, b5⟩ := V5.a; have z5 := Lib.hid ((b5 y).trans HZV.out); replace a5 := Lib.hid a5; replace b5 := Lib.hid b5; replace V5 := Lib.hid V5; replace B5 := Lib.hid B5; clear hM5 hT5 n5) | (refine wpList_imap_put _ rfl _ _ _ 216 rfl 3 3 Tryd.underlying3 Tryd.underlying216 Tryd.underlying3 (w.heap.size + 1 + 1) (2 * i + 1) _ rfl a5.out HM2.out y rfl WY.out (zv + 1) rfl wa.out ?_; intro w8 hM8 hT8; obtain ⟨V8, B8⟩ := mb_turnA (A := upd s.A y (zv + 1)) V5.out (Nat.le_succ _) hM8 (upd_getD b5.out) hT8; replace V8 := Lib.hid V8; replace B8 := Lib.hid B8; clear hM8 hT8)) | (at_lookup; refine wpList_imap_get _ rfl _ _ 216 rfl 3 3 Tryd.underlying3 Tryd.underlying216 Tryd.underlying3 (zero_intM _) (w.heap.size + 1 + 1) (2 * i + 1) _ rfl a5.out y rfl WY.out zv z5.out ?_))
        go_roundw
        case rel => exact ⟨i + 1, by omega, by go_num, by rw [HBN.out, HE.out]; exact V8.out, HOK2.out, (HB.out.alloc HB.out.size _).trans (B5.out.trans B8.out)⟩
        case measure => simp [intOf]; omega
    · obtain rfl : i = len := by omega
      obtain ⟨W, rfl⟩ : ∃ W : World, W = wr := ⟨_, rfl⟩
      have t1 : decide (i < i) = false := by simp
      rw [List.take_of_length_le (by rw [HL.out]; exact Nat.le_refl _)] at hV hok
      have hKS : (l.map Prod.fst).length = i := by rw [List.length_map]; exact HL.out
      have hmv := mb_mv hV hok.o
      have F0 : Hid (FreeRel w W i l (begF l) (.int .i64 0) (W.alloc (.cells #[.slice none 0 0] 103))) := Lib.hid ⟨0, Nat.zero_le _, rfl, hmv.mono (Nat.le_add_right _ _), hok.mok (by omega) (Nat.le_of_eq hKS), hB.alloc hB.size _, by simp⟩
      have HKS := Lib.hid hKS
      clear hV hok hB hKS hmv hmm
      go_wp2_with fail
      go_loopw [47] (fun si wr => FreeRel w W i l (begF l) si wr) (fun si _ => i - (intOf si).toNat)
      case atStart => exact F0.out
      case round =>
        clear F0
        obtain ⟨j, hj, rfl, hV, hok, hB, hsz⟩ := hrel
        by_cases hlt : j < i
        · obtain ⟨b, off, rfl, hbl, hc⟩ := HR.out.at_ (by omega)
          have hil : j < l.length := by rw [HL.out]; exact hlt
          have cx : wr.cell? ⟨b, off + (j * 2 + 0), none⟩ = some (.int .i64 (l.getD j (0, 0)).1) := (hB.cell (p := ⟨b, off + (j * 2 + 0), none⟩) hbl).trans (hc j hlt).1
          have cy : wr.cell? ⟨b, off + (j * 2 + 1), none⟩ = some (.int .i64 (l.getD j (0, 0)).2) := (hB.cell (p := ⟨b, off + (j * 2 + 1), none⟩) hbl).trans (hc j hlt).2
          rw [Nat.add_zero] at cx
          rw [← Nat.add_assoc] at cy
          have hin := HR.out.in_ _ (mem_at hil)
          have hfn := free_next i l j hil (begF l)
          have t1 : decide (j < i) = true := by simpa using hlt
          generalize l.getD j (0, 0) = m at *
          obtain ⟨x, y⟩ := m
          dsimp only at cx cy hin hfn
          have KD := Lib.hid (do_any (n := i) _ x (wr.alloc (.cells #[.int .i64 x, .int .i64 y] 108)) (hV.below ((Below.refl _ _).alloc (Nat.le_refl _) _)) hok (by have := cnt_le (l.map Prod.fst) (freeF i (l.take j) (begF l)).F; rw [HKS.out] at this; exact this) (by omega) (by omega) (by rw [World.size_alloc]; omega) hin.1)
          rw [← hfn] at KD
          have HB := Lib.hid hB
          have HZ := Lib.hid hsz
          clear hc hfn hV hok hB hsz hin hil hbl
          go_wp2_with (go_at_call 166; refine KD.out.mono ?_; rintro e w9 ⟨rfl, V9, O9, B9⟩)
          go_roundw
          case rel => exact ⟨j + 1, by omega, by go_num, V9, O9, (HB.out.alloc HB.out.size _).trans B9, by have h9 := B9.size; rw [World.size_alloc] at h9; have := HZ.out; omega⟩
          case measure => simp [intOf]; omega
        · obtain rfl : j = i := by omega
          have t1 : decide (j < j) = false := by simp
          rw [List.take_of_length_le (by rw [HL.out]; exact Nat.le_refl _)] at hV hok
          have R0 : Hid (RingRel w W j l spare (freeF j l (begF l)) (.int .i64 0) (.int .i64 0) wr) := Lib.hid ⟨0, _, 0, Nat.zero_le _, rfl, rfl, Int.le_refl _, Int.le_refl _, rfl, hV, hok, hB, hsz⟩
          clear hV hok hB hsz
          go_wp2_with fail
          go_loopw [58, 14] (fun si sc wr => RingRel w W j l spare (freeF j l (begF l)) si sc wr) (fun si _ _ => j - (intOf si).toNat)
          case atStart => exact R0.out
          case round =>
            clear R0
            obtain ⟨W3, rfl⟩ : ∃ W3 : World, W3 = wr := ⟨_, rfl⟩
            obtain ⟨k, s, cc, hk, rfl, rfl, c0, c1, hfo, hV, hok, hB, hsz⟩ := hrel
            by_cases hlt : k < j
            · obtain ⟨b, off, rfl, hbl, hc⟩ := HR.out.at_ (by omega)
              have hkl : k < l.length := by rw [HL.out]; exact hlt
              have hr0 := HRING.out
              rw [HL.out] at hr0
              obtain ⟨s', c', hstep, hnext⟩ := ring_next hr0 hkl hfo
              have cx : W3.cell? ⟨b, off + (k * 2 + 0), none⟩ = some (.int .i64 (l.getD k (0, 0)).1) := (hB.cell (p := ⟨b, off + (k * 2 + 0), none⟩) hbl).trans (hc k hlt).1
              have cy : W3.cell? ⟨b, off + (k * 2 + 1), none⟩ = some (.int .i64 (l.getD k (0, 0)).2) := (hB.cell (p := ⟨b, off + (k * 2 + 1), none⟩) hbl).trans (hc k hlt).2
              rw [Nat.add_zero] at cx
              rw [← Nat.add_assoc] at cy
              have hin := HR.out.in_ _ (mem_at hkl)
              have t1 : decide (k < j) = true := by simpa using hlt
              have HNEXT := Lib.hid hnext
              clear hnext hr0 hfo hc
              generalize l.getD k (0, 0) = m at *
              obtain ⟨x, y⟩ := m
              dsimp only at cx cy hin
              have hVa := hV.below ((Below.refl _ _).alloc (Nat.le_refl _) (.cells #[.int .i64 x, .int .i64 y] 108))
              have d6 := hVa.at6
              have HF := Lib.hid hVa.f
              have WX := Lib.hid (wf64 (x := x) (by omega) (by omega))
              rcases ringS_some hstep with ⟨hn, rfl, rfl⟩ | ⟨v, last, lv, hv, hch, hlv, rfl, rfl⟩
              · have hF1 := Lib.hid (show (s'.F x).getD 0 = 0 by rw [show s'.F x = none from hn]; rfl)
                have hF2 := Lib.hid (show (s'.F x).isSome = false by rw [show s'.F x = none from hn]; rfl)
                have HVA := Lib.hid hVa
                have HOK := Lib.hid (hok.mono (show j + k ≤ j + (k + 1) by omega))
                have HB := Lib.hid hB
                have HC := Lib.hid (And.intro c0 c1)
                have HZ := Lib.hid hsz
                clear hstep hn hVa hV hok hB c0 c1 hsz hin hkl hbl
                go_wp2_with (at_lookup; refine wpList_imap_look _ rfl _ _ 216 rfl 3 3 Tryd.underlying3 Tryd.underlying216 Tryd.underlying3 (zero_intM _) w.heap.size (2 * j + 2 * s'.out.length) _ rfl HF.out x rfl WX.out 0 hF1.out false hF2.out ?_)
                go_roundw
                case rel => exact ⟨k + 1, s', c', by omega, by go_num, rfl, HC.out.1, by have := HC.out.2; omega, HNEXT.out, HVA.out, HOK.out, HB.out.alloc HB.out.size _, by rw [World.size_alloc]; have := HZ.out; omega⟩
                case measure => simp [intOf]; omega
              · have hF1 := Lib.hid (show (s.F x).getD 0 = v by rw [show s.F x = some v from hv]; rfl)
                have hF2 := Lib.hid (show (s.F x).isSome = true by rw [show s.F x = some v from hv]; rfl)
                obtain ⟨va, vc, c10, hown⟩ := hV.at10
                have hq : s.out.length ≤ j + k := by have := hok.m; omega
                obtain ⟨i0, hi, hz0, hz1, hz2⟩ := info_parts moveinfo
                have HI := Lib.hid hi
                have HZ0 := Lib.hid hz0
                have HZ1 := Lib.hid hz1
                have HZ2 := Lib.hid hz2
                have HM1 := Lib.hid (show s.out.length + 1 ≤ maxLen by unfold maxLen; omega)
                have HM2 := Lib.hid (show (s.out.length + 1) * 16 ≤ 140737488355328 by omega)
                have HM3 := Lib.hid (show 2 * j + 2 * s.out.length < maxLen by unfold maxLen; omega)
                have HM4 := Lib.hid (show 2 * j + 2 * s.out.length + 1 < maxLen by unfold maxLen; omega)
                have hca : (W3.alloc (.cells #[.int .i64 x, .int .i64 y] 108)).cell? ⟨W.heap.size, 0, none⟩ = some (.slice va s.out.length vc) := ((Below.refl _ _).alloc (Nat.le_refl _) (.cells #[.int .i64 x, .int .i64 y] 108)).cell (p := ⟨W.heap.size, 0, none⟩) (by show W.heap.size < W3.heap.size; omega) |>.trans c10
                have HNA : Hid (W.heap.size + 1 ≤ (W3.alloc (.cells #[.int .i64 x, .int .i64 y] 108)).heap.size) := Lib.hid (by rw [World.size_alloc]; omega)
                have HB3 : Hid (W.heap.size + 1 ≤ ((W3.alloc (.cells #[.int .i64 x, .int .i64 y] 108)).alloc (.cells #[.int .i64 spare, .int .i64 x] 108)).heap.size) := Lib.hid (by rw [World.size_alloc, World.size_alloc]; omega)
                have HOA := Lib.hid (hown.alloc (.cells #[.int .i64 x, .int .i64 y] 108))
                have HOB : Hid (some W3.heap.size ≠ (Value.slice va s.out.length vc).ownBlock) := Lib.hid fun e => by have := (hown.lt _ e.symm).2; omega
                have hnews := cells_newM (W3.alloc (.cells #[.int .i64 x, .int .i64 y] 108)) (.int .i64 spare) (.int .i64 x) 108
                rw [World.size_alloc] at hnews
                have HNEWS := Lib.hid hnews
                have hadd : IntKind.i64.wrap (cc + 1) = cc + 1 := IntWalk.i64_in _ (by omega)
                have HVA := Lib.hid hVa
                have HOK := Lib.hid hok
                have HB := Lib.hid hB
                have HC := Lib.hid (And.intro c0 c1)
                have HZ := Lib.hid hsz
                have HIN := Lib.hid hin
                have HCH := Lib.hid hch
                have HLV := Lib.hid hlv
                have HCA := Lib.hid hca
                have HLT : Hid (w.heap.size + 1 + 1 + 1 < W3.heap.size) := Lib.hid (by have := hV.l4; omega)
                clear hstep hv hVa hV hok hB c0 c1 hsz hin hkl hbl hch hlv hown hi hz0 hz1 hz2 hq hnews c10
                go_wp2_with (first | (at_lookup; refine wpList_imap_look _ rfl _ _ 216 rfl 3 3 Tryd.underlying3 Tryd.underlying216 Tryd.underlying3 (zero_intM _) w.heap.size (2 * j + 2 * s.out.length) _ rfl HF.out x rfl WX.out v hF1.out true hF2.out ?_) | (at_builtin; refine wpList_append_own _ rfl (.tmp 73) (.tmp 78) 103 rfl (W.heap.size + 1) 108 i0 (.agg #[.int .i64 0, .int .i64 0]) 2 16 Tryd.underlying103 HI.out HZ0.out HZ1.out HZ2.out rfl (by decide) (.slice va s.out.length vc) s.out.length (mvCells s.out) rfl (HOA.out.alloc _) ⟨W3.heap.size + 1, 0, none⟩ 1 1 [.int .i64 spare, .int .i64 x] rfl rfl HNEWS.out (by simp [Value.oneCell']) HM1.out HM2.out HB3.out ?_; intro v5 w5 hown5 hgrow5 hnil5; obtain ⟨co5, fo5, FA⟩ := mv_app HVA.out HNA.out HOA.out HCA.out hgrow5 hown5; obtain ⟨va5, vc5, rfl⟩ := own_shapeM hown5; have n16 := (FA.out.2.2 W3.heap.size (by simp) (by have := HZ.out; omega) HOB.out).trans (heap_alloc_new _ _); have m0 := (cell_of_row _ W3.heap.size 0 _ _ (0, 0) n16); have m1 := (cell_of_row _ W3.heap.size 1 _ _ (0, 0) n16); simp at m0 m1; have HN16 := Lib.hid n16; clear hown5 hgrow5 hnil5 n16))
                generalize hW6 : w5.setCell ⟨W.heap.size, 0, none⟩ (.slice va5 (s.out.length + 1) vc5) = W6 at *
                have hV6 := FA.out.1
                have e6 := hV6.at6
                have e7 := hV6.at7
                have HF6 := Lib.hid hV6.f
                obtain ⟨S6, a6, b6⟩ := hV6.a
                have HA6 := Lib.hid a6
                have HB6 := Lib.hid b6
                have HV6 := Lib.hid hV6
                have HN6 : Hid (W.heap.size + 1 ≤ W6.heap.size ∧ W3.heap.size < W6.heap.size) := Lib.hid ⟨by have := FA.out.2.1.size; have := HNA.out; omega, (Array.getElem?_eq_some_iff.1 HN16.out).1⟩
                have hbz := HOK.out.a x
                have hqz : s.out.length ≤ j + k := by have := HOK.out.m; omega
                have WS := Lib.hid (wf64 (x := s.A x - 1) (by omega) (by omega))
                have hsub : IntKind.i64.wrap (s.A x - 1) = s.A x - 1 := IntWalk.i64_in _ (by omega)
                have WSP := Lib.hid (wf64 (x := spare) (by have := HS.out.1; omega) (by have := HS.out.2; omega))
                have CH0 : Hid (ChRel j s.F x last W6 (.int .i64 y) W6) := Lib.hid ⟨y, j, rfl, HCH.out, Nat.le_refl _, HIN.out.2.1, HIN.out.2.2, rfl⟩
                clear hV6 a6 b6 hbz hqz hW6 hca cx cy co5 fo5
                go_loopw [19] (fun st wr => ChRel j s.F x last W6 st wr) (fun st _ => stepsF j s.F (intOf st) x)
                case atStart => exact CH0.out
                case round =>
                  clear CH0
                  obtain ⟨a, n, rfl, hch, hn, lo, hi, rfl⟩ := hrel
                  obtain ⟨z, hz⟩ : ∃ z, (s.F a).getD 0 = z := ⟨_, rfl⟩
                  have HZZ := Lib.hid hz
                  have WA := Lib.hid (wf64 (x := a) (by omega) (by omega))
                  by_cases e : z = x
                  · obtain rfl := chase_end hch (hz.trans e)
                    have t3 : (z != x) = false := by simp [e]
                    have t4 : (z == x) = true := by simpa using e
                    clear hz e hch hn lo hi
                    go_wp2_with (first | (at_lookup; first | refine wpList_imap_get _ rfl _ _ 216 rfl 3 3 Tryd.underlying3 Tryd.underlying216 Tryd.underlying3 (zero_intM _) w.heap.size (2 * j + 2 * s.out.length) _ rfl HF6.out last rfl WA.out z HZZ.out ?_ | refine wpList_imap_get _ rfl _ _ 216 rfl 3 3 Tryd.underlying3 Tryd.underlying216 Tryd.underlying3 (zero_intM _) (w.heap.size + 1 + 1) (2 * j + 2 * s.out.length) _ rfl HA6.out x rfl WX.out (s.A x) (HB6.out x) ?_) | (at_mapUpdate; first | (refine wpList_imap_put _ rfl _ _ _ 216 rfl 3 3 Tryd.underlying3 Tryd.underlying216 Tryd.underlying3 (w.heap.size + 1 + 1) (2 * j + 2 * s.out.length) _ rfl HA6.out HM3.out x rfl WX.out (s.A x - 1) rfl WS.out ?_; intro w8 hM8 hT8; obtain ⟨V8, B8⟩ := mv_turnA (A := upd s.A x (s.A x - 1)) HV6.out HN6.out.1 (Nat.le_succ _) hM8 (upd_getD HB6.out) hT8; have e8 := V8.at6; have n8 := (turned_keeps hT8 HN6.out.2 (by have := HLT.out; omega)).trans HN16.out; have k0 := (cell_of_row _ W3.heap.size 0 _ _ (0, 0) n8); simp at k0; have HN8 := Lib.hid n8; have HF8 := Lib.hid V8.f; have HNN8 := Lib.hid (Nat.le_trans HN6.out.1 B8.size); replace V8 := Lib.hid V8; replace B8 := Lib.hid B8; clear hM8 hT8 n8) | (refine wpList_imap_put _ rfl _ _ _ 216 rfl 3 3 Tryd.underlying3 Tryd.underlying216 Tryd.underlying3 w.heap.size (2 * j + 2 * s.out.length + 1) _ rfl HF8.out HM4.out last rfl WA.out spare rfl WSP.out ?_; intro w9 hM9 hT9; obtain ⟨V9, B9⟩ := mv_turnF V8.out HNN8.out (Nat.le_succ _) hM9 hT9; have n9 := (turned_keeps hT9 (Array.getElem?_eq_some_iff.1 HN8.out).1 (by have := HLT.out; omega)).trans HN8.out; have j0 := (cell_of_row _ W3.heap.size 0 _ _ (0, 0) n9); simp at j0; have HNN9 := Lib.hid (Nat.le_trans HNN8.out B9.size); replace V9 := Lib.hid V9; replace B9 := Lib.hid B9; clear hM9 hT9 n9)) | (go_at_call 166; refine (do_any (ks := l.map Prod.fst) (L := 2 * j) (M := j + k + 1) (n := j) ⟨upd s.F last (some spare), upd s.A x (s.A x - 1), s.out ++ [(spare, x)]⟩ x w9 (V9.out.mono (by simp; omega)) (mok_ring HOK.out HLV.out HS.out) (by have := cnt_le (l.map Prod.fst) (upd s.F last (some spare)); rw [HKS.out] at this; exact this) (by omega) (by omega) HNN9.out HIN.out.1).mono ?_; rintro e w10 ⟨rfl, V10, O10, B10⟩))
                    go_roundw
                    case rel => exact ⟨k + 1, _, cc + 1, by omega, by go_num, rfl, by have := HC.out.1; omega, by have := HC.out.2; omega, HNEXT.out, V10, O10, (HB.out.alloc HB.out.size _).trans (FA.out.2.1.trans (B8.out.trans (B9.out.trans B10))), by have := HNN9.out; have := B10.size; omega⟩
                    case measure => simp [intOf]; omega
                  · have t3 : (z != x) = true := by simp [e]
                    have t4 : (z == x) = false := by simpa using e
                    obtain ⟨k', hc', hk', hlt'⟩ := chase_on hch hn (fun h => e (hz.symm.trans h))
                    rw [hz] at hc' hlt'
                    have HBZ : Hid (-2000 ≤ z ∧ z ≤ 2000) := Lib.hid (by
                      cases hfa : s.F a with
                      | none => rw [hfa] at hz; simp at hz; omega
                      | some u => rw [hfa] at hz; simp at hz; subst hz; exact HOK.out.v a u hfa)
                    have HC' := Lib.hid hc'
                    have HK' := Lib.hid hk'
                    have HL' := Lib.hid hlt'
                    clear hz e hch hn lo hi hc' hk' hlt'
                    go_wp2_with (at_lookup; refine wpList_imap_get _ rfl _ _ 216 rfl 3 3 Tryd.underlying3 Tryd.underlying216 Tryd.underlying3 (zero_intM _) w.heap.size (2 * j + 2 * s.out.length) _ rfl HF6.out a rfl WA.out z HZZ.out ?_)
                    go_roundw
                    case rel => exact ⟨z, k', rfl, HC'.out, HK'.out, HBZ.out.1, HBZ.out.2, rfl⟩
                    case measure => exact HL'.out
            · obtain rfl : k = j := by omega
              have t1 : decide (k < k) = false := by simp
              obtain ⟨va, vc, c10, hown⟩ := hV.at10
              rw [List.take_of_length_le (by rw [HL.out]; exact Nat.le_refl _)] at hfo
              have hr0 := HRING.out
              rw [HL.out, hfo] at hr0
              cases hr0
              have HO := Lib.hid hown
              have HB := Lib.hid hB
              have HLW : Hid (w.heap.size ≤ W.heap.size + 1) := Lib.hid (by have := hV.l4; omega)
              clear hfo hV hok hB hsz hown c0 c1
              go_wp2_with fail
              go_ret2
              exact ⟨_, rfl, by rw [← HOUT.out]; exact own_baseM HO.out HLW.out, HB.out⟩

end Go.Proofs.YtflbjfcmnopfaaaDoor
