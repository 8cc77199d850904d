/-
  Package script: Print of a list that may not be.
-/
import Derived.Test.YtjcklfbpdjfibaaDoorPrnA
namespace Go.Proofs.YtjcklfbpdjfibaaDoor
open Go.RowKit

def PrintBad (w : World) (e : Ending) (w' : World) : Prop :=
  Below w.heap.size w w' ∧ ∃ t x, e = .returned (.tuple #[.slice none 0 0, .iface t (.pointer (some x))])

theorem print_long4 (a : Nat → Addr) (ad : Option Addr) (len cap : Nat) (w : World) (h : Sents4 a w) (hm : cap ≤ maxLen) (hl : len ≤ cap) (h400 : 400 < len) :
    Calls Tryd.prog 66 #[.slice ad len cap] w (PrintBad w) := by
  have HS := Lib.hid h
  clear h
  go_enter Tryd.func66, Tryd.ntmps66
  go_wp2_with fail
  refine (may_many4 a _ len cap _ HS.out hm hl h400).mono ?_
  rintro e w1 ⟨rfl, rfl⟩
  have FIN : Hid (∀ x, PrintBad w (.returned (.tuple #[.slice none 0 0, .iface 211 (.pointer (some x))])) w) := Lib.hid fun x => ⟨Below.refl _ _, _, x, rfl⟩
  go_wp2_with fail
  go_ret2
  exact FIN.out _

theorem print_unfair4 (a : Nat → Addr) (ad : Option Addr) (len cap k : Nat) (gv : Nat → Nat → Int) (w : World) (h : Sents4 a w) (hp : Picks w ad len cap gv) (hl : len ≤ 400) (hn : k < len) (hok : ∀ i, i < k → codeAt gv i = 0) (hbad : codeAt gv k ≠ 0) :
    Calls Tryd.prog 66 #[.slice ad len cap] w (PrintBad w) := by
  have HS := Lib.hid h
  have HP := Lib.hid hp
  have HOK := Lib.hid hok
  have HBAD := Lib.hid hbad
  clear h hp hok hbad
  go_enter Tryd.func66, Tryd.ntmps66
  go_wp2_with fail
  refine (may_list4 a _ len cap gv k _ HS.out HP.out hl (by omega) HOK.out (fun _ => HBAD.out)).mono ?_
  rintro e w1 ⟨hb1, ⟨h1, _⟩ | ⟨_, b', rfl, _, _⟩⟩
  · omega
  · have FIN : Hid (PrintBad w (.returned (.tuple #[.slice none 0 0, .iface 164 (.pointer (some ⟨b', 0, none⟩))])) w1) := Lib.hid ⟨hb1, _, _, rfl⟩
    clear hb1
    go_wp2_with fail
    go_ret2
    exact FIN.out

end Go.Proofs.YtjcklfbpdjfibaaDoor
