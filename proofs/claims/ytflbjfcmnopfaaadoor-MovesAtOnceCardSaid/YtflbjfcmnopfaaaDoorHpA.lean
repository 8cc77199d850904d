/-
  A heap's methods: Least, old, Size, Room, Words, Need.
-/
import Derived.Test.YtflbjfcmnopfaaaDoorHp
import Derived.Outline
namespace Go.Proofs.YtflbjfcmnopfaaaDoor
open Go.RowKit

section
variable {B hb ab gb bg : Nat} {cp : Option Addr} {cl cc : Nat} {cf : Nat → ByteArray} {n : Nat} {yt yp hp ht f1 t1 p1 : Int} {wd : Nat → Int} {bd : Nat → Bool} {mk : Value}

theorem old_any (w : World) (h : Hp B hb ab gb bg cp cl cc cf n yt yp hp ht f1 t1 p1 wd bd mk w) :
    Calls Tryd.prog 116 #[.pointer (some ⟨hb, 0, none⟩)] w fun e w' => e = .returned (.pointer (some ⟨hb, 6, none⟩)) ∧ ∃ q, w' = w.drewN q := by
  have c12 := h.cell 12
  rw [show (hcells cp cl cc ab bg n yt yp hp ht f1 t1 p1 mk)[12]? = some (.int .i64 0) from rfl] at c12
  clear h
  go_enter Tryd.func116, Tryd.ntmps116
  go_wp2
  go_quiet (fail)
  all_goals go_wp2
  all_goals
    go_ret
    exact ⟨rfl, _, rfl⟩

def PairPost (a b : Int) (w : World) (e : Ending) (w' : World) : Prop := e = .returned (.tuple #[.int .i64 a, .int .i64 b]) ∧ ∃ q, w' = w.drewN q

theorem size_any (w : World) (h : Hp B hb ab gb bg cp cl cc cf n yt yp hp ht f1 t1 p1 wd bd mk w) :
    Calls Tryd.prog 143 #[.pointer (some ⟨hb, 0, none⟩)] w (PairPost yt (ht - yt) w) := by
  have c3 := h.cell 3
  have c4 := h.cell 4
  have c6 := h.cell 6
  have c7 := h.cell 7
  rw [show (hcells cp cl cc ab bg n yt yp hp ht f1 t1 p1 mk)[3]? = some (.int .i64 0) from rfl] at c3
  rw [show (hcells cp cl cc ab bg n yt yp hp ht f1 t1 p1 mk)[4]? = some (.int .i64 yt) from rfl] at c4
  rw [show (hcells cp cl cc ab bg n yt yp hp ht f1 t1 p1 mk)[6]? = some (.int .i64 yt) from rfl] at c6
  rw [show (hcells cp cl cc ab bg n yt yp hp ht f1 t1 p1 mk)[7]? = some (.int .i64 ht) from rfl] at c7
  have y0 := h.y0
  have y1 := h.y1
  have y2 := h.y2
  have y3 := h.y3
  have y4 := h.y4
  have sm := h.sm
  have a1 : IntKind.i64.wrap (ht - yt) = ht - yt := IntWalk.i64_in _ (by omega)
  have a2 : IntKind.i64.wrap yt = yt := IntWalk.i64_in _ (by omega)
  have KO : ∀ q, Hid (Calls Tryd.prog 116 #[.pointer (some ⟨hb, 0, none⟩)] (w.drewN q) fun e w' => e = .returned (.pointer (some ⟨hb, 6, none⟩)) ∧ ∃ r, w' = (w.drewN q).drewN r) := fun q => Lib.hid (old_any _ (h.drewN q))
  clear h
  go_enter Tryd.func143, Tryd.ntmps143
  go_wp2
  go_quiet ((go_at_call 116; exact Calls.quiet_of (KO _).out))
  all_goals go_wp2
  all_goals
    go_ret2
    exact ⟨rfl, _, rfl⟩
end

end Go.Proofs.YtflbjfcmnopfaaaDoor
