import PyProof.Rows.All
import Wide.All
import OpenK.AllK
import Wide.FinOn
import HandS.ForMost
import HandS.Wide
import HandS.Style
import HandS.IsInst
import HandS.TupAny
import HandS.NoneIn
import HandS.SetFor
import HandS.Conv
import HandS.Zip
import HandS.SortKw
import HandS.Deep
import KE.DataMinMax
import KE.GoesMore
import KE.KDictZip
import KE.GoesZip
import KE.GoesEnum
import HandS.AnyAll
import HandS.Words
import HandS.EndTab
import HandS.HeadWalk
import HandS.Defaults
import HandS.Head0
import HandS.Head1
import HandS.Head2
import HandS.HeadEnd
import HandS.HeadHook1
import HandS.HeadHook2
import HandS.HeadHook3
import HandS.HeadHook4
import KE.KStateDown
import KE.KIsAll
import KE.KNestM
import PyProof.GenCompD
import PyProof.WalksMore
import PySem.Challenge.RW_beltshift_k34_moved_things
import HandS.ExcInit
import HandS.WordsExc
import HandS.ExcIs
import HandS.ExcField
import HandS.ExcOwn
set_option Elab.async false
set_option linter.all false
set_option maxRecDepth 100000
namespace Mine
open PySem PyProof.Rows L2
def topS (i : Nat) : Stmt := PySem.Challenge.pw_beltshift_k34_moved_things.main.body.getD i (.Pass ⟨0, 0, 0, 0⟩)
abbrev s_is_whole : Stmt := topS 4
abbrev N_is_whole : List Str := ["thing"]
theorem sc_is_whole : FnScope N_is_whole ["thing"] (defScope s_is_whole) := ⟨rfl, rfl, rfl, by decide +kernel, rfl, by decide +kernel, by decide +kernel⟩
abbrev s_made_by : Stmt := topS 6
abbrev N_made_by : List Str := ["rule", "things", "word"]
theorem sc_made_by : FnScope N_made_by ["rule", "things"] (defScope s_made_by) := ⟨rfl, rfl, rfl, by decide +kernel, rfl, by decide +kernel, by decide +kernel⟩
abbrev s_made_of_two : Stmt := topS 7
abbrev N_made_of_two : List Str := ["word", "one", "other"]
theorem sc_made_of_two : FnScope N_made_of_two ["word", "one", "other"] (defScope s_made_of_two) := ⟨rfl, rfl, rfl, by decide +kernel, rfl, by decide +kernel, by decide +kernel⟩
abbrev s_comings : Stmt := topS 11
abbrev N_comings : List Str := ["room", "hand", "number", "belt"]
theorem sc_comings : FnScope N_comings ["room", "hand"] (defScope s_comings) := ⟨rfl, rfl, rfl, by decide +kernel, rfl, by decide +kernel, by decide +kernel⟩
abbrev s_doors_in : Stmt := topS 12
abbrev N_doors_in : List Str := ["room", "number", "hand"]
theorem sc_doors_in : FnScope N_doors_in ["room"] (defScope s_doors_in) := ⟨rfl, rfl, rfl, by decide +kernel, rfl, by decide +kernel, by decide +kernel⟩
abbrev s_doors_out : Stmt := topS 13
abbrev N_doors_out : List Str := ["room", "number", "hand"]
theorem sc_doors_out : FnScope N_doors_out ["room"] (defScope s_doors_out) := ⟨rfl, rfl, rfl, by decide +kernel, rfl, by decide +kernel, by decide +kernel⟩
abbrev s_work_order : Stmt := topS 15
abbrev N_work_order : List Str := ["room", "hands", "belts", "loose", "giver", "taker", "things", "owed", "left", "order", "ready", "hand"]
theorem sc_work_order : FnScope N_work_order ["room"] (defScope s_work_order) := ⟨rfl, rfl, rfl, by decide +kernel, rfl, by decide +kernel, by decide +kernel⟩
abbrev s_worked : Stmt := topS 17
abbrev N_worked : List Str := ["room", "rows", "plan", "stands", "told", "things", "made"]
theorem sc_worked : FnScope N_worked ["room", "rows"] (defScope s_worked) := ⟨rfl, rfl, rfl, by decide +kernel, rfl, by decide +kernel, by decide +kernel⟩
abbrev s_work_plan : Stmt := topS 18
abbrev N_work_plan : List Str := ["room", "hand"]
theorem sc_work_plan : FnScope N_work_plan ["room"] (defScope s_work_plan) := ⟨rfl, rfl, rfl, by decide +kernel, rfl, by decide +kernel, by decide +kernel⟩
abbrev s_made_at_bell : Stmt := topS 19
abbrev N_made_at_bell : List Str := ["room", "plan", "things", "hands", "belts", "made", "hand", "coming", "taken", "number"]
theorem sc_made_at_bell : FnScope N_made_at_bell ["room", "plan", "things"] (defScope s_made_at_bell) := ⟨rfl, rfl, rfl, by decide +kernel, rfl, by decide +kernel, by decide +kernel⟩
abbrev s_thing_taken : Stmt := topS 20
abbrev N_thing_taken : List Str := ["belt", "made", "giver", "taker", "things"]
theorem sc_thing_taken : FnScope N_thing_taken ["belt", "made"] (defScope s_thing_taken) := ⟨rfl, rfl, rfl, by decide +kernel, rfl, by decide +kernel, by decide +kernel⟩
abbrev s_behind_bell : Stmt := topS 21
abbrev N_behind_bell : List Str := ["room", "made", "hands", "belts", "belt"]
theorem sc_behind_bell : FnScope N_behind_bell ["room", "made"] (defScope s_behind_bell) := ⟨rfl, rfl, rfl, by decide +kernel, rfl, by decide +kernel, by decide +kernel⟩
abbrev s_belt_behind_bell : Stmt := topS 22
abbrev N_belt_behind_bell : List Str := ["belt", "made", "giver", "taker", "things"]
theorem sc_belt_behind_bell : FnScope N_belt_behind_bell ["belt", "made"] (defScope s_belt_behind_bell) := ⟨rfl, rfl, rfl, by decide +kernel, rfl, by decide +kernel, by decide +kernel⟩
abbrev s_look_shifts : Stmt := topS 24
abbrev N_look_shifts : List Str := ["room", "late", "shifts"]
theorem sc_look_shifts : FnScope N_look_shifts ["room", "late", "shifts"] (defScope s_look_shifts) := ⟨rfl, rfl, rfl, by decide +kernel, rfl, by decide +kernel, by decide +kernel⟩
abbrev s_refuse_shifts : Stmt := topS 25
abbrev N_refuse_shifts : List Str := ["word", "at"]
theorem sc_refuse_shifts : FnScope N_refuse_shifts ["word", "at"] (defScope s_refuse_shifts) := ⟨rfl, rfl, rfl, by decide +kernel, rfl, by decide +kernel, by decide +kernel⟩
abbrev s_is_shifts : Stmt := topS 26
abbrev N_is_shifts : List Str := ["room", "thing", "shift"]
theorem sc_is_shifts : FnScope N_is_shifts ["room", "thing"] (defScope s_is_shifts) := ⟨rfl, rfl, rfl, by decide +kernel, rfl, by decide +kernel, by decide +kernel⟩
abbrev s_wrong_door : Stmt := topS 27
abbrev N_wrong_door : List Str := ["room", "late", "shifts", "wrong", "door"]
theorem sc_wrong_door : FnScope N_wrong_door ["room", "late", "shifts"] (defScope s_wrong_door) := ⟨rfl, rfl, rfl, by decide +kernel, rfl, by decide +kernel, by decide +kernel⟩
abbrev s_short_belt : Stmt := topS 28
abbrev N_short_belt : List Str := ["room", "shifts", "number", "trays"]
theorem sc_short_belt : FnScope N_short_belt ["room", "shifts"] (defScope s_short_belt) := ⟨rfl, rfl, rfl, by decide +kernel, rfl, by decide +kernel, by decide +kernel⟩
abbrev s_waits : Stmt := topS 29
abbrev N_waits : List Str := ["shifts"]
theorem sc_waits : FnScope N_waits ["shifts"] (defScope s_waits) := ⟨rfl, rfl, rfl, by decide +kernel, rfl, by decide +kernel, by decide +kernel⟩
abbrev s_trays_moved : Stmt := topS 30
abbrev N_trays_moved : List Str := ["room", "shifts", "giver", "taker", "things"]
theorem sc_trays_moved : FnScope N_trays_moved ["room", "shifts"] (defScope s_trays_moved) := ⟨rfl, rfl, rfl, by decide +kernel, rfl, by decide +kernel, by decide +kernel⟩
abbrev s_moved : Stmt := topS 32
abbrev N_moved : List Str := ["room", "late", "shifts", "rows", "hands", "belts", "bells", "made", "after", "giver", "taker", "things", "trays", "first", "taken", "bell"]
theorem sc_moved : FnScope N_moved ["room", "late", "shifts", "rows"] (defScope s_moved) := ⟨rfl, rfl, rfl, by decide +kernel, rfl, by decide +kernel, by decide +kernel⟩
abbrev s_rows_on : Stmt := topS 33
abbrev N_rows_on : List Str := ["room", "shifts", "rows", "noughts", "door"]
theorem sc_rows_on : FnScope N_rows_on ["room", "shifts", "rows"] (defScope s_rows_on) := ⟨rfl, rfl, rfl, by decide +kernel, rfl, by decide +kernel, by decide +kernel⟩
abbrev s_taken_at : Stmt := topS 34
abbrev N_taken_at : List Str := ["belt", "made", "bell", "giver", "taker", "things"]
theorem sc_taken_at : FnScope N_taken_at ["belt", "made", "bell"] (defScope s_taken_at) := ⟨rfl, rfl, rfl, by decide +kernel, rfl, by decide +kernel, by decide +kernel⟩
abbrev s_law_flow : Stmt := topS 36
abbrev N_law_flow : List Str := ["_law_script"]
theorem sc_law_flow : FnScope N_law_flow ["_law_script"] (defScope s_law_flow) := ⟨rfl, rfl, rfl, by decide +kernel, rfl, by decide +kernel, by decide +kernel⟩
abbrev s_law_pick : Stmt := topS 37
abbrev N_law_pick : List Str := ["_law_flow_here", "_law_many", "_law_cell", "_law_digit"]
theorem sc_law_pick : FnScope N_law_pick ["_law_flow_here", "_law_many"] (defScope s_law_pick) := ⟨rfl, rfl, rfl, by decide +kernel, rfl, by decide +kernel, by decide +kernel⟩
abbrev s_law_thing : Stmt := topS 38
abbrev N_law_thing : List Str := ["_law_flow_here"]
theorem sc_law_thing : FnScope N_law_thing ["_law_flow_here"] (defScope s_law_thing) := ⟨rfl, rfl, rfl, by decide +kernel, rfl, by decide +kernel, by decide +kernel⟩
abbrev s_law_needs : Stmt := topS 39
abbrev N_law_needs : List Str := ["_law_rule_here"]
theorem sc_law_needs : FnScope N_law_needs ["_law_rule_here"] (defScope s_law_needs) := ⟨rfl, rfl, rfl, by decide +kernel, rfl, by decide +kernel, by decide +kernel⟩
abbrev s_law_rule : Stmt := topS 40
abbrev N_law_rule : List Str := ["_law_flow_here", "_law_most", "_law_words", "_law_word"]
theorem sc_law_rule : FnScope N_law_rule ["_law_flow_here", "_law_most"] (defScope s_law_rule) := ⟨rfl, rfl, rfl, by decide +kernel, rfl, by decide +kernel, by decide +kernel⟩
abbrev s_law_shuffled : Stmt := topS 41
abbrev N_law_shuffled : List Str := ["_law_flow_here", "_law_some", "_law_left", "_law_k"]
theorem sc_law_shuffled : FnScope N_law_shuffled ["_law_flow_here", "_law_some"] (defScope s_law_shuffled) := ⟨rfl, rfl, rfl, by decide +kernel, rfl, by decide +kernel, by decide +kernel⟩
abbrev s_law_hands : Stmt := topS 42
abbrev N_law_hands : List Str := ["_law_flow_here", "_law_many", "_law_most", "_law_sorts", "_law_left", "_law_hands_here", "_law_k", "_law_sort", "_law_behind", "_law_other", "_law_rule_here"]
theorem sc_law_hands : FnScope N_law_hands ["_law_flow_here", "_law_many"] (defScope s_law_hands) := ⟨rfl, rfl, rfl, by decide +kernel, rfl, by decide +kernel, by decide +kernel⟩
abbrev s_law_room : Stmt := topS 43
abbrev N_law_room : List Str := ["_law_flow_here", "_law_most", "_law_hands_here", "_law_ranks", "_law_givers", "_law_k", "_law_takers", "_law_belts", "_law_to", "_law_one", "_law_trays_here"]
theorem sc_law_room : FnScope N_law_room ["_law_flow_here", "_law_most"] (defScope s_law_room) := ⟨rfl, rfl, rfl, by decide +kernel, rfl, by decide +kernel, by decide +kernel⟩
abbrev s_law_rows : Stmt := topS 44
abbrev N_law_rows : List Str := ["_law_flow_here", "_law_room_here", "_law_many", "_law_doors", "_law_hand", "_law_door", "_law_k"]
theorem sc_law_rows : FnScope N_law_rows ["_law_flow_here", "_law_room_here", "_law_many"] (defScope s_law_rows) := ⟨rfl, rfl, rfl, by decide +kernel, rfl, by decide +kernel, by decide +kernel⟩
abbrev s_law_made_by : Stmt := topS 45
abbrev N_law_made_by : List Str := ["_law_rule_here", "_law_things", "_law_a", "_law_b", "_law_some"]
theorem sc_law_made_by : FnScope N_law_made_by ["_law_rule_here", "_law_things"] (defScope s_law_made_by) := ⟨rfl, rfl, rfl, by decide +kernel, rfl, by decide +kernel, by decide +kernel⟩
abbrev s_law_worked : Stmt := topS 46
abbrev N_law_worked : List Str := ["_law_room_here", "_law_rows_here", "_law_hands_here", "_law_belts", "_law_found", "_law_t", "_law_row", "_law_doors", "_law_k", "_law_now", "_law_turn", "_law_things", "_law_one", "_law_to", "_law_first"]
theorem sc_law_worked : FnScope N_law_worked ["_law_room_here", "_law_rows_here"] (defScope s_law_worked) := ⟨rfl, rfl, rfl, by decide +kernel, rfl, by decide +kernel, by decide +kernel⟩
abbrev s_law_trays : Stmt := topS 47
abbrev N_law_trays : List Str := ["_law_room_here", "_law_shifts_here", "_law_one", "_law_to", "_law_things"]
theorem sc_law_trays : FnScope N_law_trays ["_law_room_here", "_law_shifts_here"] (defScope s_law_trays) := ⟨rfl, rfl, rfl, by decide +kernel, rfl, by decide +kernel, by decide +kernel⟩
abbrev s_law_shifts : Stmt := topS 48
abbrev N_law_shifts : List Str := ["_law_flow_here", "_law_room_here", "_law_late", "_law_many", "_law_hands_here", "_law_found", "_law_hand", "_law_free", "_law_k", "_law_turn", "_law_step", "_law_tried"]
theorem sc_law_shifts : FnScope N_law_shifts ["_law_flow_here", "_law_room_here", "_law_late", "_law_many"] (defScope s_law_shifts) := ⟨rfl, rfl, rfl, by decide +kernel, rfl, by decide +kernel, by decide +kernel⟩
abbrev s_law_whole : Stmt := topS 49
abbrev N_law_whole : List Str := ["_law_thing_here"]
theorem sc_law_whole : FnScope N_law_whole ["_law_thing_here"] (defScope s_law_whole) := ⟨rfl, rfl, rfl, by decide +kernel, rfl, by decide +kernel, by decide +kernel⟩
abbrev s_law_like_room : Stmt := topS 50
abbrev N_law_like_room : List Str := ["_law_found", "_law_due", "_law_hand", "_law_one", "_law_to", "_law_things", "_law_thing_here"]
theorem sc_law_like_room : FnScope N_law_like_room ["_law_found", "_law_due"] (defScope s_law_like_room) := ⟨rfl, rfl, rfl, by decide +kernel, rfl, by decide +kernel, by decide +kernel⟩
abbrev s_law_moved : Stmt := topS 51
abbrev N_law_moved : List Str := ["_law_room_here", "_law_shifts_here", "_law_rows_here", "_law_wait", "_law_idle", "_law_hand", "_law_made", "_law_belts", "_law_one", "_law_to", "_law_things", "_law_trays_here", "_law_fresh", "_law_t", "_law_bell"]
theorem sc_law_moved : FnScope N_law_moved ["_law_room_here", "_law_shifts_here", "_law_rows_here"] (defScope s_law_moved) := ⟨rfl, rfl, rfl, by decide +kernel, rfl, by decide +kernel, by decide +kernel⟩
abbrev s_law_refused : Stmt := topS 52
abbrev N_law_refused : List Str := ["_law_room_here", "_law_late", "_law_shifts_here", "_law_rows_here", "e"]
theorem sc_law_refused : FnScope N_law_refused ["_law_room_here", "_law_late", "_law_shifts_here", "_law_rows_here"] (defScope s_law_refused) := ⟨rfl, rfl, rfl, by decide +kernel, rfl, by decide +kernel, by decide +kernel⟩
abbrev s_law_fault : Stmt := topS 53
abbrev N_law_fault : List Str := ["_law_flow_here", "_law_room_here", "_law_shifts_here", "_law_hands_here", "_law_doors", "_law_k", "_law_free", "_law_bad", "_law_fewer", "_law_b", "_law_trays_here"]
theorem sc_law_fault : FnScope N_law_fault ["_law_flow_here", "_law_room_here", "_law_shifts_here"] (defScope s_law_fault) := ⟨rfl, rfl, rfl, by decide +kernel, rfl, by decide +kernel, by decide +kernel⟩
abbrev s_law : Stmt := topS 54
abbrev N_law : List Str := ["_law_script", "_law_flow_here", "_law_sort", "_law_room_here", "_law_late", "_law_shifts_here", "_law_bad", "_law_due", "_law_rows_here", "_law_handed", "_law_wish", "_law_still", "_law_hand", "_law_found"]
theorem sc_law : FnScope N_law ["_law_script"] (defScope s_law) := ⟨rfl, rfl, rfl, by decide +kernel, rfl, by decide +kernel, by decide +kernel⟩

/-- a def of the text stands, binds and is bound -/
def Dd (K : PySem.W.Frag) (mg : Str → Option Value) (name : Str) (st : Stmt) (ps : List Str) : Prop :=
  ∃ (f : Addr) (fd : FuncData), Fun K name name st f fd ∧ Binds K fd ps [] ∧ mg name = some (.ref f)
/-! ### an own error with fields -/
abbrev s_NoShift_init : Stmt := inClass (topS 2) 0
abbrev N_NoShift_init : List Str := ["self", "word", "at"]
theorem sc_NoShift_init : FnScope N_NoShift_init ["self", "word", "at"] (defScope s_NoShift_init) := ⟨rfl, rfl, rfl, by decide +kernel, rfl, by decide +kernel, by decide +kernel⟩
structure NsC (K : PySem.W.Frag) (mg : Str → Option Value) (C CB fI : Addr) (fd : FuncData) : Prop where
  gC : mg "NoShift" = some (.ref C)
  gB : mg "BeltError" = some (.ref CB)
  T : OexC K C
  nw : PySem.W.findIn K (.ref C) "word" = some none
  na : PySem.W.findIn K (.ref C) "at" = some none
  iC : PySem.W.findIn K (.ref C) "__init__" = some (some (.ref fI))
  tI : PySem.W.typeIn K (.ref fI) = some (.type "function")
  F : Fun K "__init__" "NoShift.__init__" s_NoShift_init fI fd
  b : Binds K fd ["self", "word", "at"] []
  te : PySem.W.exmOne K (.ref C) (.ref CB) = some true
  xf : XfC K C
  is_ : ExcC K C
  k1 : PySem.W.kitOne K (.ref C) (.ref C) = some true
  k2 : PySem.W.kitOne K (.ref C) (.type "ValueError") = some true
structure Top (K : PySem.W.Frag) (mg : Str → Option Value) : Prop where
  d_is_whole : Dd K mg "is_whole" s_is_whole ["thing"]
  d_made_by : Dd K mg "made_by" s_made_by ["rule", "things"]
  d_made_of_two : Dd K mg "made_of_two" s_made_of_two ["word", "one", "other"]
  d_comings : Dd K mg "comings" s_comings ["room", "hand"]
  d_doors_in : Dd K mg "doors_in" s_doors_in ["room"]
  d_doors_out : Dd K mg "doors_out" s_doors_out ["room"]
  d_work_order : Dd K mg "work_order" s_work_order ["room"]
  d_worked : Dd K mg "worked" s_worked ["room", "rows"]
  d_work_plan : Dd K mg "work_plan" s_work_plan ["room"]
  d_made_at_bell : Dd K mg "made_at_bell" s_made_at_bell ["room", "plan", "things"]
  d_thing_taken : Dd K mg "thing_taken" s_thing_taken ["belt", "made"]
  d_behind_bell : Dd K mg "behind_bell" s_behind_bell ["room", "made"]
  d_belt_behind_bell : Dd K mg "belt_behind_bell" s_belt_behind_bell ["belt", "made"]
  d_look_shifts : Dd K mg "look_shifts" s_look_shifts ["room", "late", "shifts"]
  d_refuse_shifts : Dd K mg "refuse_shifts" s_refuse_shifts ["word", "at"]
  d_is_shifts : Dd K mg "is_shifts" s_is_shifts ["room", "thing"]
  d_wrong_door : Dd K mg "wrong_door" s_wrong_door ["room", "late", "shifts"]
  d_short_belt : Dd K mg "short_belt" s_short_belt ["room", "shifts"]
  d_waits : Dd K mg "waits" s_waits ["shifts"]
  d_trays_moved : Dd K mg "trays_moved" s_trays_moved ["room", "shifts"]
  d_moved : Dd K mg "moved" s_moved ["room", "late", "shifts", "rows"]
  d_rows_on : Dd K mg "rows_on" s_rows_on ["room", "shifts", "rows"]
  d_taken_at : Dd K mg "taken_at" s_taken_at ["belt", "made", "bell"]
  d_law_flow : Dd K mg "_law_flow" s_law_flow ["_law_script"]
  d_law_pick : Dd K mg "_law_pick" s_law_pick ["_law_flow_here", "_law_many"]
  d_law_thing : Dd K mg "_law_thing" s_law_thing ["_law_flow_here"]
  d_law_needs : Dd K mg "_law_needs" s_law_needs ["_law_rule_here"]
  d_law_rule : Dd K mg "_law_rule" s_law_rule ["_law_flow_here", "_law_most"]
  d_law_shuffled : Dd K mg "_law_shuffled" s_law_shuffled ["_law_flow_here", "_law_some"]
  d_law_hands : Dd K mg "_law_hands" s_law_hands ["_law_flow_here", "_law_many"]
  d_law_room : Dd K mg "_law_room" s_law_room ["_law_flow_here", "_law_most"]
  d_law_rows : Dd K mg "_law_rows" s_law_rows ["_law_flow_here", "_law_room_here", "_law_many"]
  d_law_made_by : Dd K mg "_law_made_by" s_law_made_by ["_law_rule_here", "_law_things"]
  d_law_worked : Dd K mg "_law_worked" s_law_worked ["_law_room_here", "_law_rows_here"]
  d_law_trays : Dd K mg "_law_trays" s_law_trays ["_law_room_here", "_law_shifts_here"]
  d_law_shifts : Dd K mg "_law_shifts" s_law_shifts ["_law_flow_here", "_law_room_here", "_law_late", "_law_many"]
  d_law_whole : Dd K mg "_law_whole" s_law_whole ["_law_thing_here"]
  d_law_like_room : Dd K mg "_law_like_room" s_law_like_room ["_law_found", "_law_due"]
  d_law_moved : Dd K mg "_law_moved" s_law_moved ["_law_room_here", "_law_shifts_here", "_law_rows_here"]
  d_law_refused : Dd K mg "_law_refused" s_law_refused ["_law_room_here", "_law_late", "_law_shifts_here", "_law_rows_here"]
  d_law_fault : Dd K mg "_law_fault" s_law_fault ["_law_flow_here", "_law_room_here", "_law_shifts_here"]
  m_ValueError : mg "ValueError" = none
  m_abs : mg "abs" = none
  m_all : mg "all" = none
  m_bool : mg "bool" = none
  m_dict : mg "dict" = none
  m_enumerate : mg "enumerate" = none
  m_int : mg "int" = none
  m_isinstance : mg "isinstance" = none
  m_len : mg "len" = none
  m_list : mg "list" = none
  m_max : mg "max" = none
  m_min : mg "min" = none
  m_range : mg "range" = none
  m_tuple : mg "tuple" = none
  m_zip : mg "zip" = none
  x_in : ∃ aI : Addr, mg "IN_RULE" = some (.ref aI) ∧ ∀ H : Hp, SqT K H aI [.str "in"]
  x_out : ∃ aO : Addr, mg "OUT_RULE" = some (.ref aO) ∧ ∀ H : Hp, SqT K H aO [.str "out"]
  x_ns : ∃ fd : FuncData, NsC K mg (He.ga K "NoShift") (He.ga K "BeltError") (He.fAd K ("NoShift", some "__init__")) fd

/-! ### heaps -/
def But (f : Addr) (H H' : Hp) : Prop := ∀ b o, H b = some o → b ≠ f → H' b = some o
theorem But.refl {f : Addr} {H : Hp} : But f H H := fun _ _ e _ => e
theorem But.trans {f : Addr} {H H1 H2 : Hp} (a : But f H H1) (b : But f H1 H2) : But f H H2 := fun x o e n => b x o (a x o e n) n
theorem But.upd {f : Addr} {H H1 : Hp} {o : HO} (a : But f H H1) : But f H (upd H1 f o) := fun x u e n => by rw [upd_ne n]; exact a x u e n
theorem But.new {f p : Addr} {H H1 : Hp} {o : HO} (a : But f H H1) (h : H1 p = none) : But f H (L2.upd H1 p o) := fun x u e n => by
  have e1 := a x u e n
  rw [upd_ne (ne_of_none e1 h)]
  exact e1
theorem same_new {H : Hp} {p : Addr} {o : HO} (h : H p = none) : Same H (upd H p o) := fun b u q => by rw [upd_ne (ne_of_none q h)]; exact q
theorem But.same {f : Addr} {H H1 H2 : Hp} (a : But f H H1) (b : Same H1 H2) : But f H H2 := fun x o e n => b x o (a x o e n)
theorem But.seqT {K : PySem.W.Frag} {f a : Addr} {H H1 : Hp} {xs : List V} (b : But f H H1) (h : SqT K H a xs) (n : a ≠ f) : SqT K H1 a xs := by
  rcases h with h | h
  · left
    rcases h with h | ⟨o, h⟩
    · exact .inl (b _ _ h n)
    · exact .inr ⟨o, b _ _ h n⟩
  · exact .inr h
/-- a comprehension without a test -/
theorem yes_in {σ : L2.St} {H : Hp} {A B : Hp → Prop} (h : A H) : tYes σ H (fun b H3 => if b = true then A H3 else B H3) := by
  show (if true = true then A H else B H)
  rw [if_pos rfl]
  exact h
/-! ### the draw -/
/-- the list of the law's draws at f, the script's copy at c -/
def Flow (H : Hp) (f c : Addr) : Prop := ∃ (ns : List Int) (i p q r : Int), H f = some (.lst [.ref c, .int i, .int p, .int q, .int r]) ∧ H c = some (.lst (ns.map V.int)) ∧ 0 ≤ i ∧ 0 ≤ p ∧ 0 ≤ q ∧ q < 2147483647
theorem Flow.new {H : Hp} {f c p : Addr} {o : HO} (h : Flow H f c) (n : H p = none) : Flow (upd H p o) f c := by
  obtain ⟨ns, i, a, q, r, e1, e2, e⟩ := h
  exact ⟨ns, i, a, q, r, same_new n _ _ e1, same_new n _ _ e2, e⟩
theorem Flow.ne {H : Hp} {f c p : Addr} (h : Flow H f c) (n : H p = none) : p ≠ f := by
  obtain ⟨ns, i, a, q, r, e1, _⟩ := h
  exact fun e => by rw [e, e1] at n; cases n
theorem Flow.nec {H : Hp} {f c p : Addr} (h : Flow H f c) (n : H p = none) : p ≠ c := by
  obtain ⟨ns, i, a, q, r, _, e1, _⟩ := h
  exact fun e => by rw [e, e1] at n; cases n
theorem Flow.lst {H : Hp} {f c p : Addr} {o : HO} (h : Flow H f c) (n1 : p ≠ f) (n2 : p ≠ c) : Flow (upd H p o) f c := by
  obtain ⟨ns, i, a, q, r, e1, e2, e⟩ := h
  exact ⟨ns, i, a, q, r, by rw [upd_ne n1.symm]; exact e1, by rw [upd_ne n2.symm]; exact e2, e⟩
theorem Flow.same {H H' : Hp} {f c : Addr} (h : Flow H f c) (s : Same H H') : Flow H' f c := by
  obtain ⟨ns, i, a, q, r, e1, e2, e⟩ := h
  exact ⟨ns, i, a, q, r, s _ _ e1, s _ _ e2, e⟩
theorem Flow.tup {H : Hp} {f c p : Addr} {xs : List V} (h : Flow H f c) (e : H p = some (.tup xs)) : p ≠ f := by
  obtain ⟨ns, i, a, q, r, e1, _⟩ := h
  exact ne_of e e1 (by intro z; cases z)
theorem at_ints {ns : List Int} {i : Int} (h0 : 0 ≤ i) (h1 : i < (ns.length : Int)) : ∃ v : Int, atI (ns.map V.int) i = some (.int v) := by
  have hk : i.toNat < ns.length := by omega
  have ek : i = ((i.toNat : Nat) : Int) := by omega
  have q : atI (ns.map V.int) ((i.toNat : Nat) : Int) = some (.int ns[i.toNat]) := atI_nat (by rw [List.getElem?_map, List.getElem?_eq_getElem hk]; rfl)
  rw [← ek] at q
  exact ⟨_, q⟩
/-- a block by less than it asks -/
theorem PSs.to {X : Cx} {ss : List Stmt} {t : TS} (h : PSs X ss t) (u : TS) (k : ∀ D σ H, u D σ H → t D σ H) : PSs X ss u := ⟨fun pins s σ H D I q => h.run pins s σ H D I (k D σ H q)⟩
theorem if_bl {b : Bool} {A B : Prop} (h1 : b = true → A) (h2 : b = false → B) : if b = true then A else B := by
  cases b
  · rw [if_neg Bool.false_ne_true]; exact h2 rfl
  · rw [if_pos rfl]; exact h1 rfl
/-! ### lists, two by two -/
inductive All2 {α β : Type} (R : α → β → Prop) : List α → List β → Prop
  | nil : All2 R [] []
  | cons {a b as bs} : R a b → All2 R as bs → All2 R (a :: as) (b :: bs)
theorem All2.imp {α β : Type} {R S : α → β → Prop} (h : ∀ a b, R a b → S a b) : ∀ {as bs}, All2 R as bs → All2 S as bs
  | _, _, .nil => .nil
  | _, _, .cons a b => .cons (h _ _ a) (All2.imp h b)
theorem All2.length {α β : Type} {R : α → β → Prop} : ∀ {as bs}, All2 R as bs → as.length = bs.length
  | _, _, .nil => rfl
  | _, _, .cons _ b => congrArg (· + 1) (All2.length b)
theorem All2.snoc {α β : Type} {R : α → β → Prop} {a b} (r : R a b) : ∀ {as bs}, All2 R as bs → All2 R (as ++ [a]) (bs ++ [b])
  | _, _, .nil => .cons r .nil
  | _, _, .cons h t => .cons h (All2.snoc r t)
theorem All2.get {α β : Type} {R : α → β → Prop} {as : List α} {bs : List β} (h : All2 R as bs) : ∀ {i : Nat} {b : β}, bs[i]? = some b → ∃ a, as[i]? = some a ∧ R a b := by
  induction h with
  | nil => intro i b e; cases e
  | cons r t ih =>
    intro i b e
    cases i with
    | zero => cases e; exact ⟨_, rfl, r⟩
    | succ i => exact ih e
theorem All2.getL {α β : Type} {R : α → β → Prop} {as : List α} {bs : List β} (h : All2 R as bs) : ∀ {i : Nat} {a : α}, as[i]? = some a → ∃ b, bs[i]? = some b ∧ R a b := by
  induction h with
  | nil => intro i b e; cases e
  | cons r t ih =>
    intro i b e
    cases i with
    | zero => cases e; exact ⟨_, rfl, r⟩
    | succ i => exact ih e
/-! ### tuples stay -/
def TK (H H' : Hp) : Prop := ∀ b xs, H b = some (.tup xs) → H' b = some (.tup xs)
theorem TK.refl {H : Hp} : TK H H := fun _ _ e => e
theorem TK.trans {H H1 H2 : Hp} (a : TK H H1) (b : TK H1 H2) : TK H H2 := fun x xs e => b x xs (a x xs e)
theorem TK.same {H H' : Hp} (s : Same H H') : TK H H' := fun x xs e => s _ _ e
theorem TK.new {H : Hp} {p : Addr} {o : HO} (n : H p = none) : TK H (upd H p o) := fun x xs e => same_new n _ _ e
theorem TK.lst {H : Hp} {p : Addr} {xs ys : List V} (h : H p = some (.lst xs)) : TK H (upd H p (.lst ys)) := fun x zs e => by
  rw [upd_ne (ne_of e h (by intro z; cases z))]
  exact e
theorem TK.but {H H' : Hp} {f c : Addr} (F : Flow H f c) (b : But f H H') : TK H H' := fun x xs e => b _ _ e (F.tup e)
theorem same_none {H H' : Hp} {p : Addr} (s : Same H H') (n : H' p = none) : H p = none := by
  cases e : H p with
  | none => rfl
  | some o => rw [s _ _ e] at n; cases n
theorem But.none {f p : Addr} {H H' : Hp} (b : But f H H') (n : H' p = Option.none) (h : p ≠ f) : H p = Option.none := by
  cases e : H p with
  | none => rfl
  | some o => rw [b _ _ e h] at n; cases n
theorem But.of {f : Addr} {H H' : Hp} (s : Same H H') : But f H H' := fun _ _ e _ => s _ _ e
/-- a list that was not there is written: what was stays -/
theorem But.own {f p : Addr} {H H1 : Hp} {o : HO} (a : But f H H1) (h : H p = Option.none) : But f H (L2.upd H1 p o) := fun x u e n => by
  rw [upd_ne (ne_of_none e h)]
  exact a x u e n
theorem Same.own {p : Addr} {H H1 : Hp} {o : HO} (a : Same H H1) (h : H p = Option.none) : Same H (L2.upd H1 p o) := fun x u e => by
  rw [upd_ne (ne_of_none e h)]
  exact a x u e
/-! ### loops over any iterator -/
theorem for_it {J : It} {n : Nat} {g : TG} {tb : TS} {D : Ends} {σ : L2.St} {H : Hp} (Pv : Nat → L2.St → Hp → Prop) (h0 : Pv 0 σ H) (go : ∀ i σ H, i < n → Pv i σ H → J.go i H) (st : ∀ σ H, Pv n σ H → J.stop n H)
    (hs : ∀ i x σ H H', i < n → Pv i σ H → J.yld i H x H' → g x σ H' fun σ2 H2 => tb { D with nx := Pv (i + 1), ct := Pv (i + 1), bk := D.nx } σ2 H2) (hd : ∀ σ H, Pv n σ H → D.nx σ H) :
    ∃ W : Nat → Nat → L2.St → Hp → Prop, (∃ m, W 0 m σ H) ∧ ∀ i m σ H, W i m σ H →
      (J.stop i H ∧ D.nx σ H) ∨ (J.go i H ∧ ∃ N : L2.St → Hp → Prop, (∀ σ' H', N σ' H' → ∃ m', m' < m ∧ W (i + 1) m' σ' H') ∧ ∀ x H', J.yld i H x H' → g x σ H' fun σ2 H2 => tb { D with nx := N, ct := N, bk := D.nx } σ2 H2) := by
  refine ⟨fun i m σ H => i + m = n ∧ Pv i σ H, ⟨n, by omega, h0⟩, fun i m σ H ⟨e, p⟩ => ?_⟩
  by_cases k : i < n
  · exact .inr ⟨go i σ H k p, Pv (i + 1), fun σ' H' p' => ⟨m - 1, by omega, by omega, p'⟩, fun x H' y => hs i x σ H H' k p y⟩
  · have z : i = n := by omega
    subst z
    exact .inl ⟨st σ H p, hd σ H p⟩
theorem lc_it {J : It} {n : Nat} {g : TG} {tt : TT} {te : TE} {vs : List Nat} {σ : L2.St} {H1 : Hp} {D : Addr} {Qd : Hp → Prop} (Pv : Nat → Hp → Prop) (h0 : Pv 0 (upd H1 D (.lst []))) (go : ∀ i H, i < n → Pv i H → J.go i H) (st : ∀ H, Pv n H → J.stop n H)
    (hs : ∀ i x H H', i < n → Pv i H → J.yld i H x H' → g x (wipe σ vs) H' fun σ2 H2 => wipe σ2 vs = wipe σ vs ∧ tt σ2 H2 fun b H3 =>
      if b = true then te σ2 H3 fun y H4 => ∃ acc, H4 D = some (.lst acc) ∧ acc.length < sizeLine ∧ Pv (i + 1) (upd H4 D (.lst (acc ++ [y]))) else Pv (i + 1) H3) (hd : ∀ H, Pv n H → Qd H) :
    ∃ W : Nat → Nat → Hp → Prop, (∃ m, W 0 m (upd H1 D (.lst []))) ∧ ∀ i m H, W i m H →
      (J.stop i H ∧ Qd H) ∨ (J.go i H ∧ ∃ Nx : Hp → Prop, (∀ H', Nx H' → ∃ m', m' < m ∧ W (i + 1) m' H') ∧ ∀ x H', J.yld i H x H' → g x (wipe σ vs) H' fun σ2 H2 => wipe σ2 vs = wipe σ vs ∧ tt σ2 H2 fun b H3 =>
        if b = true then te σ2 H3 fun y H4 => ∃ acc, H4 D = some (.lst acc) ∧ acc.length < sizeLine ∧ Nx (upd H4 D (.lst (acc ++ [y]))) else Nx H3) := by
  refine ⟨fun i m H => i + m = n ∧ Pv i H, ⟨n, by omega, h0⟩, fun i m H ⟨e, p⟩ => ?_⟩
  by_cases k : i < n
  · exact .inr ⟨go i H k p, Pv (i + 1), fun H' p' => ⟨m - 1, by omega, by omega, p'⟩, fun x H' y => hs i x H H' k p y⟩
  · have z : i = n := by omega
    subst z
    exact .inl ⟨st H p, hd H p⟩
/-! ### tests -/
theorem if_str {x z : Str} {A B : Prop} (h1 : x = z → A) (h2 : x ≠ z → B) : if decide (V.str x = V.str z) = true then A else B :=
  if_bl (fun e => h1 (V.str.inj (of_decide_eq_true e))) (fun e => h2 (fun q => of_decide_eq_false e (congrArg V.str q)))
theorem inV_strs {x : Str} {zs : List Str} : inV (.str x) (zs.map V.str) = true ↔ x ∈ zs := by
  unfold inV
  induction zs with
  | nil => simp
  | cons z zs ih =>
    rw [List.map_cons, List.any_cons, Bool.or_eq_true, ih, List.mem_cons]
    constructor
    · rintro (h | h)
      · exact .inl (by simpa [eqV] using (show (z == x) = true from h) |> fun k => (eq_of_beq k).symm)
      · exact .inr h
    · rintro (h | h)
      · exact .inl (show (z == x) = true by rw [h]; exact beq_self_eq_true z)
      · exact .inr h
theorem if_in {x : Str} {zs : List Str} {A B : Prop} (h1 : x ∈ zs → A) (h2 : x ∉ zs → B) : if (if false = true then !inV (.str x) (zs.map V.str) else inV (.str x) (zs.map V.str)) = true then A else B := by
  have e : (if false = true then !inV (.str x) (zs.map V.str) else inV (.str x) (zs.map V.str)) = inV (.str x) (zs.map V.str) := if_neg Bool.false_ne_true
  rw [e]
  exact if_bl (fun c => h1 (inV_strs.mp c)) (fun c => h2 (fun k => by rw [inV_strs.mpr k] at c; cases c))
theorem same_seqT {K : PySem.W.Frag} {a : Addr} {H H1 : Hp} {xs : List V} (b : Same H H1) (h : SqT K H a xs) : SqT K H1 a xs := by
  rcases h with h | h
  · left
    rcases h with h | ⟨o, h⟩
    · exact .inl (b _ _ h)
    · exact .inr ⟨o, b _ _ h⟩
  · exact .inr h
theorem little {n : Nat} (h : n ≤ 1000) : n ≤ sizeLine := Nat.le_of_lt (small1000 h)
/-! ### xs[i] op= e -/
def rGetL (K : PySem.W.Frag) : V → V → Hp → VK → Prop := fun o i H Q => ∃ (p : Addr) (xs : List V) (j : Nat) (v : V), o = .ref p ∧ i = .int (j : Nat) ∧ SqL K H p xs ∧ xs[j]? = some v ∧ Q v H
theorem get_list {X : Cx} : PGet X (rGetL X.K) := by
  intro pins st σ H o i ov iv Q J ro ri asked
  obtain ⟨p, xs, j, v, rfl, rfl, hq, hj, now⟩ := asked
  cases ro
  obtain ⟨t, rfl⟩ := ri
  obtain ⟨its, r, pl, hz⟩ := J.list hq
  obtain ⟨u, eu, ru⟩ := r.get hj
  have n1 := (List.getElem?_eq_some_iff.mp hj).1
  have n2 := line63
  exact wpAny_getItem_list pl.isList (by omega) (by omega) (by simpa using eu) ⟨v, H, J, ru, now⟩
/-! ### the same rules, the written part named (so that they fit within comprehensions) -/
section
variable {X : Cx}
theorem ix_listK (K : PySem.W.Frag) (h : X.K = K) : IxR X (rIxL K) := by subst h; exact ix_list
theorem ix_tupK (K : PySem.W.Frag) (h : X.K = K) : IxR X (rIxT K) := by subst h; exact ix_tup
def rLenK (K : PySem.W.Frag) : List V → Hp → VK → Prop := fun xs H Q => ∃ (p : Addr) (ys : List V), xs = [.ref p] ∧ (SqL K H p ys ∨ SqT K H p ys) ∧ Q (.int (ys.length : Nat)) H
theorem call_len_seqK (K : PySem.W.Frag) (h : X.K = K) : CallR X (.builtin "len") (rLenK K) := by subst h; exact call_len_seq
def rListOfK (K : PySem.W.Frag) : List V → Hp → VK → Prop := fun xs H Q => ∃ (p : Addr) (ys : List V), xs = [.ref p] ∧ (SqL K H p ys ∨ SqT K H p ys) ∧ ∀ l, H l = none → Q (.ref l) (upd H l (.lst ys))
theorem call_list_ofK (K : PySem.W.Frag) (h : X.K = K) : CallR X (.type "list") (rListOfK K) := by subst h; exact call_list_of
def rTupOfK (K : PySem.W.Frag) : List V → Hp → VK → Prop := fun xs H Q => ∃ (p : Addr) (ys : List V), xs = [.ref p] ∧ ((SqL K H p ys ∧ ∀ l, H l = none → Q (.ref l) (upd H l (.tup ys))) ∨ (SqT K H p ys ∧ Q (.ref p) H))
theorem call_tuple_ofK (K : PySem.W.Frag) (h : X.K = K) : CallR X (.type "tuple") (rTupOfK K) := by subst h; exact call_tuple_of
theorem op_in_seqK (K : PySem.W.Frag) (h : X.K = K) : OpR X (compareOp .In) (rIn K false) := by subst h; exact op_in_seq
theorem op_notIn_seqK (K : PySem.W.Frag) (h : X.K = K) : OpR X (compareOp .NotIn) (rIn K true) := by subst h; exact op_notIn_seq
theorem sl_listK (K : PySem.W.Frag) (h : X.K = K) : SlR X (rSlL K) := by subst h; exact sl_list
theorem sl_tupAK (K : PySem.W.Frag) (h : X.K = K) : SlR X (rSlA K) := by subst h; exact sl_tupA
theorem op_eqDK (K : PySem.W.Frag) (h : X.K = K) (hu : X.A.units + 64 < cLine) : OpR X (compareOp .Eq) (rEqD K) := by subst h; exact op_eqD hu
theorem op_neDK (K : PySem.W.Frag) (h : X.K = K) (hu : X.A.units + 64 < cLine) : OpR X (compareOp .NotEq) (rNeD K) := by subst h; exact op_neD hu
theorem call_isiKK (K : PySem.W.Frag) (h : X.K = K) : CallR X (.builtin "isinstance") (rIsi K) := by subst h; exact call_isi
theorem cr_allK (K : PySem.W.Frag) (h : X.K = K) (hc : X.calm = true) : CallR X (.builtin "all") (rAll K) := by subst h; exact cr_all hc
theorem cr_anyK (K : PySem.W.Frag) (h : X.K = K) (hc : X.calm = true) : CallR X (.builtin "any") (rAny K) := by subst h; exact cr_any hc
theorem cr_minKK (K : PySem.W.Frag) (h : X.K = K) (hc : X.calm = true) : CallR X (.builtin "min") (rMin K) := by subst h; exact cr_min hc
theorem cr_maxKK (K : PySem.W.Frag) (h : X.K = K) (hc : X.calm = true) : CallR X (.builtin "max") (rMax K) := by subst h; exact cr_max hc
def tTruK (K : PySem.W.Frag) (ta : TE) : TT := fun σ H Q => ta σ H fun x H' => ∃ k, TruV K x H' k ∧ Q k H'
theorem pt_truthK (K : PySem.W.Frag) (h : X.K = K) {a : Expr} {ta : TE} (ha : PE X a ta) (he : ∀ whole, isTrue a X.env whole = (do let v ← whole; standAt a.pos; holding [v] (truthy v))) : PT X a (tTruK K ta) := by subst h; exact pt_truth ha he
theorem get_listK (K : PySem.W.Frag) (h : X.K = K) : PGet X (rGetL K) := by subst h; exact get_list
theorem pg_tupK (K : PySem.W.Frag) (h : X.K = K) {es : List Expr} {k n : Nat} {t : TGs} {pos : Pos} (hc : X.calm = true) (g : PGs X es t)
    (hn : (assignEach es X.env).length = n := by rfl) (hst : (assignEach es X.env).findIdx? (·.1) = none := by rfl) : PG X (.Tuple es k pos) (gTup K n t) := by subst h; exact pg_tup hc g hn hst
theorem pg_unlK (K : PySem.W.Frag) (h : X.K = K) {es : List Expr} {k n : Nat} {t : TGs} {pos : Pos} (hc : X.calm = true) (g : PGs X es t)
    (hn : (assignEach es X.env).length = n := by rfl) (hst : (assignEach es X.env).findIdx? (·.1) = none := by rfl) : PG X (.Tuple es k pos) (gUnl K n t) := by subst h; exact pg_unl hc g hn hst
theorem pi_listK (K : PySem.W.Frag) (h : X.K = K) {tg e : Expr} {te : TE} (he : PE X e te) : PI X tg e (iList K te) := by subst h; exact pi_list he
theorem pi_tupK (K : PySem.W.Frag) (h : X.K = K) {tg e : Expr} {te : TE} (he : PE X e te) : PI X tg e (iTup K te) := by subst h; exact pi_tup he
theorem pe_revLK (K : PySem.W.Frag) (h : X.K = K) {e : Expr} {te : TE} {k : Nat} {p1 p2 p3 pos : Pos} (he : PE X e te) : PE X (.Subscript e (.Slice none none (some (.UnaryOp .USub (.Constant (.int 1) k p1) p2)) p3) pos) (tRevL K te) := by subst h; exact pe_revL he
theorem pe_bmK (K : PySem.W.Frag) (h : X.K = K) {o e : Expr} {es : List Expr} {to : TE} {t : TA} {name : Str} {apos cpos : Pos} {T id : String} {r : V → List V → Hp → VK → Prop}
    (pa : PlainAttrs T) (slot : Slot T name id) (hty : typeOf (.builtin id) = pure (.type "method_descriptor")) (hm : MtR X id r) (ho : PE X o to) (ha : PA X (e :: es) t)
    (n1 : attributeBase o name X.env (eval o X.env) = eval o X.env := by rfl)
    (n2 : ((backTo cpos (starEach (e :: es) X.env)).all (fun x => !x.1) && (backToKw cpos (keywordEach [] X.env)).all (fun x => x.1.isSome) && decide ((e :: es).length + ([] : List Keyword).length + (if ([] : List Keyword).isEmpty then 0 else 1) < 30)) = true := by rfl)
    (n3 : (apos.endLine == cpos.line) = true := by rfl) (n4 : starEach (e :: es) X.env = (false, eval e X.env) :: starEach es X.env := by rfl) (n5 : (backTo cpos (starEach es X.env)).any (·.1) = false := by rfl) :
    PE X (.Call (.Attribute o name apos) (e :: es) [] cpos) (tBM K T r to t) := by subst h; exact pe_bm pa slot hty hm ho ha n1 n2 n3 n4 n5
theorem pe_bm0K (K : PySem.W.Frag) (h : X.K = K) {o : Expr} {to : TE} {name : Str} {apos cpos : Pos} {T id : String} {r : V → List V → Hp → VK → Prop}
    (pa : PlainAttrs T) (slot : Slot T name id) (hty : typeOf (.builtin id) = pure (.type "method_descriptor")) (hm : MtR X id r) (ho : PE X o to)
    (n1 : attributeBase o name X.env (eval o X.env) = eval o X.env := by rfl) (n3 : (apos.endLine == cpos.line) = true := by rfl) : PE X (.Call (.Attribute o name apos) [] [] cpos) (tBM0 K T r to) := by subst h; exact pe_bm0 pa slot hty hm ho n1 n3
theorem op_catAK (K : PySem.W.Frag) (h : X.K = K) : OpR X (binaryOp .Add) (rCatA K) := by subst h; exact op_catA
theorem call_isiTK (K : PySem.W.Frag) (h : X.K = K) : CallR X (.builtin "isinstance") (rIsiT K) := by subst h; exact call_isiT
theorem pi_zipAK (K : PySem.W.Frag) (h : X.K = K) {e e2 : Expr} {ta : TA} {p pos tpos : Pos} {elts : List Expr} {kk : Nat} (hg : Gl X "zip") (hm : X.mg "zip" = none) (ha : PA X [e, e2] ta)
    (hs : starEach [e, e2] X.env = (false, eval e X.env) :: starEach [e2] X.env := by rfl) (hpl : (backTo pos (starEach [e2] X.env)).any (·.1) = false := by rfl) :
    PI X (.Tuple elts kk tpos) (.Call (.Name "zip" p) [e, e2] [] pos) (RZ.iZipA K ta) := by subst h; exact RZ.pi_zipA hg hm ha hs hpl
theorem pi_or {tg e : Expr} {t1 t2 : TI} (h1 : PI X tg e t1) (h2 : PI X tg e t2) : PI X tg e (fun σ H R => t1 σ H R ∨ t2 σ H R) := ⟨fun pins s σ H R I h => h.elim (h1.run pins s σ H R I) (h2.run pins s σ H R I)⟩
theorem pe_fldK (K : PySem.W.Frag) (h : X.K = K) {e : Expr} {ta : TE} {f : Str} {pos : Pos} (he : PE X e ta) (hb : attributeBase e f X.env (eval e X.env) = eval e X.env) : PE X (.Attribute e f pos) (tFld K ta f) := by subst h; exact pe_fld he hb
theorem ps_fldK (K : PySem.W.Frag) (h : X.K = K) {o value : Expr} {ta tv : TE} {f : Str} {pos pos' : Pos} (ha : PE X o ta) (hv : PE X value tv) (hs : swapsWith value (some (.Attribute o f pos')) pos.line X.env = pure false) : PS X (.Assign [.Attribute o f pos'] value pos) (sFld K ta tv f) := by subst h; exact ps_fld ha hv hs
theorem ps_fldaugK (K : PySem.W.Frag) (h : X.K = K) {o value : Expr} {ta tv : TE} {f : Str} {pos tpos : Pos} {op : Operator} {rd : V → V → Hp → VK → Prop} (ha : PE X o ta) (hv : PE X value tv) (hop : InOp X op rd) : PS X (.AugAssign (.Attribute o f tpos) op value pos) (sFldAug K ta tv rd f) := by subst h; exact ps_fldaug ha hv hop
end
section
variable {X : Cx}
theorem cr_sumK (K : PySem.W.Frag) (h : X.K = K) (hc : X.calm = true) : CallR X (.builtin "sum") (rSum K) := by subst h; exact cr_sum hc
end
section
variable {X : Cx}
theorem op_ltTK (K : PySem.W.Frag) (h : X.K = K) (hu : X.A.units < cLine) : OpR X (compareOp .Lt) (rLtT K) := by subst h; exact op_ltT hu
end
section
variable {X : Cx}
theorem cr_sortedRevK (K : PySem.W.Frag) (h : X.K = K) {b : Bool} : CallRK X (.builtin "sorted") [Str.ofString "reverse"] (rSortedKw K b [.bl b]) := by subst h; exact cr_sortedRev
theorem op_inDK (K : PySem.W.Frag) (h : X.K = K) (hu : X.A.units + 65 < cLine) : OpR X (compareOp .In) (rInD K) := by subst h; exact op_inD hu
end
theorem hu65 {A : Around} {k : Nat} (hr : Room k A) : A.units + 65 < cLine := by have := hr.un; omega
section
variable {X : Cx}
/-- x not in t, t a tuple of data of any depth -/
def rNotInDT (K : PySem.W.Frag) : R2 := fun x y H Q => ∃ d ds, Dp K H x d ∧ Dp K H y (.tuple ds) ∧ SeqAt.shaped d = true ∧ SeqAt.shaped (.tuple ds) = true ∧ Q (.bl (!ds.any fun z => PyData.eqv z d)) H
theorem op_notInDTK (K : PySem.W.Frag) (same : X.K = K) (room : X.A.units + 65 < cLine) : OpR X (compareOp .NotIn) (rNotInDT K) := by
  subst same
  intro pins st σ H one many ov mv Q J ro rm asked
  have ⟨d, ds, dpO, dpM, shO, shM, done⟩ := asked
  have ⟨_, readO⟩ := Dp.reads J d one ov dpO ro
  have ⟨_, readM⟩ := Dp.reads J (.tuple ds) many mv dpM rm
  exact SeqAt.notIn_tuple_reads readM readO (SeqAt.canLay_of_shaped shM) (SeqAt.canLay_of_shaped shO) (room_in_shaped shO room) ⟨.bl _, H, J, rfl, done⟩
end
section
variable {X : Cx}
/-- x in t, t a tuple of data of any depth -/
def rInDT (K : PySem.W.Frag) : R2 := fun x y H Q => ∃ d ds, Dp K H x d ∧ Dp K H y (.tuple ds) ∧ SeqAt.shaped d = true ∧ SeqAt.shaped (.tuple ds) = true ∧ Q (.bl (ds.any fun z => PyData.eqv z d)) H
theorem op_inDTK (K : PySem.W.Frag) (same : X.K = K) (room : X.A.units + 65 < cLine) : OpR X (compareOp .In) (rInDT K) := by
  subst same
  intro pins st σ H one many ov mv Q J ro rm asked
  have ⟨d, ds, dpO, dpM, shO, shM, done⟩ := asked
  have ⟨_, readO⟩ := Dp.reads J d one ov dpO ro
  have ⟨_, readM⟩ := Dp.reads J (.tuple ds) many mv dpM rm
  exact SeqAt.in_tuple_reads readM readO (SeqAt.canLay_of_shaped shM) (SeqAt.canLay_of_shaped shO) (room_in_shaped shO room) ⟨.bl _, H, J, rfl, done⟩
end
/-! ### for x, y in zip(t, l), t a tuple, l a list -/
def IzTL (K : PySem.W.Frag) (a b : Addr) (xs ys : List V) : It :=
  ⟨fun i H => SqT K H a xs ∧ SqL K H b ys ∧ i < xs.length ∧ i < ys.length, fun i H v H' => ∃ T x y, v = .ref T ∧ H T = none ∧ H' = upd H T (.tup [x, y]) ∧ xs[i]? = some x ∧ ys[i]? = some y, fun i H => SqT K H a xs ∧ SqL K H b ys ∧ i ≤ xs.length ∧ i ≤ ys.length ∧ (i = xs.length ∨ i = ys.length)⟩
theorem turn_zipTL {P : Program} {w : World} {K : PySem.W.Frag} {elts : List Expr} {kk : Nat} {tpos : Pos} {a b z TI TO i1 i2 : Addr} (S : ZipSep2 z TI TO i1 i2 [i1, a] [i2, b]) (na : a ≠ i1) (nb : b ≠ i2) (xs ys : List V) :
    Turn P w K (.Tuple elts kk tpos) (IzTL K a b xs ys) [z, TI, TO, i1, i2] z (fun i h => IsZip h z TI TO .none ∧ IsTupOf2 h TI (.ref i1) (.ref i2) ∧ (∃ x y, IsTupOf2 h TO x y) ∧ h.IsTupleIter i1 a i ∧ h.IsListIter i2 b i) where
  mem := by simp
  obj := fun i h stt c hc => by
    obtain ⟨hz, hI, ⟨x, y, hO⟩, ⟨o1, e1, _, d1⟩, ⟨o2, e2, _, d2⟩⟩ := stt
    have any : c = z ∨ c = TI ∨ c = TO ∨ c = i1 ∨ c = i2 := by simpa using hc
    rcases any with q | q | q | q | q <;> subst q
    · exact ⟨_, hz, fun v q => nomatch q⟩
    · exact ⟨_, hI, fun v q => nomatch q⟩
    · exact ⟨_, hO, fun v q => nomatch q⟩
    · exact ⟨o1, e1, fun v q => by rw [d1] at q; cases q⟩
    · exact ⟨o2, e2, fun v q => by rw [d2] at q; cases q⟩
  keep := fun i h h' stt k => by
    obtain ⟨hz, hI, ⟨x, y, hO⟩, k1, k2⟩ := stt
    exact ⟨k z (by simp) _ hz, k TI (by simp) _ hI, ⟨x, y, k TO (by simp) _ hO⟩, k1.at fun o q => k i1 (by simp) o q, k2.at fun o q => k i2 (by simp) o q⟩
  item := by
    intro X hP hw hK hc i pins st σ H E J hf stt going
    subst hP hw hK
    obtain ⟨hz, hI, ⟨x0, y0, hO⟩, k1, k2⟩ := stt
    obtain ⟨hq1, hq2, l1, l2⟩ := going
    obtain ⟨its, rv, tup, _⟩ := J.tuple hq1
    obtain ⟨its2, rv2, lst, _⟩ := J.list hq2
    have len1 := rv.length
    have len2 := rv2.length
    have zl : z < st.heap.objs.size := Heap.lt_size hz
    have D1 := Draws.tuple (prog := X.prog) (w := X.w) (A := X.A.in1) (J.ok.hd hc) i1 a na its.toArray
    have D2 := Draws.list (prog := X.prog) (w := X.w) (A := X.A.in1) (J.ok.hd hc) i2 b nb its2.toArray
    refine wpAny_pyNext_zipD2_item S D1 D2 hz hI hO ⟨k1, tup⟩ ⟨k2, lst.isList⟩ (by rw [List.size_toArray]; omega) (by rw [List.size_toArray]; omega) fun u1 u2 h' tk p1 p2 out hO' s1 s2 new size kp => ?_
    refine ⟨_, rfl, wpAny_letOwnedTupleGo_zip (s := { st with heap := h', toks := tk }) out fun h'' out' sb => ?_⟩
    obtain ⟨x, hx⟩ : ∃ x, xs[i]? = some x := ⟨_, List.getElem?_eq_getElem l1⟩
    obtain ⟨y, hy⟩ : ∃ y, ys[i]? = some y := ⟨_, List.getElem?_eq_getElem l2⟩
    obtain ⟨w1, hw1, r1⟩ := rv.get hx
    obtain ⟨w2, hw2, r2⟩ := rv2.get hy
    have e1 : w1 = u1 := by
      have p1 : its.toArray[i]? = some u1 := p1
      rw [List.getElem?_toArray, hw1] at p1
      exact Option.some.inj p1
    have e2 : w2 = u2 := by
      have p2 : its2.toArray[i]? = some u2 := p2
      rw [List.getElem?_toArray, hw2] at p2
      exact Option.some.inj p2
    subst e1 e2
    have there : h''.get? st.heap.objs.size = some { cls := .type "tuple", data := .seq #[w1, w2] } := (sb.2 _ (Nat.ne_of_gt zl)).trans new
    have good : ObjOk X.prog X.w (upd H st.heap.objs.size (.tup [x, y])) h'' st.heap.objs.size (.tup [x, y]) :=
      ⟨by show 2 ≤ sizeLine; decide, [w1, w2], .cons r1 (.cons r2 .nil), ⟨_, there, rfl, _, rfl⟩⟩
    have J1 : Inv X pins σ (upd H st.heap.objs.size (.tup [x, y])) { st with heap := h'', toks := tk } :=
      J.turnedNew (ch := [z, TI, TO, i1, i2]) (fun c o hb q => (sb.2 c (fun q' => hb (by simp [q']))).trans (kp c o (fun q' => hb (by simp [q'])) (fun q' => hb (by simp [q'])) (fun q' => hb (by simp [q'])) (fun q' => hb (by simp [q'])) q)) hf (Nat.le_refl _) good
    have i1z : i1 ≠ z := fun q => S.zf1 (by simp [q])
    have i2z : i2 ≠ z := fun q => S.zf2 (by simp [q])
    refine ⟨.ref st.heap.objs.size, _, J1, rfl, ⟨_, x, y, rfl, J.hok.fresh (Nat.le_refl _), rfl, hx, hy⟩, ⟨out', ?_, ⟨w1, w2, ?_⟩, ?_, ?_⟩, fun c hcm => ?_⟩
    · exact (sb.2 _ S.TIz).trans (kp _ _ S.TIz S.TITO S.TIi1 S.TIi2 hI)
    · exact (sb.2 _ S.TOz).trans hO'
    · exact s1.1.at fun o q => (sb.2 _ i1z).trans q
    · exact s2.1.at fun o q => (sb.2 _ i2z).trans q
    · have low : c < st.heap.objs.size := by
        have any : c = z ∨ c = TI ∨ c = TO ∨ c = i1 ∨ c = i2 := by simpa using hcm
        rcases any with q | q | q | q | q
        · rw [q]; exact zl
        · rw [q]; exact Heap.lt_size hI
        · rw [q]; exact Heap.lt_size hO
        · rw [q]; obtain ⟨_, q1, _⟩ := k1; exact Heap.lt_size q1
        · rw [q]; obtain ⟨_, q2, _⟩ := k2; exact Heap.lt_size q2
      rw [upd_ne (Nat.ne_of_lt low)]
      exact (hf c hcm).1
  done := by
    intro X hP hw hK hc i pins st σ H E J hf stt over
    subst hP hw hK
    obtain ⟨hz, hI, ⟨x0, y0, hO⟩, k1, k2⟩ := stt
    obtain ⟨hq1, hq2, l1, l2, fin⟩ := over
    obtain ⟨its, rv, tup, _⟩ := J.tuple hq1
    obtain ⟨its2, rv2, lst, _⟩ := J.list hq2
    have len1 := rv.length
    have len2 := rv2.length
    have D1 := Draws.tuple (prog := X.prog) (w := X.w) (A := X.A.in1) (J.ok.hd hc) i1 a na its.toArray
    have D2 := Draws.list (prog := X.prog) (w := X.w) (A := X.A.in1) (J.ok.hd hc) i2 b nb its2.toArray
    refine wpAny_pyNext_zipD2_end S D1 D2 hz hI hO ⟨k1, tup⟩ ⟨k2, lst.isList⟩ (by rw [List.size_toArray]; omega) (by rw [List.size_toArray]; omega) (by rw [List.size_toArray, List.size_toArray]; omega) fun h' tk kp => ⟨rfl, ?_⟩
    exact J.turnedL (t' := tk) (ch := [z, TI, TO, i1, i2]) (fun c o hb q => kp c o (fun q' => hb (by simp [q'])) (fun q' => hb (by simp [q'])) (fun q' => hb (by simp [q'])) (fun q' => hb (by simp [q'])) q) hf
  self := fun A i st Q E stt now => wpAny_pyIter_zip stt.1 now
def iZipTL (K : PySem.W.Frag) (ta : TA) : TI := fun σ H R => ta σ H fun vs H1 => ∃ a b xs ys, vs = [.ref a, .ref b] ∧ SqT K H1 a xs ∧ SqL K H1 b ys ∧ R (IzTL K a b xs ys) H1
theorem pi_zipTL (K : PySem.W.Frag) {X : Cx} (hk : X.K = K) {e e2 : Expr} {ta : TA} {p pos tpos : Pos} {elts : List Expr} {kk : Nat} (hg : Gl X "zip") (hm : X.mg "zip" = none) (ha : PA X [e, e2] ta)
    (hs : starEach [e, e2] X.env = (false, eval e X.env) :: starEach [e2] X.env := by rfl) (hpl : (backTo pos (starEach [e2] X.env)).any (·.1) = false := by rfl) : PI X (.Tuple elts kk tpos) (.Call (.Name "zip" p) [e, e2] [] pos) (iZipTL K ta) := by
  subst hk
  refine ⟨fun pins st σ H R J asked => ?_⟩
  refine Call_ (ld_blt J hg hm PyProof.Rows.boot_zip (PyProof.Rows.callWith_type1 (thn (ha.run pos pins st σ H _ J asked) fun us st1 ⟨vs, H1, J1, rel, now⟩ => ?_) hs hpl))
  obtain ⟨a, b, xs, ys, ex, hq1, hq2, now⟩ := now
  subst ex
  obtain ⟨u1, u2, rfl, r1, r2⟩ := vals2 rel
  obtain rfl : u1 = Value.ref a := r1
  obtain rfl : u2 = Value.ref b := r2
  obtain ⟨its, rv, tup, _⟩ := J1.tuple hq1
  obtain ⟨its2, rv2, lst, _⟩ := J1.list hq2
  have al : a < st1.heap.objs.size := by obtain ⟨o, ho, _⟩ := id tup; exact Heap.lt_size ho
  have bl : b < st1.heap.objs.size := by obtain ⟨o, ho, _⟩ := id lst.isList; exact Heap.lt_size ho
  refine zip_begins2 (begins_tuple a its.toArray) (begins_list b its2.toArray) tup lst.isList fun h' hz hI hO g1 g2 size kp => wpAny_pyIter_zip hz ?_
  have J2 : Inv X pins σ H1 { st1 with heap := h' } := J1.kept (t' := st1.toks) kp
  generalize hn : st1.heap.objs.size = n at *
  have S : ZipSep2 (n + 4) (n + 2) (n + 3) n (n + 1) [n, a] [n + 1, b] :=
    zip_sep2 (fun c hc => by rw [List.mem_singleton.mp hc]; exact al) (fun c hc => by rw [List.mem_singleton.mp hc]; exact bl)
  refine ⟨n + 4, [n + 4, n + 2, n + 3, n, n + 1], _, _, H1, rfl, J2, turn_zipTL S (Nat.ne_of_lt al) (Nat.ne_of_lt (Nat.lt_succ_of_lt bl)) xs ys, ⟨hz, hI, ⟨_, _, hO⟩, ⟨_, g1, rfl, rfl⟩, ⟨_, g2, rfl, rfl⟩⟩, fun c hcm => ?_, now⟩
  have low : n ≤ c := by
    have any : c = n + 4 ∨ c = n + 2 ∨ c = n + 3 ∨ c = n ∨ c = n + 1 := by simpa using hcm
    rcases any with q | q | q | q | q <;> rw [q]
    · exact Nat.le_add_right ..
    · exact Nat.le_add_right ..
    · exact Nat.le_add_right ..
    · exact Nat.le_refl _
    · exact Nat.le_add_right ..
  rw [← hn] at low
  exact J1.fpOk low (J1.hok.fresh low)
/-! ### for i, x in enumerate(t), t a tuple -/
section
open Sem (wp)
open AutoSeq1 (wpAny_loadPart')
theorem enum_of_tup (t : Addr) (its : Array Value) (n : Nat) (dct : Option Addr) (sl : Array (Option Value)) :
    Meets (Builtin.«enumerate.__new__» ⟨[.type "enumerate", .ref t], []⟩) (fun _ R st => st.heap.get? t = some { cls := .type "tuple", dict := dct, data := .seq its n, slots := sl } ∧
      R (.ok (.ret (.ref (st.heap.push { cls := .type "tuple_iterator", data := .fields #[.ref t, .int 0 0] }).objs.size)))
        { st with heap := (st.heap.push { cls := .type "tuple_iterator", data := .fields #[.ref t, .int 0 0] }).push { cls := .type "enumerate", data := .fields #[.none, .bool false, .ref st.heap.objs.size, rawInt 0, .none, .none] } }) :=
  .of_wp fun prog w A R st asked => by
    obtain ⟨hp, g, d, tk, os⟩ := st; obtain ⟨at_, asked⟩ := asked
    have sub := sub_enumerate
    have hT : Heap.IsTuple (Shared.heap ⟨hp, g, d, tk, os⟩) t its := ⟨_, at_, rfl, n, rfl⟩
    wp_walk using wpAny_loadPart' at_
    refine wpAny_stack_any fun stk => wpAny_pure ?_
    split
    · rename_i c _ _ _ _ _
      cases (c == Value.type "enumerate")
      · wp_walk using wpAny_loadPart' at_, wpAny_pyIter_tuple hT
        exact ⟨_, rfl, asked⟩
      · wp_walk using wpAny_loadPart' at_, wpAny_pyIter_tuple hT
        exact ⟨_, rfl, asked⟩
    · wp_walk using wpAny_loadPart' at_, wpAny_pyIter_tuple hT
      exact ⟨_, rfl, asked⟩
theorem call_enum_tup {prog : Program} {w : World} {A : Around} {E : Value → Shared → Prop} {st : Shared} {t : Addr} {its : Array Value} {Q : Value → Shared → Prop} (hT : st.heap.IsTuple t its)
    (now : ∀ h', IsEnum h' (st.heap.objs.size + 1) st.heap.objs.size 0 .none → h'.IsTupleIter st.heap.objs.size t 0 → h'.objs.size = st.heap.objs.size + 2 →
      (∀ b o, st.heap.get? b = some o → h'.get? b = some o) → Q (.ref (st.heap.objs.size + 1)) { st with heap := h' }) :
    wpAny (model prog w) A (call (.type "enumerate") [.ref t]) Q E st := by
  obtain ⟨⟨c, dct, dt, sl⟩, at_, hc, n, hd⟩ := hT
  replace hc : c = .type "tuple" := hc
  replace hd : dt = .seq its n := hd
  subst hc hd
  refine callType_new F.called_enumerate (by decide) (F.typeCall_enumerate_1 _) (F.newCall_enumerate_1 _) (fun obj => F.args_object_init_2 obj _) F.entry_enumerate_new (enum_of_tup t its n dct sl) ⟨at_, ?_⟩
  have size1 : (st.heap.push { cls := .type "tuple_iterator", data := .fields #[.ref t, .int 0 0] }).objs.size = st.heap.objs.size + 1 := Heap.size_push ..
  show _ ∧ _
  rw [size1]
  have made := Heap.get?_push_size (st.heap.push { cls := .type "tuple_iterator", data := .fields #[.ref t, .int 0 0] }) (o := { cls := .type "enumerate", data := .fields #[.none, .bool false, .ref st.heap.objs.size, rawInt 0, .none, .none] }) rfl
  rw [size1] at made
  exact ⟨⟨_, made, rfl⟩, now _ made ⟨_, Heap.get?_push_of_some _ (Heap.get?_push_size _ rfl), rfl, rfl⟩ (by rw [Heap.size_push, size1]) fun b o e => Heap.get?_push_of_some _ (Heap.get?_push_of_some _ e)⟩
end
/-- the tuple at a, each item in a new pair -/
def IteT (K : PySem.W.Frag) (a : Addr) (xs : List V) : It :=
  ⟨fun i H => SqT K H a xs ∧ i < xs.length, fun i H v H' => ∃ T x, v = .ref T ∧ H T = none ∧ H' = upd H T (.tup [.int (i : Nat), x]) ∧ xs[i]? = some x, fun i H => SqT K H a xs ∧ i = xs.length⟩
theorem turn_enumT {P : Program} {w : World} {K : PySem.W.Frag} {elts : List Expr} {kk : Nat} {tpos : Pos} (a e it : Addr) (xs : List V) :
    Turn P w K (.Tuple elts kk tpos) (IteT K a xs) [e, it] e (fun i h => (∃ old, IsEnum h e it ((i : Nat) : Int) old) ∧ h.IsTupleIter it a i ∧ e ≠ it ∧ a ≠ it ∧ a ≠ e) where
  mem := by simp
  obj := fun i h st b hb => by
    obtain ⟨⟨old, he⟩, ⟨o, ho, hc, hd⟩, _⟩ := st
    have either : b = e ∨ b = it := by simpa using hb
    rcases either with z | z
    · rw [z]; exact ⟨_, he, fun v q => nomatch q⟩
    · rw [z]; exact ⟨o, ho, fun v q => by rw [hd] at q; cases q⟩
  keep := fun i h h' st k => let ⟨⟨old, he⟩, hi, apart⟩ := st; ⟨⟨old, k e (by simp) _ he⟩, hi.at fun o q => k it (by simp) o q, apart⟩
  item := by
    intro X hP hw hK hc i pins st σ H E J hf stt going
    subst hP hw hK
    obtain ⟨⟨old, he⟩, hit, n1, n2, n3⟩ := stt
    obtain ⟨hq, hi⟩ := going
    obtain ⟨its, rv, tup, hz⟩ := J.tuple hq
    have len := rv.length
    have el : e < st.heap.objs.size := Heap.lt_size he
    have il : it < st.heap.objs.size := by obtain ⟨_, q, _⟩ := hit; exact Heap.lt_size q
    have D := Draws.tuple (prog := X.prog) (w := X.w) (A := X.A.in1) (J.ok.hd hc) it a n2 its.toArray
    refine wpAny_pyNext_enum_itemD D he ⟨hit, tup⟩ (by rw [List.size_toArray]; omega) n1 (by simp [n1, n3.symm]) fun u h' tk px out stt' new size kp => ?_
    refine ⟨_, rfl, wpAny_letOwnedTupleGo_enum (s := { st with heap := h', toks := tk + 1 }) out fun h'' he' sb => ?_⟩
    obtain ⟨x, hx⟩ : ∃ x, xs[i]? = some x := ⟨_, List.getElem?_eq_getElem hi⟩
    obtain ⟨u', hu', ru⟩ := rv.get hx
    have eu : u' = u := by
      have px : its.toArray[i]? = some u := px
      rw [List.getElem?_toArray, hu'] at px
      exact Option.some.inj px
    subst eu
    have there : h''.get? st.heap.objs.size = some { cls := .type "tuple", data := .seq #[.int i tk, u'] } := (sb.2 _ (Nat.ne_of_gt el)).trans new
    have ok2 : ObjOk X.prog X.w (upd H st.heap.objs.size (.tup [.int (i : Nat), x])) h'' st.heap.objs.size (.tup [.int (i : Nat), x]) :=
      ⟨by show 2 ≤ sizeLine; decide, [.int i tk, u'], .cons ⟨_, rfl⟩ (.cons ru .nil), ⟨_, there, rfl, _, rfl⟩⟩
    have J1 : Inv X pins σ (upd H st.heap.objs.size (.tup [.int (i : Nat), x])) { st with heap := h'', toks := tk + 1 } :=
      J.turnedNew (ch := [e, it]) (fun b ob hb q => (sb.2 b (fun z => hb (by simp [z]))).trans (kp b ob (fun z => hb (by simp [z])) (fun z => hb (by simp [z])) q)) hf (Nat.le_refl _) ok2
    refine ⟨.ref st.heap.objs.size, _, J1, rfl, ⟨_, x, rfl, J.hok.fresh (Nat.le_refl _), rfl, hx⟩, ⟨⟨u', ?_⟩, stt'.1.at fun o q => (sb.2 it (Ne.symm n1)).trans q, n1, n2, n3⟩, fun b hb => ?_⟩
    · rw [show ((i + 1 : Nat) : Int) = (i : Int) + 1 by omega]
      exact he'
    · have bl : b < st.heap.objs.size := by
        have either : b = e ∨ b = it := by simpa using hb
        rcases either with z | z
        · rw [z]; exact el
        · rw [z]; exact il
      rw [upd_ne (Nat.ne_of_lt bl)]
      exact (hf b hb).1
  done := by
    intro X hP hw hK hc i pins st σ H E J hf stt over
    subst hP hw hK
    obtain ⟨⟨old, he⟩, hit, n1, n2, n3⟩ := stt
    obtain ⟨hq, hi⟩ := over
    obtain ⟨its, rv, tup, hz⟩ := J.tuple hq
    obtain ⟨f0, f1, f2, f3, f4, f5⟩ := hf it (by simp)
    have len := rv.length
    have D := Draws.tuple (prog := X.prog) (w := X.w) (A := X.A.in1) (J.ok.hd hc) it a n2 its.toArray
    have ei : its.toArray.size = i := by rw [List.size_toArray]; omega
    exact wpAny_pyNext_enum_endD D he ⟨by rw [ei]; exact hit, tup⟩ fun h' eb => ⟨rfl, J.turned (t' := st.toks) (fun b o hb q => eb b o hb q) f0 f1 f3 f4 f5⟩
  self := fun A i st Q E stt now => let ⟨⟨_, he⟩, _⟩ := stt; wpAny_pyIter_enum he now
def iEnumT (K : PySem.W.Frag) (ta : TA) : TI := fun σ H R => ta σ H fun vs H1 => ∃ a xs, vs = [.ref a] ∧ SqT K H1 a xs ∧ R (IteT K a xs) H1
theorem pi_enumT (K : PySem.W.Frag) {X : Cx} (hk : X.K = K) {e : Expr} {ta : TA} {p pos tpos : Pos} {elts : List Expr} {kk : Nat} (hg : Gl X "enumerate") (hm : X.mg "enumerate" = none) (ha : PA X [e] ta) (hs : starEach [e] X.env = [(false, eval e X.env)] := by rfl) :
    PI X (.Tuple elts kk tpos) (.Call (.Name "enumerate" p) [e] [] pos) (iEnumT K ta) := by
  subst hk
  refine ⟨fun pins st σ H R J asked => ?_⟩
  refine Call_ (ld_blt J hg hm boot_enumerate (PyProof.Rows.callWith_type1 (thn (ha.run pos pins st σ H _ J asked) fun us st1 ⟨vs, H1, J1, rel, now⟩ => ?_) hs rfl))
  obtain ⟨a, xs, ex, hq, now⟩ := now
  subst ex
  obtain ⟨u, rfl, ru⟩ := vals1 rel
  obtain rfl : u = Value.ref a := ru
  obtain ⟨its, rv, tup, hz⟩ := J1.tuple hq
  have al : a < st1.heap.objs.size := by obtain ⟨o, ho, _⟩ := tup; exact Heap.lt_size ho
  refine call_enum_tup tup fun h' he hit size kp => wpAny_pyIter_enum he ?_
  have J2 : Inv X pins σ H1 { st1 with heap := h' } := J1.kept (t' := st1.toks) kp
  refine ⟨st1.heap.objs.size + 1, [st1.heap.objs.size + 1, st1.heap.objs.size], _, _, H1, rfl, J2, turn_enumT a (st1.heap.objs.size + 1) st1.heap.objs.size xs, ⟨⟨.none, he⟩, hit, Nat.succ_ne_self _, Nat.ne_of_lt al, Nat.ne_of_lt (Nat.lt_succ_of_lt al)⟩, fun b hb => ?_, now⟩
  have either : b = st1.heap.objs.size + 1 ∨ b = st1.heap.objs.size := by simpa using hb
  have low : st1.heap.objs.size ≤ b := by
    rcases either with z | z
    · rw [z]; exact Nat.le_add_right _ _
    · rw [z]; exact Nat.le_refl _
  exact J1.fpOk low (J1.hok.fresh low)
/-! ### dict(zip(xs, ys)), xs a list, ys a tuple -/
section
open Sem (wp)
variable {prog : Program} {w : World} {A : Around} {E : Value → Shared → Prop} {st : Shared} {z TI TO T i1 i2 : Addr} {fp1 fp2 : List Addr} {n1 n2 i : Nat} {P1 P2 : Nat → Value → Prop} {S1 S2 : Nat → Heap → Prop} {f : Bool} {oT : Obj}
theorem out_next (S : ZipSep2 z TI TO i1 i2 fp1 fp2) (D1 : Draws prog w A i1 fp1 n1 P1 S1) (D2 : Draws prog w A i2 fp2 n2 P2 S2) {Q : Value → Shared → Prop}
    (out : IsZipHeld st.heap z TI TO T f) (hT : st.heap.get? T = some oT) (both : IsTupOf2 st.heap TI (.ref i1) (.ref i2)) (at1 : S1 i st.heap) (at2 : S2 i st.heap) (l1 : i < n1) (l2 : i < n2)
    (now : ∀ x y h' tk, P1 i x → P2 i y → IsZipHeld h' z TI TO T true → S1 (i + 1) h' → S2 (i + 1) h' → IsTupOf2 h' st.heap.objs.size x y → (∀ c o, c ≠ z → c ≠ i1 → c ≠ i2 → st.heap.get? c = some o → h'.get? c = some o) → Q (.ref st.heap.objs.size) { st with heap := h', toks := tk }) :
    wpAny (model prog w) A (Builtin.«zip.__next__» ⟨[.ref z], []⟩) (fun fin s' => ∃ v, fin = .done (.ret v) ∧ Q v s') E st := by
  obtain ⟨hp, g, d, tk0, os⟩ := st
  show wpAny _ _ (field (.ref z) 2 >>= _) _ _ _; refine wpAny_bind (wpAny_field out rfl (x := .bool false) rfl ?_)
  show wpAny _ _ (field (.ref z) 3 >>= _) _ _ _; refine wpAny_bind (wpAny_field out rfl (x := .ref TI) rfl ?_)
  refine wpAny_bind (wpAny_seqItems both rfl ?_); show wpAny _ _ (Builtin.SmallTypes.ownedTupleIsFree (.ref z) >>= _) _ _ _
  refine wpAny_bind (wpAny_tupleHeld_zip out hT fun g1 out1 b1 => ?_)
  replace b1 : Heap.SameBut z hp g1 := b1
  simp only [Bool.false_eq_true, if_false]; refine wpAny_bind ?_; rw [← Array.forIn_toList]; simp only [List.forIn_cons, List.forIn_nil]
  refine wpAny_bind (wpAny_bind (wpAny_holding ?_)); show wpAny _ _ (Builtin.SmallTypes.nextOf (.ref i1) >>= _) _ _ ⟨g1, g, d, tk0, os⟩
  refine wpAny_bind (D1.item i _ _ _ l1 (D1.over at1 b1 S.zf1) fun x g2 tk1 px n1' b2 => wpAny_pure ?_)
  replace b2 : Heap.SameBut i1 g1 g2 := b2
  refine wpAny_pure ?_; refine wpAny_bind (wpAny_bind (wpAny_holding ?_)); show wpAny _ _ (Builtin.SmallTypes.nextOf (.ref i2) >>= _) _ _ ⟨g2, g, d, tk1, os⟩
  refine wpAny_bind (D2.item i _ _ _ l2 (D2.over (D2.over at2 b1 S.zf2) b2 S.sep1_2) fun y g3 tk2 py n2' b3 => wpAny_pure ?_)
  replace b3 : Heap.SameBut i2 g2 g3 := b3
  refine wpAny_pure (wpAny_pure ?_); show wpAny _ _ (newTuple [x, y] >>= _) _ _ ⟨g3, g, d, tk2, os⟩
  refine wpAny_bind (wpAny_newTuple ?_); refine wpAny_pure ⟨_, rfl, ?_⟩
  have size : g3.objs.size = hp.objs.size := by rw [b3.1, b2.1, b1.1]
  have out3 : IsZipHeld g3 z TI TO T true := b3.extBut _ _ S.zi2 (b2.extBut _ _ S.zi1 out1)
  have new : IsTupOf2 (g3.push { cls := .type "tuple", data := .seq #[x, y] }) g3.objs.size x y := Heap.get?_push_size _ rfl
  show Q (.ref g3.objs.size) _
  rw [size] at new ⊢
  exact now x y _ tk2 px py (Heap.get?_push_of_some _ out3) (D1.frame _ _ _ (D1.over n1' b3 S.sep2_1) fun _ _ _ q => Heap.get?_push_of_some _ q) (D2.frame _ _ _ n2' fun _ _ _ q => Heap.get?_push_of_some _ q) new
    fun c o c1 c2 c3 q => Heap.get?_push_of_some _ (b3.extBut _ _ c3 (b2.extBut _ _ c2 (b1.extBut _ _ c1 q)))
theorem out_end (S : ZipSep2 z TI TO i1 i2 fp1 fp2) (D1 : Draws prog w A i1 fp1 n1 P1 S1) (D2 : Draws prog w A i2 fp2 n2 P2 S2) {Q : Fin → Shared → Prop}
    (out : IsZipHeld st.heap z TI TO T f) (hT : st.heap.get? T = some oT) (both : IsTupOf2 st.heap TI (.ref i1) (.ref i2)) (at1 : S1 i st.heap) (at2 : S2 i st.heap) (l1 : i ≤ n1) (l2 : i ≤ n2) (last : i = n1 ∨ i = n2)
    (now : ∀ h' tk e, (∀ c o, c ≠ z → c ≠ i1 → c ≠ i2 → st.heap.get? c = some o → h'.get? c = some o) → (∃ o, h'.get? e = some o ∧ o.cls = .type "StopIteration") → E (.ref e) { st with heap := h', toks := tk }) :
    wpAny (model prog w) A (Builtin.«zip.__next__» ⟨[.ref z], []⟩) Q E st := by
  obtain ⟨hp, g, d, tk0, os⟩ := st
  show wpAny _ _ (field (.ref z) 2 >>= _) _ _ _; refine wpAny_bind (wpAny_field out rfl (x := .bool false) rfl ?_)
  show wpAny _ _ (field (.ref z) 3 >>= _) _ _ _; refine wpAny_bind (wpAny_field out rfl (x := .ref TI) rfl ?_)
  refine wpAny_bind (wpAny_seqItems both rfl ?_); show wpAny _ _ (Builtin.SmallTypes.ownedTupleIsFree (.ref z) >>= _) _ _ _
  refine wpAny_bind (wpAny_tupleHeld_zip out hT fun g1 out1 b1 => ?_)
  replace b1 : Heap.SameBut z hp g1 := b1
  simp only [Bool.false_eq_true, if_false]; refine wpAny_bind ?_; rw [← Array.forIn_toList]; simp only [List.forIn_cons, List.forIn_nil]
  refine wpAny_bind (wpAny_bind (wpAny_holding ?_)); show wpAny _ _ (Builtin.SmallTypes.nextOf (.ref i1) >>= _) _ _ ⟨g1, g, d, tk0, os⟩
  by_cases more : i < n1
  · refine wpAny_bind (D1.item i _ _ _ more (D1.over at1 b1 S.zf1) fun x g2 tk1 px n1' b2 => wpAny_pure ?_)
    replace b2 : Heap.SameBut i1 g1 g2 := b2
    refine wpAny_pure ?_; refine wpAny_bind (wpAny_bind (wpAny_holding ?_)); show wpAny _ _ (Builtin.SmallTypes.nextOf (.ref i2) >>= _) _ _ ⟨g2, g, d, tk1, os⟩
    have e2 : i = n2 := by omega
    subst e2
    refine wpAny_bind (D2.done _ _ _ (D2.over (D2.over at2 b1 S.zf2) b2 S.sep1_2) fun g3 e b3 he => ?_)
    exact now g3 tk1 e (fun c o c1 c2 c3 q => b3 _ _ c3 (b2.extBut _ _ c2 (b1.extBut _ _ c1 q))) he
  · have e1 : i = n1 := by omega
    subst e1
    refine wpAny_bind (D1.done _ _ _ (D1.over at1 b1 S.zf1) fun g3 e b3 he => ?_)
    exact now g3 tk0 e (fun c o c1 c2 c3 q => b3 _ _ c2 (b1.extBut _ _ c1 q)) he
theorem out_pyNext (S : ZipSep2 z TI TO i1 i2 fp1 fp2) (D1 : Draws prog w A.in1 i1 fp1 n1 P1 S1) (D2 : Draws prog w A.in1 i2 fp2 n2 P2 S2) {Q : Option Value → Shared → Prop}
    (out : IsZipHeld st.heap z TI TO T f) (hT : st.heap.get? T = some oT) (both : IsTupOf2 st.heap TI (.ref i1) (.ref i2)) (at1 : S1 i st.heap) (at2 : S2 i st.heap) (l1 : i < n1) (l2 : i < n2)
    (now : ∀ x y h' tk, P1 i x → P2 i y → IsZipHeld h' z TI TO T true → S1 (i + 1) h' → S2 (i + 1) h' → IsTupOf2 h' st.heap.objs.size x y → (∀ c o, c ≠ z → c ≠ i1 → c ≠ i2 → st.heap.get? c = some o → h'.get? c = some o) → Q (some (.ref st.heap.objs.size)) { st with heap := h', toks := tk }) :
    wpAny (model prog w) A (pyNext (.ref z)) Q E st := by
  have ty : st.TypeIs (.ref z) "zip" := ⟨_, out, rfl⟩
  unfold pyNext
  refine wpAny_bind (wpAny_attempt (wpAny_callSpecial?_slot (name := Str.ofString "__next__") ty F.slot_zip_next (wpAny_call_entry F.slot_zip_next ty F.entry_zip_next (out_next S D1 D2 out hT both at1 at2 l1 l2 ?_) (F.args_zip_next_1 _))))
  exact fun x y h' tk a b c d e g k => wpAny_pure (now x y h' tk a b c d e g k)
theorem out_pyNext_end (S : ZipSep2 z TI TO i1 i2 fp1 fp2) (D1 : Draws prog w A.in1 i1 fp1 n1 P1 S1) (D2 : Draws prog w A.in1 i2 fp2 n2 P2 S2) {Q : Option Value → Shared → Prop}
    (out : IsZipHeld st.heap z TI TO T f) (hT : st.heap.get? T = some oT) (both : IsTupOf2 st.heap TI (.ref i1) (.ref i2)) (at1 : S1 i st.heap) (at2 : S2 i st.heap) (l1 : i ≤ n1) (l2 : i ≤ n2) (last : i = n1 ∨ i = n2)
    (now : ∀ h' tk, (∀ c o, c ≠ z → c ≠ i1 → c ≠ i2 → st.heap.get? c = some o → h'.get? c = some o) → Q none { st with heap := h', toks := tk }) :
    wpAny (model prog w) A (pyNext (.ref z)) Q E st := by
  have ty : st.TypeIs (.ref z) "zip" := ⟨_, out, rfl⟩
  unfold pyNext
  refine wpAny_bind (wpAny_attempt (wpAny_callSpecial?_slot (name := Str.ofString "__next__") ty F.slot_zip_next (wpAny_call_entry F.slot_zip_next ty F.entry_zip_next (out_end S D1 D2 out hT both at1 at2 l1 l2 last ?_) (F.args_zip_next_1 _))))
  rintro h' tk e kp ⟨o, ho, hc⟩
  exact wpAny_bind (wpAny_isInstance (T := "StopIteration") (b := true) ⟨o, ho, hc⟩ isSubtype_stop (wpAny_pure (now _ _ kp)))
/-- the zip of the list l and the tuple t, begun -/
def ZipLT (h : Heap) (z TI TO i1 i2 l t : Addr) (xs ys : Array Value) (n : Nat) : Prop := IsTupOf2 h TI (.ref i1) (.ref i2) ∧ (h.IsListIter i1 l n ∧ h.IsList l xs) ∧ (h.IsTupleIter i2 t n ∧ h.IsTuple t ys)
theorem ZipLT.keep {h h' : Heap} {z TI TO i1 i2 l t : Addr} {xs ys : Array Value} {n : Nat} (q : ZipLT h z TI TO i1 i2 l t xs ys n) (k : ∀ b, b = TI ∨ b = i1 ∨ b = i2 ∨ b = l ∨ b = t → ∀ o, h.get? b = some o → h'.get? b = some o) : ZipLT h' z TI TO i1 i2 l t xs ys n :=
  ⟨k _ (.inl rfl) _ q.1, ⟨q.2.1.1.at fun o e => k _ (.inr (.inl rfl)) o e, q.2.1.2.at fun o e => k _ (.inr (.inr (.inr (.inl rfl)))) o e⟩, ⟨q.2.2.1.at fun o e => k _ (.inr (.inr (.inl rfl))) o e, q.2.2.2.at fun o e => k _ (.inr (.inr (.inr (.inr rfl)))) o e⟩⟩
theorem pairs_LT (z TI TO i1 i2 l t : Addr) (S : ZipSep2 z TI TO i1 i2 [i1, l] [i2, t]) (hl : l ≠ i1) (ht : t ≠ i2) (xs ys : Array Value) :
    PairArg prog w "zip" z [z, TI, TO, i1, i2, l, t] [z, TO, i1, i2] (min xs.size ys.size) (fun i k v => xs[i]? = some k ∧ ys[i]? = some v)
      (fun h => IsZip h z TI TO .none ∧ (∃ a b, IsTupOf2 h TO a b) ∧ ZipLT h z TI TO i1 i2 l t xs ys 0) where
  type := fun s ok => ⟨_, ok.1, rfl⟩
  notDict := by decide
  keep := fun h h' ok k => by
    obtain ⟨a1, ⟨a, b, a2⟩, a3⟩ := ok
    exact ⟨k _ _ a1, ⟨a, b, k _ _ a2⟩, a3.keep fun b _ o e => k b o e⟩
  there := fun h ok b hb => by
    obtain ⟨a1, ⟨a, c, a2⟩, a3, ⟨⟨o1, e1, _⟩, ⟨o2, e2, _⟩⟩, ⟨⟨o3, e3, _⟩, ⟨o4, e4, _⟩⟩⟩ := ok
    have either : b = z ∨ b = TI ∨ b = TO ∨ b = i1 ∨ b = i2 ∨ b = l ∨ b = t := by simpa using hb
    rcases either with q | q | q | q | q | q | q <;> subst q
    · exact ⟨_, a1⟩
    · exact ⟨_, a3⟩
    · exact ⟨_, a2⟩
    · exact ⟨_, e1⟩
    · exact ⟨_, e3⟩
    · exact ⟨_, e2⟩
    · exact ⟨_, e4⟩
  sub := fun b hb => by
    have either : b = z ∨ b = TO ∨ b = i1 ∨ b = i2 := by simpa using hb
    rcases either with q | q | q | q <;> subst q <;> simp
  noKeys := fun A s Q E hA ok now => getAttrOr_miss_zip ok.1 rfl rfl rfl zip_no_keys (by decide +kernel) hA now
  iter := fun A s d Q E hA ok dlt dfar now => by
    obtain ⟨a1, ⟨a, b, a2⟩, a3⟩ := ok
    have far : d ≠ z ∧ d ≠ TI ∧ d ≠ TO ∧ d ≠ i1 ∧ d ≠ i2 ∧ d ≠ l ∧ d ≠ t := by simpa using dfar
    obtain ⟨d1, d2, d3, d4, d5, d6, d7⟩ := far
    have D1 := Draws.list (prog := prog) (w := w) (A := A.in1) hA i1 l hl xs
    have D2 := Draws.tuple (prog := prog) (w := w) (A := A.in1) hA i2 t ht ys
    refine wpAny_pyIter_zip a1 (now z [z, TO, i1, i2] (fun n h => ZipLT h z TI TO i1 i2 l t xs ys n ∧ ((IsZip h z TI TO .none ∧ ∃ a b, IsTupOf2 h TO a b) ∨ ∃ T f oT, IsZipHeld h z TI TO T f ∧ h.get? T = some oT ∧ T ≠ z ∧ T ≠ i1 ∧ T ≠ i2 ∧ T ≠ d)) s.heap s.toks ?_ ⟨a3, .inl ⟨a1, a, b, a2⟩⟩ (fun _ _ e => e) fun b hb => .inl hb)
    refine ⟨fun hm => ?_, fun n h h' q k => ?_, fun n s1 Q1 E1 hn q dl now1 => ?_, fun s1 Q1 E1 q now1 => ?_⟩
    · have either : d = z ∨ d = TO ∨ d = i1 ∨ d = i2 := by simpa using hm
      rcases either with q | q | q | q
      · exact d1 q
      · exact d3 q
      · exact d4 q
      · exact d5 q
    · refine ⟨q.1.keep fun b hb o e => k b o (fun y => ?_) e, ?_⟩
      · rcases hb with q | q | q | q | q <;> rw [q] at y
        · exact d2 y.symm
        · exact d4 y.symm
        · exact d5 y.symm
        · exact d6 y.symm
        · exact d7 y.symm
      · rcases q.2 with ⟨q1, a, b, q2⟩ | ⟨T, f, oT, q1, q2, r1, r2, r3, r4⟩
        · exact .inl ⟨k _ _ (Ne.symm d1) q1, a, b, k _ _ (Ne.symm d3) q2⟩
        · exact .inr ⟨T, f, oT, k _ _ (Ne.symm d1) q1, k _ _ r4 q2, r1, r2, r3, r4⟩
    · obtain ⟨⟨both, at1, at2⟩, q⟩ := q
      have m1 : n < xs.size := Nat.lt_of_lt_of_le hn (Nat.min_le_left ..)
      have m2 : n < ys.size := Nat.lt_of_lt_of_le hn (Nat.min_le_right ..)
      have lt : ∀ {c o}, s1.heap.get? c = some o → s1.heap.objs.size ≠ c := fun e => Nat.ne_of_gt (Heap.lt_size e)
      have j1 : s1.heap.objs.size ≠ i1 := let ⟨_, e⟩ := D1.live _ _ at1; lt e
      have j2 : s1.heap.objs.size ≠ i2 := let ⟨_, e⟩ := D2.live _ _ at2; lt e
      rcases q with ⟨q1, a, b, q2⟩ | ⟨T, f, oT, q1, q2, r1, r2, r3, r4⟩
      · refine wpAny_pyNext_zipD2_item S D1 D2 q1 both q2 at1 at2 m1 m2 fun x y h' tk px py b1 b2 b3 b4 b5 b6 k => ?_
        exact now1 s1.heap.objs.size x y h' tk ⟨px, py⟩ (.inl ⟨_, b5, rfl, _, rfl⟩) ⟨⟨k _ _ S.TIz S.TITO S.TIi1 S.TIi2 both, b3, b4⟩, .inr ⟨_, false, _, b1, b5, lt q1, j1, j2, Nat.ne_of_gt dl⟩⟩
          fun c o hc e => k c o (fun y => hc (by simp [y])) (fun y => hc (by simp [y])) (fun y => hc (by simp [y])) (fun y => hc (by simp [y])) e
      · refine out_pyNext S D1 D2 q1 q2 both at1 at2 m1 m2 fun x y h' tk px py b1 b3 b4 b5 k => ?_
        exact now1 s1.heap.objs.size x y h' tk ⟨px, py⟩ (.inl ⟨_, b5, rfl, _, rfl⟩) ⟨⟨k _ _ S.TIz S.TIi1 S.TIi2 both, b3, b4⟩, .inr ⟨T, true, oT, b1, k _ _ r1 r2 r3 q2, r1, r2, r3, r4⟩⟩
          fun c o hc e => k c o (fun y => hc (by simp [y])) (fun y => hc (by simp [y])) (fun y => hc (by simp [y])) e
    · obtain ⟨⟨both, at1, at2⟩, q⟩ := q
      rcases q with ⟨q1, a, b, q2⟩ | ⟨T, f, oT, q1, q2, r1, r2, r3, r4⟩
      · exact wpAny_pyNext_zipD2_end S D1 D2 q1 both q2 at1 at2 (Nat.min_le_left ..) (Nat.min_le_right ..) (by omega) fun h' tk k => now1 h' tk fun c o hc e => k c o (fun y => hc (by simp [y])) (fun y => hc (by simp [y])) (fun y => hc (by simp [y])) (fun y => hc (by simp [y])) e
      · exact out_pyNext_end S D1 D2 q1 q2 both at1 at2 (Nat.min_le_left ..) (Nat.min_le_right ..) (by omega) fun h' tk k => now1 h' tk fun c o hc e => k c o (fun y => hc (by simp [y])) (fun y => hc (by simp [y])) (fun y => hc (by simp [y])) e
end
/-- dict(zip(e1, e2)): keys from a list, values from a tuple -/
def eDictZip (K : PySem.W.Frag) (ta : TA) : TE := fun σ H Q => ta σ H fun vs H1 => ∃ (a b : Addr) (ks : List Key) (xs : List V), vs = [.ref a, .ref b] ∧ SqL K H1 a (ks.map kV) ∧ SqT K H1 b xs ∧ ∀ p, H1 p = none → Q (.ref p) (upd H1 p (.dK (mergeK [] (ks.zip xs))))
theorem pe_dictZip (K : PySem.W.Frag) {X : Cx} (hk : X.K = K) (hcalm : X.calm = true) {e e2 : Expr} {ta : TA} {p p2 pos pos2 : Pos} (hd : Gl X "dict") (md : X.mg "dict" = none) (hg : Gl X "zip") (hm : X.mg "zip" = none) (ha : PA X [e, e2] ta)
    (hs : starEach [e, e2] X.env = (false, eval e X.env) :: starEach [e2] X.env := by rfl) (hpl : (backTo pos2 (starEach [e2] X.env)).any (·.1) = false := by rfl)
    (hs1 : starEach [.Call (.Name "zip" p2) [e, e2] [] pos2] X.env = [(false, eval (.Call (.Name "zip" p2) [e, e2] [] pos2) X.env)] := by rfl) :
    PE X (.Call (.Name "dict" p) [.Call (.Name "zip" p2) [e, e2] [] pos2] [] pos) (eDictZip K ta) := by
  subst hk
  refine ⟨fun pins st σ H Q J asked => ?_⟩
  refine Call_ (ld_blt J hd md boot_dict (PyProof.Rows.callWith_type1 (args_cons (Call_ (ld_blt J hg hm boot_zip (PyProof.Rows.callWith_type1 (thn (ha.run pos2 pins st σ H _ J asked) fun us st1 ⟨vs, H1, J1, rel, now⟩ => ?_) hs hpl))) hs1) hs1 rfl))
  obtain ⟨a, b, ks, xs, ex, hq1, hq2, now⟩ := now
  subst ex
  cases rel with
  | cons r1 rel =>
  cases rel with
  | cons r2 rel =>
  cases rel
  cases r1
  cases r2
  obtain ⟨its, rv, p1, z1⟩ := J1.list hq1
  obtain ⟨its2, rv2, p2, z2⟩ := J1.tuple hq2
  have al : a < st1.heap.objs.size := p1.lt
  have bl : b < st1.heap.objs.size := by obtain ⟨o, ho, _⟩ := p2; exact Heap.lt_size ho
  have B1 := begins_list a its.toArray
  have B2 := begins_tuple b its2.toArray
  refine zip_begins2 B1 B2 p1.isList p2 fun h' c1 c2 c3 c4 c5 size kp => args_nil ?_
  have S := zip_sep2 (N := st1.heap.objs.size) (fp1 := [a]) (fp2 := [b]) (by simpa using al) (by simpa using bl)
  have P := pairs_LT (prog := X.prog) (w := X.w) _ _ _ _ _ a b S (Nat.ne_of_lt al) (Nat.ne_of_lt (Nat.lt_succ_of_lt bl)) its.toArray its2.toArray
  have n1 := rv.length
  have n2 := rv2.length
  rw [List.length_map] at n1 z1
  have all : ∀ (ks : List Key) (xs : List V) (us vs : List Value), Vals (ks.map kV) us → Vals xs vs → ∃ rs : List (Key × Value), KV (ks.zip xs) rs ∧ rs.length = min us.length vs.length ∧ ∀ (i : Nat) (k v : Value), us[i]? = some k → vs[i]? = some v → ∃ q, rs[i]? = some (q, v) ∧ (mixKind X.prog X.w).is q k = true := by
    intro ks
    induction ks with
    | nil => intro xs us vs r1 r2; cases r1; exact ⟨[], .nil, by simp, fun i k v e => nomatch e⟩
    | cons k ks ih =>
      intro xs us vs r1 r2
      cases r1 with
      | cons h1 t1 =>
      cases r2 with
      | nil => exact ⟨[], .nil, by simp, fun i k v _ e => nomatch e⟩
      | cons h2 t2 =>
        obtain ⟨rs, e1, e2, e3⟩ := ih _ _ _ t1 t2
        refine ⟨(k, _) :: rs, .cons ⟨rfl, h2⟩ e1, by simp only [List.length_cons, e2]; omega, fun i q v e f => ?_⟩
        cases i with
        | zero => cases e; cases f; exact ⟨k, rfl, kV_is h1⟩
        | succ i => exact e3 i q v e f
  obtain ⟨rs, e1, e2, e3⟩ := all ks xs its its2 rv rv2
  have PH : PairsHave (mixKind X.prog X.w) (min its.toArray.size its2.toArray.size) (fun i k v => its.toArray[i]? = some k ∧ its2.toArray[i]? = some v) rs :=
    ⟨by simpa using e2, fun i k v q => e3 i k v (by simpa using q.1) (by simpa using q.2)⟩
  refine _root_.PySem.call_dict_pairs (s := { st1 with heap := h' }) P (J1.ok.hd hcalm) ⟨c1, ⟨_, _, c3⟩, c2, ⟨⟨_, c4, rfl, rfl⟩, B1.keeps _ _ p1.isList kp⟩, ⟨⟨_, c5, rfl, rfl⟩, B2.keeps _ _ p2 kp⟩⟩ PH (by have := n1; have := n2; simp only [List.size_toArray]; omega) fun h2 tk isd kp2 => ?_
  replace isd : h2.DictOf (mixKind X.prog X.w) h'.objs.size (merged [] rs) := isd
  have low : st1.heap.objs.size ≤ h'.objs.size := by rw [size]; exact Nat.le_add_right _ _
  have big : sysModules < h'.objs.size := Nat.lt_of_lt_of_le J1.big low
  have ne : (h'.objs.size == sysModules) = false := beq_eq_false_iff_ne.mpr (Nat.ne_of_gt big)
  have few : (mergeK [] (ks.zip xs)).length ≤ sizeLine := by
    refine Nat.le_trans (length_mergeK _ []) ?_
    rw [List.length_nil, Nat.zero_add, List.length_zip]
    omega
  refine ⟨.ref h'.objs.size, upd H1 h'.objs.size (.dK (mergeK [] (ks.zip xs))), J1.laid (t' := tk) (fun c o q => kp2 c o (fun hm => ?_) (kp c o q)) low (show ObjOk X.prog X.w _ _ _ (.dK (mergeK [] (ks.zip xs))) from ⟨few, ne, merged [] rs, KV.merge e1 .nil, isd⟩), rfl, now _ (J1.hok.fresh low)⟩
  have cl := Heap.lt_size q
  have either : c = st1.heap.objs.size + 4 ∨ c = st1.heap.objs.size + 3 ∨ c = st1.heap.objs.size ∨ c = st1.heap.objs.size + 1 := by simpa using hm
  rcases either with y | y | y | y <;> rw [y] at cl
  · exact absurd cl (Nat.not_lt.mpr (Nat.le_add_right _ _))
  · exact absurd cl (Nat.not_lt.mpr (Nat.le_add_right _ _))
  · exact absurd cl (Nat.lt_irrefl _)
  · exact absurd cl (Nat.not_lt.mpr (Nat.le_add_right _ _))
theorem one_at {K : PySem.W.Frag} {a : Addr} {od : Option Addr} {z : Str} {t1 : Tok} {n : Nat} {sl : Array (Option Value)} (l : K.lookup a = some ⟨.type "tuple", od, .seq #[.str z t1] n, sl⟩) (H : Hp) : SqT K H a [.str z] :=
  .inr ⟨_, _, _, l, rfl, rfl, (show 1 ≤ sizeLine by decide), .cons ⟨_, rfl⟩ .nil⟩
section
variable {P : Program} {w : World} {K : PySem.W.Frag} {mg : Str → Option Value} {base : Heap}
def sp_law_flow (K : PySem.W.Frag) : Sp := fun vs H Q _ => ∃ (a : Addr) (ns : List Int), vs = [.ref a] ∧ SqL K H a (ns.map V.int) ∧ ∀ (f c : Addr) (H' : Hp), H f = none → H c = none → Flow H' f c → Same H H' → Q (.ref f) H'
theorem ok_law_flow {f : Addr} {fd : FuncData} (F : Fun K "_law_flow" "_law_flow" s_law_flow f fd) (T : Top K mg) : FnOk P w K mg base CX0 1 f fd ["_law_script"] (sp_law_flow K) := by
  refine F.ok sc_law_flow (fun vs H Q E h => ?_) (fun cdv A outer s H vs Q E hr h => ?_)
  · obtain ⟨a, ns, rfl, _⟩ := h
    rfl
  obtain ⟨a, ns, rfl, hS, q⟩ := h
  refine ⟨_, (pss_one (ps_ret (pe_lst (pa_cons (pe_callTy (call_list_ofK K rfl) (by rfl) T.m_list (by decide +kernel) (pa_cons (pv 0) pa_nil)) (pa_cons pe_int (pa_cons pe_int (pa_cons pe_int (pa_cons pe_int pa_nil)))))))), ?_⟩
  refine ⟨_, rfl, a, _, rfl, .inl hS, fun c hc => ?_⟩
  refine ⟨(by show 5 ≤ sizeLine; decide), fun f hf => ?_⟩
  have nf : H f = none := by
    cases e : H f with
    | none => rfl
    | some o => rw [same_new hc _ _ e] at hf; cases hf
  have s1 := same_new (o := .lst (ns.map V.int)) hc
  refine q f c _ nf hc ⟨ns, 0, 0, 1, 0, upd_same, same_new hf _ _ upd_same, by decide, by decide, by decide, by decide⟩ fun b o e => same_new hf _ _ (s1 _ _ e)
def sp_law_pick (K : PySem.W.Frag) : Sp := fun vs H Q _ => ∃ (f c : Addr) (m : Int), vs = [.ref f, .int m] ∧ 0 < m ∧ m.natAbs.log2 < 9000 ∧ Flow H f c ∧
  ∀ (v : Int) (H' : Hp), 0 ≤ v → v < m → Flow H' f c → But f H H' → Q (.int v) H'
theorem ok_law_pick {f : Addr} {fd : FuncData} (F : Fun K "_law_pick" "_law_pick" s_law_pick f fd) (T : Top K mg) : FnOk P w K mg base CX0 1 f fd ["_law_flow_here", "_law_many"] (sp_law_pick K) := by
  refine F.ok sc_law_pick (fun vs H Q E h => ?_) (fun cdv A outer s H vs Q E hr h => ?_)
  · obtain ⟨f, c, m, rfl, _⟩ := h
    rfl
  obtain ⟨f, c, m, rfl, m0, m9, hF, q⟩ := h
  obtain ⟨ns, i, p, z, r, hf, hc, hi, hp, hz, hz2⟩ := hF
  have ncf : c ≠ f := ne_of hc hf (by intro e; injection e with e; cases ns with | nil => cases e | cons x l => cases e)
  let R1 : TS := fun D' σ' H' => D'.rt = Q ∧ ∃ x2 : Option V, σ' = [some (.ref f), some (.int m), x2, none] ∧ (∃ (i p z r : Int), H' f = some (.lst [.ref c, .int i, .int p, .int z, .int r]) ∧ H' c = some (.lst (ns.map V.int)) ∧ 0 ≤ i ∧ 0 ≤ p ∧ 0 ≤ z ∧ z < 2147483647) ∧ But f H H'
  refine ⟨_, (pss_cons (ps_if (PW.pt (pw_and (pt_cmpR op_eq (pe_ix (ix_listK K rfl) (pv 0) pe_int (fun _ _ => rfl)) pe_int (nomark _)) (pw_and1 (pt_cmpR op_lt (pe_ix (ix_listK K rfl) (pv 0) pe_int (fun _ _ => rfl)) (pe_callB (call_len_seqK K rfl) (by rfl) T.m_len (by decide +kernel) (pa_cons (pe_ix (ix_listK K rfl) (pv 0) pe_int (fun _ _ => rfl)) pa_nil)) (nomark _))))) (pss_cons (ps_set (i := 2) sc_law_pick.nd rfl (Or.inl rfl) (pe_ix (ix_listK K rfl) (pe_ix (ix_listK K rfl) (pv 0) pe_int (fun _ _ => rfl)) (pe_ix (ix_listK K rfl) (pv 0) pe_int (fun _ _ => rfl)) (fun _ _ => rfl)))
      (pss_cons (ps_asg (pe_op op_add (pe_ix (ix_listK K rfl) (pv 0) pe_int (fun _ _ => rfl)) pe_int) (pg_sub (pv 0) pe_int set_list))
      (pss_one (ps_if (pt_cmpR op_ge (pv 2) (pe_op op_pow pe_int pe_int) (nomark _)) (pss_one (ps_asg (pv 2) (pg_sub (pv 0) pe_int set_list))) (pss_one (ps_asg (pe_op op_mod (pe_op op_add (pe_op op_add (pe_op op_mul (pe_ix (ix_listK K rfl) (pv 0) pe_int (fun _ _ => rfl)) pe_int) (pe_op op_mod (pv 2) pe_int)) pe_int) pe_int) (pg_sub (pv 0) pe_int set_list))))))) pss_nil)
      (PSs.to (pss_cons (ps_if (pt_cmpR op_gt (pe_ix (ix_listK K rfl) (pv 0) pe_int (fun _ _ => rfl)) pe_int (nomark _)) (pss_cons (ps_set (i := 3) sc_law_pick.nd rfl (Or.inl rfl) (pe_op op_mod (pe_ix (ix_listK K rfl) (pv 0) pe_int (fun _ _ => rfl)) (pv 1)))
      (pss_cons (ps_asg (pe_op op_fdivW (pe_ix (ix_listK K rfl) (pv 0) pe_int (fun _ _ => rfl)) (pv 1)) (pg_sub (pv 0) pe_int set_list))
      (pss_one (ps_ret (pv 3))))) pss_nil)
      (pss_cons (ps_asg (pe_op op_add (pe_ix (ix_listK K rfl) (pv 0) pe_int (fun _ _ => rfl)) pe_int) (pg_sub (pv 0) pe_int set_list))
      (pss_cons (ps_asg (pe_op op_mod (pe_op op_add (pe_op op_add (pe_op op_mul (pe_ix (ix_listK K rfl) (pv 0) pe_int (fun _ _ => rfl)) pe_int) pe_int) (pe_ix (ix_listK K rfl) (pv 0) pe_int (fun _ _ => rfl))) pe_int) (pg_sub (pv 0) pe_int set_list))
      (pss_one (ps_ret (pe_op op_mod (pe_op op_fdiv (pe_op op_mod (pe_op op_mul (pe_op op_add (pe_op op_mod (pe_ix (ix_listK K rfl) (pv 0) pe_int (fun _ _ => rfl)) pe_int) pe_int) (pe_op op_add (pe_op op_fdiv (pe_ix (ix_listK K rfl) (pv 0) pe_int (fun _ _ => rfl)) pe_int) pe_int)) pe_int) pe_int) (pv 1))))))) R1 ?tail1)), ?_⟩
  case tail1 =>
    rintro D' σ' H1 ⟨eD, x2, rfl, ⟨i, p, z, r, hf, hc, hi, hp, hz, hz2⟩, bt⟩
    refine ⟨_, rfl, f, _, _, _, rfl, rfl, SqL.of hf, atI_nat (j := 2) rfl, _, _, rfl, rfl, _, rfl, if_bl (fun c1 => ?_) (fun c1 => ?_)⟩
    · refine ⟨_, rfl, f, _, _, _, rfl, rfl, SqL.of hf, atI_nat (j := 2) rfl, _, rfl, _, _, rfl, rfl, m0, ?_⟩
      refine ⟨_, rfl, f, _, _, _, rfl, rfl, SqL.of hf, atI_nat (j := 2) rfl, _, rfl, _, _, rfl, rfl, ⟨m0, m9⟩, _, rfl, f, _, _, 2, rfl, rfl, hf, rfl, ?_⟩
      refine ⟨_, rfl, ?_⟩
      rw [eD]
      exact q _ _ (Int.emod_nonneg _ (by omega)) (Int.emod_lt_of_pos _ m0) ⟨ns, i, p / m, z, r, upd_same, (by rw [upd_ne ncf]; exact hc), hi, Int.ediv_nonneg hp (by omega), hz, hz2⟩ bt.upd
    · refine ⟨_, rfl, f, _, _, _, rfl, rfl, SqL.of hf, atI_nat (j := 4) rfl, _, _, rfl, rfl, _, rfl, f, _, _, 4, rfl, rfl, hf, rfl, ?_⟩
      have hf2 : upd H1 f (.lst ([V.ref c, V.int i, V.int p, V.int z, V.int r].set 4 (V.int (r + 1)))) f = some (.lst [.ref c, .int i, .int p, .int z, .int (r + 1)]) := upd_same
      refine ⟨_, rfl, f, _, _, _, rfl, rfl, SqL.of hf2, atI_nat (j := 3) rfl, _, _, rfl, rfl, .inl ⟨by omega, by omega⟩, _, _, rfl, rfl, _, rfl, f, _, _, _, rfl, rfl, SqL.of hf2, atI_nat (j := 4) rfl, _, _, rfl, rfl, _, _, rfl, rfl, (by show (0 : Int) < 2147483647; decide), _, rfl, f, _, _, 3, rfl, rfl, hf2, rfl, ?_⟩
      have z0 : 0 ≤ (z * 48271 + 12820163 + (r + 1)) % 2147483647 := Int.emod_nonneg _ (by decide)
      have z1 : (z * 48271 + 12820163 + (r + 1)) % 2147483647 < 2147483647 := Int.emod_lt_of_pos _ (by decide)
      have hf3 : upd (upd H1 f (.lst ([V.ref c, V.int i, V.int p, V.int z, V.int r].set 4 (V.int (r + 1))))) f (.lst ([V.ref c, V.int i, V.int p, V.int z, V.int (r + 1)].set 3 (V.int ((z * 48271 + 12820163 + (r + 1)) % 2147483647)))) f =
        some (.lst [.ref c, .int i, .int p, .int ((z * 48271 + 12820163 + (r + 1)) % 2147483647), .int (r + 1)]) := upd_same
      have hc3 : upd (upd H1 f (.lst ([V.ref c, V.int i, V.int p, V.int z, V.int r].set 4 (V.int (r + 1))))) f (.lst ([V.ref c, V.int i, V.int p, V.int z, V.int (r + 1)].set 3 (V.int ((z * 48271 + 12820163 + (r + 1)) % 2147483647)))) c = some (.lst (ns.map V.int)) := by
        rw [upd_ne ncf, upd_ne ncf]
        exact hc
      refine ⟨_, rfl, f, _, _, _, rfl, rfl, SqL.of hf3, atI_nat (j := 3) rfl, _, _, rfl, rfl, (by show (0 : Int) < 65521; decide), _, _, rfl, rfl, _, rfl, f, _, _, _, rfl, rfl, SqL.of hf3, atI_nat (j := 3) rfl, _, _, rfl, rfl, ⟨by decide, by decide⟩, _, _, rfl, rfl, _, _, rfl, rfl, .inl ⟨?_, ?_⟩, _, _, rfl, rfl, (by show (0 : Int) < 1000003; decide), _, _, rfl, rfl, ⟨by decide, by decide⟩, _, rfl, _, _, rfl, rfl, m0, ?_⟩
      · omega
      · omega
      · rw [eD]
        exact q _ _ (Int.emod_nonneg _ (by omega)) (Int.emod_lt_of_pos _ m0) ⟨ns, i, p, _, r + 1, hf3, hc3, hi, hp, z0, z1⟩ bt.upd.upd
  refine ⟨_, rfl, f, _, _, _, rfl, rfl, SqL.of hf, atI_nat (j := 2) rfl, rfl, _, rfl, if_bl (fun c1 => ?_) (fun c1 => ?_)⟩
  · refine ⟨_, rfl, f, _, _, _, rfl, rfl, SqL.of hf, atI_nat (j := 1) rfl, _, rfl, f, _, _, _, rfl, rfl, SqL.of hf, atI_nat (j := 0) rfl, c, _, rfl, .inl (SqL.of hc), _, _, rfl, rfl, _, rfl, if_bl (fun c2 => ?_) (fun c2 => ?_)⟩
    · have c3 : i < ((ns.map V.int).length : Int) := of_decide_eq_true c2
      rw [List.length_map] at c3
      obtain ⟨v, hv⟩ := at_ints hi c3
      refine ⟨_, rfl, f, _, _, _, rfl, rfl, SqL.of hf, atI_nat (j := 0) rfl, _, rfl, f, _, _, _, rfl, rfl, SqL.of hf, atI_nat (j := 1) rfl, c, _, i, _, rfl, rfl, SqL.of hc, hv, ?_⟩
      refine ⟨_, rfl, f, _, _, _, rfl, rfl, SqL.of hf, atI_nat (j := 1) rfl, _, _, rfl, rfl, _, rfl, f, _, _, 1, rfl, rfl, hf, rfl, ?_⟩
      have hf2 : upd H f (.lst ([V.ref c, V.int i, V.int p, V.int z, V.int r].set 1 (V.int (i + 1)))) f = some (.lst [.ref c, .int (i + 1), .int p, .int z, .int r]) := upd_same
      refine ⟨_, rfl, _, _, rfl, rfl, ⟨by decide, by decide, by decide⟩, _, _, rfl, rfl, _, rfl, if_bl (fun c4 => ?_) (fun c4 => ?_)⟩
      · have c5 : (10 : Int) ^ (18 : Int).toNat ≤ v := of_decide_eq_true c4
        have c6 : (0 : Int) ≤ (10 : Int) ^ (18 : Int).toNat := by decide
        refine ⟨_, rfl, _, rfl, f, _, _, 2, rfl, rfl, hf2, rfl, rfl, _, rfl, ⟨i + 1, v, z, r, upd_same, ?_, by omega, by omega, hz, hz2⟩, But.refl.upd.upd⟩
        rw [upd_ne ncf, upd_ne ncf]
        exact hc
      · refine ⟨_, rfl, f, _, _, _, rfl, rfl, SqL.of hf2, atI_nat (j := 3) rfl, _, _, rfl, rfl, .inl ⟨by omega, by omega⟩, _, rfl, _, _, rfl, rfl, (by show (0 : Int) < 1000003; decide), _, _, rfl, rfl, _, _, rfl, rfl, _, _, rfl, rfl, (by show (0 : Int) < 2147483647; decide), _, rfl, f, _, _, 3, rfl, rfl, hf2, rfl, rfl, _, rfl, ⟨i + 1, p, _, r, upd_same, ?_, by omega, hp, Int.emod_nonneg _ (by decide), Int.emod_lt_of_pos _ (by decide)⟩, But.refl.upd.upd⟩
        rw [upd_ne ncf, upd_ne ncf]
        exact hc
    · exact ⟨rfl, _, rfl, ⟨i, p, z, r, hf, hc, hi, hp, hz, hz2⟩, But.refl⟩
  · exact ⟨rfl, _, rfl, ⟨i, p, z, r, hf, hc, hi, hp, hz, hz2⟩, But.refl⟩
end
/-! ### rooms: what they are -/
/-- a hand: its rule's word, its number if it has one, its moments -/
structure HR where
  wd : Str
  no : Option Int
  mom : Int
/-- a belt -/
structure BR where
  one : Nat
  to : Nat
  th : List Int
abbrev ruleL (h : HR) : List V := .str h.wd :: (match h.no with | none => [] | some n => [.int n])
def HandAt (H : Hp) (v : V) (h : HR) : Prop := ∃ t r : Addr, v = .ref t ∧ H t = some (.tup [.ref r, .int h.mom]) ∧ H r = some (.tup (ruleL h))
def BeltAt (H : Hp) (v : V) (b : BR) : Prop := ∃ t g : Addr, v = .ref t ∧ H t = some (.tup [.int (b.one : Nat), .int (b.to : Nat), .ref g]) ∧ H g = some (.tup (b.th.map V.int))
theorem HandAt.keep {H H' : Hp} {v : V} {h : HR} (a : HandAt H v h) (k : TK H H') : HandAt H' v h := by
  obtain ⟨t, r, e, e1, e2⟩ := a
  exact ⟨t, r, e, k _ _ e1, k _ _ e2⟩
theorem BeltAt.keep {H H' : Hp} {v : V} {b : BR} (a : BeltAt H v b) (k : TK H H') : BeltAt H' v b := by
  obtain ⟨t, r, e, e1, e2⟩ := a
  exact ⟨t, r, e, k _ _ e1, k _ _ e2⟩
def nine : List Str := ["always", "same", "times", "sum", "gap", "below", "most", "least", "pick"]
def needs (wd : Str) : Int := if wd ∈ (["in", "always"] : List Str) then 0 else if wd ∈ (["out", "same", "times"] : List Str) then 1 else 2 + (if wd = "pick" then 1 else 0)
/-- a rule of one of the nine words -/
structure GoodRule (h : HR) : Prop where
  wd : h.wd ∈ nine
  no : h.no.isSome = true ↔ h.wd = "times" ∨ h.wd = "always"
  big : ∀ n, h.no = some n → -1000000 ≤ n ∧ n ≤ 1000000
def GoodHand (h : HR) : Prop := (GoodRule h ∨ ((h.wd = "in" ∨ h.wd = "out") ∧ h.no = none)) ∧ 0 ≤ h.mom ∧ h.mom ≤ 30
def Small (v : Int) : Prop := -1000000 ≤ v ∧ v ≤ 1000000
section
variable {P : Program} {w : World} {K : PySem.W.Frag} {mg : Str → Option Value} {base : Heap}
def sp_law_thing (K : PySem.W.Frag) : Sp := fun vs H Q _ => ∃ f c : Addr, vs = [.ref f] ∧ Flow H f c ∧ ∀ (v : Int) (H' : Hp), Small v → Flow H' f c → But f H H' → Q (.int v) H'
theorem ok_law_thing {f : Addr} {fd : FuncData} (F : Fun K "_law_thing" "_law_thing" s_law_thing f fd) (T : Top K mg) : FnOk P w K mg base CX0 2 f fd ["_law_flow_here"] (sp_law_thing K) := by
  obtain ⟨f_law_pick, fd_law_pick, F_law_pick, b_law_pick, m_law_pick⟩ := T.d_law_pick
  have G_law_pick := ok_law_pick (P := P) (w := w) (base := base) F_law_pick T
  refine F.ok sc_law_thing (fun vs H Q E h => ?_) (fun cdv A outer s H vs Q E hr h => ?_)
  · obtain ⟨f, c, rfl, _⟩ := h
    rfl
  obtain ⟨f, c, rfl, hF, q⟩ := h
  refine ⟨_, (pss_cons (ps_if (pt_cmpR op_gt (pe_call G_law_pick (hr.mono (by decide)) (by rfl) m_law_pick F_law_pick.kp b_law_pick .nil pass0 (pa_cons (pv 0) (pa_cons pe_int pa_nil))) pe_int (nomark _)) (pss_one (ps_ret (pe_op op_sub (pe_call G_law_pick (hr.mono (by decide)) (by rfl) m_law_pick F_law_pick.kp b_law_pick .nil pass0 (pa_cons (pv 0) (pa_cons pe_int pa_nil))) pe_int))) pss_nil)
      (pss_one (ps_ret (pe_op op_sub (pe_call G_law_pick (hr.mono (by decide)) (by rfl) m_law_pick F_law_pick.kp b_law_pick .nil pass0 (pa_cons (pv 0) (pa_cons pe_int pa_nil))) pe_int)))), ?_⟩
  refine ⟨_, rfl, f, c, 3, rfl, by decide, by decide +kernel, hF, fun v1 H1 a1 b1 F1 B1 => ⟨_, _, rfl, rfl, _, rfl, if_bl (fun _ => ?_) (fun _ => ?_)⟩⟩
  · exact ⟨_, rfl, f, c, 7, rfl, by decide, by decide +kernel, F1, fun v2 H2 a2 b2 F2 B2 => ⟨_, _, rfl, rfl, q _ _ ⟨by omega, by omega⟩ F2 (B1.trans B2)⟩⟩
  · exact ⟨_, rfl, f, c, 2000001, rfl, by decide, by decide +kernel, F1, fun v2 H2 a2 b2 F2 B2 => ⟨_, _, rfl, rfl, q _ _ ⟨by omega, by omega⟩ F2 (B1.trans B2)⟩⟩
def sp_law_needs (K : PySem.W.Frag) : Sp := fun vs H Q _ => ∃ (r : Addr) (wd : Str) (l : List V), vs = [.ref r] ∧ SqT K H r (.str wd :: l) ∧ ∀ H', Same H H' → Q (.int (needs wd)) H'
theorem ok_law_needs {f : Addr} {fd : FuncData} (F : Fun K "_law_needs" "_law_needs" s_law_needs f fd) (T : Top K mg) : FnOk P w K mg base CX0 1 f fd ["_law_rule_here"] (sp_law_needs K) := by
  refine F.ok sc_law_needs (fun vs H Q E h => ?_) (fun cdv A outer s H vs Q E hr h => ?_)
  · obtain ⟨r, wd, l, rfl, _⟩ := h
    rfl
  obtain ⟨r, wd, l, rfl, hR, q⟩ := h
  unfold needs at q
  refine ⟨_, (pss_cons (ps_if (pt_cmpR (op_in_seqK K rfl) (pe_ix (ix_tupK K rfl) (pv 0) pe_int (fun _ _ => rfl)) (pe_tup (pa_cons pe_str (pa_cons pe_str pa_nil))) (by with_unfolding_all rfl)) (pss_one (ps_ret pe_int)) pss_nil)
      (pss_cons (ps_if (pt_cmpR (op_in_seqK K rfl) (pe_ix (ix_tupK K rfl) (pv 0) pe_int (fun _ _ => rfl)) (pe_tup (pa_cons pe_str (pa_cons pe_str (pa_cons pe_str pa_nil)))) (by with_unfolding_all rfl)) (pss_one (ps_ret pe_int)) pss_nil)
      (pss_one (ps_ret (pe_op op_add pe_int (pe_callTy call_int1 (by rfl) T.m_int (by decide +kernel) (pa_cons (pe_cmpR op_eq (pe_ix (ix_tupK K rfl) (pv 0) pe_int (fun _ _ => rfl)) pe_str (nomark _)) pa_nil))))))), ?_⟩
  refine ⟨_, rfl, r, _, _, _, rfl, rfl, hR, atI_nat (j := 0) rfl, (by show 2 ≤ sizeLine; decide), fun p np => ⟨p, _, rfl, .inr (SqT.of upd_same), rfl, rfl, _, rfl, if_in (zs := ["in", "always"]) (fun e => ?_) (fun e => ?_)⟩⟩
  · have q := q _ (same_new (o := .tup [V.str "in", V.str "always"]) np)
    rw [if_pos e] at q
    exact q
  have s1 := same_new (o := .tup [V.str "in", V.str "always"]) np
  refine ⟨_, rfl, r, _, _, _, rfl, rfl, same_seqT s1 hR, atI_nat (j := 0) rfl, (by show 3 ≤ sizeLine; decide), fun p2 np2 => ⟨p2, _, rfl, .inr (SqT.of upd_same), rfl, rfl, _, rfl, if_in (zs := ["out", "same", "times"]) (fun e2 => ?_) (fun e2 => ?_)⟩⟩
  · have q := q _ (s1.trans (same_new (o := .tup [V.str "out", V.str "same", V.str "times"]) np2))
    rw [if_neg e, if_pos e2] at q
    exact q
  have s2 := s1.trans (same_new (o := .tup [V.str "out", V.str "same", V.str "times"]) np2)
  have q := q _ s2
  rw [if_neg e, if_neg e2] at q
  refine ⟨_, rfl, r, _, _, _, rfl, rfl, same_seqT s2 hR, atI_nat (j := 0) rfl, rfl, .inr ⟨_, rfl, _, _, rfl, rfl, ?_⟩⟩
  by_cases k : wd = "pick"
  · rw [if_pos k] at q
    rw [decide_eq_true (show V.str wd = V.str "pick" by rw [k])]
    exact q
  · rw [if_neg k] at q
    rw [decide_eq_false (show ¬ V.str wd = V.str "pick" from fun z => k (V.str.inj z))]
    exact q
theorem nine_at {m : Int} (h0 : 0 ≤ m) (h9 : m < 9) : ∃ wd : Str, wd ∈ nine ∧ atI (nine.map V.str) m = some (.str wd) ∧ (m < 1 → needs wd ≤ 0) ∧ (m < 3 → needs wd ≤ 1) ∧ (m < 8 → needs wd ≤ 2) ∧ needs wd ≤ 3 ∧ 0 ≤ needs wd := by
  have : m = 0 ∨ m = 1 ∨ m = 2 ∨ m = 3 ∨ m = 4 ∨ m = 5 ∨ m = 6 ∨ m = 7 ∨ m = 8 := by omega
  rcases this with rfl | rfl | rfl | rfl | rfl | rfl | rfl | rfl | rfl
  · exact ⟨"always", by decide +kernel, rfl, by decide +kernel, by decide +kernel, by decide +kernel, by decide +kernel, by decide +kernel⟩
  · exact ⟨"same", by decide +kernel, rfl, by decide +kernel, by decide +kernel, by decide +kernel, by decide +kernel, by decide +kernel⟩
  · exact ⟨"times", by decide +kernel, rfl, by decide +kernel, by decide +kernel, by decide +kernel, by decide +kernel, by decide +kernel⟩
  · exact ⟨"sum", by decide +kernel, rfl, by decide +kernel, by decide +kernel, by decide +kernel, by decide +kernel, by decide +kernel⟩
  · exact ⟨"gap", by decide +kernel, rfl, by decide +kernel, by decide +kernel, by decide +kernel, by decide +kernel, by decide +kernel⟩
  · exact ⟨"below", by decide +kernel, rfl, by decide +kernel, by decide +kernel, by decide +kernel, by decide +kernel, by decide +kernel⟩
  · exact ⟨"most", by decide +kernel, rfl, by decide +kernel, by decide +kernel, by decide +kernel, by decide +kernel, by decide +kernel⟩
  · exact ⟨"least", by decide +kernel, rfl, by decide +kernel, by decide +kernel, by decide +kernel, by decide +kernel, by decide +kernel⟩
  · exact ⟨"pick", by decide +kernel, rfl, by decide +kernel, by decide +kernel, by decide +kernel, by decide +kernel, by decide +kernel⟩
def sp_law_rule (K : PySem.W.Frag) : Sp := fun vs H Q _ => ∃ (f c : Addr) (m : Int), vs = [.ref f, .int m] ∧ 0 ≤ m ∧ Flow H f c ∧
  ∀ (r : Addr) (h : HR) (H' : Hp), H' r = some (.tup (ruleL h)) → GoodRule h → needs h.wd ≤ m → 0 ≤ needs h.wd → h.mom = 0 → Flow H' f c → But f H H' → Q (.ref r) H'
theorem ok_law_rule {f : Addr} {fd : FuncData} (F : Fun K "_law_rule" "_law_rule" s_law_rule f fd) (T : Top K mg) : FnOk P w K mg base CX0 3 f fd ["_law_flow_here", "_law_most"] (sp_law_rule K) := by
  obtain ⟨f_law_pick, fd_law_pick, F_law_pick, b_law_pick, m_law_pick⟩ := T.d_law_pick
  have G_law_pick := ok_law_pick (P := P) (w := w) (base := base) F_law_pick T
  obtain ⟨f_law_thing, fd_law_thing, F_law_thing, b_law_thing, m_law_thing⟩ := T.d_law_thing
  have G_law_thing := ok_law_thing (P := P) (w := w) (base := base) F_law_thing T
  refine F.ok sc_law_rule (fun vs H Q E h => ?_) (fun cdv A outer s H vs Q E hr h => ?_)
  · obtain ⟨f, c, m, rfl, _⟩ := h
    rfl
  obtain ⟨f, c, m, rfl, m0, hF, q⟩ := h
  refine ⟨_, (pss_cons (ps_set (i := 2) sc_law_rule.nd rfl (Or.inl rfl) (pe_lst (pa_cons pe_str (pa_cons pe_str (pa_cons pe_str (pa_cons pe_str (pa_cons pe_str (pa_cons pe_str (pa_cons pe_str (pa_cons pe_str (pa_cons pe_str pa_nil)))))))))))
      (pss_cons (ps_set (i := 3) sc_law_rule.nd rfl (Or.inl rfl) (pe_ix (ix_listK K rfl) (pv 2) (pe_call G_law_pick (hr.mono (by decide)) (by rfl) m_law_pick F_law_pick.kp b_law_pick .nil pass0 (pa_cons (pv 0) (pa_cons (pe_ix (ix_listK K rfl) (pe_lst (pa_cons pe_int (pa_cons pe_int (pa_cons pe_int (pa_cons pe_int pa_nil))))) (pe_callB (call_min2 rfl) (by rfl) T.m_min (by decide +kernel) (pa_cons pe_int (pa_cons (pv 1) pa_nil))) (fun _ _ => rfl)) pa_nil))) (fun _ _ => rfl)))
      (pss_cons (ps_if (pt_cmpR op_eq (pv 3) pe_str (nomark _)) (pss_one (ps_ret (pe_tup (pa_cons (pv 3) (pa_cons (pe_op op_sub (pe_call G_law_pick (hr.mono (by decide)) (by rfl) m_law_pick F_law_pick.kp b_law_pick .nil pass0 (pa_cons (pv 0) (pa_cons pe_int pa_nil))) pe_int) pa_nil))))) pss_nil)
      (pss_cons (ps_if (pt_cmpR op_eq (pv 3) pe_str (nomark _)) (pss_one (ps_ret (pe_tup (pa_cons (pv 3) (pa_cons (pe_call G_law_thing (hr.mono (by decide)) (by rfl) m_law_thing F_law_thing.kp b_law_thing .nil pass0 (pa_cons (pv 0) pa_nil)) pa_nil))))) pss_nil)
      (pss_one (ps_ret (pe_tup (pa_cons (pv 3) pa_nil)))))))), ?_⟩
  refine ⟨(by show 9 ≤ sizeLine; decide), fun wl nwl => ?_⟩
  have F1 : Flow (upd H wl (.lst (nine.map V.str))) f c := hF.new nwl
  refine ⟨_, rfl, _, rfl, (by show 4 ≤ sizeLine; decide), fun cl ncl => ?_⟩
  have F2 : Flow (upd (upd H wl (.lst (nine.map V.str))) cl (.lst [V.int 1, V.int 3, V.int 8, V.int 9])) f c := F1.new ncl
  have B2 : But f H (upd (upd H wl (.lst (nine.map V.str))) cl (.lst [V.int 1, V.int 3, V.int 8, V.int 9])) := (But.refl.new nwl).new ncl
  obtain ⟨j, hj, j1, j9, jn⟩ : ∃ j : Int, atI [V.int 1, V.int 3, V.int 8, V.int 9] (if m < 3 then m else 3) = some (.int j) ∧ 1 ≤ j ∧ j ≤ 9 ∧ ((j = 1 ∧ m = 0) ∨ (j = 3 ∧ m = 1) ∨ (j = 8 ∧ m = 2) ∨ (j = 9 ∧ 3 ≤ m)) := by
    by_cases k : m < 3
    · rw [if_pos k]
      have : m = 0 ∨ m = 1 ∨ m = 2 := by omega
      rcases this with rfl | rfl | rfl
      · exact ⟨1, rfl, by decide, by decide, by decide⟩
      · exact ⟨3, rfl, by decide, by decide, by decide⟩
      · exact ⟨8, rfl, by decide, by decide, by decide⟩
    · rw [if_neg k]
      exact ⟨9, rfl, by decide, by decide, by omega⟩
  refine ⟨_, rfl, _, _, rfl, cl, _, _, _, rfl, rfl, SqL.of upd_same, hj, f, c, j, rfl, by omega, ?_, F2, fun v H1 v0 v1 F3 B3 => ?_⟩
  · have : j = 1 ∨ j = 3 ∨ j = 8 ∨ j = 9 := by omega
    rcases this with rfl | rfl | rfl | rfl <;> decide +kernel
  obtain ⟨wd, hw, hat, n1, n3, n8, n9, n0⟩ := nine_at v0 (by omega)
  have hn : needs wd ≤ m := by
    rcases jn with ⟨rfl, rfl⟩ | ⟨rfl, rfl⟩ | ⟨rfl, rfl⟩ | ⟨rfl, k⟩
    · exact n1 v1
    · exact n3 v1
    · exact n8 v1
    · omega
  have hwl : H1 wl = some (.lst (nine.map V.str)) := B3 _ _ (same_new ncl _ _ upd_same) (hF.ne nwl)
  refine ⟨wl, _, _, _, rfl, rfl, SqL.of hwl, hat, ?_⟩
  have BB := B2.trans B3
  refine ⟨_, rfl, rfl, _, rfl, if_str (fun e => ?_) (fun e => ?_)⟩
  · refine ⟨_, rfl, _, rfl, f, c, 19, rfl, by decide, by decide +kernel, F3, fun v2 H2 a2 b2 F4 B4 => ⟨_, _, rfl, rfl, (by show 2 ≤ sizeLine; decide), fun r nr => ?_⟩⟩
    exact q r ⟨wd, some (v2 - 9), 0⟩ _ upd_same ⟨hw, ⟨fun _ => .inl e, fun _ => rfl⟩, fun n en => by cases en; exact ⟨by omega, by omega⟩⟩ hn n0 rfl (F4.new nr) ((BB.trans B4).new nr)
  refine ⟨_, rfl, rfl, _, rfl, if_str (fun e2 => ?_) (fun e2 => ?_)⟩
  · refine ⟨_, rfl, _, rfl, f, c, rfl, F3, fun v2 H2 s2 F4 B4 => ⟨(by show 2 ≤ sizeLine; decide), fun r nr => ?_⟩⟩
    exact q r ⟨wd, some v2, 0⟩ _ upd_same ⟨hw, ⟨fun _ => .inr e2, fun _ => rfl⟩, fun n en => by cases en; exact s2⟩ hn n0 rfl (F4.new nr) ((BB.trans B4).new nr)
  · refine ⟨_, rfl, (by show 1 ≤ sizeLine; decide), fun r nr => ?_⟩
    exact q r ⟨wd, none, 0⟩ _ upd_same ⟨hw, ⟨(fun z => nomatch z), fun z => absurd z (fun z => z.elim e e2)⟩, (fun n en => nomatch en)⟩ hn n0 rfl (F3.new nr) (BB.new nr)
def sp_law_shuffled (K : PySem.W.Frag) : Sp := fun vs H Q _ => ∃ (f c l : Addr) (xs : List V), vs = [.ref f, .ref l] ∧ SqL K H l xs ∧ l ≠ f ∧ xs.length ≤ 500 ∧ Flow H f c ∧
  ∀ (p : Addr) (ys : List V) (H' : Hp), ys.Perm xs → H p = none → H' p = some (.lst ys) → Flow H' f c → But f H H' → Q (.ref p) H'
theorem But.seqL {K : PySem.W.Frag} {f a : Addr} {H H1 : Hp} {xs : List V} (b : But f H H1) (h : SqL K H a xs) (n : a ≠ f) : SqL K H1 a xs := by
  rcases h with h | h
  · left
    rcases h with h | ⟨o, h⟩
    · exact .inl (b _ _ h n)
    · exact .inr ⟨o, b _ _ h n⟩
  · exact .inr h
theorem same_seqL {K : PySem.W.Frag} {a : Addr} {H H1 : Hp} {xs : List V} (b : Same H H1) (h : SqL K H a xs) : SqL K H1 a xs := by
  rcases h with h | h
  · left
    rcases h with h | ⟨o, h⟩
    · exact .inl (b _ _ h)
    · exact .inr ⟨o, b _ _ h⟩
  · exact .inr h
theorem log_small {m : Nat} (h : m ≤ 500) : ((m : Int)).natAbs.log2 < 9000 := by
  rw [Int.natAbs_natCast]
  exact Nat.lt_of_le_of_lt (Nat.log2_le_self m) (by omega)
theorem perm_erase {α : Type} : ∀ {l : List α} {j : Nat} {y : α}, l[j]? = some y → (y :: l.eraseIdx j).Perm l
  | [], _, _, h => nomatch h
  | a :: l, 0, y, h => by
    cases h
    exact List.Perm.refl _
  | a :: l, j + 1, y, h => by
    have ih : (y :: l.eraseIdx j).Perm l := perm_erase h
    exact (List.Perm.swap a y _).trans (ih.cons a)
theorem ok_law_shuffled {f : Addr} {fd : FuncData} (F : Fun K "_law_shuffled" "_law_shuffled" s_law_shuffled f fd) (T : Top K mg) : FnOk P w K mg base CX0 2 f fd ["_law_flow_here", "_law_some"] (sp_law_shuffled K) := by
  obtain ⟨f_law_pick, fd_law_pick, F_law_pick, b_law_pick, m_law_pick⟩ := T.d_law_pick
  have G_law_pick := ok_law_pick (P := P) (w := w) (base := base) F_law_pick T
  refine F.ok sc_law_shuffled (fun vs H Q E h => ?_) (fun cdv A outer s H vs Q E hr h => ?_)
  · obtain ⟨f, c, l, xs, rfl, _⟩ := h
    rfl
  obtain ⟨f, c, l, xs, rfl, hL, nl, hlen, hF, q⟩ := h
  refine ⟨_, (pss_cons (ps_set (i := 2) sc_law_shuffled.nd rfl (Or.inr rfl) (pe_callTy (call_list_ofK K rfl) (by rfl) T.m_list (by decide +kernel) (pa_cons (pv 1) pa_nil)))
      (pss_one (ps_ret (pe_lc (own := [("_law_k", 3)]) (g := gName 3) (tt := tYes) (by rfl) sc_law_shuffled.nd (pi_range1 (by rfl) T.m_range (pa_cons (pe_callB (call_len_seqK K rfl) (by rfl) T.m_len (by decide +kernel) (pa_cons (pv 1) pa_nil)) pa_nil)) (blkOk_by (own := [("_law_k", 3)]) (N := N_law_shuffled) (sc := defScope s_law_shuffled) (by decide +kernel)) (fun _ _ _ _ _ => (pg_name (i := 3) sc_law_shuffled.nd rfl (Or.inl rfl))) (fun _ _ _ _ _ => pts_nil) (fun _ _ _ _ _ => (pe_bmK K rfl PySem.F.plainAttrs_list PySem.F.slot_list_pop PySem.F.type_list_pop mt_popAt (pv 2) (pa_cons (pe_call G_law_pick (hr.mono (by decide)) (by rfl) m_law_pick F_law_pick.kp b_law_pick .nil pass0 (pa_cons (pv 0) (pa_cons (pe_callB (call_len_seqK K rfl) (by rfl) T.m_len (by decide +kernel) (pa_cons (pv 2) pa_nil)) pa_nil))) pa_nil))))))), ?_⟩
  refine ⟨_, rfl, l, _, rfl, .inl hL, fun lf nlf => ?_⟩
  refine ⟨_, rfl, l, _, rfl, .inl (same_seqL (same_new nlf) hL), _, rfl, by omega, (by omega), fun D nD => ?_⟩
  have F1 : Flow (upd H lf (.lst xs)) f c := hF.new nlf
  have dl : D ≠ lf := (ne_of_none upd_same nD).symm
  refine lc_range (lo := 0) (n := xs.length) (fun i H5 => ∃ acc rest : List V, H5 D = some (.lst acc) ∧ H5 lf = some (.lst rest) ∧ acc.length = i ∧ rest.length + i = xs.length ∧ (acc ++ rest).Perm xs ∧ Flow H5 f c ∧ But f H H5)
    ⟨[], xs, upd_same, by rw [upd_ne dl.symm]; exact upd_same, rfl, by omega, List.Perm.refl _, F1.new nD, (But.refl.new nlf).new nD⟩ ?_ ?_
  · rintro i H5 hi ⟨acc, rest, hD, hl, ha, hr2, hp, F5, B5⟩
    refine ⟨rfl, yes_in ?_⟩
    refine ⟨_, rfl, .inl ⟨rfl, _, SqL.of hl⟩, _, rfl, _, rfl, lf, _, rfl, .inl (SqL.of hl), f, c, ((rest.length : Nat) : Int), rfl, by omega, log_small (by omega), F5, fun v H6 v0 v1 F6 B6 => ?_⟩
    have hl6 := B6 _ _ hl (hF.ne nlf)
    have hv : v.toNat < rest.length := by omega
    have e1 : seqIndex? v rest.length = some v.toNat := by
      rw [seqIndex_of v0 (by omega)]
    refine ⟨lf, rest, v, v.toNat, rest[v.toNat], rfl, rfl, hl6, by omega, by omega, e1, List.getElem?_eq_getElem hv, ?_⟩
    have hD6 := B6 _ _ hD (fun e => by rw [e] at nD; rw [show upd H lf (.lst xs) f = H f from upd_ne (hF.ne nlf).symm] at nD; obtain ⟨_, _, _, _, _, e1, _⟩ := hF; rw [e1] at nD; cases nD)
    refine ⟨acc, by rw [upd_ne dl]; exact hD6, small1000 (by omega), acc ++ [rest[v.toNat]], rest.eraseIdx v.toNat, upd_same, by rw [upd_ne dl.symm]; exact upd_same, by rw [List.length_append, ha]; rfl, ?_, ?_, ?_, ?_⟩
    · rw [List.length_eraseIdx, if_pos hv]
      omega
    · refine List.Perm.trans ?_ hp
      rw [List.append_assoc]
      exact List.Perm.append_left acc (perm_erase (List.getElem?_eq_getElem hv))
    · have dc : D ≠ c := fun e => by
        rw [e] at nD
        obtain ⟨_, _, _, _, _, _, e1, _⟩ := F1
        rw [e1] at nD
        cases nD
      exact (F6.lst (hF.ne nlf) (hF.nec nlf)).lst (F1.ne nD) dc
    · exact ((B5.trans B6).own nlf).own (same_none (same_new nlf) nD)
  · rintro H5 ⟨acc, rest, hD, hl, ha, hr2, hp, F5, B5⟩
    have er : rest = [] := by
      cases rest with
      | nil => rfl
      | cons a l => simp at hr2
    subst er
    rw [List.append_nil] at hp
    exact q D acc H5 hp (same_none (same_new nlf) nD) hD F5 B5
end
/-! ### the hands of a drawn room -/
def unS : V → Str
  | .str s => s
  | _ => ""
theorem perm_strs {ys : List V} {zs : List Str} (h : ys.Perm (zs.map V.str)) : ∃ ss : List Str, ys = ss.map V.str ∧ ss.Perm zs := by
  refine ⟨ys.map unS, ?_, ?_⟩
  · rw [List.map_map]
    symm
    refine (List.map_congr_left (g := id) fun y hy => ?_).trans (List.map_id _)
    obtain ⟨z, _, e⟩ := List.mem_map.mp (h.mem_iff.mp hy)
    subst e
    rfl
  · have q := h.map unS
    rw [List.map_map] at q
    have e : zs.map (unS ∘ V.str) = zs := (List.map_congr_left (g := id) fun z _ => rfl).trans (List.map_id _)
    rw [e] at q
    exact q
theorem flat_rep {α : Type} (x : α) : ∀ n : Nat, (List.replicate n [x]).flatten = List.replicate n x
  | 0 => rfl
  | n + 1 => by
    rw [List.replicate_succ, List.flatten_cons, flat_rep x n]
    rfl
def cnt (ss : List Str) : Nat := (ss.filter fun s => !decide (s = ("in" : Str))).length
theorem cnt_le (ss : List Str) : cnt ss ≤ ss.length := List.length_filter_le ..
theorem cut_drop (xs : List V) (k : Nat) : cutV xs (some ((k : Nat) : Int)) none = xs.drop k := by
  unfold cutV
  rw [HT.sIx_nat, HT.sIx_none]
  by_cases h : k ≤ xs.length
  · rw [Nat.min_eq_left h]
    exact List.take_of_length_le (by rw [List.length_drop]; exact Nat.le_refl _)
  · rw [Nat.min_eq_right (by omega), Nat.sub_self, List.take_zero, List.drop_eq_nil_of_le (by omega)]
structure HInv (f c sl hh : Addr) (ss : List Str) (H0 H : Hp) (i : Nat) (vs : List V) (hs : List HR) (left : Int) : Prop where
  fl : Flow H f c
  bt : But f H0 H
  hsl : H sl = some (.lst (ss.map V.str))
  hhh : H hh = some (.lst vs)
  al : All2 (HandAt H) vs hs
  len : hs.length = i
  good : ∀ h ∈ hs, GoodHand h
  lf : (cnt (ss.drop i) : Int) ≤ left
  sum : (hs.map fun h => needs h.wd).sum + left = 20
  nz : ∀ h ∈ hs, 0 ≤ needs h.wd
  one : ("hand" : Str) ∈ ss.take i → ∃ h ∈ hs, h.wd ≠ "out" ∧ h.wd ≠ "in"
  n1 : sl ≠ f
  n2 : sl ≠ hh
  n3 : hh ≠ f
  n4 : hh ≠ c
  n5 : H0 hh = none
section
variable {f c sl hh : Addr} {ss : List Str} {H0 H H' : Hp} {i : Nat} {vs : List V} {hs : List HR} {left : Int}
theorem HInv.but (s : HInv f c sl hh ss H0 H i vs hs left) (F : Flow H' f c) (b : But f H H') : HInv f c sl hh ss H0 H' i vs hs left :=
  { s with fl := F, bt := s.bt.trans b, hsl := b _ _ s.hsl s.n1, hhh := b _ _ s.hhh s.n3, al := s.al.imp fun _ _ k => k.keep (TK.but s.fl b) }
theorem HInv.new {p : Addr} {o : HO} (s : HInv f c sl hh ss H0 H i vs hs left) (n : H p = none) : HInv f c sl hh ss H0 (upd H p o) i vs hs left :=
  { s with fl := s.fl.new n, bt := s.bt.new n, hsl := same_new n _ _ s.hsl, hhh := same_new n _ _ s.hhh, al := s.al.imp fun _ _ k => k.keep (TK.new n) }
theorem HInv.same (s : HInv f c sl hh ss H0 H i vs hs left) (k : Same H H') : HInv f c sl hh ss H0 H' i vs hs left :=
  { s with fl := s.fl.same k, bt := s.bt.same k, hsl := k _ _ s.hsl, hhh := k _ _ s.hhh, al := s.al.imp fun _ _ z => z.keep (TK.same k) }
theorem HInv.step {x : V} {h : HR} {sd : Str} (s : HInv f c sl hh ss H0 H i vs hs left) (hx : HandAt H x h) (g : GoodHand h) (z : 0 ≤ needs h.wd) (k : needs h.wd + (cnt (ss.drop (i + 1)) : Int) ≤ left) (e : ss[i]? = some sd) (o : sd = "hand" → h.wd ≠ "out" ∧ h.wd ≠ "in") :
    HInv f c sl hh ss H0 (upd H hh (.lst (vs ++ [x]))) (i + 1) (vs ++ [x]) (hs ++ [h]) (left - needs h.wd) := by
  refine { s with fl := s.fl.lst s.n3 s.n4, bt := s.bt.own s.n5, hsl := by rw [upd_ne s.n2]; exact s.hsl, hhh := upd_same, al := (s.al.snoc hx).imp fun _ _ z => z.keep (TK.lst s.hhh), len := by rw [List.length_append, s.len]; rfl, good := ?_, lf := by omega, sum := ?_, nz := ?_, one := ?_ }
  · intro y hy
    rcases List.mem_append.mp hy with hy | hy
    · exact s.good y hy
    · obtain rfl : y = h := by simpa using hy
      exact g
  · have := s.sum
    rw [List.map_append, List.sum_append]
    simp only [List.map_cons, List.map_nil, List.sum_cons, List.sum_nil]
    omega
  · intro y hy
    rcases List.mem_append.mp hy with hy | hy
    · exact s.nz y hy
    · obtain rfl : y = h := by simpa using hy
      exact z
  · intro hm
    rw [List.take_add_one, e] at hm
    rcases List.mem_append.mp hm with hm | hm
    · obtain ⟨y, h1, h2⟩ := s.one hm
      exact ⟨y, List.mem_append_left _ h1, h2⟩
    · have e2 : ("hand" : Str) = sd := by simpa using hm
      exact ⟨h, List.mem_append_right _ (by simp), o e2.symm⟩
end
theorem cnt_cons {ss : List Str} {i : Nat} {sd : Str} (e : ss[i]? = some sd) : cnt (ss.drop i) = (if sd = "in" then 0 else 1) + cnt (ss.drop (i + 1)) := by
  have hi := (List.getElem?_eq_some_iff.mp e).1
  have e2 : ss.drop i = sd :: ss.drop (i + 1) := by
    rw [List.drop_eq_getElem_cons hi, (List.getElem?_eq_some_iff.mp e).2]
  rw [e2]
  unfold cnt
  rw [List.filter_cons]
  by_cases k : sd = "in"
  · rw [if_pos k, decide_eq_true k]
    simp
  · rw [if_neg k, decide_eq_false k]
    simp only [Bool.not_false, if_true, List.length_cons]
    omega
section
variable {P : Program} {w : World} {K : PySem.W.Frag} {mg : Str → Option Value} {base : Heap}
structure HandsOk (hs : List HR) : Prop where
  len : hs.length ≤ 12
  good : ∀ h ∈ hs, GoodHand h
  sum : (hs.map fun h => needs h.wd).sum ≤ 20
  nz : ∀ h ∈ hs, 0 ≤ needs h.wd
  one : ∃ h ∈ hs, h.wd ≠ "out" ∧ h.wd ≠ "in"
def sp_law_hands (K : PySem.W.Frag) : Sp := fun vs H Q _ => ∃ (f c : Addr) (m : Int), vs = [.ref f, .int m] ∧ 1 ≤ m ∧ m ≤ 8 ∧ Flow H f c ∧
  ∀ (p : Addr) (xs : List V) (hs : List HR) (H' : Hp), H p = none → H' p = some (.lst xs) → All2 (HandAt H') xs hs → HandsOk hs → Flow H' f c → But f H H' → Q (.ref p) H'
theorem ok_law_hands {f : Addr} {fd : FuncData} (F : Fun K "_law_hands" "_law_hands" s_law_hands f fd) (T : Top K mg) : FnOk P w K mg base CX0 4 f fd ["_law_flow_here", "_law_many"] (sp_law_hands K) := by
  obtain ⟨f_law_shuffled, fd_law_shuffled, F_law_shuffled, b_law_shuffled, m_law_shuffled⟩ := T.d_law_shuffled
  have G_law_shuffled := ok_law_shuffled (P := P) (w := w) (base := base) F_law_shuffled T
  obtain ⟨f_law_rule, fd_law_rule, F_law_rule, b_law_rule, m_law_rule⟩ := T.d_law_rule
  have G_law_rule := ok_law_rule (P := P) (w := w) (base := base) F_law_rule T
  obtain ⟨f_law_needs, fd_law_needs, F_law_needs, b_law_needs, m_law_needs⟩ := T.d_law_needs
  have G_law_needs := ok_law_needs (P := P) (w := w) (base := base) F_law_needs T
  obtain ⟨f_law_pick, fd_law_pick, F_law_pick, b_law_pick, m_law_pick⟩ := T.d_law_pick
  have G_law_pick := ok_law_pick (P := P) (w := w) (base := base) F_law_pick T
  refine F.ok sc_law_hands (fun vs H Q E h => ?_) (fun cdv A outer s H vs Q E hr h => ?_)
  · obtain ⟨f, c, m, rfl, _⟩ := h
    rfl
  obtain ⟨f, c, m, rfl, m1, m8, hF, q⟩ := h
  let R1 : TS := fun D' σ' H' => D'.rt = Q ∧ ∃ (x : Int) (sl : Addr) (ss : List Str), σ' = [some (.ref f), some (.int m), some (.int (3 + x)), some (.ref sl), none, none, none, none, none, none, none] ∧ H' sl = some (.lst (ss.map V.str)) ∧ sl ≠ f ∧ ss.length ≤ 12 ∧ ("hand" : Str) ∈ ss ∧ (∀ s ∈ ss, s = "in" ∨ s = "out" ∨ s = "hand") ∧ Flow H' f c ∧ But f H H'
  refine ⟨_, (pss_cons (ps_set (i := 2) sc_law_hands.nd rfl (Or.inl rfl) (pe_op op_add pe_int (pe_callTy call_int1 (by rfl) T.m_int (by decide +kernel) (pa_cons (pe_cmpR op_lt (pv 1) pe_int (nomark _)) pa_nil))))
      (pss_cons (ps_set (i := 3) sc_law_hands.nd rfl (Or.inl rfl) (pe_op op_cat (pe_op op_cat (pe_op op_rep (pe_lst (pa_cons pe_str pa_nil)) (pe_call G_law_pick (hr.mono (by decide)) (by rfl) m_law_pick F_law_pick.kp b_law_pick .nil pass0 (pa_cons (pv 0) (pa_cons (pv 2) pa_nil)))) (pe_op op_rep (pe_lst (pa_cons pe_str pa_nil)) (pe_call G_law_pick (hr.mono (by decide)) (by rfl) m_law_pick F_law_pick.kp b_law_pick .nil pass0 (pa_cons (pv 0) (pa_cons (pv 2) pa_nil))))) (pe_op op_rep (pe_lst (pa_cons pe_str pa_nil)) (pv 1))))
      (pss_cons (ps_set (i := 3) sc_law_hands.nd rfl (Or.inl rfl) (pe_call G_law_shuffled (hr.mono (by decide)) (by rfl) m_law_shuffled F_law_shuffled.kp b_law_shuffled .nil pass0 (pa_cons (pv 0) (pa_cons (pv 3) pa_nil))))
      (PSs.to (pss_cons (ps_set (i := 4) sc_law_hands.nd rfl (Or.inl rfl) pe_int)
      (pss_cons (ps_set (i := 5) sc_law_hands.nd rfl (Or.inl rfl) (pe_lst pa_nil))
      (pss_cons (ps_for PassesOwn.never rfl (pi_enum (by rfl) T.m_enumerate (pa_cons (pv 3) pa_nil)) (pg_tupK K rfl rfl (pgs_cons (pg_name (i := 6) sc_law_hands.nd rfl (Or.inl rfl)) (pgs_cons (pg_name (i := 7) sc_law_hands.nd rfl (Or.inl rfl)) pgs_nil)))
        (pss_cons (ps_if (pt_cmpR op_eq (pv 7) pe_str (nomark _)) (pss_cons (ps_set (i := 8) sc_law_hands.nd rfl (Or.inl rfl) (pe_callB (call_len_seqK K rfl) (by rfl) T.m_len (by decide +kernel) (pa_cons (pe_lc (own := [("_law_other", 9)]) (g := gName 9) (by rfl) sc_law_hands.nd (pi_listK K rfl (pe_slice (sl_listK K rfl) (pv 3) (po_some (pe_op op_add (pv 6) pe_int)) po_none)) (blkOk_by (own := [("_law_other", 9)]) (N := N_law_hands) (sc := defScope s_law_hands) (by decide +kernel)) (fun _ _ _ _ _ => (pg_name (i := 9) sc_law_hands.nd rfl (Or.inl rfl))) (fun _ _ _ _ _ => pts_one (pt_cmpR op_ne (pv 9) pe_str (nomark _))) (fun _ _ _ _ _ => (pv 9))) pa_nil)))
      (pss_cons (ps_set (i := 10) sc_law_hands.nd rfl (Or.inl rfl) (pe_call G_law_rule (hr.mono (by decide)) (by rfl) m_law_rule F_law_rule.kp b_law_rule .nil pass0 (pa_cons (pv 0) (pa_cons (pe_op op_sub (pv 4) (pv 8)) pa_nil))))
      (pss_one (ps_expr (pe_bmK K rfl PySem.F.plainAttrs_list PySem.F.slot_list_append PySem.F.type_list_append mt_append (pv 5) (pa_cons (pe_tup (pa_cons (pv 10) (pa_cons (pe_call G_law_pick (hr.mono (by decide)) (by rfl) m_law_pick F_law_pick.kp b_law_pick .nil pass0 (pa_cons (pv 0) (pa_cons (pe_ix (ix_listK K rfl) (pe_lst (pa_cons pe_int (pa_cons pe_int (pa_cons pe_int pa_nil)))) (pe_call G_law_pick (hr.mono (by decide)) (by rfl) m_law_pick F_law_pick.kp b_law_pick .nil pass0 (pa_cons (pv 0) (pa_cons pe_int pa_nil))) (fun _ _ => rfl)) pa_nil))) pa_nil))) pa_nil)))))) (pss_one (ps_expr (pe_bmK K rfl PySem.F.plainAttrs_list PySem.F.slot_list_append PySem.F.type_list_append mt_append (pv 5) (pa_cons (pe_tup (pa_cons (pe_tup (pa_cons (pv 7) pa_nil)) (pa_cons pe_int pa_nil))) pa_nil)))))
      (pss_one (ps_set (i := 4) sc_law_hands.nd rfl (Or.inl rfl) (pe_op op_sub (pv 4) (pe_call G_law_needs (hr.mono (by decide)) (by rfl) m_law_needs F_law_needs.kp b_law_needs .nil pass0 (pa_cons (pe_ix (ix_tupK K rfl) (pe_ix (ix_listK K rfl) (pv 5) (pe_un un_neg pe_int) (fun _ _ => rfl)) pe_int (fun _ _ => rfl)) pa_nil)))))))
      (pss_one (ps_ret (pv 5)))))) R1 ?tail1)))), ?_⟩
  case tail1 =>
    rintro D' σ' H1 ⟨eD, x, sl, ss, rfl, hsl, nsl, hlen, hhand, hall, F1, B1⟩
    refine ⟨(by show 0 ≤ sizeLine; decide), fun hh nhh => ?_⟩
    have I0 : HInv f c sl hh ss H (upd H1 hh (.lst [])) 0 [] [] 20 :=
      { fl := F1.new nhh, bt := B1.new nhh, hsl := same_new nhh _ _ hsl, hhh := upd_same, al := .nil, len := rfl, good := (fun _ h => nomatch h), lf := by have := cnt_le (ss.drop 0); rw [List.length_drop] at this; omega, sum := rfl, nz := (fun _ h => nomatch h), one := (fun h => nomatch h), n1 := nsl, n2 := ne_of_none hsl nhh, n3 := F1.ne nhh, n4 := F1.nec nhh, n5 := B1.none nhh (F1.ne nhh) }
    refine ⟨_, rfl, sl, _, rfl, SqL.of I0.hsl, for_it (n := ss.length) (fun i σ H2 => ∃ (vs : List V) (hs : List HR) (left : Int) (v5 v6 v7 v8 v9 : Option V), σ = [some (.ref f), some (.int m), some (.int (3 + x)), some (.ref sl), some (.int left), some (.ref hh), v5, v6, v7, v8, v9] ∧ HInv f c sl hh ss H H2 i vs hs left)
      ⟨[], [], 20, none, none, none, none, none, rfl, I0⟩ ?_ ?_ ?_ ?_⟩
    · rintro i σ H2 hi ⟨vs, hs, left, v5, v6, v7, v8, v9, rfl, I⟩
      exact ⟨_, _, SqL.of I.hsl, by rw [List.getElem?_map, List.getElem?_eq_getElem hi]; rfl⟩
    · rintro σ H2 ⟨vs, hs, left, v5, v6, v7, v8, v9, rfl, I⟩
      exact ⟨_, SqL.of I.hsl, by rw [List.length_map]; exact Nat.le_refl _⟩
    · rintro i x σ H2 H3 hi ⟨vs, hs, left, v5, v6, v7, v8, v9, rfl, I⟩ ⟨t, y, rfl, nt, rfl, fy⟩
      have ei : ss[i]? = some ss[i] := List.getElem?_eq_getElem hi
      obtain ⟨sd, hsd⟩ : ∃ sd, sd = ss[i] := ⟨_, rfl⟩
      rw [← hsd] at ei
      have ey : y = V.str sd := by
        have := fy _ (SqL.of I.hsl)
        rw [List.getElem?_map, ei] at this
        exact (Option.some.inj this).symm
      subst ey
      have I1 := I.new (o := .tup [V.int ((i : Nat) : Int), V.str sd]) nt
      have hc1 := cnt_cons ei
      have hl := I.lf
      have sz : vs.length < sizeLine := small1000 (by rw [I.al.length, I.len]; omega)
      refine ⟨t, _, rfl, SqT.of upd_same, rfl, _, _, rfl, _, _, rfl, rfl, ?_⟩
      refine ⟨_, rfl, rfl, _, rfl, if_str (fun e => ?_) (fun e => ?_)⟩
      · -- a hand
        refine ⟨_, rfl, _, rfl, _, _, rfl, rfl, _, rfl, sl, _, rfl, SqL.of I1.hsl, fun cp ncp => ?_⟩
        have I2 := I1.new (o := .lst (cutV (ss.map V.str) (some (((i : Nat) : Int) + 1)) none)) ncp
        have ecut : cutV (ss.map V.str) (some (((i : Nat) : Int) + 1)) none = (ss.drop (i + 1)).map V.str := by
          rw [show ((i : Nat) : Int) + 1 = ((i + 1 : Nat) : Int) by omega, cut_drop, List.map_drop]
        refine ⟨cp, rfl, ⟨_, SqL.of upd_same⟩, fun D nD => lc_list (K := K) (a := cp) (xs := cutV (ss.map V.str) (some (((i : Nat) : Int) + 1)) none) (fun j H5 => ∃ acc : List V, H5 D = some (.lst acc) ∧ acc.length = cnt ((ss.drop (i + 1)).take j) ∧ H5 cp = some (.lst (cutV (ss.map V.str) (some (((i : Nat) : Int) + 1)) none)) ∧ HInv f c sl hh ss H H5 i vs hs left ∧ D ≠ cp ∧ D ≠ f ∧ D ≠ c ∧ D ≠ sl ∧ D ≠ hh ∧ H D = Option.none)
          ⟨[], upd_same, rfl, same_new nD _ _ upd_same, I2.new nD, (ne_of_none upd_same nD).symm, I2.fl.ne nD, I2.fl.nec nD, (ne_of_none I2.hsl nD).symm, (ne_of_none I2.hhh nD).symm, I2.bt.none nD (I2.fl.ne nD)⟩ (fun j H5 _ ⟨_, _, _, h, _⟩ => SqL.of h) ?_ ?_⟩
        · rintro j z H5 hz ⟨acc, hD, hacc, hcp, I5, d1, d2, d3, d4, d5, d6⟩
          rw [ecut, List.getElem?_map] at hz
          cases ez : (ss.drop (i + 1))[j]? with
          | none => rw [ez] at hz; cases hz
          | some so =>
            rw [ez] at hz
            obtain rfl : V.str so = z := Option.some.inj hz
            refine ⟨rfl, _, rfl, rfl, _, rfl, if_bl (fun k => ?_) (fun k => ?_)⟩
            · have k2 : ¬ so = "in" := fun y => by
                rw [y] at k
                exact absurd k (by decide +kernel)
              refine ⟨_, rfl, acc, hD, ?_, acc ++ [V.str so], upd_same, ?_, by rw [upd_ne d1.symm]; exact hcp, ?_, d1, d2, d3, d4, d5, d6⟩
              · rw [hacc]
                have := cnt_le ((ss.drop (i + 1)).take j)
                rw [List.length_take, List.length_drop] at this
                exact small1000 (by omega)
              · rw [List.length_append, hacc, List.take_add_one, ez]
                unfold cnt
                rw [List.filter_append, List.length_append]
                simp [k2]
              · exact { I5 with fl := I5.fl.lst d2 d3, bt := I5.bt.own d6, hsl := by rw [upd_ne d4.symm]; exact I5.hsl, hhh := by rw [upd_ne d5.symm]; exact I5.hhh, al := I5.al.imp fun _ _ y => y.keep (TK.lst hD) }
            · have k2 : so = "in" := by
                by_cases y : so = "in"
                · exact y
                · have k3 : (!decide (V.str so = V.str "in")) = false := k
                  rw [decide_eq_false (fun y2 => y (V.str.inj y2))] at k3
                  cases k3
              refine ⟨acc, hD, ?_, hcp, I5, d1, d2, d3, d4, d5, d6⟩
              rw [hacc, List.take_add_one, ez]
              unfold cnt
              rw [List.filter_append, List.length_append]
              simp [k2]
        · rintro H5 ⟨acc, hD, hacc, hcp, I5, d1, d2, d3, d4, d5, d6⟩
          have hacc2 : acc.length = cnt (ss.drop (i + 1)) := by
            rw [hacc, List.take_of_length_le]
            rw [ecut, List.length_map]
            exact Nat.le_refl _
          have hm0 : 0 ≤ left - ((acc.length : Nat) : Int) := by
            have hne : ¬ sd = "in" := by rw [e]; decide +kernel
            rw [hacc2]
            rw [hc1, if_neg hne] at hl
            omega
          refine ⟨D, _, rfl, .inl (SqL.of hD), ?_⟩
          refine ⟨_, rfl, _, rfl, _, rfl, _, _, rfl, rfl, f, c, _, rfl, hm0, I5.fl, fun r hR H6 hr6 gR n1 n0 mo F6 B6 => ?_⟩
          have I6 := I5.but F6 B6
          refine ⟨_, rfl, .inl ⟨rfl, _, SqL.of I6.hhh⟩, _, rfl, _, rfl, (by show 3 ≤ sizeLine; decide), fun ml nml => ?_⟩
          have I7 := I6.new (o := .lst [V.int 5, V.int 5, V.int 31]) nml
          refine ⟨_, rfl, f, c, 3, rfl, by decide, by decide +kernel, I7.fl, fun z H8 z0 z3 F8 B8 => ?_⟩
          have I8 := I7.but F8 B8
          have hml := B8 _ _ upd_same (I6.fl.ne nml)
          obtain ⟨mm, hmm, mk⟩ : ∃ mm : Int, atI [V.int 5, V.int 5, V.int 31] z = some (.int mm) ∧ (mm = 5 ∨ mm = 31) := by
            have : z = 0 ∨ z = 1 ∨ z = 2 := by omega
            rcases this with rfl | rfl | rfl
            · exact ⟨5, rfl, .inl rfl⟩
            · exact ⟨5, rfl, .inl rfl⟩
            · exact ⟨31, rfl, .inr rfl⟩
          refine ⟨ml, _, _, _, rfl, rfl, SqL.of hml, hmm, f, c, mm, rfl, by omega, (by rcases mk with rfl | rfl <;> decide +kernel), I8.fl, fun mo2 H9 o0 o1 F9 B9 => ?_⟩
          have I9 := I8.but F9 B9
          refine ⟨(by show 2 ≤ sizeLine; decide), fun t2 nt2 => ?_⟩
          have I10 := I9.new (o := .tup [V.ref r, V.int mo2]) nt2
          have sz10 : vs.length < sizeLine := sz
          refine ⟨hh, _, _, rfl, rfl, I10.hhh, sz10, ?_⟩
          have k9 : TK H6 H9 := ((TK.new nml).trans (TK.but I7.fl B8)).trans (TK.but I8.fl B9)
          have hx : HandAt (upd H9 t2 (.tup [V.ref r, V.int mo2])) (V.ref t2) ⟨hR.wd, hR.no, mo2⟩ := ⟨t2, r, rfl, upd_same, TK.new nt2 _ _ (k9 _ _ hr6)⟩
          have gd : GoodHand ⟨hR.wd, hR.no, mo2⟩ := ⟨.inl ⟨gR.wd, gR.no, gR.big⟩, o0, (show mo2 ≤ 30 by omega)⟩
          have nout : hR.wd ≠ "out" ∧ hR.wd ≠ "in" := ⟨fun y => by
            have := gR.wd
            rw [y] at this
            exact absurd this (by decide +kernel), fun y => by
            have := gR.wd
            rw [y] at this
            exact absurd this (by decide +kernel)⟩
          have I11 := I10.step (h := ⟨hR.wd, hR.no, mo2⟩) hx gd n0 (by show needs hR.wd + _ ≤ left; rw [hacc2] at n1; omega) ei (fun _ => nout)
          refine ⟨_, rfl, _, rfl, 1, rfl, hh, _, -1, _, rfl, rfl, SqL.of I11.hhh, atI_last _ _, t2, _, _, _, rfl, rfl, SqT.of (TK.lst I10.hhh _ _ upd_same), atI_nat (j := 0) rfl, r, hR.wd, _, rfl, SqT.of (TK.lst I10.hhh _ _ (TK.new nt2 _ _ (k9 _ _ hr6))), fun H12 s12 => ⟨_, _, rfl, rfl, ?_⟩⟩
          exact ⟨_, _, _, _, _, _, _, _, rfl, I11.same s12⟩
      · -- a door
        refine ⟨_, rfl, .inl ⟨rfl, _, SqL.of I1.hhh⟩, _, rfl, (by show 1 ≤ sizeLine; decide), fun r nr => ⟨(by show 2 ≤ sizeLine; decide), fun t2 nt2 => ?_⟩⟩
        have I2 := (I1.new (o := .tup [V.str sd]) nr).new (o := .tup [V.ref r, V.int 0]) nt2
        refine ⟨hh, _, _, rfl, rfl, I2.hhh, sz, ?_⟩
        have hsd2 : sd = "in" ∨ sd = "out" := by
          rcases hall sd (List.mem_of_getElem? ei) with y | y | y
          · exact .inl y
          · exact .inr y
          · exact absurd y e
        have hn : needs sd = (if sd = "in" then 0 else 1) := by
          rcases hsd2 with y | y <;> rw [y] <;> decide +kernel
        have hx : HandAt (upd (upd (upd H2 t (.tup [V.int ((i : Nat) : Int), V.str sd])) r (.tup [V.str sd])) t2 (.tup [V.ref r, V.int 0])) (V.ref t2) ⟨sd, none, 0⟩ := ⟨t2, r, rfl, upd_same, same_new nt2 _ _ upd_same⟩
        have I3 := I2.step (h := ⟨sd, none, 0⟩) hx ⟨.inr ⟨hsd2, rfl⟩, (show (0 : Int) ≤ 0 by decide), (show (0 : Int) ≤ 30 by decide)⟩ (by show 0 ≤ needs sd; rw [hn]; split <;> decide) (by
          show needs sd + _ ≤ left
          rw [hn]
          rw [hc1] at hl
          by_cases y : sd = "in"
          · rw [if_pos y] at hl ⊢; omega
          · rw [if_neg y] at hl ⊢; omega) ei (fun y => absurd y e)
        refine ⟨_, rfl, _, rfl, 1, rfl, hh, _, -1, _, rfl, rfl, SqL.of I3.hhh, atI_last _ _, t2, _, _, _, rfl, rfl, SqT.of (TK.lst I2.hhh _ _ upd_same), atI_nat (j := 0) rfl, r, sd, _, rfl, SqT.of (TK.lst I2.hhh _ _ (same_new nt2 _ _ upd_same)), fun H12 s12 => ⟨_, _, rfl, rfl, ?_⟩⟩
        exact ⟨_, _, _, _, _, _, _, _, rfl, I3.same s12⟩
    · rintro σ H2 ⟨vs, hs, left, v5, v6, v7, v8, v9, rfl, I⟩
      refine ⟨_, rfl, ?_⟩
      rw [eD]
      refine q hh vs hs H2 I.n5 I.hhh I.al ⟨by rw [I.len]; exact hlen, I.good, ?_, I.nz, I.one (by rw [List.take_length]; exact hhand)⟩ I.fl I.bt
      have := I.sum
      have := I.lf
      omega
  obtain ⟨x, ex⟩ : ∃ x : Int, (if decide (m < 7) = true then (1 : Int) else 0) = x := ⟨_, rfl⟩
  have xb : x = 0 ∨ (x = 1 ∧ m < 7) := by
    by_cases h7 : m < 7
    · rw [decide_eq_true h7] at ex
      exact .inr ⟨ex.symm, h7⟩
    · rw [decide_eq_false h7] at ex
      exact .inl ex.symm
  have lx : (3 + x).natAbs.log2 < 9000 := by
    rcases xb with rfl | ⟨rfl, _⟩ <;> decide +kernel
  refine ⟨_, rfl, _, _, rfl, rfl, .inr ⟨_, rfl, 3, x, rfl, congrArg V.int ex, ?_⟩⟩
  refine ⟨(by show 1 ≤ sizeLine; decide), fun l1 nl1 => ?_⟩
  refine ⟨_, rfl, _, rfl, f, c, 3 + x, rfl, by omega, lx, hF.new nl1, fun v1 H1 a1 b1 F1 B1 => ?_⟩
  have g1 := B1 _ _ upd_same (hF.ne nl1)
  have small : ∀ v : Int, 0 ≤ v → v ≤ 8 → [V.str "in"].length * v.toNat ≤ sizeLine := fun v v0 v8 => little (by show 1 * v.toNat ≤ 1000; omega)
  refine ⟨l1, v1, _, rfl, rfl, g1, by omega, by omega, small v1 a1 (by omega), fun p1 np1 => ?_⟩
  rw [flat_rep]
  have F2 := F1.new (o := .lst (List.replicate v1.toNat (V.str "in"))) np1
  refine ⟨(by show 1 ≤ sizeLine; decide), fun l2 nl2 => ?_⟩
  refine ⟨_, rfl, _, rfl, f, c, 3 + x, rfl, by omega, lx, F2.new nl2, fun v2 H3 a2 b2 F3 B3 => ?_⟩
  have g2 := B3 _ _ upd_same (F2.ne nl2)
  have h1 := B3 _ _ (same_new nl2 _ _ upd_same) (F1.ne np1)
  refine ⟨l2, v2, _, rfl, rfl, g2, by omega, by omega, small v2 a2 (by omega), fun p2 np2 => ?_⟩
  rw [flat_rep]
  have F4 := F3.new (o := .lst (List.replicate v2.toNat (V.str "out"))) np2
  refine ⟨p1, p2, _, _, rfl, rfl, same_new np2 _ _ h1, upd_same, ?_, fun p3 np3 => ?_⟩
  · rw [List.length_replicate, List.length_replicate]; exact little (by omega)
  have F5 := F4.new (o := .lst (List.replicate v1.toNat (V.str "in") ++ List.replicate v2.toNat (V.str "out"))) np3
  refine ⟨(by show 1 ≤ sizeLine; decide), fun l4 nl4 => ⟨_, rfl, l4, m, _, rfl, rfl, upd_same, by omega, by omega, small m (by omega) m8, fun p5 np5 => ?_⟩⟩
  rw [flat_rep]
  have F6 := F5.new (o := .lst [V.str "hand"]) nl4
  have F7 := F6.new (o := .lst (List.replicate m.toNat (V.str "hand"))) np5
  refine ⟨p3, p5, _, _, rfl, rfl, same_new np5 _ _ (same_new nl4 _ _ upd_same), upd_same, ?_, fun p6 np6 => ?_⟩
  · rw [List.length_append, List.length_replicate, List.length_replicate, List.length_replicate]; exact little (by omega)
  refine ⟨_, rfl, _, rfl, f, c, p6, _, rfl, SqL.of upd_same, F7.ne np6, ?_, F7.new np6, fun p ys H8 hp np hy F8 B8 => ?_⟩
  · rw [List.length_append, List.length_append, List.length_replicate, List.length_replicate, List.length_replicate]; omega
  have ez : (List.replicate v1.toNat (V.str "in") ++ List.replicate v2.toNat (V.str "out")) ++ List.replicate m.toNat (V.str "hand") = ((List.replicate v1.toNat ("in" : Str) ++ List.replicate v2.toNat ("out" : Str)) ++ List.replicate m.toNat ("hand" : Str)).map V.str := by
    rw [List.map_append, List.map_append, List.map_replicate, List.map_replicate, List.map_replicate]
  rw [ez] at hp
  obtain ⟨ss, rfl, hss⟩ := perm_strs hp
  have pf : p ≠ f := fun y => by
    rw [y] at np
    obtain ⟨_, _, _, _, _, e1, _⟩ := F7.new (o := .lst ((List.replicate v1.toNat (V.str "in") ++ List.replicate v2.toNat (V.str "out")) ++ List.replicate m.toNat (V.str "hand"))) np6
    rw [e1] at np
    cases np
  refine ⟨rfl, x, p, ss, rfl, hy, pf, ?_, ?_, ?_, F8, But.trans ((((((((((But.refl.new nl1).trans B1).new np1).new nl2).trans B3).new np2).new np3).new nl4).new np5).new np6) B8⟩
  · rw [hss.length_eq, List.length_append, List.length_append, List.length_replicate, List.length_replicate, List.length_replicate]; omega
  · refine hss.mem_iff.mpr (List.mem_append_right _ (List.mem_replicate.mpr ⟨by omega, rfl⟩))
  · intro s hs
    rcases List.mem_append.mp (hss.mem_iff.mp hs) with hs | hs
    · rcases List.mem_append.mp hs with hs | hs
      · exact .inl (List.mem_replicate.mp hs).2
      · exact .inr (.inl (List.mem_replicate.mp hs).2)
    · exact .inr (.inr (List.mem_replicate.mp hs).2)
end
/-! ### rules as data -/
abbrev ruleD (h : HR) : List PyData := .str h.wd :: (match h.no with | none => [] | some n => [.int n])
theorem rule_dp {K : PySem.W.Frag} {H : Hp} {r : Addr} {h : HR} (e : H r = some (.tup (ruleL h))) : Dp K H (.ref r) (.tuple (ruleD h)) := by
  obtain ⟨wd, no, mom⟩ := h
  cases no with
  | none => exact .tup (SqT.of e) (.cons (.str _) .nil)
  | some n => exact .tup (SqT.of e) (.cons (.str _) (.cons (.int _) .nil))
theorem rule_shaped {h : HR} (k : PyData.canLay0 (.str h.wd) = true) : SeqAt.shaped (.tuple (ruleD h)) = true := by
  obtain ⟨wd, no, mom⟩ := h
  have k : PyData.canLay0 (.str wd) = true := k
  cases no <;> simp [SeqAt.shaped, PyData.canLay0, PyData.canLayAll0, PyData.depth, PyData.depthAll] <;> simpa [PyData.canLay0] using k
theorem GoodHand.lay {h : HR} (g : GoodHand h) : PyData.canLay0 (.str h.wd) = true := by
  have : h.wd ∈ nine ∨ h.wd = "in" ∨ h.wd = "out" := g.1.elim (fun k => .inl k.wd) (fun k => .inr k.1)
  rcases this with k | k | k
  · unfold nine at k
    simp only [List.mem_cons, List.not_mem_nil, or_false] at k
    rcases k with k | k | k | k | k | k | k | k | k <;> rw [k] <;> decide +kernel
  · rw [k]; decide +kernel
  · rw [k]; decide +kernel
theorem one_shaped {z : Str} (k : PyData.canLay0 (.str z) = true) : SeqAt.shaped (.tuple [.str z]) = true := rule_shaped (h := ⟨z, none, 0⟩) k
theorem at0 {xs : List V} {i : Nat} {v : V} (h : xs[i]? = some v) : atI xs (0 + ((i : Nat) : Int)) = some v := by
  rw [Int.zero_add]
  exact atI_nat h
theorem rule_eqv (h : HR) (z : Str) : PyData.eqv (.tuple (ruleD h)) (.tuple [.str z]) = (decide (h.wd = z) && h.no.isNone) := by
  obtain ⟨wd, no, mom⟩ := h
  have e : (wd == z) = decide (wd = z) := by
    by_cases k : wd = z
    · rw [k, decide_eq_true rfl]; exact beq_self_eq_true z
    · rw [decide_eq_false k]; exact beq_eq_false_iff_ne.mpr k
  cases no with
  | none =>
    show (wd == z && true) = (decide (wd = z) && true)
    rw [e]
  | some n =>
    show (wd == z && false) = (decide (wd = z) && false)
    rw [Bool.and_false, Bool.and_false]
theorem GoodHand.door {h : HR} (g : GoodHand h) (z : Str) (hz : z = "in" ∨ z = "out") : (decide (h.wd = z) && h.no.isNone) = decide (h.wd = z) := by
  by_cases k : h.wd = z
  · rw [decide_eq_true k, Bool.true_and]
    rcases g.1 with g | g
    · have := g.wd
      rw [k] at this
      rcases hz with rfl | rfl <;> exact absurd this (by decide +kernel)
    · rw [g.2]; rfl
  · rw [decide_eq_false k]; rfl
/-! ### numbers in lists -/
abbrev nV (n : Nat) : V := .int (n : Nat)
def unN : V → Nat
  | .int i => i.toNat
  | _ => 0
def unI : V → Int
  | .int i => i
  | _ => 0
theorem perm_inv {α : Type} {f : α → V} {g : V → α} (k : ∀ a, g (f a) = a) {ys : List V} {zs : List α} (h : ys.Perm (zs.map f)) : ∃ ss : List α, ys = ss.map f ∧ ss.Perm zs := by
  refine ⟨ys.map g, ?_, ?_⟩
  · rw [List.map_map]
    symm
    refine (List.map_congr_left (g := id) fun y hy => ?_).trans (List.map_id _)
    obtain ⟨z, _, e⟩ := List.mem_map.mp (h.mem_iff.mp hy)
    subst e
    show f (g (f z)) = f z
    rw [k]
  · have q := h.map g
    rw [List.map_map] at q
    have e : zs.map (g ∘ f) = zs := (List.map_congr_left (g := id) fun z _ => k z).trans (List.map_id _)
    rw [e] at q
    exact q
def nd (hs : List HR) (j : Nat) : Nat := match hs[j]? with | some h => (needs h.wd).toNat | none => 0
def tkTo (hs : List HR) : Nat → List Nat
  | 0 => []
  | n + 1 => tkTo hs n ++ List.replicate (nd hs n) n
theorem tk_count (hs : List HR) (k : Nat) : ∀ n, (tkTo hs n).count k = if k < n then nd hs k else 0
  | 0 => by simp [tkTo]
  | n + 1 => by
    unfold tkTo
    rw [List.count_append, tk_count hs k n, List.count_replicate]
    by_cases h1 : k < n
    · have h2 : ¬ (n == k) = true := by simp; omega
      rw [if_pos h1, if_neg h2, if_pos (show k < n + 1 by omega), Nat.add_zero]
    · by_cases h2 : n = k
      · subst h2
        rw [if_neg h1, if_pos (beq_self_eq_true n), if_pos (show n < n + 1 by omega), Nat.zero_add]
      · have h3 : ¬ (n == k) = true := by simpa using h2
        rw [if_neg h1, if_neg h3, if_neg (show ¬ k < n + 1 by omega)]
theorem tk_mem (hs : List HR) : ∀ n k, k ∈ tkTo hs n → k < n
  | 0, k, h => nomatch h
  | n + 1, k, h => by
    rcases List.mem_append.mp h with h | h
    · exact Nat.lt_succ_of_lt (tk_mem hs n k h)
    · rw [(List.mem_replicate.mp h).2]; exact Nat.lt_succ_self n
theorem tk_len (hs : List HR) (z : ∀ h ∈ hs, 0 ≤ needs h.wd) : ∀ n, n ≤ hs.length → ((tkTo hs n).length : Int) = ((hs.take n).map fun h => needs h.wd).sum
  | 0, _ => rfl
  | n + 1, hn => by
    have e : hs[n]? = some hs[n] := List.getElem?_eq_getElem (by omega)
    unfold tkTo
    rw [List.length_append, List.length_replicate, List.take_add_one, e, List.map_append, List.sum_append, Int.natCast_add, tk_len hs z n (by omega)]
    unfold nd
    rw [e]
    have := z hs[n] (List.getElem_mem _)
    simp only [Option.toList, List.map_cons, List.map_nil, List.sum_cons, List.sum_nil]
    omega
structure RoomOk (hs : List HR) (bs : List BR) : Prop where
  hands : hs.length ≤ 12
  good : ∀ h ∈ hs, GoodHand h
  ends : ∀ b ∈ bs, b.one < hs.length ∧ b.to < hs.length
  out : ∀ b ∈ bs, ∀ h, hs[b.one]? = some h → h.wd ≠ "out"
  th : ∀ b ∈ bs, b.th.length ≤ 300 ∧ True
  rank : ∃ rk : Nat → Int, ∀ b ∈ bs, b.th = [] → rk b.one < rk b.to
  count : ∀ k h, hs[k]? = some h → (((bs.map BR.to).count k : Nat) : Int) = needs h.wd
  many : bs.length ≤ 20
structure RoomAt (H : Hp) (r : Addr) (hs : List HR) (bs : List BR) : Prop where
  ex : ∃ (ha ba : Addr) (hv bv : List V), H r = some (.tup [.ref ha, .ref ba]) ∧ H ha = some (.tup hv) ∧ H ba = some (.tup bv) ∧ All2 (HandAt H) hv hs ∧ All2 (BeltAt H) bv bs
theorem RoomAt.keep {H H' : Hp} {r : Addr} {hs : List HR} {bs : List BR} (a : RoomAt H r hs bs) (k : TK H H') : RoomAt H' r hs bs := by
  obtain ⟨ha, ba, hv, bv, e1, e2, e3, a1, a2⟩ := a.ex
  exact ⟨ha, ba, hv, bv, k _ _ e1, k _ _ e2, k _ _ e3, a1.imp fun _ _ z => z.keep k, a2.imp fun _ _ z => z.keep k⟩
section
variable {P : Program} {w : World} {K : PySem.W.Frag} {mg : Str → Option Value} {base : Heap}
def sp_law_room (K : PySem.W.Frag) : Sp := fun vs H Q _ => ∃ (f c : Addr) (m : Int), vs = [.ref f, .int m] ∧ 1 ≤ m ∧ m ≤ 8 ∧ Flow H f c ∧
  ∀ (r : Addr) (hs : List HR) (bs : List BR) (H' : Hp), RoomAt H' r hs bs → RoomOk hs bs → (∃ h ∈ hs, h.wd ≠ "out" ∧ h.wd ≠ "in") → (∀ b ∈ bs, b.th.length ≤ 6) → Flow H' f c → But f H H' → Q (.ref r) H'
/-- what stands while a room is drawn: the draws, the list of its hands -/
structure RI (f c hh : Addr) (H0 H : Hp) (xs : List V) (hs : List HR) : Prop where
  fl : Flow H f c
  bt : But f H0 H
  lh : H hh = some (.lst xs)
  al : All2 (HandAt H) xs hs
  n1 : hh ≠ f
  n2 : H0 hh = none
section
variable {f c hh : Addr} {H0 H H' : Hp} {xs : List V} {hs : List HR}
theorem RI.but (s : RI f c hh H0 H xs hs) (F : Flow H' f c) (b : But f H H') : RI f c hh H0 H' xs hs :=
  { s with fl := F, bt := s.bt.trans b, lh := b _ _ s.lh s.n1, al := s.al.imp fun _ _ k => k.keep (TK.but s.fl b) }
theorem RI.new {p : Addr} {o : HO} (s : RI f c hh H0 H xs hs) (n : H p = none) : RI f c hh H0 (upd H p o) xs hs :=
  { s with fl := s.fl.new n, bt := s.bt.new n, lh := same_new n _ _ s.lh, al := s.al.imp fun _ _ k => k.keep (TK.new n) }
theorem RI.same (s : RI f c hh H0 H xs hs) (k : Same H H') : RI f c hh H0 H' xs hs :=
  { s with fl := s.fl.same k, bt := s.bt.same k, lh := k _ _ s.lh, al := s.al.imp fun _ _ z => z.keep (TK.same k) }
theorem RI.lst {D : Addr} {as bs : List V} (s : RI f c hh H0 H xs hs) (h : H D = some (.lst as)) (d1 : D ≠ f) (d2 : D ≠ c) (d3 : D ≠ hh) (d4 : H0 D = none) : RI f c hh H0 (upd H D (.lst bs)) xs hs :=
  { s with fl := s.fl.lst d1 d2, bt := s.bt.own d4, lh := by rw [upd_ne d3.symm]; exact s.lh, al := s.al.imp fun _ _ z => z.keep (TK.lst h) }
end
theorem ok_law_room {f : Addr} {fd : FuncData} (F : Fun K "_law_room" "_law_room" s_law_room f fd) (T : Top K mg) : FnOk P w K mg base CX0 5 f fd ["_law_flow_here", "_law_most"] (sp_law_room K) := by
  obtain ⟨f_law_hands, fd_law_hands, F_law_hands, b_law_hands, m_law_hands⟩ := T.d_law_hands
  have G_law_hands := ok_law_hands (P := P) (w := w) (base := base) F_law_hands T
  obtain ⟨f_law_shuffled, fd_law_shuffled, F_law_shuffled, b_law_shuffled, m_law_shuffled⟩ := T.d_law_shuffled
  have G_law_shuffled := ok_law_shuffled (P := P) (w := w) (base := base) F_law_shuffled T
  obtain ⟨f_law_pick, fd_law_pick, F_law_pick, b_law_pick, m_law_pick⟩ := T.d_law_pick
  have G_law_pick := ok_law_pick (P := P) (w := w) (base := base) F_law_pick T
  obtain ⟨f_law_needs, fd_law_needs, F_law_needs, b_law_needs, m_law_needs⟩ := T.d_law_needs
  have G_law_needs := ok_law_needs (P := P) (w := w) (base := base) F_law_needs T
  obtain ⟨f_law_thing, fd_law_thing, F_law_thing, b_law_thing, m_law_thing⟩ := T.d_law_thing
  have G_law_thing := ok_law_thing (P := P) (w := w) (base := base) F_law_thing T
  refine F.ok sc_law_room (fun vs H Q E h => ?_) (fun cdv A outer s H vs Q E hr h => ?_)
  · obtain ⟨f, c, m, rfl, _⟩ := h
    rfl
  obtain ⟨f, c, m, rfl, m1, m8, hF, q⟩ := h
  have hm9 : m.natAbs.log2 < 9000 := by
    obtain ⟨j, rfl⟩ : ∃ j : Nat, m = (j : Int) := ⟨m.toNat, by omega⟩
    exact log_small (by omega)
  let R1 : TS := fun D' σ' H' => D'.rt = Q ∧ ∃ (hh rk gv : Addr) (xs : List V) (hs : List HR) (is : List Int) (gs : List Nat), σ' = [some (.ref f), some (.int m), some (.ref hh), some (.ref rk), some (.ref gv), none, none, none, none, none, none] ∧ RI f c hh H H' xs hs ∧ HandsOk hs ∧ H' rk = some (.lst (is.map V.int)) ∧ is.length = hs.length ∧ H' gv = some (.lst (gs.map nV)) ∧ gs ≠ [] ∧ gs.length ≤ 12 ∧ (∀ k ∈ gs, ∃ h, hs[k]? = some h ∧ h.wd ≠ "out") ∧ rk ≠ f ∧ gv ≠ f
  let R2 : TS := fun D' σ' H' => D'.rt = Q ∧ ∃ (hh rk gv tk : Addr) (xs : List V) (hs : List HR) (is : List Int) (gs ts : List Nat) (v5 : Option V), σ' = [some (.ref f), some (.int m), some (.ref hh), some (.ref rk), some (.ref gv), v5, some (.ref tk), none, none, none, none] ∧ RI f c hh H H' xs hs ∧ HandsOk hs ∧ H' rk = some (.lst (is.map V.int)) ∧ is.length = hs.length ∧ H' gv = some (.lst (gs.map nV)) ∧ gs ≠ [] ∧ gs.length ≤ 12 ∧ (∀ k ∈ gs, ∃ h, hs[k]? = some h ∧ h.wd ≠ "out") ∧ rk ≠ f ∧ gv ≠ f ∧ tk ≠ f ∧ H' tk = some (.lst (ts.map nV)) ∧ ts = tkTo hs hs.length
  refine ⟨_, (pss_cons (ps_set (i := 2) sc_law_room.nd rfl (Or.inr rfl) (pe_call G_law_hands (hr.mono (by decide)) (by rfl) m_law_hands F_law_hands.kp b_law_hands .nil pass0 (pa_cons (pv 0) (pa_cons (pe_op op_add pe_int (pe_call G_law_pick (hr.mono (by decide)) (by rfl) m_law_pick F_law_pick.kp b_law_pick .nil pass0 (pa_cons (pv 0) (pa_cons (pv 1) pa_nil)))) pa_nil))))
      (pss_cons (ps_set (i := 3) sc_law_room.nd rfl (Or.inl rfl) (pe_call G_law_shuffled (hr.mono (by decide)) (by rfl) m_law_shuffled F_law_shuffled.kp b_law_shuffled .nil pass0 (pa_cons (pv 0) (pa_cons (pe_listRg rfl (by rfl) T.m_list (prg_1 (by rfl) T.m_range (pe_callB (call_len_seqK K rfl) (by rfl) T.m_len (by decide +kernel) (pa_cons (pv 2) pa_nil)))) pa_nil))))
      (pss_cons (ps_setLc (i := 4) (own := [("_law_k", 5)]) (g := gName 5) (by rfl) sc_law_room.nd rfl rfl (sw_true rfl rfl rfl (by decide +kernel)) (pi_range1 (by rfl) T.m_range (pa_cons (pe_callB (call_len_seqK K rfl) (by rfl) T.m_len (by decide +kernel) (pa_cons (pv 2) pa_nil)) pa_nil)) (blkOk_by (own := [("_law_k", 5)]) (N := N_law_room) (sc := defScope s_law_room) (by decide +kernel)) (fun _ _ _ _ _ => (pg_name (i := 5) sc_law_room.nd rfl (Or.inl rfl))) (fun _ _ _ _ _ => pts_one (pt_cmpR (op_neDK K rfl hr.units) (pe_ix (ix_tupK K rfl) (pe_ix (ix_listK K rfl) (pv 2) (pv 5) (fun _ _ => rfl)) pe_int (fun _ _ => rfl)) (pe_tup (pa_cons pe_str pa_nil)) (nomark _))) (fun _ _ _ _ _ => (pv 5)))
      (PSs.to (pss_cons (ps_set (i := 6) sc_law_room.nd rfl (Or.inl rfl) (pe_lst pa_nil))
      (pss_cons (ps_for PassesOwn.never rfl (pi_range1 (by rfl) T.m_range (pa_cons (pe_callB (call_len_seqK K rfl) (by rfl) T.m_len (by decide +kernel) (pa_cons (pv 2) pa_nil)) pa_nil)) (pg_name (i := 5) sc_law_room.nd rfl (Or.inl rfl))
        (pss_one (ps_set (i := 6) sc_law_room.nd rfl (Or.inl rfl) (pe_op op_cat (pv 6) (pe_op op_rep (pe_lst (pa_cons (pv 5) pa_nil)) (pe_call G_law_needs (hr.mono (by decide)) (by rfl) m_law_needs F_law_needs.kp b_law_needs .nil pass0 (pa_cons (pe_ix (ix_tupK K rfl) (pe_ix (ix_listK K rfl) (pv 2) (pv 5) (fun _ _ => rfl)) pe_int (fun _ _ => rfl)) pa_nil)))))))
      (PSs.to (pss_cons (ps_set (i := 7) sc_law_room.nd rfl (Or.inl rfl) (pe_lst pa_nil))
      (pss_cons (ps_for PassesOwn.never rfl (pi_listK K rfl (pe_call G_law_shuffled (hr.mono (by decide)) (by rfl) m_law_shuffled F_law_shuffled.kp b_law_shuffled .nil pass0 (pa_cons (pv 0) (pa_cons (pv 6) pa_nil)))) (pg_name (i := 8) sc_law_room.nd rfl (Or.inl rfl))
        (pss_cons (ps_set (i := 9) sc_law_room.nd rfl (Or.inl rfl) (pe_ix (ix_listK K rfl) (pv 4) (pe_call G_law_pick (hr.mono (by decide)) (by rfl) m_law_pick F_law_pick.kp b_law_pick .nil pass0 (pa_cons (pv 0) (pa_cons (pe_callB (call_len_seqK K rfl) (by rfl) T.m_len (by decide +kernel) (pa_cons (pv 4) pa_nil)) pa_nil))) (fun _ _ => rfl)))
      (pss_cons (ps_set (i := 10) sc_law_room.nd rfl (Or.inl rfl) (pe_ix (ix_listK K rfl) (pe_lst (pa_cons pe_int (pa_cons pe_int (pa_cons pe_int (pa_cons pe_int (pa_cons pe_int (pa_cons pe_int (pa_cons pe_int (pa_cons pe_int pa_nil))))))))) (pe_call G_law_pick (hr.mono (by decide)) (by rfl) m_law_pick F_law_pick.kp b_law_pick .nil pass0 (pa_cons (pv 0) (pa_cons pe_int pa_nil))) (fun _ _ => rfl)))
      (pss_cons (ps_if (pt_cmpR op_ge (pe_ix (ix_listK K rfl) (pv 3) (pv 9) (fun _ _ => rfl)) (pe_ix (ix_listK K rfl) (pv 3) (pv 8) (fun _ _ => rfl)) (nomark _)) (pss_one (ps_set (i := 10) sc_law_room.nd rfl (Or.inl rfl) (pe_callB (call_max2 rfl) (by rfl) T.m_max (by decide +kernel) (pa_cons pe_int (pa_cons (pv 10) pa_nil))))) pss_nil)
      (pss_one (ps_expr (pe_bmK K rfl PySem.F.plainAttrs_list PySem.F.slot_list_append PySem.F.type_list_append mt_append (pv 7) (pa_cons (pe_tup (pa_cons (pv 9) (pa_cons (pv 8) (pa_cons (pe_callTy (call_tuple_ofK K rfl) (by rfl) T.m_tuple (by decide +kernel) (pa_cons (pe_lc (own := [("_law_k", 5)]) (g := gName 5) (tt := tYes) (by rfl) sc_law_room.nd (pi_range1 (by rfl) T.m_range (pa_cons (pv 10) pa_nil)) (blkOk_by (own := [("_law_k", 5)]) (N := N_law_room) (sc := defScope s_law_room) (by decide +kernel)) (fun _ _ _ _ _ => (pg_name (i := 5) sc_law_room.nd rfl (Or.inl rfl))) (fun _ _ _ _ _ => pts_nil) (fun _ _ _ _ _ => (pe_call G_law_thing (hr.mono (by decide)) (by rfl) m_law_thing F_law_thing.kp b_law_thing .nil pass0 (pa_cons (pv 0) pa_nil)))) pa_nil)) pa_nil)))) pa_nil))))))))
      (pss_one (ps_ret (pe_tup (pa_cons (pe_callTy (call_tuple_ofK K rfl) (by rfl) T.m_tuple (by decide +kernel) (pa_cons (pv 2) pa_nil)) (pa_cons (pe_callTy (call_tuple_ofK K rfl) (by rfl) T.m_tuple (by decide +kernel) (pa_cons (pv 7) pa_nil)) pa_nil))))))) R2 ?tail2))) R1 ?tail1)))), ?_⟩
  case tail2 =>
    rintro D' σ' H1 ⟨eD, hh, rk, gv, tk, xs, hs, is, gs, ts, v5, rfl, I1, ok, hrk, lis, hgv, gne, glen, gok, nrk, ngv, ntk, htk, ets⟩
    have hx : xs.length = hs.length := I1.al.length
    have len12 := ok.len
    have lts : ts.length ≤ 20 := by
      have a := tk_len hs ok.nz hs.length (Nat.le_refl _)
      rw [List.take_length, ← ets] at a
      have := ok.sum
      omega
    refine ⟨(by show 0 ≤ sizeLine; decide), fun bl nbl => ?_⟩
    have I2 := I1.new (o := .lst []) nbl
    refine ⟨_, rfl, _, rfl, f, c, tk, _, rfl, SqL.of (same_new nbl _ _ htk), ntk, by rw [List.length_map]; omega, I2.fl, fun sh ys H3 hp nsh hsh F3 B3 => ?_⟩
    obtain ⟨tt, rfl, htt⟩ := perm_inv (f := nV) (g := unN) (fun n => by show ((n : Nat) : Int).toNat = n; omega) hp
    have I3 := I2.but F3 B3
    have bf : bl ≠ f := I1.fl.ne nbl
    have bc : bl ≠ c := I1.fl.nec nbl
    have hbl3 := B3 _ _ upd_same bf
    have bsh : bl ≠ sh := fun e => by rw [← e, upd_same] at nsh; cases nsh
    have bnone : H bl = Option.none := I1.bt.none nbl bf
    have rank : Nat → Int := fun k => is.getD k 0
    refine ⟨sh, rfl, ⟨_, SqL.of hsh⟩, for_list (K := K) (a := sh) (xs := tt.map nV) (fun i σ H4 => ∃ (bv : List V) (bs : List BR) (v5 v8 v9 v10 : Option V), σ = [some (.ref f), some (.int m), some (.ref hh), some (.ref rk), some (.ref gv), v5, some (.ref tk), some (.ref bl), v8, v9, v10] ∧ RI f c hh H H4 xs hs ∧ H4 rk = some (.lst (is.map V.int)) ∧ H4 gv = some (.lst (gs.map nV)) ∧ H4 sh = some (.lst (tt.map nV)) ∧ H4 bl = some (.lst bv) ∧ All2 (BeltAt H4) bv bs ∧ bs.map BR.to = tt.take i ∧
        (∀ b ∈ bs, b.one < hs.length ∧ (∀ h, hs[b.one]? = some h → h.wd ≠ "out") ∧ b.th.length ≤ 6 ∧ (∀ x ∈ b.th, Small x) ∧ (b.th = [] → is.getD b.one 0 < is.getD b.to 0)))
      ⟨[], [], v5, none, none, none, rfl, I3, B3 _ _ (same_new nbl _ _ hrk) nrk, B3 _ _ (same_new nbl _ _ hgv) ngv, hsh, hbl3, .nil, rfl, (fun _ h => nomatch h)⟩ (fun i σ H4 _ ⟨_, _, _, _, _, _, _, _, _, _, h, _⟩ => SqL.of h) ?_ ?_⟩
    · rintro i y σ H4 hi ⟨bv, bs, v5, v8, v9, v10, rfl, I4, hrk4, hgv4, hsh4, hbl4, al, em, hb⟩
      rw [List.getElem?_map] at hi
      cases et : tt[i]? with
      | none => rw [et] at hi; cases hi
      | some to =>
      rw [et] at hi
      obtain rfl : nV to = y := Option.some.inj hi
      have toL : to < hs.length := tk_mem hs _ _ (by rw [← ets]; exact htt.mem_iff.mp (List.mem_of_getElem? et))
      have il : i < 20 := by have := (List.getElem?_eq_some_iff.mp et).1; rw [htt.length_eq] at this; omega
      have lb : bs.length = i := by
        have := congrArg List.length em
        rw [List.length_map, List.length_take, Nat.min_eq_left (Nat.le_of_lt (List.getElem?_eq_some_iff.mp et).1)] at this
        exact this
      have g0 : 0 < gs.length := List.length_pos_iff.mpr gne
      refine ⟨_, rfl, _, rfl, _, rfl, gv, _, rfl, .inl (SqL.of hgv4), f, c, _, rfl, (by rw [List.length_map]; omega), (by rw [List.length_map]; exact log_small (by omega)), I4.fl, fun z H5 z0 z1 F5 B5 => ?_⟩
      rw [List.length_map] at z1
      have I5 := I4.but F5 B5
      have hgv5 := B5 _ _ hgv4 ngv
      obtain ⟨one, eo, ho⟩ : ∃ one, atI (gs.map nV) z = some (nV one) ∧ one ∈ gs := by
        have hk : z.toNat < gs.length := by omega
        have ek : z = ((z.toNat : Nat) : Int) := by omega
        refine ⟨gs[z.toNat], ?_, List.getElem_mem _⟩
        have q2 : atI (gs.map nV) ((z.toNat : Nat) : Int) = some (nV gs[z.toNat]) := atI_nat (by rw [List.getElem?_map, List.getElem?_eq_getElem hk]; rfl)
        rw [← ek] at q2
        exact q2
      obtain ⟨ho1, eh1, hout⟩ := gok one ho
      have oneL : one < hs.length := (List.getElem?_eq_some_iff.mp eh1).1
      refine ⟨gv, _, _, _, rfl, rfl, SqL.of hgv5, eo, ?_⟩
      refine ⟨(by show 8 ≤ sizeLine; decide), fun tl ntl => ?_⟩
      have I6 := I5.new (o := .lst [V.int 0, V.int 0, V.int 0, V.int 1, V.int 1, V.int 2, V.int 3, V.int 6]) ntl
      refine ⟨_, rfl, f, c, 8, rfl, by decide, by decide +kernel, I6.fl, fun y2 H7 y0 y8 F7 B7 => ?_⟩
      have I7 := I6.but F7 B7
      have htl := B7 _ _ upd_same (I5.fl.ne ntl)
      obtain ⟨tr, htr, tr0, tr6⟩ : ∃ tr : Int, atI [V.int 0, V.int 0, V.int 0, V.int 1, V.int 1, V.int 2, V.int 3, V.int 6] y2 = some (.int tr) ∧ 0 ≤ tr ∧ tr ≤ 6 := by
        have : y2 = 0 ∨ y2 = 1 ∨ y2 = 2 ∨ y2 = 3 ∨ y2 = 4 ∨ y2 = 5 ∨ y2 = 6 ∨ y2 = 7 := by omega
        rcases this with rfl | rfl | rfl | rfl | rfl | rfl | rfl | rfl
        · exact ⟨0, rfl, by decide, by decide⟩
        · exact ⟨0, rfl, by decide, by decide⟩
        · exact ⟨0, rfl, by decide, by decide⟩
        · exact ⟨1, rfl, by decide, by decide⟩
        · exact ⟨1, rfl, by decide, by decide⟩
        · exact ⟨2, rfl, by decide, by decide⟩
        · exact ⟨3, rfl, by decide, by decide⟩
        · exact ⟨6, rfl, by decide, by decide⟩
      refine ⟨tl, _, _, _, rfl, rfl, SqL.of htl, htr, ?_⟩
      have k7 : But f H4 H7 := (B5.new ntl).trans B7
      have hrk7 := k7 _ _ hrk4 nrk
      have hgv7 := k7 _ _ hgv4 ngv
      have shf : sh ≠ f := fun e => by rw [e] at nsh; obtain ⟨_, _, _, _, _, e1, _⟩ := I2.fl; rw [e1] at nsh; cases nsh
      have hsh7 := k7 _ _ hsh4 shf
      have hbl7 := k7 _ _ hbl4 bf
      have tk7 : TK H4 H7 := (TK.but I4.fl B5).trans ((TK.new ntl).trans (TK.but I6.fl B7))
      have al7 : All2 (BeltAt H7) bv bs := al.imp fun _ _ z => z.keep tk7
      have r1 : (is.map V.int)[one]? = some (.int (is.getD one 0)) := by
        rw [List.getElem?_map, List.getD_eq_getElem?_getD, List.getElem?_eq_getElem (by omega)]; rfl
      have r2 : (is.map V.int)[to]? = some (.int (is.getD to 0)) := by
        rw [List.getElem?_map, List.getD_eq_getElem?_getD, List.getElem?_eq_getElem (by omega)]; rfl
      have bvl : bv.length = i := by rw [al.length, lb]
      -- the end of a turn, with so many trays
      refine ⟨_, rfl, _, rfl, rk, _, _, _, rfl, rfl, SqL.of hrk7, atI_nat r1, _, rfl, _, rfl, rk, _, _, _, rfl, rfl, SqL.of hrk7, atI_nat r2, _, _, rfl, rfl, _, rfl, if_bl (fun kk => ?_) (fun kk => ?_)⟩
      · refine ⟨_, rfl, _, _, rfl, ?_⟩
        generalize ht : (if tr > 1 then tr else 1) = tn
        have tn0 : 0 ≤ tn := by rw [← ht]; split <;> omega
        have tn6 : tn ≤ 6 := by rw [← ht]; split <;> omega
        have ttt : tn.toNat = 0 → is.getD one 0 < is.getD to 0 := fun e => by
          exfalso
          have : 1 ≤ tn := by rw [← ht]; split <;> omega
          omega
        refine ⟨_, rfl, .inl ⟨rfl, _, SqL.of hbl7⟩, _, rfl, _, rfl, _, rfl, _, rfl, by omega, by omega, fun D nD => lc_range (lo := 0) (n := tn.toNat) (fun j H8 => ∃ vs : List Int, vs.length = j ∧ H8 D = some (.lst (vs.map V.int)) ∧ (∀ x ∈ vs, Small x) ∧ RI f c hh H H8 xs hs ∧ But f H7 H8 ∧ TK H7 H8 ∧ D ≠ f ∧ D ≠ c ∧ D ≠ hh ∧ H D = Option.none ∧ H7 D = Option.none)
          ⟨[], rfl, upd_same, (fun _ h => nomatch h), I7.new nD, But.refl.new nD, TK.new nD, I7.fl.ne nD, I7.fl.nec nD, (ne_of_none I7.lh nD).symm, I7.bt.none nD (I7.fl.ne nD), nD⟩ ?_ ?_⟩
        · rintro j H8 hj ⟨vs, lv, hD, sm, I8, b8, t8, d1, d2, d3, d4, d5⟩
          refine ⟨rfl, yes_in ⟨_, rfl, f, c, rfl, I8.fl, fun x H9 sx F9 B9 => ⟨_, B9 _ _ hD d1, ?_, vs ++ [x], by rw [List.length_append, lv]; rfl, ?_, ?_, (I8.but F9 B9).lst (B9 _ _ hD d1) d1 d2 d3 d4, (b8.trans B9).own d5, (t8.trans (TK.but I8.fl B9)).trans (TK.lst (B9 _ _ hD d1)), d1, d2, d3, d4, d5⟩⟩⟩
          · rw [List.length_map, lv]; exact small1000 (by omega)
          · rw [upd_same, List.map_append]; rfl
          · intro y hy
            rcases List.mem_append.mp hy with hy | hy
            · exact sm y hy
            · obtain rfl : y = x := by simpa using hy
              exact sx
        · rintro H8 ⟨vs, lv, hD, sm, I8, b8, t8, d1, d2, d3, d4, d5⟩
          refine ⟨D, _, rfl, .inl ⟨SqL.of hD, fun g ng => ⟨(by show 3 ≤ sizeLine; decide), fun t nt => ?_⟩⟩⟩
          have I9 := (I8.new (o := .tup (vs.map V.int)) ng).new (o := .tup [nV one, nV to, V.ref g]) nt
          have hbl8 := same_new (o := .tup [nV one, nV to, V.ref g]) nt _ _ (same_new (o := .tup (vs.map V.int)) ng _ _ (b8 _ _ hbl7 bf))
          have t9 : TK H7 (upd (upd H8 g (.tup (vs.map V.int))) t (.tup [nV one, nV to, V.ref g])) := (t8.trans (TK.new ng)).trans (TK.new nt)
          have s9 : ∀ b o, H7 b = some o → b ≠ f → (upd (upd H8 g (.tup (vs.map V.int))) t (.tup [nV one, nV to, V.ref g])) b = some o := fun b o e n => same_new nt _ _ (same_new ng _ _ (b8 _ _ e n))
          have bh : bl ≠ hh := fun e => by
            have h1 := I1.lh
            rw [← e, nbl] at h1
            cases h1
          have brk : bl ≠ rk := fun e => by
            have h1 := hrk
            rw [← e, nbl] at h1
            cases h1
          have bgv : bl ≠ gv := fun e => by
            have h1 := hgv
            rw [← e, nbl] at h1
            cases h1
          refine ⟨bl, _, _, rfl, rfl, hbl8, small1000 (by rw [bvl]; omega), ?_⟩
          refine ⟨bv ++ [V.ref t], bs ++ [⟨one, to, vs⟩], _, _, _, _, rfl, I9.lst hbl8 bf bc bh bnone, ?_, ?_, ?_, upd_same, ?_, ?_, ?_⟩
          · rw [upd_ne brk.symm]; exact s9 _ _ hrk7 nrk
          · rw [upd_ne bgv.symm]; exact s9 _ _ hgv7 ngv
          · rw [upd_ne bsh.symm]; exact s9 _ _ hsh7 shf
          · exact ((al7.imp fun _ _ z => z.keep t9).snoc ⟨t, g, rfl, upd_same, same_new nt _ _ upd_same⟩).imp fun _ _ z => z.keep (TK.lst hbl8)
          · rw [List.map_append, em, List.take_add_one, et]; rfl
          · intro b hb2
            rcases List.mem_append.mp hb2 with hb2 | hb2
            · exact hb b hb2
            · obtain rfl : b = ⟨one, to, vs⟩ := by simpa using hb2
              refine ⟨oneL, fun h e => ?_, by show vs.length ≤ 6; omega, sm, fun e => ?_⟩
              · have e : hs[one]? = some h := e
                rw [eh1] at e
                cases e
                exact hout
              · have e : vs = [] := e
                rw [e] at lv
                exact ttt (by simpa using lv.symm)
      · obtain ⟨tn, ht⟩ : ∃ tn, tn = tr := ⟨_, rfl⟩
        rw [← ht]
        have tn0 : 0 ≤ tn := by omega
        have tn6 : tn ≤ 6 := by omega
        have ttt : tn.toNat = 0 → is.getD one 0 < is.getD to 0 := fun _ => by
          have : ¬ is.getD to 0 ≤ is.getD one 0 := of_decide_eq_false kk
          omega
        refine ⟨_, rfl, .inl ⟨rfl, _, SqL.of hbl7⟩, _, rfl, _, rfl, _, rfl, _, rfl, by omega, by omega, fun D nD => lc_range (lo := 0) (n := tn.toNat) (fun j H8 => ∃ vs : List Int, vs.length = j ∧ H8 D = some (.lst (vs.map V.int)) ∧ (∀ x ∈ vs, Small x) ∧ RI f c hh H H8 xs hs ∧ But f H7 H8 ∧ TK H7 H8 ∧ D ≠ f ∧ D ≠ c ∧ D ≠ hh ∧ H D = Option.none ∧ H7 D = Option.none)
          ⟨[], rfl, upd_same, (fun _ h => nomatch h), I7.new nD, But.refl.new nD, TK.new nD, I7.fl.ne nD, I7.fl.nec nD, (ne_of_none I7.lh nD).symm, I7.bt.none nD (I7.fl.ne nD), nD⟩ ?_ ?_⟩
        · rintro j H8 hj ⟨vs, lv, hD, sm, I8, b8, t8, d1, d2, d3, d4, d5⟩
          refine ⟨rfl, yes_in ⟨_, rfl, f, c, rfl, I8.fl, fun x H9 sx F9 B9 => ⟨_, B9 _ _ hD d1, ?_, vs ++ [x], by rw [List.length_append, lv]; rfl, ?_, ?_, (I8.but F9 B9).lst (B9 _ _ hD d1) d1 d2 d3 d4, (b8.trans B9).own d5, (t8.trans (TK.but I8.fl B9)).trans (TK.lst (B9 _ _ hD d1)), d1, d2, d3, d4, d5⟩⟩⟩
          · rw [List.length_map, lv]; exact small1000 (by omega)
          · rw [upd_same, List.map_append]; rfl
          · intro y hy
            rcases List.mem_append.mp hy with hy | hy
            · exact sm y hy
            · obtain rfl : y = x := by simpa using hy
              exact sx
        · rintro H8 ⟨vs, lv, hD, sm, I8, b8, t8, d1, d2, d3, d4, d5⟩
          refine ⟨D, _, rfl, .inl ⟨SqL.of hD, fun g ng => ⟨(by show 3 ≤ sizeLine; decide), fun t nt => ?_⟩⟩⟩
          have I9 := (I8.new (o := .tup (vs.map V.int)) ng).new (o := .tup [nV one, nV to, V.ref g]) nt
          have hbl8 := same_new (o := .tup [nV one, nV to, V.ref g]) nt _ _ (same_new (o := .tup (vs.map V.int)) ng _ _ (b8 _ _ hbl7 bf))
          have t9 : TK H7 (upd (upd H8 g (.tup (vs.map V.int))) t (.tup [nV one, nV to, V.ref g])) := (t8.trans (TK.new ng)).trans (TK.new nt)
          have s9 : ∀ b o, H7 b = some o → b ≠ f → (upd (upd H8 g (.tup (vs.map V.int))) t (.tup [nV one, nV to, V.ref g])) b = some o := fun b o e n => same_new nt _ _ (same_new ng _ _ (b8 _ _ e n))
          have bh : bl ≠ hh := fun e => by
            have h1 := I1.lh
            rw [← e, nbl] at h1
            cases h1
          have brk : bl ≠ rk := fun e => by
            have h1 := hrk
            rw [← e, nbl] at h1
            cases h1
          have bgv : bl ≠ gv := fun e => by
            have h1 := hgv
            rw [← e, nbl] at h1
            cases h1
          refine ⟨bl, _, _, rfl, rfl, hbl8, small1000 (by rw [bvl]; omega), ?_⟩
          refine ⟨bv ++ [V.ref t], bs ++ [⟨one, to, vs⟩], _, _, _, _, rfl, I9.lst hbl8 bf bc bh bnone, ?_, ?_, ?_, upd_same, ?_, ?_, ?_⟩
          · rw [upd_ne brk.symm]; exact s9 _ _ hrk7 nrk
          · rw [upd_ne bgv.symm]; exact s9 _ _ hgv7 ngv
          · rw [upd_ne bsh.symm]; exact s9 _ _ hsh7 shf
          · exact ((al7.imp fun _ _ z => z.keep t9).snoc ⟨t, g, rfl, upd_same, same_new nt _ _ upd_same⟩).imp fun _ _ z => z.keep (TK.lst hbl8)
          · rw [List.map_append, em, List.take_add_one, et]; rfl
          · intro b hb2
            rcases List.mem_append.mp hb2 with hb2 | hb2
            · exact hb b hb2
            · obtain rfl : b = ⟨one, to, vs⟩ := by simpa using hb2
              refine ⟨oneL, fun h e => ?_, by show vs.length ≤ 6; omega, sm, fun e => ?_⟩
              · have e : hs[one]? = some h := e
                rw [eh1] at e
                cases e
                exact hout
              · have e : vs = [] := e
                rw [e] at lv
                exact ttt (by simpa using lv.symm)
    · rintro σ H4 ⟨bv, bs, v5, v8, v9, v10, rfl, I4, hrk4, hgv4, hsh4, hbl4, al, em, hb⟩
      rw [List.length_map, List.take_length] at em
      have lb : bs.length = ts.length := by
        have := congrArg List.length em
        rw [List.length_map] at this
        rw [this, htt.length_eq]
      refine ⟨_, rfl, hh, _, rfl, .inl ⟨SqL.of I4.lh, fun a1 na1 => ⟨_, rfl, bl, _, rfl, .inl ⟨SqL.of (same_new na1 _ _ hbl4), fun a2 na2 => ⟨(by show 2 ≤ sizeLine; decide), fun a3 na3 => ?_⟩⟩⟩⟩⟩
      rw [eD]
      have k1 : TK H4 (upd (upd (upd H4 a1 (.tup xs)) a2 (.tup bv)) a3 (.tup [V.ref a1, V.ref a2])) := ((TK.new na1).trans (TK.new na2)).trans (TK.new na3)
      refine q a3 hs bs _ ⟨a1, a2, xs, bv, upd_same, same_new na3 _ _ (same_new na2 _ _ upd_same), same_new na3 _ _ upd_same, I4.al.imp fun _ _ z => z.keep k1, al.imp fun _ _ z => z.keep k1⟩ ⟨ok.len, ok.good, fun b hb2 => ⟨(hb b hb2).1, ?_⟩, fun b hb2 => (hb b hb2).2.1, fun b hb2 => ⟨Nat.le_trans (hb b hb2).2.2.1 (by decide), trivial⟩, ⟨fun k => is.getD k 0, fun b hb2 => (hb b hb2).2.2.2.2⟩, fun k h hk => ?_, by omega⟩ ok.one (fun b hb2 => (hb b hb2).2.2.1) (((I4.fl.new na1).new na2).new na3) (((I4.bt.new na1).new na2).new na3)
      · have : b.to ∈ bs.map BR.to := List.mem_map.mpr ⟨b, hb2, rfl⟩
        rw [em] at this
        exact tk_mem hs _ _ (by rw [← ets]; exact htt.mem_iff.mp this)
      · rw [em, htt.count_eq, ets, tk_count, if_pos (List.getElem?_eq_some_iff.mp hk).1]
        unfold nd
        rw [hk]
        have := ok.nz h (List.mem_of_getElem? hk)
        show (((needs h.wd).toNat : Nat) : Int) = needs h.wd
        omega
  case tail1 =>
    rintro D' σ' H1 ⟨eD, hh, rk, gv, xs, hs, is, gs, rfl, I1, ok, hrk, lis, hgv, gne, glen, gok, nrk, ngv⟩
    refine ⟨(by show 0 ≤ sizeLine; decide), fun tk ntk => ?_⟩
    have I2 := I1.new (o := .lst []) ntk
    have hx : xs.length = hs.length := I1.al.length
    refine ⟨_, rfl, hh, _, rfl, .inl (SqL.of I2.lh), _, rfl, by omega, (by rw [hx]; have := ok.len; omega), for_range (lo := 0) (n := xs.length) (fun i σ H2 => ∃ (tk : Addr) (v5 : Option V), σ = [some (.ref f), some (.int m), some (.ref hh), some (.ref rk), some (.ref gv), v5, some (.ref tk), none, none, none, none] ∧ RI f c hh H H2 xs hs ∧ H2 rk = some (.lst (is.map V.int)) ∧ H2 gv = some (.lst (gs.map nV)) ∧ tk ≠ f ∧ H2 tk = some (.lst ((tkTo hs i).map nV)))
      ⟨tk, none, rfl, I2, same_new ntk _ _ hrk, same_new ntk _ _ hgv, I1.fl.ne ntk, upd_same⟩ ?_ ?_⟩
    · rintro i σ H2 hi ⟨tk, v5, rfl, I3, hrk3, hgv3, tf, htk⟩
      have eh : hs[i]? = some hs[i] := List.getElem?_eq_getElem (by omega)
      obtain ⟨x, ex, ⟨t, r, rfl, e1, e2⟩⟩ := I3.al.get eh
      have z0 := ok.nz _ (List.mem_of_getElem? eh)
      have zs : needs hs[i].wd ≤ 3 := by
        unfold needs
        split
        · decide
        · split
          · decide
          · split <;> decide
      have sz : (tkTo hs i).length ≤ 20 := by
        have a := tk_len hs ok.nz i (by omega)
        have b : ((hs.take i).map fun h => needs h.wd).sum ≤ (hs.map fun h => needs h.wd).sum := by
          have e : hs.map (fun h => needs h.wd) = (hs.take i).map (fun h => needs h.wd) ++ (hs.drop i).map (fun h => needs h.wd) := by rw [← List.map_append, List.take_append_drop]
          rw [e, List.sum_append]
          have : 0 ≤ ((hs.drop i).map fun h => needs h.wd).sum := by
            have hz : ∀ h ∈ hs.drop i, 0 ≤ needs h.wd := fun h hh => ok.nz h (List.mem_of_mem_drop hh)
            revert hz
            generalize hs.drop i = l
            intro hz
            induction l with
            | nil => decide
            | cons a l ih =>
              have := hz a (List.mem_cons_self ..)
              have := ih fun h hh => hz h (List.mem_cons_of_mem _ hh)
              rw [List.map_cons, List.sum_cons]
              omega
          omega
        have := ok.sum
        omega
      refine ⟨_, rfl, _, rfl, (by show 1 ≤ sizeLine; decide), fun l1 nl1 => ?_⟩
      have I4 := I3.new (o := .lst [V.int (0 + ((i : Nat) : Int))]) nl1
      refine ⟨_, rfl, _, rfl, hh, _, _, _, rfl, rfl, SqL.of I4.lh, at0 ex, t, _, _, _, rfl, rfl, SqT.of (same_new nl1 _ _ e1), atI_nat (j := 0) rfl, r, hs[i].wd, _, rfl, SqT.of (same_new nl1 _ _ e2), fun H5 s5 => ?_⟩
      have I5 := I4.same s5
      have g1 := s5 _ _ upd_same
      have g2 := s5 _ _ (same_new nl1 _ _ htk)
      refine ⟨l1, _, _, rfl, rfl, g1, by omega, by omega, little (by show 1 * (needs hs[i].wd).toNat ≤ 1000; omega), fun l2 nl2 => ?_⟩
      rw [flat_rep]
      have I6 := I5.new (o := .lst (List.replicate (needs hs[i].wd).toNat (V.int (0 + ((i : Nat) : Int))))) nl2
      refine ⟨tk, l2, _, _, rfl, rfl, same_new nl2 _ _ g2, upd_same, ?_, fun l3 nl3 => ?_⟩
      · rw [List.length_map, List.length_replicate]; exact little (by omega)
      refine ⟨l3, _, rfl, I6.new nl3, same_new nl3 _ _ (same_new nl2 _ _ (s5 _ _ (same_new nl1 _ _ hrk3))), same_new nl3 _ _ (same_new nl2 _ _ (s5 _ _ (same_new nl1 _ _ hgv3))), I6.fl.ne nl3, ?_⟩
      rw [upd_same]
      have e : nd hs i = (needs hs[i].wd).toNat := by unfold nd; rw [eh]
      rw [show tkTo hs (i + 1) = tkTo hs i ++ List.replicate (nd hs i) i from rfl, List.map_append, List.map_replicate, e, Int.zero_add]
    · rintro σ H2 ⟨tk, v5, rfl, I3, hrk3, hgv3, tf, htk⟩
      exact ⟨eD, hh, rk, gv, tk, xs, hs, is, gs, _, v5, rfl, I3, ok, hrk3, lis, hgv3, gne, glen, gok, nrk, ngv, tf, htk, by rw [hx]⟩
  refine ⟨_, rfl, _, rfl, _, rfl, f, c, m, rfl, by omega, hm9, hF, fun v1 H1 a1 b1 F1 B1 => ?_⟩
  refine ⟨_, _, rfl, rfl, f, c, _, rfl, by omega, by omega, F1, fun hh xs hs H2 nhh hhh al ok F2 B2 => ?_⟩
  have hx : xs.length = hs.length := al.length
  have len12 := ok.len
  have nf : hh ≠ f := F1.ne nhh
  have I2 : RI f c hh H H2 xs hs := ⟨F2, B1.trans B2, hhh, al, nf, B1.none nhh nf⟩
  -- ranks
  refine ⟨_, rfl, _, rfl, hh, _, rfl, .inl (SqL.of I2.lh), _, rfl, ⟨by omega, by omega, by omega, by omega, by omega⟩, fun rg nrg => ?_⟩
  have I3 := I2.new (o := .lst (rgV 0 ((xs.length : Nat) : Int))) nrg
  refine ⟨f, c, rg, _, rfl, SqL.of upd_same, I2.fl.ne nrg, ?_, I3.fl, fun rk ys H4 hp nrk hrk F4 B4 => ?_⟩
  · rw [rgV_length]; omega
  have erg : rgV 0 ((xs.length : Nat) : Int) = ((List.range xs.length).map fun i => ((i : Nat) : Int)).map V.int := by
    unfold rgV
    rw [List.map_map, show (((xs.length : Nat) : Int) - 0).toNat = xs.length by omega]
    refine List.map_congr_left fun i _ => ?_
    show V.int (0 + ((i : Nat) : Int)) = V.int ((i : Nat) : Int)
    rw [Int.zero_add]
  rw [erg] at hp
  obtain ⟨is, rfl, his⟩ := perm_inv (f := V.int) (g := unI) (fun _ => rfl) hp
  have lis : is.length = hs.length := by rw [his.length_eq, List.length_map, List.length_range, hx]
  have I4 := I3.but F4 B4
  have rkf : rk ≠ f := I3.fl.ne nrk
  -- givers
  refine ⟨_, rfl, hh, _, rfl, .inl (SqL.of I4.lh), _, rfl, by omega, by omega, fun D nD => lc_range (lo := 0) (n := xs.length) (fun i H5 => ∃ gs : List Nat, H5 D = some (.lst (gs.map nV)) ∧ gs.length ≤ i ∧ RI f c hh H H5 xs hs ∧ H5 rk = some (.lst (is.map V.int)) ∧ (∀ k ∈ gs, ∃ h, hs[k]? = some h ∧ h.wd ≠ "out") ∧ (∀ k h, k < i → hs[k]? = some h → h.wd ≠ "out" → gs ≠ []) ∧ D ≠ f ∧ D ≠ c ∧ D ≠ hh ∧ D ≠ rk ∧ H D = Option.none)
    ⟨[], upd_same, Nat.le_refl _, I4.new nD, same_new nD _ _ hrk, (fun _ h => nomatch h), (fun k h hk => absurd hk (Nat.not_lt_zero _)), I4.fl.ne nD, I4.fl.nec nD, (ne_of_none I4.lh nD).symm, (ne_of_none hrk nD).symm, I4.bt.none nD (I4.fl.ne nD)⟩ ?_ ?_⟩
  · rintro i H5 hi ⟨gs, hD, lg, I5, hrk5, g1, g2, d1, d2, d3, d4, d5⟩
    have eh : hs[i]? = some hs[i] := List.getElem?_eq_getElem (by omega)
    obtain ⟨x, ex, ⟨t, r, rfl, e1, e2⟩⟩ := I5.al.get eh
    have gh := ok.good _ (List.mem_of_getElem? eh)
    refine ⟨rfl, _, rfl, _, rfl, hh, _, _, _, rfl, rfl, SqL.of I5.lh, at0 ex, t, _, _, _, rfl, rfl, SqT.of e1, atI_nat (j := 0) rfl, (by show 1 ≤ sizeLine; decide), fun o1 no1 => ?_⟩
    have I6 := I5.new (o := .tup [V.str "out"]) no1
    have hD6 : (upd H5 o1 (.tup [V.str "out"])) D = some (.lst (gs.map nV)) := same_new no1 _ _ hD
    refine ⟨_, _, rule_dp (same_new no1 _ _ e2), .tup (SqT.of upd_same) (.cons (.str _) .nil), rule_shaped gh.lay, one_shaped (by decide +kernel), _, rfl, ?_⟩
    rw [rule_eqv, gh.door "out" (.inr rfl)]
    by_cases k : hs[i].wd = "out"
    · rw [decide_eq_true k]
      refine if_bl (fun z => absurd z (by decide)) (fun _ => ⟨gs, hD6, by omega, I6, same_new no1 _ _ hrk5, g1, fun k' h' hk hk2 hk3 => ?_, d1, d2, d3, d4, d5⟩)
      by_cases y : k' = i
      · subst y
        rw [eh] at hk2
        cases hk2
        exact absurd k hk3
      · exact g2 k' h' (by omega) hk2 hk3
    · rw [decide_eq_false k]
      refine if_bl (fun _ => ⟨_, rfl, _, hD6, ?_, gs ++ [i], ?_, ?_, I6.lst hD6 d1 d2 d3 d5, ?_, ?_, fun _ _ _ _ _ z => by simp at z, d1, d2, d3, d4, d5⟩) (fun z => absurd z (by decide))
      · rw [List.length_map]; exact small1000 (by omega)
      · rw [upd_same, List.map_append, Int.zero_add]; rfl
      · rw [List.length_append]; show gs.length + 1 ≤ i + 1; omega
      · rw [upd_ne d4.symm]; exact same_new no1 _ _ hrk5
      · intro k' hk
        rcases List.mem_append.mp hk with hk | hk
        · exact g1 k' hk
        · obtain rfl : k' = i := by simpa using hk
          exact ⟨_, eh, k⟩
  · rintro H5 ⟨gs, hD, lg, I5, hrk5, g1, g2, d1, d2, d3, d4, d5⟩
    obtain ⟨h1, hm1, hm2, _⟩ := ok.one
    obtain ⟨k1, hk1⟩ := List.getElem?_of_mem hm1
    have k1l := (List.getElem?_eq_some_iff.mp hk1).1
    exact ⟨rfl, hh, rk, D, xs, hs, is, gs, rfl, I5, ok, hrk5, lis, hD, g2 k1 h1 (by omega) hk1 hm2, by omega, g1, rkf, d1⟩
end
/-! ### the order of work -/
/-- the belts without trays, their ends -/
def looseOf (bs : List BR) : List (Nat × Nat) := (bs.filter fun b => b.th.isEmpty).map fun b => (b.one, b.to)
def free (ls : List (Nat × Nat)) (left : List Nat) (k : Nat) : Prop := ∀ p ∈ ls, p.2 = k → p.1 ∉ left
/-- each stands as soon as it can -/
inductive Soon (ls : List (Nat × Nat)) : List Nat → List Nat → Prop
  | nil : Soon ls [] []
  | cons {left ord : List Nat} {k : Nat} : k ∈ left → free ls left k → (∀ j ∈ left, free ls left j → k ≤ j) → Soon ls (left.erase k) ord → Soon ls left (k :: ord)
def cN (p : Nat × Nat → Bool) (l : List (Nat × Nat)) : Int := ((l.filter p).length : Nat)
theorem cN_snoc (p : Nat × Nat → Bool) (l : List (Nat × Nat)) (x : Nat × Nat) : cN p (l ++ [x]) = cN p l + (if p x = true then 1 else 0) := by
  unfold cN
  rw [List.filter_append, List.length_append]
  cases h : p x <;> simp [h]
theorem cN_zero {p : Nat × Nat → Bool} {l : List (Nat × Nat)} : cN p l = 0 ↔ ∀ x ∈ l, p x = false := by
  unfold cN
  constructor
  · intro h x hx
    have e : (l.filter p).length = 0 := by omega
    have e2 := List.eq_nil_of_length_eq_zero e
    cases k : p x with
    | false => rfl
    | true =>
      have : x ∈ l.filter p := List.mem_filter.mpr ⟨hx, k⟩
      rw [e2] at this
      cases this
  · intro h
    have e : l.filter p = [] := List.filter_eq_nil_iff.mpr fun x hx => by rw [h x hx]; decide
    rw [e]
    rfl
abbrev owing (left : List Nat) (k : Nat) : Nat × Nat → Bool := fun p => decide (p.2 = k) && decide (p.1 ∈ left)
theorem owing_free {ls : List (Nat × Nat)} {left : List Nat} {k : Nat} : cN (owing left k) ls = 0 ↔ free ls left k := by
  rw [cN_zero]
  constructor
  · intro h p hp e1 e2
    have := h p hp
    have this : (decide (p.2 = k) && decide (p.1 ∈ left)) = false := this
    rw [decide_eq_true e1, decide_eq_true e2] at this
    cases this
  · intro h p hp
    show (decide (p.2 = k) && decide (p.1 ∈ left)) = false
    by_cases e1 : p.2 = k
    · rw [decide_eq_false (h p hp e1), Bool.and_false]
    · rw [decide_eq_false e1, Bool.false_and]
theorem cN_erase {ls : List (Nat × Nat)} {left : List Nat} {k r : Nat} (nd : left.Nodup) (hr : r ∈ left) : cN (owing left k) ls - cN (fun p => decide (p.1 = r) && decide (p.2 = k)) ls = cN (owing (left.erase r) k) ls := by
  induction ls with
  | nil => rfl
  | cons x l ih =>
    have e : ∀ q : Nat × Nat → Bool, cN q (x :: l) = (if q x = true then 1 else 0) + cN q l := fun q => by
      unfold cN
      rw [List.filter_cons]
      cases h : q x <;> simp [h] <;> omega
    have h1 : x.1 ∈ left.erase r ↔ x.1 ≠ r ∧ x.1 ∈ left := nd.mem_erase_iff
    have key : (if owing left k x = true then (1 : Int) else 0) - (if (decide (x.1 = r) && decide (x.2 = k)) = true then 1 else 0) = (if owing (left.erase r) k x = true then 1 else 0) := by
      by_cases a : x.2 = k
      · by_cases b : x.1 = r
        · have d : ¬ r ∈ left.erase r := fun z => (nd.mem_erase_iff.mp z).1 rfl
          simp [owing, a, b, hr, d]
        · by_cases c : x.1 ∈ left
          · have d : x.1 ∈ left.erase r := h1.mpr ⟨b, c⟩
            simp [owing, a, b, c, d]
          · have d : ¬ x.1 ∈ left.erase r := fun z => c (h1.mp z).2
            simp [owing, a, b, c, d]
      · simp [owing, a]
    rw [e, e, e, ← ih]
    omega
/-- some hand is free, where the belts without trays go up -/
theorem some_free {ls : List (Nat × Nat)} {rk : Nat → Int} (hr : ∀ p ∈ ls, rk p.1 < rk p.2) : ∀ {left : List Nat}, left ≠ [] → ∃ k ∈ left, free ls left k := by
  have low : ∀ left : List Nat, left ≠ [] → ∃ k ∈ left, ∀ j ∈ left, rk k ≤ rk j := by
    intro left
    induction left with
    | nil => intro h; exact absurd rfl h
    | cons a l ih =>
      intro _
      cases l with
      | nil => exact ⟨a, by simp, fun j hj => by have : j = a := by simpa using hj
                                                 rw [this]; exact Int.le_refl _⟩
      | cons b l =>
        obtain ⟨k, hk, h⟩ := ih (by simp)
        by_cases c : rk a ≤ rk k
        · exact ⟨a, by simp, fun j hj => by
            rcases List.mem_cons.mp hj with e | e
            · rw [e]; exact Int.le_refl _
            · exact Int.le_trans c (h j e)⟩
        · exact ⟨k, List.mem_cons_of_mem _ hk, fun j hj => by
            rcases List.mem_cons.mp hj with e | e
            · rw [e]; omega
            · exact h j e⟩
  intro left hl
  obtain ⟨k, hk, h⟩ := low left hl
  refine ⟨k, hk, fun p hp e hm => ?_⟩
  have h1 := h _ hm
  have h2 := hr p hp
  rw [e] at h2
  omega
theorem erase_map {α β : Type} (f : α → β) : ∀ (l : List α) (j : Nat), (l.map f).eraseIdx j = (l.eraseIdx j).map f
  | [], _ => rfl
  | _ :: _, 0 => rfl
  | a :: l, j + 1 => congrArg (f a :: ·) (erase_map f l j)
abbrev fL (n : Nat) (F : Nat → Int) : List V := (List.range n).map fun k => V.int (F k)
theorem fL_get {n k : Nat} {F : Nat → Int} (h : k < n) : (fL n F)[k]? = some (.int (F k)) := by
  rw [List.getElem?_map, List.getElem?_range h]; rfl
theorem fL_set {n k : Nat} {F : Nat → Int} {z : Int} : (fL n F).set k (.int z) = fL n fun j => if j = k then z else F j := by
  apply List.ext_getElem?
  intro i
  rw [List.getElem?_set]
  by_cases h : i < n
  · rw [fL_get h, fL_get h]
    by_cases e : k = i
    · subst e
      rw [if_pos rfl, if_pos rfl, if_pos (by rw [List.length_map, List.length_range]; exact h)]
    · rw [if_neg e, if_neg (fun z => e z.symm)]
  · have h1 : (fL n F)[i]? = none := List.getElem?_eq_none (by rw [List.length_map, List.length_range]; omega)
    have h2 : (fL n fun j => if j = k then z else F j)[i]? = none := List.getElem?_eq_none (by rw [List.length_map, List.length_range]; omega)
    rw [h1, h2]
    by_cases e : k = i
    · rw [if_pos e, if_neg (by rw [List.length_map, List.length_range]; omega)]
    · rw [if_neg e]
def PairAt (H : Hp) (v : V) (p : Nat × Nat) : Prop := ∃ t : Addr, v = .ref t ∧ H t = some (.tup [nV p.1, nV p.2])
theorem PairAt.keep {H H' : Hp} {v : V} {p : Nat × Nat} (a : PairAt H v p) (k : TK H H') : PairAt H' v p := by
  obtain ⟨t, e, h⟩ := a
  exact ⟨t, e, k _ _ h⟩
section
variable {P : Program} {w : World} {K : PySem.W.Frag} {mg : Str → Option Value} {base : Heap}
def sp_work_order (K : PySem.W.Frag) : Sp := fun vs H Q _ => ∃ (r : Addr) (hs : List HR) (bs : List BR) (rk : Nat → Int), vs = [.ref r] ∧ RoomAt H r hs bs ∧ hs.length ≤ 400 ∧ bs.length ≤ 400 ∧ (∀ b ∈ bs, b.one < hs.length ∧ b.to < hs.length) ∧ (∀ p ∈ looseOf bs, rk p.1 < rk p.2) ∧
  ∀ (p : Addr) (ord : List Nat) (H' : Hp), H p = none → H' p = some (.lst (ord.map nV)) → Same H H' → Soon (looseOf bs) (List.range hs.length) ord → Q (.ref p) H'
theorem ok_work_order {f : Addr} {fd : FuncData} (F : Fun K "work_order" "work_order" s_work_order f fd) (T : Top K mg) : FnOk P w K mg base CX0 1 f fd ["room"] (sp_work_order K) := by
  refine F.ok sc_work_order (fun vs H Q E h => ?_) (fun cdv A outer s H vs Q E hr h => ?_)
  · obtain ⟨r, hs, bs, rk, rfl, _⟩ := h
    rfl
  obtain ⟨r, hs, bs, rk, rfl, hR, lh, lb, ends, hrk, q⟩ := h
  obtain ⟨ha, ba, hv, bv, er, eh, eb, alh, alb⟩ := hR.ex
  have lhv := alh.length
  have lbv := alb.length
  have lls : (looseOf bs).length ≤ 400 := by
    unfold looseOf
    rw [List.length_map]
    exact Nat.le_trans (List.length_filter_le ..) lb
  have pls : ∀ p ∈ looseOf bs, p.1 < hs.length ∧ p.2 < hs.length := by
    intro p hp
    obtain ⟨b, hb, e⟩ := List.mem_map.mp hp
    have := ends b (List.mem_filter.mp hb).1
    rw [← e]
    exact this
  let R1 : TS := fun D' σ' H' => D'.rt = Q ∧ ∃ (lo : Addr) (lv : List V), σ' = [some (.ref r), some (.ref ha), some (.ref ba), some (.ref lo), none, none, none, none, none, none, none, none] ∧ H' lo = some (.lst lv) ∧ All2 (PairAt H') lv (looseOf bs) ∧ Same H H' ∧ H lo = none
  let R2 : TS := fun D' σ' H' => D'.rt = Q ∧ ∃ (lo ow : Addr) (lv : List V) (v4 v5 : Option V), σ' = [some (.ref r), some (.ref ha), some (.ref ba), some (.ref lo), v4, v5, none, some (.ref ow), none, none, none, none] ∧ H' lo = some (.lst lv) ∧ All2 (PairAt H') lv (looseOf bs) ∧ Same H H' ∧ H lo = none ∧ H ow = none ∧ lo ≠ ow ∧ H' ow = some (.lst (fL hs.length fun k => cN (owing (List.range hs.length) k) (looseOf bs)))
  refine ⟨_, (pss_cons (ps_asg (pv 0) (pg_tupK K rfl rfl (pgs_cons (pg_name (i := 1) sc_work_order.nd rfl (Or.inl rfl)) (pgs_cons (pg_name (i := 2) sc_work_order.nd rfl (Or.inl rfl)) pgs_nil))))
      (pss_cons (ps_setLc (i := 3) (own := [("giver", 4), ("taker", 5), ("things", 6)]) (g := gTup K 3 (gCons (gName 4) (gCons (gName 5) (gCons (gName 6) gNil)))) (by rfl) sc_work_order.nd rfl rfl (sw_true rfl rfl rfl (by decide +kernel)) (pi_tupK K rfl (pv 2)) (blkOk_by (own := [("giver", 4), ("taker", 5), ("things", 6)]) (N := N_work_order) (sc := defScope s_work_order) (by decide +kernel)) (fun _ _ _ _ _ => (pg_tupK K rfl rfl (pgs_cons (pg_name (i := 4) sc_work_order.nd rfl (Or.inl rfl)) (pgs_cons (pg_name (i := 5) sc_work_order.nd rfl (Or.inl rfl)) (pgs_cons (pg_name (i := 6) sc_work_order.nd rfl (Or.inl rfl)) pgs_nil))))) (fun _ _ _ _ _ => pts_one (pt_not (pt_truthK K rfl (pv 6) (by intro _; rfl)))) (fun _ _ _ _ _ => (pe_tup (pa_cons (pv 4) (pa_cons (pv 5) pa_nil)))))
      (PSs.to (pss_cons (ps_set (i := 7) sc_work_order.nd rfl (Or.inr rfl) (pe_op op_rep (pe_lst (pa_cons pe_int pa_nil)) (pe_callB (call_len_seqK K rfl) (by rfl) T.m_len (by decide +kernel) (pa_cons (pv 1) pa_nil))))
      (pss_cons (ps_for PassesOwn.never rfl (pi_listK K rfl (pv 3)) (pg_tupK K rfl rfl (pgs_cons (pg_name (i := 4) sc_work_order.nd rfl (Or.inl rfl)) (pgs_cons (pg_name (i := 5) sc_work_order.nd rfl (Or.inl rfl)) pgs_nil)))
        (pss_one (ps_augS (pv 7) (pv 5) (get_listK K rfl) pe_int ip_add set_list)))
      (PSs.to (pss_cons (ps_set (i := 8) sc_work_order.nd rfl (Or.inl rfl) (pe_listRg rfl (by rfl) T.m_list (prg_1 (by rfl) T.m_range (pe_callB (call_len_seqK K rfl) (by rfl) T.m_len (by decide +kernel) (pa_cons (pv 1) pa_nil)))))
      (pss_cons (ps_set (i := 9) sc_work_order.nd rfl (Or.inl rfl) (pe_lst pa_nil))
      (pss_cons (ps_while PassesOwn.never (pt_truthK K rfl (pv 8) (by intro _; rfl))
        (pss_cons (ps_set (i := 10) sc_work_order.nd rfl (Or.inl rfl) (pe_callB (cr_minKK K rfl rfl) (by rfl) T.m_min (by decide +kernel) (pa_cons (pe_lc (own := [("hand", 11)]) (g := gName 11) (by rfl) sc_work_order.nd (pi_listK K rfl (pv 8)) (blkOk_by (own := [("hand", 11)]) (N := N_work_order) (sc := defScope s_work_order) (by decide +kernel)) (fun _ _ _ _ _ => (pg_name (i := 11) sc_work_order.nd rfl (Or.inl rfl))) (fun _ _ _ _ _ => pts_one (pt_cmpR op_eq (pe_ix (ix_listK K rfl) (pv 7) (pv 11) (fun _ _ => rfl)) pe_int (nomark _))) (fun _ _ _ _ _ => (pv 11))) pa_nil)))
      (pss_cons (ps_expr (pe_bmK K rfl PySem.F.plainAttrs_list PySem.F.slot_list_remove PySem.F.type_list_remove mt_remove (pv 8) (pa_cons (pv 10) pa_nil)))
      (pss_cons (ps_expr (pe_bmK K rfl PySem.F.plainAttrs_list PySem.F.slot_list_append PySem.F.type_list_append mt_append (pv 9) (pa_cons (pv 10) pa_nil)))
      (pss_one (ps_for PassesOwn.never rfl (pi_listK K rfl (pv 3)) (pg_tupK K rfl rfl (pgs_cons (pg_name (i := 4) sc_work_order.nd rfl (Or.inl rfl)) (pgs_cons (pg_name (i := 5) sc_work_order.nd rfl (Or.inl rfl)) pgs_nil)))
        (pss_one (ps_if (pt_cmpR op_eq (pv 4) (pv 10) (nomark _)) (pss_one (ps_augS (pv 7) (pv 5) (get_listK K rfl) pe_int ip_sub set_list)) pss_nil))))))))
      (pss_one (ps_ret (pv 9)))))) R2 ?tail2))) R1 ?tail1))), ?_⟩
  case tail2 =>
    rintro D' σ' H1 ⟨eD, lo, ow, lv, v4, v5, rfl, hlo, al, s1, nlo, now, low, how⟩
    refine ⟨_, rfl, ha, _, rfl, .inr (SqT.of (s1 _ _ eh)), _, rfl, ⟨by omega, by omega, by omega, by omega, by omega⟩, fun lf nlf => ?_⟩
    refine ⟨(by show 0 ≤ sizeLine; decide), fun od nod => ?_⟩
    have erg : rgV 0 ((hv.length : Nat) : Int) = (List.range hs.length).map nV := by
      unfold rgV
      rw [show (((hv.length : Nat) : Int) - 0).toNat = hs.length by omega]
      refine List.map_congr_left fun i _ => ?_
      show V.int (0 + ((i : Nat) : Int)) = V.int ((i : Nat) : Int)
      rw [Int.zero_add]
    rw [erg] at nod ⊢
    have lf0 : H lf = none := same_none s1 nlf
    have od0 : H od = none := same_none (s1.trans (same_new nlf)) nod
    have lfod : lf ≠ od := ne_of_none upd_same nod
    have lflo : lo ≠ lf := ne_of_none hlo nlf
    have lfow : ow ≠ lf := ne_of_none how nlf
    have odlo : lo ≠ od := ne_of_none (same_new nlf _ _ hlo) nod
    have odow : ow ≠ od := ne_of_none (same_new nlf _ _ how) nod
    have tk2 : TK H1 (upd (upd H1 lf (.lst ((List.range hs.length).map nV))) od (.lst [])) := (TK.new nlf).trans (TK.new nod)
    let W : Nat → L2.St → Hp → Prop := fun mm σ H2 => ∃ (left ord : List Nat) (v4 v5 v10 v11 : Option V), σ = [some (.ref r), some (.ref ha), some (.ref ba), some (.ref lo), v4, v5, none, some (.ref ow), some (.ref lf), some (.ref od), v10, v11] ∧ mm = left.length ∧ left.Nodup ∧ (∀ k ∈ left, k < hs.length) ∧ H2 lo = some (.lst lv) ∧ All2 (PairAt H2) lv (looseOf bs) ∧ Same H H2 ∧ H2 lf = some (.lst (left.map nV)) ∧ H2 od = some (.lst (ord.map nV)) ∧ ord.length + left.length = hs.length ∧ H2 ow = some (.lst (fL hs.length fun k => cN (owing left k) (looseOf bs))) ∧ (∀ rest, Soon (looseOf bs) left rest → Soon (looseOf bs) (List.range hs.length) (ord ++ rest))
    refine ⟨W, ⟨_, List.range hs.length, [], v4, v5, none, none, rfl, rfl, List.nodup_range, fun k hk => List.mem_range.mp hk, same_new nod _ _ (same_new nlf _ _ hlo), al.imp fun _ _ z => z.keep tk2, (s1.trans (same_new nlf)).trans (same_new nod), same_new nod _ _ upd_same, upd_same, by rw [List.length_range]; exact Nat.zero_add _, same_new nod _ _ (same_new nlf _ _ how), fun rest h => h⟩, ?_⟩
    rintro mm σ H2 ⟨left, ord, w4, w5, w10, w11, rfl, rfl, ndl, hll, hlo2, al2, s2, hlf, hod, lol, how2, soon⟩
    refine ⟨_, rfl, _, .inl ⟨_, SqL.of hlf, rfl⟩, ?_⟩
    by_cases ne : left = []
    · subst ne
      refine if_bl (fun z => nomatch z) (fun _ => ⟨_, rfl, ?_⟩)
      rw [eD]
      have := soon [] .nil
      rw [List.append_nil] at this
      exact q od ord H2 od0 hod s2 this
    · have nb : (!(left.map nV).isEmpty) = true := by
        cases left with
        | nil => exact absurd rfl ne
        | cons a l => rfl
      refine if_bl (fun _ => ⟨W (left.length - 1), fun σ' H' hW => ⟨left.length - 1, by have := List.length_pos_iff.mpr ne; omega, hW⟩, ?_⟩) (fun z => by rw [nb] at z; cases z)
      obtain ⟨k0, hk0, fk0⟩ := some_free hrk ne
      -- the free ones
      refine ⟨_, rfl, lf, rfl, ⟨_, SqL.of hlf⟩, fun D nD => lc_list (K := K) (a := lf) (xs := left.map nV) (fun i H5 => ∃ fs : List Nat, H5 D = some (.lst (fs.map nV)) ∧ H5 lf = some (.lst (left.map nV)) ∧ H5 ow = some (.lst (fL hs.length fun k => cN (owing left k) (looseOf bs))) ∧ Same H2 H5 ∧ fs.length ≤ i ∧ (∀ k, k ∈ fs ↔ k ∈ left.take i ∧ free (looseOf bs) left k)) ⟨[], upd_same, same_new nD _ _ hlf, same_new nD _ _ how2, same_new nD, Nat.le_refl _, fun k => ⟨(fun z => nomatch z), (fun z => nomatch z.1)⟩⟩ (fun i H5 _ ⟨_, _, h, _⟩ => SqL.of h) ?_ ?_⟩
      · rintro i x H5 hx ⟨fs, hD, hlf5, how5, s5, lf5, mem⟩
        rw [List.getElem?_map] at hx
        cases ek : left[i]? with
        | none => rw [ek] at hx; cases hx
        | some k =>
        rw [ek] at hx
        obtain rfl : nV k = x := Option.some.inj hx
        have kl := hll k (List.mem_of_getElem? ek)
        refine ⟨rfl, _, rfl, _, rfl, ow, _, _, _, rfl, rfl, SqL.of how5, atI_nat (fL_get kl), rfl, _, rfl, if_bl (fun kk => ?_) (fun kk => ?_)⟩
        · have fk : free (looseOf bs) left k := owing_free.mp (V.int.inj (of_decide_eq_true kk))
          refine ⟨_, rfl, _, hD, ?_, fs ++ [k], ?_, ?_, ?_, Same.own s5 nD, by rw [List.length_append]; show fs.length + 1 ≤ i + 1; omega, fun j => ?_⟩
          · rw [List.length_map]
            have := (List.getElem?_eq_some_iff.mp ek).1
            exact small1000 (by omega)
          · rw [upd_same, List.map_append]; rfl
          · rw [upd_ne (ne_of_none hlf nD)]; exact hlf5
          · rw [upd_ne (ne_of_none how2 nD)]; exact how5
          · rw [List.mem_append, mem, List.take_add_one, ek, List.mem_append]
            constructor
            · rintro (h | h)
              · exact ⟨.inl h.1, h.2⟩
              · obtain rfl : j = k := by simpa using h
                exact ⟨.inr (by simp), fk⟩
            · rintro ⟨h | h, f⟩
              · exact .inl ⟨h, f⟩
              · obtain rfl : j = k := by simpa using h
                exact .inr (by simp)
        · have fk : ¬ free (looseOf bs) left k := fun z => of_decide_eq_false kk (congrArg V.int (owing_free.mpr z))
          refine ⟨fs, hD, hlf5, how5, s5, by omega, fun j => ?_⟩
          rw [mem, List.take_add_one, ek, List.mem_append]
          constructor
          · rintro ⟨h, f⟩
            exact ⟨.inl h, f⟩
          · rintro ⟨h | h, f⟩
            · exact ⟨h, f⟩
            · obtain rfl : j = k := by simpa using h
              exact absurd f fk
      · rintro H5 ⟨fs, hD, hlf5, how5, s5, lf5, mem⟩
        rw [List.length_map, List.take_length] at mem
        have hk0f : k0 ∈ fs := (mem k0).mpr ⟨hk0, fk0⟩
        refine ⟨D, fs.map fun k => ((k : Nat) : Int), rfl, SqL.of (by rw [hD, List.map_map]; rfl), by rw [List.length_map]; exact List.length_pos_of_mem hk0f, fun m hm hmin => ?_⟩
        obtain ⟨k, hk, rfl⟩ := List.mem_map.mp hm
        obtain ⟨hkl, fk⟩ := (mem k).mp hk
        have least : ∀ j ∈ left, free (looseOf bs) left j → k ≤ j := fun j h1 h2 => by
          have := hmin ((j : Nat) : Int) (List.mem_map.mpr ⟨j, (mem j).mpr ⟨h1, h2⟩, rfl⟩)
          omega
        have kl := hll k hkl
        obtain ⟨j, hj, hfirst, ees⟩ : ∃ j : Nat, left[j]? = some k ∧ (∀ m : Nat, m < j → left[m]? ≠ some k) ∧ left.eraseIdx j = left.erase k := by
          refine ⟨left.idxOf k, ?_, fun m hm => ?_, (List.erase_eq_eraseIdx_of_idxOf (rfl : left.idxOf k = left.idxOf k)).symm⟩
          · rw [List.getElem?_eq_getElem (List.idxOf_lt_length_of_mem hkl), List.getElem_idxOf]
          · intro e
            have := List.idxOf_lt_length_of_mem hkl
            have e1 : left[m] = k := (List.getElem?_eq_some_iff.mp e).2
            have e2 : left[left.idxOf k] = k := List.getElem_idxOf this
            have := (List.getElem_inj ndl (h₀ := by omega) (h₁ := this)).mp (e1.trans e2.symm)
            omega
        have elf : left.map nV = (left.map fun k => ((k : Nat) : Int)).map V.int := by rw [List.map_map]; rfl
        refine ⟨_, rfl, .inl ⟨rfl, _, SqL.of hlf5⟩, _, rfl, lf, left.map (fun k => ((k : Nat) : Int)), ((k : Nat) : Int), j, rfl, rfl, by rw [hlf5, elf], by rw [List.getElem?_map, hj]; rfl, fun m hm => ?_, ?_⟩
        · rw [List.getElem?_map]
          intro e
          cases em : left[m]? with
          | none => rw [em] at e; cases e
          | some y =>
            rw [em] at e
            have e : ((y : Nat) : Int) = ((k : Nat) : Int) := Option.some.inj e
            exact hfirst m hm (by rw [em]; congr 1; omega)
        have eer : ((left.map fun k => ((k : Nat) : Int)).eraseIdx j).map V.int = (left.erase k).map nV := by
          rw [← ees, erase_map, List.map_map]; rfl
        rw [eer]
        have hod5 := s5 _ _ hod
        have tk5 := TK.same s5
        have hlo5 := s5 _ _ hlo2
        have s6 : Same H (upd H5 lf (.lst ((left.erase k).map nV))) := Same.own (s2.trans s5) lf0
        have hod6 : (upd H5 lf (.lst ((left.erase k).map nV))) od = some (.lst (ord.map nV)) := by rw [upd_ne lfod.symm]; exact hod5
        have ll := lol
        have hlp := List.length_pos_of_mem hkl
        refine ⟨_, rfl, .inl ⟨rfl, _, SqL.of hod6⟩, _, rfl, od, _, _, rfl, rfl, hod6, by rw [List.length_map]; exact small1000 (by omega), ?_⟩
        have tk7 : TK H2 (upd (upd H5 lf (.lst ((left.erase k).map nV))) od (.lst (ord.map nV ++ [nV k]))) := (tk5.trans (TK.lst hlf5)).trans (TK.lst hod6)
        have hlo7 : (upd (upd H5 lf (.lst ((left.erase k).map nV))) od (.lst (ord.map nV ++ [nV k]))) lo = some (.lst lv) := by
          rw [upd_ne odlo, upd_ne lflo]; exact hlo5
        refine ⟨_, rfl, lo, rfl, ⟨_, SqL.of hlo7⟩, for_list (K := K) (a := lo) (xs := lv) (fun i σ H3 => ∃ v4 v5 : Option V, σ = [some (.ref r), some (.ref ha), some (.ref ba), some (.ref lo), v4, v5, none, some (.ref ow), some (.ref lf), some (.ref od), some (nV k), w11] ∧ H3 lo = some (.lst lv) ∧ All2 (PairAt H3) lv (looseOf bs) ∧ Same H H3 ∧ H3 lf = some (.lst ((left.erase k).map nV)) ∧ H3 od = some (.lst ((ord ++ [k]).map nV)) ∧ H3 ow = some (.lst (fL hs.length fun z => cN (owing left z) (looseOf bs) - cN (fun p => decide (p.1 = k) && decide (p.2 = z)) ((looseOf bs).take i))))
          ⟨w4, w5, rfl, hlo7, al2.imp fun _ _ z => z.keep tk7, Same.own s6 od0, by rw [upd_ne lfod, upd_same], by rw [upd_same, List.map_append]; rfl, ?_⟩ (fun i σ H3 _ ⟨_, _, _, h, _⟩ => SqL.of h) ?_ ?_⟩
        · rw [upd_ne odow, upd_ne lfow, how5]
          congr 2
        · rintro i x σ H3 hx ⟨u4, u5, rfl, hlo3, al3, s3, hlf3, hod3, how3⟩
          obtain ⟨p, ep, ⟨t, rfl, e1⟩⟩ := al3.getL hx
          have hp := pls p (List.mem_of_getElem? ep)
          have etk : (looseOf bs).take (i + 1) = (looseOf bs).take i ++ [p] := by rw [List.take_add_one, ep]; rfl
          refine ⟨t, _, rfl, SqT.of e1, rfl, _, _, rfl, _, _, rfl, rfl, ?_⟩
          refine ⟨_, rfl, _, rfl, rfl, _, rfl, if_bl (fun kk => ?_) (fun kk => ?_)⟩
          · have pk : p.1 = k := by have := V.int.inj (of_decide_eq_true kk); omega
            refine ⟨_, rfl, _, rfl, ow, _, p.2, _, rfl, rfl, SqL.of how3, fL_get hp.2, _, _, rfl, rfl, ow, _, _, p.2, rfl, rfl, how3, ?_, ?_⟩
            · unfold ixN
              rw [if_pos (by omega), if_pos (by rw [List.length_map, List.length_range]; omega), Int.toNat_natCast]
            · refine ⟨_, _, rfl, ?_, al3.imp fun _ _ z => z.keep (TK.lst how3), Same.own s3 now, ?_, ?_, ?_⟩
              · rw [upd_ne low]; exact hlo3
              · rw [upd_ne lfow.symm]; exact hlf3
              · rw [upd_ne odow.symm]; exact hod3
              · rw [upd_same, fL_set]
                congr 2
                refine List.map_congr_left fun z _ => ?_
                show V.int (if z = p.2 then (cN (owing left p.2) (looseOf bs) - cN (fun q => decide (q.1 = k) && decide (q.2 = p.2)) ((looseOf bs).take i)) - 1 else cN (owing left z) (looseOf bs) - cN (fun q => decide (q.1 = k) && decide (q.2 = z)) ((looseOf bs).take i)) = V.int (cN (owing left z) (looseOf bs) - cN (fun q => decide (q.1 = k) && decide (q.2 = z)) ((looseOf bs).take (i + 1)))
                rw [etk, cN_snoc]
                by_cases e : z = p.2
                · subst e
                  simp [pk]
                  omega
                · have : ¬ p.2 = z := fun y => e y.symm
                  simp [e, this]
          · have pk : ¬ p.1 = k := fun e => of_decide_eq_false kk (by rw [e])
            refine ⟨_, _, rfl, hlo3, al3, s3, hlf3, hod3, ?_⟩
            rw [how3]
            congr 2
            refine List.map_congr_left fun z _ => ?_
            show V.int (_ - cN _ _) = V.int (_ - cN _ _)
            rw [etk, cN_snoc]
            simp [pk]
        · rintro σ H3 ⟨u4, u5, rfl, hlo3, al3, s3, hlf3, hod3, how3⟩
          have le : (left.erase k).length = left.length - 1 := List.length_erase_of_mem hkl
          refine ⟨left.erase k, ord ++ [k], u4, u5, _, _, rfl, le.symm, ndl.erase k, fun y hy => hll y (List.mem_of_mem_erase hy), hlo3, al3, s3, hlf3, hod3, by rw [List.length_append, le]; show ord.length + 1 + (left.length - 1) = hs.length; omega, ?_, fun rest h => ?_⟩
          · rw [how3, List.take_of_length_le (by rw [← al3.length]; exact Nat.le_refl _)]
            congr 2
            refine List.map_congr_left fun z _ => ?_
            show V.int (_ - cN _ _) = V.int (cN _ _)
            rw [cN_erase ndl hkl]
          · have := soon (k :: rest) (.cons hkl fk least h)
            rw [List.append_assoc]
            exact this
  case tail1 =>
    rintro D' σ' H1 ⟨eD, lo, lv, rfl, hlo, al, s1, nlo⟩
    refine ⟨(by show 1 ≤ sizeLine; decide), fun l1 nl1 => ⟨_, rfl, ha, _, rfl, .inr (SqT.of (same_new nl1 _ _ (s1 _ _ eh))), l1, _, _, rfl, rfl, upd_same, by omega, by omega, little (by show 1 * _ ≤ 1000; omega), fun ow now => ?_⟩⟩
    have s2 : Same H _ := (s1.trans (same_new (o := .lst [V.int 0]) nl1)).trans (same_new (o := .lst (fL hs.length fun _ => 0)) now)
    have now0 : H ow = none := same_none (s1.trans (same_new nl1)) now
    have hlo2 := same_new (o := .lst (fL hs.length fun _ => 0)) now _ _ (same_new (o := .lst [V.int 0]) nl1 _ _ hlo)
    have low : lo ≠ ow := ne_of_none (same_new nl1 _ _ hlo) now
    have e0 : (List.replicate ((hv.length : Nat) : Int).toNat [V.int 0]).flatten = fL hs.length fun _ => 0 := by
      rw [flat_rep, Int.toNat_natCast, lhv]
      symm
      show (List.range hs.length).map (fun _ => V.int 0) = _
      rw [List.map_const', List.length_range]
    rw [e0]
    refine ⟨_, rfl, lo, rfl, ⟨_, SqL.of hlo2⟩, for_list (K := K) (a := lo) (xs := lv) (fun i σ H3 => ∃ v4 v5 : Option V, σ = [some (.ref r), some (.ref ha), some (.ref ba), some (.ref lo), v4, v5, none, some (.ref ow), none, none, none, none] ∧ H3 lo = some (.lst lv) ∧ All2 (PairAt H3) lv (looseOf bs) ∧ Same H H3 ∧ H3 ow = some (.lst (fL hs.length fun k => cN (fun p => decide (p.2 = k)) ((looseOf bs).take i))))
      ⟨none, none, rfl, hlo2, al.imp fun _ _ z => z.keep ((TK.new nl1).trans (TK.new now)), s2, upd_same⟩ (fun i σ H3 _ ⟨_, _, _, h, _⟩ => SqL.of h) ?_ ?_⟩
    · rintro i x σ H3 hx ⟨v4, v5, rfl, hlo3, al3, s3, how⟩
      obtain ⟨p, ep, ⟨t, rfl, e1⟩⟩ := al3.getL hx
      have hp := pls p (List.mem_of_getElem? ep)
      refine ⟨t, _, rfl, SqT.of e1, rfl, _, _, rfl, _, _, rfl, rfl, ?_⟩
      refine ⟨_, rfl, _, rfl, ow, _, p.2, _, rfl, rfl, SqL.of how, fL_get hp.2, _, _, rfl, rfl, ow, _, _, p.2, rfl, rfl, how, ?_, ?_⟩
      · unfold ixN
        rw [if_pos (by omega), if_pos (by rw [List.length_map, List.length_range]; omega), Int.toNat_natCast]
      · refine ⟨_, _, rfl, ?_, al3.imp fun _ _ z => z.keep (TK.lst how), Same.own s3 now0, ?_⟩
        · rw [upd_ne low]; exact hlo3
        · rw [upd_same, fL_set]
          congr 2
          refine List.map_congr_left fun k _ => ?_
          show V.int (if k = p.2 then cN (fun q => decide (q.2 = p.2)) ((looseOf bs).take i) + 1 else cN (fun q => decide (q.2 = k)) ((looseOf bs).take i)) = V.int (cN (fun q => decide (q.2 = k)) ((looseOf bs).take (i + 1)))
          rw [List.take_add_one, ep, show (some p).toList = [p] from rfl, cN_snoc]
          by_cases e : k = p.2
          · subst e
            simp
          · have : ¬ p.2 = k := fun z => e z.symm
            simp [e, this]
    · rintro σ H3 ⟨v4, v5, rfl, hlo3, al3, s3, how⟩
      refine ⟨eD, lo, ow, lv, v4, v5, rfl, hlo3, al3, s3, nlo, now0, low, ?_⟩
      rw [how, List.take_of_length_le (by rw [← al3.length]; exact Nat.le_refl _)]
      congr 2
      refine List.map_congr_left fun k _ => ?_
      show V.int (cN (fun q => decide (q.2 = k)) (looseOf bs)) = V.int (cN (owing (List.range hs.length) k) (looseOf bs))
      have e : (looseOf bs).filter (fun q => decide (q.2 = k)) = (looseOf bs).filter (owing (List.range hs.length) k) := List.filter_congr fun p hp => by
        have := (pls p hp).1
        show decide (p.2 = k) = (decide (p.2 = k) && decide (p.1 ∈ List.range hs.length))
        rw [decide_eq_true (List.mem_range.mpr this), Bool.and_true]
      unfold cN
      rw [e]
  refine ⟨_, rfl, r, _, rfl, SqT.of er, rfl, _, _, rfl, _, _, rfl, rfl, ?_⟩
  refine ⟨_, rfl, ba, rfl, ⟨_, SqT.of eb⟩, fun D nD => lc_tup (K := K) (a := ba) (xs := bv) (fun i H5 => ∃ lv : List V, H5 D = some (.lst lv) ∧ All2 (PairAt H5) lv (looseOf (bs.take i)) ∧ Same H H5) ⟨[], upd_same, .nil, same_new nD⟩ (fun i H5 _ ⟨_, _, _, s5⟩ => SqT.of (s5 _ _ eb)) ?_ ?_⟩
  · rintro i x H5 hx ⟨lv, hD, al, s5⟩
    obtain ⟨b, eb2, ⟨t, g, rfl, e1, e2⟩⟩ := alb.getL hx
    have il : i < bs.length := (List.getElem?_eq_some_iff.mp eb2).1
    have elo : looseOf (bs.take (i + 1)) = looseOf (bs.take i) ++ (if b.th.isEmpty = true then [(b.one, b.to)] else []) := by
      unfold looseOf
      rw [List.take_add_one, eb2, List.filter_append, List.map_append]
      congr 1
      cases h : b.th.isEmpty <;> simp [h]
    refine ⟨t, _, rfl, SqT.of (s5 _ _ e1), rfl, _, _, rfl, _, _, rfl, _, _, rfl, rfl, rfl, _, rfl, _, .inr (.inl ⟨_, SqT.of (s5 _ _ e2), rfl⟩), ?_⟩
    have lvl : lv.length ≤ 400 := by
      rw [al.length]
      unfold looseOf
      rw [List.length_map]
      refine Nat.le_trans (List.length_filter_le ..) ?_
      rw [List.length_take]
      omega
    refine if_bl (fun kk => ?_) (fun kk => ?_)
    · have ke : b.th.isEmpty = true := by
        cases h : b.th with
        | nil => rfl
        | cons a l => rw [h] at kk; cases kk
      refine ⟨_, rfl, _, rfl, (by show 2 ≤ sizeLine; decide), fun u nu => ⟨lv, same_new nu _ _ hD, small1000 (by omega), lv ++ [V.ref u], upd_same, ?_, ?_⟩⟩
      · rw [elo, if_pos ke]
        exact ((al.imp fun _ _ z => z.keep (TK.new nu)).snoc ⟨u, rfl, upd_same⟩).imp fun _ _ z => z.keep (TK.lst (same_new nu _ _ hD))
      · exact Same.own (s5.trans (same_new nu)) nD
    · have ke : ¬ b.th.isEmpty = true := by
        cases h : b.th with
        | nil => rw [h] at kk; cases kk
        | cons a l => intro z; cases z
      refine ⟨lv, hD, ?_, s5⟩
      rw [elo, if_neg ke, List.append_nil]
      exact al
  · rintro H5 ⟨lv, hD, al, s5⟩
    rw [List.take_of_length_le (by omega)] at al
    exact ⟨rfl, D, lv, rfl, hD, al, s5, nD⟩
end
/-! ### what rules make, bells -/
def mk2 (wd : Str) (a b : Int) : Int :=
  if wd = "sum" then a + b else if wd = "gap" then a - b else if wd = "below" then (if a < b then 1 else 0) else if wd = "most" then (if b > a then b else a) else (if b < a then b else a)
def mk (wd : Str) (n a b c : Int) : Int :=
  if wd = "always" then n else if wd = "times" then n * a else if wd = "pick" then (if a = 0 then c else b) else if wd = "same" ∨ wd = "out" then a else mk2 wd a b
def mkR (h : HR) (xs : List Int) : Int := mk h.wd (h.no.getD 0) (xs.getD 0 0) (xs.getD 1 0) (xs.getD 2 0)
/-- the hands whose rule is this door's -/
def doorsOf (z : Str) (hs : List HR) : List Nat := (List.range hs.length).filter fun i => decide (hs[i]?.map HR.wd = some z)
theorem mem_doors {z : Str} {hs : List HR} {k : Nat} : k ∈ doorsOf z hs ↔ ∃ h, hs[k]? = some h ∧ h.wd = z := by
  unfold doorsOf
  rw [List.mem_filter, List.mem_range, decide_eq_true_eq]
  constructor
  · rintro ⟨a, b⟩
    rw [List.getElem?_eq_getElem a] at b
    exact ⟨_, List.getElem?_eq_getElem a, Option.some.inj b⟩
  · rintro ⟨h, a, b⟩
    refine ⟨(List.getElem?_eq_some_iff.mp a).1, ?_⟩
    rw [a, ← b]
    rfl
theorem doors_nodup {z : Str} {hs : List HR} : (doorsOf z hs).Nodup := List.nodup_range.filter _
theorem doors_len {z : Str} {hs : List HR} : (doorsOf z hs).length ≤ hs.length := by
  refine Nat.le_trans (List.length_filter_le ..) ?_
  rw [List.length_range]
  exact Nat.le_refl _
abbrev gD (m : List Int) (k : Nat) : Int := m.getD k 0
def valB (f : Nat → Int) (b : BR) : Int := match b.th with | [] => f b.one | x :: _ => x
def takes (cur : List BR) (f : Nat → Int) (k : Nat) : List Int := (cur.filter fun b => decide (b.to = k)).map (valB f)
theorem valB_nil {f : Nat → Int} {b : BR} (h : b.th = []) : valB f b = f b.one := by unfold valB; rw [h]
theorem takes_ext {cur : List BR} {f g : Nat → Int} {k : Nat} (h : ∀ b ∈ cur, b.to = k → b.th = [] → f b.one = g b.one) : takes cur f k = takes cur g k := by
  unfold takes
  refine List.map_congr_left fun b hb => ?_
  have hb := List.mem_filter.mp hb
  cases e : b.th with
  | nil => rw [valB_nil e, valB_nil e]; exact h b hb.1 (of_decide_eq_true hb.2) e
  | cons x l => unfold valB; rw [e]
structure IsBell (hs : List HR) (cur : List BR) (ins m : List Int) : Prop where
  len : m.length = hs.length
  door : ∀ j k : Nat, (doorsOf "in" hs)[j]? = some k → m[k]? = ins[j]?
  hand : ∀ (k : Nat) (h : HR), hs[k]? = some h → h.wd ≠ "in" → m[k]? = some (mkR h (takes cur (gD m) k))
theorem mem_loose {cur : List BR} {b : BR} (h : b ∈ cur) (e : b.th = []) : (b.one, b.to) ∈ looseOf cur := List.mem_map.mpr ⟨b, List.mem_filter.mpr ⟨h, by rw [e]; rfl⟩, rfl⟩
theorem bell_one {hs : List HR} {cur : List BR} {ins m m' : List Int} {rk : Nat → Int} (hr : ∀ p ∈ looseOf cur, rk p.1 < rk p.2) (a : IsBell hs cur ins m) (b : IsBell hs cur ins m') : m = m' := by
  have off : ∀ k, ¬ k < hs.length → m[k]? = m'[k]? := fun k hk => by
    rw [List.getElem?_eq_none (by have := a.len; omega), List.getElem?_eq_none (by have := b.len; omega)]
  obtain ⟨D, hD⟩ : ∃ D, D = (List.range hs.length).filter fun k => decide (m[k]? ≠ m'[k]?) := ⟨_, rfl⟩
  have mD : ∀ k, k ∉ D → m[k]? = m'[k]? := fun k hk => by
    by_cases l : k < hs.length
    · by_cases e : m[k]? = m'[k]?
      · exact e
      · refine absurd ?_ hk
        rw [hD, List.mem_filter]
        exact ⟨List.mem_range.mpr l, decide_eq_true e⟩
    · exact off k l
  by_cases e : D = []
  · refine List.ext_getElem? fun k => mD k ?_
    rw [e]
    exact fun z => nomatch z
  · exfalso
    obtain ⟨k, hk, fr⟩ := some_free hr e
    have hk2 := hk
    rw [hD, List.mem_filter] at hk2
    have kl := List.mem_range.mp hk2.1
    have ne : m[k]? ≠ m'[k]? := of_decide_eq_true hk2.2
    have eh : hs[k]? = some hs[k] := List.getElem?_eq_getElem kl
    by_cases w : hs[k].wd = "in"
    · obtain ⟨j, hj⟩ := List.getElem?_of_mem (mem_doors.mpr ⟨_, eh, w⟩)
      exact ne ((a.door j k hj).trans (b.door j k hj).symm)
    · refine ne ((a.hand k _ eh w).trans ((b.hand k _ eh w).trans ?_).symm)
      rw [takes_ext (g := gD m) fun c hc et en => ?_]
      have := mD c.one (fr _ (mem_loose hc en) et)
      show m'.getD c.one 0 = m.getD c.one 0
      rw [List.getD_eq_getElem?_getD, List.getD_eq_getElem?_getD, this]
/-- what some hands have made already -/
structure Part (hs : List HR) (cur : List BR) (ins : List Int) (pm : Nat → Option Int) : Prop where
  dom : ∀ k v, pm k = some v → k < hs.length
  door : ∀ j k : Nat, (doorsOf "in" hs)[j]? = some k → pm k = ins[j]?
  hand : ∀ (k : Nat) (h : HR) (v : Int), hs[k]? = some h → h.wd ≠ "in" → pm k = some v → v = mkR h (takes cur (fun j => (pm j).getD 0) k) ∧ ∀ b ∈ cur, b.to = k → b.th = [] → (pm b.one).isSome = true
abbrev putM (pm : Nat → Option Int) (k : Nat) (v : Int) : Nat → Option Int := fun j => if j = k then some v else pm j
theorem Part.put {hs : List HR} {cur : List BR} {ins : List Int} {pm : Nat → Option Int} (p : Part hs cur ins pm) {k : Nat} {h : HR} (eh : hs[k]? = some h) (w : h.wd ≠ "in") (new : pm k = none)
    (there : ∀ b ∈ cur, b.to = k → b.th = [] → (pm b.one).isSome = true) : Part hs cur ins (putM pm k (mkR h (takes cur (fun j => (pm j).getD 0) k))) := by
  have old : ∀ j, (pm j).isSome = true → ∀ v, putM pm k v j = pm j := fun j hj v => if_neg fun e => by rw [e, new] at hj; cases hj
  have same : ∀ j v, (∀ b ∈ cur, b.to = j → b.th = [] → (pm b.one).isSome = true) → takes cur (fun i => (pm i).getD 0) j = takes cur (fun i => (putM pm k v i).getD 0) j := fun j v hb => takes_ext fun b b1 b2 b3 => by
    show (pm b.one).getD 0 = (putM pm k v b.one).getD 0
    rw [old _ (hb b b1 b2 b3)]
  refine ⟨fun j v e => ?_, fun i j e => ?_, fun j h' v e1 e2 e3 => ?_⟩
  · by_cases z : j = k
    · rw [z]; exact (List.getElem?_eq_some_iff.mp eh).1
    · exact p.dom j v ((if_neg z).symm.trans e)
  · have z : j ≠ k := fun z => by
      obtain ⟨h2, q1, q2⟩ := mem_doors.mp (List.mem_of_getElem? e)
      rw [z, eh] at q1
      cases q1
      exact w q2
    exact (if_neg z).trans (p.door i j e)
  · by_cases z : j = k
    · subst z
      rw [eh] at e1
      cases e1
      have e4 := Option.some.inj ((if_pos rfl).symm.trans e3)
      refine ⟨?_, fun b b1 b2 b3 => ?_⟩
      · exact e4.symm.trans (congrArg (mkR h) (same _ _ there))
      · rw [old _ (there b b1 b2 b3)]
        exact there b b1 b2 b3
    · have e4 : pm j = some v := (if_neg z).symm.trans e3
      obtain ⟨q1, q2⟩ := p.hand j h' v e1 e2 e4
      refine ⟨?_, fun b b1 b2 b3 => ?_⟩
      · exact q1.trans (congrArg (mkR h') (same _ _ q2))
      · rw [old _ (q2 b b1 b2 b3)]
        exact q2 b b1 b2 b3
abbrev fullM (n : Nat) (pm : Nat → Option Int) : List Int := (List.range n).map fun k => (pm k).getD 0
theorem fullM_get {n k : Nat} {pm : Nat → Option Int} (h : k < n) : (fullM n pm)[k]? = some ((pm k).getD 0) := by
  rw [List.getElem?_map, List.getElem?_range h]; rfl
theorem Part.full {hs : List HR} {cur : List BR} {ins : List Int} {pm : Nat → Option Int} (p : Part hs cur ins pm) (all : ∀ k, k < hs.length → (pm k).isSome = true) : IsBell hs cur ins (fullM hs.length pm) := by
  have at_ : ∀ k, k < hs.length → ∃ v, pm k = some v ∧ (fullM hs.length pm)[k]? = some v := fun k hk => by
    obtain ⟨v, hv⟩ := Option.isSome_iff_exists.mp (all k hk)
    exact ⟨v, hv, by rw [fullM_get hk, hv]; rfl⟩
  refine ⟨by rw [List.length_map, List.length_range], fun j k e => ?_, fun k h e w => ?_⟩
  · obtain ⟨h, q, _⟩ := mem_doors.mp (List.mem_of_getElem? e)
    obtain ⟨v, e1, e2⟩ := at_ k (List.getElem?_eq_some_iff.mp q).1
    rw [e2, ← e1]
    exact p.door j k e
  · obtain ⟨v, e1, e2⟩ := at_ k (List.getElem?_eq_some_iff.mp e).1
    obtain ⟨q1, q2⟩ := p.hand k h v e w e1
    rw [e2, q1]
    congr 2
    refine takes_ext fun b b1 b2 b3 => ?_
    obtain ⟨x, hx⟩ := Option.isSome_iff_exists.mp (q2 b b1 b2 b3)
    obtain ⟨y, e3, e4⟩ := at_ b.one (p.dom _ _ hx)
    show (pm b.one).getD 0 = (fullM hs.length pm).getD b.one 0
    rw [List.getD_eq_getElem?_getD, e4, e3]
/-! ### the dict of what was made -/
abbrev kN (k : Nat) : Key := .inl ((k : Nat) : Int)
def DM (kvs : List (Key × V)) (pm : Nat → Option Int) : Prop := ∀ k : Nat, valV kvs (kN k) = (pm k).map V.int
theorem kN_inj {a b : Nat} (h : kN a = kN b) : a = b := by
  have : ((a : Nat) : Int) = ((b : Nat) : Int) := Sum.inl.inj h
  omega
theorem DM.put {kvs : List (Key × V)} {pm : Nat → Option Int} (d : DM kvs pm) (k : Nat) (v : Int) : DM (putK kvs (kN k) (.int v)) (putM pm k v) := fun j => by
  rw [valV_put]
  by_cases e : j = k
  · subst e
    rw [if_pos rfl, show putM pm j v j = some v from if_pos rfl]
    rfl
  · rw [if_neg fun z => e (kN_inj z), show putM pm k v j = pm j from if_neg e]
    exact d j
theorem merge_off {k : Nat} : ∀ (ks : List Nat) (xs : List Int) (acc : List (Key × V)), k ∉ ks → valV (mergeK acc ((ks.map kN).zip (xs.map V.int))) (kN k) = valV acc (kN k)
  | [], _, _, _ => rfl
  | _ :: _, [], _, _ => rfl
  | a :: ks, x :: xs, acc, h => by
    have h1 : k ≠ a := fun e => h (by rw [e]; exact List.mem_cons_self ..)
    have h2 : k ∉ ks := fun e => h (List.mem_cons_of_mem _ e)
    show valV (mergeK (putK acc (kN a) (V.int x)) ((ks.map kN).zip (xs.map V.int))) (kN k) = _
    rw [merge_off ks xs _ h2, valV_put, if_neg fun z => h1 (kN_inj z)]
theorem merge_on {k : Nat} {v : Int} : ∀ (ks : List Nat) (xs : List Int) (acc : List (Key × V)) (j : Nat), ks.Nodup → ks[j]? = some k → xs[j]? = some v → valV (mergeK acc ((ks.map kN).zip (xs.map V.int))) (kN k) = some (.int v)
  | [], _, _, _, _, h, _ => nomatch h
  | _ :: _, [], _, _, _, _, h => nomatch h
  | a :: ks, x :: xs, acc, 0, nd, h1, h2 => by
    cases h1
    cases h2
    show valV (mergeK (putK acc (kN k) (V.int v)) ((ks.map kN).zip (xs.map V.int))) (kN k) = _
    rw [merge_off ks xs _ (List.nodup_cons.mp nd).1, valV_put, if_pos rfl]
  | a :: ks, x :: xs, acc, j + 1, nd, h1, h2 => merge_on ks xs _ j (List.nodup_cons.mp nd).2 h1 h2
/-- what the in doors have made -/
def doorM (hs : List HR) (ins : List Int) : Nat → Option Int := fun k => if k ∈ doorsOf "in" hs then ins[(doorsOf "in" hs).idxOf k]? else none
theorem idx_at {l : List Nat} (nd : l.Nodup) {j k : Nat} (h : l[j]? = some k) : l.idxOf k = j := by
  have jl := (List.getElem?_eq_some_iff.mp h).1
  have m := List.mem_of_getElem? h
  have il := List.idxOf_lt_length_of_mem m
  exact (List.getElem_inj nd (h₀ := il) (h₁ := jl)).mp ((List.getElem_idxOf il).trans (List.getElem?_eq_some_iff.mp h).2.symm)
theorem doorM_dm {hs : List HR} {ins : List Int} (hl : ins.length = (doorsOf "in" hs).length) : DM (mergeK [] (((doorsOf "in" hs).map kN).zip (ins.map V.int))) (doorM hs ins) := fun k => by
  unfold doorM
  by_cases e : k ∈ doorsOf "in" hs
  · rw [if_pos e]
    have il := List.idxOf_lt_length_of_mem e
    have e1 : (doorsOf "in" hs)[(doorsOf "in" hs).idxOf k]? = some k := by rw [List.getElem?_eq_getElem il, List.getElem_idxOf]
    have e2 : ins[(doorsOf "in" hs).idxOf k]? = some ins[(doorsOf "in" hs).idxOf k] := List.getElem?_eq_getElem (by omega)
    rw [merge_on _ _ _ _ doors_nodup e1 e2, e2]
    rfl
  · rw [if_neg e, merge_off _ _ _ e]
    rfl
theorem doorM_part {hs : List HR} {cur : List BR} {ins : List Int} : Part hs cur ins (doorM hs ins) := by
  refine ⟨fun k v e => ?_, fun j k e => ?_, fun k h v e w e2 => ?_⟩
  · unfold doorM at e
    by_cases m : k ∈ doorsOf "in" hs
    · obtain ⟨h, q, _⟩ := mem_doors.mp m
      exact (List.getElem?_eq_some_iff.mp q).1
    · rw [if_neg m] at e
      cases e
  · unfold doorM
    rw [if_pos (List.mem_of_getElem? e), idx_at doors_nodup e]
  · unfold doorM at e2
    rw [if_neg fun m => by
      obtain ⟨h2, q1, q2⟩ := mem_doors.mp m
      rw [e] at q1
      cases q1
      exact w q2] at e2
    cases e2
theorem doorM_all {hs : List HR} {ins : List Int} (hl : ins.length = (doorsOf "in" hs).length) {k : Nat} {h : HR} (e : hs[k]? = some h) (w : h.wd = "in") : (doorM hs ins k).isSome = true := by
  have m := mem_doors.mpr ⟨h, e, w⟩
  unfold doorM
  rw [if_pos m]
  have il := List.idxOf_lt_length_of_mem m
  rw [List.getElem?_eq_getElem (by omega)]
  rfl
/-! ### belts as they stand behind some bells -/
def nextB (m : List Int) (b : BR) : BR := if b.th = [] then b else ⟨b.one, b.to, b.th.drop 1 ++ [gD m b.one]⟩
def standB (ms : List (List Int)) (b : BR) : BR := if b.th = [] then b else ⟨b.one, b.to, (b.th ++ ms.map fun m => gD m b.one).drop ms.length⟩
abbrev stand (bs : List BR) (ms : List (List Int)) : List BR := bs.map (standB ms)
theorem stand_one (ms : List (List Int)) (b : BR) : (standB ms b).one = b.one := by unfold standB; split <;> rfl
theorem stand_to (ms : List (List Int)) (b : BR) : (standB ms b).to = b.to := by unfold standB; split <;> rfl
theorem stand_len (ms : List (List Int)) (b : BR) : (standB ms b).th.length = b.th.length := by
  unfold standB
  split
  · rfl
  · rw [List.length_drop, List.length_append, List.length_map]; omega
theorem nil_len {l l' : List Int} (h : l.length = l'.length) : l = [] ↔ l' = [] := by
  cases l <;> cases l' <;> simp at h ⊢
theorem stand_th (ms : List (List Int)) (b : BR) : (standB ms b).th = [] ↔ b.th = [] := nil_len (stand_len ms b)
theorem stand_zero (bs : List BR) : stand bs [] = bs := by
  refine (List.map_congr_left (g := id) fun b _ => ?_).trans (List.map_id _)
  unfold standB
  split
  · rfl
  · show (⟨b.one, b.to, (b.th ++ []).drop 0⟩ : BR) = b
    rw [List.append_nil]
    rfl
theorem stand_next (bs : List BR) (ms : List (List Int)) (m : List Int) : (stand bs ms).map (nextB m) = stand bs (ms ++ [m]) := by
  rw [List.map_map]
  refine List.map_congr_left fun b _ => ?_
  show nextB m (standB ms b) = standB (ms ++ [m]) b
  have hn := stand_th ms b
  by_cases e : b.th = []
  · rw [show nextB m (standB ms b) = standB ms b from if_pos (hn.mpr e)]
    rw [show standB ms b = b from if_pos e, show standB (ms ++ [m]) b = b from if_pos e]
  · rw [show nextB m (standB ms b) = ⟨(standB ms b).one, (standB ms b).to, (standB ms b).th.drop 1 ++ [gD m (standB ms b).one]⟩ from if_neg fun z => e (hn.mp z)]
    rw [stand_one, stand_to, show standB ms b = ⟨b.one, b.to, (b.th ++ ms.map fun m => gD m b.one).drop ms.length⟩ from if_neg e,
      show standB (ms ++ [m]) b = ⟨b.one, b.to, (b.th ++ (ms ++ [m]).map fun m => gD m b.one).drop (ms ++ [m]).length⟩ from if_neg e]
    show (⟨b.one, b.to, ((b.th ++ ms.map fun m => gD m b.one).drop ms.length).drop 1 ++ [gD m b.one]⟩ : BR) = _
    rw [List.drop_drop, List.map_append, ← List.append_assoc, List.length_append]
    congr 1
    refine (List.drop_append_of_le_length ?_).symm
    have := List.length_pos_iff.mpr e
    rw [List.length_append, List.length_map]
    show ms.length + 1 ≤ _
    omega
theorem loose_stand (bs : List BR) (ms : List (List Int)) : looseOf (stand bs ms) = looseOf bs := by
  unfold looseOf
  induction bs with
  | nil => rfl
  | cons b bs ih =>
    have e : (standB ms b).th.isEmpty = b.th.isEmpty := by
      have h := stand_th ms b
      cases h1 : (standB ms b).th <;> cases h2 : b.th <;> simp [h1, h2] at h ⊢
    show List.map _ (List.filter _ (standB ms b :: stand bs ms)) = _
    rw [List.filter_cons, List.filter_cons, e]
    cases b.th.isEmpty
    · exact ih
    · show ((standB ms b).one, (standB ms b).to) :: _ = (b.one, b.to) :: _
      rw [ih, stand_one, stand_to]
/-- what is taken from a belt with trays -/
theorem stand_head {ms : List (List Int)} {b : BR} (f : Nat → Int) (e : b.th ≠ []) : valB f (standB ms b) = (b.th ++ ms.map fun m => gD m b.one).getD ms.length 0 := by
  have hl := stand_len ms b
  have pos := List.length_pos_iff.mpr e
  have et : (standB ms b).th = (b.th ++ ms.map fun m => gD m b.one).drop ms.length := by unfold standB; rw [if_neg e]
  unfold valB
  cases q : (standB ms b).th with
  | nil => rw [q] at hl; simp at hl; omega
  | cons x l =>
    rw [q] at et
    have : ((b.th ++ ms.map fun m => gD m b.one).drop ms.length)[0]? = some x := by rw [← et]; rfl
    rw [List.getElem?_drop, Nat.add_zero] at this
    rw [List.getD_eq_getElem?_getD, this]
    rfl
/-! ### many bells -/
structure WS (hs : List HR) (bs : List BR) (rows ms : List (List Int)) : Prop where
  len : ms.length = rows.length
  at_ : ∀ (t : Nat) (r m : List Int), rows[t]? = some r → ms[t]? = some m → IsBell hs (stand bs (ms.take t)) r m
theorem WS.nil {hs : List HR} {bs : List BR} : WS hs bs [] [] := ⟨rfl, fun t r m e => nomatch e⟩
theorem WS.snoc {hs : List HR} {bs : List BR} {rows ms : List (List Int)} {r m : List Int} (h : WS hs bs rows ms) (b : IsBell hs (stand bs ms) r m) : WS hs bs (rows ++ [r]) (ms ++ [m]) := by
  refine ⟨by rw [List.length_append, List.length_append, h.len]; rfl, fun t r' m' e1 e2 => ?_⟩
  by_cases l : t < ms.length
  · have l2 : t < rows.length := by rw [← h.len]; exact l
    rw [List.getElem?_append_left l2] at e1
    rw [List.getElem?_append_left l] at e2
    rw [List.take_append_of_le_length (Nat.le_of_lt l)]
    exact h.at_ t r' m' e1 e2
  · have tl := (List.getElem?_eq_some_iff.mp e2).1
    rw [List.length_append] at tl
    have et : t = ms.length := by simp at tl; omega
    subst et
    rw [List.getElem?_append_right (Nat.le_refl _), Nat.sub_self] at e2
    rw [h.len, List.getElem?_append_right (Nat.le_refl _), Nat.sub_self] at e1
    cases e1
    cases e2
    rw [List.take_append_of_le_length (Nat.le_refl _), List.take_length]
    exact b
theorem WS.one {hs : List HR} {bs : List BR} {rows ms ms' : List (List Int)} {rk : Nat → Int} (hr : ∀ p ∈ looseOf bs, rk p.1 < rk p.2) (a : WS hs bs rows ms) (b : WS hs bs rows ms') : ms = ms' := by
  have key : ∀ t, ms.take t = ms'.take t := by
    intro t
    induction t with
    | zero => rfl
    | succ t ih =>
      rw [List.take_add_one, List.take_add_one, ih]
      by_cases l : t < rows.length
      · have l1 : t < ms.length := by have := a.len; omega
        have l2 : t < ms'.length := by have := b.len; omega
        have e1 : ms[t]? = some ms[t] := List.getElem?_eq_getElem l1
        have e2 : ms'[t]? = some ms'[t] := List.getElem?_eq_getElem l2
        have e3 : rows[t]? = some rows[t] := List.getElem?_eq_getElem l
        have q1 := a.at_ t _ _ e3 e1
        have q2 := b.at_ t _ _ e3 e2
        rw [ih] at q1
        have := bell_one (rk := rk) (by rw [loose_stand]; exact hr) q1 q2
        rw [e1, e2, this]
      · rw [List.getElem?_eq_none (by have := a.len; omega), List.getElem?_eq_none (by have := b.len; omega)]
  have h1 := key rows.length
  rw [List.take_of_length_le (by rw [a.len]; exact Nat.le_refl _), List.take_of_length_le (by rw [b.len]; exact Nat.le_refl _)] at h1
  exact h1
theorem WS.row {hs : List HR} {bs : List BR} {rows ms : List (List Int)} (h : WS hs bs rows ms) : ∀ m ∈ ms, m.length = hs.length := fun m hm => by
  obtain ⟨t, e⟩ := List.getElem?_of_mem hm
  have tl := (List.getElem?_eq_some_iff.mp e).1
  have e3 : rows[t]? = some (rows[t]'(by rw [← h.len]; exact tl)) := List.getElem?_eq_getElem _
  exact (h.at_ t _ _ e3 e).len
/-- the belts that come to a hand -/
def comingN (bs : List BR) (k : Nat) : List Nat := (List.range bs.length).filter fun i => decide (bs[i]?.map BR.to = some k)
def outsOf (hs : List HR) (m : List Int) : List Int := (doorsOf "out" hs).map (gD m)
/-! ### max, min of a list with a default -/
def rMaxDf (K : PySem.W.Frag) : List V → List V → Hp → VK → Prop := fun xs zs H Q => ∃ (a : Addr) (ns : List Int) (d : V), xs = [.ref a] ∧ zs = [d] ∧ SqL K H a (ns.map V.int) ∧ (ns = [] → Q d H) ∧ ∀ m, m ∈ ns → (∀ y ∈ ns, y ≤ m) → Q (.int m) H
def rMinDf (K : PySem.W.Frag) : List V → List V → Hp → VK → Prop := fun xs zs H Q => ∃ (a : Addr) (ns : List Int) (d : V), xs = [.ref a] ∧ zs = [d] ∧ SqL K H a (ns.map V.int) ∧ (ns = [] → Q d H) ∧ ∀ m, m ∈ ns → (∀ y ∈ ns, m ≤ y) → Q (.int m) H
theorem ints_val {ns : List Int} {its : List Value} (rv : Vals (ns.map V.int) its) : ∀ i v, its.toArray[i]? = some v → ∃ t, v = Value.int (ns.getD i 0) t := fun i v e => by
  rw [List.getElem?_toArray] at e
  have il : i < ns.length := by
    have h1 := (List.getElem?_eq_some_iff.mp e).1
    have h2 := rv.length
    rw [List.length_map] at h2
    omega
  obtain ⟨u, eu, t, ru⟩ := rv.get (i := i) (x := .int ns[i]) (by rw [List.getElem?_map, List.getElem?_eq_getElem il]; rfl)
  rw [e] at eu
  cases eu
  exact ⟨t, by rw [ru, List.getD_eq_getElem?_getD, List.getElem?_eq_getElem il]; rfl⟩
section
variable {X : Cx}
theorem cr_maxDf (K : PySem.W.Frag) (hk : X.K = K) (hc : X.calm = true) : CallRK X (.builtin "max") ["default"] (rMaxDf K) := by
  subst hk
  intro pins s σ H xs zs us ws Q I r r2 h
  obtain ⟨a, ns, d, rfl, rfl, hs, q0, q1⟩ := h
  obtain ⟨its, rv, hl, _⟩ := I.list hs
  rw [Vals.ref1 r]
  obtain ⟨dv, rfl, rd⟩ := vals1 r2
  have hh := I.ok.hd hc
  have ln : its.length = ns.length := by rw [← rv.length, List.length_map]
  show wpAny _ _ (call (.builtin "max") [.ref a] [(Str.ofString "default", dv)]) _ _ s
  refine PySem.call_max_walkD (PySem.W.iter_listW (A := X.A.in1) hh hl.isList fun s₂ e W st hfp hw hk => ?_)
  refine ⟨_, _, _, _, _, _, _, s.heap, (fun i j => decide (ns.getD i 0 > ns.getD j 0)), rfl, W, st, hfp, hw, hk, fun hz s' m => ?_, fun hp => ⟨fun i j vi vj s3 Q3 E3 _ p1 p2 q3 => ?_, fun v s' hP m => ?_⟩⟩
  · obtain ⟨h', tk, rfl, hk'⟩ := PySem.W.moved_old e rfl m
    refine ⟨d, H, I.kept hk', rd, q0 ?_⟩
    exact List.eq_nil_of_length_eq_zero (by have : its.toArray.size = 0 := hz; rw [List.size_toArray] at this; omega)
  · exact (CmpOf.ints_gt (fun i => ns.getD i 0) (ints_val rv)) i j vi vj s3 Q3 E3 p1 p2 q3
  · obtain ⟨h', tk, rfl, hk'⟩ := PySem.W.moved_old e rfl m
    have hp : 0 < its.length := by have : 0 < its.toArray.size := hp; rw [List.size_toArray] at this; exact this
    have hsz : its.toArray.size = its.length := List.size_toArray
    obtain ⟨t, rfl⟩ := ints_val rv _ v hP
    obtain ⟨h1, h2⟩ := argBest_gt (fun i => ns.getD i 0) (its.toArray.size - 1)
    refine ⟨.int _, H, I.kept hk', ⟨_, rfl⟩, q1 _ ?_ fun y hy => ?_⟩
    · have il : argBest (fun i j => decide (ns.getD i 0 > ns.getD j 0)) (its.toArray.size - 1) < ns.length := by omega
      rw [List.getD_eq_getElem?_getD, List.getElem?_eq_getElem il]
      exact List.getElem_mem _
    · obtain ⟨j, hj⟩ := List.getElem?_of_mem hy
      have jl := (List.getElem?_eq_some_iff.mp hj).1
      have := h2 j (by omega)
      rw [show ns.getD j 0 = y by rw [List.getD_eq_getElem?_getD, hj]; rfl] at this
      exact this
theorem cr_minDf (K : PySem.W.Frag) (hk : X.K = K) (hc : X.calm = true) : CallRK X (.builtin "min") ["default"] (rMinDf K) := by
  subst hk
  intro pins s σ H xs zs us ws Q I r r2 h
  obtain ⟨a, ns, d, rfl, rfl, hs, q0, q1⟩ := h
  obtain ⟨its, rv, hl, _⟩ := I.list hs
  rw [Vals.ref1 r]
  obtain ⟨dv, rfl, rd⟩ := vals1 r2
  have hh := I.ok.hd hc
  have ln : its.length = ns.length := by rw [← rv.length, List.length_map]
  show wpAny _ _ (call (.builtin "min") [.ref a] [(Str.ofString "default", dv)]) _ _ s
  refine PySem.call_min_walkD (PySem.W.iter_listW (A := X.A.in1) hh hl.isList fun s₂ e W st hfp hw hk => ?_)
  refine ⟨_, _, _, _, _, _, _, s.heap, (fun i j => decide (ns.getD i 0 < ns.getD j 0)), rfl, W, st, hfp, hw, hk, fun hz s' m => ?_, fun hp => ⟨fun i j vi vj s3 Q3 E3 _ p1 p2 q3 => ?_, fun v s' hP m => ?_⟩⟩
  · obtain ⟨h', tk, rfl, hk'⟩ := PySem.W.moved_old e rfl m
    refine ⟨d, H, I.kept hk', rd, q0 ?_⟩
    exact List.eq_nil_of_length_eq_zero (by have : its.toArray.size = 0 := hz; rw [List.size_toArray] at this; omega)
  · exact (CmpOf.ints_lt (fun i => ns.getD i 0) (ints_val rv)) i j vi vj s3 Q3 E3 p1 p2 q3
  · obtain ⟨h', tk, rfl, hk'⟩ := PySem.W.moved_old e rfl m
    have hp : 0 < its.length := by have : 0 < its.toArray.size := hp; rw [List.size_toArray] at this; exact this
    have hsz : its.toArray.size = its.length := List.size_toArray
    obtain ⟨t, rfl⟩ := ints_val rv _ v hP
    obtain ⟨h1, h2⟩ := argBest_lt (fun i => ns.getD i 0) (its.toArray.size - 1)
    refine ⟨.int _, H, I.kept hk', ⟨_, rfl⟩, q1 _ ?_ fun y hy => ?_⟩
    · have il : argBest (fun i j => decide (ns.getD i 0 < ns.getD j 0)) (its.toArray.size - 1) < ns.length := by omega
      rw [List.getD_eq_getElem?_getD, List.getElem?_eq_getElem il]
      exact List.getElem_mem _
    · obtain ⟨j, hj⟩ := List.getElem?_of_mem hy
      have jl := (List.getElem?_eq_some_iff.mp hj).1
      have := h2 j (by omega)
      rw [show ns.getD j 0 = y by rw [List.getD_eq_getElem?_getD, hj]; rfl] at this
      exact this
end
section
variable {P : Program} {w : World} {K : PySem.W.Frag} {mg : Str → Option Value} {base : Heap}
def sp_made_of_two (K : PySem.W.Frag) : Sp := fun vs H Q _ => ∃ (wd : Str) (a b : Int), vs = [.str wd, .int a, .int b] ∧ Q (.int (mk2 wd a b)) H
theorem ok_made_of_two {f : Addr} {fd : FuncData} (F : Fun K "made_of_two" "made_of_two" s_made_of_two f fd) (T : Top K mg) : FnOk P w K mg base CX0 1 f fd ["word", "one", "other"] (sp_made_of_two K) := by
  refine F.ok sc_made_of_two (fun vs H Q E h => ?_) (fun cdv A outer s H vs Q E hr h => ?_)
  · obtain ⟨wd, a, b, rfl, _⟩ := h
    rfl
  obtain ⟨wd, a, b, rfl, q⟩ := h
  unfold mk2 at q
  refine ⟨_, (pss_cons (ps_if (pt_cmpR op_eq (pv 0) pe_str (nomark _)) (pss_one (ps_ret (pe_op op_add (pv 1) (pv 2)))) pss_nil)
      (pss_cons (ps_if (pt_cmpR op_eq (pv 0) pe_str (nomark _)) (pss_one (ps_ret (pe_op op_sub (pv 1) (pv 2)))) pss_nil)
      (pss_cons (ps_if (pt_cmpR op_eq (pv 0) pe_str (nomark _)) (pss_one (ps_ret (pe_ifExp (pt_cmpR op_lt (pv 1) (pv 2) (nomark _)) pe_int pe_int))) pss_nil)
      (pss_cons (ps_if (pt_cmpR op_eq (pv 0) pe_str (nomark _)) (pss_one (ps_ret (pe_callB (call_max2 rfl) (by rfl) T.m_max (by decide +kernel) (pa_cons (pv 1) (pa_cons (pv 2) pa_nil))))) pss_nil)
      (pss_one (ps_ret (pe_callB (call_min2 rfl) (by rfl) T.m_min (by decide +kernel) (pa_cons (pv 1) (pa_cons (pv 2) pa_nil))))))))), ?_⟩
  refine ⟨_, rfl, rfl, _, rfl, if_str (fun e => ?_) (fun e => ?_)⟩
  · rw [if_pos e] at q
    exact ⟨_, rfl, _, rfl, _, _, rfl, rfl, q⟩
  rw [if_neg e] at q
  refine ⟨_, rfl, rfl, _, rfl, if_str (fun e => ?_) (fun e => ?_)⟩
  · rw [if_pos e] at q
    exact ⟨_, rfl, _, rfl, _, _, rfl, rfl, q⟩
  rw [if_neg e] at q
  refine ⟨_, rfl, rfl, _, rfl, if_str (fun e => ?_) (fun e => ?_)⟩
  · rw [if_pos e] at q
    refine ⟨_, rfl, _, rfl, _, _, rfl, rfl, _, rfl, if_bl (fun c => ?_) (fun c => ?_)⟩
    · rw [if_pos (of_decide_eq_true c)] at q
      exact q
    · rw [if_neg (of_decide_eq_false c)] at q
      exact q
  rw [if_neg e] at q
  refine ⟨_, rfl, rfl, _, rfl, if_str (fun e => ?_) (fun e => ?_)⟩
  · rw [if_pos e] at q
    exact ⟨_, rfl, _, rfl, _, _, rfl, q⟩
  rw [if_neg e] at q
  exact ⟨_, rfl, _, rfl, _, _, rfl, q⟩
theorem inV_two {x y z : Str} : inV (.str x) [.str y, .str z] = true ↔ x = y ∨ x = z := by
  unfold inV
  simp only [List.any_cons, List.any_nil, Bool.or_false, Bool.or_eq_true, eqV, beq_iff_eq]
  constructor
  · rintro (h | h)
    · exact .inl h.symm
    · exact .inr h.symm
  · rintro (h | h)
    · exact .inl h.symm
    · exact .inr h.symm
theorem if_in2 {x y z : Str} {A B : Prop} (h1 : x = y ∨ x = z → A) (h2 : ¬ (x = y ∨ x = z) → B) : if (if false = true then !inV (.str x) [.str y, .str z] else inV (.str x) [.str y, .str z]) = true then A else B := by
  have e : (if false = true then !inV (.str x) [.str y, .str z] else inV (.str x) [.str y, .str z]) = inV (.str x) [.str y, .str z] := if_neg Bool.false_ne_true
  rw [e]
  exact if_bl (fun c => h1 (inV_two.mp c)) (fun c => h2 (fun k => by rw [inV_two.mpr k] at c; cases c))
def sp_made_by (K : PySem.W.Frag) : Sp := fun vs H Q _ => ∃ (r t : Addr) (rl ts : List V) (wd : Str) (n a b c : Int), vs = [.ref r, .ref t] ∧ SqT K H r rl ∧ SqT K H t ts ∧ rl[0]? = some (.str wd) ∧
  (wd = "always" ∨ wd = "times" → rl[1]? = some (.int n)) ∧ (wd ≠ "always" → ts[0]? = some (.int a)) ∧ (wd = "pick" ∨ (wd ≠ "always" ∧ wd ≠ "times" ∧ wd ≠ "same" ∧ wd ≠ "out") → ts[1]? = some (.int b)) ∧ (wd = "pick" → ts[2]? = some (.int c)) ∧
  (-(2 ^ 64) < n ∧ n < 2 ^ 64) ∧ ∀ H', Same H H' → Q (.int (mk wd n a b c)) H'
theorem ok_made_by {f : Addr} {fd : FuncData} (F : Fun K "made_by" "made_by" s_made_by f fd) (T : Top K mg) : FnOk P w K mg base CX0 2 f fd ["rule", "things"] (sp_made_by K) := by
  obtain ⟨f_made_of_two, fd_made_of_two, F_made_of_two, b_made_of_two, m_made_of_two⟩ := T.d_made_of_two
  have G_made_of_two := ok_made_of_two (P := P) (w := w) (base := base) F_made_of_two T
  refine F.ok sc_made_by (fun vs H Q E h => ?_) (fun cdv A outer s H vs Q E hr h => ?_)
  · obtain ⟨r, t, rl, ts, wd, n, a, b, c, rfl, _⟩ := h
    rfl
  obtain ⟨r, t, rl, ts, wd, n, a, b, c, rfl, hR, hT, r0, r1, t0, t1, t2, hn, q⟩ := h
  unfold mk at q
  refine ⟨_, (pss_cons (ps_set (i := 2) sc_made_by.nd rfl (Or.inl rfl) (pe_ix (ix_tupK K rfl) (pv 0) pe_int (fun _ _ => rfl)))
      (pss_cons (ps_if (pt_cmpR op_eq (pv 2) pe_str (nomark _)) (pss_one (ps_ret (pe_ix (ix_tupK K rfl) (pv 0) pe_int (fun _ _ => rfl)))) pss_nil)
      (pss_cons (ps_if (pt_cmpR op_eq (pv 2) pe_str (nomark _)) (pss_one (ps_ret (pe_op op_mul (pe_ix (ix_tupK K rfl) (pv 0) pe_int (fun _ _ => rfl)) (pe_ix (ix_tupK K rfl) (pv 1) pe_int (fun _ _ => rfl))))) pss_nil)
      (pss_cons (ps_if (pt_cmpR op_eq (pv 2) pe_str (nomark _)) (pss_one (ps_ret (pe_ifExp (pt_cmpR op_ne (pe_ix (ix_tupK K rfl) (pv 1) pe_int (fun _ _ => rfl)) pe_int (nomark _)) (pe_ix (ix_tupK K rfl) (pv 1) pe_int (fun _ _ => rfl)) (pe_ix (ix_tupK K rfl) (pv 1) pe_int (fun _ _ => rfl))))) pss_nil)
      (pss_cons (ps_if (pt_cmpR (op_in_seqK K rfl) (pv 2) (pe_tup (pa_cons pe_str (pa_cons pe_str pa_nil))) (by with_unfolding_all rfl)) (pss_one (ps_ret (pe_ix (ix_tupK K rfl) (pv 1) pe_int (fun _ _ => rfl)))) pss_nil)
      (pss_one (ps_ret (pe_call G_made_of_two (hr.mono (by decide)) (by rfl) m_made_of_two F_made_of_two.kp b_made_of_two .nil pass0 (pa_cons (pv 2) (pa_cons (pe_ix (ix_tupK K rfl) (pv 1) pe_int (fun _ _ => rfl)) (pa_cons (pe_ix (ix_tupK K rfl) (pv 1) pe_int (fun _ _ => rfl)) pa_nil))))))))))), ?_⟩
  refine ⟨_, rfl, r, _, _, _, rfl, rfl, hR, atI_nat (j := 0) r0, ?_⟩
  refine ⟨_, rfl, rfl, _, rfl, if_str (fun e1 => ?_) (fun e1 => ?_)⟩
  · have q := q H (fun _ _ e => e)
    rw [if_pos e1] at q
    exact ⟨_, rfl, r, _, _, _, rfl, rfl, hR, atI_nat (j := 1) (r1 (.inl e1)), q⟩
  refine ⟨_, rfl, rfl, _, rfl, if_str (fun e2 => ?_) (fun e2 => ?_)⟩
  · have q := q H (fun _ _ e => e)
    rw [if_neg e1, if_pos e2] at q
    exact ⟨_, rfl, r, _, _, _, rfl, rfl, hR, atI_nat (j := 1) (r1 (.inr e2)), _, rfl, t, _, _, _, rfl, rfl, hT, atI_nat (j := 0) (t0 e1), _, _, rfl, rfl, .inl hn, q⟩
  refine ⟨_, rfl, rfl, _, rfl, if_str (fun e3 => ?_) (fun e3 => ?_)⟩
  · have q := q H (fun _ _ e => e)
    rw [if_neg e1, if_neg e2, if_pos e3] at q
    refine ⟨_, rfl, t, _, _, _, rfl, rfl, hT, atI_nat (j := 0) (t0 e1), rfl, _, rfl, if_bl (fun k => ?_) (fun k => ?_)⟩
    · have k2 : ¬ a = 0 := fun z => by
        rw [z] at k
        exact absurd k (by decide)
      rw [if_neg k2] at q
      exact ⟨_, rfl, t, _, _, _, rfl, rfl, hT, atI_nat (j := 1) (t1 (.inl e3)), q⟩
    · have k2 : a = 0 := by
        by_cases z : a = 0
        · exact z
        · have k3 : (!decide (V.int a = V.int 0)) = false := k
          rw [decide_eq_false (fun y => z (V.int.inj y))] at k3
          cases k3
      rw [if_pos k2] at q
      exact ⟨_, rfl, t, _, _, _, rfl, rfl, hT, atI_nat (j := 2) (t2 e3), q⟩
  refine ⟨_, rfl, (by show 2 ≤ sizeLine; decide), fun p np => ?_⟩
  have s1 := same_new (o := .tup [V.str "same", V.str "out"]) np
  have q := q _ s1
  rw [if_neg e1, if_neg e2, if_neg e3] at q
  refine ⟨p, _, rfl, .inr (SqT.of upd_same), rfl, rfl, _, rfl, if_in2 (fun e4 => ?_) (fun e4 => ?_)⟩
  · rw [if_pos e4] at q
    exact ⟨_, rfl, t, _, _, _, rfl, rfl, same_seqT s1 hT, atI_nat (j := 0) (t0 e1), q⟩
  · rw [if_neg e4] at q
    exact ⟨_, rfl, _, rfl, t, _, _, _, rfl, rfl, same_seqT s1 hT, atI_nat (j := 0) (t0 e1), _, rfl, t, _, _, _, rfl, rfl, same_seqT s1 hT, atI_nat (j := 1) (t1 (.inr ⟨e1, e2, fun z => e4 (.inl z), fun z => e4 (.inr z)⟩)), wd, a, b, rfl, q⟩
end
section
variable {P : Program} {w : World} {K : PySem.W.Frag} {mg : Str → Option Value} {base : Heap}
theorem filt_succ {p : Nat → Bool} (i : Nat) : (List.range (i + 1)).filter p = (List.range i).filter p ++ (if p i = true then [i] else []) := by
  rw [List.range_succ, List.filter_append]
  cases h : p i <;> simp [h]
theorem filt_len {p : Nat → Bool} (i : Nat) : ((List.range i).filter p).length ≤ i := by
  refine Nat.le_trans (List.length_filter_le ..) ?_
  rw [List.length_range]
  exact Nat.le_refl _
def sp_comings (K : PySem.W.Frag) : Sp := fun vs H Q _ => ∃ (r : Addr) (hs : List HR) (bs : List BR) (k : Nat), vs = [.ref r, nV k] ∧ RoomAt H r hs bs ∧ bs.length ≤ 400 ∧ ∀ (p : Addr) (H' : Hp), H p = none → H' p = some (.lst ((comingN bs k).map nV)) → Same H H' → Q (.ref p) H'
theorem ok_comings {f : Addr} {fd : FuncData} (F : Fun K "comings" "comings" s_comings f fd) (T : Top K mg) : FnOk P w K mg base CX0 1 f fd ["room", "hand"] (sp_comings K) := by
  refine F.ok sc_comings (fun vs H Q E h => ?_) (fun cdv A outer s H vs Q E hr h => ?_)
  · obtain ⟨r, hs, bs, k, rfl, _⟩ := h
    rfl
  obtain ⟨r, hs, bs, k, rfl, hR, lb, q⟩ := h
  obtain ⟨ha, ba, hv, bv, er, eh, eb, alh, alb⟩ := hR.ex
  have lbv := alb.length
  refine ⟨_, (pss_one (ps_ret (pe_lc (own := [("number", 2), ("belt", 3)]) (g := gTup K 2 (gCons (gName 2) (gCons (gName 3) gNil))) (by rfl) sc_comings.nd (pi_enumT K rfl (by rfl) T.m_enumerate (pa_cons (pe_ix (ix_tupK K rfl) (pv 0) pe_int (fun _ _ => rfl)) pa_nil)) (blkOk_by (own := [("number", 2), ("belt", 3)]) (N := N_comings) (sc := defScope s_comings) (by decide +kernel)) (fun _ _ _ _ _ => (pg_tupK K rfl rfl (pgs_cons (pg_name (i := 2) sc_comings.nd rfl (Or.inl rfl)) (pgs_cons (pg_name (i := 3) sc_comings.nd rfl (Or.inl rfl)) pgs_nil)))) (fun _ _ _ _ _ => pts_one (pt_cmpR op_eq (pe_ix (ix_tupK K rfl) (pv 3) pe_int (fun _ _ => rfl)) (pv 1) (nomark _))) (fun _ _ _ _ _ => (pv 2))))), ?_⟩
  refine ⟨_, rfl, r, _, _, _, rfl, rfl, SqT.of er, atI_nat (j := 1) rfl, ba, bv, rfl, SqT.of eb, fun D nD => lc_it (J := IteT K ba bv) (n := bv.length) (fun i H5 => H5 D = some (.lst (((List.range i).filter fun j => decide (bs[j]?.map BR.to = some k)).map nV)) ∧ Same H H5) ⟨upd_same, same_new nD⟩ ?_ ?_ ?_ ?_⟩
  · rintro i H5 hi ⟨hD, s5⟩
    exact ⟨SqT.of (s5 _ _ eb), hi⟩
  · rintro H5 ⟨hD, s5⟩
    exact ⟨SqT.of (s5 _ _ eb), rfl⟩
  · rintro i x H5 H6 hi ⟨hD, s5⟩ ⟨t, y, rfl, nt, rfl, ey⟩
    obtain ⟨b, eb2, ⟨t2, g, rfl, e1, e2⟩⟩ := alb.getL ey
    have s6 := s5.trans (same_new (o := .tup [V.int ((i : Nat) : Int), V.ref t2]) nt)
    have hD6 := same_new (o := .tup [V.int ((i : Nat) : Int), V.ref t2]) nt _ _ hD
    have few := filt_len (p := fun j => decide (bs[j]?.map BR.to = some k)) i
    refine ⟨t, _, rfl, SqT.of upd_same, rfl, _, _, rfl, _, _, rfl, rfl, rfl, _, rfl, t2, _, _, _, rfl, rfl, SqT.of (s6 _ _ e1), atI_nat (j := 1) rfl, _, rfl, rfl, _, rfl, if_bl (fun c => ?_) (fun c => ?_)⟩
    · have c : b.to = k := by have := V.int.inj (of_decide_eq_true c); omega
      refine ⟨_, rfl, _, hD6, by rw [List.length_map]; exact small1000 (by omega), ?_, Same.own s6 nD⟩
      rw [upd_same, filt_succ, if_pos (decide_eq_true (by rw [eb2, ← c]; rfl)), List.map_append]
      rfl
    · have c : ¬ b.to = k := fun z => of_decide_eq_false c (by rw [z])
      refine ⟨?_, s6⟩
      rw [filt_succ, if_neg fun z => c (by have := of_decide_eq_true z; rw [eb2] at this; exact Option.some.inj this), List.append_nil]
      exact hD6
  · rintro H5 ⟨hD, s5⟩
    refine q D H5 nD ?_ s5
    rw [hD, lbv]
    rfl
def sp_doors (z : Str) : Sp := fun vs H Q _ => ∃ (r : Addr) (hs : List HR) (bs : List BR), vs = [.ref r] ∧ RoomAt H r hs bs ∧ hs.length ≤ 400 ∧ (∀ h ∈ hs, GoodHand h) ∧ ∀ (p : Addr) (H' : Hp), H p = none → H' p = some (.lst ((doorsOf z hs).map nV)) → Same H H' → Q (.ref p) H'
abbrev sp_doors_in (K : PySem.W.Frag) : Sp := sp_doors "in"
abbrev sp_doors_out (K : PySem.W.Frag) : Sp := sp_doors "out"
theorem ok_doors_in {f : Addr} {fd : FuncData} (F : Fun K "doors_in" "doors_in" s_doors_in f fd) (T : Top K mg) : FnOk P w K mg base CX0 1 f fd ["room"] (sp_doors_in K) := by
  refine F.ok sc_doors_in (fun vs H Q E h => ?_) (fun cdv A outer s H vs Q E hr h => ?_)
  · obtain ⟨r, hs, bs, rfl, _⟩ := h
    rfl
  obtain ⟨aI, mI, hI⟩ := T.x_in
  obtain ⟨r, hs, bs, rfl, hR, lb, good, q⟩ := h
  obtain ⟨ha, ba, hv, bv, er, eh, eb, alh, alb⟩ := hR.ex
  have lhv := alh.length
  refine ⟨_, (pss_one (ps_ret (pe_lc (own := [("number", 1), ("hand", 2)]) (g := gTup K 2 (gCons (gName 1) (gCons (gName 2) gNil))) (by rfl) sc_doors_in.nd (pi_enumT K rfl (by rfl) T.m_enumerate (pa_cons (pe_ix (ix_tupK K rfl) (pv 0) pe_int (fun _ _ => rfl)) pa_nil)) (blkOk_by (own := [("number", 1), ("hand", 2)]) (N := N_doors_in) (sc := defScope s_doors_in) (by decide +kernel)) (fun _ _ _ _ _ => (pg_tupK K rfl rfl (pgs_cons (pg_name (i := 1) sc_doors_in.nd rfl (Or.inl rfl)) (pgs_cons (pg_name (i := 2) sc_doors_in.nd rfl (Or.inl rfl)) pgs_nil)))) (fun _ _ _ _ _ => pts_one (pt_cmpR (op_eqDK K rfl hr.units) (pe_ix (ix_tupK K rfl) (pv 2) pe_int (fun _ _ => rfl)) (pe_glob (v := .ref aI) (by rfl) mI rfl) (nomark _))) (fun _ _ _ _ _ => (pv 1))))), ?_⟩
  refine ⟨_, rfl, r, _, _, _, rfl, rfl, SqT.of er, atI_nat (j := 0) rfl, ha, hv, rfl, SqT.of eh, fun D nD => lc_it (J := IteT K ha hv) (n := hv.length) (fun i H5 => H5 D = some (.lst (((List.range i).filter fun j => decide (hs[j]?.map HR.wd = some ("in" : Str))).map nV)) ∧ Same H H5) ⟨upd_same, same_new nD⟩ ?_ ?_ ?_ ?_⟩
  · rintro i H5 hi ⟨hD, s5⟩
    exact ⟨SqT.of (s5 _ _ eh), hi⟩
  · rintro H5 ⟨hD, s5⟩
    exact ⟨SqT.of (s5 _ _ eh), rfl⟩
  · rintro i x H5 H6 hi ⟨hD, s5⟩ ⟨t, y, rfl, nt, rfl, ey⟩
    obtain ⟨hh, eb2, ⟨t2, g, rfl, e1, e2⟩⟩ := alh.getL ey
    have gh := good _ (List.mem_of_getElem? eb2)
    have s6 := s5.trans (same_new (o := .tup [V.int ((i : Nat) : Int), V.ref t2]) nt)
    have hD6 := same_new (o := .tup [V.int ((i : Nat) : Int), V.ref t2]) nt _ _ hD
    have few := filt_len (p := fun j => decide (hs[j]?.map HR.wd = some ("in" : Str))) i
    refine ⟨t, _, rfl, SqT.of upd_same, rfl, _, _, rfl, _, _, rfl, rfl, rfl, _, rfl, t2, _, _, _, rfl, rfl, SqT.of (s6 _ _ e1), atI_nat (j := 0) rfl, ?_⟩
    refine ⟨_, _, rule_dp (s6 _ _ e2), .tup (hI _) (.cons (.str _) .nil), rule_shaped gh.lay, one_shaped (by decide +kernel), _, rfl, ?_⟩
    rw [rule_eqv, gh.door "in" (.inl rfl)]
    by_cases c : hh.wd = "in"
    · rw [decide_eq_true c]
      refine if_bl (fun _ => ⟨_, rfl, _, hD6, by rw [List.length_map]; exact small1000 (by omega), ?_, Same.own s6 nD⟩) (fun z => nomatch z)
      rw [upd_same, filt_succ, if_pos (decide_eq_true (by rw [eb2, ← c]; rfl)), List.map_append]
      rfl
    · rw [decide_eq_false c]
      refine if_bl (fun z => nomatch z) (fun _ => ⟨?_, s6⟩)
      rw [filt_succ, if_neg fun z => c (by have := of_decide_eq_true z; rw [eb2] at this; exact Option.some.inj this), List.append_nil]
      exact hD6
  · rintro H5 ⟨hD, s5⟩
    refine q D H5 nD ?_ s5
    rw [hD, lhv]
    rfl
end
/-- a tuple of whole numbers -/
def RowAt (H : Hp) (v : V) (m : List Int) : Prop := ∃ t : Addr, v = .ref t ∧ H t = some (.tup (m.map V.int))
theorem RowAt.keep {H H' : Hp} {v : V} {m : List Int} (a : RowAt H v m) (k : TK H H') : RowAt H' v m := by
  obtain ⟨t, e, h⟩ := a
  exact ⟨t, e, k _ _ h⟩
theorem gD_get {m : List Int} {k : Nat} (h : k < m.length) : m[k]? = some (gD m k) := by
  show _ = some (m.getD k 0)
  rw [List.getD_eq_getElem?_getD, List.getElem?_eq_getElem h]; rfl
theorem at_row {m : List Int} {k : Nat} (h : k < m.length) : atI (m.map V.int) ((k : Nat) : Int) = some (.int (gD m k)) := atI_nat (by rw [List.getElem?_map, gD_get h]; rfl)
theorem soon_one {ls : List (Nat × Nat)} : ∀ {left o1 o2 : List Nat}, Soon ls left o1 → Soon ls left o2 → o1 = o2 := by
  intro left o1 o2 h
  induction h generalizing o2 with
  | nil =>
    intro h2
    cases h2 with
    | nil => rfl
    | cons a => cases a
  | cons a b c d ih =>
    intro h2
    cases h2 with
    | nil => cases a
    | @cons _ ord k2 a2 b2 c2 d2 =>
      have e := Nat.le_antisymm (c _ a2 b2) (c2 _ a b)
      subst e
      rw [ih d2]
theorem soon_len {ls : List (Nat × Nat)} {left ord : List Nat} (h : Soon ls left ord) : ord.length = left.length := by
  induction h with
  | nil => rfl
  | cons a b c d ih =>
    rw [List.length_cons, ih, List.length_erase_of_mem a]
    have := List.length_pos_of_mem a
    omega
theorem soon_mem {ls : List (Nat × Nat)} {left ord : List Nat} (h : Soon ls left ord) : ∀ x ∈ ord, x ∈ left := by
  induction h with
  | nil => exact fun _ z => nomatch z
  | cons a b c d ih =>
    intro x hx
    rcases List.mem_cons.mp hx with e | e
    · rw [e]; exact a
    · exact List.mem_of_mem_erase (ih x e)
section
variable {P : Program} {w : World} {K : PySem.W.Frag} {mg : Str → Option Value} {base : Heap}
/-- a hand and the belts that come to it -/
def PlanAt (Z : Hp) (D : Addr) (bs : List BR) (H : Hp) (v : V) (k : Nat) : Prop := ∃ t l : Addr, v = .ref t ∧ H t = some (.tup [nV k, .ref l]) ∧ H l = some (.lst ((comingN bs k).map nV)) ∧ l ≠ D ∧ Z t = none ∧ Z l = none
theorem PlanAt.same {Z : Hp} {D : Addr} {bs : List BR} {H H' : Hp} {v : V} {k : Nat} (a : PlanAt Z D bs H v k) (s : Same H H') : PlanAt Z D bs H' v k := by
  obtain ⟨t, l, e, h1, h2, n⟩ := a
  exact ⟨t, l, e, s _ _ h1, s _ _ h2, n⟩
theorem PlanAt.own {Z : Hp} {D : Addr} {bs : List BR} {H : Hp} {v : V} {k : Nat} {xs ys : List V} (a : PlanAt Z D bs H v k) (h : H D = some (.lst xs)) : PlanAt Z D bs (upd H D (.lst ys)) v k := by
  obtain ⟨t, l, e, h1, h2, n⟩ := a
  exact ⟨t, l, e, TK.lst h _ _ h1, by rw [upd_ne n.1]; exact h2, n⟩
def sp_work_plan (K : PySem.W.Frag) : Sp := fun vs H Q _ => ∃ (r : Addr) (hs : List HR) (bs : List BR) (rk : Nat → Int), vs = [.ref r] ∧ RoomAt H r hs bs ∧ hs.length ≤ 400 ∧ bs.length ≤ 400 ∧ (∀ b ∈ bs, b.one < hs.length ∧ b.to < hs.length) ∧ (∀ p ∈ looseOf bs, rk p.1 < rk p.2) ∧
  ∀ (p D : Addr) (ord : List Nat) (pv : List V) (H' : Hp), H p = none → H' p = some (.lst pv) → All2 (PlanAt H D bs H') pv ord → Soon (looseOf bs) (List.range hs.length) ord → Same H H' → Q (.ref p) H'
theorem ok_work_plan {f : Addr} {fd : FuncData} (F : Fun K "work_plan" "work_plan" s_work_plan f fd) (T : Top K mg) : FnOk P w K mg base CX0 2 f fd ["room"] (sp_work_plan K) := by
  obtain ⟨f_comings, fd_comings, F_comings, b_comings, m_comings⟩ := T.d_comings
  have G_comings := ok_comings (P := P) (w := w) (base := base) F_comings T
  obtain ⟨f_work_order, fd_work_order, F_work_order, b_work_order, m_work_order⟩ := T.d_work_order
  have G_work_order := ok_work_order (P := P) (w := w) (base := base) F_work_order T
  refine F.ok sc_work_plan (fun vs H Q E h => ?_) (fun cdv A outer s H vs Q E hr h => ?_)
  · obtain ⟨r, hs, bs, rk, rfl, _⟩ := h
    rfl
  obtain ⟨r, hs, bs, rk, rfl, hR, lh, lb, ends, hrk, q⟩ := h
  refine ⟨_, (pss_one (ps_ret (pe_lc (own := [("hand", 1)]) (g := gName 1) (tt := tYes) (by rfl) sc_work_plan.nd (pi_listK K rfl (pe_call G_work_order (hr.mono (by decide)) (by rfl) m_work_order F_work_order.kp b_work_order .nil pass0 (pa_cons (pv 0) pa_nil))) (blkOk_by (own := [("hand", 1)]) (N := N_work_plan) (sc := defScope s_work_plan) (by decide +kernel)) (fun _ _ _ _ _ => (pg_name (i := 1) sc_work_plan.nd rfl (Or.inl rfl))) (fun _ _ _ _ _ => pts_nil) (fun _ _ _ _ _ => (pe_tup (pa_cons (pv 1) (pa_cons (pe_call G_comings (hr.mono (by decide)) (by rfl) m_comings F_comings.kp b_comings .nil pass0 (pa_cons (pv 0) (pa_cons (pv 1) pa_nil))) pa_nil))))))), ?_⟩
  refine ⟨_, rfl, r, hs, bs, rk, rfl, hR, lh, lb, ends, hrk, fun od ord H1 nod hod s1 soon => ?_⟩
  have lo := soon_len soon
  rw [List.length_range] at lo
  refine ⟨od, rfl, ⟨_, SqL.of hod⟩, fun D nD => lc_list (K := K) (a := od) (xs := ord.map nV) (fun i H5 => ∃ pv : List V, H5 D = some (.lst pv) ∧ All2 (PlanAt H D bs H5) pv (ord.take i) ∧ Same H1 H5) ⟨[], upd_same, .nil, same_new nD⟩ (fun i H5 _ ⟨_, _, _, s5⟩ => SqL.of (s5 _ _ hod)) ?_ ?_⟩
  · rintro i x H5 hx ⟨pv, hD, al, s5⟩
    rw [List.getElem?_map] at hx
    cases ek : ord[i]? with
    | none => rw [ek] at hx; cases hx
    | some k =>
    rw [ek] at hx
    obtain rfl : nV k = x := Option.some.inj hx
    have il := (List.getElem?_eq_some_iff.mp ek).1
    refine ⟨rfl, yes_in ⟨_, rfl, _, rfl, _, rfl, r, hs, bs, k, rfl, hR.keep (TK.same (s1.trans s5)), lb, fun l H6 nl hl s6 => ⟨(by show 2 ≤ sizeLine; decide), fun t nt => ⟨pv, same_new nt _ _ (s6 _ _ hD), ?_, pv ++ [V.ref t], upd_same, ?_, Same.own ((s5.trans s6).trans (same_new nt)) nD⟩⟩⟩⟩
    · have := al.length
      rw [List.length_take] at this
      exact small1000 (by omega)
    · rw [List.take_add_one, ek]
      have h6 : All2 (PlanAt H D bs (upd H6 t (.tup [nV k, V.ref l]))) (pv ++ [V.ref t]) (ord.take i ++ [k]) := (al.imp fun _ _ z => z.same (s6.trans (same_new nt))).snoc ⟨t, l, rfl, upd_same, same_new nt _ _ hl, (ne_of_none hD nl).symm, same_none ((s1.trans s5).trans s6) nt, same_none (s1.trans s5) nl⟩
      exact h6.imp fun _ _ z => z.own (same_new nt _ _ (s6 _ _ hD))
  · rintro H5 ⟨pv, hD, al, s5⟩
    rw [List.length_map, List.take_length] at al
    exact q D D ord pv H5 (same_none s1 nD) hD al soon (s1.trans s5)
theorem dget_of {H : Hp} {a : Addr} {kvs : List (Key × V)} {k : Nat} {o : Option V} (e : H a = some (.dK kvs)) (h : valV kvs (kN k) = o) : DGet H a (nV k) o := h ▸ DGet.k (k := kN k) e
def sp_thing_taken (K : PySem.W.Frag) : Sp := fun vs H Q _ => ∃ (v : V) (b : BR) (d : Addr) (kvs : List (Key × V)) (pm : Nat → Option Int), vs = [v, .ref d] ∧ BeltAt H v b ∧ H d = some (.dK kvs) ∧ DM kvs pm ∧ (b.th = [] → (pm b.one).isSome = true) ∧ Q (.int (valB (fun j => (pm j).getD 0) b)) H
theorem ok_thing_taken {f : Addr} {fd : FuncData} (F : Fun K "thing_taken" "thing_taken" s_thing_taken f fd) (T : Top K mg) : FnOk P w K mg base CX0 1 f fd ["belt", "made"] (sp_thing_taken K) := by
  refine F.ok sc_thing_taken (fun vs H Q E h => ?_) (fun cdv A outer s H vs Q E hr h => ?_)
  · obtain ⟨v, b, d, kvs, pm, rfl, _⟩ := h
    rfl
  obtain ⟨v, b, d, kvs, pm, rfl, ⟨t, g, rfl, e1, e2⟩, hd, dm, av, q⟩ := h
  refine ⟨_, (pss_cons (ps_asg (pv 0) (pg_tupK K rfl rfl (pgs_cons (pg_name (i := 2) sc_thing_taken.nd rfl (Or.inl rfl)) (pgs_cons (pg_name (i := 3) sc_thing_taken.nd rfl (Or.inl rfl)) (pgs_cons (pg_name (i := 4) sc_thing_taken.nd rfl (Or.inl rfl)) pgs_nil)))))
      (pss_one (ps_ret (pe_ifExp (pt_truthK K rfl (pv 4) (by intro _; rfl)) (pe_ix (ix_tupK K rfl) (pv 4) pe_int (fun _ _ => rfl)) (pe_dget (hu_of hr) (pv 1) (pv 2) (fun _ _ => rfl)))))), ?_⟩
  refine ⟨_, rfl, t, _, rfl, SqT.of e1, rfl, _, _, rfl, _, _, rfl, _, _, rfl, rfl, ?_⟩
  refine ⟨_, rfl, _, .inr (.inl ⟨_, SqT.of e2, rfl⟩), ?_⟩
  cases eb : b.th with
  | nil =>
    rw [valB_nil eb] at q
    obtain ⟨x, hx⟩ := Option.isSome_iff_exists.mp (av eb)
    rw [hx] at q
    refine if_bl (fun z => nomatch z) (fun _ => ⟨_, rfl, _, rfl, d, .int x, rfl, dget_of hd ?_, q⟩)
    rw [dm, hx]
    rfl
  | cons x l =>
    have ev : valB (fun j => (pm j).getD 0) b = x := by unfold valB; rw [eb]
    rw [ev] at q
    rw [eb] at e2
    exact if_bl (fun _ => ⟨_, rfl, g, _, _, _, rfl, rfl, SqT.of e2, atI_nat (j := 0) rfl, q⟩) (fun z => nomatch z)
def sp_belt_behind_bell (K : PySem.W.Frag) : Sp := fun vs H Q _ => ∃ (v : V) (b : BR) (t : Addr) (m : List Int), vs = [v, .ref t] ∧ BeltAt H v b ∧ H t = some (.tup (m.map V.int)) ∧ b.one < m.length ∧ b.th.length ≤ 400 ∧ ∀ (u : V) (H' : Hp), BeltAt H' u (nextB m b) → Same H H' → Q u H'
theorem ok_belt_behind_bell {f : Addr} {fd : FuncData} (F : Fun K "belt_behind_bell" "belt_behind_bell" s_belt_behind_bell f fd) (T : Top K mg) : FnOk P w K mg base CX0 1 f fd ["belt", "made"] (sp_belt_behind_bell K) := by
  refine F.ok sc_belt_behind_bell (fun vs H Q E h => ?_) (fun cdv A outer s H vs Q E hr h => ?_)
  · obtain ⟨v, b, t, m, rfl, _⟩ := h
    rfl
  obtain ⟨v, b, tm, m, rfl, hb, htm, om, lt, q⟩ := h
  obtain ⟨t, g, rfl, e1, e2⟩ := id hb
  refine ⟨_, (pss_cons (ps_asg (pv 0) (pg_tupK K rfl rfl (pgs_cons (pg_name (i := 2) sc_belt_behind_bell.nd rfl (Or.inl rfl)) (pgs_cons (pg_name (i := 3) sc_belt_behind_bell.nd rfl (Or.inl rfl)) (pgs_cons (pg_name (i := 4) sc_belt_behind_bell.nd rfl (Or.inl rfl)) pgs_nil)))))
      (pss_one (ps_ret (pe_ifExp (pt_truthK K rfl (pv 4) (by intro _; rfl)) (pe_tup (pa_cons (pv 2) (pa_cons (pv 3) (pa_cons (pe_op (op_catAK K rfl) (pe_slice (sl_tupAK K rfl) (pv 4) (po_some pe_int) po_none) (pe_tup (pa_cons (pe_ix (ix_tupK K rfl) (pv 1) (pv 2) (fun _ _ => rfl)) pa_nil))) pa_nil)))) (pv 0))))), ?_⟩
  refine ⟨_, rfl, t, _, rfl, SqT.of e1, rfl, _, _, rfl, _, _, rfl, _, _, rfl, rfl, ?_⟩
  refine ⟨_, rfl, _, .inr (.inl ⟨_, SqT.of e2, rfl⟩), ?_⟩
  unfold nextB at q
  cases eb : b.th with
  | nil =>
    rw [if_pos eb] at q
    exact if_bl (fun z => nomatch z) (fun _ => ⟨_, rfl, q _ _ hb (fun _ _ e => e)⟩)
  | cons x l =>
    rw [if_neg (by rw [eb]; exact fun z => nomatch z), eb] at q
    rw [eb] at e2 lt
    have lt : l.length + 1 ≤ 400 := lt
    have ec : cutV ((x :: l).map V.int) (some 1) none = l.map V.int := by
      have := cut_drop ((x :: l).map V.int) 1
      exact this
    refine if_bl (fun _ => ⟨_, rfl, _, rfl, _, rfl, _, rfl, g, _, rfl, SqT.of e2, (fun z => ?_), fun _ p np => ?_⟩) (fun z => nomatch z)
    · exact absurd z.1 (by rw [show (1 : Int) = ((1 : Nat) : Int) from rfl, HT.sIx_nat]; simp)
    rw [ec]
    refine ⟨_, rfl, _, rfl, tm, _, _, _, rfl, rfl, SqT.of (same_new np _ _ htm), at_row om, (by show 1 ≤ sizeLine; decide), fun p2 np2 => ?_⟩
    have s2 := (same_new (o := .tup (l.map V.int)) np).trans (same_new (o := .tup [V.int (gD m b.one)]) np2)
    have hp2 := same_new (o := .tup [V.int (gD m b.one)]) np2 _ _ (upd_same (H := H) (a := p) (o := .tup (l.map V.int)))
    refine ⟨p, p2, _, _, rfl, rfl, SqT.of hp2, SqT.of upd_same, ?_, fun z => ?_, (fun z y => nomatch y), fun z _ p3 np3 => ?_⟩
    · rw [List.length_map]; exact little (by show l.length + 1 ≤ 1000; omega)
    · have zl : l = [] := by cases l with | nil => rfl | cons a b => cases z
      subst zl
      refine ⟨(by show 3 ≤ sizeLine; decide), fun p4 np4 => q (.ref p4) _ ⟨p4, p2, rfl, upd_same, ?_⟩ (s2.trans (same_new np4))⟩
      exact same_new np4 _ _ upd_same
    · refine ⟨(by show 3 ≤ sizeLine; decide), fun p4 np4 => q (.ref p4) _ ⟨p4, p3, rfl, upd_same, ?_⟩ ((s2.trans (same_new np3)).trans (same_new np4))⟩
      have := same_new (o := .tup [nV b.one, nV b.to, V.ref p3]) np4 _ _ (upd_same (H := upd (upd H p (.tup (l.map V.int))) p2 (.tup [V.int (gD m b.one)])) (a := p3) (o := .tup (l.map V.int ++ [V.int (gD m b.one)])))
      rw [this]
      show _ = some (HO.tup ((l ++ [gD m b.one]).map V.int))
      rw [List.map_append]
      rfl
def sp_behind_bell (K : PySem.W.Frag) : Sp := fun vs H Q _ => ∃ (r t : Addr) (hs : List HR) (cur : List BR) (m : List Int), vs = [.ref r, .ref t] ∧ RoomAt H r hs cur ∧ H t = some (.tup (m.map V.int)) ∧ (∀ b ∈ cur, b.one < m.length ∧ b.th.length ≤ 400) ∧ cur.length ≤ 400 ∧ ∀ (p : Addr) (H' : Hp), RoomAt H' p hs (cur.map (nextB m)) → Same H H' → Q (.ref p) H'
theorem ok_behind_bell {f : Addr} {fd : FuncData} (F : Fun K "behind_bell" "behind_bell" s_behind_bell f fd) (T : Top K mg) : FnOk P w K mg base CX0 2 f fd ["room", "made"] (sp_behind_bell K) := by
  obtain ⟨f_belt_behind_bell, fd_belt_behind_bell, F_belt_behind_bell, b_belt_behind_bell, m_belt_behind_bell⟩ := T.d_belt_behind_bell
  have G_belt_behind_bell := ok_belt_behind_bell (P := P) (w := w) (base := base) F_belt_behind_bell T
  refine F.ok sc_behind_bell (fun vs H Q E h => ?_) (fun cdv A outer s H vs Q E hr h => ?_)
  · obtain ⟨r, t, hs, cur, m, rfl, _⟩ := h
    rfl
  obtain ⟨r, t, hs, cur, m, rfl, hR, ht, hb, lc, q⟩ := h
  obtain ⟨ha, ba, hv, bv, er, eh, eb, alh, alb⟩ := hR.ex
  have lbv := alb.length
  refine ⟨_, (pss_cons (ps_asg (pv 0) (pg_tupK K rfl rfl (pgs_cons (pg_name (i := 2) sc_behind_bell.nd rfl (Or.inl rfl)) (pgs_cons (pg_name (i := 3) sc_behind_bell.nd rfl (Or.inl rfl)) pgs_nil))))
      (pss_one (ps_ret (pe_tup (pa_cons (pv 2) (pa_cons (pe_callTy (call_tuple_ofK K rfl) (by rfl) T.m_tuple (by decide +kernel) (pa_cons (pe_lc (own := [("belt", 4)]) (g := gName 4) (tt := tYes) (by rfl) sc_behind_bell.nd (pi_tupK K rfl (pv 3)) (blkOk_by (own := [("belt", 4)]) (N := N_behind_bell) (sc := defScope s_behind_bell) (by decide +kernel)) (fun _ _ _ _ _ => (pg_name (i := 4) sc_behind_bell.nd rfl (Or.inl rfl))) (fun _ _ _ _ _ => pts_nil) (fun _ _ _ _ _ => (pe_call G_belt_behind_bell (hr.mono (by decide)) (by rfl) m_belt_behind_bell F_belt_behind_bell.kp b_belt_behind_bell .nil pass0 (pa_cons (pv 4) (pa_cons (pv 1) pa_nil))))) pa_nil)) pa_nil)))))), ?_⟩
  refine ⟨_, rfl, r, _, rfl, SqT.of er, rfl, _, _, rfl, _, _, rfl, rfl, ?_⟩
  refine ⟨_, rfl, _, rfl, ba, rfl, ⟨_, SqT.of eb⟩, fun D nD => lc_tup (K := K) (a := ba) (xs := bv) (fun i H5 => ∃ lv : List V, H5 D = some (.lst lv) ∧ All2 (BeltAt H5) lv ((cur.take i).map (nextB m)) ∧ Same H H5) ⟨[], upd_same, .nil, same_new nD⟩ (fun i H5 _ ⟨_, _, _, s5⟩ => SqT.of (s5 _ _ eb)) ?_ ?_⟩
  · rintro i x H5 hx ⟨lv, hD, al, s5⟩
    obtain ⟨b, eb2, hB⟩ := alb.getL hx
    have il := (List.getElem?_eq_some_iff.mp eb2).1
    obtain ⟨b1, b2⟩ := hb b (List.mem_of_getElem? eb2)
    refine ⟨rfl, yes_in ⟨_, rfl, _, rfl, x, b, t, m, rfl, hB.keep (TK.same s5), s5 _ _ ht, b1, b2, fun u H6 hu s6 => ⟨lv, s6 _ _ hD, ?_, lv ++ [u], upd_same, ?_, Same.own (s5.trans s6) nD⟩⟩⟩
    · have := al.length
      rw [List.length_map, List.length_take] at this
      exact small1000 (by omega)
    · rw [List.take_add_one, eb2, List.map_append]
      exact ((al.imp fun _ _ z => z.keep (TK.same s6)).snoc hu).imp fun _ _ z => z.keep (TK.lst (s6 _ _ hD))
  · rintro H5 ⟨lv, hD, al, s5⟩
    rw [lbv, List.take_length] at al
    refine ⟨D, _, rfl, .inl ⟨SqL.of hD, fun p np => ⟨(by show 2 ≤ sizeLine; decide), fun p2 np2 => ?_⟩⟩⟩
    have s6 : Same H (upd (upd H5 p (.tup lv)) p2 (.tup [V.ref ha, V.ref p])) := (s5.trans (same_new np)).trans (same_new np2)
    exact q p2 _ ⟨ha, p, hv, lv, upd_same, s6 _ _ eh, same_new np2 _ _ upd_same, alh.imp fun _ _ z => z.keep (TK.same s6), al.imp fun _ _ z => z.keep ((TK.new np).trans (TK.new np2))⟩ s6
end
theorem filt_map {α β : Type} (p : Option α → Bool) (g : Option α → β) (l : List α) : ∀ n, n ≤ l.length → ((List.range n).filter fun i => p l[i]?).map (fun i => g l[i]?) = ((l.take n).filter fun b => p (some b)).map fun b => g (some b)
  | 0, _ => rfl
  | n + 1, h => by
    have e : l[n]? = some l[n] := List.getElem?_eq_getElem (by omega)
    rw [filt_succ, List.map_append, filt_map p g l n (by omega), List.take_add_one, e, List.filter_append, List.map_append]
    congr 1
    cases k : p (some l[n])
    · rw [if_neg Bool.false_ne_true]
      simp [k]
    · rw [if_pos rfl]
      simp [k, e]
def valI (cur : List BR) (f : Nat → Int) (i : Nat) : Int := match cur[i]? with | some b => valB f b | none => 0
theorem coming_takes (cur : List BR) (f : Nat → Int) (k : Nat) : (comingN cur k).map (valI cur f) = takes cur f k := by
  have := filt_map (fun o => decide (o.map BR.to = some k)) (fun o : Option BR => match o with | some b => valB f b | none => 0) cur cur.length (Nat.le_refl _)
  rw [List.take_length] at this
  refine this.trans ?_
  unfold takes
  congr 1
  refine List.filter_congr fun b _ => ?_
  simp
theorem takes_len {cur : List BR} {f : Nat → Int} {k : Nat} : (takes cur f k).length = (cur.map BR.to).count k := by
  unfold takes
  rw [List.length_map, List.count_eq_countP, List.countP_map, List.countP_eq_length_filter]
  congr 1
theorem coming_mem {cur : List BR} {k i : Nat} (h : i ∈ comingN cur k) : ∃ b, cur[i]? = some b ∧ b.to = k := by
  unfold comingN at h
  have h := (List.mem_filter.mp h).2
  have h := of_decide_eq_true h
  cases e : cur[i]? with
  | none => rw [e] at h; cases h
  | some b => rw [e] at h; exact ⟨b, rfl, Option.some.inj h⟩
theorem coming_len {cur : List BR} {k : Nat} : (comingN cur k).length ≤ cur.length := filt_len _
/-- what made_by asks of a good hand and what it takes -/
theorem getD_map {xs : List Int} {j : Nat} (h : j < xs.length) : (xs.map V.int)[j]? = some (.int (xs.getD j 0)) := by
  rw [List.getElem?_map, List.getElem?_eq_getElem h, List.getD_eq_getElem?_getD, List.getElem?_eq_getElem h]; rfl
theorem needs_some {wd : Str} (h1 : wd ≠ "in") (h2 : wd ≠ "always") : 1 ≤ needs wd := by
  unfold needs
  rw [if_neg (by simp [h1, h2])]
  split
  · exact Int.le_refl _
  · split <;> decide
theorem needs_two {wd : Str} (h1 : wd ≠ "in") (h2 : wd ≠ "always") (h3 : wd ≠ "times") (h4 : wd ≠ "same") (h5 : wd ≠ "out") : 2 ≤ needs wd := by
  unfold needs
  rw [if_neg (by simp [h1, h2]), if_neg (by simp [h3, h4, h5])]
  split <;> decide
theorem needs_pick : needs "pick" = 3 := by decide +kernel
structure Args (h : HR) (rl ts : List V) (n a b c : Int) : Prop where
  r0 : rl[0]? = some (.str h.wd)
  r1 : h.wd = "always" ∨ h.wd = "times" → rl[1]? = some (.int n)
  t0 : h.wd ≠ "always" → ts[0]? = some (.int a)
  t1 : h.wd = "pick" ∨ (h.wd ≠ "always" ∧ h.wd ≠ "times" ∧ h.wd ≠ "same" ∧ h.wd ≠ "out") → ts[1]? = some (.int b)
  t2 : h.wd = "pick" → ts[2]? = some (.int c)
  big : -(2 ^ 64) < n ∧ n < 2 ^ 64
theorem args_of {h : HR} (g : GoodHand h) (w : h.wd ≠ "in") {xs : List Int} (hl : ((xs.length : Nat) : Int) = needs h.wd) : Args h (ruleL h) (xs.map V.int) (h.no.getD 0) (xs.getD 0 0) (xs.getD 1 0) (xs.getD 2 0) := by
  refine ⟨rfl, fun e => ?_, fun e => getD_map ?_, fun e => getD_map ?_, fun e => getD_map ?_, ?_⟩
  · have k : h.no.isSome = true := by
      rcases g.1 with k | k
      · exact k.no.mpr e.symm
      · exfalso
        rcases k.1 with z | z <;> rcases e with e | e <;> rw [z] at e <;> exact absurd e (by decide +kernel)
    obtain ⟨n, hn⟩ := Option.isSome_iff_exists.mp k
    show (V.str h.wd :: (match h.no with | none => [] | some n => [.int n]))[1]? = _
    rw [hn]
    rfl
  · have := needs_some w e
    omega
  · rcases e with e | ⟨e1, e2, e3, e4⟩
    · rw [e, needs_pick] at hl
      omega
    · have := needs_two w e1 e2 e3 e4
      omega
  · rw [e, needs_pick] at hl
    omega
  · cases e : h.no with
    | none => decide
    | some n =>
      rcases g.1 with k | k
      · have := k.big n e
        show -(2 ^ 64) < n ∧ n < 2 ^ 64
        omega
      · rw [k.2] at e
        cases e
section
variable {P : Program} {w : World} {K : PySem.W.Frag} {mg : Str → Option Value} {base : Heap}
structure BellOk (hs : List HR) (cur : List BR) : Prop where
  hands : hs.length ≤ 12
  belts : cur.length ≤ 20
  good : ∀ h ∈ hs, GoodHand h
  ends : ∀ b ∈ cur, b.one < hs.length ∧ b.to < hs.length
  count : ∀ k h, hs[k]? = some h → (((cur.map BR.to).count k : Nat) : Int) = needs h.wd
theorem dget0 {H : Hp} {a : Addr} {kvs : List (Key × V)} {k : Nat} {o : Option V} (e : H a = some (.dK kvs)) (h : valV kvs (kN k) = o) : DGet H a (.int (0 + ((k : Nat) : Int))) o := by
  rw [Int.zero_add]
  exact dget_of e h
def sp_made_at_bell (K : PySem.W.Frag) : Sp := fun vs H Q _ => ∃ (r pl t D : Addr) (Z : Hp) (hs : List HR) (cur : List BR) (pv : List V) (ord : List Nat) (ins : List Int), vs = [.ref r, .ref pl, .ref t] ∧ RoomAt H r hs cur ∧ H pl = some (.lst pv) ∧ All2 (PlanAt Z D cur H) pv ord ∧ H t = some (.tup (ins.map V.int)) ∧
  BellOk hs cur ∧ Soon (looseOf cur) (List.range hs.length) ord ∧ ins.length = (doorsOf "in" hs).length ∧ ∀ (p : Addr) (m : List Int) (H' : Hp), H p = none → H' p = some (.tup (m.map V.int)) → IsBell hs cur ins m → Same H H' → Q (.ref p) H'
theorem ok_made_at_bell {f : Addr} {fd : FuncData} (F : Fun K "made_at_bell" "made_at_bell" s_made_at_bell f fd) (T : Top K mg) : FnOk P w K mg base CX0 3 f fd ["room", "plan", "things"] (sp_made_at_bell K) := by
  obtain ⟨f_doors_in, fd_doors_in, F_doors_in, b_doors_in, m_doors_in⟩ := T.d_doors_in
  have G_doors_in := ok_doors_in (P := P) (w := w) (base := base) F_doors_in T
  obtain ⟨f_made_by, fd_made_by, F_made_by, b_made_by, m_made_by⟩ := T.d_made_by
  have G_made_by := ok_made_by (P := P) (w := w) (base := base) F_made_by T
  obtain ⟨f_thing_taken, fd_thing_taken, F_thing_taken, b_thing_taken, m_thing_taken⟩ := T.d_thing_taken
  have G_thing_taken := ok_thing_taken (P := P) (w := w) (base := base) F_thing_taken T
  refine F.ok sc_made_at_bell (fun vs H Q E h => ?_) (fun cdv A outer s H vs Q E hr h => ?_)
  · obtain ⟨r, pl, t, D, Z, hs, cur, pls, ord, ins, rfl, _⟩ := h
    rfl
  obtain ⟨r, pl, t, D0, Z0, hs, cur, pls, ord, ins, rfl, hR, hpl, alp, ht, ok, soon, hi, q⟩ := h
  obtain ⟨ha, ba, hv, bv, er, eh, eb, alh, alb⟩ := hR.ex
  have lh := ok.hands
  have lbb := ok.belts
  have lhv := alh.length
  have lo := soon_len soon
  rw [List.length_range] at lo
  have lpv := alp.length
  have ld := doors_len (z := "in") (hs := hs)
  refine ⟨_, (pss_cons (ps_asg (pv 0) (pg_tupK K rfl rfl (pgs_cons (pg_name (i := 3) sc_made_at_bell.nd rfl (Or.inl rfl)) (pgs_cons (pg_name (i := 4) sc_made_at_bell.nd rfl (Or.inr rfl)) pgs_nil))))
      (pss_cons (ps_set (i := 5) sc_made_at_bell.nd rfl (Or.inr rfl) (pe_dictZip K rfl rfl (by rfl) T.m_dict (by rfl) T.m_zip (pa_cons (pe_call G_doors_in (hr.mono (by decide)) (by rfl) m_doors_in F_doors_in.kp b_doors_in .nil pass0 (pa_cons (pv 0) pa_nil)) (pa_cons (pv 2) pa_nil))))
      (pss_cons (ps_for PassesOwn.never rfl (pi_listK K rfl (pv 1)) (pg_tupK K rfl rfl (pgs_cons (pg_name (i := 6) sc_made_at_bell.nd rfl (Or.inl rfl)) (pgs_cons (pg_name (i := 7) sc_made_at_bell.nd rfl (Or.inl rfl)) pgs_nil)))
        (pss_one (ps_if (pt_cmp (pc_dnotin (hu_of hr) (pv 6) (pv 5)) (by with_unfolding_all rfl)) (pss_cons (ps_setLc (i := 8) (own := [("number", 9)]) (g := gName 9) (tt := tYes) (by rfl) sc_made_at_bell.nd rfl rfl (sw_true rfl rfl rfl (by decide +kernel)) (pi_listK K rfl (pv 7)) (blkOk_by (own := [("number", 9)]) (N := N_made_at_bell) (sc := defScope s_made_at_bell) (by decide +kernel)) (fun _ _ _ _ _ => (pg_name (i := 9) sc_made_at_bell.nd rfl (Or.inl rfl))) (fun _ _ _ _ _ => pts_nil) (fun _ _ _ _ _ => (pe_call G_thing_taken (hr.mono (by decide)) (by rfl) m_thing_taken F_thing_taken.kp b_thing_taken .nil pass0 (pa_cons (pe_ix (ix_tupK K rfl) (pv 4) (pv 9) (fun _ _ => rfl)) (pa_cons (pv 5) pa_nil)))))
      (pss_one (ps_dput (hu_of hr) (pv 5) (pv 6) (pe_call G_made_by (hr.mono (by decide)) (by rfl) m_made_by F_made_by.kp b_made_by .nil pass0 (pa_cons (pe_ix (ix_tupK K rfl) (pe_ix (ix_tupK K rfl) (pv 3) (pv 6) (fun _ _ => rfl)) pe_int (fun _ _ => rfl)) (pa_cons (pe_callTy (call_tuple_ofK K rfl) (by rfl) T.m_tuple (by decide +kernel) (pa_cons (pv 8) pa_nil)) pa_nil))) (by rfl)))) pss_nil)))
      (pss_one (ps_ret (pe_callTy (call_tuple_ofK K rfl) (by rfl) T.m_tuple (by decide +kernel) (pa_cons (pe_lc (own := [("hand", 6)]) (g := gName 6) (tt := tYes) (by rfl) sc_made_at_bell.nd (pi_range1 (by rfl) T.m_range (pa_cons (pe_callB (call_len_seqK K rfl) (by rfl) T.m_len (by decide +kernel) (pa_cons (pv 3) pa_nil)) pa_nil)) (blkOk_by (own := [("hand", 6)]) (N := N_made_at_bell) (sc := defScope s_made_at_bell) (by decide +kernel)) (fun _ _ _ _ _ => (pg_name (i := 6) sc_made_at_bell.nd rfl (Or.inl rfl))) (fun _ _ _ _ _ => pts_nil) (fun _ _ _ _ _ => (pe_dget (hu_of hr) (pv 5) (pv 6) (fun _ _ => rfl)))) pa_nil))))))), ?_⟩
  refine ⟨_, rfl, r, _, rfl, SqT.of er, rfl, _, _, rfl, _, _, rfl, rfl, ?_⟩
  refine ⟨_, rfl, r, hs, cur, rfl, hR, by omega, ok.good, fun dd H1 ndd hdd s1 => ⟨_, rfl, dd, t, (doorsOf "in" hs).map kN, ins.map V.int, rfl, SqL.of (by rw [hdd, List.map_map]; rfl), SqT.of (s1 _ _ ht), fun d nd => ?_⟩⟩
  have nd0 : H d = none := same_none s1 nd
  have s2 : Same H (upd H1 d (.dK (mergeK [] (((doorsOf "in" hs).map kN).zip (ins.map V.int))))) := s1.trans (same_new nd)
  have len0 : (mergeK [] (((doorsOf "in" hs).map kN).zip (ins.map V.int))).length ≤ 12 := by
    refine Nat.le_trans (length_mergeK _ []) ?_
    rw [List.length_zip, List.length_map, List.length_map, List.length_nil]
    omega
  refine ⟨_, rfl, pl, rfl, ⟨_, SqL.of (s2 _ _ hpl)⟩, for_list (K := K) (a := pl) (xs := pls) (fun i σ H2 => ∃ (v6 v7 v8 v9 : Option V) (kvs : List (Key × V)) (pm : Nat → Option Int) (left : List Nat), σ = [some (.ref r), some (.ref pl), some (.ref t), some (.ref ha), some (.ref ba), some (.ref d), v6, v7, v8, v9] ∧ H2 d = some (.dK kvs) ∧ DM kvs pm ∧ Part hs cur ins pm ∧ kvs.length ≤ 12 + i ∧ Same H H2 ∧ Soon (looseOf cur) left (ord.drop i) ∧ (∀ k, k < hs.length → k ∉ left → (pm k).isSome = true) ∧ (∀ (k : Nat) (h : HR), hs[k]? = some h → h.wd = "in" → (pm k).isSome = true))
    ⟨none, none, none, none, _, doorM hs ins, List.range hs.length, rfl, upd_same, doorM_dm hi, doorM_part, len0, s2, soon, fun k hk n => absurd (List.mem_range.mpr hk) n, fun k h e w => doorM_all hi e w⟩ (fun i σ H2 _ ⟨_, _, _, _, _, _, _, _, _, _, _, _, s, _⟩ => SqL.of (s _ _ hpl)) ?_ ?_⟩
  · rintro i x σ H2 hx ⟨v6, v7, v8, v9, kvs, pm, left, rfl, hd, dm, part, lk, s3, so, all, doors⟩
    obtain ⟨k, ek, ⟨t2, l, rfl, p1, p2, _⟩⟩ := alp.getL hx
    have il := (List.getElem?_eq_some_iff.mp ek).1
    have ed : ord.drop i = k :: ord.drop (i + 1) := by
      rw [List.drop_eq_getElem_cons il, (List.getElem?_eq_some_iff.mp ek).2]
    rw [ed] at so
    obtain ⟨kl, fr, so2⟩ : k ∈ left ∧ free (looseOf cur) left k ∧ Soon (looseOf cur) (left.erase k) (ord.drop (i + 1)) := by
      cases so with
      | cons a b c d => exact ⟨a, b, d⟩
    have kn : k < hs.length := by
      have e := soon_mem soon k (List.mem_of_getElem? ek)
      exact List.mem_range.mp e
    have eh2 : hs[k]? = some hs[k] := List.getElem?_eq_getElem kn
    refine ⟨t2, _, rfl, SqT.of (s3 _ _ p1), rfl, _, _, rfl, _, _, rfl, rfl, ?_⟩
    refine ⟨_, rfl, _, rfl, d, _, rfl, dget_of hd (dm k), _, rfl, if_bl (fun c => ?_) (fun c => ?_)⟩
    · have new : pm k = none := by
        cases e : pm k with
        | none => rfl
        | some v => rw [e] at c; cases c
      have win : hs[k].wd ≠ "in" := fun z => by
        have := doors k _ eh2 z
        rw [new] at this
        cases this
      have there : ∀ b ∈ cur, b.to = k → b.th = [] → (pm b.one).isSome = true := fun b b1 b2 b3 => all b.one (ok.ends b b1).1 (fr _ (mem_loose b1 b3) b2)
      have hl2 := s3 _ _ p2
      refine ⟨_, rfl, l, rfl, ⟨_, SqL.of hl2⟩, fun D nD => lc_list (K := K) (a := l) (xs := (comingN cur k).map nV) (fun j H5 => H5 D = some (.lst ((((comingN cur k).take j).map (valI cur fun j => (pm j).getD 0)).map V.int)) ∧ H5 d = some (.dK kvs) ∧ Same H2 H5) ⟨upd_same, same_new nD _ _ hd, same_new nD⟩ (fun j H5 _ ⟨_, _, s5⟩ => SqL.of (s5 _ _ hl2)) ?_ ?_⟩
      · rintro j x H5 hx ⟨hD, hd5, s5⟩
        rw [List.getElem?_map] at hx
        cases ej : (comingN cur k)[j]? with
        | none => rw [ej] at hx; cases hx
        | some n =>
        rw [ej] at hx
        obtain rfl : nV n = x := Option.some.inj hx
        have jl := (List.getElem?_eq_some_iff.mp ej).1
        have cl := coming_len (cur := cur) (k := k)
        obtain ⟨b, e1, e2⟩ := coming_mem (List.mem_of_getElem? ej)
        obtain ⟨v, ev, hB⟩ := alb.get e1
        have evi : valI cur (fun j => (pm j).getD 0) n = valB (fun j => (pm j).getD 0) b := by unfold valI; rw [e1]
        refine ⟨rfl, yes_in ⟨_, rfl, _, rfl, ba, _, _, _, rfl, rfl, SqT.of (s5 _ _ (s3 _ _ eb)), atI_nat ev, _, rfl, v, b, d, kvs, pm, rfl, hB.keep (TK.same (s3.trans s5)), hd5, dm, fun z => there b (List.mem_of_getElem? e1) e2 z, _, hD, ?_, ?_, ?_, Same.own s5 nD⟩⟩
        · rw [List.length_map, List.length_map, List.length_take]; exact small1000 (by omega)
        · rw [upd_same, List.take_add_one, ej, List.map_append, List.map_append, ← evi]; rfl
        · rw [upd_ne (ne_of_none hd nD)]; exact hd5
      · rintro H5 ⟨hD, hd5, s5⟩
        rw [List.length_map, List.take_length, coming_takes] at hD
        obtain ⟨xs, hxs⟩ : ∃ xs, xs = takes cur (fun j => (pm j).getD 0) k := ⟨_, rfl⟩
        rw [← hxs] at hD
        have lx : ((xs.length : Nat) : Int) = needs hs[k].wd := by rw [hxs, takes_len]; exact ok.count k _ eh2
        obtain ⟨v, ev, ⟨tk, rk2, rfl, h1, h2⟩⟩ := alh.get eh2
        have s4 := s3.trans s5
        have A := args_of (ok.good _ (List.mem_of_getElem? eh2)) win lx
        refine ⟨_, rfl, _, rfl, ha, _, _, _, rfl, rfl, SqT.of (s4 _ _ eh), atI_nat ev, tk, _, _, _, rfl, rfl, SqT.of (s4 _ _ h1), atI_nat (j := 0) rfl, _, rfl, D, _, rfl, .inl ⟨SqL.of hD, fun tt ntt => ?_⟩⟩
        have s5b := s4.trans (same_new (o := .tup (xs.map V.int)) ntt)
        refine ⟨rk2, tt, _, _, hs[k].wd, _, _, _, _, rfl, SqT.of (s5b _ _ h2), SqT.of upd_same, A.r0, A.r1, A.t0, A.t1, A.t2, A.big, fun H6 s6 => ?_⟩
        have hd6 := s6 _ _ (same_new ntt _ _ hd5)
        refine ⟨_, rfl, _, rfl, d, _, rfl, DPut.k (k := kN k) hd6 (small1000 (by omega)), ?_⟩
        refine ⟨_, _, _, _, _, putM pm k (mkR hs[k] xs), left.erase k, rfl, upd_same, dm.put k _, by rw [hxs]; exact part.put eh2 win new there, ?_, Same.own (s5b.trans s6) nd0, so2, fun j hj n => ?_, fun j h e w => ?_⟩
        · have := length_putK kvs (kN k) (V.int (mkR hs[k] xs))
          exact Nat.le_trans this (by omega)
        · by_cases e : j = k
          · rw [show putM pm k (mkR hs[k] xs) j = some _ from if_pos e]; rfl
          · rw [show putM pm k (mkR hs[k] xs) j = pm j from if_neg e]
            exact all j hj fun z => n ((List.mem_erase_of_ne e).mpr z)
        · by_cases e' : j = k
          · rw [show putM pm k (mkR hs[k] xs) j = some _ from if_pos e']; rfl
          · rw [show putM pm k (mkR hs[k] xs) j = pm j from if_neg e']
            exact doors j h e w
    · have old : (pm k).isSome = true := by
        cases e : pm k with
        | none => rw [e] at c; cases c
        | some v => rfl
      refine ⟨_, _, _, _, kvs, pm, left.erase k, rfl, hd, dm, part, by omega, s3, so2, fun j hj n => ?_, doors⟩
      by_cases e : j = k
      · rw [e]; exact old
      · exact all j hj fun z => n ((List.mem_erase_of_ne e).mpr z)
  · rintro σ H2 ⟨v6, v7, v8, v9, kvs, pm, left, rfl, hd, dm, part, lk, s3, so, all, doors⟩
    rw [List.drop_eq_nil_of_le (by omega)] at so
    have el : left = [] := by
      cases so
      rfl
    subst el
    have full : ∀ k, k < hs.length → (pm k).isSome = true := fun k hk => all k hk (fun z => nomatch z)
    refine ⟨_, rfl, ha, _, rfl, .inr (SqT.of (s3 _ _ eh)), _, rfl, by omega, by omega, fun D nD => lc_range (lo := 0) (n := hv.length) (fun j H5 => H5 D = some (.lst ((fullM j pm).map V.int)) ∧ H5 d = some (.dK kvs) ∧ Same H2 H5) ⟨upd_same, same_new nD _ _ hd, same_new nD⟩ ?_ ?_⟩
    · rintro j H5 hj ⟨hD, hd5, s5⟩
      obtain ⟨v, ev⟩ := Option.isSome_iff_exists.mp (full j (by omega))
      refine ⟨rfl, yes_in ⟨_, rfl, _, rfl, d, .int v, rfl, dget0 hd5 (by rw [dm, ev]; rfl), _, hD, ?_, ?_, ?_, Same.own s5 nD⟩⟩
      · rw [List.length_map, List.length_map, List.length_range]; exact small1000 (by omega)
      · rw [upd_same]
        unfold fullM
        rw [List.range_succ, List.map_append, List.map_append]
        simp [ev]
      · rw [upd_ne (ne_of_none hd nD)]; exact hd5
    · rintro H5 ⟨hD, hd5, s5⟩
      rw [lhv] at hD
      exact ⟨D, _, rfl, .inl ⟨SqL.of hD, fun p np => q p _ _ (same_none (s3.trans s5) np) upd_same (part.full full) ((s3.trans s5).trans (same_new np))⟩⟩
end
/-- a list or a tuple of rows -/
def RowsAt (H : Hp) (a : Addr) (rows : List (List Int)) : Prop := ∃ rv : List V, (H a = some (.lst rv) ∨ H a = some (.tup rv)) ∧ All2 (RowAt H) rv rows
theorem RowsAt.same {H H' : Hp} {a : Addr} {rows : List (List Int)} (h : RowsAt H a rows) (s : Same H H') : RowsAt H' a rows := by
  obtain ⟨rv, e, al⟩ := h
  exact ⟨rv, e.imp (s _ _) (s _ _), al.imp fun _ _ z => z.keep (TK.same s)⟩
theorem either_stays {H H' : Hp} {a : Addr} {xs : List V} (s : Same H H') (h : H a = some (.lst xs) ∨ H a = some (.tup xs)) : H' a = H a := by
  rcases h with e | e <;> rw [s _ _ e, e]
theorem or_seq {K : PySem.W.Frag} {te : TE} {σ : L2.St} {H : Hp} {R : It → Hp → Prop} {a : Addr} {xs : List V} (ht : ∀ Q : VK, Q (.ref a) H → te σ H Q) (h : H a = some (.lst xs) ∨ H a = some (.tup xs))
    (k : ∀ J : It, (∀ i H', H' a = H a → i < xs.length → J.go i H') → (∀ H', H' a = H a → J.stop xs.length H') → (∀ i H' x H'', H' a = H a → J.yld i H' x H'' → xs[i]? = some x ∧ H'' = H') → R J H) :
    iList K te σ H R ∨ iTup K te σ H R := by
  rcases h with e | e
  · refine .inl (ht _ ⟨a, rfl, ⟨_, SqL.of e⟩, k _ (fun i H' q hi => ?_) (fun H' q => ?_) fun i H' x H'' q y => ?_⟩)
    · exact ⟨xs, _, SqL.of (q.trans e), List.getElem?_eq_getElem hi⟩
    · exact ⟨xs, SqL.of (q.trans e), Nat.le_refl _⟩
    · exact ⟨y.2 _ (SqL.of (q.trans e)), y.1⟩
  · refine .inr (ht _ ⟨a, rfl, ⟨_, SqT.of e⟩, k _ (fun i H' q hi => ?_) (fun H' q => ?_) fun i H' x H'' q y => ?_⟩)
    · exact ⟨xs, _, SqT.of (q.trans e), List.getElem?_eq_getElem hi⟩
    · exact ⟨xs, SqT.of (q.trans e), Nat.le_refl _⟩
    · exact ⟨y.2 _ (SqT.of (q.trans e)), y.1⟩
theorem map_to (bs : List BR) (ms : List (List Int)) : (stand bs ms).map BR.to = bs.map BR.to := by
  rw [List.map_map]
  exact List.map_congr_left fun b _ => stand_to ms b
theorem coming_stand (bs : List BR) (ms : List (List Int)) (k : Nat) : comingN (stand bs ms) k = comingN bs k := by
  unfold comingN
  rw [List.length_map]
  refine List.filter_congr fun i _ => ?_
  rw [List.getElem?_map]
  cases bs[i]? with
  | none => rfl
  | some b =>
    show decide (some (standB ms b).to = some k) = decide (some b.to = some k)
    rw [stand_to]
theorem RoomOk.bell {hs : List HR} {bs : List BR} (ok : RoomOk hs bs) (ms : List (List Int)) : BellOk hs (stand bs ms) := by
  refine ⟨ok.hands, by rw [List.length_map]; exact ok.many, ok.good, fun b hb => ?_, fun k h e => by rw [map_to]; exact ok.count k h e⟩
  obtain ⟨c, hc, rfl⟩ := List.mem_map.mp hb
  rw [stand_one, stand_to]
  exact ok.ends c hc
theorem RoomOk.rk {hs : List HR} {bs : List BR} (ok : RoomOk hs bs) : ∃ rk : Nat → Int, ∀ p ∈ looseOf bs, rk p.1 < rk p.2 := by
  obtain ⟨rk, h⟩ := ok.rank
  refine ⟨rk, fun p hp => ?_⟩
  obtain ⟨b, hb, rfl⟩ := List.mem_map.mp hp
  obtain ⟨h1, h2⟩ := List.mem_filter.mp hb
  exact h b h1 (List.isEmpty_iff.mp h2)
theorem out_lt {hs : List HR} {m : List Int} (hl : m.length = hs.length) : ∀ k ∈ doorsOf "out" hs, k < m.length := fun k hk => by
  obtain ⟨h, e, _⟩ := mem_doors.mp hk
  have := (List.getElem?_eq_some_iff.mp e).1
  omega
section
variable {P : Program} {w : World} {K : PySem.W.Frag} {mg : Str → Option Value} {base : Heap}
def sp_worked (K : PySem.W.Frag) : Sp := fun vs H Q _ => ∃ (r a : Addr) (hs : List HR) (bs : List BR) (rows : List (List Int)), vs = [.ref r, .ref a] ∧ RoomAt H r hs bs ∧ RoomOk hs bs ∧ RowsAt H a rows ∧ (∀ x ∈ rows, x.length = (doorsOf "in" hs).length) ∧ rows.length ≤ 100 ∧
  ∀ (p : Addr) (ov : List V) (ms : List (List Int)) (H' : Hp), H p = none → H' p = some (.lst ov) → All2 (RowAt H') ov ms → WS hs bs rows ms → Same H H' → Q (.ref p) H'
theorem ok_worked {f : Addr} {fd : FuncData} (F : Fun K "worked" "worked" s_worked f fd) (T : Top K mg) : FnOk P w K mg base CX0 4 f fd ["room", "rows"] (sp_worked K) := by
  obtain ⟨f_work_plan, fd_work_plan, F_work_plan, b_work_plan, m_work_plan⟩ := T.d_work_plan
  have G_work_plan := ok_work_plan (P := P) (w := w) (base := base) F_work_plan T
  obtain ⟨f_made_at_bell, fd_made_at_bell, F_made_at_bell, b_made_at_bell, m_made_at_bell⟩ := T.d_made_at_bell
  have G_made_at_bell := ok_made_at_bell (P := P) (w := w) (base := base) F_made_at_bell T
  obtain ⟨f_behind_bell, fd_behind_bell, F_behind_bell, b_behind_bell, m_behind_bell⟩ := T.d_behind_bell
  have G_behind_bell := ok_behind_bell (P := P) (w := w) (base := base) F_behind_bell T
  refine F.ok sc_worked (fun vs H Q E h => ?_) (fun cdv A outer s H vs Q E hr h => ?_)
  · obtain ⟨r, a, hs, bs, rows, rfl, _⟩ := h
    rfl
  obtain ⟨r, a, hs, bs, rows, rfl, hR, ok, ⟨rv, hrv, alr⟩, hw, lr, q⟩ := h
  have lh := ok.hands
  have lb := ok.many
  have lrv := alr.length
  obtain ⟨rk, hrk⟩ := ok.rk
  refine ⟨_, (pss_cons (ps_set (i := 2) sc_worked.nd rfl (Or.inl rfl) (pe_call G_work_plan (hr.mono (by decide)) (by rfl) m_work_plan F_work_plan.kp b_work_plan .nil pass0 (pa_cons (pv 0) pa_nil)))
      (pss_cons (ps_set (i := 3) sc_worked.nd rfl (Or.inl rfl) (pv 0))
      (pss_cons (ps_set (i := 4) sc_worked.nd rfl (Or.inl rfl) (pe_lst pa_nil))
      (pss_cons (ps_for PassesOwn.never rfl (pi_or (pi_listK K rfl (pv 1)) (pi_tupK K rfl (pv 1))) (pg_name (i := 5) sc_worked.nd rfl (Or.inl rfl))
        (pss_cons (ps_set (i := 6) sc_worked.nd rfl (Or.inl rfl) (pe_call G_made_at_bell (hr.mono (by decide)) (by rfl) m_made_at_bell F_made_at_bell.kp b_made_at_bell .nil pass0 (pa_cons (pv 3) (pa_cons (pv 2) (pa_cons (pv 5) pa_nil)))))
      (pss_cons (ps_set (i := 3) sc_worked.nd rfl (Or.inl rfl) (pe_call G_behind_bell (hr.mono (by decide)) (by rfl) m_behind_bell F_behind_bell.kp b_behind_bell .nil pass0 (pa_cons (pv 3) (pa_cons (pv 6) pa_nil))))
      (pss_one (ps_expr (pe_bmK K rfl PySem.F.plainAttrs_list PySem.F.slot_list_append PySem.F.type_list_append mt_append (pv 4) (pa_cons (pv 6) pa_nil)))))))
      (pss_one (ps_ret (pv 4))))))), ?_⟩
  refine ⟨_, rfl, r, hs, bs, rk, rfl, hR, by omega, by omega, ok.ends, hrk, fun pl D ord pls H1 npl hpl alp soon s1 => ?_⟩
  refine ⟨_, rfl, (by show 0 ≤ sizeLine; decide), fun tl ntl => ?_⟩
  have s2 : Same H (upd H1 tl (.lst [])) := s1.trans (same_new ntl)
  have tl0 : H tl = none := same_none s1 ntl
  refine or_seq (a := a) (xs := rv) (fun Q q => ⟨_, rfl, q⟩) (hrv.imp (s2 _ _) (s2 _ _)) (fun J gj sj yj => for_it (J := J) (n := rv.length) (fun i σ H2 => ∃ (st : Addr) (ms : List (List Int)) (tv : List V) (v5 v6 : Option V), σ = [some (.ref r), some (.ref a), some (.ref pl), some (.ref st), some (.ref tl), v5, v6] ∧ RoomAt H2 st hs (stand bs ms) ∧ H2 tl = some (.lst tv) ∧ All2 (RowAt H2) tv ms ∧ WS hs bs (rows.take i) ms ∧ Same H1 H2)
    ⟨r, [], [], none, none, rfl, by rw [stand_zero]; exact hR.keep (TK.same s2), upd_same, .nil, WS.nil, same_new ntl⟩ ?_ ?_ ?_ ?_)
  · rintro i σ H2 hi ⟨st, ms, tv, v5, v6, rfl, hst, htl, alt, ws, s3⟩
    exact gj i H2 ((either_stays (s1.trans s3) hrv).trans (either_stays s2 hrv).symm) hi
  · rintro σ H2 ⟨st, ms, tv, v5, v6, rfl, hst, htl, alt, ws, s3⟩
    exact sj H2 ((either_stays (s1.trans s3) hrv).trans (either_stays s2 hrv).symm)
  · rintro i x σ H2 H3 hi ⟨st, ms, tv, v5, v6, rfl, hst, htl, alt, ws, s3⟩ y
    obtain ⟨ex, rfl⟩ := yj i H2 x H3 ((either_stays (s1.trans s3) hrv).trans (either_stays s2 hrv).symm) y
    obtain ⟨row, er, ⟨t, rfl, ht⟩⟩ := alr.getL ex
    have ht2 := s3 _ _ (s1 _ _ ht)
    have lms : ms.length = i := by
      have := ws.len
      rw [List.length_take] at this
      omega
    refine ⟨_, rfl, _, rfl, _, rfl, st, pl, t, D, H, hs, stand bs ms, pls, ord, row, rfl, hst, s3 _ _ hpl, alp.imp fun v k z => ?_, ht2, ok.bell ms, by rw [loose_stand]; exact soon, hw row (List.mem_of_getElem? er), fun p m H4 np hp bell s4 => ?_⟩
    · obtain ⟨t', l, e1, e2, e3, e4⟩ := z.same s3
      exact ⟨t', l, e1, e2, by rw [coming_stand]; exact e3, e4⟩
    have lm := bell.len
    refine ⟨_, rfl, _, rfl, st, p, hs, stand bs ms, m, rfl, hst.keep (TK.same s4), hp, fun b hb => ?_, by rw [List.length_map]; omega, fun st2 H5 hst2 s5 => ?_⟩
    · have e1 := ((ok.bell ms).ends b hb).1
      obtain ⟨c, hc, rfl⟩ := List.mem_map.mp hb
      have e2 := stand_len ms c
      have e3 := (ok.th c hc).1
      exact ⟨by omega, by omega⟩
    rw [stand_next] at hst2
    have htl5 := s5 _ _ (s4 _ _ htl)
    refine ⟨_, rfl, .inl ⟨rfl, _, SqL.of htl5⟩, _, rfl, tl, _, _, rfl, rfl, htl5, by rw [alt.length, lms]; exact small1000 (by omega), ?_⟩
    refine ⟨st2, ms ++ [m], tv ++ [V.ref p], _, _, rfl, hst2.keep (TK.lst htl5), upd_same, ?_, ?_, Same.own ((s3.trans s4).trans s5) ntl⟩
    · exact ((alt.imp fun _ _ z => z.keep (TK.same (s4.trans s5))).snoc ⟨p, rfl, s5 _ _ hp⟩).imp fun _ _ z => z.keep (TK.lst htl5)
    · rw [List.take_add_one, er]
      exact ws.snoc bell
  · rintro σ H2 ⟨st, ms, tv, v5, v6, rfl, hst, htl, alt, ws, s3⟩
    rw [lrv, List.take_length] at ws
    exact ⟨_, rfl, q tl tv ms H2 tl0 htl alt ws (s1.trans s3)⟩
end
section
variable {P : Program} {w : World} {K : PySem.W.Frag} {mg : Str → Option Value} {base : Heap}
def sp_NsInit (K : PySem.W.Frag) (C : Addr) : Sp := fun vs H Q _ => ∃ (a : Addr) (x y : V), vs = [.ref a, x, y] ∧ H a = some (exo a C none) ∧
  ∀ d, H d = none → d ≠ a → Q .non (upd (upd (upd H d (exd d [("word", x)])) a (exo a C (some d))) d (exd d [("at", y), ("word", x)]))
theorem ok_NsInit {C CB fI : Addr} {fd : FuncData} (N : NsC K mg C CB fI fd) : FnOk P w K mg base CX0 1 fI fd ["self", "word", "at"] (sp_NsInit K C) := by
  refine N.F.ok sc_NoShift_init (fun vs H Q E h => ?_) (fun cdv A outer s H vs Q E hr h => ?_)
  · obtain ⟨a, x, y, rfl, _⟩ := h
    rfl
  obtain ⟨a, x, y, rfl, ha, q⟩ := h
  refine ⟨_, pss_cons (ps_ost (pv 0) (pv 1)) (pss_one (ps_ost (pv 0) (pv 2))), ?_⟩
  refine ⟨_, rfl, _, rfl, a, C, rfl, N.T, N.nw, .inl ⟨ha, fun d nd da => ?_⟩⟩
  refine ⟨_, rfl, _, rfl, a, C, rfl, N.T, N.na, .inr ⟨d, _, upd_same, by rw [upd_ne da, upd_same], by show 1 ≤ 900; decide, q d nd da⟩⟩
end
section
variable {P : Program} {w : World} {K : PySem.W.Frag} {mg : Str → Option Value} {base : Heap}
abbrev nsA (K : PySem.W.Frag) : Addr := He.ga K "NoShift"
/-- refused: word and what it is about -/
def sp_refuse_shifts (K : PySem.W.Frag) : Sp := fun vs H Q E => ∃ x y : V, vs = [x, y] ∧ (y = .non → Q .non H) ∧ ((∃ k : Nat, y = nV k) ∨ y = .non) ∧
  ∀ (d t : Addr) (H' : Hp), y ≠ .non → H' d = some (.xd [("at", .ref t), ("word", x)]) → H' t = some (.tup [y]) → Same H H' → E (.ref (nsA K)) (some d) H'
theorem ok_refuse_shifts {f : Addr} {fd : FuncData} (F : Fun K "refuse_shifts" "refuse_shifts" s_refuse_shifts f fd) (T : Top K mg) : FnOk P w K mg base (L2.CX P w) 3 f fd ["word", "at"] (sp_refuse_shifts K) := by
  obtain ⟨fdI, N⟩ := T.x_ns
  have GI := ok_NsInit (P := P) (w := w) (base := base) N
  refine F.okX sc_refuse_shifts (fun vs H Q E h => ?_) (fun cdv A outer s H vs Q E hr h => ?_)
  · obtain ⟨x, y, rfl, _⟩ := h
    rfl
  obtain ⟨x, y, rfl, q1, sort, q2⟩ := h
  refine ⟨_, (pss_one (ps_if (pt_cmpR op_notN (pv 1) pe_non (nomark _)) (pss_one (ps_raise rfl (takes_of rfl rfl rfl rfl) (pmk_oex N.T N.iC N.tI GI (hr.mono (by decide)) N.b .nil pass0 rfl N.gC (pa_cons (pv 0) (pa_cons (pe_tup (pa_cons (pv 1) pa_nil)) pa_nil))))) pss_nil)), ?_⟩
  rcases sort with ⟨k, rfl⟩ | rfl
  · refine ⟨_, rfl, rfl, _, rfl, if_bl (fun _ => ?_) (fun z => nomatch z)⟩
    refine ⟨_, rfl, _, rfl, (by show 1 ≤ sizeLine; decide), fun t nt => ⟨by show 2 ≤ 1000; decide, fun a na => ?_⟩⟩
    have s1 := same_new (o := .tup [nV k]) nt
    have ht : (upd H t (.tup [nV k])) t = some (.tup [nV k]) := upd_same
    generalize upd H t (.tup [nV k]) = H1 at s1 ht na ⊢
    refine ⟨a, x, .ref t, rfl, upd_same, fun d nd da => ⟨rfl, d, _, by rw [upd_ne da.symm, upd_same], upd_same, ?_, ?_⟩⟩
    · rw [upd_ne da] at nd; exact nd
    · have nd1 : H1 d = none := by rw [upd_ne da] at nd; exact nd
      have keep : Same H1 (upd (del (upd (upd (upd (upd H1 a (exo a (nsA K) none)) d (exd d [("word", x)])) a (exo a (nsA K) (some d))) d (exd d [("at", V.ref t), ("word", x)])) a) d (.xd [("at", V.ref t), ("word", x)])) := fun b o e => by
        have b1 : b ≠ a := ne_of_none e na
        have b2 : b ≠ d := ne_of_none e nd1
        rw [upd_ne b2, del_ne b1, upd_ne b2, upd_ne b1, upd_ne b2, upd_ne b1]
        exact e
      exact q2 d t _ (fun z => nomatch z) upd_same (keep _ _ ht) (s1.trans keep)
  · exact ⟨_, rfl, rfl, _, rfl, if_bl (fun z => nomatch z) (fun _ => q1 rfl)⟩
end
/-! ### isinstance of a caught error that has fields of its own -/
section
open PySem.W PySem.Calls
variable {prog : Program} {w : World} {A : Around} {K : PySem.W.Frag} {x D : Addr} {ox : Obj} {od : Option Obj}
/-- what the class says with a setter goes before what the instance says -/
theorem found_class (C : ExcC K D) : findObj K D od "__class__" = some (.bind (.builtin "getset_descriptor.__get__") (.builtin "object.__class__")) := by
  have some_cls : ∃ cd, clsIn K D = some cd := by
    obtain ⟨cd, h, _⟩ := any_some C.hd
    exact ⟨cd, h⟩
  obtain ⟨cd, h⟩ := some_cls
  unfold findObj
  simp only [h, C.ha, C.hn, C.ht, Option.bind_some]
/-- the built in reader of fields, asked for the class -/
theorem reader_class {E : Value → Shared → Prop} {Q : Value → Shared → Prop} {hp : Heap} {g : Array GenState} {d : Drawn} {t tk : Nat} {os : OsState} (C : ExcC K D) (X : K.In hp) (I : InstAt hp x ox D od) (q : Q (.ref D) ⟨hp, g, d, t, os⟩) :
    wpAny (model prog w) A (call (.builtin "BaseException.__getattribute__") [.ref x, .str "__class__" tk]) Q E ⟨hp, g, d, t, os⟩ := by
  have known := I.type (M := model prog w)
  refine wpAny_call (codeAny_call_builtin PySem.F.excAttr_ValueError.ga.plain PySem.F.entry_bexc_ga ?_)
  refine @check_slot (model prog w) _ _ ⟨hp, g, d, t, os⟩ "BaseException.__getattribute__" "BaseException" "__getattribute__" (.ref x) [.str "__class__" tk] [] _ (by decide +kernel) (by decide +kernel) (known.andThen (looks_subIn X C.hs)) (PySem.F.args_bexc_ga (.ref x) (.str "__class__" tk)) ?_
  unfold Builtin.«object.__getattribute__»
  refine wpAny_bind (wpAny_of_eq (a := ((Value.ref x : Value), [Value.str "__class__" tk])) (by first | rfl | (simp only [slotArgs]; rfl)) (wpAny_bind (wpAny_pure (wpAny_bind (known.at (wpAny_bind ((looks_find (M := model prog w) X I (found_class C)).at ?_)))))))
  refine wpAny_bind (wpAny_holding (wpAny_call (class_get (s := ⟨hp, g, d, t, os⟩) (ox := ox) (od := od) X I C.hm ?_)))
  refine wpAny_pure ?_
  exact q
theorem asked_class {E : Value → Shared → Prop} {Q : Option Value → Shared → Prop} {s : Shared} (C : ExcC K D) (X : K.In s.heap) (I : InstAt s.heap x ox D od) (q : Q (some (.ref D)) { s with toks := s.toks + 1 }) : wpAny (model prog w) A (getAttr? (.ref x) "__class__") Q E s := by
  obtain ⟨hp, g, d, t, os⟩ := s
  have other : (onTheHeap (Value.ref D) && Value.builtin "BaseException.__getattribute__" == Value.builtin "object.__getattribute__") = false := by
    rw [show (Value.builtin "BaseException.__getattribute__" == Value.builtin "object.__getattribute__") = false by decide +kernel]
    rfl
  unfold getAttr? getAttrBy? getAttrBy
  refine wpAny_bind (wpAny_mkText (wpAny_bind (wpAny_attempt (wpAny_holding (wpAny_bind ((I.type (M := model prog w)).at (wpAny_bind ((looks_findIn (M := model prog w) X C.hg).at ?_))))))))
  show wpAny _ _ (if (onTheHeap (Value.ref D) && Value.builtin "BaseException.__getattribute__" == Value.builtin "object.__getattribute__") = true then _ else _) _ _ _
  rw [other, if_neg Bool.false_ne_true]
  unfold getAttrByItsOwn hookBefore
  rw [if_pos (show onTheHeap (Value.ref D) = true from rfl)]
  refine wpAny_bind ((looks_findIn (M := model prog w) X C.hk).at (wpAny_bind (wpAny_attempt (wpAny_holding ?_))))
  unfold callGetattribute
  rw [show (false && onTheHeap (Value.builtin "BaseException.__getattribute__")) = false from rfl, if_neg Bool.false_ne_true]
  unfold boundAndCalled
  rw [PySem.F.excAttr_ValueError.ga.bind (.ref x)]
  refine wpAny_bind (wpAny_pure ?_)
  refine reader_class C X I ?_
  first
    | exact wpAny_pure (wpAny_pure q)
    | exact wpAny_pure q
    | exact wpAny_pure (wpAny_bind (wpAny_pure (wpAny_pure q)))
    | exact q
/-- isinstance's own question, for such an error -/
theorem kit_fields (C : ExcC K D) : KitX K (.ref x) (.ref D) (fun h => InstAt h x ox D od) := by
  have place : ∃ c' d' cd' sl', K.lookup D = some ⟨c', d', .cls cd', sl'⟩ := by
    obtain ⟨cd, h, _⟩ := any_some C.hd
    unfold clsIn at h
    split at h
    · rename_i c' d' cd' sl' ho
      exact ⟨_, _, _, _, ho⟩
    · cases h
  obtain ⟨c', d', cd', sl', ho⟩ := place
  refine ⟨fun _ _ _ I => I.type, fun _ _ X _ => ?_, fun h tp dd its n sl X htp => ?_, fun X I k => asked_class C X I k⟩
  · intro A' Q' E' s' k q
    unfold isType loadHead
    exact wpAny_bind (wpAny_loadPart (k _ _ (X _ _ ho)) (wpAny_pure q))
  · refine Bool.eq_false_iff.mpr fun z => ?_
    obtain rfl : D = tp := Value.ref.inj (beq_iff_eq.mp z)
    have := (X _ _ ho).symm.trans htp
    cases this
end
theorem call_isF {X : Cx} {a D : Addr} {cls : Value} {d : Option Addr} {oe : Obj} {pn : List (Addr × Obj)} (C : ExcC X.K D) (hz : Zc cls d oe) (hf : ∃ vs, oe.data = .fields vs) : CallR (X.suite a ((a, oe) :: pn)) (.builtin "isinstance") (fun xs H Q => cls = .ref D ∧ (∃ dd fs, d = some dd ∧ H dd = some (.xd fs)) ∧ rIsE X.K D a xs H Q) := by
  intro pins s σ H xs us Q I r h
  obtain ⟨rfl, ⟨dd, fs, rfl, hdd⟩, c, cv, b, rfl, hcv, e, q⟩ := h
  cases r with
  | cons rx rr =>
    cases rr with
    | cons rt rr =>
      cases rr
      cases rx
      have ec := hcv _ rt
      subst ec
      obtain ⟨at_, _⟩ := I.pin (a, oe) (List.mem_append.mpr (.inl List.mem_cons_self))
      obtain ⟨vs, hv⟩ := hf
      obtain ⟨mA, hns, _⟩ := (I.hok dd _ hdd : ObjOk X.prog X.w H s.heap dd (.xd fs))
      obtain ⟨od, ho, _⟩ := lookIn_ns hns
      have J : PySem.W.InstAt s.heap a oe D (some od) := ⟨at_, hz.1, by unfold PySem.W.notCls; rw [hv] <;> rfl, by rw [hz.2]; exact ho⟩
      exact PySem.W.kia_one (kit_fields C) I.kIn J e (fun z => nomatch z) fun tk => ⟨.bl b, H, I.kept (t' := tk) fun _ _ z => z, rfl, q⟩
/-! ### slices and sums of tuples, whatever they are -/
theorem slA_of {K : PySem.W.Frag} {H : Hp} {a : Addr} {xs : List V} {lo hi : Option Int} {Q : VK} (h : H a = some (.tup xs)) (k : ∀ (p : Addr) (H' : Hp), H' p = some (.tup (cutV xs lo hi)) → Same H H' → Q (.ref p) H') : rSlA K (.ref a) lo hi H Q := by
  refine ⟨a, xs, rfl, SqT.of h, fun z => k a H ?_ (Same.refl _), fun _ p np => k p _ upd_same (same_new np)⟩
  unfold cutV
  rw [z.1, z.2, List.drop_zero, Nat.sub_zero, List.take_length]
  exact h
theorem catA_of {K : PySem.W.Frag} {H : Hp} {a b : Addr} {xs ys : List V} {Q : VK} (h : H a = some (.tup xs)) (g : H b = some (.tup ys)) (l : xs.length + ys.length ≤ 1000) (k : ∀ (p : Addr) (H' : Hp), H' p = some (.tup (xs ++ ys)) → Same H H' → Q (.ref p) H') : rCatA K (.ref a) (.ref b) H Q := by
  refine ⟨a, b, xs, ys, rfl, rfl, SqT.of h, SqT.of g, little l, fun e => k b H ?_ (Same.refl _), fun _ e => k a H ?_ (Same.refl _), fun _ _ p np => k p _ upd_same (same_new np)⟩
  · rw [e]; exact g
  · rw [e, List.append_nil]; exact h
theorem cut_take (xs : List V) (k : Nat) : cutV xs none (some ((k : Nat) : Int)) = xs.take k := by
  unfold cutV
  rw [HT.sIx_nat, HT.sIx_none, List.drop_zero, Nat.sub_zero]
  by_cases h : k ≤ xs.length
  · rw [Nat.min_eq_left h]
  · rw [Nat.min_eq_right (by omega), List.take_length, List.take_of_length_le (by omega)]
theorem cut_part {xs : List V} {lo hi : Option Int} : ∀ x ∈ cutV xs lo hi, x ∈ xs := fun x hx => List.mem_of_mem_drop (List.mem_of_mem_take hx)
theorem cut_nats {ns : List Nat} {lo hi : Option Int} : ∃ ms : List Nat, cutV (ns.map nV) lo hi = ms.map nV ∧ ms.length ≤ ns.length ∧ ∀ x ∈ ms, x ∈ ns := by
  refine ⟨(ns.drop (HT.sIx (ns.map nV).length 0 lo)).take (HT.sIx (ns.map nV).length (ns.map nV).length hi - HT.sIx (ns.map nV).length 0 lo), ?_, ?_, fun x hx => List.mem_of_mem_drop (List.mem_of_mem_take hx)⟩
  · unfold cutV
    rw [List.map_take, List.map_drop]
  · rw [List.length_take, List.length_drop]
    omega
section
variable {P : Program} {w : World} {K : PySem.W.Frag} {mg : Str → Option Value} {base : Heap}
theorem ok_doors_out {f : Addr} {fd : FuncData} (F : Fun K "doors_out" "doors_out" s_doors_out f fd) (T : Top K mg) : FnOk P w K mg base CX0 1 f fd ["room"] (sp_doors_out K) := by
  refine F.ok sc_doors_out (fun vs H Q E h => ?_) (fun cdv A outer s H vs Q E hr h => ?_)
  · obtain ⟨r, hs, bs, rfl, _⟩ := h
    rfl
  obtain ⟨aO, mO, hI⟩ := T.x_out
  obtain ⟨r, hs, bs, rfl, hR, lb, good, q⟩ := h
  obtain ⟨ha, ba, hv, bv, er, eh, eb, alh, alb⟩ := hR.ex
  have lhv := alh.length
  refine ⟨_, (pss_one (ps_ret (pe_lc (own := [("number", 1), ("hand", 2)]) (g := gTup K 2 (gCons (gName 1) (gCons (gName 2) gNil))) (by rfl) sc_doors_out.nd (pi_enumT K rfl (by rfl) T.m_enumerate (pa_cons (pe_ix (ix_tupK K rfl) (pv 0) pe_int (fun _ _ => rfl)) pa_nil)) (blkOk_by (own := [("number", 1), ("hand", 2)]) (N := N_doors_out) (sc := defScope s_doors_out) (by decide +kernel)) (fun _ _ _ _ _ => (pg_tupK K rfl rfl (pgs_cons (pg_name (i := 1) sc_doors_out.nd rfl (Or.inl rfl)) (pgs_cons (pg_name (i := 2) sc_doors_out.nd rfl (Or.inl rfl)) pgs_nil)))) (fun _ _ _ _ _ => pts_one (pt_cmpR (op_eqDK K rfl hr.units) (pe_ix (ix_tupK K rfl) (pv 2) pe_int (fun _ _ => rfl)) (pe_glob (v := .ref aO) (by rfl) mO rfl) (nomark _))) (fun _ _ _ _ _ => (pv 1))))), ?_⟩
  refine ⟨_, rfl, r, _, _, _, rfl, rfl, SqT.of er, atI_nat (j := 0) rfl, ha, hv, rfl, SqT.of eh, fun D nD => lc_it (J := IteT K ha hv) (n := hv.length) (fun i H5 => H5 D = some (.lst (((List.range i).filter fun j => decide (hs[j]?.map HR.wd = some ("out" : Str))).map nV)) ∧ Same H H5) ⟨upd_same, same_new nD⟩ ?_ ?_ ?_ ?_⟩
  · rintro i H5 hi ⟨hD, s5⟩
    exact ⟨SqT.of (s5 _ _ eh), hi⟩
  · rintro H5 ⟨hD, s5⟩
    exact ⟨SqT.of (s5 _ _ eh), rfl⟩
  · rintro i x H5 H6 hi ⟨hD, s5⟩ ⟨t, y, rfl, nt, rfl, ey⟩
    obtain ⟨hh, eb2, ⟨t2, g, rfl, e1, e2⟩⟩ := alh.getL ey
    have gh := good _ (List.mem_of_getElem? eb2)
    have s6 := s5.trans (same_new (o := .tup [V.int ((i : Nat) : Int), V.ref t2]) nt)
    have hD6 := same_new (o := .tup [V.int ((i : Nat) : Int), V.ref t2]) nt _ _ hD
    have few := filt_len (p := fun j => decide (hs[j]?.map HR.wd = some ("out" : Str))) i
    refine ⟨t, _, rfl, SqT.of upd_same, rfl, _, _, rfl, _, _, rfl, rfl, rfl, _, rfl, t2, _, _, _, rfl, rfl, SqT.of (s6 _ _ e1), atI_nat (j := 0) rfl, ?_⟩
    refine ⟨_, _, rule_dp (s6 _ _ e2), .tup (hI _) (.cons (.str _) .nil), rule_shaped gh.lay, one_shaped (by decide +kernel), _, rfl, ?_⟩
    rw [rule_eqv, gh.door "out" (.inr rfl)]
    by_cases c : hh.wd = "out"
    · rw [decide_eq_true c]
      refine if_bl (fun _ => ⟨_, rfl, _, hD6, by rw [List.length_map]; exact small1000 (by omega), ?_, Same.own s6 nD⟩) (fun z => nomatch z)
      rw [upd_same, filt_succ, if_pos (decide_eq_true (by rw [eb2, ← c]; rfl)), List.map_append]
      rfl
    · rw [decide_eq_false c]
      refine if_bl (fun z => nomatch z) (fun _ => ⟨?_, s6⟩)
      rw [filt_succ, if_neg fun z => c (by have := of_decide_eq_true z; rw [eb2] at this; exact Option.some.inj this), List.append_nil]
      exact hD6
  · rintro H5 ⟨hD, s5⟩
    refine q D H5 nD ?_ s5
    rw [hD, lhv]
    rfl
end
/-! ### all(is_whole(x) for x in a tuple) -/
section
open PySem.Spec GxR
/-- isinstance(x, T), x a local name, wherever it stands -/
theorem isi_local {prog : Program} {w : World} {A : Around} {E : Value → Shared → Prop} {Q : Value → Shared → Prop} {env : Env} {K : PySem.W.Frag} {mg mb m : Str → Option Value} {s : Shared} {x T : Str} {Tn : String} {v t : Value} {b : Bool} {Hx : Heap → Prop} {p1 p2 p3 p4 : Pos}
    (kind : env.scope.kind = .function) (ki : env.kindOf "isinstance" = some .globalImplicit) (kT : env.kindOf T = some .globalImplicit) (kx : env.scope.names.lookup x = some .local) (dT : (T == ("__debug__" : Str)) = false) (dx : (x == ("__debug__" : Str)) = false)
    (g : s.heap.Ns env.globals mg) (bl : s.heap.Ns env.builtins mb) (mi : mg "isinstance" = none) (bi : mb "isinstance" = some (.builtin "isinstance")) (mT : mg T = none) (bT : mb T = some (.type Tn)) (ns : s.heap.Ns env.locals m) (mx : m x = some v)
    (kin : K.In s.heap) (Z : PySem.W.KitX K v t Hx) (p : Hx s.heap) (e : PySem.W.kitOne K t (.type Tn) = some b) (no : v ≠ .builtin "__main__.__loader__#opaque") (hQ : ∀ tk, Q (.bool b) { s with toks := tk }) :
    wpAny (model prog w) A (eval (.Call (.Name "isinstance" p1) [.Name x p2, .Name T p3] [] p4) env) Q E s := by
  refine wpAny_Call_Name_kw (Calls.Name_function_global kind ki (Calls.loadGlobal_builtin g mi bl bi ?_))
  refine PyProof.Rows.callWith_builtin1 ?_ (by rfl) (by rfl)
  show wpAny _ _ (spliced ((false, eval (.Name x p2) env) :: backTo p4 (starEach [.Name T p3] env))) _ _ s
  refine Calls.spliced_cons (wpAny_Name (wpAny_loadName_local kind kx ns mx ?_) dx)
  show wpAny _ _ (spliced ((false, eval (.Name T p3) env) :: backTo p4 (starEach [] env))) _ _ s
  refine Calls.spliced_cons (Calls.Name_function_global kind kT (Calls.loadGlobal_builtin g mT bl bT ?_) dT)
  refine Calls.spliced_nil ?_
  exact PySem.W.kia_one Z kin p e no hQ
/-- a def whose body is: return isinstance(x, int) and not isinstance(x, bool) -/
structure IsWholeDef (body : List Stmt) (scope : Scope) (x : Str) : Prop where
  body : ∃ p0 p1 p2 p3 p4 p5 p6 p7 p8 p9 p10 : Pos, body = [.Return (some (.BoolOp .And [.Call (.Name "isinstance" p1) [.Name x p2, .Name "int" p3] [] p4, .UnaryOp .Not (.Call (.Name "isinstance" p5) [.Name x p6, .Name "bool" p7] [] p8) p9] p10)) p0]
  kind : scope.kind = .function
  co : scope.isCoroutine = false
  gen : scope.isGenerator = false
  ki : scope.names.lookup ("isinstance" : Str) = some NameKind.globalImplicit
  kt : scope.names.lookup ("int" : Str) = some NameKind.globalImplicit
  kb : scope.names.lookup ("bool" : Str) = some NameKind.globalImplicit
  kx : scope.names.lookup x = some NameKind.local
  dx : (x == ("__debug__" : Str)) = false
theorem whole_call {prog : Program} {w : World} {A : Around} {E : Value → Shared → Prop} {K : PySem.W.Frag} {mg : Str → Option Value} {base : Heap} {s : Shared} {f : Addr} {fd : FuncData} {x nm : Str} {st : Stmt} {v t : Value} {a b : Bool} {Hx : Heap → Prop}
    (F : Fun K nm nm st f fd) (W : IsWholeDef (defBody st) (defScope st) x) (bnd : BindsTo s fd ⟨[v], []⟩ [(x, v)]) (Z : PySem.W.KitX K v t Hx) (hx : ∀ h', (∀ b o, s.heap.get? b = some o → h'.get? b = some o) → Hx h') (ea : PySem.W.kitOne K t (.type "int") = some a) (eb : PySem.W.kitOne K t (.type "bool") = some b) (no : v ≠ .builtin "__main__.__loader__#opaque") (M : Mod K mg base) (bk : ∀ b o, base.get? b = some o → s.heap.get? b = some o)
    (mi : mg "isinstance" = none) (mt : mg "int" = none) (mb : mg "bool" = none) (depth : A.depth + 2 < recursionLimit) :
    wpAny (model prog w) A (call (.ref f) [v]) (fun y s' => y = .bool (a && !b) ∧ Keeps s s') E s := by
  obtain ⟨kl, kd, kV, dc, pm, an, cv, ct, ks, rfl, look, cin⟩ := F.ex
  have kin : K.In s.heap := M.kin.keeps bk
  have lim : s.heap.NoLimit := M.nolimit.keeps bk
  refine wpAny_call (codeAny_call_function (by omega) (kin _ _ look) rfl W.co W.gen rfl (PySem.W.codeRec_of kin cin) (bnd _ _ _ _ ?_))
  refine wpAny_newFunctionEnv_cells W.kind (fun y hy => ?_) fun env he s1 ic => ?_
  · rw [List.mem_singleton.mp hy]
    exact .inl W.kx
  subst he
  refine ⟨lim.keeps ic.toInCall.keep, codeAny_func ?_⟩
  have nsx := ic.toInCall.ns
  have kp := ic.toInCall.keep
  have dn := ic.done
  generalize eenv : newEnv (PySem.W.fnOf nm nm (defArgs st) (defBody st) (defScope st) Value.none kV dc pm an cv ct).scope s.heap.objs.size _ _ _ _ _ _ _ = env at nsx ⊢
  have sc : env.scope = defScope st := by rw [← eenv]; rfl
  have gl : env.globals = mainGlobals := by rw [← eenv]; rfl
  have bl : env.builtins = builtinsNs := by rw [← eenv]; rfl
  have ko : ∀ y, env.kindOf y = (defScope st).names.lookup y := fun y => by rw [← eenv]; rfl
  have bk1 : ∀ b o, base.get? b = some o → s1.heap.get? b = some o := fun b o e => kp b o (bk b o e)
  obtain ⟨mbs, hb1, hb2⟩ := M.blt
  obtain ⟨p0, p1, p2, p3, p4, p5, p6, p7, p8, p9, p10, hbody⟩ := W.body
  show wpAny _ _ (execs (defBody st) env) _ _ s1
  rw [hbody]
  refine wpAny_execs_cons ?_
  refine wpAny_Return_some ?_
  have kindf : env.scope.kind = .function := by rw [sc]; exact W.kind
  have nsl := nsx
  have g1 : s1.heap.Ns env.globals mg := by rw [gl]; exact M.glob.keeps bk1
  have b1 : s1.heap.Ns env.builtins mbs := by rw [bl]; exact hb1.keeps bk1
  have kx1 : env.scope.names.lookup x = some .local := by rw [sc]; exact W.kx
  have mx : bindL env.kindOf [(x, v)] (fun _ => none) x = some v := by
    show (if env.kindOf x = some .local then fun y => if y = x then some v else none else fun _ => none) x = _
    rw [if_pos ((ko x).trans W.kx)]
    exact if_pos rfl
  refine wpAny_And2 (isi_local (K := K) kindf ((ko _).trans W.ki) ((ko _).trans W.kt) kx1 (by decide) W.dx g1 b1 mi (hb2 _ (by decide) |>.trans boot_isinstance) mt (hb2 _ (by decide) |>.trans boot_int) nsl mx (kin.keeps kp) Z (hx _ kp) ea no fun tk1 => ?_)
  refine wpAny_truthy_bool ?_
  obtain ⟨h', tk', e1, k1⟩ := dn
  cases a with
  | false => exact ⟨rfl, h', tk1, by rw [e1], k1⟩
  | true =>
    refine wpAny_UnaryOp (isi_local (K := K) kindf ((ko _).trans W.ki) ((ko _).trans W.kb) kx1 (by decide) W.dx g1 b1 mi (hb2 _ (by decide) |>.trans boot_isinstance) mb (hb2 _ (by decide) |>.trans boot_bool) nsl mx (kin.keeps kp) Z (hx _ kp) eb no fun tk2 => ?_)
    refine not_value (wpAny_truthy_bool ?_)
    exact ⟨rfl, h', tk2, by rw [e1], k1⟩
/-- one item looked at, in the generator's own surroundings -/
def LooksAt (X : Cx) (scope : Scope) (x : Str) (elt : Expr) (its : List Value) (pb : Nat → Bool) : Prop :=
  ∀ (cenv : Env) (A' : Around) (E' : Value → Shared → Prop) (i : Nat) (v : Value) (z : Shared) (mz : Str → Option Value), A'.depth ≤ X.A.depth + 1 → cenv.scope = scope → cenv.globals = mainGlobals →
    (∀ b o, X.base.get? b = some o → z.heap.get? b = some o) → z.heap.Ns cenv.locals mz → mz x = some v → its[i]? = some v →
    wpAny (model X.prog X.w) A' (eval elt cenv) (fun y z' => y = .bool (pb i) ∧ Keeps z z') E' z
/-- the state when the generator's code object was got: the table at P may be longer -/
structure Got (P : Addr) (ps : Array Value) (z z' : Shared) : Prop where
  same : z' = { z with heap := z'.heap, toks := z'.toks }
  ext : Heap.ExtBut P z.heap z'.heap
  size : z.heap.objs.size ≤ z'.heap.objs.size
  tab : ∃ more, z'.heap.get? P = some { cls := .none, data := .fields (ps ++ more) } ∧ TriplesOk (ps ++ more).toList
theorem code_got {prog : Program} {w : World} {A : Around} {E : Value → Shared → Prop} {env : Env} {gpos : Pos} {nm : Str} {scope : Scope} {c P : Addr} {ps : Array Value} {z : Shared}
    (hcode : env.code = .ref c) (cd : PySem.W.CodeHd z.heap c P) (hP : z.heap.get? P = some { cls := .none, data := .fields ps }) (ht : TriplesOk ps.toList) :
    wpAny (model prog w) A (genexprCode env gpos nm scope) (fun _ z' => Got P ps z z') E z := by
  cases among : codeAmong gpos ps.toList with
  | some cv => exact wpAny_genexprCode_hit hcode (cd.code hP ht) among ⟨rfl, .refl _ _, Nat.le_refl _, #[], by simpa using hP, by simpa using ht⟩
  | none =>
    refine wpAny_genexprCodeX hcode (cd.code hP ht) (cd.tab hP) among fun c' h' tk ext ge lt co _ tab _ => ?_
    obtain ⟨_, _, _, _, _, _, _, _, _, _, _, _, _, _, _, _, _, _, _, tr, _⟩ := co
    exact ⟨rfl, ext, Nat.le_trans ge (Nat.le_of_lt lt), _, tab.2, tr⟩
/-- a generator g of n truths pb, about to be walked; however far it is walked, H1 stands but for the table -/
def Poised (X : Cx) (pins : List (Addr × Obj)) (σ : L2.St) (H1 : Hp) (P : Addr) (n : Nat) (pb : Nat → Bool) (g : Addr) (z : Shared) : Prop :=
  ∃ (foot own : List Addr) (Gn : Array GenState → Array GenState → Prop) (Fn : Nat → Value → Prop) (Sn : Nat → Shared → Prop),
    WalksS X.prog X.w X.A.in1 g foot own Gn n Fn Sn ∧ Sn 0 z ∧ TruthOf X.prog X.w X.A.in1 Fn pb ∧ ∀ z', Moved own Gn z z' → ∃ H2, Tabbed P H1 H2 ∧ Inv X pins σ H2 z'
theorem gen_items {X : Cx} {pins : List (Addr × Obj)} {σ : L2.St} {H : Hp} {s : Shared} {c P : Addr} {elt iter : Expr} {x : Str} {px gpos : Pos} {scope : Scope} {te : TE} {k : Nat} {Qg : Value → Shared → Prop}
    (hr : Room k X.A) (TB : TabB X.base X.mg c P) (hcode : X.env.code = .ref c) (S : GenS X.env scope x) (hi : PE X iter te) (hs : ∀ v, genFold iter X.env v = pure v) (I : Inv X pins σ H s)
    {R : VK} (h : te σ H R) (hR : ∀ v H1, R v H1 → ∃ (a : Addr) (xs : List V) (pb : Nat → Bool), v = .ref a ∧ SqT X.K H1 a xs ∧ TabG H1 P ∧ (∀ its, Vals xs its → LooksAt X scope x elt its pb) ∧ ∀ g z, Poised X pins σ H1 P xs.length pb g z → Qg (.ref g) z) :
    wpAny (model X.prog X.w) X.A (eval (.GeneratorExp elt [⟨.Name x px, iter, [], 0⟩] scope gpos) X.env) Qg X.xe s := by
  refine wpAny_GeneratorExp_walksQD hr.hd S.co (closure_ok S.free) S.cell S.dot S.loc S.kind (by have := hr.dp; omega) ?_ hs
  refine thn (hi.run pins s σ H _ I h) fun u s1 ⟨v, H1, I1, rel, now⟩ => ?_
  obtain ⟨a, xs, pb, ev, hq, ⟨ps, hP, tri⟩, look, fin⟩ := hR v H1 now
  subst ev
  obtain rfl : u = Value.ref a := rel
  obtain ⟨its, rv, tup, _⟩ := I1.tuple hq
  refine wpAny_pyIter_tuple tup ?_
  have tabP : s1.heap.get? P = some { cls := .none, data := .fields ps } := I1.hok P _ hP
  have pushed : ∀ b o, s1.heap.get? b = some o → (s1.heap.push { cls := .type "tuple_iterator", data := .fields #[.ref a, .int 0 0] }).get? b = some o := fun b o e => Heap.get?_push_of_some _ e
  have born : Heap.IsTupleIter (s1.heap.push { cls := .type "tuple_iterator", data := .fields #[.ref a, .int 0 0] }) s1.heap.objs.size a 0 := ⟨_, Heap.get?_push_size _ rfl, rfl, rfl⟩
  have wider : (s1.heap.push { cls := .type "tuple_iterator", data := .fields #[.ref a, .int 0 0] }).objs.size = s1.heap.objs.size + 1 := Heap.size_push ..
  generalize s1.heap.push { cls := .type "tuple_iterator", data := .fields #[.ref a, .int 0 0] } = h2 at pushed born wider ⊢
  have al : a < s1.heap.objs.size := by obtain ⟨o, ho, _⟩ := tup; exact Heap.lt_size ho
  have pl : P < s1.heap.objs.size := Heap.lt_size tabP
  have cl : cStatics < s1.heap.objs.size := let ⟨_, hn, _⟩ := I1.nolimit; hn.lt
  have cP : cStatics ≠ P := fun e => by
    obtain ⟨_, ⟨o, es, ep, ho, hd, _⟩, _⟩ := I1.nolimit
    rw [e, tabP] at ho
    cases ho
    cases hd
  have aP : a ≠ P := fun e => by
    obtain ⟨o, ho, hc, _⟩ := tup
    rw [e, tabP] at ho
    cases ho
    cases hc
  have lim2 : h2.NoLimit := I1.nolimit.keeps pushed
  refine ⟨lim2, thn (code_got (ps := ps) hcode (TB.code.keeps fun b o e => pushed b o (I1.bk b o e)) (pushed _ _ tabP) tri) fun code s3 got => ?_⟩
  obtain ⟨eq3, ext, wide, more, hP3, tri3⟩ := got
  obtain ⟨h3, g3, d3, t3, o3⟩ := s3
  obtain ⟨rfl, rfl, rfl⟩ : g3 = s1.gens ∧ d3 = s1.drawn ∧ o3 = s1.os := by
    have := eq3
    simp only [Shared.mk.injEq] at this
    exact ⟨this.2.1, this.2.2.1, this.2.2.2.2⟩
  replace ext : Heap.ExtBut P h2 h3 := ext
  replace wide : h2.objs.size ≤ h3.objs.size := wide
  have kept : ∀ b o, b ≠ P → s1.heap.get? b = some o → h3.get? b = some o := fun b o nb e => ext b o nb (pushed b o e)
  obtain ⟨bm, ob, b1, b2, b3, b4, b5, b6, b7, b8⟩ := TB.bm
  refine wpAny_builtinsFor (m := X.mg) (by rw [I1.ok.glob]; exact (I1.mod.glob.keeps fun b o e => pushed b o (I1.bk b o e)).extBut ext TB.gP) b1 b2 (kept _ _ b4 (I1.bk _ _ b5)) b6 b7 b8 ?_
  refine ⟨s1.heap.objs.size, [s1.heap.objs.size, a], [s1.heap.objs.size], its.toArray.size, (fun i v => its.toArray[i]? = some v), _, (fun _ => true), (fun i y => i < its.length ∧ y = .bool (pb i)), rfl, fun A' hA => Walks.tuple hA s1.heap.objs.size a (Nat.ne_of_lt al) its.toArray, ⟨?_, ?_⟩, ?_, lim2.extBut ext cP, ?_, ?_, ?_⟩
  · exact born.at fun o e => ext _ o (Nat.ne_of_gt pl) e
  · exact (show Heap.IsTuple s1.heap a its.toArray from tup).at fun o e => kept a o aP e
  · intro b hb
    have either : b = s1.heap.objs.size ∨ b = a := by simpa using hb
    show b < h3.objs.size
    have past : s1.heap.objs.size < h3.objs.size := by omega
    rcases either with z | z
    · rw [z]; exact past
    · rw [z]; exact Nat.lt_trans al past
  · intro z
    exact Nat.ne_of_lt cl (List.mem_singleton.mp z)
  · intro href above
    refine ⟨fun A' E' i v z mz _ _ _ _ _ _ _ => ?_, fun A' E' i v z mz _ dep _ pv _ nz mx up => ?_⟩
    · rw [List.forIn_nil]
      exact wpAny_pure ⟨rfl, GxR.keeps_refl z⟩
    · have at_ : its[i]? = some v := by
        have pv : its.toArray[i]? = some v := pv
        rwa [List.getElem?_toArray] at pv
      refine wpAny_mono (look its rv _ A' E' i v z mz dep rfl I1.ok.glob (fun b o e => ?_) nz mx at_) (fun y z' r => ⟨⟨(List.getElem?_eq_some_iff.mp at_).1, r.1⟩, r.2⟩) fun _ _ e => e
      have nb : b ≠ P := fun q => by
        have := (I1.bs b o e).2
        rw [q, hP] at this
        cases this
      have e1 := kept b o nb (I1.bk b o e)
      have bl := Heap.lt_size (I1.bk b o e)
      exact up b (List.mem_range.mpr (Heap.lt_size e1)) (fun q => Nat.ne_of_lt bl (List.mem_singleton.mp q)) o (above b o e1)
  · intro g h5 tk5 gs bare gt size5 kept5 W st0
    have many : (passing (fun _ => true) its.toArray.size 0).length = xs.length := by rw [GxR.passing_true, List.length_range, List.size_toArray, rv.length]
    rw [many] at W
    refine fin g _ ⟨_, _, _, _, _, W.in4_1, st0, fun j y z Qj Ej hy now => ?_, fun z' mv => ?_⟩
    · obtain ⟨i, hij, hil, rfl⟩ := hy
      rw [GxR.passing_true] at hij
      obtain ⟨lt, ij⟩ := List.getElem?_eq_some_iff.mp hij
      rw [List.getElem_range] at ij
      subst ij
      exact wpAny_truthy_bool now
    · have un : ∀ b o, s1.heap.get? b = some o → b ∉ h3.objs.size :: [s1.heap.objs.size] := fun b o e q => by
        have bl := Heap.lt_size e
        have past : s1.heap.objs.size < h3.objs.size := by omega
        have either : b = h3.objs.size ∨ b = s1.heap.objs.size := by simpa using q
        rcases either with q | q
        · exact Nat.ne_of_lt (Nat.lt_trans bl past) q
        · exact Nat.ne_of_lt bl q
      have J := inv_tab (more := more) (h' := z'.heap) (g' := z'.gens) (d' := z'.drawn) (t' := z'.toks) I1 hP (fun b o nb e => mv.heap b o (un b o e) (kept5 b o (kept b o nb e))) (mv.heap P _ (un P _ tabP) (kept5 P _ hP3)) (AllBare.movedS (I1.bare.push bare) mv)
      rw [sh_eta s1 z' mv.os] at J
      exact ⟨_, ⟨⟨_, upd_same, tri3⟩, fun b nb => upd_ne nb⟩, J⟩
/-- is_whole's answer for a thing that is no object -/
def wholeV : V → Option Bool
  | .int _ => some true
  | .bl _ => some false
  | .non => some false
  | .str _ => some false
  | _ => none
/-- is_whole(x) for x in ..: the generator's element -/
structure WholeElt (X : Cx) (scope : Scope) (x nm : Str) (f : Addr) (fd : FuncData) (st : Stmt) (y : Str) : Prop where
  fn : Fun X.K nm nm st f fd
  df : IsWholeDef (defBody st) (defScope st) y
  bn : Binds X.K fd [y] []
  mg : X.mg nm = some (.ref f)
  mi : X.mg "isinstance" = none
  mt : X.mg "int" = none
  mb : X.mg "bool" = none
  kind : scope.kind = .function
  kf : scope.names.lookup nm = some NameKind.globalImplicit
  kx : scope.names.lookup x = some NameKind.local
  dx : (x == ("__debug__" : Str)) = false
  df2 : (nm == ("__debug__" : Str)) = false
theorem whole_elt {X : Cx} {scope : Scope} {x nm : Str} {f : Addr} {fd : FuncData} {st : Stmt} {y : Str} {k : Nat} {xs : List V} {p1 p2 p3 : Pos} (W : WholeElt X scope x nm f fd st y) (M : L2.Mod X.K X.mg X.base) (hr : Room k X.A) (hk : 1 ≤ k)
    (hv : ∀ v ∈ xs, ∃ b, wholeV v = some b) :
    ∀ its, Vals xs its → LooksAt X scope x (.Call (.Name nm p1) [.Name x p2] [] p3) its (fun i => (xs[i]?.bind wholeV).getD false) := by
  intro its rv cenv A' E' i v z mz dep sc gl up nz mx at_
  have kc : cenv.scope.kind = .function := by rw [sc]; exact W.kind
  have hd := hr.dp
  refine wpAny_Call_Name_kw (Calls.Name_function_global kc (show cenv.scope.names.lookup nm = _ by rw [sc]; exact W.kf) (Calls.loadGlobal_global (by rw [gl]; exact M.glob.keeps up) W.mg ?_) W.df2)
  have at2 := at_
  obtain ⟨v0, hv0⟩ : ∃ v0, xs[i]? = some v0 := ⟨_, List.getElem?_eq_getElem (by rw [rv.length]; exact (List.getElem?_eq_some_iff.mp at_).1)⟩
  obtain ⟨u, hu, rel⟩ := rv.get hv0
  rw [at_] at hu
  cases hu
  obtain ⟨b, hb⟩ := hv v0 (List.mem_of_getElem? hv0)
  have ans : (fun i => (xs[i]?.bind wholeV).getD false) i = b := by
    show (xs[i]?.bind wholeV).getD false = b
    rw [hv0]
    show (wholeV v0).getD false = b
    rw [hb]
    rfl
  rw [ans]
  have kin : X.K.In z.heap := M.kin.keeps up
  obtain ⟨oc, od, kV, doc, pm, an, cdv, ct, osl, efd, lk, hcd⟩ := W.fn.ex
  refine callWith_meth (h₀ := z.heap) (first := []) rfl (kin _ _ lk) ?_
  show wpAny _ _ (spliced ((false, eval (.Name x p2) cenv) :: backTo p3 (starEach [] cenv))) _ _ z
  refine Calls.spliced_cons (wpAny_Name (wpAny_loadName_local kc (show cenv.scope.names.lookup x = _ by rw [sc]; exact W.kx) nz mx ?_) W.dx)
  refine Calls.spliced_nil ⟨fun _ _ e => e, ?_⟩
  have go : ∀ {t : Value} {a c : Bool}, PySem.W.KitX X.K v t (fun _ => True) → PySem.W.kitOne X.K t (.type "int") = some a → PySem.W.kitOne X.K t (.type "bool") = some c → v ≠ .builtin "__main__.__loader__#opaque" → b = (a && !c) →
      wpAny (model X.prog X.w) A' (call (.ref f) [v]) (fun y z' => y = .bool b ∧ Keeps z z') E' z := fun {t a c} Z ea eb no eq => by
    rw [eq]
    exact whole_call W.fn W.df (W.bn z [v] kin rfl) Z (fun _ _ => trivial) ea eb no M up W.mi W.mt W.mb (by omega)
  cases v0 with
  | int n =>
    obtain ⟨t, rfl⟩ := rel
    cases hb
    exact go PySem.W.kitx_int (kit_ty rfl) (kit_ty rfl) (fun z => nomatch z) rfl
  | bl n =>
    obtain rfl : v = .bool n := rel
    cases hb
    exact go PySem.W.kitx_bool (kit_ty rfl) (kit_ty rfl) (fun z => nomatch z) rfl
  | non =>
    obtain rfl : v = .none := rel
    cases hb
    exact go PySem.W.kitx_none (kit_ty rfl) (kit_ty rfl) (fun z => nomatch z) rfl
  | str n =>
    obtain ⟨t, rfl⟩ := rel
    cases hb
    exact go PySem.W.kitx_str (kit_ty rfl) (kit_ty rfl) (fun z => nomatch z) rfl
  | byt n => cases hb
  | flt n => cases hb
  | ref n => cases hb
  | ty n => cases hb
/-- all(is_whole(x) for x in e), e a tuple -/
def tAllW (K : PySem.W.Frag) (P : Addr) (te : TE) : TE := fun σ H Q => te σ H fun v H1 => ∃ (a : Addr) (xs : List V), v = .ref a ∧ SqT K H1 a xs ∧ TabG H1 P ∧ (∀ y ∈ xs, ∃ b, wholeV y = some b) ∧ ∀ H2, Tabbed P H1 H2 → Q (.bl (xs.all fun y => (wholeV y).getD false)) H2
theorem all_at {α : Type} (xs : List α) (g : α → Option Bool) : ((List.range xs.length).all fun i => (xs[i]?.bind g).getD false) = xs.all fun y => (g y).getD false := by
  induction xs with
  | nil => rfl
  | cons y r ih =>
    rw [List.length_cons, List.range_succ_eq_map, List.all_cons, List.all_map, List.all_cons, ← ih]
    rfl
theorem pe_allW {X : Cx} (K : PySem.W.Frag) (hK : X.K = K) {c P : Addr} {iter : Expr} {x nm y : Str} {px p pos gpos p1 p2 p3 : Pos} {scope : Scope} {te : TE} {k : Nat} {f : Addr} {fd : FuncData} {st : Stmt}
    (hr : Room k X.A) (hk : 1 ≤ k) (hg : Gl X "all") (hm : X.mg "all" = none) (hb : bootBuiltins "all" = some (.builtin "all")) (TB : TabB X.base X.mg c P) (hcode : X.env.code = .ref c) (S : GenS X.env scope x) (hi : PE X iter te) (W : WholeElt X scope x nm f fd st y)
    (hs : ∀ v, genFold iter X.env v = pure v) :
    PE X (.Call (.Name "all" p) [.GeneratorExp (.Call (.Name nm p1) [.Name x p2] [] p3) [⟨.Name x px, iter, [], 0⟩] scope gpos] [] pos) (tAllW K P te) := by
  subst hK
  refine ⟨fun pins s σ H Q I h => ?_⟩
  refine wpAny_Call_Name_kw (ld_blt I hg hm hb (PyProof.Rows.callWith_builtin1 ?_ rfl rfl))
  show wpAny _ _ (spliced ((false, eval (.GeneratorExp (.Call (.Name nm p1) [.Name x p2] [] p3) [⟨.Name x px, iter, [], 0⟩] scope gpos) X.env) :: backTo pos (starEach [] X.env))) _ _ s
  refine Calls.spliced_cons (gen_items hr TB hcode S hi hs I h fun v H1 now => ?_)
  obtain ⟨a, xs, rfl, hq, tab, scal, fin⟩ := now
  refine ⟨a, xs, _, rfl, hq, tab, whole_elt W I.mod hr hk scal, fun g z poised => Calls.spliced_nil ?_⟩
  obtain ⟨fp, wr, G, F, St, walks, st0, truth, after⟩ := poised
  refine call_all_walkS (walks.self 0 _ _ _ st0 ⟨g, fp, wr, G, _, F, St, _, rfl, walks, st0, truth, fun z' mv => ?_⟩)
  obtain ⟨H2, tb, J⟩ := after z' mv
  refine ⟨.bl _, H2, J, rfl, ?_⟩
  rw [all_at xs wholeV]
  exact fin H2 tb
/-- a def of which the code object is known -/
theorem ok_code {P : Program} {w : World} {K : PySem.W.Frag} {mg : Str → Option Value} {base : Heap} {x qual : Str} {st : Stmt} {f c : Addr} {fd : FuncData} {N ps : List Str} {k : Nat} {sp : Sp} (F : Fun K x qual st f fd) (hc : fd.code = .ref c) (S : FnScope N ps (defScope st)) (len : ∀ vs H Q E, sp vs H Q E → vs.length = ps.length)
    (hbody : ∀ (A : Around) (outer : List Env) (s : Shared) (H : Hp) (vs : List V) (Q : VK) (E : XK), Room k (A.deeper (envOfC qual (defScope st) s.heap.objs.size f (.ref c))) → sp vs H Q E →
      ∃ t, PSs (cxOf CX0 P w K mg base N qual (defScope st) f (.ref c) A outer s H E).nox (defBody st) t ∧ t { nx := fun _ H' => Q .non H', rt := Q } (start N vs) H) : FnOk P w K mg base CX0 (k + 1) f fd ps sp := by
  obtain ⟨kl, kd, kV, dc, pm, an, cv, ct, ks, rfl, look, cin⟩ := F.ex
  obtain rfl : cv = .ref c := hc
  refine fn_of look cin S len fun A outer s H vs Q E hr now => ?_
  obtain ⟨t, h, q⟩ := hbody A outer s H vs Q E hr now
  exact ⟨t, h.nox, q⟩
/-- a statement that is never come to -/
theorem ps_dead {X : Cx} {st : Stmt} : PS X st (fun _ _ _ => False) := ⟨fun _ _ _ _ _ _ h => h.elim⟩
end
/-! ### max of a tuple of numbers -/
def rMaxT (K : PySem.W.Frag) : List V → Hp → VK → Prop := fun xs H Q => ∃ (a : Addr) (ns : List Int), xs = [.ref a] ∧ SqT K H a (ns.map V.int) ∧ ns ≠ [] ∧ ∀ m, m ∈ ns → (∀ y ∈ ns, y ≤ m) → Q (.int m) H
theorem cr_maxT {X : Cx} (K : PySem.W.Frag) (hk : X.K = K) (hc : X.calm = true) : CallR X (.builtin "max") (rMaxT K) := by
  subst hk
  intro pins s σ H xs us Q I r h
  obtain ⟨a, ns, rfl, hs, ne, q⟩ := h
  obtain ⟨its, rv, hl, _⟩ := I.tuple hs
  rw [Vals.ref1 r]
  have ln : its.length = ns.length := by rw [← rv.length, List.length_map]
  have pos : 0 < ns.length := List.length_pos_iff.mpr ne
  have size : its.toArray.size = ns.length := by rw [List.size_toArray, ln]
  refine PySem.call_max_walkH (PySem.W.iter_tupleW (A := X.A.in1) (I.ok.hd hc) hl fun z e W st low out up => ?_)
  refine ⟨_, _, _, _, _, _, _, s.heap, (fun i j => decide (ns.getD i 0 > ns.getD j 0)), rfl, W, st, low, by rw [size]; exact pos, out, up, fun i j vi vj s3 Q3 E3 _ p1 p2 q3 => ?_, fun v s' hP m => ?_⟩
  · exact (CmpOf.ints_gt (fun i => ns.getD i 0) (ints_val rv)) i j vi vj s3 Q3 E3 p1 p2 q3
  · obtain ⟨h', tk, rfl, old⟩ := PySem.W.moved_old e rfl m
    obtain ⟨t, rfl⟩ := ints_val rv _ v hP
    obtain ⟨h1, h2⟩ := argBest_gt (fun i => ns.getD i 0) (its.toArray.size - 1)
    have get : ∀ j, j < ns.length → ns.getD j 0 ∈ ns := fun j jl => by
      rw [List.getD_eq_getElem?_getD, List.getElem?_eq_getElem jl]
      exact List.getElem_mem _
    refine ⟨.int _, H, I.kept old, ⟨_, rfl⟩, q _ (get _ (by omega)) fun y hy => ?_⟩
    obtain ⟨j, hj⟩ := List.getElem?_of_mem hy
    have jl := (List.getElem?_eq_some_iff.mp hj).1
    have := h2 j (by omega)
    rwa [show ns.getD j 0 = y by rw [List.getD_eq_getElem?_getD, hj]; rfl] at this
/-! ### min of a tuple of numbers -/
def rMinT (K : PySem.W.Frag) : List V → Hp → VK → Prop := fun xs H Q => ∃ (a : Addr) (ns : List Int), xs = [.ref a] ∧ SqT K H a (ns.map V.int) ∧ ns ≠ [] ∧ ∀ m, m ∈ ns → (∀ y ∈ ns, m ≤ y) → Q (.int m) H
theorem cr_minT {X : Cx} (K : PySem.W.Frag) (hk : X.K = K) (hc : X.calm = true) : CallR X (.builtin "min") (rMinT K) := by
  subst hk
  intro pins s σ H xs us Q I r h
  obtain ⟨a, ns, rfl, hs, ne, q⟩ := h
  obtain ⟨its, rv, hl, _⟩ := I.tuple hs
  rw [Vals.ref1 r]
  have ln : its.length = ns.length := by rw [← rv.length, List.length_map]
  have pos : 0 < ns.length := List.length_pos_iff.mpr ne
  have size : its.toArray.size = ns.length := by rw [List.size_toArray, ln]
  refine PySem.call_min_walkH (PySem.W.iter_tupleW (A := X.A.in1) (I.ok.hd hc) hl fun z e W st low out up => ?_)
  refine ⟨_, _, _, _, _, _, _, s.heap, (fun i j => decide (ns.getD i 0 < ns.getD j 0)), rfl, W, st, low, by rw [size]; exact pos, out, up, fun i j vi vj s3 Q3 E3 _ p1 p2 q3 => ?_, fun v s' hP m => ?_⟩
  · exact (CmpOf.ints_lt (fun i => ns.getD i 0) (ints_val rv)) i j vi vj s3 Q3 E3 p1 p2 q3
  · obtain ⟨h', tk, rfl, old⟩ := PySem.W.moved_old e rfl m
    obtain ⟨t, rfl⟩ := ints_val rv _ v hP
    obtain ⟨h1, h2⟩ := argBest_lt (fun i => ns.getD i 0) (its.toArray.size - 1)
    have get : ∀ j, j < ns.length → ns.getD j 0 ∈ ns := fun j jl => by
      rw [List.getD_eq_getElem?_getD, List.getElem?_eq_getElem jl]
      exact List.getElem_mem _
    refine ⟨.int _, H, I.kept old, ⟨_, rfl⟩, q _ (get _ (by omega)) fun y hy => ?_⟩
    obtain ⟨j, hj⟩ := List.getElem?_of_mem hy
    have jl := (List.getElem?_eq_some_iff.mp hj).1
    have := h2 j (by omega)
    rwa [show ns.getD j 0 = y by rw [List.getD_eq_getElem?_getD, hj]; rfl] at this
abbrev levL (n : Nat) (lv : Nat → Int) : List V := (List.range n).map fun p => V.int (lv p)
theorem rg_at {n p : Nat} {f : Nat → V} (h : p < n) : ((List.range n).map f)[p]? = some (f p) := by
  rw [List.getElem?_map, List.getElem?_range h]; rfl
/-- a belt's trays, shifts gone -/
def trS (sh : Nat → Int) (b : BR) : Int := (b.th.length : Int) + sh b.to - sh b.one
/-- shifts that are let by -/
structure Good33 (hs : List HR) (bs : List BR) (late : Int) (sh : Nat → Int) : Prop where
  ins : ∀ k ∈ doorsOf "in" hs, sh k = 0
  outs : ∀ k ∈ doorsOf "out" hs, sh k = late
  tr : ∀ b ∈ bs, 0 ≤ trS sh b
theorem tab_tk {PT : Addr} {H H' : Hp} (g : GxR.TabG H PT) (b : But PT H H') : TK H H' := fun a xs e => b a _ e fun z => by
  obtain ⟨ps, e1, _⟩ := g
  rw [z, e1] at e
  cases e
theorem tabbed_but {PT : Addr} {H H' : Hp} (t : GxR.Tabbed PT H H') : But PT H H' := fun b o e n => (t.2 b n).trans e
theorem same_tab {PT : Addr} {H H' : Hp} (g : GxR.TabG H PT) (s : Same H H') : GxR.TabG H' PT := by
  obtain ⟨ps, e, t⟩ := g
  exact ⟨ps, s _ _ e, t⟩
/-- the table of is_shifts' code object -/
class TabI (K : PySem.W.Frag) (mg : Str → Option Value) (base : Heap) (cT PT : outParam Addr) : Prop where
  tb : GxR.TabB base mg cT PT
  cd : ∀ (f : Addr) (fd : FuncData), Fun K "is_shifts" "is_shifts" s_is_shifts f fd → mg "is_shifts" = some (.ref f) → fd.code = .ref cT
section
variable {P : Program} {w : World} {K : PySem.W.Frag} {mg : Str → Option Value} {base : Heap}
def sp_is_whole (K : PySem.W.Frag) : Sp := fun vs H Q _ => ∃ n : Int, vs = [.int n] ∧ Q (.bl true) H
theorem ok_is_whole {f : Addr} {fd : FuncData} (F : Fun K "is_whole" "is_whole" s_is_whole f fd) (T : Top K mg) : FnOk P w K mg base CX0 1 f fd ["thing"] (sp_is_whole K) := by
  refine F.ok sc_is_whole (fun vs H Q E h => ?_) (fun cdv A outer s H vs Q E hr h => ?_)
  · obtain ⟨n, rfl, _⟩ := h
    rfl
  obtain ⟨n, rfl, q⟩ := h
  refine ⟨_, (pss_one (ps_ret (pe_and (pe_callB (call_isiKK K rfl) (by rfl) T.m_isinstance (by decide +kernel) (pa_cons (pv 0) (pa_cons (pe_bltn (v := .ty "int") (by rfl) T.m_int (by decide +kernel) rfl) pa_nil))) (pe_one (pe_not (pe_callB (call_isiKK K rfl) (by rfl) T.m_isinstance (by decide +kernel) (pa_cons (pv 0) (pa_cons (pe_bltn (v := .ty "bool") (by rfl) T.m_bool (by decide +kernel) rfl) pa_nil)))))))), ?_⟩
  refine ⟨_, rfl, _, _, _, _, true, rfl, .ty "int", .base (.int _), kit_ty (by decide +kernel), _, rfl, if_bl (fun _ => ?_) (fun z => nomatch z)⟩
  exact ⟨_, rfl, _, _, _, _, false, rfl, .ty "bool", .base (.int _), kit_ty (by decide +kernel), _, rfl, q⟩
theorem genS_of {env : Env} {scope : Scope} {x : Str} (h1 : scope.kind = .function) (h2 : scope.isCoroutine = false) (h3 : ∀ y ∈ scope.names, y.2 ≠ .cell) (h4 : scope.names.lookup (".0" : Str) = some NameKind.local) (h5 : scope.names.lookup x = some .local) (h6 : ∀ y ∈ scope.names, y.2 ≠ .free) : GxR.GenS env scope x :=
  ⟨h1, h2, h3, h4, h5, fun y hy z => absurd z (h6 y hy)⟩
theorem iw_def : IsWholeDef (defBody s_is_whole) (defScope s_is_whole) "thing" := ⟨⟨_, _, _, _, _, _, _, _, _, _, _, rfl⟩, rfl, rfl, rfl, rfl, rfl, rfl, rfl, by decide⟩
section
variable {cT PT : Addr} [TI : TabI K mg base cT PT]
include TI
def sp_is_shifts (K : PySem.W.Frag) (PT : Addr) : Sp := fun vs H Q _ => ∃ (r sl : Addr) (hs : List HR) (bs : List BR) (m : Nat) (sh : Nat → Int), vs = [.ref r, .ref sl] ∧ RoomAt H r hs bs ∧ RoomOk hs bs ∧ H sl = some (.tup (levL m sh)) ∧ GxR.TabG H PT ∧ ∀ H', GxR.Tabbed PT H H' → Q (.bl (decide (m = hs.length))) H'
theorem ok_is_shifts {f : Addr} {fd : FuncData} (F : Fun K "is_shifts" "is_shifts" s_is_shifts f fd) (hcd : fd.code = .ref cT) (T : Top K mg) : FnOk P w K mg base CX0 2 f fd ["room", "thing"] (sp_is_shifts K PT) := by
  obtain ⟨f_is_whole, fd_is_whole, F_is_whole, b_is_whole, m_is_whole⟩ := T.d_is_whole
  have G_is_whole := ok_is_whole (P := P) (w := w) (base := base) F_is_whole T
  refine ok_code F hcd sc_is_shifts (fun vs H Q E h => ?_) (fun A outer s H vs Q E hr h => ?_)
  · obtain ⟨r, sl, hs, bs, m, sh, rfl, _⟩ := h
    rfl
  obtain ⟨r, sl, hs, bs, m, sh, rfl, hR, ok, hsl, tg, q⟩ := h
  obtain ⟨ha, ba, hv, bv, er, eh, eb, alh, alb⟩ := hR.ex
  have lhv := alh.length
  have lh := ok.hands
  have lsl : (levL m sh).length = m := by rw [List.length_map, List.length_range]
  refine ⟨_, (pss_cons (ps_if (PW.pt (pw_or (pt_not (pt_val (pe_callB (call_isiKK K rfl) (by rfl) T.m_isinstance (by decide +kernel) (pa_cons (pv 1) (pa_cons (pe_bltn (v := .ty "tuple") (by rfl) T.m_tuple (by decide +kernel) rfl) pa_nil))))) (pw_or1 (pt_cmpR op_ne (pe_callB (call_len_seqK K rfl) (by rfl) T.m_len (by decide +kernel) (pa_cons (pv 1) pa_nil)) (pe_callB (call_len_seqK K rfl) (by rfl) T.m_len (by decide +kernel) (pa_cons (pe_ix (ix_tupK K rfl) (pv 0) pe_int (fun _ _ => rfl)) pa_nil)) (nomark _))))) (pss_one (ps_ret pe_bl)) pss_nil)
      (pss_one (ps_ret (pe_allW K rfl hr (by decide) (by rfl) T.m_all (by decide +kernel) TI.tb rfl (genS_of rfl rfl (by decide +kernel) rfl rfl (by decide +kernel)) (pv 1) ⟨F_is_whole, iw_def, b_is_whole, m_is_whole, T.m_isinstance, T.m_int, T.m_bool, rfl, rfl, rfl, by decide, by decide⟩ (fun _ => rfl))))), ?_⟩
  refine ⟨_, rfl, _, _, _, _, true, rfl, .ty "tuple", .base (.tup hsl), kit_ty (by decide +kernel), _, rfl, if_bl (fun z => nomatch z) (fun _ => ?_)⟩
  refine ⟨_, rfl, sl, _, rfl, .inr (SqT.of hsl), _, rfl, r, _, _, _, rfl, rfl, SqT.of er, atI_nat (j := 0) rfl, ha, _, rfl, .inr (SqT.of eh), rfl, _, rfl, ?_⟩
  refine if_bl (fun z => ?_) (fun z => ?_)
  · have z : (!decide (V.int (((levL m sh).length : Nat) : Int) = V.int ((hv.length : Nat) : Int))) = true := z
    have ne : m ≠ hs.length := fun e => by
      rw [decide_eq_true (by rw [lsl, lhv, e])] at z
      cases z
    have := q H ⟨tg, fun _ _ => rfl⟩
    rw [decide_eq_false ne] at this
    exact this
  have em : m = hs.length := by
    refine Classical.byContradiction fun ne => ?_
    have z : (!decide (V.int (((levL m sh).length : Nat) : Int) = V.int ((hv.length : Nat) : Int))) = false := z
    rw [decide_eq_false fun e => ne (by have := V.int.inj e; rw [lsl, lhv] at this; omega)] at z
    cases z
  refine ⟨_, rfl, sl, _, rfl, SqT.of hsl, tg, fun y hy => ?_, fun H2 tb => ?_⟩
  · obtain ⟨p, _, rfl⟩ := List.mem_map.mp hy
    exact ⟨true, rfl⟩
  · have each : ((levL m sh).all fun y => (wholeV y).getD false) = true := List.all_eq_true.mpr fun y hy => by
      obtain ⟨p, _, rfl⟩ := List.mem_map.mp hy
      rfl
    rw [each]
    have := q H2 tb
    rw [decide_eq_true em] at this
    exact this
end
def sp_trays_moved (K : PySem.W.Frag) : Sp := fun vs H Q _ => ∃ (r sl : Addr) (hs : List HR) (bs : List BR) (sh : Nat → Int), vs = [.ref r, .ref sl] ∧ RoomAt H r hs bs ∧ RoomOk hs bs ∧ H sl = some (.tup (levL hs.length sh)) ∧
  ∀ (p : Addr) (H' : Hp), H p = none → H' p = some (.lst (bs.map fun b => V.int (trS sh b))) → Same H H' → Q (.ref p) H'
theorem ok_trays_moved {f : Addr} {fd : FuncData} (F : Fun K "trays_moved" "trays_moved" s_trays_moved f fd) (T : Top K mg) : FnOk P w K mg base CX0 1 f fd ["room", "shifts"] (sp_trays_moved K) := by
  refine F.ok sc_trays_moved (fun vs H Q E h => ?_) (fun cdv A outer s H vs Q E hr h => ?_)
  · obtain ⟨r, sl, hs, bs, sh, rfl, _⟩ := h
    rfl
  obtain ⟨r, sl, hs, bs, sh, rfl, hR, ok, hsl, q⟩ := h
  obtain ⟨ha, ba, hv, bv, er, eh, eb, alh, alb⟩ := hR.ex
  have lbv := alb.length
  have lb := ok.many
  refine ⟨_, (pss_one (ps_ret (pe_lc (own := [("giver", 2), ("taker", 3), ("things", 4)]) (g := gTup K 3 (gCons (gName 2) (gCons (gName 3) (gCons (gName 4) gNil)))) (tt := tYes) (by rfl) sc_trays_moved.nd (pi_tupK K rfl (pe_ix (ix_tupK K rfl) (pv 0) pe_int (fun _ _ => rfl))) (blkOk_by (own := [("giver", 2), ("taker", 3), ("things", 4)]) (N := N_trays_moved) (sc := defScope s_trays_moved) (by decide +kernel)) (fun _ _ _ _ _ => (pg_tupK K rfl rfl (pgs_cons (pg_name (i := 2) sc_trays_moved.nd rfl (Or.inl rfl)) (pgs_cons (pg_name (i := 3) sc_trays_moved.nd rfl (Or.inl rfl)) (pgs_cons (pg_name (i := 4) sc_trays_moved.nd rfl (Or.inl rfl)) pgs_nil))))) (fun _ _ _ _ _ => pts_nil) (fun _ _ _ _ _ => (pe_op op_sub (pe_op op_add (pe_callB (call_len_seqK K rfl) (by rfl) T.m_len (by decide +kernel) (pa_cons (pv 4) pa_nil)) (pe_ix (ix_tupK K rfl) (pv 1) (pv 3) (fun _ _ => rfl))) (pe_ix (ix_tupK K rfl) (pv 1) (pv 2) (fun _ _ => rfl))))))), ?_⟩
  refine ⟨_, rfl, r, _, _, _, rfl, rfl, SqT.of er, atI_nat (j := 1) rfl, ba, rfl, ⟨_, SqT.of eb⟩, fun D nD => lc_tup (K := K) (a := ba) (xs := bv) (fun i H5 => H5 D = some (.lst ((bs.take i).map fun b => V.int (trS sh b))) ∧ Same H H5) ⟨upd_same, same_new nD⟩ (fun i H5 _ ⟨_, s5⟩ => SqT.of (s5 _ _ eb)) ?_ ?_⟩
  · rintro i x H5 hx ⟨hD, s5⟩
    obtain ⟨b, ebi, ⟨t, g, rfl, e1, e2⟩⟩ := alb.getL hx
    have il := (List.getElem?_eq_some_iff.mp ebi).1
    obtain ⟨l1, l2⟩ := ok.ends b (List.mem_of_getElem? ebi)
    refine ⟨t, _, rfl, SqT.of (s5 _ _ e1), rfl, ?_⟩
    refine ⟨_, _, rfl, ?_⟩
    refine ⟨_, _, rfl, ?_⟩
    refine ⟨_, _, rfl, rfl, ?_⟩
    refine ⟨rfl, ?_⟩
    refine yes_in ?_
    refine ⟨_, rfl, g, _, rfl, .inr (SqT.of (s5 _ _ e2)), _, rfl, _, rfl, sl, _, _, _, rfl, rfl, SqT.of (s5 _ _ hsl), atI_nat (rg_at l2), _, _, rfl, rfl, _, rfl, _, rfl, sl, _, _, _, rfl, rfl, SqT.of (s5 _ _ hsl), atI_nat (rg_at l1), _, _, rfl, rfl, _, hD, by rw [List.length_map, List.length_take]; exact small1000 (by omega), ?_, Same.own s5 nD⟩
    rw [upd_same, List.take_add_one, ebi, List.map_append, List.length_map]
    rfl
  · rintro H5 ⟨hD, s5⟩
    rw [lbv, List.take_length] at hD
    exact q D H5 nD hD s5
def sp_waits (K : PySem.W.Frag) : Sp := fun vs H Q _ => ∃ (sl : Addr) (ns : List Int), vs = [.ref sl] ∧ H sl = some (.tup (ns.map V.int)) ∧ ns.length ≤ 100 ∧ ∀ (m : Int) (H' : Hp), m ∈ 0 :: ns → (∀ y ∈ 0 :: ns, y ≤ m) → Same H H' → Q (.int m) H'
theorem ok_waits {f : Addr} {fd : FuncData} (F : Fun K "waits" "waits" s_waits f fd) (T : Top K mg) : FnOk P w K mg base CX0 1 f fd ["shifts"] (sp_waits K) := by
  refine F.ok sc_waits (fun vs H Q E h => ?_) (fun cdv A outer s H vs Q E hr h => ?_)
  · obtain ⟨sl, ns, rfl, _⟩ := h
    rfl
  obtain ⟨sl, ns, rfl, hsl, ln, q⟩ := h
  refine ⟨_, (pss_one (ps_ret (pe_callB (cr_maxT K rfl rfl) (by rfl) T.m_max (by decide +kernel) (pa_cons (pe_op (op_catAK K rfl) (pe_tup (pa_cons pe_int pa_nil)) (pv 0)) pa_nil)))), ?_⟩
  refine ⟨(by show 1 ≤ sizeLine; decide), fun z0 nz => ?_⟩
  have s1 := same_new (o := .tup [V.int 0]) nz
  refine ⟨_, rfl, z0, sl, _, _, rfl, rfl, SqT.of upd_same, SqT.of (s1 _ _ hsl), by rw [List.length_map]; exact little (by show 1 + _ ≤ 1000; omega), fun z => (nomatch z), fun _ em => ?_, fun _ _ p np => ?_⟩
  · have em : ns = [] := List.map_eq_nil_iff.mp em
    subst em
    exact ⟨z0, [0], rfl, SqT.of upd_same, by simp, fun m hm hle => q m _ hm hle s1⟩
  · exact ⟨p, 0 :: ns, rfl, SqT.of upd_same, by simp, fun m hm hle => q m _ hm hle (s1.trans (same_new np))⟩
theorem nats_at {ns : List Nat} {i : Nat} {x : V} (h : (ns.map nV)[i]? = some x) : ∃ n : Nat, ns[i]? = some n ∧ x = nV n := by
  rw [List.getElem?_map] at h
  cases e : ns[i]? with
  | none => rw [e] at h; cases h
  | some n => rw [e] at h; exact ⟨n, rfl, (Option.some.inj h).symm⟩
theorem door_lt {z : Str} {hs : List HR} {k : Nat} (h : k ∈ doorsOf z hs) : k < hs.length := by
  obtain ⟨_, e, _⟩ := mem_doors.mp h
  exact (List.getElem?_eq_some_iff.mp e).1
/-- doors that lie wrong -/
abbrev wrI (hs : List HR) (sh : Nat → Int) : List Nat := (doorsOf "in" hs).filter fun k => !decide (sh k = 0)
abbrev wrO (hs : List HR) (late : Int) (sh : Nat → Int) : List Nat := (doorsOf "out" hs).filter fun k => !decide (sh k = late)
def sp_wrong_door (K : PySem.W.Frag) : Sp := fun vs H Q _ => ∃ (r sl : Addr) (hs : List HR) (bs : List BR) (late : Int) (sh : Nat → Int), vs = [.ref r, .int late, .ref sl] ∧ RoomAt H r hs bs ∧ RoomOk hs bs ∧ H sl = some (.tup (levL hs.length sh)) ∧
  (∀ H', wrI hs sh ++ wrO hs late sh = [] → Same H H' → Q .non H') ∧ ∀ (k : Nat) (H' : Hp), k ∈ wrI hs sh ++ wrO hs late sh → (∀ j ∈ wrI hs sh ++ wrO hs late sh, k ≤ j) → Same H H' → Q (nV k) H'
theorem ne_dec {a b : Int} : (!decide (V.int a = V.int b)) = !decide (a = b) := by
  by_cases z : a = b
  · rw [z, decide_eq_true rfl, decide_eq_true rfl]
  · rw [decide_eq_false z, decide_eq_false fun y => z (V.int.inj y)]
theorem take_filt {p : Nat → Bool} {l : List Nat} {i k : Nat} (e : l[i]? = some k) : (l.take (i + 1)).filter p = (l.take i).filter p ++ if p k = true then [k] else [] := by
  rw [List.take_add_one, e, List.filter_append]
  show _ ++ [k].filter p = _
  rw [List.filter_cons, List.filter_nil]
theorem filt_few {p : Nat → Bool} {l : List Nat} {i : Nat} (h : l.length ≤ 12) : (((l.take i).filter p).map nV).length < sizeLine := by
  rw [List.length_map]
  have h1 := List.length_filter_le p (l.take i)
  rw [List.length_take] at h1
  exact small1000 (by omega)
theorem doors_few {z : Str} {hs : List HR} (h : hs.length ≤ 12) : (doorsOf z hs).length ≤ 12 := by
  unfold doorsOf
  refine Nat.le_trans (List.length_filter_le ..) ?_
  rw [List.length_range]
  exact h
theorem ok_wrong_door {f : Addr} {fd : FuncData} (F : Fun K "wrong_door" "wrong_door" s_wrong_door f fd) (T : Top K mg) : FnOk P w K mg base CX0 2 f fd ["room", "late", "shifts"] (sp_wrong_door K) := by
  obtain ⟨f_doors_in, fd_doors_in, F_doors_in, b_doors_in, m_doors_in⟩ := T.d_doors_in
  have G_doors_in := ok_doors_in (P := P) (w := w) (base := base) F_doors_in T
  obtain ⟨f_doors_out, fd_doors_out, F_doors_out, b_doors_out, m_doors_out⟩ := T.d_doors_out
  have G_doors_out := ok_doors_out (P := P) (w := w) (base := base) F_doors_out T
  refine F.ok sc_wrong_door (fun vs H Q E h => ?_) (fun cdv A outer s H vs Q E hr h => ?_)
  · obtain ⟨r, sl, hs, bs, late, sh, rfl, _⟩ := h
    rfl
  obtain ⟨r, sl, hs, bs, late, sh, rfl, hR, ok, hsl, q1, q2⟩ := h
  have lh := ok.hands
  let R1 : TS := fun D' σ' H' => D'.rt = Q ∧ ∃ (wl : Addr), σ' = [some (.ref r), some (.int late), some (.ref sl), some (.ref wl), none] ∧ H' wl = some (.lst ((wrI hs sh).map nV)) ∧ H wl = none ∧ Same H H'
  let R2 : TS := fun D' σ' H' => D'.rt = Q ∧ ∃ (wl : Addr), σ' = [some (.ref r), some (.int late), some (.ref sl), some (.ref wl), none] ∧ H' wl = some (.lst ((wrI hs sh ++ wrO hs late sh).map nV)) ∧ Same H H'
  refine ⟨_, (pss_cons (ps_setLc (i := 3) (own := [("door", 4)]) (g := gName 4) (by rfl) sc_wrong_door.nd rfl rfl (sw_true rfl rfl rfl (by decide +kernel)) (pi_listK K rfl (pe_call G_doors_in (hr.mono (by decide)) (by rfl) m_doors_in F_doors_in.kp b_doors_in .nil pass0 (pa_cons (pv 0) pa_nil))) (blkOk_by (own := [("door", 4)]) (N := N_wrong_door) (sc := defScope s_wrong_door) (by decide +kernel)) (fun _ _ _ _ _ => (pg_name (i := 4) sc_wrong_door.nd rfl (Or.inl rfl))) (fun _ _ _ _ _ => pts_one (pt_cmpR op_ne (pe_ix (ix_tupK K rfl) (pv 2) (pv 4) (fun _ _ => rfl)) pe_int (nomark _))) (fun _ _ _ _ _ => (pv 4)))
      (PSs.to (pss_cons (ps_expr (pe_bmK K rfl PySem.F.plainAttrs_list PySem.F.slot_list_extend PySem.F.type_list_extend mt_extend (pv 3) (pa_cons (pe_lc (own := [("door", 4)]) (g := gName 4) (by rfl) sc_wrong_door.nd (pi_listK K rfl (pe_call G_doors_out (hr.mono (by decide)) (by rfl) m_doors_out F_doors_out.kp b_doors_out .nil pass0 (pa_cons (pv 0) pa_nil))) (blkOk_by (own := [("door", 4)]) (N := N_wrong_door) (sc := defScope s_wrong_door) (by decide +kernel)) (fun _ _ _ _ _ => (pg_name (i := 4) sc_wrong_door.nd rfl (Or.inl rfl))) (fun _ _ _ _ _ => pts_one (pt_cmpR op_ne (pe_ix (ix_tupK K rfl) (pv 2) (pv 4) (fun _ _ => rfl)) (pv 1) (nomark _))) (fun _ _ _ _ _ => (pv 4))) pa_nil)))
      (PSs.to (pss_one (ps_ret (pe_callBK (cr_minDf K rfl rfl) (by rfl) T.m_min (by decide +kernel) (pa_cons (pv 3) pa_nil) (pk_cons pe_non pk_nil)))) R2 ?tail2)) R1 ?tail1)), ?_⟩
  case tail2 =>
    rintro D' σ' H1 ⟨eD, wl, rfl, hw, s1⟩
    have en : (wrI hs sh ++ wrO hs late sh).map nV = ((wrI hs sh ++ wrO hs late sh).map fun k => ((k : Nat) : Int)).map V.int := by rw [List.map_map]; rfl
    refine ⟨_, rfl, wl, (wrI hs sh ++ wrO hs late sh).map fun k => ((k : Nat) : Int), _, rfl, rfl, SqL.of (by rw [← en]; exact hw), fun e => ?_, fun m hm hle => ?_⟩
    · rw [eD]
      exact q1 H1 (List.map_eq_nil_iff.mp e) s1
    · obtain ⟨k, hk, rfl⟩ := List.mem_map.mp hm
      rw [eD]
      exact q2 k H1 hk (fun j hj => by have := hle _ (List.mem_map.mpr ⟨j, hj, rfl⟩); omega) s1
  case tail1 =>
    rintro D' σ' H1 ⟨eD, wl, rfl, hw, nw, s1⟩
    refine ⟨_, rfl, .inl ⟨rfl, _, SqL.of hw⟩, ?_⟩
    refine ⟨_, rfl, r, hs, bs, rfl, hR.keep (TK.same s1), by omega, ok.good, fun p H2 np hp s2 => ⟨p, rfl, ⟨_, SqL.of hp⟩, fun D nD => lc_list (K := K) (a := p) (xs := (doorsOf "out" hs).map nV) (fun i H5 => H5 D = some (.lst ((((doorsOf "out" hs).take i).filter fun k => !decide (sh k = late)).map nV)) ∧ Same H2 H5) ⟨upd_same, same_new nD⟩ (fun i H5 _ ⟨_, s5⟩ => SqL.of (s5 _ _ hp)) ?_ ?_⟩⟩
    · rintro i x H5 hx ⟨hD, s5⟩
      obtain ⟨k, ek, rfl⟩ := nats_at hx
      have km := List.mem_of_getElem? ek
      refine ⟨rfl, _, rfl, _, rfl, sl, _, _, _, rfl, rfl, SqT.of (((s1.trans s2).trans s5) _ _ hsl), atI_nat (rg_at (door_lt km)), _, rfl, rfl, _, rfl, ?_⟩
      rw [ne_dec]
      refine if_bl (fun z => ⟨_, rfl, _, hD, filt_few (doors_few lh), ?_, Same.own s5 nD⟩) (fun z => ⟨?_, s5⟩)
      · rw [upd_same, take_filt ek, if_pos z, List.map_append]; rfl
      · rw [take_filt ek, if_neg (by rw [z]; exact Bool.false_ne_true), List.append_nil]; exact hD
    · rintro H5 ⟨hD, s5⟩
      rw [List.length_map, List.take_length] at hD
      have hw5 := (s2.trans s5) _ _ hw
      have d1 := doors_few (z := "in") lh
      have d2 := doors_few (z := "out") lh
      have f1 : (wrI hs sh).length ≤ (doorsOf "in" hs).length := List.length_filter_le ..
      have f2 : (wrO hs late sh).length ≤ (doorsOf "out" hs).length := List.length_filter_le ..
      refine ⟨wl, D, _, _, rfl, rfl, hw5, hD, by rw [List.length_map, List.length_map]; exact little (show (wrI hs sh).length + (wrO hs late sh).length ≤ 1000 by omega), ?_⟩
      exact ⟨eD, wl, rfl, by rw [upd_same, List.map_append], Same.own ((s1.trans s2).trans s5) nw⟩
  refine ⟨_, rfl, r, hs, bs, rfl, hR, by omega, ok.good, fun p H1 np hp s1 => ⟨p, rfl, ⟨_, SqL.of hp⟩, fun D nD => lc_list (K := K) (a := p) (xs := (doorsOf "in" hs).map nV) (fun i H5 => H5 D = some (.lst ((((doorsOf "in" hs).take i).filter fun k => !decide (sh k = 0)).map nV)) ∧ Same H1 H5) ⟨upd_same, same_new nD⟩ (fun i H5 _ ⟨_, s5⟩ => SqL.of (s5 _ _ hp)) ?_ ?_⟩⟩
  · rintro i x H5 hx ⟨hD, s5⟩
    obtain ⟨k, ek, rfl⟩ := nats_at hx
    have km := List.mem_of_getElem? ek
    refine ⟨rfl, _, rfl, _, rfl, sl, _, _, _, rfl, rfl, SqT.of ((s1.trans s5) _ _ hsl), atI_nat (rg_at (door_lt km)), rfl, _, rfl, ?_⟩
    rw [ne_dec]
    refine if_bl (fun z => ⟨_, rfl, _, hD, filt_few (doors_few lh), ?_, Same.own s5 nD⟩) (fun z => ⟨?_, s5⟩)
    · rw [upd_same, take_filt ek, if_pos z, List.map_append]; rfl
    · rw [take_filt ek, if_neg (by rw [z]; exact Bool.false_ne_true), List.append_nil]; exact hD
  · rintro H5 ⟨hD, s5⟩
    rw [List.length_map, List.take_length] at hD
    exact ⟨rfl, D, rfl, hD, same_none s1 nD, s1.trans s5⟩
def sp_short_belt (K : PySem.W.Frag) : Sp := fun vs H Q _ => ∃ (r sl : Addr) (hs : List HR) (bs : List BR) (sh : Nat → Int), vs = [.ref r, .ref sl] ∧ RoomAt H r hs bs ∧ RoomOk hs bs ∧ H sl = some (.tup (levL hs.length sh)) ∧
  (∀ H', (∀ b ∈ bs, 0 ≤ trS sh b) → Same H H' → Q .non H') ∧ ∀ (j : Nat) (b : BR) (H' : Hp), bs[j]? = some b → trS sh b < 0 → (∀ i b', i < j → bs[i]? = some b' → 0 ≤ trS sh b') → Same H H' → Q (nV j) H'
theorem ok_short_belt {f : Addr} {fd : FuncData} (F : Fun K "short_belt" "short_belt" s_short_belt f fd) (T : Top K mg) : FnOk P w K mg base CX0 2 f fd ["room", "shifts"] (sp_short_belt K) := by
  obtain ⟨f_trays_moved, fd_trays_moved, F_trays_moved, b_trays_moved, m_trays_moved⟩ := T.d_trays_moved
  have G_trays_moved := ok_trays_moved (P := P) (w := w) (base := base) F_trays_moved T
  refine F.ok sc_short_belt (fun vs H Q E h => ?_) (fun cdv A outer s H vs Q E hr h => ?_)
  · obtain ⟨r, sl, hs, bs, sh, rfl, _⟩ := h
    rfl
  obtain ⟨r, sl, hs, bs, sh, rfl, hR, ok, hsl, q1, q2⟩ := h
  refine ⟨_, (pss_cons (ps_for PassesOwn.never rfl (pi_enum (by rfl) T.m_enumerate (pa_cons (pe_call G_trays_moved (hr.mono (by decide)) (by rfl) m_trays_moved F_trays_moved.kp b_trays_moved .nil pass0 (pa_cons (pv 0) (pa_cons (pv 1) pa_nil))) pa_nil)) (pg_tupK K rfl rfl (pgs_cons (pg_name (i := 2) sc_short_belt.nd rfl (Or.inl rfl)) (pgs_cons (pg_name (i := 3) sc_short_belt.nd rfl (Or.inl rfl)) pgs_nil)))
        (pss_one (ps_if (pt_cmpR op_lt (pv 3) pe_int (nomark _)) (pss_one (ps_ret (pv 2))) pss_nil)))
      (pss_one (ps_ret pe_non))), ?_⟩
  refine ⟨_, rfl, _, rfl, r, sl, hs, bs, sh, rfl, hR, ok, hsl, fun p H1 np hp s1 => ?_⟩
  refine ⟨p, _, rfl, SqL.of hp, for_it (J := Ite K p) (n := bs.length) (fun i σ H5 => ∃ v2 v3 : Option V, σ = [some (.ref r), some (.ref sl), v2, v3] ∧ (∀ i' b', i' < i → bs[i']? = some b' → 0 ≤ trS sh b') ∧ Same H1 H5) ⟨none, none, rfl, (fun _ _ z => absurd z (Nat.not_lt_zero _)), fun _ _ e => e⟩ (fun i σ H5 hi ⟨_, _, _, _, s5⟩ => ⟨_, _, SqL.of (s5 _ _ hp), by rw [List.getElem?_map, List.getElem?_eq_getElem hi]; rfl⟩) (fun σ H5 ⟨_, _, _, _, s5⟩ => ⟨_, SqL.of (s5 _ _ hp), by rw [List.length_map]; exact Nat.le_refl _⟩) ?_ ?_⟩
  · rintro i x σ H5 H6 hi ⟨v2, v3, rfl, low, s5⟩ ⟨t, y, rfl, nt, rfl, ey⟩
    have ey := ey _ (SqL.of (s5 _ _ hp))
    have ei : bs[i]? = some bs[i] := List.getElem?_eq_getElem hi
    rw [List.getElem?_map, ei] at ey
    obtain rfl : V.int (trS sh bs[i]) = y := Option.some.inj ey
    have s6 := s5.trans (same_new (o := .tup [V.int ((i : Nat) : Int), V.int (trS sh bs[i])]) nt)
    refine ⟨t, _, rfl, SqT.of upd_same, rfl, _, _, rfl, _, _, rfl, rfl, _, rfl, _, _, rfl, rfl, _, rfl, if_bl (fun z => ?_) (fun z => ?_)⟩
    · exact ⟨_, rfl, q2 i _ _ ei (of_decide_eq_true z) low (s1.trans s6)⟩
    · have z : ¬ trS sh bs[i] < 0 := of_decide_eq_false z
      refine ⟨_, _, rfl, fun i' b' l e => ?_, s6⟩
      by_cases w : i' = i
      · subst w
        rw [ei] at e
        cases e
        omega
      · exact low i' b' (by omega) e
  · rintro σ H5 ⟨v2, v3, rfl, low, s5⟩
    refine q1 H5 (fun b hb => ?_) (s1.trans s5)
    obtain ⟨j, ej⟩ := List.getElem?_of_mem hb
    exact low j b (List.getElem?_eq_some_iff.mp ej).1 ej
end
section
variable {P : Program} {w : World} {K : PySem.W.Frag} {mg : Str → Option Value} {base : Heap} {cT PT : Addr} [TI : TabI K mg base cT PT]
include TI
/-- why shifts of the right length are refused -/
def Ref34 (hs : List HR) (bs : List BR) (late : Int) (sh : Nat → Int) (wd : Str) (k : Nat) : Prop := (wd = "door" ∧ k ∈ wrI hs sh ++ wrO hs late sh ∧ ∀ j ∈ wrI hs sh ++ wrO hs late sh, k ≤ j) ∨
  (wd = "belt" ∧ wrI hs sh ++ wrO hs late sh = [] ∧ ∃ b, bs[k]? = some b ∧ trS sh b < 0 ∧ ∀ i b', i < k → bs[i]? = some b' → 0 ≤ trS sh b')
omit TI in
theorem wr_none {hs : List HR} {late : Int} {sh : Nat → Int} (e : wrI hs sh ++ wrO hs late sh = []) : (∀ k ∈ doorsOf "in" hs, sh k = 0) ∧ ∀ k ∈ doorsOf "out" hs, sh k = late := by
  obtain ⟨e1, e2⟩ := List.append_eq_nil_iff.mp e
  refine ⟨fun k hk => ?_, fun k hk => ?_⟩
  · refine Classical.byContradiction fun z => ?_
    have : k ∈ wrI hs sh := List.mem_filter.mpr ⟨hk, by rw [decide_eq_false z]; rfl⟩
    rw [e1] at this
    cases this
  · refine Classical.byContradiction fun z => ?_
    have : k ∈ wrO hs late sh := List.mem_filter.mpr ⟨hk, by rw [decide_eq_false z]; rfl⟩
    rw [e2] at this
    cases this
def sp_look_shifts (K : PySem.W.Frag) (PT : Addr) : Sp := fun vs H Q E => ∃ (r sl : Addr) (hs : List HR) (bs : List BR) (m : Nat) (late : Int) (sh : Nat → Int), vs = [.ref r, .int late, .ref sl] ∧ RoomAt H r hs bs ∧ RoomOk hs bs ∧ H sl = some (.tup (levL m sh)) ∧ GxR.TabG H PT ∧
  (∀ (d t : Addr) (H' : Hp), m ≠ hs.length → H' d = some (.xd [("at", .ref t), ("word", .str "form")]) → H' t = some (.tup []) → GxR.TabG H' PT → But PT H H' → E (.ref (nsA K)) (some d) H') ∧
  (∀ H', m = hs.length → Good33 hs bs late sh → GxR.TabG H' PT → But PT H H' → Q (.bl true) H') ∧
  ∀ (d t : Addr) (wd : Str) (k : Nat) (H' : Hp), m = hs.length → Ref34 hs bs late sh wd k → H' d = some (.xd [("at", .ref t), ("word", .str wd)]) → H' t = some (.tup [nV k]) → GxR.TabG H' PT → But PT H H' → E (.ref (nsA K)) (some d) H'
theorem ok_look_shifts {f : Addr} {fd : FuncData} (F : Fun K "look_shifts" "look_shifts" s_look_shifts f fd) (T : Top K mg) : FnOk P w K mg base (L2.CX P w) 4 f fd ["room", "late", "shifts"] (sp_look_shifts K PT) := by
  obtain ⟨f_refuse_shifts, fd_refuse_shifts, F_refuse_shifts, b_refuse_shifts, m_refuse_shifts⟩ := T.d_refuse_shifts
  have G_refuse_shifts := ok_refuse_shifts (P := P) (w := w) (base := base) F_refuse_shifts T
  obtain ⟨f_is_shifts, fd_is_shifts, F_is_shifts, b_is_shifts, m_is_shifts⟩ := T.d_is_shifts
  have G_is_shifts := ok_is_shifts (P := P) (w := w) (base := base) F_is_shifts (TI.cd _ _ F_is_shifts m_is_shifts) T
  obtain ⟨f_wrong_door, fd_wrong_door, F_wrong_door, b_wrong_door, m_wrong_door⟩ := T.d_wrong_door
  have G_wrong_door := ok_wrong_door (P := P) (w := w) (base := base) F_wrong_door T
  obtain ⟨f_short_belt, fd_short_belt, F_short_belt, b_short_belt, m_short_belt⟩ := T.d_short_belt
  have G_short_belt := ok_short_belt (P := P) (w := w) (base := base) F_short_belt T
  obtain ⟨fdI, N⟩ := T.x_ns
  have GI := ok_NsInit (P := P) (w := w) (base := base) N
  refine F.okX sc_look_shifts (fun vs H Q E h => ?_) (fun cdv A outer s H vs Q E hr h => ?_)
  · obtain ⟨r, sl, hs, bs, m, late, sh, rfl, _⟩ := h
    rfl
  obtain ⟨r, sl, hs, bs, m, late, sh, rfl, hR, ok, hsl, tg, q0, q1, q2⟩ := h
  refine ⟨_, (pss_cons (ps_if (pt_not (pt_val (pe_call G_is_shifts (hr.mono (by decide)) (by rfl) m_is_shifts F_is_shifts.kp b_is_shifts .nil pass0 (pa_cons (pv 0) (pa_cons (pv 2) pa_nil))))) (pss_one (ps_raise rfl (takes_of rfl rfl rfl rfl) (pmk_oex N.T N.iC N.tI GI (hr.mono (by decide)) N.b .nil pass0 rfl N.gC (pa_cons pe_str (pa_cons (pe_tup pa_nil) pa_nil))))) pss_nil)
      (pss_cons (ps_expr (pe_callS G_refuse_shifts (hr.mono (by decide)) (by rfl) m_refuse_shifts F_refuse_shifts.kp b_refuse_shifts (fun σ => passAt (takes_of rfl rfl rfl rfl) σ) (pa_cons pe_str (pa_cons (pe_call G_wrong_door (hr.mono (by decide)) (by rfl) m_wrong_door F_wrong_door.kp b_wrong_door .nil pass0 (pa_cons (pv 0) (pa_cons (pv 1) (pa_cons (pv 2) pa_nil)))) pa_nil))))
      (pss_cons (ps_expr (pe_callS G_refuse_shifts (hr.mono (by decide)) (by rfl) m_refuse_shifts F_refuse_shifts.kp b_refuse_shifts (fun σ => passAt (takes_of rfl rfl rfl rfl) σ) (pa_cons pe_str (pa_cons (pe_call G_short_belt (hr.mono (by decide)) (by rfl) m_short_belt F_short_belt.kp b_short_belt .nil pass0 (pa_cons (pv 0) (pa_cons (pv 2) pa_nil))) pa_nil))))
      (pss_one (ps_ret pe_bl))))), ?_⟩
  refine ⟨_, rfl, _, rfl, r, sl, hs, bs, m, sh, rfl, hR, ok, hsl, tg, fun H1 tb => ?_⟩
  have b1 := tabbed_but tb
  have k1 := tab_tk tg b1
  have hsl1 := k1 _ _ hsl
  have hR1 := hR.keep k1
  by_cases em : m = hs.length
  case neg =>
    rw [decide_eq_false em]
    refine ⟨_, rfl, if_bl (fun _ => ?_) (fun z => nomatch z)⟩
    refine ⟨(by show 0 ≤ sizeLine; decide), fun t nt => ⟨by show 2 ≤ 1000; decide, fun a na => ?_⟩⟩
    have s1 := same_new (o := .tup []) nt
    have ht : (upd H1 t (.tup [])) t = some (.tup []) := upd_same
    generalize upd H1 t (.tup []) = H2 at s1 ht na ⊢
    refine ⟨a, .str "form", .ref t, rfl, upd_same, fun d nd da => ⟨rfl, d, _, by rw [upd_ne da.symm, upd_same], upd_same, ?_, ?_⟩⟩
    · rw [upd_ne da] at nd; exact nd
    · have nd1 : H2 d = none := by rw [upd_ne da] at nd; exact nd
      have keep : Same H2 (upd (del (upd (upd (upd (upd H2 a (exo a (nsA K) none)) d (exd d [("word", V.str "form")])) a (exo a (nsA K) (some d))) d (exd d [("at", V.ref t), ("word", V.str "form")])) a) d (.xd [("at", V.ref t), ("word", V.str "form")])) := fun b o e => by
        have b1 : b ≠ a := ne_of_none e na
        have b2 : b ≠ d := ne_of_none e nd1
        rw [upd_ne b2, del_ne b1, upd_ne b2, upd_ne b1, upd_ne b2, upd_ne b1]
        exact e
      exact q0 d t _ em upd_same (keep _ _ ht) (same_tab tb.1 (s1.trans keep)) (b1.same (s1.trans keep))
  rw [decide_eq_true em]
  rw [em] at hsl1
  refine ⟨_, rfl, if_bl (fun z => nomatch z) (fun _ => ?_)⟩
  refine ⟨_, rfl, _, rfl, _, rfl, r, sl, hs, bs, late, sh, rfl, hR1, ok, hsl1, fun H2 e2 s2 => ?_, fun k H2 km kl s2 => ?_⟩
  · refine ⟨_, _, rfl, fun _ => ?_, .inr rfl, fun _ _ _ z => absurd rfl z⟩
    refine ⟨_, rfl, _, rfl, r, sl, hs, bs, sh, rfl, hR1.keep (TK.same s2), ok, s2 _ _ hsl1, fun H3 nn s3 => ?_, fun j b H3 ej neg low s3 => ?_⟩
    · refine ⟨_, _, rfl, fun _ => ?_, .inr rfl, fun _ _ _ z => absurd rfl z⟩
      obtain ⟨d1, d2⟩ := wr_none e2
      exact q1 H3 em ⟨d1, d2, nn⟩ (same_tab tb.1 (s2.trans s3)) (b1.same (s2.trans s3))
    · refine ⟨_, _, rfl, (fun z => nomatch z), .inl ⟨j, rfl⟩, fun d t H4 _ hd ht s4 => ?_⟩
      exact q2 d t "belt" j H4 em (.inr ⟨rfl, e2, b, ej, neg, low⟩) hd ht (same_tab tb.1 ((s2.trans s3).trans s4)) (b1.same ((s2.trans s3).trans s4))
  · refine ⟨_, _, rfl, (fun z => nomatch z), .inl ⟨k, rfl⟩, fun d t H4 _ hd ht s4 => ?_⟩
    exact q2 d t "door" k H4 em (.inl ⟨rfl, km, kl⟩) hd ht (same_tab tb.1 (s2.trans s4)) (b1.same (s2.trans s4))
end
theorem log_sm {n : Nat} (h : n ≤ 1000) : ((n : Nat) : Int).natAbs.log2 < 9000 := by
  rw [Int.natAbs_natCast]
  exact Nat.lt_of_le_of_lt (Nat.log2_le_self n) (by omega)
theorem lev_len {n : Nat} {sh : Nat → Int} : (levL n sh).length = n := by rw [List.length_map, List.length_range]
theorem lev_set33 {n k : Nat} {sh : Nat → Int} {v : Int} (h : k < n) : ((levL n sh).take k ++ [V.int v]) ++ (levL n sh).drop (k + 1) = levL n (fun p => if p = k then v else sh p) := by
  have lt : ((levL n sh).take k).length = k := by rw [List.length_take, lev_len]; omega
  refine List.ext_getElem? fun i => ?_
  by_cases il : i < n
  · rw [rg_at (f := fun p => V.int (if p = k then v else sh p)) il]
    by_cases c1 : i < k
    · rw [List.append_assoc, List.getElem?_append_left (by omega), List.getElem?_take_of_lt c1, rg_at il, if_neg (by omega)]
    · by_cases c2 : i = k
      · subst c2
        rw [List.append_assoc, List.getElem?_append_right (by omega), lt, Nat.sub_self, if_pos rfl]
        rfl
      · rw [List.getElem?_append_right (by rw [List.length_append, lt]; show k + 1 ≤ i; omega), List.length_append, lt, List.getElem?_drop]
        show (levL n sh)[k + 1 + (i - (k + 1))]? = _
        rw [show k + 1 + (i - (k + 1)) = i by omega, rg_at il, if_neg c2]
  · rw [List.getElem?_eq_none (by rw [List.length_append, List.length_append, lt, List.length_drop, lev_len]; show k + 1 + (n - (k + 1)) ≤ i; omega), List.getElem?_eq_none (by rw [lev_len]; omega)]
theorem abs20 {a : Int} (h : decide ((if a < 0 then -a else a) ≤ 20) = true) : -20 ≤ a ∧ a ≤ 20 := by
  have := of_decide_eq_true h
  split at this <;> omega
def Bd (n : Int) (sh : Nat → Int) : Prop := ∀ k, -n ≤ sh k ∧ sh k ≤ n
theorem one_eqv (h : HR) (z : Str) : PyData.eqv (.tuple [.str z]) (.tuple (ruleD h)) = (decide (h.wd = z) && h.no.isNone) := by
  obtain ⟨wd, no, mom⟩ := h
  have e : (z == wd) = decide (wd = z) := by
    by_cases k : wd = z
    · rw [k, decide_eq_true rfl]; exact beq_self_eq_true z
    · rw [decide_eq_false k]; exact beq_eq_false_iff_ne.mpr fun y => k y.symm
  cases no with
  | none => show (z == wd && true) = (decide (wd = z) && true); rw [e]
  | some n => show (z == wd && false) = (decide (wd = z) && false); rw [Bool.and_false, Bool.and_false]
section
variable {P : Program} {w : World} {K : PySem.W.Frag} {mg : Str → Option Value} {base : Heap}
def sp_law_trays (K : PySem.W.Frag) : Sp := fun vs H Q _ => ∃ (r sl : Addr) (hs : List HR) (bs : List BR) (sh : Nat → Int), vs = [.ref r, .ref sl] ∧ RoomAt H r hs bs ∧ RoomOk hs bs ∧ (H sl = some (.tup (levL hs.length sh)) ∨ H sl = some (.lst (levL hs.length sh))) ∧
  ∀ (p : Addr) (H' : Hp), H p = none → H' p = some (.lst (bs.map fun b => V.int (trS sh b))) → Same H H' → Q (.ref p) H'
theorem ok_law_trays {f : Addr} {fd : FuncData} (F : Fun K "_law_trays" "_law_trays" s_law_trays f fd) (T : Top K mg) : FnOk P w K mg base CX0 1 f fd ["_law_room_here", "_law_shifts_here"] (sp_law_trays K) := by
  refine F.ok sc_law_trays (fun vs H Q E h => ?_) (fun cdv A outer s H vs Q E hr h => ?_)
  · obtain ⟨r, sl, hs, bs, sh, rfl, _⟩ := h
    rfl
  obtain ⟨r, sl, hs, bs, sh, rfl, hR, ok, hsl, q⟩ := h
  obtain ⟨ha, ba, hv, bv, er, eh, eb, alh, alb⟩ := hR.ex
  have lbv := alb.length
  have lb := ok.many
  rcases hsl with hsl | hsl
  · refine ⟨_, (pss_one (ps_ret (pe_lc (own := [("_law_one", 2), ("_law_to", 3), ("_law_things", 4)]) (g := gTup K 3 (gCons (gName 2) (gCons (gName 3) (gCons (gName 4) gNil)))) (tt := tYes) (by rfl) sc_law_trays.nd (pi_tupK K rfl (pe_ix (ix_tupK K rfl) (pv 0) pe_int (fun _ _ => rfl))) (blkOk_by (own := [("_law_one", 2), ("_law_to", 3), ("_law_things", 4)]) (N := N_law_trays) (sc := defScope s_law_trays) (by decide +kernel)) (fun _ _ _ _ _ => (pg_tupK K rfl rfl (pgs_cons (pg_name (i := 2) sc_law_trays.nd rfl (Or.inl rfl)) (pgs_cons (pg_name (i := 3) sc_law_trays.nd rfl (Or.inl rfl)) (pgs_cons (pg_name (i := 4) sc_law_trays.nd rfl (Or.inl rfl)) pgs_nil))))) (fun _ _ _ _ _ => pts_nil) (fun _ _ _ _ _ => (pe_op op_sub (pe_op op_add (pe_callB (call_len_seqK K rfl) (by rfl) T.m_len (by decide +kernel) (pa_cons (pv 4) pa_nil)) (pe_ix (ix_tupK K rfl) (pv 1) (pv 3) (fun _ _ => rfl))) (pe_ix (ix_tupK K rfl) (pv 1) (pv 2) (fun _ _ => rfl))))))), ?_⟩
    refine ⟨_, rfl, r, _, _, _, rfl, rfl, SqT.of er, atI_nat (j := 1) rfl, ba, rfl, ⟨_, SqT.of eb⟩, fun D nD => lc_tup (K := K) (a := ba) (xs := bv) (fun i H5 => H5 D = some (.lst ((bs.take i).map fun b => V.int (trS sh b))) ∧ Same H H5) ⟨upd_same, same_new nD⟩ (fun i H5 _ ⟨_, s5⟩ => SqT.of (s5 _ _ eb)) ?_ ?_⟩
    · rintro i x H5 hx ⟨hD, s5⟩
      obtain ⟨b, ebi, ⟨t, g, rfl, e1, e2⟩⟩ := alb.getL hx
      have il := (List.getElem?_eq_some_iff.mp ebi).1
      obtain ⟨l1, l2⟩ := ok.ends b (List.mem_of_getElem? ebi)
      refine ⟨t, _, rfl, SqT.of (s5 _ _ e1), rfl, ?_⟩
      refine ⟨_, _, rfl, ?_⟩
      refine ⟨_, _, rfl, ?_⟩
      refine ⟨_, _, rfl, rfl, ?_⟩
      refine ⟨rfl, yes_in ?_⟩
      refine ⟨_, rfl, g, _, rfl, .inr (SqT.of (s5 _ _ e2)), _, rfl, _, rfl, sl, _, _, _, rfl, rfl, SqT.of (s5 _ _ hsl), atI_nat (rg_at l2), _, _, rfl, rfl, _, rfl, _, rfl, sl, _, _, _, rfl, rfl, SqT.of (s5 _ _ hsl), atI_nat (rg_at l1), _, _, rfl, rfl, _, hD, by rw [List.length_map, List.length_take]; exact small1000 (by omega), ?_, Same.own s5 nD⟩
      rw [upd_same, List.take_add_one, ebi, List.map_append, List.length_map]
      rfl
    · rintro H5 ⟨hD, s5⟩
      rw [lbv, List.take_length] at hD
      exact q D H5 nD hD s5
  · refine ⟨_, (pss_one (ps_ret (pe_lc (own := [("_law_one", 2), ("_law_to", 3), ("_law_things", 4)]) (g := gTup K 3 (gCons (gName 2) (gCons (gName 3) (gCons (gName 4) gNil)))) (tt := tYes) (by rfl) sc_law_trays.nd (pi_tupK K rfl (pe_ix (ix_tupK K rfl) (pv 0) pe_int (fun _ _ => rfl))) (blkOk_by (own := [("_law_one", 2), ("_law_to", 3), ("_law_things", 4)]) (N := N_law_trays) (sc := defScope s_law_trays) (by decide +kernel)) (fun _ _ _ _ _ => (pg_tupK K rfl rfl (pgs_cons (pg_name (i := 2) sc_law_trays.nd rfl (Or.inl rfl)) (pgs_cons (pg_name (i := 3) sc_law_trays.nd rfl (Or.inl rfl)) (pgs_cons (pg_name (i := 4) sc_law_trays.nd rfl (Or.inl rfl)) pgs_nil))))) (fun _ _ _ _ _ => pts_nil) (fun _ _ _ _ _ => (pe_op op_sub (pe_op op_add (pe_callB (call_len_seqK K rfl) (by rfl) T.m_len (by decide +kernel) (pa_cons (pv 4) pa_nil)) (pe_ix (ix_listK K rfl) (pv 1) (pv 3) (fun _ _ => rfl))) (pe_ix (ix_listK K rfl) (pv 1) (pv 2) (fun _ _ => rfl))))))), ?_⟩
    refine ⟨_, rfl, r, _, _, _, rfl, rfl, SqT.of er, atI_nat (j := 1) rfl, ba, rfl, ⟨_, SqT.of eb⟩, fun D nD => lc_tup (K := K) (a := ba) (xs := bv) (fun i H5 => H5 D = some (.lst ((bs.take i).map fun b => V.int (trS sh b))) ∧ Same H H5) ⟨upd_same, same_new nD⟩ (fun i H5 _ ⟨_, s5⟩ => SqT.of (s5 _ _ eb)) ?_ ?_⟩
    · rintro i x H5 hx ⟨hD, s5⟩
      obtain ⟨b, ebi, ⟨t, g, rfl, e1, e2⟩⟩ := alb.getL hx
      have il := (List.getElem?_eq_some_iff.mp ebi).1
      obtain ⟨l1, l2⟩ := ok.ends b (List.mem_of_getElem? ebi)
      refine ⟨t, _, rfl, SqT.of (s5 _ _ e1), rfl, ?_⟩
      refine ⟨_, _, rfl, ?_⟩
      refine ⟨_, _, rfl, ?_⟩
      refine ⟨_, _, rfl, rfl, ?_⟩
      refine ⟨rfl, yes_in ?_⟩
      refine ⟨_, rfl, g, _, rfl, .inr (SqT.of (s5 _ _ e2)), _, rfl, _, rfl, sl, _, _, _, rfl, rfl, SqL.of (s5 _ _ hsl), atI_nat (rg_at l2), _, _, rfl, rfl, _, rfl, _, rfl, sl, _, _, _, rfl, rfl, SqL.of (s5 _ _ hsl), atI_nat (rg_at l1), _, _, rfl, rfl, _, hD, by rw [List.length_map, List.length_take]; exact small1000 (by omega), ?_, Same.own s5 nD⟩
      rw [upd_same, List.take_add_one, ebi, List.map_append, List.length_map]
      rfl
    · rintro H5 ⟨hD, s5⟩
      rw [lbv, List.take_length] at hD
      exact q D H5 nD hD s5
def sp_law_whole (K : PySem.W.Frag) : Sp := fun vs H Q _ => ∃ n : Int, vs = [.int n] ∧ Q (.bl true) H
theorem ok_law_whole {f : Addr} {fd : FuncData} (F : Fun K "_law_whole" "_law_whole" s_law_whole f fd) (T : Top K mg) : FnOk P w K mg base CX0 1 f fd ["_law_thing_here"] (sp_law_whole K) := by
  refine F.ok sc_law_whole (fun vs H Q E h => ?_) (fun cdv A outer s H vs Q E hr h => ?_)
  · obtain ⟨n, rfl, _⟩ := h
    rfl
  obtain ⟨n, rfl, q⟩ := h
  refine ⟨_, (pss_one (ps_ret (pe_and (pe_callB (call_isiKK K rfl) (by rfl) T.m_isinstance (by decide +kernel) (pa_cons (pv 0) (pa_cons (pe_bltn (v := .ty "int") (by rfl) T.m_int (by decide +kernel) rfl) pa_nil))) (pe_one (pe_not (pe_callB (call_isiKK K rfl) (by rfl) T.m_isinstance (by decide +kernel) (pa_cons (pv 0) (pa_cons (pe_bltn (v := .ty "bool") (by rfl) T.m_bool (by decide +kernel) rfl) pa_nil)))))))), ?_⟩
  refine ⟨_, rfl, _, _, _, _, true, rfl, .ty "int", .base (.int _), kit_ty (by decide +kernel), _, rfl, if_bl (fun _ => ?_) (fun z => nomatch z)⟩
  exact ⟨_, rfl, _, _, _, _, false, rfl, .ty "bool", .base (.int _), kit_ty (by decide +kernel), _, rfl, q⟩
/-- the law's drawn shifts: let by, and no more than twenty either way at hands -/
def sp_law_shifts (K : PySem.W.Frag) : Sp := fun vs H Q _ => ∃ (f c r : Addr) (hs : List HR) (bs : List BR) (late many : Int), vs = [.ref f, .ref r, .int late, .int many] ∧ Flow H f c ∧ RoomAt H r hs bs ∧ RoomOk hs bs ∧ (∃ h ∈ hs, h.wd ≠ "out" ∧ h.wd ≠ "in") ∧ 0 ≤ late ∧ late ≤ 6 ∧ 0 ≤ many ∧ many ≤ 100 ∧
  ∀ (p : Addr) (sh : Nat → Int) (H' : Hp), H' p = some (.tup (levL hs.length sh)) → Good33 hs bs late sh → Bd 20 sh → Flow H' f c → But f H H' → Q (.ref p) H'
theorem ok_law_shifts {f : Addr} {fd : FuncData} (F : Fun K "_law_shifts" "_law_shifts" s_law_shifts f fd) (T : Top K mg) : FnOk P w K mg base CX0 2 f fd ["_law_flow_here", "_law_room_here", "_law_late", "_law_many"] (sp_law_shifts K) := by
  obtain ⟨f_law_pick, fd_law_pick, F_law_pick, b_law_pick, m_law_pick⟩ := T.d_law_pick
  have G_law_pick := ok_law_pick (P := P) (w := w) (base := base) F_law_pick T
  obtain ⟨f_law_trays, fd_law_trays, F_law_trays, b_law_trays, m_law_trays⟩ := T.d_law_trays
  have G_law_trays := ok_law_trays (P := P) (w := w) (base := base) F_law_trays T
  refine F.ok sc_law_shifts (fun vs H Q E h => ?_) (fun cdv A outer s H vs Q E hr h => ?_)
  · obtain ⟨f, c, r, hs, bs, late, many, rfl, _⟩ := h
    rfl
  obtain ⟨f, c, r, hs, bs, late, many, rfl, hF, hR, ok, some1, l0, l6, m0, m1, q⟩ := h
  obtain ⟨ha, ba, hv, bv, er, eh, eb, alh, alb⟩ := hR.ex
  have lhv := alh.length
  have lh := ok.hands
  let R1 : TS := fun D' σ' H' => D'.rt = Q ∧ ∃ (fl : Addr), σ' = [some (.ref f), some (.ref r), some (.int late), some (.int many), some (.ref ha), some (.ref fl), none, none, none, none, none, none] ∧ H' fl = some (.lst (levL hs.length fun k => if hs[k]?.map HR.wd = some ("in" : Str) then 0 else late)) ∧ fl ≠ f ∧ fl ≠ c ∧ Flow H' f c ∧ But f H H'
  let R2 : TS := fun D' σ' H' => D'.rt = Q ∧ ∃ (fl gl : Addr) (fr : List Nat), σ' = [some (.ref f), some (.ref r), some (.int late), some (.int many), some (.ref ha), some (.ref fl), none, some (.ref gl), none, none, none, none] ∧ H' fl = some (.lst (levL hs.length fun k => if hs[k]?.map HR.wd = some ("in" : Str) then 0 else late)) ∧ fl ≠ f ∧ fl ≠ c ∧ H' gl = some (.lst (fr.map nV)) ∧ gl ≠ f ∧ gl ≠ c ∧ fr ≠ [] ∧ fr.length ≤ 12 ∧ (∀ k ∈ fr, k < hs.length ∧ k ∉ doorsOf "in" hs ∧ k ∉ doorsOf "out" hs) ∧ Flow H' f c ∧ But f H H'
  refine ⟨_, (pss_cons (ps_set (i := 4) sc_law_shifts.nd rfl (Or.inr rfl) (pe_ix (ix_tupK K rfl) (pv 1) pe_int (fun _ _ => rfl)))
      (pss_cons (ps_setLc (i := 5) (own := [("_law_hand", 6)]) (g := gName 6) (tt := tYes) (by rfl) sc_law_shifts.nd rfl rfl (sw_true rfl rfl rfl (by decide +kernel)) (pi_tupK K rfl (pv 4)) (blkOk_by (own := [("_law_hand", 6)]) (N := N_law_shifts) (sc := defScope s_law_shifts) (by decide +kernel)) (fun _ _ _ _ _ => (pg_name (i := 6) sc_law_shifts.nd rfl (Or.inl rfl))) (fun _ _ _ _ _ => pts_nil) (fun _ _ _ _ _ => (pe_op op_mul (pv 2) (pe_callTy call_int1 (by rfl) T.m_int (by decide +kernel) (pa_cons (pe_cmpR (op_neDK K rfl hr.units) (pe_ix (ix_tupK K rfl) (pv 6) pe_int (fun _ _ => rfl)) (pe_tup (pa_cons pe_str pa_nil)) (nomark _)) pa_nil)))))
      (PSs.to (pss_cons (ps_setLc (i := 7) (own := [("_law_k", 8)]) (g := gName 8) (by rfl) sc_law_shifts.nd rfl rfl (sw_true rfl rfl rfl (by decide +kernel)) (pi_range1 (by rfl) T.m_range (pa_cons (pe_callB (call_len_seqK K rfl) (by rfl) T.m_len (by decide +kernel) (pa_cons (pv 4) pa_nil)) pa_nil)) (blkOk_by (own := [("_law_k", 8)]) (N := N_law_shifts) (sc := defScope s_law_shifts) (by decide +kernel)) (fun _ _ _ _ _ => (pg_name (i := 8) sc_law_shifts.nd rfl (Or.inl rfl))) (fun _ _ _ _ _ => pts_one (pt_cmpR (op_notInDTK K rfl (hu65 hr)) (pe_ix (ix_tupK K rfl) (pe_ix (ix_tupK K rfl) (pv 4) (pv 8) (fun _ _ => rfl)) pe_int (fun _ _ => rfl)) (pe_tup (pa_cons (pe_tup (pa_cons pe_str pa_nil)) (pa_cons (pe_tup (pa_cons pe_str pa_nil)) pa_nil))) (by with_unfolding_all rfl))) (fun _ _ _ _ _ => (pv 8)))
      (PSs.to (pss_cons (ps_for PassesOwn.never rfl (pi_range1 (by rfl) T.m_range (pa_cons (pv 3) pa_nil)) (pg_name (i := 9) sc_law_shifts.nd rfl (Or.inl rfl))
        (pss_cons (ps_set (i := 8) sc_law_shifts.nd rfl (Or.inl rfl) (pe_ix (ix_listK K rfl) (pv 7) (pe_call G_law_pick (hr.mono (by decide)) (by rfl) m_law_pick F_law_pick.kp b_law_pick .nil pass0 (pa_cons (pv 0) (pa_cons (pe_callB (call_len_seqK K rfl) (by rfl) T.m_len (by decide +kernel) (pa_cons (pv 7) pa_nil)) pa_nil))) (fun _ _ => rfl)))
      (pss_cons (ps_set (i := 10) sc_law_shifts.nd rfl (Or.inl rfl) (pe_op op_sub pe_int (pe_op op_mul pe_int (pe_call G_law_pick (hr.mono (by decide)) (by rfl) m_law_pick F_law_pick.kp b_law_pick .nil pass0 (pa_cons (pv 0) (pa_cons pe_int pa_nil))))))
      (pss_cons (ps_set (i := 11) sc_law_shifts.nd rfl (Or.inl rfl) (pe_op op_cat (pe_op op_cat (pe_slice (sl_listK K rfl) (pv 5) po_none (po_some (pv 8))) (pe_lst (pa_cons (pe_op op_add (pe_ix (ix_listK K rfl) (pv 5) (pv 8) (fun _ _ => rfl)) (pv 10)) pa_nil))) (pe_slice (sl_listK K rfl) (pv 5) (po_some (pe_op op_add (pv 8) pe_int)) po_none)))
      (pss_one (ps_if (PW.pt (pw_and (pt_cmpR op_eq (pe_callB (cr_minKK K rfl rfl) (by rfl) T.m_min (by decide +kernel) (pa_cons (pe_op op_cat (pe_lst (pa_cons pe_int pa_nil)) (pe_call G_law_trays (hr.mono (by decide)) (by rfl) m_law_trays F_law_trays.kp b_law_trays .nil pass0 (pa_cons (pv 1) (pa_cons (pv 11) pa_nil)))) pa_nil)) pe_int (nomark _)) (pw_and1 (pt_cmpR op_le (pe_callB call_abs (by rfl) T.m_abs (by decide +kernel) (pa_cons (pe_ix (ix_listK K rfl) (pv 11) (pv 8) (fun _ _ => rfl)) pa_nil)) pe_int (nomark _))))) (pss_one (ps_set (i := 5) sc_law_shifts.nd rfl (Or.inl rfl) (pv 11))) pss_nil))))))
      (pss_one (ps_ret (pe_callTy (call_tuple_ofK K rfl) (by rfl) T.m_tuple (by decide +kernel) (pa_cons (pv 5) pa_nil))))) R2 ?tail2)) R1 ?tail1))), ?_⟩
  case tail2 =>
    rintro D' σ' H1 ⟨eD, fl, gl, fr, rfl, hfl, n1, n2, hgl, n3, n4, frne, frl, frg, F1, B1⟩
    have fpos : 0 < fr.length := List.length_pos_iff.mpr frne
    refine ⟨_, rfl, _, rfl, by omega, by omega, for_range (lo := 0) (n := many.toNat) (fun i σ H5 => ∃ (fl : Addr) (sh : Nat → Int) (v8 v9 v10 v11 : Option V), σ = [some (.ref f), some (.ref r), some (.int late), some (.int many), some (.ref ha), some (.ref fl), none, some (.ref gl), v8, v9, v10, v11] ∧ H5 fl = some (.lst (levL hs.length sh)) ∧ fl ≠ f ∧ fl ≠ c ∧ H5 gl = some (.lst (fr.map nV)) ∧ Good33 hs bs late sh ∧ Bd 20 sh ∧ Flow H5 f c ∧ But f H H5) ⟨fl, _, none, none, none, none, rfl, hfl, n1, n2, hgl, ?_, (fun k => by show (-20 : Int) ≤ (if _ then _ else _) ∧ (if _ then _ else _) ≤ (20 : Int); split <;> omega), F1, B1⟩ ?_ ?_⟩
    · refine ⟨fun j hj => ?_, fun j hj => ?_, fun b hb => ?_⟩
      · obtain ⟨h, e, w1⟩ := mem_doors.mp hj
        exact if_pos (by rw [e, ← w1]; rfl)
      · obtain ⟨h, e, w1⟩ := mem_doors.mp hj
        refine if_neg fun z => ?_
        rw [e] at z
        have z : h.wd = "in" := Option.some.inj z
        rw [z] at w1
        exact absurd w1 (by decide +kernel)
      · unfold trS
        have hto : ¬ hs[b.to]?.map HR.wd = some ("in" : Str) := fun z => by
          cases e : hs[b.to]? with
          | none => rw [e] at z; cases z
          | some h =>
            rw [e] at z
            have z : h.wd = "in" := Option.some.inj z
            have cnt := ok.count _ _ e
            rw [z, show needs "in" = 0 by decide +kernel] at cnt
            have pos := List.count_pos_iff.mpr (List.mem_map.mpr ⟨b, hb, rfl⟩ : b.to ∈ bs.map BR.to)
            omega
        show 0 ≤ (b.th.length : Int) + (if hs[b.to]?.map HR.wd = some ("in" : Str) then 0 else late) - (if hs[b.one]?.map HR.wd = some ("in" : Str) then 0 else late)
        rw [if_neg hto]
        split <;> omega
    · rintro i σ H5 hi ⟨fl, sh, v8, v9, v10, v11, rfl, hfl, n1, n2, hgl, gd, bd, F5, B5⟩
      refine ⟨_, rfl, _, rfl, _, rfl, gl, _, rfl, .inl (SqL.of hgl), f, c, _, rfl, by rw [List.length_map]; omega, by rw [List.length_map]; exact log_sm (by omega), F5, fun v H6 v0 v1 F6 B6 => ?_⟩
      rw [List.length_map] at v1
      have hgl6 := B6 _ _ hgl n3
      have hfl6 := B6 _ _ hfl n1
      obtain ⟨j, rfl⟩ : ∃ j : Nat, v = ((j : Nat) : Int) := ⟨v.toNat, by omega⟩
      have jl : j < fr.length := by omega
      have ek : (fr.map nV)[j]? = some (nV fr[j]) := by rw [List.getElem?_map, List.getElem?_eq_getElem jl]; rfl
      obtain ⟨kl, kin, kout⟩ := frg _ (List.getElem_mem jl)
      generalize fr[j] = k at ek kl kin kout
      refine ⟨gl, _, _, _, rfl, rfl, SqL.of hgl6, atI_nat ek, ?_⟩
      refine ⟨_, rfl, f, c, _, rfl, by decide, by decide +kernel, F6, fun v2 H7 w0 w1 F7 B7 => ?_⟩
      have hfl7 := B7 _ _ hfl6 n1
      refine ⟨_, _, rfl, rfl, .inl ⟨by decide, by decide⟩, _, _, rfl, rfl, ?_⟩
      show tSeq _ _ _ [some (.ref f), some (.ref r), some (.int late), some (.int many), some (.ref ha), some (.ref fl), none, some (.ref gl), some (nV k), some (.int (0 + ((i : Nat) : Int))), some (.int (1 - 2 * v2)), v11] H7
      generalize 1 - 2 * v2 = step
      have kc : cutV (levL hs.length sh) none (some ((k : Nat) : Int)) = (levL hs.length sh).take k := cut_take _ _
      have kd : cutV (levL hs.length sh) (some (((k : Nat) : Int) + 1)) none = (levL hs.length sh).drop (k + 1) := by rw [show ((k : Nat) : Int) + 1 = ((k + 1 : Nat) : Int) by omega, cut_drop]
      refine ⟨_, rfl, ?_⟩
      dsimp only [tNoPart]
      refine ⟨_, rfl, _, rfl, fl, _, rfl, SqL.of hfl7, fun p1 np1 => ?_⟩
      have t1 := same_new (o := .lst (cutV (levL hs.length sh) none (some ((k : Nat) : Int)))) np1
      refine ⟨_, rfl, _, rfl, fl, _, _, _, rfl, rfl, SqL.of (t1 _ _ hfl7), atI_nat (rg_at kl), _, rfl, _, _, rfl, rfl, (by show 1 ≤ sizeLine; decide), fun p2 np2 => ?_⟩
      have t2 := same_new (o := .lst [V.int (sh k + step)]) np2
      refine ⟨p1, p2, _, _, rfl, rfl, t2 _ _ upd_same, upd_same, by rw [kc, List.length_take, lev_len]; exact little (by show _ + 1 ≤ 1000; omega), fun p3 np3 => ?_⟩
      have t3 := same_new (o := .lst (cutV (levL hs.length sh) none (some ((k : Nat) : Int)) ++ [V.int (sh k + step)])) np3
      refine ⟨_, rfl, _, rfl, _, _, rfl, rfl, _, rfl, fl, _, rfl, SqL.of (((t1.trans t2).trans t3) _ _ hfl7), fun p4 np4 => ?_⟩
      have t4 := same_new (o := .lst (cutV (levL hs.length sh) (some (((k : Nat) : Int) + 1)) none)) np4
      refine ⟨p3, p4, _, _, rfl, rfl, t4 _ _ upd_same, upd_same, by rw [kc, kd, List.length_append, List.length_take, List.length_drop, lev_len]; exact little (by show _ + 1 + _ ≤ 1000; omega), fun p5 np5 => ?_⟩
      have t5 := same_new (o := .lst ((cutV (levL hs.length sh) none (some ((k : Nat) : Int)) ++ [V.int (sh k + step)]) ++ cutV (levL hs.length sh) (some (((k : Nat) : Int) + 1)) none)) np5
      have F8 := F7.same (((t1.trans t2).trans t3).trans t4)
      have tt := (((t1.trans t2).trans t3).trans t4).trans t5
      have new := upd_same (H := upd (upd (upd (upd H7 p1 (.lst (cutV (levL hs.length sh) none (some ((k : Nat) : Int))))) p2 (.lst [V.int (sh k + step)])) p3 (.lst (cutV (levL hs.length sh) none (some ((k : Nat) : Int)) ++ [V.int (sh k + step)]))) p4 (.lst (cutV (levL hs.length sh) (some (((k : Nat) : Int) + 1)) none))) (a := p5) (o := .lst ((cutV (levL hs.length sh) none (some ((k : Nat) : Int)) ++ [V.int (sh k + step)]) ++ cutV (levL hs.length sh) (some (((k : Nat) : Int) + 1)) none))
      rw [kc, kd, lev_set33 kl] at new
      have nf := F8.ne np5
      have nc := F8.nec np5
      have F9 := F8.new (o := .lst ((cutV (levL hs.length sh) none (some ((k : Nat) : Int)) ++ [V.int (sh k + step)]) ++ cutV (levL hs.length sh) (some (((k : Nat) : Int) + 1)) none)) np5
      have B9 := ((B5.trans B6).trans B7).same tt
      have hgl9 := tt _ _ (B7 _ _ hgl6 n3)
      have hfl9 := tt _ _ hfl7
      rw [kc, kd, lev_set33 kl] at *
      generalize upd _ p5 _ = H9 at new F9 B9 hgl9 hfl9 ⊢
      have hR9 := hR.keep (TK.but hF B9)
      obtain ⟨sn, esn⟩ : ∃ sn : Nat → Int, sn = fun p => if p = k then sh k + step else sh p := ⟨_, rfl⟩
      rw [← esn] at new
      have okn : (∀ b ∈ bs, 0 ≤ trS sn b) → Good33 hs bs late sn := fun tr => ⟨fun j hj => by rw [esn]; show (if j = k then _ else _) = _; rw [if_neg (fun z : j = k => kin (z ▸ hj))]; exact gd.ins j hj, fun j hj => by rw [esn]; show (if j = k then _ else _) = _; rw [if_neg (fun z : j = k => kout (z ▸ hj))]; exact gd.outs j hj, tr⟩
      show tIfS _ _ _ _ [some (.ref f), some (.ref r), some (.int late), some (.int many), some (.ref ha), some (.ref fl), none, some (.ref gl), some (nV k), some (.int (0 + ((i : Nat) : Int))), some (.int step), some (.ref p5)] H9
      refine ⟨(by show 1 ≤ sizeLine; decide), fun z0 nz0 => ?_⟩
      have u1 := same_new (o := .lst [V.int 0]) nz0
      refine ⟨_, rfl, _, rfl, r, p5, hs, bs, sn, rfl, hR9.keep (TK.same u1), ok, .inr (u1 _ _ new), fun pt H10 npt hpt u2 => ?_⟩
      have lbs := ok.many
      refine ⟨z0, pt, _, _, rfl, rfl, u2 _ _ upd_same, hpt, by show 1 + _ ≤ sizeLine; rw [List.length_map]; exact little (by omega), fun p7 np7 => ?_⟩
      have u3 := same_new (o := .lst ([V.int 0] ++ bs.map fun b => V.int (trS sn b))) np7
      have u := (u1.trans u2).trans u3
      refine ⟨p7, 0 :: bs.map (trS sn), rfl, SqL.of (by rw [upd_same, List.map_cons, List.map_map]; rfl), by simp, fun m hm hle => ?_⟩
      refine ⟨rfl, _, rfl, if_bl (fun z => ?_) (fun z => ?_)⟩
      · have m0 : m = 0 := V.int.inj (of_decide_eq_true z)
        subst m0
        have hgd : Good33 hs bs late sn := okn fun b hb => hle _ (List.mem_cons_of_mem _ (List.mem_map.mpr ⟨b, hb, rfl⟩))
        refine ⟨_, rfl, _, rfl, p5, _, _, _, rfl, rfl, SqL.of (u _ _ new), atI_nat (rg_at kl), _, rfl, _, _, rfl, rfl, _, rfl, if_bl (fun zz => ?_) (fun _ => ?_)⟩
        · have zb : -20 ≤ sn k ∧ sn k ≤ 20 := abs20 zz
          have bn : Bd 20 sn := fun j => by
            by_cases ej : j = k
            · rw [ej]; exact zb
            · rw [esn]; show -20 ≤ (if j = k then _ else _) ∧ (if j = k then _ else _) ≤ 20; rw [if_neg ej]; exact bd j
          exact ⟨_, rfl, p5, sn, _, _, _, _, rfl, u _ _ new, nf, nc, u _ _ hgl9, hgd, bn, F9.same u, B9.same u⟩
        · exact ⟨fl, sh, _, _, _, _, rfl, u _ _ hfl9, n1, n2, u _ _ hgl9, gd, bd, F9.same u, B9.same u⟩
      · exact ⟨fl, sh, _, _, _, _, rfl, u _ _ hfl9, n1, n2, u _ _ hgl9, gd, bd, F9.same u, B9.same u⟩
    · rintro σ H5 ⟨fl, sh, v8, v9, v10, v11, rfl, hfl, n1, n2, hgl, gd, bd, F5, B5⟩
      refine ⟨_, rfl, fl, _, rfl, .inl ⟨SqL.of hfl, fun p np => ?_⟩⟩
      rw [eD]
      exact q p sh _ upd_same gd bd (F5.new np) (B5.new np)
  case tail1 =>
    rintro D' σ' H1 ⟨eD, fl, rfl, hfl, n1, n2, F1, B1⟩
    have k1 := TK.but hF B1
    have alh1 := alh.imp fun _ _ z => z.keep k1
    refine ⟨_, rfl, ha, _, rfl, .inr (SqT.of (k1 _ _ eh)), _, rfl, by omega, by omega, fun D nD => lc_range (lo := 0) (n := hv.length) (fun i H5 => H5 D = some (.lst (((List.range i).filter fun k => decide (hs[k]?.map HR.wd ≠ some ("in" : Str) ∧ hs[k]?.map HR.wd ≠ some ("out" : Str))).map nV)) ∧ Same H1 H5) ⟨upd_same, same_new nD⟩ ?_ ?_⟩
    · rintro i H5 hi ⟨hD, s5⟩
      obtain ⟨hh, ehi, ⟨t, rr, ex, e1, e2⟩⟩ := alh1.getL (List.getElem?_eq_getElem hi)
      have gh := ok.good _ (List.mem_of_getElem? ehi)
      have few := filt_len (p := fun k => decide (hs[k]?.map HR.wd ≠ some ("in" : Str) ∧ hs[k]?.map HR.wd ≠ some ("out" : Str))) i
      refine ⟨rfl, _, rfl, _, rfl, ha, _, _, _, rfl, rfl, SqT.of (s5 _ _ (k1 _ _ eh)), at0 (List.getElem?_eq_getElem hi), ?_⟩
      rw [ex]
      refine ⟨t, _, _, _, rfl, rfl, SqT.of (s5 _ _ e1), atI_nat (j := 0) rfl, (by show 1 ≤ sizeLine; decide), fun o1 no1 => ⟨(by show 1 ≤ sizeLine; decide), fun o2 no2 => ⟨(by show 2 ≤ sizeLine; decide), fun o3 no3 => ?_⟩⟩⟩
      have t1 := same_new (o := .tup [V.str "in"]) no1
      have t2 := same_new (o := .tup [V.str "out"]) no2
      have t3 := same_new (o := .tup [V.ref o1, V.ref o2]) no3
      have s6 := ((s5.trans t1).trans t2).trans t3
      refine ⟨.tuple (ruleD hh), [.tuple [.str "in"], .tuple [.str "out"]], rule_dp (s6 _ _ e2), .tup (SqT.of upd_same) (.cons (.tup (SqT.of ((t2.trans t3) _ _ upd_same)) (.cons (.str _) .nil)) (.cons (.tup (SqT.of (t3 _ _ upd_same)) (.cons (.str _) .nil)) .nil)), rule_shaped gh.lay, by decide +kernel, _, rfl, ?_⟩
      have hD6 := ((t1.trans t2).trans t3) _ _ hD
      have val : ([PyData.tuple [.str "in"], .tuple [.str "out"]].any fun z => PyData.eqv z (.tuple (ruleD hh))) = (decide (hh.wd = "in") || decide (hh.wd = "out")) := by
        rw [List.any_cons, List.any_cons, List.any_nil, Bool.or_false, one_eqv, one_eqv, gh.door "in" (.inl rfl), gh.door "out" (.inr rfl)]
      rw [val]
      by_cases cc : hh.wd ≠ "in" ∧ hh.wd ≠ "out"
      · rw [decide_eq_false cc.1, decide_eq_false cc.2]
        refine if_bl (fun _ => ⟨_, rfl, _, hD6, by rw [List.length_map]; exact small1000 (by omega), ?_, Same.own s6 nD⟩) (fun z => nomatch z)
        rw [upd_same, filt_succ, if_pos (decide_eq_true ⟨by rw [ehi]; exact fun z => cc.1 (Option.some.inj z), by rw [ehi]; exact fun z => cc.2 (Option.some.inj z)⟩), List.map_append, Int.zero_add]
        rfl
      · have v2 : (decide (hh.wd = "in") || decide (hh.wd = "out")) = true := by
          by_cases a : hh.wd = "in"
          · rw [decide_eq_true a]; rfl
          · rw [decide_eq_true (Classical.byContradiction fun z => cc ⟨a, z⟩ : hh.wd = "out"), Bool.or_true]
        rw [v2]
        refine if_bl (fun z => nomatch z) (fun _ => ⟨?_, s6⟩)
        rw [filt_succ, if_neg (fun z => cc (by have := of_decide_eq_true z; rw [ehi] at this; exact ⟨fun y => this.1 (congrArg some y), fun y => this.2 (congrArg some y)⟩)), List.append_nil]
        exact hD6
    · rintro H5 ⟨hD, s5⟩
      have few := filt_len (p := fun k => decide (hs[k]?.map HR.wd ≠ some ("in" : Str) ∧ hs[k]?.map HR.wd ≠ some ("out" : Str))) hv.length
      refine ⟨eD, fl, D, _, rfl, s5 _ _ hfl, n1, n2, hD, F1.ne nD, F1.nec nD, ?_, by omega, fun k hk => ?_, F1.same s5, B1.same s5⟩
      · obtain ⟨h, hm, w1, w2⟩ := some1
        obtain ⟨j, ej⟩ := List.getElem?_of_mem hm
        have jl := (List.getElem?_eq_some_iff.mp ej).1
        exact List.ne_nil_of_mem (List.mem_filter.mpr ⟨List.mem_range.mpr (lhv ▸ jl), decide_eq_true ⟨by rw [ej]; exact fun z => w2 (Option.some.inj z), by rw [ej]; exact fun z => w1 (Option.some.inj z)⟩⟩)
      · obtain ⟨k1, k2⟩ := List.mem_filter.mp hk
        have k2 := of_decide_eq_true k2
        refine ⟨lhv ▸ List.mem_range.mp k1, fun z => ?_, fun z => ?_⟩
        · obtain ⟨h, e, w⟩ := mem_doors.mp z
          exact k2.1 (by rw [e, ← w]; rfl)
        · obtain ⟨h, e, w⟩ := mem_doors.mp z
          exact k2.2 (by rw [e, ← w]; rfl)
  refine ⟨_, rfl, r, _, _, _, rfl, rfl, SqT.of er, atI_nat (j := 0) rfl, ?_⟩
  refine ⟨_, rfl, ha, rfl, ⟨_, SqT.of eh⟩, fun D nD => lc_tup (K := K) (a := ha) (xs := hv) (fun i H5 => H5 D = some (.lst ((List.range i).map fun k => V.int (if hs[k]?.map HR.wd = some ("in" : Str) then 0 else late))) ∧ Same H H5) ⟨upd_same, same_new nD⟩ (fun i H5 _ ⟨_, s5⟩ => SqT.of (s5 _ _ eh)) ?_ ?_⟩
  · rintro i x H5 hx ⟨hD, s5⟩
    obtain ⟨hh, ehi, ⟨t, rr, rfl, e1, e2⟩⟩ := alh.getL hx
    have gh := ok.good _ (List.mem_of_getElem? ehi)
    refine ⟨rfl, yes_in ⟨_, rfl, _, rfl, t, _, _, _, rfl, rfl, SqT.of (s5 _ _ e1), atI_nat (j := 0) rfl, (by show 1 ≤ sizeLine; decide), fun o1 no1 => ?_⟩⟩
    have s6 := s5.trans (same_new (o := .tup [V.str "in"]) no1)
    refine ⟨_, _, rule_dp (s6 _ _ e2), .tup (SqT.of upd_same) (.cons (.str _) .nil), rule_shaped gh.lay, one_shaped (by decide +kernel), ?_⟩
    refine .inr ⟨_, rfl, _, _, rfl, rfl, ?_⟩
    rw [rule_eqv, gh.door "in" (.inl rfl)]
    have sm : ∀ z : Int, z = 0 ∨ z = 1 → CMul late z := fun z hz => by
      have a1 : -(2 ^ 64 : Int) < 0 := by decide
      have a2 : (6 : Int) < 2 ^ 64 := by decide
      exact .inl ⟨by omega, by omega⟩
    have hD6 := same_new (o := .tup [V.str "in"]) no1 _ _ hD
    have il := (List.getElem?_eq_some_iff.mp ehi).1
    by_cases cc : hh.wd = "in"
    · rw [decide_eq_true cc]
      refine ⟨sm _ (.inl rfl), _, hD6, by rw [List.length_map, List.length_range]; exact small1000 (by omega), ?_, Same.own s6 nD⟩
      rw [upd_same, List.range_succ, List.map_append]
      show some (HO.lst (_ ++ [V.int (late * 0)])) = some (HO.lst (_ ++ [V.int (if hs[i]?.map HR.wd = some ("in" : Str) then 0 else late)]))
      rw [ehi, if_pos (by rw [← cc]; rfl), Int.mul_zero]
    · rw [decide_eq_false cc]
      refine ⟨sm _ (.inr rfl), _, hD6, by rw [List.length_map, List.length_range]; exact small1000 (by omega), ?_, Same.own s6 nD⟩
      rw [upd_same, List.range_succ, List.map_append]
      show some (HO.lst (_ ++ [V.int (late * 1)])) = some (HO.lst (_ ++ [V.int (if hs[i]?.map HR.wd = some ("in" : Str) then 0 else late)]))
      rw [ehi, if_neg (show ¬ Option.map HR.wd (some hh) = some ("in" : Str) from fun z => cc (Option.some.inj z)), Int.mul_one]
  · rintro H5 ⟨hD, s5⟩
    have F5 := hF.same s5
    exact ⟨rfl, D, rfl, by rw [hD, lhv], hF.ne nD, hF.nec nD, F5, fun b o e _ => s5 b o e⟩
end
/-! ### rooms moved -/
/-- what is taken from a belt at a bell -/
def takenAt (b : BR) (ms : List (List Int)) (t : Nat) : Int := if t < b.th.length then gD b.th t else gD (ms.getD (t - b.th.length) []) b.one
/-- a belt moved -/
def movB (sh : Nat → Int) (w : Int) (ms : List (List Int)) (b : BR) : BR := ⟨b.one, b.to, (List.range (trS sh b).toNat).map fun i => takenAt b ms ((w - sh b.to).toNat + i)⟩
section
variable {P : Program} {w : World} {K : PySem.W.Frag} {mg : Str → Option Value} {base : Heap}
def sp_taken_at (K : PySem.W.Frag) : Sp := fun vs H Q _ => ∃ (v : V) (b : BR) (ml : Addr) (mv : List V) (ms : List (List Int)) (n : Nat), vs = [v, .ref ml, .int ((n : Nat) : Int)] ∧ BeltAt H v b ∧ H ml = some (.lst mv) ∧ All2 (RowAt H) mv ms ∧ (∀ m ∈ ms, b.one < m.length) ∧ n < b.th.length + ms.length ∧ Q (.int (takenAt b ms n)) H
theorem ok_taken_at {f : Addr} {fd : FuncData} (F : Fun K "taken_at" "taken_at" s_taken_at f fd) (T : Top K mg) : FnOk P w K mg base CX0 1 f fd ["belt", "made", "bell"] (sp_taken_at K) := by
  refine F.ok sc_taken_at (fun vs H Q E h => ?_) (fun cdv A outer s H vs Q E hr h => ?_)
  · obtain ⟨v, b, ml, mv, ms, n, rfl, _⟩ := h
    rfl
  obtain ⟨v, b, ml, mv, ms, n, rfl, ⟨t, g, rfl, e1, e2⟩, hml, al, om, nl, q⟩ := h
  refine ⟨_, (pss_cons (ps_asg (pv 0) (pg_tupK K rfl rfl (pgs_cons (pg_name (i := 3) sc_taken_at.nd rfl (Or.inl rfl)) (pgs_cons (pg_name (i := 4) sc_taken_at.nd rfl (Or.inl rfl)) (pgs_cons (pg_name (i := 5) sc_taken_at.nd rfl (Or.inl rfl)) pgs_nil)))))
      (pss_one (ps_ret (pe_ifExp (pt_cmpR op_lt (pv 2) (pe_callB (call_len_seqK K rfl) (by rfl) T.m_len (by decide +kernel) (pa_cons (pv 5) pa_nil)) (nomark _)) (pe_ix (ix_tupK K rfl) (pv 5) (pv 2) (fun _ _ => rfl)) (pe_ix (ix_tupK K rfl) (pe_ix (ix_listK K rfl) (pv 1) (pe_op op_sub (pv 2) (pe_callB (call_len_seqK K rfl) (by rfl) T.m_len (by decide +kernel) (pa_cons (pv 5) pa_nil))) (fun _ _ => rfl)) (pv 3) (fun _ _ => rfl)))))), ?_⟩
  refine ⟨_, rfl, t, _, rfl, SqT.of e1, rfl, _, _, rfl, _, _, rfl, _, _, rfl, rfl, ?_⟩
  refine ⟨_, rfl, _, rfl, g, _, rfl, .inr (SqT.of e2), _, _, rfl, rfl, _, rfl, ?_⟩
  unfold takenAt at q
  rw [List.length_map]
  by_cases c : n < b.th.length
  · rw [if_pos c] at q
    rw [decide_eq_true (show ((n : Nat) : Int) < ((b.th.length : Nat) : Int) by omega)]
    exact if_bl (fun _ => ⟨_, rfl, _, rfl, g, _, _, _, rfl, rfl, SqT.of e2, at_row c, q⟩) (fun z => nomatch z)
  · rw [if_neg c] at q
    rw [decide_eq_false (show ¬ ((n : Nat) : Int) < ((b.th.length : Nat) : Int) by omega)]
    have jl : n - b.th.length < ms.length := by omega
    obtain ⟨x, ex, ⟨tr, rfl, hr⟩⟩ := al.get (List.getElem?_eq_getElem jl)
    have em : ms.getD (n - b.th.length) [] = ms[n - b.th.length] := by rw [List.getD_eq_getElem?_getD, List.getElem?_eq_getElem jl]; rfl
    rw [em] at q
    have oml := om _ (List.getElem_mem jl)
    have ix : (fun i j => V.int (i - j)) ((n : Nat) : Int) ((b.th.length : Nat) : Int) = V.int (((n - b.th.length : Nat)) : Int) := by
      show V.int _ = V.int _
      congr 1
      omega
    refine if_bl (fun z => nomatch z) (fun _ => ⟨_, rfl, _, rfl, _, rfl, g, _, rfl, .inr (SqT.of e2), ?_⟩)
    rw [List.length_map]
    refine ⟨_, _, rfl, rfl, ?_⟩
    rw [ix]
    exact ⟨ml, _, _, _, rfl, rfl, SqL.of hml, atI_nat ex, _, rfl, tr, _, _, _, rfl, rfl, SqT.of hr, at_row oml, q⟩
abbrev noughts (hs : List HR) : List Int := (doorsOf "in" hs).map fun _ => 0
def sp_rows_on (K : PySem.W.Frag) : Sp := fun vs H Q _ => ∃ (r sl a : Addr) (hs : List HR) (bs : List BR) (rv : List V) (rows : List (List Int)) (ns : List Int), vs = [.ref r, .ref sl, .ref a] ∧ RoomAt H r hs bs ∧ RoomOk hs bs ∧ H sl = some (.tup (ns.map V.int)) ∧ ns.length ≤ 100 ∧ (∀ x ∈ ns, -100 ≤ x) ∧ (H a = some (.lst rv) ∨ H a = some (.tup rv)) ∧ All2 (RowAt H) rv rows ∧ rows.length ≤ 200 ∧
  ∀ (p : Addr) (ov : List V) (d : Nat) (H' : Hp), H' p = some (.lst ov) → All2 (RowAt H') ov (rows ++ List.replicate d (noughts hs)) → (∀ x ∈ ns, -((d : Nat) : Int) ≤ x) → (d = 0 ∨ -((d : Nat) : Int) ∈ ns) → Same H H' → Q (.ref p) H'
theorem all2_rep {α β : Type} {R : α → β → Prop} {x : α} {y : β} (h : R x y) : ∀ n : Nat, All2 R (List.replicate n x) (List.replicate n y)
  | 0 => .nil
  | n + 1 => .cons h (all2_rep h n)
theorem All2.app {α β : Type} {R : α → β → Prop} {as : List α} {bs : List β} (h : All2 R as bs) {cs : List α} {ds : List β} (g : All2 R cs ds) : All2 R (as ++ cs) (bs ++ ds) := by
  induction h with
  | nil => exact g
  | cons a _ ih => exact .cons a ih
theorem rep_one {α : Type} (x : α) : ∀ n : Nat, (List.replicate n [x]).flatten = List.replicate n x
  | 0 => rfl
  | n + 1 => by rw [List.replicate_succ, List.flatten_cons, rep_one x n]; rfl
theorem ok_rows_on {f : Addr} {fd : FuncData} (F : Fun K "rows_on" "rows_on" s_rows_on f fd) (T : Top K mg) : FnOk P w K mg base CX0 2 f fd ["room", "shifts", "rows"] (sp_rows_on K) := by
  obtain ⟨f_doors_in, fd_doors_in, F_doors_in, b_doors_in, m_doors_in⟩ := T.d_doors_in
  have G_doors_in := ok_doors_in (P := P) (w := w) (base := base) F_doors_in T
  refine F.ok sc_rows_on (fun vs H Q E h => ?_) (fun cdv A outer s H vs Q E hr h => ?_)
  · obtain ⟨r, sl, a, hs, bs, rv, rows, ns, rfl, _⟩ := h
    rfl
  obtain ⟨r, sl, a, hs, bs, rv, rows, ns, rfl, hR, ok, hsl, ln, lo, ha, al, lr, q⟩ := h
  have lh := ok.hands
  have lrv := al.length
  have ld := doors_len (z := "in") (hs := hs)
  refine ⟨_, (pss_cons (ps_set (i := 3) sc_rows_on.nd rfl (Or.inl rfl) (pe_callTy (call_tuple_ofK K rfl) (by rfl) T.m_tuple (by decide +kernel) (pa_cons (pe_lc (own := [("door", 4)]) (g := gName 4) (tt := tYes) (by rfl) sc_rows_on.nd (pi_listK K rfl (pe_call G_doors_in (hr.mono (by decide)) (by rfl) m_doors_in F_doors_in.kp b_doors_in .nil pass0 (pa_cons (pv 0) pa_nil))) (blkOk_by (own := [("door", 4)]) (N := N_rows_on) (sc := defScope s_rows_on) (by decide +kernel)) (fun _ _ _ _ _ => (pg_name (i := 4) sc_rows_on.nd rfl (Or.inl rfl))) (fun _ _ _ _ _ => pts_nil) (fun _ _ _ _ _ => pe_int)) pa_nil)))
      (pss_one (ps_ret (pe_op op_cat (pe_callTy (call_list_ofK K rfl) (by rfl) T.m_list (by decide +kernel) (pa_cons (pv 2) pa_nil)) (pe_op op_rep (pe_lst (pa_cons (pv 3) pa_nil)) (pe_un un_neg (pe_callB (cr_minT K rfl rfl) (by rfl) T.m_min (by decide +kernel) (pa_cons (pe_op (op_catAK K rfl) (pe_tup (pa_cons pe_int pa_nil)) (pv 1)) pa_nil)))))))), ?_⟩
  refine ⟨_, rfl, r, hs, bs, rfl, hR, by omega, ok.good, fun p0 H1 np0 hp0 s1 => ⟨p0, rfl, ⟨_, SqL.of hp0⟩, fun D nD => lc_list (K := K) (a := p0) (xs := (doorsOf "in" hs).map nV) (fun i H5 => H5 D = some (.lst (List.replicate i (V.int 0))) ∧ Same H1 H5) ⟨upd_same, same_new nD⟩ (fun i H5 _ ⟨_, s5⟩ => SqL.of (s5 _ _ hp0)) ?_ ?_⟩⟩
  · rintro i x H5 hx ⟨hD, s5⟩
    have il := (List.getElem?_eq_some_iff.mp hx).1
    rw [List.length_map] at il
    refine ⟨rfl, yes_in ⟨_, hD, by rw [List.length_replicate]; exact small1000 (by omega), ?_, Same.own s5 nD⟩⟩
    rw [upd_same, List.replicate_succ']
  rintro H2 ⟨hD, s2⟩
  have s02 := s1.trans s2
  refine ⟨D, _, rfl, .inl ⟨SqL.of hD, fun p1 np1 => ?_⟩⟩
  rw [List.length_map]
  obtain ⟨o1, eo1⟩ : ∃ o1, o1 = HO.tup (List.replicate (doorsOf "in" hs).length (V.int 0)) := ⟨_, rfl⟩
  have s3 := s02.trans (same_new (o := o1) np1)
  have hp1 : (upd H2 p1 o1) p1 = some (.tup ((noughts hs).map V.int)) := by
    rw [upd_same, eo1]
    congr 2
    rw [List.map_map]
    refine List.ext_getElem? fun i => ?_
    rw [List.getElem?_replicate, List.getElem?_map]
    by_cases c : i < (doorsOf "in" hs).length
    · rw [if_pos c, List.getElem?_eq_getElem c]; rfl
    · rw [if_neg c, List.getElem?_eq_none (by omega)]; rfl
  rw [← eo1]
  generalize upd H2 p1 o1 = H3 at s3 hp1 ⊢
  have ha3 : H3 a = some (.lst rv) ∨ H3 a = some (.tup rv) := ha.imp (s3 _ _) (s3 _ _)
  have fin : ∀ (p2 : Addr) (H4 H5 : Hp) (m : Int), H4 p2 = some (.lst rv) → Same H3 H4 → Same H4 H5 → m ∈ 0 :: ns → (∀ y ∈ 0 :: ns, m ≤ y) → ∃ d : Nat, m = -((d : Nat) : Int) ∧ d ≤ 100 ∧ ∀ p5 H6, H5 p5 = none → H6 = upd H5 p5 (.lst (rv ++ List.replicate d (.ref p1))) → Q (.ref p5) H6 := fun p2 H4 H5 m hp2 s4 s5 hm hle => by
    obtain ⟨d, ed⟩ : ∃ d : Nat, m = -((d : Nat) : Int) := ⟨(-m).toNat, by have := hle 0 (List.mem_cons_self ..); omega⟩
    subst ed
    have d100 : d ≤ 100 := by
      rcases List.mem_cons.mp hm with z | z
      · omega
      · have := lo _ z; omega
    refine ⟨d, rfl, d100, fun p5 H6 np5 e6 => ?_⟩
    have s6 : Same H3 H6 := (s4.trans s5).trans (by rw [e6]; exact same_new np5)
    refine q p5 _ d H6 (by rw [e6]; exact upd_same) ?_ (fun x hx => hle x (List.mem_cons_of_mem _ hx)) ?_ (s3.trans s6)
    · exact (al.imp fun _ _ z => z.keep (TK.same (s3.trans s6))).app (all2_rep ⟨p1, rfl, s6 _ _ hp1⟩ d)
    · rcases List.mem_cons.mp hm with z | z
      · exact .inl (by omega)
      · exact .inr z
  have hA : SqL K H3 a rv ∨ SqT K H3 a rv := ha3.imp SqL.of SqT.of
  refine ⟨_, rfl, a, rv, rfl, hA, fun p2 np2 => ?_⟩
  have t1 := same_new (o := .lst rv) np2
  have hp2 : (upd H3 p2 (.lst rv)) p2 = some (.lst rv) := upd_same
  generalize upd H3 p2 (.lst rv) = H4 at t1 hp2 ⊢
  refine ⟨_, rfl, (by show 1 ≤ sizeLine; decide), fun p3 np3 => ?_⟩
  have t2 := same_new (o := .lst [V.ref p1]) np3
  have hp3 : (upd H4 p3 (.lst [V.ref p1])) p3 = some (.lst [V.ref p1]) := upd_same
  generalize upd H4 p3 (.lst [V.ref p1]) = H5 at t2 hp3 ⊢
  have tail : ∀ (m : Int) (H6 : Hp), m ∈ 0 :: ns → (∀ y ∈ 0 :: ns, m ≤ y) → Same H5 H6 → ∃ i : Int, V.int m = V.int i ∧ (∃ (l : Addr) (k : Int) (xs : List V), V.ref p3 = .ref l ∧ V.int (-i) = .int k ∧ H6 l = some (.lst xs) ∧ -(2 ^ 63) ≤ k ∧ k < 2 ^ 63 ∧ xs.length * k.toNat ≤ sizeLine ∧ ∀ p, H6 p = none → (∃ (l b : Addr) (xs' zs : List V), V.ref p2 = .ref l ∧ V.ref p = .ref b ∧ (upd H6 p (.lst (List.replicate k.toNat xs).flatten)) l = some (.lst xs') ∧ (upd H6 p (.lst (List.replicate k.toNat xs).flatten)) b = some (.lst zs) ∧ xs'.length + zs.length ≤ sizeLine ∧ ∀ p', (upd H6 p (.lst (List.replicate k.toNat xs).flatten)) p' = none → Q (.ref p') (upd (upd H6 p (.lst (List.replicate k.toNat xs).flatten)) p' (.lst (xs' ++ zs))))) := fun m H6 hm hle s6 => by
    have t12 := t2.trans s6
    refine ⟨m, rfl, p3, _, _, rfl, rfl, s6 _ _ hp3, ?_⟩
    obtain ⟨d, em⟩ : ∃ d : Nat, m = -((d : Nat) : Int) := ⟨(-m).toNat, by have := hle 0 (List.mem_cons_self ..); omega⟩
    have d100 : d ≤ 100 := by
      rcases List.mem_cons.mp hm with z | z
      · omega
      · have := lo _ z; omega
    have ek : (-m).toNat = d := by omega
    rw [ek, rep_one]
    refine ⟨by omega, by omega, by show 1 * d ≤ _; rw [Nat.one_mul]; exact little (by omega), fun p4 np4 => ?_⟩
    have t5 := same_new (o := .lst (List.replicate d (V.ref p1))) np4
    refine ⟨p2, p4, _, _, rfl, rfl, t5 _ _ (t12 _ _ hp2), upd_same, by rw [List.length_replicate, lrv]; exact little (by omega), fun p5 np5 => ?_⟩
    obtain ⟨d', e1, _, f⟩ := fin p2 H4 _ m hp2 t1 (t12.trans t5) hm hle
    obtain rfl : d' = d := by omega
    exact f p5 _ np5 rfl
  refine ⟨(by show 1 ≤ sizeLine; decide), fun z0 nz => ?_⟩
  have t3 := same_new (o := .tup [V.int 0]) nz
  refine ⟨_, rfl, z0, sl, _, _, rfl, rfl, SqT.of upd_same, SqT.of ((((s3.trans t1).trans t2).trans t3) _ _ hsl), by rw [List.length_map]; exact little (by show 1 + _ ≤ 1000; omega), fun z => (nomatch z), fun _ em => ?_, fun _ _ p np => ?_⟩
  · have em : ns = [] := List.map_eq_nil_iff.mp em
    subst em
    refine ⟨z0, [0], rfl, SqT.of upd_same, by simp, fun m hm hle => ?_⟩
    exact tail m _ hm hle t3
  · refine ⟨p, 0 :: ns, rfl, SqT.of upd_same, by simp, fun m hm hle => ?_⟩
    exact tail m _ hm hle (t3.trans (same_new np))
end
section
variable {P : Program} {w : World} {K : PySem.W.Frag} {mg : Str → Option Value} {base : Heap} {cT PT : Addr} [TI : TabI K mg base cT PT]
include TI
/-- how many bells shifts wait -/
structure Wait (n : Nat) (sh : Nat → Int) (w : Int) : Prop where
  nn : 0 ≤ w
  le : ∀ k, k < n → sh k ≤ w
  at_ : w = 0 ∨ ∃ k, k < n ∧ sh k = w
/-- how many bells hands are ahead -/
structure Ahead (n : Nat) (sh : Nat → Int) (d : Nat) : Prop where
  le : ∀ k, k < n → -((d : Nat) : Int) ≤ sh k
  at_ : d = 0 ∨ ∃ k, k < n ∧ sh k = -((d : Nat) : Int)
def sp_moved (K : PySem.W.Frag) (PT : Addr) : Sp := fun vs H Q E => ∃ (r sl a : Addr) (hs : List HR) (bs : List BR) (m : Nat) (late : Int) (sh : Nat → Int) (rv : List V) (rows : List (List Int)), vs = [.ref r, .int late, .ref sl, .ref a] ∧ RoomAt H r hs bs ∧ RoomOk hs bs ∧ H sl = some (.tup (levL m sh)) ∧ GxR.TabG H PT ∧ (m = hs.length → Good33 hs bs late sh → Bd 50 sh ∧ (H a = some (.lst rv) ∨ H a = some (.tup rv)) ∧ All2 (RowAt H) rv rows ∧ (∀ x ∈ rows, x.length = (doorsOf "in" hs).length) ∧ rows.length ≤ 50 ∧ ∀ k, k < hs.length → sh k ≤ (rows.length : Int)) ∧
  (∀ (d t : Addr) (H' : Hp), m ≠ hs.length → H' d = some (.xd [("at", .ref t), ("word", .str "form")]) → H' t = some (.tup []) → GxR.TabG H' PT → But PT H H' → E (.ref (nsA K)) (some d) H') ∧
  (∀ (d t : Addr) (wd : Str) (k : Nat) (H' : Hp), m = hs.length → Ref34 hs bs late sh wd k → H' d = some (.xd [("at", .ref t), ("word", .str wd)]) → H' t = some (.tup [nV k]) → GxR.TabG H' PT → But PT H H' → E (.ref (nsA K)) (some d) H') ∧
  ∀ (p : Addr) (w : Int) (d : Nat) (ms : List (List Int)) (H' : Hp), m = hs.length → Good33 hs bs late sh → RoomAt H' p hs (bs.map (movB sh w ms)) → Wait hs.length sh w → Ahead hs.length sh d → WS hs bs (rows ++ List.replicate d (noughts hs)) ms → GxR.TabG H' PT → But PT H H' → Q (.ref p) H'
theorem ok_moved {f : Addr} {fd : FuncData} (F : Fun K "moved" "moved" s_moved f fd) (T : Top K mg) : FnOk P w K mg base (L2.CX P w) 5 f fd ["room", "late", "shifts", "rows"] (sp_moved K PT) := by
  obtain ⟨f_look_shifts, fd_look_shifts, F_look_shifts, b_look_shifts, m_look_shifts⟩ := T.d_look_shifts
  have G_look_shifts := ok_look_shifts (P := P) (w := w) (base := base) F_look_shifts T
  obtain ⟨f_waits, fd_waits, F_waits, b_waits, m_waits⟩ := T.d_waits
  have G_waits := ok_waits (P := P) (w := w) (base := base) F_waits T
  obtain ⟨f_worked, fd_worked, F_worked, b_worked, m_worked⟩ := T.d_worked
  have G_worked := ok_worked (P := P) (w := w) (base := base) F_worked T
  obtain ⟨f_rows_on, fd_rows_on, F_rows_on, b_rows_on, m_rows_on⟩ := T.d_rows_on
  have G_rows_on := ok_rows_on (P := P) (w := w) (base := base) F_rows_on T
  obtain ⟨f_trays_moved, fd_trays_moved, F_trays_moved, b_trays_moved, m_trays_moved⟩ := T.d_trays_moved
  have G_trays_moved := ok_trays_moved (P := P) (w := w) (base := base) F_trays_moved T
  obtain ⟨f_taken_at, fd_taken_at, F_taken_at, b_taken_at, m_taken_at⟩ := T.d_taken_at
  have G_taken_at := ok_taken_at (P := P) (w := w) (base := base) F_taken_at T
  obtain ⟨fdI, N⟩ := T.x_ns
  have GI := ok_NsInit (P := P) (w := w) (base := base) N
  refine F.okX sc_moved (fun vs H Q E h => ?_) (fun cdv A outer s H vs Q E hr h => ?_)
  · obtain ⟨r, sl, a, hs, bs, m, late, sh, rv, rows, rfl, _⟩ := h
    rfl
  obtain ⟨r, sl, a, hs, bs, m, late, sh, rv, rows, rfl, hR, ok, hsl, tg, pre, qf, qr, q⟩ := h
  have lh := ok.hands
  have lbs := ok.many
  have esl : levL hs.length sh = ((List.range hs.length).map sh).map V.int := by rw [List.map_map]; rfl
  have off : ∀ {b : Addr} {xs : List V}, H b = some (.lst xs) → b ≠ PT := fun e z => by
    obtain ⟨ps0, ePT, _⟩ := tg
    rw [z, ePT] at e; cases e
  obtain ⟨ha', ba, hv, bv, er, eh, eb, alh, alb⟩ := id hR.ex
  let R1 : TS := fun D' σ' H' => D'.rt = Q ∧ m = hs.length ∧ Good33 hs bs late sh ∧ ∃ (w : Int) (d : Nat) (ms : List (List Int)) (mv : List V) (ml : Addr), σ' = [some (.ref r), some (.int late), some (.ref sl), some (.ref a), some (.ref ha'), some (.ref ba), some (.int w), some (.ref ml), none, none, none, none, none, none, none, none] ∧ H' ml = some (.lst mv) ∧ All2 (RowAt H') mv ms ∧ Wait hs.length sh w ∧ Ahead hs.length sh d ∧ WS hs bs (rows ++ List.replicate d (noughts hs)) ms ∧ GxR.TabG H' PT ∧ But PT H H'
  refine ⟨_, (pss_cons (ps_expr (pe_callS G_look_shifts (hr.mono (by decide)) (by rfl) m_look_shifts F_look_shifts.kp b_look_shifts (fun σ => passAt (takes_of rfl rfl rfl rfl) σ) (pa_cons (pv 0) (pa_cons (pv 1) (pa_cons (pv 2) pa_nil)))))
      (pss_cons (ps_asg (pv 0) (pg_tupK K rfl rfl (pgs_cons (pg_name (i := 4) sc_moved.nd rfl (Or.inl rfl)) (pgs_cons (pg_name (i := 5) sc_moved.nd rfl (Or.inl rfl)) pgs_nil))))
      (pss_cons (ps_set (i := 6) sc_moved.nd rfl (Or.inl rfl) (pe_call G_waits (hr.mono (by decide)) (by rfl) m_waits F_waits.kp b_waits .nil pass0 (pa_cons (pv 2) pa_nil)))
      (pss_cons (ps_set (i := 7) sc_moved.nd rfl (Or.inr rfl) (pe_call G_worked (hr.mono (by decide)) (by rfl) m_worked F_worked.kp b_worked .nil pass0 (pa_cons (pv 0) (pa_cons (pe_call G_rows_on (hr.mono (by decide)) (by rfl) m_rows_on F_rows_on.kp b_rows_on .nil pass0 (pa_cons (pv 0) (pa_cons (pv 2) (pa_cons (pv 3) pa_nil)))) pa_nil))))
      (PSs.to (pss_cons (ps_set (i := 8) sc_moved.nd rfl (Or.inl rfl) (pe_lst pa_nil))
      (pss_cons (ps_for (passes_of rfl) rfl (pi_zipTL K rfl (by rfl) T.m_zip (pa_cons (pv 5) (pa_cons (pe_call G_trays_moved (hr.mono (by decide)) (by rfl) m_trays_moved F_trays_moved.kp b_trays_moved .nil pass0 (pa_cons (pv 0) (pa_cons (pv 2) pa_nil))) pa_nil))) (pg_tupK K rfl rfl (pgs_cons (pg_tupK K rfl rfl (pgs_cons (pg_name (i := 9) sc_moved.nd rfl (Or.inr rfl)) (pgs_cons (pg_name (i := 10) sc_moved.nd rfl (Or.inr rfl)) (pgs_cons (pg_name (i := 11) sc_moved.nd rfl (Or.inr rfl)) pgs_nil)))) (pgs_cons (pg_name (i := 12) sc_moved.nd rfl (Or.inl rfl)) pgs_nil)))
        (pss_cons (ps_set (i := 13) sc_moved.nd rfl (Or.inl rfl) (pe_op op_sub (pv 6) (pe_ix (ix_tupK K rfl) (pv 2) (pv 10) (fun _ _ => rfl))))
      (pss_cons (ps_setLc (i := 14) (own := [("bell", 15)]) (g := gName 15) (tt := tYes) (by rfl) sc_moved.nd rfl rfl (sw_true rfl rfl rfl (by decide +kernel)) (pi_range2 (by rfl) T.m_range (pa_cons (pv 13) (pa_cons (pe_op op_add (pv 13) (pv 12)) pa_nil))) (blkOk_by (own := [("bell", 15)]) (N := N_moved) (sc := defScope s_moved) (by decide +kernel)) (fun _ _ _ _ _ => (pg_name (i := 15) sc_moved.nd rfl (Or.inl rfl))) (fun _ _ _ _ _ => pts_nil) (fun _ _ _ _ _ => (pe_call G_taken_at (hr.mono (by decide)) (by rfl) m_taken_at F_taken_at.kp b_taken_at .nil pass0 (pa_cons (pe_tup (pa_cons (pv 9) (pa_cons (pv 10) (pa_cons (pv 11) pa_nil)))) (pa_cons (pv 7) (pa_cons (pv 15) pa_nil))))))
      (pss_one (ps_expr (pe_bmK K rfl PySem.F.plainAttrs_list PySem.F.slot_list_append PySem.F.type_list_append mt_append (pv 8) (pa_cons (pe_tup (pa_cons (pv 9) (pa_cons (pv 10) (pa_cons (pe_callTy (call_tuple_ofK K rfl) (by rfl) T.m_tuple (by decide +kernel) (pa_cons (pv 14) pa_nil)) pa_nil)))) pa_nil)))))))
      (pss_one (ps_ret (pe_tup (pa_cons (pv 4) (pa_cons (pe_callTy (call_tuple_ofK K rfl) (by rfl) T.m_tuple (by decide +kernel) (pa_cons (pv 8) pa_nil)) pa_nil))))))) R1 ?tail1))))), ?_⟩
  case tail1 =>
    rintro D' σ' H1 ⟨eD, em, gd, w, d, ms, mv, ml, rfl, hml, alm, wt, ahd, ws, tg1, b1⟩
    obtain ⟨bd, ha, al, lrow, lr, lsh⟩ := pre em gd
    rw [em] at hsl
    have k1 := tab_tk tg b1
    have lms : ms.length = rows.length + d := by
      have := ws.len
      rw [List.length_append, List.length_replicate] at this
      omega
    refine ⟨(by show 0 ≤ sizeLine; decide), fun af naf => ?_⟩
    have s2 := same_new (o := .lst []) naf
    have haf : (upd H1 af (.lst [])) af = some (.lst []) := upd_same
    generalize upd H1 af (.lst []) = H2 at s2 haf ⊢
    have k2 := k1.trans (TK.same s2)
    refine ⟨_, rfl, _, rfl, _, rfl, r, sl, hs, bs, sh, rfl, hR.keep k2, ok, k2 _ _ hsl, fun tl H3 ntl htl s3 => ?_⟩
    have k3 := k2.trans (TK.same s3)
    have haf3 := s3 _ _ haf
    have eb3 := k3 _ _ eb
    have nba : ba ≠ af := ne_of eb3 haf3 (fun z => nomatch z)
    have tlaf : tl ≠ af := fun z => by rw [z, haf] at ntl; cases ntl
    have tpl : ∀ {b : Addr} {xs : List V}, H b = some (.tup xs) → H3 b = some (.tup xs) ∧ b ≠ af := fun e => ⟨k3 _ _ e, ne_of (k3 _ _ e) haf3 (fun z => nomatch z)⟩
    have lbv := alb.length
    refine ⟨ba, tl, bv, _, rfl, SqT.of (k3 _ _ eb), SqL.of htl, for_it (n := bs.length) (fun i σ H5 => ∃ (av : List V) (v9 v10 v11 v12 v13 v14 : Option V), σ = [some (.ref r), some (.int late), some (.ref sl), some (.ref a), some (.ref ha'), some (.ref ba), some (.int w), some (.ref ml), some (.ref af), v9, v10, v11, v12, v13, v14, none] ∧ H5 af = some (.lst av) ∧ All2 (BeltAt H5) av ((bs.take i).map (movB sh w ms)) ∧ (∀ b o, H3 b = some o → b ≠ af → H5 b = some o))
      ⟨[], none, none, none, none, none, none, rfl, haf3, .nil, fun _ _ e _ => e⟩ ?_ ?_ ?_ ?_⟩
    · rintro i σ H5 hi ⟨av, v9, v10, v11, v12, v13, v14, rfl, hav, ala, f5⟩
      exact ⟨SqT.of (f5 _ _ eb3 nba), SqL.of (f5 _ _ htl tlaf), by omega, by rw [List.length_map]; exact hi⟩
    · rintro σ H5 ⟨av, v9, v10, v11, v12, v13, v14, rfl, hav, ala, f5⟩
      exact ⟨SqT.of (f5 _ _ eb3 nba), SqL.of (f5 _ _ htl tlaf), by omega, by rw [List.length_map]; exact Nat.le_refl _, .inl (by omega)⟩
    · rintro i x σ H5 H6 hi ⟨av, v9, v10, v11, v12, v13, v14, rfl, hav, ala, f5⟩ ⟨T', x1, y1, rfl, nT, rfl, hx1, hy1⟩
      obtain ⟨b, ebj, ⟨t2, g, rfl, e1, e2⟩⟩ := alb.getL hx1
      have hb := List.mem_of_getElem? ebj
      obtain ⟨ob, tb⟩ := ok.ends b hb
      obtain rfl : y1 = V.int (trS sh b) := by
        rw [List.getElem?_map, ebj] at hy1
        exact (Option.some.inj hy1).symm
      have s6 := same_new (o := .tup [V.ref t2, V.int (trS sh b)]) nT
      have hT' : (upd H5 T' (.tup [V.ref t2, V.int (trS sh b)])) T' = some (.tup [V.ref t2, V.int (trS sh b)]) := upd_same
      generalize upd H5 T' (.tup [V.ref t2, V.int (trS sh b)]) = H6 at s6 hT' ⊢
      have f6 : ∀ {c : Addr} {xs : List V}, H c = some (.tup xs) → H6 c = some (.tup xs) := fun e => s6 _ _ (f5 _ _ (tpl e).1 (tpl e).2)
      have t0 := gd.tr b hb
      have sto := wt.le b.to tb
      have son := ahd.le b.one ob
      have btw := bd b.to
      have b1w := bd b.one
      have thl := (ok.th b hb).1
      have w50 : w ≤ 50 := by
        rcases wt.at_ with z | ⟨k, _, z⟩
        · omega
        · have := bd k; omega
      refine ⟨T', _, rfl, SqT.of hT', rfl, _, _, rfl, ?_⟩
      refine ⟨t2, _, rfl, SqT.of (f6 e1), rfl, _, _, rfl, _, _, rfl, _, _, rfl, rfl, _, _, rfl, rfl, ?_⟩
      refine ⟨_, rfl, _, rfl, _, rfl, sl, _, _, _, rfl, rfl, SqT.of (f6 hsl), atI_nat (rg_at tb), _, _, rfl, rfl, ?_⟩
      obtain ⟨f0, ef0⟩ : ∃ f0 : Nat, w - sh b.to = ((f0 : Nat) : Int) := ⟨(w - sh b.to).toNat, by omega⟩
      obtain ⟨n0, en0⟩ : ∃ n0 : Nat, trS sh b = ((n0 : Nat) : Int) := ⟨(trS sh b).toNat, by omega⟩
      have trd : trS sh b = (b.th.length : Int) + sh b.to - sh b.one := rfl
      have fl : f0 + n0 ≤ b.th.length + ms.length := by
        have := lsh b.to tb
        rcases wt.at_ with z | ⟨k, kl, z⟩
        · omega
        · have := lsh k kl; omega
      have nl : n0 ≤ 500 := by omega
      show tSeq _ _ _ [some (.ref r), some (.int late), some (.ref sl), some (.ref a), some (.ref ha'), some (.ref ba), some (.int w), some (.ref ml), some (.ref af), some (.int ((b.one : Nat) : Int)), some (.int ((b.to : Nat) : Int)), some (.ref g), some (.int (trS sh b)), some (.int (w - sh b.to)), v14, none] H6
      rw [ef0, en0]
      have mlaf : ml ≠ af := fun z => by rw [z, naf] at hml; cases hml
      have hml6 : H6 ml = some (.lst mv) := s6 _ _ (f5 _ _ (s3 _ _ (s2 _ _ hml)) mlaf)
      have kk : TK H1 H6 := fun c xs e => s6 _ _ (f5 _ _ (s3 _ _ (s2 _ _ e)) (fun z => by rw [z, naf] at e; cases e))
      have alm6 := alm.imp fun _ _ z => z.keep kk
      have haf6 := s6 _ _ hav
      refine ⟨_, rfl, _, rfl, _, rfl, _, _, rfl, rfl, _, _, rfl, ⟨by omega, by omega, by omega, by omega⟩, fun D nD => lc_range (lo := ((f0 : Nat) : Int)) (n := (((f0 : Nat) : Int) + ((n0 : Nat) : Int) - ((f0 : Nat) : Int)).toNat) (fun i H7 => H7 D = some (.lst (((List.range i).map fun j => takenAt b ms (f0 + j)).map V.int)) ∧ Same H6 H7) ⟨upd_same, same_new nD⟩ ?_ ?_⟩
      · rintro j H7 hj ⟨hD, s7⟩
        have hj : j < n0 := by omega
        refine ⟨rfl, yes_in ?_⟩
        refine ⟨_, rfl, _, rfl, _, rfl, (by show 3 ≤ sizeLine; decide), fun tt ntt => ?_⟩
        have s8 := same_new (o := .tup [V.int ((b.one : Nat) : Int), V.int ((b.to : Nat) : Int), V.ref g]) ntt
        have s68 := s7.trans s8
        refine ⟨_, rfl, _, rfl, .ref tt, b, ml, mv, ms, f0 + j, by rw [Int.natCast_add]; rfl, ⟨tt, g, rfl, upd_same, s68 _ _ (f6 e2)⟩, s68 _ _ hml6, alm6.imp fun _ _ z => z.keep (TK.same s68), fun m hm => ?_, by omega, ?_⟩
        · obtain ⟨tt', ett⟩ := List.getElem?_of_mem hm
          have lt' := (List.getElem?_eq_some_iff.mp ett).1
          have := (ws.at_ tt' _ m (List.getElem?_eq_getElem (by rw [← ws.len]; exact lt')) ett).len
          omega
        · refine ⟨_, s8 _ _ hD, by rw [List.length_map, List.length_map, List.length_range]; exact small1000 (by omega), ?_, Same.own s68 nD⟩
          rw [upd_same, List.range_succ, List.map_append, List.map_append]
          rfl
      rintro H7 ⟨hD, s7⟩
      rw [show (((f0 : Nat) : Int) + ((n0 : Nat) : Int) - ((f0 : Nat) : Int)).toNat = n0 by omega] at hD
      have Daf : af ≠ D := fun z => by rw [← z, haf6] at nD; cases nD
      refine ⟨_, rfl, .inl ⟨rfl, _, SqL.of (s7 _ _ haf6)⟩, _, rfl, _, rfl, _, rfl, D, _, rfl, .inl ⟨SqL.of hD, fun pt npt => ?_⟩⟩
      have s8 := s7.trans (same_new (o := .tup (((List.range n0).map fun j => takenAt b ms (f0 + j)).map V.int)) npt)
      have hpt : (upd H7 pt (.tup (((List.range n0).map fun j => takenAt b ms (f0 + j)).map V.int))) pt = some (.tup (((List.range n0).map fun j => takenAt b ms (f0 + j)).map V.int)) := upd_same
      generalize upd H7 pt _ = H8 at s8 hpt ⊢
      refine ⟨(by show 3 ≤ sizeLine; decide), fun p3 np3 => ?_⟩
      have s9 := same_new (o := .tup [V.int ((b.one : Nat) : Int), V.int ((b.to : Nat) : Int), V.ref pt]) np3
      have hp3 : (upd H8 p3 (.tup [V.int ((b.one : Nat) : Int), V.int ((b.to : Nat) : Int), V.ref pt])) p3 = some (.tup [V.int ((b.one : Nat) : Int), V.int ((b.to : Nat) : Int), V.ref pt]) := upd_same
      generalize upd H8 p3 _ = H9 at s9 hp3 ⊢
      have s69 := s8.trans s9
      have haf9 := s69 _ _ haf6
      have lav := ala.length
      rw [List.length_map, List.length_take] at lav
      refine ⟨af, _, _, rfl, rfl, haf9, small1000 (by omega), ?_⟩
      have kL : TK H9 (upd H9 af (.lst (av ++ [V.ref p3]))) := TK.lst haf9
      refine ⟨av ++ [V.ref p3], _, _, _, _, _, _, rfl, upd_same, ?_, fun c o e n => ?_⟩
      · rw [List.take_add_one, ebj, List.map_append]
        refine ((ala.imp fun _ _ z => z.keep (TK.same (s6.trans s69))).snoc ⟨p3, pt, rfl, hp3, ?_⟩).imp fun _ _ z => z.keep kL
        rw [s9 _ _ hpt]
        unfold movB
        rw [ef0, en0]
        rfl
      · rw [upd_ne n]
        exact s69 _ _ (s6 _ _ (f5 _ _ e n))
    · rintro σ H5 ⟨av, v9, v10, v11, v12, v13, v14, rfl, hav, ala, f5⟩
      rw [List.take_length] at ala
      refine ⟨_, rfl, _, rfl, af, _, rfl, .inl ⟨SqL.of hav, fun pt npt => ?_⟩⟩
      have s6 := same_new (o := .tup av) npt
      have hpt : (upd H5 pt (.tup av)) pt = some (.tup av) := upd_same
      generalize upd H5 pt (.tup av) = H6 at s6 hpt ⊢
      refine ⟨(by show 2 ≤ sizeLine; decide), fun p np => ?_⟩
      have s7 := same_new (o := .tup [V.ref ha', V.ref pt]) np
      have hp : (upd H6 p (.tup [V.ref ha', V.ref pt])) p = some (.tup [V.ref ha', V.ref pt]) := upd_same
      generalize upd H6 p (.tup [V.ref ha', V.ref pt]) = H7 at s7 hp ⊢
      have s57 := s6.trans s7
      have k7 : TK H H7 := fun c xs e => s57 _ _ (f5 _ _ (tpl e).1 (tpl e).2)
      have b7 : But PT H H7 := fun c o e n => by
        have e3 := s3 _ _ (s2 _ _ (b1 _ _ e n))
        exact s57 _ _ (f5 _ _ e3 (fun z => by have e1 := b1 _ _ e n; rw [z, naf] at e1; cases e1))
      have tg7 : GxR.TabG H7 PT := by
        obtain ⟨ps, e, tt⟩ := tg1
        exact ⟨ps, s57 _ _ (f5 _ _ (s3 _ _ (s2 _ _ e)) (fun z => by rw [z, naf] at e; cases e)), tt⟩
      rw [eD]
      exact q p w d ms H7 em gd ⟨ha', pt, hv, av, hp, k7 _ _ eh, s7 _ _ hpt, alh.imp fun _ _ z => z.keep k7, ala.imp fun _ _ z => z.keep (TK.same s57)⟩ wt ahd ws tg7 b7
  refine ⟨_, rfl, _, rfl, _, rfl, r, sl, hs, bs, m, late, sh, rfl, hR, ok, hsl, tg, fun d t H1 ne hd ht tg1 b1 => qf d t H1 ne hd ht tg1 b1, fun H1 em gd tg1 b1 => ?_, fun d t wd k H1 em rf hd ht tg1 b1 => qr d t wd k H1 em rf hd ht tg1 b1⟩
  obtain ⟨bd, ha, al, lrow, lr, lsh⟩ := pre em gd
  rw [em] at hsl
  have k1 := tab_tk tg b1
  refine ⟨_, rfl, r, _, rfl, SqT.of (k1 _ _ er), rfl, _, _, rfl, _, _, rfl, rfl, ?_⟩
  refine ⟨_, rfl, sl, (List.range hs.length).map sh, rfl, by rw [← esl]; exact k1 _ _ hsl, by rw [List.length_map, List.length_range]; omega, fun w H2 hm hle s2 => ?_⟩
  have k2 := k1.trans (TK.same s2)
  have ha1 : H1 a = some (.lst rv) ∨ H1 a = some (.tup rv) := ha.imp (fun e => b1 _ _ e (off e)) (k1 _ _)
  have ha2 : H2 a = some (.lst rv) ∨ H2 a = some (.tup rv) := ha1.imp (s2 _ _) (s2 _ _)
  refine ⟨_, rfl, _, rfl, _, rfl, _, rfl, r, sl, a, hs, bs, rv, rows, (List.range hs.length).map sh, rfl, hR.keep k2, ok, by rw [← esl]; exact k2 _ _ hsl, by rw [List.length_map, List.length_range]; omega, fun x hx => ?_, ha2, al.imp fun _ _ z => z.keep k2, by omega, fun p3 ov d H3 hp3 alo dle dat s3 => ?_⟩
  · obtain ⟨k, _, rfl⟩ := List.mem_map.mp hx
    have := bd k
    omega
  have k3 := k2.trans (TK.same s3)
  have ahd : Ahead hs.length sh d := ⟨fun k hk => dle _ (List.mem_map.mpr ⟨k, List.mem_range.mpr hk, rfl⟩), dat.imp id fun z => by
    obtain ⟨k, h1, h2⟩ := List.mem_map.mp z
    exact ⟨k, List.mem_range.mp h1, h2⟩⟩
  have d50 : d ≤ 50 := by
    rcases ahd.at_ with z | ⟨k, _, z⟩
    · omega
    · have := bd k; omega
  have wt : Wait hs.length sh w := ⟨hle 0 (List.mem_cons_self ..), fun k hk => hle _ (List.mem_cons_of_mem _ (List.mem_map.mpr ⟨k, List.mem_range.mpr hk, rfl⟩)), by
    rcases List.mem_cons.mp hm with z | z
    · exact .inl z
    · obtain ⟨k, h1, h2⟩ := List.mem_map.mp z
      exact .inr ⟨k, List.mem_range.mp h1, h2⟩⟩
  refine ⟨r, p3, hs, bs, _, rfl, hR.keep k3, ok, ⟨ov, .inl hp3, alo⟩, fun x hx => ?_, by rw [List.length_append, List.length_replicate]; omega, fun ml mv ms H4 nml hml alm ws s4 => ?_⟩
  · rcases List.mem_append.mp hx with z | z
    · exact lrow x z
    · rw [List.eq_of_mem_replicate z, List.length_map]
  exact ⟨rfl, em, gd, w, d, ms, mv, ml, rfl, hml, alm, wt, ahd, ws, same_tab tg1 ((s2.trans s3).trans s4), b1.same ((s2.trans s3).trans s4)⟩
end
/-! ### the moved room -/
theorem mov_th {sh : Nat → Int} {w : Int} {ms : List (List Int)} {b : BR} : (movB sh w ms b).th.length = (trS sh b).toNat := by
  unfold movB
  rw [List.length_map, List.length_range]
theorem rk_bound (rk : Nat → Int) : ∀ n : Nat, ∃ B : Int, 0 ≤ B ∧ ∀ i, i < n → -B ≤ rk i ∧ rk i ≤ B
  | 0 => ⟨0, by omega, fun i h => by omega⟩
  | n + 1 => by
    obtain ⟨B, b0, h⟩ := rk_bound rk n
    refine ⟨B + (if rk n < 0 then -rk n else rk n), by split <;> omega, fun i hi => ?_⟩
    by_cases e : i = n
    · rw [e]; split <;> omega
    · have := h i (by omega)
      split <;> omega
theorem mov_ok {hs : List HR} {bs : List BR} {sh : Nat → Int} {w : Int} {ms : List (List Int)} {N : Int} (ok : RoomOk hs bs) (tr : ∀ b ∈ bs, 0 ≤ trS sh b) (bd : Bd N sh) (n6 : ∀ b ∈ bs, (b.th.length : Int) + 2 * N ≤ 300) : RoomOk hs (bs.map (movB sh w ms)) := by
  have mem : ∀ {c : BR}, c ∈ bs.map (movB sh w ms) → ∃ b ∈ bs, c.one = b.one ∧ c.to = b.to ∧ c.th.length = (trS sh b).toNat := fun hc => by
    obtain ⟨b, hb, rfl⟩ := List.mem_map.mp hc
    exact ⟨b, hb, rfl, rfl, mov_th⟩
  refine ⟨ok.hands, ok.good, fun c hc => ?_, fun c hc h e => ?_, fun c hc => ?_, ?_, fun k h e => ?_, by rw [List.length_map]; exact ok.many⟩
  · obtain ⟨b, hb, e1, e2, _⟩ := mem hc
    rw [e1, e2]; exact ok.ends b hb
  · obtain ⟨b, hb, e1, e2, _⟩ := mem hc
    exact ok.out b hb h (by rw [← e1]; exact e)
  · obtain ⟨b, hb, e1, e2, e3⟩ := mem hc
    refine ⟨?_, trivial⟩
    have d : trS sh b = (b.th.length : Int) + sh b.to - sh b.one := rfl
    have := bd b.to
    have := bd b.one
    have := n6 b hb
    omega
  · obtain ⟨rk, hrk⟩ := ok.rank
    obtain ⟨B, b0, hB⟩ := rk_bound rk hs.length
    refine ⟨fun k => rk k - sh k * (2 * B + 1), fun c hc en => ?_⟩
    obtain ⟨b, hb, e1, e2, e3⟩ := mem hc
    rw [en] at e3
    have e3 : (trS sh b).toNat = 0 := e3.symm
    have t0 := tr b hb
    have d : trS sh b = (b.th.length : Int) + sh b.to - sh b.one := rfl
    obtain ⟨l1, l2⟩ := ok.ends b hb
    have h1 := hB _ l1
    have h2 := hB _ l2
    rw [e1, e2]
    show rk b.one - sh b.one * (2 * B + 1) < rk b.to - sh b.to * (2 * B + 1)
    have es : sh b.one = sh b.to + (b.th.length : Int) := by omega
    rw [es, Int.add_mul]
    cases eth : b.th with
    | nil =>
      have := hrk b hb eth
      show rk b.one - (sh b.to * (2 * B + 1) + (0 : Int) * (2 * B + 1)) < _
      rw [Int.zero_mul]
      omega
    | cons x l =>
      have hm : 2 * B + 1 ≤ ((x :: l).length : Int) * (2 * B + 1) := by
        have := Int.mul_le_mul_of_nonneg_right (a := 1) (b := ((x :: l).length : Int)) (c := 2 * B + 1) (by simp only [List.length_cons]; omega) (by omega)
        rwa [Int.one_mul] at this
      omega
  · rw [show (bs.map (movB sh w ms)).map BR.to = bs.map BR.to by rw [List.map_map]; rfl]
    exact ok.count k h e
/-! ### what hands make, by bells; rooms moved go on -/
/-- what a hand makes at a bell -/
def Vm (ms : List (List Int)) (s k : Nat) : Int := gD (ms.getD s []) k
theorem getD_at {ms : List (List Int)} {s : Nat} {m : List Int} (h : ms[s]? = some m) : ms.getD s [] = m := by
  rw [List.getD_eq_getElem?_getD, h]; rfl
theorem taken_at_eq {b : BR} {ms : List (List Int)} {s : Nat} (h : s ≤ ms.length) (m : List Int) (hm : ms[s]? = some m) : valB (gD m) (standB (ms.take s) b) = takenAt b ms s := by
  have ls : (ms.take s).length = s := by rw [List.length_take]; omega
  unfold takenAt
  by_cases e : b.th = []
  · rw [valB_nil ((stand_th _ b).mpr e), stand_one, e]
    rw [if_neg (by show ¬ s < 0; omega)]
    show gD m b.one = gD (ms.getD (s - 0) []) b.one
    rw [Nat.sub_zero, getD_at hm]
  · rw [stand_head _ e, ls]
    by_cases c : s < b.th.length
    · rw [if_pos c, List.getD_eq_getElem?_getD, List.getElem?_append_left c]
      show _ = b.th.getD s 0
      rw [List.getD_eq_getElem?_getD]
    · rw [if_neg c, List.getD_eq_getElem?_getD, List.getElem?_append_right (by omega), List.getElem?_map]
      have pos := List.length_pos_iff.mpr e
      rw [List.getElem?_take_of_lt (by omega)]
      have l : s - b.th.length < ms.length := by
        have := (List.getElem?_eq_some_iff.mp hm).1
        omega
      rw [List.getElem?_eq_getElem l, List.getD_eq_getElem?_getD, List.getElem?_eq_getElem l]
      rfl
theorem takes_stand {bs : List BR} {ms : List (List Int)} {s k : Nat} {m : List Int} (hm : ms[s]? = some m) : takes (stand bs (ms.take s)) (gD m) k = (bs.filter fun b => decide (b.to = k)).map fun b => takenAt b ms s := by
  have hl : s ≤ ms.length := Nat.le_of_lt (List.getElem?_eq_some_iff.mp hm).1
  unfold takes
  induction bs with
  | nil => rfl
  | cons b bs ih =>
    rw [show stand (b :: bs) (ms.take s) = standB (ms.take s) b :: stand bs (ms.take s) from rfl, List.filter_cons, List.filter_cons, stand_to]
    by_cases c : b.to = k
    · rw [if_pos (decide_eq_true c), if_pos (decide_eq_true c), List.map_cons, List.map_cons, ih, taken_at_eq hl m hm]
    · rw [if_neg (by rw [decide_eq_false c]; exact Bool.false_ne_true), if_neg (by rw [decide_eq_false c]; exact Bool.false_ne_true)]
      exact ih
theorem WS.hand {hs : List HR} {bs : List BR} {rows ms : List (List Int)} (a : WS hs bs rows ms) {s k : Nat} {h : HR} (sl : s < ms.length) (eh : hs[k]? = some h) (w : h.wd ≠ "in") : Vm ms s k = mkR h ((bs.filter fun b => decide (b.to = k)).map fun b => takenAt b ms s) := by
  have em : ms[s]? = some ms[s] := List.getElem?_eq_getElem sl
  have er : rows[s]? = some (rows[s]'(by rw [← a.len]; exact sl)) := List.getElem?_eq_getElem _
  have B := a.at_ s _ _ er em
  have q := B.hand k h eh w
  rw [takes_stand em] at q
  unfold Vm
  rw [getD_at em]
  show ms[s].getD k 0 = _
  rw [List.getD_eq_getElem?_getD, q]
  rfl
theorem WS.door {hs : List HR} {bs : List BR} {rows ms : List (List Int)} (a : WS hs bs rows ms) {s k j : Nat} (sl : s < ms.length) (ed : (doorsOf "in" hs)[j]? = some k) : Vm ms s k = gD (rows.getD s []) j := by
  have em : ms[s]? = some ms[s] := List.getElem?_eq_getElem sl
  have er : rows[s]? = some (rows[s]'(by rw [← a.len]; exact sl)) := List.getElem?_eq_getElem _
  have B := a.at_ s _ _ er em
  unfold Vm
  rw [getD_at em, getD_at er]
  show ms[s].getD k 0 = (rows[s]'_).getD j 0
  rw [List.getD_eq_getElem?_getD, List.getD_eq_getElem?_getD, B.door j k ed]
theorem rank_ind {n : Nat} {rk : Nat → Int} {P : Nat → Prop} (step : ∀ k, k < n → (∀ j, j < n → rk j < rk k → P j) → P k) : ∀ k, k < n → P k := by
  obtain ⟨B, b0, hB⟩ := rk_bound rk n
  have key : ∀ (m : Nat) (k : Nat), k < n → rk k + B < (m : Int) → P k := by
    intro m
    induction m with
    | zero => intro k hk h; have := hB k hk; omega
    | succ m ih =>
      intro k hk h
      refine step k hk fun j hj l => ih j hj ?_
      omega
  intro k hk
  exact key (rk k + B + 1).toNat k hk (by have := hB k hk; omega)
theorem map_cong {α β : Type} {l : List α} {f g : α → β} (h : ∀ x ∈ l, f x = g x) : l.map f = l.map g := List.map_congr_left h
/-- shifts that leave no belt below none, nought at in doors -/
structure Lets (hs : List HR) (bs : List BR) (sh : Nat → Int) : Prop where
  ins : ∀ k ∈ doorsOf "in" hs, sh k = 0
  tr : ∀ b ∈ bs, 0 ≤ trS sh b
/-- what a hand makes leans on no rows beyond its bell and its shift -/
theorem rows_agree {hs : List HR} {bs : List BR} {sh : Nat → Int} {R R' ms ms' : List (List Int)} (ok : RoomOk hs bs) (le : Lets hs bs sh) (a : WS hs bs R ms) (a' : WS hs bs R' ms') {N : Int} (ag : ∀ u : Nat, (u : Int) ≤ N → R.getD u [] = R'.getD u []) :
    ∀ s k, k < hs.length → s < ms.length → s < ms'.length → (s : Int) + sh k ≤ N → Vm ms s k = Vm ms' s k := by
  obtain ⟨rk, hrk⟩ := ok.rank
  intro s
  induction s using Nat.strongRecOn with
  | _ s ih =>
    refine rank_ind (rk := rk) fun k kn ihk s1 s2 hN => ?_
    have eh : hs[k]? = some hs[k] := List.getElem?_eq_getElem kn
    by_cases w : hs[k].wd = "in"
    · have km := mem_doors.mpr ⟨_, eh, w⟩
      obtain ⟨j, hj⟩ := List.getElem?_of_mem km
      rw [a.door s1 hj, a'.door s2 hj, ag s (by have := le.ins k km; omega)]
    · rw [a.hand s1 eh w, a'.hand s2 eh w]
      refine congrArg _ (map_cong fun b hb => ?_)
      obtain ⟨hb, hk⟩ := List.mem_filter.mp hb
      have hk : b.to = k := of_decide_eq_true hk
      have t0 := le.tr b hb
      have d : trS sh b = (b.th.length : Int) + sh b.to - sh b.one := rfl
      obtain ⟨l1, l2⟩ := ok.ends b hb
      unfold takenAt
      by_cases c : s < b.th.length
      · rw [if_pos c, if_pos c]
      · rw [if_neg c, if_neg c]
        show Vm ms (s - b.th.length) b.one = Vm ms' (s - b.th.length) b.one
        rw [hk] at d
        by_cases e : b.th = []
        · have e0 : b.th.length = 0 := by rw [e]; rfl
          rw [e0, Nat.sub_zero]
          exact ihk b.one l1 (by rw [← hk]; exact hrk b hb e) s1 s2 (by omega)
        · have pos := List.length_pos_iff.mpr e
          exact ih (s - b.th.length) (by omega) b.one l1 (by omega) (by omega) (by omega)
theorem mov_filter {bs : List BR} {sh : Nat → Int} {w : Int} {ms : List (List Int)} {k : Nat} : (bs.map (movB sh w ms)).filter (fun b => decide (b.to = k)) = (bs.filter fun b => decide (b.to = k)).map (movB sh w ms) := by
  rw [List.filter_map]
  rfl
/-- the moved room makes what the first one makes, later by what it waits, less the shift -/
theorem moved_on {hs : List HR} {bs : List BR} {sh : Nat → Int} {w : Nat} {R0 R1 T0 T ms0 ms ms1 : List (List Int)} (ok : RoomOk hs bs) (okg : RoomOk hs (bs.map (movB sh ((w : Nat) : Int) ms0))) (le : Lets hs bs sh) (lw : R0.length = w) (wt : ∀ k, k < hs.length → sh k ≤ ((w : Nat) : Int))
    (a0 : WS hs bs (R0 ++ T0) ms0) (l0 : ∀ k, k < hs.length → ((w : Nat) : Int) - sh k ≤ (ms0.length : Int)) (a : WS hs bs ((R0 ++ R1) ++ T) ms) (a1 : WS hs (bs.map (movB sh ((w : Nat) : Int) ms0)) R1 ms1) :
    ∀ t k, k < hs.length → t < ms1.length → (t : Int) + w - sh k < (ms.length : Int) → Vm ms1 t k = Vm ms ((t : Int) + w - sh k).toNat k := by
  obtain ⟨rk, hrk⟩ := okg.rank
  intro t
  induction t using Nat.strongRecOn with
  | _ t ih =>
    refine rank_ind (rk := rk) fun k kn ihk t1 t2 => ?_
    have eh : hs[k]? = some hs[k] := List.getElem?_eq_getElem kn
    have wk := wt k kn
    obtain ⟨s, es⟩ : ∃ s : Nat, (t : Int) + w - sh k = (s : Int) := ⟨((t : Int) + w - sh k).toNat, by omega⟩
    rw [es, Int.toNat_natCast]
    have sl : s < ms.length := by omega
    have l1 := a1.len
    by_cases wd : hs[k].wd = "in"
    · have km := mem_doors.mpr ⟨_, eh, wd⟩
      obtain ⟨j, hj⟩ := List.getElem?_of_mem km
      have z := le.ins k km
      rw [a1.door t1 hj, a.door sl hj]
      have e1 : s = R0.length + t := by omega
      rw [e1, List.getD_eq_getElem?_getD, List.getD_eq_getElem?_getD, List.getElem?_append_left (by rw [List.length_append]; omega), List.getElem?_append_right (by omega), Nat.add_sub_cancel_left]
    · rw [a1.hand t1 eh wd, a.hand sl eh wd, mov_filter, List.map_map]
      refine congrArg _ (map_cong fun b hb => ?_)
      obtain ⟨hb, hk⟩ := List.mem_filter.mp hb
      have hk : b.to = k := of_decide_eq_true hk
      have t0 := le.tr b hb
      have d : trS sh b = (b.th.length : Int) + sh b.to - sh b.one := rfl
      obtain ⟨l1, l2⟩ := ok.ends b hb
      have wo := wt b.one l1
      have lo := l0 b.one l1
      show takenAt (movB sh w ms0 b) ms1 t = takenAt b ms s
      obtain ⟨n0, en0⟩ : ∃ n0 : Nat, trS sh b = ((n0 : Nat) : Int) := ⟨(trS sh b).toNat, by omega⟩
      have lth : (movB sh w ms0 b).th.length = n0 := by rw [mov_th, en0, Int.toNat_natCast]
      rw [hk] at d
      unfold takenAt
      rw [lth]
      by_cases c : t < n0
      · rw [if_pos c]
        have ei : gD (movB sh w ms0 b).th t = takenAt b ms0 s := by
          show ((List.range (trS sh b).toNat).map fun i => takenAt b ms0 ((((w : Nat) : Int) - sh b.to).toNat + i)).getD t 0 = _
          rw [List.getD_eq_getElem?_getD, List.getElem?_map, en0, Int.toNat_natCast, List.getElem?_range c, hk]
          show takenAt b ms0 _ = _
          congr 1
          omega
        rw [ei]
        unfold takenAt
        by_cases c2 : s < b.th.length
        · rw [if_pos c2, if_pos c2]
        · rw [if_neg c2, if_neg c2]
          refine rows_agree ok le a0 a (N := (w : Int) - 1) (fun u hu => ?_) (s - b.th.length) b.one l1 (by omega) (by omega) (by omega)
          rw [List.getD_eq_getElem?_getD, List.getD_eq_getElem?_getD, List.append_assoc, List.getElem?_append_left (by omega), List.getElem?_append_left (by omega)]
      · rw [if_neg c, if_neg (by omega)]
        show Vm ms1 (t - n0) b.one = Vm ms (s - b.th.length) b.one
        have ev : ((t - n0 : Nat) : Int) + w - sh b.one = ((s - b.th.length : Nat) : Int) := by omega
        have fin : Vm ms1 (t - n0) b.one = Vm ms (((t - n0 : Nat) : Int) + w - sh b.one).toNat b.one := by
          by_cases e : n0 = 0
          · subst e
            rw [Nat.sub_zero] at *
            refine ihk b.one l1 ?_ t1 (by omega)
            have := hrk (movB sh w ms0 b) (List.mem_map.mpr ⟨b, hb, rfl⟩) (List.length_eq_zero_iff.mp lth)
            rw [← hk]
            exact this
          · exact ih (t - n0) (by omega) b.one l1 (by omega) (by omega)
        rw [fin, ev, Int.toNat_natCast]
/-! ### what shifts wait, and are ahead -/
theorem tab_but {f PT : Addr} {H H' : Hp} (g : GxR.TabG H PT) (n : f ≠ PT) (b : But f H H') : GxR.TabG H' PT := by
  obtain ⟨ps, e, t⟩ := g
  exact ⟨ps, b _ _ e (Ne.symm n), t⟩
theorem tab_off {b PT : Addr} {H : Hp} {xs : List V} (g : GxR.TabG H PT) (e : H b = some (.lst xs)) : b ≠ PT := fun z => by
  obtain ⟨ps0, ePT, _⟩ := g
  rw [z, ePT] at e; cases e
theorem Wait.of {n : Nat} {sh : Nat → Int} {m : Int} (hm : m ∈ 0 :: (List.range n).map sh) (hle : ∀ y ∈ 0 :: (List.range n).map sh, y ≤ m) : Wait n sh m :=
  ⟨hle 0 (List.mem_cons_self ..), fun k hk => hle _ (List.mem_cons_of_mem _ (List.mem_map.mpr ⟨k, List.mem_range.mpr hk, rfl⟩)), by
    rcases List.mem_cons.mp hm with z | z
    · exact .inl z
    · obtain ⟨k, h1, h2⟩ := List.mem_map.mp z
      exact .inr ⟨k, List.mem_range.mp h1, h2⟩⟩
theorem Wait.uniq {n : Nat} {sh : Nat → Int} {a b : Int} (x : Wait n sh a) (y : Wait n sh b) : a = b := by
  refine Int.le_antisymm ?_ ?_
  · rcases x.at_ with z | ⟨k, kl, z⟩
    · have := y.nn; omega
    · rw [← z]; exact y.le k kl
  · rcases y.at_ with z | ⟨k, kl, z⟩
    · have := x.nn; omega
    · rw [← z]; exact x.le k kl
theorem Ahead.of {n : Nat} {sh : Nat → Int} {m : Int} (hm : m ∈ 0 :: (List.range n).map sh) (hle : ∀ y ∈ 0 :: (List.range n).map sh, m ≤ y) : ∃ d : Nat, m = -((d : Nat) : Int) ∧ Ahead n sh d := by
  have m0 := hle 0 (List.mem_cons_self ..)
  refine ⟨(-m).toNat, by omega, fun k hk => ?_, ?_⟩
  · have := hle _ (List.mem_cons_of_mem _ (List.mem_map.mpr ⟨k, List.mem_range.mpr hk, rfl⟩)); omega
  · rcases List.mem_cons.mp hm with z | z
    · exact .inl (by omega)
    · obtain ⟨k, h1, h2⟩ := List.mem_map.mp z
      exact .inr ⟨k, List.mem_range.mp h1, by omega⟩
theorem Ahead.uniq {n : Nat} {sh : Nat → Int} {a b : Nat} (x : Ahead n sh a) (y : Ahead n sh b) : a = b := by
  have h1 : a ≤ b := by
    rcases x.at_ with z | ⟨k, kl, z⟩
    · omega
    · have := y.le k kl; omega
  have h2 : b ≤ a := by
    rcases y.at_ with z | ⟨k, kl, z⟩
    · omega
    · have := x.le k kl; omega
  omega
theorem Wait.con {n : Nat} {sh : Nat → Int} {d : Nat} (x : Ahead n sh d) : Wait n (fun k => 0 - sh k) ((d : Nat) : Int) :=
  ⟨by omega, fun k hk => by have := x.le k hk; show 0 - sh k ≤ _; omega, by
    rcases x.at_ with z | ⟨k, kl, z⟩
    · exact .inl (by omega)
    · exact .inr ⟨k, kl, by show 0 - sh k = _; omega⟩⟩
section
variable {P : Program} {w : World} {K : PySem.W.Frag} {mg : Str → Option Value} {base : Heap}
def sp_law_rows (K : PySem.W.Frag) : Sp := fun vs H Q _ => ∃ (f c r : Addr) (hs : List HR) (bs : List BR) (m : Int), vs = [.ref f, .ref r, .int m] ∧ 0 ≤ m ∧ m ≤ 100 ∧ Flow H f c ∧ RoomAt H r hs bs ∧ hs.length ≤ 12 ∧ (∀ h ∈ hs, GoodHand h) ∧
  ∀ (p : Addr) (rv : List V) (rows : List (List Int)) (H' : Hp), H p = none → H' p = some (.lst rv) → All2 (RowAt H') rv rows → rows.length = m.toNat → (∀ x ∈ rows, x.length = (doorsOf "in" hs).length ∧ ∀ y ∈ x, Small y) → Flow H' f c → But f H H' → Q (.ref p) H'
theorem ok_law_rows {f : Addr} {fd : FuncData} (F : Fun K "_law_rows" "_law_rows" s_law_rows f fd) (T : Top K mg) : FnOk P w K mg base CX0 3 f fd ["_law_flow_here", "_law_room_here", "_law_many"] (sp_law_rows K) := by
  obtain ⟨f_law_thing, fd_law_thing, F_law_thing, b_law_thing, m_law_thing⟩ := T.d_law_thing
  have G_law_thing := ok_law_thing (P := P) (w := w) (base := base) F_law_thing T
  refine F.ok sc_law_rows (fun vs H Q E h => ?_) (fun cdv A outer s H vs Q E hr h => ?_)
  · obtain ⟨f, c, r, hs, bs, m, rfl, _⟩ := h
    rfl
  obtain ⟨f, c, r, hs, bs, m, rfl, m0, m1, hF, hR, lh, good, q⟩ := h
  obtain ⟨ha, ba, hv, bv, er, eh, eb, alh, alb⟩ := hR.ex
  have lhv := alh.length
  refine ⟨_, (pss_cons (ps_set (i := 3) sc_law_rows.nd rfl (Or.inr rfl) (pe_lc (own := [("_law_hand", 4)]) (g := gName 4) (by rfl) sc_law_rows.nd (pi_tupK K rfl (pe_ix (ix_tupK K rfl) (pv 1) pe_int (fun _ _ => rfl))) (blkOk_by (own := [("_law_hand", 4)]) (N := N_law_rows) (sc := defScope s_law_rows) (by decide +kernel)) (fun _ _ _ _ _ => (pg_name (i := 4) sc_law_rows.nd rfl (Or.inl rfl))) (fun _ _ _ _ _ => pts_one (pt_cmpR (op_eqDK K rfl hr.units) (pe_ix (ix_tupK K rfl) (pv 4) pe_int (fun _ _ => rfl)) (pe_tup (pa_cons pe_str pa_nil)) (nomark _))) (fun _ _ _ _ _ => (pv 4))))
      (pss_one (ps_ret (pe_lc (own := [("_law_k", 6)]) (g := gName 6) (tt := tYes) (by rfl) sc_law_rows.nd (pi_range1 (by rfl) T.m_range (pa_cons (pv 2) pa_nil)) (blkOk_by (own := [("_law_k", 6)]) (N := N_law_rows) (sc := defScope s_law_rows) (by decide +kernel)) (fun _ _ _ _ _ => (pg_name (i := 6) sc_law_rows.nd rfl (Or.inl rfl))) (fun _ _ _ _ _ => pts_nil) (fun _ _ _ _ _ => (pe_callTy (call_tuple_ofK K rfl) (by rfl) T.m_tuple (by decide +kernel) (pa_cons (pe_lc (own := [("_law_door", 5)]) (g := gName 5) (tt := tYes) (by rfl) sc_law_rows.nd (pi_listK K rfl (pv 3)) (blkOk_by (own := [("_law_door", 5)]) (N := N_law_rows) (sc := { kind := .function, names := [(".0", .local), ("_law_k", .local), ("tuple", .globalImplicit), ("_law_doors", .cell), ("_law_flow_here", .cell)], isGenerator := false, isCoroutine := false }) (by decide +kernel)) (fun _ _ _ _ _ => (pg_name (i := 5) sc_law_rows.nd rfl (Or.inl rfl))) (fun _ _ _ _ _ => pts_nil) (fun _ _ _ _ _ => (pe_call G_law_thing (hr.mono (by decide)) (by rfl) m_law_thing F_law_thing.kp b_law_thing .nil pass0 (pa_cons (pv 0) pa_nil)))) pa_nil))))))), ?_⟩
  refine ⟨_, rfl, r, _, _, _, rfl, rfl, SqT.of er, atI_nat (j := 0) rfl, ha, rfl, ⟨_, SqT.of eh⟩, fun D nD => lc_tup (K := K) (a := ha) (xs := hv) (fun i H5 => ∃ dv : List V, H5 D = some (.lst dv) ∧ dv.length = ((List.range i).filter fun j => decide (hs[j]?.map HR.wd = some ("in" : Str))).length ∧ Same H H5) ⟨[], upd_same, rfl, same_new nD⟩ (fun i H5 _ ⟨_, _, _, s5⟩ => SqT.of (s5 _ _ eh)) ?_ ?_⟩
  · rintro i x H5 hx ⟨dv, hD, ld, s5⟩
    obtain ⟨hh, eb2, ⟨t2, g, rfl, e1, e2⟩⟩ := alh.getL hx
    have il := (List.getElem?_eq_some_iff.mp eb2).1
    have gh := good _ (List.mem_of_getElem? eb2)
    have few := filt_len (p := fun j => decide (hs[j]?.map HR.wd = some ("in" : Str))) i
    refine ⟨rfl, _, rfl, t2, _, _, _, rfl, rfl, SqT.of (s5 _ _ e1), atI_nat (j := 0) rfl, (by show 1 ≤ sizeLine; decide), fun o1 no1 => ?_⟩
    have s6 := s5.trans (same_new (o := .tup [V.str "in"]) no1)
    have hD6 := same_new (o := .tup [V.str "in"]) no1 _ _ hD
    refine ⟨_, _, rule_dp (s6 _ _ e2), .tup (SqT.of upd_same) (.cons (.str _) .nil), rule_shaped gh.lay, one_shaped (by decide +kernel), _, rfl, ?_⟩
    rw [rule_eqv, gh.door "in" (.inl rfl)]
    by_cases cc : hh.wd = "in"
    · rw [decide_eq_true cc]
      refine if_bl (fun _ => ⟨_, rfl, dv, hD6, small1000 (by omega), _, upd_same, ?_, Same.own s6 nD⟩) (fun z => nomatch z)
      rw [filt_succ, if_pos (decide_eq_true (by rw [eb2, ← cc]; rfl)), List.length_append, List.length_append, ld]
      rfl
    · rw [decide_eq_false cc]
      refine if_bl (fun z => nomatch z) (fun _ => ⟨dv, hD6, ?_, s6⟩)
      rw [filt_succ, if_neg fun z => cc (by have := of_decide_eq_true z; rw [eb2] at this; exact Option.some.inj this), List.append_nil]
      exact ld
  · rintro H5 ⟨dv, hD, ld, s5⟩
    rw [lhv] at ld
    have ld : dv.length = (doorsOf "in" hs).length := ld
    have ldl := doors_len (z := "in") (hs := hs)
    have F5 := hF.same s5
    have df : D ≠ f := hF.ne nD
    refine ⟨_, rfl, _, rfl, by omega, by omega, fun L nL => lc_range (lo := 0) (n := m.toNat) (fun i H6 => ∃ (rv : List V) (rows : List (List Int)), H6 L = some (.lst rv) ∧ H6 D = some (.lst dv) ∧ All2 (RowAt H6) rv rows ∧ rows.length = i ∧ (∀ x ∈ rows, x.length = (doorsOf "in" hs).length ∧ ∀ y ∈ x, Small y) ∧ Flow H6 f c ∧ But f H5 H6) ⟨[], [], upd_same, same_new nL _ _ hD, .nil, rfl, (fun _ z => nomatch z), F5.new nL, But.refl.new nL⟩ ?_ ?_⟩
    · rintro i H6 hi ⟨rv, rows, hL, hD6, al, lr, ok, F6, B6⟩
      refine ⟨rfl, yes_in ⟨_, rfl, D, rfl, ⟨_, SqL.of hD6⟩, fun M nM => lc_list (K := K) (a := D) (xs := dv) (fun j H7 => ∃ vs : List Int, vs.length = j ∧ H7 M = some (.lst (vs.map V.int)) ∧ (∀ y ∈ vs, Small y) ∧ H7 D = some (.lst dv) ∧ Flow H7 f c ∧ But f H6 H7) ⟨[], rfl, upd_same, (fun _ z => nomatch z), same_new nM _ _ hD6, F6.new nM, But.refl.new nM⟩ (fun j H7 _ ⟨_, _, _, _, h, _⟩ => SqL.of h) ?_ ?_⟩⟩
      · rintro j x H7 hx ⟨vs, lv, hM, sm, hD7, F7, B7⟩
        have jl := (List.getElem?_eq_some_iff.mp hx).1
        have mf : M ≠ f := F6.ne nM
        have mc : M ≠ c := F6.nec nM
        have md : D ≠ M := ne_of_none hD6 nM
        refine ⟨rfl, yes_in ⟨_, rfl, f, c, rfl, F7, fun y H8 sy F8 B8 => ⟨_, B8 _ _ hM mf, ?_, vs ++ [y], by rw [List.length_append, lv]; rfl, ?_, ?_, ?_, F8.lst mf mc, (B7.trans B8).own nM⟩⟩⟩
        · rw [List.length_map, lv]; exact small1000 (by omega)
        · rw [upd_same, List.map_append]; rfl
        · intro z hz
          rcases List.mem_append.mp hz with hz | hz
          · exact sm z hz
          · obtain rfl : z = y := by simpa using hz
            exact sy
        · rw [upd_ne md]; exact B8 _ _ hD7 df
      · rintro H7 ⟨vs, lv, hM, sm, hD7, F7, B7⟩
        have lf : L ≠ f := F5.ne nL
        have lc : L ≠ c := F5.nec nL
        refine ⟨M, _, rfl, .inl ⟨SqL.of hM, fun p np => ?_⟩⟩
        have hL7 := same_new (o := .tup (vs.map V.int)) np _ _ (B7 _ _ hL lf)
        refine ⟨rv, hL7, by rw [al.length, lr]; exact small1000 (by omega), rv ++ [V.ref p], rows ++ [vs], upd_same, ?_, ?_, by rw [List.length_append, lr]; rfl, ?_, (F7.new np).lst lf lc, ?_⟩
        · rw [upd_ne (ne_of_none hD nL)]; exact same_new np _ _ hD7
        · exact ((al.imp fun _ _ z => z.keep ((TK.but F6 B7).trans (TK.new np))).snoc ⟨p, rfl, upd_same⟩).imp fun _ _ z => z.keep (TK.lst hL7)
        · intro x hx
          rcases List.mem_append.mp hx with hx | hx
          · exact ok x hx
          · obtain rfl : x = vs := by simpa using hx
            exact ⟨by rw [lv, ld], sm⟩
        · exact ((B6.trans B7).new np).own nL
    · rintro H6 ⟨rv, rows, hL, hD6, al, lr, ok, F6, B6⟩
      exact q L rv rows H6 (same_none s5 nL) hL al lr ok F6 ((But.of s5).trans B6)
end
section
variable {P : Program} {w : World} {K : PySem.W.Frag} {mg : Str → Option Value} {base : Heap}
/-! ### what the law reckons a hand makes -/
theorem five_of {h : HR} (g : GoodHand h) (n0 : h.wd ≠ "in") (n1 : h.wd ≠ "always") (n2 : h.wd ≠ "times") (n3 : h.wd ≠ "pick") (n4 : needs h.wd ≠ 1) : h.wd = "sum" ∨ h.wd = "gap" ∨ h.wd = "below" ∨ h.wd = "most" ∨ h.wd = "least" := by
  have o : h.wd ≠ "out" := fun z => by rw [z] at n4; exact n4 (by decide +kernel)
  have s : h.wd ≠ "same" := fun z => by rw [z] at n4; exact n4 (by decide +kernel)
  rcases g.1 with k | k
  · have := k.wd
    unfold nine at this
    simp only [List.mem_cons, List.not_mem_nil, or_false] at this
    rcases this with z | z | z | z | z | z | z | z | z
    · exact absurd z n1
    · exact absurd z s
    · exact absurd z n2
    · exact .inl z
    · exact .inr (.inl z)
    · exact .inr (.inr (.inl z))
    · exact .inr (.inr (.inr (.inl z)))
    · exact .inr (.inr (.inr (.inr z)))
    · exact absurd z n3
  · exact absurd k.1 (fun z => z.elim n0 o)
theorem one_of {h : HR} (g : GoodHand h) (n1 : h.wd ≠ "always") (n2 : h.wd ≠ "times") (n4 : needs h.wd = 1) : h.wd = "same" ∨ h.wd = "out" := by
  have n4' := n4
  unfold needs at n4
  by_cases a : h.wd ∈ (["in", "always"] : List Str)
  · rw [if_pos a] at n4; cases n4
  · rw [if_neg a] at n4
    by_cases b : h.wd ∈ (["out", "same", "times"] : List Str)
    · simp only [List.mem_cons, List.not_mem_nil, or_false] at b
      rcases b with b | b | b
      · exact .inr b
      · exact .inl b
      · exact absurd b n2
    · rw [if_neg b] at n4
      split at n4 <;> exact absurd n4 (by decide)
abbrev kv5 (a b : Int) : List (Key × V) := [(.inr "sum", .int (a + b)), (.inr "gap", .int (a - b)), (.inr "below", .int (if a < b then 1 else 0)), (.inr "most", .int (if b > a then b else a)), (.inr "least", .int (if b < a then b else a))]
theorem five_val {wd : Str} (h : wd = "sum" ∨ wd = "gap" ∨ wd = "below" ∨ wd = "most" ∨ wd = "least") (n a b c : Int) : valV (mergeK [] (kv5 a b)) (.inr wd) = some (.int (mk wd n a b c)) := by
  rcases h with e | e | e | e | e <;> subst e <;> rfl
def sp_law_made_by (K : PySem.W.Frag) : Sp := fun vs H Q _ => ∃ (r t : Addr) (h : HR) (xs : List Int), vs = [.ref r, .ref t] ∧ H r = some (.tup (ruleL h)) ∧ H t = some (.lst (xs.map V.int)) ∧ GoodHand h ∧ h.wd ≠ "in" ∧ ((xs.length : Nat) : Int) = needs h.wd ∧ ∀ H', Same H H' → Q (.int (mkR h xs)) H'
theorem ok_law_made_by {f : Addr} {fd : FuncData} (F : Fun K "_law_made_by" "_law_made_by" s_law_made_by f fd) (T : Top K mg) : FnOk P w K mg base CX0 1 f fd ["_law_rule_here", "_law_things"] (sp_law_made_by K) := by
  refine F.ok sc_law_made_by (fun vs H Q E h => ?_) (fun cdv A outer s H vs Q E hr h => ?_)
  · obtain ⟨r, t, h, xs, rfl, _⟩ := h
    rfl
  obtain ⟨r, t, h, xs, rfl, hr1, ht, g, win, hl, q⟩ := h
  have A := args_of g win hl
  unfold mkR at q
  obtain ⟨n, hn⟩ : ∃ n, n = h.no.getD 0 := ⟨_, rfl⟩
  obtain ⟨a, ha⟩ : ∃ a, a = xs.getD 0 0 := ⟨_, rfl⟩
  obtain ⟨b, hb⟩ : ∃ b, b = xs.getD 1 0 := ⟨_, rfl⟩
  obtain ⟨c, hc⟩ : ∃ c, c = xs.getD 2 0 := ⟨_, rfl⟩
  rw [← hn, ← ha, ← hb, ← hc] at q A
  have q1 := fun H' (s' : Same H H') => q H' s'
  refine ⟨_, (pss_cons (ps_if (pt_cmpR op_eq (pe_ix (ix_tupK K rfl) (pv 0) pe_int (fun _ _ => rfl)) pe_str (nomark _)) (pss_one (ps_ret (pe_ix (ix_tupK K rfl) (pv 0) pe_int (fun _ _ => rfl)))) pss_nil)
      (pss_cons (ps_set (i := 2) sc_law_made_by.nd rfl (Or.inl rfl) (pe_ix (ix_listK K rfl) (pv 1) pe_int (fun _ _ => rfl)))
      (pss_cons (ps_if (pt_cmpR op_eq (pe_ix (ix_tupK K rfl) (pv 0) pe_int (fun _ _ => rfl)) pe_str (nomark _)) (pss_one (ps_ret (pe_op op_mul (pe_ix (ix_tupK K rfl) (pv 0) pe_int (fun _ _ => rfl)) (pv 2)))) pss_nil)
      (pss_cons (ps_if (pt_cmpR op_eq (pe_ix (ix_tupK K rfl) (pv 0) pe_int (fun _ _ => rfl)) pe_str (nomark _)) (pss_one (ps_ret (pe_ix (ix_listK K rfl) (pe_lst (pa_cons (pe_ix (ix_listK K rfl) (pv 1) pe_int (fun _ _ => rfl)) (pa_cons (pe_ix (ix_listK K rfl) (pv 1) pe_int (fun _ _ => rfl)) pa_nil))) (pe_callTy call_int1 (by rfl) T.m_int (by decide +kernel) (pa_cons (pe_cmpR op_ne (pv 2) pe_int (nomark _)) pa_nil)) (fun _ _ => rfl)))) pss_nil)
      (pss_cons (ps_if (pt_cmpR op_eq (pe_callB (call_len_seqK K rfl) (by rfl) T.m_len (by decide +kernel) (pa_cons (pv 1) pa_nil)) pe_int (nomark _)) (pss_one (ps_ret (pv 2))) pss_nil)
      (pss_cons (ps_set (i := 3) sc_law_made_by.nd rfl (Or.inl rfl) (pe_ix (ix_listK K rfl) (pv 1) pe_int (fun _ _ => rfl)))
      (pss_cons (ps_set (i := 4) sc_law_made_by.nd rfl (Or.inl rfl) (pe_disp (pps_cons pe_str (pe_op op_add (pv 2) (pv 3)) (pps_cons pe_str (pe_op op_sub (pv 2) (pv 3)) (pps_cons pe_str (pe_callTy call_int1 (by rfl) T.m_int (by decide +kernel) (pa_cons (pe_cmpR op_lt (pv 2) (pv 3) (nomark _)) pa_nil)) (pps_cons pe_str (pe_callB (call_max2 rfl) (by rfl) T.m_max (by decide +kernel) (pa_cons (pv 2) (pa_cons (pv 3) pa_nil))) (pps_cons pe_str (pe_callB (call_min2 rfl) (by rfl) T.m_min (by decide +kernel) (pa_cons (pv 2) (pa_cons (pv 3) pa_nil))) pps_nil))))) (by rfl) (by rfl) (fun z => by cases z) (by decide)))
      (pss_one (ps_ret (pe_dget (hu_of hr) (pv 4) (pe_ix (ix_tupK K rfl) (pv 0) pe_int (fun _ _ => rfl)) (fun _ _ => rfl))))))))))), ?_⟩
  refine ⟨_, rfl, r, _, _, _, rfl, rfl, SqT.of hr1, atI_nat (j := 0) rfl, rfl, _, rfl, if_str (fun e1 => ?_) (fun e1 => ?_)⟩
  · have q := q1 H (fun _ _ e => e)
    unfold mk at q
    rw [if_pos e1] at q
    exact ⟨_, rfl, r, _, _, _, rfl, rfl, SqT.of hr1, atI_nat (j := 1) (A.r1 (.inl e1)), q⟩
  refine ⟨_, rfl, t, _, _, _, rfl, rfl, SqL.of ht, atI_nat (j := 0) (A.t0 e1), ?_⟩
  refine ⟨_, rfl, r, _, _, _, rfl, rfl, SqT.of hr1, atI_nat (j := 0) rfl, rfl, _, rfl, if_str (fun e2 => ?_) (fun e2 => ?_)⟩
  · have q := q1 H (fun _ _ e => e)
    unfold mk at q
    rw [if_neg e1, if_pos e2] at q
    exact ⟨_, rfl, r, _, _, _, rfl, rfl, SqT.of hr1, atI_nat (j := 1) (A.r1 (.inr e2)), _, rfl, _, _, rfl, rfl, .inl A.big, q⟩
  refine ⟨_, rfl, r, _, _, _, rfl, rfl, SqT.of hr1, atI_nat (j := 0) rfl, rfl, _, rfl, if_str (fun e3 => ?_) (fun e3 => ?_)⟩
  · refine ⟨_, rfl, t, _, _, _, rfl, rfl, SqL.of ht, atI_nat (j := 2) (A.t2 e3), _, rfl, t, _, _, _, rfl, rfl, SqL.of ht, atI_nat (j := 1) (A.t1 (.inl e3)), (by show 2 ≤ sizeLine; decide), fun p np => ?_⟩
    have q := q1 _ (same_new (o := .lst [V.int c, V.int b]) np)
    unfold mk at q
    rw [if_neg e1, if_neg e2, if_pos e3] at q
    by_cases z : a = 0
    · rw [if_pos z] at q
      refine ⟨_, rfl, rfl, .inr ⟨_, rfl, p, _, _, .int c, rfl, rfl, SqL.of upd_same, ?_, q⟩⟩
      rw [z]
      rfl
    · rw [if_neg z] at q
      refine ⟨_, rfl, rfl, .inr ⟨_, rfl, p, _, _, .int b, rfl, rfl, SqL.of upd_same, ?_, q⟩⟩
      rw [show (!decide (V.int a = V.int 0)) = true by rw [decide_eq_false fun y => z (V.int.inj y)]; rfl]
      rfl
  refine ⟨_, rfl, t, _, rfl, .inl (SqL.of ht), rfl, _, rfl, if_bl (fun e4 => ?_) (fun e4 => ?_)⟩
  · have e5 : needs h.wd = 1 := by
      have := V.int.inj (of_decide_eq_true e4)
      rw [List.length_map] at this
      omega
    have q := q1 H (fun _ _ e => e)
    unfold mk at q
    rw [if_neg e1, if_neg e2, if_neg e3, if_pos (one_of g e1 e2 e5)] at q
    exact ⟨_, rfl, q⟩
  have e5 : needs h.wd ≠ 1 := fun z => of_decide_eq_false e4 (by rw [List.length_map, hl, z])
  have f5 := five_of g win e1 e2 e3 e5
  have n1 : h.wd ≠ "same" := fun z => by rw [z] at f5; exact absurd f5 (by decide +kernel)
  have n2 : h.wd ≠ "out" := fun z => by rw [z] at f5; exact absurd f5 (by decide +kernel)
  refine ⟨_, rfl, t, _, _, _, rfl, rfl, SqL.of ht, atI_nat (j := 1) (A.t1 (.inr ⟨e1, e2, n1, n2⟩)), ?_⟩
  refine fun d nd => ⟨_, rfl, _, rfl, _, _, rfl, rfl, _, rfl, _, rfl, _, _, rfl, rfl, _, rfl, _, rfl, _, _, rfl, rfl, .inr ⟨_, rfl, _, rfl, _, rfl, _, _, rfl, _, rfl, _, rfl, _, _, rfl, upd_same, kv5 a b, ?_, (by show 5 ≤ 15; decide), ?_⟩⟩
  · by_cases z : a < b
    · simp [z, kV]
    · simp [z, kV]
  have s1 : Same H (upd (upd H d (.dK [])) d (.dK (mergeK [] (kv5 a b)))) := by rw [upd_upd]; exact same_new nd
  refine ⟨_, rfl, _, rfl, r, _, _, _, rfl, rfl, SqT.of (s1 _ _ hr1), atI_nat (j := 0) rfl, d, .int (mk h.wd n a b c), rfl, ?_, q1 _ s1⟩
  have := DGet.k (k := Sum.inr h.wd) (upd_same (H := upd H d (.dK [])) (a := d) (o := .dK (mergeK [] (kv5 a b))))
  rw [five_val f5 n a b c] at this
  exact this
end
theorem or_enum {K : PySem.W.Frag} {ta : TA} {σ : L2.St} {H : Hp} {R : It → Hp → Prop} {a : Addr} {xs : List V} (ht : ∀ Q : List V → Hp → Prop, Q [.ref a] H → ta σ H Q) (h : H a = some (.lst xs) ∨ H a = some (.tup xs))
    (k : ∀ J : It, (∀ i H', H' a = H a → i < xs.length → J.go i H') → (∀ H', H' a = H a → J.stop xs.length H') → (∀ i H' v H'', H' a = H a → J.yld i H' v H'' → ∃ T x, v = .ref T ∧ H' T = none ∧ H'' = upd H' T (.tup [nV i, x]) ∧ xs[i]? = some x) → R J H) :
    iEnum K ta σ H R ∨ iEnumT K ta σ H R := by
  rcases h with e | e
  · refine .inl (ht _ ⟨a, xs, rfl, SqL.of e, k _ (fun i H' q hi => ?_) (fun H' q => ?_) fun i H' x H'' q y => ?_⟩)
    · exact ⟨xs, _, SqL.of (q.trans e), List.getElem?_eq_getElem hi⟩
    · exact ⟨xs, SqL.of (q.trans e), Nat.le_refl _⟩
    · obtain ⟨T, x, q1, q2, q3, q4⟩ := y
      exact ⟨T, x, q1, q2, q3, q4 _ (SqL.of (q.trans e))⟩
  · refine .inr (ht _ ⟨a, xs, rfl, SqT.of e, k _ (fun i H' q hi => ?_) (fun H' q => ?_) fun i H' x H'' q y => ?_⟩)
    · exact ⟨SqT.of (q.trans e), hi⟩
    · exact ⟨SqT.of (q.trans e), rfl⟩
    · exact y
theorem filt_le {α : Type} {p q : α → Bool} (h : ∀ x, p x = true → q x = true) : ∀ l : List α, (l.filter p).length ≤ (l.filter q).length
  | [] => Nat.le_refl _
  | a :: l => by
    have ih := filt_le h l
    rw [List.filter_cons, List.filter_cons]
    cases ep : p a with
    | true => rw [h a ep, if_pos rfl, if_pos rfl, List.length_cons, List.length_cons]; omega
    | false =>
      cases eq : q a with
      | true => rw [if_neg Bool.false_ne_true, if_pos rfl, List.length_cons]; omega
      | false => rw [if_neg Bool.false_ne_true, if_neg Bool.false_ne_true]; exact ih
theorem filt_eq {α : Type} {p q : α → Bool} (h : ∀ x, p x = true → q x = true) : ∀ l : List α, (l.filter p).length = (l.filter q).length → ∀ x ∈ l, q x = true → p x = true
  | [], _, _, hx, _ => nomatch hx
  | a :: l, e, x, hx, qx => by
    have ih := filt_eq h l
    have le := filt_le h l
    rw [List.filter_cons, List.filter_cons] at e
    cases ep : p a with
    | true =>
      rw [ep, h a ep, if_pos rfl, if_pos rfl, List.length_cons, List.length_cons] at e
      rcases List.mem_cons.mp hx with z | z
      · rw [z]; exact ep
      · exact ih (by omega) x z qx
    | false =>
      cases eq : q a with
      | true => rw [ep, eq, if_neg Bool.false_ne_true, if_pos rfl, List.length_cons] at e; omega
      | false =>
        rw [ep, eq, if_neg Bool.false_ne_true, if_neg Bool.false_ne_true] at e
        rcases List.mem_cons.mp hx with z | z
        · rw [z, eq] at qx; cases qx
        · exact ih e x z qx
theorem filt_lt {α : Type} {p q : α → Bool} (h : ∀ x, p x = true → q x = true) {l : List α} {x : α} (hx : x ∈ l) (h1 : q x = true) (h2 : p x = false) : (l.filter p).length < (l.filter q).length := by
  have le := filt_le h l
  have ne : (l.filter p).length ≠ (l.filter q).length := fun e => by
    have := filt_eq h l e x hx h1
    rw [h2] at this
    cases this
  omega
def missing (n : Nat) (pm : Nat → Option Int) : List Nat := (List.range n).filter fun k => !(pm k).isSome
theorem mem_missing {n k : Nat} {pm : Nat → Option Int} : k ∈ missing n pm ↔ k < n ∧ pm k = none := by
  unfold missing
  rw [List.mem_filter, List.mem_range]
  cases pm k <;> simp
def av (pm : Nat → Option Int) (k : Nat) (b : BR) : Bool := decide (b.to = k) && (!b.th.isEmpty || (pm b.one).isSome)
theorem av_to {pm : Nat → Option Int} {k : Nat} (b : BR) (h : av pm k b = true) : decide (b.to = k) = true := by
  unfold av at h
  rw [Bool.and_eq_true] at h
  exact h.1
theorem av_all {cur : List BR} {pm : Nat → Option Int} {k : Nat} (h : ∀ b ∈ cur, b.to = k → b.th = [] → (pm b.one).isSome = true) : cur.filter (av pm k) = cur.filter fun b => decide (b.to = k) := by
  refine List.filter_congr fun b hb => ?_
  unfold av
  by_cases e : b.to = k
  · rw [decide_eq_true e, Bool.true_and]
    cases z : b.th with
    | nil => rw [h b hb e z]; rfl
    | cons x l => rfl
  · rw [decide_eq_false e, Bool.false_and]
theorem av_len {cur : List BR} {pm : Nat → Option Int} {k : Nat} (h : (cur.filter (av pm k)).length = (cur.filter fun b => decide (b.to = k)).length) : ∀ b ∈ cur, b.to = k → b.th = [] → (pm b.one).isSome = true := fun b hb e z => by
  have := filt_eq av_to cur h b hb (decide_eq_true e)
  unfold av at this
  rw [z, Bool.and_eq_true] at this
  simpa using this.2
theorem filt_to {cur : List BR} {k : Nat} : (cur.filter fun b => decide (b.to = k)).length = (cur.map BR.to).count k := by
  rw [← takes_len (f := fun _ => 0)]
  unfold takes
  rw [List.length_map]
theorem head_first {ms : List (List Int)} {b : BR} (f : Nat → Int) (h : ms.length < b.th.length) : b.th[ms.length]? = some (valB f (standB ms b)) := by
  rw [stand_head f (fun z => by rw [z] at h; exact absurd h (Nat.not_lt_zero _)), List.getD_eq_getElem?_getD, List.getElem?_append_left h, List.getElem?_eq_getElem h]
  rfl
theorem head_later {ms : List (List Int)} {b : BR} (f : Nat → Int) {m : List Int} (h1 : b.th ≠ []) (h2 : b.th.length ≤ ms.length) (hm : ms[ms.length - b.th.length]? = some m) : valB f (standB ms b) = gD m b.one := by
  rw [stand_head f h1, List.getD_eq_getElem?_getD, List.getElem?_append_right h2, List.getElem?_map, hm]
  rfl
abbrev sgW (r a ha ba fo : Addr) (v5 v6 v7 v8 v9 v10 v11 v12 v13 v14 : Option V) : L2.St := [some (.ref r), some (.ref a), some (.ref ha), some (.ref ba), some (.ref fo), v5, v6, v7, v8, v9, v10, v11, v12, v13, v14]
/-- what stands within one bell of the law's reckoning -/
structure LW (hs : List HR) (cur : List BR) (ins : List Int) (d : Addr) (H0 H : Hp) (kvs : List (Key × V)) (pm : Nat → Option Int) : Prop where
  at_ : H d = some (.dK kvs)
  dm : DM kvs pm
  part : Part hs cur ins pm
  door : ∀ (k : Nat) (h : HR), hs[k]? = some h → h.wd = "in" → (pm k).isSome = true
  same : Same H0 H
theorem LW.go {hs : List HR} {cur : List BR} {ins : List Int} {d : Addr} {H0 H H' : Hp} {kvs : List (Key × V)} {pm : Nat → Option Int} (l : LW hs cur ins d H0 H kvs pm) (s : Same H H') : LW hs cur ins d H0 H' kvs pm := { l with at_ := s _ _ l.at_, same := l.same.trans s }
section
variable {P : Program} {w : World} {K : PySem.W.Frag} {mg : Str → Option Value} {base : Heap}
def sp_law_worked (K : PySem.W.Frag) : Sp := fun vs H Q _ => ∃ (r a : Addr) (hs : List HR) (bs : List BR) (rows : List (List Int)), vs = [.ref r, .ref a] ∧ RoomAt H r hs bs ∧ RoomOk hs bs ∧ RowsAt H a rows ∧ (∀ x ∈ rows, x.length = (doorsOf "in" hs).length) ∧ rows.length ≤ 100 ∧
  ∀ (p : Addr) (ov : List V) (ms : List (List Int)) (H' : Hp), H p = none → H' p = some (.lst ov) → All2 (RowAt H') ov ms → WS hs bs rows ms → Same H H' → Q (.ref p) H'
theorem ok_law_worked {f : Addr} {fd : FuncData} (F : Fun K "_law_worked" "_law_worked" s_law_worked f fd) (T : Top K mg) : FnOk P w K mg base CX0 2 f fd ["_law_room_here", "_law_rows_here"] (sp_law_worked K) := by
  obtain ⟨f_law_needs, fd_law_needs, F_law_needs, b_law_needs, m_law_needs⟩ := T.d_law_needs
  have G_law_needs := ok_law_needs (P := P) (w := w) (base := base) F_law_needs T
  obtain ⟨f_law_made_by, fd_law_made_by, F_law_made_by, b_law_made_by, m_law_made_by⟩ := T.d_law_made_by
  have G_law_made_by := ok_law_made_by (P := P) (w := w) (base := base) F_law_made_by T
  refine F.ok sc_law_worked (fun vs H Q E h => ?_) (fun cdv A outer s H vs Q E hr h => ?_)
  · obtain ⟨r, a, hs, bs, rows, rfl, _⟩ := h
    rfl
  obtain ⟨r, a, hs, bs, rows, rfl, hR, ok, ⟨rv, hrv, alr⟩, hw, lr, q⟩ := h
  obtain ⟨ha, ba, hv, bv, er, eh, eb, alh, alb⟩ := hR.ex
  have lh := ok.hands
  have lb := ok.many
  have lrv := alr.length
  have lhv := alh.length
  have lbv := alb.length
  have ldl := doors_len (z := "in") (hs := hs)
  obtain ⟨rk, hrk⟩ := ok.rk
  refine ⟨_, (pss_cons (ps_asg (pv 0) (pg_tupK K rfl rfl (pgs_cons (pg_name (i := 2) sc_law_worked.nd rfl (Or.inr rfl)) (pgs_cons (pg_name (i := 3) sc_law_worked.nd rfl (Or.inl rfl)) pgs_nil))))
      (pss_cons (ps_set (i := 4) sc_law_worked.nd rfl (Or.inl rfl) (pe_lst pa_nil))
      (pss_cons (ps_for PassesOwn.never rfl (pi_or (pi_enum (by rfl) T.m_enumerate (pa_cons (pv 1) pa_nil)) (pi_enumT K rfl (by rfl) T.m_enumerate (pa_cons (pv 1) pa_nil))) (pg_tupK K rfl rfl (pgs_cons (pg_name (i := 5) sc_law_worked.nd rfl (Or.inl rfl)) (pgs_cons (pg_name (i := 6) sc_law_worked.nd rfl (Or.inl rfl)) pgs_nil)))
        (pss_cons (ps_setLc (i := 7) (own := [("_law_k", 8)]) (g := gName 8) (by rfl) sc_law_worked.nd rfl rfl (sw_true rfl rfl rfl (by decide +kernel)) (pi_range1 (by rfl) T.m_range (pa_cons (pe_callB (call_len_seqK K rfl) (by rfl) T.m_len (by decide +kernel) (pa_cons (pv 2) pa_nil)) pa_nil)) (blkOk_by (own := [("_law_k", 8)]) (N := N_law_worked) (sc := defScope s_law_worked) (by decide +kernel)) (fun _ _ _ _ _ => (pg_name (i := 8) sc_law_worked.nd rfl (Or.inl rfl))) (fun _ _ _ _ _ => pts_one (pt_cmpR (op_eqDK K rfl hr.units) (pe_ix (ix_tupK K rfl) (pe_ix (ix_tupK K rfl) (pv 2) (pv 8) (fun _ _ => rfl)) pe_int (fun _ _ => rfl)) (pe_tup (pa_cons pe_str pa_nil)) (nomark _))) (fun _ _ _ _ _ => (pv 8)))
      (pss_cons (ps_set (i := 9) sc_law_worked.nd rfl (Or.inr rfl) (pe_dictZip K rfl rfl (by rfl) T.m_dict (by rfl) T.m_zip (pa_cons (pv 7) (pa_cons (pv 6) pa_nil))))
      (pss_cons (ps_for PassesOwn.never rfl (pi_range1 (by rfl) T.m_range (pa_cons (pe_callB (call_len_seqK K rfl) (by rfl) T.m_len (by decide +kernel) (pa_cons (pv 2) pa_nil)) pa_nil)) (pg_name (i := 10) sc_law_worked.nd rfl (Or.inl rfl))
        (pss_one (ps_for PassesOwn.never rfl (pi_range1 (by rfl) T.m_range (pa_cons (pe_callB (call_len_seqK K rfl) (by rfl) T.m_len (by decide +kernel) (pa_cons (pv 2) pa_nil)) pa_nil)) (pg_name (i := 8) sc_law_worked.nd rfl (Or.inl rfl))
        (pss_cons (ps_if (pt_cmp (pc_din (hu_of hr) (pv 8) (pv 9)) (by with_unfolding_all rfl)) (pss_one ps_continue) pss_nil)
      (pss_cons (ps_set (i := 11) sc_law_worked.nd rfl (Or.inl rfl) (pe_lst pa_nil))
      (pss_cons (ps_for PassesOwn.never rfl (pi_tupK K rfl (pv 3)) (pg_tupK K rfl rfl (pgs_cons (pg_name (i := 12) sc_law_worked.nd rfl (Or.inl rfl)) (pgs_cons (pg_name (i := 13) sc_law_worked.nd rfl (Or.inl rfl)) (pgs_cons (pg_name (i := 14) sc_law_worked.nd rfl (Or.inl rfl)) pgs_nil))))
        (pss_one (ps_if (PW.pt (pw_and (pt_cmpR op_eq (pv 13) (pv 8) (nomark _)) (pw_and1 (pt_cmpR op_lt (pv 5) (pe_callB (call_len_seqK K rfl) (by rfl) T.m_len (by decide +kernel) (pa_cons (pv 14) pa_nil)) (nomark _))))) (pss_one (ps_expr (pe_bmK K rfl PySem.F.plainAttrs_list PySem.F.slot_list_append PySem.F.type_list_append mt_append (pv 11) (pa_cons (pe_ix (ix_tupK K rfl) (pv 14) (pv 5) (fun _ _ => rfl)) pa_nil)))) (pss_one (ps_if (PW.pt (pw_and (pt_cmpR op_eq (pv 13) (pv 8) (nomark _)) (pw_and1 (pt_cmpR op_gt (pe_callB (call_len_seqK K rfl) (by rfl) T.m_len (by decide +kernel) (pa_cons (pv 14) pa_nil)) pe_int (nomark _))))) (pss_one (ps_expr (pe_bmK K rfl PySem.F.plainAttrs_list PySem.F.slot_list_append PySem.F.type_list_append mt_append (pv 11) (pa_cons (pe_ix (ix_tupK K rfl) (pe_ix (ix_listK K rfl) (pv 4) (pe_op op_sub (pv 5) (pe_callB (call_len_seqK K rfl) (by rfl) T.m_len (by decide +kernel) (pa_cons (pv 14) pa_nil))) (fun _ _ => rfl)) (pv 12) (fun _ _ => rfl)) pa_nil)))) (pss_one (ps_if (PW.pt (pw_and (pt_cmpR op_eq (pv 13) (pv 8) (nomark _)) (pw_and1 (pt_cmp (pc_din (hu_of hr) (pv 12) (pv 9)) (by with_unfolding_all rfl))))) (pss_one (ps_expr (pe_bmK K rfl PySem.F.plainAttrs_list PySem.F.slot_list_append PySem.F.type_list_append mt_append (pv 11) (pa_cons (pe_dget (hu_of hr) (pv 9) (pv 12) (fun _ _ => rfl)) pa_nil)))) pss_nil)))))))
      (pss_one (ps_if (pt_cmpR op_eq (pe_callB (call_len_seqK K rfl) (by rfl) T.m_len (by decide +kernel) (pa_cons (pv 11) pa_nil)) (pe_call G_law_needs (hr.mono (by decide)) (by rfl) m_law_needs F_law_needs.kp b_law_needs .nil pass0 (pa_cons (pe_ix (ix_tupK K rfl) (pe_ix (ix_tupK K rfl) (pv 2) (pv 8) (fun _ _ => rfl)) pe_int (fun _ _ => rfl)) pa_nil)) (nomark _)) (pss_one (ps_dput (hu_of hr) (pv 9) (pv 8) (pe_call G_law_made_by (hr.mono (by decide)) (by rfl) m_law_made_by F_law_made_by.kp b_law_made_by .nil pass0 (pa_cons (pe_ix (ix_tupK K rfl) (pe_ix (ix_tupK K rfl) (pv 2) (pv 8) (fun _ _ => rfl)) pe_int (fun _ _ => rfl)) (pa_cons (pv 11) pa_nil))) (by rfl))) pss_nil))))))))
      (pss_one (ps_expr (pe_bmK K rfl PySem.F.plainAttrs_list PySem.F.slot_list_append PySem.F.type_list_append mt_append (pv 4) (pa_cons (pe_callTy (call_tuple_ofK K rfl) (by rfl) T.m_tuple (by decide +kernel) (pa_cons (pe_lc (own := [("_law_k", 8)]) (g := gName 8) (tt := tYes) (by rfl) sc_law_worked.nd (pi_range1 (by rfl) T.m_range (pa_cons (pe_callB (call_len_seqK K rfl) (by rfl) T.m_len (by decide +kernel) (pa_cons (pv 2) pa_nil)) pa_nil)) (blkOk_by (own := [("_law_k", 8)]) (N := N_law_worked) (sc := defScope s_law_worked) (by decide +kernel)) (fun _ _ _ _ _ => (pg_name (i := 8) sc_law_worked.nd rfl (Or.inl rfl))) (fun _ _ _ _ _ => pts_nil) (fun _ _ _ _ _ => (pe_dget (hu_of hr) (pv 9) (pv 8) (fun _ _ => rfl)))) pa_nil)) pa_nil))))))))
      (pss_one (ps_ret (pv 4)))))), ?_⟩
  refine ⟨_, rfl, r, _, rfl, SqT.of er, rfl, _, _, rfl, _, _, rfl, rfl, (by show 0 ≤ sizeLine; decide), fun fo nfo => ?_⟩
  have s1 : Same H (upd H fo (.lst [])) := same_new nfo
  refine or_enum (a := a) (xs := rv) (fun Q q => ⟨_, rfl, q⟩) (hrv.imp (s1 _ _) (s1 _ _)) (fun J gj sj yj => for_it (J := J) (n := rv.length) (fun t σ H2 => ∃ (fv : List V) (ms : List (List Int)) (v5 v6 v7 v8 v9 v10 v11 v12 v13 v14 : Option V), σ = sgW r a ha ba fo v5 v6 v7 v8 v9 v10 v11 v12 v13 v14 ∧ H2 fo = some (.lst fv) ∧ All2 (RowAt H2) fv ms ∧ WS hs bs (rows.take t) ms ∧ Same H H2)
    ⟨[], [], none, none, none, none, none, none, none, none, none, none, rfl, upd_same, .nil, WS.nil, s1⟩ ?_ ?_ ?_ ?_)
  · rintro t σ H2 ht ⟨fv, ms, v5, v6, v7, v8, v9, v10, v11, v12, v13, v14, rfl, hfo, alf, ws, s2⟩
    exact gj t H2 ((either_stays s2 hrv).trans (either_stays s1 hrv).symm) ht
  · rintro σ H2 ⟨fv, ms, v5, v6, v7, v8, v9, v10, v11, v12, v13, v14, rfl, hfo, alf, ws, s2⟩
    exact sj H2 ((either_stays s2 hrv).trans (either_stays s1 hrv).symm)
  · rintro t x σ H2 H3 htl ⟨fv, ms, v5, v6, v7, v8, v9, v10, v11, v12, v13, v14, rfl, hfo, alf, ws, s2⟩ y
    obtain ⟨tt, x, rfl, ntt, rfl, ex⟩ := yj t H2 x H3 ((either_stays s2 hrv).trans (either_stays s1 hrv).symm) y
    obtain ⟨row, er2, ⟨tr, rfl, htr⟩⟩ := alr.getL ex
    have lms : ms.length = t := by
      have := ws.len
      rw [List.length_take] at this
      omega
    have lrow := hw row (List.mem_of_getElem? er2)
    have mrow := ws.row
    have s3 := s2.trans (same_new (o := .tup [nV t, V.ref tr]) ntt)
    have hfo3 := same_new (o := .tup [nV t, V.ref tr]) ntt _ _ hfo
    refine ⟨tt, _, rfl, SqT.of upd_same, rfl, _, _, rfl, _, _, rfl, rfl, ?_⟩
    -- the in doors
    refine ⟨_, rfl, ha, _, rfl, .inr (SqT.of (s3 _ _ eh)), _, rfl, by omega, by omega, fun D nD => lc_range (lo := 0) (n := hv.length) (fun i H5 => H5 D = some (.lst (((List.range i).filter fun j => decide (hs[j]?.map HR.wd = some ("in" : Str))).map nV)) ∧ Same (upd H2 tt (.tup [nV t, V.ref tr])) H5) ⟨upd_same, same_new nD⟩ ?_ ?_⟩
    · rintro i H5 hi ⟨hD, s5⟩
      have eh1 : hs[i]? = some hs[i] := List.getElem?_eq_getElem (by omega)
      obtain ⟨x, ex, ⟨t1, g, rfl, e1, e2⟩⟩ := alh.get eh1
      have gh := ok.good _ (List.mem_of_getElem? eh1)
      have few := filt_len (p := fun j => decide (hs[j]?.map HR.wd = some ("in" : Str))) i
      have s4 := s3.trans s5
      refine ⟨rfl, _, rfl, _, rfl, ha, _, _, _, rfl, rfl, SqT.of (s4 _ _ eh), at0 ex, t1, _, _, _, rfl, rfl, SqT.of (s4 _ _ e1), atI_nat (j := 0) rfl, (by show 1 ≤ sizeLine; decide), fun o1 no1 => ?_⟩
      have s6 := s5.trans (same_new (o := .tup [V.str "in"]) no1)
      have hD6 := same_new (o := .tup [V.str "in"]) no1 _ _ hD
      refine ⟨_, _, rule_dp ((s3.trans s6) _ _ e2), .tup (SqT.of upd_same) (.cons (.str _) .nil), rule_shaped gh.lay, one_shaped (by decide +kernel), _, rfl, ?_⟩
      rw [rule_eqv, gh.door "in" (.inl rfl)]
      by_cases c : hs[i].wd = "in"
      · rw [decide_eq_true c]
        refine if_bl (fun _ => ⟨_, rfl, _, hD6, by rw [List.length_map]; exact small1000 (by omega), ?_, Same.own s6 nD⟩) (fun z => nomatch z)
        rw [upd_same, filt_succ, if_pos (decide_eq_true (by rw [eh1, ← c]; rfl)), List.map_append, Int.zero_add]
        rfl
      · rw [decide_eq_false c]
        refine if_bl (fun z => nomatch z) (fun _ => ⟨?_, s6⟩)
        rw [filt_succ, if_neg fun z => c (by have := of_decide_eq_true z; rw [eh1] at this; exact Option.some.inj this), List.append_nil]
        exact hD6
    · rintro H4 ⟨hD, s4⟩
      have hD : H4 D = some (.lst ((doorsOf "in" hs).map nV)) := by rw [hD, lhv]; rfl
      have s5 := s3.trans s4
      refine ⟨_, rfl, _, rfl, D, tr, (doorsOf "in" hs).map kN, row.map V.int, rfl, SqL.of (by rw [hD, List.map_map]; rfl), SqT.of (s5 _ _ htr), fun d nd => ?_⟩
      obtain ⟨cur, hcur⟩ : ∃ cur, cur = stand bs ms := ⟨_, rfl⟩
      have bok : BellOk hs cur := by rw [hcur]; exact ok.bell ms
      have crk : ∀ p ∈ looseOf cur, rk p.1 < rk p.2 := by rw [hcur, loose_stand]; exact hrk
      have len0 : (mergeK [] (((doorsOf "in" hs).map kN).zip (row.map V.int))).length ≤ 12 := by
        refine Nat.le_trans (length_mergeK _ []) ?_
        rw [List.length_zip, List.length_map, List.length_map, List.length_nil]
        omega
      have miss0 : ∀ pm, (missing hs.length pm).length ≤ hs.length := fun pm => filt_len _
      have lw0 : LW hs cur row d H4 (upd H4 d (.dK (mergeK [] (((doorsOf "in" hs).map kN).zip (row.map V.int))))) _ (doorM hs row) := ⟨upd_same, doorM_dm lrow, doorM_part, fun k h e w => doorM_all lrow e w, same_new nd⟩
      -- the rounds
      refine ⟨_, rfl, ha, _, rfl, .inr (SqT.of (lw0.same _ _ (s5 _ _ eh))), _, rfl, by omega, by omega, for_range (lo := 0) (n := hv.length) (fun i σ H5 => ∃ (w8 w10 w11 w12 w13 w14 : Option V) (kvs : List (Key × V)) (pm : Nat → Option Int), σ = sgW r a ha ba fo (some (nV t)) (some (.ref tr)) (some (.ref D)) w8 (some (.ref d)) w10 w11 w12 w13 w14 ∧ LW hs cur row d H4 H5 kvs pm ∧ kvs.length ≤ 12 + 12 * i ∧ (missing hs.length pm).length + i ≤ hs.length)
        ⟨_, _, _, _, _, _, _, _, rfl, lw0, len0, by have := miss0 (doorM hs row); omega⟩ ?_ ?_⟩
      · rintro i σ H5 hi ⟨w8, w10, w11, w12, w13, w14, kvs, pm, rfl, lw, lk, lm⟩
        have lw6 := lw
        obtain ⟨ll, hll⟩ : ∃ ll, ll = missing hs.length pm := ⟨_, rfl⟩
        have lll : ll.length ≤ 12 := by rw [hll]; have := miss0 pm; omega
        have ndl : ll.Nodup := by rw [hll]; exact List.nodup_range.filter _
        have mll : ∀ k ∈ ll, k < hs.length ∧ pm k = none := fun k hk => mem_missing.mp (by rw [← hll]; exact hk)
        have nll : ∀ k, k < hs.length → k ∉ ll → (pm k).isSome = true := fun k hk hn => by
          cases e : pm k with
          | none => exact absurd (by rw [hll]; exact mem_missing.mpr ⟨hk, e⟩) hn
          | some v => rfl
        -- each of them
        refine ⟨_, rfl, ha, _, rfl, .inr (SqT.of (lw.same _ _ (s5 _ _ eh))), _, rfl, by omega, by omega, for_range (lo := 0) (n := hv.length) (fun j σ H7 => ∃ (w8 w11 w12 w13 w14 : Option V) (kvs' : List (Key × V)) (pm' : Nat → Option Int), σ = sgW r a ha ba fo (some (nV t)) (some (.ref tr)) (some (.ref D)) w8 (some (.ref d)) (some (.int (0 + ((i : Nat) : Int)))) w11 w12 w13 w14 ∧ LW hs cur row d H4 H7 kvs' pm' ∧ kvs'.length ≤ 12 + 12 * i + j ∧ (∀ k, (pm k).isSome = true → pm' k = pm k) ∧ (∀ k, j ≤ k → pm' k = pm k) ∧ (∀ k ∈ ll, k < j → free (looseOf cur) ll k → (pm' k).isSome = true))
          ⟨_, _, _, _, _, kvs, pm, rfl, lw6, by omega, fun _ _ => rfl, fun k hk => rfl, fun k hk hj => absurd hj (Nat.not_lt_zero _)⟩ ?_ ?_⟩
        · rintro k σ H7 kv ⟨u8, u11, u12, u13, u14, kvs', pm', rfl, lw7, lk7, ext, rest, done⟩
          show tIfS _ _ _ _ (sgW r a ha ba fo (some (nV t)) (some (.ref tr)) (some (.ref D)) (some (.int (0 + ((k : Nat) : Int)))) (some (.ref d)) (some (.int (0 + ((i : Nat) : Int)))) u11 u12 u13 u14) H7
          rw [Int.zero_add (k : Int)]
          have kn : k < hs.length := by omega
          refine ⟨_, rfl, _, rfl, d, _, rfl, dget_of lw7.at_ (lw7.dm k), _, rfl, if_bl (fun c => ?_) (fun c => ?_)⟩
          · rw [Option.isSome_map] at c
            refine ⟨_, _, _, _, _, kvs', pm', rfl, lw7, by omega, ext, fun j hj => rest j (by omega), fun j hj jk fr => ?_⟩
            by_cases e : j = k
            · rw [e]; exact c
            · exact done j hj (by omega) fr
          rw [Option.isSome_map] at c
          have new : pm' k = none := by
            cases e : pm' k with
            | none => rfl
            | some v => rw [e] at c; cases c
          have kz : pm k = none := by rw [← rest k (Nat.le_refl _)]; exact new
          have eh2 : hs[k]? = some hs[k] := List.getElem?_eq_getElem kn
          have win : hs[k].wd ≠ "in" := fun z => by
            have := lw7.door k _ eh2 z
            rw [new] at this
            cases this
          have gk := ok.good _ (List.mem_of_getElem? eh2)
          have isfree : free (looseOf cur) ll k → ∀ b ∈ cur, b.to = k → b.th = [] → (pm' b.one).isSome = true := fun fr b b1 b2 b3 => by
            have e := nll b.one (bok.ends b b1).1 (fr _ (mem_loose b1 b3) b2)
            rw [ext _ e]
            exact e
          refine ⟨(by show 0 ≤ sizeLine; decide), fun tl ntl => ?_⟩
          have lw8 := lw7.go (same_new (o := .lst []) ntl)
          have hba := s5 _ _ eb
          obtain ⟨f, hf⟩ : ∃ f : Nat → Int, f = fun j => (pm' j).getD 0 := ⟨_, rfl⟩
          -- what is there for it
          refine ⟨_, rfl, ba, rfl, ⟨_, SqT.of (lw8.same _ _ hba)⟩, for_tup (K := K) (a := ba) (xs := bv) (fun m σ H8 => ∃ (z11 z13 z14 : Option V), σ = sgW r a ha ba fo (some (nV t)) (some (.ref tr)) (some (.ref D)) (some (nV k)) (some (.ref d)) (some (.int (0 + ((i : Nat) : Int)))) (some (.ref tl)) z11 z13 z14 ∧ H8 tl = some (.lst ((((cur.take m).filter (av pm' k)).map (valB f)).map V.int)) ∧ Same H7 H8)
            ⟨_, _, _, rfl, upd_same, same_new ntl⟩ (fun m σ H8 _ ⟨_, _, _, _, _, s8⟩ => SqT.of (s8 _ _ (lw7.same _ _ hba))) ?_ ?_⟩
          · rintro m x σ H8 hx ⟨z11, z13, z14, rfl, hth, s8⟩
            obtain ⟨b, eb2, ⟨t1, g1, rfl, e1, e2⟩⟩ := alb.getL hx
            have ml := (List.getElem?_eq_some_iff.mp eb2).1
            have ec : cur[m]? = some (standB ms b) := by rw [hcur, List.getElem?_map, eb2]; rfl
            have s9 := (s5.trans lw7.same).trans s8
            have few : (((cur.take m).filter (av pm' k)).map (valB f)).length ≤ 20 := by
              rw [List.length_map]
              refine Nat.le_trans (List.length_filter_le ..) ?_
              rw [List.length_take]
              have := bok.belts
              omega
            have step : ∀ v : Int, av pm' k (standB ms b) = true → v = valB f (standB ms b) → (upd H8 tl (.lst ((((cur.take m).filter (av pm' k)).map (valB f)).map V.int ++ [V.int v]))) tl = some (.lst ((((cur.take (m + 1)).filter (av pm' k)).map (valB f)).map V.int)) := fun v h1 h2 => by
              rw [upd_same, List.take_add_one, ec, List.filter_append, List.map_append, List.map_append, h2]
              simp [h1]
            have stay : av pm' k (standB ms b) = false → H8 tl = some (.lst ((((cur.take (m + 1)).filter (av pm' k)).map (valB f)).map V.int)) := fun h1 => by
              rw [hth, List.take_add_one, ec, List.filter_append, List.map_append, List.map_append]
              simp [h1]
            have avto : b.to ≠ k → av pm' k (standB ms b) = false := fun z => by
              unfold av
              rw [stand_to, decide_eq_false z, Bool.false_and]
            have avth : b.to = k → b.th ≠ [] → av pm' k (standB ms b) = true := fun z1 z2 => by
              unfold av
              rw [stand_to, decide_eq_true z1, Bool.true_and]
              have : (standB ms b).th ≠ [] := fun z => z2 ((stand_th ms b).mp z)
              cases e : (standB ms b).th with
              | nil => exact absurd e this
              | cons x l => rfl
            have avno : b.to = k → b.th = [] → av pm' k (standB ms b) = (pm' b.one).isSome := fun z1 z2 => by
              unfold av
              rw [stand_to, decide_eq_true z1, Bool.true_and, (stand_th ms b).mpr z2, stand_one]
              rfl
            have own : ∀ {ys : List V}, Same H7 (upd H8 tl (.lst ys)) := Same.own s8 ntl
            refine ⟨t1, _, rfl, SqT.of (s9 _ _ e1), rfl, _, _, rfl, _, _, rfl, _, _, rfl, rfl, ?_⟩
            have sz : ((((cur.take m).filter (av pm' k)).map (valB f)).map V.int).length < sizeLine := by rw [List.length_map]; exact small1000 (by omega)
            refine ⟨_, rfl, _, rfl, rfl, _, rfl, if_bl (fun c => ?_) (fun c => ?_)⟩
            · have c : b.to = k := by have := V.int.inj (of_decide_eq_true c); omega
              refine ⟨_, rfl, _, rfl, g1, _, rfl, .inr (SqT.of (s9 _ _ e2)), _, _, rfl, rfl, _, rfl, if_bl (fun c2 => ?_) (fun c2 => ?_)⟩
              · have c2 : ms.length < b.th.length := by
                  have := of_decide_eq_true c2
                  rw [List.length_map] at this
                  omega
                refine ⟨_, rfl, .inl ⟨rfl, _, SqL.of hth⟩, _, rfl, _, rfl, g1, _, _, _, rfl, rfl, SqT.of (s9 _ _ e2), atI_nat (j := t) (by rw [← lms, List.getElem?_map, head_first f c2]; rfl), tl, _, _, rfl, rfl, hth, sz, ?_⟩
                exact ⟨_, _, _, rfl, step _ (avth c fun z => by rw [z] at c2; exact absurd c2 (Nat.not_lt_zero _)) rfl, own⟩
              have c2 : b.th.length ≤ ms.length := by
                have := of_decide_eq_false c2
                rw [List.length_map] at this
                omega
              refine ⟨_, rfl, _, rfl, rfl, _, rfl, if_bl (fun _ => ?_) (fun z => absurd (show V.int ((b.to : Nat) : Int) = V.int ((k : Nat) : Int) by rw [c]) (of_decide_eq_false z))⟩
              refine ⟨_, rfl, g1, _, rfl, .inr (SqT.of (s9 _ _ e2)), _, _, rfl, rfl, _, rfl, if_bl (fun c3 => ?_) (fun c3 => ?_)⟩
              · have c3 : b.th ≠ [] := fun z => by
                  have := of_decide_eq_true c3
                  rw [z] at this
                  exact absurd this (by decide)
                have pos := List.length_pos_iff.mpr c3
                have em : ms[ms.length - b.th.length]? = some (ms[ms.length - b.th.length]'(by omega)) := List.getElem?_eq_getElem _
                obtain ⟨mm, hmm⟩ : ∃ mm, mm = ms[ms.length - b.th.length]'(by omega) := ⟨_, rfl⟩
                rw [← hmm] at em
                obtain ⟨vm, evm, ⟨tm, rfl, htm⟩⟩ := alf.get em
                have lmm := mrow mm (List.mem_of_getElem? em)
                have s10 := ((same_new (o := .tup [nV t, V.ref tr]) ntt).trans (s4.trans lw7.same)).trans s8
                refine ⟨_, rfl, .inl ⟨rfl, _, SqL.of hth⟩, _, rfl, _, rfl, _, rfl, g1, _, rfl, .inr (SqT.of (s9 _ _ e2)), _, _, rfl, rfl, fo, fv, _, _, rfl, rfl, SqL.of (s10 _ _ hfo), ?_, _, rfl, tm, _, _, _, rfl, rfl, SqT.of (s10 _ _ htm), at_row (k := b.one) (by have := (ok.ends b (List.mem_of_getElem? eb2)).1; omega), tl, _, _, rfl, rfl, hth, sz, ?_⟩
                · rw [List.length_map, show ((t : Nat) : Int) - ((b.th.length : Nat) : Int) = ((ms.length - b.th.length : Nat) : Int) by omega]
                  exact atI_nat evm
                · exact ⟨_, _, _, rfl, step _ (avth c c3) (head_later f c3 c2 em).symm, own⟩
              have c3 : b.th = [] := by
                cases e : b.th with
                | nil => rfl
                | cons x l =>
                  have := of_decide_eq_false c3
                  rw [e] at this
                  exact absurd (by show (0 : Int) < (((x :: l).map V.int).length : Nat); simp) this
              have an := avno c c3
              refine ⟨_, rfl, _, rfl, rfl, _, rfl, if_bl (fun _ => ?_) (fun z => absurd (show V.int ((b.to : Nat) : Int) = V.int ((k : Nat) : Int) by rw [c]) (of_decide_eq_false z))⟩
              have lw9 := lw7.go s8
              refine ⟨_, rfl, _, rfl, d, _, rfl, dget_of lw9.at_ (lw9.dm b.one), _, rfl, if_bl (fun c4 => ?_) (fun c4 => ?_)⟩
              · rw [Option.isSome_map] at c4
                obtain ⟨v, hv2⟩ := Option.isSome_iff_exists.mp c4
                refine ⟨_, rfl, .inl ⟨rfl, _, SqL.of hth⟩, _, rfl, _, rfl, d, .int v, rfl, dget_of lw9.at_ (by rw [lw9.dm, hv2]; rfl), tl, _, _, rfl, rfl, hth, sz, ?_⟩
                refine ⟨_, _, _, rfl, step _ (by rw [an]; exact c4) ?_, own⟩
                rw [valB_nil ((stand_th ms b).mpr c3), stand_one, hf]
                show v = (pm' b.one).getD 0
                rw [hv2]
                rfl
              · rw [Option.isSome_map] at c4
                exact ⟨_, _, _, rfl, stay (by rw [an]; exact c4), s8⟩
            · have c : b.to ≠ k := fun z => of_decide_eq_false c (by rw [z])
              have cf : ¬ (V.int ((b.to : Nat) : Int) = V.int ((k : Nat) : Int)) := fun z => c (by have := V.int.inj z; omega)
              refine ⟨_, rfl, _, rfl, rfl, _, rfl, if_bl (fun z => absurd (of_decide_eq_true z) cf) (fun _ => ?_)⟩
              refine ⟨_, rfl, _, rfl, rfl, _, rfl, if_bl (fun z => absurd (of_decide_eq_true z) cf) (fun _ => ?_)⟩
              exact ⟨_, _, _, rfl, stay (avto c), s8⟩
          · rintro σ H8 ⟨z11, z13, z14, rfl, hth, s8⟩
            rw [lbv, List.take_of_length_le (by rw [hcur, List.length_map]; exact Nat.le_refl _)] at hth
            have lw8 := lw7.go s8
            have s9 := s5.trans lw8.same
            obtain ⟨xs, hxs⟩ : ∃ xs, xs = (cur.filter (av pm' k)).map (valB f) := ⟨_, rfl⟩
            rw [← hxs] at hth
            obtain ⟨v, ev, ⟨tk, rk2, rfl, h1, h2⟩⟩ := alh.get eh2
            have lxs : xs.length = (cur.filter (av pm' k)).length := by rw [hxs, List.length_map]
            have cnt := bok.count k _ eh2
            rw [← filt_to] at cnt
            refine ⟨_, rfl, tl, _, rfl, .inl (SqL.of hth), _, rfl, _, rfl, ha, _, _, _, rfl, rfl, SqT.of (s9 _ _ eh), atI_nat ev, tk, _, _, _, rfl, rfl, SqT.of (s9 _ _ h1), atI_nat (j := 0) rfl, rk2, hs[k].wd, _, rfl, SqT.of (s9 _ _ h2), fun H9 s10 => ⟨rfl, _, rfl, if_bl (fun c => ?_) (fun c => ?_)⟩⟩
            · have c : ((xs.length : Nat) : Int) = needs hs[k].wd := by
                have := V.int.inj (of_decide_eq_true c)
                rw [List.length_map] at this
                exact this
              have there := av_len (cur := cur) (pm := pm') (k := k) (by omega)
              have ex2 : xs = takes cur f k := by
                rw [hxs, av_all there]
                rfl
              have s11 := s9.trans s10
              refine ⟨_, rfl, _, rfl, ha, _, _, _, rfl, rfl, SqT.of (s11 _ _ eh), atI_nat ev, tk, _, _, _, rfl, rfl, SqT.of (s11 _ _ h1), atI_nat (j := 0) rfl, _, rfl, rk2, tl, hs[k], xs, rfl, s11 _ _ h2, s10 _ _ hth, gk, win, c, fun H10 s12 => ?_⟩
              have lw10 := lw8.go (s10.trans s12)
              refine ⟨_, rfl, _, rfl, d, _, rfl, DPut.k (k := kN k) lw10.at_ (small1000 (by omega)), ?_⟩
              refine ⟨_, _, _, _, _, _, putM pm' k (mkR hs[k] xs), rfl, ⟨upd_same, lw10.dm.put k _, ?_, fun j h e w => ?_, Same.own lw10.same nd⟩, ?_, fun j hj => ?_, fun j hj => ?_, fun j hj jk fr => ?_⟩
              · rw [ex2, hf]
                exact lw10.part.put eh2 win new there
              · by_cases e' : j = k
                · rw [show putM pm' k (mkR hs[k] xs) j = some _ from if_pos e']; rfl
                · rw [show putM pm' k (mkR hs[k] xs) j = pm' j from if_neg e']
                  exact lw10.door j h e w
              · have := length_putK kvs' (kN k) (V.int (mkR hs[k] xs))
                exact Nat.le_trans this (by omega)
              · have e' : j ≠ k := fun z => by rw [z, kz] at hj; cases hj
                rw [show putM pm' k (mkR hs[k] xs) j = pm' j from if_neg e']
                exact ext j hj
              · have e' : j ≠ k := by omega
                rw [show putM pm' k (mkR hs[k] xs) j = pm' j from if_neg e']
                exact rest j (by omega)
              · by_cases e' : j = k
                · rw [show putM pm' k (mkR hs[k] xs) j = some _ from if_pos e']; rfl
                · rw [show putM pm' k (mkR hs[k] xs) j = pm' j from if_neg e']
                  exact done j hj (by omega) fr
            · have c : ¬ ((xs.length : Nat) : Int) = needs hs[k].wd := fun z => of_decide_eq_false c (by rw [List.length_map, z])
              have nofree : ¬ free (looseOf cur) ll k := fun fr => c (by
                have := av_all (isfree fr)
                rw [lxs, this]
                exact cnt)
              refine ⟨_, _, _, _, _, kvs', pm', rfl, lw8.go s10, by omega, ext, fun j hj => rest j (by omega), fun j hj jk fr => ?_⟩
              by_cases e : j = k
              · rw [e] at fr; exact absurd fr nofree
              · exact done j hj (by omega) fr
        · rintro σ H7 ⟨u8, u11, u12, u13, u14, kvs', pm', rfl, lw7, lk7, ext, rest, done⟩
          refine ⟨_, _, _, _, _, _, kvs', pm', rfl, lw7, by omega, ?_⟩
          have mono : ∀ k, (!(pm' k).isSome) = true → (!(pm k).isSome) = true := fun k hk => by
            cases e : (pm k).isSome with
            | false => rfl
            | true => rw [ext k e, e] at hk; cases hk
          by_cases e : ll = []
          · have le : (missing hs.length pm').length ≤ ll.length := by rw [hll]; exact filt_le mono _
            rw [e] at le
            have : (missing hs.length pm').length = 0 := Nat.le_zero.mp le
            omega
          · obtain ⟨k, hk, fr⟩ := some_free crk e
            obtain ⟨kn, kz⟩ := mll k hk
            have dk := done k hk (by omega) fr
            have : (missing hs.length pm').length < (missing hs.length pm).length := filt_lt mono (List.mem_range.mpr kn) (by rw [kz]; rfl) (by rw [dk]; rfl)
            omega
      · rintro σ H5 ⟨w8, w10, w11, w12, w13, w14, kvs, pm, rfl, lw, lk, lm⟩
        have m0 : missing hs.length pm = [] := List.eq_nil_of_length_eq_zero (by omega)
        have full : ∀ k, k < hs.length → (pm k).isSome = true := fun k hk => by
          cases e : pm k with
          | none =>
            have := mem_missing.mpr ⟨hk, e⟩
            rw [m0] at this
            cases this
          | some v => rfl
        have s6 := s5.trans lw.same
        have s7 := (same_new (o := .tup [nV t, V.ref tr]) ntt).trans (s4.trans lw.same)
        refine ⟨_, rfl, .inl ⟨rfl, _, SqL.of (s7 _ _ hfo)⟩, _, rfl, ha, _, rfl, .inr (SqT.of (s6 _ _ eh)), _, rfl, by omega, by omega, fun M nM => lc_range (lo := 0) (n := hv.length) (fun j H6 => H6 M = some (.lst ((fullM j pm).map V.int)) ∧ H6 d = some (.dK kvs) ∧ Same H5 H6) ⟨upd_same, same_new nM _ _ lw.at_, same_new nM⟩ ?_ ?_⟩
        · rintro j H6 hj ⟨hM, hd6, s8⟩
          obtain ⟨v, ev⟩ := Option.isSome_iff_exists.mp (full j (by omega))
          refine ⟨rfl, yes_in ⟨_, rfl, _, rfl, d, .int v, rfl, dget0 hd6 (by rw [lw.dm, ev]; rfl), _, hM, ?_, ?_, ?_, Same.own s8 nM⟩⟩
          · rw [List.length_map, List.length_map, List.length_range]; exact small1000 (by omega)
          · rw [upd_same]
            unfold fullM
            rw [List.range_succ, List.map_append, List.map_append]
            simp [ev]
          · rw [upd_ne (ne_of_none lw.at_ nM)]; exact hd6
        · rintro H6 ⟨hM, hd6, s8⟩
          rw [lhv] at hM
          refine ⟨M, _, rfl, .inl ⟨SqL.of hM, fun p np => ?_⟩⟩
          have s9 := (s7.trans s8).trans (same_new (o := .tup ((fullM hs.length pm).map V.int)) np)
          have hfo9 := s9 _ _ hfo
          refine ⟨fo, _, _, rfl, rfl, hfo9, by rw [alf.length, lms]; exact small1000 (by omega), ?_⟩
          refine ⟨fv ++ [V.ref p], ms ++ [fullM hs.length pm], _, _, _, _, _, _, _, _, _, _, rfl, upd_same, ?_, ?_, Same.own (s2.trans s9) nfo⟩
          · exact ((alf.imp fun _ _ z => z.keep (TK.same s9)).snoc ⟨p, rfl, upd_same⟩).imp fun _ _ z => z.keep (TK.lst hfo9)
          · rw [List.take_add_one, er2]
            have := lw.part.full full
            rw [hcur] at this
            exact ws.snoc this
  · rintro σ H2 ⟨fv, ms, v5, v6, v7, v8, v9, v10, v11, v12, v13, v14, rfl, hfo, alf, ws, s2⟩
    rw [lrv, List.take_length] at ws
    exact ⟨_, rfl, q fo fv ms H2 nfo hfo alf ws s2⟩
end
/-! ### data of known size -/
structure Neat (d : PyData) (dp wt : Nat) : Prop where
  lay : d.canLay0 = true
  dep : d.depth ≤ dp
  wei : d.weight ≤ wt
  sho : d.intsShort 13 = true
  say : d.showable = true
  nod : d.hasDict = false
structure NeatAll (ds : List PyData) (dp wt : Nat) : Prop where
  lay : PyData.canLayAll0 ds = true
  dep : PyData.depthAll ds ≤ dp
  wei : PyData.weightAll ds ≤ wt
  sho : PyData.intsShortAll 13 ds = true
  say : PyData.showableAll ds = true
  nod : PyData.hasDictAll ds = false
theorem Neat.non {dp : Nat} : Neat .none dp 0 := ⟨rfl, Nat.zero_le _, Nat.le_refl _, by simp [PyData.intsShort], by simp [PyData.showable], by simp [PyData.hasDict]⟩
theorem Neat.bool {b : Bool} {dp : Nat} : Neat (.bool b) dp 0 := ⟨rfl, Nat.zero_le _, Nat.le_refl _, by simp [PyData.intsShort], by simp [PyData.showable], by simp [PyData.hasDict]⟩
theorem Neat.int {i : Int} {dp : Nat} (h : i.natAbs < 10 ^ 12) : Neat (.int i) dp 41 := by
  have l : i.natAbs.log2 < 40 := by
    by_cases z : i.natAbs = 0
    · rw [z]; decide
    · exact (Nat.log2_lt z).mpr (Nat.lt_trans h (by decide))
  refine ⟨rfl, Nat.zero_le _, ?_, ?_, ?_, by simp [PyData.hasDict]⟩
  · simp only [PyData.weight]
    split <;> omega
  · simp only [PyData.intsShort, decide_eq_true_eq]
    exact PyData.shown_int_le h
  · simp only [PyData.showable, decide_eq_true_eq]
    omega
theorem Neat.str {x : Str} {n dp : Nat} (h : PyData.canLay0 (.str x) = true) (hn : x.cps.size ≤ n) : Neat (.str x) dp n := ⟨h, Nat.zero_le _, hn, by simp [PyData.intsShort], by simp [PyData.showable], by simp [PyData.hasDict]⟩
theorem NeatAll.nil {dp : Nat} : NeatAll [] dp 0 := ⟨rfl, Nat.zero_le _, Nat.le_refl _, by simp [PyData.intsShortAll], by simp [PyData.showableAll], by simp [PyData.hasDictAll]⟩
theorem NeatAll.cons {d : PyData} {ds : List PyData} {dp a b : Nat} (h : Neat d dp a) (t : NeatAll ds dp b) : NeatAll (d :: ds) dp (a + 1 + b) := by
  refine ⟨?_, ?_, ?_, ?_, ?_, ?_⟩
  · simp only [PyData.canLayAll0, h.lay, t.lay, Bool.and_self]
  · simp only [PyData.depthAll]
    exact Nat.max_le.mpr ⟨h.dep, t.dep⟩
  · simp only [PyData.weightAll]
    have := h.wei
    have := t.wei
    omega
  · simp only [PyData.intsShortAll, h.sho, t.sho, Bool.and_self]
  · simp only [PyData.showableAll, h.say, t.say, Bool.and_self]
  · simp only [PyData.hasDictAll, h.nod, t.nod, Bool.or_self]
theorem Neat.mono {d : PyData} {a b c e : Nat} (h : Neat d a b) (x : a ≤ c) (y : b ≤ e) : Neat d c e := ⟨h.lay, Nat.le_trans h.dep x, Nat.le_trans h.wei y, h.sho, h.say, h.nod⟩
theorem NeatAll.mono {d : List PyData} {a b c e : Nat} (h : NeatAll d a b) (x : a ≤ c) (y : b ≤ e) : NeatAll d c e := ⟨h.lay, Nat.le_trans h.dep x, Nat.le_trans h.wei y, h.sho, h.say, h.nod⟩
theorem Neat.tup {ds : List PyData} {dp n : Nat} (h : NeatAll ds dp n) : Neat (.tuple ds) (dp + 1) n := by
  refine ⟨?_, ?_, ?_, ?_, ?_, ?_⟩
  · simp only [PyData.canLay0, h.lay]
  · simp only [PyData.depth]
    have := h.dep
    omega
  · simp only [PyData.weight]
    exact h.wei
  · simp only [PyData.intsShort, h.sho]
  · simp only [PyData.showable, h.say]
  · simp only [PyData.hasDict, h.nod]
theorem Neat.lst {ds : List PyData} {dp n : Nat} (h : NeatAll ds dp n) : Neat (.list ds) (dp + 1) n := by
  refine ⟨?_, ?_, ?_, ?_, ?_, ?_⟩
  · simp only [PyData.canLay0, h.lay]
  · simp only [PyData.depth]
    have := h.dep
    omega
  · simp only [PyData.weight]
    exact h.wei
  · simp only [PyData.intsShort, h.sho]
  · simp only [PyData.showable, h.say]
  · simp only [PyData.hasDict, h.nod]
theorem NeatAll.map {α : Type} {f : α → PyData} {dp n : Nat} : ∀ {l : List α}, (∀ x ∈ l, Neat (f x) dp n) → NeatAll (l.map f) dp (l.length * (n + 1))
  | [], _ => by rw [List.length_nil, Nat.zero_mul]; exact .nil
  | x :: l, h => by
    have t : NeatAll (l.map f) dp (l.length * (n + 1)) := NeatAll.map fun y hy => h y (List.mem_cons_of_mem _ hy)
    have := NeatAll.cons (h x (List.mem_cons_self ..)) t
    refine NeatAll.mono this (Nat.le_refl _) ?_
    rw [List.length_cons, Nat.add_mul]
    omega
theorem Neat.shaped {d : PyData} {dp n : Nat} (h : Neat d dp n) (k : dp ≤ 60) : SeqAt.shaped d = true := by
  unfold SeqAt.shaped
  rw [h.lay, Bool.true_and]
  exact decide_eq_true (by have := h.dep; omega)
theorem Neat.fits {d : PyData} {dp n : Nat} (h : Neat d dp n) (k : dp ≤ 60) (m : n ≤ 1000000) : d.shown.length ≤ sizeLine := by
  refine PyData.shown_fits_of_layable0 (B := 13) (by decide) (by decide) ?_ h.sho
  have a : d.canLay0 = true := h.lay
  have b : decide (d.depth ≤ 64) = true := decide_eq_true (by have := h.dep; omega)
  have c : decide (d.weight ≤ 2 ^ 20) = true := decide_eq_true (by have := h.wei; omega)
  unfold PyData.layable0
  rw [a, b, c]
  rfl
theorem dp_ints {K : PySem.W.Frag} {H : Hp} : ∀ ns : List Int, DpAll K H (ns.map V.int) (ns.map PyData.int)
  | [] => .nil
  | n :: ns => .cons (.int n) (dp_ints ns)
theorem dp_nats {K : PySem.W.Frag} {H : Hp} : ∀ ns : List Nat, DpAll K H (ns.map nV) (ns.map fun n => PyData.int ((n : Nat) : Int))
  | [] => .nil
  | n :: ns => .cons (.int _) (dp_nats ns)
theorem eqv_nil {ds : List PyData} : PyData.eqvAll ds [] = ds.isEmpty := by cases ds <;> rfl
/-! ### a room as data -/
abbrev handD (h : HR) : PyData := .tuple [.tuple (ruleD h), .int h.mom]
abbrev beltD (b : BR) : PyData := .tuple [.int ((b.one : Nat) : Int), .int ((b.to : Nat) : Int), .tuple (b.th.map PyData.int)]
abbrev roomD (hs : List HR) (bs : List BR) : PyData := .tuple [.tuple (hs.map handD), .tuple (bs.map beltD)]
theorem hands_dp {K : PySem.W.Frag} {H : Hp} {vs : List V} {hs : List HR} (a : All2 (HandAt H) vs hs) : DpAll K H vs (hs.map handD) := by
  induction a with
  | nil => exact .nil
  | cons h t ih =>
    obtain ⟨t, r, rfl, e1, e2⟩ := h
    exact .cons (.tup (SqT.of e1) (.cons (rule_dp e2) (.cons (.int _) .nil))) ih
theorem belts_dp {K : PySem.W.Frag} {H : Hp} {vs : List V} {bs : List BR} (a : All2 (BeltAt H) vs bs) : DpAll K H vs (bs.map beltD) := by
  induction a with
  | nil => exact .nil
  | cons h t ih =>
    obtain ⟨t, r, rfl, e1, e2⟩ := h
    exact .cons (.tup (SqT.of e1) (.cons (.int _) (.cons (.int _) (.cons (.tup (SqT.of e2) (dp_ints _)) .nil)))) ih
theorem RoomAt.dp {K : PySem.W.Frag} {H : Hp} {r : Addr} {hs : List HR} {bs : List BR} (a : RoomAt H r hs bs) : Dp K H (.ref r) (roomD hs bs) := by
  obtain ⟨ha, ba, hv, bv, e1, e2, e3, a1, a2⟩ := a.ex
  exact .tup (SqT.of e1) (.cons (.tup (SqT.of e2) (hands_dp a1)) (.cons (.tup (SqT.of e3) (belts_dp a2)) .nil))
theorem GoodHand.size {h : HR} (g : GoodHand h) : h.wd.cps.size ≤ 10 := by
  have : h.wd ∈ nine ∨ h.wd = "in" ∨ h.wd = "out" := g.1.elim (fun k => .inl k.wd) (fun k => .inr k.1)
  rcases this with k | k | k
  · unfold nine at k
    simp only [List.mem_cons, List.not_mem_nil, or_false] at k
    rcases k with k | k | k | k | k | k | k | k | k <;> rw [k] <;> decide +kernel
  · rw [k]; decide +kernel
  · rw [k]; decide +kernel
theorem GoodHand.neat {h : HR} (g : GoodHand h) : Neat (handD h) 2 200 := by
  obtain ⟨wd, no, mom⟩ := h
  have r : NeatAll (ruleD ⟨wd, no, mom⟩) 0 60 := by
    cases no with
    | none => exact (NeatAll.cons (Neat.str g.lay g.size) .nil).mono (Nat.le_refl _) (by decide)
    | some n =>
      have : -1000000 ≤ n ∧ n ≤ 1000000 := by
        rcases g.1 with k | k
        · exact k.big n rfl
        · exact nomatch k.2
      exact (NeatAll.cons (Neat.str g.lay g.size) (.cons (Neat.int (by omega)) .nil)).mono (Nat.le_refl _) (by decide)
  have m : Neat (.int mom) 1 41 := Neat.int (by have := g.2.1; have := g.2.2; simp only at *; omega)
  exact (Neat.tup (.cons (Neat.tup r) (.cons m .nil))).mono (Nat.le_refl _) (by decide)
abbrev rowD (m : List Int) : PyData := .tuple (m.map PyData.int)
theorem rows_dp {K : PySem.W.Frag} {H : Hp} {vs : List V} {ms : List (List Int)} (a : All2 (RowAt H) vs ms) : DpAll K H vs (ms.map rowD) := by
  induction a with
  | nil => exact .nil
  | cons h t ih =>
    obtain ⟨t, rfl, e1⟩ := h
    exact .cons (.tup (SqT.of e1) (dp_ints _)) ih
theorem lay_ints : ∀ m : List Int, PyData.canLayAll0 (m.map PyData.int) = true
  | [] => rfl
  | x :: m => by
    rw [List.map_cons]
    simp only [PyData.canLayAll0, PyData.canLay0, lay_ints m, Bool.and_self]
theorem lay_rows : ∀ m : List (List Int), PyData.canLayAll0 (m.map rowD) = true
  | [] => rfl
  | x :: m => by
    rw [List.map_cons]
    simp only [PyData.canLayAll0, PyData.canLay0, lay_rows m, lay_ints, Bool.and_self]
theorem dep_ints : ∀ m : List Int, PyData.depthAll (m.map PyData.int) ≤ 0
  | [] => Nat.le_refl _
  | x :: m => by
    rw [List.map_cons]
    simp only [PyData.depthAll, PyData.depth]
    have := dep_ints m
    omega
theorem dep_rows : ∀ m : List (List Int), PyData.depthAll (m.map rowD) ≤ 1
  | [] => Nat.zero_le _
  | x :: m => by
    rw [List.map_cons]
    simp only [PyData.depthAll, PyData.depth]
    have := dep_ints x
    have := dep_rows m
    omega
theorem rows_lay (m : List (List Int)) : PyData.canLay0 (.list (m.map rowD)) = true := by
  simp only [PyData.canLay0, lay_rows]
theorem rows_shaped (m : List (List Int)) : SeqAt.shaped (.list (m.map rowD)) = true := by
  unfold SeqAt.shaped
  rw [rows_lay, Bool.true_and]
  refine decide_eq_true ?_
  simp only [PyData.depth]
  have := dep_rows m
  omega
theorem belt_lay (b : BR) : PyData.canLay0 (beltD b) = true := by
  simp only [PyData.canLay0, PyData.canLayAll0, lay_ints, Bool.and_self]
theorem belt_shaped (b : BR) : SeqAt.shaped (beltD b) = true := by
  unfold SeqAt.shaped
  rw [belt_lay, Bool.true_and]
  refine decide_eq_true ?_
  simp only [PyData.depth, PyData.depthAll]
  have := dep_ints b.th
  omega
theorem hands_neat {hs : List HR} (g : ∀ h ∈ hs, GoodHand h) : Neat (.tuple (hs.map handD)) 3 (hs.length * 201) := Neat.tup (NeatAll.map fun h hh => (g h hh).neat)
theorem stand_app (bs : List BR) (m1 m2 : List (List Int)) : stand (stand bs m1) m2 = stand bs (m1 ++ m2) := by
  have key : ∀ t, stand (stand bs m1) (m2.take t) = stand bs (m1 ++ m2.take t) := by
    intro t
    induction t with
    | zero => rw [List.take_zero, stand_zero, List.append_nil]
    | succ t ih =>
      rw [List.take_add_one]
      cases e : m2[t]? with
      | none => rw [Option.toList, List.append_nil]; exact ih
      | some m =>
        rw [Option.toList, ← stand_next, ih, stand_next, List.append_assoc]
  have := key m2.length
  rw [List.take_length] at this
  exact this
theorem WS.app {hs : List HR} {bs : List BR} {r1 r2 m1 m2 : List (List Int)} (a : WS hs bs r1 m1) (b : WS hs (stand bs m1) r2 m2) : WS hs bs (r1 ++ r2) (m1 ++ m2) := by
  have key : ∀ t, WS hs bs (r1 ++ r2.take t) (m1 ++ m2.take t) := by
    intro t
    induction t with
    | zero => rw [List.take_zero, List.take_zero, List.append_nil, List.append_nil]; exact a
    | succ t ih =>
      rw [List.take_add_one, List.take_add_one]
      by_cases l : t < r2.length
      · have l2 : t < m2.length := by have := b.len; omega
        have e1 : r2[t]? = some r2[t] := List.getElem?_eq_getElem l
        have e2 : m2[t]? = some m2[t] := List.getElem?_eq_getElem l2
        have q := b.at_ t _ _ e1 e2
        rw [stand_app] at q
        rw [e1, e2, Option.toList, Option.toList, ← List.append_assoc, ← List.append_assoc]
        exact ih.snoc q
      · rw [List.getElem?_eq_none (by omega), List.getElem?_eq_none (by have := b.len; omega), Option.toList, List.append_nil, List.append_nil]
        exact ih
  have := key r2.length
  rw [List.take_length, List.take_of_length_le (by rw [b.len]; exact Nat.le_refl _)] at this
  exact this
theorem RoomOk.standing {hs : List HR} {bs : List BR} (ok : RoomOk hs bs) (ms : List (List Int)) : RoomOk hs (stand bs ms) := by
  obtain ⟨rk, hrk⟩ := ok.rank
  refine ⟨ok.hands, ok.good, (ok.bell ms).ends, fun b hb h e => ?_, fun b hb => ?_, ⟨rk, fun b hb e => ?_⟩, (ok.bell ms).count, (ok.bell ms).belts⟩
  all_goals obtain ⟨c, hc, rfl⟩ := List.mem_map.mp hb
  · rw [stand_one] at e
    exact ok.out c hc h e
  · rw [stand_len]
    exact ok.th c hc
  · rw [stand_one, stand_to]
    exact hrk c hc ((stand_th ms c).mp e)
theorem belts_lay : ∀ bs : List BR, PyData.canLayAll0 (bs.map beltD) = true
  | [] => rfl
  | b :: bs => by
    rw [List.map_cons]
    simp only [PyData.canLayAll0]
    rw [belt_lay, belts_lay bs]
    rfl
theorem belts_dep : ∀ bs : List BR, PyData.depthAll (bs.map beltD) ≤ 2
  | [] => Nat.zero_le _
  | b :: bs => by
    rw [List.map_cons]
    have h1 := belts_dep bs
    have h2 := dep_ints b.th
    simp only [PyData.depthAll, PyData.depth] at h1 h2 ⊢
    omega
theorem room_lay {hs : List HR} {bs : List BR} (g : ∀ h ∈ hs, GoodHand h) : PyData.canLay0 (roomD hs bs) = true := by
  have h1 := (hands_neat g).lay
  have h2 := belts_lay bs
  simp only [PyData.canLay0, PyData.canLayAll0] at h1 h2 ⊢
  rw [h1, h2]
  rfl
theorem room_shaped {hs : List HR} {bs : List BR} (g : ∀ h ∈ hs, GoodHand h) : SeqAt.shaped (roomD hs bs) = true := by
  unfold SeqAt.shaped
  rw [room_lay g, Bool.true_and]
  refine decide_eq_true ?_
  have h1 := (hands_neat g).dep
  have h2 := belts_dep bs
  simp only [PyData.depth, PyData.depthAll] at h1 h2 ⊢
  omega
theorem row_lay (m : List Int) : PyData.canLay0 (rowD m) = true := by
  simp only [PyData.canLay0, lay_ints]
theorem row_shaped (m : List Int) : SeqAt.shaped (rowD m) = true := by
  unfold SeqAt.shaped
  rw [row_lay, Bool.true_and]
  refine decide_eq_true ?_
  simp only [PyData.depth]
  have := dep_ints m
  omega
theorem ints_lay : ∀ l : List Int, PyData.canLayAll0 (l.map PyData.int) = true ∧ PyData.depthAll (l.map PyData.int) ≤ 1
  | [] => by simp [PyData.canLayAll0, PyData.depthAll]
  | x :: l => by
    have := ints_lay l
    simp [PyData.canLayAll0, PyData.depthAll, PyData.canLay0, PyData.depth, this.1, this.2]
theorem eqv_ints (l : List Int) : PyData.eqvAll (l.map PyData.int) (l.map PyData.int) = true := by
  induction l with
  | nil => rfl
  | cons x l ih =>
    show (x == x && PyData.eqvAll (l.map PyData.int) (l.map PyData.int)) = true
    rw [ih, beq_self_eq_true]
    rfl
theorem ints_shaped (l : List Int) : SeqAt.shaped (.list (l.map PyData.int)) = true := by
  have h := ints_lay l
  unfold SeqAt.shaped
  rw [Bool.and_eq_true]
  refine ⟨by simp only [PyData.canLay0]; exact h.1, decide_eq_true ?_⟩
  simp only [PyData.depth]
  have := h.2
  omega
theorem ints_same (l : List Int) : PyData.eqv (.list (l.map PyData.int)) (.list (l.map PyData.int)) = true := by
  have := eqv_ints l
  simp [PyData.eqv, this]
theorem All2.take {α β : Type} {R : α → β → Prop} : ∀ {as : List α} {bs : List β}, All2 R as bs → ∀ n, All2 R (as.take n) (bs.take n)
  | _, _, .nil, n => by rw [List.take_nil, List.take_nil]; exact .nil
  | _, _, .cons h t, 0 => .nil
  | _, _, .cons h t, n + 1 => .cons h (t.take n)
theorem All2.drop {α β : Type} {R : α → β → Prop} : ∀ {as : List α} {bs : List β}, All2 R as bs → ∀ n, All2 R (as.drop n) (bs.drop n)
  | _, _, .nil, n => by rw [List.drop_nil, List.drop_nil]; exact .nil
  | _, _, .cons h t, 0 => .cons h t
  | _, _, .cons h t, n + 1 => t.drop n
/-! ### a belt's ends -/
abbrev endsD (b : BR) : PyData := .tuple [.int ((b.one : Nat) : Int), .int ((b.to : Nat) : Int)]
def EndsAt (H : Hp) (v : V) (b : BR) : Prop := ∃ t : Addr, v = .ref t ∧ H t = some (.tup [.int ((b.one : Nat) : Int), .int ((b.to : Nat) : Int)])
theorem EndsAt.keep {H H' : Hp} {v : V} {b : BR} (h : EndsAt H v b) (k : TK H H') : EndsAt H' v b := by
  obtain ⟨t, e, h⟩ := h
  exact ⟨t, e, k _ _ h⟩
theorem ends_dp {K : PySem.W.Frag} {H : Hp} {vs : List V} {bs : List BR} (a : All2 (EndsAt H) vs bs) : DpAll K H vs (bs.map endsD) := by
  induction a with
  | nil => exact .nil
  | cons h t ih =>
    obtain ⟨t, rfl, e1⟩ := h
    exact .cons (.tup (SqT.of e1) (.cons (.int _) (.cons (.int _) .nil))) ih
theorem ends_lay : ∀ bs : List BR, PyData.canLayAll0 (bs.map endsD) = true
  | [] => rfl
  | b :: bs => by
    rw [List.map_cons]
    simp only [PyData.canLayAll0, PyData.canLay0, ends_lay bs, Bool.and_self]
theorem ends_dep : ∀ bs : List BR, PyData.depthAll (bs.map endsD) ≤ 1
  | [] => Nat.zero_le _
  | b :: bs => by
    rw [List.map_cons]
    simp only [PyData.depthAll, PyData.depth]
    have := ends_dep bs
    omega
theorem ends_lay1 (bs : List BR) : PyData.canLay0 (.list (bs.map endsD)) = true := by simp only [PyData.canLay0, ends_lay]
theorem ends_shaped (bs : List BR) : SeqAt.shaped (.list (bs.map endsD)) = true := by
  unfold SeqAt.shaped
  rw [ends_lay1, Bool.true_and]
  refine decide_eq_true ?_
  simp only [PyData.depth]
  have := ends_dep bs
  omega
theorem ends_mov (bs : List BR) (sh : Nat → Int) (w : Int) (ms : List (List Int)) : (bs.map (movB sh w ms)).map endsD = bs.map endsD := by
  rw [List.map_map]
  rfl
theorem hands_lay1 {hs : List HR} (g : ∀ h ∈ hs, GoodHand h) : PyData.canLay0 (.tuple (hs.map handD)) = true := (hands_neat g).lay
theorem hands_shaped {hs : List HR} (g : ∀ h ∈ hs, GoodHand h) : SeqAt.shaped (.tuple (hs.map handD)) = true := (hands_neat g).shaped (by decide)
section
variable {P : Program} {w : World} {K : PySem.W.Frag} {mg : Str → Option Value} {base : Heap}
/-- two rooms told with just the same things -/
def sp_law_like_room (K : PySem.W.Frag) : Sp := fun vs H Q _ => ∃ (r r' : Addr) (hs : List HR) (gs : List BR), vs = [.ref r, .ref r'] ∧ RoomAt H r hs gs ∧ RoomAt H r' hs gs ∧ (∀ h ∈ hs, GoodHand h) ∧ hs.length ≤ 12 ∧ gs.length ≤ 20 ∧ (∀ g ∈ gs, g.th.length ≤ 300) ∧ ∀ H', Same H H' → Q (.bl true) H'
theorem ok_law_like_room {f : Addr} {fd : FuncData} (F : Fun K "_law_like_room" "_law_like_room" s_law_like_room f fd) (T : Top K mg) : FnOk P w K mg base CX0 2 f fd ["_law_found", "_law_due"] (sp_law_like_room K) := by
  obtain ⟨f_law_whole, fd_law_whole, F_law_whole, b_law_whole, m_law_whole⟩ := T.d_law_whole
  have G_law_whole := ok_law_whole (P := P) (w := w) (base := base) F_law_whole T
  refine F.ok sc_law_like_room (fun vs H Q E h => ?_) (fun cdv A outer s H vs Q E hr h => ?_)
  · obtain ⟨r, r', hs, gs, rfl, _⟩ := h
    rfl
  obtain ⟨r, r', hs, gs, rfl, hR, hR', good, lh, lg, lth, q⟩ := h
  obtain ⟨ha, ba, hv, bv, er, eh, eb, alh, alb⟩ := id hR.ex
  have lhv := alh.length
  have lbv := alb.length
  refine ⟨_, (pss_cons (ps_if (PW.pt (pw_or (pt_not (pt_val (pe_callB (call_isiKK K rfl) (by rfl) T.m_isinstance (by decide +kernel) (pa_cons (pv 0) (pa_cons (pe_bltn (v := .ty "tuple") (by rfl) T.m_tuple (by decide +kernel) rfl) pa_nil))))) (pw_or1 (pt_cmpR (op_neDK K rfl hr.units) (pv 0) (pv 1) (nomark _))))) (pss_one (ps_ret pe_bl)) pss_nil)
      (pss_cons (ps_for PassesOwn.never rfl (pi_tupK K rfl (pe_ix (ix_tupK K rfl) (pv 0) pe_int (fun _ _ => rfl))) (pg_name (i := 2) sc_law_like_room.nd rfl (Or.inl rfl))
        (pss_one (ps_if (PW.pt (pw_or (pt_not (pt_val (pe_callB (call_isiKK K rfl) (by rfl) T.m_isinstance (by decide +kernel) (pa_cons (pv 2) (pa_cons (pe_bltn (v := .ty "tuple") (by rfl) T.m_tuple (by decide +kernel) rfl) pa_nil))))) (pw_or (pt_not (pt_val (pe_callB (call_isiKK K rfl) (by rfl) T.m_isinstance (by decide +kernel) (pa_cons (pe_ix (ix_tupK K rfl) (pv 2) pe_int (fun _ _ => rfl)) (pa_cons (pe_bltn (v := .ty "tuple") (by rfl) T.m_tuple (by decide +kernel) rfl) pa_nil))))) (pw_or1 (pt_not (pt_val (pe_call G_law_whole (hr.mono (by decide)) (by rfl) m_law_whole F_law_whole.kp b_law_whole .nil pass0 (pa_cons (pe_ix (ix_tupK K rfl) (pv 2) pe_int (fun _ _ => rfl)) pa_nil)))))))) (pss_one (ps_ret pe_bl)) pss_nil)))
      (pss_cons (ps_for PassesOwn.never rfl (pi_tupK K rfl (pe_ix (ix_tupK K rfl) (pv 0) pe_int (fun _ _ => rfl))) (pg_tupK K rfl rfl (pgs_cons (pg_name (i := 3) sc_law_like_room.nd rfl (Or.inl rfl)) (pgs_cons (pg_name (i := 4) sc_law_like_room.nd rfl (Or.inl rfl)) (pgs_cons (pg_name (i := 5) sc_law_like_room.nd rfl (Or.inl rfl)) pgs_nil))))
        (pss_one (ps_if (PW.pt (pw_or (pt_not (pt_val (pe_callB (call_isiKK K rfl) (by rfl) T.m_isinstance (by decide +kernel) (pa_cons (pv 5) (pa_cons (pe_bltn (v := .ty "tuple") (by rfl) T.m_tuple (by decide +kernel) rfl) pa_nil))))) (pw_or1 (pt_not (pt_val (pe_callB (cr_allK K rfl rfl) (by rfl) T.m_all (by decide +kernel) (pa_cons (pe_lc (own := [("_law_thing_here", 6)]) (g := gName 6) (tt := tYes) (by rfl) sc_law_like_room.nd (pi_tupK K rfl (pe_op (op_catAK K rfl) (pe_tup (pa_cons (pv 3) (pa_cons (pv 4) pa_nil))) (pv 5))) (blkOk_by (own := [("_law_thing_here", 6)]) (N := N_law_like_room) (sc := defScope s_law_like_room) (by decide +kernel)) (fun _ _ _ _ _ => (pg_name (i := 6) sc_law_like_room.nd rfl (Or.inl rfl))) (fun _ _ _ _ _ => pts_nil) (fun _ _ _ _ _ => (pe_call G_law_whole (hr.mono (by decide)) (by rfl) m_law_whole F_law_whole.kp b_law_whole .nil pass0 (pa_cons (pv 6) pa_nil)))) pa_nil))))))) (pss_one (ps_ret pe_bl)) pss_nil)))
      (pss_one (ps_ret (pe_and (pe_callB (call_isiKK K rfl) (by rfl) T.m_isinstance (by decide +kernel) (pa_cons (pe_ix (ix_tupK K rfl) (pv 0) pe_int (fun _ _ => rfl)) (pa_cons (pe_bltn (v := .ty "tuple") (by rfl) T.m_tuple (by decide +kernel) rfl) pa_nil))) (pe_one (pe_callB (call_isiKK K rfl) (by rfl) T.m_isinstance (by decide +kernel) (pa_cons (pe_ix (ix_tupK K rfl) (pv 0) pe_int (fun _ _ => rfl)) (pa_cons (pe_bltn (v := .ty "tuple") (by rfl) T.m_tuple (by decide +kernel) rfl) pa_nil)))))))))), ?_⟩
  refine ⟨_, rfl, _, _, _, _, true, rfl, .ty "tuple", .base (.tup er), kit_ty (by decide +kernel), _, rfl, if_bl (fun z => nomatch z) (fun _ => ?_)⟩
  refine ⟨_, rfl, _, rfl, _, _, hR.dp, hR'.dp, room_shaped good, room_shaped good, _, rfl, ?_⟩
  rw [SeqAt.eqv_refl _ (room_lay good)]
  refine if_bl (fun z => nomatch z) (fun _ => ?_)
  refine ⟨_, rfl, r, _, _, _, rfl, rfl, SqT.of er, atI_nat (j := 0) rfl, ha, rfl, ⟨_, SqT.of eh⟩, for_tup (K := K) (a := ha) (xs := hv) (fun i σ H5 => ∃ v2 : Option V, σ = [some (.ref r), some (.ref r'), v2, none, none, none, none] ∧ H5 = H) ⟨_, rfl, rfl⟩ (fun i σ H5 _ ⟨_, _, e⟩ => by rw [e]; exact SqT.of eh) ?_ ?_⟩
  · rintro i x σ H5 hx ⟨v2, rfl, rfl⟩
    obtain ⟨hh, eb2, ⟨t2, g, rfl, e1, e2⟩⟩ := alh.getL hx
    refine ⟨_, rfl, _, _, _, _, true, rfl, .ty "tuple", .base (.tup e1), kit_ty (by decide +kernel), _, rfl, if_bl (fun z => nomatch z) (fun _ => ?_)⟩
    refine ⟨_, rfl, t2, _, _, _, rfl, rfl, SqT.of e1, atI_nat (j := 0) rfl, _, _, _, _, true, rfl, .ty "tuple", .base (.tup e2), kit_ty (by decide +kernel), _, rfl, if_bl (fun z => nomatch z) (fun _ => ?_)⟩
    exact ⟨_, rfl, t2, _, _, _, rfl, rfl, SqT.of e1, atI_nat (j := 1) rfl, _, rfl, _, rfl, if_bl (fun z => nomatch z) (fun _ => ⟨_, rfl, rfl⟩)⟩
  rintro σ H5 ⟨v2, rfl, rfl⟩
  refine ⟨_, rfl, r, _, _, _, rfl, rfl, SqT.of er, atI_nat (j := 1) rfl, ba, rfl, ⟨_, SqT.of eb⟩, for_tup (K := K) (a := ba) (xs := bv) (fun i σ H6 => ∃ v3 v4 v5 : Option V, σ = [some (.ref r), some (.ref r'), v2, v3, v4, v5, none] ∧ Same H5 H6) ⟨_, _, _, rfl, fun _ _ e => e⟩ (fun i σ H6 _ ⟨_, _, _, _, s⟩ => SqT.of (s _ _ eb)) ?_ ?_⟩
  · rintro i x σ H6 hx ⟨v3, v4, v5, rfl, s6⟩
    obtain ⟨b, ebi, ⟨t, g, rfl, e1, e2⟩⟩ := alb.getL hx
    have th := lth b (List.mem_of_getElem? ebi)
    refine ⟨t, _, rfl, SqT.of (s6 _ _ e1), rfl, _, _, rfl, _, _, rfl, _, _, rfl, rfl, ?_⟩
    refine ⟨_, rfl, _, _, _, _, true, rfl, .ty "tuple", .base (.tup (s6 _ _ e2)), kit_ty (by decide +kernel), _, rfl, if_bl (fun z => nomatch z) (fun _ => ?_)⟩
    refine ⟨_, rfl, _, rfl, (by show 2 ≤ sizeLine; decide), fun p1 np1 => ?_⟩
    have s7 := s6.trans (same_new (o := .tup [V.int ((b.one : Nat) : Int), V.int ((b.to : Nat) : Int)]) np1)
    have hp1 : (upd H6 p1 (.tup [V.int ((b.one : Nat) : Int), V.int ((b.to : Nat) : Int)])) p1 = some (.tup ([((b.one : Nat) : Int), ((b.to : Nat) : Int)].map V.int)) := upd_same
    generalize upd H6 p1 _ = H7 at s7 hp1 ⊢
    refine ⟨_, rfl, catA_of hp1 (s7 _ _ e2) (by rw [List.length_map]; show 2 + _ ≤ 1000; rw [List.length_map]; omega) fun p2 H8 hp2 s8 => ?_⟩
    rw [← List.map_append] at hp2
    refine ⟨p2, rfl, ⟨_, SqT.of hp2⟩, fun D nD => lc_tup (K := K) (a := p2) (xs := ([((b.one : Nat) : Int), ((b.to : Nat) : Int)] ++ b.th).map V.int) (fun j H9 => H9 D = some (.lst ((List.replicate j true).map V.bl)) ∧ Same H8 H9) ⟨upd_same, same_new nD⟩ (fun j H9 _ ⟨_, s9⟩ => SqT.of (s9 _ _ hp2)) ?_ ?_⟩
    · rintro j x H9 hx ⟨hD, s9⟩
      have jl := (List.getElem?_eq_some_iff.mp hx).1
      rw [List.length_map, List.length_append] at jl
      have jl : j < 2 + b.th.length := jl
      obtain ⟨n, _, rfl⟩ := List.mem_map.mp (List.mem_of_getElem? hx)
      refine ⟨rfl, yes_in ⟨_, rfl, _, rfl, _, hD, by rw [List.length_map, List.length_replicate]; exact small1000 (by omega), ?_, Same.own s9 nD⟩⟩
      rw [upd_same, List.replicate_succ', List.map_append]
      rfl
    rintro H9 ⟨hD, s9⟩
    refine ⟨D, _, rfl, SqL.of hD, _, rfl, ?_⟩
    rw [show (List.replicate (([((b.one : Nat) : Int), ((b.to : Nat) : Int)] ++ b.th).map V.int).length true).all id = true by rw [List.all_eq_true]; intro x hx; rw [List.eq_of_mem_replicate hx]; rfl]
    exact if_bl (fun z => nomatch z) (fun _ => ⟨_, _, _, rfl, (s7.trans s8).trans s9⟩)
  rintro σ H6 ⟨v3, v4, v5, rfl, s6⟩
  refine ⟨_, rfl, r, _, _, _, rfl, rfl, SqT.of (s6 _ _ er), atI_nat (j := 0) rfl, _, _, _, _, true, rfl, .ty "tuple", .base (.tup (s6 _ _ eh)), kit_ty (by decide +kernel), _, rfl, if_bl (fun _ => ?_) (fun z => nomatch z)⟩
  exact ⟨_, rfl, r, _, _, _, rfl, rfl, SqT.of (s6 _ _ er), atI_nat (j := 1) rfl, _, _, _, _, true, rfl, .ty "tuple", .base (.tup (s6 _ _ eb)), kit_ty (by decide +kernel), q H6 s6⟩
end
section
variable {P : Program} {w : World} {K : PySem.W.Frag} {mg : Str → Option Value} {base : Heap}
theorem levL_ints {n : Nat} {sh : Nat → Int} : levL n sh = ((List.range n).map sh).map V.int := by rw [List.map_map]; rfl
theorem levL_len {n : Nat} {sh : Nat → Int} : (levL n sh).length = n := by rw [List.length_map, List.length_range]
def sp_law_moved (K : PySem.W.Frag) : Sp := fun vs H Q _ => ∃ (r sl rl : Addr) (hs : List HR) (bs : List BR) (sh : Nat → Int) (rv : List V) (R : List (List Int)), vs = [.ref r, .ref sl, .ref rl] ∧ RoomAt H r hs bs ∧ RoomOk hs bs ∧ H sl = some (.tup (levL hs.length sh)) ∧ (∀ b ∈ bs, 0 ≤ trS sh b) ∧ Bd 40 sh ∧ H rl = some (.lst rv) ∧ All2 (RowAt H) rv R ∧ (∀ x ∈ R, x.length = (doorsOf "in" hs).length) ∧ R.length ≤ 40 ∧ Wait hs.length sh ((R.length : Nat) : Int) ∧
  ∀ (p : Addr) (e : Nat) (ms : List (List Int)) (H' : Hp), RoomAt H' p hs (bs.map (movB sh ((R.length : Nat) : Int) ms)) → Ahead hs.length sh e → WS hs bs (R ++ List.replicate e (noughts hs)) ms → Same H H' → Q (.ref p) H'
theorem ok_law_moved {f : Addr} {fd : FuncData} (F : Fun K "_law_moved" "_law_moved" s_law_moved f fd) (T : Top K mg) : FnOk P w K mg base CX0 3 f fd ["_law_room_here", "_law_shifts_here", "_law_rows_here"] (sp_law_moved K) := by
  obtain ⟨f_law_worked, fd_law_worked, F_law_worked, b_law_worked, m_law_worked⟩ := T.d_law_worked
  have G_law_worked := ok_law_worked (P := P) (w := w) (base := base) F_law_worked T
  obtain ⟨f_law_trays, fd_law_trays, F_law_trays, b_law_trays, m_law_trays⟩ := T.d_law_trays
  have G_law_trays := ok_law_trays (P := P) (w := w) (base := base) F_law_trays T
  refine F.ok sc_law_moved (fun vs H Q E h => ?_) (fun cdv A outer s H vs Q E hr h => ?_)
  · obtain ⟨r, sl, rl, hs, bs, sh, rv, R, rfl, _⟩ := h
    rfl
  obtain ⟨r, sl, rl, hs, bs, sh, rv, R, rfl, hR, ok, hsl, tr, bd, hrl, alr, lrow, lR, wt, q⟩ := h
  have lsh := wt.le
  obtain ⟨ha, ba, hv, bv, er, eh, eb, alh, alb⟩ := id hR.ex
  have lh := ok.hands
  have lbs := ok.many
  have lbv := alb.length
  have lhv := alh.length
  have lrv := alr.length
  have ldl := doors_len (z := "in") (hs := hs)
  let sg : Option V → Option V → Option V → Option V → Option V → Option V → Option V → Option V → Option V → Option V → L2.St := fun v3 v5 v6 v7 v8 v9 v10 v11 v12 v13 => [some (.ref r), some (.ref sl), some (.ref rl), some (.int ((R.length : Nat) : Int)), v3, none, v5, v6, v7, v8, v9, v10, v11, v12, v13]
  let R1 : TS := fun D' σ' H' => D'.rt = Q ∧ ∃ (il : Addr) (iv : List V) (e : Nat), σ' = sg (some (.ref il)) none none none none none none none none none ∧ H' il = some (.lst iv) ∧ All2 (RowAt H') iv (List.replicate e (noughts hs)) ∧ Ahead hs.length sh e ∧ Same H H'
  let R2 : TS := fun D' σ' H' => D'.rt = Q ∧ ∃ (ml : Addr) (mv : List V) (ms : List (List Int)) (e : Nat) (v3 : Option V), σ' = sg v3 (some (.ref ml)) none none none none none none none none ∧ H' ml = some (.lst mv) ∧ All2 (RowAt H') mv ms ∧ Ahead hs.length sh e ∧ WS hs bs (R ++ List.replicate e (noughts hs)) ms ∧ Same H H'
  refine ⟨_, (pss_cons (ps_set (i := 3) sc_law_moved.nd rfl (Or.inl rfl) (pe_callB (cr_maxKK K rfl rfl) (by rfl) T.m_max (by decide +kernel) (pa_cons (pe_op op_cat (pe_lst (pa_cons pe_int pa_nil)) (pe_callTy (call_list_ofK K rfl) (by rfl) T.m_list (by decide +kernel) (pa_cons (pv 1) pa_nil))) pa_nil)))
      (pss_cons (ps_set (i := 4) sc_law_moved.nd rfl (Or.inl rfl) (pe_op op_rep (pe_lst (pa_cons (pe_callTy (call_tuple_ofK K rfl) (by rfl) T.m_tuple (by decide +kernel) (pa_cons (pe_lc (own := [("_law_hand", 5)]) (g := gName 5) (by rfl) sc_law_moved.nd (pi_tupK K rfl (pe_ix (ix_tupK K rfl) (pv 0) pe_int (fun _ _ => rfl))) (blkOk_by (own := [("_law_hand", 5)]) (N := N_law_moved) (sc := defScope s_law_moved) (by decide +kernel)) (fun _ _ _ _ _ => (pg_name (i := 5) sc_law_moved.nd rfl (Or.inl rfl))) (fun _ _ _ _ _ => pts_one (pt_cmpR (op_eqDK K rfl hr.units) (pe_ix (ix_tupK K rfl) (pv 5) pe_int (fun _ _ => rfl)) (pe_tup (pa_cons pe_str pa_nil)) (nomark _))) (fun _ _ _ _ _ => pe_int)) pa_nil)) pa_nil)) (pe_op op_sub pe_int (pe_callB (cr_minKK K rfl rfl) (by rfl) T.m_min (by decide +kernel) (pa_cons (pe_op op_cat (pe_lst (pa_cons pe_int pa_nil)) (pe_callTy (call_list_ofK K rfl) (by rfl) T.m_list (by decide +kernel) (pa_cons (pv 1) pa_nil))) pa_nil)))))
      (PSs.to (pss_cons (ps_set (i := 6) sc_law_moved.nd rfl (Or.inl rfl) (pe_call G_law_worked (hr.mono (by decide)) (by rfl) m_law_worked F_law_worked.kp b_law_worked .nil pass0 (pa_cons (pv 0) (pa_cons (pe_op op_cat (pe_callTy (call_list_ofK K rfl) (by rfl) T.m_list (by decide +kernel) (pa_cons (pv 2) pa_nil)) (pv 4)) pa_nil))))
      (PSs.to (pss_cons (ps_set (i := 7) sc_law_moved.nd rfl (Or.inl rfl) (pe_lst pa_nil))
      (pss_cons (ps_for PassesOwn.never rfl (pi_zipTL K rfl (by rfl) T.m_zip (pa_cons (pe_ix (ix_tupK K rfl) (pv 0) pe_int (fun _ _ => rfl)) (pa_cons (pe_call G_law_trays (hr.mono (by decide)) (by rfl) m_law_trays F_law_trays.kp b_law_trays .nil pass0 (pa_cons (pv 0) (pa_cons (pv 1) pa_nil))) pa_nil))) (pg_tupK K rfl rfl (pgs_cons (pg_tupK K rfl rfl (pgs_cons (pg_name (i := 8) sc_law_moved.nd rfl (Or.inl rfl)) (pgs_cons (pg_name (i := 9) sc_law_moved.nd rfl (Or.inl rfl)) (pgs_cons (pg_name (i := 10) sc_law_moved.nd rfl (Or.inl rfl)) pgs_nil)))) (pgs_cons (pg_name (i := 11) sc_law_moved.nd rfl (Or.inl rfl)) pgs_nil)))
        (pss_cons (ps_set (i := 12) sc_law_moved.nd rfl (Or.inl rfl) (pe_lst pa_nil))
      (pss_cons (ps_for PassesOwn.never rfl (pi_range1 (by rfl) T.m_range (pa_cons (pv 11) pa_nil)) (pg_name (i := 13) sc_law_moved.nd rfl (Or.inl rfl))
        (pss_cons (ps_set (i := 14) sc_law_moved.nd rfl (Or.inl rfl) (pe_op op_sub (pe_op op_add (pv 13) (pv 3)) (pe_ix (ix_tupK K rfl) (pv 1) (pv 9) (fun _ _ => rfl))))
      (pss_one (ps_if (pt_cmpR op_lt (pv 14) (pe_callB (call_len_seqK K rfl) (by rfl) T.m_len (by decide +kernel) (pa_cons (pv 10) pa_nil)) (nomark _)) (pss_one (ps_expr (pe_bmK K rfl PySem.F.plainAttrs_list PySem.F.slot_list_append PySem.F.type_list_append mt_append (pv 12) (pa_cons (pe_ix (ix_tupK K rfl) (pv 10) (pv 14) (fun _ _ => rfl)) pa_nil)))) (pss_one (ps_expr (pe_bmK K rfl PySem.F.plainAttrs_list PySem.F.slot_list_append PySem.F.type_list_append mt_append (pv 12) (pa_cons (pe_ix (ix_tupK K rfl) (pe_ix (ix_listK K rfl) (pv 6) (pe_op op_sub (pv 14) (pe_callB (call_len_seqK K rfl) (by rfl) T.m_len (by decide +kernel) (pa_cons (pv 10) pa_nil))) (fun _ _ => rfl)) (pv 8) (fun _ _ => rfl)) pa_nil))))))))
      (pss_one (ps_expr (pe_bmK K rfl PySem.F.plainAttrs_list PySem.F.slot_list_append PySem.F.type_list_append mt_append (pv 7) (pa_cons (pe_tup (pa_cons (pv 8) (pa_cons (pv 9) (pa_cons (pe_callTy (call_tuple_ofK K rfl) (by rfl) T.m_tuple (by decide +kernel) (pa_cons (pv 12) pa_nil)) pa_nil)))) pa_nil)))))))
      (pss_one (ps_ret (pe_tup (pa_cons (pe_ix (ix_tupK K rfl) (pv 0) pe_int (fun _ _ => rfl)) (pa_cons (pe_callTy (call_tuple_ofK K rfl) (by rfl) T.m_tuple (by decide +kernel) (pa_cons (pv 7) pa_nil)) pa_nil))))))) R2 ?tail2)) R1 ?tail1))), ?_⟩
  case tail1 =>
    rintro D' σ' H1 ⟨eD, il, iv, e, rfl, hil, ali, ah, s1⟩
    have liv := ali.length
    rw [List.length_replicate] at liv
    have e40 : e ≤ 40 := by
      rcases ah.at_ with z | ⟨k, _, z⟩
      · omega
      · have := bd k; omega
    refine ⟨_, rfl, _, rfl, rl, _, rfl, .inl (SqL.of (s1 _ _ hrl)), fun l nl => ?_⟩
    have u1 := same_new (o := .lst rv) nl
    refine ⟨_, rfl, l, il, _, _, rfl, rfl, upd_same, u1 _ _ hil, little (by omega), fun p np => ?_⟩
    have s2 := u1.trans (same_new (o := .lst (rv ++ iv)) np)
    have hp : (upd (upd H1 l (.lst rv)) p (.lst (rv ++ iv))) p = some (.lst (rv ++ iv)) := upd_same
    generalize upd _ p (.lst (rv ++ iv)) = H2 at s2 hp ⊢
    have s12 := s1.trans s2
    refine ⟨r, p, hs, bs, R ++ List.replicate e (noughts hs), rfl, hR.keep (TK.same s12), ok, ⟨_, .inl hp, ((alr.imp fun _ _ z => z.keep (TK.same s1)).app ali).imp fun _ _ z => z.keep (TK.same s2)⟩, fun x hx => ?_, by rw [List.length_append, List.length_replicate]; omega, fun ml mv ms H3 nml hml alm ws s3 => ?_⟩
    · rcases List.mem_append.mp hx with z | z
      · exact lrow x z
      · rw [List.eq_of_mem_replicate z, List.length_map]
    exact ⟨eD, ml, mv, ms, e, _, rfl, hml, alm, ah, ws, s12.trans s3⟩
  case tail2 =>
    rintro D' σ' H1 ⟨eD, ml, mv, ms, e, v3, rfl, hml, alm, ah, ws, s1⟩
    have lms : ms.length = R.length + e := by
      have := ws.len
      rw [List.length_append, List.length_replicate] at this
      exact this
    refine ⟨(by show 0 ≤ sizeLine; decide), fun af naf => ?_⟩
    have s2 := s1.trans (same_new (o := .lst []) naf)
    have s12 := same_new (o := .lst []) naf
    have haf : (upd H1 af (.lst [])) af = some (.lst []) := upd_same
    generalize upd H1 af (.lst []) = H2 at s2 s12 haf ⊢
    have k2 := TK.same s2
    refine ⟨_, rfl, r, _, _, _, rfl, rfl, SqT.of (k2 _ _ er), atI_nat (j := 1) rfl, _, rfl, _, rfl, r, sl, hs, bs, sh, rfl, hR.keep k2, ok, .inl (k2 _ _ hsl), fun tl H3 ntl htl s3 => ?_⟩
    have s03 := s2.trans s3
    have k3 := k2.trans (TK.same s3)
    have haf3 := s3 _ _ haf
    have eb3 := k3 _ _ eb
    have nba : ba ≠ af := ne_of eb3 haf3 (fun z => nomatch z)
    have tlaf : tl ≠ af := fun z => by rw [z, haf] at ntl; cases ntl
    have mlaf : ml ≠ af := fun z => by rw [z, naf] at hml; cases hml
    have rlaf : rl ≠ af := fun z => by have := s1 _ _ hrl; rw [z, naf] at this; cases this
    have hml3 := s3 _ _ (s12 _ _ hml)
    have tpl : ∀ {b : Addr} {xs : List V}, H b = some (.tup xs) → H3 b = some (.tup xs) ∧ b ≠ af := fun e => ⟨k3 _ _ e, ne_of (k3 _ _ e) haf3 (fun z => nomatch z)⟩
    refine ⟨ba, tl, bv, _, rfl, SqT.of eb3, SqL.of htl, for_it (n := bs.length) (fun i σ H5 => ∃ (av : List V) (v7 v8 v9 v10 v11 v12 v13 : Option V), σ = sg v3 (some (.ref ml)) (some (.ref af)) v7 v8 v9 v10 v11 v12 v13 ∧ H5 af = some (.lst av) ∧ All2 (BeltAt H5) av ((bs.take i).map (movB sh ((R.length : Nat) : Int) ms)) ∧ (∀ b o, H3 b = some o → b ≠ af → H5 b = some o))
        ⟨[], none, none, none, none, none, none, none, rfl, haf3, .nil, fun _ _ e _ => e⟩ ?_ ?_ ?_ ?_⟩
    · rintro i σ H5 hi ⟨av, v7, v8, v9, v10, v11, v12, v13, rfl, hav, ala, f5⟩
      exact ⟨SqT.of (f5 _ _ eb3 nba), SqL.of (f5 _ _ htl tlaf), by omega, by rw [List.length_map]; exact hi⟩
    · rintro σ H5 ⟨av, v7, v8, v9, v10, v11, v12, v13, rfl, hav, ala, f5⟩
      exact ⟨SqT.of (f5 _ _ eb3 nba), SqL.of (f5 _ _ htl tlaf), by omega, by rw [List.length_map]; exact Nat.le_refl _, .inl (by omega)⟩
    · rintro i x σ H5 H6 hi ⟨av, v7, v8, v9, v10, v11, v12, v13, rfl, hav, ala, f5⟩ ⟨T', x1, y1, rfl, nT, rfl, hx1, hy1⟩
      obtain ⟨b, ebj, ⟨t2, g, rfl, e1, e2⟩⟩ := alb.getL hx1
      have hb := List.mem_of_getElem? ebj
      obtain ⟨ob, tb⟩ := ok.ends b hb
      obtain rfl : y1 = V.int (trS sh b) := by
        rw [List.getElem?_map, ebj] at hy1
        exact (Option.some.inj hy1).symm
      have s6 := same_new (o := .tup [V.ref t2, V.int (trS sh b)]) nT
      have hT' : (upd H5 T' (.tup [V.ref t2, V.int (trS sh b)])) T' = some (.tup [V.ref t2, V.int (trS sh b)]) := upd_same
      generalize upd H5 T' (.tup [V.ref t2, V.int (trS sh b)]) = H6 at s6 hT' ⊢
      have f6 : ∀ {c : Addr} {xs : List V}, H c = some (.tup xs) → H6 c = some (.tup xs) := fun e => s6 _ _ (f5 _ _ (tpl e).1 (tpl e).2)
      have t0 := tr b hb
      have thl := (ok.th b hb).1
      have sto := lsh b.to tb
      have son := ah.le b.one ob
      have btw := bd b.to
      have b1w := bd b.one
      have trd : trS sh b = (b.th.length : Int) + sh b.to - sh b.one := rfl
      obtain ⟨n0, en0⟩ : ∃ n0 : Nat, trS sh b = ((n0 : Nat) : Int) := ⟨(trS sh b).toNat, by omega⟩
      obtain ⟨f0, ef0⟩ : ∃ f0 : Nat, ((R.length : Nat) : Int) - sh b.to = ((f0 : Nat) : Int) := ⟨(((R.length : Nat) : Int) - sh b.to).toNat, by omega⟩
      have haf6 := s6 _ _ hav
      have hml6 := s6 _ _ (f5 _ _ hml3 mlaf)
      have hrl6 := s6 _ _ (f5 _ _ (s03 _ _ hrl) rlaf)
      have kk : TK H1 H6 := fun c xs e => s6 _ _ (f5 _ _ (s3 _ _ (s12 _ _ e)) (fun z => by rw [z, naf] at e; cases e))
      have alm6 := alm.imp fun _ _ z => z.keep kk
      have lav := ala.length
      rw [List.length_map, List.length_take] at lav
      refine ⟨T', _, rfl, SqT.of hT', rfl, _, _, rfl, ?_⟩
      refine ⟨t2, _, rfl, SqT.of (f6 e1), rfl, _, _, rfl, _, _, rfl, _, _, rfl, rfl, _, _, rfl, rfl, ?_⟩
      refine ⟨(by show 0 ≤ sizeLine; decide), fun fl nfl => ?_⟩
      have flaf : af ≠ fl := fun z => by rw [← z, haf6] at nfl; cases nfl
      show tSeq _ _ _ (sg v3 (some (.ref ml)) (some (.ref af)) (some (.int ((b.one : Nat) : Int))) (some (.int ((b.to : Nat) : Int))) (some (.ref g)) (some (.int (trS sh b))) (some (.ref fl)) v12 v13) (upd H6 fl (.lst []))
      rw [en0]
      have s67 := same_new (o := .lst []) nfl
      refine ⟨_, rfl, _, rfl, by omega, by omega, for_range (lo := 0) (n := ((n0 : Nat) : Int).toNat) (fun j σ H7 => ∃ v12 v13 : Option V, σ = sg v3 (some (.ref ml)) (some (.ref af)) (some (.int ((b.one : Nat) : Int))) (some (.int ((b.to : Nat) : Int))) (some (.ref g)) (some (.int ((n0 : Nat) : Int))) (some (.ref fl)) v12 v13 ∧ H7 fl = some (.lst (((List.range j).map fun i => takenAt b ms (f0 + i)).map V.int)) ∧ (∀ c o, H6 c = some o → H7 c = some o)) ⟨_, _, rfl, upd_same, fun c o e => s67 _ _ e⟩ ?_ ?_⟩
      · rintro j σ H7 hj ⟨v12, v13, rfl, hfl, f7⟩
        have hj : j < n0 := by omega
        refine ⟨_, rfl, _, rfl, _, _, rfl, rfl, _, rfl, _, rfl, sl, _, _, _, rfl, rfl, SqT.of (f7 _ _ (f6 hsl)), atI_nat (rg_at tb), _, _, rfl, rfl, ?_⟩
        have es : 0 + ((j : Nat) : Int) + ((R.length : Nat) : Int) - sh b.to = ((f0 + j : Nat) : Int) := by omega
        rw [show (fun i j => V.int (i - j)) (0 + ((j : Nat) : Int) + ((R.length : Nat) : Int)) (sh b.to) = V.int ((f0 + j : Nat) : Int) from congrArg V.int es]
        refine ⟨_, rfl, _, rfl, g, _, rfl, .inr (SqT.of (f7 _ _ (f6 e2))), _, _, rfl, rfl, _, rfl, if_bl (fun c => ?_) (fun c => ?_)⟩
        · have c := of_decide_eq_true c
          rw [List.length_map] at c
          have lt : f0 + j < b.th.length := by omega
          refine ⟨_, rfl, .inl ⟨rfl, _, SqL.of hfl⟩, _, rfl, _, rfl, g, _, _, _, rfl, rfl, SqT.of (f7 _ _ (f6 e2)), atI_nat (by rw [List.getElem?_map, List.getElem?_eq_getElem lt]; rfl), fl, _, _, rfl, rfl, hfl, by rw [List.length_map, List.length_map, List.length_range]; exact small1000 (by omega), _, _, rfl, ?_, fun c o e => ?_⟩
          · rw [upd_same, List.range_succ, List.map_append, List.map_append]
            congr 3
            show [V.int b.th[f0 + j]] = [V.int (takenAt b ms (f0 + j))]
            unfold takenAt
            rw [if_pos lt]
            show [V.int b.th[f0 + j]] = [V.int (b.th.getD (f0 + j) 0)]
            rw [List.getD_eq_getElem?_getD, List.getElem?_eq_getElem lt]
            rfl
          · rw [upd_ne (fun z => by rw [z, nfl] at e; cases e)]
            exact f7 _ _ e
        · have c := of_decide_eq_false c
          rw [List.length_map] at c
          have ge : b.th.length ≤ f0 + j := by omega
          have sl2 : f0 + j - b.th.length < ms.length := by omega
          have em : ms[f0 + j - b.th.length]? = some ms[f0 + j - b.th.length] := List.getElem?_eq_getElem sl2
          obtain ⟨x2, ex2, ⟨t3, rfl, ht3⟩⟩ := alm6.get em
          have l2 := ws.row _ (List.mem_of_getElem? em)
          refine ⟨_, rfl, .inl ⟨rfl, _, SqL.of hfl⟩, _, rfl, _, rfl, _, rfl, g, _, rfl, .inr (SqT.of (f7 _ _ (f6 e2))), _, _, rfl, rfl, ml, _, _, V.ref t3, rfl, rfl, SqL.of (f7 _ _ hml6), ?_⟩
          rw [List.length_map, show ((f0 + j : Nat) : Int) - ((b.th.length : Nat) : Int) = ((f0 + j - b.th.length : Nat) : Int) by omega]
          refine ⟨atI_nat ex2, _, rfl, t3, _, _, _, rfl, rfl, SqT.of (f7 _ _ ht3), at_row (by omega), fl, _, _, rfl, rfl, hfl, by rw [List.length_map, List.length_map, List.length_range]; exact small1000 (by omega), _, _, rfl, ?_, fun c o e => ?_⟩
          · rw [upd_same, List.range_succ, List.map_append, List.map_append]
            congr 3
            show [V.int (gD ms[f0 + j - b.th.length] b.one)] = [V.int (takenAt b ms (f0 + j))]
            unfold takenAt
            rw [if_neg (by omega), getD_at em]
          · rw [upd_ne (fun z => by rw [z, nfl] at e; cases e)]
            exact f7 _ _ e
      rintro σ H7 ⟨v12, v13, rfl, hfl, f7⟩
      rw [Int.toNat_natCast] at hfl
      have haf7 := f7 _ _ haf6
      refine ⟨_, rfl, .inl ⟨rfl, _, SqL.of haf7⟩, _, rfl, _, rfl, _, rfl, fl, _, rfl, .inl ⟨SqL.of hfl, fun pt npt => ?_⟩⟩
      have s8 := same_new (o := .tup (((List.range n0).map fun i => takenAt b ms (f0 + i)).map V.int)) npt
      have hpt : (upd H7 pt (.tup (((List.range n0).map fun i => takenAt b ms (f0 + i)).map V.int))) pt = some (.tup (((List.range n0).map fun i => takenAt b ms (f0 + i)).map V.int)) := upd_same
      generalize upd H7 pt _ = H8 at s8 hpt ⊢
      refine ⟨(by show 3 ≤ sizeLine; decide), fun p3 np3 => ?_⟩
      have s9 := same_new (o := .tup [V.int ((b.one : Nat) : Int), V.int ((b.to : Nat) : Int), V.ref pt]) np3
      have hp3 : (upd H8 p3 (.tup [V.int ((b.one : Nat) : Int), V.int ((b.to : Nat) : Int), V.ref pt])) p3 = some (.tup [V.int ((b.one : Nat) : Int), V.int ((b.to : Nat) : Int), V.ref pt]) := upd_same
      generalize upd H8 p3 _ = H9 at s9 hp3 ⊢
      have s69 : Same H6 H9 := fun c o e => s9 _ _ (s8 _ _ (f7 _ _ e))
      have haf9 := s69 _ _ haf6
      refine ⟨af, _, _, rfl, rfl, haf9, small1000 (by omega), ?_⟩
      have kL : TK H9 (upd H9 af (.lst (av ++ [V.ref p3]))) := TK.lst haf9
      refine ⟨av ++ [V.ref p3], _, _, _, _, _, _, _, rfl, upd_same, ?_, fun c o e n => ?_⟩
      · rw [List.take_add_one, ebj, List.map_append]
        refine ((ala.imp fun _ _ z => z.keep (TK.same (s6.trans s69))).snoc ⟨p3, pt, rfl, hp3, ?_⟩).imp fun _ _ z => z.keep kL
        rw [s9 _ _ hpt]
        unfold movB
        rw [ef0, en0]
        rfl
      · rw [upd_ne n]
        exact s69 _ _ (s6 _ _ (f5 _ _ e n))
    · rintro σ H5 ⟨av, v7, v8, v9, v10, v11, v12, v13, rfl, hav, ala, f5⟩
      rw [List.take_length] at ala
      have tp5 : ∀ {b : Addr} {xs : List V}, H b = some (.tup xs) → H5 b = some (.tup xs) := fun e => f5 _ _ (tpl e).1 (tpl e).2
      refine ⟨_, rfl, r, _, _, _, rfl, rfl, SqT.of (tp5 er), atI_nat (j := 0) rfl, _, rfl, af, _, rfl, .inl ⟨SqL.of hav, fun pt npt => ?_⟩⟩
      have s6 := same_new (o := .tup av) npt
      have hpt : (upd H5 pt (.tup av)) pt = some (.tup av) := upd_same
      generalize upd H5 pt (.tup av) = H6 at s6 hpt ⊢
      refine ⟨(by show 2 ≤ sizeLine; decide), fun p np => ?_⟩
      have s7 := same_new (o := .tup [V.ref ha, V.ref pt]) np
      have hp : (upd H6 p (.tup [V.ref ha, V.ref pt])) p = some (.tup [V.ref ha, V.ref pt]) := upd_same
      generalize upd H6 p (.tup [V.ref ha, V.ref pt]) = H7 at s7 hp ⊢
      have s57 := s6.trans s7
      have s07 : Same H H7 := fun c o e => s57 _ _ (f5 _ _ (s03 _ _ e) (fun z => by have := s1 _ _ e; rw [z, naf] at this; cases this))
      rw [eD]
      exact q p e ms H7 ⟨ha, pt, hv, av, hp, s07 _ _ eh, s7 _ _ hpt, alh.imp fun _ _ z => z.keep (TK.same s07), ala.imp fun _ _ z => z.keep (TK.same s57)⟩ ah ws s07
  refine ⟨(by show 1 ≤ sizeLine; decide), fun z0 nz => ?_⟩
  have w1 := same_new (o := .lst [V.int 0]) nz
  refine ⟨_, rfl, sl, _, rfl, .inr (SqT.of (w1 _ _ hsl)), fun l nl => ?_⟩
  have w2 := same_new (o := .lst (levL hs.length sh)) nl
  refine ⟨z0, l, _, _, rfl, rfl, w2 _ _ upd_same, upd_same, by rw [levL_len]; exact little (by show 1 + _ ≤ 1000; omega), fun p np => ?_⟩
  have w3 := same_new (o := .lst ([V.int 0] ++ levL hs.length sh)) np
  refine ⟨p, 0 :: (List.range hs.length).map sh, rfl, SqL.of (by rw [upd_same, List.map_cons, ← levL_ints]; rfl), by simp, fun m hm hle => ?_⟩
  have s0 := (w1.trans w2).trans w3
  obtain rfl := (Wait.of hm hle).uniq wt
  generalize upd _ p _ = H0 at s0
  refine ⟨_, rfl, r, _, _, _, rfl, rfl, SqT.of (s0 _ _ er), atI_nat (j := 0) rfl, ha, rfl, ⟨_, SqT.of (s0 _ _ eh)⟩, fun D nD => lc_tup (K := K) (a := ha) (xs := hv) (fun i H5 => H5 D = some (.lst (List.replicate ((List.range i).filter fun j => decide (hs[j]?.map HR.wd = some ("in" : Str))).length (V.int 0))) ∧ Same H0 H5) ⟨upd_same, same_new nD⟩ (fun i H5 _ ⟨_, s5⟩ => SqT.of (s5 _ _ (s0 _ _ eh))) ?_ ?_⟩
  · rintro i x H5 hx ⟨hD, s5⟩
    have t5 := s0.trans s5
    obtain ⟨hh, eb2, ⟨t2, g, rfl, e1, e2⟩⟩ := alh.getL hx
    have il := (List.getElem?_eq_some_iff.mp eb2).1
    have gh := ok.good _ (List.mem_of_getElem? eb2)
    have few := filt_len (p := fun j => decide (hs[j]?.map HR.wd = some ("in" : Str))) i
    refine ⟨rfl, _, rfl, t2, _, _, _, rfl, rfl, SqT.of (t5 _ _ e1), atI_nat (j := 0) rfl, (by show 1 ≤ sizeLine; decide), fun o1 no1 => ?_⟩
    have s6 := s5.trans (same_new (o := .tup [V.str "in"]) no1)
    have t6 := s0.trans s6
    have hD6 := same_new (o := .tup [V.str "in"]) no1 _ _ hD
    refine ⟨_, _, rule_dp (t6 _ _ e2), .tup (SqT.of upd_same) (.cons (.str _) .nil), rule_shaped gh.lay, one_shaped (by decide +kernel), _, rfl, ?_⟩
    rw [rule_eqv, gh.door "in" (.inl rfl)]
    by_cases cc : hh.wd = "in"
    · rw [decide_eq_true cc]
      refine if_bl (fun _ => ⟨_, hD6, by rw [List.length_replicate]; exact small1000 (by omega), ?_, Same.own s6 nD⟩) (fun z => nomatch z)
      rw [upd_same, filt_succ, if_pos (decide_eq_true (by rw [eb2, ← cc]; rfl)), List.length_append]
      show _ = some (HO.lst (List.replicate (_ + 1) _))
      rw [List.replicate_succ']
    · rw [decide_eq_false cc]
      refine if_bl (fun z => nomatch z) (fun _ => ⟨?_, s6⟩)
      rw [filt_succ, if_neg fun z => cc (by have := of_decide_eq_true z; rw [eb2] at this; exact Option.some.inj this), List.append_nil]
      exact hD6
  rintro H2 ⟨hD, s2⟩
  have hD : H2 D = some (.lst (List.replicate (doorsOf "in" hs).length (V.int 0))) := by rw [hD, lhv]; rfl
  refine ⟨D, _, rfl, .inl ⟨SqL.of hD, fun p1 np1 => ?_⟩⟩
  have s3 := (s0.trans s2).trans (same_new (o := .tup (List.replicate (doorsOf "in" hs).length (V.int 0))) np1)
  have hp1 : (upd H2 p1 (.tup (List.replicate (doorsOf "in" hs).length (V.int 0)))) p1 = some (.tup ((noughts hs).map V.int)) := by
    rw [upd_same]
    congr 2
    rw [List.map_map]
    refine List.ext_getElem? fun i => ?_
    rw [List.getElem?_replicate, List.getElem?_map]
    by_cases c : i < (doorsOf "in" hs).length
    · rw [if_pos c, List.getElem?_eq_getElem c]; rfl
    · rw [if_neg c, List.getElem?_eq_none (by omega)]; rfl
  generalize upd H2 p1 _ = H3 at s3 hp1 ⊢
  refine ⟨(by show 1 ≤ sizeLine; decide), fun p2 np2 => ?_⟩
  have s4 := s3.trans (same_new (o := .lst [V.ref p1]) np2)
  have hp2 : (upd H3 p2 (.lst [V.ref p1])) p2 = some (.lst [V.ref p1]) := upd_same
  have hp14 := same_new (o := .lst [V.ref p1]) np2 _ _ hp1
  generalize upd H3 p2 (.lst [V.ref p1]) = H4 at s4 hp2 hp14 ⊢
  refine ⟨(by show 1 ≤ sizeLine; decide), fun z0 nz => ?_⟩
  have u1 := same_new (o := .lst [V.int 0]) nz
  refine ⟨_, rfl, sl, _, rfl, .inr (SqT.of (u1 _ _ (s4 _ _ hsl))), fun l nl => ?_⟩
  have u2 := same_new (o := .lst (levL hs.length sh)) nl
  refine ⟨z0, l, _, _, rfl, rfl, u2 _ _ upd_same, upd_same, by rw [levL_len]; exact little (by show 1 + _ ≤ 1000; omega), fun p np => ?_⟩
  have u3 := same_new (o := .lst ([V.int 0] ++ levL hs.length sh)) np
  refine ⟨p, 0 :: (List.range hs.length).map sh, rfl, SqL.of (by rw [upd_same, List.map_cons, ← levL_ints]; rfl), by simp, fun m hm hle => ?_⟩
  have u := (u1.trans u2).trans u3
  obtain ⟨d, rfl, ah⟩ := Ahead.of hm hle
  generalize upd _ p _ = H5 at u
  have d40 : d ≤ 40 := by
    rcases ah.at_ with z | ⟨k, _, z⟩
    · omega
    · have := bd k; omega
  refine ⟨_, _, rfl, rfl, p2, _, _, rfl, rfl, u _ _ hp2, ?_⟩
  rw [show (0 : Int) - -((d : Nat) : Int) = ((d : Nat) : Int) by omega, Int.toNat_natCast, rep_one]
  refine ⟨by omega, by omega, by show 1 * d ≤ _; rw [Nat.one_mul]; exact little (by omega), fun p4 np4 => ?_⟩
  have s6 := (s4.trans u).trans (same_new (o := .lst (List.replicate d (V.ref p1))) np4)
  exact ⟨rfl, p4, _, d, rfl, upd_same, all2_rep ⟨p1, rfl, same_new np4 _ _ (u _ _ hp14)⟩ d, ah, s6⟩
end
section
variable {P : Program} {w : World} {K : PySem.W.Frag} {mg : Str → Option Value} {base : Heap}
theorem in_nats {k : Nat} {l : List Nat} : inV (nV k) (l.map nV) = decide (k ∈ l) := by
  unfold inV
  induction l with
  | nil => rfl
  | cons a l ih =>
    rw [List.map_cons, List.any_cons, ih]
    have e : eqV (nV a) (nV k) = decide (a = k) := by
      show (((a : Nat) : Int) == ((k : Nat) : Int)) = decide (a = k)
      by_cases h : a = k
      · rw [h, decide_eq_true rfl]; exact beq_self_eq_true _
      · rw [decide_eq_false h]; exact beq_eq_false_iff_ne.mpr (by omega)
    rw [e]
    by_cases h : a = k
    · rw [decide_eq_true h, Bool.true_or]
      exact (decide_eq_true (by rw [h]; exact List.mem_cons_self ..)).symm
    · rw [decide_eq_false h, Bool.false_or]
      by_cases m : k ∈ l
      · rw [decide_eq_true m, decide_eq_true (List.mem_cons_of_mem _ m)]
      · rw [decide_eq_false m, decide_eq_false (fun z => (List.mem_cons.mp z).elim (fun y => h y.symm) m)]
theorem flat_nats (l : List Nat) : (l.map nV).all flatV = true := by
  rw [List.all_map]
  exact List.all_eq_true.mpr fun _ _ => rfl
abbrev setS (sh : Nat → Int) (k : Nat) (v : Int) : Nat → Int := fun p => if p = k then v else sh p
theorem cut_last34 {n : Nat} {sh : Nat → Int} (h : 0 < n) : cutV (levL n sh) none (some (-1)) = levL (n - 1) sh := by
  obtain ⟨m, rfl⟩ : ∃ m, n = m + 1 := ⟨n - 1, by omega⟩
  have e : levL (m + 1) sh = levL m sh ++ [V.int (sh m)] := by
    show (List.range (m + 1)).map _ = _
    rw [List.range_succ, List.map_append]
    rfl
  have l : (levL m sh).length = m := levL_len
  unfold cutV
  have e2 : HT.sIx (levL (m + 1) sh).length (levL (m + 1) sh).length (some (-1)) = m := by
    show (if (-1 : Int) < 0 then ((-1 : Int) + (((levL (m + 1) sh).length : Nat) : Int)).toNat else min (-1 : Int).toNat (levL (m + 1) sh).length) = m
    rw [if_pos (by decide), levL_len]
    omega
  show List.take (HT.sIx (levL (m + 1) sh).length (levL (m + 1) sh).length (some (-1)) - 0) (levL (m + 1) sh) = _
  rw [e2, Nat.sub_zero, e]
  exact List.take_left' l
theorem wr_only {hs : List HR} {bs : List BR} {late v : Int} {sh : Nat → Int} {k j : Nat} (gd : Good33 hs bs late sh) (h : j ∈ wrI hs (setS sh k v) ++ wrO hs late (setS sh k v)) : j = k := by
  refine Classical.byContradiction fun z => ?_
  have e : setS sh k v j = sh j := if_neg z
  rcases List.mem_append.mp h with h | h
  · obtain ⟨h1, h2⟩ := List.mem_filter.mp h
    rw [e, gd.ins j h1] at h2
    cases h2
  · obtain ⟨h1, h2⟩ := List.mem_filter.mp h
    rw [e, gd.outs j h1, decide_eq_true rfl] at h2
    cases h2
theorem bad_door {hs : List HR} {bs : List BR} {late v : Int} {sh : Nat → Int} {k : Nat} (gd : Good33 hs bs late sh) (hk : k ∈ doorsOf "in" hs ∨ k ∈ doorsOf "out" hs) (hv : v ≠ sh k) : ¬ Good33 hs bs late (setS sh k v) ∧ ∀ wd' k', Ref34 hs bs late (setS sh k v) wd' k' → wd' = "door" ∧ k' = k := by
  have e : setS sh k v k = v := if_pos rfl
  have hm : k ∈ wrI hs (setS sh k v) ++ wrO hs late (setS sh k v) := by
    rcases hk with h | h
    · refine List.mem_append.mpr (.inl (List.mem_filter.mpr ⟨h, ?_⟩))
      rw [e, decide_eq_false fun z => hv (z.trans (gd.ins k h).symm)]
      rfl
    · refine List.mem_append.mpr (.inr (List.mem_filter.mpr ⟨h, ?_⟩))
      rw [e, decide_eq_false fun z => hv (z.trans (gd.outs k h).symm)]
      rfl
  refine ⟨fun g => ?_, fun wd' k' r => ?_⟩
  · rcases hk with h | h
    · exact hv (e.symm.trans ((g.ins k h).trans (gd.ins k h).symm))
    · exact hv (e.symm.trans ((g.outs k h).trans (gd.outs k h).symm))
  · rcases r with ⟨w1, h1, _⟩ | ⟨_, h1, _⟩
    · exact ⟨w1, wr_only gd h1⟩
    · rw [h1] at hm
      cases hm
theorem bad_belt {hs : List HR} {bs : List BR} {late v : Int} {sh : Nat → Int} {k j : Nat} {b : BR} (gd : Good33 hs bs late sh) (k1 : k ∉ doorsOf "in" hs) (k2 : k ∉ doorsOf "out" hs) (eb : bs[j]? = some b) (neg : trS (setS sh k v) b < 0) (low : ∀ i b', i < j → bs[i]? = some b' → 0 ≤ trS (setS sh k v) b') : ¬ Good33 hs bs late (setS sh k v) ∧ ∀ wd' k', Ref34 hs bs late (setS sh k v) wd' k' → wd' = "belt" ∧ k' = j := by
  refine ⟨fun g => ?_, fun wd' k' r => ?_⟩
  · have := g.tr b (List.mem_of_getElem? eb)
    omega
  · rcases r with ⟨_, h1, _⟩ | ⟨w1, _, b', e', n', l'⟩
    · have := wr_only gd h1
      subst this
      rcases List.mem_append.mp h1 with h | h
      · exact absurd (List.mem_filter.mp h).1 k1
      · exact absurd (List.mem_filter.mp h).1 k2
    · refine ⟨w1, ?_⟩
      rcases Nat.lt_trichotomy k' j with h | h | h
      · have := low k' b' h e'
        omega
      · exact h
      · have := l' j b h eb
        omega
/-- shifts of a fault, and with what they are refused; or None and None -/
def Bad34 (H : Hp) (hs : List HR) (bs : List BR) (late : Int) (x y : V) : Prop := (x = .non ∧ y = .non) ∨ ∃ (bl dl tl : Addr) (m : Nat) (sn : Nat → Int) (wd : Str) (ks : List Nat), x = .ref bl ∧ y = .ref dl ∧ H bl = some (.tup (levL m sn)) ∧ H dl = some (.tup [.str wd, .ref tl]) ∧ H tl = some (.tup (ks.map nV)) ∧
  ((m ≠ hs.length ∧ wd = "form" ∧ ks = []) ∨ (m = hs.length ∧ ¬ Good33 hs bs late sn ∧ ∃ k, ks = [k] ∧ (wd = "door" ∨ wd = "belt") ∧ ∀ wd' k', Ref34 hs bs late sn wd' k' → wd' = wd ∧ k' = k))
theorem Bad34.keep {H H' : Hp} {hs : List HR} {bs : List BR} {late : Int} {x y : V} (h : Bad34 H hs bs late x y) (k : TK H H') : Bad34 H' hs bs late x y := by
  rcases h with h | ⟨bl, dl, tl, m, sn, wd, ks, e1, e2, h1, h2, h3, h4⟩
  · exact .inl h
  · exact .inr ⟨bl, dl, tl, m, sn, wd, ks, e1, e2, k _ _ h1, k _ _ h2, k _ _ h3, h4⟩
def sp_law_fault (K : PySem.W.Frag) : Sp := fun vs H Q _ => ∃ (f c r sl : Addr) (hs : List HR) (bs : List BR) (late : Int) (sh : Nat → Int), vs = [.ref f, .ref r, .ref sl] ∧ Flow H f c ∧ RoomAt H r hs bs ∧ RoomOk hs bs ∧ (∃ h ∈ hs, h.wd ≠ "out" ∧ h.wd ≠ "in") ∧ H sl = some (.tup (levL hs.length sh)) ∧ Good33 hs bs late sh ∧
  ∀ (p : Addr) (x y : V) (H' : Hp), H' p = some (.tup [x, y]) → Bad34 H' hs bs late x y → Flow H' f c → But f H H' → Q (.ref p) H'
theorem ok_law_fault {f : Addr} {fd : FuncData} (F : Fun K "_law_fault" "_law_fault" s_law_fault f fd) (T : Top K mg) : FnOk P w K mg base CX0 2 f fd ["_law_flow_here", "_law_room_here", "_law_shifts_here"] (sp_law_fault K) := by
  obtain ⟨f_law_pick, fd_law_pick, F_law_pick, b_law_pick, m_law_pick⟩ := T.d_law_pick
  have G_law_pick := ok_law_pick (P := P) (w := w) (base := base) F_law_pick T
  obtain ⟨f_law_trays, fd_law_trays, F_law_trays, b_law_trays, m_law_trays⟩ := T.d_law_trays
  have G_law_trays := ok_law_trays (P := P) (w := w) (base := base) F_law_trays T
  refine F.ok sc_law_fault (fun vs H Q E h => ?_) (fun cdv A outer s H vs Q E hr h => ?_)
  · obtain ⟨f, c, r, sl, hs, bs, late, sh, rfl, _⟩ := h
    rfl
  obtain ⟨f, c, r, sl, hs, bs, late, sh, rfl, hF, hR, ok, some1, hsl, gd, q⟩ := h
  obtain ⟨ha, ba, hv, bv, er, eh, eb, alh, alb⟩ := id hR.ex
  have lhv := alh.length
  have lh := ok.hands
  have lb := ok.many
  have hpos : 0 < hs.length := by
    obtain ⟨h, hm, _⟩ := some1
    exact List.length_pos_of_mem hm
  let sg : Option V → Option V → Option V → Option V → Option V → Option V → Option V → L2.St := fun v4 v5 v6 v7 v8 v9 v10 => [some (.ref f), some (.ref r), some (.ref sl), some (.ref ha), v4, v5, v6, v7, v8, v9, v10]
  let R1 : TS := fun D' σ' H' => D'.rt = Q ∧ ∃ (dl : Addr) (ds : List Nat), σ' = sg (some (.ref dl)) none none none none none none ∧ H' dl = some (.lst (ds.map nV)) ∧ dl ≠ f ∧ dl ≠ c ∧ ds.length ≤ 12 ∧ (∀ k, k ∈ ds ↔ k ∈ doorsOf "in" hs ∨ k ∈ doorsOf "out" hs) ∧ Flow H' f c ∧ But f H H'
  let R2 : TS := fun D' σ' H' => D'.rt = Q ∧ ∃ (dl : Addr) (ds : List Nat), σ' = sg (some (.ref dl)) none none none none none none ∧ H' dl = some (.lst (ds.map nV)) ∧ dl ≠ f ∧ dl ≠ c ∧ ds.length ≤ 12 ∧ (∀ k, k ∈ ds ↔ k ∈ doorsOf "in" hs ∨ k ∈ doorsOf "out" hs) ∧ Flow H' f c ∧ But f H H'
  let R3 : TS := fun D' σ' H' => D'.rt = Q ∧ ∃ (dl fl : Addr) (k : Nat), σ' = sg (some (.ref dl)) (some (nV k)) (some (.ref fl)) none none none none ∧ k < hs.length ∧ k ∉ doorsOf "in" hs ∧ k ∉ doorsOf "out" hs ∧ Flow H' f c ∧ But f H H'
  let R4 : TS := fun D' σ' H' => D'.rt = Q ∧ ∃ (dl fl bl : Addr) (k : Nat) (v : Int), σ' = sg (some (.ref dl)) (some (nV k)) (some (.ref fl)) (some (.ref bl)) none none none ∧ H' bl = some (.tup (levL hs.length (setS sh k v))) ∧ k < hs.length ∧ k ∉ doorsOf "in" hs ∧ k ∉ doorsOf "out" hs ∧ Flow H' f c ∧ But f H H'
  have some_mid : ∀ k : Nat, cutV (levL hs.length sh) none (some ((k : Nat) : Int)) = (levL hs.length sh).take k := fun k => cut_take _ _
  have some_end : ∀ k : Nat, cutV (levL hs.length sh) (some (((k : Nat) : Int) + 1)) none = (levL hs.length sh).drop (k + 1) := fun k => by rw [show ((k : Nat) : Int) + 1 = ((k + 1 : Nat) : Int) by omega, cut_drop]
  refine ⟨_, (pss_cons (ps_set (i := 3) sc_law_fault.nd rfl (Or.inr rfl) (pe_ix (ix_tupK K rfl) (pv 1) pe_int (fun _ _ => rfl)))
      (pss_cons (ps_set (i := 4) sc_law_fault.nd rfl (Or.inr rfl) (pe_lc (own := [("_law_k", 5)]) (g := gName 5) (by rfl) sc_law_fault.nd (pi_range1 (by rfl) T.m_range (pa_cons (pe_callB (call_len_seqK K rfl) (by rfl) T.m_len (by decide +kernel) (pa_cons (pv 3) pa_nil)) pa_nil)) (blkOk_by (own := [("_law_k", 5)]) (N := N_law_fault) (sc := defScope s_law_fault) (by decide +kernel)) (fun _ _ _ _ _ => (pg_name (i := 5) sc_law_fault.nd rfl (Or.inl rfl))) (fun _ _ _ _ _ => pts_one (pt_cmpR (op_inDTK K rfl (hu65 hr)) (pe_ix (ix_tupK K rfl) (pe_ix (ix_tupK K rfl) (pv 3) (pv 5) (fun _ _ => rfl)) pe_int (fun _ _ => rfl)) (pe_tup (pa_cons (pe_tup (pa_cons pe_str pa_nil)) (pa_cons (pe_tup (pa_cons pe_str pa_nil)) pa_nil))) (by with_unfolding_all rfl))) (fun _ _ _ _ _ => (pv 5))))
      (PSs.to (pss_cons (ps_if (pt_cmpR op_eq (pe_call G_law_pick (hr.mono (by decide)) (by rfl) m_law_pick F_law_pick.kp b_law_pick .nil pass0 (pa_cons (pv 0) (pa_cons pe_int pa_nil))) pe_int (nomark _)) (pss_one (ps_ret (pe_tup (pa_cons (pe_slice (sl_tupAK K rfl) (pv 2) po_none (po_some (pe_un un_neg pe_int))) (pa_cons (pe_tup (pa_cons pe_str (pa_cons (pe_tup pa_nil) pa_nil))) pa_nil))))) pss_nil)
      (pss_cons (ps_if (PW.pt (pw_and (pt_cmpR op_gt (pe_callB (call_len_seqK K rfl) (by rfl) T.m_len (by decide +kernel) (pa_cons (pv 4) pa_nil)) pe_int (nomark _)) (pw_and1 (pt_cmpR op_eq (pe_call G_law_pick (hr.mono (by decide)) (by rfl) m_law_pick F_law_pick.kp b_law_pick .nil pass0 (pa_cons (pv 0) (pa_cons pe_int pa_nil))) pe_int (nomark _))))) (pss_cons (ps_set (i := 5) sc_law_fault.nd rfl (Or.inl rfl) (pe_ix (ix_listK K rfl) (pv 4) (pe_call G_law_pick (hr.mono (by decide)) (by rfl) m_law_pick F_law_pick.kp b_law_pick .nil pass0 (pa_cons (pv 0) (pa_cons (pe_callB (call_len_seqK K rfl) (by rfl) T.m_len (by decide +kernel) (pa_cons (pv 4) pa_nil)) pa_nil))) (fun _ _ => rfl)))
      (pss_one (ps_ret (pe_tup (pa_cons (pe_op (op_catAK K rfl) (pe_op (op_catAK K rfl) (pe_slice (sl_tupAK K rfl) (pv 2) po_none (po_some (pv 5))) (pe_tup (pa_cons (pe_op op_sub (pe_op op_add (pe_ix (ix_tupK K rfl) (pv 2) (pv 5) (fun _ _ => rfl)) pe_int) (pe_op op_mul pe_int (pe_call G_law_pick (hr.mono (by decide)) (by rfl) m_law_pick F_law_pick.kp b_law_pick .nil pass0 (pa_cons (pv 0) (pa_cons pe_int pa_nil))))) pa_nil))) (pe_slice (sl_tupAK K rfl) (pv 2) (po_some (pe_op op_add (pv 5) pe_int)) po_none)) (pa_cons (pe_tup (pa_cons pe_str (pa_cons (pe_tup (pa_cons (pv 5) pa_nil)) pa_nil))) pa_nil)))))) pss_nil)
      (PSs.to (pss_cons (ps_setLc (i := 6) (own := [("_law_k", 5)]) (g := gName 5) (by rfl) sc_law_fault.nd rfl rfl (sw_true rfl rfl rfl (by decide +kernel)) (pi_range1 (by rfl) T.m_range (pa_cons (pe_callB (call_len_seqK K rfl) (by rfl) T.m_len (by decide +kernel) (pa_cons (pv 3) pa_nil)) pa_nil)) (blkOk_by (own := [("_law_k", 5)]) (N := N_law_fault) (sc := defScope s_law_fault) (by decide +kernel)) (fun _ _ _ _ _ => (pg_name (i := 5) sc_law_fault.nd rfl (Or.inl rfl))) (fun _ _ _ _ _ => pts_one (pt_cmpR (op_notIn_seqK K rfl) (pv 5) (pv 4) (by with_unfolding_all rfl))) (fun _ _ _ _ _ => (pv 5)))
      (pss_cons (ps_set (i := 5) sc_law_fault.nd rfl (Or.inl rfl) (pe_ix (ix_listK K rfl) (pv 6) (pe_call G_law_pick (hr.mono (by decide)) (by rfl) m_law_pick F_law_pick.kp b_law_pick .nil pass0 (pa_cons (pv 0) (pa_cons (pe_callB (call_len_seqK K rfl) (by rfl) T.m_len (by decide +kernel) (pa_cons (pv 6) pa_nil)) pa_nil))) (fun _ _ => rfl)))
      (PSs.to (pss_cons (ps_set (i := 7) sc_law_fault.nd rfl (Or.inl rfl) (pe_op (op_catAK K rfl) (pe_op (op_catAK K rfl) (pe_slice (sl_tupAK K rfl) (pv 2) po_none (po_some (pv 5))) (pe_tup (pa_cons (pe_ix (ix_listK K rfl) (pe_lst (pa_cons (pe_un un_neg pe_int) (pa_cons pe_int pa_nil))) (pe_call G_law_pick (hr.mono (by decide)) (by rfl) m_law_pick F_law_pick.kp b_law_pick .nil pass0 (pa_cons (pv 0) (pa_cons pe_int pa_nil))) (fun _ _ => rfl)) pa_nil))) (pe_slice (sl_tupAK K rfl) (pv 2) (po_some (pe_op op_add (pv 5) pe_int)) po_none)))
      (PSs.to (pss_cons (ps_setLc (i := 8) (own := [("_law_b", 9), ("_law_trays_here", 10)]) (g := gTup K 2 (gCons (gName 9) (gCons (gName 10) gNil))) (by rfl) sc_law_fault.nd rfl rfl (sw_true rfl rfl rfl (by decide +kernel)) (pi_enum (by rfl) T.m_enumerate (pa_cons (pe_call G_law_trays (hr.mono (by decide)) (by rfl) m_law_trays F_law_trays.kp b_law_trays .nil pass0 (pa_cons (pv 1) (pa_cons (pv 7) pa_nil))) pa_nil)) (blkOk_by (own := [("_law_b", 9), ("_law_trays_here", 10)]) (N := N_law_fault) (sc := defScope s_law_fault) (by decide +kernel)) (fun _ _ _ _ _ => (pg_tupK K rfl rfl (pgs_cons (pg_name (i := 9) sc_law_fault.nd rfl (Or.inl rfl)) (pgs_cons (pg_name (i := 10) sc_law_fault.nd rfl (Or.inl rfl)) pgs_nil)))) (fun _ _ _ _ _ => pts_one (pt_cmpR op_lt (pv 10) pe_int (nomark _))) (fun _ _ _ _ _ => (pv 9)))
      (pss_cons (ps_if (pt_cmpR op_eq (pe_callB (call_len_seqK K rfl) (by rfl) T.m_len (by decide +kernel) (pa_cons (pv 8) pa_nil)) pe_int (nomark _)) (pss_one (ps_ret (pe_tup (pa_cons pe_non (pa_cons pe_non pa_nil))))) pss_nil)
      (pss_one (ps_ret (pe_tup (pa_cons (pv 7) (pa_cons (pe_tup (pa_cons pe_str (pa_cons (pe_tup (pa_cons (pe_ix (ix_listK K rfl) (pv 8) pe_int (fun _ _ => rfl)) pa_nil)) pa_nil))) pa_nil))))))) R4 ?tail4)) R3 ?tail3))) R2 ?tail2))) R1 ?tail1))), ?_⟩
  case tail4 =>
    rintro D' σ' H1 ⟨eD, dl, fl, bl, k, v, rfl, hbl, kl, k1, k2, F1, B1⟩
    have hR1 := hR.keep (TK.but hF B1)
    refine ⟨_, rfl, _, rfl, r, bl, hs, bs, setS sh k v, rfl, hR1, ok, .inl hbl, fun pl H2 npl hpl s2 => ?_⟩
    refine ⟨pl, _, rfl, SqL.of hpl, fun D nD => lc_it (J := Ite K pl) (n := bs.length) (fun i H5 => H5 D = some (.lst (((List.range i).filter fun j => decide (bs[j]?.any fun b => decide (trS (setS sh k v) b < 0))).map nV)) ∧ Same H2 H5) ⟨upd_same, same_new nD⟩ ?_ ?_ ?_ ?_⟩
    · rintro i H5 hi ⟨hD, s5⟩
      exact ⟨_, _, SqL.of (s5 _ _ hpl), List.getElem?_eq_getElem (by rw [List.length_map]; exact hi)⟩
    · rintro H5 ⟨hD, s5⟩
      exact ⟨_, SqL.of (s5 _ _ hpl), by rw [List.length_map]; exact Nat.le_refl _⟩
    · rintro i x H5 H6 hi ⟨hD, s5⟩ ⟨tt, y, rfl, ntt, rfl, fy⟩
      have ey := fy _ (SqL.of (s5 _ _ hpl))
      have e1 : bs[i]? = some bs[i] := List.getElem?_eq_getElem hi
      rw [List.getElem?_map, e1] at ey
      obtain rfl : y = .int (trS (setS sh k v) bs[i]) := (Option.some.inj ey).symm
      have s6 := s5.trans (same_new (o := .tup [V.int ((i : Nat) : Int), V.int (trS (setS sh k v) bs[i])]) ntt)
      have hD6 := same_new (o := .tup [V.int ((i : Nat) : Int), V.int (trS (setS sh k v) bs[i])]) ntt _ _ hD
      have few := filt_len (p := fun j => decide (bs[j]?.any fun b => decide (trS (setS sh k v) b < 0))) i
      have ev : (decide (bs[i]?.any fun b => decide (trS (setS sh k v) b < 0))) = decide (trS (setS sh k v) bs[i] < 0) := by
        rw [e1]
        show decide (decide (trS (setS sh k v) bs[i] < 0) = true) = _
        by_cases z : trS (setS sh k v) bs[i] < 0
        · rw [decide_eq_true z]; rfl
        · rw [decide_eq_false z]; rfl
      refine ⟨tt, _, rfl, SqT.of upd_same, rfl, _, _, rfl, _, _, rfl, rfl, rfl, _, rfl, _, _, rfl, rfl, _, rfl, if_bl (fun z => ?_) (fun z => ?_)⟩
      · refine ⟨_, rfl, _, hD6, by rw [List.length_map]; exact small1000 (by omega), ?_, Same.own s6 nD⟩
        rw [upd_same, filt_succ, ev, if_pos z, List.map_append]
        rfl
      · refine ⟨?_, s6⟩
        rw [filt_succ, ev, if_neg (by rw [z]; exact Bool.false_ne_true), List.append_nil]
        exact hD6
    rintro H5 ⟨hD, s5⟩
    have s25 := s2.trans s5
    generalize egs : ((List.range bs.length).filter fun j => decide (bs[j]?.any fun b => decide (trS (setS sh k v) b < 0))) = gs at hD
    refine ⟨_, rfl, D, _, rfl, .inl (SqL.of hD), ?_⟩
    rw [List.length_map]
    refine ⟨rfl, _, rfl, if_bl (fun z => ?_) (fun z => ?_)⟩
    · refine ⟨(by show 2 ≤ sizeLine; decide), fun p np => ?_⟩
      rw [eD]
      exact q p _ _ _ upd_same (.inl ⟨rfl, rfl⟩) ((F1.same s25).new np) ((B1.same s25).new np)
    · have gne : gs ≠ [] := fun e => by rw [e] at z; cases z
      obtain ⟨j, gs', rfl⟩ : ∃ j gs', gs = j :: gs' := by
        cases gs with
        | nil => exact absurd rfl gne
        | cons j gs' => exact ⟨j, gs', rfl⟩
      have jm : j ∈ (List.range bs.length).filter fun j => decide (bs[j]?.any fun b => decide (trS (setS sh k v) b < 0)) := by rw [egs]; exact List.mem_cons_self ..
      obtain ⟨jl, jn⟩ := List.mem_filter.mp jm
      have jl := List.mem_range.mp jl
      have ejb : bs[j]? = some bs[j] := List.getElem?_eq_getElem jl
      rw [ejb] at jn
      have jn : trS (setS sh k v) bs[j] < 0 := of_decide_eq_true (of_decide_eq_true jn : decide (trS (setS sh k v) bs[j] < 0) = true)
      have srt : ((List.range bs.length).filter fun j => decide (bs[j]?.any fun b => decide (trS (setS sh k v) b < 0))).Pairwise (· < ·) := List.Pairwise.filter _ List.pairwise_lt_range
      rw [egs] at srt
      have low : ∀ i b', i < j → bs[i]? = some b' → 0 ≤ trS (setS sh k v) b' := fun i b' il e' => by
        refine Classical.byContradiction fun n => ?_
        have im : i ∈ (List.range bs.length).filter fun j => decide (bs[j]?.any fun b => decide (trS (setS sh k v) b < 0)) := by
          refine List.mem_filter.mpr ⟨List.mem_range.mpr (List.getElem?_eq_some_iff.mp e').1, ?_⟩
          rw [e']
          exact decide_eq_true (decide_eq_true (show trS (setS sh k v) b' < 0 by omega))
        rw [egs] at im
        rcases List.mem_cons.mp im with z | z
        · omega
        · have := (List.pairwise_cons.mp srt).1 i z
          omega
      refine ⟨_, rfl, _, rfl, D, _, _, _, rfl, rfl, SqL.of hD, atI_nat (j := 0) rfl, (by show 1 ≤ sizeLine; decide), fun tl ntl => ⟨(by show 2 ≤ sizeLine; decide), fun el nel => ⟨(by show 2 ≤ sizeLine; decide), fun p np => ?_⟩⟩⟩
      have t1 := same_new (o := .tup [nV j]) ntl
      have t2 := same_new (o := .tup [V.str "belt", V.ref tl]) nel
      have t3 := same_new (o := .tup [V.ref bl, V.ref el]) np
      have t := s25.trans ((t1.trans t2).trans t3)
      rw [eD]
      obtain ⟨b1, b2⟩ := bad_belt gd k1 k2 ejb jn low
      exact q p _ _ _ upd_same (.inr ⟨bl, el, tl, hs.length, setS sh k v, "belt", [j], rfl, rfl, t _ _ hbl, t3 _ _ upd_same, (t2.trans t3) _ _ upd_same, .inr ⟨rfl, b1, j, rfl, .inr rfl, b2⟩⟩) (F1.same t) (B1.same t)
  case tail3 =>
    rintro D' σ' H1 ⟨eD, dl, fl, k, rfl, kl, k1, k2, F1, B1⟩
    have hsl1 := TK.but hF B1 _ _ hsl
    refine ⟨_, rfl, ?_⟩
    dsimp only [tNoPart]
    refine ⟨_, rfl, _, rfl, slA_of hsl1 fun p1 H2 h1 s1 => ?_⟩
    rw [some_mid] at h1
    refine ⟨_, rfl, (by show 2 ≤ sizeLine; decide), fun two n2 => ⟨_, rfl, f, c, 2, rfl, by decide, by decide +kernel, (F1.same s1).new n2, fun v H3 v0 v1 F3 B3 => ?_⟩⟩
    have t1 := same_new (o := .lst [V.int (-20), V.int 20]) n2
    have nf := (F1.same s1).ne n2
    have b3 : But f H1 H3 := But.trans (fun c o e _ => t1 _ _ (s1 _ _ e)) B3
    have k3 := TK.but F1 b3
    have htwo := B3 _ _ (upd_same (H := H2) (a := two) (o := .lst [V.int (-20), V.int 20])) nf
    have h13 := TK.but ((F1.same s1).new (o := .lst [V.int (-20), V.int 20]) n2) B3 _ _ (t1 _ _ h1)
    obtain ⟨u, ev⟩ : ∃ u : Int, [V.int (-20), V.int 20][v.toNat]? = some (V.int u) := by
      rcases (show v = 0 ∨ v = 1 by omega) with rfl | rfl
      · exact ⟨-20, rfl⟩
      · exact ⟨20, rfl⟩
    refine ⟨two, _, _, V.int u, rfl, rfl, SqL.of htwo, (by rw [show v = ((v.toNat : Nat) : Int) by omega]; exact atI_nat ev), ?_⟩
    refine ⟨(by show 1 ≤ sizeLine; decide), fun p2 np2 => ?_⟩
    have t2 := same_new (o := .tup [V.int u]) np2
    refine catA_of (t2 _ _ h13) upd_same (by rw [List.length_take, levL_len]; show _ + 1 ≤ 1000; omega) fun p3 H4 h3 s4 => ?_
    have t4 := t2.trans s4
    refine ⟨_, rfl, _, rfl, _, _, rfl, rfl, ?_⟩
    dsimp only [tNoPart]
    refine ⟨_, rfl, slA_of (t4 _ _ (k3 _ _ hsl1)) fun p4 H5 h4 s5 => ?_⟩
    have t5 := t4.trans s5
    refine catA_of (s5 _ _ h3) h4 (by rw [some_end, List.length_append, List.length_take, List.length_drop, levL_len]; show _ + 1 + _ ≤ 1000; omega) fun p5 H6 h5 s6 => ?_
    rw [some_end, lev_set33 kl] at h5
    have t6 := t5.trans s6
    exact ⟨eD, dl, fl, p5, k, u, rfl, h5, kl, k1, k2, F3.same t6, (B1.trans b3).same t6⟩
  case tail2 =>
    rintro D' σ' H1 ⟨eD, dl, ds, rfl, hdl, n1, n2, l12, hds, F1, B1⟩
    have k1 := TK.but hF B1
    refine ⟨_, rfl, ha, _, rfl, .inr (SqT.of (k1 _ _ eh)), _, rfl, by omega, by omega, fun D nD => lc_range (lo := 0) (n := hv.length) (fun i H5 => H5 D = some (.lst (((List.range i).filter fun k => decide (k ∉ ds)).map nV)) ∧ Same H1 H5) ⟨upd_same, same_new nD⟩ ?_ ?_⟩
    · rintro i H5 hi ⟨hD, s5⟩
      have few := filt_len (p := fun k => decide (k ∉ ds)) i
      rw [Int.zero_add]
      refine ⟨rfl, _, rfl, _, rfl, dl, _, rfl, .inl (SqL.of (s5 _ _ hdl)), rfl, flat_nats ds, _, rfl, ?_⟩
      rw [in_nats]
      by_cases z : i ∈ ds
      · rw [decide_eq_true z]
        refine if_bl (fun z => nomatch z) (fun _ => ⟨?_, s5⟩)
        rw [filt_succ, if_neg fun y => (of_decide_eq_true y : i ∉ ds) z, List.append_nil]
        exact hD
      · rw [decide_eq_false z]
        refine if_bl (fun _ => ⟨_, rfl, _, hD, by rw [List.length_map]; exact small1000 (by omega), ?_, Same.own s5 nD⟩) (fun z => nomatch z)
        rw [upd_same, filt_succ, if_pos (decide_eq_true z), List.map_append]
        rfl
    rintro H2 ⟨hD, s2⟩
    have F2 := F1.same s2
    have few := filt_len (p := fun k => decide (k ∉ ds)) hv.length
    have mem : ∀ k ∈ (List.range hv.length).filter fun k => decide (k ∉ ds), k < hs.length ∧ k ∉ doorsOf "in" hs ∧ k ∉ doorsOf "out" hs := fun k hk => by
      obtain ⟨h1, h2⟩ := List.mem_filter.mp hk
      have h2 : k ∉ ds := of_decide_eq_true h2
      exact ⟨lhv ▸ List.mem_range.mp h1, fun z => h2 ((hds k).mpr (.inl z)), fun z => h2 ((hds k).mpr (.inr z))⟩
    have ne : (List.range hv.length).filter (fun k => decide (k ∉ ds)) ≠ [] := by
      obtain ⟨h, hm, w1, w2⟩ := some1
      obtain ⟨j, ej⟩ := List.getElem?_of_mem hm
      have jl := (List.getElem?_eq_some_iff.mp ej).1
      refine List.ne_nil_of_mem (a := j) (List.mem_filter.mpr ⟨List.mem_range.mpr (lhv ▸ jl), decide_eq_true fun z => ?_⟩)
      rcases (hds j).mp z with y | y
      · obtain ⟨h', e', w'⟩ := mem_doors.mp y
        rw [ej] at e'
        exact w2 (by rw [← w']; exact congrArg HR.wd (Option.some.inj e'))
      · obtain ⟨h', e', w'⟩ := mem_doors.mp y
        rw [ej] at e'
        exact w1 (by rw [← w']; exact congrArg HR.wd (Option.some.inj e'))
    have Df : D ≠ f := F1.ne nD
    generalize (List.range hv.length).filter (fun k => decide (k ∉ ds)) = fr at hD few mem ne
    have fpos : 0 < fr.length := List.length_pos_iff.mpr ne
    refine ⟨_, rfl, _, rfl, _, rfl, D, _, rfl, .inl (SqL.of hD), f, c, _, rfl, by rw [List.length_map]; omega, by rw [List.length_map]; exact log_sm (by omega), F2, fun v H3 v0 v1 F3 B3 => ?_⟩
    rw [List.length_map] at v1
    have hD3 := B3 _ _ hD Df
    obtain ⟨j, rfl⟩ : ∃ j : Nat, v = ((j : Nat) : Int) := ⟨v.toNat, by omega⟩
    have jl : j < fr.length := by omega
    have ek : (fr.map nV)[j]? = some (nV fr[j]) := by rw [List.getElem?_map, List.getElem?_eq_getElem jl]; rfl
    refine ⟨D, _, _, _, rfl, rfl, SqL.of hD3, atI_nat ek, ?_⟩
    obtain ⟨kl, kin, kout⟩ := mem _ (List.getElem_mem jl)
    exact ⟨eD, dl, D, fr[j], rfl, kl, kin, kout, F3, (B1.same s2).trans B3⟩
  case tail1 =>
    rintro D' σ' H1 ⟨eD, dl, ds, rfl, hdl, n1, n2, l12, hds, F1, B1⟩
    have k1 := TK.but hF B1
    refine ⟨_, rfl, f, c, 3, rfl, by decide, by decide +kernel, F1, fun v H2 v0 v1 F2 B2 => ⟨rfl, _, rfl, if_bl (fun _ => ?_) (fun _ => ?_)⟩⟩
    · have hsl2 := TK.but F1 B2 _ _ (k1 _ _ hsl)
      refine ⟨_, rfl, ?_⟩
      dsimp only [tNoPart]
      refine ⟨_, rfl, _, rfl, slA_of hsl2 fun bl H3 hbl s3 => ?_⟩
      rw [cut_last34 hpos] at hbl
      refine ⟨(by show 0 ≤ sizeLine; decide), fun tl ntl => ⟨(by show 2 ≤ sizeLine; decide), fun el nel => ⟨(by show 2 ≤ sizeLine; decide), fun p np => ?_⟩⟩⟩
      have t1 := same_new (o := .tup []) ntl
      have t2 := same_new (o := .tup [V.str "form", V.ref tl]) nel
      have t3 := same_new (o := .tup [V.ref bl, V.ref el]) np
      have t := (t1.trans t2).trans t3
      rw [eD]
      exact q p _ _ _ upd_same (.inr ⟨bl, el, tl, hs.length - 1, sh, "form", [], rfl, rfl, t _ _ hbl, t3 _ _ upd_same, (t2.trans t3) _ _ upd_same, .inl ⟨by omega, rfl, rfl⟩⟩) ((F2.same s3).same t) (((B1.trans B2).same s3).same t)
    have hdl2 := B2 _ _ hdl n1
    have next : ∀ H3 : Hp, Flow H3 f c → But f H2 H3 → R2 D' (sg (some (.ref dl)) none none none none none none) H3 := fun H3 F3 B3 => ⟨eD, dl, ds, rfl, B3 _ _ hdl2 n1, n1, n2, l12, hds, F3, (B1.trans B2).trans B3⟩
    refine ⟨_, rfl, dl, _, rfl, .inl (SqL.of hdl2), _, _, rfl, rfl, _, rfl, if_bl (fun z => ?_) (fun _ => if_bl (fun z => nomatch z) (fun _ => next H2 F2 But.refl))⟩
    have dpos : 0 < ds.length := by
      have z := of_decide_eq_true z
      rw [List.length_map] at z
      omega
    refine ⟨_, rfl, f, c, 2, rfl, by decide, by decide +kernel, F2, fun v2 H3 w0 w1 F3 B3 => ⟨rfl, _, rfl, if_bl (fun _ => ?_) (fun _ => next H3 F3 B3)⟩⟩
    have hdl3 := B3 _ _ hdl2 n1
    refine ⟨_, rfl, _, rfl, _, rfl, dl, _, rfl, .inl (SqL.of hdl3), f, c, _, rfl, by rw [List.length_map]; omega, by rw [List.length_map]; exact log_sm (by omega), F3, fun v3 H4 y0 y1 F4 B4 => ?_⟩
    rw [List.length_map] at y1
    have hdl4 := B4 _ _ hdl3 n1
    obtain ⟨j, rfl⟩ : ∃ j : Nat, v3 = ((j : Nat) : Int) := ⟨v3.toNat, by omega⟩
    have jl : j < ds.length := by omega
    have ek : (ds.map nV)[j]? = some (nV ds[j]) := by rw [List.getElem?_map, List.getElem?_eq_getElem jl]; rfl
    have kd := (hds _).mp (List.getElem_mem jl)
    generalize ds[j] = k at ek kd
    have kl : k < hs.length := kd.elim door_lt door_lt
    refine ⟨dl, _, _, _, rfl, rfl, SqL.of hdl4, atI_nat ek, ?_⟩
    have b4 : But f H H4 := ((B1.trans B2).trans B3).trans B4
    have hsl4 := TK.but hF b4 _ _ hsl
    refine ⟨_, rfl, ?_⟩
    dsimp only [tNoPart]
    refine ⟨_, rfl, _, rfl, slA_of hsl4 fun p1 H5 h1 s1 => ?_⟩
    rw [some_mid] at h1
    refine ⟨_, rfl, _, rfl, sl, _, _, _, rfl, rfl, SqT.of (s1 _ _ hsl4), atI_nat (rg_at kl), _, _, rfl, rfl, ?_⟩
    refine ⟨_, rfl, f, c, 2, rfl, by decide, by decide +kernel, F4.same s1, fun v5 H6 x0 x1 F6 B6 => ?_⟩
    refine ⟨_, _, rfl, rfl, .inl ⟨by decide, by decide⟩, _, _, rfl, rfl, ?_⟩
    have b56 : But f H4 H6 := But.trans (fun c o e _ => s1 _ _ e) B6
    have k6 := TK.but (F4.same s1) B6
    have hsl6 := k6 _ _ (s1 _ _ hsl4)
    refine ⟨(by show 1 ≤ sizeLine; decide), fun p2 np2 => ?_⟩
    have t2 := same_new (o := .tup [V.int (sh k + 1 - 2 * v5)]) np2
    have h2 : (upd H6 p2 (.tup [V.int (sh k + 1 - 2 * v5)])) p2 = some (.tup [V.int (sh k + 1 - 2 * v5)]) := upd_same
    refine catA_of (t2 _ _ (k6 _ _ h1)) h2 (by rw [List.length_take, levL_len]; show _ + 1 ≤ 1000; omega) fun p3 H7 h3 s4 => ?_
    have t4 := t2.trans s4
    refine ⟨_, rfl, _, rfl, _, _, rfl, rfl, ?_⟩
    dsimp only [tNoPart]
    refine ⟨_, rfl, slA_of (t4 _ _ hsl6) fun p4 H8 h4 s5 => ?_⟩
    have t5 := t4.trans s5
    refine catA_of (s5 _ _ h3) h4 (by rw [some_end, List.length_append, List.length_take, List.length_drop, levL_len]; show _ + 1 + _ ≤ 1000; omega) fun p5 H9 h5 s6 => ?_
    rw [some_end, lev_set33 kl] at h5
    have t6 := t5.trans s6
    refine ⟨_, rfl, (by show 1 ≤ sizeLine; decide), fun tl ntl => ⟨(by show 2 ≤ sizeLine; decide), fun el nel => ⟨(by show 2 ≤ sizeLine; decide), fun p np => ?_⟩⟩⟩
    have u1 := same_new (o := .tup [nV k]) ntl
    have u2 := same_new (o := .tup [V.str "door", V.ref tl]) nel
    have u3 := same_new (o := .tup [V.ref p5, V.ref el]) np
    have u := (u1.trans u2).trans u3
    rw [eD]
    obtain ⟨g1, g2⟩ := bad_door (bs := bs) (v := sh k + 1 - 2 * v5) gd kd (by omega)
    exact q p _ _ _ upd_same (.inr ⟨p5, el, tl, hs.length, setS sh k (sh k + 1 - 2 * v5), "door", [k], rfl, rfl, u _ _ h5, u3 _ _ upd_same, (u2.trans u3) _ _ upd_same, .inr ⟨rfl, g1, k, rfl, .inl rfl, g2⟩⟩) (F6.same (t6.trans u)) ((b4.trans b56).same (t6.trans u))
  refine ⟨_, rfl, r, _, _, _, rfl, rfl, SqT.of er, atI_nat (j := 0) rfl, ?_⟩
  refine ⟨_, rfl, ha, _, rfl, .inr (SqT.of eh), _, rfl, by omega, by omega, fun D nD => lc_range (lo := 0) (n := hv.length) (fun i H5 => H5 D = some (.lst (((List.range i).filter fun k => decide (hs[k]?.map HR.wd = some ("in" : Str) ∨ hs[k]?.map HR.wd = some ("out" : Str))).map nV)) ∧ Same H H5) ⟨upd_same, same_new nD⟩ ?_ ?_⟩
  · rintro i H5 hi ⟨hD, s5⟩
    obtain ⟨hh, ehi, ⟨t, rr, ex, e1, e2⟩⟩ := alh.getL (List.getElem?_eq_getElem hi)
    have gh := ok.good _ (List.mem_of_getElem? ehi)
    have few := filt_len (p := fun k => decide (hs[k]?.map HR.wd = some ("in" : Str) ∨ hs[k]?.map HR.wd = some ("out" : Str))) i
    refine ⟨rfl, _, rfl, _, rfl, ha, _, _, _, rfl, rfl, SqT.of (s5 _ _ eh), at0 (List.getElem?_eq_getElem hi), ?_⟩
    rw [ex]
    refine ⟨t, _, _, _, rfl, rfl, SqT.of (s5 _ _ e1), atI_nat (j := 0) rfl, (by show 1 ≤ sizeLine; decide), fun o1 no1 => ⟨(by show 1 ≤ sizeLine; decide), fun o2 no2 => ⟨(by show 2 ≤ sizeLine; decide), fun o3 no3 => ?_⟩⟩⟩
    have t1 := same_new (o := .tup [V.str "in"]) no1
    have t2 := same_new (o := .tup [V.str "out"]) no2
    have t3 := same_new (o := .tup [V.ref o1, V.ref o2]) no3
    have s6 := ((s5.trans t1).trans t2).trans t3
    refine ⟨.tuple (ruleD hh), [.tuple [.str "in"], .tuple [.str "out"]], rule_dp (s6 _ _ e2), .tup (SqT.of upd_same) (.cons (.tup (SqT.of ((t2.trans t3) _ _ upd_same)) (.cons (.str _) .nil)) (.cons (.tup (SqT.of (t3 _ _ upd_same)) (.cons (.str _) .nil)) .nil)), rule_shaped gh.lay, by decide +kernel, _, rfl, ?_⟩
    have hD6 := ((t1.trans t2).trans t3) _ _ hD
    have val : ([PyData.tuple [.str "in"], .tuple [.str "out"]].any fun z => PyData.eqv z (.tuple (ruleD hh))) = (decide (hh.wd = "in") || decide (hh.wd = "out")) := by
      rw [List.any_cons, List.any_cons, List.any_nil, Bool.or_false, one_eqv, one_eqv, gh.door "in" (.inl rfl), gh.door "out" (.inr rfl)]
    rw [val]
    by_cases cc : hh.wd = "in" ∨ hh.wd = "out"
    · have v2 : (decide (hh.wd = "in") || decide (hh.wd = "out")) = true := by
        rcases cc with a | a
        · rw [decide_eq_true a]; rfl
        · rw [decide_eq_true a, Bool.or_true]
      rw [v2]
      refine if_bl (fun _ => ⟨_, rfl, _, hD6, by rw [List.length_map]; exact small1000 (by omega), ?_, Same.own s6 nD⟩) (fun z => nomatch z)
      rw [upd_same, filt_succ, if_pos (decide_eq_true (by rw [ehi]; exact cc.imp (congrArg some) (congrArg some))), List.map_append, Int.zero_add]
      rfl
    · rw [decide_eq_false fun z => cc (.inl z), decide_eq_false fun z => cc (.inr z)]
      refine if_bl (fun z => nomatch z) (fun _ => ⟨?_, s6⟩)
      rw [filt_succ, if_neg (fun z => cc (by have := of_decide_eq_true z; rw [ehi] at this; exact this.imp Option.some.inj Option.some.inj)), List.append_nil]
      exact hD6
  rintro H2 ⟨hD, s2⟩
  have few := filt_len (p := fun k => decide (hs[k]?.map HR.wd = some ("in" : Str) ∨ hs[k]?.map HR.wd = some ("out" : Str))) hv.length
  refine ⟨rfl, D, _, rfl, hD, hF.ne nD, hF.nec nD, by omega, fun k => ⟨fun hk => ?_, fun hk => ?_⟩, hF.same s2, fun b o e _ => s2 b o e⟩
  · obtain ⟨h1, h2⟩ := List.mem_filter.mp hk
    have kl : k < hs.length := lhv ▸ List.mem_range.mp h1
    have h2 := of_decide_eq_true h2
    rw [List.getElem?_eq_getElem kl] at h2
    exact h2.imp (fun z => mem_doors.mpr ⟨_, List.getElem?_eq_getElem kl, Option.some.inj z⟩) (fun z => mem_doors.mpr ⟨_, List.getElem?_eq_getElem kl, Option.some.inj z⟩)
  · refine List.mem_filter.mpr ⟨List.mem_range.mpr (by rw [lhv]; exact hk.elim door_lt door_lt), decide_eq_true ?_⟩
    refine hk.imp (fun z => ?_) (fun z => ?_)
    · obtain ⟨h, e, w⟩ := mem_doors.mp z
      rw [e]; exact congrArg some w
    · obtain ⟨h, e, w⟩ := mem_doors.mp z
      rw [e]; exact congrArg some w
end
section
variable {P : Program} {w : World} {K : PySem.W.Frag} {mg : Str → Option Value} {base : Heap} {cT PT : Addr} [TI : TabI K mg base cT PT]
include TI
omit TI in
theorem ref_bad {hs : List HR} {bs : List BR} {late : Int} {sh : Nat → Int} {wd : Str} {k : Nat} (gd : Good33 hs bs late sh) (r : Ref34 hs bs late sh wd k) : False := by
  rcases r with ⟨_, h1, _⟩ | ⟨_, _, b, e, n, _⟩
  · rcases List.mem_append.mp h1 with h | h
    · obtain ⟨h1, h2⟩ := List.mem_filter.mp h
      rw [gd.ins k h1] at h2
      cases h2
    · obtain ⟨h1, h2⟩ := List.mem_filter.mp h
      rw [gd.outs k h1, decide_eq_true rfl] at h2
      cases h2
  · have := gd.tr b (List.mem_of_getElem? e)
    omega
def sp_law_refused (K : PySem.W.Frag) (PT : Addr) : Sp := fun vs H Q _ => ∃ (r bl a : Addr) (hs : List HR) (bs : List BR) (m : Nat) (late : Int) (sn : Nat → Int), vs = [.ref r, .int late, .ref bl, .ref a] ∧ RoomAt H r hs bs ∧ RoomOk hs bs ∧ H bl = some (.tup (levL m sn)) ∧ GxR.TabG H PT ∧ (m = hs.length → ¬ Good33 hs bs late sn) ∧
  ∀ (p t : Addr) (wd : Str) (ks : List Nat) (H' : Hp), H' p = some (.tup [.str wd, .ref t]) → H' t = some (.tup (ks.map nV)) → ((m ≠ hs.length ∧ wd = "form" ∧ ks = []) ∨ (m = hs.length ∧ ∃ k, ks = [k] ∧ Ref34 hs bs late sn wd k)) → GxR.TabG H' PT → But PT H H' → Q (.ref p) H'
theorem ok_law_refused {f : Addr} {fd : FuncData} (F : Fun K "_law_refused" "_law_refused" s_law_refused f fd) (T : Top K mg) : FnOk P w K mg base CX0 6 f fd ["_law_room_here", "_law_late", "_law_shifts_here", "_law_rows_here"] (sp_law_refused K PT) := by
  obtain ⟨f_moved, fd_moved, F_moved, b_moved, m_moved⟩ := T.d_moved
  have G_moved := ok_moved (P := P) (w := w) (base := base) F_moved T
  obtain ⟨fdI, N⟩ := T.x_ns
  have GI := ok_NsInit (P := P) (w := w) (base := base) N
  refine F.ok sc_law_refused (fun vs H Q E h => ?_) (fun cdv A outer s H vs Q E hr h => ?_)
  · obtain ⟨r, bl, a, hs, bs, m, late, sn, rfl, _⟩ := h
    rfl
  obtain ⟨r, bl, a, hs, bs, m, late, sn, rfl, hR, ok, hbl, tg, bad, q⟩ := h
  refine ⟨_, (pss_cons (ps_try_as (i := 4) rfl rfl sc_law_refused.nd rfl rfl ⟨rfl, by decide, .inl N.gB⟩ takes0
        (fun W pn xe tk _ => (pss_one (ps_expr (pe_callS G_moved (hr.mono (by decide)) (by rfl) m_moved F_moved.kp b_moved (fun σ => passAt tk σ) (pa_cons (pv 0) (pa_cons (pv 1) (pa_cons (pv 2) (pa_cons (pv 3) pa_nil))))))))
        (fun a oe cls d pn hz hf => (pss_cons (ps_if (PW.pt (pw_and (pt_val (pe_callB (call_isF N.is_ hz hf) (by rfl) T.m_isinstance (by decide +kernel) (pa_cons (pv 4) (pa_cons (pe_glob (v := .ref (He.ga K "NoShift")) (by rfl) N.gC rfl) pa_nil)))) (pw_and1 (pt_val (pe_callB (call_isF N.is_ hz hf) (by rfl) T.m_isinstance (by decide +kernel) (pa_cons (pv 4) (pa_cons (pe_bltn (v := .ty "ValueError") (by rfl) T.m_ValueError (by decide +kernel) rfl) pa_nil))))))) (pss_one (ps_ret (pe_tup (pa_cons (pe_xf N.xf N.nw hz hf (pv 4)) (pa_cons (pe_xf N.xf N.na hz hf (pv 4)) pa_nil))))) pss_nil)
      (pss_one (ps_ret (pe_tup (pa_cons pe_str (pa_cons (pe_tup pa_nil) pa_nil))))))))
      (pss_one (ps_ret pe_non))), ?_⟩
  refine ⟨_, rfl, _, rfl, _, rfl, _, rfl, ?_⟩
  dsimp only [tNil]
  refine ⟨r, bl, a, hs, bs, m, late, sn, [], [], rfl, hR, ok, hbl, tg, fun e g => absurd g (bad e), fun d t H1 ne hd ht tg1 b1 => ?_, fun d t wd k H1 em rf hd ht tg1 b1 => ?_, fun p w d ms H1 em gd => absurd gd (bad em)⟩
  · refine ⟨true, N.te, fun _ a na => ?_, fun z => nomatch z⟩
    refine ⟨_, rfl, rfl, ⟨d, _, rfl, hd⟩, V.ref (nsA K), .ref (nsA K), true, rfl, fun u r => r, N.k1, _, rfl, if_bl (fun _ => ?_) (fun z => nomatch z)⟩
    refine ⟨_, rfl, rfl, ⟨d, _, rfl, hd⟩, V.ty "ValueError", .type "ValueError", true, rfl, fun u r => r, N.k2, _, rfl, if_bl (fun _ => ?_) (fun z => nomatch z)⟩
    refine ⟨_, rfl, rfl, rfl, d, _, .str "form", rfl, hd, rfl, _, rfl, rfl, rfl, d, _, .ref t, rfl, hd, rfl, (by show 2 ≤ sizeLine; decide), fun p np => ?_⟩
    have s := same_new (o := .tup [V.str "form", V.ref t]) np
    exact q p t "form" [] _ upd_same (s _ _ ht) (.inl ⟨ne, rfl, rfl⟩) (same_tab tg1 s) (b1.same s)
  · refine ⟨true, N.te, fun _ a na => ?_, fun z => nomatch z⟩
    refine ⟨_, rfl, rfl, ⟨d, _, rfl, hd⟩, V.ref (nsA K), .ref (nsA K), true, rfl, fun u r => r, N.k1, _, rfl, if_bl (fun _ => ?_) (fun z => nomatch z)⟩
    refine ⟨_, rfl, rfl, ⟨d, _, rfl, hd⟩, V.ty "ValueError", .type "ValueError", true, rfl, fun u r => r, N.k2, _, rfl, if_bl (fun _ => ?_) (fun z => nomatch z)⟩
    refine ⟨_, rfl, rfl, rfl, d, _, .str wd, rfl, hd, rfl, _, rfl, rfl, rfl, d, _, .ref t, rfl, hd, rfl, (by show 2 ≤ sizeLine; decide), fun p np => ?_⟩
    have s := same_new (o := .tup [V.str wd, V.ref t]) np
    exact q p t wd [k] _ upd_same (s _ _ ht) (.inr ⟨em, k, rfl, rf⟩) (same_tab tg1 s) (b1.same s)
end
section
variable {P : Program} {w : World} {K : PySem.W.Frag} {mg : Str → Option Value} {base : Heap} {cT PT : Addr} [TI : TabI K mg base cT PT]
include TI
/-- what stands fast in this law -/
structure S34 (H : Hp) (PT r sl rl hl : Addr) (hs : List HR) (bs : List BR) (late : Int) (sh : Nat → Int) (rv : List V) (R : List (List Int)) (x y : V) : Prop where
  hR : RoomAt H r hs bs
  ok : RoomOk hs bs
  l6 : ∀ b ∈ bs, b.th.length ≤ 6
  gd : Good33 hs bs late sh
  bd : Bd 20 sh
  hsl : H sl = some (.tup (levL hs.length sh))
  wt : Wait hs.length sh ((R.length : Nat) : Int)
  hrl : H rl = some (.lst rv)
  alr : All2 (RowAt H) rv R
  rr : ∀ x ∈ R, x.length = (doorsOf "in" hs).length
  hh : H hl = some (.lst rv) ∨ H hl = some (.tup rv)
  tg : GxR.TabG H PT
  bad : Bad34 H hs bs late x y
omit TI in
theorem S34.but {H H' : Hp} {PT r sl rl hl : Addr} {hs : List HR} {bs : List BR} {late : Int} {sh : Nat → Int} {rv : List V} {R : List (List Int)} {x y : V} (s : S34 H PT r sl rl hl hs bs late sh rv R x y) (tg' : GxR.TabG H' PT) (b : But PT H H') : S34 H' PT r sl rl hl hs bs late sh rv R x y := by
  have k := tab_tk s.tg b
  exact ⟨s.hR.keep k, s.ok, s.l6, s.gd, s.bd, k _ _ s.hsl, s.wt, b _ _ s.hrl (tab_off s.tg s.hrl), s.alr.imp fun _ _ z => z.keep k, s.rr, s.hh.imp (fun e => b _ _ e (tab_off s.tg e)) (k _ _), tg', s.bad.keep k⟩
omit TI in
theorem S34.same {H H' : Hp} {PT r sl rl hl : Addr} {hs : List HR} {bs : List BR} {late : Int} {sh : Nat → Int} {rv : List V} {R : List (List Int)} {x y : V} (s : S34 H PT r sl rl hl hs bs late sh rv R x y) (b : Same H H') : S34 H' PT r sl rl hl hs bs late sh rv R x y := s.but (same_tab s.tg b) (But.of b)
omit TI in
theorem S34.r20 {H : Hp} {PT r sl rl hl : Addr} {hs : List HR} {bs : List BR} {late : Int} {sh : Nat → Int} {rv : List V} {R : List (List Int)} {x y : V} (s : S34 H PT r sl rl hl hs bs late sh rv R x y) : R.length ≤ 20 := by
  rcases s.wt.at_ with z | ⟨k, _, z⟩
  · omega
  · have := s.bd k; omega
omit TI in
theorem S34.th {H : Hp} {PT r sl rl hl : Addr} {hs : List HR} {bs : List BR} {late : Int} {sh : Nat → Int} {rv : List V} {R : List (List Int)} {x y : V} (s : S34 H PT r sl rl hl hs bs late sh rv R x y) {w : Int} {ms : List (List Int)} : ∀ g ∈ bs.map (movB sh w ms), g.th.length ≤ 300 := fun g hg => by
  obtain ⟨b, hb, rfl⟩ := List.mem_map.mp hg
  rw [mov_th]
  have := s.l6 b hb
  have := s.bd b.to
  have := s.bd b.one
  have d : trS sh b = (b.th.length : Int) + sh b.to - sh b.one := rfl
  omega
abbrev refD (wd : Str) (ks : List Nat) : PyData := .tuple [.str wd, .tuple (ks.map fun n => PyData.int ((n : Nat) : Int))]
omit TI in
theorem ref_dp {H : Hp} {p t : Addr} {wd : Str} {ks : List Nat} (h1 : H p = some (.tup [.str wd, .ref t])) (h2 : H t = some (.tup (ks.map nV))) : Dp K H (.ref p) (refD wd ks) :=
  .tup (SqT.of h1) (.cons (.str _) (.cons (.tup (SqT.of h2) (dp_nats ks)) .nil))
omit TI in
theorem ref_lay {wd : Str} {ks : List Nat} (h : PyData.canLay0 (.str wd) = true) : PyData.canLay0 (refD wd ks) = true := by
  have e : (ks.map fun n => PyData.int ((n : Nat) : Int)) = (ks.map fun n => ((n : Nat) : Int)).map PyData.int := by rw [List.map_map]; rfl
  have l := lay_ints (ks.map fun n => ((n : Nat) : Int))
  rw [← e] at l
  unfold refD
  simp only [PyData.canLay0, PyData.canLayAll0, l, Bool.and_true]
  simpa only [PyData.canLay0] using h
omit TI in
theorem ref_shaped {wd : Str} {ks : List Nat} (h : PyData.canLay0 (.str wd) = true) : SeqAt.shaped (refD wd ks) = true := by
  have e : (ks.map fun n => PyData.int ((n : Nat) : Int)) = (ks.map fun n => ((n : Nat) : Int)).map PyData.int := by rw [List.map_map]; rfl
  have l := dep_ints (ks.map fun n => ((n : Nat) : Int))
  rw [← e] at l
  unfold SeqAt.shaped
  rw [Bool.and_eq_true]
  refine ⟨ref_lay h, decide_eq_true ?_⟩
  simp only [PyData.depth, PyData.depthAll]
  omega
omit TI in
theorem mov_zero {bs : List BR} : bs.map (movB (fun _ => 0) 0 []) = bs := by
  refine (List.map_congr_left fun b _ => ?_).trans (List.map_id _)
  obtain ⟨o, t, th⟩ := b
  have e : trS (fun _ => 0) ⟨o, t, th⟩ = ((th.length : Nat) : Int) := by
    show ((th.length : Nat) : Int) + 0 - 0 = _
    omega
  unfold movB
  rw [e, Int.toNat_natCast]
  show BR.mk o t ((List.range th.length).map fun i => takenAt ⟨o, t, th⟩ [] (((0 : Int) - 0).toNat + i)) = ⟨o, t, th⟩
  congr 1
  refine List.ext_getElem? fun i => ?_
  rw [List.getElem?_map]
  by_cases c : i < th.length
  · rw [List.getElem?_range c, List.getElem?_eq_getElem c]
    show some (takenAt ⟨o, t, th⟩ [] (((0 : Int) - 0).toNat + i)) = _
    rw [show ((0 : Int) - 0).toNat + i = i by omega]
    unfold takenAt
    rw [if_pos c]
    show some (th.getD i 0) = _
    rw [List.getD_eq_getElem?_getD, List.getElem?_eq_getElem c]
    rfl
  · rw [List.getElem?_eq_none (by rw [List.length_range]; omega), List.getElem?_eq_none (by omega)]
    rfl
omit TI in
theorem zero34 {hs : List HR} {bs : List BR} : Good33 hs bs 0 (fun _ => 0) := ⟨fun _ _ => rfl, fun _ _ => rfl, fun b _ => by show 0 ≤ ((b.th.length : Nat) : Int) + 0 - 0; omega⟩
def sp_law (K : PySem.W.Frag) (PT : Addr) : Sp := fun vs H Q _ => ∃ (a : Addr) (ns : List Int), vs = [.ref a] ∧ SqL K H a (ns.map V.int) ∧ ns.length ≤ 63 ∧ GxR.TabG H PT ∧ ∀ H', Q (.bl true) H'
theorem ok_law {f : Addr} {fd : FuncData} (F : Fun K "law" "law" s_law f fd) (T : Top K mg) : FnOk P w K mg base CX0 7 f fd ["_law_script"] (sp_law K PT) := by
  obtain ⟨f_law_flow, fd_law_flow, F_law_flow, b_law_flow, m_law_flow⟩ := T.d_law_flow
  have G_law_flow := ok_law_flow (P := P) (w := w) (base := base) F_law_flow T
  obtain ⟨f_law_pick, fd_law_pick, F_law_pick, b_law_pick, m_law_pick⟩ := T.d_law_pick
  have G_law_pick := ok_law_pick (P := P) (w := w) (base := base) F_law_pick T
  obtain ⟨f_law_room, fd_law_room, F_law_room, b_law_room, m_law_room⟩ := T.d_law_room
  have G_law_room := ok_law_room (P := P) (w := w) (base := base) F_law_room T
  obtain ⟨f_law_shifts, fd_law_shifts, F_law_shifts, b_law_shifts, m_law_shifts⟩ := T.d_law_shifts
  have G_law_shifts := ok_law_shifts (P := P) (w := w) (base := base) F_law_shifts T
  obtain ⟨f_law_fault, fd_law_fault, F_law_fault, b_law_fault, m_law_fault⟩ := T.d_law_fault
  have G_law_fault := ok_law_fault (P := P) (w := w) (base := base) F_law_fault T
  obtain ⟨f_law_rows, fd_law_rows, F_law_rows, b_law_rows, m_law_rows⟩ := T.d_law_rows
  have G_law_rows := ok_law_rows (P := P) (w := w) (base := base) F_law_rows T
  obtain ⟨f_law_moved, fd_law_moved, F_law_moved, b_law_moved, m_law_moved⟩ := T.d_law_moved
  have G_law_moved := ok_law_moved (P := P) (w := w) (base := base) F_law_moved T
  obtain ⟨f_law_like_room, fd_law_like_room, F_law_like_room, b_law_like_room, m_law_like_room⟩ := T.d_law_like_room
  have G_law_like_room := ok_law_like_room (P := P) (w := w) (base := base) F_law_like_room T
  obtain ⟨f_moved, fd_moved, F_moved, b_moved, m_moved⟩ := T.d_moved
  have G_moved := ok_moved (P := P) (w := w) (base := base) F_moved T
  obtain ⟨f_law_refused, fd_law_refused, F_law_refused, b_law_refused, m_law_refused⟩ := T.d_law_refused
  have G_law_refused := ok_law_refused (P := P) (w := w) (base := base) F_law_refused T
  refine F.ok sc_law (fun vs H Q E h => ?_) (fun cdv A outer s H vs Q E hr h => ?_)
  · obtain ⟨a, ns, rfl, _⟩ := h
    rfl
  obtain ⟨a, ns, rfl, hS, hlen, tg, q⟩ := h
  let sg : Addr → Int → Addr → Int → Addr → V → V → Addr → Addr → Option V → Option V → Option V → Option V → L2.St := fun f v2 r late sl x y rl hl v10 v11 v12 v13 => [some (.ref a), some (.ref f), some (.int v2), some (.ref r), some (.int late), some (.ref sl), some x, some y, some (.ref rl), some (.ref hl), v10, v11, v12, v13]
  let R1 : TS := fun D' σ' H' => D'.rt = Q ∧ ∃ (f r sl rl hl : Addr) (v2 late : Int) (x y : V) (hs : List HR) (bs : List BR) (sh : Nat → Int) (rv : List V) (R : List (List Int)), σ' = sg f v2 r late sl x y rl hl none none none none ∧ S34 H' PT r sl rl hl hs bs late sh rv R x y
  let R2 : TS := R1
  let R3 : TS := fun D' σ' H' => D'.rt = Q ∧ ∃ (f r sl rl hl wl : Addr) (v2 late : Int) (x y : V) (hs : List HR) (bs : List BR) (sh : Nat → Int) (rv : List V) (R : List (List Int)) (e : Nat) (ms : List (List Int)), σ' = sg f v2 r late sl x y rl hl (some (.ref wl)) none none none ∧ S34 H' PT r sl rl hl hs bs late sh rv R x y ∧ RoomAt H' wl hs (bs.map (movB sh ((R.length : Nat) : Int) ms)) ∧ Ahead hs.length sh e ∧ WS hs bs (R ++ List.replicate e (noughts hs)) ms
  let R4 : TS := fun D' σ' H' => D'.rt = Q ∧ ∃ (f r sl rl hl wl st : Addr) (v2 late : Int) (x y : V) (hs : List HR) (bs : List BR) (sh : Nat → Int) (rv : List V) (R : List (List Int)) (e : Nat) (ms : List (List Int)), σ' = sg f v2 r late sl x y rl hl (some (.ref wl)) (some (.ref st)) none none ∧ S34 H' PT r sl rl hl hs bs late sh rv R x y ∧ RoomAt H' wl hs (bs.map (movB sh ((R.length : Nat) : Int) ms)) ∧ Ahead hs.length sh e ∧ WS hs bs (R ++ List.replicate e (noughts hs)) ms ∧ H' st = some (.tup (levL hs.length fun _ => 0))
  let R5 : TS := fun D' σ' H' => D'.rt = Q ∧ ∃ (f r sl rl hl wl st : Addr) (v2 late : Int) (x y : V) (hs : List HR) (bs : List BR) (sh : Nat → Int) (rv : List V) (R : List (List Int)) (e : Nat) (ms : List (List Int)), σ' = sg f v2 r late sl x y rl hl (some (.ref wl)) (some (.ref st)) none none ∧ S34 H' PT r sl rl hl hs bs late sh rv R x y ∧ RoomAt H' wl hs (bs.map (movB sh ((R.length : Nat) : Int) ms)) ∧ Ahead hs.length sh e ∧ WS hs bs (R ++ List.replicate e (noughts hs)) ms
  refine ⟨_, (pss_cons (ps_set (i := 1) sc_law.nd rfl (Or.inl rfl) (pe_call G_law_flow (hr.mono (by decide)) (by rfl) m_law_flow F_law_flow.kp b_law_flow .nil pass0 (pa_cons (pv 0) pa_nil)))
      (pss_cons (ps_set (i := 2) sc_law.nd rfl (Or.inl rfl) (pe_call G_law_pick (hr.mono (by decide)) (by rfl) m_law_pick F_law_pick.kp b_law_pick .nil pass0 (pa_cons (pv 1) (pa_cons pe_int pa_nil))))
      (pss_cons (ps_set (i := 3) sc_law.nd rfl (Or.inl rfl) (pe_call G_law_room (hr.mono (by decide)) (by rfl) m_law_room F_law_room.kp b_law_room .nil pass0 (pa_cons (pv 1) (pa_cons pe_int pa_nil))))
      (pss_cons (ps_set (i := 4) sc_law.nd rfl (Or.inl rfl) (pe_call G_law_pick (hr.mono (by decide)) (by rfl) m_law_pick F_law_pick.kp b_law_pick .nil pass0 (pa_cons (pv 1) (pa_cons pe_int pa_nil))))
      (pss_cons (ps_set (i := 5) sc_law.nd rfl (Or.inl rfl) (pe_call G_law_shifts (hr.mono (by decide)) (by rfl) m_law_shifts F_law_shifts.kp b_law_shifts .nil pass0 (pa_cons (pv 1) (pa_cons (pv 3) (pa_cons (pv 4) (pa_cons (pe_call G_law_pick (hr.mono (by decide)) (by rfl) m_law_pick F_law_pick.kp b_law_pick .nil pass0 (pa_cons (pv 1) (pa_cons pe_int pa_nil))) pa_nil))))))
      (pss_cons (ps_asg (pe_call G_law_fault (hr.mono (by decide)) (by rfl) m_law_fault F_law_fault.kp b_law_fault .nil pass0 (pa_cons (pv 1) (pa_cons (pv 3) (pa_cons (pv 5) pa_nil)))) (pg_tupK K rfl rfl (pgs_cons (pg_name (i := 6) sc_law.nd rfl (Or.inl rfl)) (pgs_cons (pg_name (i := 7) sc_law.nd rfl (Or.inl rfl)) pgs_nil))))
      (pss_cons (ps_set (i := 8) sc_law.nd rfl (Or.inl rfl) (pe_call G_law_rows (hr.mono (by decide)) (by rfl) m_law_rows F_law_rows.kp b_law_rows .nil pass0 (pa_cons (pv 1) (pa_cons (pv 3) (pa_cons (pe_callB (cr_maxKK K rfl rfl) (by rfl) T.m_max (by decide +kernel) (pa_cons (pe_op op_cat (pe_lst (pa_cons pe_int pa_nil)) (pe_callTy (call_list_ofK K rfl) (by rfl) T.m_list (by decide +kernel) (pa_cons (pv 5) pa_nil))) pa_nil)) pa_nil)))))
      (pss_cons (ps_set (i := 9) sc_law.nd rfl (Or.inl rfl) (pe_ix (ix_listK K rfl) (pe_lst (pa_cons (pe_callTy (call_list_ofK K rfl) (by rfl) T.m_list (by decide +kernel) (pa_cons (pv 8) pa_nil)) (pa_cons (pe_callTy (call_tuple_ofK K rfl) (by rfl) T.m_tuple (by decide +kernel) (pa_cons (pv 8) pa_nil)) (pa_cons (pe_callTy (call_list_ofK K rfl) (by rfl) T.m_list (by decide +kernel) (pa_cons (pv 8) pa_nil)) pa_nil)))) (pv 2) (fun _ _ => rfl)))
      (PSs.to (pss_cons (ps_if (PW.pt (pw_and (pt_cmpR op_notN (pv 6) pe_non (nomark _)) (pw_and1 (pt_cmpR (op_neDK K rfl hr.units) (pe_call G_law_refused (hr.mono (by decide)) (by rfl) m_law_refused F_law_refused.kp b_law_refused .nil pass0 (pa_cons (pv 3) (pa_cons (pv 4) (pa_cons (pv 6) (pa_cons (pv 9) pa_nil))))) (pv 7) (nomark _))))) (pss_one (ps_ret pe_bl)) pss_nil)
      (PSs.to (pss_cons (ps_set (i := 10) sc_law.nd rfl (Or.inl rfl) (pe_call G_law_moved (hr.mono (by decide)) (by rfl) m_law_moved F_law_moved.kp b_law_moved .nil pass0 (pa_cons (pv 3) (pa_cons (pv 5) (pa_cons (pv 8) pa_nil)))))
      (PSs.to (pss_cons (ps_if (PW.pt (pw_or (pt_not (pt_val (pe_call G_law_like_room (hr.mono (by decide)) (by rfl) m_law_like_room F_law_like_room.kp b_law_like_room .nil pass0 (pa_cons (pe_callS G_moved (hr.mono (by decide)) (by rfl) m_moved F_moved.kp b_moved (fun σ => passAt takes0 σ) (pa_cons (pv 3) (pa_cons (pv 4) (pa_cons (pv 5) (pa_cons (pv 9) pa_nil))))) (pa_cons (pv 10) pa_nil))))) (pw_or1 (pt_cmpR (op_neDK K rfl hr.units) (pe_callTy (call_list_ofK K rfl) (by rfl) T.m_list (by decide +kernel) (pa_cons (pv 9) pa_nil)) (pv 8) (nomark _))))) (pss_one (ps_ret pe_bl)) pss_nil)
      (pss_cons (ps_set (i := 11) sc_law.nd rfl (Or.inl rfl) (pe_callTy (call_tuple_ofK K rfl) (by rfl) T.m_tuple (by decide +kernel) (pa_cons (pe_lc (own := [("_law_hand", 12)]) (g := gName 12) (tt := tYes) (by rfl) sc_law.nd (pi_tupK K rfl (pe_ix (ix_tupK K rfl) (pv 3) pe_int (fun _ _ => rfl))) (blkOk_by (own := [("_law_hand", 12)]) (N := N_law) (sc := defScope s_law) (by decide +kernel)) (fun _ _ _ _ _ => (pg_name (i := 12) sc_law.nd rfl (Or.inl rfl))) (fun _ _ _ _ _ => pts_nil) (fun _ _ _ _ _ => pe_int)) pa_nil)))
      (PSs.to (pss_cons (ps_if (pt_not (pt_val (pe_call G_law_like_room (hr.mono (by decide)) (by rfl) m_law_like_room F_law_like_room.kp b_law_like_room .nil pass0 (pa_cons (pe_callS G_moved (hr.mono (by decide)) (by rfl) m_moved F_moved.kp b_moved (fun σ => passAt takes0 σ) (pa_cons (pv 3) (pa_cons pe_int (pa_cons (pv 11) (pa_cons (pe_lst pa_nil) pa_nil))))) (pa_cons (pv 3) pa_nil))))) (pss_one (ps_ret pe_bl)) pss_nil)
      (pss_cons (ps_if (PW.pt (pw_and (pt_cmpR op_notN (pv 6) pe_non (nomark _)) (pw_and1 (pt_cmpR (op_neDK K rfl hr.units) (pe_call G_law_refused (hr.mono (by decide)) (by rfl) m_law_refused F_law_refused.kp b_law_refused .nil pass0 (pa_cons (pv 3) (pa_cons (pv 4) (pa_cons (pv 6) (pa_cons (pv 9) pa_nil))))) (pv 7) (nomark _))))) (pss_one (ps_ret pe_bl)) pss_nil)
      (PSs.to (pss_cons (ps_if (pt_val (pe_callB (call_isiKK K rfl) (by rfl) T.m_isinstance (by decide +kernel) (pa_cons (pv 9) (pa_cons (pe_bltn (v := .ty "list") (by rfl) T.m_list (by decide +kernel) rfl) pa_nil)))) (pss_cons (ps_set (i := 13) sc_law.nd rfl (Or.inl rfl) (pe_callS G_moved (hr.mono (by decide)) (by rfl) m_moved F_moved.kp b_moved (fun σ => passAt takes0 σ) (pa_cons (pv 3) (pa_cons (pv 4) (pa_cons (pv 5) (pa_cons (pv 9) pa_nil))))))
      (pss_cons (ps_expr (pe_bm0K K rfl PySem.F.plainAttrs_list PySem.F.slot_list_clear PySem.F.type_list_clear mt_clear (pv 9)))
      (pss_one (ps_ret (pe_call G_law_like_room (hr.mono (by decide)) (by rfl) m_law_like_room F_law_like_room.kp b_law_like_room .nil pass0 (pa_cons (pv 13) (pa_cons (pv 10) pa_nil))))))) pss_nil)
      (pss_one (ps_ret (pe_call G_law_like_room (hr.mono (by decide)) (by rfl) m_law_like_room F_law_like_room.kp b_law_like_room .nil pass0 (pa_cons (pe_callS G_moved (hr.mono (by decide)) (by rfl) m_moved F_moved.kp b_moved (fun σ => passAt takes0 σ) (pa_cons (pv 3) (pa_cons (pv 4) (pa_cons (pv 5) (pa_cons (pv 9) pa_nil))))) (pa_cons (pv 10) pa_nil)))))) R5 ?tail5))) R4 ?tail4))) R3 ?tail3)) R2 ?tail2)) R1 ?tail1))))))))), ?_⟩
  case tail5 =>
    rintro D' σ' H1 ⟨eD, f, r, sl, rl, hl, wl, st, v2, late, x, y, hs, bs, sh, rv, R, e, ms, rfl, s, hw, ah, ws⟩
    have lh := s.ok.hands
    have lb := s.ok.many
    have r20 := s.r20
    have ask : ∀ (p : Addr) (w : Int) (d : Nat) (ms' : List (List Int)) (H2 : Hp), RoomAt H2 p hs (bs.map (movB sh w ms')) → Wait hs.length sh w → Ahead hs.length sh d → WS hs bs (R ++ List.replicate d (noughts hs)) ms' → RoomAt H2 p hs (bs.map (movB sh ((R.length : Nat) : Int) ms)) := fun p w d ms' H2 hp wt' ah' ws' => by
      obtain rfl := wt'.uniq s.wt
      obtain rfl := ah'.uniq ah
      obtain ⟨rk, hrk⟩ := s.ok.rk
      obtain rfl := WS.one hrk ws' ws
      exact hp
    rcases s.hh with hh | hh
    · refine ⟨_, rfl, _, _, _, _, true, rfl, .ty "list", .base (.lst hh), kit_ty (by decide +kernel), _, rfl, if_bl (fun _ => ?_) (fun z => nomatch z)⟩
      refine ⟨_, rfl, _, rfl, _, rfl, _, rfl, ?_⟩
      dsimp only [tNil]
      refine ⟨r, sl, hl, hs, bs, hs.length, late, sh, rv, R, rfl, s.hR, s.ok, s.hsl, s.tg, fun _ _ => ⟨fun k => by have := s.bd k; omega, s.hh, s.alr, s.rr, by omega, s.wt.le⟩, fun _ _ _ ne => absurd rfl ne, fun _ _ _ _ _ _ rf => (ref_bad s.gd rf).elim, fun p w d ms' H2 _ _ hp wt' ah' ws' tg2 b2 => ?_⟩
      have hp := ask p w d ms' H2 hp wt' ah' ws'
      have hh2 := b2 _ _ hh (tab_off s.tg hh)
      have k2 := tab_tk s.tg b2
      have kL : TK H2 (upd H2 hl (.lst [])) := TK.lst hh2
      refine ⟨_, rfl, .inl ⟨rfl, _, SqL.of hh2⟩, hl, _, rfl, rfl, hh2, ?_⟩
      refine ⟨_, rfl, _, rfl, p, wl, hs, _, rfl, hp.keep kL, (hw.keep k2).keep kL, s.ok.good, lh, by rw [List.length_map]; exact lb, s.th, fun H3 _ => ?_⟩
      rw [eD]
      exact q H3
    · refine ⟨_, rfl, _, _, _, _, false, rfl, .ty "list", .base (.tup hh), kit_ty (by decide +kernel), _, rfl, if_bl (fun z => nomatch z) (fun _ => ?_)⟩
      refine ⟨_, rfl, _, rfl, _, rfl, _, rfl, ?_⟩
      dsimp only [tNil]
      refine ⟨r, sl, hl, hs, bs, hs.length, late, sh, rv, R, rfl, s.hR, s.ok, s.hsl, s.tg, fun _ _ => ⟨fun k => by have := s.bd k; omega, s.hh, s.alr, s.rr, by omega, s.wt.le⟩, fun _ _ _ ne => absurd rfl ne, fun _ _ _ _ _ _ rf => (ref_bad s.gd rf).elim, fun p w d ms' H2 _ _ hp wt' ah' ws' tg2 b2 => ?_⟩
      have hp := ask p w d ms' H2 hp wt' ah' ws'
      have k2 := tab_tk s.tg b2
      refine ⟨_, rfl, p, wl, hs, _, rfl, hp, hw.keep k2, s.ok.good, lh, by rw [List.length_map]; exact lb, s.th, fun H3 _ => ?_⟩
      rw [eD]
      exact q H3
  case tail4 =>
    rintro D' σ' H1 ⟨eD, f, r, sl, rl, hl, wl, st, v2, late, x, y, hs, bs, sh, rv, R, e, ms, rfl, s, hw, ah, ws, hst⟩
    have lh := s.ok.hands
    have lb := s.ok.many
    refine ⟨_, rfl, _, rfl, (by show 0 ≤ sizeLine; decide), fun el nel => ?_⟩
    have t1 := same_new (o := .lst []) nel
    have s2 := s.same t1
    have hel : (upd H1 el (.lst [])) el = some (.lst []) := upd_same
    generalize upd H1 el (.lst []) = H2 at t1 s2 hel ⊢
    refine ⟨r, st, el, hs, bs, hs.length, 0, fun _ => 0, [], [], rfl, s2.hR, s2.ok, t1 _ _ hst, s2.tg, fun _ _ => ⟨fun _ => ⟨by show (-50 : Int) ≤ 0; omega, by show (0 : Int) ≤ 50; omega⟩, .inl hel, .nil, fun _ z => (nomatch z), Nat.zero_le _, fun _ _ => Int.le_refl _⟩, fun _ _ _ ne => absurd rfl ne, fun _ _ _ _ _ _ rf => (ref_bad zero34 rf).elim, fun p w d ms' H3 _ _ hp wt' ah' ws' tg3 b3 => ?_⟩
    obtain rfl : w = 0 := by
      rcases wt'.at_ with z | ⟨k, _, z⟩
      · exact z
      · exact z.symm
    obtain rfl : d = 0 := by
      rcases ah'.at_ with z | ⟨k, _, z⟩
      · exact z
      · have z : (0 : Int) = -((d : Nat) : Int) := z
        omega
    obtain rfl : ms' = [] := List.eq_nil_of_length_eq_zero ws'.len
    rw [mov_zero] at hp
    have s3 := s2.but tg3 b3
    have k3 := tab_tk s2.tg b3
    have t3 : TK H1 H3 := (TK.same t1).trans k3
    refine ⟨_, rfl, p, r, hs, bs, rfl, hp, s3.hR, s3.ok.good, lh, lb, fun g hg => by have := s3.l6 g hg; omega, fun H4 e4 => ?_⟩
    refine ⟨_, rfl, if_bl (fun z => nomatch z) (fun _ => ?_)⟩
    have s4 := s3.same e4
    have t4 := t3.trans (TK.same e4)
    have fin : ∀ H5 : Hp, S34 H5 PT r sl rl hl hs bs late sh rv R x y → TK H4 H5 → R5 D' (sg f v2 r late sl x y rl hl (some (.ref wl)) (some (.ref st)) none none) H5 := fun H5 s5 k5 => ⟨eD, f, r, sl, rl, hl, wl, st, v2, late, x, y, hs, bs, sh, rv, R, e, ms, rfl, s5, (hw.keep t4).keep k5, ah, ws⟩
    rcases id s4.bad with ⟨rfl, rfl⟩ | ⟨bl, dl, tl, m, sn, wd, ks, rfl, rfl, h1, h2, h3, h4⟩
    · exact ⟨_, rfl, rfl, _, rfl, if_bl (fun z => nomatch z) (fun _ => if_bl (fun z => nomatch z) (fun _ => fin H4 s4 fun _ _ z => z))⟩
    refine ⟨_, rfl, rfl, _, rfl, if_bl (fun _ => ?_) (fun z => nomatch z)⟩
    refine ⟨_, rfl, _, rfl, _, rfl, _, rfl, r, bl, hl, hs, bs, m, late, sn, rfl, s4.hR, s4.ok, h1, s4.tg, fun em gd => ?_, fun p t wd' ks' H5 hp ht res tg5 b5 => ?_⟩
    · rcases h4 with ⟨ne, _, _⟩ | ⟨_, ng, _⟩
      · exact ne em
      · exact ng gd
    have k5 := tab_tk s4.tg b5
    have s5 := s4.but tg5 b5
    obtain ⟨rfl, rfl, hl0⟩ : wd' = wd ∧ ks' = ks ∧ PyData.canLay0 (.str wd) = true := by
      rcases h4 with ⟨ne, rfl, rfl⟩ | ⟨em, _, k, rfl, hwd, one⟩
      · rcases res with ⟨_, rfl, rfl⟩ | ⟨em, _⟩
        · exact ⟨rfl, rfl, by decide +kernel⟩
        · exact absurd em ne
      · rcases res with ⟨ne, _⟩ | ⟨_, k', rfl, rf⟩
        · exact absurd em ne
        · obtain ⟨rfl, rfl⟩ := one _ _ rf
          refine ⟨rfl, rfl, ?_⟩
          rcases hwd with rfl | rfl
          · decide +kernel
          · decide +kernel
    refine ⟨_, rfl, _, _, ref_dp hp ht, ref_dp (k5 _ _ h2) (k5 _ _ h3), ref_shaped hl0, ref_shaped hl0, _, rfl, ?_⟩
    rw [SeqAt.eqv_refl _ (ref_lay hl0)]
    exact if_bl (fun z => nomatch z) (fun _ => fin H5 s5 k5)
  case tail3 =>
    rintro D' σ' H1 ⟨eD, f, r, sl, rl, hl, wl, v2, late, x, y, hs, bs, sh, rv, R, e, ms, rfl, s, hw, ah, ws⟩
    have lh := s.ok.hands
    have lb := s.ok.many
    have r20 := s.r20
    refine ⟨_, rfl, _, rfl, _, rfl, _, rfl, ?_⟩
    dsimp only [tNil]
    refine ⟨r, sl, hl, hs, bs, hs.length, late, sh, rv, R, rfl, s.hR, s.ok, s.hsl, s.tg, fun _ _ => ⟨fun k => by have := s.bd k; omega, s.hh, s.alr, s.rr, by omega, s.wt.le⟩, fun _ _ _ ne => absurd rfl ne, fun _ _ _ _ _ _ rf => (ref_bad s.gd rf).elim, fun p w d ms' H2 _ _ hp wt' ah' ws' tg2 b2 => ?_⟩
    obtain rfl := wt'.uniq s.wt
    obtain rfl := ah'.uniq ah
    obtain ⟨rk, hrk⟩ := s.ok.rk
    obtain rfl := WS.one hrk ws' ws
    have k2 := tab_tk s.tg b2
    have s2 := s.but tg2 b2
    refine ⟨_, rfl, p, wl, hs, _, rfl, hp, hw.keep k2, s.ok.good, lh, by rw [List.length_map]; exact lb, s.th, fun H3 e3 => ?_⟩
    refine ⟨_, rfl, if_bl (fun z => nomatch z) (fun _ => ?_)⟩
    have s3 := s2.same e3
    have k3 := k2.trans (TK.same e3)
    refine ⟨_, rfl, hl, rv, rfl, s3.hh.imp SqL.of SqT.of, fun p4 np4 => ?_⟩
    have t4 := same_new (o := .lst rv) np4
    have hp4 : (upd H3 p4 (.lst rv)) p4 = some (.lst rv) := upd_same
    have s4 := s3.same t4
    have k4 := k3.trans (TK.same t4)
    generalize upd H3 p4 (.lst rv) = H4 at t4 hp4 s4 k4 ⊢
    refine ⟨_, rfl, _, _, .lst (SqL.of hp4) (rows_dp s4.alr), .lst (SqL.of s4.hrl) (rows_dp s4.alr), rows_shaped R, rows_shaped R, _, rfl, ?_⟩
    rw [SeqAt.eqv_refl _ (rows_lay R)]
    refine if_bl (fun z => nomatch z) (fun _ => ?_)
    obtain ⟨ha, ba, hv, bv, er, eh, eb, alh, alb⟩ := id s4.hR.ex
    have lhv := alh.length
    refine ⟨_, rfl, r, _, _, _, rfl, rfl, SqT.of er, atI_nat (j := 0) rfl, ha, rfl, ⟨_, SqT.of eh⟩, fun D nD => lc_tup (K := K) (a := ha) (xs := hv) (fun i H5 => H5 D = some (.lst ((List.range i).map fun k => V.int 0)) ∧ Same H4 H5) ⟨upd_same, same_new nD⟩ (fun i H5 _ ⟨_, s5⟩ => SqT.of (s5 _ _ eh)) ?_ ?_⟩
    · rintro i x H5 hx ⟨hD, s5⟩
      have il := (List.getElem?_eq_some_iff.mp hx).1
      refine ⟨rfl, yes_in ⟨_, hD, by rw [List.length_map, List.length_range]; exact small1000 (by omega), ?_, Same.own s5 nD⟩⟩
      rw [upd_same, List.range_succ, List.map_append]
      rfl
    rintro H5 ⟨hD, s5⟩
    rw [lhv] at hD
    refine ⟨D, _, rfl, .inl ⟨SqL.of hD, fun st nst => ?_⟩⟩
    have t6 := s5.trans (same_new (o := .tup (levL hs.length fun _ => 0)) nst)
    exact ⟨eD, f, r, sl, rl, hl, wl, st, v2, late, x, y, hs, bs, sh, rv, R, _, _, rfl, s4.same t6, hw.keep (k4.trans (TK.same t6)), ah, ws, upd_same⟩
  case tail2 =>
    rintro D' σ' H1 ⟨eD, f, r, sl, rl, hl, v2, late, x, y, hs, bs, sh, rv, R, rfl, s⟩
    have r20 := s.r20
    refine ⟨_, rfl, _, rfl, _, rfl, r, sl, rl, hs, bs, sh, rv, R, rfl, s.hR, s.ok, s.hsl, s.gd.tr, fun k => by have := s.bd k; omega, s.hrl, s.alr, s.rr, by omega, s.wt, fun wl e ms H2 hw ah ws s2 => ?_⟩
    exact ⟨eD, f, r, sl, rl, hl, wl, v2, late, x, y, hs, bs, sh, rv, R, e, ms, rfl, s.same s2, hw, ah, ws⟩
  case tail1 =>
    rintro D' σ' H1 ⟨eD, f, r, sl, rl, hl, v2, late, x, y, hs, bs, sh, rv, R, rfl, s⟩
    have lh := s.ok.hands
    have fin : ∀ H5 : Hp, S34 H5 PT r sl rl hl hs bs late sh rv R x y → R2 D' (sg f v2 r late sl x y rl hl none none none none) H5 := fun H5 s5 => ⟨eD, f, r, sl, rl, hl, v2, late, x, y, hs, bs, sh, rv, R, rfl, s5⟩
    rcases id s.bad with ⟨rfl, rfl⟩ | ⟨bl, dl, tl, m, sn, wd, ks, rfl, rfl, h1, h2, h3, h4⟩
    · exact ⟨_, rfl, rfl, _, rfl, if_bl (fun z => nomatch z) (fun _ => if_bl (fun z => nomatch z) (fun _ => fin H1 s))⟩
    refine ⟨_, rfl, rfl, _, rfl, if_bl (fun _ => ?_) (fun z => nomatch z)⟩
    refine ⟨_, rfl, _, rfl, _, rfl, _, rfl, r, bl, hl, hs, bs, m, late, sn, rfl, s.hR, s.ok, h1, s.tg, fun em gd => ?_, fun p t wd' ks' H5 hp ht res tg5 b5 => ?_⟩
    · rcases h4 with ⟨ne, _, _⟩ | ⟨_, ng, _⟩
      · exact ne em
      · exact ng gd
    have k5 := tab_tk s.tg b5
    have s5 := s.but tg5 b5
    obtain ⟨rfl, rfl, hl0⟩ : wd' = wd ∧ ks' = ks ∧ PyData.canLay0 (.str wd) = true := by
      rcases h4 with ⟨ne, rfl, rfl⟩ | ⟨em, _, k, rfl, hwd, one⟩
      · rcases res with ⟨_, rfl, rfl⟩ | ⟨em, _⟩
        · exact ⟨rfl, rfl, by decide +kernel⟩
        · exact absurd em ne
      · rcases res with ⟨ne, _⟩ | ⟨_, k', rfl, rf⟩
        · exact absurd em ne
        · obtain ⟨rfl, rfl⟩ := one _ _ rf
          refine ⟨rfl, rfl, ?_⟩
          rcases hwd with rfl | rfl
          · decide +kernel
          · decide +kernel
    refine ⟨_, rfl, _, _, ref_dp hp ht, ref_dp (k5 _ _ h2) (k5 _ _ h3), ref_shaped hl0, ref_shaped hl0, _, rfl, ?_⟩
    rw [SeqAt.eqv_refl _ (ref_lay hl0)]
    exact if_bl (fun z => nomatch z) (fun _ => fin H5 s5)
  refine ⟨_, rfl, a, ns, rfl, hS, fun f c H1 nf nc F1 s1 => ?_⟩
  have tg1 := same_tab tg s1
  have fP : f ≠ PT := fun z => by obtain ⟨ps, e, _⟩ := tg; rw [z, e] at nf; cases nf
  refine ⟨_, rfl, f, c, 3, rfl, by decide, by decide +kernel, F1, fun v2 H2 x0 x1 F2 B2 => ?_⟩
  have tg2 := tab_but tg1 fP B2
  refine ⟨_, rfl, f, c, 5, rfl, by decide, by decide, F2, fun r hs bs H3 hR ok some1 l6 F3 B3 => ?_⟩
  have lh := ok.hands
  have tg3 := tab_but tg2 fP B3
  refine ⟨_, rfl, f, c, 7, rfl, by decide, by decide +kernel, F3, fun late H4 v0 v1 F4 B4 => ?_⟩
  have tg4 := tab_but tg3 fP B4
  refine ⟨_, rfl, _, rfl, _, rfl, _, rfl, f, c, 31, rfl, by decide, by decide +kernel, F4, fun v5 H5 w0 w1 F5 B5 => ?_⟩
  have tg5 := tab_but tg4 fP B5
  have k5 : TK H3 H5 := (TK.but F3 B4).trans (TK.but F4 B5)
  refine ⟨f, c, r, hs, bs, late, v5, rfl, F5, hR.keep k5, ok, some1, v0, by omega, w0, by omega, fun sl sh H6 hsl gd bd F6 B6 => ?_⟩
  have tg6 := tab_but tg5 fP B6
  have hR6 := (hR.keep k5).keep (TK.but F5 B6)
  refine ⟨_, rfl, _, rfl, _, rfl, f, c, r, sl, hs, bs, late, sh, rfl, F6, hR6, ok, some1, hsl, gd, fun p x y H7 hp bad F7 B7 => ?_⟩
  have tg7 := tab_but tg6 fP B7
  have k7 := TK.but F6 B7
  refine ⟨p, _, rfl, SqT.of hp, rfl, _, _, rfl, _, _, rfl, rfl, ?_⟩
  refine ⟨_, rfl, _, rfl, (by show 1 ≤ sizeLine; decide), fun z0 nz => ?_⟩
  have u1 := same_new (o := .lst [V.int 0]) nz
  refine ⟨_, rfl, sl, _, rfl, .inr (SqT.of (u1 _ _ (k7 _ _ hsl))), fun l nl => ?_⟩
  have u2 := same_new (o := .lst (levL hs.length sh)) nl
  refine ⟨z0, l, _, _, rfl, rfl, u2 _ _ upd_same, upd_same, by rw [levL_len]; exact little (by show 1 + _ ≤ 1000; omega), fun p9 np9 => ?_⟩
  have u3 := same_new (o := .lst ([V.int 0] ++ levL hs.length sh)) np9
  refine ⟨p9, 0 :: (List.range hs.length).map sh, rfl, SqL.of (by rw [upd_same, List.map_cons, ← levL_ints]; rfl), by simp, fun m hm hle => ?_⟩
  have u := (u1.trans u2).trans u3
  have wt := Wait.of hm hle
  generalize upd _ p9 _ = H8 at u
  have F8 := F7.same u
  have k8 := k7.trans (TK.same u)
  obtain ⟨N, rfl⟩ : ∃ N : Nat, m = ((N : Nat) : Int) := ⟨m.toNat, by have := wt.nn; omega⟩
  have N20 : N ≤ 20 := by
    rcases wt.at_ with z | ⟨k, _, z⟩
    · omega
    · have := bd k; omega
  refine ⟨f, c, r, hs, bs, ((N : Nat) : Int), rfl, by omega, by omega, F8, hR6.keep k8, lh, ok.good, fun rl rv R H9 nrl hrl alr lr rok F9 B9 => ?_⟩
  have tg9 := tab_but (same_tab tg7 u) fP B9
  have k9 := k8.trans (TK.but F8 B9)
  have bad9 := (bad.keep (TK.same u)).keep (TK.but F8 B9)
  have lR : R.length = N := by rw [lr, Int.toNat_natCast]
  subst lR
  refine ⟨_, rfl, rl, rv, rfl, .inl (SqL.of hrl), fun l1 nl1 => ?_⟩
  have y1 := same_new (o := .lst rv) nl1
  have hl1 : (upd H9 l1 (.lst rv)) l1 = some (.lst rv) := upd_same
  generalize upd H9 l1 (.lst rv) = H10 at y1 hl1 ⊢
  refine ⟨_, rfl, rl, rv, rfl, .inl ⟨SqL.of (y1 _ _ hrl), fun l2 nl2 => ?_⟩⟩
  have y2 := same_new (o := .tup rv) nl2
  have hl2 : (upd H10 l2 (.tup rv)) l2 = some (.tup rv) := upd_same
  generalize upd H10 l2 (.tup rv) = H11 at y2 hl2 ⊢
  refine ⟨_, rfl, rl, rv, rfl, .inl (SqL.of (y2 _ _ (y1 _ _ hrl))), fun l3 nl3 => ?_⟩
  have y3 := same_new (o := .lst rv) nl3
  have hl3 : (upd H11 l3 (.lst rv)) l3 = some (.lst rv) := upd_same
  generalize upd H11 l3 (.lst rv) = H12 at y3 hl3 ⊢
  refine ⟨(by show 3 ≤ sizeLine; decide), fun L nL => ?_⟩
  have y4 := same_new (o := .lst [V.ref l1, V.ref l2, V.ref l3]) nL
  have hL : (upd H12 L (.lst [V.ref l1, V.ref l2, V.ref l3])) L = some (.lst [V.ref l1, V.ref l2, V.ref l3]) := upd_same
  generalize upd H12 L _ = H13 at y4 hL ⊢
  have yy := ((y1.trans y2).trans y3).trans y4
  have fin : ∀ hl : Addr, (H13 hl = some (.lst rv) ∨ H13 hl = some (.tup rv)) → S34 H13 PT r sl rl hl hs bs late sh rv R x y := fun hl hh => ⟨(hR6.keep k9).keep (TK.same yy), ok, l6, gd, bd, yy _ _ (k9 _ _ hsl), wt, yy _ _ hrl, alr.imp fun _ _ z => z.keep (TK.same yy), fun x hx => (rok x hx).1, hh, same_tab tg9 yy, bad9.keep (TK.same yy)⟩
  rcases (show v2 = 0 ∨ v2 = 1 ∨ v2 = 2 by omega) with rfl | rfl | rfl
  · exact ⟨_, rfl, L, _, _, _, rfl, rfl, SqL.of hL, atI_nat (j := 0) rfl, rfl, f, r, sl, rl, l1, 0, late, x, y, hs, bs, sh, rv, R, rfl, fin l1 (.inl (((y2.trans y3).trans y4) _ _ hl1))⟩
  · exact ⟨_, rfl, L, _, _, _, rfl, rfl, SqL.of hL, atI_nat (j := 1) rfl, rfl, f, r, sl, rl, l2, 1, late, x, y, hs, bs, sh, rv, R, rfl, fin l2 (.inr ((y3.trans y4) _ _ hl2))⟩
  · exact ⟨_, rfl, L, _, _, _, rfl, rfl, SqL.of hL, atI_nat (j := 2) rfl, rfl, f, r, sl, rl, l3, 2, late, x, y, hs, bs, sh, rv, R, rfl, fin l3 (.inl (y4 _ _ hl3))⟩
end
/-! ### the class of own errors, looked at in the head -/
def oexB (K : PySem.W.Frag) (C : Addr) : Bool := match K.lookup C with
  | some o => (match o.cls, o.data, o.slots.toList with
    | .type t, .cls cd, [_, _, _, _, some (.builtin n), _] => decide (t = "type") && (decide (n = "ValueError.__new__") && (!cd.hasDel && (cd.hasDict && (match cd.mro with
      | .ref C' :: bm => decide (C' = C) && PySem.HandSPX.refsVE bm
      | _ => false))))
    | _, _, _ => false)
  | none => false
theorem oexB_ok {K : PySem.W.Frag} {C : Addr} (h : oexB K C = true) : ∃ nm q N bs bm sn sub ab col dd k0 k1 k2 k3 k5, K.lookup C = some (excClassObj nm q C N bs bm true sn sub ab col dd k0 k1 k2 k3 k5 "ValueError.__new__") ∧ PySem.HandSPX.refsVE bm = true := by
  unfold oexB at h
  split at h
  · rename_i o ho
    split at h
    · rename_i t cd k0 k1 k2 k3 n k5 e1 e2 hs
      simp only [Bool.and_eq_true, decide_eq_true_eq, Bool.not_eq_true'] at h
      obtain ⟨q1, q2, q3, q4, q5⟩ := h
      split at q5
      · rename_i C' bm e3
        simp only [Bool.and_eq_true, decide_eq_true_eq] at q5
        obtain ⟨oc, od, odt, osl⟩ := o
        obtain ⟨nm, bs, mro, ns, qn, hd, sn, sub, ab, col, del⟩ := cd
        obtain ⟨l⟩ := osl
        dsimp only at e1 e2 e3 hs q3 q4
        have hs : l = [k0, k1, k2, k3, some (.builtin n), k5] := hs
        rw [e1, e2, e3, hs, q1, q2, q3, q4, q5.1] at ho
        exact ⟨nm, qn, ns, bs, bm, sn, sub, ab, col, od, k0, k1, k2, k3, k5, ho, q5.2⟩
      · cases q5
    · cases h
  · cases h
/-- all that is asked of the class named x, its __init__ at f -/
def ownB (K : PySem.W.Frag) (C f : Addr) : List Bool := [oexB K C,
  decide (PySem.W.findIn K (.ref C) "__setattr__" = some (some (.builtin "object.__setattr__"))),
  decide (PySem.W.subIn K (.ref C) (.type "BaseException") = some true),
  decide (PySem.W.typeIn K (.ref C) = some (.type "type")),
  PySem.W.keepIn K (.ref C),
  decide (PySem.W.findIn K (.ref C) "__init__" = some (some (.ref f))),
  decide (PySem.W.typeIn K (.ref f) = some (.type "function")),
  decide (PySem.W.findIn K (.ref C) "__getattribute__" = some (some (.builtin "BaseException.__getattribute__"))),
  decide (PySem.W.findIn K (.ref C) "__getattr__" = some none),
  PySem.W.hasDictIn K C,
  decide (PySem.W.findIn K (.ref C) "__class__" = some (some (.builtin "object.__class__"))),
  decide (PySem.W.specialIn K (.builtin "object.__class__") "__get__" = some (some (.builtin "getset_descriptor.__get__"))),
  decide (PySem.W.takesIn K (.builtin "object.__class__") = some true),
  decide (PySem.W.mroIn K C (.type "object") = some true),
  decide (PySem.W.kitOne K (.ref C) (.ref C) = some true),
  decide (PySem.W.kitOne K (.ref C) (.type "ValueError") = some true),
  decide (PySem.W.findIn K (.ref C) "word" = some none),
  decide (PySem.W.findIn K (.ref C) "at" = some none)]
def nsB (K : PySem.W.Frag) : Bool := (ownB K (He.ga K "NoShift") (He.fAd K ("NoShift", some "__init__"))).all id && decide (PySem.W.exmOne K (.ref (He.ga K "NoShift")) (.ref (He.ga K "BeltError")) = some true)
theorem nsB_ok {K : PySem.W.Frag} {mg : Str → Option Value} {fd : FuncData} (h : nsB K = true) (gC : mg "NoShift" = some (.ref (He.ga K "NoShift"))) (gB : mg "BeltError" = some (.ref (He.ga K "BeltError"))) (F : Fun K "__init__" "NoShift.__init__" s_NoShift_init (He.fAd K ("NoShift", some "__init__")) fd) (b : Binds K fd ["self", "word", "at"] []) : NsC K mg (He.ga K "NoShift") (He.ga K "BeltError") (He.fAd K ("NoShift", some "__init__")) fd := by
  unfold nsB at h
  generalize He.ga K "NoShift" = C at *
  generalize He.ga K "BeltError" = CB at *
  generalize He.fAd K ("NoShift", some "__init__") = f at *
  obtain ⟨h, te⟩ := Bool.and_eq_true_iff.mp h
  have all := List.all_eq_true.mp h
  have at_ : ∀ (i : Nat) (z : Bool), (ownB K C f)[i]? = some z → z = true := fun i z e => all z (List.mem_of_getElem? e)
  have d : ∀ {p : Prop} [Decidable p], decide p = true → p := fun h => of_decide_eq_true h
  have w1 := d (at_ 1 _ rfl)
  have w2 := d (at_ 2 _ rfl)
  have w3 := d (at_ 3 _ rfl)
  have w4 := at_ 4 _ rfl
  have w7 := d (at_ 7 _ rfl)
  have w8 := d (at_ 8 _ rfl)
  have w9 := at_ 9 _ rfl
  exact ⟨gC, gB, ⟨oexB_ok (at_ 0 _ rfl), w1, w2, w3, w4⟩, d (at_ 16 _ rfl), d (at_ 17 _ rfl), d (at_ 5 _ rfl), d (at_ 6 _ rfl), F, b, of_decide_eq_true te, ⟨w7, w8, w2, w9⟩, ⟨w7, w8, w2, w9, d (at_ 10 _ rfl), d (at_ 11 _ rfl), d (at_ 12 _ rfl), d (at_ 13 _ rfl)⟩, d (at_ 14 _ rfl), d (at_ 15 _ rfl)⟩
theorem fun_of_D {K : PySem.W.Frag} {x q : Str} {st : Stmt} {f : Addr} {fd : FuncData} (D : FunD K x q (defArgs st) (defBody st) (defScope st) [] [] f fd) : Fun K x q st f fd := by
  obtain ⟨⟨oc, od, dV, kV, doc, pm, an, cdv, ct, osl, e, lk, ci, dfl, _⟩, kp⟩ := D
  have z : dV = .none := by
    rcases dfl with ⟨_, h⟩ | ⟨h, _⟩
    · exact h
    · exact absurd rfl h
  subst z
  exact ⟨⟨oc, od, kV, doc, pm, an, cdv, ct, osl, e, lk, ci⟩, kp⟩
def hd_is_whole : He.DefD := ⟨("is_whole", none), "is_whole", "is_whole", defArgs s_is_whole, defBody s_is_whole, defScope s_is_whole, [], []⟩
def hd_made_by : He.DefD := ⟨("made_by", none), "made_by", "made_by", defArgs s_made_by, defBody s_made_by, defScope s_made_by, [], []⟩
def hd_made_of_two : He.DefD := ⟨("made_of_two", none), "made_of_two", "made_of_two", defArgs s_made_of_two, defBody s_made_of_two, defScope s_made_of_two, [], []⟩
def hd_comings : He.DefD := ⟨("comings", none), "comings", "comings", defArgs s_comings, defBody s_comings, defScope s_comings, [], []⟩
def hd_doors_in : He.DefD := ⟨("doors_in", none), "doors_in", "doors_in", defArgs s_doors_in, defBody s_doors_in, defScope s_doors_in, [], []⟩
def hd_doors_out : He.DefD := ⟨("doors_out", none), "doors_out", "doors_out", defArgs s_doors_out, defBody s_doors_out, defScope s_doors_out, [], []⟩
def hd_work_order : He.DefD := ⟨("work_order", none), "work_order", "work_order", defArgs s_work_order, defBody s_work_order, defScope s_work_order, [], []⟩
def hd_worked : He.DefD := ⟨("worked", none), "worked", "worked", defArgs s_worked, defBody s_worked, defScope s_worked, [], []⟩
def hd_work_plan : He.DefD := ⟨("work_plan", none), "work_plan", "work_plan", defArgs s_work_plan, defBody s_work_plan, defScope s_work_plan, [], []⟩
def hd_made_at_bell : He.DefD := ⟨("made_at_bell", none), "made_at_bell", "made_at_bell", defArgs s_made_at_bell, defBody s_made_at_bell, defScope s_made_at_bell, [], []⟩
def hd_thing_taken : He.DefD := ⟨("thing_taken", none), "thing_taken", "thing_taken", defArgs s_thing_taken, defBody s_thing_taken, defScope s_thing_taken, [], []⟩
def hd_behind_bell : He.DefD := ⟨("behind_bell", none), "behind_bell", "behind_bell", defArgs s_behind_bell, defBody s_behind_bell, defScope s_behind_bell, [], []⟩
def hd_belt_behind_bell : He.DefD := ⟨("belt_behind_bell", none), "belt_behind_bell", "belt_behind_bell", defArgs s_belt_behind_bell, defBody s_belt_behind_bell, defScope s_belt_behind_bell, [], []⟩
def hd_look_shifts : He.DefD := ⟨("look_shifts", none), "look_shifts", "look_shifts", defArgs s_look_shifts, defBody s_look_shifts, defScope s_look_shifts, [], []⟩
def hd_refuse_shifts : He.DefD := ⟨("refuse_shifts", none), "refuse_shifts", "refuse_shifts", defArgs s_refuse_shifts, defBody s_refuse_shifts, defScope s_refuse_shifts, [], []⟩
def hd_is_shifts : He.DefD := ⟨("is_shifts", none), "is_shifts", "is_shifts", defArgs s_is_shifts, defBody s_is_shifts, defScope s_is_shifts, [], []⟩
def hd_wrong_door : He.DefD := ⟨("wrong_door", none), "wrong_door", "wrong_door", defArgs s_wrong_door, defBody s_wrong_door, defScope s_wrong_door, [], []⟩
def hd_short_belt : He.DefD := ⟨("short_belt", none), "short_belt", "short_belt", defArgs s_short_belt, defBody s_short_belt, defScope s_short_belt, [], []⟩
def hd_waits : He.DefD := ⟨("waits", none), "waits", "waits", defArgs s_waits, defBody s_waits, defScope s_waits, [], []⟩
def hd_trays_moved : He.DefD := ⟨("trays_moved", none), "trays_moved", "trays_moved", defArgs s_trays_moved, defBody s_trays_moved, defScope s_trays_moved, [], []⟩
def hd_moved : He.DefD := ⟨("moved", none), "moved", "moved", defArgs s_moved, defBody s_moved, defScope s_moved, [], []⟩
def hd_rows_on : He.DefD := ⟨("rows_on", none), "rows_on", "rows_on", defArgs s_rows_on, defBody s_rows_on, defScope s_rows_on, [], []⟩
def hd_taken_at : He.DefD := ⟨("taken_at", none), "taken_at", "taken_at", defArgs s_taken_at, defBody s_taken_at, defScope s_taken_at, [], []⟩
def hd_law_flow : He.DefD := ⟨("_law_flow", none), "_law_flow", "_law_flow", defArgs s_law_flow, defBody s_law_flow, defScope s_law_flow, [], []⟩
def hd_law_pick : He.DefD := ⟨("_law_pick", none), "_law_pick", "_law_pick", defArgs s_law_pick, defBody s_law_pick, defScope s_law_pick, [], []⟩
def hd_law_thing : He.DefD := ⟨("_law_thing", none), "_law_thing", "_law_thing", defArgs s_law_thing, defBody s_law_thing, defScope s_law_thing, [], []⟩
def hd_law_needs : He.DefD := ⟨("_law_needs", none), "_law_needs", "_law_needs", defArgs s_law_needs, defBody s_law_needs, defScope s_law_needs, [], []⟩
def hd_law_rule : He.DefD := ⟨("_law_rule", none), "_law_rule", "_law_rule", defArgs s_law_rule, defBody s_law_rule, defScope s_law_rule, [], []⟩
def hd_law_shuffled : He.DefD := ⟨("_law_shuffled", none), "_law_shuffled", "_law_shuffled", defArgs s_law_shuffled, defBody s_law_shuffled, defScope s_law_shuffled, [], []⟩
def hd_law_hands : He.DefD := ⟨("_law_hands", none), "_law_hands", "_law_hands", defArgs s_law_hands, defBody s_law_hands, defScope s_law_hands, [], []⟩
def hd_law_room : He.DefD := ⟨("_law_room", none), "_law_room", "_law_room", defArgs s_law_room, defBody s_law_room, defScope s_law_room, [], []⟩
def hd_law_rows : He.DefD := ⟨("_law_rows", none), "_law_rows", "_law_rows", defArgs s_law_rows, defBody s_law_rows, defScope s_law_rows, [], []⟩
def hd_law_made_by : He.DefD := ⟨("_law_made_by", none), "_law_made_by", "_law_made_by", defArgs s_law_made_by, defBody s_law_made_by, defScope s_law_made_by, [], []⟩
def hd_law_worked : He.DefD := ⟨("_law_worked", none), "_law_worked", "_law_worked", defArgs s_law_worked, defBody s_law_worked, defScope s_law_worked, [], []⟩
def hd_law_trays : He.DefD := ⟨("_law_trays", none), "_law_trays", "_law_trays", defArgs s_law_trays, defBody s_law_trays, defScope s_law_trays, [], []⟩
def hd_law_shifts : He.DefD := ⟨("_law_shifts", none), "_law_shifts", "_law_shifts", defArgs s_law_shifts, defBody s_law_shifts, defScope s_law_shifts, [], []⟩
def hd_law_whole : He.DefD := ⟨("_law_whole", none), "_law_whole", "_law_whole", defArgs s_law_whole, defBody s_law_whole, defScope s_law_whole, [], []⟩
def hd_law_like_room : He.DefD := ⟨("_law_like_room", none), "_law_like_room", "_law_like_room", defArgs s_law_like_room, defBody s_law_like_room, defScope s_law_like_room, [], []⟩
def hd_law_moved : He.DefD := ⟨("_law_moved", none), "_law_moved", "_law_moved", defArgs s_law_moved, defBody s_law_moved, defScope s_law_moved, [], []⟩
def hd_law_refused : He.DefD := ⟨("_law_refused", none), "_law_refused", "_law_refused", defArgs s_law_refused, defBody s_law_refused, defScope s_law_refused, [], []⟩
def hd_law_fault : He.DefD := ⟨("_law_fault", none), "_law_fault", "_law_fault", defArgs s_law_fault, defBody s_law_fault, defScope s_law_fault, [], []⟩
def hd_law : He.DefD := ⟨("law", none), "law", "law", defArgs s_law, defBody s_law, defScope s_law, [], []⟩
def hd_NsInit : He.DefD := ⟨("NoShift", some "__init__"), "__init__", "NoShift.__init__", defArgs s_NoShift_init, defBody s_NoShift_init, defScope s_NoShift_init, [], []⟩
def hFn : List He.DefD := [hd_is_whole, hd_made_by, hd_made_of_two, hd_comings, hd_doors_in, hd_doors_out, hd_work_order, hd_worked, hd_work_plan, hd_made_at_bell, hd_thing_taken, hd_behind_bell, hd_belt_behind_bell, hd_look_shifts, hd_refuse_shifts, hd_is_shifts, hd_wrong_door, hd_short_belt, hd_waits, hd_trays_moved, hd_moved, hd_rows_on, hd_taken_at, hd_law_flow, hd_law_pick, hd_law_thing, hd_law_needs, hd_law_rule, hd_law_shuffled, hd_law_hands, hd_law_room, hd_law_rows, hd_law_made_by, hd_law_worked, hd_law_trays, hd_law_shifts, hd_law_whole, hd_law_like_room, hd_law_moved, hd_law_refused, hd_law_fault, hd_law, hd_NsInit]
def hFa : List He.Fa := [.glo "is_whole", .glo "made_by", .glo "made_of_two", .glo "comings", .glo "doors_in", .glo "doors_out", .glo "work_order", .glo "worked", .glo "work_plan", .glo "made_at_bell", .glo "thing_taken", .glo "behind_bell", .glo "belt_behind_bell", .glo "look_shifts", .glo "refuse_shifts", .glo "is_shifts", .glo "wrong_door", .glo "short_belt", .glo "waits", .glo "trays_moved", .glo "moved", .glo "rows_on", .glo "taken_at", .glo "_law_flow", .glo "_law_pick", .glo "_law_thing", .glo "_law_needs", .glo "_law_rule", .glo "_law_shuffled", .glo "_law_hands", .glo "_law_room", .glo "_law_rows", .glo "_law_made_by", .glo "_law_worked", .glo "_law_trays", .glo "_law_shifts", .glo "_law_whole", .glo "_law_like_room", .glo "_law_moved", .glo "_law_refused", .glo "_law_fault", .glo "law", .free "ValueError", .free "abs", .free "all", .free "bool", .free "dict", .free "enumerate", .free "int", .free "isinstance", .free "len", .free "list", .free "max", .free "min", .free "range", .free "tuple", .free "zip", .glo "IN_RULE", .glo "OUT_RULE", .glo "NoShift", .glo "BeltError"]
def hEx (K : PySem.W.Frag) : Bool := He.tupB K "IN_RULE" [.str "in"] && He.tupB K "OUT_RULE" [.str "out"] && nsB K
def hTf : List (Str × Option Str) := [("is_shifts", none)]
abbrev hR : PySem.W.OpenRow := PySem.W.OpenLaw.row PySem.Challenge.rw_beltshift_k34_moved_things
abbrev hk : PySem.W.Hook := He.hookX 4 hFa hFn [] hTf hEx
def hOb (s : PySem.W.SharedT) : He.AlX := He.obsX 4 hFa hFn [] hTf hEx (HandSHeadRun.getT s)
theorem hOb_eq (s : PySem.W.SharedT) : hOb s = hk.obs s.abs := He.obsX_eq (HandSHeadRun.getT_eq s)
def hN0 : List Str := ["BeltError", "NoShift", "is_whole", "made_by", "made_of_two", "IN_RULE", "OUT_RULE", "comings", "doors_in", "doors_out", "work_order", "worked", "work_plan", "made_at_bell", "thing_taken", "behind_bell", "belt_behind_bell", "look_shifts", "refuse_shifts", "is_shifts", "wrong_door", "short_belt", "waits", "trays_moved", "moved", "rows_on", "taken_at", "_law_flow", "_law_pick", "_law_thing"]
def hN1 : List Str := ["_law_needs", "_law_rule", "_law_shuffled", "_law_hands", "_law_room", "_law_rows", "_law_made_by", "_law_worked", "_law_trays", "_law_shifts", "_law_whole", "_law_like_room", "_law_moved", "_law_refused", "_law_fault"]
def hNames : List Str := hN0 ++ hN1
set_option maxHeartbeats 0 in
theorem hRun (w : World) : HandSHeadRun.RunEq hR (PySem.W.view hR.prog [54]) hk hOb 40000 hNames w := by
  intro os
  kernel_rfl
set_option maxHeartbeats 0 in
theorem all_mkX {w : World} {K : PySem.W.Frag} {h : Heap} {mg : Str → Option Value} {fa : Addr} (X : K.In h) (G : h.Ns mainGlobals mg) (hfa : mg "law" = some (.ref fa)) (c : He.SaysX hFa hFn [] hTf hEx w h K) : LamX.LawAtS PySem.Challenge.rw_beltshift_k34_moved_things w K CX0 7 63 "_law_script" mg fa h := by
  have cd := c.t.d
  obtain ⟨fd0, D0⟩ := cd.def_ 0 (d := hd_is_whole) rfl
  have F0 : Fun K "is_whole" "is_whole" s_is_whole (He.ga K "is_whole") fd0 := fun_of_D D0
  have g0 : mg "is_whole" = some (.ref (He.ga K "is_whole")) := He.glo_ok X G (cd.fact 0 (f := .glo "is_whole") rfl)
  have b0 := F0.binds (ps := ["thing"]) fun _ _ _ _ _ _ us hl => match us, hl with | [_], _ => rfl
  obtain ⟨fd1, D1⟩ := cd.def_ 1 (d := hd_made_by) rfl
  have F1 : Fun K "made_by" "made_by" s_made_by (He.ga K "made_by") fd1 := fun_of_D D1
  have g1 : mg "made_by" = some (.ref (He.ga K "made_by")) := He.glo_ok X G (cd.fact 1 (f := .glo "made_by") rfl)
  have b1 := F1.binds (ps := ["rule", "things"]) fun _ _ _ _ _ _ us hl => match us, hl with | [_, _], _ => rfl
  obtain ⟨fd2, D2⟩ := cd.def_ 2 (d := hd_made_of_two) rfl
  have F2 : Fun K "made_of_two" "made_of_two" s_made_of_two (He.ga K "made_of_two") fd2 := fun_of_D D2
  have g2 : mg "made_of_two" = some (.ref (He.ga K "made_of_two")) := He.glo_ok X G (cd.fact 2 (f := .glo "made_of_two") rfl)
  have b2 := F2.binds (ps := ["word", "one", "other"]) fun _ _ _ _ _ _ us hl => match us, hl with | [_, _, _], _ => rfl
  obtain ⟨fd3, D3⟩ := cd.def_ 3 (d := hd_comings) rfl
  have F3 : Fun K "comings" "comings" s_comings (He.ga K "comings") fd3 := fun_of_D D3
  have g3 : mg "comings" = some (.ref (He.ga K "comings")) := He.glo_ok X G (cd.fact 3 (f := .glo "comings") rfl)
  have b3 := F3.binds (ps := ["room", "hand"]) fun _ _ _ _ _ _ us hl => match us, hl with | [_, _], _ => rfl
  obtain ⟨fd4, D4⟩ := cd.def_ 4 (d := hd_doors_in) rfl
  have F4 : Fun K "doors_in" "doors_in" s_doors_in (He.ga K "doors_in") fd4 := fun_of_D D4
  have g4 : mg "doors_in" = some (.ref (He.ga K "doors_in")) := He.glo_ok X G (cd.fact 4 (f := .glo "doors_in") rfl)
  have b4 := F4.binds (ps := ["room"]) fun _ _ _ _ _ _ us hl => match us, hl with | [_], _ => rfl
  obtain ⟨fd5, D5⟩ := cd.def_ 5 (d := hd_doors_out) rfl
  have F5 : Fun K "doors_out" "doors_out" s_doors_out (He.ga K "doors_out") fd5 := fun_of_D D5
  have g5 : mg "doors_out" = some (.ref (He.ga K "doors_out")) := He.glo_ok X G (cd.fact 5 (f := .glo "doors_out") rfl)
  have b5 := F5.binds (ps := ["room"]) fun _ _ _ _ _ _ us hl => match us, hl with | [_], _ => rfl
  obtain ⟨fd6, D6⟩ := cd.def_ 6 (d := hd_work_order) rfl
  have F6 : Fun K "work_order" "work_order" s_work_order (He.ga K "work_order") fd6 := fun_of_D D6
  have g6 : mg "work_order" = some (.ref (He.ga K "work_order")) := He.glo_ok X G (cd.fact 6 (f := .glo "work_order") rfl)
  have b6 := F6.binds (ps := ["room"]) fun _ _ _ _ _ _ us hl => match us, hl with | [_], _ => rfl
  obtain ⟨fd7, D7⟩ := cd.def_ 7 (d := hd_worked) rfl
  have F7 : Fun K "worked" "worked" s_worked (He.ga K "worked") fd7 := fun_of_D D7
  have g7 : mg "worked" = some (.ref (He.ga K "worked")) := He.glo_ok X G (cd.fact 7 (f := .glo "worked") rfl)
  have b7 := F7.binds (ps := ["room", "rows"]) fun _ _ _ _ _ _ us hl => match us, hl with | [_, _], _ => rfl
  obtain ⟨fd8, D8⟩ := cd.def_ 8 (d := hd_work_plan) rfl
  have F8 : Fun K "work_plan" "work_plan" s_work_plan (He.ga K "work_plan") fd8 := fun_of_D D8
  have g8 : mg "work_plan" = some (.ref (He.ga K "work_plan")) := He.glo_ok X G (cd.fact 8 (f := .glo "work_plan") rfl)
  have b8 := F8.binds (ps := ["room"]) fun _ _ _ _ _ _ us hl => match us, hl with | [_], _ => rfl
  obtain ⟨fd9, D9⟩ := cd.def_ 9 (d := hd_made_at_bell) rfl
  have F9 : Fun K "made_at_bell" "made_at_bell" s_made_at_bell (He.ga K "made_at_bell") fd9 := fun_of_D D9
  have g9 : mg "made_at_bell" = some (.ref (He.ga K "made_at_bell")) := He.glo_ok X G (cd.fact 9 (f := .glo "made_at_bell") rfl)
  have b9 := F9.binds (ps := ["room", "plan", "things"]) fun _ _ _ _ _ _ us hl => match us, hl with | [_, _, _], _ => rfl
  obtain ⟨fd10, D10⟩ := cd.def_ 10 (d := hd_thing_taken) rfl
  have F10 : Fun K "thing_taken" "thing_taken" s_thing_taken (He.ga K "thing_taken") fd10 := fun_of_D D10
  have g10 : mg "thing_taken" = some (.ref (He.ga K "thing_taken")) := He.glo_ok X G (cd.fact 10 (f := .glo "thing_taken") rfl)
  have b10 := F10.binds (ps := ["belt", "made"]) fun _ _ _ _ _ _ us hl => match us, hl with | [_, _], _ => rfl
  obtain ⟨fd11, D11⟩ := cd.def_ 11 (d := hd_behind_bell) rfl
  have F11 : Fun K "behind_bell" "behind_bell" s_behind_bell (He.ga K "behind_bell") fd11 := fun_of_D D11
  have g11 : mg "behind_bell" = some (.ref (He.ga K "behind_bell")) := He.glo_ok X G (cd.fact 11 (f := .glo "behind_bell") rfl)
  have b11 := F11.binds (ps := ["room", "made"]) fun _ _ _ _ _ _ us hl => match us, hl with | [_, _], _ => rfl
  obtain ⟨fd12, D12⟩ := cd.def_ 12 (d := hd_belt_behind_bell) rfl
  have F12 : Fun K "belt_behind_bell" "belt_behind_bell" s_belt_behind_bell (He.ga K "belt_behind_bell") fd12 := fun_of_D D12
  have g12 : mg "belt_behind_bell" = some (.ref (He.ga K "belt_behind_bell")) := He.glo_ok X G (cd.fact 12 (f := .glo "belt_behind_bell") rfl)
  have b12 := F12.binds (ps := ["belt", "made"]) fun _ _ _ _ _ _ us hl => match us, hl with | [_, _], _ => rfl
  obtain ⟨fd13, D13⟩ := cd.def_ 13 (d := hd_look_shifts) rfl
  have F13 : Fun K "look_shifts" "look_shifts" s_look_shifts (He.ga K "look_shifts") fd13 := fun_of_D D13
  have g13 : mg "look_shifts" = some (.ref (He.ga K "look_shifts")) := He.glo_ok X G (cd.fact 13 (f := .glo "look_shifts") rfl)
  have b13 := F13.binds (ps := ["room", "late", "shifts"]) fun _ _ _ _ _ _ us hl => match us, hl with | [_, _, _], _ => rfl
  obtain ⟨fd14, D14⟩ := cd.def_ 14 (d := hd_refuse_shifts) rfl
  have F14 : Fun K "refuse_shifts" "refuse_shifts" s_refuse_shifts (He.ga K "refuse_shifts") fd14 := fun_of_D D14
  have g14 : mg "refuse_shifts" = some (.ref (He.ga K "refuse_shifts")) := He.glo_ok X G (cd.fact 14 (f := .glo "refuse_shifts") rfl)
  have b14 := F14.binds (ps := ["word", "at"]) fun _ _ _ _ _ _ us hl => match us, hl with | [_, _], _ => rfl
  obtain ⟨fd15, D15⟩ := cd.def_ 15 (d := hd_is_shifts) rfl
  have F15 : Fun K "is_shifts" "is_shifts" s_is_shifts (He.ga K "is_shifts") fd15 := fun_of_D D15
  have g15 : mg "is_shifts" = some (.ref (He.ga K "is_shifts")) := He.glo_ok X G (cd.fact 15 (f := .glo "is_shifts") rfl)
  have b15 := F15.binds (ps := ["room", "thing"]) fun _ _ _ _ _ _ us hl => match us, hl with | [_, _], _ => rfl
  obtain ⟨fd16, D16⟩ := cd.def_ 16 (d := hd_wrong_door) rfl
  have F16 : Fun K "wrong_door" "wrong_door" s_wrong_door (He.ga K "wrong_door") fd16 := fun_of_D D16
  have g16 : mg "wrong_door" = some (.ref (He.ga K "wrong_door")) := He.glo_ok X G (cd.fact 16 (f := .glo "wrong_door") rfl)
  have b16 := F16.binds (ps := ["room", "late", "shifts"]) fun _ _ _ _ _ _ us hl => match us, hl with | [_, _, _], _ => rfl
  obtain ⟨fd17, D17⟩ := cd.def_ 17 (d := hd_short_belt) rfl
  have F17 : Fun K "short_belt" "short_belt" s_short_belt (He.ga K "short_belt") fd17 := fun_of_D D17
  have g17 : mg "short_belt" = some (.ref (He.ga K "short_belt")) := He.glo_ok X G (cd.fact 17 (f := .glo "short_belt") rfl)
  have b17 := F17.binds (ps := ["room", "shifts"]) fun _ _ _ _ _ _ us hl => match us, hl with | [_, _], _ => rfl
  obtain ⟨fd18, D18⟩ := cd.def_ 18 (d := hd_waits) rfl
  have F18 : Fun K "waits" "waits" s_waits (He.ga K "waits") fd18 := fun_of_D D18
  have g18 : mg "waits" = some (.ref (He.ga K "waits")) := He.glo_ok X G (cd.fact 18 (f := .glo "waits") rfl)
  have b18 := F18.binds (ps := ["shifts"]) fun _ _ _ _ _ _ us hl => match us, hl with | [_], _ => rfl
  obtain ⟨fd19, D19⟩ := cd.def_ 19 (d := hd_trays_moved) rfl
  have F19 : Fun K "trays_moved" "trays_moved" s_trays_moved (He.ga K "trays_moved") fd19 := fun_of_D D19
  have g19 : mg "trays_moved" = some (.ref (He.ga K "trays_moved")) := He.glo_ok X G (cd.fact 19 (f := .glo "trays_moved") rfl)
  have b19 := F19.binds (ps := ["room", "shifts"]) fun _ _ _ _ _ _ us hl => match us, hl with | [_, _], _ => rfl
  obtain ⟨fd20, D20⟩ := cd.def_ 20 (d := hd_moved) rfl
  have F20 : Fun K "moved" "moved" s_moved (He.ga K "moved") fd20 := fun_of_D D20
  have g20 : mg "moved" = some (.ref (He.ga K "moved")) := He.glo_ok X G (cd.fact 20 (f := .glo "moved") rfl)
  have b20 := F20.binds (ps := ["room", "late", "shifts", "rows"]) fun _ _ _ _ _ _ us hl => match us, hl with | [_, _, _, _], _ => rfl
  obtain ⟨fd21, D21⟩ := cd.def_ 21 (d := hd_rows_on) rfl
  have F21 : Fun K "rows_on" "rows_on" s_rows_on (He.ga K "rows_on") fd21 := fun_of_D D21
  have g21 : mg "rows_on" = some (.ref (He.ga K "rows_on")) := He.glo_ok X G (cd.fact 21 (f := .glo "rows_on") rfl)
  have b21 := F21.binds (ps := ["room", "shifts", "rows"]) fun _ _ _ _ _ _ us hl => match us, hl with | [_, _, _], _ => rfl
  obtain ⟨fd22, D22⟩ := cd.def_ 22 (d := hd_taken_at) rfl
  have F22 : Fun K "taken_at" "taken_at" s_taken_at (He.ga K "taken_at") fd22 := fun_of_D D22
  have g22 : mg "taken_at" = some (.ref (He.ga K "taken_at")) := He.glo_ok X G (cd.fact 22 (f := .glo "taken_at") rfl)
  have b22 := F22.binds (ps := ["belt", "made", "bell"]) fun _ _ _ _ _ _ us hl => match us, hl with | [_, _, _], _ => rfl
  obtain ⟨fd23, D23⟩ := cd.def_ 23 (d := hd_law_flow) rfl
  have F23 : Fun K "_law_flow" "_law_flow" s_law_flow (He.ga K "_law_flow") fd23 := fun_of_D D23
  have g23 : mg "_law_flow" = some (.ref (He.ga K "_law_flow")) := He.glo_ok X G (cd.fact 23 (f := .glo "_law_flow") rfl)
  have b23 := F23.binds (ps := ["_law_script"]) fun _ _ _ _ _ _ us hl => match us, hl with | [_], _ => rfl
  obtain ⟨fd24, D24⟩ := cd.def_ 24 (d := hd_law_pick) rfl
  have F24 : Fun K "_law_pick" "_law_pick" s_law_pick (He.ga K "_law_pick") fd24 := fun_of_D D24
  have g24 : mg "_law_pick" = some (.ref (He.ga K "_law_pick")) := He.glo_ok X G (cd.fact 24 (f := .glo "_law_pick") rfl)
  have b24 := F24.binds (ps := ["_law_flow_here", "_law_many"]) fun _ _ _ _ _ _ us hl => match us, hl with | [_, _], _ => rfl
  obtain ⟨fd25, D25⟩ := cd.def_ 25 (d := hd_law_thing) rfl
  have F25 : Fun K "_law_thing" "_law_thing" s_law_thing (He.ga K "_law_thing") fd25 := fun_of_D D25
  have g25 : mg "_law_thing" = some (.ref (He.ga K "_law_thing")) := He.glo_ok X G (cd.fact 25 (f := .glo "_law_thing") rfl)
  have b25 := F25.binds (ps := ["_law_flow_here"]) fun _ _ _ _ _ _ us hl => match us, hl with | [_], _ => rfl
  obtain ⟨fd26, D26⟩ := cd.def_ 26 (d := hd_law_needs) rfl
  have F26 : Fun K "_law_needs" "_law_needs" s_law_needs (He.ga K "_law_needs") fd26 := fun_of_D D26
  have g26 : mg "_law_needs" = some (.ref (He.ga K "_law_needs")) := He.glo_ok X G (cd.fact 26 (f := .glo "_law_needs") rfl)
  have b26 := F26.binds (ps := ["_law_rule_here"]) fun _ _ _ _ _ _ us hl => match us, hl with | [_], _ => rfl
  obtain ⟨fd27, D27⟩ := cd.def_ 27 (d := hd_law_rule) rfl
  have F27 : Fun K "_law_rule" "_law_rule" s_law_rule (He.ga K "_law_rule") fd27 := fun_of_D D27
  have g27 : mg "_law_rule" = some (.ref (He.ga K "_law_rule")) := He.glo_ok X G (cd.fact 27 (f := .glo "_law_rule") rfl)
  have b27 := F27.binds (ps := ["_law_flow_here", "_law_most"]) fun _ _ _ _ _ _ us hl => match us, hl with | [_, _], _ => rfl
  obtain ⟨fd28, D28⟩ := cd.def_ 28 (d := hd_law_shuffled) rfl
  have F28 : Fun K "_law_shuffled" "_law_shuffled" s_law_shuffled (He.ga K "_law_shuffled") fd28 := fun_of_D D28
  have g28 : mg "_law_shuffled" = some (.ref (He.ga K "_law_shuffled")) := He.glo_ok X G (cd.fact 28 (f := .glo "_law_shuffled") rfl)
  have b28 := F28.binds (ps := ["_law_flow_here", "_law_some"]) fun _ _ _ _ _ _ us hl => match us, hl with | [_, _], _ => rfl
  obtain ⟨fd29, D29⟩ := cd.def_ 29 (d := hd_law_hands) rfl
  have F29 : Fun K "_law_hands" "_law_hands" s_law_hands (He.ga K "_law_hands") fd29 := fun_of_D D29
  have g29 : mg "_law_hands" = some (.ref (He.ga K "_law_hands")) := He.glo_ok X G (cd.fact 29 (f := .glo "_law_hands") rfl)
  have b29 := F29.binds (ps := ["_law_flow_here", "_law_many"]) fun _ _ _ _ _ _ us hl => match us, hl with | [_, _], _ => rfl
  obtain ⟨fd30, D30⟩ := cd.def_ 30 (d := hd_law_room) rfl
  have F30 : Fun K "_law_room" "_law_room" s_law_room (He.ga K "_law_room") fd30 := fun_of_D D30
  have g30 : mg "_law_room" = some (.ref (He.ga K "_law_room")) := He.glo_ok X G (cd.fact 30 (f := .glo "_law_room") rfl)
  have b30 := F30.binds (ps := ["_law_flow_here", "_law_most"]) fun _ _ _ _ _ _ us hl => match us, hl with | [_, _], _ => rfl
  obtain ⟨fd31, D31⟩ := cd.def_ 31 (d := hd_law_rows) rfl
  have F31 : Fun K "_law_rows" "_law_rows" s_law_rows (He.ga K "_law_rows") fd31 := fun_of_D D31
  have g31 : mg "_law_rows" = some (.ref (He.ga K "_law_rows")) := He.glo_ok X G (cd.fact 31 (f := .glo "_law_rows") rfl)
  have b31 := F31.binds (ps := ["_law_flow_here", "_law_room_here", "_law_many"]) fun _ _ _ _ _ _ us hl => match us, hl with | [_, _, _], _ => rfl
  obtain ⟨fd32, D32⟩ := cd.def_ 32 (d := hd_law_made_by) rfl
  have F32 : Fun K "_law_made_by" "_law_made_by" s_law_made_by (He.ga K "_law_made_by") fd32 := fun_of_D D32
  have g32 : mg "_law_made_by" = some (.ref (He.ga K "_law_made_by")) := He.glo_ok X G (cd.fact 32 (f := .glo "_law_made_by") rfl)
  have b32 := F32.binds (ps := ["_law_rule_here", "_law_things"]) fun _ _ _ _ _ _ us hl => match us, hl with | [_, _], _ => rfl
  obtain ⟨fd33, D33⟩ := cd.def_ 33 (d := hd_law_worked) rfl
  have F33 : Fun K "_law_worked" "_law_worked" s_law_worked (He.ga K "_law_worked") fd33 := fun_of_D D33
  have g33 : mg "_law_worked" = some (.ref (He.ga K "_law_worked")) := He.glo_ok X G (cd.fact 33 (f := .glo "_law_worked") rfl)
  have b33 := F33.binds (ps := ["_law_room_here", "_law_rows_here"]) fun _ _ _ _ _ _ us hl => match us, hl with | [_, _], _ => rfl
  obtain ⟨fd34, D34⟩ := cd.def_ 34 (d := hd_law_trays) rfl
  have F34 : Fun K "_law_trays" "_law_trays" s_law_trays (He.ga K "_law_trays") fd34 := fun_of_D D34
  have g34 : mg "_law_trays" = some (.ref (He.ga K "_law_trays")) := He.glo_ok X G (cd.fact 34 (f := .glo "_law_trays") rfl)
  have b34 := F34.binds (ps := ["_law_room_here", "_law_shifts_here"]) fun _ _ _ _ _ _ us hl => match us, hl with | [_, _], _ => rfl
  obtain ⟨fd35, D35⟩ := cd.def_ 35 (d := hd_law_shifts) rfl
  have F35 : Fun K "_law_shifts" "_law_shifts" s_law_shifts (He.ga K "_law_shifts") fd35 := fun_of_D D35
  have g35 : mg "_law_shifts" = some (.ref (He.ga K "_law_shifts")) := He.glo_ok X G (cd.fact 35 (f := .glo "_law_shifts") rfl)
  have b35 := F35.binds (ps := ["_law_flow_here", "_law_room_here", "_law_late", "_law_many"]) fun _ _ _ _ _ _ us hl => match us, hl with | [_, _, _, _], _ => rfl
  obtain ⟨fd36, D36⟩ := cd.def_ 36 (d := hd_law_whole) rfl
  have F36 : Fun K "_law_whole" "_law_whole" s_law_whole (He.ga K "_law_whole") fd36 := fun_of_D D36
  have g36 : mg "_law_whole" = some (.ref (He.ga K "_law_whole")) := He.glo_ok X G (cd.fact 36 (f := .glo "_law_whole") rfl)
  have b36 := F36.binds (ps := ["_law_thing_here"]) fun _ _ _ _ _ _ us hl => match us, hl with | [_], _ => rfl
  obtain ⟨fd37, D37⟩ := cd.def_ 37 (d := hd_law_like_room) rfl
  have F37 : Fun K "_law_like_room" "_law_like_room" s_law_like_room (He.ga K "_law_like_room") fd37 := fun_of_D D37
  have g37 : mg "_law_like_room" = some (.ref (He.ga K "_law_like_room")) := He.glo_ok X G (cd.fact 37 (f := .glo "_law_like_room") rfl)
  have b37 := F37.binds (ps := ["_law_found", "_law_due"]) fun _ _ _ _ _ _ us hl => match us, hl with | [_, _], _ => rfl
  obtain ⟨fd38, D38⟩ := cd.def_ 38 (d := hd_law_moved) rfl
  have F38 : Fun K "_law_moved" "_law_moved" s_law_moved (He.ga K "_law_moved") fd38 := fun_of_D D38
  have g38 : mg "_law_moved" = some (.ref (He.ga K "_law_moved")) := He.glo_ok X G (cd.fact 38 (f := .glo "_law_moved") rfl)
  have b38 := F38.binds (ps := ["_law_room_here", "_law_shifts_here", "_law_rows_here"]) fun _ _ _ _ _ _ us hl => match us, hl with | [_, _, _], _ => rfl
  obtain ⟨fd39, D39⟩ := cd.def_ 39 (d := hd_law_refused) rfl
  have F39 : Fun K "_law_refused" "_law_refused" s_law_refused (He.ga K "_law_refused") fd39 := fun_of_D D39
  have g39 : mg "_law_refused" = some (.ref (He.ga K "_law_refused")) := He.glo_ok X G (cd.fact 39 (f := .glo "_law_refused") rfl)
  have b39 := F39.binds (ps := ["_law_room_here", "_law_late", "_law_shifts_here", "_law_rows_here"]) fun _ _ _ _ _ _ us hl => match us, hl with | [_, _, _, _], _ => rfl
  obtain ⟨fd40, D40⟩ := cd.def_ 40 (d := hd_law_fault) rfl
  have F40 : Fun K "_law_fault" "_law_fault" s_law_fault (He.ga K "_law_fault") fd40 := fun_of_D D40
  have g40 : mg "_law_fault" = some (.ref (He.ga K "_law_fault")) := He.glo_ok X G (cd.fact 40 (f := .glo "_law_fault") rfl)
  have b40 := F40.binds (ps := ["_law_flow_here", "_law_room_here", "_law_shifts_here"]) fun _ _ _ _ _ _ us hl => match us, hl with | [_, _, _], _ => rfl
  obtain ⟨fd41, D41⟩ := cd.def_ 41 (d := hd_law) rfl
  have F41 : Fun K "law" "law" s_law (He.ga K "law") fd41 := fun_of_D D41
  have g41 : mg "law" = some (.ref (He.ga K "law")) := He.glo_ok X G (cd.fact 41 (f := .glo "law") rfl)
  have ex := c.more
  unfold hEx at ex
  simp only [Bool.and_eq_true] at ex
  obtain ⟨⟨ex0, ex1⟩, ex2⟩ := ex
  obtain ⟨fdNs, DNs⟩ := cd.def_ 42 (d := hd_NsInit) rfl
  have FNs : Fun K "__init__" "NoShift.__init__" s_NoShift_init (He.fAd K ("NoShift", some "__init__")) fdNs := fun_of_D DNs
  have bNs := FNs.binds (ps := ["self", "word", "at"]) fun _ _ _ _ _ _ us hl => match us, hl with | [_, _, _], _ => rfl
  have gNs : mg "NoShift" = some (.ref (He.ga K "NoShift")) := He.glo_ok X G (cd.fact 59 (f := .glo "NoShift") rfl)
  have gBe : mg "BeltError" = some (.ref (He.ga K "BeltError")) := He.glo_ok X G (cd.fact 60 (f := .glo "BeltError") rfl)
  have T : Top K mg := ⟨⟨_, fd0, F0, b0, g0⟩, ⟨_, fd1, F1, b1, g1⟩, ⟨_, fd2, F2, b2, g2⟩, ⟨_, fd3, F3, b3, g3⟩, ⟨_, fd4, F4, b4, g4⟩, ⟨_, fd5, F5, b5, g5⟩, ⟨_, fd6, F6, b6, g6⟩, ⟨_, fd7, F7, b7, g7⟩, ⟨_, fd8, F8, b8, g8⟩, ⟨_, fd9, F9, b9, g9⟩, ⟨_, fd10, F10, b10, g10⟩, ⟨_, fd11, F11, b11, g11⟩, ⟨_, fd12, F12, b12, g12⟩, ⟨_, fd13, F13, b13, g13⟩, ⟨_, fd14, F14, b14, g14⟩, ⟨_, fd15, F15, b15, g15⟩, ⟨_, fd16, F16, b16, g16⟩, ⟨_, fd17, F17, b17, g17⟩, ⟨_, fd18, F18, b18, g18⟩, ⟨_, fd19, F19, b19, g19⟩, ⟨_, fd20, F20, b20, g20⟩, ⟨_, fd21, F21, b21, g21⟩, ⟨_, fd22, F22, b22, g22⟩, ⟨_, fd23, F23, b23, g23⟩, ⟨_, fd24, F24, b24, g24⟩, ⟨_, fd25, F25, b25, g25⟩, ⟨_, fd26, F26, b26, g26⟩, ⟨_, fd27, F27, b27, g27⟩, ⟨_, fd28, F28, b28, g28⟩, ⟨_, fd29, F29, b29, g29⟩, ⟨_, fd30, F30, b30, g30⟩, ⟨_, fd31, F31, b31, g31⟩, ⟨_, fd32, F32, b32, g32⟩, ⟨_, fd33, F33, b33, g33⟩, ⟨_, fd34, F34, b34, g34⟩, ⟨_, fd35, F35, b35, g35⟩, ⟨_, fd36, F36, b36, g36⟩, ⟨_, fd37, F37, b37, g37⟩, ⟨_, fd38, F38, b38, g38⟩, ⟨_, fd39, F39, b39, g39⟩, ⟨_, fd40, F40, b40, g40⟩, He.free_ok X G (cd.fact 42 (f := .free "ValueError") rfl), He.free_ok X G (cd.fact 43 (f := .free "abs") rfl), He.free_ok X G (cd.fact 44 (f := .free "all") rfl), He.free_ok X G (cd.fact 45 (f := .free "bool") rfl), He.free_ok X G (cd.fact 46 (f := .free "dict") rfl), He.free_ok X G (cd.fact 47 (f := .free "enumerate") rfl), He.free_ok X G (cd.fact 48 (f := .free "int") rfl), He.free_ok X G (cd.fact 49 (f := .free "isinstance") rfl), He.free_ok X G (cd.fact 50 (f := .free "len") rfl), He.free_ok X G (cd.fact 51 (f := .free "list") rfl), He.free_ok X G (cd.fact 52 (f := .free "max") rfl), He.free_ok X G (cd.fact 53 (f := .free "min") rfl), He.free_ok X G (cd.fact 54 (f := .free "range") rfl), He.free_ok X G (cd.fact 55 (f := .free "tuple") rfl), He.free_ok X G (cd.fact 56 (f := .free "zip") rfl), ⟨_, He.glo_ok X G (cd.fact 57 (f := .glo "IN_RULE") rfl), fun H => He.tupB_ok ex0 H⟩, ⟨_, He.glo_ok X G (cd.fact 58 (f := .glo "OUT_RULE") rfl), fun H => He.tupB_ok ex1 H⟩, ⟨_, nsB_ok ex2 gNs gBe FNs bNs⟩⟩
  have e := hfa.symm.trans g41
  cases e
  have law_b : ∀ (s : Shared) (v : Value), BindsTo s fd41 ⟨[v], []⟩ [("_law_script", v)] := fun s v => by
    obtain ⟨_, _, _, _, _, _, _, _, _, rfl, _, _⟩ := F41.ex
    exact .of_eq rfl
  refine ⟨fd41, [He.cT K ("is_shifts", none)], sp_law K (He.cT K ("is_shifts", none)).2, fun p hp => ?_, fun p hp => ?_, fun p hp => ?_, law_b, fun H a ns hl _ hT hS => ⟨a, ns, rfl, hS, hl, ⟨#[], hT _ (List.mem_cons_self ..), trivial⟩, fun _ => rfl⟩, fun base _ _ TB => ?_⟩
  · have hin : ∀ p ∈ [He.cT K ("is_shifts", none)], ∃ q ∈ hTf, p = He.cT K q := fun p hp => by
      rcases List.mem_cons.mp hp with rfl | hp
      · exact ⟨_, List.mem_cons_self .., rfl⟩
      cases hp
    obtain ⟨q, hq, rfl⟩ := hin p hp
    exact c.empty _ hq
  · have hin : ∀ p ∈ [He.cT K ("is_shifts", none)], ∃ q ∈ hTf, p = He.cT K q := fun p hp => by
      rcases List.mem_cons.mp hp with rfl | hp
      · exact ⟨_, List.mem_cons_self .., rfl⟩
      cases hp
    obtain ⟨q, hq, rfl⟩ := hin p hp
    exact c.out _ hq
  · have hin : ∀ p ∈ [He.cT K ("is_shifts", none)], ∃ q ∈ hTf, p = He.cT K q := fun p hp => by
      rcases List.mem_cons.mp hp with rfl | hp
      · exact ⟨_, List.mem_cons_self .., rfl⟩
      cases hp
    obtain ⟨q, hq, rfl⟩ := hin p hp
    exact PySem.W.codeHd_of_K X (c.hd _ hq)
  have TB0 := TB _ (List.mem_cons_self ..)
  have TC0 : GxR.TabB base mg (He.codeOf K ("is_shifts", none)) (He.tabOf K (He.codeOf K ("is_shifts", none))) := ⟨TB0.code, TB0.bm, TB0.gP⟩
  haveI : TabI K mg base _ _ := ⟨TC0, fun f fd F m => by
    have e := m.symm.trans g15
    cases e
    obtain ⟨_, _, _, _, _, _, cdv, _, _, rfl, lk, ci⟩ := F.ex
    obtain ⟨c0, rfl⟩ := He.codeIn_ref ci
    exact congrArg Value.ref (He.codeOf_eq (p := ("is_shifts", none)) lk rfl).symm⟩
  exact ok_law F41 T
end Mine
open PySem PySem.W PySem.Calls PyProof.Rows
set_option maxRecDepth 100000 in
set_option maxHeartbeats 0 in
theorem PySem.Challenge.cw_beltshift_k34_moved_things_holds : PySem.Challenge.rw_beltshift_k34_moved_things.Holds := by
  w_on; o_law
  refine HandSHeadRun.head_any (r := Mine.hR) (q := view Mine.hR.prog [54]) (H := Mine.hk) (ob := Mine.hOb) (M := 40000) (loose := Mine.hNames) (d := HandSHeadRun.topDef Mine.hR.prog 54) (kwd := []) Mine.hOb_eq (by kernel_rfl) (fun s => by kernel_rfl) Mine.hRun (by kernel_rfl) (by kernel_rfl) (by kernel_rfl) (by rfl) (by first | assumption | decide +kernel) (by decide +kernel) ⟨rfl, rfl, rfl, rfl, rfl, by decide +kernel⟩ ?hw ?hc
  case hw => w_witness2
  case hc =>
    refine LamX.walk_ofTsE (l := PySem.Challenge.rw_beltshift_k34_moved_things) (n := 63) (k := 7) (x := "_law_script") (CX := fun _ => L2.CX0) rfl (by decide) (by kernel_rfl) ⟨rfl, by decide, by decide⟩ ?F (fun _ _ _ _ _ z => z)
    intro w mg fa h Y G hmg0
    obtain ⟨K, KX, c⟩ := Y
    have hmg : mg ("law" : PySem.Str) = some (.ref fa) := by
      have e : (HandSHeadRun.topDef Mine.hR.prog 54).name = ("law" : PySem.Str) := by kernel_rfl
      rw [← e]
      exact hmg0
    exact ⟨K, KX, Mine.all_mkX KX G hmg c⟩
