import PyProof.Rows.All
import KE.DataFind
import HandS.Codes
import HandS.Replace
import HandS.StrMore
import HandS.Text
import HandS.RaiseMore
import KE.KIntText
import PyProof.Rows.StrMul
import Wide.All
import OpenK.AllK
import Wide.FinOn
import HandS.ForMost
import HandS.DictComp
import HandS.Wide
import HandS.Style
import HandS.IsInst
import HandS.TupAny
import HandS.NoneIn
import HandS.SetFor
import HandS.Conv
import HandS.Zip
import HandS.SortKw
import HandS.Deep
import KE.DataMinMax
import KE.GoesMore
import KE.KDictZip
import KE.GoesZip
import KE.GoesEnum
import HandS.AnyAll
import HandS.GenOver
import HandS.Strs
import HandS.TupLen
import KE.KeyNested
import PyProof.Rows.TupTab
import HandS.TupMul
import HandS.Words
import HandS.EndTab
import HandS.HeadWalk
import HandS.Defaults
import HandS.Head0
import HandS.Head1
import HandS.Head2
import HandS.HeadEnd
import HandS.HeadHook1
import HandS.HeadHook2
import HandS.HeadHook3
import HandS.HeadHook4
import KE.KStateDown
import KE.KIsAll
import KE.KNestM
import PyProof.GenCompD
import PyProof.WalksMore
import PySem.Challenge.RW_beltshift_k10_rooms_written
import HandS.Lambda
import KE.KLam
import KE.DataMinKey
import HandS.TryOnly
import HandS.ExcInit
import HandS.WordsExc
import HandS.ExcIs
import HandS.ExcField
import HandS.ExcOwn
set_option Elab.async false
set_option linter.all false
set_option maxRecDepth 100000
namespace Mine
open PySem PyProof.Rows L2
def topS (i : Nat) : Stmt := PySem.Challenge.pw_beltshift_k10_rooms_written.main.body.getD i (.Pass ⟨0, 0, 0, 0⟩)
abbrev s_first_on_ring : Stmt := topS 5
abbrev N_first_on_ring : List Str := ["places", "steps", "place"]
theorem sc_first_on_ring : FnScope N_first_on_ring ["places", "steps"] (defScope s_first_on_ring) := ⟨rfl, rfl, rfl, by decide +kernel, rfl, by decide +kernel, by decide +kernel⟩
abbrev s_comes_back : Stmt := topS 6
abbrev N_comes_back : List Str := ["place", "steps", "seen", "left", "here"]
theorem sc_comes_back : FnScope N_comes_back ["place", "steps"] (defScope s_comes_back) := ⟨rfl, rfl, rfl, by decide +kernel, rfl, by decide +kernel, by decide +kernel⟩
abbrev s_is_whole : Stmt := topS 12
abbrev N_is_whole : List Str := ["thing"]
theorem sc_is_whole : FnScope N_is_whole ["thing"] (defScope s_is_whole) := ⟨rfl, rfl, rfl, by decide +kernel, rfl, by decide +kernel, by decide +kernel⟩
abbrev s_number_of : Stmt := topS 13
abbrev N_number_of : List Str := ["text", "figures"]
theorem sc_number_of : FnScope N_number_of ["text"] (defScope s_number_of) := ⟨rfl, rfl, rfl, by decide +kernel, rfl, by decide +kernel, by decide +kernel⟩
abbrev s_text_of : Stmt := topS 14
abbrev N_text_of : List Str := ["number", "sign", "left", "chunks", "chunk"]
theorem sc_text_of : FnScope N_text_of ["number"] (defScope s_text_of) := ⟨rfl, rfl, rfl, by decide +kernel, rfl, by decide +kernel, by decide +kernel⟩
abbrev s_is_rule : Stmt := topS 18
abbrev N_is_rule : List Str := ["thing", "word"]
theorem sc_is_rule : FnScope N_is_rule ["thing"] (defScope s_is_rule) := ⟨rfl, rfl, rfl, by decide +kernel, rfl, by decide +kernel, by decide +kernel⟩
abbrev s_needs : Stmt := topS 19
abbrev N_needs : List Str := ["rule"]
theorem sc_needs : FnScope N_needs ["rule"] (defScope s_needs) := ⟨rfl, rfl, rfl, by decide +kernel, rfl, by decide +kernel, by decide +kernel⟩
abbrev s_made_by : Stmt := topS 20
abbrev N_made_by : List Str := ["rule", "things", "word"]
theorem sc_made_by : FnScope N_made_by ["rule", "things"] (defScope s_made_by) := ⟨rfl, rfl, rfl, by decide +kernel, rfl, by decide +kernel, by decide +kernel⟩
abbrev s_made_of_two : Stmt := topS 21
abbrev N_made_of_two : List Str := ["word", "one", "other"]
theorem sc_made_of_two : FnScope N_made_of_two ["word", "one", "other"] (defScope s_made_of_two) := ⟨rfl, rfl, rfl, by decide +kernel, rfl, by decide +kernel, by decide +kernel⟩
abbrev s_look_room : Stmt := topS 25
abbrev N_look_room : List Str := ["room"]
theorem sc_look_room : FnScope N_look_room ["room"] (defScope s_look_room) := ⟨rfl, rfl, rfl, by decide +kernel, rfl, by decide +kernel, by decide +kernel⟩
abbrev s_refuse_room : Stmt := topS 26
abbrev N_refuse_room : List Str := ["word", "at"]
theorem sc_refuse_room : FnScope N_refuse_room ["word", "at"] (defScope s_refuse_room) := ⟨rfl, rfl, rfl, by decide +kernel, rfl, by decide +kernel, by decide +kernel⟩
abbrev s_is_tuple_of : Stmt := topS 27
abbrev N_is_tuple_of : List Str := ["thing", "many"]
theorem sc_is_tuple_of : FnScope N_is_tuple_of ["thing", "many"] (defScope s_is_tuple_of) := ⟨rfl, rfl, rfl, by decide +kernel, rfl, by decide +kernel, by decide +kernel⟩
abbrev s_has_form : Stmt := topS 28
abbrev N_has_form : List Str := ["room", "hands", "belts"]
theorem sc_has_form : FnScope N_has_form ["room"] (defScope s_has_form) := ⟨rfl, rfl, rfl, by decide +kernel, rfl, by decide +kernel, by decide +kernel⟩
abbrev s_is_hand_pair : Stmt := topS 29
abbrev N_is_hand_pair : List Str := ["hand"]
theorem sc_is_hand_pair : FnScope N_is_hand_pair ["hand"] (defScope s_is_hand_pair) := ⟨rfl, rfl, rfl, by decide +kernel, rfl, by decide +kernel, by decide +kernel⟩
abbrev s_is_belt_triple : Stmt := topS 30
abbrev N_is_belt_triple : List Str := ["belt"]
theorem sc_is_belt_triple : FnScope N_is_belt_triple ["belt"] (defScope s_is_belt_triple) := ⟨rfl, rfl, rfl, by decide +kernel, rfl, by decide +kernel, by decide +kernel⟩
abbrev s_wrong_hand : Stmt := topS 31
abbrev N_wrong_hand : List Str := ["room", "number", "rule", "moments"]
theorem sc_wrong_hand : FnScope N_wrong_hand ["room"] (defScope s_wrong_hand) := ⟨rfl, rfl, rfl, by decide +kernel, rfl, by decide +kernel, by decide +kernel⟩
abbrev s_wrong_belt : Stmt := topS 32
abbrev N_wrong_belt : List Str := ["room", "hands", "belts", "number", "giver", "taker", "things"]
theorem sc_wrong_belt : FnScope N_wrong_belt ["room"] (defScope s_wrong_belt) := ⟨rfl, rfl, rfl, by decide +kernel, rfl, by decide +kernel, by decide +kernel⟩
abbrev s_wrong_count : Stmt := topS 33
abbrev N_wrong_count : List Str := ["room", "number", "rule", "moments"]
theorem sc_wrong_count : FnScope N_wrong_count ["room"] (defScope s_wrong_count) := ⟨rfl, rfl, rfl, by decide +kernel, rfl, by decide +kernel, by decide +kernel⟩
abbrev s_hand_on_ring : Stmt := topS 34
abbrev N_hand_on_ring : List Str := ["room", "hands", "belts", "steps", "number", "giver", "taker", "things"]
theorem sc_hand_on_ring : FnScope N_hand_on_ring ["room"] (defScope s_hand_on_ring) := ⟨rfl, rfl, rfl, by decide +kernel, rfl, by decide +kernel, by decide +kernel⟩
abbrev s_comings : Stmt := topS 35
abbrev N_comings : List Str := ["room", "hand", "number", "belt"]
theorem sc_comings : FnScope N_comings ["room", "hand"] (defScope s_comings) := ⟨rfl, rfl, rfl, by decide +kernel, rfl, by decide +kernel, by decide +kernel⟩
abbrev s_doors_in : Stmt := topS 36
abbrev N_doors_in : List Str := ["room", "number", "hand"]
theorem sc_doors_in : FnScope N_doors_in ["room"] (defScope s_doors_in) := ⟨rfl, rfl, rfl, by decide +kernel, rfl, by decide +kernel, by decide +kernel⟩
abbrev s_show_room : Stmt := topS 38
abbrev N_show_room : List Str := ["room", "hands", "belts", "rows", "rule", "moments", "giver", "taker", "things"]
theorem sc_show_room : FnScope N_show_room ["room"] (defScope s_show_room) := ⟨rfl, rfl, rfl, by decide +kernel, rfl, by decide +kernel, by decide +kernel⟩
abbrev s_hand_row : Stmt := topS 39
abbrev N_hand_row : List Str := ["rule", "moments", "numbers", "number"]
theorem sc_hand_row : FnScope N_hand_row ["rule", "moments"] (defScope s_hand_row) := ⟨rfl, rfl, rfl, by decide +kernel, rfl, by decide +kernel, by decide +kernel⟩
abbrev s_belt_row : Stmt := topS 40
abbrev N_belt_row : List Str := ["giver", "taker", "things", "thing"]
theorem sc_belt_row : FnScope N_belt_row ["giver", "taker", "things"] (defScope s_belt_row) := ⟨rfl, rfl, rfl, by decide +kernel, rfl, by decide +kernel, by decide +kernel⟩
abbrev s_read_room : Stmt := topS 41
abbrev N_read_room : List Str := ["text", "rows", "hands", "belts", "number", "row", "words", "hand", "belt", "room"]
theorem sc_read_room : FnScope N_read_room ["text"] (defScope s_read_room) := ⟨rfl, rfl, rfl, by decide +kernel, rfl, by decide +kernel, by decide +kernel⟩
abbrev s_hand_of : Stmt := topS 42
abbrev N_hand_of : List Str := ["words", "numbers", "rule"]
theorem sc_hand_of : FnScope N_hand_of ["words"] (defScope s_hand_of) := ⟨rfl, rfl, rfl, by decide +kernel, rfl, by decide +kernel, by decide +kernel⟩
abbrev s_belt_of : Stmt := topS 43
abbrev N_belt_of : List Str := ["words", "ends", "things"]
theorem sc_belt_of : FnScope N_belt_of ["words"] (defScope s_belt_of) := ⟨rfl, rfl, rfl, by decide +kernel, rfl, by decide +kernel, by decide +kernel⟩
abbrev s_numbers_of : Stmt := topS 44
abbrev N_numbers_of : List Str := ["words", "numbers", "word"]
theorem sc_numbers_of : FnScope N_numbers_of ["words"] (defScope s_numbers_of) := ⟨rfl, rfl, rfl, by decide +kernel, rfl, by decide +kernel, by decide +kernel⟩
abbrev s_work_order : Stmt := topS 46
abbrev N_work_order : List Str := ["room", "hands", "belts", "loose", "giver", "taker", "things", "owed", "left", "order", "ready", "hand"]
theorem sc_work_order : FnScope N_work_order ["room"] (defScope s_work_order) := ⟨rfl, rfl, rfl, by decide +kernel, rfl, by decide +kernel, by decide +kernel⟩
abbrev s_worked : Stmt := topS 48
abbrev N_worked : List Str := ["room", "rows", "plan", "stands", "told", "things", "made"]
theorem sc_worked : FnScope N_worked ["room", "rows"] (defScope s_worked) := ⟨rfl, rfl, rfl, by decide +kernel, rfl, by decide +kernel, by decide +kernel⟩
abbrev s_standing : Stmt := topS 49
abbrev N_standing : List Str := ["room", "rows", "stands", "made"]
theorem sc_standing : FnScope N_standing ["room", "rows"] (defScope s_standing) := ⟨rfl, rfl, rfl, by decide +kernel, rfl, by decide +kernel, by decide +kernel⟩
abbrev s_work_plan : Stmt := topS 50
abbrev N_work_plan : List Str := ["room", "hand"]
theorem sc_work_plan : FnScope N_work_plan ["room"] (defScope s_work_plan) := ⟨rfl, rfl, rfl, by decide +kernel, rfl, by decide +kernel, by decide +kernel⟩
abbrev s_made_at_bell : Stmt := topS 51
abbrev N_made_at_bell : List Str := ["room", "plan", "things", "hands", "belts", "made", "hand", "coming", "taken", "number"]
theorem sc_made_at_bell : FnScope N_made_at_bell ["room", "plan", "things"] (defScope s_made_at_bell) := ⟨rfl, rfl, rfl, by decide +kernel, rfl, by decide +kernel, by decide +kernel⟩
abbrev s_thing_taken : Stmt := topS 52
abbrev N_thing_taken : List Str := ["belt", "made", "giver", "taker", "things"]
theorem sc_thing_taken : FnScope N_thing_taken ["belt", "made"] (defScope s_thing_taken) := ⟨rfl, rfl, rfl, by decide +kernel, rfl, by decide +kernel, by decide +kernel⟩
abbrev s_behind_bell : Stmt := topS 53
abbrev N_behind_bell : List Str := ["room", "made", "hands", "belts", "belt"]
theorem sc_behind_bell : FnScope N_behind_bell ["room", "made"] (defScope s_behind_bell) := ⟨rfl, rfl, rfl, by decide +kernel, rfl, by decide +kernel, by decide +kernel⟩
abbrev s_belt_behind_bell : Stmt := topS 54
abbrev N_belt_behind_bell : List Str := ["belt", "made", "giver", "taker", "things"]
theorem sc_belt_behind_bell : FnScope N_belt_behind_bell ["belt", "made"] (defScope s_belt_behind_bell) := ⟨rfl, rfl, rfl, by decide +kernel, rfl, by decide +kernel, by decide +kernel⟩
abbrev s_law_flow : Stmt := topS 56
abbrev N_law_flow : List Str := ["_law_script"]
theorem sc_law_flow : FnScope N_law_flow ["_law_script"] (defScope s_law_flow) := ⟨rfl, rfl, rfl, by decide +kernel, rfl, by decide +kernel, by decide +kernel⟩
abbrev s_law_pick : Stmt := topS 57
abbrev N_law_pick : List Str := ["_law_flow_here", "_law_many", "_law_cell", "_law_digit"]
theorem sc_law_pick : FnScope N_law_pick ["_law_flow_here", "_law_many"] (defScope s_law_pick) := ⟨rfl, rfl, rfl, by decide +kernel, rfl, by decide +kernel, by decide +kernel⟩
abbrev s_law_thing : Stmt := topS 58
abbrev N_law_thing : List Str := ["_law_flow_here"]
theorem sc_law_thing : FnScope N_law_thing ["_law_flow_here"] (defScope s_law_thing) := ⟨rfl, rfl, rfl, by decide +kernel, rfl, by decide +kernel, by decide +kernel⟩
abbrev s_law_needs : Stmt := topS 59
abbrev N_law_needs : List Str := ["_law_rule_here"]
theorem sc_law_needs : FnScope N_law_needs ["_law_rule_here"] (defScope s_law_needs) := ⟨rfl, rfl, rfl, by decide +kernel, rfl, by decide +kernel, by decide +kernel⟩
abbrev s_law_rule : Stmt := topS 60
abbrev N_law_rule : List Str := ["_law_flow_here", "_law_most", "_law_words", "_law_word"]
theorem sc_law_rule : FnScope N_law_rule ["_law_flow_here", "_law_most"] (defScope s_law_rule) := ⟨rfl, rfl, rfl, by decide +kernel, rfl, by decide +kernel, by decide +kernel⟩
abbrev s_law_shuffled : Stmt := topS 61
abbrev N_law_shuffled : List Str := ["_law_flow_here", "_law_some", "_law_left", "_law_k"]
theorem sc_law_shuffled : FnScope N_law_shuffled ["_law_flow_here", "_law_some"] (defScope s_law_shuffled) := ⟨rfl, rfl, rfl, by decide +kernel, rfl, by decide +kernel, by decide +kernel⟩
abbrev s_law_hands : Stmt := topS 62
abbrev N_law_hands : List Str := ["_law_flow_here", "_law_many", "_law_sorts", "_law_left", "_law_hands_here", "_law_k", "_law_sort", "_law_behind", "_law_other", "_law_rule_here"]
theorem sc_law_hands : FnScope N_law_hands ["_law_flow_here", "_law_many"] (defScope s_law_hands) := ⟨rfl, rfl, rfl, by decide +kernel, rfl, by decide +kernel, by decide +kernel⟩
abbrev s_law_room : Stmt := topS 63
abbrev N_law_room : List Str := ["_law_flow_here", "_law_most", "_law_hands_here", "_law_ranks", "_law_givers", "_law_k", "_law_takers", "_law_belts", "_law_to", "_law_one", "_law_trays"]
theorem sc_law_room : FnScope N_law_room ["_law_flow_here", "_law_most"] (defScope s_law_room) := ⟨rfl, rfl, rfl, by decide +kernel, rfl, by decide +kernel, by decide +kernel⟩
abbrev s_law_any_room : Stmt := topS 64
abbrev N_law_any_room : List Str := ["_law_flow_here", "_law_way", "_law_hands_here", "_law_k"]
theorem sc_law_any_room : FnScope N_law_any_room ["_law_flow_here"] (defScope s_law_any_room) := ⟨rfl, rfl, rfl, by decide +kernel, rfl, by decide +kernel, by decide +kernel⟩
abbrev s_law_rows_of : Stmt := topS 65
abbrev N_law_rows_of : List Str := ["_law_room_here", "_law_rows", "_law_rule_here", "_law_moments", "_law_part", "_law_one", "_law_to", "_law_things", "_law_thing_here"]
theorem sc_law_rows_of : FnScope N_law_rows_of ["_law_room_here"] (defScope s_law_rows_of) := ⟨rfl, rfl, rfl, by decide +kernel, rfl, by decide +kernel, by decide +kernel⟩
abbrev s_law_text : Stmt := topS 66
abbrev N_law_text : List Str := ["_law_room_here"]
theorem sc_law_text : FnScope N_law_text ["_law_room_here"] (defScope s_law_text) := ⟨rfl, rfl, rfl, by decide +kernel, rfl, by decide +kernel, by decide +kernel⟩
abbrev s_law_alike : Stmt := topS 67
abbrev N_law_alike : List Str := ["_law_found", "_law_due", "_law_one", "_law_other"]
theorem sc_law_alike : FnScope N_law_alike ["_law_found", "_law_due"] (defScope s_law_alike) := ⟨rfl, rfl, rfl, by decide +kernel, rfl, by decide +kernel, by decide +kernel⟩
abbrev s_law_grown_right : Stmt := topS 68
abbrev N_law_grown_right : List Str := ["_law_flow_here", "_law_number", "_law_times", "_law_room_here", "_law_many", "_law_k", "_law_there", "_law_text_here", "_law_read", "e"]
theorem sc_law_grown_right : FnScope N_law_grown_right ["_law_flow_here"] (defScope s_law_grown_right) := ⟨rfl, rfl, rfl, by decide +kernel, rfl, by decide +kernel, by decide +kernel⟩
abbrev s_law : Stmt := topS 69
abbrev N_law : List Str := ["_law_script", "_law_flow_here", "_law_some", "_law_room_here", "_law_text_here", "_law_found"]
theorem sc_law : FnScope N_law ["_law_script"] (defScope s_law) := ⟨rfl, rfl, rfl, by decide +kernel, rfl, by decide +kernel, by decide +kernel⟩

/-- a def of the text stands, binds and is bound -/
def Dd (K : PySem.W.Frag) (mg : Str → Option Value) (name : Str) (st : Stmt) (ps : List Str) : Prop :=
  ∃ (f : Addr) (fd : FuncData), Fun K name name st f fd ∧ Binds K fd ps [] ∧ mg name = some (.ref f)
/-! ### an own error with fields -/
abbrev s_NoText_init : Stmt := inClass (topS 2) 0
abbrev N_NoText_init : List Str := ["self", "row"]
theorem sc_NoText_init : FnScope N_NoText_init ["self", "row"] (defScope s_NoText_init) := ⟨rfl, rfl, rfl, by decide +kernel, rfl, by decide +kernel, by decide +kernel⟩
structure NsC (K : PySem.W.Frag) (mg : Str → Option Value) (C CB fI : Addr) (fd : FuncData) : Prop where
  gC : mg "NoText" = some (.ref C)
  gB : mg "BeltError" = some (.ref CB)
  T : OexC K C
  nr : PySem.W.findIn K (.ref C) "row" = some none
  iC : PySem.W.findIn K (.ref C) "__init__" = some (some (.ref fI))
  tI : PySem.W.typeIn K (.ref fI) = some (.type "function")
  F : Fun K "__init__" "NoText.__init__" s_NoText_init fI fd
  b : Binds K fd ["self", "row"] []
  te : PySem.W.exmOne K (.ref C) (.ref CB) = some true
  xf : XfC K C
  is_ : ExcC K C
  tc : PySem.W.exmOne K (.ref C) (.ref C) = some true
/-! ### the table of the rules -/
def eleven : List Str := ["same", "sum", "gap", "below", "most", "least", "pick", "times", "always", "in", "out"]
def needN (z : Str) : Int := if z = "always" ∨ z = "in" then 0 else if z = "same" ∨ z = "times" ∨ z = "out" then 1 else if z = "pick" then 3 else 2
structure NeedsAt (K : PySem.W.Frag) (w : World) (a : Addr) : Prop where
  dict : ∃ es n, KDict K w a es n
  yes : ∀ z ∈ eleven, ∃ t, PySem.W.nsIn K a z = some (some (.int (needN z) t))
  no : ∀ z, z ∉ eleven → PySem.W.nsIn K a z = some none
def figS : Str := "0123456789"
abbrev CHN : Int := 1000000000000000000
structure Top (w : World) (K : PySem.W.Frag) (mg : Str → Option Value) : Prop where
  d_first_on_ring : Dd K mg "first_on_ring" s_first_on_ring ["places", "steps"]
  d_comes_back : Dd K mg "comes_back" s_comes_back ["place", "steps"]
  d_is_whole : Dd K mg "is_whole" s_is_whole ["thing"]
  d_number_of : Dd K mg "number_of" s_number_of ["text"]
  d_text_of : Dd K mg "text_of" s_text_of ["number"]
  d_is_rule : Dd K mg "is_rule" s_is_rule ["thing"]
  d_needs : Dd K mg "needs" s_needs ["rule"]
  d_made_by : Dd K mg "made_by" s_made_by ["rule", "things"]
  d_made_of_two : Dd K mg "made_of_two" s_made_of_two ["word", "one", "other"]
  d_look_room : Dd K mg "look_room" s_look_room ["room"]
  d_refuse_room : Dd K mg "refuse_room" s_refuse_room ["word", "at"]
  d_is_tuple_of : Dd K mg "is_tuple_of" s_is_tuple_of ["thing", "many"]
  d_has_form : Dd K mg "has_form" s_has_form ["room"]
  d_is_hand_pair : Dd K mg "is_hand_pair" s_is_hand_pair ["hand"]
  d_is_belt_triple : Dd K mg "is_belt_triple" s_is_belt_triple ["belt"]
  d_wrong_hand : Dd K mg "wrong_hand" s_wrong_hand ["room"]
  d_wrong_belt : Dd K mg "wrong_belt" s_wrong_belt ["room"]
  d_wrong_count : Dd K mg "wrong_count" s_wrong_count ["room"]
  d_hand_on_ring : Dd K mg "hand_on_ring" s_hand_on_ring ["room"]
  d_comings : Dd K mg "comings" s_comings ["room", "hand"]
  d_doors_in : Dd K mg "doors_in" s_doors_in ["room"]
  d_show_room : Dd K mg "show_room" s_show_room ["room"]
  d_hand_row : Dd K mg "hand_row" s_hand_row ["rule", "moments"]
  d_belt_row : Dd K mg "belt_row" s_belt_row ["giver", "taker", "things"]
  d_read_room : Dd K mg "read_room" s_read_room ["text"]
  d_hand_of : Dd K mg "hand_of" s_hand_of ["words"]
  d_belt_of : Dd K mg "belt_of" s_belt_of ["words"]
  d_numbers_of : Dd K mg "numbers_of" s_numbers_of ["words"]
  d_work_order : Dd K mg "work_order" s_work_order ["room"]
  d_worked : Dd K mg "worked" s_worked ["room", "rows"]
  d_standing : Dd K mg "standing" s_standing ["room", "rows"]
  d_work_plan : Dd K mg "work_plan" s_work_plan ["room"]
  d_made_at_bell : Dd K mg "made_at_bell" s_made_at_bell ["room", "plan", "things"]
  d_thing_taken : Dd K mg "thing_taken" s_thing_taken ["belt", "made"]
  d_behind_bell : Dd K mg "behind_bell" s_behind_bell ["room", "made"]
  d_belt_behind_bell : Dd K mg "belt_behind_bell" s_belt_behind_bell ["belt", "made"]
  d_law_flow : Dd K mg "_law_flow" s_law_flow ["_law_script"]
  d_law_pick : Dd K mg "_law_pick" s_law_pick ["_law_flow_here", "_law_many"]
  d_law_thing : Dd K mg "_law_thing" s_law_thing ["_law_flow_here"]
  d_law_needs : Dd K mg "_law_needs" s_law_needs ["_law_rule_here"]
  d_law_rule : Dd K mg "_law_rule" s_law_rule ["_law_flow_here", "_law_most"]
  d_law_shuffled : Dd K mg "_law_shuffled" s_law_shuffled ["_law_flow_here", "_law_some"]
  d_law_hands : Dd K mg "_law_hands" s_law_hands ["_law_flow_here", "_law_many"]
  d_law_room : Dd K mg "_law_room" s_law_room ["_law_flow_here", "_law_most"]
  d_law_any_room : Dd K mg "_law_any_room" s_law_any_room ["_law_flow_here"]
  d_law_rows_of : Dd K mg "_law_rows_of" s_law_rows_of ["_law_room_here"]
  d_law_text : Dd K mg "_law_text" s_law_text ["_law_room_here"]
  d_law_alike : Dd K mg "_law_alike" s_law_alike ["_law_found", "_law_due"]
  d_law_grown_right : Dd K mg "_law_grown_right" s_law_grown_right ["_law_flow_here"]
  m_abs : mg "abs" = none
  m_all : mg "all" = none
  m_bool : mg "bool" = none
  m_dict : mg "dict" = none
  m_divmod : mg "divmod" = none
  m_enumerate : mg "enumerate" = none
  m_int : mg "int" = none
  m_isinstance : mg "isinstance" = none
  m_len : mg "len" = none
  m_list : mg "list" = none
  m_max : mg "max" = none
  m_min : mg "min" = none
  m_range : mg "range" = none
  m_set : mg "set" = none
  m_str : mg "str" = none
  m_tuple : mg "tuple" = none
  m_zip : mg "zip" = none
  x_in : ∃ aI : Addr, mg "IN_RULE" = some (.ref aI) ∧ ∀ H : Hp, SqT K H aI [.str "in"]
  x_out : ∃ aO : Addr, mg "OUT_RULE" = some (.ref aO) ∧ ∀ H : Hp, SqT K H aO [.str "out"]
  x_with : ∃ aW : Addr, mg "WITH_NUMBER" = some (.ref aW) ∧ ∀ H : Hp, SqT K H aW [.str "times", .str "always"]
  x_needs : ∃ aN : Addr, mg "NEEDS" = some (.ref aN) ∧ NeedsAt K w aN
  x_fig : ∃ t, mg "MOST_FIGURES" = some (.int 9 t)
  x_num : ∃ t, mg "FIGURES" = some (.str figS t)
  x_chu : ∃ t, mg "CHUNK" = some (.int CHN t)
  x_chf : ∃ t, mg "CHUNK_FIGURES" = some (.int 18 t)
  x_ns : ∃ fd : FuncData, NsC K mg (He.ga K "NoText") (He.ga K "BeltError") (He.fAd K ("NoText", some "__init__")) fd

/-! ### heaps -/
def But (f : Addr) (H H' : Hp) : Prop := ∀ b o, H b = some o → b ≠ f → H' b = some o
theorem But.refl {f : Addr} {H : Hp} : But f H H := fun _ _ e _ => e
theorem But.trans {f : Addr} {H H1 H2 : Hp} (a : But f H H1) (b : But f H1 H2) : But f H H2 := fun x o e n => b x o (a x o e n) n
theorem But.upd {f : Addr} {H H1 : Hp} {o : HO} (a : But f H H1) : But f H (upd H1 f o) := fun x u e n => by rw [upd_ne n]; exact a x u e n
theorem But.new {f p : Addr} {H H1 : Hp} {o : HO} (a : But f H H1) (h : H1 p = none) : But f H (L2.upd H1 p o) := fun x u e n => by
  have e1 := a x u e n
  rw [upd_ne (ne_of_none e1 h)]
  exact e1
theorem same_new {H : Hp} {p : Addr} {o : HO} (h : H p = none) : Same H (upd H p o) := fun b u q => by rw [upd_ne (ne_of_none q h)]; exact q
theorem But.same {f : Addr} {H H1 H2 : Hp} (a : But f H H1) (b : Same H1 H2) : But f H H2 := fun x o e n => b x o (a x o e n)
theorem But.seqT {K : PySem.W.Frag} {f a : Addr} {H H1 : Hp} {xs : List V} (b : But f H H1) (h : SqT K H a xs) (n : a ≠ f) : SqT K H1 a xs := by
  rcases h with h | h
  · left
    rcases h with h | ⟨o, h⟩
    · exact .inl (b _ _ h n)
    · exact .inr ⟨o, b _ _ h n⟩
  · exact .inr h
/-- a comprehension without a test -/
theorem yes_in {σ : L2.St} {H : Hp} {A B : Hp → Prop} (h : A H) : tYes σ H (fun b H3 => if b = true then A H3 else B H3) := by
  show (if true = true then A H else B H)
  rw [if_pos rfl]
  exact h
/-! ### the draw -/
/-- the list of the law's draws at f, the script's copy at c -/
def Flow (H : Hp) (f c : Addr) : Prop := ∃ (ns : List Int) (i p q r : Int), H f = some (.lst [.ref c, .int i, .int p, .int q, .int r]) ∧ H c = some (.lst (ns.map V.int)) ∧ 0 ≤ i ∧ 0 ≤ p ∧ 0 ≤ q ∧ q < 2147483647
theorem Flow.new {H : Hp} {f c p : Addr} {o : HO} (h : Flow H f c) (n : H p = none) : Flow (upd H p o) f c := by
  obtain ⟨ns, i, a, q, r, e1, e2, e⟩ := h
  exact ⟨ns, i, a, q, r, same_new n _ _ e1, same_new n _ _ e2, e⟩
theorem Flow.ne {H : Hp} {f c p : Addr} (h : Flow H f c) (n : H p = none) : p ≠ f := by
  obtain ⟨ns, i, a, q, r, e1, _⟩ := h
  exact fun e => by rw [e, e1] at n; cases n
theorem Flow.nec {H : Hp} {f c p : Addr} (h : Flow H f c) (n : H p = none) : p ≠ c := by
  obtain ⟨ns, i, a, q, r, _, e1, _⟩ := h
  exact fun e => by rw [e, e1] at n; cases n
theorem Flow.lst {H : Hp} {f c p : Addr} {o : HO} (h : Flow H f c) (n1 : p ≠ f) (n2 : p ≠ c) : Flow (upd H p o) f c := by
  obtain ⟨ns, i, a, q, r, e1, e2, e⟩ := h
  exact ⟨ns, i, a, q, r, by rw [upd_ne n1.symm]; exact e1, by rw [upd_ne n2.symm]; exact e2, e⟩
theorem Flow.same {H H' : Hp} {f c : Addr} (h : Flow H f c) (s : Same H H') : Flow H' f c := by
  obtain ⟨ns, i, a, q, r, e1, e2, e⟩ := h
  exact ⟨ns, i, a, q, r, s _ _ e1, s _ _ e2, e⟩
theorem Flow.tup {H : Hp} {f c p : Addr} {xs : List V} (h : Flow H f c) (e : H p = some (.tup xs)) : p ≠ f := by
  obtain ⟨ns, i, a, q, r, e1, _⟩ := h
  exact ne_of e e1 (by intro z; cases z)
theorem at_ints {ns : List Int} {i : Int} (h0 : 0 ≤ i) (h1 : i < (ns.length : Int)) : ∃ v : Int, atI (ns.map V.int) i = some (.int v) := by
  have hk : i.toNat < ns.length := by omega
  have ek : i = ((i.toNat : Nat) : Int) := by omega
  have q : atI (ns.map V.int) ((i.toNat : Nat) : Int) = some (.int ns[i.toNat]) := atI_nat (by rw [List.getElem?_map, List.getElem?_eq_getElem hk]; rfl)
  rw [← ek] at q
  exact ⟨_, q⟩
/-- a block by less than it asks -/
theorem PSs.to {X : Cx} {ss : List Stmt} {t : TS} (h : PSs X ss t) (u : TS) (k : ∀ D σ H, u D σ H → t D σ H) : PSs X ss u := ⟨fun pins s σ H D I q => h.run pins s σ H D I (k D σ H q)⟩
theorem if_bl {b : Bool} {A B : Prop} (h1 : b = true → A) (h2 : b = false → B) : if b = true then A else B := by
  cases b
  · rw [if_neg Bool.false_ne_true]; exact h2 rfl
  · rw [if_pos rfl]; exact h1 rfl
/-! ### lists, two by two -/
inductive All2 {α β : Type} (R : α → β → Prop) : List α → List β → Prop
  | nil : All2 R [] []
  | cons {a b as bs} : R a b → All2 R as bs → All2 R (a :: as) (b :: bs)
theorem All2.imp {α β : Type} {R S : α → β → Prop} (h : ∀ a b, R a b → S a b) : ∀ {as bs}, All2 R as bs → All2 S as bs
  | _, _, .nil => .nil
  | _, _, .cons a b => .cons (h _ _ a) (All2.imp h b)
theorem All2.length {α β : Type} {R : α → β → Prop} : ∀ {as bs}, All2 R as bs → as.length = bs.length
  | _, _, .nil => rfl
  | _, _, .cons _ b => congrArg (· + 1) (All2.length b)
theorem All2.snoc {α β : Type} {R : α → β → Prop} {a b} (r : R a b) : ∀ {as bs}, All2 R as bs → All2 R (as ++ [a]) (bs ++ [b])
  | _, _, .nil => .cons r .nil
  | _, _, .cons h t => .cons h (All2.snoc r t)
theorem All2.get {α β : Type} {R : α → β → Prop} {as : List α} {bs : List β} (h : All2 R as bs) : ∀ {i : Nat} {b : β}, bs[i]? = some b → ∃ a, as[i]? = some a ∧ R a b := by
  induction h with
  | nil => intro i b e; cases e
  | cons r t ih =>
    intro i b e
    cases i with
    | zero => cases e; exact ⟨_, rfl, r⟩
    | succ i => exact ih e
theorem All2.getL {α β : Type} {R : α → β → Prop} {as : List α} {bs : List β} (h : All2 R as bs) : ∀ {i : Nat} {a : α}, as[i]? = some a → ∃ b, bs[i]? = some b ∧ R a b := by
  induction h with
  | nil => intro i b e; cases e
  | cons r t ih =>
    intro i b e
    cases i with
    | zero => cases e; exact ⟨_, rfl, r⟩
    | succ i => exact ih e
/-! ### tuples stay -/
def TK (H H' : Hp) : Prop := ∀ b xs, H b = some (.tup xs) → H' b = some (.tup xs)
theorem TK.refl {H : Hp} : TK H H := fun _ _ e => e
theorem TK.trans {H H1 H2 : Hp} (a : TK H H1) (b : TK H1 H2) : TK H H2 := fun x xs e => b x xs (a x xs e)
theorem TK.same {H H' : Hp} (s : Same H H') : TK H H' := fun x xs e => s _ _ e
theorem TK.new {H : Hp} {p : Addr} {o : HO} (n : H p = none) : TK H (upd H p o) := fun x xs e => same_new n _ _ e
theorem TK.lst {H : Hp} {p : Addr} {xs ys : List V} (h : H p = some (.lst xs)) : TK H (upd H p (.lst ys)) := fun x zs e => by
  rw [upd_ne (ne_of e h (by intro z; cases z))]
  exact e
theorem TK.but {H H' : Hp} {f c : Addr} (F : Flow H f c) (b : But f H H') : TK H H' := fun x xs e => b _ _ e (F.tup e)
theorem same_none {H H' : Hp} {p : Addr} (s : Same H H') (n : H' p = none) : H p = none := by
  cases e : H p with
  | none => rfl
  | some o => rw [s _ _ e] at n; cases n
theorem But.none {f p : Addr} {H H' : Hp} (b : But f H H') (n : H' p = Option.none) (h : p ≠ f) : H p = Option.none := by
  cases e : H p with
  | none => rfl
  | some o => rw [b _ _ e h] at n; cases n
theorem But.of {f : Addr} {H H' : Hp} (s : Same H H') : But f H H' := fun _ _ e _ => s _ _ e
/-- a list that was not there is written: what was stays -/
theorem But.own {f p : Addr} {H H1 : Hp} {o : HO} (a : But f H H1) (h : H p = Option.none) : But f H (L2.upd H1 p o) := fun x u e n => by
  rw [upd_ne (ne_of_none e h)]
  exact a x u e n
theorem Same.own {p : Addr} {H H1 : Hp} {o : HO} (a : Same H H1) (h : H p = Option.none) : Same H (L2.upd H1 p o) := fun x u e => by
  rw [upd_ne (ne_of_none e h)]
  exact a x u e
/-! ### loops over any iterator -/
theorem for_it {J : It} {n : Nat} {g : TG} {tb : TS} {D : Ends} {σ : L2.St} {H : Hp} (Pv : Nat → L2.St → Hp → Prop) (h0 : Pv 0 σ H) (go : ∀ i σ H, i < n → Pv i σ H → J.go i H) (st : ∀ σ H, Pv n σ H → J.stop n H)
    (hs : ∀ i x σ H H', i < n → Pv i σ H → J.yld i H x H' → g x σ H' fun σ2 H2 => tb { D with nx := Pv (i + 1), ct := Pv (i + 1), bk := D.nx } σ2 H2) (hd : ∀ σ H, Pv n σ H → D.nx σ H) :
    ∃ W : Nat → Nat → L2.St → Hp → Prop, (∃ m, W 0 m σ H) ∧ ∀ i m σ H, W i m σ H →
      (J.stop i H ∧ D.nx σ H) ∨ (J.go i H ∧ ∃ N : L2.St → Hp → Prop, (∀ σ' H', N σ' H' → ∃ m', m' < m ∧ W (i + 1) m' σ' H') ∧ ∀ x H', J.yld i H x H' → g x σ H' fun σ2 H2 => tb { D with nx := N, ct := N, bk := D.nx } σ2 H2) := by
  refine ⟨fun i m σ H => i + m = n ∧ Pv i σ H, ⟨n, by omega, h0⟩, fun i m σ H ⟨e, p⟩ => ?_⟩
  by_cases k : i < n
  · exact .inr ⟨go i σ H k p, Pv (i + 1), fun σ' H' p' => ⟨m - 1, by omega, by omega, p'⟩, fun x H' y => hs i x σ H H' k p y⟩
  · have z : i = n := by omega
    subst z
    exact .inl ⟨st σ H p, hd σ H p⟩
theorem lc_it {J : It} {n : Nat} {g : TG} {tt : TT} {te : TE} {vs : List Nat} {σ : L2.St} {H1 : Hp} {D : Addr} {Qd : Hp → Prop} (Pv : Nat → Hp → Prop) (h0 : Pv 0 (upd H1 D (.lst []))) (go : ∀ i H, i < n → Pv i H → J.go i H) (st : ∀ H, Pv n H → J.stop n H)
    (hs : ∀ i x H H', i < n → Pv i H → J.yld i H x H' → g x (wipe σ vs) H' fun σ2 H2 => wipe σ2 vs = wipe σ vs ∧ tt σ2 H2 fun b H3 =>
      if b = true then te σ2 H3 fun y H4 => ∃ acc, H4 D = some (.lst acc) ∧ acc.length < sizeLine ∧ Pv (i + 1) (upd H4 D (.lst (acc ++ [y]))) else Pv (i + 1) H3) (hd : ∀ H, Pv n H → Qd H) :
    ∃ W : Nat → Nat → Hp → Prop, (∃ m, W 0 m (upd H1 D (.lst []))) ∧ ∀ i m H, W i m H →
      (J.stop i H ∧ Qd H) ∨ (J.go i H ∧ ∃ Nx : Hp → Prop, (∀ H', Nx H' → ∃ m', m' < m ∧ W (i + 1) m' H') ∧ ∀ x H', J.yld i H x H' → g x (wipe σ vs) H' fun σ2 H2 => wipe σ2 vs = wipe σ vs ∧ tt σ2 H2 fun b H3 =>
        if b = true then te σ2 H3 fun y H4 => ∃ acc, H4 D = some (.lst acc) ∧ acc.length < sizeLine ∧ Nx (upd H4 D (.lst (acc ++ [y]))) else Nx H3) := by
  refine ⟨fun i m H => i + m = n ∧ Pv i H, ⟨n, by omega, h0⟩, fun i m H ⟨e, p⟩ => ?_⟩
  by_cases k : i < n
  · exact .inr ⟨go i H k p, Pv (i + 1), fun H' p' => ⟨m - 1, by omega, by omega, p'⟩, fun x H' y => hs i x H H' k p y⟩
  · have z : i = n := by omega
    subst z
    exact .inl ⟨st H p, hd H p⟩
/-! ### tests -/
theorem if_str {x z : Str} {A B : Prop} (h1 : x = z → A) (h2 : x ≠ z → B) : if decide (V.str x = V.str z) = true then A else B :=
  if_bl (fun e => h1 (V.str.inj (of_decide_eq_true e))) (fun e => h2 (fun q => of_decide_eq_false e (congrArg V.str q)))
theorem inV_strs {x : Str} {zs : List Str} : inV (.str x) (zs.map V.str) = true ↔ x ∈ zs := by
  unfold inV
  induction zs with
  | nil => simp
  | cons z zs ih =>
    rw [List.map_cons, List.any_cons, Bool.or_eq_true, ih, List.mem_cons]
    constructor
    · rintro (h | h)
      · exact .inl (by simpa [eqV] using (show (z == x) = true from h) |> fun k => (eq_of_beq k).symm)
      · exact .inr h
    · rintro (h | h)
      · exact .inl (show (z == x) = true by rw [h]; exact beq_self_eq_true z)
      · exact .inr h
theorem if_in {x : Str} {zs : List Str} {A B : Prop} (h1 : x ∈ zs → A) (h2 : x ∉ zs → B) : if (if false = true then !inV (.str x) (zs.map V.str) else inV (.str x) (zs.map V.str)) = true then A else B := by
  have e : (if false = true then !inV (.str x) (zs.map V.str) else inV (.str x) (zs.map V.str)) = inV (.str x) (zs.map V.str) := if_neg Bool.false_ne_true
  rw [e]
  exact if_bl (fun c => h1 (inV_strs.mp c)) (fun c => h2 (fun k => by rw [inV_strs.mpr k] at c; cases c))
theorem same_seqT {K : PySem.W.Frag} {a : Addr} {H H1 : Hp} {xs : List V} (b : Same H H1) (h : SqT K H a xs) : SqT K H1 a xs := by
  rcases h with h | h
  · left
    rcases h with h | ⟨o, h⟩
    · exact .inl (b _ _ h)
    · exact .inr ⟨o, b _ _ h⟩
  · exact .inr h
theorem little {n : Nat} (h : n ≤ 1000) : n ≤ sizeLine := Nat.le_of_lt (small1000 h)
/-! ### xs[i] op= e -/
def rGetL (K : PySem.W.Frag) : V → V → Hp → VK → Prop := fun o i H Q => ∃ (p : Addr) (xs : List V) (j : Nat) (v : V), o = .ref p ∧ i = .int (j : Nat) ∧ SqL K H p xs ∧ xs[j]? = some v ∧ Q v H
theorem get_list {X : Cx} : PGet X (rGetL X.K) := by
  intro pins st σ H o i ov iv Q J ro ri asked
  obtain ⟨p, xs, j, v, rfl, rfl, hq, hj, now⟩ := asked
  cases ro
  obtain ⟨t, rfl⟩ := ri
  obtain ⟨its, r, pl, hz⟩ := J.list hq
  obtain ⟨u, eu, ru⟩ := r.get hj
  have n1 := (List.getElem?_eq_some_iff.mp hj).1
  have n2 := line63
  exact wpAny_getItem_list pl.isList (by omega) (by omega) (by simpa using eu) ⟨v, H, J, ru, now⟩
/-! ### the same rules, the written part named (so that they fit within comprehensions) -/
section
variable {X : Cx}
theorem ix_listK (K : PySem.W.Frag) (h : X.K = K) : IxR X (rIxL K) := by subst h; exact ix_list
theorem ix_tupK (K : PySem.W.Frag) (h : X.K = K) : IxR X (rIxT K) := by subst h; exact ix_tup
def rLenK (K : PySem.W.Frag) : List V → Hp → VK → Prop := fun xs H Q => ∃ (p : Addr) (ys : List V), xs = [.ref p] ∧ (SqL K H p ys ∨ SqT K H p ys) ∧ Q (.int (ys.length : Nat)) H
theorem call_len_seqK (K : PySem.W.Frag) (h : X.K = K) : CallR X (.builtin "len") (rLenK K) := by subst h; exact call_len_seq
def rListOfK (K : PySem.W.Frag) : List V → Hp → VK → Prop := fun xs H Q => ∃ (p : Addr) (ys : List V), xs = [.ref p] ∧ (SqL K H p ys ∨ SqT K H p ys) ∧ ∀ l, H l = none → Q (.ref l) (upd H l (.lst ys))
theorem call_list_ofK (K : PySem.W.Frag) (h : X.K = K) : CallR X (.type "list") (rListOfK K) := by subst h; exact call_list_of
def rTupOfK (K : PySem.W.Frag) : List V → Hp → VK → Prop := fun xs H Q => ∃ (p : Addr) (ys : List V), xs = [.ref p] ∧ ((SqL K H p ys ∧ ∀ l, H l = none → Q (.ref l) (upd H l (.tup ys))) ∨ (SqT K H p ys ∧ Q (.ref p) H))
theorem call_tuple_ofK (K : PySem.W.Frag) (h : X.K = K) : CallR X (.type "tuple") (rTupOfK K) := by subst h; exact call_tuple_of
theorem op_in_seqK (K : PySem.W.Frag) (h : X.K = K) : OpR X (compareOp .In) (rIn K false) := by subst h; exact op_in_seq
theorem op_notIn_seqK (K : PySem.W.Frag) (h : X.K = K) : OpR X (compareOp .NotIn) (rIn K true) := by subst h; exact op_notIn_seq
theorem sl_listK (K : PySem.W.Frag) (h : X.K = K) : SlR X (rSlL K) := by subst h; exact sl_list
theorem sl_tupAK (K : PySem.W.Frag) (h : X.K = K) : SlR X (rSlA K) := by subst h; exact sl_tupA
theorem op_eqDK (K : PySem.W.Frag) (h : X.K = K) (hu : X.A.units + 64 < cLine) : OpR X (compareOp .Eq) (rEqD K) := by subst h; exact op_eqD hu
theorem op_neDK (K : PySem.W.Frag) (h : X.K = K) (hu : X.A.units + 64 < cLine) : OpR X (compareOp .NotEq) (rNeD K) := by subst h; exact op_neD hu
theorem call_isiKK (K : PySem.W.Frag) (h : X.K = K) : CallR X (.builtin "isinstance") (rIsi K) := by subst h; exact call_isi
theorem cr_allK (K : PySem.W.Frag) (h : X.K = K) (hc : X.calm = true) : CallR X (.builtin "all") (rAll K) := by subst h; exact cr_all hc
theorem cr_anyK (K : PySem.W.Frag) (h : X.K = K) (hc : X.calm = true) : CallR X (.builtin "any") (rAny K) := by subst h; exact cr_any hc
theorem cr_minKK (K : PySem.W.Frag) (h : X.K = K) (hc : X.calm = true) : CallR X (.builtin "min") (rMin K) := by subst h; exact cr_min hc
theorem cr_maxKK (K : PySem.W.Frag) (h : X.K = K) (hc : X.calm = true) : CallR X (.builtin "max") (rMax K) := by subst h; exact cr_max hc
def tTruK (K : PySem.W.Frag) (ta : TE) : TT := fun σ H Q => ta σ H fun x H' => ∃ k, TruV K x H' k ∧ Q k H'
theorem pt_truthK (K : PySem.W.Frag) (h : X.K = K) {a : Expr} {ta : TE} (ha : PE X a ta) (he : ∀ whole, isTrue a X.env whole = (do let v ← whole; standAt a.pos; holding [v] (truthy v))) : PT X a (tTruK K ta) := by subst h; exact pt_truth ha he
theorem get_listK (K : PySem.W.Frag) (h : X.K = K) : PGet X (rGetL K) := by subst h; exact get_list
theorem pg_tupK (K : PySem.W.Frag) (h : X.K = K) {es : List Expr} {k n : Nat} {t : TGs} {pos : Pos} (hc : X.calm = true) (g : PGs X es t)
    (hn : (assignEach es X.env).length = n := by rfl) (hst : (assignEach es X.env).findIdx? (·.1) = none := by rfl) : PG X (.Tuple es k pos) (gTup K n t) := by subst h; exact pg_tup hc g hn hst
theorem pg_unlK (K : PySem.W.Frag) (h : X.K = K) {es : List Expr} {k n : Nat} {t : TGs} {pos : Pos} (hc : X.calm = true) (g : PGs X es t)
    (hn : (assignEach es X.env).length = n := by rfl) (hst : (assignEach es X.env).findIdx? (·.1) = none := by rfl) : PG X (.Tuple es k pos) (gUnl K n t) := by subst h; exact pg_unl hc g hn hst
theorem pi_listK (K : PySem.W.Frag) (h : X.K = K) {tg e : Expr} {te : TE} (he : PE X e te) : PI X tg e (iList K te) := by subst h; exact pi_list he
theorem pi_tupK (K : PySem.W.Frag) (h : X.K = K) {tg e : Expr} {te : TE} (he : PE X e te) : PI X tg e (iTup K te) := by subst h; exact pi_tup he
theorem pe_revLK (K : PySem.W.Frag) (h : X.K = K) {e : Expr} {te : TE} {k : Nat} {p1 p2 p3 pos : Pos} (he : PE X e te) : PE X (.Subscript e (.Slice none none (some (.UnaryOp .USub (.Constant (.int 1) k p1) p2)) p3) pos) (tRevL K te) := by subst h; exact pe_revL he
theorem pe_bmK (K : PySem.W.Frag) (h : X.K = K) {o e : Expr} {es : List Expr} {to : TE} {t : TA} {name : Str} {apos cpos : Pos} {T id : String} {r : V → List V → Hp → VK → Prop}
    (pa : PlainAttrs T) (slot : Slot T name id) (hty : typeOf (.builtin id) = pure (.type "method_descriptor")) (hm : MtR X id r) (ho : PE X o to) (ha : PA X (e :: es) t)
    (n1 : attributeBase o name X.env (eval o X.env) = eval o X.env := by rfl)
    (n2 : ((backTo cpos (starEach (e :: es) X.env)).all (fun x => !x.1) && (backToKw cpos (keywordEach [] X.env)).all (fun x => x.1.isSome) && decide ((e :: es).length + ([] : List Keyword).length + (if ([] : List Keyword).isEmpty then 0 else 1) < 30)) = true := by rfl)
    (n3 : (apos.endLine == cpos.line) = true := by rfl) (n4 : starEach (e :: es) X.env = (false, eval e X.env) :: starEach es X.env := by rfl) (n5 : (backTo cpos (starEach es X.env)).any (·.1) = false := by rfl) :
    PE X (.Call (.Attribute o name apos) (e :: es) [] cpos) (tBM K T r to t) := by subst h; exact pe_bm pa slot hty hm ho ha n1 n2 n3 n4 n5
theorem pe_bm0K (K : PySem.W.Frag) (h : X.K = K) {o : Expr} {to : TE} {name : Str} {apos cpos : Pos} {T id : String} {r : V → List V → Hp → VK → Prop}
    (pa : PlainAttrs T) (slot : Slot T name id) (hty : typeOf (.builtin id) = pure (.type "method_descriptor")) (hm : MtR X id r) (ho : PE X o to)
    (n1 : attributeBase o name X.env (eval o X.env) = eval o X.env := by rfl) (n3 : (apos.endLine == cpos.line) = true := by rfl) : PE X (.Call (.Attribute o name apos) [] [] cpos) (tBM0 K T r to) := by subst h; exact pe_bm0 pa slot hty hm ho n1 n3
theorem op_catAK (K : PySem.W.Frag) (h : X.K = K) : OpR X (binaryOp .Add) (rCatA K) := by subst h; exact op_catA
theorem call_isiTK (K : PySem.W.Frag) (h : X.K = K) : CallR X (.builtin "isinstance") (rIsiT K) := by subst h; exact call_isiT
theorem pi_zipAK (K : PySem.W.Frag) (h : X.K = K) {e e2 : Expr} {ta : TA} {p pos tpos : Pos} {elts : List Expr} {kk : Nat} (hg : Gl X "zip") (hm : X.mg "zip" = none) (ha : PA X [e, e2] ta)
    (hs : starEach [e, e2] X.env = (false, eval e X.env) :: starEach [e2] X.env := by rfl) (hpl : (backTo pos (starEach [e2] X.env)).any (·.1) = false := by rfl) :
    PI X (.Tuple elts kk tpos) (.Call (.Name "zip" p) [e, e2] [] pos) (RZ.iZipA K ta) := by subst h; exact RZ.pi_zipA hg hm ha hs hpl
theorem pi_or {tg e : Expr} {t1 t2 : TI} (h1 : PI X tg e t1) (h2 : PI X tg e t2) : PI X tg e (fun σ H R => t1 σ H R ∨ t2 σ H R) := ⟨fun pins s σ H R I h => h.elim (h1.run pins s σ H R I) (h2.run pins s σ H R I)⟩
theorem pe_fldK (K : PySem.W.Frag) (h : X.K = K) {e : Expr} {ta : TE} {f : Str} {pos : Pos} (he : PE X e ta) (hb : attributeBase e f X.env (eval e X.env) = eval e X.env) : PE X (.Attribute e f pos) (tFld K ta f) := by subst h; exact pe_fld he hb
theorem ps_fldK (K : PySem.W.Frag) (h : X.K = K) {o value : Expr} {ta tv : TE} {f : Str} {pos pos' : Pos} (ha : PE X o ta) (hv : PE X value tv) (hs : swapsWith value (some (.Attribute o f pos')) pos.line X.env = pure false) : PS X (.Assign [.Attribute o f pos'] value pos) (sFld K ta tv f) := by subst h; exact ps_fld ha hv hs
theorem ps_fldaugK (K : PySem.W.Frag) (h : X.K = K) {o value : Expr} {ta tv : TE} {f : Str} {pos tpos : Pos} {op : Operator} {rd : V → V → Hp → VK → Prop} (ha : PE X o ta) (hv : PE X value tv) (hop : InOp X op rd) : PS X (.AugAssign (.Attribute o f tpos) op value pos) (sFldAug K ta tv rd f) := by subst h; exact ps_fldaug ha hv hop
end
section
variable {X : Cx}
theorem cr_sumK (K : PySem.W.Frag) (h : X.K = K) (hc : X.calm = true) : CallR X (.builtin "sum") (rSum K) := by subst h; exact cr_sum hc
end
section
variable {X : Cx}
theorem op_ltTK (K : PySem.W.Frag) (h : X.K = K) (hu : X.A.units < cLine) : OpR X (compareOp .Lt) (rLtT K) := by subst h; exact op_ltT hu
end
section
variable {X : Cx}
theorem cr_sortedRevK (K : PySem.W.Frag) (h : X.K = K) {b : Bool} : CallRK X (.builtin "sorted") [Str.ofString "reverse"] (rSortedKw K b [.bl b]) := by subst h; exact cr_sortedRev
theorem op_inDK (K : PySem.W.Frag) (h : X.K = K) (hu : X.A.units + 65 < cLine) : OpR X (compareOp .In) (rInD K) := by subst h; exact op_inD hu
end
theorem hu65 {A : Around} {k : Nat} (hr : Room k A) : A.units + 65 < cLine := by have := hr.un; omega
section
variable {X : Cx}
/-- x not in t, t a tuple of data of any depth -/
def rNotInDT (K : PySem.W.Frag) : R2 := fun x y H Q => ∃ d ds, Dp K H x d ∧ Dp K H y (.tuple ds) ∧ SeqAt.shaped d = true ∧ SeqAt.shaped (.tuple ds) = true ∧ Q (.bl (!ds.any fun z => PyData.eqv z d)) H
theorem op_notInDTK (K : PySem.W.Frag) (same : X.K = K) (room : X.A.units + 65 < cLine) : OpR X (compareOp .NotIn) (rNotInDT K) := by
  subst same
  intro pins st σ H one many ov mv Q J ro rm asked
  have ⟨d, ds, dpO, dpM, shO, shM, done⟩ := asked
  have ⟨_, readO⟩ := Dp.reads J d one ov dpO ro
  have ⟨_, readM⟩ := Dp.reads J (.tuple ds) many mv dpM rm
  exact SeqAt.notIn_tuple_reads readM readO (SeqAt.canLay_of_shaped shM) (SeqAt.canLay_of_shaped shO) (room_in_shaped shO room) ⟨.bl _, H, J, rfl, done⟩
end
section
variable {X : Cx}
/-- x in t, t a tuple of data of any depth -/
def rInDT (K : PySem.W.Frag) : R2 := fun x y H Q => ∃ d ds, Dp K H x d ∧ Dp K H y (.tuple ds) ∧ SeqAt.shaped d = true ∧ SeqAt.shaped (.tuple ds) = true ∧ Q (.bl (ds.any fun z => PyData.eqv z d)) H
theorem op_inDTK (K : PySem.W.Frag) (same : X.K = K) (room : X.A.units + 65 < cLine) : OpR X (compareOp .In) (rInDT K) := by
  subst same
  intro pins st σ H one many ov mv Q J ro rm asked
  have ⟨d, ds, dpO, dpM, shO, shM, done⟩ := asked
  have ⟨_, readO⟩ := Dp.reads J d one ov dpO ro
  have ⟨_, readM⟩ := Dp.reads J (.tuple ds) many mv dpM rm
  exact SeqAt.in_tuple_reads readM readO (SeqAt.canLay_of_shaped shM) (SeqAt.canLay_of_shaped shO) (room_in_shaped shO room) ⟨.bl _, H, J, rfl, done⟩
end
/-! ### for i, x in enumerate(t), t a tuple -/
section
open Sem (wp)
open AutoSeq1 (wpAny_loadPart')
theorem enum_of_tup (t : Addr) (its : Array Value) (n : Nat) (dct : Option Addr) (sl : Array (Option Value)) :
    Meets (Builtin.«enumerate.__new__» ⟨[.type "enumerate", .ref t], []⟩) (fun _ R st => st.heap.get? t = some { cls := .type "tuple", dict := dct, data := .seq its n, slots := sl } ∧
      R (.ok (.ret (.ref (st.heap.push { cls := .type "tuple_iterator", data := .fields #[.ref t, .int 0 0] }).objs.size)))
        { st with heap := (st.heap.push { cls := .type "tuple_iterator", data := .fields #[.ref t, .int 0 0] }).push { cls := .type "enumerate", data := .fields #[.none, .bool false, .ref st.heap.objs.size, rawInt 0, .none, .none] } }) :=
  .of_wp fun prog w A R st asked => by
    obtain ⟨hp, g, d, tk, os⟩ := st; obtain ⟨at_, asked⟩ := asked
    have sub := sub_enumerate
    have hT : Heap.IsTuple (Shared.heap ⟨hp, g, d, tk, os⟩) t its := ⟨_, at_, rfl, n, rfl⟩
    wp_walk using wpAny_loadPart' at_
    refine wpAny_stack_any fun stk => wpAny_pure ?_
    split
    · rename_i c _ _ _ _ _
      cases (c == Value.type "enumerate")
      · wp_walk using wpAny_loadPart' at_, wpAny_pyIter_tuple hT
        exact ⟨_, rfl, asked⟩
      · wp_walk using wpAny_loadPart' at_, wpAny_pyIter_tuple hT
        exact ⟨_, rfl, asked⟩
    · wp_walk using wpAny_loadPart' at_, wpAny_pyIter_tuple hT
      exact ⟨_, rfl, asked⟩
theorem call_enum_tup {prog : Program} {w : World} {A : Around} {E : Value → Shared → Prop} {st : Shared} {t : Addr} {its : Array Value} {Q : Value → Shared → Prop} (hT : st.heap.IsTuple t its)
    (now : ∀ h', IsEnum h' (st.heap.objs.size + 1) st.heap.objs.size 0 .none → h'.IsTupleIter st.heap.objs.size t 0 → h'.objs.size = st.heap.objs.size + 2 →
      (∀ b o, st.heap.get? b = some o → h'.get? b = some o) → Q (.ref (st.heap.objs.size + 1)) { st with heap := h' }) :
    wpAny (model prog w) A (call (.type "enumerate") [.ref t]) Q E st := by
  obtain ⟨⟨c, dct, dt, sl⟩, at_, hc, n, hd⟩ := hT
  replace hc : c = .type "tuple" := hc
  replace hd : dt = .seq its n := hd
  subst hc hd
  refine callType_new F.called_enumerate (by decide) (F.typeCall_enumerate_1 _) (F.newCall_enumerate_1 _) (fun obj => F.args_object_init_2 obj _) F.entry_enumerate_new (enum_of_tup t its n dct sl) ⟨at_, ?_⟩
  have size1 : (st.heap.push { cls := .type "tuple_iterator", data := .fields #[.ref t, .int 0 0] }).objs.size = st.heap.objs.size + 1 := Heap.size_push ..
  show _ ∧ _
  rw [size1]
  have made := Heap.get?_push_size (st.heap.push { cls := .type "tuple_iterator", data := .fields #[.ref t, .int 0 0] }) (o := { cls := .type "enumerate", data := .fields #[.none, .bool false, .ref st.heap.objs.size, rawInt 0, .none, .none] }) rfl
  rw [size1] at made
  exact ⟨⟨_, made, rfl⟩, now _ made ⟨_, Heap.get?_push_of_some _ (Heap.get?_push_size _ rfl), rfl, rfl⟩ (by rw [Heap.size_push, size1]) fun b o e => Heap.get?_push_of_some _ (Heap.get?_push_of_some _ e)⟩
end
/-- the tuple at a, each item in a new pair -/
def IteT (K : PySem.W.Frag) (a : Addr) (xs : List V) : It :=
  ⟨fun i H => SqT K H a xs ∧ i < xs.length, fun i H v H' => ∃ T x, v = .ref T ∧ H T = none ∧ H' = upd H T (.tup [.int (i : Nat), x]) ∧ xs[i]? = some x, fun i H => SqT K H a xs ∧ i = xs.length⟩
theorem turn_enumT {P : Program} {w : World} {K : PySem.W.Frag} {elts : List Expr} {kk : Nat} {tpos : Pos} (a e it : Addr) (xs : List V) :
    Turn P w K (.Tuple elts kk tpos) (IteT K a xs) [e, it] e (fun i h => (∃ old, IsEnum h e it ((i : Nat) : Int) old) ∧ h.IsTupleIter it a i ∧ e ≠ it ∧ a ≠ it ∧ a ≠ e) where
  mem := by simp
  obj := fun i h st b hb => by
    obtain ⟨⟨old, he⟩, ⟨o, ho, hc, hd⟩, _⟩ := st
    have either : b = e ∨ b = it := by simpa using hb
    rcases either with z | z
    · rw [z]; exact ⟨_, he, fun v q => nomatch q⟩
    · rw [z]; exact ⟨o, ho, fun v q => by rw [hd] at q; cases q⟩
  keep := fun i h h' st k => let ⟨⟨old, he⟩, hi, apart⟩ := st; ⟨⟨old, k e (by simp) _ he⟩, hi.at fun o q => k it (by simp) o q, apart⟩
  item := by
    intro X hP hw hK hc i pins st σ H E J hf stt going
    subst hP hw hK
    obtain ⟨⟨old, he⟩, hit, n1, n2, n3⟩ := stt
    obtain ⟨hq, hi⟩ := going
    obtain ⟨its, rv, tup, hz⟩ := J.tuple hq
    have len := rv.length
    have el : e < st.heap.objs.size := Heap.lt_size he
    have il : it < st.heap.objs.size := by obtain ⟨_, q, _⟩ := hit; exact Heap.lt_size q
    have D := Draws.tuple (prog := X.prog) (w := X.w) (A := X.A.in1) (J.ok.hd hc) it a n2 its.toArray
    refine wpAny_pyNext_enum_itemD D he ⟨hit, tup⟩ (by rw [List.size_toArray]; omega) n1 (by simp [n1, n3.symm]) fun u h' tk px out stt' new size kp => ?_
    refine ⟨_, rfl, wpAny_letOwnedTupleGo_enum (s := { st with heap := h', toks := tk + 1 }) out fun h'' he' sb => ?_⟩
    obtain ⟨x, hx⟩ : ∃ x, xs[i]? = some x := ⟨_, List.getElem?_eq_getElem hi⟩
    obtain ⟨u', hu', ru⟩ := rv.get hx
    have eu : u' = u := by
      have px : its.toArray[i]? = some u := px
      rw [List.getElem?_toArray, hu'] at px
      exact Option.some.inj px
    subst eu
    have there : h''.get? st.heap.objs.size = some { cls := .type "tuple", data := .seq #[.int i tk, u'] } := (sb.2 _ (Nat.ne_of_gt el)).trans new
    have ok2 : ObjOk X.prog X.w (upd H st.heap.objs.size (.tup [.int (i : Nat), x])) h'' st.heap.objs.size (.tup [.int (i : Nat), x]) :=
      ⟨by show 2 ≤ sizeLine; decide, [.int i tk, u'], .cons ⟨_, rfl⟩ (.cons ru .nil), ⟨_, there, rfl, _, rfl⟩⟩
    have J1 : Inv X pins σ (upd H st.heap.objs.size (.tup [.int (i : Nat), x])) { st with heap := h'', toks := tk + 1 } :=
      J.turnedNew (ch := [e, it]) (fun b ob hb q => (sb.2 b (fun z => hb (by simp [z]))).trans (kp b ob (fun z => hb (by simp [z])) (fun z => hb (by simp [z])) q)) hf (Nat.le_refl _) ok2
    refine ⟨.ref st.heap.objs.size, _, J1, rfl, ⟨_, x, rfl, J.hok.fresh (Nat.le_refl _), rfl, hx⟩, ⟨⟨u', ?_⟩, stt'.1.at fun o q => (sb.2 it (Ne.symm n1)).trans q, n1, n2, n3⟩, fun b hb => ?_⟩
    · rw [show ((i + 1 : Nat) : Int) = (i : Int) + 1 by omega]
      exact he'
    · have bl : b < st.heap.objs.size := by
        have either : b = e ∨ b = it := by simpa using hb
        rcases either with z | z
        · rw [z]; exact el
        · rw [z]; exact il
      rw [upd_ne (Nat.ne_of_lt bl)]
      exact (hf b hb).1
  done := by
    intro X hP hw hK hc i pins st σ H E J hf stt over
    subst hP hw hK
    obtain ⟨⟨old, he⟩, hit, n1, n2, n3⟩ := stt
    obtain ⟨hq, hi⟩ := over
    obtain ⟨its, rv, tup, hz⟩ := J.tuple hq
    obtain ⟨f0, f1, f2, f3, f4, f5⟩ := hf it (by simp)
    have len := rv.length
    have D := Draws.tuple (prog := X.prog) (w := X.w) (A := X.A.in1) (J.ok.hd hc) it a n2 its.toArray
    have ei : its.toArray.size = i := by rw [List.size_toArray]; omega
    exact wpAny_pyNext_enum_endD D he ⟨by rw [ei]; exact hit, tup⟩ fun h' eb => ⟨rfl, J.turned (t' := st.toks) (fun b o hb q => eb b o hb q) f0 f1 f3 f4 f5⟩
  self := fun A i st Q E stt now => let ⟨⟨_, he⟩, _⟩ := stt; wpAny_pyIter_enum he now
def iEnumT (K : PySem.W.Frag) (ta : TA) : TI := fun σ H R => ta σ H fun vs H1 => ∃ a xs, vs = [.ref a] ∧ SqT K H1 a xs ∧ R (IteT K a xs) H1
theorem pi_enumT (K : PySem.W.Frag) {X : Cx} (hk : X.K = K) {e : Expr} {ta : TA} {p pos tpos : Pos} {elts : List Expr} {kk : Nat} (hg : Gl X "enumerate") (hm : X.mg "enumerate" = none) (ha : PA X [e] ta) (hs : starEach [e] X.env = [(false, eval e X.env)] := by rfl) :
    PI X (.Tuple elts kk tpos) (.Call (.Name "enumerate" p) [e] [] pos) (iEnumT K ta) := by
  subst hk
  refine ⟨fun pins st σ H R J asked => ?_⟩
  refine Call_ (ld_blt J hg hm boot_enumerate (PyProof.Rows.callWith_type1 (thn (ha.run pos pins st σ H _ J asked) fun us st1 ⟨vs, H1, J1, rel, now⟩ => ?_) hs rfl))
  obtain ⟨a, xs, ex, hq, now⟩ := now
  subst ex
  obtain ⟨u, rfl, ru⟩ := vals1 rel
  obtain rfl : u = Value.ref a := ru
  obtain ⟨its, rv, tup, hz⟩ := J1.tuple hq
  have al : a < st1.heap.objs.size := by obtain ⟨o, ho, _⟩ := tup; exact Heap.lt_size ho
  refine call_enum_tup tup fun h' he hit size kp => wpAny_pyIter_enum he ?_
  have J2 : Inv X pins σ H1 { st1 with heap := h' } := J1.kept (t' := st1.toks) kp
  refine ⟨st1.heap.objs.size + 1, [st1.heap.objs.size + 1, st1.heap.objs.size], _, _, H1, rfl, J2, turn_enumT a (st1.heap.objs.size + 1) st1.heap.objs.size xs, ⟨⟨.none, he⟩, hit, Nat.succ_ne_self _, Nat.ne_of_lt al, Nat.ne_of_lt (Nat.lt_succ_of_lt al)⟩, fun b hb => ?_, now⟩
  have either : b = st1.heap.objs.size + 1 ∨ b = st1.heap.objs.size := by simpa using hb
  have low : st1.heap.objs.size ≤ b := by
    rcases either with z | z
    · rw [z]; exact Nat.le_add_right _ _
    · rw [z]; exact Nat.le_refl _
  exact J1.fpOk low (J1.hok.fresh low)
theorem pi_enumK (K : PySem.W.Frag) (h : X.K = K) {e : Expr} {ta : TA} {p pos tpos : Pos} {elts : List Expr} {kk : Nat} (hg : Gl X "enumerate") (hm : X.mg "enumerate" = none) (ha : PA X [e] ta) (hs : starEach [e] X.env = [(false, eval e X.env)] := by rfl) :
    PI X (.Tuple elts kk tpos) (.Call (.Name "enumerate" p) [e] [] pos) (iEnum K ta) := by subst h; exact pi_enum hg hm ha hs
/-! ### dict(zip(xs, ys)), xs a list, ys a tuple -/
section
open Sem (wp)
variable {prog : Program} {w : World} {A : Around} {E : Value → Shared → Prop} {st : Shared} {z TI TO T i1 i2 : Addr} {fp1 fp2 : List Addr} {n1 n2 i : Nat} {P1 P2 : Nat → Value → Prop} {S1 S2 : Nat → Heap → Prop} {f : Bool} {oT : Obj}
theorem out_next (S : ZipSep2 z TI TO i1 i2 fp1 fp2) (D1 : Draws prog w A i1 fp1 n1 P1 S1) (D2 : Draws prog w A i2 fp2 n2 P2 S2) {Q : Value → Shared → Prop}
    (out : IsZipHeld st.heap z TI TO T f) (hT : st.heap.get? T = some oT) (both : IsTupOf2 st.heap TI (.ref i1) (.ref i2)) (at1 : S1 i st.heap) (at2 : S2 i st.heap) (l1 : i < n1) (l2 : i < n2)
    (now : ∀ x y h' tk, P1 i x → P2 i y → IsZipHeld h' z TI TO T true → S1 (i + 1) h' → S2 (i + 1) h' → IsTupOf2 h' st.heap.objs.size x y → (∀ c o, c ≠ z → c ≠ i1 → c ≠ i2 → st.heap.get? c = some o → h'.get? c = some o) → Q (.ref st.heap.objs.size) { st with heap := h', toks := tk }) :
    wpAny (model prog w) A (Builtin.«zip.__next__» ⟨[.ref z], []⟩) (fun fin s' => ∃ v, fin = .done (.ret v) ∧ Q v s') E st := by
  obtain ⟨hp, g, d, tk0, os⟩ := st
  show wpAny _ _ (field (.ref z) 2 >>= _) _ _ _; refine wpAny_bind (wpAny_field out rfl (x := .bool false) rfl ?_)
  show wpAny _ _ (field (.ref z) 3 >>= _) _ _ _; refine wpAny_bind (wpAny_field out rfl (x := .ref TI) rfl ?_)
  refine wpAny_bind (wpAny_seqItems both rfl ?_); show wpAny _ _ (Builtin.SmallTypes.ownedTupleIsFree (.ref z) >>= _) _ _ _
  refine wpAny_bind (wpAny_tupleHeld_zip out hT fun g1 out1 b1 => ?_)
  replace b1 : Heap.SameBut z hp g1 := b1
  simp only [Bool.false_eq_true, if_false]; refine wpAny_bind ?_; rw [← Array.forIn_toList]; simp only [List.forIn_cons, List.forIn_nil]
  refine wpAny_bind (wpAny_bind (wpAny_holding ?_)); show wpAny _ _ (Builtin.SmallTypes.nextOf (.ref i1) >>= _) _ _ ⟨g1, g, d, tk0, os⟩
  refine wpAny_bind (D1.item i _ _ _ l1 (D1.over at1 b1 S.zf1) fun x g2 tk1 px n1' b2 => wpAny_pure ?_)
  replace b2 : Heap.SameBut i1 g1 g2 := b2
  refine wpAny_pure ?_; refine wpAny_bind (wpAny_bind (wpAny_holding ?_)); show wpAny _ _ (Builtin.SmallTypes.nextOf (.ref i2) >>= _) _ _ ⟨g2, g, d, tk1, os⟩
  refine wpAny_bind (D2.item i _ _ _ l2 (D2.over (D2.over at2 b1 S.zf2) b2 S.sep1_2) fun y g3 tk2 py n2' b3 => wpAny_pure ?_)
  replace b3 : Heap.SameBut i2 g2 g3 := b3
  refine wpAny_pure (wpAny_pure ?_); show wpAny _ _ (newTuple [x, y] >>= _) _ _ ⟨g3, g, d, tk2, os⟩
  refine wpAny_bind (wpAny_newTuple ?_); refine wpAny_pure ⟨_, rfl, ?_⟩
  have size : g3.objs.size = hp.objs.size := by rw [b3.1, b2.1, b1.1]
  have out3 : IsZipHeld g3 z TI TO T true := b3.extBut _ _ S.zi2 (b2.extBut _ _ S.zi1 out1)
  have new : IsTupOf2 (g3.push { cls := .type "tuple", data := .seq #[x, y] }) g3.objs.size x y := Heap.get?_push_size _ rfl
  show Q (.ref g3.objs.size) _
  rw [size] at new ⊢
  exact now x y _ tk2 px py (Heap.get?_push_of_some _ out3) (D1.frame _ _ _ (D1.over n1' b3 S.sep2_1) fun _ _ _ q => Heap.get?_push_of_some _ q) (D2.frame _ _ _ n2' fun _ _ _ q => Heap.get?_push_of_some _ q) new
    fun c o c1 c2 c3 q => Heap.get?_push_of_some _ (b3.extBut _ _ c3 (b2.extBut _ _ c2 (b1.extBut _ _ c1 q)))
theorem out_end (S : ZipSep2 z TI TO i1 i2 fp1 fp2) (D1 : Draws prog w A i1 fp1 n1 P1 S1) (D2 : Draws prog w A i2 fp2 n2 P2 S2) {Q : Fin → Shared → Prop}
    (out : IsZipHeld st.heap z TI TO T f) (hT : st.heap.get? T = some oT) (both : IsTupOf2 st.heap TI (.ref i1) (.ref i2)) (at1 : S1 i st.heap) (at2 : S2 i st.heap) (l1 : i ≤ n1) (l2 : i ≤ n2) (last : i = n1 ∨ i = n2)
    (now : ∀ h' tk e, (∀ c o, c ≠ z → c ≠ i1 → c ≠ i2 → st.heap.get? c = some o → h'.get? c = some o) → (∃ o, h'.get? e = some o ∧ o.cls = .type "StopIteration") → E (.ref e) { st with heap := h', toks := tk }) :
    wpAny (model prog w) A (Builtin.«zip.__next__» ⟨[.ref z], []⟩) Q E st := by
  obtain ⟨hp, g, d, tk0, os⟩ := st
  show wpAny _ _ (field (.ref z) 2 >>= _) _ _ _; refine wpAny_bind (wpAny_field out rfl (x := .bool false) rfl ?_)
  show wpAny _ _ (field (.ref z) 3 >>= _) _ _ _; refine wpAny_bind (wpAny_field out rfl (x := .ref TI) rfl ?_)
  refine wpAny_bind (wpAny_seqItems both rfl ?_); show wpAny _ _ (Builtin.SmallTypes.ownedTupleIsFree (.ref z) >>= _) _ _ _
  refine wpAny_bind (wpAny_tupleHeld_zip out hT fun g1 out1 b1 => ?_)
  replace b1 : Heap.SameBut z hp g1 := b1
  simp only [Bool.false_eq_true, if_false]; refine wpAny_bind ?_; rw [← Array.forIn_toList]; simp only [List.forIn_cons, List.forIn_nil]
  refine wpAny_bind (wpAny_bind (wpAny_holding ?_)); show wpAny _ _ (Builtin.SmallTypes.nextOf (.ref i1) >>= _) _ _ ⟨g1, g, d, tk0, os⟩
  by_cases more : i < n1
  · refine wpAny_bind (D1.item i _ _ _ more (D1.over at1 b1 S.zf1) fun x g2 tk1 px n1' b2 => wpAny_pure ?_)
    replace b2 : Heap.SameBut i1 g1 g2 := b2
    refine wpAny_pure ?_; refine wpAny_bind (wpAny_bind (wpAny_holding ?_)); show wpAny _ _ (Builtin.SmallTypes.nextOf (.ref i2) >>= _) _ _ ⟨g2, g, d, tk1, os⟩
    have e2 : i = n2 := by omega
    subst e2
    refine wpAny_bind (D2.done _ _ _ (D2.over (D2.over at2 b1 S.zf2) b2 S.sep1_2) fun g3 e b3 he => ?_)
    exact now g3 tk1 e (fun c o c1 c2 c3 q => b3 _ _ c3 (b2.extBut _ _ c2 (b1.extBut _ _ c1 q))) he
  · have e1 : i = n1 := by omega
    subst e1
    refine wpAny_bind (D1.done _ _ _ (D1.over at1 b1 S.zf1) fun g3 e b3 he => ?_)
    exact now g3 tk0 e (fun c o c1 c2 c3 q => b3 _ _ c2 (b1.extBut _ _ c1 q)) he
theorem out_pyNext (S : ZipSep2 z TI TO i1 i2 fp1 fp2) (D1 : Draws prog w A.in1 i1 fp1 n1 P1 S1) (D2 : Draws prog w A.in1 i2 fp2 n2 P2 S2) {Q : Option Value → Shared → Prop}
    (out : IsZipHeld st.heap z TI TO T f) (hT : st.heap.get? T = some oT) (both : IsTupOf2 st.heap TI (.ref i1) (.ref i2)) (at1 : S1 i st.heap) (at2 : S2 i st.heap) (l1 : i < n1) (l2 : i < n2)
    (now : ∀ x y h' tk, P1 i x → P2 i y → IsZipHeld h' z TI TO T true → S1 (i + 1) h' → S2 (i + 1) h' → IsTupOf2 h' st.heap.objs.size x y → (∀ c o, c ≠ z → c ≠ i1 → c ≠ i2 → st.heap.get? c = some o → h'.get? c = some o) → Q (some (.ref st.heap.objs.size)) { st with heap := h', toks := tk }) :
    wpAny (model prog w) A (pyNext (.ref z)) Q E st := by
  have ty : st.TypeIs (.ref z) "zip" := ⟨_, out, rfl⟩
  unfold pyNext
  refine wpAny_bind (wpAny_attempt (wpAny_callSpecial?_slot (name := Str.ofString "__next__") ty F.slot_zip_next (wpAny_call_entry F.slot_zip_next ty F.entry_zip_next (out_next S D1 D2 out hT both at1 at2 l1 l2 ?_) (F.args_zip_next_1 _))))
  exact fun x y h' tk a b c d e g k => wpAny_pure (now x y h' tk a b c d e g k)
theorem out_pyNext_end (S : ZipSep2 z TI TO i1 i2 fp1 fp2) (D1 : Draws prog w A.in1 i1 fp1 n1 P1 S1) (D2 : Draws prog w A.in1 i2 fp2 n2 P2 S2) {Q : Option Value → Shared → Prop}
    (out : IsZipHeld st.heap z TI TO T f) (hT : st.heap.get? T = some oT) (both : IsTupOf2 st.heap TI (.ref i1) (.ref i2)) (at1 : S1 i st.heap) (at2 : S2 i st.heap) (l1 : i ≤ n1) (l2 : i ≤ n2) (last : i = n1 ∨ i = n2)
    (now : ∀ h' tk, (∀ c o, c ≠ z → c ≠ i1 → c ≠ i2 → st.heap.get? c = some o → h'.get? c = some o) → Q none { st with heap := h', toks := tk }) :
    wpAny (model prog w) A (pyNext (.ref z)) Q E st := by
  have ty : st.TypeIs (.ref z) "zip" := ⟨_, out, rfl⟩
  unfold pyNext
  refine wpAny_bind (wpAny_attempt (wpAny_callSpecial?_slot (name := Str.ofString "__next__") ty F.slot_zip_next (wpAny_call_entry F.slot_zip_next ty F.entry_zip_next (out_end S D1 D2 out hT both at1 at2 l1 l2 last ?_) (F.args_zip_next_1 _))))
  rintro h' tk e kp ⟨o, ho, hc⟩
  exact wpAny_bind (wpAny_isInstance (T := "StopIteration") (b := true) ⟨o, ho, hc⟩ isSubtype_stop (wpAny_pure (now _ _ kp)))
/-- the zip of the list l and the tuple t, begun -/
def ZipLT (h : Heap) (z TI TO i1 i2 l t : Addr) (xs ys : Array Value) (n : Nat) : Prop := IsTupOf2 h TI (.ref i1) (.ref i2) ∧ (h.IsListIter i1 l n ∧ h.IsList l xs) ∧ (h.IsTupleIter i2 t n ∧ h.IsTuple t ys)
theorem ZipLT.keep {h h' : Heap} {z TI TO i1 i2 l t : Addr} {xs ys : Array Value} {n : Nat} (q : ZipLT h z TI TO i1 i2 l t xs ys n) (k : ∀ b, b = TI ∨ b = i1 ∨ b = i2 ∨ b = l ∨ b = t → ∀ o, h.get? b = some o → h'.get? b = some o) : ZipLT h' z TI TO i1 i2 l t xs ys n :=
  ⟨k _ (.inl rfl) _ q.1, ⟨q.2.1.1.at fun o e => k _ (.inr (.inl rfl)) o e, q.2.1.2.at fun o e => k _ (.inr (.inr (.inr (.inl rfl)))) o e⟩, ⟨q.2.2.1.at fun o e => k _ (.inr (.inr (.inl rfl))) o e, q.2.2.2.at fun o e => k _ (.inr (.inr (.inr (.inr rfl)))) o e⟩⟩
theorem pairs_LT (z TI TO i1 i2 l t : Addr) (S : ZipSep2 z TI TO i1 i2 [i1, l] [i2, t]) (hl : l ≠ i1) (ht : t ≠ i2) (xs ys : Array Value) :
    PairArg prog w "zip" z [z, TI, TO, i1, i2, l, t] [z, TO, i1, i2] (min xs.size ys.size) (fun i k v => xs[i]? = some k ∧ ys[i]? = some v)
      (fun h => IsZip h z TI TO .none ∧ (∃ a b, IsTupOf2 h TO a b) ∧ ZipLT h z TI TO i1 i2 l t xs ys 0) where
  type := fun s ok => ⟨_, ok.1, rfl⟩
  notDict := by decide
  keep := fun h h' ok k => by
    obtain ⟨a1, ⟨a, b, a2⟩, a3⟩ := ok
    exact ⟨k _ _ a1, ⟨a, b, k _ _ a2⟩, a3.keep fun b _ o e => k b o e⟩
  there := fun h ok b hb => by
    obtain ⟨a1, ⟨a, c, a2⟩, a3, ⟨⟨o1, e1, _⟩, ⟨o2, e2, _⟩⟩, ⟨⟨o3, e3, _⟩, ⟨o4, e4, _⟩⟩⟩ := ok
    have either : b = z ∨ b = TI ∨ b = TO ∨ b = i1 ∨ b = i2 ∨ b = l ∨ b = t := by simpa using hb
    rcases either with q | q | q | q | q | q | q <;> subst q
    · exact ⟨_, a1⟩
    · exact ⟨_, a3⟩
    · exact ⟨_, a2⟩
    · exact ⟨_, e1⟩
    · exact ⟨_, e3⟩
    · exact ⟨_, e2⟩
    · exact ⟨_, e4⟩
  sub := fun b hb => by
    have either : b = z ∨ b = TO ∨ b = i1 ∨ b = i2 := by simpa using hb
    rcases either with q | q | q | q <;> subst q <;> simp
  noKeys := fun A s Q E hA ok now => getAttrOr_miss_zip ok.1 rfl rfl rfl zip_no_keys (by decide +kernel) hA now
  iter := fun A s d Q E hA ok dlt dfar now => by
    obtain ⟨a1, ⟨a, b, a2⟩, a3⟩ := ok
    have far : d ≠ z ∧ d ≠ TI ∧ d ≠ TO ∧ d ≠ i1 ∧ d ≠ i2 ∧ d ≠ l ∧ d ≠ t := by simpa using dfar
    obtain ⟨d1, d2, d3, d4, d5, d6, d7⟩ := far
    have D1 := Draws.list (prog := prog) (w := w) (A := A.in1) hA i1 l hl xs
    have D2 := Draws.tuple (prog := prog) (w := w) (A := A.in1) hA i2 t ht ys
    refine wpAny_pyIter_zip a1 (now z [z, TO, i1, i2] (fun n h => ZipLT h z TI TO i1 i2 l t xs ys n ∧ ((IsZip h z TI TO .none ∧ ∃ a b, IsTupOf2 h TO a b) ∨ ∃ T f oT, IsZipHeld h z TI TO T f ∧ h.get? T = some oT ∧ T ≠ z ∧ T ≠ i1 ∧ T ≠ i2 ∧ T ≠ d)) s.heap s.toks ?_ ⟨a3, .inl ⟨a1, a, b, a2⟩⟩ (fun _ _ e => e) fun b hb => .inl hb)
    refine ⟨fun hm => ?_, fun n h h' q k => ?_, fun n s1 Q1 E1 hn q dl now1 => ?_, fun s1 Q1 E1 q now1 => ?_⟩
    · have either : d = z ∨ d = TO ∨ d = i1 ∨ d = i2 := by simpa using hm
      rcases either with q | q | q | q
      · exact d1 q
      · exact d3 q
      · exact d4 q
      · exact d5 q
    · refine ⟨q.1.keep fun b hb o e => k b o (fun y => ?_) e, ?_⟩
      · rcases hb with q | q | q | q | q <;> rw [q] at y
        · exact d2 y.symm
        · exact d4 y.symm
        · exact d5 y.symm
        · exact d6 y.symm
        · exact d7 y.symm
      · rcases q.2 with ⟨q1, a, b, q2⟩ | ⟨T, f, oT, q1, q2, r1, r2, r3, r4⟩
        · exact .inl ⟨k _ _ (Ne.symm d1) q1, a, b, k _ _ (Ne.symm d3) q2⟩
        · exact .inr ⟨T, f, oT, k _ _ (Ne.symm d1) q1, k _ _ r4 q2, r1, r2, r3, r4⟩
    · obtain ⟨⟨both, at1, at2⟩, q⟩ := q
      have m1 : n < xs.size := Nat.lt_of_lt_of_le hn (Nat.min_le_left ..)
      have m2 : n < ys.size := Nat.lt_of_lt_of_le hn (Nat.min_le_right ..)
      have lt : ∀ {c o}, s1.heap.get? c = some o → s1.heap.objs.size ≠ c := fun e => Nat.ne_of_gt (Heap.lt_size e)
      have j1 : s1.heap.objs.size ≠ i1 := let ⟨_, e⟩ := D1.live _ _ at1; lt e
      have j2 : s1.heap.objs.size ≠ i2 := let ⟨_, e⟩ := D2.live _ _ at2; lt e
      rcases q with ⟨q1, a, b, q2⟩ | ⟨T, f, oT, q1, q2, r1, r2, r3, r4⟩
      · refine wpAny_pyNext_zipD2_item S D1 D2 q1 both q2 at1 at2 m1 m2 fun x y h' tk px py b1 b2 b3 b4 b5 b6 k => ?_
        exact now1 s1.heap.objs.size x y h' tk ⟨px, py⟩ (.inl ⟨_, b5, rfl, _, rfl⟩) ⟨⟨k _ _ S.TIz S.TITO S.TIi1 S.TIi2 both, b3, b4⟩, .inr ⟨_, false, _, b1, b5, lt q1, j1, j2, Nat.ne_of_gt dl⟩⟩
          fun c o hc e => k c o (fun y => hc (by simp [y])) (fun y => hc (by simp [y])) (fun y => hc (by simp [y])) (fun y => hc (by simp [y])) e
      · refine out_pyNext S D1 D2 q1 q2 both at1 at2 m1 m2 fun x y h' tk px py b1 b3 b4 b5 k => ?_
        exact now1 s1.heap.objs.size x y h' tk ⟨px, py⟩ (.inl ⟨_, b5, rfl, _, rfl⟩) ⟨⟨k _ _ S.TIz S.TIi1 S.TIi2 both, b3, b4⟩, .inr ⟨T, true, oT, b1, k _ _ r1 r2 r3 q2, r1, r2, r3, r4⟩⟩
          fun c o hc e => k c o (fun y => hc (by simp [y])) (fun y => hc (by simp [y])) (fun y => hc (by simp [y])) e
    · obtain ⟨⟨both, at1, at2⟩, q⟩ := q
      rcases q with ⟨q1, a, b, q2⟩ | ⟨T, f, oT, q1, q2, r1, r2, r3, r4⟩
      · exact wpAny_pyNext_zipD2_end S D1 D2 q1 both q2 at1 at2 (Nat.min_le_left ..) (Nat.min_le_right ..) (by omega) fun h' tk k => now1 h' tk fun c o hc e => k c o (fun y => hc (by simp [y])) (fun y => hc (by simp [y])) (fun y => hc (by simp [y])) (fun y => hc (by simp [y])) e
      · exact out_pyNext_end S D1 D2 q1 q2 both at1 at2 (Nat.min_le_left ..) (Nat.min_le_right ..) (by omega) fun h' tk k => now1 h' tk fun c o hc e => k c o (fun y => hc (by simp [y])) (fun y => hc (by simp [y])) (fun y => hc (by simp [y])) e
end
/-- dict(zip(e1, e2)): keys from a list, values from a tuple -/
def eDictZip (K : PySem.W.Frag) (ta : TA) : TE := fun σ H Q => ta σ H fun vs H1 => ∃ (a b : Addr) (ks : List Key) (xs : List V), vs = [.ref a, .ref b] ∧ SqL K H1 a (ks.map kV) ∧ SqT K H1 b xs ∧ ∀ p, H1 p = none → Q (.ref p) (upd H1 p (.dK (mergeK [] (ks.zip xs))))
theorem pe_dictZip (K : PySem.W.Frag) {X : Cx} (hk : X.K = K) (hcalm : X.calm = true) {e e2 : Expr} {ta : TA} {p p2 pos pos2 : Pos} (hd : Gl X "dict") (md : X.mg "dict" = none) (hg : Gl X "zip") (hm : X.mg "zip" = none) (ha : PA X [e, e2] ta)
    (hs : starEach [e, e2] X.env = (false, eval e X.env) :: starEach [e2] X.env := by rfl) (hpl : (backTo pos2 (starEach [e2] X.env)).any (·.1) = false := by rfl)
    (hs1 : starEach [.Call (.Name "zip" p2) [e, e2] [] pos2] X.env = [(false, eval (.Call (.Name "zip" p2) [e, e2] [] pos2) X.env)] := by rfl) :
    PE X (.Call (.Name "dict" p) [.Call (.Name "zip" p2) [e, e2] [] pos2] [] pos) (eDictZip K ta) := by
  subst hk
  refine ⟨fun pins st σ H Q J asked => ?_⟩
  refine Call_ (ld_blt J hd md boot_dict (PyProof.Rows.callWith_type1 (args_cons (Call_ (ld_blt J hg hm boot_zip (PyProof.Rows.callWith_type1 (thn (ha.run pos2 pins st σ H _ J asked) fun us st1 ⟨vs, H1, J1, rel, now⟩ => ?_) hs hpl))) hs1) hs1 rfl))
  obtain ⟨a, b, ks, xs, ex, hq1, hq2, now⟩ := now
  subst ex
  cases rel with
  | cons r1 rel =>
  cases rel with
  | cons r2 rel =>
  cases rel
  cases r1
  cases r2
  obtain ⟨its, rv, p1, z1⟩ := J1.list hq1
  obtain ⟨its2, rv2, p2, z2⟩ := J1.tuple hq2
  have al : a < st1.heap.objs.size := p1.lt
  have bl : b < st1.heap.objs.size := by obtain ⟨o, ho, _⟩ := p2; exact Heap.lt_size ho
  have B1 := begins_list a its.toArray
  have B2 := begins_tuple b its2.toArray
  refine zip_begins2 B1 B2 p1.isList p2 fun h' c1 c2 c3 c4 c5 size kp => args_nil ?_
  have S := zip_sep2 (N := st1.heap.objs.size) (fp1 := [a]) (fp2 := [b]) (by simpa using al) (by simpa using bl)
  have P := pairs_LT (prog := X.prog) (w := X.w) _ _ _ _ _ a b S (Nat.ne_of_lt al) (Nat.ne_of_lt (Nat.lt_succ_of_lt bl)) its.toArray its2.toArray
  have n1 := rv.length
  have n2 := rv2.length
  rw [List.length_map] at n1 z1
  have all : ∀ (ks : List Key) (xs : List V) (us vs : List Value), Vals (ks.map kV) us → Vals xs vs → ∃ rs : List (Key × Value), KV (ks.zip xs) rs ∧ rs.length = min us.length vs.length ∧ ∀ (i : Nat) (k v : Value), us[i]? = some k → vs[i]? = some v → ∃ q, rs[i]? = some (q, v) ∧ (mixKind X.prog X.w).is q k = true := by
    intro ks
    induction ks with
    | nil => intro xs us vs r1 r2; cases r1; exact ⟨[], .nil, by simp, fun i k v e => nomatch e⟩
    | cons k ks ih =>
      intro xs us vs r1 r2
      cases r1 with
      | cons h1 t1 =>
      cases r2 with
      | nil => exact ⟨[], .nil, by simp, fun i k v _ e => nomatch e⟩
      | cons h2 t2 =>
        obtain ⟨rs, e1, e2, e3⟩ := ih _ _ _ t1 t2
        refine ⟨(k, _) :: rs, .cons ⟨rfl, h2⟩ e1, by simp only [List.length_cons, e2]; omega, fun i q v e f => ?_⟩
        cases i with
        | zero => cases e; cases f; exact ⟨k, rfl, kV_is h1⟩
        | succ i => exact e3 i q v e f
  obtain ⟨rs, e1, e2, e3⟩ := all ks xs its its2 rv rv2
  have PH : PairsHave (mixKind X.prog X.w) (min its.toArray.size its2.toArray.size) (fun i k v => its.toArray[i]? = some k ∧ its2.toArray[i]? = some v) rs :=
    ⟨by simpa using e2, fun i k v q => e3 i k v (by simpa using q.1) (by simpa using q.2)⟩
  refine _root_.PySem.call_dict_pairs (s := { st1 with heap := h' }) P (J1.ok.hd hcalm) ⟨c1, ⟨_, _, c3⟩, c2, ⟨⟨_, c4, rfl, rfl⟩, B1.keeps _ _ p1.isList kp⟩, ⟨⟨_, c5, rfl, rfl⟩, B2.keeps _ _ p2 kp⟩⟩ PH (by have := n1; have := n2; simp only [List.size_toArray]; omega) fun h2 tk isd kp2 => ?_
  replace isd : h2.DictOf (mixKind X.prog X.w) h'.objs.size (merged [] rs) := isd
  have low : st1.heap.objs.size ≤ h'.objs.size := by rw [size]; exact Nat.le_add_right _ _
  have big : sysModules < h'.objs.size := Nat.lt_of_lt_of_le J1.big low
  have ne : (h'.objs.size == sysModules) = false := beq_eq_false_iff_ne.mpr (Nat.ne_of_gt big)
  have few : (mergeK [] (ks.zip xs)).length ≤ sizeLine := by
    refine Nat.le_trans (length_mergeK _ []) ?_
    rw [List.length_nil, Nat.zero_add, List.length_zip]
    omega
  refine ⟨.ref h'.objs.size, upd H1 h'.objs.size (.dK (mergeK [] (ks.zip xs))), J1.laid (t' := tk) (fun c o q => kp2 c o (fun hm => ?_) (kp c o q)) low (show ObjOk X.prog X.w _ _ _ (.dK (mergeK [] (ks.zip xs))) from ⟨few, ne, merged [] rs, KV.merge e1 .nil, isd⟩), rfl, now _ (J1.hok.fresh low)⟩
  have cl := Heap.lt_size q
  have either : c = st1.heap.objs.size + 4 ∨ c = st1.heap.objs.size + 3 ∨ c = st1.heap.objs.size ∨ c = st1.heap.objs.size + 1 := by simpa using hm
  rcases either with y | y | y | y <;> rw [y] at cl
  · exact absurd cl (Nat.not_lt.mpr (Nat.le_add_right _ _))
  · exact absurd cl (Nat.not_lt.mpr (Nat.le_add_right _ _))
  · exact absurd cl (Nat.lt_irrefl _)
  · exact absurd cl (Nat.not_lt.mpr (Nat.le_add_right _ _))
theorem one_at {K : PySem.W.Frag} {a : Addr} {od : Option Addr} {z : Str} {t1 : Tok} {n : Nat} {sl : Array (Option Value)} (l : K.lookup a = some ⟨.type "tuple", od, .seq #[.str z t1] n, sl⟩) (H : Hp) : SqT K H a [.str z] :=
  .inr ⟨_, _, _, l, rfl, rfl, (show 1 ≤ sizeLine by decide), .cons ⟨_, rfl⟩ .nil⟩
/-! ### dicts whose keys are tuples of tuples -/
mutual
/-- a value that is such a key -/
inductive NkV (H : Hp) : NestedKey → V → Prop
  | num (i : Int) : NkV H (.num i) (.int i)
  | text (x : Str) : NkV H (.text x) (.str x)
  | tup {a : Addr} {xs : List V} {ks : List NestedKey} : H a = some (.tup xs) → NkL H ks xs → NkV H (.tup ks) (.ref a)
inductive NkL (H : Hp) : List NestedKey → List V → Prop
  | nil : NkL H [] []
  | cons {k : NestedKey} {x : V} {ks : List NestedKey} {xs : List V} : NkV H k x → NkL H ks xs → NkL H (k :: ks) (x :: xs)
end
section
variable {P : Program} {w : World} {H H' : Hp} {h : Heap}
mutual
theorem NkV.keep (kp : TK H H') : ∀ {k : NestedKey} {x : V}, NkV H k x → NkV H' k x
  | _, _, .num i => .num i
  | _, _, .text x => .text x
  | _, _, .tup e l => .tup (kp _ _ e) (NkL.keep kp l)
theorem NkL.keep (kp : TK H H') : ∀ {ks : List NestedKey} {xs : List V}, NkL H ks xs → NkL H' ks xs
  | _, _, .nil => .nil
  | _, _, .cons a b => .cons (NkV.keep kp a) (NkL.keep kp b)
end
mutual
theorem NkV.is (ok : HOk P w H h) : ∀ {k : NestedKey} {x : V} {u : Value}, NkV H k x → RelV x u → NestedIs h k u
  | _, _, u, .num i, r => by
    obtain ⟨t, rfl⟩ := (show ∃ t, u = Value.int i t from r)
    exact .int i t
  | _, _, u, .text x, r => by
    obtain ⟨t, rfl⟩ := (show ∃ t, u = Value.str x t from r)
    exact .text x t
  | _, _, u, @NkV.tup _ a xs ks e l, r => by
    obtain rfl : u = Value.ref a := r
    obtain ⟨_, its, rv, o, e1, e2, n, e3⟩ := (show ObjOk P w H h a (.tup xs) from ok a _ e)
    exact .tup e1 e2 e3 (by simpa using NkL.is ok l rv)
theorem NkL.is (ok : HOk P w H h) : ∀ {ks : List NestedKey} {xs : List V} {us : List Value}, NkL H ks xs → Vals xs us → NestedAll h ks us
  | _, _, _, .nil, .nil => .nil
  | _, _, _, .cons a b, .cons r t => .cons (NkV.is ok a r) (NkL.is ok b t)
end
/-- what stands in the heap for a dict with the entries kas: key, the key's address, number -/
def nkRow (k : NestedKey × Addr × Int) (x : NestedKey × Addr × Value) : Prop := x.1 = k.1 ∧ x.2.1 = k.2.1 ∧ ∃ t, x.2.2 = .int k.2.2 t
def nkObj (P : Program) (w : World) (d : Addr) (kas : List (NestedKey × Addr × Int)) (h : Heap) : Prop :=
  (d == sysModules) = false ∧ kas.length ≤ sizeLine ∧ ∃ xs : List (NestedKey × Addr × Value), All2 nkRow kas xs ∧ ∃ o es ep, h.get? d = some o ∧ o.ExactDict ∧ o.data = .dict es ep ∧ es.toList = xs.map (entryOfKey (nestedKind P w)) ∧ (xs.map (·.1)).Nodup
def nkO (P : Program) (w : World) (d : Addr) (kas : List (NestedKey × Addr × Int)) : HO := .ext (nkObj P w d kas)
structure NkD (P : Program) (w : World) (H : Hp) (d : Addr) (kas : List (NestedKey × Addr × Int)) : Prop where
  at_ : H d = some (nkO P w d kas)
  key : ∀ q ∈ kas, NkV H q.1 (.ref q.2.1) ∧ q.1.depth ≤ 8
theorem nkO_tup {d : Addr} {kas : List (NestedKey × Addr × Int)} {xs : List V} : nkO P w d kas ≠ .tup xs := fun z => by
  have z' : HO.ext _ = HO.tup xs := z
  cases z'
theorem nkObj_ok {d : Addr} {kas : List (NestedKey × Addr × Int)} (q : nkObj P w d kas h) : ObjOk P w H h d (nkO P w d kas) := by
  have q0 := q
  obtain ⟨_, _, xs, _, o, es, ep, e, _⟩ := q0
  refine ⟨q, ⟨o, e⟩, fun h1 h2 q1 k => ?_⟩
  obtain ⟨a1, a2, xs, al, o, es, ep, e, r⟩ := q1
  exact ⟨a1, a2, xs, al, o, es, ep, k _ e, r⟩
theorem nk_names : ∀ {kas : List (NestedKey × Addr × Int)} {xs : List (NestedKey × Addr × Value)}, All2 nkRow kas xs → xs.map (·.1) = kas.map (·.1)
  | _, _, .nil => rfl
  | _, _, .cons r t => by rw [List.map_cons, List.map_cons, r.1, nk_names t]
/-- the number at a key -/
def nkAt (kas : List (NestedKey × Addr × Int)) (k : NestedKey) : Option Int := (kas.find? fun q => decide (q.1 = k)).map fun q => q.2.2
theorem nk_at {k : NestedKey} : ∀ {kas : List (NestedKey × Addr × Int)} {xs : List (NestedKey × Addr × Value)}, All2 nkRow kas xs → (nkAt kas k = none ∧ atKey xs k = none) ∨ ∃ n a t, nkAt kas k = some n ∧ atKey xs k = some (a, .int n t)
  | _, _, .nil => .inl ⟨rfl, rfl⟩
  | _, _, @All2.cons _ _ _ c x cs xs r t => by
    unfold nkAt atKey
    rw [List.find?_cons, List.find?_cons, r.1]
    by_cases e : c.1 = k
    · rw [decide_eq_true e]
      obtain ⟨tt, ht⟩ := r.2.2
      refine .inr ⟨c.2.2, x.2.1, tt, rfl, ?_⟩
      show some x.2 = _
      rw [← ht]
    · rw [decide_eq_false e]
      exact nk_at t
theorem NkD.get {d : Addr} {kas : List (NestedKey × Addr × Int)} (D : NkD P w H d kas) (ok : HOk P w H h) : (d == sysModules) = false ∧ kas.length ≤ sizeLine ∧ ∃ xs, All2 nkRow kas xs ∧ h.DictOfH (nestedKind P w) d xs := by
  obtain ⟨⟨a1, a2, xs, al, o, es, ep, e1, e2, e3, e4, e5⟩, _⟩ := (show ObjOk P w H h d (nkO P w d kas) from ok d _ D.at_)
  refine ⟨a1, a2, xs, al, o, es, ep, e1, e2, e3, e4, fun x hx => ?_, e5⟩
  have : ∀ {kas : List (NestedKey × Addr × Int)} {xs : List (NestedKey × Addr × Value)}, All2 nkRow kas xs → ∀ x ∈ xs, ∃ q ∈ kas, x.1 = q.1 ∧ x.2.1 = q.2.1 := by
    intro kas xs al
    induction al with
    | nil => intro x hx; cases hx
    | cons r t ih =>
      intro x hx
      rcases List.mem_cons.mp hx with rfl | hx
      · exact ⟨_, List.mem_cons_self .., r.1, r.2.1⟩
      · obtain ⟨q, hq, z⟩ := ih x hx
        exact ⟨q, List.mem_cons_of_mem _ hq, z⟩
  obtain ⟨q, hq, z1, z2⟩ := this al x hx
  obtain ⟨k1, k2⟩ := D.key q hq
  rw [z1, z2]
  exact ⟨NkV.is ok k1 rfl, k2⟩
theorem NkD.go {d : Addr} {kas : List (NestedKey × Addr × Int)} (D : NkD P w H d kas) (e : H' d = H d) (kp : TK H H') : NkD P w H' d kas := ⟨e.trans D.at_, fun q hq => ⟨(D.key q hq).1.keep kp, (D.key q hq).2⟩⟩
theorem NkD.same {d : Addr} {kas : List (NestedKey × Addr × Int)} (D : NkD P w H d kas) (s : Same H H') : NkD P w H' d kas := D.go ((s _ _ D.at_).trans D.at_.symm) (TK.same s)
end
section
variable {X : Cx} {o i e : Expr} {pos pos' : Pos} {td ty tv : TE}
theorem nk_room {X : Cx} (hu : X.A.units + 65 < cLine) : (nestedKind X.prog X.w).room X.A.in1 := by
  show X.A.in1.units + 8 < cLine
  show X.A.units + 1 + 8 < cLine
  omega
/-- {}, for such keys -/
def tNkNew (P : Program) (w : World) : TE := fun _ H Q => ∀ p, H p = none → NkD P w (upd H p (nkO P w p [])) p [] → Q (.ref p) (upd H p (nkO P w p []))
theorem pe_nknew (P : Program) (w : World) (h1 : X.prog = P) (h2 : X.w = w) : PE X (.Dict [] [] pos) (tNkNew P w) := by
  subst h1 h2
  refine ⟨fun pins s σ H Q I h => ?_⟩
  have hb := I.big
  have ob : nkObj X.prog X.w s.heap.objs.size [] (s.heap.push { cls := .type "dict", data := .dict #[] }) := ⟨beq_eq_false_iff_ne.mpr (Ne.symm (Nat.ne_of_lt hb)), Nat.zero_le _, [], .nil, _, #[], 0, Heap.get?_push_size _ rfl, ⟨rfl, rfl, rfl⟩, rfl, rfl, List.nodup_nil⟩
  exact wpAny_Dict_empty ⟨.ref s.heap.objs.size, _, I.laid (a := s.heap.objs.size) (o := nkO X.prog X.w s.heap.objs.size []) (t' := s.toks) (fun _ _ q => Heap.get?_push_of_some _ q) (Nat.le_refl _) (nkObj_ok ob), rfl, h _ (I.hok.fresh (Nat.le_refl _)) ⟨upd_same, fun q hq => by cases hq⟩⟩
/-- y not in d -/
def tNkOut (P : Program) (w : World) (ty td : TE) : TE := fun σ H Q => ty σ H fun y H1 => td σ H1 fun x H2 => ∃ (d b : Addr) (kas : List (NestedKey × Addr × Int)) (k : NestedKey), x = .ref d ∧ y = .ref b ∧ NkD P w H2 d kas ∧ NkV H2 k (.ref b) ∧ k.depth ≤ 8 ∧ Q (.bl (!(nkAt kas k).isSome)) H2
theorem pc_nkout (P : Program) (w : World) (h1 : X.prog = P) (h2 : X.w = w) (hu : X.A.units + 65 < cLine) (hi : PE X i ty) (ho : PE X o td) : PC X .NotIn i o (tNkOut P w ty td) := by
  subst h1 h2
  refine ⟨fun pins s σ H Q I h => ?_⟩
  refine thn (hi.run pins s σ H _ I h) fun iv s1 ⟨y, H1, I1, ry, q1⟩ => thn (ho.run pins s1 σ H1 _ I1 q1) fun u s2 ⟨x, H2, I2, rx, d, b, kas, k, ex, ey, D, kv, dp, q2⟩ => ?_
  subst ex ey
  obtain rfl : u = Value.ref d := rx
  obtain rfl : iv = Value.ref b := ry
  obtain ⟨a1, a2, xs, al, dd⟩ := D.get I2.hok
  refine wpAny_notIn_heap (nk_room hu) ⟨NkV.is I2.hok kv rfl, dp⟩ a1 dd ⟨.bl (!(nkAt kas k).isSome), H2, I2.tok _, ?_, q2⟩
  rcases nk_at (k := k) al with ⟨z1, z2⟩ | ⟨n, a, t, z1, z2⟩ <;> rw [z1, z2] <;> rfl
/-- d[y] -/
def tNkGet (P : Program) (w : World) (td ty : TE) : TE := fun σ H Q => td σ H fun x H1 => ty σ H1 fun y H2 => ∃ (d b : Addr) (kas : List (NestedKey × Addr × Int)) (k : NestedKey) (n : Int), x = .ref d ∧ y = .ref b ∧ NkD P w H2 d kas ∧ NkV H2 k (.ref b) ∧ k.depth ≤ 8 ∧ nkAt kas k = some n ∧ Q (.int n) H2
theorem pe_nkget (P : Program) (w : World) (h1 : X.prog = P) (h2 : X.w = w) (hu : X.A.units + 65 < cLine) (ho : PE X o td) (hi : PE X i ty) (hs : NoSl i) : PE X (.Subscript o i pos) (tNkGet P w td ty) := by
  subst h1 h2
  refine ⟨fun pins s σ H Q I h => ?_⟩
  refine subD_of PySem.F.slot_dict_getitem.lookup hs (thn (ho.run pins s σ H _ I h) fun u s1 ⟨x, H1, I1, rx, q1⟩ => thn (hi.run pins s1 σ H1 _ I1 q1) fun iv s2 ⟨y, H2, I2, ry, d, b, kas, k, n, ex, ey, D, kv, dp, hk, q2⟩ => ?_)
  subst ex ey
  obtain rfl : u = Value.ref d := rx
  obtain rfl : iv = Value.ref b := ry
  obtain ⟨a1, a2, xs, al, dd⟩ := D.get I2.hok
  refine ⟨dd.typeIs, ?_⟩
  rcases nk_at (k := k) al with ⟨z1, z2⟩ | ⟨m, a, t, z1, z2⟩
  · rw [z1] at hk; cases hk
  · rw [z1] at hk
    cases hk
    exact wpAny_getItem_heap (nk_room hu) ⟨NkV.is I2.hok kv rfl, dp⟩ dd z2 ⟨.int n, H2, I2.tok _, ⟨t, rfl⟩, q2⟩
/-- len(d) -/
theorem call_lenNk (P : Program) (w : World) (h1 : X.prog = P) (h2 : X.w = w) : CallR X (.builtin "len") (fun vs H Q => ∃ (d : Addr) (kas : List (NestedKey × Addr × Int)), vs = [.ref d] ∧ NkD P w H d kas ∧ Q (.int (kas.length : Nat)) H) := by
  subst h1 h2
  intro pins s σ H vs us Q I r asked
  obtain ⟨d, kas, rfl, D, q⟩ := asked
  obtain ⟨u, rfl, ru⟩ := vals1 r
  obtain rfl : u = Value.ref d := ru
  obtain ⟨a1, a2, xs, al, dd⟩ := D.get I.hok
  have l := al.length
  refine PySem.call_len_dictH a1 dd (by rw [← l]; rw [sizeLine_eq] at a2; omega) ?_
  exact ⟨.int (kas.length : Nat), H, I.tok _, ⟨_, by rw [l]⟩, q⟩
/-- d[y] = v, y not yet in d -/
def sNkPut (P : Program) (w : World) (td ty tv : TE) : TS := fun D σ H => tv σ H fun v H1 => td σ H1 fun x H2 => ty σ H2 fun y H3 => ∃ (d b : Addr) (kas : List (NestedKey × Addr × Int)) (k : NestedKey) (n : Int), x = .ref d ∧ y = .ref b ∧ v = .int n ∧ NkD P w H3 d kas ∧ NkV H3 k (.ref b) ∧ k.depth ≤ 8 ∧ nkAt kas k = none ∧ kas.length < sizeLine ∧
  (NkD P w (upd H3 d (nkO P w d (kas ++ [(k, b, n)]))) d (kas ++ [(k, b, n)]) → D.nx σ (upd H3 d (nkO P w d (kas ++ [(k, b, n)]))))
theorem ps_nkput {value : Expr} (P : Program) (w : World) (h1 : X.prog = P) (h2 : X.w = w) (hu : X.A.units + 65 < cLine) (ho : PE X o td) (hi : PE X i ty) (hv : PE X value tv) (hs : swapsWith value (some (.Subscript o i pos')) pos.line X.env = pure false) :
    PS X (.Assign [.Subscript o i pos'] value pos) (sNkPut P w td ty tv) := by
  subst h1 h2
  refine ⟨fun pins s σ H D I h => ?_⟩
  refine wpAny_Assign_Subscript (thn (hv.run pins s σ H _ I h) fun r s1 ⟨v, H1, I1, rv, q1⟩ => thn (ho.run pins s1 σ H1 _ I1 q1) fun u s2 ⟨x, H2, I2, rx, q2⟩ => thn (hi.run pins s2 σ H2 _ I2 q2) fun iv s3 ⟨y, H3, I3, ry, d, b, kas, k, n, ex, ey, ev, Dk, kv, dp, hk, hl, q3⟩ => ?_) hs
  subst ex ey ev
  obtain rfl : u = Value.ref d := rx
  obtain rfl : iv = Value.ref b := ry
  obtain ⟨t, rfl⟩ := (show ∃ t, r = Value.int n t from rv)
  obtain ⟨a1, a2, xs, al, dd⟩ := Dk.get I3.hok
  have l := al.length
  have z2 : atKey xs k = none := by
    rcases nk_at (k := k) al with ⟨z1, z2⟩ | ⟨m, a, t, z1, z2⟩
    · exact z2
    · rw [z1] at hk; cases hk
  refine wpAny_setItem_heap (hsz := by rw [← l]; exact a2) (nk_room hu) ⟨NkV.is I3.hok kv rfl, dp⟩ dd fun h' dd' hsb => ?_
  rw [storedH_new z2] at dd'
  obtain ⟨ob, es, ep, g1, g2, g3, g4, g5, g6⟩ := dd'
  have kp : TK H3 (upd H3 d (nkO X.prog X.w d (kas ++ [(k, b, n)]))) := fun a ys e => by
    rw [upd_ne (ne_of e Dk.at_ (fun z => nkO_tup z.symm))]
    exact e
  have new : nkObj X.prog X.w d (kas ++ [(k, b, n)]) h' := ⟨a1, by rw [List.length_append]; exact hl, _, al.snoc ⟨rfl, rfl, t, rfl⟩, ob, es, ep, g1, g2, g3, g4, g6⟩
  refine ⟨σ, _, d_write I3 (by rw [Dk.at_]; exact True.intro) hsb ⟨ob, g1⟩ (nkObj_ok new), q3 ⟨upd_same, fun q hq => ?_⟩⟩
  rcases List.mem_append.mp hq with hq | hq
  · exact ⟨(Dk.key q hq).1.keep kp, (Dk.key q hq).2⟩
  · rw [List.mem_singleton.mp hq]
    exact ⟨kv.keep kp, dp⟩
end
section
variable {P : Program} {w : World} {K : PySem.W.Frag} {mg : Str → Option Value} {base : Heap}
def sp_law_flow (K : PySem.W.Frag) : Sp := fun vs H Q _ => ∃ (a : Addr) (ns : List Int), vs = [.ref a] ∧ SqL K H a (ns.map V.int) ∧ ∀ (f c : Addr) (H' : Hp), H f = none → H c = none → Flow H' f c → Same H H' → Q (.ref f) H'
theorem ok_law_flow {f : Addr} {fd : FuncData} (F : Fun K "_law_flow" "_law_flow" s_law_flow f fd) (T : Top w K mg) : FnOk P w K mg base CX0 1 f fd ["_law_script"] (sp_law_flow K) := by
  refine F.ok sc_law_flow (fun vs H Q E h => ?_) (fun cdv A outer s H vs Q E hr h => ?_)
  · obtain ⟨a, ns, rfl, _⟩ := h
    rfl
  obtain ⟨a, ns, rfl, hS, q⟩ := h
  refine ⟨_, (pss_one (ps_ret (pe_lst (pa_cons (pe_callTy (call_list_ofK K rfl) (by rfl) T.m_list (by decide +kernel) (pa_cons (pv 0) pa_nil)) (pa_cons pe_int (pa_cons pe_int (pa_cons pe_int (pa_cons pe_int pa_nil)))))))), ?_⟩
  refine ⟨_, rfl, a, _, rfl, .inl hS, fun c hc => ?_⟩
  refine ⟨(by show 5 ≤ sizeLine; decide), fun f hf => ?_⟩
  have nf : H f = none := by
    cases e : H f with
    | none => rfl
    | some o => rw [same_new hc _ _ e] at hf; cases hf
  have s1 := same_new (o := .lst (ns.map V.int)) hc
  refine q f c _ nf hc ⟨ns, 0, 0, 1, 0, upd_same, same_new hf _ _ upd_same, by decide, by decide, by decide, by decide⟩ fun b o e => same_new hf _ _ (s1 _ _ e)
def sp_law_pick (K : PySem.W.Frag) : Sp := fun vs H Q _ => ∃ (f c : Addr) (m : Int), vs = [.ref f, .int m] ∧ 0 < m ∧ m.natAbs.log2 < 9000 ∧ Flow H f c ∧
  ∀ (v : Int) (H' : Hp), 0 ≤ v → v < m → Flow H' f c → But f H H' → Q (.int v) H'
theorem ok_law_pick {f : Addr} {fd : FuncData} (F : Fun K "_law_pick" "_law_pick" s_law_pick f fd) (T : Top w K mg) : FnOk P w K mg base CX0 1 f fd ["_law_flow_here", "_law_many"] (sp_law_pick K) := by
  refine F.ok sc_law_pick (fun vs H Q E h => ?_) (fun cdv A outer s H vs Q E hr h => ?_)
  · obtain ⟨f, c, m, rfl, _⟩ := h
    rfl
  obtain ⟨f, c, m, rfl, m0, m9, hF, q⟩ := h
  obtain ⟨ns, i, p, z, r, hf, hc, hi, hp, hz, hz2⟩ := hF
  have ncf : c ≠ f := ne_of hc hf (by intro e; injection e with e; cases ns with | nil => cases e | cons x l => cases e)
  let R1 : TS := fun D' σ' H' => D'.rt = Q ∧ ∃ x2 : Option V, σ' = [some (.ref f), some (.int m), x2, none] ∧ (∃ (i p z r : Int), H' f = some (.lst [.ref c, .int i, .int p, .int z, .int r]) ∧ H' c = some (.lst (ns.map V.int)) ∧ 0 ≤ i ∧ 0 ≤ p ∧ 0 ≤ z ∧ z < 2147483647) ∧ But f H H'
  refine ⟨_, (pss_cons (ps_if (PW.pt (pw_and (pt_cmpR op_eq (pe_ix (ix_listK K rfl) (pv 0) pe_int (fun _ _ => rfl)) pe_int (nomark _)) (pw_and1 (pt_cmpR op_lt (pe_ix (ix_listK K rfl) (pv 0) pe_int (fun _ _ => rfl)) (pe_callB (call_len_seqK K rfl) (by rfl) T.m_len (by decide +kernel) (pa_cons (pe_ix (ix_listK K rfl) (pv 0) pe_int (fun _ _ => rfl)) pa_nil)) (nomark _))))) (pss_cons (ps_set (i := 2) sc_law_pick.nd rfl (Or.inl rfl) (pe_ix (ix_listK K rfl) (pe_ix (ix_listK K rfl) (pv 0) pe_int (fun _ _ => rfl)) (pe_ix (ix_listK K rfl) (pv 0) pe_int (fun _ _ => rfl)) (fun _ _ => rfl)))
      (pss_cons (ps_asg (pe_op op_add (pe_ix (ix_listK K rfl) (pv 0) pe_int (fun _ _ => rfl)) pe_int) (pg_sub (pv 0) pe_int set_list))
      (pss_one (ps_if (pt_cmpR op_ge (pv 2) (pe_op op_pow pe_int pe_int) (nomark _)) (pss_one (ps_asg (pv 2) (pg_sub (pv 0) pe_int set_list))) (pss_one (ps_asg (pe_op op_mod (pe_op op_add (pe_op op_add (pe_op op_mul (pe_ix (ix_listK K rfl) (pv 0) pe_int (fun _ _ => rfl)) pe_int) (pe_op op_mod (pv 2) pe_int)) pe_int) pe_int) (pg_sub (pv 0) pe_int set_list))))))) pss_nil)
      (PSs.to (pss_cons (ps_if (pt_cmpR op_gt (pe_ix (ix_listK K rfl) (pv 0) pe_int (fun _ _ => rfl)) pe_int (nomark _)) (pss_cons (ps_set (i := 3) sc_law_pick.nd rfl (Or.inl rfl) (pe_op op_mod (pe_ix (ix_listK K rfl) (pv 0) pe_int (fun _ _ => rfl)) (pv 1)))
      (pss_cons (ps_asg (pe_op op_fdivW (pe_ix (ix_listK K rfl) (pv 0) pe_int (fun _ _ => rfl)) (pv 1)) (pg_sub (pv 0) pe_int set_list))
      (pss_one (ps_ret (pv 3))))) pss_nil)
      (pss_cons (ps_asg (pe_op op_add (pe_ix (ix_listK K rfl) (pv 0) pe_int (fun _ _ => rfl)) pe_int) (pg_sub (pv 0) pe_int set_list))
      (pss_cons (ps_asg (pe_op op_mod (pe_op op_add (pe_op op_add (pe_op op_mul (pe_ix (ix_listK K rfl) (pv 0) pe_int (fun _ _ => rfl)) pe_int) pe_int) (pe_ix (ix_listK K rfl) (pv 0) pe_int (fun _ _ => rfl))) pe_int) (pg_sub (pv 0) pe_int set_list))
      (pss_one (ps_ret (pe_op op_mod (pe_op op_fdiv (pe_op op_mod (pe_op op_mul (pe_op op_add (pe_op op_mod (pe_ix (ix_listK K rfl) (pv 0) pe_int (fun _ _ => rfl)) pe_int) pe_int) (pe_op op_add (pe_op op_fdiv (pe_ix (ix_listK K rfl) (pv 0) pe_int (fun _ _ => rfl)) pe_int) pe_int)) pe_int) pe_int) (pv 1))))))) R1 ?tail1)), ?_⟩
  case tail1 =>
    rintro D' σ' H1 ⟨eD, x2, rfl, ⟨i, p, z, r, hf, hc, hi, hp, hz, hz2⟩, bt⟩
    refine ⟨_, rfl, f, _, _, _, rfl, rfl, SqL.of hf, atI_nat (j := 2) rfl, _, _, rfl, rfl, _, rfl, if_bl (fun c1 => ?_) (fun c1 => ?_)⟩
    · refine ⟨_, rfl, f, _, _, _, rfl, rfl, SqL.of hf, atI_nat (j := 2) rfl, _, rfl, _, _, rfl, rfl, m0, ?_⟩
      refine ⟨_, rfl, f, _, _, _, rfl, rfl, SqL.of hf, atI_nat (j := 2) rfl, _, rfl, _, _, rfl, rfl, ⟨m0, m9⟩, _, rfl, f, _, _, 2, rfl, rfl, hf, rfl, ?_⟩
      refine ⟨_, rfl, ?_⟩
      rw [eD]
      exact q _ _ (Int.emod_nonneg _ (by omega)) (Int.emod_lt_of_pos _ m0) ⟨ns, i, p / m, z, r, upd_same, (by rw [upd_ne ncf]; exact hc), hi, Int.ediv_nonneg hp (by omega), hz, hz2⟩ bt.upd
    · refine ⟨_, rfl, f, _, _, _, rfl, rfl, SqL.of hf, atI_nat (j := 4) rfl, _, _, rfl, rfl, _, rfl, f, _, _, 4, rfl, rfl, hf, rfl, ?_⟩
      have hf2 : upd H1 f (.lst ([V.ref c, V.int i, V.int p, V.int z, V.int r].set 4 (V.int (r + 1)))) f = some (.lst [.ref c, .int i, .int p, .int z, .int (r + 1)]) := upd_same
      refine ⟨_, rfl, f, _, _, _, rfl, rfl, SqL.of hf2, atI_nat (j := 3) rfl, _, _, rfl, rfl, .inl ⟨by omega, by omega⟩, _, _, rfl, rfl, _, rfl, f, _, _, _, rfl, rfl, SqL.of hf2, atI_nat (j := 4) rfl, _, _, rfl, rfl, _, _, rfl, rfl, (by show (0 : Int) < 2147483647; decide), _, rfl, f, _, _, 3, rfl, rfl, hf2, rfl, ?_⟩
      have z0 : 0 ≤ (z * 48271 + 12820163 + (r + 1)) % 2147483647 := Int.emod_nonneg _ (by decide)
      have z1 : (z * 48271 + 12820163 + (r + 1)) % 2147483647 < 2147483647 := Int.emod_lt_of_pos _ (by decide)
      have hf3 : upd (upd H1 f (.lst ([V.ref c, V.int i, V.int p, V.int z, V.int r].set 4 (V.int (r + 1))))) f (.lst ([V.ref c, V.int i, V.int p, V.int z, V.int (r + 1)].set 3 (V.int ((z * 48271 + 12820163 + (r + 1)) % 2147483647)))) f =
        some (.lst [.ref c, .int i, .int p, .int ((z * 48271 + 12820163 + (r + 1)) % 2147483647), .int (r + 1)]) := upd_same
      have hc3 : upd (upd H1 f (.lst ([V.ref c, V.int i, V.int p, V.int z, V.int r].set 4 (V.int (r + 1))))) f (.lst ([V.ref c, V.int i, V.int p, V.int z, V.int (r + 1)].set 3 (V.int ((z * 48271 + 12820163 + (r + 1)) % 2147483647)))) c = some (.lst (ns.map V.int)) := by
        rw [upd_ne ncf, upd_ne ncf]
        exact hc
      refine ⟨_, rfl, f, _, _, _, rfl, rfl, SqL.of hf3, atI_nat (j := 3) rfl, _, _, rfl, rfl, (by show (0 : Int) < 65521; decide), _, _, rfl, rfl, _, rfl, f, _, _, _, rfl, rfl, SqL.of hf3, atI_nat (j := 3) rfl, _, _, rfl, rfl, ⟨by decide, by decide⟩, _, _, rfl, rfl, _, _, rfl, rfl, .inl ⟨?_, ?_⟩, _, _, rfl, rfl, (by show (0 : Int) < 1000003; decide), _, _, rfl, rfl, ⟨by decide, by decide⟩, _, rfl, _, _, rfl, rfl, m0, ?_⟩
      · omega
      · omega
      · rw [eD]
        exact q _ _ (Int.emod_nonneg _ (by omega)) (Int.emod_lt_of_pos _ m0) ⟨ns, i, p, _, r + 1, hf3, hc3, hi, hp, z0, z1⟩ bt.upd.upd
  refine ⟨_, rfl, f, _, _, _, rfl, rfl, SqL.of hf, atI_nat (j := 2) rfl, rfl, _, rfl, if_bl (fun c1 => ?_) (fun c1 => ?_)⟩
  · refine ⟨_, rfl, f, _, _, _, rfl, rfl, SqL.of hf, atI_nat (j := 1) rfl, _, rfl, f, _, _, _, rfl, rfl, SqL.of hf, atI_nat (j := 0) rfl, c, _, rfl, .inl (SqL.of hc), _, _, rfl, rfl, _, rfl, if_bl (fun c2 => ?_) (fun c2 => ?_)⟩
    · have c3 : i < ((ns.map V.int).length : Int) := of_decide_eq_true c2
      rw [List.length_map] at c3
      obtain ⟨v, hv⟩ := at_ints hi c3
      refine ⟨_, rfl, f, _, _, _, rfl, rfl, SqL.of hf, atI_nat (j := 0) rfl, _, rfl, f, _, _, _, rfl, rfl, SqL.of hf, atI_nat (j := 1) rfl, c, _, i, _, rfl, rfl, SqL.of hc, hv, ?_⟩
      refine ⟨_, rfl, f, _, _, _, rfl, rfl, SqL.of hf, atI_nat (j := 1) rfl, _, _, rfl, rfl, _, rfl, f, _, _, 1, rfl, rfl, hf, rfl, ?_⟩
      have hf2 : upd H f (.lst ([V.ref c, V.int i, V.int p, V.int z, V.int r].set 1 (V.int (i + 1)))) f = some (.lst [.ref c, .int (i + 1), .int p, .int z, .int r]) := upd_same
      refine ⟨_, rfl, _, _, rfl, rfl, ⟨by decide, by decide, by decide⟩, _, _, rfl, rfl, _, rfl, if_bl (fun c4 => ?_) (fun c4 => ?_)⟩
      · have c5 : (10 : Int) ^ (18 : Int).toNat ≤ v := of_decide_eq_true c4
        have c6 : (0 : Int) ≤ (10 : Int) ^ (18 : Int).toNat := by decide
        refine ⟨_, rfl, _, rfl, f, _, _, 2, rfl, rfl, hf2, rfl, rfl, _, rfl, ⟨i + 1, v, z, r, upd_same, ?_, by omega, by omega, hz, hz2⟩, But.refl.upd.upd⟩
        rw [upd_ne ncf, upd_ne ncf]
        exact hc
      · refine ⟨_, rfl, f, _, _, _, rfl, rfl, SqL.of hf2, atI_nat (j := 3) rfl, _, _, rfl, rfl, .inl ⟨by omega, by omega⟩, _, rfl, _, _, rfl, rfl, (by show (0 : Int) < 1000003; decide), _, _, rfl, rfl, _, _, rfl, rfl, _, _, rfl, rfl, (by show (0 : Int) < 2147483647; decide), _, rfl, f, _, _, 3, rfl, rfl, hf2, rfl, rfl, _, rfl, ⟨i + 1, p, _, r, upd_same, ?_, by omega, hp, Int.emod_nonneg _ (by decide), Int.emod_lt_of_pos _ (by decide)⟩, But.refl.upd.upd⟩
        rw [upd_ne ncf, upd_ne ncf]
        exact hc
    · exact ⟨rfl, _, rfl, ⟨i, p, z, r, hf, hc, hi, hp, hz, hz2⟩, But.refl⟩
  · exact ⟨rfl, _, rfl, ⟨i, p, z, r, hf, hc, hi, hp, hz, hz2⟩, But.refl⟩
end
/-! ### rooms: what they are -/
/-- a hand: its rule's word, its number if it has one, its moments -/
structure HR where
  wd : Str
  no : Option Int
  mom : Int
/-- a belt -/
structure BR where
  one : Nat
  to : Nat
  th : List Int
abbrev ruleL (h : HR) : List V := .str h.wd :: (match h.no with | none => [] | some n => [.int n])
def HandAt (H : Hp) (v : V) (h : HR) : Prop := ∃ t r : Addr, v = .ref t ∧ H t = some (.tup [.ref r, .int h.mom]) ∧ H r = some (.tup (ruleL h))
def BeltAt (H : Hp) (v : V) (b : BR) : Prop := ∃ t g : Addr, v = .ref t ∧ H t = some (.tup [.int (b.one : Nat), .int (b.to : Nat), .ref g]) ∧ H g = some (.tup (b.th.map V.int))
theorem HandAt.keep {H H' : Hp} {v : V} {h : HR} (a : HandAt H v h) (k : TK H H') : HandAt H' v h := by
  obtain ⟨t, r, e, e1, e2⟩ := a
  exact ⟨t, r, e, k _ _ e1, k _ _ e2⟩
theorem BeltAt.keep {H H' : Hp} {v : V} {b : BR} (a : BeltAt H v b) (k : TK H H') : BeltAt H' v b := by
  obtain ⟨t, r, e, e1, e2⟩ := a
  exact ⟨t, r, e, k _ _ e1, k _ _ e2⟩
def nine : List Str := ["always", "same", "times", "sum", "gap", "below", "most", "least", "pick"]
def needs (wd : Str) : Int := if wd ∈ (["in", "always"] : List Str) then 0 else if wd ∈ (["out", "same", "times"] : List Str) then 1 else 2 + (if wd = "pick" then 1 else 0)
/-- a rule of one of the nine words -/
structure GoodRule (h : HR) : Prop where
  wd : h.wd ∈ nine
  no : h.no.isSome = true ↔ h.wd = "times" ∨ h.wd = "always"
  big : ∀ n, h.no = some n → -1000000 ≤ n ∧ n ≤ 1000000
def GoodHand (h : HR) : Prop := (GoodRule h ∨ ((h.wd = "in" ∨ h.wd = "out") ∧ h.no = none ∧ h.mom = 0)) ∧ 0 ≤ h.mom ∧ h.mom ≤ 30
def Small (v : Int) : Prop := -1000000 ≤ v ∧ v ≤ 1000000
section
variable {P : Program} {w : World} {K : PySem.W.Frag} {mg : Str → Option Value} {base : Heap}
def sp_law_thing (K : PySem.W.Frag) : Sp := fun vs H Q _ => ∃ f c : Addr, vs = [.ref f] ∧ Flow H f c ∧ ∀ (v : Int) (H' : Hp), Small v → Flow H' f c → But f H H' → Q (.int v) H'
theorem ok_law_thing {f : Addr} {fd : FuncData} (F : Fun K "_law_thing" "_law_thing" s_law_thing f fd) (T : Top w K mg) : FnOk P w K mg base CX0 2 f fd ["_law_flow_here"] (sp_law_thing K) := by
  obtain ⟨f_law_pick, fd_law_pick, F_law_pick, b_law_pick, m_law_pick⟩ := T.d_law_pick
  have G_law_pick := ok_law_pick (P := P) (w := w) (base := base) F_law_pick T
  refine F.ok sc_law_thing (fun vs H Q E h => ?_) (fun cdv A outer s H vs Q E hr h => ?_)
  · obtain ⟨f, c, rfl, _⟩ := h
    rfl
  obtain ⟨f, c, rfl, hF, q⟩ := h
  refine ⟨_, (pss_cons (ps_if (pt_cmpR op_gt (pe_call G_law_pick (hr.mono (by decide)) (by rfl) m_law_pick F_law_pick.kp b_law_pick .nil pass0 (pa_cons (pv 0) (pa_cons pe_int pa_nil))) pe_int (nomark _)) (pss_one (ps_ret (pe_op op_sub (pe_call G_law_pick (hr.mono (by decide)) (by rfl) m_law_pick F_law_pick.kp b_law_pick .nil pass0 (pa_cons (pv 0) (pa_cons pe_int pa_nil))) pe_int))) pss_nil)
      (pss_one (ps_ret (pe_op op_sub (pe_call G_law_pick (hr.mono (by decide)) (by rfl) m_law_pick F_law_pick.kp b_law_pick .nil pass0 (pa_cons (pv 0) (pa_cons pe_int pa_nil))) pe_int)))), ?_⟩
  refine ⟨_, rfl, f, c, 3, rfl, by decide, by decide +kernel, hF, fun v1 H1 a1 b1 F1 B1 => ⟨_, _, rfl, rfl, _, rfl, if_bl (fun _ => ?_) (fun _ => ?_)⟩⟩
  · exact ⟨_, rfl, f, c, 7, rfl, by decide, by decide +kernel, F1, fun v2 H2 a2 b2 F2 B2 => ⟨_, _, rfl, rfl, q _ _ ⟨by omega, by omega⟩ F2 (B1.trans B2)⟩⟩
  · exact ⟨_, rfl, f, c, 2000001, rfl, by decide, by decide +kernel, F1, fun v2 H2 a2 b2 F2 B2 => ⟨_, _, rfl, rfl, q _ _ ⟨by omega, by omega⟩ F2 (B1.trans B2)⟩⟩
def sp_law_needs (K : PySem.W.Frag) : Sp := fun vs H Q _ => ∃ (r : Addr) (wd : Str) (l : List V), vs = [.ref r] ∧ SqT K H r (.str wd :: l) ∧ ∀ H', Same H H' → Q (.int (needs wd)) H'
theorem ok_law_needs {f : Addr} {fd : FuncData} (F : Fun K "_law_needs" "_law_needs" s_law_needs f fd) (T : Top w K mg) : FnOk P w K mg base CX0 1 f fd ["_law_rule_here"] (sp_law_needs K) := by
  refine F.ok sc_law_needs (fun vs H Q E h => ?_) (fun cdv A outer s H vs Q E hr h => ?_)
  · obtain ⟨r, wd, l, rfl, _⟩ := h
    rfl
  obtain ⟨r, wd, l, rfl, hR, q⟩ := h
  unfold needs at q
  refine ⟨_, (pss_cons (ps_if (pt_cmpR (op_in_seqK K rfl) (pe_ix (ix_tupK K rfl) (pv 0) pe_int (fun _ _ => rfl)) (pe_tup (pa_cons pe_str (pa_cons pe_str pa_nil))) (by with_unfolding_all rfl)) (pss_one (ps_ret pe_int)) pss_nil)
      (pss_cons (ps_if (pt_cmpR (op_in_seqK K rfl) (pe_ix (ix_tupK K rfl) (pv 0) pe_int (fun _ _ => rfl)) (pe_tup (pa_cons pe_str (pa_cons pe_str (pa_cons pe_str pa_nil)))) (by with_unfolding_all rfl)) (pss_one (ps_ret pe_int)) pss_nil)
      (pss_one (ps_ret (pe_op op_add pe_int (pe_callTy call_int1 (by rfl) T.m_int (by decide +kernel) (pa_cons (pe_cmpR op_eq (pe_ix (ix_tupK K rfl) (pv 0) pe_int (fun _ _ => rfl)) pe_str (nomark _)) pa_nil))))))), ?_⟩
  refine ⟨_, rfl, r, _, _, _, rfl, rfl, hR, atI_nat (j := 0) rfl, (by show 2 ≤ sizeLine; decide), fun p np => ⟨p, _, rfl, .inr (SqT.of upd_same), rfl, rfl, _, rfl, if_in (zs := ["in", "always"]) (fun e => ?_) (fun e => ?_)⟩⟩
  · have q := q _ (same_new (o := .tup [V.str "in", V.str "always"]) np)
    rw [if_pos e] at q
    exact q
  have s1 := same_new (o := .tup [V.str "in", V.str "always"]) np
  refine ⟨_, rfl, r, _, _, _, rfl, rfl, same_seqT s1 hR, atI_nat (j := 0) rfl, (by show 3 ≤ sizeLine; decide), fun p2 np2 => ⟨p2, _, rfl, .inr (SqT.of upd_same), rfl, rfl, _, rfl, if_in (zs := ["out", "same", "times"]) (fun e2 => ?_) (fun e2 => ?_)⟩⟩
  · have q := q _ (s1.trans (same_new (o := .tup [V.str "out", V.str "same", V.str "times"]) np2))
    rw [if_neg e, if_pos e2] at q
    exact q
  have s2 := s1.trans (same_new (o := .tup [V.str "out", V.str "same", V.str "times"]) np2)
  have q := q _ s2
  rw [if_neg e, if_neg e2] at q
  refine ⟨_, rfl, r, _, _, _, rfl, rfl, same_seqT s2 hR, atI_nat (j := 0) rfl, rfl, .inr ⟨_, rfl, _, _, rfl, rfl, ?_⟩⟩
  by_cases k : wd = "pick"
  · rw [if_pos k] at q
    rw [decide_eq_true (show V.str wd = V.str "pick" by rw [k])]
    exact q
  · rw [if_neg k] at q
    rw [decide_eq_false (show ¬ V.str wd = V.str "pick" from fun z => k (V.str.inj z))]
    exact q
theorem nine_at {m : Int} (h0 : 0 ≤ m) (h9 : m < 9) : ∃ wd : Str, wd ∈ nine ∧ atI (nine.map V.str) m = some (.str wd) ∧ (m < 1 → needs wd ≤ 0) ∧ (m < 3 → needs wd ≤ 1) ∧ (m < 8 → needs wd ≤ 2) ∧ needs wd ≤ 3 ∧ 0 ≤ needs wd := by
  have : m = 0 ∨ m = 1 ∨ m = 2 ∨ m = 3 ∨ m = 4 ∨ m = 5 ∨ m = 6 ∨ m = 7 ∨ m = 8 := by omega
  rcases this with rfl | rfl | rfl | rfl | rfl | rfl | rfl | rfl | rfl
  · exact ⟨"always", by decide +kernel, rfl, by decide +kernel, by decide +kernel, by decide +kernel, by decide +kernel, by decide +kernel⟩
  · exact ⟨"same", by decide +kernel, rfl, by decide +kernel, by decide +kernel, by decide +kernel, by decide +kernel, by decide +kernel⟩
  · exact ⟨"times", by decide +kernel, rfl, by decide +kernel, by decide +kernel, by decide +kernel, by decide +kernel, by decide +kernel⟩
  · exact ⟨"sum", by decide +kernel, rfl, by decide +kernel, by decide +kernel, by decide +kernel, by decide +kernel, by decide +kernel⟩
  · exact ⟨"gap", by decide +kernel, rfl, by decide +kernel, by decide +kernel, by decide +kernel, by decide +kernel, by decide +kernel⟩
  · exact ⟨"below", by decide +kernel, rfl, by decide +kernel, by decide +kernel, by decide +kernel, by decide +kernel, by decide +kernel⟩
  · exact ⟨"most", by decide +kernel, rfl, by decide +kernel, by decide +kernel, by decide +kernel, by decide +kernel, by decide +kernel⟩
  · exact ⟨"least", by decide +kernel, rfl, by decide +kernel, by decide +kernel, by decide +kernel, by decide +kernel, by decide +kernel⟩
  · exact ⟨"pick", by decide +kernel, rfl, by decide +kernel, by decide +kernel, by decide +kernel, by decide +kernel, by decide +kernel⟩
def sp_law_rule (K : PySem.W.Frag) : Sp := fun vs H Q _ => ∃ (f c : Addr) (m : Int), vs = [.ref f, .int m] ∧ 0 ≤ m ∧ Flow H f c ∧
  ∀ (r : Addr) (h : HR) (H' : Hp), H' r = some (.tup (ruleL h)) → GoodRule h → needs h.wd ≤ m → 0 ≤ needs h.wd → h.mom = 0 → Flow H' f c → But f H H' → Q (.ref r) H'
theorem ok_law_rule {f : Addr} {fd : FuncData} (F : Fun K "_law_rule" "_law_rule" s_law_rule f fd) (T : Top w K mg) : FnOk P w K mg base CX0 3 f fd ["_law_flow_here", "_law_most"] (sp_law_rule K) := by
  obtain ⟨f_law_pick, fd_law_pick, F_law_pick, b_law_pick, m_law_pick⟩ := T.d_law_pick
  have G_law_pick := ok_law_pick (P := P) (w := w) (base := base) F_law_pick T
  obtain ⟨f_law_thing, fd_law_thing, F_law_thing, b_law_thing, m_law_thing⟩ := T.d_law_thing
  have G_law_thing := ok_law_thing (P := P) (w := w) (base := base) F_law_thing T
  refine F.ok sc_law_rule (fun vs H Q E h => ?_) (fun cdv A outer s H vs Q E hr h => ?_)
  · obtain ⟨f, c, m, rfl, _⟩ := h
    rfl
  obtain ⟨f, c, m, rfl, m0, hF, q⟩ := h
  refine ⟨_, (pss_cons (ps_set (i := 2) sc_law_rule.nd rfl (Or.inl rfl) (pe_lst (pa_cons pe_str (pa_cons pe_str (pa_cons pe_str (pa_cons pe_str (pa_cons pe_str (pa_cons pe_str (pa_cons pe_str (pa_cons pe_str (pa_cons pe_str pa_nil)))))))))))
      (pss_cons (ps_set (i := 3) sc_law_rule.nd rfl (Or.inl rfl) (pe_ix (ix_listK K rfl) (pv 2) (pe_call G_law_pick (hr.mono (by decide)) (by rfl) m_law_pick F_law_pick.kp b_law_pick .nil pass0 (pa_cons (pv 0) (pa_cons (pe_ix (ix_listK K rfl) (pe_lst (pa_cons pe_int (pa_cons pe_int (pa_cons pe_int (pa_cons pe_int pa_nil))))) (pe_callB (call_min2 rfl) (by rfl) T.m_min (by decide +kernel) (pa_cons pe_int (pa_cons (pv 1) pa_nil))) (fun _ _ => rfl)) pa_nil))) (fun _ _ => rfl)))
      (pss_cons (ps_if (pt_cmpR op_eq (pv 3) pe_str (nomark _)) (pss_one (ps_ret (pe_tup (pa_cons (pv 3) (pa_cons (pe_op op_sub (pe_call G_law_pick (hr.mono (by decide)) (by rfl) m_law_pick F_law_pick.kp b_law_pick .nil pass0 (pa_cons (pv 0) (pa_cons pe_int pa_nil))) pe_int) pa_nil))))) pss_nil)
      (pss_cons (ps_if (pt_cmpR op_eq (pv 3) pe_str (nomark _)) (pss_one (ps_ret (pe_tup (pa_cons (pv 3) (pa_cons (pe_call G_law_thing (hr.mono (by decide)) (by rfl) m_law_thing F_law_thing.kp b_law_thing .nil pass0 (pa_cons (pv 0) pa_nil)) pa_nil))))) pss_nil)
      (pss_one (ps_ret (pe_tup (pa_cons (pv 3) pa_nil)))))))), ?_⟩
  refine ⟨(by show 9 ≤ sizeLine; decide), fun wl nwl => ?_⟩
  have F1 : Flow (upd H wl (.lst (nine.map V.str))) f c := hF.new nwl
  refine ⟨_, rfl, _, rfl, (by show 4 ≤ sizeLine; decide), fun cl ncl => ?_⟩
  have F2 : Flow (upd (upd H wl (.lst (nine.map V.str))) cl (.lst [V.int 1, V.int 3, V.int 8, V.int 9])) f c := F1.new ncl
  have B2 : But f H (upd (upd H wl (.lst (nine.map V.str))) cl (.lst [V.int 1, V.int 3, V.int 8, V.int 9])) := (But.refl.new nwl).new ncl
  obtain ⟨j, hj, j1, j9, jn⟩ : ∃ j : Int, atI [V.int 1, V.int 3, V.int 8, V.int 9] (if m < 3 then m else 3) = some (.int j) ∧ 1 ≤ j ∧ j ≤ 9 ∧ ((j = 1 ∧ m = 0) ∨ (j = 3 ∧ m = 1) ∨ (j = 8 ∧ m = 2) ∨ (j = 9 ∧ 3 ≤ m)) := by
    by_cases k : m < 3
    · rw [if_pos k]
      have : m = 0 ∨ m = 1 ∨ m = 2 := by omega
      rcases this with rfl | rfl | rfl
      · exact ⟨1, rfl, by decide, by decide, by decide⟩
      · exact ⟨3, rfl, by decide, by decide, by decide⟩
      · exact ⟨8, rfl, by decide, by decide, by decide⟩
    · rw [if_neg k]
      exact ⟨9, rfl, by decide, by decide, by omega⟩
  refine ⟨_, rfl, _, _, rfl, cl, _, _, _, rfl, rfl, SqL.of upd_same, hj, f, c, j, rfl, by omega, ?_, F2, fun v H1 v0 v1 F3 B3 => ?_⟩
  · have : j = 1 ∨ j = 3 ∨ j = 8 ∨ j = 9 := by omega
    rcases this with rfl | rfl | rfl | rfl <;> decide +kernel
  obtain ⟨wd, hw, hat, n1, n3, n8, n9, n0⟩ := nine_at v0 (by omega)
  have hn : needs wd ≤ m := by
    rcases jn with ⟨rfl, rfl⟩ | ⟨rfl, rfl⟩ | ⟨rfl, rfl⟩ | ⟨rfl, k⟩
    · exact n1 v1
    · exact n3 v1
    · exact n8 v1
    · omega
  have hwl : H1 wl = some (.lst (nine.map V.str)) := B3 _ _ (same_new ncl _ _ upd_same) (hF.ne nwl)
  refine ⟨wl, _, _, _, rfl, rfl, SqL.of hwl, hat, ?_⟩
  have BB := B2.trans B3
  refine ⟨_, rfl, rfl, _, rfl, if_str (fun e => ?_) (fun e => ?_)⟩
  · refine ⟨_, rfl, _, rfl, f, c, 19, rfl, by decide, by decide +kernel, F3, fun v2 H2 a2 b2 F4 B4 => ⟨_, _, rfl, rfl, (by show 2 ≤ sizeLine; decide), fun r nr => ?_⟩⟩
    exact q r ⟨wd, some (v2 - 9), 0⟩ _ upd_same ⟨hw, ⟨fun _ => .inl e, fun _ => rfl⟩, fun n en => by cases en; exact ⟨by omega, by omega⟩⟩ hn n0 rfl (F4.new nr) ((BB.trans B4).new nr)
  refine ⟨_, rfl, rfl, _, rfl, if_str (fun e2 => ?_) (fun e2 => ?_)⟩
  · refine ⟨_, rfl, _, rfl, f, c, rfl, F3, fun v2 H2 s2 F4 B4 => ⟨(by show 2 ≤ sizeLine; decide), fun r nr => ?_⟩⟩
    exact q r ⟨wd, some v2, 0⟩ _ upd_same ⟨hw, ⟨fun _ => .inr e2, fun _ => rfl⟩, fun n en => by cases en; exact s2⟩ hn n0 rfl (F4.new nr) ((BB.trans B4).new nr)
  · refine ⟨_, rfl, (by show 1 ≤ sizeLine; decide), fun r nr => ?_⟩
    exact q r ⟨wd, none, 0⟩ _ upd_same ⟨hw, ⟨(fun z => nomatch z), fun z => absurd z (fun z => z.elim e e2)⟩, (fun n en => nomatch en)⟩ hn n0 rfl (F3.new nr) (BB.new nr)
def sp_law_shuffled (K : PySem.W.Frag) : Sp := fun vs H Q _ => ∃ (f c l : Addr) (xs : List V), vs = [.ref f, .ref l] ∧ SqL K H l xs ∧ l ≠ f ∧ xs.length ≤ 500 ∧ Flow H f c ∧
  ∀ (p : Addr) (ys : List V) (H' : Hp), ys.Perm xs → H p = none → H' p = some (.lst ys) → Flow H' f c → But f H H' → Q (.ref p) H'
theorem But.seqL {K : PySem.W.Frag} {f a : Addr} {H H1 : Hp} {xs : List V} (b : But f H H1) (h : SqL K H a xs) (n : a ≠ f) : SqL K H1 a xs := by
  rcases h with h | h
  · left
    rcases h with h | ⟨o, h⟩
    · exact .inl (b _ _ h n)
    · exact .inr ⟨o, b _ _ h n⟩
  · exact .inr h
theorem same_seqL {K : PySem.W.Frag} {a : Addr} {H H1 : Hp} {xs : List V} (b : Same H H1) (h : SqL K H a xs) : SqL K H1 a xs := by
  rcases h with h | h
  · left
    rcases h with h | ⟨o, h⟩
    · exact .inl (b _ _ h)
    · exact .inr ⟨o, b _ _ h⟩
  · exact .inr h
theorem log_small {m : Nat} (h : m ≤ 500) : ((m : Int)).natAbs.log2 < 9000 := by
  rw [Int.natAbs_natCast]
  exact Nat.lt_of_le_of_lt (Nat.log2_le_self m) (by omega)
theorem perm_erase {α : Type} : ∀ {l : List α} {j : Nat} {y : α}, l[j]? = some y → (y :: l.eraseIdx j).Perm l
  | [], _, _, h => nomatch h
  | a :: l, 0, y, h => by
    cases h
    exact List.Perm.refl _
  | a :: l, j + 1, y, h => by
    have ih : (y :: l.eraseIdx j).Perm l := perm_erase h
    exact (List.Perm.swap a y _).trans (ih.cons a)
theorem ok_law_shuffled {f : Addr} {fd : FuncData} (F : Fun K "_law_shuffled" "_law_shuffled" s_law_shuffled f fd) (T : Top w K mg) : FnOk P w K mg base CX0 2 f fd ["_law_flow_here", "_law_some"] (sp_law_shuffled K) := by
  obtain ⟨f_law_pick, fd_law_pick, F_law_pick, b_law_pick, m_law_pick⟩ := T.d_law_pick
  have G_law_pick := ok_law_pick (P := P) (w := w) (base := base) F_law_pick T
  refine F.ok sc_law_shuffled (fun vs H Q E h => ?_) (fun cdv A outer s H vs Q E hr h => ?_)
  · obtain ⟨f, c, l, xs, rfl, _⟩ := h
    rfl
  obtain ⟨f, c, l, xs, rfl, hL, nl, hlen, hF, q⟩ := h
  refine ⟨_, (pss_cons (ps_set (i := 2) sc_law_shuffled.nd rfl (Or.inr rfl) (pe_callTy (call_list_ofK K rfl) (by rfl) T.m_list (by decide +kernel) (pa_cons (pv 1) pa_nil)))
      (pss_one (ps_ret (pe_lc (own := [("_law_k", 3)]) (g := gName 3) (tt := tYes) (by rfl) sc_law_shuffled.nd (pi_range1 (by rfl) T.m_range (pa_cons (pe_callB (call_len_seqK K rfl) (by rfl) T.m_len (by decide +kernel) (pa_cons (pv 1) pa_nil)) pa_nil)) (blkOk_by (own := [("_law_k", 3)]) (N := N_law_shuffled) (sc := defScope s_law_shuffled) (by decide +kernel)) (fun _ _ _ _ _ => (pg_name (i := 3) sc_law_shuffled.nd rfl (Or.inl rfl))) (fun _ _ _ _ _ => pts_nil) (fun _ _ _ _ _ => (pe_bmK K rfl PySem.F.plainAttrs_list PySem.F.slot_list_pop PySem.F.type_list_pop mt_popAt (pv 2) (pa_cons (pe_call G_law_pick (hr.mono (by decide)) (by rfl) m_law_pick F_law_pick.kp b_law_pick .nil pass0 (pa_cons (pv 0) (pa_cons (pe_callB (call_len_seqK K rfl) (by rfl) T.m_len (by decide +kernel) (pa_cons (pv 2) pa_nil)) pa_nil))) pa_nil))))))), ?_⟩
  refine ⟨_, rfl, l, _, rfl, .inl hL, fun lf nlf => ?_⟩
  refine ⟨_, rfl, l, _, rfl, .inl (same_seqL (same_new nlf) hL), _, rfl, by omega, (by omega), fun D nD => ?_⟩
  have F1 : Flow (upd H lf (.lst xs)) f c := hF.new nlf
  have dl : D ≠ lf := (ne_of_none upd_same nD).symm
  refine lc_range (lo := 0) (n := xs.length) (fun i H5 => ∃ acc rest : List V, H5 D = some (.lst acc) ∧ H5 lf = some (.lst rest) ∧ acc.length = i ∧ rest.length + i = xs.length ∧ (acc ++ rest).Perm xs ∧ Flow H5 f c ∧ But f H H5)
    ⟨[], xs, upd_same, by rw [upd_ne dl.symm]; exact upd_same, rfl, by omega, List.Perm.refl _, F1.new nD, (But.refl.new nlf).new nD⟩ ?_ ?_
  · rintro i H5 hi ⟨acc, rest, hD, hl, ha, hr2, hp, F5, B5⟩
    refine ⟨rfl, yes_in ?_⟩
    refine ⟨_, rfl, .inl ⟨rfl, _, SqL.of hl⟩, _, rfl, _, rfl, lf, _, rfl, .inl (SqL.of hl), f, c, ((rest.length : Nat) : Int), rfl, by omega, log_small (by omega), F5, fun v H6 v0 v1 F6 B6 => ?_⟩
    have hl6 := B6 _ _ hl (hF.ne nlf)
    have hv : v.toNat < rest.length := by omega
    have e1 : seqIndex? v rest.length = some v.toNat := by
      rw [seqIndex_of v0 (by omega)]
    refine ⟨lf, rest, v, v.toNat, rest[v.toNat], rfl, rfl, hl6, by omega, by omega, e1, List.getElem?_eq_getElem hv, ?_⟩
    have hD6 := B6 _ _ hD (fun e => by rw [e] at nD; rw [show upd H lf (.lst xs) f = H f from upd_ne (hF.ne nlf).symm] at nD; obtain ⟨_, _, _, _, _, e1, _⟩ := hF; rw [e1] at nD; cases nD)
    refine ⟨acc, by rw [upd_ne dl]; exact hD6, small1000 (by omega), acc ++ [rest[v.toNat]], rest.eraseIdx v.toNat, upd_same, by rw [upd_ne dl.symm]; exact upd_same, by rw [List.length_append, ha]; rfl, ?_, ?_, ?_, ?_⟩
    · rw [List.length_eraseIdx, if_pos hv]
      omega
    · refine List.Perm.trans ?_ hp
      rw [List.append_assoc]
      exact List.Perm.append_left acc (perm_erase (List.getElem?_eq_getElem hv))
    · have dc : D ≠ c := fun e => by
        rw [e] at nD
        obtain ⟨_, _, _, _, _, _, e1, _⟩ := F1
        rw [e1] at nD
        cases nD
      exact (F6.lst (hF.ne nlf) (hF.nec nlf)).lst (F1.ne nD) dc
    · exact ((B5.trans B6).own nlf).own (same_none (same_new nlf) nD)
  · rintro H5 ⟨acc, rest, hD, hl, ha, hr2, hp, F5, B5⟩
    have er : rest = [] := by
      cases rest with
      | nil => rfl
      | cons a l => simp at hr2
    subst er
    rw [List.append_nil] at hp
    exact q D acc H5 hp (same_none (same_new nlf) nD) hD F5 B5
end
/-! ### the hands of a drawn room -/
def unS : V → Str
  | .str s => s
  | _ => ""
theorem perm_strs {ys : List V} {zs : List Str} (h : ys.Perm (zs.map V.str)) : ∃ ss : List Str, ys = ss.map V.str ∧ ss.Perm zs := by
  refine ⟨ys.map unS, ?_, ?_⟩
  · rw [List.map_map]
    symm
    refine (List.map_congr_left (g := id) fun y hy => ?_).trans (List.map_id _)
    obtain ⟨z, _, e⟩ := List.mem_map.mp (h.mem_iff.mp hy)
    subst e
    rfl
  · have q := h.map unS
    rw [List.map_map] at q
    have e : zs.map (unS ∘ V.str) = zs := (List.map_congr_left (g := id) fun z _ => rfl).trans (List.map_id _)
    rw [e] at q
    exact q
theorem flat_rep {α : Type} (x : α) : ∀ n : Nat, (List.replicate n [x]).flatten = List.replicate n x
  | 0 => rfl
  | n + 1 => by
    rw [List.replicate_succ, List.flatten_cons, flat_rep x n]
    rfl
def cnt (ss : List Str) : Nat := (ss.filter fun s => !decide (s = ("in" : Str))).length
theorem cnt_le (ss : List Str) : cnt ss ≤ ss.length := List.length_filter_le ..
theorem cut_drop (xs : List V) (k : Nat) : cutV xs (some ((k : Nat) : Int)) none = xs.drop k := by
  unfold cutV
  rw [HT.sIx_nat, HT.sIx_none]
  by_cases h : k ≤ xs.length
  · rw [Nat.min_eq_left h]
    exact List.take_of_length_le (by rw [List.length_drop]; exact Nat.le_refl _)
  · rw [Nat.min_eq_right (by omega), Nat.sub_self, List.take_zero, List.drop_eq_nil_of_le (by omega)]
structure HInv (f c sl hh : Addr) (ss : List Str) (H0 H : Hp) (i : Nat) (vs : List V) (hs : List HR) (left : Int) : Prop where
  fl : Flow H f c
  bt : But f H0 H
  hsl : H sl = some (.lst (ss.map V.str))
  hhh : H hh = some (.lst vs)
  al : All2 (HandAt H) vs hs
  len : hs.length = i
  good : ∀ h ∈ hs, GoodHand h
  lf : (cnt (ss.drop i) : Int) ≤ left
  sum : (hs.map fun h => needs h.wd).sum + left = 20
  nz : ∀ h ∈ hs, 0 ≤ needs h.wd
  one : ("hand" : Str) ∈ ss.take i → ∃ h ∈ hs, h.wd ≠ "out"
  n1 : sl ≠ f
  n2 : sl ≠ hh
  n3 : hh ≠ f
  n4 : hh ≠ c
  n5 : H0 hh = none
section
variable {f c sl hh : Addr} {ss : List Str} {H0 H H' : Hp} {i : Nat} {vs : List V} {hs : List HR} {left : Int}
theorem HInv.but (s : HInv f c sl hh ss H0 H i vs hs left) (F : Flow H' f c) (b : But f H H') : HInv f c sl hh ss H0 H' i vs hs left :=
  { s with fl := F, bt := s.bt.trans b, hsl := b _ _ s.hsl s.n1, hhh := b _ _ s.hhh s.n3, al := s.al.imp fun _ _ k => k.keep (TK.but s.fl b) }
theorem HInv.new {p : Addr} {o : HO} (s : HInv f c sl hh ss H0 H i vs hs left) (n : H p = none) : HInv f c sl hh ss H0 (upd H p o) i vs hs left :=
  { s with fl := s.fl.new n, bt := s.bt.new n, hsl := same_new n _ _ s.hsl, hhh := same_new n _ _ s.hhh, al := s.al.imp fun _ _ k => k.keep (TK.new n) }
theorem HInv.same (s : HInv f c sl hh ss H0 H i vs hs left) (k : Same H H') : HInv f c sl hh ss H0 H' i vs hs left :=
  { s with fl := s.fl.same k, bt := s.bt.same k, hsl := k _ _ s.hsl, hhh := k _ _ s.hhh, al := s.al.imp fun _ _ z => z.keep (TK.same k) }
theorem HInv.step {x : V} {h : HR} {sd : Str} (s : HInv f c sl hh ss H0 H i vs hs left) (hx : HandAt H x h) (g : GoodHand h) (z : 0 ≤ needs h.wd) (k : needs h.wd + (cnt (ss.drop (i + 1)) : Int) ≤ left) (e : ss[i]? = some sd) (o : sd = "hand" → h.wd ≠ "out") :
    HInv f c sl hh ss H0 (upd H hh (.lst (vs ++ [x]))) (i + 1) (vs ++ [x]) (hs ++ [h]) (left - needs h.wd) := by
  refine { s with fl := s.fl.lst s.n3 s.n4, bt := s.bt.own s.n5, hsl := by rw [upd_ne s.n2]; exact s.hsl, hhh := upd_same, al := (s.al.snoc hx).imp fun _ _ z => z.keep (TK.lst s.hhh), len := by rw [List.length_append, s.len]; rfl, good := ?_, lf := by omega, sum := ?_, nz := ?_, one := ?_ }
  · intro y hy
    rcases List.mem_append.mp hy with hy | hy
    · exact s.good y hy
    · obtain rfl : y = h := by simpa using hy
      exact g
  · have := s.sum
    rw [List.map_append, List.sum_append]
    simp only [List.map_cons, List.map_nil, List.sum_cons, List.sum_nil]
    omega
  · intro y hy
    rcases List.mem_append.mp hy with hy | hy
    · exact s.nz y hy
    · obtain rfl : y = h := by simpa using hy
      exact z
  · intro hm
    rw [List.take_add_one, e] at hm
    rcases List.mem_append.mp hm with hm | hm
    · obtain ⟨y, h1, h2⟩ := s.one hm
      exact ⟨y, List.mem_append_left _ h1, h2⟩
    · have e2 : ("hand" : Str) = sd := by simpa using hm
      exact ⟨h, List.mem_append_right _ (by simp), o e2.symm⟩
end
theorem cnt_cons {ss : List Str} {i : Nat} {sd : Str} (e : ss[i]? = some sd) : cnt (ss.drop i) = (if sd = "in" then 0 else 1) + cnt (ss.drop (i + 1)) := by
  have hi := (List.getElem?_eq_some_iff.mp e).1
  have e2 : ss.drop i = sd :: ss.drop (i + 1) := by
    rw [List.drop_eq_getElem_cons hi, (List.getElem?_eq_some_iff.mp e).2]
  rw [e2]
  unfold cnt
  rw [List.filter_cons]
  by_cases k : sd = "in"
  · rw [if_pos k, decide_eq_true k]
    simp
  · rw [if_neg k, decide_eq_false k]
    simp only [Bool.not_false, if_true, List.length_cons]
    omega
section
variable {P : Program} {w : World} {K : PySem.W.Frag} {mg : Str → Option Value} {base : Heap}
structure HandsOk (hs : List HR) : Prop where
  len : hs.length ≤ 12
  good : ∀ h ∈ hs, GoodHand h
  sum : (hs.map fun h => needs h.wd).sum ≤ 20
  nz : ∀ h ∈ hs, 0 ≤ needs h.wd
  one : ∃ h ∈ hs, h.wd ≠ "out"
def sp_law_hands (K : PySem.W.Frag) : Sp := fun vs H Q _ => ∃ (f c : Addr) (m : Int), vs = [.ref f, .int m] ∧ 1 ≤ m ∧ m ≤ 8 ∧ Flow H f c ∧
  ∀ (p : Addr) (xs : List V) (hs : List HR) (H' : Hp), H p = none → H' p = some (.lst xs) → All2 (HandAt H') xs hs → HandsOk hs → Flow H' f c → But f H H' → Q (.ref p) H'
theorem ok_law_hands {f : Addr} {fd : FuncData} (F : Fun K "_law_hands" "_law_hands" s_law_hands f fd) (T : Top w K mg) : FnOk P w K mg base CX0 4 f fd ["_law_flow_here", "_law_many"] (sp_law_hands K) := by
  obtain ⟨f_law_shuffled, fd_law_shuffled, F_law_shuffled, b_law_shuffled, m_law_shuffled⟩ := T.d_law_shuffled
  have G_law_shuffled := ok_law_shuffled (P := P) (w := w) (base := base) F_law_shuffled T
  obtain ⟨f_law_rule, fd_law_rule, F_law_rule, b_law_rule, m_law_rule⟩ := T.d_law_rule
  have G_law_rule := ok_law_rule (P := P) (w := w) (base := base) F_law_rule T
  obtain ⟨f_law_needs, fd_law_needs, F_law_needs, b_law_needs, m_law_needs⟩ := T.d_law_needs
  have G_law_needs := ok_law_needs (P := P) (w := w) (base := base) F_law_needs T
  obtain ⟨f_law_pick, fd_law_pick, F_law_pick, b_law_pick, m_law_pick⟩ := T.d_law_pick
  have G_law_pick := ok_law_pick (P := P) (w := w) (base := base) F_law_pick T
  refine F.ok sc_law_hands (fun vs H Q E h => ?_) (fun cdv A outer s H vs Q E hr h => ?_)
  · obtain ⟨f, c, m, rfl, _⟩ := h
    rfl
  obtain ⟨f, c, m, rfl, m1, m8, hF, q⟩ := h
  let R1 : TS := fun D' σ' H' => D'.rt = Q ∧ ∃ (sl : Addr) (ss : List Str), σ' = [some (.ref f), some (.int m), some (.ref sl), none, none, none, none, none, none, none] ∧ H' sl = some (.lst (ss.map V.str)) ∧ sl ≠ f ∧ ss.length ≤ 12 ∧ ("hand" : Str) ∈ ss ∧ (∀ s ∈ ss, s = "in" ∨ s = "out" ∨ s = "hand") ∧ Flow H' f c ∧ But f H H'
  refine ⟨_, (pss_cons (ps_set (i := 2) sc_law_hands.nd rfl (Or.inl rfl) (pe_op op_cat (pe_op op_cat (pe_op op_rep (pe_lst (pa_cons pe_str pa_nil)) (pe_call G_law_pick (hr.mono (by decide)) (by rfl) m_law_pick F_law_pick.kp b_law_pick .nil pass0 (pa_cons (pv 0) (pa_cons pe_int pa_nil)))) (pe_op op_rep (pe_lst (pa_cons pe_str pa_nil)) (pe_call G_law_pick (hr.mono (by decide)) (by rfl) m_law_pick F_law_pick.kp b_law_pick .nil pass0 (pa_cons (pv 0) (pa_cons pe_int pa_nil))))) (pe_op op_rep (pe_lst (pa_cons pe_str pa_nil)) (pv 1))))
      (pss_cons (ps_set (i := 2) sc_law_hands.nd rfl (Or.inl rfl) (pe_call G_law_shuffled (hr.mono (by decide)) (by rfl) m_law_shuffled F_law_shuffled.kp b_law_shuffled .nil pass0 (pa_cons (pv 0) (pa_cons (pv 2) pa_nil))))
      (PSs.to (pss_cons (ps_set (i := 3) sc_law_hands.nd rfl (Or.inl rfl) pe_int)
      (pss_cons (ps_set (i := 4) sc_law_hands.nd rfl (Or.inl rfl) (pe_lst pa_nil))
      (pss_cons (ps_for PassesOwn.never rfl (pi_enumK K rfl (by rfl) T.m_enumerate (pa_cons (pv 2) pa_nil)) (pg_tupK K rfl rfl (pgs_cons (pg_name (i := 5) sc_law_hands.nd rfl (Or.inl rfl)) (pgs_cons (pg_name (i := 6) sc_law_hands.nd rfl (Or.inl rfl)) pgs_nil)))
        (pss_cons (ps_if (pt_cmpR op_eq (pv 6) pe_str (nomark _)) (pss_cons (ps_set (i := 7) sc_law_hands.nd rfl (Or.inl rfl) (pe_callB (call_len_seqK K rfl) (by rfl) T.m_len (by decide +kernel) (pa_cons (pe_lc (own := [("_law_other", 8)]) (g := gName 8) (by rfl) sc_law_hands.nd (pi_listK K rfl (pe_slice (sl_listK K rfl) (pv 2) (po_some (pe_op op_add (pv 5) pe_int)) po_none)) (blkOk_by (own := [("_law_other", 8)]) (N := N_law_hands) (sc := defScope s_law_hands) (by decide +kernel)) (fun _ _ _ _ _ => (pg_name (i := 8) sc_law_hands.nd rfl (Or.inl rfl))) (fun _ _ _ _ _ => pts_one (pt_cmpR op_ne (pv 8) pe_str (nomark _))) (fun _ _ _ _ _ => (pv 8))) pa_nil)))
      (pss_cons (ps_set (i := 9) sc_law_hands.nd rfl (Or.inl rfl) (pe_call G_law_rule (hr.mono (by decide)) (by rfl) m_law_rule F_law_rule.kp b_law_rule .nil pass0 (pa_cons (pv 0) (pa_cons (pe_op op_sub (pv 3) (pv 7)) pa_nil))))
      (pss_one (ps_expr (pe_bmK K rfl PySem.F.plainAttrs_list PySem.F.slot_list_append PySem.F.type_list_append mt_append (pv 4) (pa_cons (pe_tup (pa_cons (pv 9) (pa_cons (pe_call G_law_pick (hr.mono (by decide)) (by rfl) m_law_pick F_law_pick.kp b_law_pick .nil pass0 (pa_cons (pv 0) (pa_cons (pe_ix (ix_listK K rfl) (pe_lst (pa_cons pe_int (pa_cons pe_int (pa_cons pe_int pa_nil)))) (pe_call G_law_pick (hr.mono (by decide)) (by rfl) m_law_pick F_law_pick.kp b_law_pick .nil pass0 (pa_cons (pv 0) (pa_cons pe_int pa_nil))) (fun _ _ => rfl)) pa_nil))) pa_nil))) pa_nil)))))) (pss_one (ps_expr (pe_bmK K rfl PySem.F.plainAttrs_list PySem.F.slot_list_append PySem.F.type_list_append mt_append (pv 4) (pa_cons (pe_tup (pa_cons (pe_tup (pa_cons (pv 6) pa_nil)) (pa_cons pe_int pa_nil))) pa_nil)))))
      (pss_one (ps_set (i := 3) sc_law_hands.nd rfl (Or.inl rfl) (pe_op op_sub (pv 3) (pe_call G_law_needs (hr.mono (by decide)) (by rfl) m_law_needs F_law_needs.kp b_law_needs .nil pass0 (pa_cons (pe_ix (ix_tupK K rfl) (pe_ix (ix_listK K rfl) (pv 4) (pe_un un_neg pe_int) (fun _ _ => rfl)) pe_int (fun _ _ => rfl)) pa_nil)))))))
      (pss_one (ps_ret (pv 4)))))) R1 ?tail1))), ?_⟩
  case tail1 =>
    rintro D' σ' H1 ⟨eD, sl, ss, rfl, hsl, nsl, hlen, hhand, hall, F1, B1⟩
    refine ⟨(by show 0 ≤ sizeLine; decide), fun hh nhh => ?_⟩
    have I0 : HInv f c sl hh ss H (upd H1 hh (.lst [])) 0 [] [] 20 :=
      { fl := F1.new nhh, bt := B1.new nhh, hsl := same_new nhh _ _ hsl, hhh := upd_same, al := .nil, len := rfl, good := (fun _ h => nomatch h), lf := by have := cnt_le (ss.drop 0); rw [List.length_drop] at this; omega, sum := rfl, nz := (fun _ h => nomatch h), one := (fun h => nomatch h), n1 := nsl, n2 := ne_of_none hsl nhh, n3 := F1.ne nhh, n4 := F1.nec nhh, n5 := B1.none nhh (F1.ne nhh) }
    refine ⟨_, rfl, sl, _, rfl, SqL.of I0.hsl, for_it (n := ss.length) (fun i σ H2 => ∃ (vs : List V) (hs : List HR) (left : Int) (v5 v6 v7 v8 v9 : Option V), σ = [some (.ref f), some (.int m), some (.ref sl), some (.int left), some (.ref hh), v5, v6, v7, v8, v9] ∧ HInv f c sl hh ss H H2 i vs hs left)
      ⟨[], [], 20, none, none, none, none, none, rfl, I0⟩ ?_ ?_ ?_ ?_⟩
    · rintro i σ H2 hi ⟨vs, hs, left, v5, v6, v7, v8, v9, rfl, I⟩
      exact ⟨_, _, SqL.of I.hsl, by rw [List.getElem?_map, List.getElem?_eq_getElem hi]; rfl⟩
    · rintro σ H2 ⟨vs, hs, left, v5, v6, v7, v8, v9, rfl, I⟩
      exact ⟨_, SqL.of I.hsl, by rw [List.length_map]; exact Nat.le_refl _⟩
    · rintro i x σ H2 H3 hi ⟨vs, hs, left, v5, v6, v7, v8, v9, rfl, I⟩ ⟨t, y, rfl, nt, rfl, fy⟩
      have ei : ss[i]? = some ss[i] := List.getElem?_eq_getElem hi
      obtain ⟨sd, hsd⟩ : ∃ sd, sd = ss[i] := ⟨_, rfl⟩
      rw [← hsd] at ei
      have ey : y = V.str sd := by
        have := fy _ (SqL.of I.hsl)
        rw [List.getElem?_map, ei] at this
        exact (Option.some.inj this).symm
      subst ey
      have I1 := I.new (o := .tup [V.int ((i : Nat) : Int), V.str sd]) nt
      have hc1 := cnt_cons ei
      have hl := I.lf
      have sz : vs.length < sizeLine := small1000 (by rw [I.al.length, I.len]; omega)
      refine ⟨t, _, rfl, SqT.of upd_same, rfl, _, _, rfl, _, _, rfl, rfl, ?_⟩
      refine ⟨_, rfl, rfl, _, rfl, if_str (fun e => ?_) (fun e => ?_)⟩
      · -- a hand
        refine ⟨_, rfl, _, rfl, _, _, rfl, rfl, _, rfl, sl, _, rfl, SqL.of I1.hsl, fun cp ncp => ?_⟩
        have I2 := I1.new (o := .lst (cutV (ss.map V.str) (some (((i : Nat) : Int) + 1)) none)) ncp
        have ecut : cutV (ss.map V.str) (some (((i : Nat) : Int) + 1)) none = (ss.drop (i + 1)).map V.str := by
          rw [show ((i : Nat) : Int) + 1 = ((i + 1 : Nat) : Int) by omega, cut_drop, List.map_drop]
        refine ⟨cp, rfl, ⟨_, SqL.of upd_same⟩, fun D nD => lc_list (K := K) (a := cp) (xs := cutV (ss.map V.str) (some (((i : Nat) : Int) + 1)) none) (fun j H5 => ∃ acc : List V, H5 D = some (.lst acc) ∧ acc.length = cnt ((ss.drop (i + 1)).take j) ∧ H5 cp = some (.lst (cutV (ss.map V.str) (some (((i : Nat) : Int) + 1)) none)) ∧ HInv f c sl hh ss H H5 i vs hs left ∧ D ≠ cp ∧ D ≠ f ∧ D ≠ c ∧ D ≠ sl ∧ D ≠ hh ∧ H D = Option.none)
          ⟨[], upd_same, rfl, same_new nD _ _ upd_same, I2.new nD, (ne_of_none upd_same nD).symm, I2.fl.ne nD, I2.fl.nec nD, (ne_of_none I2.hsl nD).symm, (ne_of_none I2.hhh nD).symm, I2.bt.none nD (I2.fl.ne nD)⟩ (fun j H5 _ ⟨_, _, _, h, _⟩ => SqL.of h) ?_ ?_⟩
        · rintro j z H5 hz ⟨acc, hD, hacc, hcp, I5, d1, d2, d3, d4, d5, d6⟩
          rw [ecut, List.getElem?_map] at hz
          cases ez : (ss.drop (i + 1))[j]? with
          | none => rw [ez] at hz; cases hz
          | some so =>
            rw [ez] at hz
            obtain rfl : V.str so = z := Option.some.inj hz
            refine ⟨rfl, _, rfl, rfl, _, rfl, if_bl (fun k => ?_) (fun k => ?_)⟩
            · have k2 : ¬ so = "in" := fun y => by
                rw [y] at k
                exact absurd k (by decide +kernel)
              refine ⟨_, rfl, acc, hD, ?_, acc ++ [V.str so], upd_same, ?_, by rw [upd_ne d1.symm]; exact hcp, ?_, d1, d2, d3, d4, d5, d6⟩
              · rw [hacc]
                have := cnt_le ((ss.drop (i + 1)).take j)
                rw [List.length_take, List.length_drop] at this
                exact small1000 (by omega)
              · rw [List.length_append, hacc, List.take_add_one, ez]
                unfold cnt
                rw [List.filter_append, List.length_append]
                simp [k2]
              · exact { I5 with fl := I5.fl.lst d2 d3, bt := I5.bt.own d6, hsl := by rw [upd_ne d4.symm]; exact I5.hsl, hhh := by rw [upd_ne d5.symm]; exact I5.hhh, al := I5.al.imp fun _ _ y => y.keep (TK.lst hD) }
            · have k2 : so = "in" := by
                by_cases y : so = "in"
                · exact y
                · have k3 : (!decide (V.str so = V.str "in")) = false := k
                  rw [decide_eq_false (fun y2 => y (V.str.inj y2))] at k3
                  cases k3
              refine ⟨acc, hD, ?_, hcp, I5, d1, d2, d3, d4, d5, d6⟩
              rw [hacc, List.take_add_one, ez]
              unfold cnt
              rw [List.filter_append, List.length_append]
              simp [k2]
        · rintro H5 ⟨acc, hD, hacc, hcp, I5, d1, d2, d3, d4, d5, d6⟩
          have hacc2 : acc.length = cnt (ss.drop (i + 1)) := by
            rw [hacc, List.take_of_length_le]
            rw [ecut, List.length_map]
            exact Nat.le_refl _
          have hm0 : 0 ≤ left - ((acc.length : Nat) : Int) := by
            have hne : ¬ sd = "in" := by rw [e]; decide +kernel
            rw [hacc2]
            rw [hc1, if_neg hne] at hl
            omega
          refine ⟨D, _, rfl, .inl (SqL.of hD), ?_⟩
          refine ⟨_, rfl, _, rfl, _, rfl, _, _, rfl, rfl, f, c, _, rfl, hm0, I5.fl, fun r hR H6 hr6 gR n1 n0 mo F6 B6 => ?_⟩
          have I6 := I5.but F6 B6
          refine ⟨_, rfl, .inl ⟨rfl, _, SqL.of I6.hhh⟩, _, rfl, _, rfl, (by show 3 ≤ sizeLine; decide), fun ml nml => ?_⟩
          have I7 := I6.new (o := .lst [V.int 5, V.int 5, V.int 31]) nml
          refine ⟨_, rfl, f, c, 3, rfl, by decide, by decide +kernel, I7.fl, fun z H8 z0 z3 F8 B8 => ?_⟩
          have I8 := I7.but F8 B8
          have hml := B8 _ _ upd_same (I6.fl.ne nml)
          obtain ⟨mm, hmm, mk⟩ : ∃ mm : Int, atI [V.int 5, V.int 5, V.int 31] z = some (.int mm) ∧ (mm = 5 ∨ mm = 31) := by
            have : z = 0 ∨ z = 1 ∨ z = 2 := by omega
            rcases this with rfl | rfl | rfl
            · exact ⟨5, rfl, .inl rfl⟩
            · exact ⟨5, rfl, .inl rfl⟩
            · exact ⟨31, rfl, .inr rfl⟩
          refine ⟨ml, _, _, _, rfl, rfl, SqL.of hml, hmm, f, c, mm, rfl, by omega, (by rcases mk with rfl | rfl <;> decide +kernel), I8.fl, fun mo2 H9 o0 o1 F9 B9 => ?_⟩
          have I9 := I8.but F9 B9
          refine ⟨(by show 2 ≤ sizeLine; decide), fun t2 nt2 => ?_⟩
          have I10 := I9.new (o := .tup [V.ref r, V.int mo2]) nt2
          have sz10 : vs.length < sizeLine := sz
          refine ⟨hh, _, _, rfl, rfl, I10.hhh, sz10, ?_⟩
          have k9 : TK H6 H9 := ((TK.new nml).trans (TK.but I7.fl B8)).trans (TK.but I8.fl B9)
          have hx : HandAt (upd H9 t2 (.tup [V.ref r, V.int mo2])) (V.ref t2) ⟨hR.wd, hR.no, mo2⟩ := ⟨t2, r, rfl, upd_same, TK.new nt2 _ _ (k9 _ _ hr6)⟩
          have gd : GoodHand ⟨hR.wd, hR.no, mo2⟩ := ⟨.inl ⟨gR.wd, gR.no, gR.big⟩, o0, (show mo2 ≤ 30 by omega)⟩
          have nout : hR.wd ≠ "out" := fun y => by
            have := gR.wd
            rw [y] at this
            exact absurd this (by decide +kernel)
          have I11 := I10.step (h := ⟨hR.wd, hR.no, mo2⟩) hx gd n0 (by show needs hR.wd + _ ≤ left; rw [hacc2] at n1; omega) ei (fun _ => nout)
          refine ⟨_, rfl, _, rfl, 1, rfl, hh, _, -1, _, rfl, rfl, SqL.of I11.hhh, atI_last _ _, t2, _, _, _, rfl, rfl, SqT.of (TK.lst I10.hhh _ _ upd_same), atI_nat (j := 0) rfl, r, hR.wd, _, rfl, SqT.of (TK.lst I10.hhh _ _ (TK.new nt2 _ _ (k9 _ _ hr6))), fun H12 s12 => ⟨_, _, rfl, rfl, ?_⟩⟩
          exact ⟨_, _, _, _, _, _, _, _, rfl, I11.same s12⟩
      · -- a door
        refine ⟨_, rfl, .inl ⟨rfl, _, SqL.of I1.hhh⟩, _, rfl, (by show 1 ≤ sizeLine; decide), fun r nr => ⟨(by show 2 ≤ sizeLine; decide), fun t2 nt2 => ?_⟩⟩
        have I2 := (I1.new (o := .tup [V.str sd]) nr).new (o := .tup [V.ref r, V.int 0]) nt2
        refine ⟨hh, _, _, rfl, rfl, I2.hhh, sz, ?_⟩
        have hsd2 : sd = "in" ∨ sd = "out" := by
          rcases hall sd (List.mem_of_getElem? ei) with y | y | y
          · exact .inl y
          · exact .inr y
          · exact absurd y e
        have hn : needs sd = (if sd = "in" then 0 else 1) := by
          rcases hsd2 with y | y <;> rw [y] <;> decide +kernel
        have hx : HandAt (upd (upd (upd H2 t (.tup [V.int ((i : Nat) : Int), V.str sd])) r (.tup [V.str sd])) t2 (.tup [V.ref r, V.int 0])) (V.ref t2) ⟨sd, none, 0⟩ := ⟨t2, r, rfl, upd_same, same_new nt2 _ _ upd_same⟩
        have I3 := I2.step (h := ⟨sd, none, 0⟩) hx ⟨.inr ⟨hsd2, rfl, rfl⟩, (show (0 : Int) ≤ 0 by decide), (show (0 : Int) ≤ 30 by decide)⟩ (by show 0 ≤ needs sd; rw [hn]; split <;> decide) (by
          show needs sd + _ ≤ left
          rw [hn]
          rw [hc1] at hl
          by_cases y : sd = "in"
          · rw [if_pos y] at hl ⊢; omega
          · rw [if_neg y] at hl ⊢; omega) ei (fun y => absurd y e)
        refine ⟨_, rfl, _, rfl, 1, rfl, hh, _, -1, _, rfl, rfl, SqL.of I3.hhh, atI_last _ _, t2, _, _, _, rfl, rfl, SqT.of (TK.lst I2.hhh _ _ upd_same), atI_nat (j := 0) rfl, r, sd, _, rfl, SqT.of (TK.lst I2.hhh _ _ (same_new nt2 _ _ upd_same)), fun H12 s12 => ⟨_, _, rfl, rfl, ?_⟩⟩
        exact ⟨_, _, _, _, _, _, _, _, rfl, I3.same s12⟩
    · rintro σ H2 ⟨vs, hs, left, v5, v6, v7, v8, v9, rfl, I⟩
      refine ⟨_, rfl, ?_⟩
      rw [eD]
      refine q hh vs hs H2 I.n5 I.hhh I.al ⟨by rw [I.len]; exact hlen, I.good, ?_, I.nz, I.one (by rw [List.take_length]; exact hhand)⟩ I.fl I.bt
      have := I.sum
      have := I.lf
      omega
  refine ⟨(by show 1 ≤ sizeLine; decide), fun l1 nl1 => ?_⟩
  refine ⟨_, rfl, f, c, 3, rfl, by decide, by decide +kernel, hF.new nl1, fun v1 H1 a1 b1 F1 B1 => ?_⟩
  have g1 := B1 _ _ upd_same (hF.ne nl1)
  have small : ∀ v : Int, 0 ≤ v → v ≤ 8 → [V.str "in"].length * v.toNat ≤ sizeLine := fun v v0 v8 => little (by show 1 * v.toNat ≤ 1000; omega)
  refine ⟨l1, v1, _, rfl, rfl, g1, by omega, by omega, small v1 a1 (by omega), fun p1 np1 => ?_⟩
  rw [flat_rep]
  have F2 := F1.new (o := .lst (List.replicate v1.toNat (V.str "in"))) np1
  refine ⟨(by show 1 ≤ sizeLine; decide), fun l2 nl2 => ?_⟩
  refine ⟨_, rfl, f, c, 3, rfl, by decide, by decide +kernel, F2.new nl2, fun v2 H3 a2 b2 F3 B3 => ?_⟩
  have g2 := B3 _ _ upd_same (F2.ne nl2)
  have h1 := B3 _ _ (same_new nl2 _ _ upd_same) (F1.ne np1)
  refine ⟨l2, v2, _, rfl, rfl, g2, by omega, by omega, small v2 a2 (by omega), fun p2 np2 => ?_⟩
  rw [flat_rep]
  have F4 := F3.new (o := .lst (List.replicate v2.toNat (V.str "out"))) np2
  refine ⟨p1, p2, _, _, rfl, rfl, same_new np2 _ _ h1, upd_same, ?_, fun p3 np3 => ?_⟩
  · rw [List.length_replicate, List.length_replicate]; exact little (by omega)
  have F5 := F4.new (o := .lst (List.replicate v1.toNat (V.str "in") ++ List.replicate v2.toNat (V.str "out"))) np3
  refine ⟨(by show 1 ≤ sizeLine; decide), fun l4 nl4 => ⟨_, rfl, l4, m, _, rfl, rfl, upd_same, by omega, by omega, small m (by omega) m8, fun p5 np5 => ?_⟩⟩
  rw [flat_rep]
  have F6 := F5.new (o := .lst [V.str "hand"]) nl4
  have F7 := F6.new (o := .lst (List.replicate m.toNat (V.str "hand"))) np5
  refine ⟨p3, p5, _, _, rfl, rfl, same_new np5 _ _ (same_new nl4 _ _ upd_same), upd_same, ?_, fun p6 np6 => ?_⟩
  · rw [List.length_append, List.length_replicate, List.length_replicate, List.length_replicate]; exact little (by omega)
  refine ⟨_, rfl, _, rfl, f, c, p6, _, rfl, SqL.of upd_same, F7.ne np6, ?_, F7.new np6, fun p ys H8 hp np hy F8 B8 => ?_⟩
  · rw [List.length_append, List.length_append, List.length_replicate, List.length_replicate, List.length_replicate]; omega
  have ez : (List.replicate v1.toNat (V.str "in") ++ List.replicate v2.toNat (V.str "out")) ++ List.replicate m.toNat (V.str "hand") = ((List.replicate v1.toNat ("in" : Str) ++ List.replicate v2.toNat ("out" : Str)) ++ List.replicate m.toNat ("hand" : Str)).map V.str := by
    rw [List.map_append, List.map_append, List.map_replicate, List.map_replicate, List.map_replicate]
  rw [ez] at hp
  obtain ⟨ss, rfl, hss⟩ := perm_strs hp
  have pf : p ≠ f := fun y => by
    rw [y] at np
    obtain ⟨_, _, _, _, _, e1, _⟩ := F7.new (o := .lst ((List.replicate v1.toNat (V.str "in") ++ List.replicate v2.toNat (V.str "out")) ++ List.replicate m.toNat (V.str "hand"))) np6
    rw [e1] at np
    cases np
  refine ⟨rfl, p, ss, rfl, hy, pf, ?_, ?_, ?_, F8, But.trans ((((((((((But.refl.new nl1).trans B1).new np1).new nl2).trans B3).new np2).new np3).new nl4).new np5).new np6) B8⟩
  · rw [hss.length_eq, List.length_append, List.length_append, List.length_replicate, List.length_replicate, List.length_replicate]; omega
  · refine hss.mem_iff.mpr (List.mem_append_right _ (List.mem_replicate.mpr ⟨by omega, rfl⟩))
  · intro s hs
    rcases List.mem_append.mp (hss.mem_iff.mp hs) with hs | hs
    · rcases List.mem_append.mp hs with hs | hs
      · exact .inl (List.mem_replicate.mp hs).2
      · exact .inr (.inl (List.mem_replicate.mp hs).2)
    · exact .inr (.inr (List.mem_replicate.mp hs).2)
end
/-! ### rules as data -/
abbrev ruleD (h : HR) : List PyData := .str h.wd :: (match h.no with | none => [] | some n => [.int n])
theorem rule_dp {K : PySem.W.Frag} {H : Hp} {r : Addr} {h : HR} (e : H r = some (.tup (ruleL h))) : Dp K H (.ref r) (.tuple (ruleD h)) := by
  obtain ⟨wd, no, mom⟩ := h
  cases no with
  | none => exact .tup (SqT.of e) (.cons (.str _) .nil)
  | some n => exact .tup (SqT.of e) (.cons (.str _) (.cons (.int _) .nil))
theorem rule_shaped {h : HR} (k : PyData.canLay0 (.str h.wd) = true) : SeqAt.shaped (.tuple (ruleD h)) = true := by
  obtain ⟨wd, no, mom⟩ := h
  have k : PyData.canLay0 (.str wd) = true := k
  cases no <;> simp [SeqAt.shaped, PyData.canLay0, PyData.canLayAll0, PyData.depth, PyData.depthAll] <;> simpa [PyData.canLay0] using k
theorem GoodHand.lay {h : HR} (g : GoodHand h) : PyData.canLay0 (.str h.wd) = true := by
  have : h.wd ∈ nine ∨ h.wd = "in" ∨ h.wd = "out" := g.1.elim (fun k => .inl k.wd) (fun k => .inr k.1)
  rcases this with k | k | k
  · unfold nine at k
    simp only [List.mem_cons, List.not_mem_nil, or_false] at k
    rcases k with k | k | k | k | k | k | k | k | k <;> rw [k] <;> decide +kernel
  · rw [k]; decide +kernel
  · rw [k]; decide +kernel
theorem one_shaped {z : Str} (k : PyData.canLay0 (.str z) = true) : SeqAt.shaped (.tuple [.str z]) = true := rule_shaped (h := ⟨z, none, 0⟩) k
theorem at0 {xs : List V} {i : Nat} {v : V} (h : xs[i]? = some v) : atI xs (0 + ((i : Nat) : Int)) = some v := by
  rw [Int.zero_add]
  exact atI_nat h
theorem rule_eqv (h : HR) (z : Str) : PyData.eqv (.tuple (ruleD h)) (.tuple [.str z]) = (decide (h.wd = z) && h.no.isNone) := by
  obtain ⟨wd, no, mom⟩ := h
  have e : (wd == z) = decide (wd = z) := by
    by_cases k : wd = z
    · rw [k, decide_eq_true rfl]; exact beq_self_eq_true z
    · rw [decide_eq_false k]; exact beq_eq_false_iff_ne.mpr k
  cases no with
  | none =>
    show (wd == z && true) = (decide (wd = z) && true)
    rw [e]
  | some n =>
    show (wd == z && false) = (decide (wd = z) && false)
    rw [Bool.and_false, Bool.and_false]
theorem GoodHand.door {h : HR} (g : GoodHand h) (z : Str) (hz : z = "in" ∨ z = "out") : (decide (h.wd = z) && h.no.isNone) = decide (h.wd = z) := by
  by_cases k : h.wd = z
  · rw [decide_eq_true k, Bool.true_and]
    rcases g.1 with g | g
    · have := g.wd
      rw [k] at this
      rcases hz with rfl | rfl <;> exact absurd this (by decide +kernel)
    · rw [g.2.1]; rfl
  · rw [decide_eq_false k]; rfl
theorem GoodHand.mom0 {h : HR} (g : GoodHand h) (z : h.wd = "in" ∨ h.wd = "out") : h.mom = 0 := by
  rcases g.1 with k | k
  · have := k.wd
    rcases z with z | z <;> rw [z] at this <;> exact absurd this (by decide +kernel)
  · exact k.2.2
/-! ### numbers in lists -/
abbrev nV (n : Nat) : V := .int (n : Nat)
def unN : V → Nat
  | .int i => i.toNat
  | _ => 0
def unI : V → Int
  | .int i => i
  | _ => 0
theorem perm_inv {α : Type} {f : α → V} {g : V → α} (k : ∀ a, g (f a) = a) {ys : List V} {zs : List α} (h : ys.Perm (zs.map f)) : ∃ ss : List α, ys = ss.map f ∧ ss.Perm zs := by
  refine ⟨ys.map g, ?_, ?_⟩
  · rw [List.map_map]
    symm
    refine (List.map_congr_left (g := id) fun y hy => ?_).trans (List.map_id _)
    obtain ⟨z, _, e⟩ := List.mem_map.mp (h.mem_iff.mp hy)
    subst e
    show f (g (f z)) = f z
    rw [k]
  · have q := h.map g
    rw [List.map_map] at q
    have e : zs.map (g ∘ f) = zs := (List.map_congr_left (g := id) fun z _ => k z).trans (List.map_id _)
    rw [e] at q
    exact q
def nd (hs : List HR) (j : Nat) : Nat := match hs[j]? with | some h => (needs h.wd).toNat | none => 0
def tkTo (hs : List HR) : Nat → List Nat
  | 0 => []
  | n + 1 => tkTo hs n ++ List.replicate (nd hs n) n
theorem tk_count (hs : List HR) (k : Nat) : ∀ n, (tkTo hs n).count k = if k < n then nd hs k else 0
  | 0 => by simp [tkTo]
  | n + 1 => by
    unfold tkTo
    rw [List.count_append, tk_count hs k n, List.count_replicate]
    by_cases h1 : k < n
    · have h2 : ¬ (n == k) = true := by simp; omega
      rw [if_pos h1, if_neg h2, if_pos (show k < n + 1 by omega), Nat.add_zero]
    · by_cases h2 : n = k
      · subst h2
        rw [if_neg h1, if_pos (beq_self_eq_true n), if_pos (show n < n + 1 by omega), Nat.zero_add]
      · have h3 : ¬ (n == k) = true := by simpa using h2
        rw [if_neg h1, if_neg h3, if_neg (show ¬ k < n + 1 by omega)]
theorem tk_mem (hs : List HR) : ∀ n k, k ∈ tkTo hs n → k < n
  | 0, k, h => nomatch h
  | n + 1, k, h => by
    rcases List.mem_append.mp h with h | h
    · exact Nat.lt_succ_of_lt (tk_mem hs n k h)
    · rw [(List.mem_replicate.mp h).2]; exact Nat.lt_succ_self n
theorem tk_len (hs : List HR) (z : ∀ h ∈ hs, 0 ≤ needs h.wd) : ∀ n, n ≤ hs.length → ((tkTo hs n).length : Int) = ((hs.take n).map fun h => needs h.wd).sum
  | 0, _ => rfl
  | n + 1, hn => by
    have e : hs[n]? = some hs[n] := List.getElem?_eq_getElem (by omega)
    unfold tkTo
    rw [List.length_append, List.length_replicate, List.take_add_one, e, List.map_append, List.sum_append, Int.natCast_add, tk_len hs z n (by omega)]
    unfold nd
    rw [e]
    have := z hs[n] (List.getElem_mem _)
    simp only [Option.toList, List.map_cons, List.map_nil, List.sum_cons, List.sum_nil]
    omega
structure RoomOk (hs : List HR) (bs : List BR) : Prop where
  hands : hs.length ≤ 12
  good : ∀ h ∈ hs, GoodHand h
  ends : ∀ b ∈ bs, b.one < hs.length ∧ b.to < hs.length
  out : ∀ b ∈ bs, ∀ h, hs[b.one]? = some h → h.wd ≠ "out"
  th : ∀ b ∈ bs, b.th.length ≤ 6 ∧ ∀ x ∈ b.th, -1000000000 < x ∧ x < 1000000000
  rank : ∃ rk : Nat → Int, ∀ b ∈ bs, b.th = [] → rk b.one < rk b.to
  count : ∀ k h, hs[k]? = some h → (((bs.map BR.to).count k : Nat) : Int) = needs h.wd
  many : bs.length ≤ 20
structure RoomAt (H : Hp) (r : Addr) (hs : List HR) (bs : List BR) : Prop where
  ex : ∃ (ha ba : Addr) (hv bv : List V), H r = some (.tup [.ref ha, .ref ba]) ∧ H ha = some (.tup hv) ∧ H ba = some (.tup bv) ∧ All2 (HandAt H) hv hs ∧ All2 (BeltAt H) bv bs
theorem RoomAt.keep {H H' : Hp} {r : Addr} {hs : List HR} {bs : List BR} (a : RoomAt H r hs bs) (k : TK H H') : RoomAt H' r hs bs := by
  obtain ⟨ha, ba, hv, bv, e1, e2, e3, a1, a2⟩ := a.ex
  exact ⟨ha, ba, hv, bv, k _ _ e1, k _ _ e2, k _ _ e3, a1.imp fun _ _ z => z.keep k, a2.imp fun _ _ z => z.keep k⟩
section
variable {P : Program} {w : World} {K : PySem.W.Frag} {mg : Str → Option Value} {base : Heap}
def sp_law_room (K : PySem.W.Frag) : Sp := fun vs H Q _ => ∃ (f c : Addr) (m : Int), vs = [.ref f, .int m] ∧ 1 ≤ m ∧ m ≤ 8 ∧ Flow H f c ∧
  ∀ (r : Addr) (hs : List HR) (bs : List BR) (H' : Hp), RoomAt H' r hs bs → RoomOk hs bs → 0 < hs.length → Flow H' f c → But f H H' → Q (.ref r) H'
/-- what stands while a room is drawn: the draws, the list of its hands -/
structure RI (f c hh : Addr) (H0 H : Hp) (xs : List V) (hs : List HR) : Prop where
  fl : Flow H f c
  bt : But f H0 H
  lh : H hh = some (.lst xs)
  al : All2 (HandAt H) xs hs
  n1 : hh ≠ f
  n2 : H0 hh = none
section
variable {f c hh : Addr} {H0 H H' : Hp} {xs : List V} {hs : List HR}
theorem RI.but (s : RI f c hh H0 H xs hs) (F : Flow H' f c) (b : But f H H') : RI f c hh H0 H' xs hs :=
  { s with fl := F, bt := s.bt.trans b, lh := b _ _ s.lh s.n1, al := s.al.imp fun _ _ k => k.keep (TK.but s.fl b) }
theorem RI.new {p : Addr} {o : HO} (s : RI f c hh H0 H xs hs) (n : H p = none) : RI f c hh H0 (upd H p o) xs hs :=
  { s with fl := s.fl.new n, bt := s.bt.new n, lh := same_new n _ _ s.lh, al := s.al.imp fun _ _ k => k.keep (TK.new n) }
theorem RI.same (s : RI f c hh H0 H xs hs) (k : Same H H') : RI f c hh H0 H' xs hs :=
  { s with fl := s.fl.same k, bt := s.bt.same k, lh := k _ _ s.lh, al := s.al.imp fun _ _ z => z.keep (TK.same k) }
theorem RI.lst {D : Addr} {as bs : List V} (s : RI f c hh H0 H xs hs) (h : H D = some (.lst as)) (d1 : D ≠ f) (d2 : D ≠ c) (d3 : D ≠ hh) (d4 : H0 D = none) : RI f c hh H0 (upd H D (.lst bs)) xs hs :=
  { s with fl := s.fl.lst d1 d2, bt := s.bt.own d4, lh := by rw [upd_ne d3.symm]; exact s.lh, al := s.al.imp fun _ _ z => z.keep (TK.lst h) }
end
theorem ok_law_room {f : Addr} {fd : FuncData} (F : Fun K "_law_room" "_law_room" s_law_room f fd) (T : Top w K mg) : FnOk P w K mg base CX0 5 f fd ["_law_flow_here", "_law_most"] (sp_law_room K) := by
  obtain ⟨f_law_hands, fd_law_hands, F_law_hands, b_law_hands, m_law_hands⟩ := T.d_law_hands
  have G_law_hands := ok_law_hands (P := P) (w := w) (base := base) F_law_hands T
  obtain ⟨f_law_shuffled, fd_law_shuffled, F_law_shuffled, b_law_shuffled, m_law_shuffled⟩ := T.d_law_shuffled
  have G_law_shuffled := ok_law_shuffled (P := P) (w := w) (base := base) F_law_shuffled T
  obtain ⟨f_law_pick, fd_law_pick, F_law_pick, b_law_pick, m_law_pick⟩ := T.d_law_pick
  have G_law_pick := ok_law_pick (P := P) (w := w) (base := base) F_law_pick T
  obtain ⟨f_law_needs, fd_law_needs, F_law_needs, b_law_needs, m_law_needs⟩ := T.d_law_needs
  have G_law_needs := ok_law_needs (P := P) (w := w) (base := base) F_law_needs T
  obtain ⟨f_law_thing, fd_law_thing, F_law_thing, b_law_thing, m_law_thing⟩ := T.d_law_thing
  have G_law_thing := ok_law_thing (P := P) (w := w) (base := base) F_law_thing T
  refine F.ok sc_law_room (fun vs H Q E h => ?_) (fun cdv A outer s H vs Q E hr h => ?_)
  · obtain ⟨f, c, m, rfl, _⟩ := h
    rfl
  obtain ⟨f, c, m, rfl, m1, m8, hF, q⟩ := h
  have hm9 : m.natAbs.log2 < 9000 := by
    obtain ⟨j, rfl⟩ : ∃ j : Nat, m = (j : Int) := ⟨m.toNat, by omega⟩
    exact log_small (by omega)
  let R1 : TS := fun D' σ' H' => D'.rt = Q ∧ ∃ (hh rk gv : Addr) (xs : List V) (hs : List HR) (is : List Int) (gs : List Nat), σ' = [some (.ref f), some (.int m), some (.ref hh), some (.ref rk), some (.ref gv), none, none, none, none, none, none] ∧ RI f c hh H H' xs hs ∧ HandsOk hs ∧ H' rk = some (.lst (is.map V.int)) ∧ is.length = hs.length ∧ H' gv = some (.lst (gs.map nV)) ∧ gs ≠ [] ∧ gs.length ≤ 12 ∧ (∀ k ∈ gs, ∃ h, hs[k]? = some h ∧ h.wd ≠ "out") ∧ rk ≠ f ∧ gv ≠ f
  let R2 : TS := fun D' σ' H' => D'.rt = Q ∧ ∃ (hh rk gv tk : Addr) (xs : List V) (hs : List HR) (is : List Int) (gs ts : List Nat) (v5 : Option V), σ' = [some (.ref f), some (.int m), some (.ref hh), some (.ref rk), some (.ref gv), v5, some (.ref tk), none, none, none, none] ∧ RI f c hh H H' xs hs ∧ HandsOk hs ∧ H' rk = some (.lst (is.map V.int)) ∧ is.length = hs.length ∧ H' gv = some (.lst (gs.map nV)) ∧ gs ≠ [] ∧ gs.length ≤ 12 ∧ (∀ k ∈ gs, ∃ h, hs[k]? = some h ∧ h.wd ≠ "out") ∧ rk ≠ f ∧ gv ≠ f ∧ tk ≠ f ∧ H' tk = some (.lst (ts.map nV)) ∧ ts = tkTo hs hs.length
  refine ⟨_, (pss_cons (ps_set (i := 2) sc_law_room.nd rfl (Or.inr rfl) (pe_call G_law_hands (hr.mono (by decide)) (by rfl) m_law_hands F_law_hands.kp b_law_hands .nil pass0 (pa_cons (pv 0) (pa_cons (pe_op op_add pe_int (pe_call G_law_pick (hr.mono (by decide)) (by rfl) m_law_pick F_law_pick.kp b_law_pick .nil pass0 (pa_cons (pv 0) (pa_cons (pv 1) pa_nil)))) pa_nil))))
      (pss_cons (ps_set (i := 3) sc_law_room.nd rfl (Or.inl rfl) (pe_call G_law_shuffled (hr.mono (by decide)) (by rfl) m_law_shuffled F_law_shuffled.kp b_law_shuffled .nil pass0 (pa_cons (pv 0) (pa_cons (pe_listRg rfl (by rfl) T.m_list (prg_1 (by rfl) T.m_range (pe_callB (call_len_seqK K rfl) (by rfl) T.m_len (by decide +kernel) (pa_cons (pv 2) pa_nil)))) pa_nil))))
      (pss_cons (ps_setLc (i := 4) (own := [("_law_k", 5)]) (g := gName 5) (by rfl) sc_law_room.nd rfl rfl (sw_true rfl rfl rfl (by decide +kernel)) (pi_range1 (by rfl) T.m_range (pa_cons (pe_callB (call_len_seqK K rfl) (by rfl) T.m_len (by decide +kernel) (pa_cons (pv 2) pa_nil)) pa_nil)) (blkOk_by (own := [("_law_k", 5)]) (N := N_law_room) (sc := defScope s_law_room) (by decide +kernel)) (fun _ _ _ _ _ => (pg_name (i := 5) sc_law_room.nd rfl (Or.inl rfl))) (fun _ _ _ _ _ => pts_one (pt_cmpR (op_neDK K rfl hr.units) (pe_ix (ix_tupK K rfl) (pe_ix (ix_listK K rfl) (pv 2) (pv 5) (fun _ _ => rfl)) pe_int (fun _ _ => rfl)) (pe_tup (pa_cons pe_str pa_nil)) (nomark _))) (fun _ _ _ _ _ => (pv 5)))
      (PSs.to (pss_cons (ps_set (i := 6) sc_law_room.nd rfl (Or.inl rfl) (pe_lst pa_nil))
      (pss_cons (ps_for PassesOwn.never rfl (pi_range1 (by rfl) T.m_range (pa_cons (pe_callB (call_len_seqK K rfl) (by rfl) T.m_len (by decide +kernel) (pa_cons (pv 2) pa_nil)) pa_nil)) (pg_name (i := 5) sc_law_room.nd rfl (Or.inl rfl))
        (pss_one (ps_set (i := 6) sc_law_room.nd rfl (Or.inl rfl) (pe_op op_cat (pv 6) (pe_op op_rep (pe_lst (pa_cons (pv 5) pa_nil)) (pe_call G_law_needs (hr.mono (by decide)) (by rfl) m_law_needs F_law_needs.kp b_law_needs .nil pass0 (pa_cons (pe_ix (ix_tupK K rfl) (pe_ix (ix_listK K rfl) (pv 2) (pv 5) (fun _ _ => rfl)) pe_int (fun _ _ => rfl)) pa_nil)))))))
      (PSs.to (pss_cons (ps_set (i := 7) sc_law_room.nd rfl (Or.inl rfl) (pe_lst pa_nil))
      (pss_cons (ps_for PassesOwn.never rfl (pi_listK K rfl (pe_call G_law_shuffled (hr.mono (by decide)) (by rfl) m_law_shuffled F_law_shuffled.kp b_law_shuffled .nil pass0 (pa_cons (pv 0) (pa_cons (pv 6) pa_nil)))) (pg_name (i := 8) sc_law_room.nd rfl (Or.inl rfl))
        (pss_cons (ps_set (i := 9) sc_law_room.nd rfl (Or.inl rfl) (pe_ix (ix_listK K rfl) (pv 4) (pe_call G_law_pick (hr.mono (by decide)) (by rfl) m_law_pick F_law_pick.kp b_law_pick .nil pass0 (pa_cons (pv 0) (pa_cons (pe_callB (call_len_seqK K rfl) (by rfl) T.m_len (by decide +kernel) (pa_cons (pv 4) pa_nil)) pa_nil))) (fun _ _ => rfl)))
      (pss_cons (ps_set (i := 10) sc_law_room.nd rfl (Or.inl rfl) (pe_ix (ix_listK K rfl) (pe_lst (pa_cons pe_int (pa_cons pe_int (pa_cons pe_int (pa_cons pe_int (pa_cons pe_int (pa_cons pe_int (pa_cons pe_int (pa_cons pe_int pa_nil))))))))) (pe_call G_law_pick (hr.mono (by decide)) (by rfl) m_law_pick F_law_pick.kp b_law_pick .nil pass0 (pa_cons (pv 0) (pa_cons pe_int pa_nil))) (fun _ _ => rfl)))
      (pss_cons (ps_if (pt_cmpR op_ge (pe_ix (ix_listK K rfl) (pv 3) (pv 9) (fun _ _ => rfl)) (pe_ix (ix_listK K rfl) (pv 3) (pv 8) (fun _ _ => rfl)) (nomark _)) (pss_one (ps_set (i := 10) sc_law_room.nd rfl (Or.inl rfl) (pe_callB (call_max2 rfl) (by rfl) T.m_max (by decide +kernel) (pa_cons pe_int (pa_cons (pv 10) pa_nil))))) pss_nil)
      (pss_one (ps_expr (pe_bmK K rfl PySem.F.plainAttrs_list PySem.F.slot_list_append PySem.F.type_list_append mt_append (pv 7) (pa_cons (pe_tup (pa_cons (pv 9) (pa_cons (pv 8) (pa_cons (pe_callTy (call_tuple_ofK K rfl) (by rfl) T.m_tuple (by decide +kernel) (pa_cons (pe_lc (own := [("_law_k", 5)]) (g := gName 5) (tt := tYes) (by rfl) sc_law_room.nd (pi_range1 (by rfl) T.m_range (pa_cons (pv 10) pa_nil)) (blkOk_by (own := [("_law_k", 5)]) (N := N_law_room) (sc := defScope s_law_room) (by decide +kernel)) (fun _ _ _ _ _ => (pg_name (i := 5) sc_law_room.nd rfl (Or.inl rfl))) (fun _ _ _ _ _ => pts_nil) (fun _ _ _ _ _ => (pe_call G_law_thing (hr.mono (by decide)) (by rfl) m_law_thing F_law_thing.kp b_law_thing .nil pass0 (pa_cons (pv 0) pa_nil)))) pa_nil)) pa_nil)))) pa_nil))))))))
      (pss_one (ps_ret (pe_tup (pa_cons (pe_callTy (call_tuple_ofK K rfl) (by rfl) T.m_tuple (by decide +kernel) (pa_cons (pv 2) pa_nil)) (pa_cons (pe_callTy (call_tuple_ofK K rfl) (by rfl) T.m_tuple (by decide +kernel) (pa_cons (pv 7) pa_nil)) pa_nil))))))) R2 ?tail2))) R1 ?tail1)))), ?_⟩
  case tail2 =>
    rintro D' σ' H1 ⟨eD, hh, rk, gv, tk, xs, hs, is, gs, ts, v5, rfl, I1, ok, hrk, lis, hgv, gne, glen, gok, nrk, ngv, ntk, htk, ets⟩
    have hx : xs.length = hs.length := I1.al.length
    have len12 := ok.len
    have lts : ts.length ≤ 20 := by
      have a := tk_len hs ok.nz hs.length (Nat.le_refl _)
      rw [List.take_length, ← ets] at a
      have := ok.sum
      omega
    refine ⟨(by show 0 ≤ sizeLine; decide), fun bl nbl => ?_⟩
    have I2 := I1.new (o := .lst []) nbl
    refine ⟨_, rfl, _, rfl, f, c, tk, _, rfl, SqL.of (same_new nbl _ _ htk), ntk, by rw [List.length_map]; omega, I2.fl, fun sh ys H3 hp nsh hsh F3 B3 => ?_⟩
    obtain ⟨tt, rfl, htt⟩ := perm_inv (f := nV) (g := unN) (fun n => by show ((n : Nat) : Int).toNat = n; omega) hp
    have I3 := I2.but F3 B3
    have bf : bl ≠ f := I1.fl.ne nbl
    have bc : bl ≠ c := I1.fl.nec nbl
    have hbl3 := B3 _ _ upd_same bf
    have bsh : bl ≠ sh := fun e => by rw [← e, upd_same] at nsh; cases nsh
    have bnone : H bl = Option.none := I1.bt.none nbl bf
    have rank : Nat → Int := fun k => is.getD k 0
    refine ⟨sh, rfl, ⟨_, SqL.of hsh⟩, for_list (K := K) (a := sh) (xs := tt.map nV) (fun i σ H4 => ∃ (bv : List V) (bs : List BR) (v5 v8 v9 v10 : Option V), σ = [some (.ref f), some (.int m), some (.ref hh), some (.ref rk), some (.ref gv), v5, some (.ref tk), some (.ref bl), v8, v9, v10] ∧ RI f c hh H H4 xs hs ∧ H4 rk = some (.lst (is.map V.int)) ∧ H4 gv = some (.lst (gs.map nV)) ∧ H4 sh = some (.lst (tt.map nV)) ∧ H4 bl = some (.lst bv) ∧ All2 (BeltAt H4) bv bs ∧ bs.map BR.to = tt.take i ∧
        (∀ b ∈ bs, b.one < hs.length ∧ (∀ h, hs[b.one]? = some h → h.wd ≠ "out") ∧ b.th.length ≤ 6 ∧ (∀ x ∈ b.th, Small x) ∧ (b.th = [] → is.getD b.one 0 < is.getD b.to 0)))
      ⟨[], [], v5, none, none, none, rfl, I3, B3 _ _ (same_new nbl _ _ hrk) nrk, B3 _ _ (same_new nbl _ _ hgv) ngv, hsh, hbl3, .nil, rfl, (fun _ h => nomatch h)⟩ (fun i σ H4 _ ⟨_, _, _, _, _, _, _, _, _, _, h, _⟩ => SqL.of h) ?_ ?_⟩
    · rintro i y σ H4 hi ⟨bv, bs, v5, v8, v9, v10, rfl, I4, hrk4, hgv4, hsh4, hbl4, al, em, hb⟩
      rw [List.getElem?_map] at hi
      cases et : tt[i]? with
      | none => rw [et] at hi; cases hi
      | some to =>
      rw [et] at hi
      obtain rfl : nV to = y := Option.some.inj hi
      have toL : to < hs.length := tk_mem hs _ _ (by rw [← ets]; exact htt.mem_iff.mp (List.mem_of_getElem? et))
      have il : i < 20 := by have := (List.getElem?_eq_some_iff.mp et).1; rw [htt.length_eq] at this; omega
      have lb : bs.length = i := by
        have := congrArg List.length em
        rw [List.length_map, List.length_take, Nat.min_eq_left (Nat.le_of_lt (List.getElem?_eq_some_iff.mp et).1)] at this
        exact this
      have g0 : 0 < gs.length := List.length_pos_iff.mpr gne
      refine ⟨_, rfl, _, rfl, _, rfl, gv, _, rfl, .inl (SqL.of hgv4), f, c, _, rfl, (by rw [List.length_map]; omega), (by rw [List.length_map]; exact log_small (by omega)), I4.fl, fun z H5 z0 z1 F5 B5 => ?_⟩
      rw [List.length_map] at z1
      have I5 := I4.but F5 B5
      have hgv5 := B5 _ _ hgv4 ngv
      obtain ⟨one, eo, ho⟩ : ∃ one, atI (gs.map nV) z = some (nV one) ∧ one ∈ gs := by
        have hk : z.toNat < gs.length := by omega
        have ek : z = ((z.toNat : Nat) : Int) := by omega
        refine ⟨gs[z.toNat], ?_, List.getElem_mem _⟩
        have q2 : atI (gs.map nV) ((z.toNat : Nat) : Int) = some (nV gs[z.toNat]) := atI_nat (by rw [List.getElem?_map, List.getElem?_eq_getElem hk]; rfl)
        rw [← ek] at q2
        exact q2
      obtain ⟨ho1, eh1, hout⟩ := gok one ho
      have oneL : one < hs.length := (List.getElem?_eq_some_iff.mp eh1).1
      refine ⟨gv, _, _, _, rfl, rfl, SqL.of hgv5, eo, ?_⟩
      refine ⟨(by show 8 ≤ sizeLine; decide), fun tl ntl => ?_⟩
      have I6 := I5.new (o := .lst [V.int 0, V.int 0, V.int 0, V.int 1, V.int 1, V.int 2, V.int 3, V.int 6]) ntl
      refine ⟨_, rfl, f, c, 8, rfl, by decide, by decide +kernel, I6.fl, fun y2 H7 y0 y8 F7 B7 => ?_⟩
      have I7 := I6.but F7 B7
      have htl := B7 _ _ upd_same (I5.fl.ne ntl)
      obtain ⟨tr, htr, tr0, tr6⟩ : ∃ tr : Int, atI [V.int 0, V.int 0, V.int 0, V.int 1, V.int 1, V.int 2, V.int 3, V.int 6] y2 = some (.int tr) ∧ 0 ≤ tr ∧ tr ≤ 6 := by
        have : y2 = 0 ∨ y2 = 1 ∨ y2 = 2 ∨ y2 = 3 ∨ y2 = 4 ∨ y2 = 5 ∨ y2 = 6 ∨ y2 = 7 := by omega
        rcases this with rfl | rfl | rfl | rfl | rfl | rfl | rfl | rfl
        · exact ⟨0, rfl, by decide, by decide⟩
        · exact ⟨0, rfl, by decide, by decide⟩
        · exact ⟨0, rfl, by decide, by decide⟩
        · exact ⟨1, rfl, by decide, by decide⟩
        · exact ⟨1, rfl, by decide, by decide⟩
        · exact ⟨2, rfl, by decide, by decide⟩
        · exact ⟨3, rfl, by decide, by decide⟩
        · exact ⟨6, rfl, by decide, by decide⟩
      refine ⟨tl, _, _, _, rfl, rfl, SqL.of htl, htr, ?_⟩
      have k7 : But f H4 H7 := (B5.new ntl).trans B7
      have hrk7 := k7 _ _ hrk4 nrk
      have hgv7 := k7 _ _ hgv4 ngv
      have shf : sh ≠ f := fun e => by rw [e] at nsh; obtain ⟨_, _, _, _, _, e1, _⟩ := I2.fl; rw [e1] at nsh; cases nsh
      have hsh7 := k7 _ _ hsh4 shf
      have hbl7 := k7 _ _ hbl4 bf
      have tk7 : TK H4 H7 := (TK.but I4.fl B5).trans ((TK.new ntl).trans (TK.but I6.fl B7))
      have al7 : All2 (BeltAt H7) bv bs := al.imp fun _ _ z => z.keep tk7
      have r1 : (is.map V.int)[one]? = some (.int (is.getD one 0)) := by
        rw [List.getElem?_map, List.getD_eq_getElem?_getD, List.getElem?_eq_getElem (by omega)]; rfl
      have r2 : (is.map V.int)[to]? = some (.int (is.getD to 0)) := by
        rw [List.getElem?_map, List.getD_eq_getElem?_getD, List.getElem?_eq_getElem (by omega)]; rfl
      have bvl : bv.length = i := by rw [al.length, lb]
      -- the end of a turn, with so many trays
      refine ⟨_, rfl, _, rfl, rk, _, _, _, rfl, rfl, SqL.of hrk7, atI_nat r1, _, rfl, _, rfl, rk, _, _, _, rfl, rfl, SqL.of hrk7, atI_nat r2, _, _, rfl, rfl, _, rfl, if_bl (fun kk => ?_) (fun kk => ?_)⟩
      · refine ⟨_, rfl, _, _, rfl, ?_⟩
        generalize ht : (if tr > 1 then tr else 1) = tn
        have tn0 : 0 ≤ tn := by rw [← ht]; split <;> omega
        have tn6 : tn ≤ 6 := by rw [← ht]; split <;> omega
        have ttt : tn.toNat = 0 → is.getD one 0 < is.getD to 0 := fun e => by
          exfalso
          have : 1 ≤ tn := by rw [← ht]; split <;> omega
          omega
        refine ⟨_, rfl, .inl ⟨rfl, _, SqL.of hbl7⟩, _, rfl, _, rfl, _, rfl, _, rfl, by omega, by omega, fun D nD => lc_range (lo := 0) (n := tn.toNat) (fun j H8 => ∃ vs : List Int, vs.length = j ∧ H8 D = some (.lst (vs.map V.int)) ∧ (∀ x ∈ vs, Small x) ∧ RI f c hh H H8 xs hs ∧ But f H7 H8 ∧ TK H7 H8 ∧ D ≠ f ∧ D ≠ c ∧ D ≠ hh ∧ H D = Option.none ∧ H7 D = Option.none)
          ⟨[], rfl, upd_same, (fun _ h => nomatch h), I7.new nD, But.refl.new nD, TK.new nD, I7.fl.ne nD, I7.fl.nec nD, (ne_of_none I7.lh nD).symm, I7.bt.none nD (I7.fl.ne nD), nD⟩ ?_ ?_⟩
        · rintro j H8 hj ⟨vs, lv, hD, sm, I8, b8, t8, d1, d2, d3, d4, d5⟩
          refine ⟨rfl, yes_in ⟨_, rfl, f, c, rfl, I8.fl, fun x H9 sx F9 B9 => ⟨_, B9 _ _ hD d1, ?_, vs ++ [x], by rw [List.length_append, lv]; rfl, ?_, ?_, (I8.but F9 B9).lst (B9 _ _ hD d1) d1 d2 d3 d4, (b8.trans B9).own d5, (t8.trans (TK.but I8.fl B9)).trans (TK.lst (B9 _ _ hD d1)), d1, d2, d3, d4, d5⟩⟩⟩
          · rw [List.length_map, lv]; exact small1000 (by omega)
          · rw [upd_same, List.map_append]; rfl
          · intro y hy
            rcases List.mem_append.mp hy with hy | hy
            · exact sm y hy
            · obtain rfl : y = x := by simpa using hy
              exact sx
        · rintro H8 ⟨vs, lv, hD, sm, I8, b8, t8, d1, d2, d3, d4, d5⟩
          refine ⟨D, _, rfl, .inl ⟨SqL.of hD, fun g ng => ⟨(by show 3 ≤ sizeLine; decide), fun t nt => ?_⟩⟩⟩
          have I9 := (I8.new (o := .tup (vs.map V.int)) ng).new (o := .tup [nV one, nV to, V.ref g]) nt
          have hbl8 := same_new (o := .tup [nV one, nV to, V.ref g]) nt _ _ (same_new (o := .tup (vs.map V.int)) ng _ _ (b8 _ _ hbl7 bf))
          have t9 : TK H7 (upd (upd H8 g (.tup (vs.map V.int))) t (.tup [nV one, nV to, V.ref g])) := (t8.trans (TK.new ng)).trans (TK.new nt)
          have s9 : ∀ b o, H7 b = some o → b ≠ f → (upd (upd H8 g (.tup (vs.map V.int))) t (.tup [nV one, nV to, V.ref g])) b = some o := fun b o e n => same_new nt _ _ (same_new ng _ _ (b8 _ _ e n))
          have bh : bl ≠ hh := fun e => by
            have h1 := I1.lh
            rw [← e, nbl] at h1
            cases h1
          have brk : bl ≠ rk := fun e => by
            have h1 := hrk
            rw [← e, nbl] at h1
            cases h1
          have bgv : bl ≠ gv := fun e => by
            have h1 := hgv
            rw [← e, nbl] at h1
            cases h1
          refine ⟨bl, _, _, rfl, rfl, hbl8, small1000 (by rw [bvl]; omega), ?_⟩
          refine ⟨bv ++ [V.ref t], bs ++ [⟨one, to, vs⟩], _, _, _, _, rfl, I9.lst hbl8 bf bc bh bnone, ?_, ?_, ?_, upd_same, ?_, ?_, ?_⟩
          · rw [upd_ne brk.symm]; exact s9 _ _ hrk7 nrk
          · rw [upd_ne bgv.symm]; exact s9 _ _ hgv7 ngv
          · rw [upd_ne bsh.symm]; exact s9 _ _ hsh7 shf
          · exact ((al7.imp fun _ _ z => z.keep t9).snoc ⟨t, g, rfl, upd_same, same_new nt _ _ upd_same⟩).imp fun _ _ z => z.keep (TK.lst hbl8)
          · rw [List.map_append, em, List.take_add_one, et]; rfl
          · intro b hb2
            rcases List.mem_append.mp hb2 with hb2 | hb2
            · exact hb b hb2
            · obtain rfl : b = ⟨one, to, vs⟩ := by simpa using hb2
              refine ⟨oneL, fun h e => ?_, by show vs.length ≤ 6; omega, sm, fun e => ?_⟩
              · have e : hs[one]? = some h := e
                rw [eh1] at e
                cases e
                exact hout
              · have e : vs = [] := e
                rw [e] at lv
                exact ttt (by simpa using lv.symm)
      · obtain ⟨tn, ht⟩ : ∃ tn, tn = tr := ⟨_, rfl⟩
        rw [← ht]
        have tn0 : 0 ≤ tn := by omega
        have tn6 : tn ≤ 6 := by omega
        have ttt : tn.toNat = 0 → is.getD one 0 < is.getD to 0 := fun _ => by
          have : ¬ is.getD to 0 ≤ is.getD one 0 := of_decide_eq_false kk
          omega
        refine ⟨_, rfl, .inl ⟨rfl, _, SqL.of hbl7⟩, _, rfl, _, rfl, _, rfl, _, rfl, by omega, by omega, fun D nD => lc_range (lo := 0) (n := tn.toNat) (fun j H8 => ∃ vs : List Int, vs.length = j ∧ H8 D = some (.lst (vs.map V.int)) ∧ (∀ x ∈ vs, Small x) ∧ RI f c hh H H8 xs hs ∧ But f H7 H8 ∧ TK H7 H8 ∧ D ≠ f ∧ D ≠ c ∧ D ≠ hh ∧ H D = Option.none ∧ H7 D = Option.none)
          ⟨[], rfl, upd_same, (fun _ h => nomatch h), I7.new nD, But.refl.new nD, TK.new nD, I7.fl.ne nD, I7.fl.nec nD, (ne_of_none I7.lh nD).symm, I7.bt.none nD (I7.fl.ne nD), nD⟩ ?_ ?_⟩
        · rintro j H8 hj ⟨vs, lv, hD, sm, I8, b8, t8, d1, d2, d3, d4, d5⟩
          refine ⟨rfl, yes_in ⟨_, rfl, f, c, rfl, I8.fl, fun x H9 sx F9 B9 => ⟨_, B9 _ _ hD d1, ?_, vs ++ [x], by rw [List.length_append, lv]; rfl, ?_, ?_, (I8.but F9 B9).lst (B9 _ _ hD d1) d1 d2 d3 d4, (b8.trans B9).own d5, (t8.trans (TK.but I8.fl B9)).trans (TK.lst (B9 _ _ hD d1)), d1, d2, d3, d4, d5⟩⟩⟩
          · rw [List.length_map, lv]; exact small1000 (by omega)
          · rw [upd_same, List.map_append]; rfl
          · intro y hy
            rcases List.mem_append.mp hy with hy | hy
            · exact sm y hy
            · obtain rfl : y = x := by simpa using hy
              exact sx
        · rintro H8 ⟨vs, lv, hD, sm, I8, b8, t8, d1, d2, d3, d4, d5⟩
          refine ⟨D, _, rfl, .inl ⟨SqL.of hD, fun g ng => ⟨(by show 3 ≤ sizeLine; decide), fun t nt => ?_⟩⟩⟩
          have I9 := (I8.new (o := .tup (vs.map V.int)) ng).new (o := .tup [nV one, nV to, V.ref g]) nt
          have hbl8 := same_new (o := .tup [nV one, nV to, V.ref g]) nt _ _ (same_new (o := .tup (vs.map V.int)) ng _ _ (b8 _ _ hbl7 bf))
          have t9 : TK H7 (upd (upd H8 g (.tup (vs.map V.int))) t (.tup [nV one, nV to, V.ref g])) := (t8.trans (TK.new ng)).trans (TK.new nt)
          have s9 : ∀ b o, H7 b = some o → b ≠ f → (upd (upd H8 g (.tup (vs.map V.int))) t (.tup [nV one, nV to, V.ref g])) b = some o := fun b o e n => same_new nt _ _ (same_new ng _ _ (b8 _ _ e n))
          have bh : bl ≠ hh := fun e => by
            have h1 := I1.lh
            rw [← e, nbl] at h1
            cases h1
          have brk : bl ≠ rk := fun e => by
            have h1 := hrk
            rw [← e, nbl] at h1
            cases h1
          have bgv : bl ≠ gv := fun e => by
            have h1 := hgv
            rw [← e, nbl] at h1
            cases h1
          refine ⟨bl, _, _, rfl, rfl, hbl8, small1000 (by rw [bvl]; omega), ?_⟩
          refine ⟨bv ++ [V.ref t], bs ++ [⟨one, to, vs⟩], _, _, _, _, rfl, I9.lst hbl8 bf bc bh bnone, ?_, ?_, ?_, upd_same, ?_, ?_, ?_⟩
          · rw [upd_ne brk.symm]; exact s9 _ _ hrk7 nrk
          · rw [upd_ne bgv.symm]; exact s9 _ _ hgv7 ngv
          · rw [upd_ne bsh.symm]; exact s9 _ _ hsh7 shf
          · exact ((al7.imp fun _ _ z => z.keep t9).snoc ⟨t, g, rfl, upd_same, same_new nt _ _ upd_same⟩).imp fun _ _ z => z.keep (TK.lst hbl8)
          · rw [List.map_append, em, List.take_add_one, et]; rfl
          · intro b hb2
            rcases List.mem_append.mp hb2 with hb2 | hb2
            · exact hb b hb2
            · obtain rfl : b = ⟨one, to, vs⟩ := by simpa using hb2
              refine ⟨oneL, fun h e => ?_, by show vs.length ≤ 6; omega, sm, fun e => ?_⟩
              · have e : hs[one]? = some h := e
                rw [eh1] at e
                cases e
                exact hout
              · have e : vs = [] := e
                rw [e] at lv
                exact ttt (by simpa using lv.symm)
    · rintro σ H4 ⟨bv, bs, v5, v8, v9, v10, rfl, I4, hrk4, hgv4, hsh4, hbl4, al, em, hb⟩
      rw [List.length_map, List.take_length] at em
      have lb : bs.length = ts.length := by
        have := congrArg List.length em
        rw [List.length_map] at this
        rw [this, htt.length_eq]
      refine ⟨_, rfl, hh, _, rfl, .inl ⟨SqL.of I4.lh, fun a1 na1 => ⟨_, rfl, bl, _, rfl, .inl ⟨SqL.of (same_new na1 _ _ hbl4), fun a2 na2 => ⟨(by show 2 ≤ sizeLine; decide), fun a3 na3 => ?_⟩⟩⟩⟩⟩
      rw [eD]
      have k1 : TK H4 (upd (upd (upd H4 a1 (.tup xs)) a2 (.tup bv)) a3 (.tup [V.ref a1, V.ref a2])) := ((TK.new na1).trans (TK.new na2)).trans (TK.new na3)
      refine q a3 hs bs _ ⟨a1, a2, xs, bv, upd_same, same_new na3 _ _ (same_new na2 _ _ upd_same), same_new na3 _ _ upd_same, I4.al.imp fun _ _ z => z.keep k1, al.imp fun _ _ z => z.keep k1⟩ ⟨ok.len, ok.good, fun b hb2 => ⟨(hb b hb2).1, ?_⟩, fun b hb2 => (hb b hb2).2.1, fun b hb2 => ⟨(hb b hb2).2.2.1, fun x hx => by have := (hb b hb2).2.2.2.1 x hx; unfold Small at this; omega⟩, ⟨fun k => is.getD k 0, fun b hb2 => (hb b hb2).2.2.2.2⟩, fun k h hk => ?_, by omega⟩ (by obtain ⟨h1, hm1, _⟩ := ok.one; exact List.length_pos_of_mem hm1) (((I4.fl.new na1).new na2).new na3) (((I4.bt.new na1).new na2).new na3)
      · have : b.to ∈ bs.map BR.to := List.mem_map.mpr ⟨b, hb2, rfl⟩
        rw [em] at this
        exact tk_mem hs _ _ (by rw [← ets]; exact htt.mem_iff.mp this)
      · rw [em, htt.count_eq, ets, tk_count, if_pos (List.getElem?_eq_some_iff.mp hk).1]
        unfold nd
        rw [hk]
        have := ok.nz h (List.mem_of_getElem? hk)
        show (((needs h.wd).toNat : Nat) : Int) = needs h.wd
        omega
  case tail1 =>
    rintro D' σ' H1 ⟨eD, hh, rk, gv, xs, hs, is, gs, rfl, I1, ok, hrk, lis, hgv, gne, glen, gok, nrk, ngv⟩
    refine ⟨(by show 0 ≤ sizeLine; decide), fun tk ntk => ?_⟩
    have I2 := I1.new (o := .lst []) ntk
    have hx : xs.length = hs.length := I1.al.length
    refine ⟨_, rfl, hh, _, rfl, .inl (SqL.of I2.lh), _, rfl, by omega, (by rw [hx]; have := ok.len; omega), for_range (lo := 0) (n := xs.length) (fun i σ H2 => ∃ (tk : Addr) (v5 : Option V), σ = [some (.ref f), some (.int m), some (.ref hh), some (.ref rk), some (.ref gv), v5, some (.ref tk), none, none, none, none] ∧ RI f c hh H H2 xs hs ∧ H2 rk = some (.lst (is.map V.int)) ∧ H2 gv = some (.lst (gs.map nV)) ∧ tk ≠ f ∧ H2 tk = some (.lst ((tkTo hs i).map nV)))
      ⟨tk, none, rfl, I2, same_new ntk _ _ hrk, same_new ntk _ _ hgv, I1.fl.ne ntk, upd_same⟩ ?_ ?_⟩
    · rintro i σ H2 hi ⟨tk, v5, rfl, I3, hrk3, hgv3, tf, htk⟩
      have eh : hs[i]? = some hs[i] := List.getElem?_eq_getElem (by omega)
      obtain ⟨x, ex, ⟨t, r, rfl, e1, e2⟩⟩ := I3.al.get eh
      have z0 := ok.nz _ (List.mem_of_getElem? eh)
      have zs : needs hs[i].wd ≤ 3 := by
        unfold needs
        split
        · decide
        · split
          · decide
          · split <;> decide
      have sz : (tkTo hs i).length ≤ 20 := by
        have a := tk_len hs ok.nz i (by omega)
        have b : ((hs.take i).map fun h => needs h.wd).sum ≤ (hs.map fun h => needs h.wd).sum := by
          have e : hs.map (fun h => needs h.wd) = (hs.take i).map (fun h => needs h.wd) ++ (hs.drop i).map (fun h => needs h.wd) := by rw [← List.map_append, List.take_append_drop]
          rw [e, List.sum_append]
          have : 0 ≤ ((hs.drop i).map fun h => needs h.wd).sum := by
            have hz : ∀ h ∈ hs.drop i, 0 ≤ needs h.wd := fun h hh => ok.nz h (List.mem_of_mem_drop hh)
            revert hz
            generalize hs.drop i = l
            intro hz
            induction l with
            | nil => decide
            | cons a l ih =>
              have := hz a (List.mem_cons_self ..)
              have := ih fun h hh => hz h (List.mem_cons_of_mem _ hh)
              rw [List.map_cons, List.sum_cons]
              omega
          omega
        have := ok.sum
        omega
      refine ⟨_, rfl, _, rfl, (by show 1 ≤ sizeLine; decide), fun l1 nl1 => ?_⟩
      have I4 := I3.new (o := .lst [V.int (0 + ((i : Nat) : Int))]) nl1
      refine ⟨_, rfl, _, rfl, hh, _, _, _, rfl, rfl, SqL.of I4.lh, at0 ex, t, _, _, _, rfl, rfl, SqT.of (same_new nl1 _ _ e1), atI_nat (j := 0) rfl, r, hs[i].wd, _, rfl, SqT.of (same_new nl1 _ _ e2), fun H5 s5 => ?_⟩
      have I5 := I4.same s5
      have g1 := s5 _ _ upd_same
      have g2 := s5 _ _ (same_new nl1 _ _ htk)
      refine ⟨l1, _, _, rfl, rfl, g1, by omega, by omega, little (by show 1 * (needs hs[i].wd).toNat ≤ 1000; omega), fun l2 nl2 => ?_⟩
      rw [flat_rep]
      have I6 := I5.new (o := .lst (List.replicate (needs hs[i].wd).toNat (V.int (0 + ((i : Nat) : Int))))) nl2
      refine ⟨tk, l2, _, _, rfl, rfl, same_new nl2 _ _ g2, upd_same, ?_, fun l3 nl3 => ?_⟩
      · rw [List.length_map, List.length_replicate]; exact little (by omega)
      refine ⟨l3, _, rfl, I6.new nl3, same_new nl3 _ _ (same_new nl2 _ _ (s5 _ _ (same_new nl1 _ _ hrk3))), same_new nl3 _ _ (same_new nl2 _ _ (s5 _ _ (same_new nl1 _ _ hgv3))), I6.fl.ne nl3, ?_⟩
      rw [upd_same]
      have e : nd hs i = (needs hs[i].wd).toNat := by unfold nd; rw [eh]
      rw [show tkTo hs (i + 1) = tkTo hs i ++ List.replicate (nd hs i) i from rfl, List.map_append, List.map_replicate, e, Int.zero_add]
    · rintro σ H2 ⟨tk, v5, rfl, I3, hrk3, hgv3, tf, htk⟩
      exact ⟨eD, hh, rk, gv, tk, xs, hs, is, gs, _, v5, rfl, I3, ok, hrk3, lis, hgv3, gne, glen, gok, nrk, ngv, tf, htk, by rw [hx]⟩
  refine ⟨_, rfl, _, rfl, _, rfl, f, c, m, rfl, by omega, hm9, hF, fun v1 H1 a1 b1 F1 B1 => ?_⟩
  refine ⟨_, _, rfl, rfl, f, c, _, rfl, by omega, by omega, F1, fun hh xs hs H2 nhh hhh al ok F2 B2 => ?_⟩
  have hx : xs.length = hs.length := al.length
  have len12 := ok.len
  have nf : hh ≠ f := F1.ne nhh
  have I2 : RI f c hh H H2 xs hs := ⟨F2, B1.trans B2, hhh, al, nf, B1.none nhh nf⟩
  -- ranks
  refine ⟨_, rfl, _, rfl, hh, _, rfl, .inl (SqL.of I2.lh), _, rfl, ⟨by omega, by omega, by omega, by omega, by omega⟩, fun rg nrg => ?_⟩
  have I3 := I2.new (o := .lst (rgV 0 ((xs.length : Nat) : Int))) nrg
  refine ⟨f, c, rg, _, rfl, SqL.of upd_same, I2.fl.ne nrg, ?_, I3.fl, fun rk ys H4 hp nrk hrk F4 B4 => ?_⟩
  · rw [rgV_length]; omega
  have erg : rgV 0 ((xs.length : Nat) : Int) = ((List.range xs.length).map fun i => ((i : Nat) : Int)).map V.int := by
    unfold rgV
    rw [List.map_map, show (((xs.length : Nat) : Int) - 0).toNat = xs.length by omega]
    refine List.map_congr_left fun i _ => ?_
    show V.int (0 + ((i : Nat) : Int)) = V.int ((i : Nat) : Int)
    rw [Int.zero_add]
  rw [erg] at hp
  obtain ⟨is, rfl, his⟩ := perm_inv (f := V.int) (g := unI) (fun _ => rfl) hp
  have lis : is.length = hs.length := by rw [his.length_eq, List.length_map, List.length_range, hx]
  have I4 := I3.but F4 B4
  have rkf : rk ≠ f := I3.fl.ne nrk
  -- givers
  refine ⟨_, rfl, hh, _, rfl, .inl (SqL.of I4.lh), _, rfl, by omega, by omega, fun D nD => lc_range (lo := 0) (n := xs.length) (fun i H5 => ∃ gs : List Nat, H5 D = some (.lst (gs.map nV)) ∧ gs.length ≤ i ∧ RI f c hh H H5 xs hs ∧ H5 rk = some (.lst (is.map V.int)) ∧ (∀ k ∈ gs, ∃ h, hs[k]? = some h ∧ h.wd ≠ "out") ∧ (∀ k h, k < i → hs[k]? = some h → h.wd ≠ "out" → gs ≠ []) ∧ D ≠ f ∧ D ≠ c ∧ D ≠ hh ∧ D ≠ rk ∧ H D = Option.none)
    ⟨[], upd_same, Nat.le_refl _, I4.new nD, same_new nD _ _ hrk, (fun _ h => nomatch h), (fun k h hk => absurd hk (Nat.not_lt_zero _)), I4.fl.ne nD, I4.fl.nec nD, (ne_of_none I4.lh nD).symm, (ne_of_none hrk nD).symm, I4.bt.none nD (I4.fl.ne nD)⟩ ?_ ?_⟩
  · rintro i H5 hi ⟨gs, hD, lg, I5, hrk5, g1, g2, d1, d2, d3, d4, d5⟩
    have eh : hs[i]? = some hs[i] := List.getElem?_eq_getElem (by omega)
    obtain ⟨x, ex, ⟨t, r, rfl, e1, e2⟩⟩ := I5.al.get eh
    have gh := ok.good _ (List.mem_of_getElem? eh)
    refine ⟨rfl, _, rfl, _, rfl, hh, _, _, _, rfl, rfl, SqL.of I5.lh, at0 ex, t, _, _, _, rfl, rfl, SqT.of e1, atI_nat (j := 0) rfl, (by show 1 ≤ sizeLine; decide), fun o1 no1 => ?_⟩
    have I6 := I5.new (o := .tup [V.str "out"]) no1
    have hD6 : (upd H5 o1 (.tup [V.str "out"])) D = some (.lst (gs.map nV)) := same_new no1 _ _ hD
    refine ⟨_, _, rule_dp (same_new no1 _ _ e2), .tup (SqT.of upd_same) (.cons (.str _) .nil), rule_shaped gh.lay, one_shaped (by decide +kernel), _, rfl, ?_⟩
    rw [rule_eqv, gh.door "out" (.inr rfl)]
    by_cases k : hs[i].wd = "out"
    · rw [decide_eq_true k]
      refine if_bl (fun z => absurd z (by decide)) (fun _ => ⟨gs, hD6, by omega, I6, same_new no1 _ _ hrk5, g1, fun k' h' hk hk2 hk3 => ?_, d1, d2, d3, d4, d5⟩)
      by_cases y : k' = i
      · subst y
        rw [eh] at hk2
        cases hk2
        exact absurd k hk3
      · exact g2 k' h' (by omega) hk2 hk3
    · rw [decide_eq_false k]
      refine if_bl (fun _ => ⟨_, rfl, _, hD6, ?_, gs ++ [i], ?_, ?_, I6.lst hD6 d1 d2 d3 d5, ?_, ?_, fun _ _ _ _ _ z => by simp at z, d1, d2, d3, d4, d5⟩) (fun z => absurd z (by decide))
      · rw [List.length_map]; exact small1000 (by omega)
      · rw [upd_same, List.map_append, Int.zero_add]; rfl
      · rw [List.length_append]; show gs.length + 1 ≤ i + 1; omega
      · rw [upd_ne d4.symm]; exact same_new no1 _ _ hrk5
      · intro k' hk
        rcases List.mem_append.mp hk with hk | hk
        · exact g1 k' hk
        · obtain rfl : k' = i := by simpa using hk
          exact ⟨_, eh, k⟩
  · rintro H5 ⟨gs, hD, lg, I5, hrk5, g1, g2, d1, d2, d3, d4, d5⟩
    obtain ⟨h1, hm1, hm2⟩ := ok.one
    obtain ⟨k1, hk1⟩ := List.getElem?_of_mem hm1
    have k1l := (List.getElem?_eq_some_iff.mp hk1).1
    exact ⟨rfl, hh, rk, D, xs, hs, is, gs, rfl, I5, ok, hrk5, lis, hD, g2 k1 h1 (by omega) hk1 hm2, by omega, g1, rkf, d1⟩
end
/-! ### the order of work -/
/-- the belts without trays, their ends -/
def looseOf (bs : List BR) : List (Nat × Nat) := (bs.filter fun b => b.th.isEmpty).map fun b => (b.one, b.to)
def free (ls : List (Nat × Nat)) (left : List Nat) (k : Nat) : Prop := ∀ p ∈ ls, p.2 = k → p.1 ∉ left
/-- each stands as soon as it can -/
inductive Soon (ls : List (Nat × Nat)) : List Nat → List Nat → Prop
  | nil : Soon ls [] []
  | cons {left ord : List Nat} {k : Nat} : k ∈ left → free ls left k → (∀ j ∈ left, free ls left j → k ≤ j) → Soon ls (left.erase k) ord → Soon ls left (k :: ord)
def cN (p : Nat × Nat → Bool) (l : List (Nat × Nat)) : Int := ((l.filter p).length : Nat)
theorem cN_snoc (p : Nat × Nat → Bool) (l : List (Nat × Nat)) (x : Nat × Nat) : cN p (l ++ [x]) = cN p l + (if p x = true then 1 else 0) := by
  unfold cN
  rw [List.filter_append, List.length_append]
  cases h : p x <;> simp [h]
theorem cN_zero {p : Nat × Nat → Bool} {l : List (Nat × Nat)} : cN p l = 0 ↔ ∀ x ∈ l, p x = false := by
  unfold cN
  constructor
  · intro h x hx
    have e : (l.filter p).length = 0 := by omega
    have e2 := List.eq_nil_of_length_eq_zero e
    cases k : p x with
    | false => rfl
    | true =>
      have : x ∈ l.filter p := List.mem_filter.mpr ⟨hx, k⟩
      rw [e2] at this
      cases this
  · intro h
    have e : l.filter p = [] := List.filter_eq_nil_iff.mpr fun x hx => by rw [h x hx]; decide
    rw [e]
    rfl
abbrev owing (left : List Nat) (k : Nat) : Nat × Nat → Bool := fun p => decide (p.2 = k) && decide (p.1 ∈ left)
theorem owing_free {ls : List (Nat × Nat)} {left : List Nat} {k : Nat} : cN (owing left k) ls = 0 ↔ free ls left k := by
  rw [cN_zero]
  constructor
  · intro h p hp e1 e2
    have := h p hp
    have this : (decide (p.2 = k) && decide (p.1 ∈ left)) = false := this
    rw [decide_eq_true e1, decide_eq_true e2] at this
    cases this
  · intro h p hp
    show (decide (p.2 = k) && decide (p.1 ∈ left)) = false
    by_cases e1 : p.2 = k
    · rw [decide_eq_false (h p hp e1), Bool.and_false]
    · rw [decide_eq_false e1, Bool.false_and]
theorem cN_erase {ls : List (Nat × Nat)} {left : List Nat} {k r : Nat} (nd : left.Nodup) (hr : r ∈ left) : cN (owing left k) ls - cN (fun p => decide (p.1 = r) && decide (p.2 = k)) ls = cN (owing (left.erase r) k) ls := by
  induction ls with
  | nil => rfl
  | cons x l ih =>
    have e : ∀ q : Nat × Nat → Bool, cN q (x :: l) = (if q x = true then 1 else 0) + cN q l := fun q => by
      unfold cN
      rw [List.filter_cons]
      cases h : q x <;> simp [h] <;> omega
    have h1 : x.1 ∈ left.erase r ↔ x.1 ≠ r ∧ x.1 ∈ left := nd.mem_erase_iff
    have key : (if owing left k x = true then (1 : Int) else 0) - (if (decide (x.1 = r) && decide (x.2 = k)) = true then 1 else 0) = (if owing (left.erase r) k x = true then 1 else 0) := by
      by_cases a : x.2 = k
      · by_cases b : x.1 = r
        · have d : ¬ r ∈ left.erase r := fun z => (nd.mem_erase_iff.mp z).1 rfl
          simp [owing, a, b, hr, d]
        · by_cases c : x.1 ∈ left
          · have d : x.1 ∈ left.erase r := h1.mpr ⟨b, c⟩
            simp [owing, a, b, c, d]
          · have d : ¬ x.1 ∈ left.erase r := fun z => c (h1.mp z).2
            simp [owing, a, b, c, d]
      · simp [owing, a]
    rw [e, e, e, ← ih]
    omega
/-- some hand is free, where the belts without trays go up -/
theorem some_free {ls : List (Nat × Nat)} {rk : Nat → Int} (hr : ∀ p ∈ ls, rk p.1 < rk p.2) : ∀ {left : List Nat}, left ≠ [] → ∃ k ∈ left, free ls left k := by
  have low : ∀ left : List Nat, left ≠ [] → ∃ k ∈ left, ∀ j ∈ left, rk k ≤ rk j := by
    intro left
    induction left with
    | nil => intro h; exact absurd rfl h
    | cons a l ih =>
      intro _
      cases l with
      | nil => exact ⟨a, by simp, fun j hj => by have : j = a := by simpa using hj
                                                 rw [this]; exact Int.le_refl _⟩
      | cons b l =>
        obtain ⟨k, hk, h⟩ := ih (by simp)
        by_cases c : rk a ≤ rk k
        · exact ⟨a, by simp, fun j hj => by
            rcases List.mem_cons.mp hj with e | e
            · rw [e]; exact Int.le_refl _
            · exact Int.le_trans c (h j e)⟩
        · exact ⟨k, List.mem_cons_of_mem _ hk, fun j hj => by
            rcases List.mem_cons.mp hj with e | e
            · rw [e]; omega
            · exact h j e⟩
  intro left hl
  obtain ⟨k, hk, h⟩ := low left hl
  refine ⟨k, hk, fun p hp e hm => ?_⟩
  have h1 := h _ hm
  have h2 := hr p hp
  rw [e] at h2
  omega
theorem erase_map {α β : Type} (f : α → β) : ∀ (l : List α) (j : Nat), (l.map f).eraseIdx j = (l.eraseIdx j).map f
  | [], _ => rfl
  | _ :: _, 0 => rfl
  | a :: l, j + 1 => congrArg (f a :: ·) (erase_map f l j)
abbrev fL (n : Nat) (F : Nat → Int) : List V := (List.range n).map fun k => V.int (F k)
theorem fL_get {n k : Nat} {F : Nat → Int} (h : k < n) : (fL n F)[k]? = some (.int (F k)) := by
  rw [List.getElem?_map, List.getElem?_range h]; rfl
theorem fL_set {n k : Nat} {F : Nat → Int} {z : Int} : (fL n F).set k (.int z) = fL n fun j => if j = k then z else F j := by
  apply List.ext_getElem?
  intro i
  rw [List.getElem?_set]
  by_cases h : i < n
  · rw [fL_get h, fL_get h]
    by_cases e : k = i
    · subst e
      rw [if_pos rfl, if_pos rfl, if_pos (by rw [List.length_map, List.length_range]; exact h)]
    · rw [if_neg e, if_neg (fun z => e z.symm)]
  · have h1 : (fL n F)[i]? = none := List.getElem?_eq_none (by rw [List.length_map, List.length_range]; omega)
    have h2 : (fL n fun j => if j = k then z else F j)[i]? = none := List.getElem?_eq_none (by rw [List.length_map, List.length_range]; omega)
    rw [h1, h2]
    by_cases e : k = i
    · rw [if_pos e, if_neg (by rw [List.length_map, List.length_range]; omega)]
    · rw [if_neg e]
def PairAt (H : Hp) (v : V) (p : Nat × Nat) : Prop := ∃ t : Addr, v = .ref t ∧ H t = some (.tup [nV p.1, nV p.2])
theorem PairAt.keep {H H' : Hp} {v : V} {p : Nat × Nat} (a : PairAt H v p) (k : TK H H') : PairAt H' v p := by
  obtain ⟨t, e, h⟩ := a
  exact ⟨t, e, k _ _ h⟩
section
variable {P : Program} {w : World} {K : PySem.W.Frag} {mg : Str → Option Value} {base : Heap}
def sp_work_order (K : PySem.W.Frag) : Sp := fun vs H Q _ => ∃ (r : Addr) (hs : List HR) (bs : List BR) (rk : Nat → Int), vs = [.ref r] ∧ RoomAt H r hs bs ∧ hs.length ≤ 400 ∧ bs.length ≤ 400 ∧ (∀ b ∈ bs, b.one < hs.length ∧ b.to < hs.length) ∧ (∀ p ∈ looseOf bs, rk p.1 < rk p.2) ∧
  ∀ (p : Addr) (ord : List Nat) (H' : Hp), H p = none → H' p = some (.lst (ord.map nV)) → Same H H' → Soon (looseOf bs) (List.range hs.length) ord → Q (.ref p) H'
theorem ok_work_order {f : Addr} {fd : FuncData} (F : Fun K "work_order" "work_order" s_work_order f fd) (T : Top w K mg) : FnOk P w K mg base CX0 1 f fd ["room"] (sp_work_order K) := by
  refine F.ok sc_work_order (fun vs H Q E h => ?_) (fun cdv A outer s H vs Q E hr h => ?_)
  · obtain ⟨r, hs, bs, rk, rfl, _⟩ := h
    rfl
  obtain ⟨r, hs, bs, rk, rfl, hR, lh, lb, ends, hrk, q⟩ := h
  obtain ⟨ha, ba, hv, bv, er, eh, eb, alh, alb⟩ := hR.ex
  have lhv := alh.length
  have lbv := alb.length
  have lls : (looseOf bs).length ≤ 400 := by
    unfold looseOf
    rw [List.length_map]
    exact Nat.le_trans (List.length_filter_le ..) lb
  have pls : ∀ p ∈ looseOf bs, p.1 < hs.length ∧ p.2 < hs.length := by
    intro p hp
    obtain ⟨b, hb, e⟩ := List.mem_map.mp hp
    have := ends b (List.mem_filter.mp hb).1
    rw [← e]
    exact this
  let R1 : TS := fun D' σ' H' => D'.rt = Q ∧ ∃ (lo : Addr) (lv : List V), σ' = [some (.ref r), some (.ref ha), some (.ref ba), some (.ref lo), none, none, none, none, none, none, none, none] ∧ H' lo = some (.lst lv) ∧ All2 (PairAt H') lv (looseOf bs) ∧ Same H H' ∧ H lo = none
  let R2 : TS := fun D' σ' H' => D'.rt = Q ∧ ∃ (lo ow : Addr) (lv : List V) (v4 v5 : Option V), σ' = [some (.ref r), some (.ref ha), some (.ref ba), some (.ref lo), v4, v5, none, some (.ref ow), none, none, none, none] ∧ H' lo = some (.lst lv) ∧ All2 (PairAt H') lv (looseOf bs) ∧ Same H H' ∧ H lo = none ∧ H ow = none ∧ lo ≠ ow ∧ H' ow = some (.lst (fL hs.length fun k => cN (owing (List.range hs.length) k) (looseOf bs)))
  refine ⟨_, (pss_cons (ps_asg (pv 0) (pg_tupK K rfl rfl (pgs_cons (pg_name (i := 1) sc_work_order.nd rfl (Or.inl rfl)) (pgs_cons (pg_name (i := 2) sc_work_order.nd rfl (Or.inl rfl)) pgs_nil))))
      (pss_cons (ps_setLc (i := 3) (own := [("giver", 4), ("taker", 5), ("things", 6)]) (g := gTup K 3 (gCons (gName 4) (gCons (gName 5) (gCons (gName 6) gNil)))) (by rfl) sc_work_order.nd rfl rfl (sw_true rfl rfl rfl (by decide +kernel)) (pi_tupK K rfl (pv 2)) (blkOk_by (own := [("giver", 4), ("taker", 5), ("things", 6)]) (N := N_work_order) (sc := defScope s_work_order) (by decide +kernel)) (fun _ _ _ _ _ => (pg_tupK K rfl rfl (pgs_cons (pg_name (i := 4) sc_work_order.nd rfl (Or.inl rfl)) (pgs_cons (pg_name (i := 5) sc_work_order.nd rfl (Or.inl rfl)) (pgs_cons (pg_name (i := 6) sc_work_order.nd rfl (Or.inl rfl)) pgs_nil))))) (fun _ _ _ _ _ => pts_one (pt_not (pt_truthK K rfl (pv 6) (by intro _; rfl)))) (fun _ _ _ _ _ => (pe_tup (pa_cons (pv 4) (pa_cons (pv 5) pa_nil)))))
      (PSs.to (pss_cons (ps_set (i := 7) sc_work_order.nd rfl (Or.inr rfl) (pe_op op_rep (pe_lst (pa_cons pe_int pa_nil)) (pe_callB (call_len_seqK K rfl) (by rfl) T.m_len (by decide +kernel) (pa_cons (pv 1) pa_nil))))
      (pss_cons (ps_for PassesOwn.never rfl (pi_listK K rfl (pv 3)) (pg_tupK K rfl rfl (pgs_cons (pg_name (i := 4) sc_work_order.nd rfl (Or.inl rfl)) (pgs_cons (pg_name (i := 5) sc_work_order.nd rfl (Or.inl rfl)) pgs_nil)))
        (pss_one (ps_augS (pv 7) (pv 5) (get_listK K rfl) pe_int ip_add set_list)))
      (PSs.to (pss_cons (ps_set (i := 8) sc_work_order.nd rfl (Or.inl rfl) (pe_listRg rfl (by rfl) T.m_list (prg_1 (by rfl) T.m_range (pe_callB (call_len_seqK K rfl) (by rfl) T.m_len (by decide +kernel) (pa_cons (pv 1) pa_nil)))))
      (pss_cons (ps_set (i := 9) sc_work_order.nd rfl (Or.inl rfl) (pe_lst pa_nil))
      (pss_cons (ps_while PassesOwn.never (pt_truthK K rfl (pv 8) (by intro _; rfl))
        (pss_cons (ps_set (i := 10) sc_work_order.nd rfl (Or.inl rfl) (pe_callB (cr_minKK K rfl rfl) (by rfl) T.m_min (by decide +kernel) (pa_cons (pe_lc (own := [("hand", 11)]) (g := gName 11) (by rfl) sc_work_order.nd (pi_listK K rfl (pv 8)) (blkOk_by (own := [("hand", 11)]) (N := N_work_order) (sc := defScope s_work_order) (by decide +kernel)) (fun _ _ _ _ _ => (pg_name (i := 11) sc_work_order.nd rfl (Or.inl rfl))) (fun _ _ _ _ _ => pts_one (pt_cmpR op_eq (pe_ix (ix_listK K rfl) (pv 7) (pv 11) (fun _ _ => rfl)) pe_int (nomark _))) (fun _ _ _ _ _ => (pv 11))) pa_nil)))
      (pss_cons (ps_expr (pe_bmK K rfl PySem.F.plainAttrs_list PySem.F.slot_list_remove PySem.F.type_list_remove mt_remove (pv 8) (pa_cons (pv 10) pa_nil)))
      (pss_cons (ps_expr (pe_bmK K rfl PySem.F.plainAttrs_list PySem.F.slot_list_append PySem.F.type_list_append mt_append (pv 9) (pa_cons (pv 10) pa_nil)))
      (pss_one (ps_for PassesOwn.never rfl (pi_listK K rfl (pv 3)) (pg_tupK K rfl rfl (pgs_cons (pg_name (i := 4) sc_work_order.nd rfl (Or.inl rfl)) (pgs_cons (pg_name (i := 5) sc_work_order.nd rfl (Or.inl rfl)) pgs_nil)))
        (pss_one (ps_if (pt_cmpR op_eq (pv 4) (pv 10) (nomark _)) (pss_one (ps_augS (pv 7) (pv 5) (get_listK K rfl) pe_int ip_sub set_list)) pss_nil))))))))
      (pss_one (ps_ret (pv 9)))))) R2 ?tail2))) R1 ?tail1))), ?_⟩
  case tail2 =>
    rintro D' σ' H1 ⟨eD, lo, ow, lv, v4, v5, rfl, hlo, al, s1, nlo, now, low, how⟩
    refine ⟨_, rfl, ha, _, rfl, .inr (SqT.of (s1 _ _ eh)), _, rfl, ⟨by omega, by omega, by omega, by omega, by omega⟩, fun lf nlf => ?_⟩
    refine ⟨(by show 0 ≤ sizeLine; decide), fun od nod => ?_⟩
    have erg : rgV 0 ((hv.length : Nat) : Int) = (List.range hs.length).map nV := by
      unfold rgV
      rw [show (((hv.length : Nat) : Int) - 0).toNat = hs.length by omega]
      refine List.map_congr_left fun i _ => ?_
      show V.int (0 + ((i : Nat) : Int)) = V.int ((i : Nat) : Int)
      rw [Int.zero_add]
    rw [erg] at nod ⊢
    have lf0 : H lf = none := same_none s1 nlf
    have od0 : H od = none := same_none (s1.trans (same_new nlf)) nod
    have lfod : lf ≠ od := ne_of_none upd_same nod
    have lflo : lo ≠ lf := ne_of_none hlo nlf
    have lfow : ow ≠ lf := ne_of_none how nlf
    have odlo : lo ≠ od := ne_of_none (same_new nlf _ _ hlo) nod
    have odow : ow ≠ od := ne_of_none (same_new nlf _ _ how) nod
    have tk2 : TK H1 (upd (upd H1 lf (.lst ((List.range hs.length).map nV))) od (.lst [])) := (TK.new nlf).trans (TK.new nod)
    let W : Nat → L2.St → Hp → Prop := fun mm σ H2 => ∃ (left ord : List Nat) (v4 v5 v10 v11 : Option V), σ = [some (.ref r), some (.ref ha), some (.ref ba), some (.ref lo), v4, v5, none, some (.ref ow), some (.ref lf), some (.ref od), v10, v11] ∧ mm = left.length ∧ left.Nodup ∧ (∀ k ∈ left, k < hs.length) ∧ H2 lo = some (.lst lv) ∧ All2 (PairAt H2) lv (looseOf bs) ∧ Same H H2 ∧ H2 lf = some (.lst (left.map nV)) ∧ H2 od = some (.lst (ord.map nV)) ∧ ord.length + left.length = hs.length ∧ H2 ow = some (.lst (fL hs.length fun k => cN (owing left k) (looseOf bs))) ∧ (∀ rest, Soon (looseOf bs) left rest → Soon (looseOf bs) (List.range hs.length) (ord ++ rest))
    refine ⟨W, ⟨_, List.range hs.length, [], v4, v5, none, none, rfl, rfl, List.nodup_range, fun k hk => List.mem_range.mp hk, same_new nod _ _ (same_new nlf _ _ hlo), al.imp fun _ _ z => z.keep tk2, (s1.trans (same_new nlf)).trans (same_new nod), same_new nod _ _ upd_same, upd_same, by rw [List.length_range]; exact Nat.zero_add _, same_new nod _ _ (same_new nlf _ _ how), fun rest h => h⟩, ?_⟩
    rintro mm σ H2 ⟨left, ord, w4, w5, w10, w11, rfl, rfl, ndl, hll, hlo2, al2, s2, hlf, hod, lol, how2, soon⟩
    refine ⟨_, rfl, _, .inl ⟨_, SqL.of hlf, rfl⟩, ?_⟩
    by_cases ne : left = []
    · subst ne
      refine if_bl (fun z => nomatch z) (fun _ => ⟨_, rfl, ?_⟩)
      rw [eD]
      have := soon [] .nil
      rw [List.append_nil] at this
      exact q od ord H2 od0 hod s2 this
    · have nb : (!(left.map nV).isEmpty) = true := by
        cases left with
        | nil => exact absurd rfl ne
        | cons a l => rfl
      refine if_bl (fun _ => ⟨W (left.length - 1), fun σ' H' hW => ⟨left.length - 1, by have := List.length_pos_iff.mpr ne; omega, hW⟩, ?_⟩) (fun z => by rw [nb] at z; cases z)
      obtain ⟨k0, hk0, fk0⟩ := some_free hrk ne
      -- the free ones
      refine ⟨_, rfl, lf, rfl, ⟨_, SqL.of hlf⟩, fun D nD => lc_list (K := K) (a := lf) (xs := left.map nV) (fun i H5 => ∃ fs : List Nat, H5 D = some (.lst (fs.map nV)) ∧ H5 lf = some (.lst (left.map nV)) ∧ H5 ow = some (.lst (fL hs.length fun k => cN (owing left k) (looseOf bs))) ∧ Same H2 H5 ∧ fs.length ≤ i ∧ (∀ k, k ∈ fs ↔ k ∈ left.take i ∧ free (looseOf bs) left k)) ⟨[], upd_same, same_new nD _ _ hlf, same_new nD _ _ how2, same_new nD, Nat.le_refl _, fun k => ⟨(fun z => nomatch z), (fun z => nomatch z.1)⟩⟩ (fun i H5 _ ⟨_, _, h, _⟩ => SqL.of h) ?_ ?_⟩
      · rintro i x H5 hx ⟨fs, hD, hlf5, how5, s5, lf5, mem⟩
        rw [List.getElem?_map] at hx
        cases ek : left[i]? with
        | none => rw [ek] at hx; cases hx
        | some k =>
        rw [ek] at hx
        obtain rfl : nV k = x := Option.some.inj hx
        have kl := hll k (List.mem_of_getElem? ek)
        refine ⟨rfl, _, rfl, _, rfl, ow, _, _, _, rfl, rfl, SqL.of how5, atI_nat (fL_get kl), rfl, _, rfl, if_bl (fun kk => ?_) (fun kk => ?_)⟩
        · have fk : free (looseOf bs) left k := owing_free.mp (V.int.inj (of_decide_eq_true kk))
          refine ⟨_, rfl, _, hD, ?_, fs ++ [k], ?_, ?_, ?_, Same.own s5 nD, by rw [List.length_append]; show fs.length + 1 ≤ i + 1; omega, fun j => ?_⟩
          · rw [List.length_map]
            have := (List.getElem?_eq_some_iff.mp ek).1
            exact small1000 (by omega)
          · rw [upd_same, List.map_append]; rfl
          · rw [upd_ne (ne_of_none hlf nD)]; exact hlf5
          · rw [upd_ne (ne_of_none how2 nD)]; exact how5
          · rw [List.mem_append, mem, List.take_add_one, ek, List.mem_append]
            constructor
            · rintro (h | h)
              · exact ⟨.inl h.1, h.2⟩
              · obtain rfl : j = k := by simpa using h
                exact ⟨.inr (by simp), fk⟩
            · rintro ⟨h | h, f⟩
              · exact .inl ⟨h, f⟩
              · obtain rfl : j = k := by simpa using h
                exact .inr (by simp)
        · have fk : ¬ free (looseOf bs) left k := fun z => of_decide_eq_false kk (congrArg V.int (owing_free.mpr z))
          refine ⟨fs, hD, hlf5, how5, s5, by omega, fun j => ?_⟩
          rw [mem, List.take_add_one, ek, List.mem_append]
          constructor
          · rintro ⟨h, f⟩
            exact ⟨.inl h, f⟩
          · rintro ⟨h | h, f⟩
            · exact ⟨h, f⟩
            · obtain rfl : j = k := by simpa using h
              exact absurd f fk
      · rintro H5 ⟨fs, hD, hlf5, how5, s5, lf5, mem⟩
        rw [List.length_map, List.take_length] at mem
        have hk0f : k0 ∈ fs := (mem k0).mpr ⟨hk0, fk0⟩
        refine ⟨D, fs.map fun k => ((k : Nat) : Int), rfl, SqL.of (by rw [hD, List.map_map]; rfl), by rw [List.length_map]; exact List.length_pos_of_mem hk0f, fun m hm hmin => ?_⟩
        obtain ⟨k, hk, rfl⟩ := List.mem_map.mp hm
        obtain ⟨hkl, fk⟩ := (mem k).mp hk
        have least : ∀ j ∈ left, free (looseOf bs) left j → k ≤ j := fun j h1 h2 => by
          have := hmin ((j : Nat) : Int) (List.mem_map.mpr ⟨j, (mem j).mpr ⟨h1, h2⟩, rfl⟩)
          omega
        have kl := hll k hkl
        obtain ⟨j, hj, hfirst, ees⟩ : ∃ j : Nat, left[j]? = some k ∧ (∀ m : Nat, m < j → left[m]? ≠ some k) ∧ left.eraseIdx j = left.erase k := by
          refine ⟨left.idxOf k, ?_, fun m hm => ?_, (List.erase_eq_eraseIdx_of_idxOf (rfl : left.idxOf k = left.idxOf k)).symm⟩
          · rw [List.getElem?_eq_getElem (List.idxOf_lt_length_of_mem hkl), List.getElem_idxOf]
          · intro e
            have := List.idxOf_lt_length_of_mem hkl
            have e1 : left[m] = k := (List.getElem?_eq_some_iff.mp e).2
            have e2 : left[left.idxOf k] = k := List.getElem_idxOf this
            have := (List.getElem_inj ndl (h₀ := by omega) (h₁ := this)).mp (e1.trans e2.symm)
            omega
        have elf : left.map nV = (left.map fun k => ((k : Nat) : Int)).map V.int := by rw [List.map_map]; rfl
        refine ⟨_, rfl, .inl ⟨rfl, _, SqL.of hlf5⟩, _, rfl, lf, left.map (fun k => ((k : Nat) : Int)), ((k : Nat) : Int), j, rfl, rfl, by rw [hlf5, elf], by rw [List.getElem?_map, hj]; rfl, fun m hm => ?_, ?_⟩
        · rw [List.getElem?_map]
          intro e
          cases em : left[m]? with
          | none => rw [em] at e; cases e
          | some y =>
            rw [em] at e
            have e : ((y : Nat) : Int) = ((k : Nat) : Int) := Option.some.inj e
            exact hfirst m hm (by rw [em]; congr 1; omega)
        have eer : ((left.map fun k => ((k : Nat) : Int)).eraseIdx j).map V.int = (left.erase k).map nV := by
          rw [← ees, erase_map, List.map_map]; rfl
        rw [eer]
        have hod5 := s5 _ _ hod
        have tk5 := TK.same s5
        have hlo5 := s5 _ _ hlo2
        have s6 : Same H (upd H5 lf (.lst ((left.erase k).map nV))) := Same.own (s2.trans s5) lf0
        have hod6 : (upd H5 lf (.lst ((left.erase k).map nV))) od = some (.lst (ord.map nV)) := by rw [upd_ne lfod.symm]; exact hod5
        have ll := lol
        have hlp := List.length_pos_of_mem hkl
        refine ⟨_, rfl, .inl ⟨rfl, _, SqL.of hod6⟩, _, rfl, od, _, _, rfl, rfl, hod6, by rw [List.length_map]; exact small1000 (by omega), ?_⟩
        have tk7 : TK H2 (upd (upd H5 lf (.lst ((left.erase k).map nV))) od (.lst (ord.map nV ++ [nV k]))) := (tk5.trans (TK.lst hlf5)).trans (TK.lst hod6)
        have hlo7 : (upd (upd H5 lf (.lst ((left.erase k).map nV))) od (.lst (ord.map nV ++ [nV k]))) lo = some (.lst lv) := by
          rw [upd_ne odlo, upd_ne lflo]; exact hlo5
        refine ⟨_, rfl, lo, rfl, ⟨_, SqL.of hlo7⟩, for_list (K := K) (a := lo) (xs := lv) (fun i σ H3 => ∃ v4 v5 : Option V, σ = [some (.ref r), some (.ref ha), some (.ref ba), some (.ref lo), v4, v5, none, some (.ref ow), some (.ref lf), some (.ref od), some (nV k), w11] ∧ H3 lo = some (.lst lv) ∧ All2 (PairAt H3) lv (looseOf bs) ∧ Same H H3 ∧ H3 lf = some (.lst ((left.erase k).map nV)) ∧ H3 od = some (.lst ((ord ++ [k]).map nV)) ∧ H3 ow = some (.lst (fL hs.length fun z => cN (owing left z) (looseOf bs) - cN (fun p => decide (p.1 = k) && decide (p.2 = z)) ((looseOf bs).take i))))
          ⟨w4, w5, rfl, hlo7, al2.imp fun _ _ z => z.keep tk7, Same.own s6 od0, by rw [upd_ne lfod, upd_same], by rw [upd_same, List.map_append]; rfl, ?_⟩ (fun i σ H3 _ ⟨_, _, _, h, _⟩ => SqL.of h) ?_ ?_⟩
        · rw [upd_ne odow, upd_ne lfow, how5]
          congr 2
        · rintro i x σ H3 hx ⟨u4, u5, rfl, hlo3, al3, s3, hlf3, hod3, how3⟩
          obtain ⟨p, ep, ⟨t, rfl, e1⟩⟩ := al3.getL hx
          have hp := pls p (List.mem_of_getElem? ep)
          have etk : (looseOf bs).take (i + 1) = (looseOf bs).take i ++ [p] := by rw [List.take_add_one, ep]; rfl
          refine ⟨t, _, rfl, SqT.of e1, rfl, _, _, rfl, _, _, rfl, rfl, ?_⟩
          refine ⟨_, rfl, _, rfl, rfl, _, rfl, if_bl (fun kk => ?_) (fun kk => ?_)⟩
          · have pk : p.1 = k := by have := V.int.inj (of_decide_eq_true kk); omega
            refine ⟨_, rfl, _, rfl, ow, _, p.2, _, rfl, rfl, SqL.of how3, fL_get hp.2, _, _, rfl, rfl, ow, _, _, p.2, rfl, rfl, how3, ?_, ?_⟩
            · unfold ixN
              rw [if_pos (by omega), if_pos (by rw [List.length_map, List.length_range]; omega), Int.toNat_natCast]
            · refine ⟨_, _, rfl, ?_, al3.imp fun _ _ z => z.keep (TK.lst how3), Same.own s3 now, ?_, ?_, ?_⟩
              · rw [upd_ne low]; exact hlo3
              · rw [upd_ne lfow.symm]; exact hlf3
              · rw [upd_ne odow.symm]; exact hod3
              · rw [upd_same, fL_set]
                congr 2
                refine List.map_congr_left fun z _ => ?_
                show V.int (if z = p.2 then (cN (owing left p.2) (looseOf bs) - cN (fun q => decide (q.1 = k) && decide (q.2 = p.2)) ((looseOf bs).take i)) - 1 else cN (owing left z) (looseOf bs) - cN (fun q => decide (q.1 = k) && decide (q.2 = z)) ((looseOf bs).take i)) = V.int (cN (owing left z) (looseOf bs) - cN (fun q => decide (q.1 = k) && decide (q.2 = z)) ((looseOf bs).take (i + 1)))
                rw [etk, cN_snoc]
                by_cases e : z = p.2
                · subst e
                  simp [pk]
                  omega
                · have : ¬ p.2 = z := fun y => e y.symm
                  simp [e, this]
          · have pk : ¬ p.1 = k := fun e => of_decide_eq_false kk (by rw [e])
            refine ⟨_, _, rfl, hlo3, al3, s3, hlf3, hod3, ?_⟩
            rw [how3]
            congr 2
            refine List.map_congr_left fun z _ => ?_
            show V.int (_ - cN _ _) = V.int (_ - cN _ _)
            rw [etk, cN_snoc]
            simp [pk]
        · rintro σ H3 ⟨u4, u5, rfl, hlo3, al3, s3, hlf3, hod3, how3⟩
          have le : (left.erase k).length = left.length - 1 := List.length_erase_of_mem hkl
          refine ⟨left.erase k, ord ++ [k], u4, u5, _, _, rfl, le.symm, ndl.erase k, fun y hy => hll y (List.mem_of_mem_erase hy), hlo3, al3, s3, hlf3, hod3, by rw [List.length_append, le]; show ord.length + 1 + (left.length - 1) = hs.length; omega, ?_, fun rest h => ?_⟩
          · rw [how3, List.take_of_length_le (by rw [← al3.length]; exact Nat.le_refl _)]
            congr 2
            refine List.map_congr_left fun z _ => ?_
            show V.int (_ - cN _ _) = V.int (cN _ _)
            rw [cN_erase ndl hkl]
          · have := soon (k :: rest) (.cons hkl fk least h)
            rw [List.append_assoc]
            exact this
  case tail1 =>
    rintro D' σ' H1 ⟨eD, lo, lv, rfl, hlo, al, s1, nlo⟩
    refine ⟨(by show 1 ≤ sizeLine; decide), fun l1 nl1 => ⟨_, rfl, ha, _, rfl, .inr (SqT.of (same_new nl1 _ _ (s1 _ _ eh))), l1, _, _, rfl, rfl, upd_same, by omega, by omega, little (by show 1 * _ ≤ 1000; omega), fun ow now => ?_⟩⟩
    have s2 : Same H _ := (s1.trans (same_new (o := .lst [V.int 0]) nl1)).trans (same_new (o := .lst (fL hs.length fun _ => 0)) now)
    have now0 : H ow = none := same_none (s1.trans (same_new nl1)) now
    have hlo2 := same_new (o := .lst (fL hs.length fun _ => 0)) now _ _ (same_new (o := .lst [V.int 0]) nl1 _ _ hlo)
    have low : lo ≠ ow := ne_of_none (same_new nl1 _ _ hlo) now
    have e0 : (List.replicate ((hv.length : Nat) : Int).toNat [V.int 0]).flatten = fL hs.length fun _ => 0 := by
      rw [flat_rep, Int.toNat_natCast, lhv]
      symm
      show (List.range hs.length).map (fun _ => V.int 0) = _
      rw [List.map_const', List.length_range]
    rw [e0]
    refine ⟨_, rfl, lo, rfl, ⟨_, SqL.of hlo2⟩, for_list (K := K) (a := lo) (xs := lv) (fun i σ H3 => ∃ v4 v5 : Option V, σ = [some (.ref r), some (.ref ha), some (.ref ba), some (.ref lo), v4, v5, none, some (.ref ow), none, none, none, none] ∧ H3 lo = some (.lst lv) ∧ All2 (PairAt H3) lv (looseOf bs) ∧ Same H H3 ∧ H3 ow = some (.lst (fL hs.length fun k => cN (fun p => decide (p.2 = k)) ((looseOf bs).take i))))
      ⟨none, none, rfl, hlo2, al.imp fun _ _ z => z.keep ((TK.new nl1).trans (TK.new now)), s2, upd_same⟩ (fun i σ H3 _ ⟨_, _, _, h, _⟩ => SqL.of h) ?_ ?_⟩
    · rintro i x σ H3 hx ⟨v4, v5, rfl, hlo3, al3, s3, how⟩
      obtain ⟨p, ep, ⟨t, rfl, e1⟩⟩ := al3.getL hx
      have hp := pls p (List.mem_of_getElem? ep)
      refine ⟨t, _, rfl, SqT.of e1, rfl, _, _, rfl, _, _, rfl, rfl, ?_⟩
      refine ⟨_, rfl, _, rfl, ow, _, p.2, _, rfl, rfl, SqL.of how, fL_get hp.2, _, _, rfl, rfl, ow, _, _, p.2, rfl, rfl, how, ?_, ?_⟩
      · unfold ixN
        rw [if_pos (by omega), if_pos (by rw [List.length_map, List.length_range]; omega), Int.toNat_natCast]
      · refine ⟨_, _, rfl, ?_, al3.imp fun _ _ z => z.keep (TK.lst how), Same.own s3 now0, ?_⟩
        · rw [upd_ne low]; exact hlo3
        · rw [upd_same, fL_set]
          congr 2
          refine List.map_congr_left fun k _ => ?_
          show V.int (if k = p.2 then cN (fun q => decide (q.2 = p.2)) ((looseOf bs).take i) + 1 else cN (fun q => decide (q.2 = k)) ((looseOf bs).take i)) = V.int (cN (fun q => decide (q.2 = k)) ((looseOf bs).take (i + 1)))
          rw [List.take_add_one, ep, show (some p).toList = [p] from rfl, cN_snoc]
          by_cases e : k = p.2
          · subst e
            simp
          · have : ¬ p.2 = k := fun z => e z.symm
            simp [e, this]
    · rintro σ H3 ⟨v4, v5, rfl, hlo3, al3, s3, how⟩
      refine ⟨eD, lo, ow, lv, v4, v5, rfl, hlo3, al3, s3, nlo, now0, low, ?_⟩
      rw [how, List.take_of_length_le (by rw [← al3.length]; exact Nat.le_refl _)]
      congr 2
      refine List.map_congr_left fun k _ => ?_
      show V.int (cN (fun q => decide (q.2 = k)) (looseOf bs)) = V.int (cN (owing (List.range hs.length) k) (looseOf bs))
      have e : (looseOf bs).filter (fun q => decide (q.2 = k)) = (looseOf bs).filter (owing (List.range hs.length) k) := List.filter_congr fun p hp => by
        have := (pls p hp).1
        show decide (p.2 = k) = (decide (p.2 = k) && decide (p.1 ∈ List.range hs.length))
        rw [decide_eq_true (List.mem_range.mpr this), Bool.and_true]
      unfold cN
      rw [e]
  refine ⟨_, rfl, r, _, rfl, SqT.of er, rfl, _, _, rfl, _, _, rfl, rfl, ?_⟩
  refine ⟨_, rfl, ba, rfl, ⟨_, SqT.of eb⟩, fun D nD => lc_tup (K := K) (a := ba) (xs := bv) (fun i H5 => ∃ lv : List V, H5 D = some (.lst lv) ∧ All2 (PairAt H5) lv (looseOf (bs.take i)) ∧ Same H H5) ⟨[], upd_same, .nil, same_new nD⟩ (fun i H5 _ ⟨_, _, _, s5⟩ => SqT.of (s5 _ _ eb)) ?_ ?_⟩
  · rintro i x H5 hx ⟨lv, hD, al, s5⟩
    obtain ⟨b, eb2, ⟨t, g, rfl, e1, e2⟩⟩ := alb.getL hx
    have il : i < bs.length := (List.getElem?_eq_some_iff.mp eb2).1
    have elo : looseOf (bs.take (i + 1)) = looseOf (bs.take i) ++ (if b.th.isEmpty = true then [(b.one, b.to)] else []) := by
      unfold looseOf
      rw [List.take_add_one, eb2, List.filter_append, List.map_append]
      congr 1
      cases h : b.th.isEmpty <;> simp [h]
    refine ⟨t, _, rfl, SqT.of (s5 _ _ e1), rfl, _, _, rfl, _, _, rfl, _, _, rfl, rfl, rfl, _, rfl, _, .inr (.inl ⟨_, SqT.of (s5 _ _ e2), rfl⟩), ?_⟩
    have lvl : lv.length ≤ 400 := by
      rw [al.length]
      unfold looseOf
      rw [List.length_map]
      refine Nat.le_trans (List.length_filter_le ..) ?_
      rw [List.length_take]
      omega
    refine if_bl (fun kk => ?_) (fun kk => ?_)
    · have ke : b.th.isEmpty = true := by
        cases h : b.th with
        | nil => rfl
        | cons a l => rw [h] at kk; cases kk
      refine ⟨_, rfl, _, rfl, (by show 2 ≤ sizeLine; decide), fun u nu => ⟨lv, same_new nu _ _ hD, small1000 (by omega), lv ++ [V.ref u], upd_same, ?_, ?_⟩⟩
      · rw [elo, if_pos ke]
        exact ((al.imp fun _ _ z => z.keep (TK.new nu)).snoc ⟨u, rfl, upd_same⟩).imp fun _ _ z => z.keep (TK.lst (same_new nu _ _ hD))
      · exact Same.own (s5.trans (same_new nu)) nD
    · have ke : ¬ b.th.isEmpty = true := by
        cases h : b.th with
        | nil => rw [h] at kk; cases kk
        | cons a l => intro z; cases z
      refine ⟨lv, hD, ?_, s5⟩
      rw [elo, if_neg ke, List.append_nil]
      exact al
  · rintro H5 ⟨lv, hD, al, s5⟩
    rw [List.take_of_length_le (by omega)] at al
    exact ⟨rfl, D, lv, rfl, hD, al, s5, nD⟩
end
/-! ### what rules make, bells -/
def mk2 (wd : Str) (a b : Int) : Int :=
  if wd = "sum" then a + b else if wd = "gap" then a - b else if wd = "below" then (if a < b then 1 else 0) else if wd = "most" then (if b > a then b else a) else (if b < a then b else a)
def mk (wd : Str) (n a b c : Int) : Int :=
  if wd = "always" then n else if wd = "times" then n * a else if wd = "pick" then (if a = 0 then c else b) else if wd = "same" ∨ wd = "out" then a else mk2 wd a b
def mkR (h : HR) (xs : List Int) : Int := mk h.wd (h.no.getD 0) (xs.getD 0 0) (xs.getD 1 0) (xs.getD 2 0)
/-- the hands whose rule is this door's -/
def doorsOf (z : Str) (hs : List HR) : List Nat := (List.range hs.length).filter fun i => decide (hs[i]?.map HR.wd = some z)
theorem mem_doors {z : Str} {hs : List HR} {k : Nat} : k ∈ doorsOf z hs ↔ ∃ h, hs[k]? = some h ∧ h.wd = z := by
  unfold doorsOf
  rw [List.mem_filter, List.mem_range, decide_eq_true_eq]
  constructor
  · rintro ⟨a, b⟩
    rw [List.getElem?_eq_getElem a] at b
    exact ⟨_, List.getElem?_eq_getElem a, Option.some.inj b⟩
  · rintro ⟨h, a, b⟩
    refine ⟨(List.getElem?_eq_some_iff.mp a).1, ?_⟩
    rw [a, ← b]
    rfl
theorem doors_nodup {z : Str} {hs : List HR} : (doorsOf z hs).Nodup := List.nodup_range.filter _
theorem doors_len {z : Str} {hs : List HR} : (doorsOf z hs).length ≤ hs.length := by
  refine Nat.le_trans (List.length_filter_le ..) ?_
  rw [List.length_range]
  exact Nat.le_refl _
abbrev gD (m : List Int) (k : Nat) : Int := m.getD k 0
def valB (f : Nat → Int) (b : BR) : Int := match b.th with | [] => f b.one | x :: _ => x
def takes (cur : List BR) (f : Nat → Int) (k : Nat) : List Int := (cur.filter fun b => decide (b.to = k)).map (valB f)
theorem valB_nil {f : Nat → Int} {b : BR} (h : b.th = []) : valB f b = f b.one := by unfold valB; rw [h]
theorem takes_ext {cur : List BR} {f g : Nat → Int} {k : Nat} (h : ∀ b ∈ cur, b.to = k → b.th = [] → f b.one = g b.one) : takes cur f k = takes cur g k := by
  unfold takes
  refine List.map_congr_left fun b hb => ?_
  have hb := List.mem_filter.mp hb
  cases e : b.th with
  | nil => rw [valB_nil e, valB_nil e]; exact h b hb.1 (of_decide_eq_true hb.2) e
  | cons x l => unfold valB; rw [e]
structure IsBell (hs : List HR) (cur : List BR) (ins m : List Int) : Prop where
  len : m.length = hs.length
  door : ∀ j k : Nat, (doorsOf "in" hs)[j]? = some k → m[k]? = ins[j]?
  hand : ∀ (k : Nat) (h : HR), hs[k]? = some h → h.wd ≠ "in" → m[k]? = some (mkR h (takes cur (gD m) k))
theorem mem_loose {cur : List BR} {b : BR} (h : b ∈ cur) (e : b.th = []) : (b.one, b.to) ∈ looseOf cur := List.mem_map.mpr ⟨b, List.mem_filter.mpr ⟨h, by rw [e]; rfl⟩, rfl⟩
theorem bell_one {hs : List HR} {cur : List BR} {ins m m' : List Int} {rk : Nat → Int} (hr : ∀ p ∈ looseOf cur, rk p.1 < rk p.2) (a : IsBell hs cur ins m) (b : IsBell hs cur ins m') : m = m' := by
  have off : ∀ k, ¬ k < hs.length → m[k]? = m'[k]? := fun k hk => by
    rw [List.getElem?_eq_none (by have := a.len; omega), List.getElem?_eq_none (by have := b.len; omega)]
  obtain ⟨D, hD⟩ : ∃ D, D = (List.range hs.length).filter fun k => decide (m[k]? ≠ m'[k]?) := ⟨_, rfl⟩
  have mD : ∀ k, k ∉ D → m[k]? = m'[k]? := fun k hk => by
    by_cases l : k < hs.length
    · by_cases e : m[k]? = m'[k]?
      · exact e
      · refine absurd ?_ hk
        rw [hD, List.mem_filter]
        exact ⟨List.mem_range.mpr l, decide_eq_true e⟩
    · exact off k l
  by_cases e : D = []
  · refine List.ext_getElem? fun k => mD k ?_
    rw [e]
    exact fun z => nomatch z
  · exfalso
    obtain ⟨k, hk, fr⟩ := some_free hr e
    have hk2 := hk
    rw [hD, List.mem_filter] at hk2
    have kl := List.mem_range.mp hk2.1
    have ne : m[k]? ≠ m'[k]? := of_decide_eq_true hk2.2
    have eh : hs[k]? = some hs[k] := List.getElem?_eq_getElem kl
    by_cases w : hs[k].wd = "in"
    · obtain ⟨j, hj⟩ := List.getElem?_of_mem (mem_doors.mpr ⟨_, eh, w⟩)
      exact ne ((a.door j k hj).trans (b.door j k hj).symm)
    · refine ne ((a.hand k _ eh w).trans ((b.hand k _ eh w).trans ?_).symm)
      rw [takes_ext (g := gD m) fun c hc et en => ?_]
      have := mD c.one (fr _ (mem_loose hc en) et)
      show m'.getD c.one 0 = m.getD c.one 0
      rw [List.getD_eq_getElem?_getD, List.getD_eq_getElem?_getD, this]
/-- what some hands have made already -/
structure Part (hs : List HR) (cur : List BR) (ins : List Int) (pm : Nat → Option Int) : Prop where
  dom : ∀ k v, pm k = some v → k < hs.length
  door : ∀ j k : Nat, (doorsOf "in" hs)[j]? = some k → pm k = ins[j]?
  hand : ∀ (k : Nat) (h : HR) (v : Int), hs[k]? = some h → h.wd ≠ "in" → pm k = some v → v = mkR h (takes cur (fun j => (pm j).getD 0) k) ∧ ∀ b ∈ cur, b.to = k → b.th = [] → (pm b.one).isSome = true
abbrev putM (pm : Nat → Option Int) (k : Nat) (v : Int) : Nat → Option Int := fun j => if j = k then some v else pm j
theorem Part.put {hs : List HR} {cur : List BR} {ins : List Int} {pm : Nat → Option Int} (p : Part hs cur ins pm) {k : Nat} {h : HR} (eh : hs[k]? = some h) (w : h.wd ≠ "in") (new : pm k = none)
    (there : ∀ b ∈ cur, b.to = k → b.th = [] → (pm b.one).isSome = true) : Part hs cur ins (putM pm k (mkR h (takes cur (fun j => (pm j).getD 0) k))) := by
  have old : ∀ j, (pm j).isSome = true → ∀ v, putM pm k v j = pm j := fun j hj v => if_neg fun e => by rw [e, new] at hj; cases hj
  have same : ∀ j v, (∀ b ∈ cur, b.to = j → b.th = [] → (pm b.one).isSome = true) → takes cur (fun i => (pm i).getD 0) j = takes cur (fun i => (putM pm k v i).getD 0) j := fun j v hb => takes_ext fun b b1 b2 b3 => by
    show (pm b.one).getD 0 = (putM pm k v b.one).getD 0
    rw [old _ (hb b b1 b2 b3)]
  refine ⟨fun j v e => ?_, fun i j e => ?_, fun j h' v e1 e2 e3 => ?_⟩
  · by_cases z : j = k
    · rw [z]; exact (List.getElem?_eq_some_iff.mp eh).1
    · exact p.dom j v ((if_neg z).symm.trans e)
  · have z : j ≠ k := fun z => by
      obtain ⟨h2, q1, q2⟩ := mem_doors.mp (List.mem_of_getElem? e)
      rw [z, eh] at q1
      cases q1
      exact w q2
    exact (if_neg z).trans (p.door i j e)
  · by_cases z : j = k
    · subst z
      rw [eh] at e1
      cases e1
      have e4 := Option.some.inj ((if_pos rfl).symm.trans e3)
      refine ⟨?_, fun b b1 b2 b3 => ?_⟩
      · exact e4.symm.trans (congrArg (mkR h) (same _ _ there))
      · rw [old _ (there b b1 b2 b3)]
        exact there b b1 b2 b3
    · have e4 : pm j = some v := (if_neg z).symm.trans e3
      obtain ⟨q1, q2⟩ := p.hand j h' v e1 e2 e4
      refine ⟨?_, fun b b1 b2 b3 => ?_⟩
      · exact q1.trans (congrArg (mkR h') (same _ _ q2))
      · rw [old _ (q2 b b1 b2 b3)]
        exact q2 b b1 b2 b3
abbrev fullM (n : Nat) (pm : Nat → Option Int) : List Int := (List.range n).map fun k => (pm k).getD 0
theorem fullM_get {n k : Nat} {pm : Nat → Option Int} (h : k < n) : (fullM n pm)[k]? = some ((pm k).getD 0) := by
  rw [List.getElem?_map, List.getElem?_range h]; rfl
theorem Part.full {hs : List HR} {cur : List BR} {ins : List Int} {pm : Nat → Option Int} (p : Part hs cur ins pm) (all : ∀ k, k < hs.length → (pm k).isSome = true) : IsBell hs cur ins (fullM hs.length pm) := by
  have at_ : ∀ k, k < hs.length → ∃ v, pm k = some v ∧ (fullM hs.length pm)[k]? = some v := fun k hk => by
    obtain ⟨v, hv⟩ := Option.isSome_iff_exists.mp (all k hk)
    exact ⟨v, hv, by rw [fullM_get hk, hv]; rfl⟩
  refine ⟨by rw [List.length_map, List.length_range], fun j k e => ?_, fun k h e w => ?_⟩
  · obtain ⟨h, q, _⟩ := mem_doors.mp (List.mem_of_getElem? e)
    obtain ⟨v, e1, e2⟩ := at_ k (List.getElem?_eq_some_iff.mp q).1
    rw [e2, ← e1]
    exact p.door j k e
  · obtain ⟨v, e1, e2⟩ := at_ k (List.getElem?_eq_some_iff.mp e).1
    obtain ⟨q1, q2⟩ := p.hand k h v e w e1
    rw [e2, q1]
    congr 2
    refine takes_ext fun b b1 b2 b3 => ?_
    obtain ⟨x, hx⟩ := Option.isSome_iff_exists.mp (q2 b b1 b2 b3)
    obtain ⟨y, e3, e4⟩ := at_ b.one (p.dom _ _ hx)
    show (pm b.one).getD 0 = (fullM hs.length pm).getD b.one 0
    rw [List.getD_eq_getElem?_getD, e4, e3]
/-! ### the dict of what was made -/
abbrev kN (k : Nat) : Key := .inl ((k : Nat) : Int)
def DM (kvs : List (Key × V)) (pm : Nat → Option Int) : Prop := ∀ k : Nat, valV kvs (kN k) = (pm k).map V.int
theorem kN_inj {a b : Nat} (h : kN a = kN b) : a = b := by
  have : ((a : Nat) : Int) = ((b : Nat) : Int) := Sum.inl.inj h
  omega
theorem DM.put {kvs : List (Key × V)} {pm : Nat → Option Int} (d : DM kvs pm) (k : Nat) (v : Int) : DM (putK kvs (kN k) (.int v)) (putM pm k v) := fun j => by
  rw [valV_put]
  by_cases e : j = k
  · subst e
    rw [if_pos rfl, show putM pm j v j = some v from if_pos rfl]
    rfl
  · rw [if_neg fun z => e (kN_inj z), show putM pm k v j = pm j from if_neg e]
    exact d j
theorem merge_off {k : Nat} : ∀ (ks : List Nat) (xs : List Int) (acc : List (Key × V)), k ∉ ks → valV (mergeK acc ((ks.map kN).zip (xs.map V.int))) (kN k) = valV acc (kN k)
  | [], _, _, _ => rfl
  | _ :: _, [], _, _ => rfl
  | a :: ks, x :: xs, acc, h => by
    have h1 : k ≠ a := fun e => h (by rw [e]; exact List.mem_cons_self ..)
    have h2 : k ∉ ks := fun e => h (List.mem_cons_of_mem _ e)
    show valV (mergeK (putK acc (kN a) (V.int x)) ((ks.map kN).zip (xs.map V.int))) (kN k) = _
    rw [merge_off ks xs _ h2, valV_put, if_neg fun z => h1 (kN_inj z)]
theorem merge_on {k : Nat} {v : Int} : ∀ (ks : List Nat) (xs : List Int) (acc : List (Key × V)) (j : Nat), ks.Nodup → ks[j]? = some k → xs[j]? = some v → valV (mergeK acc ((ks.map kN).zip (xs.map V.int))) (kN k) = some (.int v)
  | [], _, _, _, _, h, _ => nomatch h
  | _ :: _, [], _, _, _, _, h => nomatch h
  | a :: ks, x :: xs, acc, 0, nd, h1, h2 => by
    cases h1
    cases h2
    show valV (mergeK (putK acc (kN k) (V.int v)) ((ks.map kN).zip (xs.map V.int))) (kN k) = _
    rw [merge_off ks xs _ (List.nodup_cons.mp nd).1, valV_put, if_pos rfl]
  | a :: ks, x :: xs, acc, j + 1, nd, h1, h2 => merge_on ks xs _ j (List.nodup_cons.mp nd).2 h1 h2
/-- what the in doors have made -/
def doorM (hs : List HR) (ins : List Int) : Nat → Option Int := fun k => if k ∈ doorsOf "in" hs then ins[(doorsOf "in" hs).idxOf k]? else none
theorem idx_at {l : List Nat} (nd : l.Nodup) {j k : Nat} (h : l[j]? = some k) : l.idxOf k = j := by
  have jl := (List.getElem?_eq_some_iff.mp h).1
  have m := List.mem_of_getElem? h
  have il := List.idxOf_lt_length_of_mem m
  exact (List.getElem_inj nd (h₀ := il) (h₁ := jl)).mp ((List.getElem_idxOf il).trans (List.getElem?_eq_some_iff.mp h).2.symm)
theorem doorM_dm {hs : List HR} {ins : List Int} (hl : ins.length = (doorsOf "in" hs).length) : DM (mergeK [] (((doorsOf "in" hs).map kN).zip (ins.map V.int))) (doorM hs ins) := fun k => by
  unfold doorM
  by_cases e : k ∈ doorsOf "in" hs
  · rw [if_pos e]
    have il := List.idxOf_lt_length_of_mem e
    have e1 : (doorsOf "in" hs)[(doorsOf "in" hs).idxOf k]? = some k := by rw [List.getElem?_eq_getElem il, List.getElem_idxOf]
    have e2 : ins[(doorsOf "in" hs).idxOf k]? = some ins[(doorsOf "in" hs).idxOf k] := List.getElem?_eq_getElem (by omega)
    rw [merge_on _ _ _ _ doors_nodup e1 e2, e2]
    rfl
  · rw [if_neg e, merge_off _ _ _ e]
    rfl
theorem doorM_part {hs : List HR} {cur : List BR} {ins : List Int} : Part hs cur ins (doorM hs ins) := by
  refine ⟨fun k v e => ?_, fun j k e => ?_, fun k h v e w e2 => ?_⟩
  · unfold doorM at e
    by_cases m : k ∈ doorsOf "in" hs
    · obtain ⟨h, q, _⟩ := mem_doors.mp m
      exact (List.getElem?_eq_some_iff.mp q).1
    · rw [if_neg m] at e
      cases e
  · unfold doorM
    rw [if_pos (List.mem_of_getElem? e), idx_at doors_nodup e]
  · unfold doorM at e2
    rw [if_neg fun m => by
      obtain ⟨h2, q1, q2⟩ := mem_doors.mp m
      rw [e] at q1
      cases q1
      exact w q2] at e2
    cases e2
theorem doorM_all {hs : List HR} {ins : List Int} (hl : ins.length = (doorsOf "in" hs).length) {k : Nat} {h : HR} (e : hs[k]? = some h) (w : h.wd = "in") : (doorM hs ins k).isSome = true := by
  have m := mem_doors.mpr ⟨h, e, w⟩
  unfold doorM
  rw [if_pos m]
  have il := List.idxOf_lt_length_of_mem m
  rw [List.getElem?_eq_getElem (by omega)]
  rfl
/-! ### belts as they stand behind some bells -/
def nextB (m : List Int) (b : BR) : BR := if b.th = [] then b else ⟨b.one, b.to, b.th.drop 1 ++ [gD m b.one]⟩
def standB (ms : List (List Int)) (b : BR) : BR := if b.th = [] then b else ⟨b.one, b.to, (b.th ++ ms.map fun m => gD m b.one).drop ms.length⟩
abbrev stand (bs : List BR) (ms : List (List Int)) : List BR := bs.map (standB ms)
theorem stand_one (ms : List (List Int)) (b : BR) : (standB ms b).one = b.one := by unfold standB; split <;> rfl
theorem stand_to (ms : List (List Int)) (b : BR) : (standB ms b).to = b.to := by unfold standB; split <;> rfl
theorem stand_len (ms : List (List Int)) (b : BR) : (standB ms b).th.length = b.th.length := by
  unfold standB
  split
  · rfl
  · rw [List.length_drop, List.length_append, List.length_map]; omega
theorem nil_len {l l' : List Int} (h : l.length = l'.length) : l = [] ↔ l' = [] := by
  cases l <;> cases l' <;> simp at h ⊢
theorem stand_th (ms : List (List Int)) (b : BR) : (standB ms b).th = [] ↔ b.th = [] := nil_len (stand_len ms b)
theorem stand_zero (bs : List BR) : stand bs [] = bs := by
  refine (List.map_congr_left (g := id) fun b _ => ?_).trans (List.map_id _)
  unfold standB
  split
  · rfl
  · show (⟨b.one, b.to, (b.th ++ []).drop 0⟩ : BR) = b
    rw [List.append_nil]
    rfl
theorem stand_next (bs : List BR) (ms : List (List Int)) (m : List Int) : (stand bs ms).map (nextB m) = stand bs (ms ++ [m]) := by
  rw [List.map_map]
  refine List.map_congr_left fun b _ => ?_
  show nextB m (standB ms b) = standB (ms ++ [m]) b
  have hn := stand_th ms b
  by_cases e : b.th = []
  · rw [show nextB m (standB ms b) = standB ms b from if_pos (hn.mpr e)]
    rw [show standB ms b = b from if_pos e, show standB (ms ++ [m]) b = b from if_pos e]
  · rw [show nextB m (standB ms b) = ⟨(standB ms b).one, (standB ms b).to, (standB ms b).th.drop 1 ++ [gD m (standB ms b).one]⟩ from if_neg fun z => e (hn.mp z)]
    rw [stand_one, stand_to, show standB ms b = ⟨b.one, b.to, (b.th ++ ms.map fun m => gD m b.one).drop ms.length⟩ from if_neg e,
      show standB (ms ++ [m]) b = ⟨b.one, b.to, (b.th ++ (ms ++ [m]).map fun m => gD m b.one).drop (ms ++ [m]).length⟩ from if_neg e]
    show (⟨b.one, b.to, ((b.th ++ ms.map fun m => gD m b.one).drop ms.length).drop 1 ++ [gD m b.one]⟩ : BR) = _
    rw [List.drop_drop, List.map_append, ← List.append_assoc, List.length_append]
    congr 1
    refine (List.drop_append_of_le_length ?_).symm
    have := List.length_pos_iff.mpr e
    rw [List.length_append, List.length_map]
    show ms.length + 1 ≤ _
    omega
theorem loose_stand (bs : List BR) (ms : List (List Int)) : looseOf (stand bs ms) = looseOf bs := by
  unfold looseOf
  induction bs with
  | nil => rfl
  | cons b bs ih =>
    have e : (standB ms b).th.isEmpty = b.th.isEmpty := by
      have h := stand_th ms b
      cases h1 : (standB ms b).th <;> cases h2 : b.th <;> simp [h1, h2] at h ⊢
    show List.map _ (List.filter _ (standB ms b :: stand bs ms)) = _
    rw [List.filter_cons, List.filter_cons, e]
    cases b.th.isEmpty
    · exact ih
    · show ((standB ms b).one, (standB ms b).to) :: _ = (b.one, b.to) :: _
      rw [ih, stand_one, stand_to]
/-- what is taken from a belt with trays -/
theorem stand_head {ms : List (List Int)} {b : BR} (f : Nat → Int) (e : b.th ≠ []) : valB f (standB ms b) = (b.th ++ ms.map fun m => gD m b.one).getD ms.length 0 := by
  have hl := stand_len ms b
  have pos := List.length_pos_iff.mpr e
  have et : (standB ms b).th = (b.th ++ ms.map fun m => gD m b.one).drop ms.length := by unfold standB; rw [if_neg e]
  unfold valB
  cases q : (standB ms b).th with
  | nil => rw [q] at hl; simp at hl; omega
  | cons x l =>
    rw [q] at et
    have : ((b.th ++ ms.map fun m => gD m b.one).drop ms.length)[0]? = some x := by rw [← et]; rfl
    rw [List.getElem?_drop, Nat.add_zero] at this
    rw [List.getD_eq_getElem?_getD, this]
    rfl
/-! ### many bells -/
structure WS (hs : List HR) (bs : List BR) (rows ms : List (List Int)) : Prop where
  len : ms.length = rows.length
  at_ : ∀ (t : Nat) (r m : List Int), rows[t]? = some r → ms[t]? = some m → IsBell hs (stand bs (ms.take t)) r m
theorem WS.nil {hs : List HR} {bs : List BR} : WS hs bs [] [] := ⟨rfl, fun t r m e => nomatch e⟩
theorem WS.snoc {hs : List HR} {bs : List BR} {rows ms : List (List Int)} {r m : List Int} (h : WS hs bs rows ms) (b : IsBell hs (stand bs ms) r m) : WS hs bs (rows ++ [r]) (ms ++ [m]) := by
  refine ⟨by rw [List.length_append, List.length_append, h.len]; rfl, fun t r' m' e1 e2 => ?_⟩
  by_cases l : t < ms.length
  · have l2 : t < rows.length := by rw [← h.len]; exact l
    rw [List.getElem?_append_left l2] at e1
    rw [List.getElem?_append_left l] at e2
    rw [List.take_append_of_le_length (Nat.le_of_lt l)]
    exact h.at_ t r' m' e1 e2
  · have tl := (List.getElem?_eq_some_iff.mp e2).1
    rw [List.length_append] at tl
    have et : t = ms.length := by simp at tl; omega
    subst et
    rw [List.getElem?_append_right (Nat.le_refl _), Nat.sub_self] at e2
    rw [h.len, List.getElem?_append_right (Nat.le_refl _), Nat.sub_self] at e1
    cases e1
    cases e2
    rw [List.take_append_of_le_length (Nat.le_refl _), List.take_length]
    exact b
theorem WS.one {hs : List HR} {bs : List BR} {rows ms ms' : List (List Int)} {rk : Nat → Int} (hr : ∀ p ∈ looseOf bs, rk p.1 < rk p.2) (a : WS hs bs rows ms) (b : WS hs bs rows ms') : ms = ms' := by
  have key : ∀ t, ms.take t = ms'.take t := by
    intro t
    induction t with
    | zero => rfl
    | succ t ih =>
      rw [List.take_add_one, List.take_add_one, ih]
      by_cases l : t < rows.length
      · have l1 : t < ms.length := by have := a.len; omega
        have l2 : t < ms'.length := by have := b.len; omega
        have e1 : ms[t]? = some ms[t] := List.getElem?_eq_getElem l1
        have e2 : ms'[t]? = some ms'[t] := List.getElem?_eq_getElem l2
        have e3 : rows[t]? = some rows[t] := List.getElem?_eq_getElem l
        have q1 := a.at_ t _ _ e3 e1
        have q2 := b.at_ t _ _ e3 e2
        rw [ih] at q1
        have := bell_one (rk := rk) (by rw [loose_stand]; exact hr) q1 q2
        rw [e1, e2, this]
      · rw [List.getElem?_eq_none (by have := a.len; omega), List.getElem?_eq_none (by have := b.len; omega)]
  have h1 := key rows.length
  rw [List.take_of_length_le (by rw [a.len]; exact Nat.le_refl _), List.take_of_length_le (by rw [b.len]; exact Nat.le_refl _)] at h1
  exact h1
theorem WS.row {hs : List HR} {bs : List BR} {rows ms : List (List Int)} (h : WS hs bs rows ms) : ∀ m ∈ ms, m.length = hs.length := fun m hm => by
  obtain ⟨t, e⟩ := List.getElem?_of_mem hm
  have tl := (List.getElem?_eq_some_iff.mp e).1
  have e3 : rows[t]? = some (rows[t]'(by rw [← h.len]; exact tl)) := List.getElem?_eq_getElem _
  exact (h.at_ t _ _ e3 e).len
/-- the belts that come to a hand -/
def comingN (bs : List BR) (k : Nat) : List Nat := (List.range bs.length).filter fun i => decide (bs[i]?.map BR.to = some k)
def outsOf (hs : List HR) (m : List Int) : List Int := (doorsOf "out" hs).map (gD m)
section
variable {P : Program} {w : World} {K : PySem.W.Frag} {mg : Str → Option Value} {base : Heap}
def sp_made_of_two (K : PySem.W.Frag) : Sp := fun vs H Q _ => ∃ (wd : Str) (a b : Int), vs = [.str wd, .int a, .int b] ∧ Q (.int (mk2 wd a b)) H
theorem ok_made_of_two {f : Addr} {fd : FuncData} (F : Fun K "made_of_two" "made_of_two" s_made_of_two f fd) (T : Top w K mg) : FnOk P w K mg base CX0 1 f fd ["word", "one", "other"] (sp_made_of_two K) := by
  refine F.ok sc_made_of_two (fun vs H Q E h => ?_) (fun cdv A outer s H vs Q E hr h => ?_)
  · obtain ⟨wd, a, b, rfl, _⟩ := h
    rfl
  obtain ⟨wd, a, b, rfl, q⟩ := h
  unfold mk2 at q
  refine ⟨_, (pss_cons (ps_if (pt_cmpR op_eq (pv 0) pe_str (nomark _)) (pss_one (ps_ret (pe_op op_add (pv 1) (pv 2)))) pss_nil)
      (pss_cons (ps_if (pt_cmpR op_eq (pv 0) pe_str (nomark _)) (pss_one (ps_ret (pe_op op_sub (pv 1) (pv 2)))) pss_nil)
      (pss_cons (ps_if (pt_cmpR op_eq (pv 0) pe_str (nomark _)) (pss_one (ps_ret (pe_ifExp (pt_cmpR op_lt (pv 1) (pv 2) (nomark _)) pe_int pe_int))) pss_nil)
      (pss_cons (ps_if (pt_cmpR op_eq (pv 0) pe_str (nomark _)) (pss_one (ps_ret (pe_callB (call_max2 rfl) (by rfl) T.m_max (by decide +kernel) (pa_cons (pv 1) (pa_cons (pv 2) pa_nil))))) pss_nil)
      (pss_one (ps_ret (pe_callB (call_min2 rfl) (by rfl) T.m_min (by decide +kernel) (pa_cons (pv 1) (pa_cons (pv 2) pa_nil))))))))), ?_⟩
  refine ⟨_, rfl, rfl, _, rfl, if_str (fun e => ?_) (fun e => ?_)⟩
  · rw [if_pos e] at q
    exact ⟨_, rfl, _, rfl, _, _, rfl, rfl, q⟩
  rw [if_neg e] at q
  refine ⟨_, rfl, rfl, _, rfl, if_str (fun e => ?_) (fun e => ?_)⟩
  · rw [if_pos e] at q
    exact ⟨_, rfl, _, rfl, _, _, rfl, rfl, q⟩
  rw [if_neg e] at q
  refine ⟨_, rfl, rfl, _, rfl, if_str (fun e => ?_) (fun e => ?_)⟩
  · rw [if_pos e] at q
    refine ⟨_, rfl, _, rfl, _, _, rfl, rfl, _, rfl, if_bl (fun c => ?_) (fun c => ?_)⟩
    · rw [if_pos (of_decide_eq_true c)] at q
      exact q
    · rw [if_neg (of_decide_eq_false c)] at q
      exact q
  rw [if_neg e] at q
  refine ⟨_, rfl, rfl, _, rfl, if_str (fun e => ?_) (fun e => ?_)⟩
  · rw [if_pos e] at q
    exact ⟨_, rfl, _, rfl, _, _, rfl, q⟩
  rw [if_neg e] at q
  exact ⟨_, rfl, _, rfl, _, _, rfl, q⟩
theorem inV_two {x y z : Str} : inV (.str x) [.str y, .str z] = true ↔ x = y ∨ x = z := by
  unfold inV
  simp only [List.any_cons, List.any_nil, Bool.or_false, Bool.or_eq_true, eqV, beq_iff_eq]
  constructor
  · rintro (h | h)
    · exact .inl h.symm
    · exact .inr h.symm
  · rintro (h | h)
    · exact .inl h.symm
    · exact .inr h.symm
theorem if_in2 {x y z : Str} {A B : Prop} (h1 : x = y ∨ x = z → A) (h2 : ¬ (x = y ∨ x = z) → B) : if (if false = true then !inV (.str x) [.str y, .str z] else inV (.str x) [.str y, .str z]) = true then A else B := by
  have e : (if false = true then !inV (.str x) [.str y, .str z] else inV (.str x) [.str y, .str z]) = inV (.str x) [.str y, .str z] := if_neg Bool.false_ne_true
  rw [e]
  exact if_bl (fun c => h1 (inV_two.mp c)) (fun c => h2 (fun k => by rw [inV_two.mpr k] at c; cases c))
def sp_made_by (K : PySem.W.Frag) : Sp := fun vs H Q _ => ∃ (r t : Addr) (rl ts : List V) (wd : Str) (n a b c : Int), vs = [.ref r, .ref t] ∧ SqT K H r rl ∧ SqT K H t ts ∧ rl[0]? = some (.str wd) ∧
  (wd = "always" ∨ wd = "times" → rl[1]? = some (.int n)) ∧ (wd ≠ "always" → ts[0]? = some (.int a)) ∧ (wd = "pick" ∨ (wd ≠ "always" ∧ wd ≠ "times" ∧ wd ≠ "same" ∧ wd ≠ "out") → ts[1]? = some (.int b)) ∧ (wd = "pick" → ts[2]? = some (.int c)) ∧
  (-(2 ^ 64) < n ∧ n < 2 ^ 64) ∧ ∀ H', Same H H' → Q (.int (mk wd n a b c)) H'
theorem ok_made_by {f : Addr} {fd : FuncData} (F : Fun K "made_by" "made_by" s_made_by f fd) (T : Top w K mg) : FnOk P w K mg base CX0 2 f fd ["rule", "things"] (sp_made_by K) := by
  obtain ⟨f_made_of_two, fd_made_of_two, F_made_of_two, b_made_of_two, m_made_of_two⟩ := T.d_made_of_two
  have G_made_of_two := ok_made_of_two (P := P) (w := w) (base := base) F_made_of_two T
  refine F.ok sc_made_by (fun vs H Q E h => ?_) (fun cdv A outer s H vs Q E hr h => ?_)
  · obtain ⟨r, t, rl, ts, wd, n, a, b, c, rfl, _⟩ := h
    rfl
  obtain ⟨r, t, rl, ts, wd, n, a, b, c, rfl, hR, hT, r0, r1, t0, t1, t2, hn, q⟩ := h
  unfold mk at q
  refine ⟨_, (pss_cons (ps_set (i := 2) sc_made_by.nd rfl (Or.inl rfl) (pe_ix (ix_tupK K rfl) (pv 0) pe_int (fun _ _ => rfl)))
      (pss_cons (ps_if (pt_cmpR op_eq (pv 2) pe_str (nomark _)) (pss_one (ps_ret (pe_ix (ix_tupK K rfl) (pv 0) pe_int (fun _ _ => rfl)))) pss_nil)
      (pss_cons (ps_if (pt_cmpR op_eq (pv 2) pe_str (nomark _)) (pss_one (ps_ret (pe_op op_mul (pe_ix (ix_tupK K rfl) (pv 0) pe_int (fun _ _ => rfl)) (pe_ix (ix_tupK K rfl) (pv 1) pe_int (fun _ _ => rfl))))) pss_nil)
      (pss_cons (ps_if (pt_cmpR op_eq (pv 2) pe_str (nomark _)) (pss_one (ps_ret (pe_ifExp (pt_cmpR op_ne (pe_ix (ix_tupK K rfl) (pv 1) pe_int (fun _ _ => rfl)) pe_int (nomark _)) (pe_ix (ix_tupK K rfl) (pv 1) pe_int (fun _ _ => rfl)) (pe_ix (ix_tupK K rfl) (pv 1) pe_int (fun _ _ => rfl))))) pss_nil)
      (pss_cons (ps_if (pt_cmpR (op_in_seqK K rfl) (pv 2) (pe_tup (pa_cons pe_str (pa_cons pe_str pa_nil))) (by with_unfolding_all rfl)) (pss_one (ps_ret (pe_ix (ix_tupK K rfl) (pv 1) pe_int (fun _ _ => rfl)))) pss_nil)
      (pss_one (ps_ret (pe_call G_made_of_two (hr.mono (by decide)) (by rfl) m_made_of_two F_made_of_two.kp b_made_of_two .nil pass0 (pa_cons (pv 2) (pa_cons (pe_ix (ix_tupK K rfl) (pv 1) pe_int (fun _ _ => rfl)) (pa_cons (pe_ix (ix_tupK K rfl) (pv 1) pe_int (fun _ _ => rfl)) pa_nil))))))))))), ?_⟩
  refine ⟨_, rfl, r, _, _, _, rfl, rfl, hR, atI_nat (j := 0) r0, ?_⟩
  refine ⟨_, rfl, rfl, _, rfl, if_str (fun e1 => ?_) (fun e1 => ?_)⟩
  · have q := q H (fun _ _ e => e)
    rw [if_pos e1] at q
    exact ⟨_, rfl, r, _, _, _, rfl, rfl, hR, atI_nat (j := 1) (r1 (.inl e1)), q⟩
  refine ⟨_, rfl, rfl, _, rfl, if_str (fun e2 => ?_) (fun e2 => ?_)⟩
  · have q := q H (fun _ _ e => e)
    rw [if_neg e1, if_pos e2] at q
    exact ⟨_, rfl, r, _, _, _, rfl, rfl, hR, atI_nat (j := 1) (r1 (.inr e2)), _, rfl, t, _, _, _, rfl, rfl, hT, atI_nat (j := 0) (t0 e1), _, _, rfl, rfl, .inl hn, q⟩
  refine ⟨_, rfl, rfl, _, rfl, if_str (fun e3 => ?_) (fun e3 => ?_)⟩
  · have q := q H (fun _ _ e => e)
    rw [if_neg e1, if_neg e2, if_pos e3] at q
    refine ⟨_, rfl, t, _, _, _, rfl, rfl, hT, atI_nat (j := 0) (t0 e1), rfl, _, rfl, if_bl (fun k => ?_) (fun k => ?_)⟩
    · have k2 : ¬ a = 0 := fun z => by
        rw [z] at k
        exact absurd k (by decide)
      rw [if_neg k2] at q
      exact ⟨_, rfl, t, _, _, _, rfl, rfl, hT, atI_nat (j := 1) (t1 (.inl e3)), q⟩
    · have k2 : a = 0 := by
        by_cases z : a = 0
        · exact z
        · have k3 : (!decide (V.int a = V.int 0)) = false := k
          rw [decide_eq_false (fun y => z (V.int.inj y))] at k3
          cases k3
      rw [if_pos k2] at q
      exact ⟨_, rfl, t, _, _, _, rfl, rfl, hT, atI_nat (j := 2) (t2 e3), q⟩
  refine ⟨_, rfl, (by show 2 ≤ sizeLine; decide), fun p np => ?_⟩
  have s1 := same_new (o := .tup [V.str "same", V.str "out"]) np
  have q := q _ s1
  rw [if_neg e1, if_neg e2, if_neg e3] at q
  refine ⟨p, _, rfl, .inr (SqT.of upd_same), rfl, rfl, _, rfl, if_in2 (fun e4 => ?_) (fun e4 => ?_)⟩
  · rw [if_pos e4] at q
    exact ⟨_, rfl, t, _, _, _, rfl, rfl, same_seqT s1 hT, atI_nat (j := 0) (t0 e1), q⟩
  · rw [if_neg e4] at q
    exact ⟨_, rfl, _, rfl, t, _, _, _, rfl, rfl, same_seqT s1 hT, atI_nat (j := 0) (t0 e1), _, rfl, t, _, _, _, rfl, rfl, same_seqT s1 hT, atI_nat (j := 1) (t1 (.inr ⟨e1, e2, fun z => e4 (.inl z), fun z => e4 (.inr z)⟩)), wd, a, b, rfl, q⟩
end
section
variable {P : Program} {w : World} {K : PySem.W.Frag} {mg : Str → Option Value} {base : Heap}
theorem filt_succ {p : Nat → Bool} (i : Nat) : (List.range (i + 1)).filter p = (List.range i).filter p ++ (if p i = true then [i] else []) := by
  rw [List.range_succ, List.filter_append]
  cases h : p i <;> simp [h]
theorem filt_len {p : Nat → Bool} (i : Nat) : ((List.range i).filter p).length ≤ i := by
  refine Nat.le_trans (List.length_filter_le ..) ?_
  rw [List.length_range]
  exact Nat.le_refl _
def sp_comings (K : PySem.W.Frag) : Sp := fun vs H Q _ => ∃ (r : Addr) (hs : List HR) (bs : List BR) (k : Nat), vs = [.ref r, nV k] ∧ RoomAt H r hs bs ∧ bs.length ≤ 400 ∧ ∀ (p : Addr) (H' : Hp), H p = none → H' p = some (.lst ((comingN bs k).map nV)) → Same H H' → Q (.ref p) H'
theorem ok_comings {f : Addr} {fd : FuncData} (F : Fun K "comings" "comings" s_comings f fd) (T : Top w K mg) : FnOk P w K mg base CX0 1 f fd ["room", "hand"] (sp_comings K) := by
  refine F.ok sc_comings (fun vs H Q E h => ?_) (fun cdv A outer s H vs Q E hr h => ?_)
  · obtain ⟨r, hs, bs, k, rfl, _⟩ := h
    rfl
  obtain ⟨r, hs, bs, k, rfl, hR, lb, q⟩ := h
  obtain ⟨ha, ba, hv, bv, er, eh, eb, alh, alb⟩ := hR.ex
  have lbv := alb.length
  refine ⟨_, (pss_one (ps_ret (pe_lc (own := [("number", 2), ("belt", 3)]) (g := gTup K 2 (gCons (gName 2) (gCons (gName 3) gNil))) (by rfl) sc_comings.nd (pi_enumT K rfl (by rfl) T.m_enumerate (pa_cons (pe_ix (ix_tupK K rfl) (pv 0) pe_int (fun _ _ => rfl)) pa_nil)) (blkOk_by (own := [("number", 2), ("belt", 3)]) (N := N_comings) (sc := defScope s_comings) (by decide +kernel)) (fun _ _ _ _ _ => (pg_tupK K rfl rfl (pgs_cons (pg_name (i := 2) sc_comings.nd rfl (Or.inl rfl)) (pgs_cons (pg_name (i := 3) sc_comings.nd rfl (Or.inl rfl)) pgs_nil)))) (fun _ _ _ _ _ => pts_one (pt_cmpR op_eq (pe_ix (ix_tupK K rfl) (pv 3) pe_int (fun _ _ => rfl)) (pv 1) (nomark _))) (fun _ _ _ _ _ => (pv 2))))), ?_⟩
  refine ⟨_, rfl, r, _, _, _, rfl, rfl, SqT.of er, atI_nat (j := 1) rfl, ba, bv, rfl, SqT.of eb, fun D nD => lc_it (J := IteT K ba bv) (n := bv.length) (fun i H5 => H5 D = some (.lst (((List.range i).filter fun j => decide (bs[j]?.map BR.to = some k)).map nV)) ∧ Same H H5) ⟨upd_same, same_new nD⟩ ?_ ?_ ?_ ?_⟩
  · rintro i H5 hi ⟨hD, s5⟩
    exact ⟨SqT.of (s5 _ _ eb), hi⟩
  · rintro H5 ⟨hD, s5⟩
    exact ⟨SqT.of (s5 _ _ eb), rfl⟩
  · rintro i x H5 H6 hi ⟨hD, s5⟩ ⟨t, y, rfl, nt, rfl, ey⟩
    obtain ⟨b, eb2, ⟨t2, g, rfl, e1, e2⟩⟩ := alb.getL ey
    have s6 := s5.trans (same_new (o := .tup [V.int ((i : Nat) : Int), V.ref t2]) nt)
    have hD6 := same_new (o := .tup [V.int ((i : Nat) : Int), V.ref t2]) nt _ _ hD
    have few := filt_len (p := fun j => decide (bs[j]?.map BR.to = some k)) i
    refine ⟨t, _, rfl, SqT.of upd_same, rfl, _, _, rfl, _, _, rfl, rfl, rfl, _, rfl, t2, _, _, _, rfl, rfl, SqT.of (s6 _ _ e1), atI_nat (j := 1) rfl, _, rfl, rfl, _, rfl, if_bl (fun c => ?_) (fun c => ?_)⟩
    · have c : b.to = k := by have := V.int.inj (of_decide_eq_true c); omega
      refine ⟨_, rfl, _, hD6, by rw [List.length_map]; exact small1000 (by omega), ?_, Same.own s6 nD⟩
      rw [upd_same, filt_succ, if_pos (decide_eq_true (by rw [eb2, ← c]; rfl)), List.map_append]
      rfl
    · have c : ¬ b.to = k := fun z => of_decide_eq_false c (by rw [z])
      refine ⟨?_, s6⟩
      rw [filt_succ, if_neg fun z => c (by have := of_decide_eq_true z; rw [eb2] at this; exact Option.some.inj this), List.append_nil]
      exact hD6
  · rintro H5 ⟨hD, s5⟩
    refine q D H5 nD ?_ s5
    rw [hD, lbv]
    rfl
def sp_doors (z : Str) : Sp := fun vs H Q _ => ∃ (r : Addr) (hs : List HR) (bs : List BR), vs = [.ref r] ∧ RoomAt H r hs bs ∧ hs.length ≤ 400 ∧ (∀ h ∈ hs, GoodHand h) ∧ ∀ (p : Addr) (H' : Hp), H p = none → H' p = some (.lst ((doorsOf z hs).map nV)) → Same H H' → Q (.ref p) H'
abbrev sp_doors_in (K : PySem.W.Frag) : Sp := sp_doors "in"
abbrev sp_doors_out (K : PySem.W.Frag) : Sp := sp_doors "out"
theorem ok_doors_in {f : Addr} {fd : FuncData} (F : Fun K "doors_in" "doors_in" s_doors_in f fd) (T : Top w K mg) : FnOk P w K mg base CX0 1 f fd ["room"] (sp_doors_in K) := by
  refine F.ok sc_doors_in (fun vs H Q E h => ?_) (fun cdv A outer s H vs Q E hr h => ?_)
  · obtain ⟨r, hs, bs, rfl, _⟩ := h
    rfl
  obtain ⟨aI, mI, hI⟩ := T.x_in
  obtain ⟨r, hs, bs, rfl, hR, lb, good, q⟩ := h
  obtain ⟨ha, ba, hv, bv, er, eh, eb, alh, alb⟩ := hR.ex
  have lhv := alh.length
  refine ⟨_, (pss_one (ps_ret (pe_lc (own := [("number", 1), ("hand", 2)]) (g := gTup K 2 (gCons (gName 1) (gCons (gName 2) gNil))) (by rfl) sc_doors_in.nd (pi_enumT K rfl (by rfl) T.m_enumerate (pa_cons (pe_ix (ix_tupK K rfl) (pv 0) pe_int (fun _ _ => rfl)) pa_nil)) (blkOk_by (own := [("number", 1), ("hand", 2)]) (N := N_doors_in) (sc := defScope s_doors_in) (by decide +kernel)) (fun _ _ _ _ _ => (pg_tupK K rfl rfl (pgs_cons (pg_name (i := 1) sc_doors_in.nd rfl (Or.inl rfl)) (pgs_cons (pg_name (i := 2) sc_doors_in.nd rfl (Or.inl rfl)) pgs_nil)))) (fun _ _ _ _ _ => pts_one (pt_cmpR (op_eqDK K rfl hr.units) (pe_ix (ix_tupK K rfl) (pv 2) pe_int (fun _ _ => rfl)) (pe_glob (v := .ref aI) (by rfl) mI rfl) (nomark _))) (fun _ _ _ _ _ => (pv 1))))), ?_⟩
  refine ⟨_, rfl, r, _, _, _, rfl, rfl, SqT.of er, atI_nat (j := 0) rfl, ha, hv, rfl, SqT.of eh, fun D nD => lc_it (J := IteT K ha hv) (n := hv.length) (fun i H5 => H5 D = some (.lst (((List.range i).filter fun j => decide (hs[j]?.map HR.wd = some ("in" : Str))).map nV)) ∧ Same H H5) ⟨upd_same, same_new nD⟩ ?_ ?_ ?_ ?_⟩
  · rintro i H5 hi ⟨hD, s5⟩
    exact ⟨SqT.of (s5 _ _ eh), hi⟩
  · rintro H5 ⟨hD, s5⟩
    exact ⟨SqT.of (s5 _ _ eh), rfl⟩
  · rintro i x H5 H6 hi ⟨hD, s5⟩ ⟨t, y, rfl, nt, rfl, ey⟩
    obtain ⟨hh, eb2, ⟨t2, g, rfl, e1, e2⟩⟩ := alh.getL ey
    have gh := good _ (List.mem_of_getElem? eb2)
    have s6 := s5.trans (same_new (o := .tup [V.int ((i : Nat) : Int), V.ref t2]) nt)
    have hD6 := same_new (o := .tup [V.int ((i : Nat) : Int), V.ref t2]) nt _ _ hD
    have few := filt_len (p := fun j => decide (hs[j]?.map HR.wd = some ("in" : Str))) i
    refine ⟨t, _, rfl, SqT.of upd_same, rfl, _, _, rfl, _, _, rfl, rfl, rfl, _, rfl, t2, _, _, _, rfl, rfl, SqT.of (s6 _ _ e1), atI_nat (j := 0) rfl, ?_⟩
    refine ⟨_, _, rule_dp (s6 _ _ e2), .tup (hI _) (.cons (.str _) .nil), rule_shaped gh.lay, one_shaped (by decide +kernel), _, rfl, ?_⟩
    rw [rule_eqv, gh.door "in" (.inl rfl)]
    by_cases c : hh.wd = "in"
    · rw [decide_eq_true c]
      refine if_bl (fun _ => ⟨_, rfl, _, hD6, by rw [List.length_map]; exact small1000 (by omega), ?_, Same.own s6 nD⟩) (fun z => nomatch z)
      rw [upd_same, filt_succ, if_pos (decide_eq_true (by rw [eb2, ← c]; rfl)), List.map_append]
      rfl
    · rw [decide_eq_false c]
      refine if_bl (fun z => nomatch z) (fun _ => ⟨?_, s6⟩)
      rw [filt_succ, if_neg fun z => c (by have := of_decide_eq_true z; rw [eb2] at this; exact Option.some.inj this), List.append_nil]
      exact hD6
  · rintro H5 ⟨hD, s5⟩
    refine q D H5 nD ?_ s5
    rw [hD, lhv]
    rfl
end
/-- a tuple of whole numbers -/
def RowAt (H : Hp) (v : V) (m : List Int) : Prop := ∃ t : Addr, v = .ref t ∧ H t = some (.tup (m.map V.int))
theorem RowAt.keep {H H' : Hp} {v : V} {m : List Int} (a : RowAt H v m) (k : TK H H') : RowAt H' v m := by
  obtain ⟨t, e, h⟩ := a
  exact ⟨t, e, k _ _ h⟩
theorem gD_get {m : List Int} {k : Nat} (h : k < m.length) : m[k]? = some (gD m k) := by
  show _ = some (m.getD k 0)
  rw [List.getD_eq_getElem?_getD, List.getElem?_eq_getElem h]; rfl
theorem at_row {m : List Int} {k : Nat} (h : k < m.length) : atI (m.map V.int) ((k : Nat) : Int) = some (.int (gD m k)) := atI_nat (by rw [List.getElem?_map, gD_get h]; rfl)
theorem soon_one {ls : List (Nat × Nat)} : ∀ {left o1 o2 : List Nat}, Soon ls left o1 → Soon ls left o2 → o1 = o2 := by
  intro left o1 o2 h
  induction h generalizing o2 with
  | nil =>
    intro h2
    cases h2 with
    | nil => rfl
    | cons a => cases a
  | cons a b c d ih =>
    intro h2
    cases h2 with
    | nil => cases a
    | @cons _ ord k2 a2 b2 c2 d2 =>
      have e := Nat.le_antisymm (c _ a2 b2) (c2 _ a b)
      subst e
      rw [ih d2]
theorem soon_len {ls : List (Nat × Nat)} {left ord : List Nat} (h : Soon ls left ord) : ord.length = left.length := by
  induction h with
  | nil => rfl
  | cons a b c d ih =>
    rw [List.length_cons, ih, List.length_erase_of_mem a]
    have := List.length_pos_of_mem a
    omega
theorem soon_mem {ls : List (Nat × Nat)} {left ord : List Nat} (h : Soon ls left ord) : ∀ x ∈ ord, x ∈ left := by
  induction h with
  | nil => exact fun _ z => nomatch z
  | cons a b c d ih =>
    intro x hx
    rcases List.mem_cons.mp hx with e | e
    · rw [e]; exact a
    · exact List.mem_of_mem_erase (ih x e)
section
variable {P : Program} {w : World} {K : PySem.W.Frag} {mg : Str → Option Value} {base : Heap}
/-- a hand and the belts that come to it -/
def PlanAt (Z : Hp) (D : Addr) (bs : List BR) (H : Hp) (v : V) (k : Nat) : Prop := ∃ t l : Addr, v = .ref t ∧ H t = some (.tup [nV k, .ref l]) ∧ H l = some (.lst ((comingN bs k).map nV)) ∧ l ≠ D ∧ Z t = none ∧ Z l = none
theorem PlanAt.same {Z : Hp} {D : Addr} {bs : List BR} {H H' : Hp} {v : V} {k : Nat} (a : PlanAt Z D bs H v k) (s : Same H H') : PlanAt Z D bs H' v k := by
  obtain ⟨t, l, e, h1, h2, n⟩ := a
  exact ⟨t, l, e, s _ _ h1, s _ _ h2, n⟩
theorem PlanAt.own {Z : Hp} {D : Addr} {bs : List BR} {H : Hp} {v : V} {k : Nat} {xs ys : List V} (a : PlanAt Z D bs H v k) (h : H D = some (.lst xs)) : PlanAt Z D bs (upd H D (.lst ys)) v k := by
  obtain ⟨t, l, e, h1, h2, n⟩ := a
  exact ⟨t, l, e, TK.lst h _ _ h1, by rw [upd_ne n.1]; exact h2, n⟩
def sp_work_plan (K : PySem.W.Frag) : Sp := fun vs H Q _ => ∃ (r : Addr) (hs : List HR) (bs : List BR) (rk : Nat → Int), vs = [.ref r] ∧ RoomAt H r hs bs ∧ hs.length ≤ 400 ∧ bs.length ≤ 400 ∧ (∀ b ∈ bs, b.one < hs.length ∧ b.to < hs.length) ∧ (∀ p ∈ looseOf bs, rk p.1 < rk p.2) ∧
  ∀ (p D : Addr) (ord : List Nat) (pv : List V) (H' : Hp), H p = none → H' p = some (.lst pv) → All2 (PlanAt H D bs H') pv ord → Soon (looseOf bs) (List.range hs.length) ord → Same H H' → Q (.ref p) H'
theorem ok_work_plan {f : Addr} {fd : FuncData} (F : Fun K "work_plan" "work_plan" s_work_plan f fd) (T : Top w K mg) : FnOk P w K mg base CX0 2 f fd ["room"] (sp_work_plan K) := by
  obtain ⟨f_comings, fd_comings, F_comings, b_comings, m_comings⟩ := T.d_comings
  have G_comings := ok_comings (P := P) (w := w) (base := base) F_comings T
  obtain ⟨f_work_order, fd_work_order, F_work_order, b_work_order, m_work_order⟩ := T.d_work_order
  have G_work_order := ok_work_order (P := P) (w := w) (base := base) F_work_order T
  refine F.ok sc_work_plan (fun vs H Q E h => ?_) (fun cdv A outer s H vs Q E hr h => ?_)
  · obtain ⟨r, hs, bs, rk, rfl, _⟩ := h
    rfl
  obtain ⟨r, hs, bs, rk, rfl, hR, lh, lb, ends, hrk, q⟩ := h
  refine ⟨_, (pss_one (ps_ret (pe_lc (own := [("hand", 1)]) (g := gName 1) (tt := tYes) (by rfl) sc_work_plan.nd (pi_listK K rfl (pe_call G_work_order (hr.mono (by decide)) (by rfl) m_work_order F_work_order.kp b_work_order .nil pass0 (pa_cons (pv 0) pa_nil))) (blkOk_by (own := [("hand", 1)]) (N := N_work_plan) (sc := defScope s_work_plan) (by decide +kernel)) (fun _ _ _ _ _ => (pg_name (i := 1) sc_work_plan.nd rfl (Or.inl rfl))) (fun _ _ _ _ _ => pts_nil) (fun _ _ _ _ _ => (pe_tup (pa_cons (pv 1) (pa_cons (pe_call G_comings (hr.mono (by decide)) (by rfl) m_comings F_comings.kp b_comings .nil pass0 (pa_cons (pv 0) (pa_cons (pv 1) pa_nil))) pa_nil))))))), ?_⟩
  refine ⟨_, rfl, r, hs, bs, rk, rfl, hR, lh, lb, ends, hrk, fun od ord H1 nod hod s1 soon => ?_⟩
  have lo := soon_len soon
  rw [List.length_range] at lo
  refine ⟨od, rfl, ⟨_, SqL.of hod⟩, fun D nD => lc_list (K := K) (a := od) (xs := ord.map nV) (fun i H5 => ∃ pv : List V, H5 D = some (.lst pv) ∧ All2 (PlanAt H D bs H5) pv (ord.take i) ∧ Same H1 H5) ⟨[], upd_same, .nil, same_new nD⟩ (fun i H5 _ ⟨_, _, _, s5⟩ => SqL.of (s5 _ _ hod)) ?_ ?_⟩
  · rintro i x H5 hx ⟨pv, hD, al, s5⟩
    rw [List.getElem?_map] at hx
    cases ek : ord[i]? with
    | none => rw [ek] at hx; cases hx
    | some k =>
    rw [ek] at hx
    obtain rfl : nV k = x := Option.some.inj hx
    have il := (List.getElem?_eq_some_iff.mp ek).1
    refine ⟨rfl, yes_in ⟨_, rfl, _, rfl, _, rfl, r, hs, bs, k, rfl, hR.keep (TK.same (s1.trans s5)), lb, fun l H6 nl hl s6 => ⟨(by show 2 ≤ sizeLine; decide), fun t nt => ⟨pv, same_new nt _ _ (s6 _ _ hD), ?_, pv ++ [V.ref t], upd_same, ?_, Same.own ((s5.trans s6).trans (same_new nt)) nD⟩⟩⟩⟩
    · have := al.length
      rw [List.length_take] at this
      exact small1000 (by omega)
    · rw [List.take_add_one, ek]
      have h6 : All2 (PlanAt H D bs (upd H6 t (.tup [nV k, V.ref l]))) (pv ++ [V.ref t]) (ord.take i ++ [k]) := (al.imp fun _ _ z => z.same (s6.trans (same_new nt))).snoc ⟨t, l, rfl, upd_same, same_new nt _ _ hl, (ne_of_none hD nl).symm, same_none ((s1.trans s5).trans s6) nt, same_none (s1.trans s5) nl⟩
      exact h6.imp fun _ _ z => z.own (same_new nt _ _ (s6 _ _ hD))
  · rintro H5 ⟨pv, hD, al, s5⟩
    rw [List.length_map, List.take_length] at al
    exact q D D ord pv H5 (same_none s1 nD) hD al soon (s1.trans s5)
theorem dget_of {H : Hp} {a : Addr} {kvs : List (Key × V)} {k : Nat} {o : Option V} (e : H a = some (.dK kvs)) (h : valV kvs (kN k) = o) : DGet H a (nV k) o := h ▸ DGet.k (k := kN k) e
def sp_thing_taken (K : PySem.W.Frag) : Sp := fun vs H Q _ => ∃ (v : V) (b : BR) (d : Addr) (kvs : List (Key × V)) (pm : Nat → Option Int), vs = [v, .ref d] ∧ BeltAt H v b ∧ H d = some (.dK kvs) ∧ DM kvs pm ∧ (b.th = [] → (pm b.one).isSome = true) ∧ Q (.int (valB (fun j => (pm j).getD 0) b)) H
theorem ok_thing_taken {f : Addr} {fd : FuncData} (F : Fun K "thing_taken" "thing_taken" s_thing_taken f fd) (T : Top w K mg) : FnOk P w K mg base CX0 1 f fd ["belt", "made"] (sp_thing_taken K) := by
  refine F.ok sc_thing_taken (fun vs H Q E h => ?_) (fun cdv A outer s H vs Q E hr h => ?_)
  · obtain ⟨v, b, d, kvs, pm, rfl, _⟩ := h
    rfl
  obtain ⟨v, b, d, kvs, pm, rfl, ⟨t, g, rfl, e1, e2⟩, hd, dm, av, q⟩ := h
  refine ⟨_, (pss_cons (ps_asg (pv 0) (pg_tupK K rfl rfl (pgs_cons (pg_name (i := 2) sc_thing_taken.nd rfl (Or.inl rfl)) (pgs_cons (pg_name (i := 3) sc_thing_taken.nd rfl (Or.inl rfl)) (pgs_cons (pg_name (i := 4) sc_thing_taken.nd rfl (Or.inl rfl)) pgs_nil)))))
      (pss_one (ps_ret (pe_ifExp (pt_truthK K rfl (pv 4) (by intro _; rfl)) (pe_ix (ix_tupK K rfl) (pv 4) pe_int (fun _ _ => rfl)) (pe_dget (hu_of hr) (pv 1) (pv 2) (fun _ _ => rfl)))))), ?_⟩
  refine ⟨_, rfl, t, _, rfl, SqT.of e1, rfl, _, _, rfl, _, _, rfl, _, _, rfl, rfl, ?_⟩
  refine ⟨_, rfl, _, .inr (.inl ⟨_, SqT.of e2, rfl⟩), ?_⟩
  cases eb : b.th with
  | nil =>
    rw [valB_nil eb] at q
    obtain ⟨x, hx⟩ := Option.isSome_iff_exists.mp (av eb)
    rw [hx] at q
    refine if_bl (fun z => nomatch z) (fun _ => ⟨_, rfl, _, rfl, d, .int x, rfl, dget_of hd ?_, q⟩)
    rw [dm, hx]
    rfl
  | cons x l =>
    have ev : valB (fun j => (pm j).getD 0) b = x := by unfold valB; rw [eb]
    rw [ev] at q
    rw [eb] at e2
    exact if_bl (fun _ => ⟨_, rfl, g, _, _, _, rfl, rfl, SqT.of e2, atI_nat (j := 0) rfl, q⟩) (fun z => nomatch z)
def sp_belt_behind_bell (K : PySem.W.Frag) : Sp := fun vs H Q _ => ∃ (v : V) (b : BR) (t : Addr) (m : List Int), vs = [v, .ref t] ∧ BeltAt H v b ∧ H t = some (.tup (m.map V.int)) ∧ b.one < m.length ∧ b.th.length ≤ 400 ∧ ∀ (u : V) (H' : Hp), BeltAt H' u (nextB m b) → Same H H' → Q u H'
theorem ok_belt_behind_bell {f : Addr} {fd : FuncData} (F : Fun K "belt_behind_bell" "belt_behind_bell" s_belt_behind_bell f fd) (T : Top w K mg) : FnOk P w K mg base CX0 1 f fd ["belt", "made"] (sp_belt_behind_bell K) := by
  refine F.ok sc_belt_behind_bell (fun vs H Q E h => ?_) (fun cdv A outer s H vs Q E hr h => ?_)
  · obtain ⟨v, b, t, m, rfl, _⟩ := h
    rfl
  obtain ⟨v, b, tm, m, rfl, hb, htm, om, lt, q⟩ := h
  obtain ⟨t, g, rfl, e1, e2⟩ := id hb
  refine ⟨_, (pss_cons (ps_asg (pv 0) (pg_tupK K rfl rfl (pgs_cons (pg_name (i := 2) sc_belt_behind_bell.nd rfl (Or.inl rfl)) (pgs_cons (pg_name (i := 3) sc_belt_behind_bell.nd rfl (Or.inl rfl)) (pgs_cons (pg_name (i := 4) sc_belt_behind_bell.nd rfl (Or.inl rfl)) pgs_nil)))))
      (pss_one (ps_ret (pe_ifExp (pt_truthK K rfl (pv 4) (by intro _; rfl)) (pe_tup (pa_cons (pv 2) (pa_cons (pv 3) (pa_cons (pe_op (op_catAK K rfl) (pe_slice (sl_tupAK K rfl) (pv 4) (po_some pe_int) po_none) (pe_tup (pa_cons (pe_ix (ix_tupK K rfl) (pv 1) (pv 2) (fun _ _ => rfl)) pa_nil))) pa_nil)))) (pv 0))))), ?_⟩
  refine ⟨_, rfl, t, _, rfl, SqT.of e1, rfl, _, _, rfl, _, _, rfl, _, _, rfl, rfl, ?_⟩
  refine ⟨_, rfl, _, .inr (.inl ⟨_, SqT.of e2, rfl⟩), ?_⟩
  unfold nextB at q
  cases eb : b.th with
  | nil =>
    rw [if_pos eb] at q
    exact if_bl (fun z => nomatch z) (fun _ => ⟨_, rfl, q _ _ hb (fun _ _ e => e)⟩)
  | cons x l =>
    rw [if_neg (by rw [eb]; exact fun z => nomatch z), eb] at q
    rw [eb] at e2 lt
    have lt : l.length + 1 ≤ 400 := lt
    have ec : cutV ((x :: l).map V.int) (some 1) none = l.map V.int := by
      have := cut_drop ((x :: l).map V.int) 1
      exact this
    refine if_bl (fun _ => ⟨_, rfl, _, rfl, _, rfl, _, rfl, g, _, rfl, SqT.of e2, (fun z => ?_), fun _ p np => ?_⟩) (fun z => nomatch z)
    · exact absurd z.1 (by rw [show (1 : Int) = ((1 : Nat) : Int) from rfl, HT.sIx_nat]; simp)
    rw [ec]
    refine ⟨_, rfl, _, rfl, tm, _, _, _, rfl, rfl, SqT.of (same_new np _ _ htm), at_row om, (by show 1 ≤ sizeLine; decide), fun p2 np2 => ?_⟩
    have s2 := (same_new (o := .tup (l.map V.int)) np).trans (same_new (o := .tup [V.int (gD m b.one)]) np2)
    have hp2 := same_new (o := .tup [V.int (gD m b.one)]) np2 _ _ (upd_same (H := H) (a := p) (o := .tup (l.map V.int)))
    refine ⟨p, p2, _, _, rfl, rfl, SqT.of hp2, SqT.of upd_same, ?_, fun z => ?_, (fun z y => nomatch y), fun z _ p3 np3 => ?_⟩
    · rw [List.length_map]; exact little (by show l.length + 1 ≤ 1000; omega)
    · have zl : l = [] := by cases l with | nil => rfl | cons a b => cases z
      subst zl
      refine ⟨(by show 3 ≤ sizeLine; decide), fun p4 np4 => q (.ref p4) _ ⟨p4, p2, rfl, upd_same, ?_⟩ (s2.trans (same_new np4))⟩
      exact same_new np4 _ _ upd_same
    · refine ⟨(by show 3 ≤ sizeLine; decide), fun p4 np4 => q (.ref p4) _ ⟨p4, p3, rfl, upd_same, ?_⟩ ((s2.trans (same_new np3)).trans (same_new np4))⟩
      have := same_new (o := .tup [nV b.one, nV b.to, V.ref p3]) np4 _ _ (upd_same (H := upd (upd H p (.tup (l.map V.int))) p2 (.tup [V.int (gD m b.one)])) (a := p3) (o := .tup (l.map V.int ++ [V.int (gD m b.one)])))
      rw [this]
      show _ = some (HO.tup ((l ++ [gD m b.one]).map V.int))
      rw [List.map_append]
      rfl
def sp_behind_bell (K : PySem.W.Frag) : Sp := fun vs H Q _ => ∃ (r t : Addr) (hs : List HR) (cur : List BR) (m : List Int), vs = [.ref r, .ref t] ∧ RoomAt H r hs cur ∧ H t = some (.tup (m.map V.int)) ∧ (∀ b ∈ cur, b.one < m.length ∧ b.th.length ≤ 400) ∧ cur.length ≤ 400 ∧ ∀ (p : Addr) (H' : Hp), RoomAt H' p hs (cur.map (nextB m)) → Same H H' → Q (.ref p) H'
theorem ok_behind_bell {f : Addr} {fd : FuncData} (F : Fun K "behind_bell" "behind_bell" s_behind_bell f fd) (T : Top w K mg) : FnOk P w K mg base CX0 2 f fd ["room", "made"] (sp_behind_bell K) := by
  obtain ⟨f_belt_behind_bell, fd_belt_behind_bell, F_belt_behind_bell, b_belt_behind_bell, m_belt_behind_bell⟩ := T.d_belt_behind_bell
  have G_belt_behind_bell := ok_belt_behind_bell (P := P) (w := w) (base := base) F_belt_behind_bell T
  refine F.ok sc_behind_bell (fun vs H Q E h => ?_) (fun cdv A outer s H vs Q E hr h => ?_)
  · obtain ⟨r, t, hs, cur, m, rfl, _⟩ := h
    rfl
  obtain ⟨r, t, hs, cur, m, rfl, hR, ht, hb, lc, q⟩ := h
  obtain ⟨ha, ba, hv, bv, er, eh, eb, alh, alb⟩ := hR.ex
  have lbv := alb.length
  refine ⟨_, (pss_cons (ps_asg (pv 0) (pg_tupK K rfl rfl (pgs_cons (pg_name (i := 2) sc_behind_bell.nd rfl (Or.inl rfl)) (pgs_cons (pg_name (i := 3) sc_behind_bell.nd rfl (Or.inl rfl)) pgs_nil))))
      (pss_one (ps_ret (pe_tup (pa_cons (pv 2) (pa_cons (pe_callTy (call_tuple_ofK K rfl) (by rfl) T.m_tuple (by decide +kernel) (pa_cons (pe_lc (own := [("belt", 4)]) (g := gName 4) (tt := tYes) (by rfl) sc_behind_bell.nd (pi_tupK K rfl (pv 3)) (blkOk_by (own := [("belt", 4)]) (N := N_behind_bell) (sc := defScope s_behind_bell) (by decide +kernel)) (fun _ _ _ _ _ => (pg_name (i := 4) sc_behind_bell.nd rfl (Or.inl rfl))) (fun _ _ _ _ _ => pts_nil) (fun _ _ _ _ _ => (pe_call G_belt_behind_bell (hr.mono (by decide)) (by rfl) m_belt_behind_bell F_belt_behind_bell.kp b_belt_behind_bell .nil pass0 (pa_cons (pv 4) (pa_cons (pv 1) pa_nil))))) pa_nil)) pa_nil)))))), ?_⟩
  refine ⟨_, rfl, r, _, rfl, SqT.of er, rfl, _, _, rfl, _, _, rfl, rfl, ?_⟩
  refine ⟨_, rfl, _, rfl, ba, rfl, ⟨_, SqT.of eb⟩, fun D nD => lc_tup (K := K) (a := ba) (xs := bv) (fun i H5 => ∃ lv : List V, H5 D = some (.lst lv) ∧ All2 (BeltAt H5) lv ((cur.take i).map (nextB m)) ∧ Same H H5) ⟨[], upd_same, .nil, same_new nD⟩ (fun i H5 _ ⟨_, _, _, s5⟩ => SqT.of (s5 _ _ eb)) ?_ ?_⟩
  · rintro i x H5 hx ⟨lv, hD, al, s5⟩
    obtain ⟨b, eb2, hB⟩ := alb.getL hx
    have il := (List.getElem?_eq_some_iff.mp eb2).1
    obtain ⟨b1, b2⟩ := hb b (List.mem_of_getElem? eb2)
    refine ⟨rfl, yes_in ⟨_, rfl, _, rfl, x, b, t, m, rfl, hB.keep (TK.same s5), s5 _ _ ht, b1, b2, fun u H6 hu s6 => ⟨lv, s6 _ _ hD, ?_, lv ++ [u], upd_same, ?_, Same.own (s5.trans s6) nD⟩⟩⟩
    · have := al.length
      rw [List.length_map, List.length_take] at this
      exact small1000 (by omega)
    · rw [List.take_add_one, eb2, List.map_append]
      exact ((al.imp fun _ _ z => z.keep (TK.same s6)).snoc hu).imp fun _ _ z => z.keep (TK.lst (s6 _ _ hD))
  · rintro H5 ⟨lv, hD, al, s5⟩
    rw [lbv, List.take_length] at al
    refine ⟨D, _, rfl, .inl ⟨SqL.of hD, fun p np => ⟨(by show 2 ≤ sizeLine; decide), fun p2 np2 => ?_⟩⟩⟩
    have s6 : Same H (upd (upd H5 p (.tup lv)) p2 (.tup [V.ref ha, V.ref p])) := (s5.trans (same_new np)).trans (same_new np2)
    exact q p2 _ ⟨ha, p, hv, lv, upd_same, s6 _ _ eh, same_new np2 _ _ upd_same, alh.imp fun _ _ z => z.keep (TK.same s6), al.imp fun _ _ z => z.keep ((TK.new np).trans (TK.new np2))⟩ s6
end
theorem filt_map {α β : Type} (p : Option α → Bool) (g : Option α → β) (l : List α) : ∀ n, n ≤ l.length → ((List.range n).filter fun i => p l[i]?).map (fun i => g l[i]?) = ((l.take n).filter fun b => p (some b)).map fun b => g (some b)
  | 0, _ => rfl
  | n + 1, h => by
    have e : l[n]? = some l[n] := List.getElem?_eq_getElem (by omega)
    rw [filt_succ, List.map_append, filt_map p g l n (by omega), List.take_add_one, e, List.filter_append, List.map_append]
    congr 1
    cases k : p (some l[n])
    · rw [if_neg Bool.false_ne_true]
      simp [k]
    · rw [if_pos rfl]
      simp [k, e]
def valI (cur : List BR) (f : Nat → Int) (i : Nat) : Int := match cur[i]? with | some b => valB f b | none => 0
theorem coming_takes (cur : List BR) (f : Nat → Int) (k : Nat) : (comingN cur k).map (valI cur f) = takes cur f k := by
  have := filt_map (fun o => decide (o.map BR.to = some k)) (fun o : Option BR => match o with | some b => valB f b | none => 0) cur cur.length (Nat.le_refl _)
  rw [List.take_length] at this
  refine this.trans ?_
  unfold takes
  congr 1
  refine List.filter_congr fun b _ => ?_
  simp
theorem takes_len {cur : List BR} {f : Nat → Int} {k : Nat} : (takes cur f k).length = (cur.map BR.to).count k := by
  unfold takes
  rw [List.length_map, List.count_eq_countP, List.countP_map, List.countP_eq_length_filter]
  congr 1
theorem coming_mem {cur : List BR} {k i : Nat} (h : i ∈ comingN cur k) : ∃ b, cur[i]? = some b ∧ b.to = k := by
  unfold comingN at h
  have h := (List.mem_filter.mp h).2
  have h := of_decide_eq_true h
  cases e : cur[i]? with
  | none => rw [e] at h; cases h
  | some b => rw [e] at h; exact ⟨b, rfl, Option.some.inj h⟩
theorem coming_len {cur : List BR} {k : Nat} : (comingN cur k).length ≤ cur.length := filt_len _
/-- what made_by asks of a good hand and what it takes -/
theorem getD_map {xs : List Int} {j : Nat} (h : j < xs.length) : (xs.map V.int)[j]? = some (.int (xs.getD j 0)) := by
  rw [List.getElem?_map, List.getElem?_eq_getElem h, List.getD_eq_getElem?_getD, List.getElem?_eq_getElem h]; rfl
theorem needs_some {wd : Str} (h1 : wd ≠ "in") (h2 : wd ≠ "always") : 1 ≤ needs wd := by
  unfold needs
  rw [if_neg (by simp [h1, h2])]
  split
  · exact Int.le_refl _
  · split <;> decide
theorem needs_two {wd : Str} (h1 : wd ≠ "in") (h2 : wd ≠ "always") (h3 : wd ≠ "times") (h4 : wd ≠ "same") (h5 : wd ≠ "out") : 2 ≤ needs wd := by
  unfold needs
  rw [if_neg (by simp [h1, h2]), if_neg (by simp [h3, h4, h5])]
  split <;> decide
theorem needs_pick : needs "pick" = 3 := by decide +kernel
structure Args (h : HR) (rl ts : List V) (n a b c : Int) : Prop where
  r0 : rl[0]? = some (.str h.wd)
  r1 : h.wd = "always" ∨ h.wd = "times" → rl[1]? = some (.int n)
  t0 : h.wd ≠ "always" → ts[0]? = some (.int a)
  t1 : h.wd = "pick" ∨ (h.wd ≠ "always" ∧ h.wd ≠ "times" ∧ h.wd ≠ "same" ∧ h.wd ≠ "out") → ts[1]? = some (.int b)
  t2 : h.wd = "pick" → ts[2]? = some (.int c)
  big : -(2 ^ 64) < n ∧ n < 2 ^ 64
theorem args_of {h : HR} (g : GoodHand h) (w : h.wd ≠ "in") {xs : List Int} (hl : ((xs.length : Nat) : Int) = needs h.wd) : Args h (ruleL h) (xs.map V.int) (h.no.getD 0) (xs.getD 0 0) (xs.getD 1 0) (xs.getD 2 0) := by
  refine ⟨rfl, fun e => ?_, fun e => getD_map ?_, fun e => getD_map ?_, fun e => getD_map ?_, ?_⟩
  · have k : h.no.isSome = true := by
      rcases g.1 with k | k
      · exact k.no.mpr e.symm
      · exfalso
        rcases k.1 with z | z <;> rcases e with e | e <;> rw [z] at e <;> exact absurd e (by decide +kernel)
    obtain ⟨n, hn⟩ := Option.isSome_iff_exists.mp k
    show (V.str h.wd :: (match h.no with | none => [] | some n => [.int n]))[1]? = _
    rw [hn]
    rfl
  · have := needs_some w e
    omega
  · rcases e with e | ⟨e1, e2, e3, e4⟩
    · rw [e, needs_pick] at hl
      omega
    · have := needs_two w e1 e2 e3 e4
      omega
  · rw [e, needs_pick] at hl
    omega
  · cases e : h.no with
    | none => decide
    | some n =>
      rcases g.1 with k | k
      · have := k.big n e
        show -(2 ^ 64) < n ∧ n < 2 ^ 64
        omega
      · rw [k.2.1] at e
        cases e
section
variable {P : Program} {w : World} {K : PySem.W.Frag} {mg : Str → Option Value} {base : Heap}
structure BellOk (hs : List HR) (cur : List BR) : Prop where
  hands : hs.length ≤ 12
  belts : cur.length ≤ 20
  good : ∀ h ∈ hs, GoodHand h
  ends : ∀ b ∈ cur, b.one < hs.length ∧ b.to < hs.length
  count : ∀ k h, hs[k]? = some h → (((cur.map BR.to).count k : Nat) : Int) = needs h.wd
theorem dget0 {H : Hp} {a : Addr} {kvs : List (Key × V)} {k : Nat} {o : Option V} (e : H a = some (.dK kvs)) (h : valV kvs (kN k) = o) : DGet H a (.int (0 + ((k : Nat) : Int))) o := by
  rw [Int.zero_add]
  exact dget_of e h
def sp_made_at_bell (K : PySem.W.Frag) : Sp := fun vs H Q _ => ∃ (r pl t D : Addr) (Z : Hp) (hs : List HR) (cur : List BR) (pv : List V) (ord : List Nat) (ins : List Int), vs = [.ref r, .ref pl, .ref t] ∧ RoomAt H r hs cur ∧ H pl = some (.lst pv) ∧ All2 (PlanAt Z D cur H) pv ord ∧ H t = some (.tup (ins.map V.int)) ∧
  BellOk hs cur ∧ Soon (looseOf cur) (List.range hs.length) ord ∧ ins.length = (doorsOf "in" hs).length ∧ ∀ (p : Addr) (m : List Int) (H' : Hp), H p = none → H' p = some (.tup (m.map V.int)) → IsBell hs cur ins m → Same H H' → Q (.ref p) H'
theorem ok_made_at_bell {f : Addr} {fd : FuncData} (F : Fun K "made_at_bell" "made_at_bell" s_made_at_bell f fd) (T : Top w K mg) : FnOk P w K mg base CX0 3 f fd ["room", "plan", "things"] (sp_made_at_bell K) := by
  obtain ⟨f_doors_in, fd_doors_in, F_doors_in, b_doors_in, m_doors_in⟩ := T.d_doors_in
  have G_doors_in := ok_doors_in (P := P) (w := w) (base := base) F_doors_in T
  obtain ⟨f_made_by, fd_made_by, F_made_by, b_made_by, m_made_by⟩ := T.d_made_by
  have G_made_by := ok_made_by (P := P) (w := w) (base := base) F_made_by T
  obtain ⟨f_thing_taken, fd_thing_taken, F_thing_taken, b_thing_taken, m_thing_taken⟩ := T.d_thing_taken
  have G_thing_taken := ok_thing_taken (P := P) (w := w) (base := base) F_thing_taken T
  refine F.ok sc_made_at_bell (fun vs H Q E h => ?_) (fun cdv A outer s H vs Q E hr h => ?_)
  · obtain ⟨r, pl, t, D, Z, hs, cur, pls, ord, ins, rfl, _⟩ := h
    rfl
  obtain ⟨r, pl, t, D0, Z0, hs, cur, pls, ord, ins, rfl, hR, hpl, alp, ht, ok, soon, hi, q⟩ := h
  obtain ⟨ha, ba, hv, bv, er, eh, eb, alh, alb⟩ := hR.ex
  have lh := ok.hands
  have lbb := ok.belts
  have lhv := alh.length
  have lo := soon_len soon
  rw [List.length_range] at lo
  have lpv := alp.length
  have ld := doors_len (z := "in") (hs := hs)
  refine ⟨_, (pss_cons (ps_asg (pv 0) (pg_tupK K rfl rfl (pgs_cons (pg_name (i := 3) sc_made_at_bell.nd rfl (Or.inl rfl)) (pgs_cons (pg_name (i := 4) sc_made_at_bell.nd rfl (Or.inr rfl)) pgs_nil))))
      (pss_cons (ps_set (i := 5) sc_made_at_bell.nd rfl (Or.inr rfl) (pe_dictZip K rfl rfl (by rfl) T.m_dict (by rfl) T.m_zip (pa_cons (pe_call G_doors_in (hr.mono (by decide)) (by rfl) m_doors_in F_doors_in.kp b_doors_in .nil pass0 (pa_cons (pv 0) pa_nil)) (pa_cons (pv 2) pa_nil))))
      (pss_cons (ps_for PassesOwn.never rfl (pi_listK K rfl (pv 1)) (pg_tupK K rfl rfl (pgs_cons (pg_name (i := 6) sc_made_at_bell.nd rfl (Or.inl rfl)) (pgs_cons (pg_name (i := 7) sc_made_at_bell.nd rfl (Or.inl rfl)) pgs_nil)))
        (pss_one (ps_if (pt_cmp (pc_dnotin (hu_of hr) (pv 6) (pv 5)) (by with_unfolding_all rfl)) (pss_cons (ps_setLc (i := 8) (own := [("number", 9)]) (g := gName 9) (tt := tYes) (by rfl) sc_made_at_bell.nd rfl rfl (sw_true rfl rfl rfl (by decide +kernel)) (pi_listK K rfl (pv 7)) (blkOk_by (own := [("number", 9)]) (N := N_made_at_bell) (sc := defScope s_made_at_bell) (by decide +kernel)) (fun _ _ _ _ _ => (pg_name (i := 9) sc_made_at_bell.nd rfl (Or.inl rfl))) (fun _ _ _ _ _ => pts_nil) (fun _ _ _ _ _ => (pe_call G_thing_taken (hr.mono (by decide)) (by rfl) m_thing_taken F_thing_taken.kp b_thing_taken .nil pass0 (pa_cons (pe_ix (ix_tupK K rfl) (pv 4) (pv 9) (fun _ _ => rfl)) (pa_cons (pv 5) pa_nil)))))
      (pss_one (ps_dput (hu_of hr) (pv 5) (pv 6) (pe_call G_made_by (hr.mono (by decide)) (by rfl) m_made_by F_made_by.kp b_made_by .nil pass0 (pa_cons (pe_ix (ix_tupK K rfl) (pe_ix (ix_tupK K rfl) (pv 3) (pv 6) (fun _ _ => rfl)) pe_int (fun _ _ => rfl)) (pa_cons (pe_callTy (call_tuple_ofK K rfl) (by rfl) T.m_tuple (by decide +kernel) (pa_cons (pv 8) pa_nil)) pa_nil))) (by rfl)))) pss_nil)))
      (pss_one (ps_ret (pe_callTy (call_tuple_ofK K rfl) (by rfl) T.m_tuple (by decide +kernel) (pa_cons (pe_lc (own := [("hand", 6)]) (g := gName 6) (tt := tYes) (by rfl) sc_made_at_bell.nd (pi_range1 (by rfl) T.m_range (pa_cons (pe_callB (call_len_seqK K rfl) (by rfl) T.m_len (by decide +kernel) (pa_cons (pv 3) pa_nil)) pa_nil)) (blkOk_by (own := [("hand", 6)]) (N := N_made_at_bell) (sc := defScope s_made_at_bell) (by decide +kernel)) (fun _ _ _ _ _ => (pg_name (i := 6) sc_made_at_bell.nd rfl (Or.inl rfl))) (fun _ _ _ _ _ => pts_nil) (fun _ _ _ _ _ => (pe_dget (hu_of hr) (pv 5) (pv 6) (fun _ _ => rfl)))) pa_nil))))))), ?_⟩
  refine ⟨_, rfl, r, _, rfl, SqT.of er, rfl, _, _, rfl, _, _, rfl, rfl, ?_⟩
  refine ⟨_, rfl, r, hs, cur, rfl, hR, by omega, ok.good, fun dd H1 ndd hdd s1 => ⟨_, rfl, dd, t, (doorsOf "in" hs).map kN, ins.map V.int, rfl, SqL.of (by rw [hdd, List.map_map]; rfl), SqT.of (s1 _ _ ht), fun d nd => ?_⟩⟩
  have nd0 : H d = none := same_none s1 nd
  have s2 : Same H (upd H1 d (.dK (mergeK [] (((doorsOf "in" hs).map kN).zip (ins.map V.int))))) := s1.trans (same_new nd)
  have len0 : (mergeK [] (((doorsOf "in" hs).map kN).zip (ins.map V.int))).length ≤ 12 := by
    refine Nat.le_trans (length_mergeK _ []) ?_
    rw [List.length_zip, List.length_map, List.length_map, List.length_nil]
    omega
  refine ⟨_, rfl, pl, rfl, ⟨_, SqL.of (s2 _ _ hpl)⟩, for_list (K := K) (a := pl) (xs := pls) (fun i σ H2 => ∃ (v6 v7 v8 v9 : Option V) (kvs : List (Key × V)) (pm : Nat → Option Int) (left : List Nat), σ = [some (.ref r), some (.ref pl), some (.ref t), some (.ref ha), some (.ref ba), some (.ref d), v6, v7, v8, v9] ∧ H2 d = some (.dK kvs) ∧ DM kvs pm ∧ Part hs cur ins pm ∧ kvs.length ≤ 12 + i ∧ Same H H2 ∧ Soon (looseOf cur) left (ord.drop i) ∧ (∀ k, k < hs.length → k ∉ left → (pm k).isSome = true) ∧ (∀ (k : Nat) (h : HR), hs[k]? = some h → h.wd = "in" → (pm k).isSome = true))
    ⟨none, none, none, none, _, doorM hs ins, List.range hs.length, rfl, upd_same, doorM_dm hi, doorM_part, len0, s2, soon, fun k hk n => absurd (List.mem_range.mpr hk) n, fun k h e w => doorM_all hi e w⟩ (fun i σ H2 _ ⟨_, _, _, _, _, _, _, _, _, _, _, _, s, _⟩ => SqL.of (s _ _ hpl)) ?_ ?_⟩
  · rintro i x σ H2 hx ⟨v6, v7, v8, v9, kvs, pm, left, rfl, hd, dm, part, lk, s3, so, all, doors⟩
    obtain ⟨k, ek, ⟨t2, l, rfl, p1, p2, _⟩⟩ := alp.getL hx
    have il := (List.getElem?_eq_some_iff.mp ek).1
    have ed : ord.drop i = k :: ord.drop (i + 1) := by
      rw [List.drop_eq_getElem_cons il, (List.getElem?_eq_some_iff.mp ek).2]
    rw [ed] at so
    obtain ⟨kl, fr, so2⟩ : k ∈ left ∧ free (looseOf cur) left k ∧ Soon (looseOf cur) (left.erase k) (ord.drop (i + 1)) := by
      cases so with
      | cons a b c d => exact ⟨a, b, d⟩
    have kn : k < hs.length := by
      have e := soon_mem soon k (List.mem_of_getElem? ek)
      exact List.mem_range.mp e
    have eh2 : hs[k]? = some hs[k] := List.getElem?_eq_getElem kn
    refine ⟨t2, _, rfl, SqT.of (s3 _ _ p1), rfl, _, _, rfl, _, _, rfl, rfl, ?_⟩
    refine ⟨_, rfl, _, rfl, d, _, rfl, dget_of hd (dm k), _, rfl, if_bl (fun c => ?_) (fun c => ?_)⟩
    · have new : pm k = none := by
        cases e : pm k with
        | none => rfl
        | some v => rw [e] at c; cases c
      have win : hs[k].wd ≠ "in" := fun z => by
        have := doors k _ eh2 z
        rw [new] at this
        cases this
      have there : ∀ b ∈ cur, b.to = k → b.th = [] → (pm b.one).isSome = true := fun b b1 b2 b3 => all b.one (ok.ends b b1).1 (fr _ (mem_loose b1 b3) b2)
      have hl2 := s3 _ _ p2
      refine ⟨_, rfl, l, rfl, ⟨_, SqL.of hl2⟩, fun D nD => lc_list (K := K) (a := l) (xs := (comingN cur k).map nV) (fun j H5 => H5 D = some (.lst ((((comingN cur k).take j).map (valI cur fun j => (pm j).getD 0)).map V.int)) ∧ H5 d = some (.dK kvs) ∧ Same H2 H5) ⟨upd_same, same_new nD _ _ hd, same_new nD⟩ (fun j H5 _ ⟨_, _, s5⟩ => SqL.of (s5 _ _ hl2)) ?_ ?_⟩
      · rintro j x H5 hx ⟨hD, hd5, s5⟩
        rw [List.getElem?_map] at hx
        cases ej : (comingN cur k)[j]? with
        | none => rw [ej] at hx; cases hx
        | some n =>
        rw [ej] at hx
        obtain rfl : nV n = x := Option.some.inj hx
        have jl := (List.getElem?_eq_some_iff.mp ej).1
        have cl := coming_len (cur := cur) (k := k)
        obtain ⟨b, e1, e2⟩ := coming_mem (List.mem_of_getElem? ej)
        obtain ⟨v, ev, hB⟩ := alb.get e1
        have evi : valI cur (fun j => (pm j).getD 0) n = valB (fun j => (pm j).getD 0) b := by unfold valI; rw [e1]
        refine ⟨rfl, yes_in ⟨_, rfl, _, rfl, ba, _, _, _, rfl, rfl, SqT.of (s5 _ _ (s3 _ _ eb)), atI_nat ev, _, rfl, v, b, d, kvs, pm, rfl, hB.keep (TK.same (s3.trans s5)), hd5, dm, fun z => there b (List.mem_of_getElem? e1) e2 z, _, hD, ?_, ?_, ?_, Same.own s5 nD⟩⟩
        · rw [List.length_map, List.length_map, List.length_take]; exact small1000 (by omega)
        · rw [upd_same, List.take_add_one, ej, List.map_append, List.map_append, ← evi]; rfl
        · rw [upd_ne (ne_of_none hd nD)]; exact hd5
      · rintro H5 ⟨hD, hd5, s5⟩
        rw [List.length_map, List.take_length, coming_takes] at hD
        obtain ⟨xs, hxs⟩ : ∃ xs, xs = takes cur (fun j => (pm j).getD 0) k := ⟨_, rfl⟩
        rw [← hxs] at hD
        have lx : ((xs.length : Nat) : Int) = needs hs[k].wd := by rw [hxs, takes_len]; exact ok.count k _ eh2
        obtain ⟨v, ev, ⟨tk, rk2, rfl, h1, h2⟩⟩ := alh.get eh2
        have s4 := s3.trans s5
        have A := args_of (ok.good _ (List.mem_of_getElem? eh2)) win lx
        refine ⟨_, rfl, _, rfl, ha, _, _, _, rfl, rfl, SqT.of (s4 _ _ eh), atI_nat ev, tk, _, _, _, rfl, rfl, SqT.of (s4 _ _ h1), atI_nat (j := 0) rfl, _, rfl, D, _, rfl, .inl ⟨SqL.of hD, fun tt ntt => ?_⟩⟩
        have s5b := s4.trans (same_new (o := .tup (xs.map V.int)) ntt)
        refine ⟨rk2, tt, _, _, hs[k].wd, _, _, _, _, rfl, SqT.of (s5b _ _ h2), SqT.of upd_same, A.r0, A.r1, A.t0, A.t1, A.t2, A.big, fun H6 s6 => ?_⟩
        have hd6 := s6 _ _ (same_new ntt _ _ hd5)
        refine ⟨_, rfl, _, rfl, d, _, rfl, DPut.k (k := kN k) hd6 (small1000 (by omega)), ?_⟩
        refine ⟨_, _, _, _, _, putM pm k (mkR hs[k] xs), left.erase k, rfl, upd_same, dm.put k _, by rw [hxs]; exact part.put eh2 win new there, ?_, Same.own (s5b.trans s6) nd0, so2, fun j hj n => ?_, fun j h e w => ?_⟩
        · have := length_putK kvs (kN k) (V.int (mkR hs[k] xs))
          exact Nat.le_trans this (by omega)
        · by_cases e : j = k
          · rw [show putM pm k (mkR hs[k] xs) j = some _ from if_pos e]; rfl
          · rw [show putM pm k (mkR hs[k] xs) j = pm j from if_neg e]
            exact all j hj fun z => n ((List.mem_erase_of_ne e).mpr z)
        · by_cases e' : j = k
          · rw [show putM pm k (mkR hs[k] xs) j = some _ from if_pos e']; rfl
          · rw [show putM pm k (mkR hs[k] xs) j = pm j from if_neg e']
            exact doors j h e w
    · have old : (pm k).isSome = true := by
        cases e : pm k with
        | none => rw [e] at c; cases c
        | some v => rfl
      refine ⟨_, _, _, _, kvs, pm, left.erase k, rfl, hd, dm, part, by omega, s3, so2, fun j hj n => ?_, doors⟩
      by_cases e : j = k
      · rw [e]; exact old
      · exact all j hj fun z => n ((List.mem_erase_of_ne e).mpr z)
  · rintro σ H2 ⟨v6, v7, v8, v9, kvs, pm, left, rfl, hd, dm, part, lk, s3, so, all, doors⟩
    rw [List.drop_eq_nil_of_le (by omega)] at so
    have el : left = [] := by
      cases so
      rfl
    subst el
    have full : ∀ k, k < hs.length → (pm k).isSome = true := fun k hk => all k hk (fun z => nomatch z)
    refine ⟨_, rfl, ha, _, rfl, .inr (SqT.of (s3 _ _ eh)), _, rfl, by omega, by omega, fun D nD => lc_range (lo := 0) (n := hv.length) (fun j H5 => H5 D = some (.lst ((fullM j pm).map V.int)) ∧ H5 d = some (.dK kvs) ∧ Same H2 H5) ⟨upd_same, same_new nD _ _ hd, same_new nD⟩ ?_ ?_⟩
    · rintro j H5 hj ⟨hD, hd5, s5⟩
      obtain ⟨v, ev⟩ := Option.isSome_iff_exists.mp (full j (by omega))
      refine ⟨rfl, yes_in ⟨_, rfl, _, rfl, d, .int v, rfl, dget0 hd5 (by rw [dm, ev]; rfl), _, hD, ?_, ?_, ?_, Same.own s5 nD⟩⟩
      · rw [List.length_map, List.length_map, List.length_range]; exact small1000 (by omega)
      · rw [upd_same]
        unfold fullM
        rw [List.range_succ, List.map_append, List.map_append]
        simp [ev]
      · rw [upd_ne (ne_of_none hd nD)]; exact hd5
    · rintro H5 ⟨hD, hd5, s5⟩
      rw [lhv] at hD
      exact ⟨D, _, rfl, .inl ⟨SqL.of hD, fun p np => q p _ _ (same_none (s3.trans s5) np) upd_same (part.full full) ((s3.trans s5).trans (same_new np))⟩⟩
end
/-- a list or a tuple of rows -/
def RowsAt (H : Hp) (a : Addr) (rows : List (List Int)) : Prop := ∃ rv : List V, (H a = some (.lst rv) ∨ H a = some (.tup rv)) ∧ All2 (RowAt H) rv rows
theorem RowsAt.same {H H' : Hp} {a : Addr} {rows : List (List Int)} (h : RowsAt H a rows) (s : Same H H') : RowsAt H' a rows := by
  obtain ⟨rv, e, al⟩ := h
  exact ⟨rv, e.imp (s _ _) (s _ _), al.imp fun _ _ z => z.keep (TK.same s)⟩
theorem either_stays {H H' : Hp} {a : Addr} {xs : List V} (s : Same H H') (h : H a = some (.lst xs) ∨ H a = some (.tup xs)) : H' a = H a := by
  rcases h with e | e <;> rw [s _ _ e, e]
theorem or_seq {K : PySem.W.Frag} {te : TE} {σ : L2.St} {H : Hp} {R : It → Hp → Prop} {a : Addr} {xs : List V} (ht : ∀ Q : VK, Q (.ref a) H → te σ H Q) (h : H a = some (.lst xs) ∨ H a = some (.tup xs))
    (k : ∀ J : It, (∀ i H', H' a = H a → i < xs.length → J.go i H') → (∀ H', H' a = H a → J.stop xs.length H') → (∀ i H' x H'', H' a = H a → J.yld i H' x H'' → xs[i]? = some x ∧ H'' = H') → R J H) :
    iList K te σ H R ∨ iTup K te σ H R := by
  rcases h with e | e
  · refine .inl (ht _ ⟨a, rfl, ⟨_, SqL.of e⟩, k _ (fun i H' q hi => ?_) (fun H' q => ?_) fun i H' x H'' q y => ?_⟩)
    · exact ⟨xs, _, SqL.of (q.trans e), List.getElem?_eq_getElem hi⟩
    · exact ⟨xs, SqL.of (q.trans e), Nat.le_refl _⟩
    · exact ⟨y.2 _ (SqL.of (q.trans e)), y.1⟩
  · refine .inr (ht _ ⟨a, rfl, ⟨_, SqT.of e⟩, k _ (fun i H' q hi => ?_) (fun H' q => ?_) fun i H' x H'' q y => ?_⟩)
    · exact ⟨xs, _, SqT.of (q.trans e), List.getElem?_eq_getElem hi⟩
    · exact ⟨xs, SqT.of (q.trans e), Nat.le_refl _⟩
    · exact ⟨y.2 _ (SqT.of (q.trans e)), y.1⟩
theorem map_to (bs : List BR) (ms : List (List Int)) : (stand bs ms).map BR.to = bs.map BR.to := by
  rw [List.map_map]
  exact List.map_congr_left fun b _ => stand_to ms b
theorem coming_stand (bs : List BR) (ms : List (List Int)) (k : Nat) : comingN (stand bs ms) k = comingN bs k := by
  unfold comingN
  rw [List.length_map]
  refine List.filter_congr fun i _ => ?_
  rw [List.getElem?_map]
  cases bs[i]? with
  | none => rfl
  | some b =>
    show decide (some (standB ms b).to = some k) = decide (some b.to = some k)
    rw [stand_to]
theorem RoomOk.bell {hs : List HR} {bs : List BR} (ok : RoomOk hs bs) (ms : List (List Int)) : BellOk hs (stand bs ms) := by
  refine ⟨ok.hands, by rw [List.length_map]; exact ok.many, ok.good, fun b hb => ?_, fun k h e => by rw [map_to]; exact ok.count k h e⟩
  obtain ⟨c, hc, rfl⟩ := List.mem_map.mp hb
  rw [stand_one, stand_to]
  exact ok.ends c hc
theorem RoomOk.rk {hs : List HR} {bs : List BR} (ok : RoomOk hs bs) : ∃ rk : Nat → Int, ∀ p ∈ looseOf bs, rk p.1 < rk p.2 := by
  obtain ⟨rk, h⟩ := ok.rank
  refine ⟨rk, fun p hp => ?_⟩
  obtain ⟨b, hb, rfl⟩ := List.mem_map.mp hp
  obtain ⟨h1, h2⟩ := List.mem_filter.mp hb
  exact h b h1 (List.isEmpty_iff.mp h2)
theorem out_lt {hs : List HR} {m : List Int} (hl : m.length = hs.length) : ∀ k ∈ doorsOf "out" hs, k < m.length := fun k hk => by
  obtain ⟨h, e, _⟩ := mem_doors.mp hk
  have := (List.getElem?_eq_some_iff.mp e).1
  omega
section
variable {P : Program} {w : World} {K : PySem.W.Frag} {mg : Str → Option Value} {base : Heap}
def sp_worked (K : PySem.W.Frag) : Sp := fun vs H Q _ => ∃ (r a : Addr) (hs : List HR) (bs : List BR) (rows : List (List Int)), vs = [.ref r, .ref a] ∧ RoomAt H r hs bs ∧ RoomOk hs bs ∧ RowsAt H a rows ∧ (∀ x ∈ rows, x.length = (doorsOf "in" hs).length) ∧ rows.length ≤ 100 ∧
  ∀ (p : Addr) (ov : List V) (ms : List (List Int)) (H' : Hp), H p = none → H' p = some (.lst ov) → All2 (RowAt H') ov ms → WS hs bs rows ms → Same H H' → Q (.ref p) H'
theorem ok_worked {f : Addr} {fd : FuncData} (F : Fun K "worked" "worked" s_worked f fd) (T : Top w K mg) : FnOk P w K mg base CX0 4 f fd ["room", "rows"] (sp_worked K) := by
  obtain ⟨f_work_plan, fd_work_plan, F_work_plan, b_work_plan, m_work_plan⟩ := T.d_work_plan
  have G_work_plan := ok_work_plan (P := P) (w := w) (base := base) F_work_plan T
  obtain ⟨f_made_at_bell, fd_made_at_bell, F_made_at_bell, b_made_at_bell, m_made_at_bell⟩ := T.d_made_at_bell
  have G_made_at_bell := ok_made_at_bell (P := P) (w := w) (base := base) F_made_at_bell T
  obtain ⟨f_behind_bell, fd_behind_bell, F_behind_bell, b_behind_bell, m_behind_bell⟩ := T.d_behind_bell
  have G_behind_bell := ok_behind_bell (P := P) (w := w) (base := base) F_behind_bell T
  refine F.ok sc_worked (fun vs H Q E h => ?_) (fun cdv A outer s H vs Q E hr h => ?_)
  · obtain ⟨r, a, hs, bs, rows, rfl, _⟩ := h
    rfl
  obtain ⟨r, a, hs, bs, rows, rfl, hR, ok, ⟨rv, hrv, alr⟩, hw, lr, q⟩ := h
  have lh := ok.hands
  have lb := ok.many
  have lrv := alr.length
  obtain ⟨rk, hrk⟩ := ok.rk
  refine ⟨_, (pss_cons (ps_set (i := 2) sc_worked.nd rfl (Or.inl rfl) (pe_call G_work_plan (hr.mono (by decide)) (by rfl) m_work_plan F_work_plan.kp b_work_plan .nil pass0 (pa_cons (pv 0) pa_nil)))
      (pss_cons (ps_set (i := 3) sc_worked.nd rfl (Or.inl rfl) (pv 0))
      (pss_cons (ps_set (i := 4) sc_worked.nd rfl (Or.inl rfl) (pe_lst pa_nil))
      (pss_cons (ps_for PassesOwn.never rfl (pi_or (pi_listK K rfl (pv 1)) (pi_tupK K rfl (pv 1))) (pg_name (i := 5) sc_worked.nd rfl (Or.inl rfl))
        (pss_cons (ps_set (i := 6) sc_worked.nd rfl (Or.inl rfl) (pe_call G_made_at_bell (hr.mono (by decide)) (by rfl) m_made_at_bell F_made_at_bell.kp b_made_at_bell .nil pass0 (pa_cons (pv 3) (pa_cons (pv 2) (pa_cons (pv 5) pa_nil)))))
      (pss_cons (ps_set (i := 3) sc_worked.nd rfl (Or.inl rfl) (pe_call G_behind_bell (hr.mono (by decide)) (by rfl) m_behind_bell F_behind_bell.kp b_behind_bell .nil pass0 (pa_cons (pv 3) (pa_cons (pv 6) pa_nil))))
      (pss_one (ps_expr (pe_bmK K rfl PySem.F.plainAttrs_list PySem.F.slot_list_append PySem.F.type_list_append mt_append (pv 4) (pa_cons (pv 6) pa_nil)))))))
      (pss_one (ps_ret (pv 4))))))), ?_⟩
  refine ⟨_, rfl, r, hs, bs, rk, rfl, hR, by omega, by omega, ok.ends, hrk, fun pl D ord pls H1 npl hpl alp soon s1 => ?_⟩
  refine ⟨_, rfl, (by show 0 ≤ sizeLine; decide), fun tl ntl => ?_⟩
  have s2 : Same H (upd H1 tl (.lst [])) := s1.trans (same_new ntl)
  have tl0 : H tl = none := same_none s1 ntl
  refine or_seq (a := a) (xs := rv) (fun Q q => ⟨_, rfl, q⟩) (hrv.imp (s2 _ _) (s2 _ _)) (fun J gj sj yj => for_it (J := J) (n := rv.length) (fun i σ H2 => ∃ (st : Addr) (ms : List (List Int)) (tv : List V) (v5 v6 : Option V), σ = [some (.ref r), some (.ref a), some (.ref pl), some (.ref st), some (.ref tl), v5, v6] ∧ RoomAt H2 st hs (stand bs ms) ∧ H2 tl = some (.lst tv) ∧ All2 (RowAt H2) tv ms ∧ WS hs bs (rows.take i) ms ∧ Same H1 H2)
    ⟨r, [], [], none, none, rfl, by rw [stand_zero]; exact hR.keep (TK.same s2), upd_same, .nil, WS.nil, same_new ntl⟩ ?_ ?_ ?_ ?_)
  · rintro i σ H2 hi ⟨st, ms, tv, v5, v6, rfl, hst, htl, alt, ws, s3⟩
    exact gj i H2 ((either_stays (s1.trans s3) hrv).trans (either_stays s2 hrv).symm) hi
  · rintro σ H2 ⟨st, ms, tv, v5, v6, rfl, hst, htl, alt, ws, s3⟩
    exact sj H2 ((either_stays (s1.trans s3) hrv).trans (either_stays s2 hrv).symm)
  · rintro i x σ H2 H3 hi ⟨st, ms, tv, v5, v6, rfl, hst, htl, alt, ws, s3⟩ y
    obtain ⟨ex, rfl⟩ := yj i H2 x H3 ((either_stays (s1.trans s3) hrv).trans (either_stays s2 hrv).symm) y
    obtain ⟨row, er, ⟨t, rfl, ht⟩⟩ := alr.getL ex
    have ht2 := s3 _ _ (s1 _ _ ht)
    have lms : ms.length = i := by
      have := ws.len
      rw [List.length_take] at this
      omega
    refine ⟨_, rfl, _, rfl, _, rfl, st, pl, t, D, H, hs, stand bs ms, pls, ord, row, rfl, hst, s3 _ _ hpl, alp.imp fun v k z => ?_, ht2, ok.bell ms, by rw [loose_stand]; exact soon, hw row (List.mem_of_getElem? er), fun p m H4 np hp bell s4 => ?_⟩
    · obtain ⟨t', l, e1, e2, e3, e4⟩ := z.same s3
      exact ⟨t', l, e1, e2, by rw [coming_stand]; exact e3, e4⟩
    have lm := bell.len
    refine ⟨_, rfl, _, rfl, st, p, hs, stand bs ms, m, rfl, hst.keep (TK.same s4), hp, fun b hb => ?_, by rw [List.length_map]; omega, fun st2 H5 hst2 s5 => ?_⟩
    · have e1 := ((ok.bell ms).ends b hb).1
      obtain ⟨c, hc, rfl⟩ := List.mem_map.mp hb
      have e2 := stand_len ms c
      have e3 := (ok.th c hc).1
      exact ⟨by omega, by omega⟩
    rw [stand_next] at hst2
    have htl5 := s5 _ _ (s4 _ _ htl)
    refine ⟨_, rfl, .inl ⟨rfl, _, SqL.of htl5⟩, _, rfl, tl, _, _, rfl, rfl, htl5, by rw [alt.length, lms]; exact small1000 (by omega), ?_⟩
    refine ⟨st2, ms ++ [m], tv ++ [V.ref p], _, _, rfl, hst2.keep (TK.lst htl5), upd_same, ?_, ?_, Same.own ((s3.trans s4).trans s5) ntl⟩
    · exact ((alt.imp fun _ _ z => z.keep (TK.same (s4.trans s5))).snoc ⟨p, rfl, s5 _ _ hp⟩).imp fun _ _ z => z.keep (TK.lst htl5)
    · rw [List.take_add_one, er]
      exact ws.snoc bell
  · rintro σ H2 ⟨st, ms, tv, v5, v6, rfl, hst, htl, alt, ws, s3⟩
    rw [lrv, List.take_length] at ws
    exact ⟨_, rfl, q tl tv ms H2 tl0 htl alt ws (s1.trans s3)⟩
end
section
variable {P : Program} {w : World} {K : PySem.W.Frag} {mg : Str → Option Value} {base : Heap}
def sp_standing (K : PySem.W.Frag) : Sp := fun vs H Q _ => ∃ (r a : Addr) (hs : List HR) (bs : List BR) (rows : List (List Int)), vs = [.ref r, .ref a] ∧ RoomAt H r hs bs ∧ RoomOk hs bs ∧ RowsAt H a rows ∧ (∀ x ∈ rows, x.length = (doorsOf "in" hs).length) ∧ rows.length ≤ 100 ∧
  ∀ (p : Addr) (ms : List (List Int)) (H' : Hp), RoomAt H' p hs (stand bs ms) → WS hs bs rows ms → Same H H' → Q (.ref p) H'
theorem ok_standing {f : Addr} {fd : FuncData} (F : Fun K "standing" "standing" s_standing f fd) (T : Top w K mg) : FnOk P w K mg base CX0 5 f fd ["room", "rows"] (sp_standing K) := by
  obtain ⟨f_worked, fd_worked, F_worked, b_worked, m_worked⟩ := T.d_worked
  have G_worked := ok_worked (P := P) (w := w) (base := base) F_worked T
  obtain ⟨f_behind_bell, fd_behind_bell, F_behind_bell, b_behind_bell, m_behind_bell⟩ := T.d_behind_bell
  have G_behind_bell := ok_behind_bell (P := P) (w := w) (base := base) F_behind_bell T
  refine F.ok sc_standing (fun vs H Q E h => ?_) (fun cdv A outer s H vs Q E hr h => ?_)
  · obtain ⟨r, a, hs, bs, rows, rfl, _⟩ := h
    rfl
  obtain ⟨r, a, hs, bs, rows, rfl, hR, ok, hrows, hw, lr, q⟩ := h
  have lb := ok.many
  refine ⟨_, (pss_cons (ps_set (i := 2) sc_standing.nd rfl (Or.inl rfl) (pv 0))
      (pss_cons (ps_for PassesOwn.never rfl (pi_listK K rfl (pe_call G_worked (hr.mono (by decide)) (by rfl) m_worked F_worked.kp b_worked .nil pass0 (pa_cons (pv 0) (pa_cons (pv 1) pa_nil)))) (pg_name (i := 3) sc_standing.nd rfl (Or.inl rfl))
        (pss_one (ps_set (i := 2) sc_standing.nd rfl (Or.inl rfl) (pe_call G_behind_bell (hr.mono (by decide)) (by rfl) m_behind_bell F_behind_bell.kp b_behind_bell .nil pass0 (pa_cons (pv 2) (pa_cons (pv 3) pa_nil))))))
      (pss_one (ps_ret (pv 2))))), ?_⟩
  refine ⟨_, rfl, _, rfl, _, rfl, r, a, hs, bs, rows, rfl, hR, ok, hrows, hw, lr, fun wl wv ms H1 nwl hwl alw ws s1 => ?_⟩
  refine ⟨wl, rfl, ⟨_, SqL.of hwl⟩, for_list (K := K) (a := wl) (xs := wv) (fun i σ H2 => ∃ (st : Addr) (v3 : Option V), σ = [some (.ref r), some (.ref a), some (.ref st), v3] ∧ RoomAt H2 st hs (stand bs (ms.take i)) ∧ Same H1 H2)
    ⟨r, none, rfl, by rw [List.take_zero, stand_zero]; exact hR.keep (TK.same s1), fun _ _ e => e⟩ (fun i σ H2 _ ⟨_, _, _, _, s2⟩ => SqL.of (s2 _ _ hwl)) ?_ ?_⟩
  · rintro i x σ H2 hx ⟨st, v3, rfl, hst, s2⟩
    obtain ⟨m, em, ⟨t, rfl, ht⟩⟩ := alw.getL hx
    have lm := ws.row m (List.mem_of_getElem? em)
    refine ⟨_, rfl, _, rfl, st, t, hs, stand bs (ms.take i), m, rfl, hst, s2 _ _ ht, fun b hb => ?_, by rw [List.length_map]; omega, fun st2 H3 hst2 s3 => ?_⟩
    · have e1 := ((ok.bell (ms.take i)).ends b hb).1
      obtain ⟨c, hc, rfl⟩ := List.mem_map.mp hb
      have e2 := stand_len (ms.take i) c
      have e3 := (ok.th c hc).1
      exact ⟨by omega, by omega⟩
    rw [stand_next] at hst2
    refine ⟨st2, _, rfl, ?_, s2.trans s3⟩
    rw [List.take_add_one, em]
    exact hst2
  · rintro σ H2 ⟨st, v3, rfl, hst, s2⟩
    rw [alw.length, List.take_length] at hst
    exact ⟨_, rfl, q st ms H2 hst ws (s1.trans s2)⟩
end
/-! ### a loop over any iterator, whatever its turn does -/
theorem it_loop {J : It} {n : Nat} {B : V → Hp → (Hp → Prop) → Prop} {H0 : Hp} {Qd : Hp → Prop} (Pv : Nat → Hp → Prop) (h0 : Pv 0 H0) (go : ∀ i H, i < n → Pv i H → J.go i H) (st : ∀ H, Pv n H → J.stop n H)
    (hs : ∀ i x H H', i < n → Pv i H → J.yld i H x H' → B x H' (Pv (i + 1))) (hd : ∀ H, Pv n H → Qd H) :
    ∃ W : Nat → Nat → Hp → Prop, (∃ m, W 0 m H0) ∧ ∀ i m H, W i m H → (J.stop i H ∧ Qd H) ∨ (J.go i H ∧ ∃ Nx : Hp → Prop, (∀ H', Nx H' → ∃ m', m' < m ∧ W (i + 1) m' H') ∧ ∀ x H', J.yld i H x H' → B x H' Nx) := by
  refine ⟨fun i m H => i + m = n ∧ Pv i H, ⟨n, by omega, h0⟩, fun i m H ⟨e, p⟩ => ?_⟩
  by_cases k : i < n
  · exact .inr ⟨go i H k p, Pv (i + 1), fun H' p' => ⟨m - 1, by omega, by omega, p'⟩, fun x H' y => hs i x H H' k p y⟩
  · have z : i = n := by omega
    subst z
    exact .inl ⟨st H p, hd H p⟩
theorem r_at0 {xs : List V} {k : Nat} {x : V} (h : xs[k]? = some x) : atI xs (0 + (k : Int)) = some x := by
  rw [Int.zero_add]
  exact atI_nat h
/-! ### slices and sums of tuples, whatever they are -/
theorem slA_of {K : PySem.W.Frag} {H : Hp} {a : Addr} {xs : List V} {lo hi : Option Int} {Q : VK} (h : H a = some (.tup xs)) (k : ∀ (p : Addr) (H' : Hp), H' p = some (.tup (cutV xs lo hi)) → Same H H' → Q (.ref p) H') : rSlA K (.ref a) lo hi H Q := by
  refine ⟨a, xs, rfl, SqT.of h, fun z => k a H ?_ (Same.refl _), fun _ p np => k p _ upd_same (same_new np)⟩
  unfold cutV
  rw [z.1, z.2, List.drop_zero, Nat.sub_zero, List.take_length]
  exact h
theorem catA_of {K : PySem.W.Frag} {H : Hp} {a b : Addr} {xs ys : List V} {Q : VK} (h : H a = some (.tup xs)) (g : H b = some (.tup ys)) (l : xs.length + ys.length ≤ 1000) (k : ∀ (p : Addr) (H' : Hp), H' p = some (.tup (xs ++ ys)) → Same H H' → Q (.ref p) H') : rCatA K (.ref a) (.ref b) H Q := by
  refine ⟨a, b, xs, ys, rfl, rfl, SqT.of h, SqT.of g, little l, fun e => k b H ?_ (Same.refl _), fun _ e => k a H ?_ (Same.refl _), fun _ _ p np => k p _ upd_same (same_new np)⟩
  · rw [e]; exact g
  · rw [e, List.append_nil]; exact h
theorem cut_take (xs : List V) (k : Nat) : cutV xs none (some ((k : Nat) : Int)) = xs.take k := by
  unfold cutV
  rw [HT.sIx_nat, HT.sIx_none, List.drop_zero, Nat.sub_zero]
  by_cases h : k ≤ xs.length
  · rw [Nat.min_eq_left h]
  · rw [Nat.min_eq_right (by omega), List.take_length, List.take_of_length_le (by omega)]
theorem cut_part {xs : List V} {lo hi : Option Int} : ∀ x ∈ cutV xs lo hi, x ∈ xs := fun x hx => List.mem_of_mem_drop (List.mem_of_mem_take hx)
theorem cut_nats {ns : List Nat} {lo hi : Option Int} : ∃ ms : List Nat, cutV (ns.map nV) lo hi = ms.map nV ∧ ms.length ≤ ns.length ∧ ∀ x ∈ ms, x ∈ ns := by
  refine ⟨(ns.drop (HT.sIx (ns.map nV).length 0 lo)).take (HT.sIx (ns.map nV).length (ns.map nV).length hi - HT.sIx (ns.map nV).length 0 lo), ?_, ?_, fun x hx => List.mem_of_mem_drop (List.mem_of_mem_take hx)⟩
  · unfold cutV
    rw [List.map_take, List.map_drop]
  · rw [List.length_take, List.length_drop]
    omega
/-! ### data of known size -/
structure Neat (d : PyData) (dp wt : Nat) : Prop where
  lay : d.canLay0 = true
  dep : d.depth ≤ dp
  wei : d.weight ≤ wt
  sho : d.intsShort 13 = true
  say : d.showable = true
  nod : d.hasDict = false
structure NeatAll (ds : List PyData) (dp wt : Nat) : Prop where
  lay : PyData.canLayAll0 ds = true
  dep : PyData.depthAll ds ≤ dp
  wei : PyData.weightAll ds ≤ wt
  sho : PyData.intsShortAll 13 ds = true
  say : PyData.showableAll ds = true
  nod : PyData.hasDictAll ds = false
theorem Neat.non {dp : Nat} : Neat .none dp 0 := ⟨rfl, Nat.zero_le _, Nat.le_refl _, by simp [PyData.intsShort], by simp [PyData.showable], by simp [PyData.hasDict]⟩
theorem Neat.bool {b : Bool} {dp : Nat} : Neat (.bool b) dp 0 := ⟨rfl, Nat.zero_le _, Nat.le_refl _, by simp [PyData.intsShort], by simp [PyData.showable], by simp [PyData.hasDict]⟩
theorem Neat.int {i : Int} {dp : Nat} (h : i.natAbs < 10 ^ 12) : Neat (.int i) dp 41 := by
  have l : i.natAbs.log2 < 40 := by
    by_cases z : i.natAbs = 0
    · rw [z]; decide
    · exact (Nat.log2_lt z).mpr (Nat.lt_trans h (by decide))
  refine ⟨rfl, Nat.zero_le _, ?_, ?_, ?_, by simp [PyData.hasDict]⟩
  · simp only [PyData.weight]
    split <;> omega
  · simp only [PyData.intsShort, decide_eq_true_eq]
    exact PyData.shown_int_le h
  · simp only [PyData.showable, decide_eq_true_eq]
    omega
theorem Neat.str {x : Str} {n dp : Nat} (h : PyData.canLay0 (.str x) = true) (hn : x.cps.size ≤ n) : Neat (.str x) dp n := ⟨h, Nat.zero_le _, hn, by simp [PyData.intsShort], by simp [PyData.showable], by simp [PyData.hasDict]⟩
theorem NeatAll.nil {dp : Nat} : NeatAll [] dp 0 := ⟨rfl, Nat.zero_le _, Nat.le_refl _, by simp [PyData.intsShortAll], by simp [PyData.showableAll], by simp [PyData.hasDictAll]⟩
theorem NeatAll.cons {d : PyData} {ds : List PyData} {dp a b : Nat} (h : Neat d dp a) (t : NeatAll ds dp b) : NeatAll (d :: ds) dp (a + 1 + b) := by
  refine ⟨?_, ?_, ?_, ?_, ?_, ?_⟩
  · simp only [PyData.canLayAll0, h.lay, t.lay, Bool.and_self]
  · simp only [PyData.depthAll]
    exact Nat.max_le.mpr ⟨h.dep, t.dep⟩
  · simp only [PyData.weightAll]
    have := h.wei
    have := t.wei
    omega
  · simp only [PyData.intsShortAll, h.sho, t.sho, Bool.and_self]
  · simp only [PyData.showableAll, h.say, t.say, Bool.and_self]
  · simp only [PyData.hasDictAll, h.nod, t.nod, Bool.or_self]
theorem Neat.mono {d : PyData} {a b c e : Nat} (h : Neat d a b) (x : a ≤ c) (y : b ≤ e) : Neat d c e := ⟨h.lay, Nat.le_trans h.dep x, Nat.le_trans h.wei y, h.sho, h.say, h.nod⟩
theorem NeatAll.mono {d : List PyData} {a b c e : Nat} (h : NeatAll d a b) (x : a ≤ c) (y : b ≤ e) : NeatAll d c e := ⟨h.lay, Nat.le_trans h.dep x, Nat.le_trans h.wei y, h.sho, h.say, h.nod⟩
theorem Neat.tup {ds : List PyData} {dp n : Nat} (h : NeatAll ds dp n) : Neat (.tuple ds) (dp + 1) n := by
  refine ⟨?_, ?_, ?_, ?_, ?_, ?_⟩
  · simp only [PyData.canLay0, h.lay]
  · simp only [PyData.depth]
    have := h.dep
    omega
  · simp only [PyData.weight]
    exact h.wei
  · simp only [PyData.intsShort, h.sho]
  · simp only [PyData.showable, h.say]
  · simp only [PyData.hasDict, h.nod]
theorem Neat.lst {ds : List PyData} {dp n : Nat} (h : NeatAll ds dp n) : Neat (.list ds) (dp + 1) n := by
  refine ⟨?_, ?_, ?_, ?_, ?_, ?_⟩
  · simp only [PyData.canLay0, h.lay]
  · simp only [PyData.depth]
    have := h.dep
    omega
  · simp only [PyData.weight]
    exact h.wei
  · simp only [PyData.intsShort, h.sho]
  · simp only [PyData.showable, h.say]
  · simp only [PyData.hasDict, h.nod]
theorem NeatAll.map {α : Type} {f : α → PyData} {dp n : Nat} : ∀ {l : List α}, (∀ x ∈ l, Neat (f x) dp n) → NeatAll (l.map f) dp (l.length * (n + 1))
  | [], _ => by rw [List.length_nil, Nat.zero_mul]; exact .nil
  | x :: l, h => by
    have t : NeatAll (l.map f) dp (l.length * (n + 1)) := NeatAll.map fun y hy => h y (List.mem_cons_of_mem _ hy)
    have := NeatAll.cons (h x (List.mem_cons_self ..)) t
    refine NeatAll.mono this (Nat.le_refl _) ?_
    rw [List.length_cons, Nat.add_mul]
    omega
theorem Neat.shaped {d : PyData} {dp n : Nat} (h : Neat d dp n) (k : dp ≤ 60) : SeqAt.shaped d = true := by
  unfold SeqAt.shaped
  rw [h.lay, Bool.true_and]
  exact decide_eq_true (by have := h.dep; omega)
theorem Neat.fits {d : PyData} {dp n : Nat} (h : Neat d dp n) (k : dp ≤ 60) (m : n ≤ 1000000) : d.shown.length ≤ sizeLine := by
  refine PyData.shown_fits_of_layable0 (B := 13) (by decide) (by decide) ?_ h.sho
  have a : d.canLay0 = true := h.lay
  have b : decide (d.depth ≤ 64) = true := decide_eq_true (by have := h.dep; omega)
  have c : decide (d.weight ≤ 2 ^ 20) = true := decide_eq_true (by have := h.wei; omega)
  unfold PyData.layable0
  rw [a, b, c]
  rfl
theorem dp_ints {K : PySem.W.Frag} {H : Hp} : ∀ ns : List Int, DpAll K H (ns.map V.int) (ns.map PyData.int)
  | [] => .nil
  | n :: ns => .cons (.int n) (dp_ints ns)
theorem dp_nats {K : PySem.W.Frag} {H : Hp} : ∀ ns : List Nat, DpAll K H (ns.map nV) (ns.map fun n => PyData.int ((n : Nat) : Int))
  | [] => .nil
  | n :: ns => .cons (.int _) (dp_nats ns)
theorem eqv_nil {ds : List PyData} : PyData.eqvAll ds [] = ds.isEmpty := by cases ds <;> rfl
/-! ### a room as data -/
abbrev handD (h : HR) : PyData := .tuple [.tuple (ruleD h), .int h.mom]
abbrev beltD (b : BR) : PyData := .tuple [.int ((b.one : Nat) : Int), .int ((b.to : Nat) : Int), .tuple (b.th.map PyData.int)]
abbrev roomD (hs : List HR) (bs : List BR) : PyData := .tuple [.tuple (hs.map handD), .tuple (bs.map beltD)]
theorem hands_dp {K : PySem.W.Frag} {H : Hp} {vs : List V} {hs : List HR} (a : All2 (HandAt H) vs hs) : DpAll K H vs (hs.map handD) := by
  induction a with
  | nil => exact .nil
  | cons h t ih =>
    obtain ⟨t, r, rfl, e1, e2⟩ := h
    exact .cons (.tup (SqT.of e1) (.cons (rule_dp e2) (.cons (.int _) .nil))) ih
theorem belts_dp {K : PySem.W.Frag} {H : Hp} {vs : List V} {bs : List BR} (a : All2 (BeltAt H) vs bs) : DpAll K H vs (bs.map beltD) := by
  induction a with
  | nil => exact .nil
  | cons h t ih =>
    obtain ⟨t, r, rfl, e1, e2⟩ := h
    exact .cons (.tup (SqT.of e1) (.cons (.int _) (.cons (.int _) (.cons (.tup (SqT.of e2) (dp_ints _)) .nil)))) ih
theorem RoomAt.dp {K : PySem.W.Frag} {H : Hp} {r : Addr} {hs : List HR} {bs : List BR} (a : RoomAt H r hs bs) : Dp K H (.ref r) (roomD hs bs) := by
  obtain ⟨ha, ba, hv, bv, e1, e2, e3, a1, a2⟩ := a.ex
  exact .tup (SqT.of e1) (.cons (.tup (SqT.of e2) (hands_dp a1)) (.cons (.tup (SqT.of e3) (belts_dp a2)) .nil))
theorem GoodHand.size {h : HR} (g : GoodHand h) : h.wd.cps.size ≤ 10 := by
  have : h.wd ∈ nine ∨ h.wd = "in" ∨ h.wd = "out" := g.1.elim (fun k => .inl k.wd) (fun k => .inr k.1)
  rcases this with k | k | k
  · unfold nine at k
    simp only [List.mem_cons, List.not_mem_nil, or_false] at k
    rcases k with k | k | k | k | k | k | k | k | k <;> rw [k] <;> decide +kernel
  · rw [k]; decide +kernel
  · rw [k]; decide +kernel
theorem GoodHand.neat {h : HR} (g : GoodHand h) : Neat (handD h) 2 200 := by
  obtain ⟨wd, no, mom⟩ := h
  have r : NeatAll (ruleD ⟨wd, no, mom⟩) 0 60 := by
    cases no with
    | none => exact (NeatAll.cons (Neat.str g.lay g.size) .nil).mono (Nat.le_refl _) (by decide)
    | some n =>
      have : -1000000 ≤ n ∧ n ≤ 1000000 := by
        rcases g.1 with k | k
        · exact k.big n rfl
        · exact nomatch k.2.1
      exact (NeatAll.cons (Neat.str g.lay g.size) (.cons (Neat.int (by omega)) .nil)).mono (Nat.le_refl _) (by decide)
  have m : Neat (.int mom) 1 41 := Neat.int (by have := g.2.1; have := g.2.2; simp only at *; omega)
  exact (Neat.tup (.cons (Neat.tup r) (.cons m .nil))).mono (Nat.le_refl _) (by decide)
abbrev rowD (m : List Int) : PyData := .tuple (m.map PyData.int)
theorem rows_dp {K : PySem.W.Frag} {H : Hp} {vs : List V} {ms : List (List Int)} (a : All2 (RowAt H) vs ms) : DpAll K H vs (ms.map rowD) := by
  induction a with
  | nil => exact .nil
  | cons h t ih =>
    obtain ⟨t, rfl, e1⟩ := h
    exact .cons (.tup (SqT.of e1) (dp_ints _)) ih
theorem lay_ints : ∀ m : List Int, PyData.canLayAll0 (m.map PyData.int) = true
  | [] => rfl
  | x :: m => by
    rw [List.map_cons]
    simp only [PyData.canLayAll0, PyData.canLay0, lay_ints m, Bool.and_self]
theorem lay_rows : ∀ m : List (List Int), PyData.canLayAll0 (m.map rowD) = true
  | [] => rfl
  | x :: m => by
    rw [List.map_cons]
    simp only [PyData.canLayAll0, PyData.canLay0, lay_rows m, lay_ints, Bool.and_self]
theorem dep_ints : ∀ m : List Int, PyData.depthAll (m.map PyData.int) ≤ 0
  | [] => Nat.le_refl _
  | x :: m => by
    rw [List.map_cons]
    simp only [PyData.depthAll, PyData.depth]
    have := dep_ints m
    omega
theorem dep_rows : ∀ m : List (List Int), PyData.depthAll (m.map rowD) ≤ 1
  | [] => Nat.zero_le _
  | x :: m => by
    rw [List.map_cons]
    simp only [PyData.depthAll, PyData.depth]
    have := dep_ints x
    have := dep_rows m
    omega
theorem rows_lay (m : List (List Int)) : PyData.canLay0 (.list (m.map rowD)) = true := by
  simp only [PyData.canLay0, lay_rows]
theorem rows_shaped (m : List (List Int)) : SeqAt.shaped (.list (m.map rowD)) = true := by
  unfold SeqAt.shaped
  rw [rows_lay, Bool.true_and]
  refine decide_eq_true ?_
  simp only [PyData.depth]
  have := dep_rows m
  omega
theorem belt_lay (b : BR) : PyData.canLay0 (beltD b) = true := by
  simp only [PyData.canLay0, PyData.canLayAll0, lay_ints, Bool.and_self]
theorem belt_shaped (b : BR) : SeqAt.shaped (beltD b) = true := by
  unfold SeqAt.shaped
  rw [belt_lay, Bool.true_and]
  refine decide_eq_true ?_
  simp only [PyData.depth, PyData.depthAll]
  have := dep_ints b.th
  omega
theorem hands_neat {hs : List HR} (g : ∀ h ∈ hs, GoodHand h) : Neat (.tuple (hs.map handD)) 3 (hs.length * 201) := Neat.tup (NeatAll.map fun h hh => (g h hh).neat)
theorem one_eqv (h : HR) (z : Str) : PyData.eqv (.tuple [.str z]) (.tuple (ruleD h)) = (decide (h.wd = z) && h.no.isNone) := by
  obtain ⟨wd, no, mom⟩ := h
  have e : (z == wd) = decide (wd = z) := by
    by_cases k : wd = z
    · rw [k, decide_eq_true rfl]; exact beq_self_eq_true z
    · rw [decide_eq_false k]; exact beq_eq_false_iff_ne.mpr fun y => k y.symm
  cases no with
  | none => show (z == wd && true) = (decide (wd = z) && true); rw [e]
  | some n => show (z == wd && false) = (decide (wd = z) && false); rw [Bool.and_false, Bool.and_false]
section
variable {P : Program} {w : World} {K : PySem.W.Frag} {mg : Str → Option Value} {base : Heap}
def sp_law_any_room (K : PySem.W.Frag) : Sp := fun vs H Q _ => ∃ f c : Addr, vs = [.ref f] ∧ Flow H f c ∧ ∀ (r : Addr) (hs : List HR) (bs : List BR) (H' : Hp), RoomAt H' r hs bs → RoomOk hs bs → Flow H' f c → But f H H' → Q (.ref r) H'
theorem bare_ok {hs : List HR} (l : hs.length ≤ 12) (g : ∀ h ∈ hs, GoodHand h ∧ (h.wd = "in" ∨ h.wd = "always")) : RoomOk hs [] := by
  refine ⟨l, fun h hh => (g h hh).1, (fun _ z => nomatch z), (fun _ z => nomatch z), (fun _ z => nomatch z), ⟨fun _ => 0, (fun _ z => nomatch z)⟩, fun k h e => ?_, by decide⟩
  have := (g h (List.mem_of_getElem? e)).2
  show ((0 : Nat) : Int) = needs h.wd
  rcases this with z | z <;> rw [z] <;> decide +kernel
theorem ok_law_any_room {f : Addr} {fd : FuncData} (F : Fun K "_law_any_room" "_law_any_room" s_law_any_room f fd) (T : Top w K mg) : FnOk P w K mg base CX0 6 f fd ["_law_flow_here"] (sp_law_any_room K) := by
  obtain ⟨f_law_pick, fd_law_pick, F_law_pick, b_law_pick, m_law_pick⟩ := T.d_law_pick
  have G_law_pick := ok_law_pick (P := P) (w := w) (base := base) F_law_pick T
  obtain ⟨f_law_room, fd_law_room, F_law_room, b_law_room, m_law_room⟩ := T.d_law_room
  have G_law_room := ok_law_room (P := P) (w := w) (base := base) F_law_room T
  obtain ⟨f_law_thing, fd_law_thing, F_law_thing, b_law_thing, m_law_thing⟩ := T.d_law_thing
  have G_law_thing := ok_law_thing (P := P) (w := w) (base := base) F_law_thing T
  refine F.ok sc_law_any_room (fun vs H Q E h => ?_) (fun cdv A outer s H vs Q E hr h => ?_)
  · obtain ⟨f, c, rfl, _⟩ := h
    rfl
  obtain ⟨f, c, rfl, hF, q⟩ := h
  refine ⟨_, (pss_cons (ps_set (i := 1) sc_law_any_room.nd rfl (Or.inl rfl) (pe_call G_law_pick (hr.mono (by decide)) (by rfl) m_law_pick F_law_pick.kp b_law_pick .nil pass0 (pa_cons (pv 0) (pa_cons pe_int pa_nil))))
      (pss_cons (ps_if (pt_cmpR op_eq (pv 1) pe_int (nomark _)) (pss_one (ps_ret (pe_tup (pa_cons (pe_tup pa_nil) (pa_cons (pe_tup pa_nil) pa_nil))))) pss_nil)
      (pss_cons (ps_if (pt_cmpR op_eq (pv 1) pe_int (nomark _)) (pss_cons (ps_set (i := 2) sc_law_any_room.nd rfl (Or.inl rfl) (pe_lst pa_nil))
      (pss_cons (ps_for PassesOwn.never rfl (pi_range1 (by rfl) T.m_range (pa_cons (pe_op op_add pe_int (pe_call G_law_pick (hr.mono (by decide)) (by rfl) m_law_pick F_law_pick.kp b_law_pick .nil pass0 (pa_cons (pv 0) (pa_cons pe_int pa_nil)))) pa_nil)) (pg_name (i := 3) sc_law_any_room.nd rfl (Or.inl rfl))
        (pss_one (ps_expr (pe_bmK K rfl PySem.F.plainAttrs_list PySem.F.slot_list_append PySem.F.type_list_append mt_append (pv 2) (pa_cons (pe_ix (ix_listK K rfl) (pe_lst (pa_cons (pe_tup (pa_cons (pe_tup (pa_cons pe_str pa_nil)) (pa_cons pe_int pa_nil))) (pa_cons (pe_tup (pa_cons (pe_tup (pa_cons pe_str (pa_cons (pe_call G_law_thing (hr.mono (by decide)) (by rfl) m_law_thing F_law_thing.kp b_law_thing .nil pass0 (pa_cons (pv 0) pa_nil)) pa_nil))) (pa_cons (pe_call G_law_pick (hr.mono (by decide)) (by rfl) m_law_pick F_law_pick.kp b_law_pick .nil pass0 (pa_cons (pv 0) (pa_cons pe_int pa_nil))) pa_nil))) pa_nil))) (pe_call G_law_pick (hr.mono (by decide)) (by rfl) m_law_pick F_law_pick.kp b_law_pick .nil pass0 (pa_cons (pv 0) (pa_cons pe_int pa_nil))) (fun _ _ => rfl)) pa_nil)))))
      (pss_one (ps_ret (pe_tup (pa_cons (pe_callTy (call_tuple_ofK K rfl) (by rfl) T.m_tuple (by decide +kernel) (pa_cons (pv 2) pa_nil)) (pa_cons (pe_tup pa_nil) pa_nil))))))) pss_nil)
      (pss_one (ps_ret (pe_call G_law_room (hr.mono (by decide)) (by rfl) m_law_room F_law_room.kp b_law_room .nil pass0 (pa_cons (pv 0) (pa_cons (pe_ix (ix_listK K rfl) (pe_lst (pa_cons pe_int (pa_cons pe_int (pa_cons pe_int pa_nil)))) (pe_call G_law_pick (hr.mono (by decide)) (by rfl) m_law_pick F_law_pick.kp b_law_pick .nil pass0 (pa_cons (pv 0) (pa_cons pe_int pa_nil))) (fun _ _ => rfl)) pa_nil)))))))), ?_⟩
  refine ⟨_, rfl, f, c, 16, rfl, by decide, by decide +kernel, hF, fun v H1 v0 v1 F1 B1 => ?_⟩
  refine ⟨_, rfl, rfl, _, rfl, if_bl (fun _ => ?_) (fun _ => ?_)⟩
  · refine ⟨(by show 0 ≤ sizeLine; decide), fun t1 nt1 => ⟨(by show 0 ≤ sizeLine; decide), fun t2 nt2 => ⟨(by show 2 ≤ sizeLine; decide), fun t3 nt3 => ?_⟩⟩⟩
    exact q t3 [] [] _ ⟨t1, t2, [], [], upd_same, same_new nt3 _ _ (same_new nt2 _ _ upd_same), same_new nt3 _ _ upd_same, .nil, .nil⟩ (bare_ok (by decide) (fun _ z => nomatch z)) (((F1.new nt1).new nt2).new nt3) (((B1.new nt1).new nt2).new nt3)
  refine ⟨_, rfl, rfl, _, rfl, if_bl (fun _ => ?_) (fun _ => ?_)⟩
  · refine ⟨(by show 0 ≤ sizeLine; decide), fun hh nhh => ?_⟩
    have hf : hh ≠ f := F1.ne nhh
    have hc : hh ≠ c := F1.nec nhh
    have nh0 : H hh = none := B1.none nhh hf
    refine ⟨_, rfl, f, c, 4, rfl, by decide, by decide +kernel, F1.new nhh, fun n H2 n0 n4 F2 B2 => ?_⟩
    refine ⟨_, _, rfl, rfl, _, rfl, by omega, by omega, for_range (lo := 0) (n := (1 + n).toNat) (fun i σ H3 => ∃ (vs : List V) (hs : List HR) (v3 : Option V), σ = [some (.ref f), some (.int v), some (.ref hh), v3] ∧ H3 hh = some (.lst vs) ∧ All2 (HandAt H3) vs hs ∧ hs.length = i ∧ (∀ h ∈ hs, GoodHand h ∧ (h.wd = "in" ∨ h.wd = "always")) ∧ Flow H3 f c ∧ But f H H3)
      ⟨[], [], none, rfl, B2 _ _ upd_same hf, .nil, rfl, (fun _ z => nomatch z), F2, (B1.new nhh).trans B2⟩ ?_ ?_⟩
    · rintro i σ H3 hi ⟨vs, hs, v3, rfl, hhh, al, li, good, F3, B3⟩
      refine ⟨_, rfl, .inl ⟨rfl, _, SqL.of hhh⟩, (by show 1 ≤ sizeLine; decide), fun a1 na1 => ⟨(by show 2 ≤ sizeLine; decide), fun a2 na2 => ?_⟩⟩
      have F5 := (F3.new (o := .tup [V.str "in"]) na1).new (o := .tup [V.ref a1, V.int 0]) na2
      have B5 := (B3.new (o := .tup [V.str "in"]) na1).new (o := .tup [V.ref a1, V.int 0]) na2
      have k5 : TK H3 _ := (TK.new (o := .tup [V.str "in"]) na1).trans (TK.new (o := .tup [V.ref a1, V.int 0]) na2)
      have h5 := same_new (o := .tup [V.ref a1, V.int 0]) na2 _ _ (same_new (o := .tup [V.str "in"]) na1 _ _ hhh)
      refine ⟨_, rfl, f, c, rfl, F5, fun n1 H6 s6 F6 B6 => ⟨(by show 2 ≤ sizeLine; decide), fun a3 na3 => ?_⟩⟩
      have F7 := F6.new (o := .tup [V.str "always", V.int n1]) na3
      refine ⟨_, rfl, f, c, 31, rfl, by decide, by decide +kernel, F7, fun n2 H8 m0 m31 F8 B8 => ⟨(by show 2 ≤ sizeLine; decide), fun a4 na4 => ⟨(by show 2 ≤ sizeLine; decide), fun l nl => ?_⟩⟩⟩
      have F9 := (F8.new (o := .tup [V.ref a3, V.int n2]) na4).new (o := .lst [V.ref a2, V.ref a4]) nl
      refine ⟨_, rfl, f, c, 2, rfl, by decide, by decide +kernel, F9, fun z H10 z0 z2 F10 B10 => ?_⟩
      have hl := B10 _ _ upd_same ((F8.new (o := .tup [V.ref a3, V.int n2]) na4).ne nl)
      have k8 : TK H6 _ := (TK.new (o := .tup [V.str "always", V.int n1]) na3).trans (TK.but F7 B8)
      have k10 : TK H8 H10 := ((TK.new (o := .tup [V.ref a3, V.int n2]) na4).trans (TK.new (o := .lst [V.ref a2, V.ref a4]) nl)).trans (TK.but F9 B10)
      have ka : TK _ H10 := (TK.but F5 B6).trans (k8.trans k10)
      have x0 : HandAt H10 (V.ref a2) ⟨"in", none, 0⟩ := ⟨a2, a1, rfl, ka _ _ upd_same, ka _ _ (same_new na2 _ _ upd_same)⟩
      have x1 : HandAt H10 (V.ref a4) ⟨"always", some n1, n2⟩ := ⟨a4, a3, rfl, TK.but F9 B10 _ _ (same_new nl _ _ upd_same), k10 _ _ (TK.but F7 B8 _ _ upd_same)⟩
      have g0 : GoodHand ⟨"in", none, 0⟩ := ⟨.inr ⟨.inl rfl, rfl, rfl⟩, (show (0 : Int) ≤ 0 by decide), (show (0 : Int) ≤ 30 by decide)⟩
      have g1 : GoodHand ⟨"always", some n1, n2⟩ := ⟨.inl ⟨(show ("always" : Str) ∈ nine by decide +kernel), ⟨fun _ => .inr rfl, fun _ => rfl⟩, fun n e => by cases e; exact s6⟩, m0, (show n2 ≤ 30 by omega)⟩
      obtain ⟨x, y, hx, hy, gy, wy⟩ : ∃ (x : V) (y : HR), atI [V.ref a2, V.ref a4] z = some x ∧ HandAt H10 x y ∧ GoodHand y ∧ (y.wd = "in" ∨ y.wd = "always") := by
        have : z = 0 ∨ z = 1 := by omega
        rcases this with rfl | rfl
        · exact ⟨_, _, rfl, x0, g0, .inl rfl⟩
        · exact ⟨_, _, rfl, x1, g1, .inr rfl⟩
      have Ball := (((((B5.trans B6).new na3).trans B8).new na4).new nl).trans B10
      have hh10 := B10 _ _ (same_new nl _ _ (same_new na4 _ _ (B8 _ _ (same_new na3 _ _ (B6 _ _ h5 hf)) hf))) hf
      refine ⟨l, _, _, _, rfl, rfl, SqL.of hl, hx, hh, _, _, rfl, rfl, hh10, by rw [al.length, li]; exact small1000 (by omega), ?_⟩
      refine ⟨vs ++ [x], hs ++ [y], _, rfl, upd_same, ?_, by rw [List.length_append, li]; rfl, fun h hm => ?_, F10.lst hf hc, Ball.own nh0⟩
      · exact ((al.imp fun _ _ z => z.keep (k5.trans ka)).snoc hy).imp fun _ _ z => z.keep (TK.lst hh10)
      · rcases List.mem_append.mp hm with hm | hm
        · exact good h hm
        · obtain rfl : h = y := by simpa using hm
          exact ⟨gy, wy⟩
    · rintro σ H3 ⟨vs, hs, v3, rfl, hhh, al, li, good, F3, B3⟩
      refine ⟨_, rfl, hh, _, rfl, .inl ⟨SqL.of hhh, fun a1 na1 => ⟨(by show 0 ≤ sizeLine; decide), fun a2 na2 => ⟨(by show 2 ≤ sizeLine; decide), fun a3 na3 => ?_⟩⟩⟩⟩
      have k1 : TK H3 (upd (upd (upd H3 a1 (.tup vs)) a2 (.tup [])) a3 (.tup [V.ref a1, V.ref a2])) := ((TK.new na1).trans (TK.new na2)).trans (TK.new na3)
      exact q a3 hs [] _ ⟨a1, a2, vs, [], upd_same, same_new na3 _ _ (same_new na2 _ _ upd_same), same_new na3 _ _ upd_same, al.imp fun _ _ z => z.keep k1, .nil⟩ (bare_ok (by omega) good) (((F3.new na1).new na2).new na3) (((B3.new na1).new na2).new na3)
  refine ⟨_, rfl, (by show 3 ≤ sizeLine; decide), fun l nl => ⟨_, rfl, f, c, 3, rfl, by decide, by decide +kernel, F1.new nl, fun z H2 z0 z3 F2 B2 => ?_⟩⟩
  obtain ⟨mm, hmm, m1, m8⟩ : ∃ mm : Int, atI [V.int 3, V.int 5, V.int 8] z = some (.int mm) ∧ 1 ≤ mm ∧ mm ≤ 8 := by
    have : z = 0 ∨ z = 1 ∨ z = 2 := by omega
    rcases this with rfl | rfl | rfl
    · exact ⟨3, rfl, by decide, by decide⟩
    · exact ⟨5, rfl, by decide, by decide⟩
    · exact ⟨8, rfl, by decide, by decide⟩
  exact ⟨l, _, _, _, rfl, rfl, SqL.of (B2 _ _ upd_same (F1.ne nl)), hmm, f, c, mm, rfl, m1, m8, F2, fun r hs bs H3 hR ok _ F3 B3 => q r hs bs H3 hR ok F3 (((B1.new nl).trans B2).trans B3)⟩
end
/-! ### two things alike -/
def Leaf (v u : V) : Prop := (∃ a : Int, v = .int a ∧ u = .int a) ∨ (∃ z : Str, v = .str z ∧ u = .str z ∧ PyData.canLay0 (.str z) = true) ∨ (v = .non ∧ u = .non)
def Al : Nat → Hp → V → V → Prop
  | 0, _, v, u => Leaf v u
  | n + 1, H, v, u => Leaf v u ∨ ∃ (p q : Addr) (xs ys : List V), v = .ref p ∧ u = .ref q ∧ ((H p = some (.lst xs) ∧ H q = some (.lst ys)) ∨ (H p = some (.tup xs) ∧ H q = some (.tup ys))) ∧ xs.length ≤ 400 ∧ All2 (Al n H) xs ys
theorem Al.same {H H' : Hp} (s : Same H H') : ∀ {n : Nat} {v u : V}, Al n H v u → Al n H' v u
  | 0, _, _, h => h
  | n + 1, _, _, h => by
    rcases h with h | ⟨p, q, xs, ys, e1, e2, e3, e4, e5⟩
    · exact .inl h
    exact .inr ⟨p, q, xs, ys, e1, e2, e3.imp (fun z => ⟨s _ _ z.1, s _ _ z.2⟩) (fun z => ⟨s _ _ z.1, s _ _ z.2⟩), e4, e5.imp fun _ _ z => Al.same s z⟩
def spA : Nat → Sp
  | 0 => fun _ _ _ _ => False
  | n + 1 => fun vs H Q _ => ∃ v u : V, vs = [v, u] ∧ Al n H v u ∧ ∀ H', Same H H' → Q (.bl true) H'
theorem kit_lst {K : PySem.W.Frag} : PySem.W.kitAny K (.type "list") [.type "list", .type "tuple"] = some true := by
  unfold PySem.W.kitAny
  rw [kit_ty (show kitB "list" "list" = some true by decide +kernel)]
theorem kit_tup {K : PySem.W.Frag} : PySem.W.kitAny K (.type "tuple") [.type "list", .type "tuple"] = some true := by
  unfold PySem.W.kitAny
  rw [kit_ty (show kitB "tuple" "list" = some false by decide +kernel)]
  unfold PySem.W.kitAny
  rw [kit_ty (show kitB "tuple" "tuple" = some true by decide +kernel)]
theorem kit_int {K : PySem.W.Frag} : PySem.W.kitAny K (.type "int") [.type "list", .type "tuple"] = some false := by
  unfold PySem.W.kitAny
  rw [kit_ty (show kitB "int" "list" = some false by decide +kernel)]
  unfold PySem.W.kitAny
  rw [kit_ty (show kitB "int" "tuple" = some false by decide +kernel)]
  rfl
theorem kit_str {K : PySem.W.Frag} : PySem.W.kitAny K (.type "str") [.type "list", .type "tuple"] = some false := by
  unfold PySem.W.kitAny
  rw [kit_ty (show kitB "str" "list" = some false by decide +kernel)]
  unfold PySem.W.kitAny
  rw [kit_ty (show kitB "str" "tuple" = some false by decide +kernel)]
  rfl
theorem kit_non {K : PySem.W.Frag} : PySem.W.kitAny K (.type "NoneType") [.type "list", .type "tuple"] = some false := by
  unfold PySem.W.kitAny
  rw [kit_ty (show kitB "NoneType" "list" = some false by decide +kernel)]
  unfold PySem.W.kitAny
  rw [kit_ty (show kitB "NoneType" "tuple" = some false by decide +kernel)]
  rfl
theorem or_zip {K : PySem.W.Frag} {ta : TA} {σ : L2.St} {H : Hp} {R : It → Hp → Prop} {p q : Addr} {xs ys : List V} (ht : ∀ Q : List V → Hp → Prop, Q [.ref p, .ref q] H → ta σ H Q) (h : (H p = some (.lst xs) ∧ H q = some (.lst ys)) ∨ (H p = some (.tup xs) ∧ H q = some (.tup ys))) (hl : xs.length = ys.length)
    (k : ∀ J : It, (∀ i H', (H' p = H p ∧ H' q = H q) → i < xs.length → J.go i H') → (∀ H', (H' p = H p ∧ H' q = H q) → J.stop xs.length H') → (∀ i H' v H'', (H' p = H p ∧ H' q = H q) → J.yld i H' v H'' → ∃ T x y, v = .ref T ∧ H' T = none ∧ H'' = upd H' T (.tup [x, y]) ∧ xs[i]? = some x ∧ ys[i]? = some y) → R J H) :
    RZ.iZipA K ta σ H R := by
  rcases h with ⟨e1, e2⟩ | ⟨e1, e2⟩
  · refine ht _ ⟨p, q, xs, ys, rfl, .inl ⟨SqL.of e1, SqL.of e2, k _ (fun i H' st hi => ?_) (fun H' st => ?_) fun i H' v H'' st y => ?_⟩⟩
    · exact ⟨xs, ys, _, _, SqL.of (st.1.trans e1), SqL.of (st.2.trans e2), List.getElem?_eq_getElem hi, List.getElem?_eq_getElem (by omega)⟩
    · exact ⟨xs, ys, SqL.of (st.1.trans e1), SqL.of (st.2.trans e2), .inl (Nat.le_refl _)⟩
    · obtain ⟨T, x, z, q1, q2, q3, q4, q5⟩ := y
      exact ⟨T, x, z, q1, q2, q3, q4 _ (SqL.of (st.1.trans e1)), q5 _ (SqL.of (st.2.trans e2))⟩
  · refine ht _ ⟨p, q, xs, ys, rfl, .inr ⟨SqT.of e1, SqT.of e2, k _ (fun i H' st hi => ?_) (fun H' st => ?_) fun i H' v H'' st y => ?_⟩⟩
    · exact ⟨xs, ys, _, _, SqT.of (st.1.trans e1), SqT.of (st.2.trans e2), List.getElem?_eq_getElem hi, List.getElem?_eq_getElem (by omega)⟩
    · exact ⟨xs, ys, SqT.of (st.1.trans e1), SqT.of (st.2.trans e2), .inl (Nat.le_refl _)⟩
    · obtain ⟨T, x, z, q1, q2, q3, q4, q5⟩ := y
      exact ⟨T, x, z, q1, q2, q3, q4 _ (SqT.of (st.1.trans e1)), q5 _ (SqT.of (st.2.trans e2))⟩
section
variable {P : Program} {w : World} {K : PySem.W.Frag} {mg : Str → Option Value} {base : Heap}
theorem leaf_shaped {x : Str} (h : PyData.canLay0 (.str x) = true) : SeqAt.shaped (.str x) = true := by
  unfold SeqAt.shaped
  rw [h]
  rfl
theorem alike_step (T : Top w K mg) (n : Nat) (below : ∀ (f : Addr) (fd : FuncData), Fun K "_law_alike" "_law_alike" s_law_alike f fd → FnOk P w K mg base CX0 n f fd ["_law_found", "_law_due"] (spA n)) {f : Addr} {fd : FuncData} (F : Fun K "_law_alike" "_law_alike" s_law_alike f fd) :
    FnOk P w K mg base CX0 (n + 1) f fd ["_law_found", "_law_due"] (spA (n + 1)) := by
  obtain ⟨f_law_alike, fd_law_alike, F_law_alike, b_law_alike, m_law_alike⟩ := T.d_law_alike
  have G_law_alike := below f_law_alike fd_law_alike F_law_alike
  refine F.ok sc_law_alike (fun vs H Q E h => ?_) (fun cdv A outer s H vs Q E hr h => ?_)
  · obtain ⟨v, u, rfl, _⟩ := h
    rfl
  obtain ⟨v, u, rfl, al, q⟩ := h
  refine ⟨_, (pss_cons (ps_if (pt_val (pe_callB (call_isiTK K rfl) (by rfl) T.m_isinstance (by decide +kernel) (pa_cons (pv 1) (pa_cons (pe_tup (pa_cons (pe_bltn (v := .ty "list") (by rfl) T.m_list (by decide +kernel) rfl) (pa_cons (pe_bltn (v := .ty "tuple") (by rfl) T.m_tuple (by decide +kernel) rfl) pa_nil))) pa_nil)))) (pss_cons (ps_if (PW.pt (pw_or (pt_cmpR op_ne (pe_callB (call_isiKK K rfl) (by rfl) T.m_isinstance (by decide +kernel) (pa_cons (pv 0) (pa_cons (pe_bltn (v := .ty "list") (by rfl) T.m_list (by decide +kernel) rfl) pa_nil))) (pe_callB (call_isiKK K rfl) (by rfl) T.m_isinstance (by decide +kernel) (pa_cons (pv 1) (pa_cons (pe_bltn (v := .ty "list") (by rfl) T.m_list (by decide +kernel) rfl) pa_nil))) (nomark _)) (pw_or1 (pt_cmpR op_ne (pe_callB (call_isiKK K rfl) (by rfl) T.m_isinstance (by decide +kernel) (pa_cons (pv 0) (pa_cons (pe_bltn (v := .ty "tuple") (by rfl) T.m_tuple (by decide +kernel) rfl) pa_nil))) (pe_callB (call_isiKK K rfl) (by rfl) T.m_isinstance (by decide +kernel) (pa_cons (pv 1) (pa_cons (pe_bltn (v := .ty "tuple") (by rfl) T.m_tuple (by decide +kernel) rfl) pa_nil))) (nomark _))))) (pss_one (ps_ret pe_bl)) pss_nil)
      (pss_cons (ps_if (pt_cmpR op_ne (pe_callB (call_len_seqK K rfl) (by rfl) T.m_len (by decide +kernel) (pa_cons (pv 0) pa_nil)) (pe_callB (call_len_seqK K rfl) (by rfl) T.m_len (by decide +kernel) (pa_cons (pv 1) pa_nil)) (nomark _)) (pss_one (ps_ret pe_bl)) pss_nil)
      (pss_one (ps_ret (pe_callB (cr_allK K rfl rfl) (by rfl) T.m_all (by decide +kernel) (pa_cons (pe_lc (own := [("_law_one", 2), ("_law_other", 3)]) (g := gTup K 2 (gCons (gName 2) (gCons (gName 3) gNil))) (tt := tYes) (by rfl) sc_law_alike.nd (pi_zipAK K rfl (by rfl) T.m_zip (pa_cons (pv 0) (pa_cons (pv 1) pa_nil))) (blkOk_by (own := [("_law_one", 2), ("_law_other", 3)]) (N := N_law_alike) (sc := defScope s_law_alike) (by decide +kernel)) (fun _ _ _ _ _ => (pg_tupK K rfl rfl (pgs_cons (pg_name (i := 2) sc_law_alike.nd rfl (Or.inl rfl)) (pgs_cons (pg_name (i := 3) sc_law_alike.nd rfl (Or.inl rfl)) pgs_nil)))) (fun _ _ _ _ _ => pts_nil) (fun _ _ _ _ _ => (pe_call G_law_alike (hr.mono (Nat.le_refl _)) (by rfl) m_law_alike F_law_alike.kp b_law_alike .nil pass0 (pa_cons (pv 2) (pa_cons (pv 3) pa_nil))))) pa_nil)))))) pss_nil)
      (pss_cons (ps_if (PW.pt (pw_or (pt_val (pe_callB (call_isiKK K rfl) (by rfl) T.m_isinstance (by decide +kernel) (pa_cons (pv 1) (pa_cons (pe_bltn (v := .ty "str") (by rfl) T.m_str (by decide +kernel) rfl) pa_nil)))) (pw_or1 (pt_cmpR op_isN (pv 1) pe_non (nomark _))))) (pss_one (ps_ret (pe_and (pe_cmpR op_eq (pe_callB (call_isiKK K rfl) (by rfl) T.m_isinstance (by decide +kernel) (pa_cons (pv 0) (pa_cons (pe_bltn (v := .ty "str") (by rfl) T.m_str (by decide +kernel) rfl) pa_nil))) (pe_callB (call_isiKK K rfl) (by rfl) T.m_isinstance (by decide +kernel) (pa_cons (pv 1) (pa_cons (pe_bltn (v := .ty "str") (by rfl) T.m_str (by decide +kernel) rfl) pa_nil))) (nomark _)) (pe_one (pe_cmpR (op_eqDK K rfl hr.units) (pv 0) (pv 1) (nomark _)))))) pss_nil)
      (pss_one (ps_ret (pe_and (pe_callB (call_isiKK K rfl) (by rfl) T.m_isinstance (by decide +kernel) (pa_cons (pv 0) (pa_cons (pe_bltn (v := .ty "int") (by rfl) T.m_int (by decide +kernel) rfl) pa_nil))) (pe_and (pe_cmpR op_eq (pe_callB (call_isiKK K rfl) (by rfl) T.m_isinstance (by decide +kernel) (pa_cons (pv 0) (pa_cons (pe_bltn (v := .ty "bool") (by rfl) T.m_bool (by decide +kernel) rfl) pa_nil))) (pe_callB (call_isiKK K rfl) (by rfl) T.m_isinstance (by decide +kernel) (pa_cons (pv 1) (pa_cons (pe_bltn (v := .ty "bool") (by rfl) T.m_bool (by decide +kernel) rfl) pa_nil))) (nomark _)) (pe_one (pe_cmpR (op_eqDK K rfl hr.units) (pv 0) (pv 1) (nomark _))))))))), ?_⟩
  refine ⟨_, rfl, (by show 2 ≤ sizeLine; decide), fun tp ntp => ?_⟩
  have cases2 : Leaf v u ∨ ∃ m, n = m + 1 ∧ ∃ (p q : Addr) (xs ys : List V), v = .ref p ∧ u = .ref q ∧ ((H p = some (.lst xs) ∧ H q = some (.lst ys)) ∨ (H p = some (.tup xs) ∧ H q = some (.tup ys))) ∧ xs.length ≤ 400 ∧ All2 (Al m H) xs ys := by
    cases n with
    | zero => exact .inl al
    | succ m => exact al.imp id fun z => ⟨m, rfl, z⟩
  rcases cases2 with (⟨a, rfl, rfl⟩ | ⟨x, rfl, rfl, lay⟩ | ⟨rfl, rfl⟩) | ⟨m, rfl, p, q2, xs, ys, rfl, rfl, kinds, few, al⟩
  · skip
    refine ⟨_, tp, _, _, _, false, rfl, upd_same, .cons (.ty "list") (.cons (.ty "tuple") .nil), .base (.int _), kit_int, _, rfl, if_bl (fun z => nomatch z) (fun _ => ?_)⟩
    refine ⟨_, rfl, _, _, _, _, false, rfl, .ty "str", .base (.int _), kit_ty (by decide +kernel), _, rfl, if_bl (fun z => nomatch z) (fun _ => ?_)⟩
    refine ⟨_, rfl, rfl, _, rfl, if_bl (fun z => absurd (of_decide_eq_true z) (fun y => nomatch y)) (fun _ => ?_)⟩
    refine ⟨_, rfl, _, _, _, _, true, rfl, .ty "int", .base (.int _), kit_ty (by decide +kernel), _, rfl, if_bl (fun _ => ?_) (fun z => nomatch z)⟩
    refine ⟨_, rfl, _, _, _, _, false, rfl, .ty "bool", .base (.int _), kit_ty (by decide +kernel), _, rfl, _, _, _, _, false, rfl, .ty "bool", .base (.int _), kit_ty (by decide +kernel), rfl, _, rfl, if_bl (fun _ => ?_) (fun z => nomatch z)⟩
    refine ⟨_, rfl, _, rfl, _, _, .int a, .int a, rfl, rfl, ?_⟩
    rw [show PyData.eqv (.int a) (.int a) = true by simp [PyData.eqv]]
    exact q _ (same_new ntp)
  · skip
    refine ⟨_, tp, _, _, _, false, rfl, upd_same, .cons (.ty "list") (.cons (.ty "tuple") .nil), .base (.str _), kit_str, _, rfl, if_bl (fun z => nomatch z) (fun _ => ?_)⟩
    refine ⟨_, rfl, _, _, _, _, true, rfl, .ty "str", .base (.str _), kit_ty (by decide +kernel), _, rfl, if_bl (fun _ => ?_) (fun z => nomatch z)⟩
    refine ⟨_, rfl, _, _, _, _, true, rfl, .ty "str", .base (.str _), kit_ty (by decide +kernel), _, rfl, _, _, _, _, true, rfl, .ty "str", .base (.str _), kit_ty (by decide +kernel), rfl, _, rfl, if_bl (fun _ => ?_) (fun z => nomatch z)⟩
    refine ⟨_, rfl, _, rfl, _, _, .str x, .str x, leaf_shaped lay, leaf_shaped lay, ?_⟩
    rw [PySem.SeqAt.eqv_refl (.str x) lay]
    exact q _ (same_new ntp)
  · skip
    refine ⟨_, tp, _, _, _, false, rfl, upd_same, .cons (.ty "list") (.cons (.ty "tuple") .nil), .base .non, kit_non, _, rfl, if_bl (fun z => nomatch z) (fun _ => ?_)⟩
    refine ⟨_, rfl, _, _, _, _, false, rfl, .ty "str", .base .non, kit_ty (by decide +kernel), _, rfl, if_bl (fun z => nomatch z) (fun _ => ?_)⟩
    refine ⟨_, rfl, rfl, _, rfl, if_bl (fun _ => ?_) (fun z => absurd rfl (of_decide_eq_false z))⟩
    refine ⟨_, rfl, _, _, _, _, false, rfl, .ty "str", .base .non, kit_ty (by decide +kernel), _, rfl, _, _, _, _, false, rfl, .ty "str", .base .non, kit_ty (by decide +kernel), rfl, _, rfl, if_bl (fun _ => ?_) (fun z => nomatch z)⟩
    refine ⟨_, rfl, _, rfl, _, _, .non, .non, rfl, rfl, ?_⟩
    rw [show PyData.eqv .none .none = true by simp [PyData.eqv]]
    exact q _ (same_new ntp)
  rcases kinds with ⟨hp, hq⟩ | ⟨hp, hq⟩
  · have hp1 := same_new (o := .tup [V.ty "list", V.ty "tuple"]) ntp _ _ hp
    have hq1 := same_new (o := .tup [V.ty "list", V.ty "tuple"]) ntp _ _ hq
    refine ⟨_, tp, _, _, _, true, rfl, upd_same, .cons (.ty "list") (.cons (.ty "tuple") .nil), .base (.lst hq1), kit_lst, _, rfl, if_bl (fun _ => ?_) (fun z => nomatch z)⟩
    refine ⟨_, rfl, _, _, _, _, true, rfl, .ty "list", .base (.lst hp1), kit_ty (by decide +kernel), _, rfl, _, _, _, _, true, rfl, .ty "list", .base (.lst hq1), kit_ty (by decide +kernel), rfl, _, rfl, if_bl (fun z => nomatch z) (fun _ => ?_)⟩
    refine ⟨_, rfl, _, _, _, _, false, rfl, .ty "tuple", .base (.lst hp1), kit_ty (by decide +kernel), _, rfl, _, _, _, _, false, rfl, .ty "tuple", .base (.lst hq1), kit_ty (by decide +kernel), rfl, _, rfl, if_bl (fun z => nomatch z) (fun _ => ?_)⟩
    refine ⟨_, rfl, p, _, rfl, .inl (SqL.of hp1), _, rfl, q2, _, rfl, .inl (SqL.of hq1), rfl, _, rfl, if_bl (fun z => ?_) (fun _ => ?_)⟩
    · rw [al.length, decide_eq_true rfl] at z
      cases z
    dsimp only [tNext, tRet, tCB, tCons, tLc]
    refine or_zip (p := p) (q := q2) (xs := xs) (ys := ys) (fun Q q => ⟨_, rfl, _, rfl, q⟩) (.inl ⟨hp1, hq1⟩) al.length (fun J gj sj yj D nD => lc_it (J := J) (n := xs.length) (fun i H5 => H5 D = some (.lst ((List.replicate i true).map V.bl)) ∧ Same (upd H tp (.tup [V.ty "list", V.ty "tuple"])) H5) ⟨upd_same, same_new nD⟩ ?_ ?_ ?_ ?_)
    · rintro i H5 hi ⟨hD, s5⟩
      exact gj i H5 ⟨(s5 _ _ hp1).trans hp1.symm, (s5 _ _ hq1).trans hq1.symm⟩ hi
    · rintro H5 ⟨hD, s5⟩
      exact sj H5 ⟨(s5 _ _ hp1).trans hp1.symm, (s5 _ _ hq1).trans hq1.symm⟩
    · rintro i v H5 H6 hi ⟨hD, s5⟩ y
      obtain ⟨t, x, z, rfl, nt, rfl, ex, ez⟩ := yj i H5 v H6 ⟨(s5 _ _ hp1).trans hp1.symm, (s5 _ _ hq1).trans hq1.symm⟩ y
      obtain ⟨z', ez', ha⟩ := al.getL ex
      rw [ez] at ez'
      cases ez'
      have s6 := s5.trans (same_new (o := .tup [x, z]) nt)
      refine ⟨t, _, rfl, SqT.of upd_same, rfl, _, _, rfl, _, _, rfl, rfl, rfl, yes_in ⟨_, rfl, _, rfl, x, z, rfl, ha.same ((same_new ntp).trans s6), fun H7 s7 => ⟨_, s7 _ _ (same_new nt _ _ hD), ?_, ?_, Same.own (s6.trans s7) nD⟩⟩⟩
      · rw [List.length_map, List.length_replicate]; exact small1000 (by omega)
      · rw [upd_same, List.replicate_succ', List.map_append]; rfl
    · rintro H5 ⟨hD, s5⟩
      refine ⟨D, _, rfl, SqL.of hD, ?_⟩
      rw [show (List.replicate xs.length true).all id = true by simp]
      exact q _ ((same_new ntp).trans s5)
  · have hp1 := same_new (o := .tup [V.ty "list", V.ty "tuple"]) ntp _ _ hp
    have hq1 := same_new (o := .tup [V.ty "list", V.ty "tuple"]) ntp _ _ hq
    refine ⟨_, tp, _, _, _, true, rfl, upd_same, .cons (.ty "list") (.cons (.ty "tuple") .nil), .base (.tup hq1), kit_tup, _, rfl, if_bl (fun _ => ?_) (fun z => nomatch z)⟩
    refine ⟨_, rfl, _, _, _, _, false, rfl, .ty "list", .base (.tup hp1), kit_ty (by decide +kernel), _, rfl, _, _, _, _, false, rfl, .ty "list", .base (.tup hq1), kit_ty (by decide +kernel), rfl, _, rfl, if_bl (fun z => nomatch z) (fun _ => ?_)⟩
    refine ⟨_, rfl, _, _, _, _, true, rfl, .ty "tuple", .base (.tup hp1), kit_ty (by decide +kernel), _, rfl, _, _, _, _, true, rfl, .ty "tuple", .base (.tup hq1), kit_ty (by decide +kernel), rfl, _, rfl, if_bl (fun z => nomatch z) (fun _ => ?_)⟩
    refine ⟨_, rfl, p, _, rfl, .inr (SqT.of hp1), _, rfl, q2, _, rfl, .inr (SqT.of hq1), rfl, _, rfl, if_bl (fun z => ?_) (fun _ => ?_)⟩
    · rw [al.length, decide_eq_true rfl] at z
      cases z
    dsimp only [tNext, tRet, tCB, tCons, tLc]
    refine or_zip (p := p) (q := q2) (xs := xs) (ys := ys) (fun Q q => ⟨_, rfl, _, rfl, q⟩) (.inr ⟨hp1, hq1⟩) al.length (fun J gj sj yj D nD => lc_it (J := J) (n := xs.length) (fun i H5 => H5 D = some (.lst ((List.replicate i true).map V.bl)) ∧ Same (upd H tp (.tup [V.ty "list", V.ty "tuple"])) H5) ⟨upd_same, same_new nD⟩ ?_ ?_ ?_ ?_)
    · rintro i H5 hi ⟨hD, s5⟩
      exact gj i H5 ⟨(s5 _ _ hp1).trans hp1.symm, (s5 _ _ hq1).trans hq1.symm⟩ hi
    · rintro H5 ⟨hD, s5⟩
      exact sj H5 ⟨(s5 _ _ hp1).trans hp1.symm, (s5 _ _ hq1).trans hq1.symm⟩
    · rintro i v H5 H6 hi ⟨hD, s5⟩ y
      obtain ⟨t, x, z, rfl, nt, rfl, ex, ez⟩ := yj i H5 v H6 ⟨(s5 _ _ hp1).trans hp1.symm, (s5 _ _ hq1).trans hq1.symm⟩ y
      obtain ⟨z', ez', ha⟩ := al.getL ex
      rw [ez] at ez'
      cases ez'
      have s6 := s5.trans (same_new (o := .tup [x, z]) nt)
      refine ⟨t, _, rfl, SqT.of upd_same, rfl, _, _, rfl, _, _, rfl, rfl, rfl, yes_in ⟨_, rfl, _, rfl, x, z, rfl, ha.same ((same_new ntp).trans s6), fun H7 s7 => ⟨_, s7 _ _ (same_new nt _ _ hD), ?_, ?_, Same.own (s6.trans s7) nD⟩⟩⟩
      · rw [List.length_map, List.length_replicate]; exact small1000 (by omega)
      · rw [upd_same, List.replicate_succ', List.map_append]; rfl
    · rintro H5 ⟨hD, s5⟩
      refine ⟨D, _, rfl, SqL.of hD, ?_⟩
      rw [show (List.replicate xs.length true).all id = true by simp]
      exact q _ ((same_new ntp).trans s5)
theorem ok_alike (T : Top w K mg) : ∀ (n : Nat) (f : Addr) (fd : FuncData), Fun K "_law_alike" "_law_alike" s_law_alike f fd → FnOk P w K mg base CX0 n f fd ["_law_found", "_law_due"] (spA n)
  | 0, _, _, _ => ⟨fun _ _ _ _ h => h.elim, fun _ _ _ _ _ _ _ _ _ _ _ _ _ h => h.elim⟩
  | n + 1, _, _, F => alike_step T n (ok_alike T n) F
abbrev sp_law_alike (K : PySem.W.Frag) : Sp := spA 5
theorem ok_law_alike {f : Addr} {fd : FuncData} (F : Fun K "_law_alike" "_law_alike" s_law_alike f fd) (T : Top w K mg) : FnOk P w K mg base CX0 5 f fd ["_law_found", "_law_due"] (sp_law_alike K) := ok_alike T 5 f fd F
end
/-! ### all(..), any(..) over anything that can be walked, whatever a def of ours does in the element -/
section
open PySem.Spec GxR GenW
/-- the table's growth, when the generator's code object was got -/
structure GotC (P : Addr) (ps : Array Value) (z z' : Shared) : Prop where
  same : z' = { z with heap := z'.heap, toks := z'.toks }
  ext : Heap.ExtBut P z.heap z'.heap
  tab : ∃ more, z'.heap.get? P = some { cls := .none, data := .fields (ps ++ more) } ∧ TriplesOk (ps ++ more).toList
theorem code_gotC {prog : Program} {w : World} {A : Around} {E : Value → Shared → Prop} {env : Env} {gpos : Pos} {nm : Str} {scope : Scope} {c P : Addr} {ps : Array Value} {z : Shared}
    (hcode : env.code = .ref c) (cd : PySem.W.CodeHd z.heap c P) (hP : z.heap.get? P = some { cls := .none, data := .fields ps }) (ht : TriplesOk ps.toList) :
    wpAny (model prog w) A (genexprCode env gpos nm scope) (fun _ z' => GotC P ps z z') E z := by
  cases among : codeAmong gpos ps.toList with
  | some cv => exact wpAny_genexprCode_hit hcode (cd.code hP ht) among ⟨rfl, .refl _ _, #[], by simpa using hP, by simpa using ht⟩
  | none =>
    refine wpAny_genexprCodeX hcode (cd.code hP ht) (cd.tab hP) among fun c' h' tk ext ge lt co _ tab _ => ?_
    obtain ⟨_, _, _, _, _, _, _, _, _, _, _, _, _, _, _, _, _, _, _, tr, _⟩ := co
    exact ⟨rfl, ext, _, tab.2, tr⟩
/-- the generator sleeps: others may have run generators, nothing else has changed -/
def Woke (s s' : Shared) : Prop := ∃ (g' : Array GenState) (tk : Nat), s' = { s with gens := g', toks := tk } ∧ AllBare g'
theorem Woke.trans {a b c : Shared} (h : Woke a b) (k : Woke b c) : Woke a c := by
  obtain ⟨g1, t1, rfl, _⟩ := h
  obtain ⟨g2, t2, rfl, b2⟩ := k
  exact ⟨g2, t2, rfl, b2⟩
theorem inv_woke {X : Cx} {pins : List (Addr × Obj)} {σ : L2.St} {H : Hp} {s s' : Shared} (I : Inv X pins σ H s) (k : Woke s s') : Inv X pins σ H s' := by
  obtain ⟨g', tk, rfl, b⟩ := k
  exact I.call (h' := s.heap) (d' := s.drawn) (ch := []) Un.refl I.hok b (fun _ z => nomatch z)
theorem bare_set {a : Array GenState} {g : Nat} {x : GenState} (h : AllBare a) (hx : x.bare = true) : AllBare (a.setIfInBounds g x) := fun y hy => by
  obtain ⟨i, hi, e⟩ := Array.mem_iff_getElem.mp hy
  rw [Array.getElem_setIfInBounds] at e
  · by_cases z : g = i
    · rw [if_pos z] at e
      rw [← e]; exact hx
    · rw [if_neg z] at e
      rw [← e]; exact h _ (Array.getElem_mem _)
  · rw [Array.size_setIfInBounds] at hi
    exact hi
/-- the context of a generator's frame: the objects at fp are its iterator's -/
abbrev gcx (X : Cx) (A' : Around) (N' : List Str) (s : Shared) (H : Hp) (cenv : Env) (fp : List Addr) (pn : List (Addr × Obj)) : Cx :=
  { X with A := A', N := N', s_0 := s, H_0 := H, env := cenv, outer := X.stack, stack := cenv :: X.stack, ex := fp, fn := fun _ => false, pn := pn, xe := fun _ _ => False }
/-- a generator's names: its own, and those that it takes from the def around it -/
structure GenN (X : Cx) (scope : Scope) (N' : List Str) (sg : L2.St → L2.St) : Prop where
  kind : scope.kind = .function
  co : scope.isCoroutine = false
  cell : ∀ y ∈ scope.names, y.2 ≠ .cell
  dot : scope.names.lookup (".0" : Str) = some NameKind.local
  free : ∀ y ∈ scope.names, y.2 = .free → X.env.scope.names.lookup y.1 = some .cell ∨ X.env.scope.names.lookup y.1 = some .free
  len : ∀ σ, (sg σ).length = N'.length
  took : ∀ σ (i : Nat) x v, N'[i]? = some x → (sg σ)[i]? = some (some v) → scope.names.lookup x = some .free ∧ ∃ j : Nat, X.N[j]? = some x ∧ σ[j]? = some (some v)
theorem gen_start {X : Cx} {pins : List (Addr × Obj)} {σ : L2.St} {H : Hp} {s : Shared} {scope : Scope} {N' : List Str} {sg : L2.St → L2.St} {A' : Around} {it : Value} {fp : List Addr} {code : Value} {h' : Heap} {go : Obj} {gens' : Array GenState} {tk : Nat}
    (I : Inv X pins σ H s) (S : GenN X scope N' sg) (hfp : ∀ b ∈ fp, FpOk X pins H b ∧ b < s.heap.objs.size)
    (hA : A'.frames = some (genEnv scope (cloFrom X.env.cells scope.names []) s.heap.objs.size code builtinsNs X.env :: X.stack)) (hh : A'.handled = none)
    (hn : h'.Ns s.heap.objs.size (fun y => if y = ".0" then some it else none)) (sb : Heap.SameBut s.heap.objs.size (s.heap.push { cls := .type "frame", data := .dict #[] }) h') (hd : ∀ v, go.data ≠ .cell v)
    (hpush : (h'.push go).get? h'.objs.size = some go) (bare : AllBare gens') :
    Inv (gcx X A' N' s H (genEnv scope (cloFrom X.env.cells scope.names []) s.heap.objs.size code builtinsNs X.env) fp [(h'.objs.size, go)]) [] (sg σ) H { s with gens := gens', toks := tk, heap := h'.push go } := by
  have sz : h'.objs.size = s.heap.objs.size + 1 := by rw [sb.1, Heap.size_push]
  have keep : ∀ b o, s.heap.get? b = some o → (h'.push go).get? b = some o := fun b o e => Heap.get?_push_of_some _ (sb.extBut b o (Nat.ne_of_lt (Heap.lt_size e)) (Heap.get?_push_of_some _ e))
  have has : ∀ y ∈ scope.names, y.2 = .free → ∃ c, X.env.cells.lookup y.1 = some c := fun y hy e => I.ok.has _ ((S.free y hy e).elim .inl .inr)
  have look : ∀ {x : Str} {c : Addr}, (cloFrom X.env.cells scope.names []).lookup x = some c → (x, NameKind.free) ∈ scope.names ∧ X.env.cells.lookup x = some c := fun {x c} e => by
    rcases cloFrom_mem (PySem.mem_of_lookup e) with z | ⟨z1, z2⟩
    · cases z
    · obtain ⟨c', e'⟩ := has _ z1 rfl
      rw [e'] at z2
      exact ⟨z1, by rw [e', z2]; rfl⟩
  have find : ∀ {x : Str}, scope.names.lookup x = some .free → ∃ c, (cloFrom X.env.cells scope.names []).lookup x = some c := fun {x} e => mem_lookup (cloFrom_has (PySem.mem_of_lookup e))
  have apart : ∀ b, s.heap.objs.size ≤ b → b ∉ frs X.stack := fun b hb m => by
    rcases List.mem_cons.mp (I.stkSub b m) with z | z
    · exact absurd (Nat.lt_of_lt_of_le I.lt (z ▸ hb)) (Nat.lt_irrefl _)
    · exact I.nofs hb z
  refine ⟨⟨I.ok.mod, S.kind, I.ok.glob, rfl, Nat.le_refl _, fun x y c h1 h2 => I.ok.inj x y c (look h1).2 (look h2).2, fun x hx => ?_, (fun x c h _ => nomatch h), fun _ => hh, hA, .inr ⟨rfl, rfl⟩, fun b hb => ⟨Nat.ne_of_lt (hfp b hb).2, fun x c e => (hfp b hb).1.2.2.2.2.1 x c (look e).2⟩, I.bs, Nat.le_trans I.ok.bsz I.sz, fun b o e hb => ?_, fun b hb m => ?_, I.stack, I.stkFree⟩,
    rfl, bare, Un.kept keep, ⟨_, hn.push _, fun i x v h1 h2 h3 => ?_⟩, fun x c e => ?_, I.hok.fresh (Nat.le_refl _), fun x c e => I.freeC x c (look e).2, fun p hp => ?_, I.hok.kept keep, S.len σ⟩
  · rcases hx with hx | hx
    · exact absurd rfl (S.cell _ (PySem.mem_of_lookup (show scope.names.lookup x = some .cell from hx)))
    · exact find hx
  · rcases (hfp b hb).1.2.2.2.1 with z | z
    · exact I.ok.noex b o e z
    · exact absurd (Nat.lt_of_lt_of_le (Heap.lt_size e) (Nat.le_trans I.ok.bsz z)) (Nat.lt_irrefl _)
  · rcases List.mem_cons.mp (I.stkSub b m) with z | z
    · exact (hfp b hb).1.2.1 z
    · exact (hfp b hb).1.2.2.1 z
  · obtain ⟨fr, j, e1, e2⟩ := S.took σ i x v h1 h2
    have kn := S.free _ (PySem.mem_of_lookup fr) rfl
    obtain ⟨m0, _, hl⟩ := I.loc
    obtain ⟨u, r, lk⟩ := hl j x v e1 e2 (kn.elim (fun z => .inr (.inl z)) (fun z => .inr (.inr z)))
    refine ⟨u, r, ?_⟩
    rcases lk with ⟨z, _⟩ | ⟨_, c, ec, ic⟩
    · have z : X.env.scope.names.lookup x = some .local := z
      rcases kn with k | k <;> rw [k] at z <;> cases z
    · obtain ⟨c', e'⟩ := find fr
      have e3 := (look e').2
      rw [ec] at e3
      obtain rfl := Option.some.inj e3
      obtain ⟨o, ho, hc⟩ := ic
      exact .inr ⟨.inr fr, _, e', o, keep _ _ ho, hc⟩
  · obtain ⟨v, o, ho, hc⟩ := I.cell x c (look e).2
    exact ⟨v, o, keep _ _ ho, hc⟩
  · have hp : p ∈ [(h'.objs.size, go)] ++ ([] : List (Addr × Obj)) := hp
    rw [List.append_nil, List.mem_singleton] at hp
    subst hp
    exact ⟨hpush, I.hok.fresh (by rw [sz]; exact Nat.le_succ _), by show h'.objs.size ≠ s.heap.objs.size; rw [sz]; exact Nat.succ_ne_self _, apart _ (by rw [sz]; exact Nat.le_succ _), hd⟩
end
section
open PySem.Spec GxR GenW
variable {X : Cx} {A2 : Around} {N' : List Str} {s0 : Shared} {H0 : Hp} {cenv : Env} {fp : List Addr} {pn : List (Addr × Obj)} {tg elt iter : Expr} {scope : Scope} {gpos : Pos} {it : Addr}
/-- the around of a generator's turn -/
abbrev genA (A2 : Around) (tg elt iter : Expr) (scope : Scope) (gpos : Pos) (it : Addr) (cenv : Env) : Around := A2.over (.compLoop (.GeneratorExp elt [⟨tg, iter, [], 0⟩] scope gpos) 0 (.ref it) .none cenv) []
/-- what a generator tells at its end -/
def genR (G : Cx) (sgσ : L2.St) (kp : Bool) (Q : Bool → Hp → Prop) : GenEnd := fun _ _ r s1 => r = .ok .next ∧ ∃ H, Inv G [] sgσ H s1 ∧ Q kp H
/-- what it hands out: a truth; the truth kp, and it may be woken again -/
def genY (G : Cx) (sgσ : L2.St) (kp : Bool) (Q : Bool → Hp → Prop) : Protocol := fun _ _ v s1 kap => ∃ b H, v = .bool b ∧ Inv G [] sgσ H s1 ∧ (b ≠ kp → Q b H) ∧ (b = kp → ∀ s2, Woke s1 s2 → kap (.send .none) s2)
theorem gen_loop {J : It} {tn : Nat → Heap → Prop} {g : TG} {te : TE} {sgσ : L2.St} {vs : List Nat} {kp : Bool} {Q : Bool → Hp → Prop} {W : Nat → Nat → Hp → Prop}
    (T : Turn X.prog X.w X.K tg J fp it tn) (hc : X.calm = true) (hco : cenv.scope.isCoroutine = false) (hpn : ∀ p ∈ pn, ∀ b ∈ fp, p.1 ≠ b)
    (pg : L2.PG (gcx X (genA A2 tg elt iter scope gpos it cenv) N' s0 H0 cenv fp pn) tg g) (pe : L2.PE (gcx X (genA A2 tg elt iter scope gpos it cenv) N' s0 H0 cenv fp pn) elt te)
    (turn : ∀ i m H, W i m H → (J.stop i H ∧ Q kp H) ∨ (J.go i H ∧ ∃ Nx : Hp → Prop, (∀ H', Nx H' → ∃ m', m' < m ∧ W (i + 1) m' H') ∧ ∀ x H', J.yld i H x H' → g x sgσ H' fun σ2 H2 => wipe σ2 vs = sgσ ∧ te σ2 H2 fun y H3 => ∃ b, y = .bl b ∧ (b ≠ kp → Q b H3) ∧ (b = kp → Nx H3))) :
    ∀ (n i m : Nat) (s₀ s : Shared) (H : Hp), m < n → Inv (gcx X (genA A2 tg elt iter scope gpos it cenv) N' s0 H0 cenv fp pn) [] sgσ H s → tn i s.heap → (∀ b ∈ fp, H b = none) → W i m H →
      Seg (model X.prog X.w) A2 (genR (gcx X (genA A2 tg elt iter scope gpos it cenv) N' s0 H0 cenv fp pn) sgσ kp Q) (genY (gcx X (genA A2 tg elt iter scope gpos it cenv) N' s0 H0 cenv fp pn) sgσ kp Q) n s₀
        (.compLoop (.GeneratorExp elt [⟨tg, iter, [], 0⟩] scope gpos) 0 (.ref it) .none cenv) ((model X.prog X.w).den (.compLoop (.GeneratorExp elt [⟨tg, iter, [], 0⟩] scope gpos) 0 (.ref it) .none cenv)) [] s := by
  have stat : ∀ {σ' : L2.St} {H' : Hp} {s' : Shared}, Inv (gcx X (genA A2 tg elt iter scope gpos it cenv) N' s0 H0 cenv fp pn) [] σ' H' s' → (∀ b ∈ fp, H' b = none) → ∀ b ∈ fp, FpOk (gcx X (genA A2 tg elt iter scope gpos it cenv) N' s0 H0 cenv fp pn) [] H' b := fun {σ' H' s'} I' hn b hb =>
    ⟨hn b hb, (I'.ok.exf b hb).1, I'.ok.exfs b hb, .inl hb, fun x c e => (I'.ok.exf b hb).2 x c e, fun p hp => hpn p (by simpa using hp) b hb⟩
  intro n
  induction n with
  | zero => intro i m s₀ s H h; exact absurd h (Nat.not_lt_zero _)
  | succ n ih =>
    intro i m s₀ s H hm I st nf w
    show Seg _ A2 _ _ _ s₀ _ ((compTurn (.GeneratorExp elt [⟨tg, iter, [], 0⟩] scope gpos) 0 (.ref it) .none cenv).onRaise (leaving cenv)) [] s
    rw [compTurn_gen, Sem.onRaise_eq_wrap]
    refine seg_bind_wrap (wpAny_standAt ?_)
    rcases turn i m H w with ⟨stop, q⟩ | ⟨go, Nx, hNx, step⟩
    · refine seg_bind_wrap (wpAny_mono (T.done (gcx X (genA A2 tg elt iter scope gpos it cenv) N' s0 H0 cenv fp pn) rfl rfl rfl hc i [] s _ H (fun _ _ => False) I (stat I nf) st stop) (fun r s6 ⟨hr, I6⟩ => ?_) fun _ _ z => z.elim)
      subst hr
      exact seg_end (.ok .next) ⟨rfl, H, I6, q⟩
    · refine seg_bind_wrap (wpAny_mono (T.item (gcx X (genA A2 tg elt iter scope gpos it cenv) N' s0 H0 cenv fp pn) rfl rfl rfl hc i [] s _ H (fun _ _ => False) I (stat I nf) st go) (fun r s6 ⟨u, hr, h6⟩ => ?_) fun _ _ z => z.elim)
      subst hr
      refine seg_bind_wrap (wpAny_mono h6 (fun _ s7 ⟨x, H7, I7, r7, y7, st7, n7⟩ => ?_) fun _ _ z => z.elim)
      have I7' := I7.pinned (stat I7 n7) (T.obj _ _ st7)
      refine seg_bind_wrap (wpAny_mono (pg.run _ s7 _ H7 x u _ I7' r7 (step x H7 y7)) (fun _ s8 ⟨σ8, H8, I8, hw8, q8⟩ => ?_) fun _ _ z => z.elim)
      refine seg_bind_wrap ?_
      rw [List.forIn_nil]
      refine wpAny_pure ?_
      simp only [if_true]
      have hy : ∀ v, yieldOut cenv v = yieldValue v := fun v => by simp only [yieldOut, hco, Bool.false_eq_true, if_false]
      simp only [hy]
      rw [Sem.bind_eq_wrap', Sem.bind_eq_wrap', Sem.wrap_wrap, Sem.wrap_wrap]
      refine seg_wrap (wpAny_mono (pe.run _ s8 σ8 H8 _ I8 q8) (fun z s9 ⟨yv, H9, I9, r9, b, ey, no, yes⟩ => ?_) fun _ _ z => z.elim)
      subst ey
      obtain rfl : z = .bool b := r9
      have pin' : ∀ b ∈ fp, ∀ o, s7.heap.get? b = some o → s9.heap.get? b = some o ∧ H9 b = none := fun b hb o e =>
        let z := I9.pin (b, o) (List.mem_append_right _ (List.mem_append_right _ (mem_pinsAt hb e)))
        ⟨z.1, z.2.1⟩
      have hl : sgσ.length = σ8.length := by rw [← hw8, wipe_length]
      have I10 : Inv (gcx X (genA A2 tg elt iter scope gpos it cenv) N' s0 H0 cenv fp pn) [] sgσ H9 s9 := (I9.unpinned (pins := [])).weak hl fun j v e => by
        rw [← hw8] at e
        exact (wipe_some e).1
      have st9 := T.keep _ _ _ st7 fun b hb o e => (pin' b hb o e).1
      have n9 : ∀ b ∈ fp, H9 b = none := fun b hb => by
        obtain ⟨o, e, _⟩ := T.obj _ _ st7 b hb
        exact (pin' b hb o e).2
      refine seg_at (seg_yield rfl rfl rfl ⟨b, H9, rfl, I10, no, fun eb s2 wk => ?_⟩)
      obtain ⟨m', lt, w'⟩ := hNx H9 (yes eb)
      have I2 := inv_woke I10 wk
      obtain ⟨g', tk, rfl, _⟩ := wk
      exact seg_again rfl (ih (i + 1) m' _ _ H9 (by omega) I2 st9 n9 w')
end
section
open PySem.Spec GxR GenW
variable {X : Cx} {A2 : Around} {N' : List Str} {s0 : Shared} {H0 : Hp} {cenv : Env} {fp : List Addr} {pn : List (Addr × Obj)} {tg elt iter : Expr} {scope : Scope} {gpos : Pos} {it : Addr}
theorem gen_begin {J : It} {tn : Nat → Heap → Prop} {R : GenEnd} {Y : Protocol} {n : Nat} {s₀ s : Shared} (T : Turn X.prog X.w X.K tg J fp it tn) (st : tn 0 s.heap)
    (loop : Seg (model X.prog X.w) A2 R Y n s₀ (.compLoop (.GeneratorExp elt [⟨tg, iter, [], 0⟩] scope gpos) 0 (.ref it) .none cenv) ((model X.prog X.w).den (.compLoop (.GeneratorExp elt [⟨tg, iter, [], 0⟩] scope gpos) 0 (.ref it) .none cenv)) [] s) :
    Seg (model X.prog X.w) A2 R Y n s₀ (.compStart (.GeneratorExp elt [⟨tg, iter, [], 0⟩] scope gpos) 0 (.ref it) .none cenv) ((model X.prog X.w).den (.compStart (.GeneratorExp elt [⟨tg, iter, [], 0⟩] scope gpos) 0 (.ref it) .none cenv)) [] s := by
  show Seg _ A2 _ _ _ s₀ _ ((compStart (.GeneratorExp elt [⟨tg, iter, [], 0⟩] scope gpos) 0 (.ref it) .none cenv).onRaise (leaving cenv)) [] s
  unfold compStart
  rw [Sem.onRaise_eq_wrap]
  show Seg _ A2 _ _ _ s₀ _ ((ask >>= _).wrap _ _ _ _) [] s
  refine seg_bind_wrap (wpAny_askSetting ?_)
  split
  · exact seg_again rfl loop
  · refine seg_bind_wrap (wpAny_rule (seg_bind_wrap (wpAny_standAt (seg_bind_wrap (T.self _ 0 s _ _ st (seg_again rfl loop))))))
/-- a generator asleep, that may be woken n times more -/
structure Asleep (X : Cx) (A2 : Around) (G : Cx) (sgσ : L2.St) (kp : Bool) (Q : Bool → Hp → Prop) (a : Addr) (k : Nat) (n : Nat) (s : Shared) : Prop where
  inv : ∃ H, Inv G [] sgσ H s
  is : ∀ {s' : Shared} {H' : Hp}, Inv G [] sgσ H' s' → s'.heap.IsGen a k
  at_ : ∃ gs, s.gens[k]? = some gs ∧ ∀ s2, Woke s s2 → gs.Goes (model X.prog X.w) A2 (genR G sgσ kp Q) (genY G sgσ kp Q) n (.send .none) s2
theorem setGen_woke {s : Shared} {k : Nat} {x : GenState} (h : AllBare s.gens) (hx : x.bare = true) : Woke s (s.setGen k x) := ⟨_, s.toks, rfl, bare_set h hx⟩
theorem setGen_at {s : Shared} {k : Nat} {x : GenState} (h : k < s.gens.size) : (s.setGen k x).gens[k]? = some x := by
  show (s.gens.setIfInBounds k x)[k]? = some x
  rw [Array.getElem?_setIfInBounds_self, if_pos h]
theorem gen_next {A : Around} {G : Cx} {sgσ : L2.St} {kp : Bool} {Q : Bool → Hp → Prop} {a : Addr} {k n : Nat} {s : Shared} {R : Option Value → Shared → Prop} {E : Value → Shared → Prop} (hh : A.handled = none) (hd : A.depth < recursionLimit) (z : Asleep X A.in1 G sgσ kp Q a k n s)
    (yes : ∀ n' s', n = n' + 1 → Asleep X A.in1 G sgσ kp Q a k n' s' → R (some (.bool kp)) s')
    (no : ∀ b H s', b ≠ kp → Inv G [] sgσ H s' → Q b H → R (some (.bool b)) s') (done : ∀ H s', Inv G [] sgσ H s' → Q kp H → R none s') : wpAny (model X.prog X.w) A (pyNext (.ref a)) R E s := by
  obtain ⟨H0, I0⟩ := z.inv
  obtain ⟨gs, hgs, hgo⟩ := z.at_
  have ks : k < s.gens.size := by
    rcases Nat.lt_or_ge k s.gens.size with h | h
    · exact h
    · rw [Array.getElem?_eq_none h] at hgs; cases hgs
  refine wpAny_gsz (n := k + 1) ks ?_
  refine wpAny_pyNext_genexpQ (P := fun _ _ s1 => ∃ H, Inv G [] sgσ H s1 ∧ Q kp H) (Y := genY G sgσ kp Q) hh I0.nolimit hd (z.is I0) hgs (hgo _ (setGen_woke I0.bare rfl)) (fun v s1 gs' hb hy => ?_) fun s1 ⟨H, I, q⟩ h' hk _ => ?_
  · obtain ⟨b, H, rfl, I, stop, on⟩ := hy
    have wk := setGen_woke (k := k) I.bare hb
    intro sz
    have sz : k < s1.gens.size := by
      have e : (s1.setGen k gs').gens.size = s1.gens.size := setGen_size ..
      rw [e] at sz
      exact sz
    by_cases eb : b = kp
    · subst eb
      have on := on rfl
      cases n with
      | zero => exact (on s1 ⟨s1.gens, s1.toks, rfl, I.bare⟩).elim
      | succ n' => exact yes n' _ rfl ⟨⟨H, inv_woke I wk⟩, z.is, gs', setGen_at sz, fun s2 w2 => on s2 (wk.trans w2)⟩
    · exact no b H _ eb (inv_woke I wk) (stop eb)
  · have J : Inv G [] sgσ H { s1.setGen k .finished with heap := h' } := by
      have J1 := inv_woke I (setGen_woke (k := k) (x := .finished) I.bare rfl)
      exact J1.kept (t' := s1.toks) hk
    exact done H _ J q
theorem all_loop {A : Around} {G : Cx} {sgσ : L2.St} {Q : Bool → Hp → Prop} {a : Addr} {k : Nat} (hh : A.handled = none) (hd : A.depth < recursionLimit) :
    ∀ (n : Nat) (s : Shared), Asleep X A.in1.in1 G sgσ true Q a k n s → codeAny (model X.prog X.w) A (.builtin "all.loop" ⟨[.ref a], []⟩) (fun r s' => ∃ b H, r = .ok (.ret (.bool b)) ∧ Inv G [] sgσ H s' ∧ Q b H) s := by
  intro n
  induction n with
  | zero =>
    intro s z
    refine codeAny_builtin F.entry_all_loop ?_
    rw [Around.under_plainId F.plain_all_loop _]
    show wpAny _ A.in1 (pyNext (.ref a) >>= _) _ _ s
    refine wpAny_bind (gen_next (A := A.in1) hh hd z (fun n' s' e => nomatch e) (fun b H s' eb I q => ?_) fun H s' I q => ?_)
    · obtain rfl : b = false := by cases b <;> first | rfl | exact absurd rfl eb
      refine wpAny_bind (wpAny_holding (wpAny_truthy_bool ?_))
      refine wpAny_bind (wpAny_letGo ?_)
      simp only [Bool.false_eq_true, if_false]
      exact wpAny_bind (wpAny_rule (wpAny_pure ⟨false, H, rfl, I, q⟩))
    · exact wpAny_bind (wpAny_rule (wpAny_pure ⟨true, H, rfl, I, q⟩))
  | succ n ih =>
    intro s z
    refine codeAny_builtin F.entry_all_loop ?_
    rw [Around.under_plainId F.plain_all_loop _]
    show wpAny _ A.in1 (pyNext (.ref a) >>= _) _ _ s
    refine wpAny_bind (gen_next (A := A.in1) hh hd z (fun n' s' e z' => ?_) (fun b H s' eb I q => ?_) fun H s' I q => ?_)
    · obtain rfl : n' = n := by omega
      refine wpAny_bind (wpAny_holding (wpAny_truthy_bool ?_))
      refine wpAny_bind (wpAny_letGo ?_)
      simp only [if_true]
      exact wpAny_pure ⟨plainId_quiet F.plain_all_loop _, ih _ z'⟩
    · obtain rfl : b = false := by cases b <;> first | rfl | exact absurd rfl eb
      refine wpAny_bind (wpAny_holding (wpAny_truthy_bool ?_))
      refine wpAny_bind (wpAny_letGo ?_)
      simp only [Bool.false_eq_true, if_false]
      exact wpAny_bind (wpAny_rule (wpAny_pure ⟨false, H, rfl, I, q⟩))
    · exact wpAny_bind (wpAny_rule (wpAny_pure ⟨true, H, rfl, I, q⟩))
theorem any_loop {A : Around} {G : Cx} {sgσ : L2.St} {Q : Bool → Hp → Prop} {a : Addr} {k : Nat} (hh : A.handled = none) (hd : A.depth < recursionLimit) :
    ∀ (n : Nat) (s : Shared), Asleep X A.in1.in1 G sgσ false Q a k n s → codeAny (model X.prog X.w) A (.builtin "any.loop" ⟨[.ref a], []⟩) (fun r s' => ∃ b H, r = .ok (.ret (.bool b)) ∧ Inv G [] sgσ H s' ∧ Q b H) s := by
  intro n
  induction n with
  | zero =>
    intro s z
    refine codeAny_builtin F.entry_any_loop ?_
    rw [Around.under_plainId F.plain_any_loop _]
    show wpAny _ A.in1 (pyNext (.ref a) >>= _) _ _ s
    refine wpAny_bind (gen_next (A := A.in1) hh hd z (fun n' s' e => nomatch e) (fun b H s' eb I q => ?_) fun H s' I q => ?_)
    · obtain rfl : b = true := by cases b <;> first | rfl | exact absurd rfl eb
      refine wpAny_bind (wpAny_holding (wpAny_truthy_bool ?_))
      refine wpAny_bind (wpAny_letGo ?_)
      simp only [if_true]
      exact wpAny_bind (wpAny_rule (wpAny_pure ⟨true, H, rfl, I, q⟩))
    · exact wpAny_bind (wpAny_rule (wpAny_pure ⟨false, H, rfl, I, q⟩))
  | succ n ih =>
    intro s z
    refine codeAny_builtin F.entry_any_loop ?_
    rw [Around.under_plainId F.plain_any_loop _]
    show wpAny _ A.in1 (pyNext (.ref a) >>= _) _ _ s
    refine wpAny_bind (gen_next (A := A.in1) hh hd z (fun n' s' e z' => ?_) (fun b H s' eb I q => ?_) fun H s' I q => ?_)
    · obtain rfl : n' = n := by omega
      refine wpAny_bind (wpAny_holding (wpAny_truthy_bool ?_))
      refine wpAny_bind (wpAny_letGo ?_)
      simp only [Bool.false_eq_true, if_false]
      exact wpAny_pure ⟨plainId_quiet F.plain_any_loop _, ih _ z'⟩
    · obtain rfl : b = true := by cases b <;> first | rfl | exact absurd rfl eb
      refine wpAny_bind (wpAny_holding (wpAny_truthy_bool ?_))
      refine wpAny_bind (wpAny_letGo ?_)
      simp only [if_true]
      exact wpAny_bind (wpAny_rule (wpAny_pure ⟨true, H, rfl, I, q⟩))
    · exact wpAny_bind (wpAny_rule (wpAny_pure ⟨false, H, rfl, I, q⟩))
end
section
open PySem.Spec GxR GenW
/-- all (kp true), any (kp false): over what comes, g puts it under its names, te tells the element; the table at P may grow -/
def tQuant (kp : Bool) (P : Addr) (wi : TI) (sg : L2.St → L2.St) (g : TG) (te : TE) (vs : List Nat) : TE := fun σ H Q => wi σ H fun J H1 => TabG H1 P ∧ ∀ H2, Tabbed P H1 H2 → ∃ W : Nat → Nat → Hp → Prop, (∃ m, W 0 m H2) ∧ ∀ i m H, W i m H →
  (J.stop i H ∧ Q (.bl kp) H) ∨ (J.go i H ∧ ∃ Nx : Hp → Prop, (∀ H', Nx H' → ∃ m', m' < m ∧ W (i + 1) m' H') ∧ ∀ x H', J.yld i H x H' → g x (sg σ) H' fun σ2 H3 => wipe σ2 vs = sg σ ∧ te σ2 H3 fun y H4 => ∃ b, y = .bl b ∧ (b ≠ kp → Q (.bl b) H4) ∧ (b = kp → Nx H4))
theorem over_gen {A : Around} {elt tg iter : Expr} {scope : Scope} {gpos : Pos} {it acc : Value} {cenv : Env} : A.over (.compLoop (.GeneratorExp elt [⟨tg, iter, [], 0⟩] scope gpos) 0 it acc cenv) [] = A.deeper cenv := by
  first
    | rfl
    | (obtain ⟨hd, d, fr, gs, u⟩ := A; simp [Around.over, Around.deeper, marksOver, frameCount, unitsOf, envsOf, guardsOf, pushEnvs, pushGuards, Code.envs, Code.env?, Code.isFrame, Code.guards, Code.isGuard, Code.weight, Code.frames, Code.isCreation, Code.isCaller, Code.cUnits])
theorem gen_made {X : Cx} {c P : Addr} {elt iter tg : Expr} {scope : Scope} {gpos : Pos} {N' : List Str} {sg : L2.St → L2.St} {kp : Bool} {wi : TI} {g : TG} {te : TE} {vs : List Nat} {k : Nat} {pins : List (Addr × Obj)} {σ : L2.St} {H : Hp} {s : Shared} {Q : VK}
    (hr : Room (k + 1) X.A) (hc : X.calm = true) (TB : TabB X.base X.mg c P) (hcode : X.env.code = .ref c) (S : GenN X scope N' sg) (hi : L2.PI X tg iter wi) (hs : ∀ v, genFold iter X.env v = pure v)
    (pg : ∀ (A' : Around) (s : Shared) (H : Hp) (cl : List (Str × Addr)) (C bi : Addr) (code : Value) (fp : List Addr) (pn : List (Addr × Obj)), Room k A' → L2.PG (gcx X A' N' s H (genEnv scope cl C code bi X.env) fp pn) tg g)
    (pe : ∀ (A' : Around) (s : Shared) (H : Hp) (cl : List (Str × Addr)) (C bi : Addr) (code : Value) (fp : List Addr) (pn : List (Addr × Obj)), Room k A' → L2.PE (gcx X A' N' s H (genEnv scope cl C code bi X.env) fp pn) elt te)
    (I : Inv X pins σ H s) (h : tQuant kp P wi sg g te vs σ H Q) :
    wpAny (model X.prog X.w) X.A (eval (.GeneratorExp elt [⟨tg, iter, [], 0⟩] scope gpos) X.env) (fun gv z => ∃ (a : Addr) (kk n : Nat) (G : Cx), gv = .ref a ∧ Asleep X X.A.in1.in1 G (sg σ) kp (fun b H' => Q (.bl b) H') a kk n z ∧ ∀ s' b H', Inv G [] (sg σ) H' s' → Q (.bl b) H' → EP X pins σ Q (.bool b) s') X.xe s := by
  have has : ∀ y ∈ scope.names, y.2 = .free → ∃ c, X.env.cells.lookup y.1 = some c := fun y hy e => I.ok.has _ ((S.free y hy e).elim .inl .inr)
  refine wpAny_GeneratorExp_make S.co (closure_ok has) S.cell S.dot S.kind (by have := hr.dp; omega) ?_ hs
  refine thn (hi.run pins s σ H _ I h) fun xv s1 hx => thn hx fun itv s2 ⟨it, fp, tn, J, H2, ei, I2, T, st2, f2, ⟨ps, hP, tri⟩, q⟩ => ?_
  subst ei
  have tabP : s2.heap.get? P = some { cls := .none, data := .fields ps } := I2.hok P _ hP
  refine ⟨I2.nolimit, thn (code_gotC (ps := ps) hcode (TB.code.keeps fun b o e => I2.bk b o e) tabP tri) fun code s3 got => ?_⟩
  obtain ⟨eq3, ext, more, hP3, tri3⟩ := got
  obtain ⟨h3, g3, d3, t3, o3⟩ := s3
  obtain ⟨rfl, rfl, rfl⟩ : g3 = s2.gens ∧ d3 = s2.drawn ∧ o3 = s2.os := by
    have := eq3
    simp only [Shared.mk.injEq] at this
    exact ⟨this.2.1, this.2.2.1, this.2.2.2.2⟩
  replace ext : Heap.ExtBut P s2.heap h3 := ext
  replace hP3 : h3.get? P = some { cls := .none, data := .fields (ps ++ more) } := hP3
  have kept : ∀ b o, b ≠ P → s2.heap.get? b = some o → h3.get? b = some o := fun b o nb e => ext b o nb e
  have neP : ∀ b ∈ fp, b ≠ P := fun b hb e => by
    have := (f2 b hb).1
    rw [e, hP] at this
    cases this
  have I3 : Inv X pins σ (upd H2 P (.tbl (ps ++ more))) { s2 with heap := h3, toks := t3 } := inv_tab (more := more) (h' := h3) (g' := s2.gens) (d' := s2.drawn) (t' := t3) I2 hP kept hP3 I2.bare
  have tb : Tabbed P H2 (upd H2 P (.tbl (ps ++ more))) := ⟨⟨_, upd_same, tri3⟩, fun b nb => upd_ne nb⟩
  obtain ⟨W, ⟨m0, w0⟩, turn⟩ := q _ tb
  have st3 : tn 0 h3 := T.keep _ _ _ st2 fun b hb o e => kept b o (neP b hb) e
  have n3 : ∀ b ∈ fp, upd H2 P (.tbl (ps ++ more)) b = none := fun b hb => by rw [upd_ne (neP b hb)]; exact (f2 b hb).1
  have f3 : ∀ b ∈ fp, FpOk X pins (upd H2 P (.tbl (ps ++ more))) b ∧ b < h3.objs.size := fun b hb => by
    obtain ⟨o, e, _⟩ := T.obj _ _ st3 b hb
    exact ⟨⟨n3 b hb, (f2 b hb).2⟩, Heap.lt_size e⟩
  generalize upd H2 P (.tbl (ps ++ more)) = H3 at *
  obtain ⟨bm, ob, b1, b2, b3, b4, b5, b6, b7, b8⟩ := TB.bm
  refine wpAny_builtinsFor (m := X.mg) (by rw [I2.ok.glob]; exact (I2.mod.glob.keeps fun b o e => I2.bk b o e).extBut ext TB.gP) b1 b2 (kept _ _ b4 (I2.bk _ _ b5)) b6 b7 b8 ?_
  intro h' hn' sb'
  have sz : h'.objs.size = h3.objs.size + 1 := by
    have := sb'.1
    rw [this, Heap.size_push]
  generalize ego : ({ cls := .type "generator", data := .fields #[.int s2.gens.size 0, .str "<genexpr>" (t3 + 1), .str (X.env.qual ++ "<genexpr>") (t3 + 1 + 1)] } : Obj) = go
  have hpush : (h'.push go).get? h'.objs.size = some go := by
    rw [← ego]
    exact Heap.get?_push_size _ rfl
  have hgen : ∀ hh : Heap, hh.get? h'.objs.size = some go → hh.IsGen h'.objs.size s2.gens.size := fun hh e => by
    rw [← ego] at e
    exact ⟨_, _, _, e, rfl, rfl, rfl⟩
  have hd : ∀ v, go.data ≠ .cell v := fun v z => by rw [← ego] at z; cases z
  have hbare : AllBare (s2.gens.push (.fresh (.compStart (.GeneratorExp elt [⟨tg, iter, [], 0⟩] scope gpos) 0 (.ref it) .none (genEnv scope (cloFrom X.env.cells scope.names []) h3.objs.size code builtinsNs X.env)))) := AllBare.push I2.bare rfl
  have hA : (genA X.A.in1.in1 tg elt iter scope gpos it (genEnv scope (cloFrom X.env.cells scope.names []) h3.objs.size code builtinsNs X.env)).frames = some (genEnv scope (cloFrom X.env.cells scope.names []) h3.objs.size code builtinsNs X.env :: X.stack) := by
    rw [show genA X.A.in1.in1 tg elt iter scope gpos it _ = _ from over_gen]
    exact Around.frames_deeper I3.ok.frames
  have hroom : Room k (genA X.A.in1.in1 tg elt iter scope gpos it (genEnv scope (cloFrom X.env.cells scope.names []) h3.objs.size code builtinsNs X.env)) := by
    rw [show genA X.A.in1.in1 tg elt iter scope gpos it _ = _ from over_gen]
    refine ⟨hr.hd, ?_, ?_⟩
    · have := hr.dp
      show X.A.depth + 1 + 3 * k + 5 < _
      omega
    · have := hr.un
      show X.A.units + 1 + 1 + 3 + 16 * k + 200 < _
      omega
  have I4 := gen_start (tk := t3 + 1 + 1 + 1) (gens' := s2.gens.push (.fresh (.compStart (.GeneratorExp elt [⟨tg, iter, [], 0⟩] scope gpos) 0 (.ref it) .none (genEnv scope (cloFrom X.env.cells scope.names []) h3.objs.size code builtinsNs X.env)))) I3 S f3 hA hr.hd hn' sb' hd hpush hbare
  have hpn : ∀ p ∈ [(h'.objs.size, go)], ∀ b ∈ fp, p.1 ≠ b := fun p hp b hb e => by
    rw [List.mem_singleton.mp hp] at e
    have := (f3 b hb).2
    rw [← e] at this
    have this : h'.objs.size < h3.objs.size := this
    omega
  refine ⟨h'.objs.size, s2.gens.size, m0 + 1, _, rfl, ⟨⟨H3, I4⟩, fun {s' H'} I' => hgen _ (I'.pin (h'.objs.size, go) (List.mem_append_left _ (List.mem_singleton.mpr rfl))).1, _, Array.getElem?_push_size .., fun s5 wk => ⟨rfl, ?_⟩⟩, fun s' b H' I' qb => ?_⟩
  · have I5 := inv_woke I4 wk
    have st5 : tn 0 s5.heap := by
      obtain ⟨g', tk, rfl, _⟩ := wk
      exact T.keep _ _ _ st3 fun b hb o e => Heap.get?_push_of_some _ (sb'.extBut b o (Nat.ne_of_lt (Heap.lt_size e)) (Heap.get?_push_of_some _ e))
    exact gen_begin T st5 (gen_loop (kp := kp) (Q := fun b H' => Q (.bl b) H') (vs := vs) T hc S.co hpn (pg _ _ _ _ _ _ _ _ _ hroom) (pe _ _ _ _ _ _ _ _ _ hroom) turn _ 0 m0 _ _ H3 (Nat.lt_succ_self _) I5 st5 n3 w0)
  · exact ⟨.bl b, H', I3.call' (ch := fp) I'.os I'.base I'.hok I'.bare fun b hb => ⟨(f3 b hb).1.2.2.2.1, (f3 b hb).1.2.1, (f3 b hb).1.2.2.2.2.1, (f3 b hb).1.2.2.2.2.2⟩, rfl, qb⟩
end
section
open PySem.Spec GxR GenW
variable {X : Cx} {c P : Addr} {elt iter tg : Expr} {scope : Scope} {p pos gpos : Pos} {N' : List Str} {sg : L2.St → L2.St} {wi : TI} {g : TG} {te : TE} {vs : List Nat} {k : Nat}
theorem pe_allG (hr : Room (k + 1) X.A) (hc : X.calm = true) (hg : Gl X "all") (hm : X.mg "all" = none) (hb : bootBuiltins "all" = some (.builtin "all")) (TB : TabB X.base X.mg c P) (hcode : X.env.code = .ref c) (S : GenN X scope N' sg) (hi : L2.PI X tg iter wi) (hs : ∀ v, genFold iter X.env v = pure v)
    (pg : ∀ (A' : Around) (s : Shared) (H : Hp) (cl : List (Str × Addr)) (C bi : Addr) (code : Value) (fp : List Addr) (pn : List (Addr × Obj)), Room k A' → L2.PG (gcx X A' N' s H (genEnv scope cl C code bi X.env) fp pn) tg g)
    (pe : ∀ (A' : Around) (s : Shared) (H : Hp) (cl : List (Str × Addr)) (C bi : Addr) (code : Value) (fp : List Addr) (pn : List (Addr × Obj)), Room k A' → L2.PE (gcx X A' N' s H (genEnv scope cl C code bi X.env) fp pn) elt te) :
    L2.PE X (.Call (.Name "all" p) [.GeneratorExp elt [⟨tg, iter, [], 0⟩] scope gpos] [] pos) (tQuant true P wi sg g te vs) := by
  refine ⟨fun pins s σ H Q I h => ?_⟩
  refine wpAny_Call_Name_kw (ld_blt I hg hm hb (PyProof.Rows.callWith_builtin1 ?_ rfl rfl))
  show wpAny _ _ (spliced ((false, eval (.GeneratorExp elt [⟨tg, iter, [], 0⟩] scope gpos) X.env) :: backTo pos (starEach [] X.env))) _ _ s
  refine Calls.spliced_cons (thn (gen_made hr hc TB hcode S hi hs pg pe I h) fun gv z ⟨a, kk, n, G, ev, sl, fin⟩ => Calls.spliced_nil ?_)
  subst ev
  refine call_function_tree F.kind_all F.plain_all F.entry_all (F.args_all1 _) ?_
  unfold Builtin.«all»
  refine wpAny_bind (m := oneArg "all" _) (wpAny_pure ?_)
  obtain ⟨H0, I0⟩ := sl.inv
  refine wpAny_bind (wpAny_pyIter_gen (sl.is I0) ?_)
  refine wpAny_pure ⟨plainId_quiet F.plain_all_loop _, codeAny_mono (all_loop hr.hd (by have := hr.dp; omega) n z sl) fun r s' ⟨b, H', er, I', q⟩ => ?_⟩
  subst er
  exact fin s' b H' I' q
theorem pe_anyG (hr : Room (k + 1) X.A) (hc : X.calm = true) (hg : Gl X "any") (hm : X.mg "any" = none) (hb : bootBuiltins "any" = some (.builtin "any")) (TB : TabB X.base X.mg c P) (hcode : X.env.code = .ref c) (S : GenN X scope N' sg) (hi : L2.PI X tg iter wi) (hs : ∀ v, genFold iter X.env v = pure v)
    (pg : ∀ (A' : Around) (s : Shared) (H : Hp) (cl : List (Str × Addr)) (C bi : Addr) (code : Value) (fp : List Addr) (pn : List (Addr × Obj)), Room k A' → L2.PG (gcx X A' N' s H (genEnv scope cl C code bi X.env) fp pn) tg g)
    (pe : ∀ (A' : Around) (s : Shared) (H : Hp) (cl : List (Str × Addr)) (C bi : Addr) (code : Value) (fp : List Addr) (pn : List (Addr × Obj)), Room k A' → L2.PE (gcx X A' N' s H (genEnv scope cl C code bi X.env) fp pn) elt te) :
    L2.PE X (.Call (.Name "any" p) [.GeneratorExp elt [⟨tg, iter, [], 0⟩] scope gpos] [] pos) (tQuant false P wi sg g te vs) := by
  refine ⟨fun pins s σ H Q I h => ?_⟩
  refine wpAny_Call_Name_kw (ld_blt I hg hm hb (PyProof.Rows.callWith_builtin1 ?_ rfl rfl))
  show wpAny _ _ (spliced ((false, eval (.GeneratorExp elt [⟨tg, iter, [], 0⟩] scope gpos) X.env) :: backTo pos (starEach [] X.env))) _ _ s
  refine Calls.spliced_cons (thn (gen_made hr hc TB hcode S hi hs pg pe I h) fun gv z ⟨a, kk, n, G, ev, sl, fin⟩ => Calls.spliced_nil ?_)
  subst ev
  refine call_function_tree F.kind_any F.plain_any F.entry_any (F.args_any1 _) ?_
  unfold Builtin.«any»
  refine wpAny_bind (m := oneArg "any" _) (wpAny_pure ?_)
  obtain ⟨H0, I0⟩ := sl.inv
  refine wpAny_bind (wpAny_pyIter_gen (sl.is I0) ?_)
  refine wpAny_pure ⟨plainId_quiet F.plain_any_loop _, codeAny_mono (any_loop hr.hd (by have := hr.dp; omega) n z sl) fun r s' ⟨b, H', er, I', q⟩ => ?_⟩
  subst er
  exact fin s' b H' I' q
end
section
theorem genN_none {X : Cx} {scope : Scope} {N' : List Str} {n : Nat} (h1 : scope.kind = .function) (h2 : scope.isCoroutine = false) (h3 : ∀ y ∈ scope.names, y.2 ≠ .cell) (h4 : scope.names.lookup (".0" : Str) = some NameKind.local) (h5 : ∀ y ∈ scope.names, y.2 ≠ .free) (h6 : n = N'.length := by rfl) :
    GenN X scope N' (fun _ => List.replicate n none) :=
  ⟨h1, h2, h3, h4, fun y hy z => absurd z (h5 y hy), fun _ => by rw [List.length_replicate]; exact h6, fun σ i x v _ e => by
    rw [List.getElem?_replicate] at e
    split at e <;> cases e⟩
theorem genN_one {X : Cx} {scope : Scope} {ts : List Str} {f : Str} {j : Nat} (h1 : scope.kind = .function) (h2 : scope.isCoroutine = false) (h3 : ∀ y ∈ scope.names, y.2 ≠ .cell) (h4 : scope.names.lookup (".0" : Str) = some NameKind.local) (h5 : ∀ y ∈ scope.names, y.2 = .free → y.1 = f)
    (h6 : scope.names.lookup f = some .free) (h7 : X.N[j]? = some f) (h8 : X.env.scope.names.lookup f = some .cell ∨ X.env.scope.names.lookup f = some .free) :
    GenN X scope (ts ++ [f]) (fun σ => List.replicate ts.length none ++ [σ.getD j none]) :=
  ⟨h1, h2, h3, h4, fun y hy z => by rw [h5 y hy z]; exact h8, fun _ => by rw [List.length_append, List.length_append, List.length_replicate]; rfl, fun σ i x v e1 e2 => by
    by_cases h : i < ts.length
    · rw [List.getElem?_append_left (by rw [List.length_replicate]; exact h), List.getElem?_replicate] at e2
      split at e2 <;> cases e2
    · rw [List.getElem?_append_right (by omega)] at e1
      rw [List.getElem?_append_right (by rw [List.length_replicate]; omega), List.length_replicate] at e2
      cases hz : i - ts.length with
      | zero =>
        rw [hz] at e1 e2
        obtain rfl : f = x := Option.some.inj e1
        have e2 : σ.getD j none = some v := Option.some.inj e2
        refine ⟨h6, j, h7, ?_⟩
        rw [List.getD_eq_getElem?_getD] at e2
        cases hj : σ[j]? with
        | none => rw [hj] at e2; cases e2
        | some z => rw [hj] at e2; rw [show z = some v from e2]
      | succ z => rw [hz] at e1; cases e1⟩
end
/-! ### places that steps lead back to -/
/-- one or more steps from p -/
inductive OnW (st : Nat → List Nat) (p : Nat) : Nat → Prop
  | one {x : Nat} : x ∈ st p → OnW st p x
  | more {x y : Nat} : OnW st p x → y ∈ st x → OnW st p y
theorem OnW.lt {st : Nat → List Nat} {n p x : Nat} (hp : p < n) (hs : ∀ i, i < n → ∀ y ∈ st i, y < n) (h : OnW st p x) : x < n := by
  induction h with
  | one m => exact hs _ hp _ m
  | more _ m ih => exact hs _ ih _ m
theorem OnW.inside {st : Nat → List Nat} {p y : Nat} {S : List Nat} (h0 : ∀ x ∈ st p, x ∈ S) (h1 : ∀ x ∈ S, ∀ y ∈ st x, y ∈ S) (h : OnW st p y) : y ∈ S := by
  induction h with
  | one m => exact h0 _ m
  | more _ m ih => exact h1 _ ih _ m
theorem OnW.rank {st : Nat → List Nat} {rk : Nat → Int} (h : ∀ x, ∀ y ∈ st x, rk x < rk y) {p y : Nat} (w : OnW st p y) : rk p < rk y := by
  induction w with
  | one m => exact h _ _ m
  | more _ m ih => exact Int.lt_trans ih (h _ _ m)
/-- the dict of the steps -/
abbrev stK (adr : Nat → Addr) (n : Nat) : List (Key × V) := (List.range n).map fun i => (Sum.inl ((i : Nat) : Int), V.ref (adr i))
theorem stK_at {adr : Nat → Addr} {n p : Nat} (h : p < n) : valV (stK adr n) (Sum.inl ((p : Nat) : Int)) = some (V.ref (adr p)) := by
  unfold valV
  rw [List.find?_map]
  have : (List.range n).find? ((fun kv : Key × V => decide (kv.1 = Sum.inl ((p : Nat) : Int))) ∘ fun i => (Sum.inl ((i : Nat) : Int), V.ref (adr i))) = some p := by
    rw [List.find?_range_eq_some]
    refine ⟨decide_eq_true rfl, List.mem_range.mpr h, fun j hj => ?_⟩
    show (!decide ((Sum.inl ((j : Nat) : Int) : Key) = Sum.inl ((p : Nat) : Int))) = true
    rw [decide_eq_false fun e => by have := Sum.inl.inj e; omega]
    rfl
  rw [this]
  rfl
structure StAt (H : Hp) (d : Addr) (n : Nat) (st : Nat → List Nat) : Prop where
  ex : ∃ adr : Nat → Addr, H d = some (.dK (stK adr n)) ∧ ∀ i, i < n → H (adr i) = some (.lst ((st i).map nV))
theorem StAt.same {H H' : Hp} {d : Addr} {n : Nat} {st : Nat → List Nat} (a : StAt H d n st) (s : Same H H') : StAt H' d n st := by
  obtain ⟨adr, e1, e2⟩ := a.ex
  exact ⟨adr, s _ _ e1, fun i hi => s _ _ (e2 i hi)⟩
theorem StAt.get {H : Hp} {d : Addr} {n : Nat} {st : Nat → List Nat} (a : StAt H d n st) {p : Nat} (h : p < n) : ∃ l, DGet H d (nV p) (some (.ref l)) ∧ H l = some (.lst ((st p).map nV)) := by
  obtain ⟨adr, e1, e2⟩ := a.ex
  refine ⟨adr p, ?_, e2 p h⟩
  have := DGet.k (k := Sum.inl ((p : Nat) : Int)) e1
  rwa [stK_at h] at this
theorem few_below : ∀ {n : Nat} {l : List Nat}, l.Nodup → (∀ x ∈ l, x < n) → l.length ≤ n := by
  intro n l nd h
  have : ∀ {l m : List Nat}, l.Nodup → (∀ x ∈ l, x ∈ m) → l.length ≤ m.length := by
    intro l
    induction l with
    | nil => intro _ _ _; exact Nat.zero_le _
    | cons x l ih =>
      intro m nd h
      obtain ⟨n1, n2⟩ := List.nodup_cons.mp nd
      have i := ih (m := m.erase x) n2 fun y hy => (List.mem_erase_of_ne (fun e : y = x => n1 (e ▸ hy))).mpr (h y (List.mem_cons_of_mem _ hy))
      have := List.length_erase_of_mem (h x (List.mem_cons_self ..))
      have pos : 0 < m.length := List.length_pos_of_mem (h x (List.mem_cons_self ..))
      show l.length + 1 ≤ m.length
      omega
  have := this (m := List.range n) nd fun x hx => List.mem_range.mpr (h x hx)
  rwa [List.length_range] at this
section
variable {P : Program} {w : World} {K : PySem.W.Frag} {mg : Str → Option Value} {base : Heap}
def sp_comes_back (K : PySem.W.Frag) : Sp := fun vs H Q _ => ∃ (d : Addr) (n p : Nat) (st : Nat → List Nat), vs = [nV p, .ref d] ∧ StAt H d n st ∧ p < n ∧ n ≤ 400 ∧ (∀ i, i < n → (st i).length ≤ 400 ∧ ∀ y ∈ st i, y < n) ∧
  ∀ (b : Bool) (H' : Hp), (b = true ↔ OnW st p p) → Same H H' → Q (.bl b) H'
theorem ok_comes_back {f : Addr} {fd : FuncData} (F : Fun K "comes_back" "comes_back" s_comes_back f fd) (T : Top w K mg) : FnOk P w K mg base CX0 1 f fd ["place", "steps"] (sp_comes_back K) := by
  refine F.ok sc_comes_back (fun vs H Q E h => ?_) (fun cdv A outer s H vs Q E hr h => ?_)
  · obtain ⟨d, n, p, st, rfl, _⟩ := h
    rfl
  obtain ⟨d, n, p, st, rfl, hd, hp, hn, hs, q⟩ := h
  have hlt : ∀ i, i < n → ∀ y ∈ st i, y < n := fun i hi => (hs i hi).2
  refine ⟨_, (pss_cons (ps_set (i := 2) sc_comes_back.nd rfl (Or.inl rfl) (pe_callTy0 cr_set0 (by rfl) T.m_set (by decide +kernel)))
      (pss_cons (ps_set (i := 3) sc_comes_back.nd rfl (Or.inl rfl) (pe_callTy (call_list_ofK K rfl) (by rfl) T.m_list (by decide +kernel) (pa_cons (pe_dget (hu_of hr) (pv 1) (pv 0) (fun _ _ => rfl)) pa_nil)))
      (pss_cons (ps_while PassesOwn.never (pt_truthK K rfl (pv 3) (by intro _; rfl))
        (pss_cons (ps_set (i := 4) sc_comes_back.nd rfl (Or.inl rfl) (pe_bm0K K rfl PySem.F.plainAttrs_list PySem.F.slot_list_pop PySem.F.type_list_pop mt_pop (pv 3)))
      (pss_cons (ps_if (pt_cmpR op_eq (pv 4) (pv 0) (nomark _)) (pss_one (ps_ret pe_bl)) pss_nil)
      (pss_one (ps_if (pt_cmpR or_snotin (pv 4) (pv 2) (by with_unfolding_all rfl)) (pss_cons (ps_expr (pe_sadd (pv 2) (pa_cons (pv 4) pa_nil)))
      (pss_one (ps_expr (pe_bmK K rfl PySem.F.plainAttrs_list PySem.F.slot_list_extend PySem.F.type_list_extend mt_extend (pv 3) (pa_cons (pe_dget (hu_of hr) (pv 1) (pv 4) (fun _ _ => rfl)) pa_nil))))) pss_nil)))))
      (pss_one (ps_ret pe_bl))))), ?_⟩
  refine ⟨rfl, fun sp nsp => ?_⟩
  have s1 : Same H (upd H sp (SetO w sp (fun _ => false) 0)) := same_new nsp
  obtain ⟨l0, g0, hl0⟩ := (hd.same s1).get hp
  refine ⟨_, rfl, _, rfl, d, _, rfl, g0, l0, _, rfl, .inl (SqL.of hl0), fun ll nll => ?_⟩
  have s2 := s1.trans (same_new (o := .lst ((st p).map nV)) nll)
  have nel : sp ≠ ll := fun z => by rw [← z, upd_same] at nll; cases nll
  have nll0 : H ll = none := same_none s1 nll
  let W : Nat → L2.St → Hp → Prop := fun m σ H5 => ∃ (S L : List Nat) (Sf : Int → Bool) (v4 : Option V), σ = [some (nV p), some (.ref d), some (.ref sp), some (.ref ll), v4] ∧ H5 sp = some (SetO w sp Sf S.length) ∧ H5 ll = some (.lst (L.map nV)) ∧ Same H H5 ∧ S.Nodup ∧ (∀ x : Nat, Sf ((x : Nat) : Int) = true ↔ x ∈ S) ∧
    (∀ x ∈ S, x < n ∧ x ≠ p ∧ OnW st p x) ∧ (∀ x ∈ L, x < n ∧ OnW st p x) ∧ (∀ y ∈ st p, y ∈ S ∨ y ∈ L) ∧ (∀ x ∈ S, ∀ y ∈ st x, y ∈ S ∨ y ∈ L) ∧ m = 401 * (n - S.length) + L.length ∧ m ≤ 401 * n + 400
  refine ⟨W, ⟨_, [], st p, fun _ => false, _, rfl, by rw [upd_ne nel]; exact upd_same, upd_same, s2, List.nodup_nil, fun x => ⟨(fun z => nomatch z), fun z => (by cases z)⟩, (fun x z => by cases z), fun x hx => ⟨hlt p hp x hx, .one hx⟩, fun y hy => .inr hy, (fun x z => by cases z), rfl, ?_⟩, ?_⟩
  · have := (hs p hp).1
    show 401 * (n - 0) + _ ≤ _
    omega
  rintro m σ H5 ⟨S, L, Sf, v4, rfl, hsp, hll, s5, nd, sf, hS, hL, c0, c1, em, mb⟩
  refine ⟨_, rfl, !(L.map nV).isEmpty, .inl ⟨_, SqL.of hll, rfl⟩, ?_⟩
  have sl := few_below nd fun x hx => (hS x hx).1
  rcases List.eq_nil_or_concat L with rfl | ⟨L', x, rfl⟩
  · show (if (false : Bool) = true then _ else _)
    rw [if_neg Bool.false_ne_true]
    refine q false H5 ⟨(fun z => nomatch z), fun z => ?_⟩ s5
    exact absurd rfl (hS p (z.inside (fun y hy => (c0 y hy).resolve_right fun z => by cases z) (fun x hx y hy => (c1 x hx y hy).resolve_right fun z => by cases z))).2.1
  have tr : (!((L'.concat x).map nV).isEmpty) = true := by
    rw [List.concat_eq_append, List.map_append]
    cases L'.map nV <;> rfl
  rw [List.concat_eq_append] at *
  rw [tr]
  refine if_bl (fun _ => ?_) (fun z => nomatch z)
  refine ⟨fun σ' H' => ∃ m', m' < m ∧ W m' σ' H', fun _ _ z => z, ?_⟩
  have lL : (L' ++ [x]).length = L'.length + 1 := by rw [List.length_append]; rfl
  obtain ⟨xn, xw⟩ := hL x (List.mem_append.mpr (.inr (List.mem_singleton.mpr rfl)))
  refine ⟨_, rfl, .inl ⟨rfl, _, SqL.of hll⟩, ll, _, nV x, rfl, rfl, hll, by rw [List.map_append, List.length_append, List.getElem?_append_right (by rw [List.length_map]; exact Nat.le_refl _)]; simp, ?_⟩
  have dl : ((L' ++ [x]).map nV).dropLast = L'.map nV := by rw [List.map_append]; exact List.dropLast_concat
  rw [dl]
  have s6 : Same H (upd H5 ll (.lst (L'.map nV))) := Same.own s5 nll0
  have hsp6 : upd H5 ll (.lst (L'.map nV)) sp = some (SetO w sp Sf S.length) := by rw [upd_ne nel]; exact hsp
  have hll6 : upd H5 ll (.lst (L'.map nV)) ll = some (.lst (L'.map nV)) := upd_same
  generalize upd H5 ll (.lst (L'.map nV)) = H6 at *
  refine ⟨_, rfl, _, rfl, rfl, _, rfl, if_bl (fun e => ?_) (fun e => ?_)⟩
  · have e : x = p := by have := V.int.inj (of_decide_eq_true e); omega
    rw [e] at xw
    exact q true H6 ⟨fun _ => xw, fun _ => rfl⟩ s6
  have xp : x ≠ p := fun z => of_decide_eq_false e (by rw [z])
  refine ⟨_, rfl, _, rfl, _, sp, Sf, _, rfl, rfl, hsp6, _, rfl, if_bl (fun e => ?_) (fun e => ?_)⟩
  · have xS : x ∉ S := fun z => by
      rw [(sf x).mpr z] at e
      cases e
    have xf : Sf ((x : Nat) : Int) = false := by
      cases h : Sf ((x : Nat) : Int) with
      | false => rfl
      | true => exact absurd ((sf x).mp h) xS
    have nd2 : (x :: S).Nodup := List.nodup_cons.mpr ⟨xS, nd⟩
    have sl2 := few_below (n := n) nd2 fun y hy => by
      rcases List.mem_cons.mp hy with rfl | hy
      · exact xn
      · exact (hS y hy).1
    rw [List.length_cons] at sl2
    refine ⟨_, rfl, ⟨sp, _, _, rfl, hsp6⟩, _, rfl, sp, _, Sf, _, rfl, rfl, hsp6, by unfold scanBound; omega, ?_⟩
    rw [xf, if_neg Bool.false_ne_true]
    generalize e7 : upd H6 sp _ = H7
    have s7 : Same H H7 := by rw [← e7]; exact Same.own s6 nsp
    have hsp7 : H7 sp = some (SetO w sp (fun j => Sf j || decide (j = ((x : Nat) : Int))) (x :: S).length) := by rw [← e7]; exact upd_same
    have hll7 : H7 ll = some (.lst (L'.map nV)) := by rw [← e7, upd_ne (Ne.symm nel)]; exact hll6
    clear e7
    obtain ⟨lx, gx, hlx⟩ := (hd.same s7).get xn
    have sx := (hs x xn).1
    refine ⟨_, rfl, .inl ⟨rfl, _, SqL.of hll7⟩, _, rfl, _, rfl, d, _, rfl, gx, ll, lx, _, _, rfl, rfl, hll7, hlx, by rw [List.length_map, List.length_map]; rw [sizeLine_eq]; omega, ?_⟩
    refine ⟨401 * (n - (S.length + 1)) + (L' ++ st x).length, by rw [List.length_append]; omega, x :: S, L' ++ st x, _, _, rfl, by rw [upd_ne nel]; exact hsp7, by rw [upd_same, List.map_append], Same.own s7 nll0, nd2, fun y => ?_, fun y hy => ?_, fun y hy => ?_, fun y hy => ?_, fun z hz y hy => ?_, rfl, by rw [List.length_append]; omega⟩
    · rw [List.mem_cons]
      by_cases z : y = x
      · subst z; simp
      · have : (decide (((y : Nat) : Int) = ((x : Nat) : Int))) = false := decide_eq_false fun e => z (by omega)
        show (Sf _ || decide _) = true ↔ _
        rw [this, Bool.or_false, sf y]
        exact ⟨.inr, fun h => h.resolve_left z⟩
    · rcases List.mem_cons.mp hy with rfl | hy
      · exact ⟨xn, xp, xw⟩
      · exact hS y hy
    · rcases List.mem_append.mp hy with hy | hy
      · exact hL y (List.mem_append.mpr (.inl hy))
      · exact ⟨hlt x xn y hy, .more xw hy⟩
    · rcases c0 y hy with z | z
      · exact .inl (List.mem_cons_of_mem _ z)
      · rcases List.mem_append.mp z with z | z
        · exact .inr (List.mem_append.mpr (.inl z))
        · rw [List.mem_singleton.mp z]; exact .inl (List.mem_cons_self ..)
    · rcases List.mem_cons.mp hz with rfl | hz
      · exact .inr (List.mem_append.mpr (.inr hy))
      · rcases c1 z hz y hy with z | z
        · exact .inl (List.mem_cons_of_mem _ z)
        · rcases List.mem_append.mp z with z | z
          · exact .inr (List.mem_append.mpr (.inl z))
          · rw [List.mem_singleton.mp z]; exact .inl (List.mem_cons_self ..)
  · have xS : x ∈ S := (sf x).mp (by
      cases h : Sf ((x : Nat) : Int) with
      | true => rfl
      | false => rw [h] at e; cases e)
    have out : ∀ y, y ∈ S ∨ y ∈ L' ++ [x] → y ∈ S ∨ y ∈ L' := fun y z => by
      rcases z with z | z
      · exact .inl z
      · rcases List.mem_append.mp z with z | z
        · exact .inr z
        · rw [List.mem_singleton.mp z]; exact .inl xS
    exact ⟨401 * (n - S.length) + L'.length, by omega, S, L', Sf, _, rfl, hsp6, hll6, s6, nd, sf, hS, fun y hy => hL y (List.mem_append.mpr (.inl hy)), fun y hy => out y (c0 y hy), fun z hz y hy => out y (c1 z hz y hy), rfl, by omega⟩
def FirstW (st : Nat → List Nat) (ps : List Nat) (v : V) : Prop := (v = .non ∧ ∀ x ∈ ps, ¬ OnW st x x) ∨ ∃ i x : Nat, ps[i]? = some x ∧ v = nV x ∧ OnW st x x ∧ ∀ j y : Nat, j < i → ps[j]? = some y → ¬ OnW st y y
def sp_first_on_ring (K : PySem.W.Frag) : Sp := fun vs H Q _ => ∃ (pl d : Addr) (n : Nat) (ps : List Nat) (st : Nat → List Nat), vs = [.ref pl, .ref d] ∧ H pl = some (.lst (ps.map nV)) ∧ (∀ x ∈ ps, x < n) ∧ StAt H d n st ∧ n ≤ 400 ∧ (∀ i, i < n → (st i).length ≤ 400 ∧ ∀ y ∈ st i, y < n) ∧
  ∀ (v : V) (H' : Hp), FirstW st ps v → Same H H' → Q v H'
theorem ok_first_on_ring {f : Addr} {fd : FuncData} (F : Fun K "first_on_ring" "first_on_ring" s_first_on_ring f fd) (T : Top w K mg) : FnOk P w K mg base CX0 2 f fd ["places", "steps"] (sp_first_on_ring K) := by
  obtain ⟨f_comes_back, fd_comes_back, F_comes_back, b_comes_back, m_comes_back⟩ := T.d_comes_back
  have G_comes_back := ok_comes_back (P := P) (w := w) (base := base) F_comes_back T
  refine F.ok sc_first_on_ring (fun vs H Q E h => ?_) (fun cdv A outer s H vs Q E hr h => ?_)
  · obtain ⟨pl, d, n, ps, st, rfl, _⟩ := h
    rfl
  obtain ⟨pl, d, n, ps, st, rfl, hpl, hps, hd, hn, hs, q⟩ := h
  refine ⟨_, (pss_cons (ps_for PassesOwn.never rfl (pi_listK K rfl (pv 0)) (pg_name (i := 2) sc_first_on_ring.nd rfl (Or.inl rfl))
        (pss_one (ps_if (pt_val (pe_call G_comes_back (hr.mono (by decide)) (by rfl) m_comes_back F_comes_back.kp b_comes_back .nil pass0 (pa_cons (pv 2) (pa_cons (pv 1) pa_nil)))) (pss_one (ps_ret (pv 2))) pss_nil)))
      (pss_one (ps_ret pe_non))), ?_⟩
  refine ⟨_, rfl, pl, rfl, ⟨_, SqL.of hpl⟩, for_list (K := K) (a := pl) (xs := ps.map nV) (fun i σ H5 => ∃ v2 : Option V, σ = [some (.ref pl), some (.ref d), v2] ∧ Same H H5 ∧ ∀ j y : Nat, j < i → ps[j]? = some y → ¬ OnW st y y) ⟨_, rfl, fun _ _ e => e, fun j y h => absurd h (Nat.not_lt_zero _)⟩ (fun i σ H5 _ ⟨_, _, s5, _⟩ => SqL.of (s5 _ _ hpl)) ?_ ?_⟩
  · rintro i v σ H5 hx ⟨v2, rfl, s5, no⟩
    rw [List.getElem?_map] at hx
    cases hk : ps[i]? with
    | none => rw [hk] at hx; cases hx
    | some x =>
      rw [hk] at hx
      obtain rfl : nV x = v := Option.some.inj hx
      refine ⟨_, rfl, _, rfl, d, n, x, st, rfl, hd.same s5, hps x (List.mem_of_getElem? hk), hn, hs, fun b H6 hb s6 => ?_⟩
      refine ⟨_, rfl, if_bl (fun e => ?_) (fun e => ?_)⟩
      · exact ⟨_, rfl, q _ H6 (.inr ⟨i, x, hk, rfl, hb.mp e, no⟩) (s5.trans s6)⟩
      · refine ⟨_, rfl, s5.trans s6, fun j y hj ey => ?_⟩
        by_cases h : j = i
        · subst h
          rw [hk] at ey
          rw [← Option.some.inj ey]
          exact fun w => by rw [hb.mpr w] at e; cases e
        · exact no j y (by omega) ey
  · rintro σ H5 ⟨v2, rfl, s5, no⟩
    refine q _ H5 (.inl ⟨rfl, fun x hx => ?_⟩) s5
    obtain ⟨j, ej⟩ := List.getElem?_of_mem hx
    exact no j x (by have := (List.getElem?_eq_some_iff.mp ej).1; rw [List.length_map]; exact this) ej
end
/-! ### a name told a dict written out -/
section
variable {X : Cx}
theorem ps_setDc {i : Nat} {y : Str} {py : Pos} {kx vx tg iter : Expr} {ifs : List Expr} {scope : Scope} {own : List (Str × Nat)} {pos spos : Pos} {wi : TI} {g : TG} {tt : TT} {tk tv : TE} (hc : X.calm = true) (hN : X.N.Nodup) (hy : X.N[i]? = some y) (hyl : X.env.scope.names.lookup y = some .local)
    (hsw : swapsWith (.DictComp kx vx [⟨tg, iter, ifs, 0⟩] scope pos) (some (.Name y py)) spos.line X.env = pure true) (hi : L2.PI X tg iter wi) (ok : BlkOk X.N X.env.scope scope own)
    (hg : ∀ (s : Shared) (H : Hp) (C : Addr) (cl : List (Str × Addr)) (fp : List Addr), L2.PG (X.blk s H scope (compEnvC scope cl C X.env) fp) tg g) (ht : ∀ (s : Shared) (H : Hp) (C : Addr) (cl : List (Str × Addr)) (fp : List Addr), PTs (X.blk s H scope (compEnvC scope cl C X.env) fp) ifs tt)
    (hk : ∀ (s : Shared) (H : Hp) (C : Addr) (cl : List (Str × Addr)) (fp : List Addr), L2.PE (X.blk s H scope (compEnvC scope cl C X.env) fp) kx tk)
    (he : ∀ (s : Shared) (H : Hp) (C : Addr) (cl : List (Str × Addr)) (fp : List Addr), L2.PE (X.blk s H scope (compEnvC scope cl C X.env) fp) vx tv) (hs : ∀ x, foldedSetIterable iter X.env x = pure x := by intro _; rfl) :
    PS X (.Assign [.Name y py] (.DictComp kx vx [⟨tg, iter, ifs, 0⟩] scope pos) spos) (tAsg (tDc wi g tt tk tv (own.map (·.2))) (gName i)) := by
  refine ⟨fun pins s σ H D I h => ?_⟩
  rw [exec_Assign_Name_used _ _ _ _ hsw]
  refine wpAny_bind (wpAny_standAt (wpAny_bind ?_))
  show wpAny _ X.A (do let _ ← comprehension (.DictComp kx vx [⟨tg, iter, ifs, 0⟩] scope pos) scope X.env (firstIterPos [⟨tg, iter, ifs, 0⟩] pos) newDict false (eval iter X.env) (some (assign (.Name y py) X.env))) _ _ s
  have h : tDc wi g tt tk tv (own.map (·.2)) σ H (fun x H1 => gName i x σ H1 D.nx) := h
  refine wpAny_bind (thn (dc_core (Qf := fun _ s' => SP X pins D .next s') hc hN I hi ok hg ht hk he hs h fun L C s' m H' I' q hn f => ?_) fun _ s' hq => wpAny_pure (wpAny_pure hq))
  refine wpAny_assign_Name (store_ok2 (v := V.ref L) I' hN hy (.inl hyl) rfl (fun s2 I2 ⟨a, sb, ha⟩ => ?_) (.inr hyl))
  obtain ⟨f0, f1, f2, f3, f4, f5⟩ := f
  have haC : C ≠ a := ha.elim (fun z => by rw [z]; exact f1) fun z e => f4 y a z e.symm
  exact ⟨m, hn.sameBut sb haC, fun h3 sb3 => ⟨_, H', I2.turned (t' := s2.toks) (fun b o hb e => (sb3.2 b hb).trans e) f0 f1 f3 f4 f5, q⟩⟩
theorem sw_dc {kx vx : Expr} {gs : List Comprehension} {scope : Scope} {pos py : Pos} {y : Str} {l : Nat} {env : Env} (hk : env.scope.kind = .function) (hy : env.scope.names.lookup y = some .local) (hl : (py.line == pos.line) = true)
    (ha : (scope.names.any fun (n, k) => n == y && (k == .local || k == .cell)) = false) : swapsWith (.DictComp kx vx gs scope pos) (some (.Name y py)) l env = pure true := by
  have ky : env.kindOf y = some .local := hy
  have hb : env.blockKind = .function := by unfold Env.blockKind; rw [hk]; rfl
  unfold swapsWith
  simp only [hb, ky, ha, Expr.pos, hl]
  rfl
end
theorem count_filter (bs : List BR) (k : Nat) : (bs.map BR.to).count k = (bs.filter fun b => decide (b.to = k)).length := by
  induction bs with
  | nil => rfl
  | cons b bs ih =>
    rw [List.map_cons, List.count_cons, List.filter_cons, ih]
    by_cases e : b.to = k
    · rw [if_pos (by simp [e]), if_pos (by simp [e])]; rfl
    · rw [if_neg (by simp [e]), if_neg (by simp [e])]; rfl
theorem snoc_ind {α : Type} {Pr : List α → Prop} (h0 : Pr []) (h1 : ∀ l x, Pr l → Pr (l ++ [x])) : ∀ l, Pr l := by
  have : ∀ r : List α, Pr r.reverse := by
    intro r
    induction r with
    | nil => exact h0
    | cons x r ih => rw [List.reverse_cons]; exact h1 _ _ ih
  intro l
  have := this l.reverse
  rwa [List.reverse_reverse] at this
def comeB (bs : List BR) (k : Nat) : List BR := bs.filter fun b => decide (b.to = k)
theorem come_list (bs : List BR) (k : Nat) : All2 (fun i b => bs[i]? = some b) (comingN bs k) (comeB bs k) := by
  induction bs using snoc_ind with
  | h0 => exact .nil
  | h1 l b ih =>
    have e1 : comingN (l ++ [b]) k = comingN l k ++ (if b.to = k then [l.length] else []) := by
      unfold comingN
      rw [List.length_append, show l.length + [b].length = l.length + 1 from rfl, filt_succ]
      congr 1
      · refine List.filter_congr fun i hi => ?_
        rw [List.getElem?_append_left (List.mem_range.mp hi)]
      · rw [List.getElem?_append_right (Nat.le_refl _), Nat.sub_self]
        by_cases h : b.to = k
        · rw [if_pos h, if_pos (decide_eq_true (by rw [← h]; rfl))]
        · rw [if_neg h, if_neg]
          intro z
          exact h (Option.some.inj (of_decide_eq_true z))
    have e2 : comeB (l ++ [b]) k = comeB l k ++ (if b.to = k then [b] else []) := by
      unfold comeB
      rw [List.filter_append]
      congr 1
      by_cases h : b.to = k
      · rw [if_pos h]; simp [h]
      · rw [if_neg h]; simp [h]
    have ih2 : All2 (fun i c => (l ++ [b])[i]? = some c) (comingN l k) (comeB l k) := ih.imp fun i c e => by
      rw [List.getElem?_append_left (List.getElem?_eq_some_iff.mp e).1]; exact e
    rw [e1, e2]
    by_cases h : b.to = k
    · rw [if_pos h, if_pos h]
      refine ih2.snoc ?_
      rw [List.getElem?_append_right (Nat.le_refl _), Nat.sub_self]
      rfl
    · rw [if_neg h, if_neg h, List.append_nil, List.append_nil]
      exact ih2
/-! ### a room looked at -/
def Tb2 (PT : Addr × Addr × Addr) (H : Hp) : Prop := GxR.TabG H PT.1 ∧ GxR.TabG H PT.2.1 ∧ GxR.TabG H PT.2.2
theorem TabG.same9 {p : Addr} {H H' : Hp} (t : GxR.TabG H p) (s : Same H H') : GxR.TabG H' p := by
  obtain ⟨ps, e, h⟩ := t
  exact ⟨ps, s _ _ e, h⟩
theorem TabG.but9 {p f c : Addr} {H H' : Hp} (t : GxR.TabG H p) (F : Flow H f c) (b : But f H H') : GxR.TabG H' p := by
  obtain ⟨ps, e, h⟩ := t
  obtain ⟨_, _, _, _, _, ef, _⟩ := F
  exact ⟨ps, b _ _ e (fun z => by rw [z, ef] at e; cases e), h⟩
theorem TabG.tab9 {p r : Addr} {H H' : Hp} (t : GxR.TabG H p) (s : GxR.Tabbed r H H') : GxR.TabG H' p := by
  by_cases h : p = r
  · rw [h]; exact s.1
  · obtain ⟨ps, e, h2⟩ := t
    exact ⟨ps, by rw [s.2 _ h]; exact e, h2⟩
theorem Tb2.same {PT : Addr × Addr × Addr} {H H' : Hp} (t : Tb2 PT H) (s : Same H H') : Tb2 PT H' := ⟨TabG.same9 t.1 s, TabG.same9 t.2.1 s, TabG.same9 t.2.2 s⟩
theorem Tb2.but {PT : Addr × Addr × Addr} {f c : Addr} {H H' : Hp} (t : Tb2 PT H) (F : Flow H f c) (b : But f H H') : Tb2 PT H' := ⟨TabG.but9 t.1 F b, TabG.but9 t.2.1 F b, TabG.but9 t.2.2 F b⟩
theorem Tb2.any {PT : Addr × Addr × Addr} {r : Addr} {H H' : Hp} (t : Tb2 PT H) (s : GxR.Tabbed r H H') : Tb2 PT H' := ⟨TabG.tab9 t.1 s, TabG.tab9 t.2.1 s, TabG.tab9 t.2.2 s⟩
theorem tabbed_ext {P : Addr} {H H' : Hp} (h : GxR.TabG H P) (t : GxR.Tabbed P H H') : LamX.ExtN H H' := fun b o e n => by
  obtain ⟨ps, ep, _⟩ := h
  rw [t.2 b (fun z => by rw [z, ep] at e; exact n ps (Option.some.inj e).symm)]
  exact e
theorem Tb2.tab1 {PT : Addr × Addr × Addr} {H H' : Hp} (g : Tb2 PT H) (t : GxR.Tabbed PT.1 H H') : Tb2 PT H' := g.any t
theorem Tb2.tab2 {PT : Addr × Addr × Addr} {H H' : Hp} (g : Tb2 PT H) (t : GxR.Tabbed PT.2.1 H H') : Tb2 PT H' := g.any t
theorem ExtN.lst {H H' : Hp} {a : Addr} {xs : List V} (e : LamX.ExtN H H') (h : H a = some (.lst xs)) : H' a = some (.lst xs) := e a _ h (fun _ z => nomatch z)
theorem ExtN.flow {H H' : Hp} {f c : Addr} (e : LamX.ExtN H H') (h : Flow H f c) : Flow H' f c := by
  obtain ⟨ns, i, a, q, r, e1, e2, h3⟩ := h
  exact ⟨ns, i, a, q, r, e _ _ e1 (fun _ z => nomatch z), e _ _ e2 (fun _ z => nomatch z), h3⟩
theorem ExtN.own {H H' : Hp} {D : Addr} {o : HO} (e : LamX.ExtN H H') (n : H D = none) : LamX.ExtN H (upd H' D o) := fun b x hb nt => by
  by_cases z : b = D
  · subst z; rw [hb] at n; cases n
  · rw [upd_ne z]; exact e b x hb nt
theorem tabg_lst {p D : Addr} {H : Hp} {xs ys : List V} (t : GxR.TabG H p) (h : H D = some (.lst xs)) : GxR.TabG (upd H D (.lst ys)) p := by
  obtain ⟨ps, e, h2⟩ := t
  exact ⟨ps, by rw [upd_ne (fun z => by rw [z, h] at e; cases e)]; exact e, h2⟩
theorem Tb2.lst {PT : Addr × Addr × Addr} {D : Addr} {H : Hp} {xs ys : List V} (t : Tb2 PT H) (h : H D = some (.lst xs)) : Tb2 PT (upd H D (.lst ys)) := ⟨tabg_lst t.1 h, tabg_lst t.2.1 h, tabg_lst t.2.2 h⟩
theorem tk_ext {H H' : Hp} (e : LamX.ExtN H H') : TK H H' := fun a xs h => e a _ h (fun ps z => nomatch z)
theorem ext_same {H H' : Hp} (s : Same H H') : LamX.ExtN H H' := fun a o h _ => s a o h
/-- the code objects of has_form and is_belt_triple -/
class TabF (K : PySem.W.Frag) (mg : Str → Option Value) (base : Heap) (cF : outParam Addr) (PT : outParam (Addr × Addr × Addr)) : Prop where
  tb : GxR.TabB base mg cF PT.1
  cd : ∀ (f : Addr) (fd : FuncData), Fun K "has_form" "has_form" s_has_form f fd → mg "has_form" = some (.ref f) → fd.code = .ref cF
class TabC (K : PySem.W.Frag) (mg : Str → Option Value) (base : Heap) (cB : outParam Addr) (PT : outParam (Addr × Addr × Addr)) : Prop where
  tb : GxR.TabB base mg cB PT.2.1
  cd : ∀ (f : Addr) (fd : FuncData), Fun K "is_belt_triple" "is_belt_triple" s_is_belt_triple f fd → mg "is_belt_triple" = some (.ref f) → fd.code = .ref cB
/-- a def of which the code object is known -/
theorem ok_code {P : Program} {w : World} {K : PySem.W.Frag} {mg : Str → Option Value} {base : Heap} {x qual : Str} {st : Stmt} {f c : Addr} {fd : FuncData} {N ps : List Str} {k : Nat} {sp : Sp} (F : Fun K x qual st f fd) (hc : fd.code = .ref c) (S : FnScope N ps (defScope st)) (len : ∀ vs H Q E, sp vs H Q E → vs.length = ps.length)
    (hbody : ∀ (A : Around) (outer : List Env) (s : Shared) (H : Hp) (vs : List V) (Q : VK) (E : XK), Room k (A.deeper (envOfC qual (defScope st) s.heap.objs.size f (.ref c))) → sp vs H Q E →
      ∃ t, PSs (cxOf CX0 P w K mg base N qual (defScope st) f (.ref c) A outer s H E).nox (defBody st) t ∧ t { nx := fun _ H' => Q .non H', rt := Q } (L2.start N vs) H) : FnOk P w K mg base CX0 (k + 1) f fd ps sp := by
  obtain ⟨kl, kd, kV, dc, pm, an, cv, ct, ks, rfl, look, cin⟩ := F.ex
  obtain rfl : cv = .ref c := hc
  refine fn_of look cin S len fun A outer s H vs Q E hr now => ?_
  obtain ⟨t, h, q⟩ := hbody A outer s H vs Q E hr now
  exact ⟨t, h.nox, q⟩
/-- a statement that is never come to -/
theorem ps_dead {X : Cx} {st : Stmt} : PS X st (fun _ _ _ => False) := ⟨fun _ _ _ _ _ _ h => h.elim⟩
/-- all, any: over a tuple that the elements leave as it is -/
theorem qt_tup {K : PySem.W.Frag} {a : Addr} {xs : List V} {g : TG} {te : TE} {vs : List Nat} {sgσ : L2.St} {kp : Bool} {H2 : Hp} {Q : VK} (Pv : Nat → Hp → Prop) (h0 : Pv 0 H2) (hl : ∀ i H, i ≤ xs.length → Pv i H → SqT K H a xs)
    (hs : ∀ i x H, xs[i]? = some x → Pv i H → g x sgσ H fun σ2 H3 => wipe σ2 vs = sgσ ∧ te σ2 H3 fun y H4 => ∃ b, y = .bl b ∧ (b ≠ kp → Q (.bl b) H4) ∧ (b = kp → Pv (i + 1) H4)) (hd : ∀ H, Pv xs.length H → Q (.bl kp) H) :
    ∃ W : Nat → Nat → Hp → Prop, (∃ m, W 0 m H2) ∧ ∀ i m H, W i m H →
      ((Itt K a).stop i H ∧ Q (.bl kp) H) ∨ ((Itt K a).go i H ∧ ∃ Nx : Hp → Prop, (∀ H', Nx H' → ∃ m', m' < m ∧ W (i + 1) m' H') ∧ ∀ x H', (Itt K a).yld i H x H' → g x sgσ H' fun σ2 H3 => wipe σ2 vs = sgσ ∧ te σ2 H3 fun y H4 => ∃ b, y = .bl b ∧ (b ≠ kp → Q (.bl b) H4) ∧ (b = kp → Nx H4)) := by
  refine ⟨fun i m H => i + m = xs.length ∧ Pv i H, ⟨xs.length, Nat.zero_add _, h0⟩, fun i m H ⟨total, here⟩ => ?_⟩
  have seen := hl i H (by omega) here
  cases m with
  | zero =>
    have : i = xs.length := by omega
    subst this
    exact .inl ⟨⟨xs, seen, Nat.le_refl _⟩, hd H here⟩
  | succ m =>
    have lt : i < xs.length := by omega
    refine .inr ⟨⟨xs, xs[i], seen, List.getElem?_eq_getElem lt⟩, Pv (i + 1), fun H' p' => ⟨m, Nat.lt_succ_self m, by omega, p'⟩, fun x H' y => ?_⟩
    obtain ⟨rfl, y⟩ := y
    exact hs i x _ (y xs seen) here
section
variable {P : Program} {w : World} {K : PySem.W.Frag} {mg : Str → Option Value} {base : Heap}
def sp_is_whole (K : PySem.W.Frag) : Sp := fun vs H Q _ => ∃ n : Int, vs = [.int n] ∧ Q (.bl true) H
theorem ok_is_whole {f : Addr} {fd : FuncData} (F : Fun K "is_whole" "is_whole" s_is_whole f fd) (T : Top w K mg) : FnOk P w K mg base CX0 1 f fd ["thing"] (sp_is_whole K) := by
  refine F.ok sc_is_whole (fun vs H Q E h => ?_) (fun cdv A outer s H vs Q E hr h => ?_)
  · obtain ⟨n, rfl, _⟩ := h
    rfl
  obtain ⟨n, rfl, q⟩ := h
  refine ⟨_, (pss_one (ps_ret (pe_and (pe_callB (call_isiKK K rfl) (by rfl) T.m_isinstance (by decide +kernel) (pa_cons (pv 0) (pa_cons (pe_bltn (v := .ty "int") (by rfl) T.m_int (by decide +kernel) rfl) pa_nil))) (pe_one (pe_not (pe_callB (call_isiKK K rfl) (by rfl) T.m_isinstance (by decide +kernel) (pa_cons (pv 0) (pa_cons (pe_bltn (v := .ty "bool") (by rfl) T.m_bool (by decide +kernel) rfl) pa_nil)))))))), ?_⟩
  refine ⟨_, rfl, _, _, _, _, true, rfl, .ty "int", .base (.int _), kit_ty (by decide +kernel), _, rfl, if_bl (fun _ => ?_) (fun z => nomatch z)⟩
  exact ⟨_, rfl, _, _, _, _, false, rfl, .ty "bool", .base (.int _), kit_ty (by decide +kernel), _, rfl, q⟩
def sp_is_tuple_of (K : PySem.W.Frag) : Sp := fun vs H Q _ => ∃ (a : Addr) (xs : List V) (k : Nat), vs = [.ref a, nV k] ∧ H a = some (.tup xs) ∧ xs.length = k ∧ Q (.bl true) H
theorem ok_is_tuple_of {f : Addr} {fd : FuncData} (F : Fun K "is_tuple_of" "is_tuple_of" s_is_tuple_of f fd) (T : Top w K mg) : FnOk P w K mg base CX0 1 f fd ["thing", "many"] (sp_is_tuple_of K) := by
  refine F.ok sc_is_tuple_of (fun vs H Q E h => ?_) (fun cdv A outer s H vs Q E hr h => ?_)
  · obtain ⟨a, xs, k, rfl, _⟩ := h
    rfl
  obtain ⟨a, xs, k, rfl, ha, lk, q⟩ := h
  refine ⟨_, (pss_one (ps_ret (pe_and (pe_callB (call_isiKK K rfl) (by rfl) T.m_isinstance (by decide +kernel) (pa_cons (pv 0) (pa_cons (pe_bltn (v := .ty "tuple") (by rfl) T.m_tuple (by decide +kernel) rfl) pa_nil))) (pe_one (pe_cmpR op_eq (pe_callB (call_len_seqK K rfl) (by rfl) T.m_len (by decide +kernel) (pa_cons (pv 0) pa_nil)) (pv 1) (nomark _)))))), ?_⟩
  refine ⟨_, rfl, _, _, _, _, true, rfl, .ty "tuple", .base (.tup ha), kit_ty (by decide +kernel), _, rfl, if_bl (fun _ => ?_) (fun z => nomatch z)⟩
  refine ⟨_, rfl, a, _, rfl, .inr (SqT.of ha), _, rfl, rfl, ?_⟩
  rw [lk, decide_eq_true (show V.int ((k : Nat) : Int) = nV k from rfl)]
  exact q
def sp_is_hand_pair (K : PySem.W.Frag) : Sp := fun vs H Q _ => ∃ (t : Addr) (x : V) (n : Int), vs = [.ref t] ∧ H t = some (.tup [x, .int n]) ∧ Q (.bl true) H
theorem ok_is_hand_pair {f : Addr} {fd : FuncData} (F : Fun K "is_hand_pair" "is_hand_pair" s_is_hand_pair f fd) (T : Top w K mg) : FnOk P w K mg base CX0 2 f fd ["hand"] (sp_is_hand_pair K) := by
  obtain ⟨f_is_tuple_of, fd_is_tuple_of, F_is_tuple_of, b_is_tuple_of, m_is_tuple_of⟩ := T.d_is_tuple_of
  have G_is_tuple_of := ok_is_tuple_of (P := P) (w := w) (base := base) F_is_tuple_of T
  obtain ⟨f_is_whole, fd_is_whole, F_is_whole, b_is_whole, m_is_whole⟩ := T.d_is_whole
  have G_is_whole := ok_is_whole (P := P) (w := w) (base := base) F_is_whole T
  refine F.ok sc_is_hand_pair (fun vs H Q E h => ?_) (fun cdv A outer s H vs Q E hr h => ?_)
  · obtain ⟨t, x, n, rfl, _⟩ := h
    rfl
  obtain ⟨t, x, n, rfl, ht, q⟩ := h
  refine ⟨_, (pss_one (ps_ret (pe_and (pe_call G_is_tuple_of (hr.mono (by decide)) (by rfl) m_is_tuple_of F_is_tuple_of.kp b_is_tuple_of .nil pass0 (pa_cons (pv 0) (pa_cons pe_int pa_nil))) (pe_one (pe_call G_is_whole (hr.mono (by decide)) (by rfl) m_is_whole F_is_whole.kp b_is_whole .nil pass0 (pa_cons (pe_ix (ix_tupK K rfl) (pv 0) pe_int (fun _ _ => rfl)) pa_nil)))))), ?_⟩
  refine ⟨_, rfl, t, _, 2, rfl, ht, rfl, _, rfl, if_bl (fun _ => ?_) (fun z => nomatch z)⟩
  exact ⟨_, rfl, t, _, _, _, rfl, rfl, SqT.of ht, atI_nat (j := 1) rfl, n, rfl, q⟩
variable {cF cB : Addr} {PT : Addr × Addr × Addr} [TF : TabF K mg base cF PT] [TC : TabC K mg base cB PT]
section
omit TF
include TC
def sp_is_belt_triple (K : PySem.W.Frag) (PT : Addr × Addr × Addr) : Sp := fun vs H Q _ => ∃ (t g : Addr) (a b : Int) (ns : List Int), vs = [.ref t] ∧ H t = some (.tup [.int a, .int b, .ref g]) ∧ H g = some (.tup (ns.map V.int)) ∧ Tb2 PT H ∧ ∀ H', LamX.ExtN H H' → Tb2 PT H' → Q (.bl true) H'
theorem ok_is_belt_triple {f : Addr} {fd : FuncData} (F : Fun K "is_belt_triple" "is_belt_triple" s_is_belt_triple f fd) (hcd : fd.code = .ref cB) (T : Top w K mg) : FnOk P w K mg base CX0 3 f fd ["belt"] (sp_is_belt_triple K PT) := by
  obtain ⟨f_is_whole, fd_is_whole, F_is_whole, b_is_whole, m_is_whole⟩ := T.d_is_whole
  have G_is_whole := ok_is_whole (P := P) (w := w) (base := base) F_is_whole T
  obtain ⟨f_is_tuple_of, fd_is_tuple_of, F_is_tuple_of, b_is_tuple_of, m_is_tuple_of⟩ := T.d_is_tuple_of
  have G_is_tuple_of := ok_is_tuple_of (P := P) (w := w) (base := base) F_is_tuple_of T
  refine ok_code F hcd sc_is_belt_triple (fun vs H Q E h => ?_) (fun A outer s H vs Q E hr h => ?_)
  · obtain ⟨t, g, a, b, ns, rfl, _⟩ := h
    rfl
  obtain ⟨t, g, a, b, ns, rfl, ht, hg, tb, q⟩ := h
  refine ⟨_, (pss_cons (ps_if (PW.pt (pw_or (pt_not (pt_val (pe_call G_is_tuple_of (hr.mono (by decide)) (by rfl) m_is_tuple_of F_is_tuple_of.kp b_is_tuple_of .nil pass0 (pa_cons (pv 0) (pa_cons pe_int pa_nil))))) (pw_or1 (pt_not (pt_val (pe_callB (call_isiKK K rfl) (by rfl) T.m_isinstance (by decide +kernel) (pa_cons (pe_ix (ix_tupK K rfl) (pv 0) pe_int (fun _ _ => rfl)) (pa_cons (pe_bltn (v := .ty "tuple") (by rfl) T.m_tuple (by decide +kernel) rfl) pa_nil)))))))) (pss_one (ps_ret pe_bl)) pss_nil)
      (pss_one (ps_ret (pe_and (pe_call G_is_whole (hr.mono (by decide)) (by rfl) m_is_whole F_is_whole.kp b_is_whole .nil pass0 (pa_cons (pe_ix (ix_tupK K rfl) (pv 0) pe_int (fun _ _ => rfl)) pa_nil)) (pe_and (pe_call G_is_whole (hr.mono (by decide)) (by rfl) m_is_whole F_is_whole.kp b_is_whole .nil pass0 (pa_cons (pe_ix (ix_tupK K rfl) (pv 0) pe_int (fun _ _ => rfl)) pa_nil)) (pe_one (pe_allG (k := 1) (N' := ["thing"]) (sg := (fun _ => List.replicate 1 none)) (vs := [0]) (g := gName 0) (hr.mono (by decide)) rfl (by rfl) T.m_all (by decide +kernel) TC.tb rfl (genN_none rfl rfl (by decide +kernel) rfl (by decide +kernel)) (pi_tupK K rfl (pe_ix (ix_tupK K rfl) (pv 0) pe_int (fun _ _ => rfl))) (fun _ => rfl) (fun _ _ _ _ _ _ _ _ _ hr => (pg_name (i := 0) (show List.Nodup (["thing"] : List Str) from by decide +kernel) rfl (Or.inl rfl))) (fun _ _ _ _ _ _ _ _ _ hr => (pe_call G_is_whole (hr.mono (by decide)) (by rfl) m_is_whole F_is_whole.kp b_is_whole .nil pass0 (pa_cons (pv 0) pa_nil)))))))))), ?_⟩
  refine ⟨_, rfl, t, _, 3, rfl, ht, rfl, _, rfl, if_bl (fun z => nomatch z) (fun _ => ?_)⟩
  refine ⟨_, rfl, t, _, _, _, rfl, rfl, SqT.of ht, atI_nat (j := 2) rfl, _, _, _, _, true, rfl, .ty "tuple", .base (.tup hg), kit_ty (by decide +kernel), _, rfl, if_bl (fun z => nomatch z) (fun _ => ?_)⟩
  refine ⟨_, rfl, t, _, _, _, rfl, rfl, SqT.of ht, atI_nat (j := 0) rfl, a, rfl, _, rfl, if_bl (fun _ => ?_) (fun z => nomatch z)⟩
  refine ⟨_, rfl, t, _, _, _, rfl, rfl, SqT.of ht, atI_nat (j := 1) rfl, b, rfl, _, rfl, if_bl (fun _ => ?_) (fun z => nomatch z)⟩
  refine ⟨_, rfl, t, _, _, _, rfl, rfl, SqT.of ht, atI_nat (j := 2) rfl, g, rfl, ⟨_, SqT.of hg⟩, tb.2.1, fun H2 t2 => ?_⟩
  have e2 := tabbed_ext tb.2.1 t2
  have g2 := tk_ext e2 _ _ hg
  refine qt_tup (K := K) (a := g) (xs := ns.map V.int) (fun i H5 => H5 = H2) rfl (fun i H5 _ e => by subst e; exact SqT.of g2) (fun i x H5 hx e => ?_) fun H5 e => ?_
  · subst e
    rw [List.getElem?_map] at hx
    cases hn : ns[i]? with
    | none => rw [hn] at hx; cases hx
    | some n =>
      rw [hn] at hx
      obtain rfl : V.int n = x := Option.some.inj hx
      exact ⟨rfl, _, rfl, n, rfl, true, rfl, (fun z => absurd rfl z), fun _ => rfl⟩
  · subst e
    exact q _ e2 (tb.tab2 t2)
end
include TF TC
def sp_has_form (K : PySem.W.Frag) (PT : Addr × Addr × Addr) : Sp := fun vs H Q _ => ∃ (r : Addr) (hs : List HR) (bs : List BR), vs = [.ref r] ∧ RoomAt H r hs bs ∧ Tb2 PT H ∧ ∀ H', LamX.ExtN H H' → Tb2 PT H' → Q (.bl true) H'
theorem ok_has_form {f : Addr} {fd : FuncData} (F : Fun K "has_form" "has_form" s_has_form f fd) (hcd : fd.code = .ref cF) (T : Top w K mg) : FnOk P w K mg base CX0 5 f fd ["room"] (sp_has_form K PT) := by
  obtain ⟨f_is_tuple_of, fd_is_tuple_of, F_is_tuple_of, b_is_tuple_of, m_is_tuple_of⟩ := T.d_is_tuple_of
  have G_is_tuple_of := ok_is_tuple_of (P := P) (w := w) (base := base) F_is_tuple_of T
  obtain ⟨f_is_hand_pair, fd_is_hand_pair, F_is_hand_pair, b_is_hand_pair, m_is_hand_pair⟩ := T.d_is_hand_pair
  have G_is_hand_pair := ok_is_hand_pair (P := P) (w := w) (base := base) F_is_hand_pair T
  obtain ⟨f_is_belt_triple, fd_is_belt_triple, F_is_belt_triple, b_is_belt_triple, m_is_belt_triple⟩ := T.d_is_belt_triple
  have G_is_belt_triple := ok_is_belt_triple (P := P) (w := w) (base := base) F_is_belt_triple (TC.cd _ _ F_is_belt_triple m_is_belt_triple) T
  refine ok_code F hcd sc_has_form (fun vs H Q E h => ?_) (fun A outer s H vs Q E hr h => ?_)
  · obtain ⟨r, hs, bs, rfl, _⟩ := h
    rfl
  obtain ⟨r, hs, bs, rfl, hR, tb, q⟩ := h
  obtain ⟨ha, ba, hv, bv, er, eh, eb, alh, alb⟩ := hR.ex
  refine ⟨_, (pss_cons (ps_if (pt_not (pt_val (pe_call G_is_tuple_of (hr.mono (by decide)) (by rfl) m_is_tuple_of F_is_tuple_of.kp b_is_tuple_of .nil pass0 (pa_cons (pv 0) (pa_cons pe_int pa_nil))))) (pss_one (ps_ret pe_bl)) pss_nil)
      (pss_cons (ps_asg (pv 0) (pg_tupK K rfl rfl (pgs_cons (pg_name (i := 1) sc_has_form.nd rfl (Or.inl rfl)) (pgs_cons (pg_name (i := 2) sc_has_form.nd rfl (Or.inl rfl)) pgs_nil))))
      (pss_cons (ps_if (PW.pt (pw_or (pt_not (pt_val (pe_callB (call_isiKK K rfl) (by rfl) T.m_isinstance (by decide +kernel) (pa_cons (pv 1) (pa_cons (pe_bltn (v := .ty "tuple") (by rfl) T.m_tuple (by decide +kernel) rfl) pa_nil))))) (pw_or1 (pt_not (pt_val (pe_callB (call_isiKK K rfl) (by rfl) T.m_isinstance (by decide +kernel) (pa_cons (pv 2) (pa_cons (pe_bltn (v := .ty "tuple") (by rfl) T.m_tuple (by decide +kernel) rfl) pa_nil)))))))) (pss_one (ps_ret pe_bl)) pss_nil)
      (pss_one (ps_ret (pe_and (pe_allG (k := 2) (N' := ["hand"]) (sg := (fun _ => List.replicate 1 none)) (vs := [0]) (g := gName 0) (hr.mono (by decide)) rfl (by rfl) T.m_all (by decide +kernel) TF.tb rfl (genN_none rfl rfl (by decide +kernel) rfl (by decide +kernel)) (pi_tupK K rfl (pv 1)) (fun _ => rfl) (fun _ _ _ _ _ _ _ _ _ hr => (pg_name (i := 0) (show List.Nodup (["hand"] : List Str) from by decide +kernel) rfl (Or.inl rfl))) (fun _ _ _ _ _ _ _ _ _ hr => (pe_call G_is_hand_pair (hr.mono (by decide)) (by rfl) m_is_hand_pair F_is_hand_pair.kp b_is_hand_pair .nil pass0 (pa_cons (pv 0) pa_nil)))) (pe_one (pe_allG (k := 3) (N' := ["belt"]) (sg := (fun _ => List.replicate 1 none)) (vs := [0]) (g := gName 0) (hr.mono (by decide)) rfl (by rfl) T.m_all (by decide +kernel) TF.tb rfl (genN_none rfl rfl (by decide +kernel) rfl (by decide +kernel)) (pi_tupK K rfl (pv 2)) (fun _ => rfl) (fun _ _ _ _ _ _ _ _ _ hr => (pg_name (i := 0) (show List.Nodup (["belt"] : List Str) from by decide +kernel) rfl (Or.inl rfl))) (fun _ _ _ _ _ _ _ _ _ hr => (pe_call G_is_belt_triple (hr.mono (by decide)) (by rfl) m_is_belt_triple F_is_belt_triple.kp b_is_belt_triple .nil pass0 (pa_cons (pv 0) pa_nil))))))))))), ?_⟩
  refine ⟨_, rfl, r, _, 2, rfl, er, rfl, _, rfl, if_bl (fun z => nomatch z) (fun _ => ?_)⟩
  refine ⟨_, rfl, r, _, rfl, SqT.of er, rfl, _, _, rfl, _, _, rfl, rfl, ?_⟩
  refine ⟨_, rfl, _, _, _, _, true, rfl, .ty "tuple", .base (.tup eh), kit_ty (by decide +kernel), _, rfl, if_bl (fun z => nomatch z) (fun _ => ?_)⟩
  refine ⟨_, rfl, _, _, _, _, true, rfl, .ty "tuple", .base (.tup eb), kit_ty (by decide +kernel), _, rfl, if_bl (fun z => nomatch z) (fun _ => ?_)⟩
  refine ⟨_, rfl, ha, rfl, ⟨_, SqT.of eh⟩, tb.1, fun H2 t2 => ?_⟩
  have e2 := tabbed_ext tb.1 t2
  have tb2 := tb.tab1 t2
  refine qt_tup (K := K) (a := ha) (xs := hv) (kp := true) (Q := fun x H1 => ∃ c, x = V.bl c ∧ if c = true then tQuant true PT.1 (iTup K (tVar 2)) (fun _ => List.replicate 1 none) (gName 0) (tCall (sp_is_belt_triple K PT) [] E0 (tCons (tVar 0) tNil)) [0] ((List.set (L2.start N_has_form [V.ref r]) 1 (some (V.ref ha))).set 2 (some (V.ref ba))) H1 Q else Q (.bl false) H1) (fun i H5 => H5 = H2) rfl (fun i H5 _ e => e ▸ SqT.of (tk_ext e2 _ _ eh)) (fun i x H5 hx e => ?_) fun H5 e => ?_
  · subst e
    obtain ⟨h, _, t, rr, rfl, e3, e4⟩ := alh.getL hx
    exact ⟨rfl, _, rfl, t, _, _, rfl, tk_ext e2 _ _ e3, true, rfl, (fun z => absurd rfl z), fun _ => rfl⟩
  subst e
  refine ⟨_, rfl, if_bl (fun _ => ?_) (fun z => nomatch z)⟩
  refine ⟨_, rfl, ba, rfl, ⟨_, SqT.of (tk_ext e2 _ _ eb)⟩, tb2.1, fun H3 t3 => ?_⟩
  have e3 := e2.trans (tabbed_ext tb2.1 t3)
  have tb3 := tb2.tab1 t3
  refine qt_tup (K := K) (a := ba) (xs := bv) (fun i H6 => LamX.ExtN H H6 ∧ Tb2 PT H6) ⟨e3, tb3⟩ (fun i H6 _ ⟨e, _⟩ => SqT.of (tk_ext e _ _ eb)) (fun i x H6 hx ⟨e6, tb6⟩ => ?_) fun H6 ⟨e6, tb6⟩ => q _ e6 tb6
  obtain ⟨b, _, t, g, rfl, e4, e5⟩ := alb.getL hx
  exact ⟨rfl, _, rfl, t, g, _, _, _, rfl, tk_ext e6 _ _ e4, tk_ext e6 _ _ e5, tb6, fun H7 e7 tb7 => ⟨true, rfl, (fun z => absurd rfl z), fun _ => ⟨e6.trans e7, tb7⟩⟩⟩
end
theorem nine_eleven {z : Str} (h : z ∈ nine) : z ∈ eleven := by
  unfold nine at h
  simp only [List.mem_cons, List.not_mem_nil, or_false] at h
  rcases h with h | h | h | h | h | h | h | h | h <;> rw [h] <;> decide +kernel
theorem GoodHand.eleven {h : HR} (g : GoodHand h) : h.wd ∈ Mine.eleven := by
  rcases g.1 with k | k
  · exact nine_eleven k.wd
  · rcases k.1 with z | z <;> rw [z] <;> decide +kernel
theorem needs_needN {z : Str} (h : z ∈ eleven) : needs z = needN z := by
  unfold eleven at h
  simp only [List.mem_cons, List.not_mem_nil, or_false] at h
  rcases h with h | h | h | h | h | h | h | h | h | h | h <;> rw [h] <;> decide +kernel
theorem GoodHand.lone {h : HR} (g : GoodHand h) : (h.no.isSome = true ↔ h.wd = "times" ∨ h.wd = "always") := by
  rcases g.1 with k | k
  · exact k.no
  · rw [k.2.1]
    refine ⟨(fun z => nomatch z), fun z => ?_⟩
    rcases k.1 with y | y <;> rw [y] at z <;> rcases z with z | z <;> exact absurd z (by decide +kernel)
def ruleB (z : Str) (ns : List Int) : Bool := decide (z ∈ eleven) && (if z = "times" ∨ z = "always" then decide (ns.length = 1) else decide (ns.length = 0))
def noL (h : HR) : List Int := match h.no with | none => [] | some n => [n]
theorem ruleL_no (h : HR) : ruleL h = .str h.wd :: (noL h).map V.int := by
  obtain ⟨wd, no, mom⟩ := h
  cases no <;> rfl
theorem good_ruleB {h : HR} (g : GoodHand h) : ruleB h.wd (noL h) = true := by
  have lone := g.lone
  unfold ruleB
  rw [decide_eq_true g.eleven, Bool.true_and]
  obtain ⟨wd, no, mom⟩ := h
  by_cases e : wd = "times" ∨ wd = "always"
  · have so := lone.mpr e
    cases no with
    | none => cases so
    | some n => show (if wd = "times" ∨ wd = "always" then _ else _) = true; rw [if_pos e]; rfl
  · cases no with
    | some n => exact absurd (lone.mp rfl) e
    | none => show (if wd = "times" ∨ wd = "always" then _ else _) = true; rw [if_neg e]; rfl
section
variable {P : Program} {w : World} {K : PySem.W.Frag} {mg : Str → Option Value} {base : Heap}
def sp_is_rule (K : PySem.W.Frag) : Sp := fun vs H Q _ => ∃ (rr : Addr) (z : Str) (ns : List Int), vs = [.ref rr] ∧ H rr = some (.tup (.str z :: ns.map V.int)) ∧ ∀ b, b = ruleB z ns → Q (.bl b) H
theorem ok_is_rule {f : Addr} {fd : FuncData} (F : Fun K "is_rule" "is_rule" s_is_rule f fd) (T : Top w K mg) : FnOk P w K mg base CX0 2 f fd ["thing"] (sp_is_rule K) := by
  obtain ⟨f_is_whole, fd_is_whole, F_is_whole, b_is_whole, m_is_whole⟩ := T.d_is_whole
  have G_is_whole := ok_is_whole (P := P) (w := w) (base := base) F_is_whole T
  refine F.ok sc_is_rule (fun vs H Q E h => ?_) (fun cdv A outer s H vs Q E hr h => ?_)
  · obtain ⟨rr, z, ns, rfl, _⟩ := h
    rfl
  obtain ⟨rr, z, ns, rfl, hr0, q⟩ := h
  replace q := q _ rfl
  obtain ⟨aN, mN, hN⟩ := T.x_needs
  obtain ⟨aW, mW, hW⟩ := T.x_with
  obtain ⟨es, nn, hKD⟩ := hN.dict
  refine ⟨_, (pss_cons (ps_if (PW.pt (pw_or (pt_not (pt_val (pe_callB (call_isiKK K rfl) (by rfl) T.m_isinstance (by decide +kernel) (pa_cons (pv 0) (pa_cons (pe_bltn (v := .ty "tuple") (by rfl) T.m_tuple (by decide +kernel) rfl) pa_nil))))) (pw_or1 (pt_cmpR op_lt (pe_callB (call_len_seqK K rfl) (by rfl) T.m_len (by decide +kernel) (pa_cons (pv 0) pa_nil)) pe_int (nomark _))))) (pss_one (ps_ret pe_bl)) pss_nil)
      (pss_cons (ps_set (i := 1) sc_is_rule.nd rfl (Or.inl rfl) (pe_ix (ix_tupK K rfl) (pv 0) pe_int (fun _ _ => rfl)))
      (pss_cons (ps_if (PW.pt (pw_or (pt_not (pt_val (pe_callB (call_isiKK K rfl) (by rfl) T.m_isinstance (by decide +kernel) (pa_cons (pv 1) (pa_cons (pe_bltn (v := .ty "str") (by rfl) T.m_str (by decide +kernel) rfl) pa_nil))))) (pw_or1 (pt_cmpR (op_notIn_kd hKD) (pv 1) (pe_glob (v := .ref aN) (by rfl) mN rfl) (by with_unfolding_all rfl))))) (pss_one (ps_ret pe_bl)) pss_nil)
      (pss_cons (ps_if (pt_cmpR (op_in_seqK K rfl) (pv 1) (pe_glob (v := .ref aW) (by rfl) mW rfl) (by with_unfolding_all rfl)) (pss_one (ps_ret (pe_and (pe_cmpR op_eq (pe_callB (call_len_seqK K rfl) (by rfl) T.m_len (by decide +kernel) (pa_cons (pv 0) pa_nil)) pe_int (nomark _)) (pe_one (pe_call G_is_whole (hr.mono (by decide)) (by rfl) m_is_whole F_is_whole.kp b_is_whole .nil pass0 (pa_cons (pe_ix (ix_tupK K rfl) (pv 0) pe_int (fun _ _ => rfl)) pa_nil)))))) pss_nil)
      (pss_one (ps_ret (pe_cmpR op_eq (pe_callB (call_len_seqK K rfl) (by rfl) T.m_len (by decide +kernel) (pa_cons (pv 0) pa_nil)) pe_int (nomark _)))))))), ?_⟩
  refine ⟨_, rfl, _, _, _, _, true, rfl, .ty "tuple", .base (.tup hr0), kit_ty (by decide +kernel), _, rfl, if_bl (fun z => nomatch z) (fun _ => ?_)⟩
  refine ⟨_, rfl, rr, _, rfl, .inr (SqT.of hr0), _, _, rfl, rfl, _, rfl, if_bl (fun z => ?_) (fun _ => ?_)⟩
  · have z := of_decide_eq_true z
    rw [List.length_cons] at z
    omega
  refine ⟨_, rfl, rr, _, _, _, rfl, rfl, SqT.of hr0, atI_nat (j := 0) rfl, ?_⟩
  refine ⟨_, rfl, _, _, _, _, true, rfl, .ty "str", .base (.str _), kit_ty (by decide +kernel), _, rfl, if_bl (fun z => nomatch z) (fun _ => ?_)⟩
  unfold ruleB at q
  by_cases ze : z ∈ eleven
  · rw [decide_eq_true ze, Bool.true_and] at q
    obtain ⟨t, hy⟩ := hN.yes z ze
    refine ⟨_, rfl, z, _, rfl, rfl, hy, _, rfl, if_bl (fun y => nomatch y) (fun _ => ?_)⟩
    refine ⟨_, rfl, aW, _, rfl, .inr (hW _), rfl, rfl, _, rfl, if_in (zs := ["times", "always"]) (fun e => ?_) (fun e => ?_)⟩
    · have e2 : z = "times" ∨ z = "always" := by simpa using e
      rw [if_pos e2] at q
      refine ⟨_, rfl, rr, _, rfl, .inr (SqT.of hr0), rfl, _, rfl, if_bl (fun y => ?_) (fun y => ?_)⟩
      · have y := of_decide_eq_true y
        have y : ((V.str z :: ns.map V.int).length : Int) = 2 := V.int.inj y
        rw [List.length_cons, List.length_map] at y
        rw [decide_eq_true (show ns.length = 1 by omega)] at q
        obtain ⟨n, rfl⟩ : ∃ n, ns = [n] := by
          match ns, y with
          | [n], _ => exact ⟨n, rfl⟩
          | [], y => simp at y
          | _ :: _ :: _, y => simp at y; omega
        exact ⟨_, rfl, rr, _, _, _, rfl, rfl, SqT.of hr0, atI_nat (j := 1) rfl, n, rfl, q⟩
      · have y := of_decide_eq_false y
        rw [decide_eq_false (fun w : ns.length = 1 => y (by rw [List.length_cons, List.length_map, w]; rfl))] at q
        exact q
    · have e2 : ¬ (z = "times" ∨ z = "always") := by simpa using e
      rw [if_neg e2] at q
      refine ⟨_, rfl, rr, _, rfl, .inr (SqT.of hr0), rfl, ?_⟩
      have e3 : decide (V.int (((V.str z :: ns.map V.int).length : Nat) : Int) = V.int 1) = decide (ns.length = 0) := by
        by_cases y : ns.length = 0
        · rw [decide_eq_true y, decide_eq_true (by rw [List.length_cons, List.length_map, y]; rfl)]
        · rw [decide_eq_false y, decide_eq_false]
          intro w
          have w : ((V.str z :: ns.map V.int).length : Int) = 1 := V.int.inj w
          rw [List.length_cons, List.length_map] at w
          omega
      rw [e3]
      exact q
  · rw [decide_eq_false ze, Bool.false_and] at q
    refine ⟨_, rfl, z, _, rfl, rfl, hN.no z ze, _, rfl, if_bl (fun _ => ?_) (fun y => nomatch y)⟩
    exact q
def sp_needs (K : PySem.W.Frag) : Sp := fun vs H Q _ => ∃ (r : Addr) (z : Str) (l : List V), vs = [.ref r] ∧ H r = some (.tup (.str z :: l)) ∧ z ∈ eleven ∧ Q (.int (needN z)) H
theorem ok_needs {f : Addr} {fd : FuncData} (F : Fun K "needs" "needs" s_needs f fd) (T : Top w K mg) : FnOk P w K mg base CX0 1 f fd ["rule"] (sp_needs K) := by
  refine F.ok sc_needs (fun vs H Q E h => ?_) (fun cdv A outer s H vs Q E hr h => ?_)
  · obtain ⟨r, z, l, rfl, _⟩ := h
    rfl
  obtain ⟨r, z, l, rfl, hr0, hz, q⟩ := h
  obtain ⟨aN, mN, hN⟩ := T.x_needs
  obtain ⟨es, nn, hKD⟩ := hN.dict
  obtain ⟨t, hy⟩ := hN.yes z hz
  refine ⟨_, (pss_one (ps_ret (pe_ix ix_kdict (pe_glob (v := .ref aN) (by rfl) mN rfl) (pe_ix (ix_tupK K rfl) (pv 0) pe_int (fun _ _ => rfl)) (fun _ _ => rfl)))), ?_⟩
  exact ⟨_, rfl, r, _, _, _, rfl, rfl, SqT.of hr0, atI_nat (j := 0) rfl, aN, z, .int (needN z), rfl, rfl, ⟨es, nn, _, hKD.at_, hKD.lit, hy, ⟨t, rfl⟩⟩, q⟩
def sp_wrong_hand (K : PySem.W.Frag) : Sp := fun vs H Q _ => ∃ (r : Addr) (hs : List HR) (bs : List BR), vs = [.ref r] ∧ RoomAt H r hs bs ∧ RoomOk hs bs ∧ ∀ H', Same H H' → Q .non H'
theorem ok_wrong_hand {f : Addr} {fd : FuncData} (F : Fun K "wrong_hand" "wrong_hand" s_wrong_hand f fd) (T : Top w K mg) : FnOk P w K mg base CX0 3 f fd ["room"] (sp_wrong_hand K) := by
  obtain ⟨f_is_rule, fd_is_rule, F_is_rule, b_is_rule, m_is_rule⟩ := T.d_is_rule
  have G_is_rule := ok_is_rule (P := P) (w := w) (base := base) F_is_rule T
  refine F.ok sc_wrong_hand (fun vs H Q E h => ?_) (fun cdv A outer s H vs Q E hr h => ?_)
  · obtain ⟨r, hs, bs, rfl, _⟩ := h
    rfl
  obtain ⟨r, hs, bs, rfl, hR, ok, q⟩ := h
  obtain ⟨ha, ba, hv, bv, er, eh, eb, alh, alb⟩ := hR.ex
  obtain ⟨aI, mI, hI⟩ := T.x_in
  obtain ⟨aO, mO, hO⟩ := T.x_out
  refine ⟨_, (pss_cons (ps_for PassesOwn.never rfl (pi_enumT K rfl (by rfl) T.m_enumerate (pa_cons (pe_ix (ix_tupK K rfl) (pv 0) pe_int (fun _ _ => rfl)) pa_nil)) (pg_tupK K rfl rfl (pgs_cons (pg_name (i := 1) sc_wrong_hand.nd rfl (Or.inl rfl)) (pgs_cons (pg_tupK K rfl rfl (pgs_cons (pg_name (i := 2) sc_wrong_hand.nd rfl (Or.inl rfl)) (pgs_cons (pg_name (i := 3) sc_wrong_hand.nd rfl (Or.inl rfl)) pgs_nil))) pgs_nil)))
        (pss_cons (ps_if (PW.pt (pw_or (pt_not (pt_val (pe_call G_is_rule (hr.mono (by decide)) (by rfl) m_is_rule F_is_rule.kp b_is_rule .nil pass0 (pa_cons (pv 2) pa_nil)))) (pw_or1 (pt_cmpR op_lt (pv 3) pe_int (nomark _))))) (pss_one (ps_ret (pv 1))) pss_nil)
      (pss_one (ps_if (PW.pt (pw_and (pt_cmpR op_ne (pv 3) pe_int (nomark _)) (pw_and1 (pt_cmpR (op_inDTK K rfl (hu65 hr)) (pv 2) (pe_tup (pa_cons (pe_glob (v := .ref aI) (by rfl) mI rfl) (pa_cons (pe_glob (v := .ref aO) (by rfl) mO rfl) pa_nil))) (by with_unfolding_all rfl))))) (pss_one (ps_ret (pv 1))) pss_nil))))
      (pss_one (ps_ret pe_non))), ?_⟩
  refine ⟨_, rfl, r, _, _, _, rfl, rfl, SqT.of er, atI_nat (j := 0) rfl, ha, hv, rfl, SqT.of eh, for_it (J := IteT K ha hv) (n := hv.length) (fun i σ H5 => ∃ v1 v2 v3 : Option V, σ = [some (.ref r), v1, v2, v3] ∧ Same H H5) ⟨_, _, _, rfl, fun _ _ e => e⟩ ?_ ?_ ?_ ?_⟩
  · rintro i σ H5 hi ⟨v1, v2, v3, rfl, s5⟩
    exact ⟨SqT.of (s5 _ _ eh), hi⟩
  · rintro σ H5 ⟨v1, v2, v3, rfl, s5⟩
    exact ⟨SqT.of (s5 _ _ eh), rfl⟩
  · rintro i x σ H5 H6 hi ⟨v1, v2, v3, rfl, s5⟩ ⟨t, y, rfl, nt, rfl, ey⟩
    obtain ⟨h, eh2, t2, rr, rfl, e1, e2⟩ := alh.getL ey
    have gh := ok.good h (List.mem_of_getElem? eh2)
    have s6 := s5.trans (same_new (o := .tup [V.int ((i : Nat) : Int), V.ref t2]) nt)
    refine ⟨t, _, rfl, SqT.of upd_same, rfl, _, _, rfl, _, _, rfl, t2, _, rfl, SqT.of (s6 _ _ e1), rfl, _, _, rfl, _, _, rfl, rfl, rfl, ?_⟩
    refine ⟨_, rfl, rr, h.wd, noL h, rfl, by rw [← ruleL_no]; exact s6 _ _ e2, fun b hb => ?_⟩
    obtain rfl : b = true := hb.trans (good_ruleB gh)
    refine ⟨_, rfl, if_bl (fun z => nomatch z) (fun _ => ?_)⟩
    refine ⟨_, rfl, _, _, rfl, rfl, _, rfl, if_bl (fun z => ?_) (fun _ => ?_)⟩
    · have := of_decide_eq_true z
      have := gh.2.1
      omega
    refine ⟨_, rfl, rfl, _, rfl, if_bl (fun e => ?_) (fun _ => ⟨_, _, _, rfl, s6⟩)⟩
    have m0 : h.mom ≠ 0 := fun z => by
      rw [z] at e
      exact absurd e (by decide)
    refine ⟨_, rfl, (by show 2 ≤ sizeLine; decide), fun p np => ?_⟩
    have s7 := same_new (o := .tup [V.ref aI, V.ref aO]) np
    refine ⟨.tuple (ruleD h), [.tuple [.str "in"], .tuple [.str "out"]], rule_dp (s7 _ _ (s6 _ _ e2)), .tup (SqT.of upd_same) (.cons (.tup (hI _) (.cons (.str _) .nil)) (.cons (.tup (hO _) (.cons (.str _) .nil)) .nil)), rule_shaped gh.lay, by decide +kernel, _, rfl, ?_⟩
    have val : ([PyData.tuple [.str "in"], .tuple [.str "out"]].any fun z => PyData.eqv z (.tuple (ruleD h))) = false := by
      rw [List.any_cons, List.any_cons, List.any_nil, Bool.or_false, one_eqv, one_eqv, gh.door "in" (.inl rfl), gh.door "out" (.inr rfl)]
      rw [decide_eq_false fun z => m0 (gh.mom0 (.inl z)), decide_eq_false fun z => m0 (gh.mom0 (.inr z))]
      rfl
    rw [val]
    exact if_bl (fun z => nomatch z) (fun _ => ⟨_, _, _, rfl, s6.trans s7⟩)
  · rintro σ H5 ⟨v1, v2, v3, rfl, s5⟩
    exact q _ s5
def sp_wrong_belt (K : PySem.W.Frag) : Sp := fun vs H Q _ => ∃ (r : Addr) (hs : List HR) (bs : List BR), vs = [.ref r] ∧ RoomAt H r hs bs ∧ RoomOk hs bs ∧ ∀ H', Same H H' → Q .non H'
theorem ok_wrong_belt {f : Addr} {fd : FuncData} (F : Fun K "wrong_belt" "wrong_belt" s_wrong_belt f fd) (T : Top w K mg) : FnOk P w K mg base CX0 1 f fd ["room"] (sp_wrong_belt K) := by
  refine F.ok sc_wrong_belt (fun vs H Q E h => ?_) (fun cdv A outer s H vs Q E hr h => ?_)
  · obtain ⟨r, hs, bs, rfl, _⟩ := h
    rfl
  obtain ⟨r, hs, bs, rfl, hR, ok, q⟩ := h
  obtain ⟨ha, ba, hv, bv, er, eh, eb, alh, alb⟩ := hR.ex
  have lhv := alh.length
  obtain ⟨aO, mO, hO⟩ := T.x_out
  refine ⟨_, (pss_cons (ps_asg (pv 0) (pg_tupK K rfl rfl (pgs_cons (pg_name (i := 1) sc_wrong_belt.nd rfl (Or.inl rfl)) (pgs_cons (pg_name (i := 2) sc_wrong_belt.nd rfl (Or.inl rfl)) pgs_nil))))
      (pss_cons (ps_for PassesOwn.never rfl (pi_enumT K rfl (by rfl) T.m_enumerate (pa_cons (pv 2) pa_nil)) (pg_tupK K rfl rfl (pgs_cons (pg_name (i := 3) sc_wrong_belt.nd rfl (Or.inl rfl)) (pgs_cons (pg_tupK K rfl rfl (pgs_cons (pg_name (i := 4) sc_wrong_belt.nd rfl (Or.inl rfl)) (pgs_cons (pg_name (i := 5) sc_wrong_belt.nd rfl (Or.inl rfl)) (pgs_cons (pg_name (i := 6) sc_wrong_belt.nd rfl (Or.inl rfl)) pgs_nil)))) pgs_nil)))
        (pss_cons (ps_if (PW.pt (pw_or (pt_not (pt_chain op_le op_lt pe_int (pv 4) (pe_callB (call_len_seqK K rfl) (by rfl) T.m_len (by decide +kernel) (pa_cons (pv 1) pa_nil)))) (pw_or1 (pt_not (pt_chain op_le op_lt pe_int (pv 5) (pe_callB (call_len_seqK K rfl) (by rfl) T.m_len (by decide +kernel) (pa_cons (pv 1) pa_nil))))))) (pss_one (ps_ret (pv 3))) pss_nil)
      (pss_one (ps_if (pt_cmpR (op_eqDK K rfl hr.units) (pe_ix (ix_tupK K rfl) (pe_ix (ix_tupK K rfl) (pv 1) (pv 4) (fun _ _ => rfl)) pe_int (fun _ _ => rfl)) (pe_glob (v := .ref aO) (by rfl) mO rfl) (nomark _)) (pss_one (ps_ret (pv 3))) pss_nil))))
      (pss_one (ps_ret pe_non)))), ?_⟩
  refine ⟨_, rfl, r, _, rfl, SqT.of er, rfl, _, _, rfl, _, _, rfl, rfl, ?_⟩
  refine ⟨_, rfl, ba, bv, rfl, SqT.of eb, for_it (J := IteT K ba bv) (n := bv.length) (fun i σ H5 => ∃ v3 v4 v5 v6 : Option V, σ = [some (.ref r), some (.ref ha), some (.ref ba), v3, v4, v5, v6] ∧ Same H H5) ⟨_, _, _, _, rfl, fun _ _ e => e⟩ ?_ ?_ ?_ ?_⟩
  · rintro i σ H5 hi ⟨v3, v4, v5, v6, rfl, s5⟩
    exact ⟨SqT.of (s5 _ _ eb), hi⟩
  · rintro σ H5 ⟨v3, v4, v5, v6, rfl, s5⟩
    exact ⟨SqT.of (s5 _ _ eb), rfl⟩
  · rintro i x σ H5 H6 hi ⟨v3, v4, v5, v6, rfl, s5⟩ ⟨t, y, rfl, nt, rfl, ey⟩
    obtain ⟨b, eb2, t2, g, rfl, e1, e2⟩ := alb.getL ey
    have mb := List.mem_of_getElem? eb2
    obtain ⟨n1, n2⟩ := ok.ends b mb
    have s6 := s5.trans (same_new (o := .tup [V.int ((i : Nat) : Int), V.ref t2]) nt)
    refine ⟨t, _, rfl, SqT.of upd_same, rfl, _, _, rfl, _, _, rfl, t2, _, rfl, SqT.of (s6 _ _ e1), rfl, _, _, rfl, _, _, rfl, _, _, rfl, rfl, rfl, ?_⟩
    have in0 : ∀ n : Nat, n < hs.length → (decide ((0 : Int) ≤ ((n : Nat) : Int)) = true) ∧ decide (((n : Nat) : Int) < ((hv.length : Nat) : Int)) = true := fun n hn => ⟨decide_eq_true (Int.natCast_nonneg _), decide_eq_true (by omega)⟩
    obtain ⟨c1, c2⟩ := in0 _ n1
    obtain ⟨c3, c4⟩ := in0 _ n2
    have e6 := SqT.of (K := K) (s6 _ _ eh)
    refine ⟨_, rfl, _, _, rfl, rfl, _, rfl, if_bl (fun _ => ?_) (fun z => absurd (z.symm.trans c1) (by decide))⟩
    refine ⟨_, rfl, ha, hv, rfl, .inr e6, _, _, rfl, rfl, _, rfl, if_bl (fun z => ?_) (fun _ => ?_)⟩
    · rw [c2] at z; cases z
    refine ⟨_, rfl, _, _, rfl, rfl, _, rfl, if_bl (fun _ => ?_) (fun z => absurd (z.symm.trans c3) (by decide))⟩
    refine ⟨_, rfl, ha, hv, rfl, .inr e6, _, _, rfl, rfl, _, rfl, if_bl (fun z => ?_) (fun _ => ?_)⟩
    · rw [c4] at z; cases z
    obtain ⟨h, eh3⟩ : ∃ h, hs[b.one]? = some h := ⟨_, List.getElem?_eq_getElem n1⟩
    have gh := ok.good h (List.mem_of_getElem? eh3)
    obtain ⟨x, ex, t3, rr, rfl, e3, e4⟩ := alh.get eh3
    refine ⟨_, rfl, _, rfl, ha, _, _, _, rfl, rfl, e6, atI_nat ex, t3, _, _, _, rfl, rfl, SqT.of (s6 _ _ e3), atI_nat (j := 0) rfl, ?_⟩
    refine ⟨_, _, rule_dp (s6 _ _ e4), .tup (hO _) (.cons (.str _) .nil), rule_shaped gh.lay, one_shaped (by decide +kernel), _, rfl, ?_⟩
    rw [rule_eqv, gh.door "out" (.inr rfl), decide_eq_false (ok.out b mb h eh3)]
    exact if_bl (fun z => nomatch z) (fun _ => ⟨_, _, _, _, rfl, s6⟩)
  · rintro σ H5 ⟨v3, v4, v5, v6, rfl, s5⟩
    exact q _ s5
def sp_wrong_count (K : PySem.W.Frag) : Sp := fun vs H Q _ => ∃ (r : Addr) (hs : List HR) (bs : List BR), vs = [.ref r] ∧ RoomAt H r hs bs ∧ RoomOk hs bs ∧ ∀ H', Same H H' → Q .non H'
theorem ok_wrong_count {f : Addr} {fd : FuncData} (F : Fun K "wrong_count" "wrong_count" s_wrong_count f fd) (T : Top w K mg) : FnOk P w K mg base CX0 2 f fd ["room"] (sp_wrong_count K) := by
  obtain ⟨f_needs, fd_needs, F_needs, b_needs, m_needs⟩ := T.d_needs
  have G_needs := ok_needs (P := P) (w := w) (base := base) F_needs T
  obtain ⟨f_comings, fd_comings, F_comings, b_comings, m_comings⟩ := T.d_comings
  have G_comings := ok_comings (P := P) (w := w) (base := base) F_comings T
  refine F.ok sc_wrong_count (fun vs H Q E h => ?_) (fun cdv A outer s H vs Q E hr h => ?_)
  · obtain ⟨r, hs, bs, rfl, _⟩ := h
    rfl
  obtain ⟨r, hs, bs, rfl, hR, ok, q⟩ := h
  obtain ⟨ha, ba, hv, bv, er, eh, eb, alh, alb⟩ := hR.ex
  have lb := ok.many
  refine ⟨_, (pss_cons (ps_for PassesOwn.never rfl (pi_enumT K rfl (by rfl) T.m_enumerate (pa_cons (pe_ix (ix_tupK K rfl) (pv 0) pe_int (fun _ _ => rfl)) pa_nil)) (pg_tupK K rfl rfl (pgs_cons (pg_name (i := 1) sc_wrong_count.nd rfl (Or.inl rfl)) (pgs_cons (pg_tupK K rfl rfl (pgs_cons (pg_name (i := 2) sc_wrong_count.nd rfl (Or.inl rfl)) (pgs_cons (pg_name (i := 3) sc_wrong_count.nd rfl (Or.inl rfl)) pgs_nil))) pgs_nil)))
        (pss_one (ps_if (pt_cmpR op_ne (pe_callB (call_len_seqK K rfl) (by rfl) T.m_len (by decide +kernel) (pa_cons (pe_call G_comings (hr.mono (by decide)) (by rfl) m_comings F_comings.kp b_comings .nil pass0 (pa_cons (pv 0) (pa_cons (pv 1) pa_nil))) pa_nil)) (pe_call G_needs (hr.mono (by decide)) (by rfl) m_needs F_needs.kp b_needs .nil pass0 (pa_cons (pv 2) pa_nil)) (nomark _)) (pss_one (ps_ret (pv 1))) pss_nil)))
      (pss_one (ps_ret pe_non))), ?_⟩
  refine ⟨_, rfl, r, _, _, _, rfl, rfl, SqT.of er, atI_nat (j := 0) rfl, ha, hv, rfl, SqT.of eh, for_it (J := IteT K ha hv) (n := hv.length) (fun i σ H5 => ∃ v1 v2 v3 : Option V, σ = [some (.ref r), v1, v2, v3] ∧ Same H H5) ⟨_, _, _, rfl, fun _ _ e => e⟩ ?_ ?_ ?_ ?_⟩
  · rintro i σ H5 hi ⟨v1, v2, v3, rfl, s5⟩
    exact ⟨SqT.of (s5 _ _ eh), hi⟩
  · rintro σ H5 ⟨v1, v2, v3, rfl, s5⟩
    exact ⟨SqT.of (s5 _ _ eh), rfl⟩
  · rintro i x σ H5 H6 hi ⟨v1, v2, v3, rfl, s5⟩ ⟨t, y, rfl, nt, rfl, ey⟩
    obtain ⟨h, eh2, t2, rr, rfl, e1, e2⟩ := alh.getL ey
    have gh := ok.good h (List.mem_of_getElem? eh2)
    have s6 := s5.trans (same_new (o := .tup [V.int ((i : Nat) : Int), V.ref t2]) nt)
    refine ⟨t, _, rfl, SqT.of upd_same, rfl, _, _, rfl, _, _, rfl, t2, _, rfl, SqT.of (s6 _ _ e1), rfl, _, _, rfl, _, _, rfl, rfl, rfl, ?_⟩
    refine ⟨_, rfl, _, rfl, r, hs, bs, i, rfl, hR.keep (TK.same s6), by omega, fun c H7 nc hc s7 => ?_⟩
    refine ⟨c, _, rfl, .inl (SqL.of hc), _, rfl, rr, h.wd, _, rfl, s7 _ _ (s6 _ _ e2), gh.eleven, rfl, _, rfl, if_bl (fun e => ?_) (fun _ => ⟨_, _, _, rfl, s6.trans s7⟩)⟩
    have cnt := ok.count i h eh2
    rw [needs_needN gh.eleven, count_filter] at cnt
    have lc : ((comingN bs i).map nV).length = (comeB bs i).length := by rw [List.length_map]; exact (come_list bs i).length
    rw [lc] at e
    unfold comeB at e
    rw [cnt] at e
    simp at e
  · rintro σ H5 ⟨v1, v2, v3, rfl, s5⟩
    exact q _ s5
end
/-! ### belts without things -/
abbrev DSt (g : TG) (tt : TT) (tk tv : TE) (vs : List Nat) (σ : L2.St) (D : Addr) (x : V) (H' : Hp) (N : Hp → Prop) : Prop := g x (wipe σ vs) H' fun σ2 H2 => wipe σ2 vs = wipe σ vs ∧ tt σ2 H2 fun b H3 => if b = true then (tk σ2 H3 fun y H4 => tv σ2 H4 fun z H5 => ∃ kvs k, y = kV k ∧ H5 D = some (.dK kvs) ∧ kvs.length < sizeLine ∧ N (upd H5 D (.dK (putK kvs k z)))) else N H3
theorem dc_range {lo : Int} {n : Nat} {g : TG} {tt : TT} {tk tv : TE} {vs : List Nat} {σ : L2.St} {H1 : Hp} {D : Addr} {Qd : Hp → Prop} (Pv : Nat → Hp → Prop) (h0 : Pv 0 (upd H1 D (.dK []))) (hs : ∀ i H, i < n → Pv i H → DSt g tt tk tv vs σ D (.int (lo + i)) H (Pv (i + 1))) (hd : ∀ H, Pv n H → Qd H) :
    ∃ W : Nat → Nat → Hp → Prop, (∃ m, W 0 m (upd H1 D (.dK []))) ∧ ∀ i m H, W i m H → ((Itr lo n).stop i H ∧ Qd H) ∨ ((Itr lo n).go i H ∧ ∃ Nx : Hp → Prop, (∀ H', Nx H' → ∃ m', m' < m ∧ W (i + 1) m' H') ∧ ∀ x H', (Itr lo n).yld i H x H' → DSt g tt tk tv vs σ D x H' Nx) := by
  refine ⟨fun i m H => m = n - i ∧ i ≤ n ∧ Pv i H, ⟨n, by simp, Nat.zero_le _, h0⟩, ?_⟩
  rintro i m H ⟨rfl, hi, p⟩
  by_cases hlt : i < n
  · refine .inr ⟨hlt, Pv (i + 1), fun H' p' => ⟨n - (i + 1), by omega, rfl, hlt, p'⟩, fun x H' y => ?_⟩
    obtain ⟨e, y⟩ := y
    subst e y
    exact hs i _ hlt p
  · have e : i = n := by omega
    subst e
    exact .inl ⟨Nat.le_refl _, hd H p⟩
/-- the hands that the belts without things lead to -/
def bareSt (bs : List BR) (i : Nat) : List Nat := (bs.filter fun b => decide (b.one = i) && b.th.isEmpty).map BR.to
theorem bare_snoc (bs : List BR) (b : BR) (i : Nat) : bareSt (bs ++ [b]) i = if b.one = i ∧ b.th = [] then bareSt bs i ++ [b.to] else bareSt bs i := by
  unfold bareSt
  rw [List.filter_append, List.map_append]
  by_cases h : b.one = i ∧ b.th = []
  · rw [if_pos h, List.filter_cons, if_pos (by rw [h.1, h.2, decide_eq_true rfl]; rfl)]
    rfl
  · rw [if_neg h, List.filter_cons, if_neg (fun z => h ?_)]
    · exact List.append_nil _
    · rw [Bool.and_eq_true, decide_eq_true_eq, List.isEmpty_iff] at z
      exact z
theorem bare_mem {bs : List BR} {i y : Nat} (h : y ∈ bareSt bs i) : ∃ b ∈ bs, b.one = i ∧ b.th = [] ∧ b.to = y := by
  unfold bareSt at h
  obtain ⟨b, hb, e⟩ := List.mem_map.mp h
  obtain ⟨m, z⟩ := List.mem_filter.mp hb
  rw [Bool.and_eq_true, decide_eq_true_eq, List.isEmpty_iff] at z
  exact ⟨b, m, z.1, z.2, e⟩
theorem bare_len (bs : List BR) (i : Nat) : (bareSt bs i).length ≤ bs.length := by
  unfold bareSt
  rw [List.length_map]
  exact List.length_filter_le ..
theorem bare_none {hs : List HR} {bs : List BR} (ok : RoomOk hs bs) (x : Nat) : ¬ OnW (bareSt bs) x x := fun h => by
  obtain ⟨rk, hr⟩ := ok.rank
  have := h.rank (rk := rk) fun x y hy => (by
    obtain ⟨b, hb, e1, e2, e3⟩ := bare_mem hy
    rw [← e1, ← e3]
    exact hr b hb e2)
  omega
theorem stK_none (adr : Nat → Addr) (n : Nat) : valV (stK adr n) (Sum.inl ((n : Nat) : Int)) = none := by
  unfold valV
  rw [Option.map_eq_none_iff, List.find?_eq_none]
  intro kv hk
  obtain ⟨i, hi, rfl⟩ := List.mem_map.mp hk
  have := List.mem_range.mp hi
  intro z
  have := Sum.inl.inj (of_decide_eq_true z)
  omega
theorem stK_put (adr : Nat → Addr) (n : Nat) (p : Addr) : putK (stK adr n) (Sum.inl ((n : Nat) : Int)) (.ref p) = stK (fun j => if j = n then p else adr j) (n + 1) := by
  rw [putK_new _ (stK_none adr n)]
  unfold stK
  rw [List.range_succ, List.map_append]
  congr 1
  · refine List.map_congr_left fun i hi => ?_
    have := List.mem_range.mp hi
    show (_, V.ref (adr i)) = (_, V.ref (if i = n then p else adr i))
    rw [if_neg (by omega)]
  · show [_] = [(_, V.ref (if n = n then p else adr n))]
    rw [if_pos rfl]
/-- the steps under way -/
structure StU (H0 H : Hp) (d : Addr) (n : Nat) (st : Nat → List Nat) : Prop where
  ex : ∃ adr : Nat → Addr, H d = some (.dK (stK adr n)) ∧ (∀ i, i < n → H (adr i) = some (.lst ((st i).map nV)) ∧ H0 (adr i) = none) ∧ (∀ i j, i < n → j < n → adr i = adr j → i = j) ∧ Same H0 H
section
variable {P : Program} {w : World} {K : PySem.W.Frag} {mg : Str → Option Value} {base : Heap}
def sp_hand_on_ring (K : PySem.W.Frag) : Sp := fun vs H Q _ => ∃ (r : Addr) (hs : List HR) (bs : List BR), vs = [.ref r] ∧ RoomAt H r hs bs ∧ RoomOk hs bs ∧ ∀ H', Same H H' → Q .non H'
theorem ok_hand_on_ring {f : Addr} {fd : FuncData} (F : Fun K "hand_on_ring" "hand_on_ring" s_hand_on_ring f fd) (T : Top w K mg) : FnOk P w K mg base CX0 3 f fd ["room"] (sp_hand_on_ring K) := by
  obtain ⟨f_first_on_ring, fd_first_on_ring, F_first_on_ring, b_first_on_ring, m_first_on_ring⟩ := T.d_first_on_ring
  have G_first_on_ring := ok_first_on_ring (P := P) (w := w) (base := base) F_first_on_ring T
  refine F.ok sc_hand_on_ring (fun vs H Q E h => ?_) (fun cdv A outer s H vs Q E hr h => ?_)
  · obtain ⟨r, hs, bs, rfl, _⟩ := h
    rfl
  obtain ⟨r, hs, bs, rfl, hR, ok, q⟩ := h
  obtain ⟨ha, ba, hv, bv, er, eh, eb, alh, alb⟩ := hR.ex
  have lhv := alh.length
  have lbv := alb.length
  have lh := ok.hands
  have lb := ok.many
  refine ⟨_, (pss_cons (ps_asg (pv 0) (pg_tupK K rfl rfl (pgs_cons (pg_name (i := 1) sc_hand_on_ring.nd rfl (Or.inl rfl)) (pgs_cons (pg_name (i := 2) sc_hand_on_ring.nd rfl (Or.inl rfl)) pgs_nil))))
      (pss_cons (ps_setDc (i := 3) (own := [("number", 4)]) (g := gName 4) (tt := tYes) (by rfl) sc_hand_on_ring.nd rfl rfl (sw_dc rfl rfl rfl (by decide +kernel)) (pi_range1 (by rfl) T.m_range (pa_cons (pe_callB (call_len_seqK K rfl) (by rfl) T.m_len (by decide +kernel) (pa_cons (pv 1) pa_nil)) pa_nil)) (blkOk_by (own := [("number", 4)]) (N := N_hand_on_ring) (sc := defScope s_hand_on_ring) (by decide +kernel)) (fun _ _ _ _ _ => (pg_name (i := 4) sc_hand_on_ring.nd rfl (Or.inl rfl))) (fun _ _ _ _ _ => pts_nil) (fun _ _ _ _ _ => (pv 4)) (fun _ _ _ _ _ => (pe_lst pa_nil)))
      (pss_cons (ps_for PassesOwn.never rfl (pi_tupK K rfl (pv 2)) (pg_tupK K rfl rfl (pgs_cons (pg_name (i := 5) sc_hand_on_ring.nd rfl (Or.inl rfl)) (pgs_cons (pg_name (i := 6) sc_hand_on_ring.nd rfl (Or.inl rfl)) (pgs_cons (pg_name (i := 7) sc_hand_on_ring.nd rfl (Or.inl rfl)) pgs_nil))))
        (pss_one (ps_if (pt_not (pt_truthK K rfl (pv 7) (by intro _; rfl))) (pss_one (ps_expr (pe_bmK K rfl PySem.F.plainAttrs_list PySem.F.slot_list_append PySem.F.type_list_append mt_append (pe_dget (hu_of hr) (pv 3) (pv 5) (fun _ _ => rfl)) (pa_cons (pv 6) pa_nil)))) pss_nil)))
      (pss_one (ps_ret (pe_call G_first_on_ring (hr.mono (by decide)) (by rfl) m_first_on_ring F_first_on_ring.kp b_first_on_ring .nil pass0 (pa_cons (pe_callTy (call_list_dK rfl) (by rfl) T.m_list (by decide +kernel) (pa_cons (pv 3) pa_nil)) (pa_cons (pv 3) pa_nil)))))))), ?_⟩
  refine ⟨_, rfl, r, _, rfl, SqT.of er, rfl, _, _, rfl, _, _, rfl, rfl, ?_⟩
  refine ⟨_, rfl, ha, _, rfl, .inr (SqT.of eh), _, rfl, by omega, by omega, fun D nD => dc_range (fun i H5 => StU H H5 D i (fun _ => [])) ⟨fun _ => D, upd_same, (fun i z => absurd z (Nat.not_lt_zero _)), (fun i j z => absurd z (Nat.not_lt_zero _)), same_new nD⟩ ?_ ?_⟩
  · rintro i H5 hi ⟨adr, hD, had, inj, s5⟩
    refine ⟨rfl, _, rfl, (by show 0 ≤ sizeLine; decide), fun p np => ?_⟩
    have pD : p ≠ D := fun z => by rw [z, hD] at np; cases np
    have u := same_new (o := .lst []) np
    have lK : (stK adr i).length = i := by unfold stK; rw [List.length_map, List.length_range]
    refine ⟨stK adr i, Sum.inl ((i : Nat) : Int), by rw [Int.zero_add]; rfl, u _ _ hD, by rw [lK]; exact small1000 (by omega), ?_⟩
    rw [stK_put]
    refine ⟨_, upd_same, fun j hj => ?_, fun j k hj hk e => ?_, Same.own (s5.trans u) nD⟩
    · by_cases z : j = i
      · rw [if_pos z]
        refine ⟨by rw [upd_ne pD, upd_same]; rfl, ?_⟩
        cases h0 : H p with
        | none => rfl
        | some o => rw [s5 _ _ h0] at np; cases np
      · rw [if_neg z]
        obtain ⟨a1, a2⟩ := had j (by omega)
        have aD : adr j ≠ D := fun y => by rw [y, hD] at a1; cases a1
        exact ⟨by rw [upd_ne aD]; exact u _ _ a1, a2⟩
    · by_cases z : j = i
      · by_cases y : k = i
        · omega
        · simp only [if_pos z, if_neg y] at e
          rw [e, (had k (by omega)).1] at np
          cases np
      · by_cases y : k = i
        · simp only [if_neg z, if_pos y] at e
          rw [← e, (had j (by omega)).1] at np
          cases np
        · simp only [if_neg z, if_neg y] at e
          exact inj j k (by omega) (by omega) e
  intro H2 su0
  rw [lhv] at su0
  have same0 : ∀ {H5 : Hp} {n : Nat} {st : Nat → List Nat}, StU H H5 D n st → Same H H5 := fun su => by
    obtain ⟨adr, _, _, _, s⟩ := su.ex
    exact s
  refine ⟨_, rfl, ba, rfl, ⟨_, SqT.of (same0 su0 _ _ eb)⟩, for_tup (K := K) (a := ba) (xs := bv) (fun i σ H5 => ∃ v4 v5 v6 v7 : Option V, σ = [some (.ref r), some (.ref ha), some (.ref ba), some (.ref D), v4, v5, v6, v7] ∧ StU H H5 D hs.length (bareSt (bs.take i))) ⟨_, _, _, _, rfl, su0⟩ (fun i σ H5 _ ⟨_, _, _, _, _, su⟩ => SqT.of (same0 su _ _ eb)) ?_ ?_⟩
  · rintro i x σ H5 hx ⟨v4, v5, v6, v7, rfl, su⟩
    obtain ⟨adr, hD, had, inj, s5⟩ := su.ex
    obtain ⟨b, eb2, t, g, rfl, e4, e5⟩ := alb.getL hx
    have tk : bs.take (i + 1) = bs.take i ++ [b] := by rw [List.take_add_one, eb2]; rfl
    obtain ⟨n1, n2⟩ := ok.ends b (List.mem_of_getElem? eb2)
    have bq : ∀ j, bareSt (bs.take (i + 1)) j = if b.one = j ∧ b.th = [] then bareSt (bs.take i) j ++ [b.to] else bareSt (bs.take i) j := fun j => by rw [tk, bare_snoc]
    refine ⟨t, _, rfl, SqT.of (s5 _ _ e4), rfl, _, _, rfl, _, _, rfl, _, _, rfl, rfl, ?_⟩
    refine ⟨_, rfl, _, .inr (.inl ⟨_, SqT.of (s5 _ _ e5), rfl⟩), if_bl (fun z => ?_) (fun z => ?_)⟩
    · have bare : b.th = [] := by
        cases hb : b.th with
        | nil => rfl
        | cons y l => rw [hb] at z; cases z
      obtain ⟨a1, a2⟩ := had b.one n1
      have st5 : StAt H5 D hs.length (bareSt (bs.take i)) := ⟨adr, hD, fun j hj => (had j hj).1⟩
      have gt : DGet H5 D (nV b.one) (some (.ref (adr b.one))) := by
        have := DGet.k (k := Sum.inl ((b.one : Nat) : Int)) hD
        rwa [stK_at n1] at this
      have few := bare_len (bs.take i) b.one
      have few2 : (bs.take i).length ≤ bs.length := by rw [List.length_take]; exact Nat.min_le_right ..
      have aD : D ≠ adr b.one := fun y => by rw [← y, hD] at a1; cases a1
      refine ⟨_, rfl, _, rfl, D, _, rfl, gt, .inl ⟨rfl, _, SqL.of a1⟩, _, rfl, adr b.one, _, _, rfl, rfl, a1, by rw [List.length_map]; exact small1000 (by omega), _, _, _, _, rfl, ⟨adr, by rw [upd_ne aD]; exact hD, fun j hj => ⟨?_, (had j hj).2⟩, inj, Same.own s5 a2⟩⟩
      rw [bq]
      by_cases y : b.one = j
      · subst y
        rw [if_pos ⟨rfl, bare⟩, upd_same, List.map_append]
        rfl
      · rw [if_neg (fun c => y c.1), upd_ne (fun c => y (inj _ _ hj n1 c).symm)]
        exact (had j hj).1
    · have bare : b.th ≠ [] := fun y => by rw [y] at z; cases z
      refine ⟨_, _, _, _, rfl, ⟨adr, hD, fun j hj => ⟨?_, (had j hj).2⟩, inj, s5⟩⟩
      rw [bq, if_neg (fun c => bare c.2)]
      exact (had j hj).1
  · rintro σ H5 ⟨v4, v5, v6, v7, rfl, su⟩
    rw [lbv, List.take_length] at su
    obtain ⟨adr, hD, had, inj, s5⟩ := su.ex
    refine ⟨_, rfl, D, _, rfl, hD, fun pl npl => ?_⟩
    have s6 := same_new (o := .lst ((stK adr hs.length).map fun kv => kV kv.1)) npl
    refine ⟨_, rfl, pl, D, hs.length, List.range hs.length, bareSt bs, rfl, ?_, fun x hx => List.mem_range.mp hx, ⟨adr, s6 _ _ hD, fun j hj => s6 _ _ (had j hj).1⟩, by omega, fun j hj => ⟨by have := bare_len bs j; omega, fun y hy => ?_⟩, fun v H7 fw s7 => ?_⟩
    · rw [upd_same]
      unfold stK
      rw [List.map_map]
      rfl
    · obtain ⟨b, hb, _, _, e⟩ := bare_mem hy
      rw [← e]
      exact (ok.ends b hb).2
    · rcases fw with ⟨rfl, _⟩ | ⟨_, x, _, _, hw, _⟩
      · exact q _ (s5.trans (s6.trans s7))
      · exact absurd hw (bare_none ok x)
def sp_refuse_room (K : PySem.W.Frag) : Sp := fun vs H Q _ => ∃ z : Str, vs = [.str z, .non] ∧ Q .non H
theorem ok_refuse_room {f : Addr} {fd : FuncData} (F : Fun K "refuse_room" "refuse_room" s_refuse_room f fd) (T : Top w K mg) : FnOk P w K mg base CX0 1 f fd ["word", "at"] (sp_refuse_room K) := by
  refine F.ok sc_refuse_room (fun vs H Q E h => ?_) (fun cdv A outer s H vs Q E hr h => ?_)
  · obtain ⟨z, rfl, _⟩ := h
    rfl
  obtain ⟨z, rfl, q⟩ := h
  refine ⟨_, (pss_one (ps_if (pt_cmpR op_notN (pv 1) pe_non (nomark _)) (pss_one ps_dead) pss_nil)), ?_⟩
  exact ⟨_, rfl, rfl, _, rfl, if_bl (fun z => nomatch z) (fun _ => q)⟩
variable {cF cB : Addr} {PT : Addr × Addr × Addr} [TF : TabF K mg base cF PT] [TC : TabC K mg base cB PT]
include TF TC
def sp_look_room (K : PySem.W.Frag) (PT : Addr × Addr × Addr) : Sp := fun vs H Q _ => ∃ (r : Addr) (hs : List HR) (bs : List BR), vs = [.ref r] ∧ RoomAt H r hs bs ∧ RoomOk hs bs ∧ Tb2 PT H ∧ ∀ H', LamX.ExtN H H' → Tb2 PT H' → Q (.bl true) H'
theorem ok_look_room {f : Addr} {fd : FuncData} (F : Fun K "look_room" "look_room" s_look_room f fd) (T : Top w K mg) : FnOk P w K mg base CX0 6 f fd ["room"] (sp_look_room K PT) := by
  obtain ⟨f_refuse_room, fd_refuse_room, F_refuse_room, b_refuse_room, m_refuse_room⟩ := T.d_refuse_room
  have G_refuse_room := ok_refuse_room (P := P) (w := w) (base := base) F_refuse_room T
  obtain ⟨f_has_form, fd_has_form, F_has_form, b_has_form, m_has_form⟩ := T.d_has_form
  have G_has_form := ok_has_form (P := P) (w := w) (base := base) F_has_form (TF.cd _ _ F_has_form m_has_form) T
  obtain ⟨f_wrong_hand, fd_wrong_hand, F_wrong_hand, b_wrong_hand, m_wrong_hand⟩ := T.d_wrong_hand
  have G_wrong_hand := ok_wrong_hand (P := P) (w := w) (base := base) F_wrong_hand T
  obtain ⟨f_wrong_belt, fd_wrong_belt, F_wrong_belt, b_wrong_belt, m_wrong_belt⟩ := T.d_wrong_belt
  have G_wrong_belt := ok_wrong_belt (P := P) (w := w) (base := base) F_wrong_belt T
  obtain ⟨f_wrong_count, fd_wrong_count, F_wrong_count, b_wrong_count, m_wrong_count⟩ := T.d_wrong_count
  have G_wrong_count := ok_wrong_count (P := P) (w := w) (base := base) F_wrong_count T
  obtain ⟨f_hand_on_ring, fd_hand_on_ring, F_hand_on_ring, b_hand_on_ring, m_hand_on_ring⟩ := T.d_hand_on_ring
  have G_hand_on_ring := ok_hand_on_ring (P := P) (w := w) (base := base) F_hand_on_ring T
  refine F.ok sc_look_room (fun vs H Q E h => ?_) (fun cdv A outer s H vs Q E hr h => ?_)
  · obtain ⟨r, hs, bs, rfl, _⟩ := h
    rfl
  obtain ⟨r, hs, bs, rfl, hR, ok, tb, q⟩ := h
  refine ⟨_, (pss_cons (ps_if (pt_not (pt_val (pe_call G_has_form (hr.mono (by decide)) (by rfl) m_has_form F_has_form.kp b_has_form .nil pass0 (pa_cons (pv 0) pa_nil)))) (pss_one ps_dead) pss_nil)
      (pss_cons (ps_expr (pe_call G_refuse_room (hr.mono (by decide)) (by rfl) m_refuse_room F_refuse_room.kp b_refuse_room .nil pass0 (pa_cons pe_str (pa_cons (pe_call G_wrong_hand (hr.mono (by decide)) (by rfl) m_wrong_hand F_wrong_hand.kp b_wrong_hand .nil pass0 (pa_cons (pv 0) pa_nil)) pa_nil))))
      (pss_cons (ps_expr (pe_call G_refuse_room (hr.mono (by decide)) (by rfl) m_refuse_room F_refuse_room.kp b_refuse_room .nil pass0 (pa_cons pe_str (pa_cons (pe_call G_wrong_belt (hr.mono (by decide)) (by rfl) m_wrong_belt F_wrong_belt.kp b_wrong_belt .nil pass0 (pa_cons (pv 0) pa_nil)) pa_nil))))
      (pss_cons (ps_expr (pe_call G_refuse_room (hr.mono (by decide)) (by rfl) m_refuse_room F_refuse_room.kp b_refuse_room .nil pass0 (pa_cons pe_str (pa_cons (pe_call G_wrong_count (hr.mono (by decide)) (by rfl) m_wrong_count F_wrong_count.kp b_wrong_count .nil pass0 (pa_cons (pv 0) pa_nil)) pa_nil))))
      (pss_cons (ps_expr (pe_call G_refuse_room (hr.mono (by decide)) (by rfl) m_refuse_room F_refuse_room.kp b_refuse_room .nil pass0 (pa_cons pe_str (pa_cons (pe_call G_hand_on_ring (hr.mono (by decide)) (by rfl) m_hand_on_ring F_hand_on_ring.kp b_hand_on_ring .nil pass0 (pa_cons (pv 0) pa_nil)) pa_nil))))
      (pss_one (ps_ret pe_bl))))))), ?_⟩
  refine ⟨_, rfl, r, hs, bs, rfl, hR, tb, fun H1 e1 tb1 => ⟨_, rfl, if_bl (fun z => nomatch z) (fun _ => ?_)⟩⟩
  have hR1 := hR.keep (tk_ext e1)
  refine ⟨_, rfl, r, hs, bs, rfl, hR1, ok, fun H2 s2 => ⟨_, rfl, ?_⟩⟩
  have hR2 := hR1.keep (TK.same s2)
  refine ⟨_, rfl, r, hs, bs, rfl, hR2, ok, fun H3 s3 => ⟨_, rfl, ?_⟩⟩
  have hR3 := hR2.keep (TK.same s3)
  refine ⟨_, rfl, r, hs, bs, rfl, hR3, ok, fun H4 s4 => ⟨_, rfl, ?_⟩⟩
  have hR4 := hR3.keep (TK.same s4)
  refine ⟨_, rfl, r, hs, bs, rfl, hR4, ok, fun H5 s5 => ⟨_, rfl, ?_⟩⟩
  have ss := s2.trans (s3.trans (s4.trans s5))
  exact q _ (e1.trans (ext_same ss)) (tb1.same ss)
end
/-! ### a text's signs as a list; a text several times -/
section
variable {X : Cx}
theorem call_list_strK (hc : X.calm = true) : CallR X (.type "list") (fun xs H Q => ∃ z : Str, xs = [.str z] ∧ z.cps.size ≤ sizeLine ∧ ∀ l, H l = none → Q (.ref l) (upd H l (.lst (z.cps.toList.map fun c => V.str ⟨#[c]⟩)))) := by
  intro pins st σ H xs us Q J rel asked
  obtain ⟨z, rfl, hz, now⟩ := asked
  obtain ⟨u, rfl, t, rfl⟩ := vals1 rel
  refine call_list_str (J.ok.hd hc) z t (fun h' tk acc c kp at_ items => ?_) hz
  have len : (z.cps.toList.map fun c => V.str ⟨#[c]⟩).length = acc.toList.length := by
    rw [List.length_map, Array.length_toList, Array.length_toList, items.1]
  refine ⟨.ref st.heap.objs.size, upd H st.heap.objs.size (.lst (z.cps.toList.map fun c => V.str ⟨#[c]⟩)), J.laid kp (Nat.le_refl _) (show ObjOk X.prog X.w _ _ _ (.lst (z.cps.toList.map fun c => V.str ⟨#[c]⟩)) from ⟨by rw [List.length_map, Array.length_toList]; exact hz, acc.toList, c, ?_, ?_⟩), rfl, now _ (J.hok.fresh (Nat.le_refl _))⟩
  · refine vals_of_at len fun j x v e1 e2 => ?_
    obtain ⟨cc, tt, e3, e4⟩ := items.2 j v (by rw [← Array.getElem?_toList]; exact e2)
    rw [List.getElem?_map, Array.getElem?_toList, e3] at e1
    have e1 : V.str ⟨#[cc]⟩ = x := Option.some.inj e1
    subst e1
    exact ⟨tt, e4⟩
  · rw [Array.toArray_toList]
    exact at_
theorem op_rep_str : OpR X (binaryOp .Mult) (fun x y H Q => ∃ (z : Str) (n : Int), x = .str z ∧ y = .int n ∧ MulOk z n ∧ Q (.str (Txt.mul z n)) H) := by
  intro pins st σ H x y v u Q J rx ry asked
  obtain ⟨z, n, rfl, rfl, hm, now⟩ := asked
  obtain ⟨t, rfl⟩ := rx
  obtain ⟨t2, rfl⟩ := ry
  exact PySem.SB.mul hm fun t3 k => ⟨.str (Txt.mul z n), H, J.tok _, ⟨_, rfl⟩, now⟩
end
/-! ### all(sign in NAME for sign in a text) -/
section
open PySem.Spec GxR
/-- one item looked at, in the generator's own surroundings -/
def LooksC (X : Cx) (scope : Scope) (x : Str) (elt : Expr) (pb : Nat → Bool) : Prop :=
  ∀ (cenv : Env) (A' : Around) (E' : Value → Shared → Prop) (c : Nat) (t : Tok) (z : Shared) (mz : Str → Option Value), cenv.scope = scope → cenv.globals = mainGlobals →
    (∀ b o, X.base.get? b = some o → z.heap.get? b = some o) → z.heap.Ns cenv.locals mz → mz x = some (.str ⟨#[c]⟩ t) →
    wpAny (model X.prog X.w) A' (eval elt cenv) (fun y z' => y = .bool (pb c) ∧ Keeps z z') E' z
/-- sign in NAME, NAME a text of the module -/
theorem in_elt {X : Cx} {scope : Scope} {x nm : Str} {z : Str} {tz : Tok} {p1 p2 p3 : Pos} (M : L2.Mod X.K X.mg X.base) (kind : scope.kind = .function) (kx : scope.names.lookup x = some NameKind.local) (kn : scope.names.lookup nm = some NameKind.globalImplicit) (dx : (x == ("__debug__" : Str)) = false) (dn : (nm == ("__debug__" : Str)) = false) (hmg : X.mg nm = some (.str z tz)) :
    LooksC X scope x (.Compare (.Name x p1) [.In] [.Name nm p2] p3) (fun c => decide (c ∈ z.cps.toList)) := by
  intro cenv A' E' c t s mz sc gl up nz mx
  have kc : cenv.scope.kind = .function := by rw [sc]; exact kind
  refine wpAny_Compare1 ?_
  refine wpAny_Name (wpAny_loadName_local kc (show cenv.scope.names.lookup x = _ by rw [sc]; exact kx) nz mx ?_) dx
  refine Calls.Name_function_global kc (show cenv.scope.names.lookup nm = _ by rw [sc]; exact kn) (Calls.loadGlobal_global (by rw [gl]; exact M.glob.keeps up) hmg ?_) dn
  exact PyProof.Rows.in_str ⟨congrArg Value.bool (PySem.StrLaws.found_one z c), GxR.keeps_tok _ _⟩
/-- the state when the generator's code object was got: the table at P may be longer -/
structure Got (P : Addr) (ps : Array Value) (z z' : Shared) : Prop where
  same : z' = { z with heap := z'.heap, toks := z'.toks }
  ext : Heap.ExtBut P z.heap z'.heap
  size : z.heap.objs.size ≤ z'.heap.objs.size
  tab : ∃ more, z'.heap.get? P = some { cls := .none, data := .fields (ps ++ more) } ∧ TriplesOk (ps ++ more).toList
theorem code_got {prog : Program} {w : World} {A : Around} {E : Value → Shared → Prop} {env : Env} {gpos : Pos} {nm : Str} {scope : Scope} {c P : Addr} {ps : Array Value} {z : Shared}
    (hcode : env.code = .ref c) (cd : PySem.W.CodeHd z.heap c P) (hP : z.heap.get? P = some { cls := .none, data := .fields ps }) (ht : TriplesOk ps.toList) :
    wpAny (model prog w) A (genexprCode env gpos nm scope) (fun _ z' => Got P ps z z') E z := by
  cases among : codeAmong gpos ps.toList with
  | some cv => exact wpAny_genexprCode_hit hcode (cd.code hP ht) among ⟨rfl, .refl _ _, Nat.le_refl _, #[], by simpa using hP, by simpa using ht⟩
  | none =>
    refine wpAny_genexprCodeX hcode (cd.code hP ht) (cd.tab hP) among fun c' h' tk ext ge lt co _ tab _ => ?_
    obtain ⟨_, _, _, _, _, _, _, _, _, _, _, _, _, _, _, _, _, _, _, tr, _⟩ := co
    exact ⟨rfl, ext, Nat.le_trans ge (Nat.le_of_lt lt), _, tab.2, tr⟩
/-- a generator g of n truths pb, about to be walked; however far it is walked, H1 stands but for the table -/
def Poised (X : Cx) (pins : List (Addr × Obj)) (σ : L2.St) (H1 : Hp) (P : Addr) (n : Nat) (pb : Nat → Bool) (g : Addr) (z : Shared) : Prop :=
  ∃ (foot own : List Addr) (Gn : Array GenState → Array GenState → Prop) (Fn : Nat → Value → Prop) (Sn : Nat → Shared → Prop),
    WalksS X.prog X.w X.A.in1 g foot own Gn n Fn Sn ∧ Sn 0 z ∧ TruthOf X.prog X.w X.A.in1 Fn pb ∧ ∀ z', Moved own Gn z z' → ∃ H2, Tabbed P H1 H2 ∧ Inv X pins σ H2 z'
theorem gen_signs {X : Cx} {pins : List (Addr × Obj)} {σ : L2.St} {H : Hp} {s : Shared} {c P : Addr} {elt iter : Expr} {x : Str} {px gpos : Pos} {scope : Scope} {te : TE} {pb : Nat → Bool} {k : Nat} {Qg : Value → Shared → Prop}
    (hr : Room k X.A) (TB : TabB X.base X.mg c P) (hcode : X.env.code = .ref c) (S : GenS X.env scope x) (hi : PE X iter te) (look : LooksC X scope x elt pb) (hs : ∀ v, genFold iter X.env v = pure v) (I : Inv X pins σ H s)
    {R : VK} (h : te σ H R) (hR : ∀ v H1, R v H1 → ∃ a : Str, v = .str a ∧ TabG H1 P ∧ ∀ g z, Poised X pins σ H1 P a.cps.size (trF pb a.cps.toList) g z → Qg (.ref g) z) :
    wpAny (model X.prog X.w) X.A (eval (.GeneratorExp elt [⟨.Name x px, iter, [], 0⟩] scope gpos) X.env) Qg X.xe s := by
  refine wpAny_GeneratorExp_walksQD hr.hd S.co (closure_ok S.free) S.cell S.dot S.loc S.kind (by have := hr.dp; omega) ?_ hs
  refine thn (hi.run pins s σ H _ I h) fun u s1 ⟨v, H1, I1, rel, now⟩ => ?_
  obtain ⟨a, ev, ⟨ps, hP, tri⟩, fin⟩ := hR v H1 now
  subst ev
  obtain ⟨ta, rfl⟩ : ∃ ta, u = Value.str a ta := rel
  refine wpAny_pyIter_str fun ob0 St walk first => ?_
  have tabP : s1.heap.get? P = some { cls := .none, data := .fields ps } := I1.hok P _ hP
  have pushed : ∀ b o, s1.heap.get? b = some o → (s1.heap.push ob0).get? b = some o := fun b o e => Heap.get?_push_of_some _ e
  have wider : (s1.heap.push ob0).objs.size = s1.heap.objs.size + 1 := Heap.size_push ..
  generalize s1.heap.push ob0 = h2 at pushed first wider ⊢
  have pl : P < s1.heap.objs.size := Heap.lt_size tabP
  have cl : cStatics < s1.heap.objs.size := let ⟨_, hn, _⟩ := I1.nolimit; hn.lt
  have cP : cStatics ≠ P := fun e => by
    obtain ⟨_, ⟨o, es, ep, ho, hd, _⟩, _⟩ := I1.nolimit
    rw [e, tabP] at ho
    cases ho
    cases hd
  have lim2 : h2.NoLimit := I1.nolimit.keeps pushed
  refine ⟨lim2, thn (code_got (ps := ps) hcode (TB.code.keeps fun b o e => pushed b o (I1.bk b o e)) (pushed _ _ tabP) tri) fun code s3 got => ?_⟩
  obtain ⟨eq3, ext, wide, more, hP3, tri3⟩ := got
  obtain ⟨h3, g3, d3, t3, o3⟩ := s3
  obtain ⟨rfl, rfl, rfl⟩ : g3 = s1.gens ∧ d3 = s1.drawn ∧ o3 = s1.os := by
    have := eq3
    simp only [Shared.mk.injEq] at this
    exact ⟨this.2.1, this.2.2.1, this.2.2.2.2⟩
  replace ext : Heap.ExtBut P h2 h3 := ext
  replace wide : h2.objs.size ≤ h3.objs.size := wide
  have kept : ∀ b o, b ≠ P → s1.heap.get? b = some o → h3.get? b = some o := fun b o nb e => ext b o nb (pushed b o e)
  obtain ⟨bm, ob, b1, b2, b3, b4, b5, b6, b7, b8⟩ := TB.bm
  refine wpAny_builtinsFor (m := X.mg) (by rw [I1.ok.glob]; exact (I1.mod.glob.keeps fun b o e => pushed b o (I1.bk b o e)).extBut ext TB.gP) b1 b2 (kept _ _ b4 (I1.bk _ _ b5)) b6 b7 b8 ?_
  refine ⟨s1.heap.objs.size, [s1.heap.objs.size], [s1.heap.objs.size], a.cps.size, SignAt a, St, (fun _ => true), (fun i y => ∃ cc, a.cps[i]? = some cc ∧ y = .bool (pb cc)), rfl, walk, ?_, ?_, lim2.extBut ext cP, ?_, ?_, ?_⟩
  · refine (walk X.A hr.hd).frame _ _ _ first fun b hb u e => ext b u (fun z => ?_) e
    rw [List.mem_singleton.mp hb] at z
    exact Nat.ne_of_lt pl z.symm
  · intro b hb
    rw [List.mem_singleton.mp hb]
    show s1.heap.objs.size < h3.objs.size
    omega
  · intro z
    exact Nat.ne_of_lt cl (List.mem_singleton.mp z)
  · intro href above
    refine ⟨fun A' E' i v z mz _ _ _ _ _ _ _ => ?_, fun A' E' i v z mz _ dep _ pv _ nz mx up => ?_⟩
    · rw [List.forIn_nil]
      exact wpAny_pure ⟨rfl, GxR.keeps_refl z⟩
    · obtain ⟨cc, uc, at_, rfl⟩ := pv
      refine wpAny_mono (look _ A' E' cc uc z mz rfl I1.ok.glob (fun b o e => ?_) nz mx) (fun y z' r => ⟨⟨cc, at_, r.1⟩, r.2⟩) fun _ _ e => e
      have nb : b ≠ P := fun q => by
        have := (I1.bs b o e).2
        rw [q, hP] at this
        cases this
      have e1 := kept b o nb (I1.bk b o e)
      have bl := Heap.lt_size (I1.bk b o e)
      exact up b (List.mem_range.mpr (Heap.lt_size e1)) (fun q => Nat.ne_of_lt bl (List.mem_singleton.mp q)) o (above b o e1)
  · intro g h5 tk5 gs bare gt size5 kept5 W st0
    have many : (passing (fun _ => true) a.cps.size 0).length = a.cps.size := by rw [GxR.passing_true, List.length_range]
    rw [many] at W
    refine fin g _ ⟨_, _, _, _, _, W.in4_1, st0, fun j y z Qj Ej hy now => ?_, fun z' mv => ?_⟩
    · obtain ⟨i, hij, cc, hcc, rfl⟩ := hy
      rw [GxR.passing_true] at hij
      obtain ⟨lt, ij⟩ := List.getElem?_eq_some_iff.mp hij
      rw [List.getElem_range] at ij
      subst ij
      have now : Qj (trF pb a.cps.toList j) z := now
      rw [trF_some (b := cc) (by rw [Array.getElem?_toList]; exact hcc)] at now
      exact wpAny_truthy_bool now
    · have un : ∀ b o, s1.heap.get? b = some o → b ∉ h3.objs.size :: [s1.heap.objs.size] := fun b o e q => by
        have bl := Heap.lt_size e
        have past : s1.heap.objs.size < h3.objs.size := by omega
        have either : b = h3.objs.size ∨ b = s1.heap.objs.size := by simpa using q
        rcases either with q | q
        · exact Nat.ne_of_lt (Nat.lt_trans bl past) q
        · exact Nat.ne_of_lt bl q
      have J := inv_tab (more := more) (h' := z'.heap) (g' := z'.gens) (d' := z'.drawn) (t' := z'.toks) I1 hP (fun b o nb e => mv.heap b o (un b o e) (kept5 b o (kept b o nb e))) (mv.heap P _ (un P _ tabP) (kept5 P _ hP3)) (AllBare.movedS (I1.bare.push bare) mv)
      rw [sh_eta s1 z' mv.os] at J
      exact ⟨_, ⟨⟨_, upd_same, tri3⟩, fun b nb => upd_ne nb⟩, J⟩
theorem pe_allC {X : Cx} (K : PySem.W.Frag) (hK : X.K = K) {c P : Addr} {elt iter : Expr} {x : Str} {px p pos gpos : Pos} {scope : Scope} {te : TE} {pb : Nat → Bool} {k : Nat}
    (hr : Room k X.A) (hg : Gl X "all") (hm : X.mg "all" = none) (hb : bootBuiltins "all" = some (.builtin "all")) (TB : TabB X.base X.mg c P) (hcode : X.env.code = .ref c) (S : GenS X.env scope x) (hi : PE X iter te) (look : L2.Mod X.K X.mg X.base → LooksC X scope x elt pb)
    (hs : ∀ v, genFold iter X.env v = pure v) (he : starEach [.GeneratorExp elt [⟨.Name x px, iter, [], 0⟩] scope gpos] X.env = (false, eval (.GeneratorExp elt [⟨.Name x px, iter, [], 0⟩] scope gpos) X.env) :: starEach [] X.env := by rfl) :
    PE X (.Call (.Name "all" p) [.GeneratorExp elt [⟨.Name x px, iter, [], 0⟩] scope gpos] [] pos) (tAllS P pb te) := by
  subst hK
  refine ⟨fun pins s σ H Q I h => ?_⟩
  refine wpAny_Call_Name_kw (ld_blt I hg hm hb (PyProof.Rows.callWith_builtin1 ?_ he rfl))
  rw [he]
  refine Calls.spliced_cons (gen_signs hr TB hcode S hi (look I.mod) hs I h fun v H1 now => ?_)
  obtain ⟨a, rfl, tab, fin⟩ := now
  refine ⟨a, rfl, tab, fun g z poised => Calls.spliced_nil ?_⟩
  obtain ⟨fp, wr, G, F, St, walks, st0, truth, after⟩ := poised
  refine call_all_walkS (walks.self 0 _ _ _ st0 ⟨g, fp, wr, G, _, F, St, _, rfl, walks, st0, truth, fun z' mv => ?_⟩)
  obtain ⟨H2, tb, J⟩ := after z' mv
  refine ⟨.bl _, H2, J, rfl, ?_⟩
  rw [all_signs a pb]
  exact fin H2 tb
/-- a def of which the code object is known -/
theorem genS_of {env : Env} {scope : Scope} {x : Str} (h1 : scope.kind = .function) (h2 : scope.isCoroutine = false) (h3 : ∀ y ∈ scope.names, y.2 ≠ .cell) (h4 : scope.names.lookup (".0" : Str) = some NameKind.local) (h5 : scope.names.lookup x = some .local) (h6 : ∀ y ∈ scope.names, y.2 ≠ .free) : GxR.GenS env scope x :=
  ⟨h1, h2, h3, h4, h5, fun y hy z => absurd z (h6 y hy)⟩
end

open PySem.NumText
def isFig (c : Nat) : Bool := decide (c ∈ figS.cps.toList)
theorem figs_eq : figS.cps.toList = [48, 49, 50, 51, 52, 53, 54, 55, 56, 57] := by decide +kernel
theorem isFig_iff {c : Nat} : isFig c = true ↔ 48 ≤ c ∧ c ≤ 57 := by
  unfold isFig
  rw [figs_eq, decide_eq_true_iff]
  constructor
  · intro h
    simp only [List.mem_cons, List.not_mem_nil, or_false] at h
    omega
  · intro h
    simp only [List.mem_cons, List.not_mem_nil, or_false]
    omega
/-- what stands behind a minus at the front -/
def figL (l : List Nat) : List Nat := if l.head? = some 45 then l.tail else l
/-- the number that a text writes -/
def numO (l : List Nat) : Option Int :=
  if (figL l).length < 1 ∨ 9 < (figL l).length then none
  else if (figL l).all isFig = false then none
  else if (figL l).head? = some 48 ∧ l ≠ [48] then none
  else some ((if l.head? = some 45 then -1 else 1) * ((digitsVal (figL l) : Nat) : Int))
def numV : Option Int → V
  | none => .non
  | some n => .int n
theorem str_inj {a b : Str} (h : a.cps.toList = b.cps.toList) : a = b := by
  cases a; cases b
  exact congrArg _ (Array.toList_inj.mp h)
theorem prefix_minus (a : Str) : (Txt.removeprefix a "-").cps.toList = figL a.cps.toList := by
  rw [PySem.StrLaws.removeprefix_eq]
  obtain ⟨arr⟩ := a
  obtain ⟨l⟩ := arr
  have e1 : (("-" : Str) : Str) = ⟨#[45]⟩ := by decide +kernel
  rw [e1]
  cases l with
  | nil => rfl
  | cons c r =>
    have el : Str.length ⟨#[45]⟩ = 1 := rfl
    have es : Str.length ⟨(c :: r).toArray⟩ = r.length + 1 := rfl
    have eb : Builtin.Str.subAt ⟨(c :: r).toArray⟩ ⟨#[45]⟩ 0 = decide (c = 45) := by
      unfold Builtin.Str.subAt
      by_cases h : c = 45
      · subst h
        simp [Str.length]
      · rw [decide_eq_false h]
        simp [Str.length, h]
    rw [eb, el, es]
    by_cases h : c = 45
    · subst h
      simp [figL]
    · simp [figL, h]
theorem fig_digits {l : List Nat} (h : l.all isFig = true) : AllDigits l := fun c hc => isFig_iff.mp (List.all_eq_true.mp h c hc)
theorem numO_some {l : List Nat} {n : Int} (h : numO l = some n) : (figL l).length ≤ 9 ∧ figL l ≠ [] ∧ AllDigits (figL l) ∧ n = (if l.head? = some 45 then -1 else 1) * ((digitsVal (figL l) : Nat) : Int) := by
  unfold numO at h
  by_cases h1 : (figL l).length < 1 ∨ 9 < (figL l).length
  · rw [if_pos h1] at h; cases h
  rw [if_neg h1] at h
  by_cases h2 : (figL l).all isFig = false
  · rw [if_pos h2] at h; cases h
  rw [if_neg h2] at h
  by_cases h3 : (figL l).head? = some 48 ∧ l ≠ [48]
  · rw [if_pos h3] at h; cases h
  rw [if_neg h3] at h
  refine ⟨by omega, fun z => ?_, fig_digits (by simpa using h2), (Option.some.inj h).symm⟩
  rw [z] at h1
  exact h1 (.inl (by decide))
theorem int_reads {a : Str} {n : Int} (h : numO a.cps.toList = some n) : PySem.intText? a = some n := by
  obtain ⟨l1, l2, l3, rfl⟩ := numO_some h
  have la : a.cps.toList.length = a.length := Array.length_toList
  by_cases hd : a.cps.toList.head? = some 45
  · have ef : figL a.cps.toList = a.cps.toList.tail := if_pos hd
    have ec : a.cps.toList = 45 :: figL a.cps.toList := by
      rw [ef]
      cases hl : a.cps.toList with
      | nil => rw [hl] at hd; cases hd
      | cons c r =>
        rw [hl] at hd
        have : c = 45 := Option.some.inj hd
        rw [this]; rfl
    have e := intText_neg ec l3 l2 (by rw [← la, ec, List.length_cons]; omega)
    rw [e, if_pos hd]
    congr 1
    omega
  · have ef : figL a.cps.toList = a.cps.toList := if_neg hd
    rw [ef] at l1 l2 l3
    have e := intText_digits l3 l2 (by rw [← la]; omega)
    rw [e, if_neg hd, ef]
    congr 1
    omega
/-- text[:1] == "-" -/
theorem cut_head (a : Str) : decide (V.str (cutS a none (some 1)) = V.str "-") = decide (a.cps.toList.head? = some 45) := by
  have e1 : (("-" : Str) : Str) = ⟨#[45]⟩ := by decide +kernel
  rw [e1]
  obtain ⟨arr⟩ := a
  obtain ⟨l⟩ := arr
  cases l with
  | nil => decide
  | cons c r =>
    have e2 : cutS ⟨(c :: r).toArray⟩ none (some 1) = ⟨#[c]⟩ := by
      refine str_inj ?_
      show (((c :: r).drop 0).take (HT.sIx (r.length + 1) (r.length + 1) (some ((1 : Nat) : Int)) - HT.sIx (r.length + 1) 0 none)) = [c]
      rw [HT.sIx_none, HT.sIx_nat]
      have : min 1 (r.length + 1) - 0 = 1 := by omega
      rw [this]
      rfl
    rw [e2]
    by_cases h : c = 45
    · subst h; rfl
    · rw [decide_eq_false (fun z : (c :: r).head? = some 45 => h (Option.some.inj z)), decide_eq_false]
      intro z
      have z := V.str.inj z
      injection z with z
      have z2 : [c] = [45] := congrArg Array.toList z
      exact h (List.cons.inj z2).1
theorem cut_tail (a : Str) : (cutS a (some 1) none).cps.toList = a.cps.toList.tail := by
  obtain ⟨arr⟩ := a
  obtain ⟨l⟩ := arr
  cases l with
  | nil => rfl
  | cons c r =>
    show (((c :: r).drop (HT.sIx (r.length + 1) 0 (some ((1 : Nat) : Int)))).take (HT.sIx (r.length + 1) (r.length + 1) none - HT.sIx (r.length + 1) 0 (some ((1 : Nat) : Int)))) = r
    rw [HT.sIx_none, HT.sIx_nat]
    have : min 1 (r.length + 1) = 1 := by omega
    rw [this]
    show r.take (r.length + 1 - 1) = r
    rw [Nat.add_sub_cancel, List.take_length]
/-- a number written is read back -/
theorem toDig_head : ∀ m : Nat, 0 < m → (Nat.toDigits 10 m).head? ≠ some '0' := by
  intro m
  induction m using Nat.strongRecOn with
  | _ m ih =>
    intro h0
    by_cases h : m < 10
    · rw [Nat.toDigits_of_lt_base h]
      have : m = 1 ∨ m = 2 ∨ m = 3 ∨ m = 4 ∨ m = 5 ∨ m = 6 ∨ m = 7 ∨ m = 8 ∨ m = 9 := by omega
      rcases this with rfl | rfl | rfl | rfl | rfl | rfl | rfl | rfl | rfl <;> decide
    · have hm : m % 10 < 10 := Nat.mod_lt m (by decide)
      have t : Nat.toDigits 10 (m / 10) ++ Nat.toDigits 10 (m % 10) = Nat.toDigits 10 (10 * (m / 10) + m % 10) := Nat.toDigits_append_toDigits (by decide) (by omega) hm
      rw [Nat.div_add_mod] at t
      have q := ih (m / 10) (by omega) (by omega)
      rw [← t]
      cases hd : Nat.toDigits 10 (m / 10) with
      | nil =>
        have := PySem.W.KIN.val_back (m / 10)
        rw [hd] at this
        have : 0 = m / 10 := this
        omega
      | cons c r => rw [hd] at q; exact q
theorem toDig_len : ∀ (k m : Nat), m < 10 ^ (k + 1) → (Nat.toDigits 10 m).length ≤ k + 1
  | 0, m, h => by
    rw [Nat.toDigits_of_lt_base (by simpa using h)]
    exact Nat.le_refl _
  | k + 1, m, h => by
    by_cases h2 : m < 10
    · rw [Nat.toDigits_of_lt_base h2]
      show 1 ≤ _
      omega
    · have hm : m % 10 < 10 := Nat.mod_lt m (by decide)
      have t : Nat.toDigits 10 (m / 10) ++ Nat.toDigits 10 (m % 10) = Nat.toDigits 10 (10 * (m / 10) + m % 10) := Nat.toDigits_append_toDigits (by decide) (by omega) hm
      rw [Nat.div_add_mod] at t
      have q := toDig_len k (m / 10) (by rw [Nat.pow_succ] at h; omega)
      rw [← t, List.length_append, Nat.toDigits_of_lt_base hm]
      show _ + 1 ≤ _
      omega
theorem toDig_ne (m : Nat) : Nat.toDigits 10 m ≠ [] := by
  by_cases h : m < 10
  · rw [Nat.toDigits_of_lt_base h]; exact List.cons_ne_nil _ _
  · intro e
    have := PySem.W.KIN.val_back m
    rw [e] at this
    have : 0 = m := this
    omega
theorem dig_fig {m c : Nat} (h : c ∈ (Nat.toDigits 10 m).map Char.toNat) : 48 ≤ c ∧ c ≤ 57 := by
  obtain ⟨ch, hch, e⟩ := List.mem_map.mp h
  have r := digit_range (Nat.isDigit_of_mem_toDigits (by decide) (by decide) hch)
  rw [← e]
  exact r
/-- the figures of m -/
def digN (m : Nat) : List Nat := (Nat.toDigits 10 m).map Char.toNat
theorem digN_zero : digN 0 = [48] := by decide
theorem digN_head {m : Nat} (h : 0 < m) : (digN m).head? ≠ some 48 := by
  unfold digN
  have q := toDig_head m h
  cases hd : Nat.toDigits 10 m with
  | nil => intro z; cases z
  | cons c r =>
    rw [hd] at q
    intro z
    have z : c.toNat = 48 := Option.some.inj z
    refine q (congrArg some (Char.ext ?_))
    exact UInt32.toNat_inj.mp z
theorem head_mem {l : List Nat} {c : Nat} (h : l.head? = some c) : c ∈ l := by
  cases l with
  | nil => cases h
  | cons d r => rw [← Option.some.inj h]; exact List.mem_cons_self ..
theorem digN_45 (m : Nat) : (digN m).head? ≠ some 45 := fun z => by
  have := dig_fig (m := m) (head_mem z)
  omega
theorem digN_all (m : Nat) : (digN m).all isFig = true := List.all_eq_true.mpr fun c hc => isFig_iff.mpr (dig_fig (m := m) hc)
theorem num_pos {m : Nat} (h : m < 10 ^ 9) : numO (digN m) = some (m : Int) := by
  have ef : figL (digN m) = digN m := if_neg (digN_45 m)
  have l1 : (digN m).length ≤ 9 := by unfold digN; rw [List.length_map]; exact toDig_len 8 m h
  have l2 : 0 < (digN m).length := by unfold digN; rw [List.length_map]; exact List.length_pos_iff.mpr (toDig_ne m)
  unfold numO
  rw [ef, if_neg (by omega), if_neg (by rw [digN_all]; exact Bool.noConfusion), if_neg, if_neg (digN_45 m)]
  · have : digitsVal (digN m) = m := PySem.W.KIN.val_back m
    rw [this]
    congr 1
    omega
  · rintro ⟨z1, z2⟩
    by_cases h0 : m = 0
    · rw [h0] at z2; exact z2 digN_zero
    · exact digN_head (by omega) z1
theorem num_neg {m : Nat} (h0 : 0 < m) (h : m < 10 ^ 9) : numO (45 :: digN m) = some (-(m : Int)) := by
  have ef : figL (45 :: digN m) = digN m := if_pos rfl
  have l1 : (digN m).length ≤ 9 := by unfold digN; rw [List.length_map]; exact toDig_len 8 m h
  have l2 : 0 < (digN m).length := by unfold digN; rw [List.length_map]; exact List.length_pos_iff.mpr (toDig_ne m)
  unfold numO
  rw [ef, if_neg (by omega), if_neg (by rw [digN_all]; exact Bool.noConfusion), if_neg]
  · have : digitsVal (digN m) = m := PySem.W.KIN.val_back m
    rw [if_pos (show (45 :: digN m).head? = some 45 from rfl), this]
    congr 1
    omega
  · rintro ⟨z1, z2⟩
    exact digN_head h0 z1
theorem str_pos (m : Nat) : (Str.ofString (toString ((m : Nat) : Int))).cps.toList = digN m := PySem.W.KIN.signs_num m
theorem str_neg {m : Nat} (h : 0 < m) : (Str.ofString (toString (-(m : Int)))).cps.toList = 45 :: digN m := by
  obtain ⟨k, rfl⟩ : ∃ k, m = k + 1 := ⟨m - 1, by omega⟩
  rw [signs_ofString]
  show (("-" ++ Nat.repr (k + 1) : String)).toList.map Char.toNat = _
  rw [String.toList_append, List.map_append, Nat.toList_repr]
  rfl
/-! ### texts as lists of signs: parted and put together -/
def splitL (c : Nat) : List Nat → List (List Nat)
  | [] => [[]]
  | d :: l => if d = c then [] :: splitL c l else
    match splitL c l with
    | [] => [[d]]
    | p :: r => (d :: p) :: r
def joinL (c : Nat) : List (List Nat) → List Nat
  | [] => []
  | [p] => p
  | p :: q :: r => p ++ c :: joinL c (q :: r)
theorem splitL_ne (c : Nat) (l : List Nat) : splitL c l ≠ [] := by
  cases l with
  | nil => exact List.cons_ne_nil _ _
  | cons d l =>
    unfold splitL
    split
    · exact List.cons_ne_nil _ _
    · split <;> exact List.cons_ne_nil _ _
theorem splitL_cons {c d : Nat} {l : List Nat} (h : d ≠ c) : ∃ p r, splitL c l = p :: r ∧ splitL c (d :: l) = (d :: p) :: r := by
  cases e : splitL c l with
  | nil => exact absurd e (splitL_ne c l)
  | cons p r =>
    refine ⟨p, r, rfl, ?_⟩
    show (if d = c then _ else _) = _
    rw [if_neg h, e]
theorem joinL_split (c : Nat) : ∀ l : List Nat, joinL c (splitL c l) = l
  | [] => rfl
  | d :: l => by
    have ih := joinL_split c l
    by_cases h : d = c
    · subst h
      show joinL d (if d = d then [] :: splitL d l else _) = _
      rw [if_pos rfl]
      cases e : splitL d l with
      | nil => exact absurd e (splitL_ne d l)
      | cons p r =>
        rw [e] at ih
        show [] ++ d :: joinL d (p :: r) = d :: l
        rw [ih]; rfl
    · obtain ⟨p, r, e1, e2⟩ := splitL_cons (l := l) h
      rw [e2]
      rw [e1] at ih
      cases r with
      | nil =>
        show d :: p = d :: l
        rw [show p = l from ih]
      | cons q r =>
        show d :: p ++ c :: joinL c (q :: r) = d :: l
        have ih : p ++ c :: joinL c (q :: r) = l := ih
        rw [← ih]; rfl
theorem splitL_join {c : Nat} : ∀ {ps : List (List Nat)}, ps ≠ [] → (∀ p ∈ ps, c ∉ p) → splitL c (joinL c ps) = ps
  | [], h, _ => absurd rfl h
  | [p], _, g => by
    have key : ∀ p : List Nat, c ∉ p → splitL c p = [p] := fun p => by
      induction p with
      | nil => intro _; rfl
      | cons d p ih =>
        intro h
        obtain ⟨q, r, e1, e2⟩ := splitL_cons (c := c) (d := d) (l := p) (fun z => h (by rw [z]; exact List.mem_cons_self ..))
        rw [ih fun z => h (List.mem_cons_of_mem _ z)] at e1
        rw [e2]
        obtain ⟨rfl, rfl⟩ : p = q ∧ [] = r := ⟨(List.cons.inj e1).1, (List.cons.inj e1).2⟩
        rfl
    exact key p (g p (List.mem_cons_self ..))
  | p :: q :: r, _, g => by
    have ih := splitL_join (c := c) (ps := q :: r) (List.cons_ne_nil _ _) fun x hx => g x (List.mem_cons_of_mem _ hx)
    have key : ∀ p : List Nat, c ∉ p → splitL c (p ++ c :: joinL c (q :: r)) = p :: q :: r := fun p => by
      induction p with
      | nil =>
        intro _
        show (if c = c then [] :: splitL c _ else _) = _
        rw [if_pos rfl, ih]
      | cons d p ih2 =>
        intro h
        obtain ⟨x, y, e1, e2⟩ := splitL_cons (c := c) (d := d) (l := p ++ c :: joinL c (q :: r)) (fun z => h (by rw [z]; exact List.mem_cons_self ..))
        rw [ih2 fun z => h (List.mem_cons_of_mem _ z)] at e1
        show splitL c (d :: (p ++ _)) = _
        rw [e2]
        obtain ⟨rfl, rfl⟩ : p = x ∧ q :: r = y := ⟨(List.cons.inj e1).1, (List.cons.inj e1).2⟩
        rfl
    exact key p (g p (List.mem_cons_self ..))
theorem splitL_no {c : Nat} : ∀ {l : List Nat}, ∀ p ∈ splitL c l, c ∉ p
  | [], p, hp => by
    obtain rfl := List.mem_singleton.mp hp
    exact List.not_mem_nil
  | d :: l, p, hp => by
    by_cases h : d = c
    · have e : splitL c (d :: l) = [] :: splitL c l := if_pos h
      rw [e] at hp
      rcases List.mem_cons.mp hp with rfl | hp
      · exact List.not_mem_nil
      · exact splitL_no p hp
    · obtain ⟨x, y, e1, e2⟩ := splitL_cons (l := l) h
      rw [e2] at hp
      rcases List.mem_cons.mp hp with rfl | hp
      · intro z
        rcases List.mem_cons.mp z with z | z
        · exact h z.symm
        · exact splitL_no x (by rw [e1]; exact List.mem_cons_self ..) z
      · exact splitL_no p (by rw [e1]; exact List.mem_cons_of_mem _ hp)
/-! ### the model's split and join of one sign -/
section
open PySem.StrLaws PySem.Builtin PySem.Builtin.Str
theorem occ_all {x : PySem.Str} {c hi limit : Nat} : ∀ (n lo : Nat) (acc : Array Nat) (f : Nat), f ≤ lo → acc.size + n ≤ limit →
    (forIn (List.range' lo n) (acc, f) (occBody x ⟨#[c]⟩ hi limit)).run.fst.toList = acc.toList ++ (List.range' lo n).filter fun i => decide (i + 1 ≤ hi) && subAt x ⟨#[c]⟩ i
  | 0, _, acc, _, _, _ => by
    show acc.toList = acc.toList ++ []
    rw [List.append_nil]
  | n + 1, lo, acc, f, hf, hl => by
    rw [List.range'_succ, List.forIn_cons, List.filter_cons]
    unfold occBody
    by_cases h : lo + 1 ≤ hi ∧ subAt x ⟨#[c]⟩ lo = true
    · have a : ((acc.size < limit ∧ f ≤ lo) ∧ lo + PySem.Str.length ⟨#[c]⟩ ≤ hi) ∧ subAt x ⟨#[c]⟩ lo = true := ⟨⟨⟨by omega, hf⟩, h.1⟩, h.2⟩
      rw [if_pos a, if_pos (by rw [Bool.and_eq_true]; exact ⟨decide_eq_true h.1, h.2⟩)]
      have ih := occ_all (x := x) (c := c) (hi := hi) (limit := limit) n (lo + 1) (acc.push lo) (lo + 1) (Nat.le_refl _) (by rw [Array.size_push]; omega)
      refine Eq.trans ih ?_
      rw [Array.toList_push, List.append_assoc]; rfl
    · have a : ¬ (((acc.size < limit ∧ f ≤ lo) ∧ lo + PySem.Str.length ⟨#[c]⟩ ≤ hi) ∧ subAt x ⟨#[c]⟩ lo = true) := fun z => h ⟨z.1.2, z.2⟩
      rw [if_neg a, if_neg (by rw [Bool.and_eq_true]; exact fun z => h ⟨of_decide_eq_true z.1, z.2⟩)]
      exact occ_all (x := x) (c := c) (hi := hi) (limit := limit) n (lo + 1) acc f (by omega) (by omega)
theorem sub_one {x : PySem.Str} {c i : Nat} (h : i < x.cps.toList.length) : subAt x ⟨#[c]⟩ i = decide (x.cps.toList[i]? = some c) := by
  rw [subAt_eq]
  have e : (x.cps.toList.drop i).take (PySem.Str.length ⟨#[c]⟩) = [x.cps.toList[i]] := by
    rw [List.drop_eq_getElem_cons h]; rfl
  rw [e, List.getElem?_eq_getElem h]
  show ([x.cps.toList[i]] == [c]) = _
  by_cases z : x.cps.toList[i] = c
  · rw [z, decide_eq_true rfl]; exact beq_self_eq_true _
  · rw [decide_eq_false (fun y => z (Option.some.inj y))]
    exact beq_eq_false_iff_ne.mpr fun y => z (List.cons.inj y).1
theorem strlen (x : PySem.Str) : x.length = x.cps.toList.length := by simp [PySem.Str.length]
/-- from a cut on: the pieces of the rest -/
theorem parts_rest {x : PySem.Str} {c : Nat} : ∀ (n a s : Nat), s ≤ a → a + n = x.cps.toList.length →
    ∃ p r, splitL c (x.cps.toList.drop a) = p :: r ∧
      (partsFrom x 1 s ((List.range' a (n + 1)).filter fun i => decide (i + 1 ≤ x.length) && subAt x ⟨#[c]⟩ i)).map (fun z => z.cps.toList) = ((x.cps.toList.drop s).take (a - s) ++ p) :: r
  | 0, a, s, hs, hn => by
    have e : (List.range' a (0 + 1)).filter (fun i => decide (i + 1 ≤ x.length) && subAt x ⟨#[c]⟩ i) = [] := by
      rw [List.range'_succ, List.filter_cons, if_neg (by rw [strlen, decide_eq_false (by omega), Bool.false_and]; decide)]; rfl
    rw [e]
    have d0 : x.cps.toList.drop a = [] := List.drop_eq_nil_of_le (by omega)
    refine ⟨[], [], by rw [d0]; rfl, ?_⟩
    show [(strSub x s x.length).cps.toList] = _
    rw [strSub_toList, strlen, List.append_nil, show x.cps.toList.length - s = a - s by omega]
  | n + 1, a, s, hs, hn => by
    have al : a < x.cps.toList.length := by omega
    have dc : x.cps.toList.drop a = x.cps.toList[a] :: x.cps.toList.drop (a + 1) := List.drop_eq_getElem_cons al
    rw [List.range'_succ, List.filter_cons, sub_one al, List.getElem?_eq_getElem al, dc]
    by_cases h : x.cps.toList[a] = c
    · rw [if_pos (by rw [strlen, decide_eq_true (by omega), decide_eq_true (congrArg some h)]; rfl)]
      obtain ⟨p, r, e1, e2⟩ := parts_rest (x := x) (c := c) n (a + 1) (a + 1) (Nat.le_refl _) (by omega)
      refine ⟨[], p :: r, ?_, ?_⟩
      · show (if _ = c then [] :: splitL c _ else _) = _
        rw [if_pos h, e1]
      · show (strSub x s a).cps.toList :: (partsFrom x 1 (a + 1) _).map _ = _
        rw [e2, strSub_toList, Nat.sub_self, List.take_zero, List.nil_append, List.append_nil]
    · rw [if_neg (by rw [decide_eq_false (fun y => h (Option.some.inj y)), Bool.and_false]; decide)]
      obtain ⟨p, r, e1, e2⟩ := parts_rest (x := x) (c := c) n (a + 1) s (by omega) (by omega)
      obtain ⟨p', r', f1, f2⟩ := splitL_cons (c := c) (d := x.cps.toList[a]) (l := x.cps.toList.drop (a + 1)) h
      rw [e1] at f1
      obtain ⟨rfl, rfl⟩ : p = p' ∧ r = r' := ⟨(List.cons.inj f1).1, (List.cons.inj f1).2⟩
      refine ⟨_, _, f2, ?_⟩
      rw [e2]
      have t : (x.cps.toList.drop s).take (a + 1 - s) = (x.cps.toList.drop s).take (a - s) ++ [x.cps.toList[a]] := by
        rw [show a + 1 - s = (a - s) + 1 by omega, List.take_add_one, List.getElem?_drop, show s + (a - s) = a by omega, List.getElem?_eq_getElem al]; rfl
      rw [t, List.append_assoc]; rfl
theorem split_one (x : PySem.Str) {c : Nat} (hc : c < 256) : (PySem.Txt.split x ⟨#[c]⟩).map (fun z => z.cps.toList) = splitL c x.cps.toList := by
  unfold PySem.Txt.split
  have k : ¬ PySem.Builtin.Str.strKind x < PySem.Builtin.Str.strKind ⟨#[c]⟩ := by
    have e : PySem.Builtin.Str.strKind (⟨#[c]⟩ : PySem.Str) = 1 := by unfold PySem.Builtin.Str.strKind; simp [hc]
    rw [e]
    unfold PySem.Builtin.Str.strKind
    split
    · omega
    · split <;> omega
  by_cases e : x.length < PySem.Str.length ⟨#[c]⟩
  · rw [if_pos (by rw [decide_eq_true e]; rfl)]
    have z : x.cps.toList = [] := List.eq_nil_of_length_eq_zero (by rw [← strlen]; exact Nat.lt_one_iff.mp e)
    show [x.cps.toList] = _
    rw [z]; rfl
  · rw [if_neg (by rw [decide_eq_false e, decide_eq_false k]; decide)]
    have o : occurrences x ⟨#[c]⟩ 0 x.length (x.length + 1) = (List.range' 0 (x.length + 1)).filter fun i => decide (i + 1 ≤ x.length) && subAt x ⟨#[c]⟩ i := by
      rw [occ_eq, occ_all _ _ _ _ (Nat.le_refl _) (by show 0 + _ ≤ _; omega)]; rfl
    rw [o]
    obtain ⟨p, r, e1, e2⟩ := parts_rest (x := x) (c := c) x.length 0 0 (Nat.le_refl _) (by rw [strlen]; omega)
    rw [List.drop_zero, Nat.sub_self, List.take_zero, List.nil_append] at e2
    rw [List.drop_zero] at e1
    rw [e1]
    split
    · rename_i z
      have z : (List.range' 0 (x.length + 1)).filter (fun i => decide (i + 1 ≤ x.length) && subAt x ⟨#[c]⟩ i) = [] := List.isEmpty_iff.mp z
      rw [z] at e2
      have e2 : [(strSub x 0 x.length).cps.toList] = p :: r := e2
      rw [sub_whole] at e2
      exact e2
    · rw [partsBetween_eq]; exact e2
theorem glue_go {c : Nat} : ∀ (ps : List PySem.Str) (acc : Array Nat), (ps.foldl (fun acc p => acc ++ (⟨#[c]⟩ : PySem.Str).cps ++ p.cps) acc).toList = acc.toList ++ (ps.map fun p => c :: p.cps.toList).flatten
  | [], acc => by
    show acc.toList = acc.toList ++ []
    rw [List.append_nil]
  | p :: ps, acc => by
    rw [List.foldl_cons, glue_go ps]
    show (acc ++ #[c] ++ p.cps).toList ++ _ = acc.toList ++ (c :: p.cps.toList ++ _)
    rw [Array.toList_append, Array.toList_append, List.append_assoc, List.append_assoc]; rfl
theorem joinL_flat {c : Nat} : ∀ (p : List Nat) (ps : List (List Nat)), joinL c (p :: ps) = p ++ (ps.map fun p => c :: p).flatten
  | p, [] => (List.append_nil p).symm
  | p, q :: ps => by
    show p ++ c :: joinL c (q :: ps) = p ++ (c :: q ++ (ps.map _).flatten)
    rw [joinL_flat q ps]; rfl
theorem join_one (ps : List PySem.Str) (c : Nat) : (PySem.Txt.join ⟨#[c]⟩ ps).cps.toList = joinL c (ps.map fun z => z.cps.toList) := by
  show ((ps.drop 1).foldl _ (ps.headD PySem.Str.empty).cps).toList = _
  cases ps with
  | nil => rfl
  | cons p ps =>
    show ((ps.foldl _ p.cps).toList) = joinL c (p.cps.toList :: ps.map _)
    rw [glue_go, joinL_flat, List.map_map]; rfl
end
section
variable {P : Program} {w : World} {K : PySem.W.Frag} {mg : Str → Option Value} {base : Heap}
class TabN (K : PySem.W.Frag) (mg : Str → Option Value) (base : Heap) (cN : outParam Addr) (PT : outParam (Addr × Addr × Addr)) : Prop where
  tb : GxR.TabB base mg cN PT.2.2
  cd : ∀ (f : Addr) (fd : FuncData), Fun K "number_of" "number_of" s_number_of f fd → mg "number_of" = some (.ref f) → fd.code = .ref cN
section
variable {cN : Addr} {PT : Addr × Addr × Addr} [TN : TabN K mg base cN PT]
include TN
def sp_number_of (K : PySem.W.Frag) (PT : Addr × Addr × Addr) : Sp := fun vs H Q _ => ∃ a : Str, vs = [.str a] ∧ a.length ≤ 1000 ∧ Tb2 PT H ∧ ∀ H', LamX.ExtN H H' → Tb2 PT H' → Q (numV (numO a.cps.toList)) H'
theorem ok_number_of {f : Addr} {fd : FuncData} (F : Fun K "number_of" "number_of" s_number_of f fd) (hcd : fd.code = .ref cN) (T : Top w K mg) : FnOk P w K mg base CX0 2 f fd ["text"] (sp_number_of K PT) := by
  refine ok_code F hcd sc_number_of (fun vs H Q E h => ?_) (fun A outer s H vs Q E hr h => ?_)
  · obtain ⟨a, rfl, _⟩ := h
    rfl
  obtain ⟨a, rfl, la, tg, q⟩ := h
  obtain ⟨tF, mF⟩ := T.x_fig
  obtain ⟨tA, mA⟩ := T.x_num
  have pm := prefix_minus a
  refine ⟨_, (pss_cons (ps_set (i := 1) sc_number_of.nd rfl (Or.inl rfl) (pe_bmK K rfl PySem.F.plainAttrs_str PySem.F.slot_str_removeprefix PySem.F.type_str_removeprefix mt_removeprefix (pv 0) (pa_cons pe_str pa_nil)))
      (pss_cons (ps_if (PW.pt (pw_or (pt_cmpR op_lt (pe_callB call_len_str (by rfl) T.m_len (by decide +kernel) (pa_cons (pv 1) pa_nil)) pe_int (nomark _)) (pw_or1 (pt_cmpR op_gt (pe_callB call_len_str (by rfl) T.m_len (by decide +kernel) (pa_cons (pv 1) pa_nil)) (pe_glob (v := .int 9) (by rfl) mF ⟨_, rfl⟩) (nomark _))))) (pss_one (ps_ret pe_non)) pss_nil)
      (pss_cons (ps_if (pt_not (pt_val (pe_allC K rfl hr (by rfl) T.m_all (by decide +kernel) TN.tb rfl (genS_of rfl rfl (by decide +kernel) rfl rfl (by decide +kernel)) (pv 1) (fun M => in_elt M rfl rfl rfl (by decide) (by decide) mA) (fun _ => rfl)))) (pss_one (ps_ret pe_non)) pss_nil)
      (pss_cons (ps_if (PW.pt (pw_and (pt_cmpR op_eq (pe_ix ix_str (pv 1) pe_int (fun _ _ => rfl)) pe_str (nomark _)) (pw_and1 (pt_cmpR op_ne (pv 0) pe_str (nomark _))))) (pss_one (ps_ret pe_non)) pss_nil)
      (pss_one (ps_ret (pe_callTy call_int_str (by rfl) T.m_int (by decide +kernel) (pa_cons (pv 0) pa_nil)))))))), ?_⟩
  have sl : a.length ≤ sizeLine := little (by omega)
  refine ⟨_, rfl, rfl, _, _, rfl, rfl, sl, ?_⟩
  generalize Txt.removeprefix a "-" = b at pm ⊢
  have lb : b.length = (figL a.cps.toList).length := by rw [← pm]; exact Array.length_toList.symm
  have la2 : a.cps.toList.length = a.length := Array.length_toList
  have lf : (figL a.cps.toList).length ≤ a.cps.toList.length := by
    unfold figL
    split
    · rw [List.length_tail]; omega
    · exact Nat.le_refl _
  have lf2 : a.cps.toList.length ≤ (figL a.cps.toList).length + 1 := by
    unfold figL
    split
    · rw [List.length_tail]; omega
    · omega
  have sb : b.length ≤ sizeLine := little (by omega)
  unfold numO at q
  refine ⟨_, rfl, _, rfl, sb, _, _, rfl, rfl, _, rfl, if_bl (fun c1 => ?_) (fun c1 => ?_)⟩
  · have c1 := of_decide_eq_true c1
    have q := q H (LamX.ExtN.refl H) tg
    rw [if_pos (.inl (by omega))] at q
    exact q
  have c1 := of_decide_eq_false c1
  refine ⟨_, rfl, _, rfl, sb, _, _, rfl, rfl, _, rfl, if_bl (fun c2 => ?_) (fun c2 => ?_)⟩
  · have c2 := of_decide_eq_true c2
    have q := q H (LamX.ExtN.refl H) tg
    rw [if_pos (.inr (by omega))] at q
    exact q
  have c2 := of_decide_eq_false c2
  have n1 : ¬ ((figL a.cps.toList).length < 1 ∨ 9 < (figL a.cps.toList).length) := by omega
  refine ⟨_, rfl, _, rfl, tg.2.2, fun H2 tb => ?_⟩
  have q := q H2 (tabbed_ext tg.2.2 tb) (tg.any tb)
  have tg2 := tg.any tb
  rw [if_neg n1] at q
  refine ⟨_, rfl, ?_⟩
  show (if (!(b.cps.toList.all isFig)) = true then _ else _)
  rw [pm]
  cases c3 : (figL a.cps.toList).all isFig with
  | false =>
    rw [if_pos c3] at q
    exact q
  | true =>
    rw [if_neg (by rw [c3]; exact Bool.noConfusion)] at q
    have e48 : ("0" : Str) = ⟨#[48]⟩ := by decide +kernel
    obtain ⟨c0, r0, ec⟩ : ∃ c0 r0, figL a.cps.toList = c0 :: r0 := by
      cases hl : figL a.cps.toList with
      | nil => rw [hl] at n1; exact absurd (.inl (by decide)) n1
      | cons c r => exact ⟨c, r, rfl⟩
    have at0 : atI b.cps.toList ((0 : Nat) : Int) = some c0 := atI_nat (by rw [pm, ec]; rfl)
    have d1 : decide (V.str ⟨#[c0]⟩ = V.str "0") = decide ((figL a.cps.toList).head? = some 48) := by
      rw [ec, e48]
      show decide _ = decide (some c0 = some 48)
      by_cases h : c0 = 48
      · rw [h]; rfl
      · rw [decide_eq_false (fun z : some c0 = some 48 => h (Option.some.inj z)), decide_eq_false]
        intro z
        have z := V.str.inj z
        injection z with z
        have z2 : [c0] = [48] := congrArg Array.toList z
        exact h (List.cons.inj z2).1
    have d2 : (!decide (V.str a = V.str "0")) = decide (a.cps.toList ≠ [48]) := by
      rw [e48]
      by_cases h : a.cps.toList = [48]
      · rw [decide_eq_false (fun z : a.cps.toList ≠ [48] => z h), decide_eq_true (congrArg V.str (str_inj (b := ⟨#[48]⟩) h))]; rfl
      · rw [decide_eq_true h, decide_eq_false (fun z => h (by rw [V.str.inj z]))]; rfl
    have last : ¬ ((figL a.cps.toList).head? = some 48 ∧ a.cps.toList ≠ [48]) → Q (numV (some ((if a.cps.toList.head? = some 45 then -1 else 1) * ((digitsVal (figL a.cps.toList) : Nat) : Int)))) H2 ∧ PySem.intText? a = some ((if a.cps.toList.head? = some 45 then -1 else 1) * ((digitsVal (figL a.cps.toList) : Nat) : Int)) := fun n => by
      rw [if_neg n] at q
      refine ⟨q, int_reads ?_⟩
      unfold numO
      rw [if_neg n1, if_neg (by rw [c3]; exact Bool.noConfusion), if_neg n]
    refine ⟨_, rfl, _, _, c0, rfl, rfl, sb, at0, rfl, _, rfl, ?_⟩
    rw [d1]
    refine if_bl (fun c4 => ?_) (fun c4 => ?_)
    · have c4 := of_decide_eq_true c4
      refine ⟨_, rfl, rfl, _, rfl, ?_⟩
      rw [d2]
      refine if_bl (fun c5 => ?_) (fun c5 => ?_)
      · have c5 := of_decide_eq_true c5
        rw [if_pos ⟨c4, c5⟩] at q
        exact q
      · obtain ⟨q, rd⟩ := last (fun z => of_decide_eq_false c5 z.2)
        exact ⟨_, rfl, _, _, rfl, rd, by omega, q⟩
    · obtain ⟨q, rd⟩ := last (fun z => of_decide_eq_false c4 z.1)
      exact ⟨_, rfl, _, _, rfl, rd, by omega, q⟩
end
end
section
variable {P : Program} {w : World} {K : PySem.W.Frag} {mg : Str → Option Value} {base : Heap}
def sp_NsInit (K : PySem.W.Frag) (C : Addr) : Sp := fun vs H Q _ => ∃ (a : Addr) (x : V), vs = [.ref a, x] ∧ H a = some (exo a C none) ∧
  ∀ d, H d = none → d ≠ a → Q .non (upd (upd H d (exd d [("row", x)])) a (exo a C (some d)))
theorem ok_NsInit {C CB fI : Addr} {fd : FuncData} (N : NsC K mg C CB fI fd) : FnOk P w K mg base CX0 1 fI fd ["self", "row"] (sp_NsInit K C) := by
  refine N.F.ok sc_NoText_init (fun vs H Q E h => ?_) (fun cdv A outer s H vs Q E hr h => ?_)
  · obtain ⟨a, x, rfl, _⟩ := h
    rfl
  obtain ⟨a, x, rfl, ha, q⟩ := h
  refine ⟨_, pss_one (ps_ost (pv 0) (pv 1)), ?_⟩
  exact ⟨_, rfl, _, rfl, a, C, rfl, N.T, N.nr, .inl ⟨ha, fun d nd da => q d nd da⟩⟩
end
/-! ### numbers as texts -/
def numS (n : Int) : Str := Str.ofString (toString n)
def numL (n : Int) : List Nat := (numS n).cps.toList
theorem numL_pos (m : Nat) : numL ((m : Nat) : Int) = digN m := str_pos m
theorem numL_neg {m : Nat} (h : 0 < m) : numL (-(m : Int)) = 45 :: digN m := str_neg h
theorem num_cases (n : Int) : (∃ m : Nat, n = m) ∨ ∃ m : Nat, 0 < m ∧ n = -(m : Int) := by
  rcases Int.lt_or_le n 0 with h | h
  · exact .inr ⟨n.natAbs, by omega, by omega⟩
  · exact .inl ⟨n.toNat, by omega⟩
theorem digN_len {k m : Nat} (h : m < 10 ^ (k + 1)) : (digN m).length ≤ k + 1 := by
  unfold digN
  rw [List.length_map]
  exact toDig_len k m h
theorem numL_len {n : Int} (h0 : -1000000000000000000 < n) (h1 : n < 1000000000000000000) : (numL n).length ≤ 19 := by
  rcases num_cases n with ⟨m, rfl⟩ | ⟨m, hm, rfl⟩
  · rw [numL_pos]
    have := digN_len (k := 17) (m := m) (by show m < 10 ^ 18; omega)
    omega
  · rw [numL_neg hm, List.length_cons]
    have := digN_len (k := 17) (m := m) (by show m < 10 ^ 18; omega)
    omega
theorem numS_len {n : Int} (h0 : -1000000000000000000 < n) (h1 : n < 1000000000000000000) : (numS n).length ≤ 19 := by
  have := numL_len h0 h1
  rw [strlen]
  exact this
theorem numL_ne (n : Int) : numL n ≠ [] := by
  rcases num_cases n with ⟨m, rfl⟩ | ⟨m, hm, rfl⟩
  · rw [numL_pos]
    unfold digN
    intro z
    exact toDig_ne m (List.map_eq_nil_iff.mp z)
  · rw [numL_neg hm]
    exact List.cons_ne_nil _ _
theorem numL_signs {n : Int} {c : Nat} (h : c ∈ numL n) : c = 45 ∨ (48 ≤ c ∧ c ≤ 57) := by
  rcases num_cases n with ⟨m, rfl⟩ | ⟨m, hm, rfl⟩
  · rw [numL_pos] at h
    exact .inr (dig_fig h)
  · rw [numL_neg hm] at h
    rcases List.mem_cons.mp h with h | h
    · exact .inl h
    · exact .inr (dig_fig h)
theorem numL_reads {n : Int} (h0 : -1000000000 < n) (h1 : n < 1000000000) : numO (numL n) = some n := by
  rcases num_cases n with ⟨m, rfl⟩ | ⟨m, hm, rfl⟩
  · rw [numL_pos]
    exact num_pos (by omega)
  · rw [numL_neg hm]
    exact num_neg hm (by omega)
theorem digN_long {m : Nat} (h : 10 ^ 9 ≤ m) : 9 < (digN m).length := by
  have key : ∀ k m : Nat, (Nat.toDigits 10 m).length ≤ k + 1 → m < 10 ^ (k + 1) := fun k => by
    induction k with
    | zero =>
      intro m hm
      rcases Nat.lt_or_ge m 10 with z | z
      · exact z
      · exfalso
        rw [Nat.toDigits_of_base_le (by decide) z, List.length_append] at hm
        have : (Nat.toDigits 10 (m / 10)).length ≠ 0 := fun e => toDig_ne _ (List.eq_nil_of_length_eq_zero e)
        simp only [List.length_singleton] at hm
        omega
    | succ k ih =>
      intro m hm
      rcases Nat.lt_or_ge m 10 with z | z
      · exact Nat.lt_of_lt_of_le z (by rw [Nat.pow_succ]; have : 0 < 10 ^ (k + 1) := Nat.pow_pos (by decide); omega)
      · rw [Nat.toDigits_of_base_le (by decide) z, List.length_append] at hm
        simp only [List.length_singleton] at hm
        have := ih (m / 10) (by omega)
        rw [Nat.pow_succ]
        omega
  rcases Nat.lt_or_ge 9 (digN m).length with z | z
  · exact z
  · exfalso
    unfold digN at z
    rw [List.length_map] at z
    have := key 8 m z
    have e : 10 ^ (8 + 1) = 10 ^ 9 := rfl
    omega
theorem numL_long {n : Int} (h : n ≤ -1000000000 ∨ 1000000000 ≤ n) : numO (numL n) = none := by
  have key : ∀ l : List Nat, 9 < (figL l).length → numO l = none := fun l hl => by
    unfold numO
    rw [if_pos (.inr hl)]
  rcases num_cases n with ⟨m, rfl⟩ | ⟨m, hm, rfl⟩
  · refine key _ ?_
    rw [numL_pos]
    unfold figL
    rw [if_neg (digN_45 m)]
    exact digN_long (by omega)
  · refine key _ ?_
    rw [numL_neg hm]
    unfold figL
    rw [if_pos (show (45 :: digN m).head? = some 45 from rfl)]
    exact digN_long (by omega)
theorem log_1920 {m : Nat} (h : m < 1000000000000000000) : ((m : Nat) : Int).natAbs.log2 < 1920 := by
  show m.log2 < 1920
  by_cases z : m = 0
  · subst z; decide
  · exact (Nat.log2_lt z).mpr (Nat.lt_of_lt_of_le (show m < 2 ^ 60 by omega) (Nat.pow_le_pow_right (by decide) (by decide)))
theorem str_app (a b : Str) : (a ++ b).cps.toList = a.cps.toList ++ b.cps.toList := by
  show (a.cps ++ b.cps).toList = _
  rw [Array.toList_append]
section
variable {P : Program} {w : World} {K : PySem.W.Frag} {mg : Str → Option Value} {base : Heap}
def sp_text_of (K : PySem.W.Frag) : Sp := fun vs H Q _ => ∃ n : Int, vs = [.int n] ∧ -1000000000000000000 < n ∧ n < 1000000000000000000 ∧ ∀ H', Same H H' → Q (.str (numS n)) H'
theorem ok_text_of {f : Addr} {fd : FuncData} (F : Fun K "text_of" "text_of" s_text_of f fd) (T : Top w K mg) : FnOk P w K mg base CX0 1 f fd ["number"] (sp_text_of K) := by
  refine F.ok sc_text_of (fun vs H Q E h => ?_) (fun cdv A outer s H vs Q E hr h => ?_)
  · obtain ⟨n, rfl, _⟩ := h
    rfl
  obtain ⟨n, rfl, n0, n1, q⟩ := h
  obtain ⟨tC, mCh⟩ := T.x_chu
  obtain ⟨tF, mCf⟩ := T.x_chf
  have fin : ∀ (sg : Str) (m : Nat), (n < 0 ∧ sg = "-" ∧ n = -(m : Int)) ∨ (0 ≤ n ∧ sg = "" ∧ n = m) → sg ++ numS ((m : Nat) : Int) = numS n := fun sg m h => by
    refine str_inj ?_
    rw [str_app]
    rcases h with ⟨h0, rfl, rfl⟩ | ⟨_, rfl, rfl⟩
    · show [45] ++ numL ((m : Nat) : Int) = numL (-(m : Int))
      rw [numL_pos, numL_neg (by omega)]; rfl
    · rfl
  let R1 : TS := fun D' σ' H' => D'.rt = Q ∧ H' = H ∧ ∃ sg : Str, σ' = [some (.int n), some (.str sg), none, none, none] ∧ ((n < 0 ∧ sg = "-") ∨ (0 ≤ n ∧ sg = ""))
  refine ⟨_, (pss_cons (ps_set (i := 1) sc_text_of.nd rfl (Or.inl rfl) (pe_ifExp (pt_cmpR op_lt (pv 0) pe_int (nomark _)) pe_str pe_str))
      (PSs.to (pss_cons (ps_set (i := 2) sc_text_of.nd rfl (Or.inl rfl) (pe_callB call_abs (by rfl) T.m_abs (by decide +kernel) (pa_cons (pv 0) pa_nil)))
      (pss_cons (ps_set (i := 3) sc_text_of.nd rfl (Or.inl rfl) (pe_lst pa_nil))
      (pss_cons (ps_while PassesOwn.never (pt_cmpR op_ge (pv 2) (pe_glob (v := .int CHN) (by rfl) mCh ⟨_, rfl⟩) (nomark _))
        (pss_cons (ps_asg (pe_callB call_divmod (by rfl) T.m_divmod (by decide +kernel) (pa_cons (pv 2) (pa_cons (pe_glob (v := .int CHN) (by rfl) mCh ⟨_, rfl⟩) pa_nil))) (pg_tupK K rfl rfl (pgs_cons (pg_name (i := 2) sc_text_of.nd rfl (Or.inl rfl)) (pgs_cons (pg_name (i := 4) sc_text_of.nd rfl (Or.inl rfl)) pgs_nil))))
      (pss_one (ps_expr (pe_bmK K rfl PySem.F.plainAttrs_list PySem.F.slot_list_append PySem.F.type_list_append mt_append (pv 3) (pa_cons (pe_bmK K rfl PySem.F.plainAttrs_str PySem.F.slot_str_zfill PySem.F.type_str_zfill mt_zfill (pe_callTy call_str_int (by rfl) T.m_str (by decide +kernel) (pa_cons (pv 4) pa_nil)) (pa_cons (pe_glob (v := .int 18) (by rfl) mCf ⟨_, rfl⟩) pa_nil)) pa_nil))))))
      (pss_cons (ps_expr (pe_bmK K rfl PySem.F.plainAttrs_list PySem.F.slot_list_append PySem.F.type_list_append mt_append (pv 3) (pa_cons (pe_callTy call_str_int (by rfl) T.m_str (by decide +kernel) (pa_cons (pv 2) pa_nil)) pa_nil)))
      (pss_one (ps_ret (pe_op op_add_str (pv 1) (pe_join pe_str (pe_revLK K rfl (pv 3)))))))))) R1 ?tail1)), ?_⟩
  case tail1 =>
    rintro D' σ' H1 ⟨eD, rfl, sg, rfl, hsg⟩
    obtain ⟨m, em, hm⟩ : ∃ m : Nat, (if n < 0 then -n else n) = (m : Int) ∧ ((n < 0 ∧ sg = "-" ∧ n = -(m : Int)) ∨ (0 ≤ n ∧ sg = "" ∧ n = m)) := by
      refine ⟨n.natAbs, ?_, ?_⟩
      · split <;> omega
      · rcases hsg with ⟨a, b⟩ | ⟨a, b⟩
        · exact .inl ⟨a, b, by omega⟩
        · exact .inr ⟨a, b, by omega⟩
    have ml : m < 1000000000000000000 := by rcases hm with ⟨a, b, c⟩ | ⟨a, b, c⟩ <;> omega
    refine ⟨_, rfl, _, rfl, ?_⟩
    rw [em]
    refine ⟨(by show 0 ≤ sizeLine; decide), fun l nl => ?_⟩
    refine ⟨fun k σ H3 => σ = [some (.int n), some (.str sg), some (nV m), some (.ref l), none] ∧ H3 l = some (.lst []) ∧ Same H1 H3 ∧ k = 0, ⟨0, rfl, upd_same, same_new nl, rfl⟩, ?_⟩
    rintro k σ H3 ⟨rfl, hl, s3, rfl⟩
    refine ⟨_, rfl, _, _, rfl, rfl, _, rfl, if_bl (fun c => ?_) (fun _ => ?_)⟩
    · have c := of_decide_eq_true c
      have : CHN = 1000000000000000000 := rfl
      omega
    refine ⟨_, rfl, .inl ⟨rfl, _, SqL.of hl⟩, _, rfl, _, rfl, ?_, l, _, _, rfl, rfl, hl, (by show 0 < sizeLine; decide), ?_⟩
    · show ((m : Nat) : Int).natAbs.log2 < 1920
      exact log_1920 (by omega)
    refine ⟨_, rfl, ⟨_, rfl⟩, _, rfl, l, _, rfl, SqL.of upd_same, fun p np => ⟨_, p, [numS ((m : Nat) : Int)], rfl, rfl, .inl (SqL.of upd_same), ?_, ?_⟩⟩
    · have := numS_len (n := ((m : Nat) : Int)) (by omega) (by omega)
      show ((numS ((m : Nat) : Int)).length + 0) + 1 * (0 : Nat) ≤ 16777216
      omega
    have j1 : Txt.join "" [numS ((m : Nat) : Int)] = numS ((m : Nat) : Int) := rfl
    rw [j1]
    refine ⟨_, _, rfl, rfl, ?_, ?_⟩
    · have := numS_len (n := ((m : Nat) : Int)) (by omega) (by omega)
      have : sg.length ≤ 1 := by rcases hsg with ⟨_, rfl⟩ | ⟨_, rfl⟩ <;> decide +kernel
      exact little (by omega)
    rw [eD, fin sg m hm]
    exact q _ ((Same.own s3 nl).trans (same_new np))
  refine ⟨_, rfl, _, _, rfl, rfl, _, rfl, if_bl (fun c => ?_) (fun c => ?_)⟩
  · exact ⟨rfl, rfl, _, rfl, .inl ⟨of_decide_eq_true c, rfl⟩⟩
  · exact ⟨rfl, rfl, _, rfl, .inr ⟨by have := of_decide_eq_false c; omega, rfl⟩⟩
end
/-! ### rooms as texts -/
theorem sp32 : (" " : Str) = ⟨#[32]⟩ := by decide +kernel
theorem nl10 : ("\n" : Str) = ⟨#[10]⟩ := by decide +kernel
abbrev cps (z : Str) : List Nat := z.cps.toList
theorem join_sp (ys : List Str) : cps (Txt.join " " ys) = joinL 32 (ys.map cps) := by
  rw [sp32]
  exact join_one ys 32
theorem join_nl (ys : List Str) : cps (Txt.join "\n" ys) = joinL 10 (ys.map cps) := by
  rw [nl10]
  exact join_one ys 10
def Num (n : Int) : Prop := -1000000000000000000 < n ∧ n < 1000000000000000000
def wordsH (h : HR) : List (List Nat) := cps "hand" :: cps h.wd :: (noL h ++ [h.mom]).map numL
def wordsB (b : BR) : List (List Nat) := cps "belt" :: numL ((b.one : Nat) : Int) :: numL ((b.to : Nat) : Int) :: cps ":" :: b.th.map numL
def rowsR (hs : List HR) (bs : List BR) : List (List Nat) := hs.map (fun h => joinL 32 (wordsH h)) ++ bs.map (fun b => joinL 32 (wordsB b))
theorem sum_le {ys : List Str} {B : Nat} (h : ∀ y ∈ ys, y.length ≤ B) : (ys.map (·.length)).sum ≤ ys.length * B := by
  induction ys with
  | nil => exact Nat.zero_le _
  | cons y ys ih =>
    have := h y (List.mem_cons_self ..)
    have := ih fun z hz => h z (List.mem_cons_of_mem _ hz)
    rw [List.map_cons, List.sum_cons, List.length_cons, Nat.succ_mul]
    omega
theorem join_ok {ys : List Str} {B n : Nat} (s : Str) (h : ∀ y ∈ ys, y.length ≤ B) (l : ys.length ≤ n) (k : n * B + n * s.length ≤ 16777216) : (ys.map (·.length)).sum + ys.length * s.length ≤ 16777216 := by
  have := sum_le h
  have := Nat.mul_le_mul_right B l
  have := Nat.mul_le_mul_right s.length l
  omega
theorem joinL_len (c : Nat) : ∀ {ps : List (List Nat)} {B : Nat}, (∀ p ∈ ps, p.length ≤ B) → (joinL c ps).length ≤ ps.length * (B + 1)
  | [], _, _ => Nat.zero_le _
  | [p], B, h => by
    have := h p (List.mem_cons_self ..)
    show p.length ≤ 1 * (B + 1)
    omega
  | p :: q :: r, B, h => by
    have := h p (List.mem_cons_self ..)
    have ih := joinL_len c (ps := q :: r) fun z hz => h z (List.mem_cons_of_mem _ hz)
    show (p ++ c :: joinL c (q :: r)).length ≤ (q :: r).length.succ * (B + 1)
    rw [List.length_append, List.length_cons, Nat.succ_mul]
    omega
/-- the words of a hand, of a belt, in one room's bounds -/
structure HandW (h : HR) : Prop where
  wd : h.wd.length ≤ 100
  no : ∀ n ∈ noL h, Num n
  mom : Num h.mom
structure BeltW (b : BR) : Prop where
  one : Num ((b.one : Nat) : Int)
  to : Num ((b.to : Nat) : Int)
  th : ∀ x ∈ b.th, Num x
  many : b.th.length ≤ 100
theorem wordsH_len {h : HR} (w : HandW h) : ∀ p ∈ wordsH h, p.length ≤ 100 := fun p hp => by
  rcases List.mem_cons.mp hp with rfl | hp
  · decide +kernel
  rcases List.mem_cons.mp hp with rfl | hp
  · rw [← strlen]; exact w.wd
  obtain ⟨n, hn, rfl⟩ := List.mem_map.mp hp
  have nn : Num n := by
    rcases List.mem_append.mp hn with z | z
    · exact w.no n z
    · rw [List.mem_singleton.mp z]; exact w.mom
  exact Nat.le_trans (numL_len nn.1 nn.2) (by decide)
theorem wordsB_len {b : BR} (w : BeltW b) : ∀ p ∈ wordsB b, p.length ≤ 100 := fun p hp => by
  rcases List.mem_cons.mp hp with rfl | hp
  · decide +kernel
  rcases List.mem_cons.mp hp with rfl | hp
  · exact Nat.le_trans (numL_len w.one.1 w.one.2) (by decide)
  rcases List.mem_cons.mp hp with rfl | hp
  · exact Nat.le_trans (numL_len w.to.1 w.to.2) (by decide)
  rcases List.mem_cons.mp hp with rfl | hp
  · decide +kernel
  obtain ⟨n, hn, rfl⟩ := List.mem_map.mp hp
  have nn := w.th n hn
  exact Nat.le_trans (numL_len nn.1 nn.2) (by decide)
theorem noL_len (h : HR) : (noL h).length ≤ 1 := by
  unfold noL
  split
  · exact Nat.zero_le _
  · exact Nat.le_refl _
theorem rows_len {hs : List HR} {bs : List BR} (hh : ∀ h ∈ hs, HandW h) (hb : ∀ b ∈ bs, BeltW b) : ∀ p ∈ rowsR hs bs, p.length ≤ 10504 := fun p hp => by
  rcases List.mem_append.mp hp with z | z
  · obtain ⟨h, hm, rfl⟩ := List.mem_map.mp z
    have a := joinL_len 32 (wordsH_len (hh h hm))
    have l : (wordsH h).length ≤ 4 := by
      have := noL_len h
      show ((noL h ++ [h.mom]).map numL).length + 1 + 1 ≤ 4
      rw [List.length_map, List.length_append]
      show (_ + 1) + 1 + 1 ≤ 4
      omega
    have := Nat.mul_le_mul_right (100 + 1) l
    omega
  · obtain ⟨b, hm, rfl⟩ := List.mem_map.mp z
    have a := joinL_len 32 (wordsB_len (hb b hm))
    have l : (wordsB b).length ≤ 104 := by
      have := (hb b hm).many
      show (b.th.map numL).length + 1 + 1 + 1 + 1 ≤ 104
      rw [List.length_map]
      omega
    have := Nat.mul_le_mul_right (100 + 1) l
    omega
section
variable {P : Program} {w : World} {K : PySem.W.Frag} {mg : Str → Option Value} {base : Heap}
def sp_hand_row (K : PySem.W.Frag) : Sp := fun vs H Q _ => ∃ (rr : Addr) (h : HR), vs = [.ref rr, .int h.mom] ∧ H rr = some (.tup (ruleL h)) ∧ HandW h ∧ ∀ (z : Str) (H' : Hp), cps z = joinL 32 (wordsH h) → Same H H' → Q (.str z) H'
theorem ok_hand_row {f : Addr} {fd : FuncData} (F : Fun K "hand_row" "hand_row" s_hand_row f fd) (T : Top w K mg) : FnOk P w K mg base CX0 2 f fd ["rule", "moments"] (sp_hand_row K) := by
  obtain ⟨f_text_of, fd_text_of, F_text_of, b_text_of, m_text_of⟩ := T.d_text_of
  have G_text_of := ok_text_of (P := P) (w := w) (base := base) F_text_of T
  refine F.ok sc_hand_row (fun vs H Q E h => ?_) (fun cdv A outer s H vs Q E hr h => ?_)
  · obtain ⟨rr, h, rfl, _⟩ := h
    rfl
  obtain ⟨rr, h, rfl, hr0, hw, q⟩ := h
  rw [ruleL_no] at hr0
  have nl1 := noL_len h
  refine ⟨_, (pss_cons (ps_setLc (i := 2) (own := [("number", 3)]) (g := gName 3) (tt := tYes) (by rfl) sc_hand_row.nd rfl rfl (sw_true rfl rfl rfl (by decide +kernel)) (pi_tupK K rfl (pe_op (op_catAK K rfl) (pe_slice (sl_tupAK K rfl) (pv 0) (po_some pe_int) po_none) (pe_tup (pa_cons (pv 1) pa_nil)))) (blkOk_by (own := [("number", 3)]) (N := N_hand_row) (sc := defScope s_hand_row) (by decide +kernel)) (fun _ _ _ _ _ => (pg_name (i := 3) sc_hand_row.nd rfl (Or.inl rfl))) (fun _ _ _ _ _ => pts_nil) (fun _ _ _ _ _ => (pe_call G_text_of (hr.mono (by decide)) (by rfl) m_text_of F_text_of.kp b_text_of .nil pass0 (pa_cons (pv 3) pa_nil))))
      (pss_one (ps_ret (pe_join pe_str (pe_op op_cat (pe_lst (pa_cons pe_str (pa_cons (pe_ix (ix_tupK K rfl) (pv 0) pe_int (fun _ _ => rfl)) pa_nil))) (pv 2)))))), ?_⟩
  refine ⟨_, rfl, _, rfl, ?_⟩
  dsimp only [tNoPart]
  refine slA_of hr0 fun p1 H1 h1 s1 => ?_
  rw [show (1 : Int) = ((1 : Nat) : Int) from rfl, cut_drop, List.drop_succ_cons, List.drop_zero] at h1
  refine ⟨_, rfl, (by show 1 ≤ sizeLine; decide), fun p2 np2 => ?_⟩
  have s2 := same_new (o := .tup [V.int h.mom]) np2
  refine catA_of (s2 _ _ h1) upd_same (by rw [List.length_map]; show _ + 1 ≤ 1000; omega) fun p3 H3 h3 s3 => ?_
  have h3 : H3 p3 = some (.tup ((noL h ++ [h.mom]).map V.int)) := by rw [h3, List.map_append]; rfl
  have s13 := s1.trans (s2.trans s3)
  have hn : ∀ x ∈ noL h ++ [h.mom], Num x := fun x hx => by
    rcases List.mem_append.mp hx with z | z
    · exact hw.no x z
    · rw [List.mem_singleton.mp z]; exact hw.mom
  have ln : (noL h ++ [h.mom]).length ≤ 2 := by rw [List.length_append]; show _ + 1 ≤ 2; omega
  generalize hns : noL h ++ [h.mom] = ns at h3 hn ln
  refine ⟨p3, rfl, ⟨_, SqT.of h3⟩, fun D nD => lc_tup (K := K) (a := p3) (xs := ns.map V.int) (fun i H5 => H5 D = some (.lst ((ns.take i).map fun n => V.str (numS n))) ∧ Same H3 H5) ⟨upd_same, same_new nD⟩ (fun i H5 _ ⟨_, s5⟩ => SqT.of (s5 _ _ h3)) ?_ ?_⟩
  · rintro i x H5 hx ⟨hD, s5⟩
    rw [List.getElem?_map] at hx
    cases en : ns[i]? with
    | none => rw [en] at hx; cases hx
    | some n =>
    rw [en] at hx
    obtain rfl : V.int n = x := Option.some.inj hx
    have nn := hn n (List.mem_of_getElem? en)
    have il := (List.getElem?_eq_some_iff.mp en).1
    refine ⟨rfl, yes_in ⟨_, rfl, n, rfl, nn.1, nn.2, fun H6 s6 => ⟨_, s6 _ _ hD, by rw [List.length_map, List.length_take]; exact small1000 (by omega), ?_, Same.own (s5.trans s6) nD⟩⟩⟩
    rw [upd_same, List.take_add_one, en, List.map_append]; rfl
  rintro H5 ⟨hD, s5⟩
  rw [List.length_map, List.take_length] at hD
  have s15 := s13.trans s5
  refine ⟨⟨_, rfl⟩, _, rfl, rr, _, _, _, rfl, rfl, SqT.of (s15 _ _ hr0), atI_nat (j := 0) rfl, (by show 2 ≤ sizeLine; decide), fun p5 np5 => ?_⟩
  have s6 := same_new (o := .lst [V.str "hand", V.str h.wd]) np5
  refine ⟨_, rfl, p5, D, _, _, rfl, rfl, upd_same, s6 _ _ hD, little (by rw [List.length_map]; show 2 + _ ≤ 1000; omega), fun p6 np6 => ?_⟩
  have bnd : ∀ y ∈ ("hand" : Str) :: h.wd :: ns.map numS, y.length ≤ 100 := fun y hy => by
    rcases List.mem_cons.mp hy with rfl | hy
    · decide +kernel
    rcases List.mem_cons.mp hy with rfl | hy
    · exact hw.wd
    obtain ⟨n, hn2, rfl⟩ := List.mem_map.mp hy
    have nn := hn n hn2
    exact Nat.le_trans (numS_len nn.1 nn.2) (by decide)
  refine ⟨_, p6, ("hand" : Str) :: h.wd :: ns.map numS, rfl, rfl, .inl (SqL.of ?_), join_ok (B := 100) (n := 4) " " bnd (by show (ns.map numS).length + 1 + 1 ≤ 4; rw [List.length_map]; omega) (by decide +kernel), ?_⟩
  · rw [upd_same]
    show some (HO.lst (V.str "hand" :: V.str h.wd :: ns.map fun n => V.str (numS n))) = some (HO.lst (V.str "hand" :: V.str h.wd :: (ns.map numS).map V.str))
    rw [List.map_map]; rfl
  refine q _ _ ?_ (s15.trans (s6.trans (same_new np6)))
  rw [join_sp]
  unfold wordsH
  rw [hns, List.map_cons, List.map_cons, List.map_map]; rfl
def sp_belt_row (K : PySem.W.Frag) : Sp := fun vs H Q _ => ∃ (t : Addr) (b : BR), vs = [nV b.one, nV b.to, .ref t] ∧ H t = some (.tup (b.th.map V.int)) ∧ BeltW b ∧ ∀ (z : Str) (H' : Hp), cps z = joinL 32 (wordsB b) → Same H H' → Q (.str z) H'
theorem ok_belt_row {f : Addr} {fd : FuncData} (F : Fun K "belt_row" "belt_row" s_belt_row f fd) (T : Top w K mg) : FnOk P w K mg base CX0 2 f fd ["giver", "taker", "things"] (sp_belt_row K) := by
  obtain ⟨f_text_of, fd_text_of, F_text_of, b_text_of, m_text_of⟩ := T.d_text_of
  have G_text_of := ok_text_of (P := P) (w := w) (base := base) F_text_of T
  refine F.ok sc_belt_row (fun vs H Q E h => ?_) (fun cdv A outer s H vs Q E hr h => ?_)
  · obtain ⟨t, b, rfl, _⟩ := h
    rfl
  obtain ⟨t, b, rfl, ht, hw, q⟩ := h
  have lm := hw.many
  refine ⟨_, (pss_one (ps_ret (pe_join pe_str (pe_op op_cat (pe_lst (pa_cons pe_str (pa_cons (pe_call G_text_of (hr.mono (by decide)) (by rfl) m_text_of F_text_of.kp b_text_of .nil pass0 (pa_cons (pv 0) pa_nil)) (pa_cons (pe_call G_text_of (hr.mono (by decide)) (by rfl) m_text_of F_text_of.kp b_text_of .nil pass0 (pa_cons (pv 1) pa_nil)) (pa_cons pe_str pa_nil))))) (pe_lc (own := [("thing", 3)]) (g := gName 3) (tt := tYes) (by rfl) sc_belt_row.nd (pi_tupK K rfl (pv 2)) (blkOk_by (own := [("thing", 3)]) (N := N_belt_row) (sc := defScope s_belt_row) (by decide +kernel)) (fun _ _ _ _ _ => (pg_name (i := 3) sc_belt_row.nd rfl (Or.inl rfl))) (fun _ _ _ _ _ => pts_nil) (fun _ _ _ _ _ => (pe_call G_text_of (hr.mono (by decide)) (by rfl) m_text_of F_text_of.kp b_text_of .nil pass0 (pa_cons (pv 3) pa_nil)))))))), ?_⟩
  refine ⟨⟨_, rfl⟩, _, rfl, _, rfl, hw.one.1, hw.one.2, fun H1 s1 => ⟨_, rfl, _, rfl, hw.to.1, hw.to.2, fun H2 s2 => ⟨(by show 4 ≤ sizeLine; decide), fun p5 np5 => ?_⟩⟩⟩
  have s3 := same_new (o := .lst [V.str "belt", V.str (numS ((b.one : Nat) : Int)), V.str (numS ((b.to : Nat) : Int)), V.str ":"]) np5
  have h5 : (upd H2 p5 (.lst [V.str "belt", V.str (numS ((b.one : Nat) : Int)), V.str (numS ((b.to : Nat) : Int)), V.str ":"])) p5 = some (.lst [V.str "belt", V.str (numS ((b.one : Nat) : Int)), V.str (numS ((b.to : Nat) : Int)), V.str ":"]) := upd_same
  generalize upd H2 p5 (.lst [V.str "belt", V.str (numS ((b.one : Nat) : Int)), V.str (numS ((b.to : Nat) : Int)), V.str ":"]) = H3 at s3 h5 ⊢
  have s13 := s1.trans (s2.trans s3)
  refine ⟨_, rfl, t, rfl, ⟨_, SqT.of (s13 _ _ ht)⟩, fun D nD => lc_tup (K := K) (a := t) (xs := b.th.map V.int) (fun i H5 => H5 D = some (.lst ((b.th.take i).map fun n => V.str (numS n))) ∧ Same H3 H5) ⟨upd_same, same_new nD⟩ (fun i H5 _ ⟨_, s5⟩ => SqT.of (s5 _ _ (s13 _ _ ht))) ?_ ?_⟩
  · rintro i x H5 hx ⟨hD, s5⟩
    rw [List.getElem?_map] at hx
    cases en : b.th[i]? with
    | none => rw [en] at hx; cases hx
    | some n =>
    rw [en] at hx
    obtain rfl : V.int n = x := Option.some.inj hx
    have nn := hw.th n (List.mem_of_getElem? en)
    have il := (List.getElem?_eq_some_iff.mp en).1
    refine ⟨rfl, yes_in ⟨_, rfl, n, rfl, nn.1, nn.2, fun H6 s6 => ⟨_, s6 _ _ hD, by rw [List.length_map, List.length_take]; exact small1000 (by omega), ?_, Same.own (s5.trans s6) nD⟩⟩⟩
    rw [upd_same, List.take_add_one, en, List.map_append]; rfl
  rintro H5 ⟨hD, s5⟩
  rw [List.length_map, List.take_length] at hD
  refine ⟨p5, D, _, _, rfl, rfl, s5 _ _ h5, hD, little (by rw [List.length_map]; show 4 + _ ≤ 1000; omega), fun p6 np6 => ?_⟩
  have bnd : ∀ y ∈ ("belt" : Str) :: numS ((b.one : Nat) : Int) :: numS ((b.to : Nat) : Int) :: (":" : Str) :: b.th.map numS, y.length ≤ 100 := fun y hy => by
    rcases List.mem_cons.mp hy with rfl | hy
    · decide +kernel
    rcases List.mem_cons.mp hy with rfl | hy
    · exact Nat.le_trans (numS_len hw.one.1 hw.one.2) (by decide)
    rcases List.mem_cons.mp hy with rfl | hy
    · exact Nat.le_trans (numS_len hw.to.1 hw.to.2) (by decide)
    rcases List.mem_cons.mp hy with rfl | hy
    · decide +kernel
    obtain ⟨n, hn2, rfl⟩ := List.mem_map.mp hy
    have nn := hw.th n hn2
    exact Nat.le_trans (numS_len nn.1 nn.2) (by decide)
  refine ⟨_, p6, ("belt" : Str) :: numS ((b.one : Nat) : Int) :: numS ((b.to : Nat) : Int) :: (":" : Str) :: b.th.map numS, rfl, rfl, .inl (SqL.of ?_), join_ok (B := 100) (n := 104) " " bnd (by show (b.th.map numS).length + 1 + 1 + 1 + 1 ≤ 104; rw [List.length_map]; omega) (by decide +kernel), ?_⟩
  · rw [upd_same]
    show some (HO.lst (V.str "belt" :: V.str (numS ((b.one : Nat) : Int)) :: V.str (numS ((b.to : Nat) : Int)) :: V.str ":" :: b.th.map fun n => V.str (numS n))) = some (HO.lst (V.str "belt" :: V.str (numS ((b.one : Nat) : Int)) :: V.str (numS ((b.to : Nat) : Int)) :: V.str ":" :: (b.th.map numS).map V.str))
    rw [List.map_map]; rfl
  refine q _ _ ?_ (s13.trans (s5.trans (same_new np6)))
  rw [join_sp]
  unfold wordsB
  rw [List.map_cons, List.map_cons, List.map_cons, List.map_cons, List.map_map]; rfl
def TextR (hs : List HR) (bs : List BR) (z : Str) : Prop := cps z = joinL 10 (rowsR hs bs)
def sp_show_room (K : PySem.W.Frag) : Sp := fun vs H Q _ => ∃ (r : Addr) (hs : List HR) (bs : List BR), vs = [.ref r] ∧ RoomAt H r hs bs ∧ hs.length ≤ 100 ∧ bs.length ≤ 100 ∧ (∀ h ∈ hs, HandW h) ∧ (∀ b ∈ bs, BeltW b) ∧ ∀ (z : Str) (H' : Hp), TextR hs bs z → Same H H' → Q (.str z) H'
theorem ok_show_room {f : Addr} {fd : FuncData} (F : Fun K "show_room" "show_room" s_show_room f fd) (T : Top w K mg) : FnOk P w K mg base CX0 3 f fd ["room"] (sp_show_room K) := by
  obtain ⟨f_hand_row, fd_hand_row, F_hand_row, b_hand_row, m_hand_row⟩ := T.d_hand_row
  have G_hand_row := ok_hand_row (P := P) (w := w) (base := base) F_hand_row T
  obtain ⟨f_belt_row, fd_belt_row, F_belt_row, b_belt_row, m_belt_row⟩ := T.d_belt_row
  have G_belt_row := ok_belt_row (P := P) (w := w) (base := base) F_belt_row T
  refine F.ok sc_show_room (fun vs H Q E h => ?_) (fun cdv A outer s H vs Q E hr h => ?_)
  · obtain ⟨r, hs, bs, rfl, _⟩ := h
    rfl
  obtain ⟨r, hs, bs, rfl, hR, lh, lb, hh, hb, q⟩ := h
  obtain ⟨ha, ba, hv, bv, er, eh, eb, alh, alb⟩ := hR.ex
  have lhv := alh.length
  have lbv := alb.length
  refine ⟨_, (pss_cons (ps_asg (pv 0) (pg_tupK K rfl rfl (pgs_cons (pg_name (i := 1) sc_show_room.nd rfl (Or.inl rfl)) (pgs_cons (pg_name (i := 2) sc_show_room.nd rfl (Or.inl rfl)) pgs_nil))))
      (pss_cons (ps_setLc (i := 3) (own := [("rule", 4), ("moments", 5)]) (g := gTup K 2 (gCons (gName 4) (gCons (gName 5) gNil))) (tt := tYes) (by rfl) sc_show_room.nd rfl rfl (sw_true rfl rfl rfl (by decide +kernel)) (pi_tupK K rfl (pv 1)) (blkOk_by (own := [("rule", 4), ("moments", 5)]) (N := N_show_room) (sc := defScope s_show_room) (by decide +kernel)) (fun _ _ _ _ _ => (pg_tupK K rfl rfl (pgs_cons (pg_name (i := 4) sc_show_room.nd rfl (Or.inl rfl)) (pgs_cons (pg_name (i := 5) sc_show_room.nd rfl (Or.inl rfl)) pgs_nil)))) (fun _ _ _ _ _ => pts_nil) (fun _ _ _ _ _ => (pe_call G_hand_row (hr.mono (by decide)) (by rfl) m_hand_row F_hand_row.kp b_hand_row .nil pass0 (pa_cons (pv 4) (pa_cons (pv 5) pa_nil)))))
      (pss_cons (ps_expr (pe_bmK K rfl PySem.F.plainAttrs_list PySem.F.slot_list_extend PySem.F.type_list_extend mt_extend (pv 3) (pa_cons (pe_lc (own := [("giver", 6), ("taker", 7), ("things", 8)]) (g := gTup K 3 (gCons (gName 6) (gCons (gName 7) (gCons (gName 8) gNil)))) (tt := tYes) (by rfl) sc_show_room.nd (pi_tupK K rfl (pv 2)) (blkOk_by (own := [("giver", 6), ("taker", 7), ("things", 8)]) (N := N_show_room) (sc := defScope s_show_room) (by decide +kernel)) (fun _ _ _ _ _ => (pg_tupK K rfl rfl (pgs_cons (pg_name (i := 6) sc_show_room.nd rfl (Or.inl rfl)) (pgs_cons (pg_name (i := 7) sc_show_room.nd rfl (Or.inl rfl)) (pgs_cons (pg_name (i := 8) sc_show_room.nd rfl (Or.inl rfl)) pgs_nil))))) (fun _ _ _ _ _ => pts_nil) (fun _ _ _ _ _ => (pe_call G_belt_row (hr.mono (by decide)) (by rfl) m_belt_row F_belt_row.kp b_belt_row .nil pass0 (pa_cons (pv 6) (pa_cons (pv 7) (pa_cons (pv 8) pa_nil)))))) pa_nil)))
      (pss_one (ps_ret (pe_join pe_str (pv 3))))))), ?_⟩
  refine ⟨_, rfl, r, _, rfl, SqT.of er, rfl, _, _, rfl, _, _, rfl, rfl, ?_⟩
  refine ⟨_, rfl, ha, rfl, ⟨_, SqT.of eh⟩, fun D nD => lc_tup (K := K) (a := ha) (xs := hv) (fun i H5 => ∃ ys : List Str, H5 D = some (.lst (ys.map V.str)) ∧ ys.map cps = (hs.take i).map (fun h => joinL 32 (wordsH h)) ∧ Same H H5) ⟨[], upd_same, rfl, same_new nD⟩ (fun i H5 _ ⟨_, _, _, s5⟩ => SqT.of (s5 _ _ eh)) ?_ ?_⟩
  · rintro i x H5 hx ⟨ys, hD, ey, s5⟩
    obtain ⟨h, eh2, t, rr, rfl, e1, e2⟩ := alh.getL hx
    have il := (List.getElem?_eq_some_iff.mp eh2).1
    have ly : ys.length ≤ i := by
      have := congrArg List.length ey
      rw [List.length_map, List.length_map, List.length_take] at this
      omega
    refine ⟨t, _, rfl, SqT.of (s5 _ _ e1), rfl, _, _, rfl, _, _, rfl, rfl, rfl, yes_in ⟨_, rfl, _, rfl, rr, h, rfl, s5 _ _ e2, hh h (List.mem_of_getElem? eh2), fun z H6 hz s6 => ⟨_, s6 _ _ hD, by rw [List.length_map]; exact small1000 (by omega), ys ++ [z], ?_, ?_, Same.own (s5.trans s6) nD⟩⟩⟩
    · rw [upd_same, List.map_append]; rfl
    · rw [List.map_append, ey, List.take_add_one, eh2, List.map_append]
      show _ ++ [cps z] = _
      rw [hz]; rfl
  rintro H5 ⟨ys, hD, ey, s5⟩
  rw [lhv, List.take_length] at ey
  have ly : ys.length = hs.length := by
    have := congrArg List.length ey
    rw [List.length_map, List.length_map] at this
    exact this
  refine ⟨_, rfl, .inl ⟨rfl, _, SqL.of hD⟩, _, rfl, ba, rfl, ⟨_, SqT.of (s5 _ _ eb)⟩, fun E nE => lc_tup (K := K) (a := ba) (xs := bv) (fun i H6 => ∃ zs : List Str, H6 E = some (.lst (zs.map V.str)) ∧ zs.map cps = (bs.take i).map (fun b => joinL 32 (wordsB b)) ∧ Same H5 H6) ⟨[], upd_same, rfl, same_new nE⟩ (fun i H6 _ ⟨_, _, _, s6⟩ => SqT.of (s6 _ _ (s5 _ _ eb))) ?_ ?_⟩
  · rintro i x H6 hx ⟨zs, hE, ez, s6⟩
    obtain ⟨b, eb2, t, g, rfl, e1, e2⟩ := alb.getL hx
    have il := (List.getElem?_eq_some_iff.mp eb2).1
    have lz : zs.length ≤ i := by
      have := congrArg List.length ez
      rw [List.length_map, List.length_map, List.length_take] at this
      omega
    have s56 := s5.trans s6
    refine ⟨t, _, rfl, SqT.of (s56 _ _ e1), rfl, _, _, rfl, _, _, rfl, _, _, rfl, rfl, rfl, yes_in ⟨_, rfl, _, rfl, _, rfl, g, b, rfl, s56 _ _ e2, hb b (List.mem_of_getElem? eb2), fun z H7 hz s7 => ⟨_, s7 _ _ hE, by rw [List.length_map]; exact small1000 (by omega), zs ++ [z], ?_, ?_, Same.own (s6.trans s7) nE⟩⟩⟩
    · rw [upd_same, List.map_append]; rfl
    · rw [List.map_append, ez, List.take_add_one, eb2, List.map_append]
      show _ ++ [cps z] = _
      rw [hz]; rfl
  rintro H6 ⟨zs, hE, ez, s6⟩
  rw [lbv, List.take_length] at ez
  have lz : zs.length = bs.length := by
    have := congrArg List.length ez
    rw [List.length_map, List.length_map] at this
    exact this
  have hD6 := s6 _ _ hD
  refine ⟨D, E, _, _, rfl, rfl, hD6, hE, little (by rw [List.length_map, List.length_map]; omega), ?_⟩
  have all : (ys ++ zs).map cps = rowsR hs bs := by
    rw [List.map_append, ey, ez]; rfl
  have bnd : ∀ y ∈ ys ++ zs, y.length ≤ 10504 := fun y hy => by
    have : cps y ∈ rowsR hs bs := by rw [← all]; exact List.mem_map.mpr ⟨y, hy, rfl⟩
    rw [strlen]
    exact rows_len hh hb _ this
  refine ⟨⟨_, rfl⟩, _, rfl, _, D, ys ++ zs, rfl, rfl, .inl (SqL.of ?_), join_ok (B := 10504) (n := 200) "\n" bnd (by rw [List.length_append]; omega) (by decide +kernel), ?_⟩
  · rw [upd_same, List.map_append]
  · refine q _ _ ?_ (Same.own (s5.trans s6) nD)
    unfold TextR
    rw [join_nl, all]
end
theorem ints_val {ns : List Int} {its : List Value} (rv : Vals (ns.map V.int) its) : ∀ i v, its.toArray[i]? = some v → ∃ t, v = Value.int (ns.getD i 0) t := fun i v e => by
  rw [List.getElem?_toArray] at e
  have il : i < ns.length := by
    have h1 := (List.getElem?_eq_some_iff.mp e).1
    have h2 := rv.length
    rw [List.length_map] at h2
    omega
  obtain ⟨u, eu, t, ru⟩ := rv.get (i := i) (x := .int ns[i]) (by rw [List.getElem?_map, List.getElem?_eq_getElem il]; rfl)
  rw [e] at eu
  cases eu
  exact ⟨t, by rw [ru, List.getD_eq_getElem?_getD, List.getElem?_eq_getElem il]; rfl⟩
/-! ### min of a tuple of numbers -/
def rMinT (K : PySem.W.Frag) : List V → Hp → VK → Prop := fun xs H Q => ∃ (a : Addr) (ns : List Int), xs = [.ref a] ∧ SqT K H a (ns.map V.int) ∧ ns ≠ [] ∧ ∀ m, m ∈ ns → (∀ y ∈ ns, m ≤ y) → Q (.int m) H
theorem cr_minT {X : Cx} (K : PySem.W.Frag) (hk : X.K = K) (hc : X.calm = true) : CallR X (.builtin "min") (rMinT K) := by
  subst hk
  intro pins s σ H xs us Q I r h
  obtain ⟨a, ns, rfl, hs, ne, q⟩ := h
  obtain ⟨its, rv, hl, _⟩ := I.tuple hs
  rw [Vals.ref1 r]
  have ln : its.length = ns.length := by rw [← rv.length, List.length_map]
  have pos : 0 < ns.length := List.length_pos_iff.mpr ne
  have size : its.toArray.size = ns.length := by rw [List.size_toArray, ln]
  refine PySem.call_min_walkH (PySem.W.iter_tupleW (A := X.A.in1) (I.ok.hd hc) hl fun z e W st low out up => ?_)
  refine ⟨_, _, _, _, _, _, _, s.heap, (fun i j => decide (ns.getD i 0 < ns.getD j 0)), rfl, W, st, low, by rw [size]; exact pos, out, up, fun i j vi vj s3 Q3 E3 _ p1 p2 q3 => ?_, fun v s' hP m => ?_⟩
  · exact (CmpOf.ints_lt (fun i => ns.getD i 0) (ints_val rv)) i j vi vj s3 Q3 E3 p1 p2 q3
  · obtain ⟨h', tk, rfl, old⟩ := PySem.W.moved_old e rfl m
    obtain ⟨t, rfl⟩ := ints_val rv _ v hP
    obtain ⟨h1, h2⟩ := argBest_lt (fun i => ns.getD i 0) (its.toArray.size - 1)
    have get : ∀ j, j < ns.length → ns.getD j 0 ∈ ns := fun j jl => by
      rw [List.getD_eq_getElem?_getD, List.getElem?_eq_getElem jl]
      exact List.getElem_mem _
    refine ⟨.int _, H, I.kept old, ⟨_, rfl⟩, q _ (get _ (by omega)) fun y hy => ?_⟩
    obtain ⟨j, hj⟩ := List.getElem?_of_mem hy
    have jl := (List.getElem?_eq_some_iff.mp hj).1
    have := h2 j (by omega)
    rwa [show ns.getD j 0 = y by rw [List.getD_eq_getElem?_getD, hj]; rfl] at this
/-! ### rows read -/
def numsO : List (List Nat) → Option (List Int)
  | [] => some []
  | w :: ws => match numO w, numsO ws with
    | some n, some ns => some (n :: ns)
    | _, _ => none
def NumsV : Option (List Int) → Hp → V → Prop
  | none, _, v => v = .non
  | some ns, H, v => ∃ p, v = .ref p ∧ H p = some (.tup (ns.map V.int))
theorem nums_some : ∀ {ws : List (List Nat)} {ns : List Int}, numsO ws = some ns → ws.map (fun w => numV (numO w)) = ns.map V.int
  | [], ns, h => by
    obtain rfl := Option.some.inj h
    rfl
  | w :: ws, ns, h => by
    unfold numsO at h
    cases e1 : numO w with
    | none => rw [e1] at h; cases h
    | some n =>
      cases e2 : numsO ws with
      | none => rw [e1, e2] at h; cases h
      | some m =>
        rw [e1, e2] at h
        obtain rfl := Option.some.inj h
        rw [List.map_cons, List.map_cons, nums_some e2, e1]; rfl
theorem nums_flat (ws : List (List Nat)) : (ws.map (fun w => numV (numO w))).all flatV = true := List.all_eq_true.mpr fun x hx => by
  obtain ⟨w, _, rfl⟩ := List.mem_map.mp hx
  cases numO w <;> rfl
theorem nums_in : ∀ {ws : List (List Nat)}, inV .non (ws.map (fun w => numV (numO w))) = (numsO ws).isNone
  | [] => rfl
  | w :: ws => by
    have ih := nums_in (ws := ws)
    unfold numsO
    rw [List.map_cons]
    cases e1 : numO w with
    | none => rfl
    | some n =>
      show inV .non (V.int n :: ws.map _) = _
      have : inV .non (V.int n :: ws.map (fun w => numV (numO w))) = inV .non (ws.map (fun w => numV (numO w))) := rfl
      rw [this, ih]
      cases numsO ws <;> rfl
def handN (w : Str) : Option (List Int) → Option (Str × List Int × Int)
  | none => none
  | some ns => match ns.getLast? with
    | none => none
    | some m => if m < 0 then none else if ruleB w ns.dropLast = true then some (w, ns.dropLast, m) else none
theorem cut_13 (x0 a b c : V) (r : List V) : cutV (x0 :: a :: b :: c :: r) (some 1) (some 3) = [a, b] := by
  unfold cutV
  rw [show (1 : Int) = ((1 : Nat) : Int) from rfl, show (3 : Int) = ((3 : Nat) : Int) from rfl, HT.sIx_nat, HT.sIx_nat, Nat.min_eq_left (by simp), Nat.min_eq_left (by simp)]
  rfl
/-- the hand that a row's words write -/
def handO : List Str → Option (Str × List Int × Int)
  | w0 :: w1 :: rest => if w0 = "hand" then handN w1 (numsO (rest.map cps)) else none
  | _ => none
theorem handO_cons (w0 w1 : Str) (rest : List Str) : handO (w0 :: w1 :: rest) = if w0 = "hand" then handN w1 (numsO (rest.map cps)) else none := rfl
theorem handN_snoc (w : Str) (ns : List Int) (m : Int) : handN w (some (ns ++ [m])) = if m < 0 then none else if ruleB w ns = true then some (w, ns, m) else none := by
  have e : (ns ++ [m]).getLast? = some m := by simp
  show (match (ns ++ [m]).getLast? with | none => none | some k => if k < 0 then none else if ruleB w (ns ++ [m]).dropLast = true then some (w, (ns ++ [m]).dropLast, k) else none) = _
  rw [e, List.dropLast_concat]
theorem nums_len : ∀ {ws : List (List Nat)} {ns : List Int}, numsO ws = some ns → ns.length = ws.length := fun {ws ns} h => by
  have := congrArg List.length (nums_some h)
  rw [List.length_map, List.length_map] at this
  exact this.symm
theorem cut_last (xs : List V) (x : V) : cutV (xs ++ [x]) none (some (-1)) = xs := by
  unfold cutV
  have e : HT.sIx (xs ++ [x]).length (xs ++ [x]).length (some (-1)) = xs.length := by
    show (if (-1 : Int) < 0 then ((-1 : Int) + ((xs ++ [x]).length : Int)).toNat else min (-1 : Int).toNat (xs ++ [x]).length) = _
    rw [if_pos (by decide), List.length_append]
    show ((-1 : Int) + ((xs.length + 1 : Nat) : Int)).toNat = _
    omega
  rw [e, HT.sIx_none, List.drop_zero, Nat.sub_zero]
  exact List.take_left' rfl
section
variable {P : Program} {w : World} {K : PySem.W.Frag} {mg : Str → Option Value} {base : Heap}
variable {cN : Addr} {PT : Addr × Addr × Addr} [TN : TabN K mg base cN PT]
include TN
def sp_numbers_of (K : PySem.W.Frag) (PT : Addr × Addr × Addr) : Sp := fun vs H Q _ => ∃ (l : Addr) (ws : List Str), vs = [.ref l] ∧ H l = some (.lst (ws.map V.str)) ∧ (∀ w ∈ ws, w.length ≤ 1000) ∧ ws.length ≤ 1000 ∧ Tb2 PT H ∧ ∀ v H', LamX.ExtN H H' → Tb2 PT H' → NumsV (numsO (ws.map cps)) H' v → Q v H'
theorem ok_numbers_of {f : Addr} {fd : FuncData} (F : Fun K "numbers_of" "numbers_of" s_numbers_of f fd) (T : Top w K mg) : FnOk P w K mg base CX0 3 f fd ["words"] (sp_numbers_of K PT) := by
  obtain ⟨f_number_of, fd_number_of, F_number_of, b_number_of, m_number_of⟩ := T.d_number_of
  have G_number_of := ok_number_of (P := P) (w := w) (base := base) F_number_of (TN.cd _ _ F_number_of m_number_of) T
  refine F.ok sc_numbers_of (fun vs H Q E h => ?_) (fun cdv A outer s H vs Q E hr h => ?_)
  · obtain ⟨l, ws, rfl, _⟩ := h
    rfl
  obtain ⟨l, ws, rfl, hl, lw, ln, tb, q⟩ := h
  refine ⟨_, (pss_cons (ps_set (i := 1) sc_numbers_of.nd rfl (Or.inl rfl) (pe_callTy (call_tuple_ofK K rfl) (by rfl) T.m_tuple (by decide +kernel) (pa_cons (pe_lc (own := [("word", 2)]) (g := gName 2) (tt := tYes) (by rfl) sc_numbers_of.nd (pi_listK K rfl (pv 0)) (blkOk_by (own := [("word", 2)]) (N := N_numbers_of) (sc := defScope s_numbers_of) (by decide +kernel)) (fun _ _ _ _ _ => (pg_name (i := 2) sc_numbers_of.nd rfl (Or.inl rfl))) (fun _ _ _ _ _ => pts_nil) (fun _ _ _ _ _ => (pe_call G_number_of (hr.mono (by decide)) (by rfl) m_number_of F_number_of.kp b_number_of .nil pass0 (pa_cons (pv 2) pa_nil)))) pa_nil)))
      (pss_one (ps_ret (pe_ifExp (pt_cmpR (op_in_seqK K rfl) pe_non (pv 1) (by with_unfolding_all rfl)) pe_non (pv 1))))), ?_⟩
  refine ⟨_, rfl, l, rfl, ⟨_, SqL.of hl⟩, fun D nD => lc_list (K := K) (a := l) (xs := ws.map V.str) (fun i H5 => H5 D = some (.lst ((ws.take i).map fun w => numV (numO (cps w)))) ∧ LamX.ExtN H H5 ∧ Tb2 PT H5) ⟨upd_same, ext_same (same_new nD), tb.same (same_new nD)⟩ (fun i H5 _ ⟨_, e5, _⟩ => SqL.of (ExtN.lst e5 hl)) ?_ ?_⟩
  · rintro i x H5 hx ⟨hD, e5, t5⟩
    rw [List.getElem?_map] at hx
    cases en : ws[i]? with
    | none => rw [en] at hx; cases hx
    | some a =>
    rw [en] at hx
    obtain rfl : V.str a = x := Option.some.inj hx
    have il := (List.getElem?_eq_some_iff.mp en).1
    refine ⟨rfl, yes_in ⟨_, rfl, a, rfl, lw a (List.mem_of_getElem? en), t5, fun H6 e6 t6 => ⟨_, ExtN.lst e6 hD, by rw [List.length_map, List.length_take]; exact little (by omega), ?_, ExtN.own (e5.trans e6) nD, t6.lst (ExtN.lst e6 hD)⟩⟩⟩
    rw [upd_same, List.take_add_one, en, List.map_append]; rfl
  rintro H5 ⟨hD, e5, t5⟩
  rw [List.length_map, List.take_length] at hD
  refine ⟨D, _, rfl, .inl ⟨SqL.of hD, fun p np => ?_⟩⟩
  have u6 := same_new (o := .tup (ws.map fun w => numV (numO (cps w)))) np
  have e6 := e5.trans (ext_same u6)
  have t6 := t5.same u6
  have hp : (upd H5 p (.tup (ws.map fun w => numV (numO (cps w))))) p = some (.tup ((ws.map cps).map fun w => numV (numO w))) := by rw [upd_same, List.map_map]; rfl
  generalize upd H5 p (.tup (ws.map fun w => numV (numO (cps w)))) = H6 at e6 t6 hp ⊢
  refine ⟨_, rfl, p, _, rfl, .inr (SqT.of hp), rfl, nums_flat _, _, rfl, ?_⟩
  rw [if_neg Bool.false_ne_true, nums_in]
  cases hn : numsO (ws.map cps) with
  | none =>
    exact q _ _ e6 t6 (by rw [hn]; rfl)
  | some ns =>
    refine if_bl (fun z => nomatch z) (fun _ => ?_)
    exact ⟨_, rfl, q _ _ e6 t6 (by rw [hn]; exact ⟨p, rfl, by rw [hp, nums_some hn]⟩)⟩
def HandV : Option (Str × List Int × Int) → Hp → V → Prop
  | none, _, v => v = .non
  | some (w, ns, m), H, v => ∃ t r, v = .ref t ∧ H t = some (.tup [.ref r, .int m]) ∧ H r = some (.tup (.str w :: ns.map V.int))
def sp_hand_of (K : PySem.W.Frag) (PT : Addr × Addr × Addr) : Sp := fun vs H Q _ => ∃ (l : Addr) (ws : List Str), vs = [.ref l] ∧ H l = some (.lst (ws.map V.str)) ∧ (∀ w ∈ ws, w.length ≤ 1000) ∧ ws.length ≤ 1000 ∧ ws ≠ [] ∧ Tb2 PT H ∧ ∀ v H', LamX.ExtN H H' → Tb2 PT H' → HandV (handO ws) H' v → Q v H'
theorem ok_hand_of {f : Addr} {fd : FuncData} (F : Fun K "hand_of" "hand_of" s_hand_of f fd) (T : Top w K mg) : FnOk P w K mg base CX0 4 f fd ["words"] (sp_hand_of K PT) := by
  obtain ⟨f_numbers_of, fd_numbers_of, F_numbers_of, b_numbers_of, m_numbers_of⟩ := T.d_numbers_of
  have G_numbers_of := ok_numbers_of (P := P) (w := w) (base := base) F_numbers_of T
  obtain ⟨f_is_rule, fd_is_rule, F_is_rule, b_is_rule, m_is_rule⟩ := T.d_is_rule
  have G_is_rule := ok_is_rule (P := P) (w := w) (base := base) F_is_rule T
  refine F.ok sc_hand_of (fun vs H Q E h => ?_) (fun cdv A outer s H vs Q E hr h => ?_)
  · obtain ⟨l, ws, rfl, _⟩ := h
    rfl
  obtain ⟨l, ws, rfl, hl, lw, ln, ne, tb, q⟩ := h
  refine ⟨_, (pss_cons (ps_if (PW.pt (pw_or (pt_cmpR op_ne (pe_ix (ix_listK K rfl) (pv 0) pe_int (fun _ _ => rfl)) pe_str (nomark _)) (pw_or1 (pt_cmpR op_lt (pe_callB (call_len_seqK K rfl) (by rfl) T.m_len (by decide +kernel) (pa_cons (pv 0) pa_nil)) pe_int (nomark _))))) (pss_one (ps_ret pe_non)) pss_nil)
      (pss_cons (ps_set (i := 1) sc_hand_of.nd rfl (Or.inl rfl) (pe_call G_numbers_of (hr.mono (by decide)) (by rfl) m_numbers_of F_numbers_of.kp b_numbers_of .nil pass0 (pa_cons (pe_slice (sl_listK K rfl) (pv 0) (po_some pe_int) po_none) pa_nil)))
      (pss_cons (ps_if (PW.pt (pw_or (pt_cmpR op_isN (pv 1) pe_non (nomark _)) (pw_or1 (pt_cmpR op_lt (pe_ix (ix_tupK K rfl) (pv 1) (pe_un un_neg pe_int) (fun _ _ => rfl)) pe_int (nomark _))))) (pss_one (ps_ret pe_non)) pss_nil)
      (pss_cons (ps_set (i := 2) sc_hand_of.nd rfl (Or.inl rfl) (pe_op (op_catAK K rfl) (pe_tup (pa_cons (pe_ix (ix_listK K rfl) (pv 0) pe_int (fun _ _ => rfl)) pa_nil)) (pe_slice (sl_tupAK K rfl) (pv 1) po_none (po_some (pe_un un_neg pe_int)))))
      (pss_one (ps_ret (pe_ifExp (pt_val (pe_call G_is_rule (hr.mono (by decide)) (by rfl) m_is_rule F_is_rule.kp b_is_rule .nil pass0 (pa_cons (pv 2) pa_nil))) (pe_tup (pa_cons (pv 2) (pa_cons (pe_ix (ix_tupK K rfl) (pv 1) (pe_un un_neg pe_int) (fun _ _ => rfl)) pa_nil))) pe_non))))))), ?_⟩
  obtain ⟨w0, ws1, rfl⟩ : ∃ w0 ws1, ws = w0 :: ws1 := by
    cases ws with
    | nil => exact absurd rfl ne
    | cons a b => exact ⟨a, b, rfl⟩
  refine ⟨_, rfl, l, _, _, _, rfl, rfl, SqL.of hl, atI_nat (j := 0) rfl, rfl, _, rfl, if_bl (fun z => ?_) (fun z => ?_)⟩
  · have z : ¬ w0 = "hand" := fun y => by
      rw [y] at z
      revert z
      simp
    refine q _ _ (LamX.ExtN.refl H) tb ?_
    have e : handO (w0 :: ws1) = none := by
      cases ws1 with
      | nil => rfl
      | cons w1 r => rw [handO_cons, if_neg z]
    rw [e]; rfl
  have z : w0 = "hand" := by
    by_cases y : w0 = "hand"
    · exact y
    · rw [decide_eq_false (fun x => y (V.str.inj x))] at z
      cases z
  subst z
  refine ⟨_, rfl, l, _, rfl, .inl (SqL.of hl), _, _, rfl, rfl, _, rfl, if_bl (fun z => ?_) (fun z => ?_)⟩
  · have z := of_decide_eq_true z
    refine q _ _ (LamX.ExtN.refl H) tb ?_
    have e : handO ("hand" :: ws1) = none := by
      match ws1, z with
      | [], _ => rfl
      | [w1], _ => rfl
      | _ :: _ :: _, z =>
        rw [List.length_map, List.length_cons, List.length_cons, List.length_cons] at z
        omega
    rw [e]; rfl
  have z := of_decide_eq_false z
  obtain ⟨w1, rest, rfl⟩ : ∃ w1 rest, ws1 = w1 :: rest := by
    cases ws1 with
    | nil => exact absurd (by decide) z
    | cons a b => exact ⟨a, b, rfl⟩
  rw [List.length_map, List.length_cons, List.length_cons] at z
  refine ⟨_, rfl, _, rfl, l, _, rfl, SqL.of hl, fun p np => ?_⟩
  rw [show (2 : Int) = ((2 : Nat) : Int) from rfl, cut_drop]
  have u1 := same_new (o := .lst (List.drop 2 (List.map V.str ("hand" :: w1 :: rest)))) np
  have hp : (upd H p (.lst (List.drop 2 (List.map V.str ("hand" :: w1 :: rest))))) p = some (.lst (rest.map V.str)) := upd_same
  generalize upd H p (.lst (List.drop 2 (List.map V.str ("hand" :: w1 :: rest)))) = H1 at u1 hp ⊢
  have lw2 : ∀ w ∈ rest, w.length ≤ 1000 := fun w hw => lw w (List.mem_cons_of_mem _ (List.mem_cons_of_mem _ hw))
  rw [List.length_cons, List.length_cons] at ln
  refine ⟨p, rest, rfl, hp, lw2, by omega, tb.same u1, fun v H2 e2 t2 nv => ?_⟩
  have e12 := (ext_same u1).trans e2
  have hl2 := ExtN.lst e12 hl
  cases hn : numsO (rest.map cps) with
  | none =>
    rw [hn] at nv
    obtain rfl : v = .non := nv
    refine ⟨_, rfl, rfl, _, rfl, if_bl (fun _ => ?_) (fun z => absurd rfl (of_decide_eq_false z))⟩
    refine q _ _ e12 t2 ?_
    rw [handO_cons, if_pos rfl, hn]; rfl
  | some ns =>
    rw [hn] at nv
    obtain ⟨g, rfl, hg⟩ := nv
    refine ⟨_, rfl, rfl, _, rfl, if_bl (fun z => absurd (of_decide_eq_true z) (fun y => nomatch y)) (fun _ => ?_)⟩
    have lns := nums_len hn
    rw [List.length_map] at lns
    obtain ⟨init, m, rfl⟩ : ∃ init m, ns = init ++ [m] := by
      rcases List.eq_nil_or_concat ns with rfl | ⟨a, b, e⟩
      · exfalso
        have : ([] : List Int).length = 0 := rfl
        omega
      · exact ⟨a, b, by rw [e, List.concat_eq_append]⟩
    have eO : handO ("hand" :: w1 :: rest) = if m < 0 then none else if ruleB w1 init = true then some (w1, init, m) else none := by
      rw [handO_cons, if_pos rfl, hn, handN_snoc]
    rw [List.map_append] at hg
    have hg : H2 g = some (.tup (init.map V.int ++ [V.int m])) := hg
    refine ⟨_, rfl, 1, rfl, g, _, -1, _, rfl, rfl, SqT.of hg, atI_last _ _, _, _, rfl, rfl, _, rfl, if_bl (fun z => ?_) (fun z => ?_)⟩
    · refine q _ _ e12 t2 ?_
      rw [eO, if_pos (of_decide_eq_true z)]; rfl
    rw [if_neg (of_decide_eq_false z)] at eO
    refine ⟨_, rfl, l, _, _, _, rfl, rfl, SqL.of hl2, atI_nat (j := 1) rfl, (by show 1 ≤ sizeLine; decide), fun t1 nt1 => ?_⟩
    have u3 := same_new (o := .tup [V.str w1]) nt1
    have ht1 : (upd H2 t1 (.tup [V.str w1])) t1 = some (.tup [V.str w1]) := upd_same
    generalize upd H2 t1 (.tup [V.str w1]) = H3 at u3 ht1 ⊢
    refine ⟨_, rfl, ?_⟩
    dsimp only [tNoPart]
    refine ⟨1, rfl, _, rfl, slA_of (u3 _ _ hg) fun p4 H4 h4 s4 => ?_⟩
    rw [show (-(1 : Int)) = -1 from rfl, cut_last] at h4
    have linit : init.length ≤ 1000 := by
      rw [List.length_append] at lns
      omega
    refine catA_of (s4 _ _ ht1) h4 (by rw [List.length_map]; show 1 + _ ≤ 1000; rw [List.length_append] at lns; have : ([m] : List Int).length = 1 := rfl; omega) fun p5 H5 h5 s5 => ?_
    have h5 : H5 p5 = some (.tup (.str w1 :: init.map V.int)) := h5
    have u35 := u3.trans (s4.trans s5)
    have e15 := e12.trans (ext_same u35)
    have t5 := t2.same u35
    refine ⟨_, rfl, p5, w1, init, rfl, h5, fun b hb => ⟨_, rfl, if_bl (fun z => ?_) (fun z => ?_)⟩⟩
    · have z : ruleB w1 init = true := by rw [← hb]; exact z
      rw [if_pos z] at eO
      refine ⟨_, rfl, _, rfl, 1, rfl, g, _, -1, _, rfl, rfl, SqT.of (u35 _ _ hg), atI_last _ _, (by show 2 ≤ sizeLine; decide), fun p6 np6 => ?_⟩
      have u6 := same_new (o := .tup [V.ref p5, V.int m]) np6
      refine q _ _ (e15.trans (ext_same u6)) (t5.same u6) ?_
      rw [eO]
      exact ⟨p6, p5, rfl, upd_same, u6 _ _ h5⟩
    · have z : ¬ ruleB w1 init = true := by
        rw [← hb, z]
        exact Bool.false_ne_true
      rw [if_neg z] at eO
      exact q _ _ e15 t5 (by rw [eO]; rfl)
/-- the belt that a row's words write -/
def beltN : Option (List Int) → Option (List Int) → Option (Int × Int × List Int)
  | some [x, y], some ts => if (if y < x then y else x) < 0 then none else some (x, y, ts)
  | _, _ => none
def beltO : List Str → Option (Int × Int × List Int)
  | w0 :: a :: b :: c :: rest => if w0 = "belt" ∧ c = ":" then beltN (numsO [cps a, cps b]) (numsO (rest.map cps)) else none
  | _ => none
def BeltV : Option (Int × Int × List Int) → Hp → V → Prop
  | none, _, v => v = .non
  | some (x, y, ts), H, v => ∃ t g, v = .ref t ∧ H t = some (.tup [.int x, .int y, .ref g]) ∧ H g = some (.tup (ts.map V.int))
def sp_belt_of (K : PySem.W.Frag) (PT : Addr × Addr × Addr) : Sp := fun vs H Q _ => ∃ (l : Addr) (ws : List Str), vs = [.ref l] ∧ H l = some (.lst (ws.map V.str)) ∧ (∀ w ∈ ws, w.length ≤ 1000) ∧ ws.length ≤ 1000 ∧ ws ≠ [] ∧ Tb2 PT H ∧ ∀ v H', LamX.ExtN H H' → Tb2 PT H' → BeltV (beltO ws) H' v → Q v H'
theorem ok_belt_of {f : Addr} {fd : FuncData} (F : Fun K "belt_of" "belt_of" s_belt_of f fd) (T : Top w K mg) : FnOk P w K mg base CX0 4 f fd ["words"] (sp_belt_of K PT) := by
  obtain ⟨f_numbers_of, fd_numbers_of, F_numbers_of, b_numbers_of, m_numbers_of⟩ := T.d_numbers_of
  have G_numbers_of := ok_numbers_of (P := P) (w := w) (base := base) F_numbers_of T
  refine F.ok sc_belt_of (fun vs H Q E h => ?_) (fun cdv A outer s H vs Q E hr h => ?_)
  · obtain ⟨l, ws, rfl, _⟩ := h
    rfl
  obtain ⟨l, ws, rfl, hl, lw, ln, ne, tb, q⟩ := h
  refine ⟨_, (pss_cons (ps_if (PW.pt (pw_or (pt_cmpR op_ne (pe_ix (ix_listK K rfl) (pv 0) pe_int (fun _ _ => rfl)) pe_str (nomark _)) (pw_or (pt_cmpR op_lt (pe_callB (call_len_seqK K rfl) (by rfl) T.m_len (by decide +kernel) (pa_cons (pv 0) pa_nil)) pe_int (nomark _)) (pw_or1 (pt_cmpR op_ne (pe_ix (ix_listK K rfl) (pv 0) pe_int (fun _ _ => rfl)) pe_str (nomark _)))))) (pss_one (ps_ret pe_non)) pss_nil)
      (pss_cons (ps_set (i := 1) sc_belt_of.nd rfl (Or.inl rfl) (pe_call G_numbers_of (hr.mono (by decide)) (by rfl) m_numbers_of F_numbers_of.kp b_numbers_of .nil pass0 (pa_cons (pe_slice (sl_listK K rfl) (pv 0) (po_some pe_int) (po_some pe_int)) pa_nil)))
      (pss_cons (ps_set (i := 2) sc_belt_of.nd rfl (Or.inl rfl) (pe_call G_numbers_of (hr.mono (by decide)) (by rfl) m_numbers_of F_numbers_of.kp b_numbers_of .nil pass0 (pa_cons (pe_slice (sl_listK K rfl) (pv 0) (po_some pe_int) po_none) pa_nil)))
      (pss_cons (ps_if (PW.pt (pw_or (pt_cmpR op_isN (pv 1) pe_non (nomark _)) (pw_or (pt_cmpR op_isN (pv 2) pe_non (nomark _)) (pw_or1 (pt_cmpR op_lt (pe_callB (cr_minT K rfl rfl) (by rfl) T.m_min (by decide +kernel) (pa_cons (pv 1) pa_nil)) pe_int (nomark _)))))) (pss_one (ps_ret pe_non)) pss_nil)
      (pss_one (ps_ret (pe_tup (pa_cons (pe_ix (ix_tupK K rfl) (pv 1) pe_int (fun _ _ => rfl)) (pa_cons (pe_ix (ix_tupK K rfl) (pv 1) pe_int (fun _ _ => rfl)) (pa_cons (pv 2) pa_nil)))))))))), ?_⟩
  obtain ⟨w0, ws1, rfl⟩ : ∃ w0 ws1, ws = w0 :: ws1 := by
    cases ws with
    | nil => exact absurd rfl ne
    | cons a b => exact ⟨a, b, rfl⟩
  have no : beltO (w0 :: ws1) = none → Q .non H := fun e => q _ _ (LamX.ExtN.refl H) tb (by rw [e]; rfl)
  have ofS : ∀ {u v : Str}, (!decide (V.str u = V.str v)) = true → ¬ u = v := fun {u v} z y => by
    rw [y] at z
    revert z
    simp
  have toS : ∀ {u v : Str}, (!decide (V.str u = V.str v)) = false → u = v := fun {u v} z => by
    by_cases y : u = v
    · exact y
    · rw [decide_eq_false (fun x => y (V.str.inj x))] at z
      cases z
  refine ⟨_, rfl, l, _, _, _, rfl, rfl, SqL.of hl, atI_nat (j := 0) rfl, rfl, _, rfl, if_bl (fun z => ?_) (fun z => ?_)⟩
  · have z := ofS z
    refine no ?_
    match ws1 with
    | [] => rfl
    | [_] => rfl
    | [_, _] => rfl
    | a :: b :: c :: r => exact if_neg fun y => z y.1
  obtain rfl := toS z
  refine ⟨_, rfl, l, _, rfl, .inl (SqL.of hl), _, _, rfl, rfl, _, rfl, if_bl (fun z => ?_) (fun z => ?_)⟩
  · have z := of_decide_eq_true z
    refine no ?_
    match ws1, z with
    | [], _ => rfl
    | [_], _ => rfl
    | [_, _], _ => rfl
    | _ :: _ :: _ :: _, z =>
      rw [List.length_map, List.length_cons, List.length_cons, List.length_cons, List.length_cons] at z
      omega
  have z := of_decide_eq_false z
  obtain ⟨a, b, c, rest, rfl⟩ : ∃ a b c rest, ws1 = a :: b :: c :: rest := by
    match ws1, z with
    | [], z => exact absurd (by decide) z
    | [_], z => exact absurd (by show (2 : Int) < 4; decide) z
    | [_, _], z => exact absurd (by show (3 : Int) < 4; decide) z
    | a :: b :: c :: r, _ => exact ⟨a, b, c, r, rfl⟩
  have eO : beltO ("belt" :: a :: b :: c :: rest) = if ("belt" : Str) = "belt" ∧ c = ":" then beltN (numsO [cps a, cps b]) (numsO (rest.map cps)) else none := rfl
  refine ⟨_, rfl, l, _, _, _, rfl, rfl, SqL.of hl, atI_nat (j := 3) rfl, rfl, _, rfl, if_bl (fun z => ?_) (fun z => ?_)⟩
  · have z := ofS z
    exact no (eO.trans (if_neg fun y => z y.2))
  obtain rfl := toS z
  rw [if_pos ⟨rfl, rfl⟩] at eO
  clear no
  have lw3 : ∀ w ∈ [a, b], w.length ≤ 1000 := fun w hw => lw w (List.mem_cons_of_mem _ (by
    rcases List.mem_cons.mp hw with rfl | hw
    · exact List.mem_cons_self ..
    · rw [List.mem_singleton.mp hw]; exact List.mem_cons_of_mem _ (List.mem_cons_self ..)))
  have lw4 : ∀ w ∈ rest, w.length ≤ 1000 := fun w hw => lw w (List.mem_cons_of_mem _ (List.mem_cons_of_mem _ (List.mem_cons_of_mem _ (List.mem_cons_of_mem _ hw))))
  rw [List.length_cons, List.length_cons, List.length_cons, List.length_cons] at ln
  refine ⟨_, rfl, _, rfl, _, rfl, l, _, rfl, SqL.of hl, fun p np => ?_⟩
  have c13 : cutV (List.map V.str ("belt" :: a :: b :: ":" :: rest)) (some 1) (some 3) = [a, b].map V.str := cut_13 _ _ _ _ _
  rw [c13]
  have u1 := same_new (o := .lst ([a, b].map V.str)) np
  have hp : (upd H p (.lst ([a, b].map V.str))) p = some (.lst ([a, b].map V.str)) := upd_same
  generalize upd H p (.lst ([a, b].map V.str)) = H1 at u1 hp ⊢
  refine ⟨p, [a, b], rfl, hp, lw3, (by show 2 ≤ 1000; decide), tb.same u1, fun v1 H2 e2 t2 nv1 => ?_⟩
  have e12 := (ext_same u1).trans e2
  have hl2 := ExtN.lst e12 hl
  refine ⟨_, rfl, _, rfl, l, _, rfl, SqL.of hl2, fun p2 np2 => ?_⟩
  rw [show (4 : Int) = ((4 : Nat) : Int) from rfl, cut_drop]
  have u3 := same_new (o := .lst (List.drop 4 (List.map V.str ("belt" :: a :: b :: ":" :: rest)))) np2
  have hp2 : (upd H2 p2 (.lst (List.drop 4 (List.map V.str ("belt" :: a :: b :: ":" :: rest))))) p2 = some (.lst (rest.map V.str)) := upd_same
  generalize upd H2 p2 (.lst (List.drop 4 (List.map V.str ("belt" :: a :: b :: ":" :: rest)))) = H3 at u3 hp2 ⊢
  refine ⟨p2, rest, rfl, hp2, lw4, by omega, t2.same u3, fun v2 H4 e4 t4 nv2 => ?_⟩
  have e24 := (ext_same u3).trans e4
  have e14 := e12.trans e24
  have eM : [a, b].map cps = [cps a, cps b] := rfl
  rw [eM] at nv1
  cases hn1 : numsO [cps a, cps b] with
  | none =>
    rw [hn1] at nv1
    obtain rfl : v1 = .non := nv1
    refine ⟨_, rfl, rfl, _, rfl, if_bl (fun _ => ?_) (fun z => absurd rfl (of_decide_eq_false z))⟩
    exact q _ _ e14 t4 (by rw [eO, hn1]; rfl)
  | some es =>
    rw [hn1] at nv1
    obtain ⟨g1, rfl, hg1⟩ := nv1
    refine ⟨_, rfl, rfl, _, rfl, if_bl (fun z => absurd (of_decide_eq_true z) (fun y => nomatch y)) (fun _ => ?_)⟩
    have les := nums_len hn1
    obtain ⟨x, y, rfl⟩ : ∃ x y, es = [x, y] := by
      match es, les with
      | [x, y], _ => exact ⟨x, y, rfl⟩
    cases hn2 : numsO (rest.map cps) with
    | none =>
      rw [hn2] at nv2
      obtain rfl : v2 = .non := nv2
      refine ⟨_, rfl, rfl, _, rfl, if_bl (fun _ => ?_) (fun z => absurd rfl (of_decide_eq_false z))⟩
      exact q _ _ e14 t4 (by rw [eO, hn1, hn2]; rfl)
    | some ts =>
      rw [hn2] at nv2
      obtain ⟨g2, rfl, hg2⟩ := nv2
      refine ⟨_, rfl, rfl, _, rfl, if_bl (fun z => absurd (of_decide_eq_true z) (fun y => nomatch y)) (fun _ => ?_)⟩
      have hg14 := tk_ext e24 _ _ hg1
      refine ⟨_, rfl, g1, [x, y], rfl, SqT.of hg14, List.cons_ne_nil _ _, fun mn hm hall => ?_⟩
      have em : mn = if y < x then y else x := by
        have h1 := hall x (List.mem_cons_self ..)
        have h2 := hall y (List.mem_cons_of_mem _ (List.mem_cons_self ..))
        rcases List.mem_cons.mp hm with rfl | hm
        · split <;> omega
        · have := List.mem_singleton.mp hm
          split <;> omega
      have eO2 : beltO ("belt" :: a :: b :: ":" :: rest) = if (if y < x then y else x) < 0 then none else some (x, y, ts) := by rw [eO, hn1, hn2]; rfl
      rw [← em] at eO2
      refine ⟨_, _, rfl, rfl, _, rfl, if_bl (fun z => ?_) (fun z => ?_)⟩
      · refine q _ _ e14 t4 ?_
        rw [eO2, if_pos (of_decide_eq_true z)]; rfl
      · rw [if_neg (of_decide_eq_false z)] at eO2
        refine ⟨_, rfl, g1, _, _, _, rfl, rfl, SqT.of hg14, atI_nat (j := 0) rfl, _, rfl, g1, _, _, _, rfl, rfl, SqT.of hg14, atI_nat (j := 1) rfl, _, rfl, (by show 3 ≤ sizeLine; decide), fun p6 np6 => ?_⟩
        have u6 := same_new (o := .tup [V.int x, V.int y, V.ref g2]) np6
        refine q _ _ (e14.trans (ext_same u6)) (t4.same u6) ?_
        rw [eO2]
        exact ⟨p6, g2, rfl, upd_same, u6 _ _ hg2⟩
end
/-! ### texts of rooms read -/
def NumR (n : Int) : Prop := -1000000000 < n ∧ n < 1000000000
theorem NumR.num {n : Int} (h : NumR n) : Num n := ⟨by have := h.1; omega, by have := h.2; omega⟩
structure HandR (h : HR) : Prop where
  good : GoodHand h
  no : ∀ n ∈ noL h, NumR n
  mom : NumR h.mom
theorem eleven_len {z : Str} (h : z ∈ eleven) : z.length ≤ 100 ∧ (∀ c ∈ cps z, c ≠ 10 ∧ c ≠ 32) := by
  unfold eleven at h
  simp only [List.mem_cons, List.not_mem_nil, or_false] at h
  rcases h with h | h | h | h | h | h | h | h | h | h | h <;> rw [h] <;> exact ⟨by decide +kernel, by decide +kernel⟩
theorem HandR.w {h : HR} (r : HandR h) : HandW h := ⟨(eleven_len r.good.eleven).1, fun n hn => (r.no n hn).num, r.mom.num⟩
def BeltR (b : BR) : Prop := ∀ x ∈ b.th, NumR x
theorem joinL_not {c d : Nat} (ne : c ≠ d) : ∀ {ps : List (List Nat)}, (∀ p ∈ ps, c ∉ p) → c ∉ joinL d ps
  | [], _, h => nomatch h
  | [p], g, h => g p (List.mem_cons_self ..) h
  | p :: q :: r, g, h => by
    have h : c ∈ p ++ d :: joinL d (q :: r) := h
    rcases List.mem_append.mp h with z | z
    · exact g p (List.mem_cons_self ..) z
    · rcases List.mem_cons.mp z with z | z
      · exact ne z
      · exact joinL_not ne (ps := q :: r) (fun x hx => g x (List.mem_cons_of_mem _ hx)) z
theorem numL_no {n : Int} {c : Nat} (h : c < 45) : c ∉ numL n := fun z => by
  rcases numL_signs z with rfl | ⟨_, _⟩ <;> omega
theorem wordsH_no {h : HR} (g : GoodHand h) : ∀ p ∈ wordsH h, 10 ∉ p ∧ 32 ∉ p := fun p hp => by
  rcases List.mem_cons.mp hp with rfl | hp
  · exact ⟨by decide +kernel, by decide +kernel⟩
  rcases List.mem_cons.mp hp with rfl | hp
  · exact ⟨fun z => ((eleven_len g.eleven).2 _ z).1 rfl, fun z => ((eleven_len g.eleven).2 _ z).2 rfl⟩
  obtain ⟨n, _, rfl⟩ := List.mem_map.mp hp
  exact ⟨numL_no (by decide), numL_no (by decide)⟩
theorem wordsB_no (b : BR) : ∀ p ∈ wordsB b, 10 ∉ p ∧ 32 ∉ p := fun p hp => by
  rcases List.mem_cons.mp hp with rfl | hp
  · exact ⟨by decide +kernel, by decide +kernel⟩
  rcases List.mem_cons.mp hp with rfl | hp
  · exact ⟨numL_no (by decide), numL_no (by decide)⟩
  rcases List.mem_cons.mp hp with rfl | hp
  · exact ⟨numL_no (by decide), numL_no (by decide)⟩
  rcases List.mem_cons.mp hp with rfl | hp
  · exact ⟨by decide +kernel, by decide +kernel⟩
  obtain ⟨n, _, rfl⟩ := List.mem_map.mp hp
  exact ⟨numL_no (by decide), numL_no (by decide)⟩
theorem rows_no {hs : List HR} {bs : List BR} (hh : ∀ h ∈ hs, GoodHand h) : ∀ p ∈ rowsR hs bs, 10 ∉ p ∧ p ≠ [] := fun p hp => by
  rcases List.mem_append.mp hp with z | z
  · obtain ⟨h, hm, rfl⟩ := List.mem_map.mp z
    refine ⟨joinL_not (by decide) fun x hx => (wordsH_no (hh h hm) x hx).1, ?_⟩
    have e : cps "hand" ≠ [] := by decide +kernel
    unfold wordsH
    rw [joinL_flat]
    exact fun y => e (List.append_eq_nil_iff.mp y).1
  · obtain ⟨b, hm, rfl⟩ := List.mem_map.mp z
    refine ⟨joinL_not (by decide) fun x hx => (wordsB_no b x hx).1, ?_⟩
    have e : cps "belt" ≠ [] := by decide +kernel
    unfold wordsB
    rw [joinL_flat]
    exact fun y => e (List.append_eq_nil_iff.mp y).1
theorem joinL_nil {c : Nat} : ∀ {ps : List (List Nat)}, (∀ p ∈ ps, p ≠ []) → joinL c ps = [] → ps = []
  | [], _, _ => rfl
  | [p], g, h => absurd h (g p (List.mem_cons_self ..))
  | p :: q :: r, g, h => by
    have h : p ++ c :: joinL c (q :: r) = [] := h
    exact absurd (List.append_eq_nil_iff.mp h).1 (g p (List.mem_cons_self ..))
theorem nums_read : ∀ {ns : List Int}, (∀ n ∈ ns, NumR n) → numsO (ns.map numL) = some ns
  | [], _ => rfl
  | n :: ns, h => by
    have h1 := h n (List.mem_cons_self ..)
    have ih := nums_read fun m hm => h m (List.mem_cons_of_mem _ hm)
    show (match numO (numL n), numsO (ns.map numL) with | some n, some ns => some (n :: ns) | _, _ => none) = _
    rw [numL_reads h1.1 h1.2, ih]
theorem nums_not : ∀ {ns : List Int}, (∃ n ∈ ns, ¬ NumR n) → numsO (ns.map numL) = none
  | [], h => by
    obtain ⟨_, h, _⟩ := h
    cases h
  | n :: ns, h => by
    show (match numO (numL n), numsO (ns.map numL) with | some n, some ns => some (n :: ns) | _, _ => none) = _
    by_cases z : NumR n
    · obtain ⟨m, hm, hn⟩ := h
      have hm : m ∈ ns := by
        rcases List.mem_cons.mp hm with rfl | hm
        · exact absurd z hn
        · exact hm
      rw [nums_not ⟨m, hm, hn⟩]
      cases numO (numL n) <;> rfl
    · rw [numL_long (by unfold NumR at z; omega)]
theorem ws_two {ws : List Str} {a b : List Nat} {r : List (List Nat)} (e : ws.map cps = a :: b :: r) : ∃ w0 w1 rest, ws = w0 :: w1 :: rest ∧ cps w0 = a ∧ cps w1 = b ∧ rest.map cps = r := by
  match ws, e with
  | w0 :: w1 :: rest, e => exact ⟨w0, w1, rest, rfl, (List.cons.inj e).1, (List.cons.inj (List.cons.inj e).2).1, (List.cons.inj (List.cons.inj e).2).2⟩
theorem handO_hand {ws : List Str} {h : HR} (r : HandR h) (e : ws.map cps = wordsH h) : handO ws = some (h.wd, noL h, h.mom) := by
  obtain ⟨w0, w1, rest, rfl, e0, e1, e2⟩ := ws_two e
  obtain rfl : w0 = "hand" := str_inj e0
  obtain rfl : w1 = h.wd := str_inj e1
  have hn : numsO (rest.map cps) = some (noL h ++ [h.mom]) := by
    rw [e2]
    refine nums_read fun n hn => ?_
    rcases List.mem_append.mp hn with z | z
    · exact r.no n z
    · rw [List.mem_singleton.mp z]; exact r.mom
  rw [handO_cons, if_pos rfl, hn, handN_snoc, if_neg (by have := r.good.2.1; omega), if_pos (good_ruleB r.good)]
theorem handO_belt {ws : List Str} {b : BR} (e : ws.map cps = wordsB b) : handO ws = none := by
  obtain ⟨w0, w1, rest, rfl, e0, _, _⟩ := ws_two e
  rw [handO_cons, if_neg]
  intro z
  subst z
  exact absurd e0 (by decide +kernel)
theorem beltO_belt {ws : List Str} {b : BR} (l1 : b.one < 1000000000) (l2 : b.to < 1000000000) (e : ws.map cps = wordsB b) : beltO ws = beltN (some [((b.one : Nat) : Int), ((b.to : Nat) : Int)]) (numsO (b.th.map numL)) := by
  obtain ⟨w0, w1, rest, rfl, e0, e1, e2⟩ := ws_two e
  obtain ⟨w2, w3, rest, rfl, f2, e3, e4⟩ := ws_two e2
  obtain rfl : w0 = "belt" := str_inj e0
  obtain rfl : w3 = ":" := str_inj e3
  have hn : numsO [cps w1, cps w2] = some [((b.one : Nat) : Int), ((b.to : Nat) : Int)] := by
    rw [e1, f2]
    exact nums_read (ns := [((b.one : Nat) : Int), ((b.to : Nat) : Int)]) fun n hn => by
      rcases List.mem_cons.mp hn with rfl | hn
      · exact ⟨by omega, by omega⟩
      · rw [List.mem_singleton.mp hn]
        exact ⟨by omega, by omega⟩
  show (if ("belt" : Str) = "belt" ∧ (":" : Str) = ":" then beltN (numsO [cps w1, cps w2]) (numsO (rest.map cps)) else none) = _
  rw [if_pos ⟨rfl, rfl⟩, hn, e4]
theorem beltO_good {ws : List Str} {b : BR} (l1 : b.one < 1000000000) (l2 : b.to < 1000000000) (r : BeltR b) (e : ws.map cps = wordsB b) : beltO ws = some (((b.one : Nat) : Int), ((b.to : Nat) : Int), b.th) := by
  rw [beltO_belt l1 l2 e, nums_read r]
  show (if (if ((b.to : Nat) : Int) < ((b.one : Nat) : Int) then ((b.to : Nat) : Int) else ((b.one : Nat) : Int)) < 0 then none else _) = _
  rw [if_neg (by split <;> omega)]
theorem beltO_bad {ws : List Str} {b : BR} (l1 : b.one < 1000000000) (l2 : b.to < 1000000000) (r : ∃ x ∈ b.th, ¬ NumR x) (e : ws.map cps = wordsB b) : beltO ws = none := by
  rw [beltO_belt l1 l2 e, nums_not r]; rfl
theorem beltO_hand {ws : List Str} {h : HR} (e : ws.map cps = wordsH h) : beltO ws = none := by
  obtain ⟨w0, w1, rest, rfl, e0, _, _⟩ := ws_two e
  match rest with
  | [] => rfl
  | [_] => rfl
  | _ :: _ :: _ =>
    refine if_neg fun z => ?_
    obtain ⟨rfl, _⟩ := z
    exact absurd e0 (by decide +kernel)
section
variable {P : Program} {w : World} {K : PySem.W.Frag} {mg : Str → Option Value} {base : Heap}
variable {cN cF cB : Addr} {PT : Addr × Addr × Addr} [TN : TabN K mg base cN PT] [TF : TabF K mg base cF PT] [TC : TabC K mg base cB PT]
include TN TF TC
abbrev nsA (K : PySem.W.Frag) : Addr := He.ga K "NoText"
/-- what is so of each text that is read here -/
structure RoomR (hs : List HR) (bs : List BR) : Prop where
  lh : hs.length ≤ 100
  lb : bs.length ≤ 100
  hs : ∀ h ∈ hs, HandR h
  bw : ∀ b ∈ bs, BeltW b
  be : ∀ b ∈ bs, b.one < 1000000000 ∧ b.to < 1000000000
def sp_read_room (K : PySem.W.Frag) (PT : Addr × Addr × Addr) : Sp := fun vs H Q E => ∃ (z : Str) (hs : List HR) (bs : List BR), vs = [.str z] ∧ TextR hs bs z ∧ RoomR hs bs ∧ Tb2 PT H ∧
  ((∀ b ∈ bs, BeltR b) → RoomOk hs bs ∧ ∀ (r : Addr) (H' : Hp), RoomAt H' r hs bs → LamX.ExtN H H' → Tb2 PT H' → Q (.ref r) H') ∧
  ∀ (j : Nat) (b : BR) (d : Addr) (H' : Hp), bs[j]? = some b → ¬ BeltR b → (∀ c ∈ bs.take j, BeltR c) → H' d = some (.xd [("row", nV (hs.length + j))]) → LamX.ExtN H H' → Tb2 PT H' → E (.ref (nsA K)) (some d) H'
theorem ok_read_room {f : Addr} {fd : FuncData} (F : Fun K "read_room" "read_room" s_read_room f fd) (T : Top w K mg) : FnOk P w K mg base (L2.CX P w) 7 f fd ["text"] (sp_read_room K PT) := by
  obtain ⟨f_look_room, fd_look_room, F_look_room, b_look_room, m_look_room⟩ := T.d_look_room
  have G_look_room := ok_look_room (P := P) (w := w) (base := base) F_look_room T
  obtain ⟨f_hand_of, fd_hand_of, F_hand_of, b_hand_of, m_hand_of⟩ := T.d_hand_of
  have G_hand_of := ok_hand_of (P := P) (w := w) (base := base) F_hand_of T
  obtain ⟨f_belt_of, fd_belt_of, F_belt_of, b_belt_of, m_belt_of⟩ := T.d_belt_of
  have G_belt_of := ok_belt_of (P := P) (w := w) (base := base) F_belt_of T
  obtain ⟨fdI, N⟩ := T.x_ns
  have GI := ok_NsInit (P := P) (w := w) (base := base) N
  refine F.okX sc_read_room (fun vs H Q E h => ?_) (fun cdv A outer s H vs Q E hr h => ?_)
  · obtain ⟨z, hs, bs, rfl, _⟩ := h
    rfl
  obtain ⟨z, hs, bs, rfl, tx, rr, tb, q1, q2⟩ := h
  have good : ∀ h ∈ hs, GoodHand h := fun h hh => (rr.hs h hh).good
  have lh := rr.lh
  have lb := rr.lb
  have rl9 := rows_len (hs := hs) (bs := bs) (fun h hh => (rr.hs h hh).w) rr.bw
  have rn := rows_no (bs := bs) good
  have ln : (rowsR hs bs).length = hs.length + bs.length := by unfold rowsR; rw [List.length_append, List.length_map, List.length_map]
  have lz : z.length ≤ 2101000 := by
    have a := joinL_len 10 rl9
    rw [strlen]
    have e : z.cps.toList = joinL 10 (rowsR hs bs) := tx
    rw [e]
    have := Nat.mul_le_mul_right (10504 + 1) (show (rowsR hs bs).length ≤ 200 by omega)
    omega
  let sg : Addr → Addr → Addr → Option V → Option V → Option V → Option V → Option V → L2.St := fun rl hl bl v4 v5 v6 v7 v8 => [some (.str z), some (.ref rl), some (.ref hl), some (.ref bl), v4, v5, v6, v7, v8, none]
  let R1 : TS := fun D' σ' H' => D'.rt = Q ∧ ∃ (rl : Addr) (rws : List Str), σ' = [some (.str z), some (.ref rl), none, none, none, none, none, none, none, none] ∧ H' rl = some (.lst (rws.map V.str)) ∧ rws.map cps = rowsR hs bs ∧ Same H H'
  let R2 : TS := fun D' σ' H' => D'.rt = Q ∧ ∃ (rl hl bl : Addr) (hv bv : List V) (v4 v5 v6 v7 v8 : Option V), σ' = sg rl hl bl v4 v5 v6 v7 v8 ∧ H' hl = some (.lst hv) ∧ H' bl = some (.lst bv) ∧ All2 (HandAt H') hv hs ∧ All2 (BeltAt H') bv bs ∧ (∀ b ∈ bs, BeltR b) ∧ LamX.ExtN H H' ∧ Tb2 PT H'
  refine ⟨_, (pss_cons (ps_set (i := 1) sc_read_room.nd rfl (Or.inl rfl) (pe_ifExp (pt_truthK K rfl (pv 0) (by intro _; rfl)) (pe_bmK K rfl PySem.F.plainAttrs_str PySem.F.slot_str_split PySem.F.type_str_split mt_split (pv 0) (pa_cons pe_str pa_nil)) (pe_lst pa_nil)))
      (PSs.to (pss_cons (ps_set (i := 2) sc_read_room.nd rfl (Or.inl rfl) (pe_lst pa_nil))
      (pss_cons (ps_set (i := 3) sc_read_room.nd rfl (Or.inl rfl) (pe_lst pa_nil))
      (pss_cons (ps_for (passes_of rfl) rfl (pi_enumK K rfl (by rfl) T.m_enumerate (pa_cons (pv 1) pa_nil)) (pg_tupK K rfl rfl (pgs_cons (pg_name (i := 4) sc_read_room.nd rfl (Or.inl rfl)) (pgs_cons (pg_name (i := 5) sc_read_room.nd rfl (Or.inl rfl)) pgs_nil)))
        (pss_cons (ps_set (i := 6) sc_read_room.nd rfl (Or.inl rfl) (pe_bmK K rfl PySem.F.plainAttrs_str PySem.F.slot_str_split PySem.F.type_str_split mt_split (pv 5) (pa_cons pe_str pa_nil)))
      (pss_cons (ps_set (i := 7) sc_read_room.nd rfl (Or.inl rfl) (pe_call G_hand_of (hr.mono (by decide)) (by rfl) m_hand_of F_hand_of.kp b_hand_of .nil pass0 (pa_cons (pv 6) pa_nil)))
      (pss_cons (ps_set (i := 8) sc_read_room.nd rfl (Or.inl rfl) (pe_call G_belt_of (hr.mono (by decide)) (by rfl) m_belt_of F_belt_of.kp b_belt_of .nil pass0 (pa_cons (pv 6) pa_nil)))
      (pss_one (ps_if (PW.pt (pw_and (pt_cmpR op_notN (pv 7) pe_non (nomark _)) (pw_and1 (pt_not (pt_truthK K rfl (pv 3) (by intro _; rfl)))))) (pss_one (ps_expr (pe_bmK K rfl PySem.F.plainAttrs_list PySem.F.slot_list_append PySem.F.type_list_append mt_append (pv 2) (pa_cons (pv 7) pa_nil)))) (pss_one (ps_if (pt_cmpR op_notN (pv 8) pe_non (nomark _)) (pss_one (ps_expr (pe_bmK K rfl PySem.F.plainAttrs_list PySem.F.slot_list_append PySem.F.type_list_append mt_append (pv 3) (pa_cons (pv 8) pa_nil)))) (pss_one (ps_raise rfl (takes_of rfl rfl rfl rfl) (pmk_oex N.T N.iC N.tI GI (hr.mono (by decide)) N.b .nil pass0 (by rfl) N.gC (pa_cons (pv 4) pa_nil))))))))))))
      (PSs.to (pss_cons (ps_set (i := 9) sc_read_room.nd rfl (Or.inl rfl) (pe_tup (pa_cons (pe_callTy (call_tuple_ofK K rfl) (by rfl) T.m_tuple (by decide +kernel) (pa_cons (pv 2) pa_nil)) (pa_cons (pe_callTy (call_tuple_ofK K rfl) (by rfl) T.m_tuple (by decide +kernel) (pa_cons (pv 3) pa_nil)) pa_nil))))
      (pss_cons (ps_expr (pe_call G_look_room (hr.mono (by decide)) (by rfl) m_look_room F_look_room.kp b_look_room .nil pass0 (pa_cons (pv 9) pa_nil)))
      (pss_one (ps_ret (pv 9))))) R2 ?tail2)))) R1 ?tail1)), ?_⟩
  case tail2 =>
    rintro D' σ' H1 ⟨eD, rl, hl, bl, hv, bv, v4, v5, v6, v7, v8, rfl, hhl, hbl, alh, alb, br, e1, t1⟩
    obtain ⟨ok, q⟩ := q1 br
    refine ⟨_, rfl, hl, hv, rfl, .inl ⟨SqL.of hhl, fun a1 na1 => ⟨_, rfl, bl, bv, rfl, .inl ⟨SqL.of (same_new na1 _ _ hbl), fun a2 na2 => ⟨(by show 2 ≤ sizeLine; decide), fun a3 na3 => ?_⟩⟩⟩⟩⟩
    have u1 := same_new (o := .tup hv) na1
    have u2 := same_new (o := .tup bv) na2
    have u3 := same_new (o := .tup [V.ref a1, V.ref a2]) na3
    have u13 := u1.trans (u2.trans u3)
    have kk := TK.same u13
    have hR : RoomAt (upd (upd (upd H1 a1 (.tup hv)) a2 (.tup bv)) a3 (.tup [V.ref a1, V.ref a2])) a3 hs bs := ⟨a1, a2, hv, bv, upd_same, u3 _ _ (u2 _ _ upd_same), u3 _ _ upd_same, alh.imp fun _ _ z => z.keep kk, alb.imp fun _ _ z => z.keep kk⟩
    have e4 := e1.trans (ext_same u13)
    have t4 := t1.same u13
    generalize upd (upd (upd H1 a1 (.tup hv)) a2 (.tup bv)) a3 (.tup [V.ref a1, V.ref a2]) = H4 at hR e4 t4 ⊢
    refine ⟨_, rfl, a3, hs, bs, rfl, hR, ok, t4, fun H5 e5 t5 => ?_⟩
    refine ⟨_, rfl, ?_⟩
    rw [eD]
    exact q a3 _ (hR.keep (tk_ext e5)) (e4.trans e5) t5
  case tail1 =>
    rintro D' σ' H1 ⟨eD, rl, rws, rfl, hrl, erw, s1⟩
    refine ⟨(by show 0 ≤ sizeLine; decide), fun hl nhl => ⟨(by show 0 ≤ sizeLine; decide), fun bl nbl => ?_⟩⟩
    have uh := same_new (o := .lst []) nhl
    have ub := same_new (o := .lst []) nbl
    have hhl : (upd (upd H1 hl (.lst [])) bl (.lst [])) hl = some (.lst []) := ub _ _ upd_same
    have hbl : (upd (upd H1 hl (.lst [])) bl (.lst [])) bl = some (.lst []) := upd_same
    have hrl3 := ub _ _ (uh _ _ hrl)
    have s3 := s1.trans (uh.trans ub)
    have nH : ∀ {a : Addr}, H1 a = none → H a = none := fun {a} n => by
      cases h0 : H a with
      | none => rfl
      | some o => rw [s1 _ _ h0] at n; cases n
    have hlN := nH nhl
    have blN : H bl = none := by
      cases h0 : H bl with
      | none => rfl
      | some o => rw [uh _ _ (s1 _ _ h0)] at nbl; cases nbl
    have n1 : hl ≠ bl := fun e => by rw [← e, upd_same] at nbl; cases nbl
    have n2 : rl ≠ hl := fun e => by rw [e, nhl] at hrl; cases hrl
    have n3 : rl ≠ bl := fun e => by rw [← e, uh _ _ hrl] at nbl; cases nbl
    generalize upd (upd H1 hl (.lst [])) bl (.lst []) = H3 at hhl hbl hrl3 s3
    refine ⟨_, rfl, rl, _, rfl, SqL.of hrl3, for_it (n := rws.length) (fun i σ H5 => ∃ (hv bv : List V) (v4 v5 v6 v7 v8 : Option V), σ = sg rl hl bl v4 v5 v6 v7 v8 ∧ H5 rl = some (.lst (rws.map V.str)) ∧ H5 hl = some (.lst hv) ∧ H5 bl = some (.lst bv) ∧ All2 (HandAt H5) hv (hs.take i) ∧ All2 (BeltAt H5) bv (bs.take (i - hs.length)) ∧ (∀ b ∈ bs.take (i - hs.length), BeltR b) ∧ LamX.ExtN H H5 ∧ Tb2 PT H5) ⟨[], [], none, none, none, none, none, rfl, hrl3, hhl, hbl, .nil, by rw [Nat.zero_sub, List.take_zero]; exact .nil, (fun b hb => by rw [Nat.zero_sub, List.take_zero] at hb; cases hb), ext_same s3, tb.same s3⟩ ?_ ?_ ?_ ?_⟩
    · rintro i σ H5 hi ⟨hv, bv, v4, v5, v6, v7, v8, rfl, h1, _⟩
      exact ⟨_, _, SqL.of h1, by rw [List.getElem?_map, List.getElem?_eq_getElem hi]; rfl⟩
    · rintro σ H5 ⟨hv, bv, v4, v5, v6, v7, v8, rfl, h1, _⟩
      exact ⟨_, SqL.of h1, by rw [List.length_map]; exact Nat.le_refl _⟩
    · rintro i x σ H5 H6 hi ⟨hv, bv, v4, v5, v6, v7, v8, rfl, h1, h2, h3, al1, al2, br, e5, t5⟩ ⟨t, y, rfl, nt, rfl, fy⟩
      have eri : rws[i]? = some rws[i] := List.getElem?_eq_getElem hi
      obtain ⟨rw_, hrw⟩ : ∃ r, r = rws[i] := ⟨_, rfl⟩
      rw [← hrw] at eri
      obtain rfl : y = V.str rw_ := by
        have := fy _ (SqL.of h1)
        rw [List.getElem?_map, eri] at this
        exact (Option.some.inj this).symm
      have lr : rws.length = hs.length + bs.length := by
        have := congrArg List.length erw
        rw [List.length_map, ln] at this
        exact this
      have er : (rowsR hs bs)[i]? = some (cps rw_) := by
        rw [← erw, List.getElem?_map, eri]; rfl
      obtain ⟨words, wne, ew, wok, wl, wh⟩ : ∃ words : List (List Nat), words ≠ [] ∧ cps rw_ = joinL 32 words ∧ (∀ p ∈ words, 32 ∉ p ∧ p.length ≤ 100) ∧ words.length ≤ 104 ∧ ((i < hs.length ∧ ∃ h, hs[i]? = some h ∧ words = wordsH h) ∨ (hs.length ≤ i ∧ ∃ b, bs[i - hs.length]? = some b ∧ words = wordsB b)) := by
        unfold rowsR at er
        by_cases z : i < hs.length
        · rw [List.getElem?_append_left (by rw [List.length_map]; exact z), List.getElem?_map, List.getElem?_eq_getElem z] at er
          have er := Option.some.inj er
          have hm := rr.hs _ (List.getElem_mem z)
          refine ⟨wordsH hs[i], List.cons_ne_nil _ _, er.symm, fun p hp => ⟨(wordsH_no hm.good p hp).2, wordsH_len hm.w p hp⟩, ?_, .inl ⟨z, _, List.getElem?_eq_getElem z, rfl⟩⟩
          have := noL_len hs[i]
          show ((noL hs[i] ++ [hs[i].mom]).map numL).length + 1 + 1 ≤ 104
          rw [List.length_map, List.length_append]
          show (_ + 1) + 1 + 1 ≤ 104
          omega
        · have bl2 : i - hs.length < bs.length := by omega
          rw [List.getElem?_append_right (by rw [List.length_map]; omega), List.length_map, List.getElem?_map, List.getElem?_eq_getElem bl2] at er
          have er := Option.some.inj er
          have hm := rr.bw _ (List.getElem_mem bl2)
          refine ⟨wordsB bs[i - hs.length], List.cons_ne_nil _ _, er.symm, fun p hp => ⟨(wordsB_no _ p hp).2, wordsB_len hm p hp⟩, ?_, .inr ⟨by omega, _, List.getElem?_eq_getElem bl2, rfl⟩⟩
          have := hm.many
          show (bs[i - hs.length].th.map numL).length + 1 + 1 + 1 + 1 ≤ 104
          rw [List.length_map]
          omega
      have lrw : rw_.length ≤ 10504 := by
        rw [strlen]
        exact rl9 _ (List.mem_of_getElem? er)
      have u6 := same_new (o := .tup [V.int ((i : Nat) : Int), V.str rw_]) nt
      refine ⟨t, _, rfl, SqT.of upd_same, rfl, _, _, rfl, _, _, rfl, rfl, ?_⟩
      refine ⟨_, rfl, rfl, _, _, rfl, rfl, by decide +kernel, Nat.le_trans (show rw_.length + 2 ≤ 10506 by omega) (by decide), fun p np => ?_⟩
      obtain ⟨ws, hws⟩ : ∃ ws, ws = Txt.split rw_ " " := ⟨_, rfl⟩
      rw [← hws]
      have ews : ws.map cps = words := by
        rw [hws, sp32]
        refine (split_one rw_ (by decide)).trans ?_
        show splitL 32 (cps rw_) = _
        rw [ew]
        exact splitL_join wne fun p hp => (wok p hp).1
      have lws : ws.length ≤ 1000 := by
        have := congrArg List.length ews
        rw [List.length_map] at this
        omega
      have bws : ∀ w ∈ ws, w.length ≤ 1000 := fun w hw => by
        have m : cps w ∈ words := by rw [← ews]; exact List.mem_map.mpr ⟨w, hw, rfl⟩
        have := (wok _ m).2
        rw [strlen]
        exact Nat.le_trans this (by decide)
      have nws : ws ≠ [] := fun z => by
        rw [z] at ews
        exact wne ews.symm
      have u7 := same_new (o := .lst (ws.map V.str)) np
      have hp7 : (upd (upd H5 t (.tup [V.int ((i : Nat) : Int), V.str rw_])) p (.lst (ws.map V.str))) p = some (.lst (ws.map V.str)) := upd_same
      have e57 : LamX.ExtN H5 (upd (upd H5 t (.tup [V.int ((i : Nat) : Int), V.str rw_])) p (.lst (ws.map V.str))) := ext_same (u6.trans u7)
      have t7 := t5.same (u6.trans u7)
      generalize upd (upd H5 t (.tup [V.int ((i : Nat) : Int), V.str rw_])) p (.lst (ws.map V.str)) = H7 at hp7 e57 t7 ⊢
      refine ⟨_, rfl, p, ws, rfl, hp7, bws, lws, nws, t7, fun vh H8 e78 t8 hvh => ?_⟩
      refine ⟨_, rfl, p, ws, rfl, ExtN.lst e78 hp7, bws, lws, nws, t8, fun vb H9 e89 t9 hvb => ?_⟩
      have e79 := e78.trans e89
      have e59 := e57.trans e79
      have g1 := ExtN.lst e59 h1
      have g2 := ExtN.lst e59 h2
      have g3 := ExtN.lst e59 h3
      have e9 := e5.trans e59
      have k59 := tk_ext e59
      rcases wh with ⟨il, h, eh, rfl⟩ | ⟨il, b, eb, rfl⟩
      · have hm := rr.hs h (List.mem_of_getElem? eh)
        rw [handO_hand hm ews] at hvh
        obtain ⟨q1, q2, rfl, f1, f2⟩ := hvh
        have i0 : i - hs.length = 0 := by omega
        have i1 : i + 1 - hs.length = 0 := by omega
        rw [i0, List.take_zero] at al2 br
        have lbv : bv = [] := List.eq_nil_of_length_eq_zero al2.length
        subst lbv
        refine ⟨_, rfl, rfl, _, rfl, if_bl (fun _ => ?_) (fun z => ?_)⟩
        · refine ⟨_, rfl, false, .inl ⟨_, SqL.of g3, rfl⟩, if_bl (fun _ => ?_) (fun z => nomatch z)⟩
          have lhv := al1.length
          refine ⟨_, rfl, .inl ⟨rfl, _, SqL.of g2⟩, _, rfl, hl, _, _, rfl, rfl, g2, small1000 (by rw [lhv, List.length_take]; omega), ?_⟩
          have kk : TK H5 (upd H9 hl (.lst (hv ++ [V.ref q1]))) := k59.trans (TK.lst g2)
          refine ⟨hv ++ [V.ref q1], [], _, _, _, _, _, rfl, by rw [upd_ne n2]; exact g1, upd_same, by rw [upd_ne n1.symm]; exact g3, ?_, by rw [i1, List.take_zero]; exact .nil, (fun b hb => by rw [i1, List.take_zero] at hb; cases hb), ExtN.own e9 hlN, t9.lst g2⟩
          rw [List.take_add_one, eh]
          refine (al1.imp fun _ _ z => z.keep kk).snoc ⟨q1, q2, rfl, TK.lst g2 _ _ (tk_ext e89 _ _ f1), ?_⟩
          rw [ruleL_no]
          exact TK.lst g2 _ _ (tk_ext e89 _ _ f2)
        · rw [decide_eq_false (fun y => nomatch y)] at z
          cases z
      · have be := rr.be b (List.mem_of_getElem? eb)
        rw [handO_belt ews] at hvh
        obtain rfl : vh = .non := hvh
        refine ⟨_, rfl, rfl, _, rfl, if_bl (fun z => ?_) (fun _ => ?_)⟩
        · rw [decide_eq_true rfl] at z
          cases z
        have it : hs.take i = hs.take (i + 1) := by rw [List.take_of_length_le il, List.take_of_length_le (by omega)]
        have ik : i + 1 - hs.length = i - hs.length + 1 := by omega
        by_cases rb : BeltR b
        · rw [beltO_good be.1 be.2 rb ews] at hvb
          obtain ⟨q1, q2, rfl, f1, f2⟩ := hvb
          refine ⟨_, rfl, rfl, _, rfl, if_bl (fun _ => ?_) (fun z => ?_)⟩
          · have lbv := al2.length
            refine ⟨_, rfl, .inl ⟨rfl, _, SqL.of g3⟩, _, rfl, bl, _, _, rfl, rfl, g3, small1000 (by rw [lbv, List.length_take]; omega), ?_⟩
            have kk : TK H5 (upd H9 bl (.lst (bv ++ [V.ref q1]))) := k59.trans (TK.lst g3)
            refine ⟨hv, bv ++ [V.ref q1], _, _, _, _, _, rfl, by rw [upd_ne n3]; exact g1, by rw [upd_ne n1]; exact g2, upd_same, by rw [← it]; exact al1.imp fun _ _ z => z.keep kk, ?_, fun c hc => ?_, ExtN.own e9 blN, t9.lst g3⟩
            · rw [ik, List.take_add_one, eb]
              exact (al2.imp fun _ _ z => z.keep kk).snoc ⟨q1, q2, rfl, TK.lst g3 _ _ f1, TK.lst g3 _ _ f2⟩
            · rw [ik, List.take_add_one, eb] at hc
              rcases List.mem_append.mp hc with z | z
              · exact br c z
              · rw [List.mem_singleton.mp z]; exact rb
          · rw [decide_eq_false (fun y => nomatch y)] at z
            cases z
        · have rb2 : ∃ x ∈ b.th, ¬ NumR x := by
            refine Classical.byContradiction fun n => rb fun x hx => Classical.byContradiction fun m => n ⟨x, hx, m⟩
          rw [beltO_bad be.1 be.2 rb2 ews] at hvb
          obtain rfl : vb = .non := hvb
          refine ⟨_, rfl, rfl, _, rfl, if_bl (fun z => ?_) (fun _ => ?_)⟩
          · rw [decide_eq_true rfl] at z
            cases z
          refine ⟨_, rfl, by show 1 ≤ 1000; decide, fun a na => ⟨a, _, rfl, upd_same, fun d nd da => ⟨rfl, d, _, upd_same, by rw [upd_ne da, upd_same], ?_, ?_⟩⟩⟩
          · rw [upd_ne da] at nd; exact nd
          · have nd1 : H9 d = none := by rw [upd_ne da] at nd; exact nd
            have keep : Same H9 (upd (del (upd (upd (upd H9 a (exo a (nsA K) none)) d (exd d [("row", V.int ((i : Nat) : Int))])) a (exo a (nsA K) (some d))) a) d (.xd [("row", V.int ((i : Nat) : Int))])) := fun b o e => by
              have b1 : b ≠ a := ne_of_none e na
              have b2 : b ≠ d := ne_of_none e nd1
              rw [upd_ne b2, del_ne b1, upd_ne b1, upd_ne b2, upd_ne b1]
              exact e
            refine q2 (i - hs.length) b d _ eb rb br ?_ (e9.trans (ext_same keep)) (t9.same keep)
            rw [upd_same, show hs.length + (i - hs.length) = i by omega]
    · rintro σ H5 ⟨hv, bv, v4, v5, v6, v7, v8, rfl, h1, h2, h3, al1, al2, br, e5, t5⟩
      have lr : rws.length = hs.length + bs.length := by
        have := congrArg List.length erw
        rw [List.length_map, ln] at this
        exact this
      rw [List.take_of_length_le (by omega)] at al1
      rw [List.take_of_length_le (by omega)] at al2 br
      exact ⟨eD, rl, hl, bl, hv, bv, v4, v5, v6, v7, v8, rfl, h2, h3, al1, al2, br, e5, t5⟩
  refine ⟨_, rfl, _, ⟨Nat.le_trans (show z.length ≤ 2101002 by omega) (by decide), rfl⟩, if_bl (fun c => ?_) (fun c => ?_)⟩
  · have zn : cps z ≠ [] := fun y => by
      have : z.length = 0 := by rw [strlen]; show (cps z).length = 0; rw [y]; rfl
      rw [this] at c
      exact absurd c (by decide)
    refine ⟨_, rfl, rfl, _, _, rfl, rfl, by decide +kernel, Nat.le_trans (show z.length + 2 ≤ 2101002 by omega) (by decide), fun p np => ?_⟩
    refine ⟨rfl, p, Txt.split z "\n", rfl, upd_same, ?_, same_new np⟩
    rw [nl10]
    refine (split_one z (by decide)).trans ?_
    have e : z.cps.toList = joinL 10 (rowsR hs bs) := tx
    have ne : rowsR hs bs ≠ [] := fun y => zn (by show z.cps.toList = []; rw [e, y]; rfl)
    rw [e]
    exact splitL_join ne fun p hp => (rn p hp).1
  · have zn : cps z = [] := by
      by_cases y : z.length = 0
      · refine List.eq_nil_of_length_eq_zero ?_
        rw [strlen] at y
        exact y
      · exfalso
        have : ((z.length : Int) != 0) = true := by simp; omega
        rw [this] at c
        cases c
    refine ⟨(by show 0 ≤ sizeLine; decide), fun p np => ?_⟩
    refine ⟨rfl, p, [], rfl, upd_same, ?_, same_new np⟩
    exact (joinL_nil (fun p hp => (rn p hp).2) (tx.symm.trans zn)).symm
end
theorem All2.join {α β γ : Type} {R : α → γ → Prop} {R' : β → γ → Prop} {S : α → β → Prop} {as : List α} {cs : List γ} (a : All2 R as cs) : ∀ {bs : List β}, All2 R' bs cs → (∀ x y c, c ∈ cs → R x c → R' y c → S x y) → All2 S as bs := by
  induction a with
  | nil => intro bs b _; cases b; exact .nil
  | cons h t ih =>
    intro bs b k
    cases b with
    | cons h' t' => exact .cons (k _ _ _ (List.mem_cons_self ..) h h') (ih t' fun x y c hc => k x y c (List.mem_cons_of_mem _ hc))
theorem al_ints {H : Hp} : ∀ m : List Int, All2 (Al 0 H) (m.map V.int) (m.map V.int)
  | [] => .nil
  | a :: m => .cons (.inl ⟨a, rfl, rfl⟩) (al_ints m)
theorem al_room {H : Hp} {p q : Addr} {hs : List HR} {bs : List BR} (a : RoomAt H p hs bs) (b : RoomAt H q hs bs) (lh : hs.length ≤ 400) (lb : bs.length ≤ 400) (good : ∀ h ∈ hs, GoodHand h) (th : ∀ b ∈ bs, b.th.length ≤ 400) : Al 4 H (.ref p) (.ref q) := by
  obtain ⟨ha, ba, hv, bv, er, eh, eb, alh, alb⟩ := a.ex
  obtain ⟨ha', ba', hv', bv', er', eh', eb', alh', alb'⟩ := b.ex
  refine .inr ⟨p, q, _, _, rfl, rfl, .inr ⟨er, er'⟩, (by show 2 ≤ 400; decide), .cons (.inr ⟨ha, ha', _, _, rfl, rfl, .inr ⟨eh, eh'⟩, by rw [alh.length]; exact lh, ?_⟩) (.cons (.inr ⟨ba, ba', _, _, rfl, rfl, .inr ⟨eb, eb'⟩, by rw [alb.length]; exact lb, ?_⟩) .nil)⟩
  · refine alh.join alh' fun x y h hm hx hy => ?_
    obtain ⟨t, r, rfl, e1, e2⟩ := hx
    obtain ⟨t', r', rfl, e1', e2'⟩ := hy
    refine .inr ⟨t, t', _, _, rfl, rfl, .inr ⟨e1, e1'⟩, (by show 2 ≤ 400; decide), .cons (.inr ⟨r, r', _, _, rfl, rfl, .inr ⟨e2, e2'⟩, ?_, ?_⟩) (.cons (.inl (.inl ⟨_, rfl, rfl⟩)) .nil)⟩
    · show ((match h.no with | none => [] | some n => [V.int n]).length + 1) ≤ 400
      cases h.no <;> simp
    · refine .cons (.inr (.inl ⟨_, rfl, rfl, (good h hm).lay⟩)) ?_
      cases h.no with
      | none => exact .nil
      | some n => exact .cons (.inl ⟨n, rfl, rfl⟩) .nil
  · refine alb.join alb' fun x y c hm hx hy => ?_
    obtain ⟨t, r, rfl, e1, e2⟩ := hx
    obtain ⟨t', r', rfl, e1', e2'⟩ := hy
    exact .inr ⟨t, t', _, _, rfl, rfl, .inr ⟨e1, e1'⟩, (by show 3 ≤ 400; decide), .cons (.inl (.inl ⟨_, rfl, rfl⟩)) (.cons (.inl (.inl ⟨_, rfl, rfl⟩)) (.cons (.inr ⟨r, r', _, _, rfl, rfl, .inr ⟨e2, e2'⟩, by rw [List.length_map]; exact th c hm, al_ints _⟩) .nil))⟩
theorem belts_lay : ∀ bs : List BR, PyData.canLayAll0 (bs.map beltD) = true
  | [] => rfl
  | b :: bs => by
    rw [List.map_cons]
    simp only [PyData.canLayAll0]
    rw [belt_lay, belts_lay bs]
    rfl
theorem belts_dep : ∀ bs : List BR, PyData.depthAll (bs.map beltD) ≤ 2
  | [] => Nat.zero_le _
  | b :: bs => by
    rw [List.map_cons]
    have h1 := belts_dep bs
    have h2 := dep_ints b.th
    simp only [PyData.depthAll, PyData.depth] at h1 h2 ⊢
    omega
theorem room_lay {hs : List HR} {bs : List BR} (g : ∀ h ∈ hs, GoodHand h) : PyData.canLay0 (roomD hs bs) = true := by
  have h1 := (hands_neat g).lay
  have h2 := belts_lay bs
  simp only [PyData.canLay0, PyData.canLayAll0] at h1 h2 ⊢
  rw [h1, h2]
  rfl
theorem room_shaped {hs : List HR} {bs : List BR} (g : ∀ h ∈ hs, GoodHand h) : SeqAt.shaped (roomD hs bs) = true := by
  unfold SeqAt.shaped
  rw [room_lay g, Bool.true_and]
  refine decide_eq_true ?_
  have h1 := (hands_neat g).dep
  have h2 := belts_dep bs
  simp only [PyData.depth, PyData.depthAll] at h1 h2 ⊢
  omega
theorem call_str_any {X : Cx} : CallR X (.type "str") (fun xs H Q => (∃ i : Int, xs = [.int i] ∧ i.natAbs.log2 < 1920 ∧ Q (.str (toString i)) H) ∨ (∃ a : Str, xs = [.str a] ∧ Q (.str a) H)) := by
  intro pins s σ H xs us Q I r h
  rcases h with h | h
  · exact call_str_int pins s σ H xs us Q I r h
  · exact SkE.call_str_str pins s σ H xs us Q I r h
theorem log_num {n : Int} (h : Num n) : n.natAbs.log2 < 1920 := by
  have := log_1920 (m := n.natAbs) (by have := h.1; have := h.2; omega)
  exact this
theorem belt_flat (a b : List Nat) (r : List (List Nat)) : joinL 32 ((cps "belt " ++ a ++ cps " " ++ b ++ cps " :") :: r) = joinL 32 (cps "belt" :: a :: b :: cps ":" :: r) := by
  have e1 : cps "belt " = cps "belt" ++ [32] := by decide +kernel
  have e2 : cps " " = [32] := by decide +kernel
  have e3 : cps " :" = 32 :: cps ":" := by decide +kernel
  rw [joinL_flat, joinL_flat, e1, e2, e3]
  simp only [List.map_cons, List.flatten_cons, List.append_assoc, List.cons_append, List.nil_append]
section
variable {P : Program} {w : World} {K : PySem.W.Frag} {mg : Str → Option Value} {base : Heap}
def sp_law_rows_of (K : PySem.W.Frag) : Sp := fun vs H Q _ => ∃ (r : Addr) (hs : List HR) (bs : List BR), vs = [.ref r] ∧ RoomAt H r hs bs ∧ hs.length ≤ 100 ∧ bs.length ≤ 100 ∧ (∀ h ∈ hs, HandW h) ∧ (∀ b ∈ bs, BeltW b) ∧
  ∀ (p : Addr) (ys : List Str) (H' : Hp), H' p = some (.lst (ys.map V.str)) → ys.map cps = rowsR hs bs → Same H H' → Q (.ref p) H'
theorem ok_law_rows_of {f : Addr} {fd : FuncData} (F : Fun K "_law_rows_of" "_law_rows_of" s_law_rows_of f fd) (T : Top w K mg) : FnOk P w K mg base CX0 1 f fd ["_law_room_here"] (sp_law_rows_of K) := by
  refine F.ok sc_law_rows_of (fun vs H Q E h => ?_) (fun cdv A outer s H vs Q E hr h => ?_)
  · obtain ⟨r, hs, bs, rfl, _⟩ := h
    rfl
  obtain ⟨r, hs, bs, rfl, hR, lh, lb, hh, hb, q⟩ := h
  obtain ⟨ha, ba, hv, bv, er, eh, eb, alh, alb⟩ := hR.ex
  have lhv := alh.length
  have lbv := alb.length
  refine ⟨_, (pss_cons (ps_set (i := 1) sc_law_rows_of.nd rfl (Or.inl rfl) (pe_lst pa_nil))
      (pss_cons (ps_for PassesOwn.never rfl (pi_tupK K rfl (pe_ix (ix_tupK K rfl) (pv 0) pe_int (fun _ _ => rfl))) (pg_tupK K rfl rfl (pgs_cons (pg_name (i := 2) sc_law_rows_of.nd rfl (Or.inl rfl)) (pgs_cons (pg_name (i := 3) sc_law_rows_of.nd rfl (Or.inl rfl)) pgs_nil)))
        (pss_one (ps_expr (pe_bmK K rfl PySem.F.plainAttrs_list PySem.F.slot_list_append PySem.F.type_list_append mt_append (pv 1) (pa_cons (pe_join pe_str (pe_op op_cat (pe_op op_cat (pe_lst (pa_cons pe_str pa_nil)) (pe_lc (own := [("_law_part", 4)]) (g := gName 4) (tt := tYes) (by rfl) sc_law_rows_of.nd (pi_tupK K rfl (pv 2)) (blkOk_by (own := [("_law_part", 4)]) (N := N_law_rows_of) (sc := defScope s_law_rows_of) (by decide +kernel)) (fun _ _ _ _ _ => (pg_name (i := 4) sc_law_rows_of.nd rfl (Or.inl rfl))) (fun _ _ _ _ _ => pts_nil) (fun _ _ _ _ _ => (pe_callTy call_str_any (by rfl) T.m_str (by decide +kernel) (pa_cons (pv 4) pa_nil))))) (pe_lst (pa_cons (pe_callTy call_str_int (by rfl) T.m_str (by decide +kernel) (pa_cons (pv 3) pa_nil)) pa_nil)))) pa_nil)))))
      (pss_cons (ps_for PassesOwn.never rfl (pi_tupK K rfl (pe_ix (ix_tupK K rfl) (pv 0) pe_int (fun _ _ => rfl))) (pg_tupK K rfl rfl (pgs_cons (pg_name (i := 5) sc_law_rows_of.nd rfl (Or.inl rfl)) (pgs_cons (pg_name (i := 6) sc_law_rows_of.nd rfl (Or.inl rfl)) (pgs_cons (pg_name (i := 7) sc_law_rows_of.nd rfl (Or.inl rfl)) pgs_nil))))
        (pss_one (ps_expr (pe_bmK K rfl PySem.F.plainAttrs_list PySem.F.slot_list_append PySem.F.type_list_append mt_append (pv 1) (pa_cons (pe_join pe_str (pe_op op_cat (pe_lst (pa_cons (pe_op op_add_str (pe_op op_add_str (pe_op op_add_str (pe_op op_add_str pe_str (pe_callTy call_str_int (by rfl) T.m_str (by decide +kernel) (pa_cons (pv 5) pa_nil))) pe_str) (pe_callTy call_str_int (by rfl) T.m_str (by decide +kernel) (pa_cons (pv 6) pa_nil))) pe_str) pa_nil)) (pe_lc (own := [("_law_thing_here", 8)]) (g := gName 8) (tt := tYes) (by rfl) sc_law_rows_of.nd (pi_tupK K rfl (pv 7)) (blkOk_by (own := [("_law_thing_here", 8)]) (N := N_law_rows_of) (sc := defScope s_law_rows_of) (by decide +kernel)) (fun _ _ _ _ _ => (pg_name (i := 8) sc_law_rows_of.nd rfl (Or.inl rfl))) (fun _ _ _ _ _ => pts_nil) (fun _ _ _ _ _ => (pe_callTy call_str_int (by rfl) T.m_str (by decide +kernel) (pa_cons (pv 8) pa_nil)))))) pa_nil)))))
      (pss_one (ps_ret (pv 1)))))), ?_⟩
  refine ⟨(by show 0 ≤ sizeLine; decide), fun rl nrl => ?_⟩
  have s1 := same_new (o := .lst []) nrl
  refine ⟨_, rfl, r, _, _, _, rfl, rfl, SqT.of (s1 _ _ er), atI_nat (j := 0) rfl, ha, rfl, ⟨_, SqT.of (s1 _ _ eh)⟩, for_tup (K := K) (a := ha) (xs := hv) (fun i σ H5 => ∃ (ys : List Str) (v2 v3 : Option V), σ = [some (.ref r), some (.ref rl), v2, v3, none, none, none, none, none] ∧ H5 rl = some (.lst (ys.map V.str)) ∧ ys.map cps = (hs.take i).map (fun h => joinL 32 (wordsH h)) ∧ Same H H5) ⟨[], none, none, rfl, upd_same, rfl, s1⟩ (fun i σ H5 _ ⟨_, _, _, _, _, _, s5⟩ => SqT.of (s5 _ _ eh)) ?_ ?_⟩
  · rintro i x σ H5 hx ⟨ys, v2, v3, rfl, hD, ey, s5⟩
    obtain ⟨h, eh2, t, rr, rfl, e1, e2⟩ := alh.getL hx
    have il := (List.getElem?_eq_some_iff.mp eh2).1
    have hw := hh h (List.mem_of_getElem? eh2)
    rw [ruleL_no] at e2
    have nl1 := noL_len h
    have ly : ys.length ≤ i := by
      have := congrArg List.length ey
      rw [List.length_map, List.length_map, List.length_take] at this
      omega
    refine ⟨t, _, rfl, SqT.of (s5 _ _ e1), rfl, _, _, rfl, _, _, rfl, rfl, ?_⟩
    refine ⟨_, rfl, .inl ⟨rfl, _, SqL.of hD⟩, ⟨_, rfl⟩, (by show 1 ≤ sizeLine; decide), fun p1 np1 => ?_⟩
    have u1 := same_new (o := .lst [V.str "hand"]) np1
    have hp1 : (upd H5 p1 (.lst [V.str "hand"])) p1 = some (.lst [V.str "hand"]) := upd_same
    generalize upd H5 p1 (.lst [V.str "hand"]) = H6 at u1 hp1 ⊢
    have s6 := s5.trans u1
    refine ⟨_, rfl, rr, rfl, ⟨_, SqT.of (s6 _ _ e2)⟩, fun E nE => lc_tup (K := K) (a := rr) (xs := .str h.wd :: (noL h).map V.int) (fun j H7 => H7 E = some (.lst (((h.wd :: (noL h).map numS).take j).map V.str)) ∧ Same H6 H7) ⟨upd_same, same_new nE⟩ (fun j H7 _ ⟨_, s7⟩ => SqT.of (s7 _ _ (s6 _ _ e2))) ?_ ?_⟩
    · rintro j x H7 hx ⟨hE, s7⟩
      have fin : ∀ z : Str, (h.wd :: (noL h).map numS)[j]? = some z → ∃ acc, H7 E = some (.lst acc) ∧ acc.length < sizeLine ∧ (upd H7 E (.lst (acc ++ [V.str z]))) E = some (.lst (((h.wd :: (noL h).map numS).take (j + 1)).map V.str)) ∧ Same H6 (upd H7 E (.lst (acc ++ [V.str z]))) := fun z ez => by
        refine ⟨_, hE, ?_, ?_, Same.own s7 nE⟩
        · rw [List.length_map, List.length_take, List.length_cons, List.length_map]
          exact small1000 (by omega)
        · rw [upd_same, List.take_add_one, ez, List.map_append]; rfl
      match j, hx with
      | 0, hx =>
        obtain rfl : V.str h.wd = x := Option.some.inj hx
        exact ⟨rfl, yes_in ⟨_, rfl, .inr ⟨_, rfl, fin h.wd rfl⟩⟩⟩
      | j + 1, hx =>
        have hx : ((noL h).map V.int)[j]? = some x := hx
        rw [List.getElem?_map] at hx
        cases en : (noL h)[j]? with
        | none => rw [en] at hx; cases hx
        | some n =>
          rw [en] at hx
          obtain rfl : V.int n = x := Option.some.inj hx
          exact ⟨rfl, yes_in ⟨_, rfl, .inl ⟨_, rfl, log_num (hw.no n (List.mem_of_getElem? en)), fin (numS n) (by show ((noL h).map numS)[j]? = _; rw [List.getElem?_map, en]; rfl)⟩⟩⟩
    rintro H7 ⟨hE, s7⟩
    rw [List.length_cons, List.length_map, List.take_of_length_le (by rw [List.length_cons, List.length_map]; exact Nat.le_refl _)] at hE
    refine ⟨p1, E, _, _, rfl, rfl, s7 _ _ hp1, hE, little (by simp only [List.length_map, List.length_cons, List.length_nil]; omega), fun p2 np2 => ?_⟩
    have u2 := same_new (o := .lst ([V.str "hand"] ++ (h.wd :: (noL h).map numS).map V.str)) np2
    have hp2 : (upd H7 p2 (.lst ([V.str "hand"] ++ (h.wd :: (noL h).map numS).map V.str))) p2 = some (.lst ((("hand" : Str) :: h.wd :: (noL h).map numS).map V.str)) := upd_same
    generalize upd H7 p2 (.lst ([V.str "hand"] ++ (h.wd :: (noL h).map numS).map V.str)) = H8 at u2 hp2 ⊢
    refine ⟨_, rfl, _, rfl, log_num hw.mom, (by show 1 ≤ sizeLine; decide), fun p3 np3 => ?_⟩
    have u3 := same_new (o := .lst [V.str (toString h.mom)]) np3
    have hp3 : (upd H8 p3 (.lst [V.str (toString h.mom)])) p3 = some (.lst ([numS h.mom].map V.str)) := upd_same
    refine ⟨p2, p3, _, _, rfl, rfl, u3 _ _ hp2, hp3, little (by simp only [List.length_map, List.length_cons, List.length_nil]; omega), fun p4 np4 => ?_⟩
    have bnd : ∀ y ∈ (("hand" : Str) :: h.wd :: (noL h).map numS) ++ [numS h.mom], y.length ≤ 100 := fun y hy => by
      have : cps y ∈ wordsH h := by
        unfold wordsH
        rw [List.map_append]
        have m : cps y ∈ ((("hand" : Str) :: h.wd :: (noL h).map numS) ++ [numS h.mom]).map cps := List.mem_map.mpr ⟨y, hy, rfl⟩
        rw [List.map_append, List.map_cons, List.map_cons, List.map_map] at m
        exact m
      rw [strlen]
      exact wordsH_len hw _ this
    refine ⟨_, p4, (("hand" : Str) :: h.wd :: (noL h).map numS) ++ [numS h.mom], rfl, rfl, .inl (SqL.of ?_), join_ok (B := 100) (n := 4) " " bnd (by rw [List.length_append, List.length_cons, List.length_cons, List.length_map]; show _ + 1 ≤ 4; omega) (by decide +kernel), ?_⟩
    · rw [upd_same, ← List.map_append]
    have u4 := same_new (o := .lst ((("hand" : Str) :: h.wd :: (noL h).map numS).map V.str ++ [numS h.mom].map V.str)) np4
    have u58 := u1.trans (s7.trans (u2.trans (u3.trans u4)))
    have hD8 := u58 _ _ hD
    refine ⟨rl, _, _, rfl, rfl, hD8, small1000 (by rw [List.length_map]; omega), ys ++ [Txt.join " " ((("hand" : Str) :: h.wd :: (noL h).map numS) ++ [numS h.mom])], _, _, rfl, by rw [upd_same, List.map_append]; rfl, ?_, Same.own (s5.trans u58) nrl⟩
    rw [List.map_append, ey, List.take_add_one, eh2, List.map_append]
    show _ ++ [cps (Txt.join " " _)] = _
    have ew : ((("hand" : Str) :: h.wd :: (noL h).map numS) ++ [numS h.mom]).map cps = wordsH h := by
      unfold wordsH
      rw [List.map_append, List.map_append, List.map_cons, List.map_cons, List.map_map]; rfl
    rw [join_sp, ew]; rfl
  rintro σ H3 ⟨ys, v2, v3, rfl, hrl, ey, s3⟩
  rw [lhv, List.take_length] at ey
  have lys : ys.length = hs.length := by
    have := congrArg List.length ey
    rw [List.length_map, List.length_map] at this
    exact this
  refine ⟨_, rfl, r, _, _, _, rfl, rfl, SqT.of (s3 _ _ er), atI_nat (j := 1) rfl, ba, rfl, ⟨_, SqT.of (s3 _ _ eb)⟩, for_tup (K := K) (a := ba) (xs := bv) (fun i σ H5 => ∃ (ys : List Str) (v2 v3 v5 v6 v7 : Option V), σ = [some (.ref r), some (.ref rl), v2, v3, none, v5, v6, v7, none] ∧ H5 rl = some (.lst (ys.map V.str)) ∧ ys.length = hs.length + i ∧ ys.map cps = hs.map (fun h => joinL 32 (wordsH h)) ++ (bs.take i).map (fun b => joinL 32 (wordsB b)) ∧ Same H H5) ⟨ys, v2, v3, none, none, none, rfl, hrl, lys, by rw [ey, List.take_zero, List.map_nil, List.append_nil], s3⟩ (fun i σ H5 _ ⟨_, _, _, _, _, _, _, _, _, _, s5⟩ => SqT.of (s5 _ _ eb)) ?_ ?_⟩
  · rintro i x σ H5 hx ⟨ys, v2, v3, v5, v6, v7, rfl, hD, lys, ey, s5⟩
    obtain ⟨b, eb2, t, g, rfl, e1, e2⟩ := alb.getL hx
    have il := (List.getElem?_eq_some_iff.mp eb2).1
    have hw := hb b (List.mem_of_getElem? eb2)
    have lm := hw.many
    refine ⟨t, _, rfl, SqT.of (s5 _ _ e1), rfl, _, _, rfl, _, _, rfl, _, _, rfl, rfl, ?_⟩
    have n1 := numS_len hw.one.1 hw.one.2
    have n2 := numS_len hw.to.1 hw.to.2
    have c1 : Str.length "belt " = 5 := by decide +kernel
    have c2 : Str.length " " = 1 := by decide +kernel
    have c3 : Str.length " :" = 2 := by decide +kernel
    have la : ∀ a b : Str, (a ++ b).length = a.length + b.length := fun a b => by rw [strlen, strlen, strlen, str_app, List.length_append]
    have t1 : toString ((b.one : Nat) : Int) = toString ((b.one : Nat) : Int) := rfl
    refine ⟨_, rfl, .inl ⟨rfl, _, SqL.of hD⟩, ⟨_, rfl⟩, ?_⟩
    refine ⟨_, rfl, _, rfl, log_num hw.one, _, _, rfl, rfl, little (by show Str.length "belt " + (numS ((b.one : Nat) : Int)).length ≤ 1000; omega), ?_⟩
    refine ⟨_, _, rfl, rfl, little (by show ("belt " ++ numS ((b.one : Nat) : Int)).length + Str.length " " ≤ 1000; rw [la]; omega), ?_⟩
    refine ⟨_, rfl, _, rfl, log_num hw.to, _, _, rfl, rfl, little (by show (("belt " ++ numS ((b.one : Nat) : Int)) ++ " ").length + (numS ((b.to : Nat) : Int)).length ≤ 1000; rw [la, la]; omega), ?_⟩
    refine ⟨_, _, rfl, rfl, little (by show ((("belt " ++ numS ((b.one : Nat) : Int)) ++ " ") ++ numS ((b.to : Nat) : Int)).length + Str.length " :" ≤ 1000; rw [la, la, la]; omega), ?_⟩
    refine ⟨(by show 1 ≤ sizeLine; decide), fun p1 np1 => ?_⟩
    obtain ⟨hd, ehd⟩ : ∃ hd : Str, hd = ((("belt " ++ numS ((b.one : Nat) : Int)) ++ " ") ++ numS ((b.to : Nat) : Int)) ++ " :" := ⟨_, rfl⟩
    have lhd : hd.length ≤ 100 := by rw [ehd, la, la, la, la]; omega
    have u1 := same_new (o := .lst [V.str (((("belt " ++ numS ((b.one : Nat) : Int)) ++ " ") ++ numS ((b.to : Nat) : Int)) ++ " :")]) np1
    have hp1 : (upd H5 p1 (.lst [V.str (((("belt " ++ numS ((b.one : Nat) : Int)) ++ " ") ++ numS ((b.to : Nat) : Int)) ++ " :")])) p1 = some (.lst [V.str hd]) := by rw [upd_same, ehd]
    refine (show _ from ?_ : _)
    generalize hH6 : upd H5 p1 (.lst [V.str (((("belt " ++ numS ((b.one : Nat) : Int)) ++ " ") ++ numS ((b.to : Nat) : Int)) ++ " :")]) = H6 at u1 hp1
    have s6 := s5.trans u1
    refine ⟨_, rfl, g, rfl, ⟨_, SqT.of (by rw [← hH6] at s6; exact s6 _ _ e2)⟩, fun E nE => lc_tup (K := K) (a := g) (xs := b.th.map V.int) (fun j H7 => H7 E = some (.lst ((b.th.take j).map fun n => V.str (numS n))) ∧ Same H6 H7) ⟨upd_same, by rw [← hH6]; exact same_new nE⟩ (fun j H7 _ ⟨_, s7⟩ => SqT.of (s7 _ _ (s6 _ _ e2))) ?_ ?_⟩
    · rintro j x H7 hx ⟨hE, s7⟩
      rw [List.getElem?_map] at hx
      cases en : b.th[j]? with
      | none => rw [en] at hx; cases hx
      | some n =>
      rw [en] at hx
      obtain rfl : V.int n = x := Option.some.inj hx
      have jl := (List.getElem?_eq_some_iff.mp en).1
      refine ⟨rfl, yes_in ⟨_, rfl, _, rfl, log_num (hw.th n (List.mem_of_getElem? en)), _, hE, by rw [List.length_map, List.length_take]; exact small1000 (by omega), ?_, Same.own s7 (by rw [← hH6]; exact nE)⟩⟩
      rw [upd_same, List.take_add_one, en, List.map_append]; rfl
    rintro H7 ⟨hE, s7⟩
    rw [List.length_map, List.take_length] at hE
    refine ⟨p1, E, _, _, rfl, rfl, s7 _ _ hp1, hE, little (by simp only [List.length_map, List.length_cons, List.length_nil]; omega), fun p2 np2 => ?_⟩
    have bnd : ∀ y ∈ hd :: b.th.map numS, y.length ≤ 100 := fun y hy => by
      rcases List.mem_cons.mp hy with rfl | hy
      · exact lhd
      · obtain ⟨n, hn, rfl⟩ := List.mem_map.mp hy
        have nn := hw.th n hn
        exact Nat.le_trans (numS_len nn.1 nn.2) (by decide)
    refine ⟨_, p2, hd :: b.th.map numS, rfl, rfl, .inl (SqL.of ?_), join_ok (B := 100) (n := 101) " " bnd (by rw [List.length_cons, List.length_map]; omega) (by decide +kernel), ?_⟩
    · rw [upd_same, List.map_cons, List.map_map]; rfl
    have u2 := same_new (o := .lst ([V.str hd] ++ b.th.map fun n => V.str (numS n))) np2
    have u57 := u1.trans (s7.trans u2)
    have hD7 := u57 _ _ hD
    refine ⟨rl, _, _, rfl, rfl, hD7, small1000 (by rw [List.length_map]; omega), ys ++ [Txt.join " " (hd :: b.th.map numS)], _, _, _, _, _, rfl, by rw [upd_same, List.map_append]; rfl, by rw [List.length_append, lys]; rfl, ?_, Same.own (s5.trans u57) nrl⟩
    rw [List.map_append, ey, List.take_add_one, eb2, List.map_append, List.append_assoc]
    congr 1
    congr 1
    show [cps (Txt.join " " _)] = [joinL 32 (wordsB b)]
    rw [join_sp, List.map_cons, List.map_map]
    have ec : cps hd = cps "belt " ++ numL ((b.one : Nat) : Int) ++ cps " " ++ numL ((b.to : Nat) : Int) ++ cps " :" := by
      rw [ehd]
      show (_ ++ _ : Str).cps.toList = _
      rw [str_app, str_app, str_app, str_app]; rfl
    rw [ec, belt_flat]; rfl
  rintro σ H5 ⟨ys, v2, v3, v5, v6, v7, rfl, hD, lys, ey, s5⟩
  rw [lbv, List.take_length] at ey
  exact ⟨_, rfl, q rl ys _ hD ey s5⟩
def sp_law_text (K : PySem.W.Frag) : Sp := fun vs H Q _ => ∃ (r : Addr) (hs : List HR) (bs : List BR), vs = [.ref r] ∧ RoomAt H r hs bs ∧ hs.length ≤ 100 ∧ bs.length ≤ 100 ∧ (∀ h ∈ hs, HandW h) ∧ (∀ b ∈ bs, BeltW b) ∧
  ∀ (z : Str) (H' : Hp), TextR hs bs z → Same H H' → Q (.str z) H'
theorem ok_law_text {f : Addr} {fd : FuncData} (F : Fun K "_law_text" "_law_text" s_law_text f fd) (T : Top w K mg) : FnOk P w K mg base CX0 2 f fd ["_law_room_here"] (sp_law_text K) := by
  obtain ⟨f_law_rows_of, fd_law_rows_of, F_law_rows_of, b_law_rows_of, m_law_rows_of⟩ := T.d_law_rows_of
  have G_law_rows_of := ok_law_rows_of (P := P) (w := w) (base := base) F_law_rows_of T
  refine F.ok sc_law_text (fun vs H Q E h => ?_) (fun cdv A outer s H vs Q E hr h => ?_)
  · obtain ⟨r, hs, bs, rfl, _⟩ := h
    rfl
  obtain ⟨r, hs, bs, rfl, hR, lh, lb, hh, hb, q⟩ := h
  refine ⟨_, (pss_one (ps_ret (pe_join pe_str (pe_call G_law_rows_of (hr.mono (by decide)) (by rfl) m_law_rows_of F_law_rows_of.kp b_law_rows_of .nil pass0 (pa_cons (pv 0) pa_nil))))), ?_⟩
  refine ⟨⟨_, rfl⟩, _, rfl, r, hs, bs, rfl, hR, lh, lb, hh, hb, fun p ys H1 hp ey s1 => ?_⟩
  have ly : ys.length ≤ 200 := by
    have := congrArg List.length ey
    unfold rowsR at this
    rw [List.length_map, List.length_append, List.length_map, List.length_map] at this
    omega
  have bnd : ∀ y ∈ ys, y.length ≤ 10504 := fun y hy => by
    have : cps y ∈ rowsR hs bs := by rw [← ey]; exact List.mem_map.mpr ⟨y, hy, rfl⟩
    rw [strlen]
    exact rows_len hh hb _ this
  refine ⟨_, p, ys, rfl, rfl, .inl (SqL.of hp), join_ok (B := 10504) (n := 200) "\n" bnd ly (by decide +kernel), ?_⟩
  refine q _ _ ?_ s1
  unfold TextR
  rw [join_nl, ey]
end
/-! ### a thing that grows -/
def grH (t : Int) : HR := ⟨"times", some t, 3⟩
def grB (x : Int) : BR := ⟨0, 0, [x]⟩
def grN (x t : Int) : Nat → Int
  | 0 => x
  | n + 1 => grN x t n * t
theorem gr_good {t : Int} (ht : t = 9 ∨ t = -9) : GoodHand (grH t) := by
  refine ⟨.inl ⟨by show ("times" : Str) ∈ nine; decide +kernel, ⟨fun _ => .inl rfl, fun _ => rfl⟩, fun n e => ?_⟩, by show (0 : Int) ≤ 3; decide, by show (3 : Int) ≤ 30; decide⟩
  obtain rfl : t = n := Option.some.inj e
  rcases ht with rfl | rfl <;> decide
theorem gr_room {t y : Int} (ht : t = 9 ∨ t = -9) (hy : NumR y) : RoomOk [grH t] [grB y] := by
  refine ⟨by show 1 ≤ 12; decide, fun h hh => ?_, fun b hb => ?_, fun b hb h e => ?_, fun b hb => ?_, ⟨fun _ => 0, fun b hb e => ?_⟩, fun k h e => ?_, by show 1 ≤ 20; decide⟩
  · rw [List.mem_singleton.mp hh]; exact gr_good ht
  · rw [List.mem_singleton.mp hb]; exact ⟨by show 0 < 1; decide, by show 0 < 1; decide⟩
  · rw [List.mem_singleton.mp hb] at e
    obtain rfl : grH t = h := Option.some.inj e
    show ("times" : Str) ≠ "out"
    decide +kernel
  · rw [List.mem_singleton.mp hb]
    refine ⟨by show 1 ≤ 6; decide, fun x hx => ?_⟩
    rw [List.mem_singleton.mp hx]; exact hy
  · rw [List.mem_singleton.mp hb] at e
    cases e
  · match k, e with
    | 0, e =>
      obtain rfl : grH t = h := Option.some.inj e
      show ((([(0 : Nat)].count 0 : Nat)) : Int) = needs "times"
      decide +kernel
    | _ + 1, e => cases e
theorem gr_doors {t : Int} : doorsOf "in" [grH t] = [] := by
  unfold doorsOf
  refine List.filter_eq_nil_iff.mpr fun k hk q => ?_
  have hk := List.mem_range.mp hk
  obtain rfl : k = 0 := Nat.lt_one_iff.mp hk
  have q : some ("times" : Str) = some "in" := of_decide_eq_true q
  exact absurd (Option.some.inj q) (by decide +kernel)
theorem gr_ws {x t : Int} {n : Nat} {ms : List (List Int)} (W : WS [grH t] [grB x] (List.replicate n []) ms) : stand [grB x] ms = [grB (grN x t n)] := by
  have lm : ms.length = n := by rw [W.len, List.length_replicate]
  have at_ : ∀ i, i ≤ n → (x :: ms.map fun m => gD m 0)[i]? = some (grN x t i) := by
    intro i
    induction i with
    | zero => intro _; rfl
    | succ i ih =>
      intro hi
      have ih := ih (by omega)
      have em : ms[i]? = some ms[i] := List.getElem?_eq_getElem (by omega)
      have B := W.at_ i [] ms[i] (by rw [List.getElem?_replicate, if_pos (by omega)]) em
      have hd := B.hand 0 (grH t) rfl (by show ("times" : Str) ≠ "in"; decide +kernel)
      have tk : takes (stand [grB x] (ms.take i)) (gD ms[i]) 0 = [valB (gD ms[i]) (standB (ms.take i) (grB x))] := by
        show List.map _ (List.filter _ [standB (ms.take i) (grB x)]) = _
        rw [List.filter_cons, List.filter_nil, if_pos (by rw [stand_to]; rfl)]; rfl
      have ln : (ms.take i).length = i := by rw [List.length_take]; omega
      have vl : valB (gD ms[i]) (standB (ms.take i) (grB x)) = grN x t i := by
        rw [stand_head _ (by show [x] ≠ []; exact List.cons_ne_nil _ _), ln, List.getD_eq_getElem?_getD]
        have e : ((grB x).th ++ (ms.take i).map fun m => gD m (grB x).one)[i]? = some (grN x t i) := by
          show (x :: (ms.take i).map fun m => gD m 0)[i]? = _
          rw [← ih]
          cases i with
          | zero => rfl
          | succ k =>
            show ((ms.take (k + 1)).map _)[k]? = (ms.map _)[k]?
            rw [List.getElem?_map, List.getElem?_map, List.getElem?_take_of_lt (Nat.lt_succ_self k)]
        rw [e]; rfl
      rw [tk, vl] at hd
      show (ms.map fun m => gD m 0)[i]? = _
      rw [List.getElem?_map, em]
      show some ((ms[i]).getD 0 0) = _
      rw [List.getD_eq_getElem?_getD, hd]
      show some (t * grN x t i) = some (grN x t i * t)
      rw [Int.mul_comm]
  have e := at_ n (Nat.le_refl _)
  show [standB ms (grB x)] = _
  have s : standB ms (grB x) = ⟨0, 0, (x :: ms.map fun m => gD m 0).drop ms.length⟩ := by
    unfold standB
    rw [if_neg (by show ¬ [x] = []; exact List.cons_ne_nil _ _)]; rfl
  have ll : (x :: ms.map fun m => gD m 0).length = n + 1 := by rw [List.length_cons, List.length_map, lm]
  have d : (x :: ms.map fun m => gD m 0).drop n = [grN x t n] := by
    have nl : n < (x :: ms.map fun m => gD m 0).length := by omega
    rw [List.drop_eq_getElem_cons nl, List.drop_eq_nil_of_le (by omega)]
    rw [List.getElem?_eq_getElem nl] at e
    rw [Option.some.inj e]
  rw [s, lm, d]; rfl
theorem gr_small {x t : Int} (hx : -1000000 ≤ x ∧ x ≤ 1000000) (ht : t = 9 ∨ t = -9) : ∀ {n : Nat}, n ≤ 12 → -(1000000 * 9 ^ n) ≤ grN x t n ∧ grN x t n ≤ 1000000 * 9 ^ n
  | 0, _ => by
    show -(1000000 * 1) ≤ x ∧ x ≤ 1000000 * 1
    omega
  | n + 1, h => by
    have ih := gr_small hx ht (n := n) (by omega)
    have e : (9 : Int) ^ (n + 1) = 9 ^ n * 9 := Int.pow_succ ..
    show -(1000000 * 9 ^ (n + 1)) ≤ grN x t n * t ∧ grN x t n * t ≤ 1000000 * 9 ^ (n + 1)
    rw [e]
    generalize (9 : Int) ^ n = p at *
    rcases ht with rfl | rfl <;> omega
theorem gr_num {x t : Int} (hx : -1000000 ≤ x ∧ x ≤ 1000000) (ht : t = 9 ∨ t = -9) {n : Nat} (h : n ≤ 12) : Num (grN x t n) := by
  have a := gr_small hx ht h
  have b : (9 : Int) ^ n ≤ 9 ^ 12 := by
    have : (9 : Nat) ^ n ≤ 9 ^ 12 := Nat.pow_le_pow_right (by decide) h
    exact_mod_cast this
  have c : (9 : Int) ^ 12 = 282429536481 := by decide
  exact ⟨by omega, by omega⟩
/-- its room's text -/
theorem gr_text {t y : Int} {z : Str} (e : cps z = cps "hand times " ++ numL t ++ cps " 3\nbelt 0 0 : " ++ numL y) : TextR [grH t] [grB y] z := by
  unfold TextR
  rw [e]
  have e1 : cps "hand times " = cps "hand" ++ 32 :: cps "times" ++ [32] := by decide +kernel
  have e2 : cps " 3\nbelt 0 0 : " = 32 :: numL 3 ++ 10 :: cps "belt" ++ 32 :: numL 0 ++ 32 :: numL 0 ++ 32 :: cps ":" ++ [32] := by decide +kernel
  rw [e1, e2]
  show _ = joinL 32 [cps "hand", cps "times", numL t, numL 3] ++ 10 :: joinL 32 [cps "belt", numL 0, numL 0, cps ":", numL y]
  show _ = (cps "hand" ++ 32 :: (cps "times" ++ 32 :: (numL t ++ 32 :: numL 3))) ++ 10 :: (cps "belt" ++ 32 :: (numL 0 ++ 32 :: (numL 0 ++ 32 :: (cps ":" ++ 32 :: numL y))))
  simp only [List.append_assoc, List.cons_append, List.nil_append]
theorem all2_rep {α β : Type} {R : α → β → Prop} {a : α} {b : β} (h : R a b) : ∀ n, All2 R (List.replicate n a) (List.replicate n b)
  | 0 => .nil
  | n + 1 => .cons h (all2_rep h n)
section
variable {P : Program} {w : World} {K : PySem.W.Frag} {mg : Str → Option Value} {base : Heap}
variable {cN cF cB : Addr} {PT : Addr × Addr × Addr} [TN : TabN K mg base cN PT] [TF : TabF K mg base cF PT] [TC : TabC K mg base cB PT]
include TN TF TC
def sp_law_grown_right (K : PySem.W.Frag) (PT : Addr × Addr × Addr) : Sp := fun vs H Q _ => ∃ (f c : Addr), vs = [.ref f] ∧ Flow H f c ∧ Tb2 PT H ∧ ∀ H', Flow H' f c → Tb2 PT H' → Q (.bl true) H'
theorem ok_law_grown_right {f : Addr} {fd : FuncData} (F : Fun K "_law_grown_right" "_law_grown_right" s_law_grown_right f fd) (T : Top w K mg) : FnOk P w K mg base CX0 8 f fd ["_law_flow_here"] (sp_law_grown_right K PT) := by
  obtain ⟨f_law_thing, fd_law_thing, F_law_thing, b_law_thing, m_law_thing⟩ := T.d_law_thing
  have G_law_thing := ok_law_thing (P := P) (w := w) (base := base) F_law_thing T
  obtain ⟨f_law_pick, fd_law_pick, F_law_pick, b_law_pick, m_law_pick⟩ := T.d_law_pick
  have G_law_pick := ok_law_pick (P := P) (w := w) (base := base) F_law_pick T
  obtain ⟨f_standing, fd_standing, F_standing, b_standing, m_standing⟩ := T.d_standing
  have G_standing := ok_standing (P := P) (w := w) (base := base) F_standing T
  obtain ⟨f_show_room, fd_show_room, F_show_room, b_show_room, m_show_room⟩ := T.d_show_room
  have G_show_room := ok_show_room (P := P) (w := w) (base := base) F_show_room T
  obtain ⟨f_read_room, fd_read_room, F_read_room, b_read_room, m_read_room⟩ := T.d_read_room
  have G_read_room := ok_read_room (P := P) (w := w) (base := base) F_read_room T
  obtain ⟨fdI, N⟩ := T.x_ns
  have GI := ok_NsInit (P := P) (w := w) (base := base) N
  refine F.ok sc_law_grown_right (fun vs H Q E h => ?_) (fun cdv A outer s H vs Q E hr h => ?_)
  · obtain ⟨f, c, rfl, _⟩ := h
    rfl
  obtain ⟨f, c, rfl, hF, tb, q⟩ := h
  let R1 : TS := fun D' σ' H' => D'.rt = Q ∧ ∃ (r0 : Addr) (x t : Int) (n : Nat) (v5 : Option V), σ' = [some (.ref f), some (.int (grN x t n)), some (.int t), some (.ref r0), some (nV n), v5, none, none, none, none] ∧ (-1000000 ≤ x ∧ x ≤ 1000000) ∧ (t = 9 ∨ t = -9) ∧ n ≤ 12 ∧ RoomAt H' r0 [grH t] [grB x] ∧ Flow H' f c ∧ Tb2 PT H'
  refine ⟨_, (pss_cons (ps_set (i := 1) sc_law_grown_right.nd rfl (Or.inl rfl) (pe_call G_law_thing (hr.mono (by decide)) (by rfl) m_law_thing F_law_thing.kp b_law_thing .nil pass0 (pa_cons (pv 0) pa_nil)))
      (pss_cons (ps_set (i := 2) sc_law_grown_right.nd rfl (Or.inl rfl) (pe_ix (ix_listK K rfl) (pe_lst (pa_cons pe_int (pa_cons (pe_un un_neg pe_int) pa_nil))) (pe_call G_law_pick (hr.mono (by decide)) (by rfl) m_law_pick F_law_pick.kp b_law_pick .nil pass0 (pa_cons (pv 0) (pa_cons pe_int pa_nil))) (fun _ _ => rfl)))
      (pss_cons (ps_set (i := 3) sc_law_grown_right.nd rfl (Or.inl rfl) (pe_tup (pa_cons (pe_tup (pa_cons (pe_tup (pa_cons (pe_tup (pa_cons pe_str (pa_cons (pv 2) pa_nil))) (pa_cons pe_int pa_nil))) pa_nil)) (pa_cons (pe_tup (pa_cons (pe_tup (pa_cons pe_int (pa_cons pe_int (pa_cons (pe_tup (pa_cons (pv 1) pa_nil)) pa_nil)))) pa_nil)) pa_nil))))
      (pss_cons (ps_set (i := 4) sc_law_grown_right.nd rfl (Or.inl rfl) (pe_call G_law_pick (hr.mono (by decide)) (by rfl) m_law_pick F_law_pick.kp b_law_pick .nil pass0 (pa_cons (pv 0) (pa_cons pe_int pa_nil))))
      (pss_cons (ps_for PassesOwn.never rfl (pi_range1 (by rfl) T.m_range (pa_cons (pv 4) pa_nil)) (pg_name (i := 5) sc_law_grown_right.nd rfl (Or.inl rfl))
        (pss_one (ps_set (i := 1) sc_law_grown_right.nd rfl (Or.inl rfl) (pe_op op_mul (pv 1) (pv 2)))))
      (PSs.to (pss_cons (ps_set (i := 6) sc_law_grown_right.nd rfl (Or.inl rfl) (pe_call G_standing (hr.mono (by decide)) (by rfl) m_standing F_standing.kp b_standing .nil pass0 (pa_cons (pv 3) (pa_cons (pe_op op_rep (pe_lst (pa_cons (pe_tup pa_nil) pa_nil)) (pv 4)) pa_nil))))
      (pss_cons (ps_set (i := 7) sc_law_grown_right.nd rfl (Or.inl rfl) (pe_op op_add_str (pe_op op_add_str (pe_op op_add_str pe_str (pe_callTy call_str_int (by rfl) T.m_str (by decide +kernel) (pa_cons (pv 2) pa_nil))) pe_str) (pe_callTy call_str_int (by rfl) T.m_str (by decide +kernel) (pa_cons (pv 1) pa_nil))))
      (pss_cons (ps_if (pt_cmpR op_ne (pe_call G_show_room (hr.mono (by decide)) (by rfl) m_show_room F_show_room.kp b_show_room .nil pass0 (pa_cons (pv 6) pa_nil)) (pv 7) (nomark _)) (pss_one (ps_ret pe_bl)) pss_nil)
      (pss_cons (ps_set (i := 8) sc_law_grown_right.nd rfl (Or.inl rfl) pe_non)
      (pss_cons (ps_try_as (i := 9) rfl rfl sc_law_grown_right.nd rfl rfl ⟨by rfl, by decide, .inl N.gC⟩ takes0
        (fun W pn xe tk _ => (pss_one (ps_set (i := 8) sc_law_grown_right.nd rfl (Or.inl rfl) (pe_callS G_read_room (hr.mono (by decide)) (by rfl) m_read_room F_read_room.kp b_read_room (fun σ => passAt tk σ) (pa_cons (pv 7) pa_nil)))))
        (fun a oe cls d pn hz hf => (pss_one (ps_ret (pe_and (pe_cmpR op_gt (pe_callB call_len_str (by rfl) T.m_len (by decide +kernel) (pa_cons (pe_callTy call_str_int (by rfl) T.m_str (by decide +kernel) (pa_cons (pe_callB call_abs (by rfl) T.m_abs (by decide +kernel) (pa_cons (pv 1) pa_nil)) pa_nil)) pa_nil)) pe_int (nomark _)) (pe_one (pe_cmpR op_eq (pe_xf N.xf N.nr hz hf (pv 9)) pe_int (nomark _))))))))
      (pss_one (ps_ret (pe_and (pe_cmpR op_lt (pe_callB call_len_str (by rfl) T.m_len (by decide +kernel) (pa_cons (pe_callTy call_str_int (by rfl) T.m_str (by decide +kernel) (pa_cons (pe_callB call_abs (by rfl) T.m_abs (by decide +kernel) (pa_cons (pv 1) pa_nil)) pa_nil)) pa_nil)) pe_int (nomark _)) (pe_one (pe_cmpR (op_eqDK K rfl hr.units) (pv 8) (pv 6) (nomark _))))))))))) R1 ?tail1)))))), ?_⟩
  case tail1 =>
    rintro D' σ' H1 ⟨eD, r0, x, t, n, v5, rfl, hx, ht, n12, hR, F1, t1⟩
    have ny := gr_num hx ht n12
    obtain ⟨y, ey⟩ : ∃ y, y = grN x t n := ⟨_, rfl⟩
    rw [← ey] at ny ⊢
    refine ⟨_, rfl, (by show 0 ≤ sizeLine; decide), fun et net => ⟨(by show 1 ≤ sizeLine; decide), fun l1 nl1 => ⟨_, rfl, l1, _, _, rfl, rfl, upd_same, by omega, by omega, little (by show 1 * ((n : Nat) : Int).toNat ≤ 1000; omega), fun p1 np1 => ?_⟩⟩⟩
    rw [flat_rep, Int.toNat_natCast]
    have u1 := same_new (o := .tup []) net
    have u2 := same_new (o := .lst [V.ref et]) nl1
    have u3 := same_new (o := .lst (List.replicate n (V.ref et))) np1
    have s4 := u1.trans (u2.trans u3)
    have het := u3 _ _ (u2 _ _ (upd_same (H := H1) (a := et) (o := .tup [])))
    have hp1 : (upd (upd (upd H1 et (.tup [])) l1 (.lst [V.ref et])) p1 (.lst (List.replicate n (V.ref et)))) p1 = some (.lst (List.replicate n (V.ref et))) := upd_same
    generalize upd (upd (upd H1 et (.tup [])) l1 (.lst [V.ref et])) p1 (.lst (List.replicate n (V.ref et))) = H4 at s4 het hp1 ⊢
    refine ⟨r0, p1, [grH t], [grB x], List.replicate n [], rfl, hR.keep (TK.same s4), gr_room ht ⟨by omega, by omega⟩, ⟨_, .inl hp1, all2_rep ⟨et, rfl, het⟩ n⟩, fun r hr => ?_, by rw [List.length_replicate]; omega, fun p ms H5 hR5 W s5 => ?_⟩
    · rw [(List.mem_replicate.mp hr).2, gr_doors]; rfl
    rw [gr_ws W, ← ey] at hR5
    have s15 := s4.trans s5
    have nt : Num t := by rcases ht with rfl | rfl <;> exact ⟨by decide, by decide⟩
    have l1 := numS_len nt.1 nt.2
    have l2 := numS_len ny.1 ny.2
    have la : ∀ a b : Str, (a ++ b).length = a.length + b.length := fun a b => by rw [strlen, strlen, strlen, str_app, List.length_append]
    have c1 : Str.length "hand times " ≤ 40 := by decide +kernel
    have c2 : Str.length " 3\nbelt 0 0 : " ≤ 40 := by decide +kernel
    refine ⟨_, rfl, _, rfl, log_num nt, _, _, rfl, rfl, little (by show Str.length "hand times " + (numS t).length ≤ 1000; omega), ?_⟩
    refine ⟨_, _, rfl, rfl, little (by show ("hand times " ++ numS t).length + Str.length " 3\nbelt 0 0 : " ≤ 1000; rw [la]; omega), ?_⟩
    refine ⟨_, rfl, _, rfl, log_num ny, _, _, rfl, rfl, little (by show (("hand times " ++ numS t) ++ " 3\nbelt 0 0 : ").length + (numS y).length ≤ 1000; rw [la, la]; omega), ?_⟩
    obtain ⟨tx, etx⟩ : ∃ tx : Str, tx = (("hand times " ++ Str.ofString (toString t)) ++ " 3\nbelt 0 0 : ") ++ Str.ofString (toString y) := ⟨_, rfl⟩
    have hT : TextR [grH t] [grB y] tx := gr_text (by rw [etx]; show (_ ++ _ : Str).cps.toList = _; rw [str_app, str_app, str_app]; rfl)
    have hwH : HandW (grH t) := ⟨by show Str.length "times" ≤ 100; decide +kernel, fun n hn => by
      have : n ∈ [t] := hn
      rw [List.mem_singleton.mp this]; exact nt, ⟨by show (-1000000000000000000 : Int) < 3; decide, by show (3 : Int) < 1000000000000000000; decide⟩⟩
    have hwB : BeltW (grB y) := ⟨⟨by show (-1000000000000000000 : Int) < 0; decide, by show (0 : Int) < 1000000000000000000; decide⟩, ⟨by show (-1000000000000000000 : Int) < 0; decide, by show (0 : Int) < 1000000000000000000; decide⟩, fun n hn => by
      have : n ∈ [y] := hn
      rw [List.mem_singleton.mp this]; exact ny, by show 1 ≤ 100; decide⟩
    refine ⟨_, rfl, p, [grH t], [grB y], rfl, hR5, by show 1 ≤ 100; decide, by show 1 ≤ 100; decide, fun h hh => by rw [List.mem_singleton.mp hh]; exact hwH, fun b hb => by rw [List.mem_singleton.mp hb]; exact hwB, fun z H6 hz s6 => ?_⟩
    have ez : z = tx := str_inj (hz.trans hT.symm)
    subst ez
    refine ⟨_, rfl, rfl, _, rfl, if_bl (fun c => ?_) (fun _ => ?_)⟩
    · rw [← etx] at c
      revert c
      simp
    rw [← etx]
    have s16 := s15.trans s6
    have t6 := t1.same s16
    have F6 := F1.same s16
    have hR6 := hR5.keep (TK.same s6)
    refine ⟨_, rfl, ?_⟩
    dsimp only [tNil]
    obtain ⟨fdI, N⟩ := T.x_ns
    have rr : RoomR [grH t] [grB y] := ⟨by show 1 ≤ 100; decide, by show 1 ≤ 100; decide, fun h hh => by
      rw [List.mem_singleton.mp hh]
      refine ⟨gr_good ht, fun n hn => ?_, by show (-1000000000 : Int) < 3; decide, by show (3 : Int) < 1000000000; decide⟩
      have : n ∈ [t] := hn
      rw [List.mem_singleton.mp this]
      rcases ht with rfl | rfl <;> exact ⟨by decide, by decide⟩, fun b hb => by rw [List.mem_singleton.mp hb]; exact hwB, fun b hb => by rw [List.mem_singleton.mp hb]; exact ⟨by show 0 < 1000000000; decide, by show 0 < 1000000000; decide⟩⟩
    obtain ⟨m, em, hm⟩ : ∃ m : Nat, (if y < 0 then -y else y) = (m : Int) ∧ (NumR y ↔ m < 10 ^ 9) := by
      refine ⟨y.natAbs, ?_, ?_⟩
      · split <;> omega
      · unfold NumR; omega
    have ml : m < 1000000000000000000 := by have := ny.1; have := ny.2; split at em <;> omega
    have sl : (Str.ofString (toString ((m : Nat) : Int))).length = (digN m).length := by
      rw [strlen]
      show (numL _).length = _
      rw [numL_pos]
    have l19 := digN_len (k := 17) (m := m) (by show m < 10 ^ 18; omega)
    refine ⟨z, [grH t], [grB y], rfl, hT, rr, t6, fun br => ⟨gr_room ht (br (grB y) (List.mem_singleton.mpr rfl) y (List.mem_singleton.mpr rfl)), fun r H7 hR7 e7 t7 => ?_⟩, fun j b d H7 eb nb _ hd e7 t7 => ?_⟩
    · have yr : NumR y := br (grB y) (List.mem_singleton.mpr rfl) y (List.mem_singleton.mpr rfl)
      have d9 := digN_len (k := 8) (m := m) (hm.mp yr)
      refine ⟨_, rfl, _, rfl, ?_⟩
      rw [em]
      refine ⟨_, rfl, log_1920 ml, _, rfl, little (by rw [sl]; omega), _, _, rfl, rfl, _, rfl, if_bl (fun _ => ?_) (fun c => ?_)⟩
      · have gd : ∀ h ∈ [grH t], GoodHand h := fun h hh => by rw [List.mem_singleton.mp hh]; exact gr_good ht
        refine ⟨_, rfl, _, rfl, _, _, hR7.dp, (hR6.keep (tk_ext e7)).dp, room_shaped gd, room_shaped gd, ?_⟩
        rw [PySem.SeqAt.eqv_refl _ (room_lay gd), eD]
        exact q _ (ExtN.flow e7 F6) t7
      · have c := of_decide_eq_false c
        rw [sl] at c
        omega
    · have yn : ¬ NumR y := fun yr => by
        refine nb fun x hx => ?_
        match j, eb with
        | 0, eb =>
          obtain rfl : grB y = b := Option.some.inj eb
          have : x ∈ [y] := hx
          rw [List.mem_singleton.mp this]; exact yr
        | _ + 1, eb => cases eb
      have j0 : j = 0 := by
        match j, eb with
        | 0, _ => rfl
        | _ + 1, eb => cases eb
      subst j0
      have d9 := digN_long (m := m) (by have hz : ¬ m < 10 ^ 9 := fun z => yn (hm.mpr z); omega)
      refine ⟨true, N.tc, fun _ a na => ?_, fun z => nomatch z⟩
      refine ⟨_, rfl, _, rfl, ?_⟩
      rw [em]
      refine ⟨_, rfl, log_1920 ml, _, rfl, little (by rw [sl]; omega), _, _, rfl, rfl, _, rfl, if_bl (fun _ => ?_) (fun c => ?_)⟩
      · refine ⟨_, rfl, rfl, rfl, d, _, _, rfl, hd, rfl, rfl, ?_⟩
        show D'.rt (V.bl (decide _)) _
        rw [eD]
        exact q _ (ExtN.flow e7 F6) t7
      · have c := of_decide_eq_false c
        rw [sl] at c
        omega
  refine ⟨_, rfl, f, c, rfl, hF, fun x H1 sx F1 B1 => ?_⟩
  have t1 := tb.but hF B1
  refine ⟨9, rfl, (by show 2 ≤ sizeLine; decide), fun l nl => ?_⟩
  have F2 := F1.new (o := .lst [V.int 9, V.int (-9)]) nl
  have t2 := t1.same (same_new (o := .lst [V.int 9, V.int (-9)]) nl)
  refine ⟨_, rfl, f, c, 2, rfl, by decide, by decide +kernel, F2, fun v H3 v0 v1 F3 B3 => ?_⟩
  have t3 := t2.but F2 B3
  obtain ⟨t, et, ht⟩ : ∃ t, atI [V.int 9, V.int (-9)] v = some (.int t) ∧ (t = 9 ∨ t = -9) := by
    have : v = 0 ∨ v = 1 := by omega
    rcases this with rfl | rfl
    · exact ⟨9, rfl, .inl rfl⟩
    · exact ⟨-9, rfl, .inr rfl⟩
  refine ⟨l, _, _, _, rfl, rfl, SqL.of (B3 _ _ upd_same (F1.ne nl)), et, ?_⟩
  refine ⟨_, rfl, (by show 2 ≤ sizeLine; decide), fun a1 na1 => ⟨(by show 2 ≤ sizeLine; decide), fun a2 na2 => ⟨(by show 1 ≤ sizeLine; decide), fun a3 na3 => ?_⟩⟩⟩
  have u1 := same_new (o := .tup [V.str "times", V.int t]) na1
  have u2 := same_new (o := .tup [V.ref a1, V.int 3]) na2
  have u3 := same_new (o := .tup [V.ref a2]) na3
  have h1 := u3 _ _ (u2 _ _ (upd_same (H := H3) (a := a1) (o := .tup [V.str "times", V.int t])))
  have h2 := u3 _ _ (upd_same (H := upd H3 a1 (.tup [V.str "times", V.int t])) (a := a2) (o := .tup [V.ref a1, V.int 3]))
  have h3 : (upd (upd (upd H3 a1 (.tup [V.str "times", V.int t])) a2 (.tup [V.ref a1, V.int 3])) a3 (.tup [V.ref a2])) a3 = some (.tup [V.ref a2]) := upd_same
  have s4 := u1.trans (u2.trans u3)
  have F4 := F3.same s4
  have t4 := t3.same s4
  generalize upd (upd (upd H3 a1 (.tup [V.str "times", V.int t])) a2 (.tup [V.ref a1, V.int 3])) a3 (.tup [V.ref a2]) = H4 at h1 h2 h3 F4 t4 ⊢
  refine ⟨_, rfl, (by show 1 ≤ sizeLine; decide), fun b1 nb1 => ⟨(by show 3 ≤ sizeLine; decide), fun b2 nb2 => ⟨(by show 1 ≤ sizeLine; decide), fun b3 nb3 => ⟨(by show 2 ≤ sizeLine; decide), fun r0 nr0 => ?_⟩⟩⟩⟩
  have w1 := same_new (o := .tup [V.int x]) nb1
  have w2 := same_new (o := .tup [V.int 0, V.int 0, V.ref b1]) nb2
  have w3 := same_new (o := .tup [V.ref b2]) nb3
  have w4 := same_new (o := .tup [V.ref a3, V.ref b3]) nr0
  have s5 := w1.trans (w2.trans (w3.trans w4))
  have hR : RoomAt (upd (upd (upd (upd H4 b1 (.tup [V.int x])) b2 (.tup [V.int 0, V.int 0, V.ref b1])) b3 (.tup [V.ref b2])) r0 (.tup [V.ref a3, V.ref b3])) r0 [grH t] [grB x] :=
    ⟨a3, b3, [V.ref a2], [V.ref b2], upd_same, s5 _ _ h3, w4 _ _ upd_same, .cons ⟨a2, a1, rfl, s5 _ _ h2, s5 _ _ h1⟩ .nil, .cons ⟨b2, b1, rfl, w4 _ _ (w3 _ _ upd_same), w4 _ _ (w3 _ _ (w2 _ _ upd_same))⟩ .nil⟩
  have F5 := F4.same s5
  have t5 := t4.same s5
  generalize upd (upd (upd (upd H4 b1 (.tup [V.int x])) b2 (.tup [V.int 0, V.int 0, V.ref b1])) b3 (.tup [V.ref b2])) r0 (.tup [V.ref a3, V.ref b3]) = H5 at hR F5 t5 ⊢
  refine ⟨_, rfl, f, c, 13, rfl, by decide, by decide +kernel, F5, fun mn H6 mn0 mn1 F6 B6 => ?_⟩
  have hR6 := hR.keep (TK.but F5 B6)
  have t6 := t5.but F5 B6
  obtain ⟨n, rfl⟩ : ∃ n : Nat, mn = n := ⟨mn.toNat, by omega⟩
  refine ⟨_, rfl, _, rfl, by omega, by omega, for_range (lo := 0) (n := n) (fun i σ H7 => H7 = H6 ∧ ∃ v5 : Option V, σ = [some (.ref f), some (.int (grN x t i)), some (.int t), some (.ref r0), some (nV n), v5, none, none, none, none]) ⟨rfl, none, rfl⟩ ?_ ?_⟩
  · rintro i σ H7 hi ⟨rfl, v5, rfl⟩
    have nn := gr_num sx ht (n := i) (by omega)
    exact ⟨_, rfl, _, rfl, _, _, rfl, rfl, .inl ⟨by have := nn.1; omega, by have := nn.2; omega⟩, rfl, _, rfl⟩
  · rintro σ H7 ⟨rfl, v5, rfl⟩
    exact ⟨rfl, r0, x, t, n, v5, rfl, sx, ht, by omega, hR6, F6, t6⟩
end
theorem room_r {hs : List HR} {bs : List BR} (ok : RoomOk hs bs) : RoomR hs bs := by
  refine ⟨Nat.le_trans ok.hands (by decide), Nat.le_trans ok.many (by decide), fun h hh => ?_, fun b hb => ?_, fun b hb => ?_⟩
  · have g := ok.good h hh
    refine ⟨g, fun n hn => ?_, by have := g.2.1; omega, by have := g.2.2; omega⟩
    unfold noL at hn
    cases e : h.no with
    | none => rw [e] at hn; cases hn
    | some k =>
      rw [e] at hn
      rw [List.mem_singleton.mp hn]
      rcases g.1 with r | r
      · have := r.big k e
        exact ⟨by omega, by omega⟩
      · rw [r.2.1] at e
        cases e
  · have e := ok.ends b hb
    have l := ok.hands
    have t := ok.th b hb
    exact ⟨⟨by omega, by omega⟩, ⟨by omega, by omega⟩, fun x hx => NumR.num (t.2 x hx), by omega⟩
  · have e := ok.ends b hb
    have l := ok.hands
    exact ⟨by omega, by omega⟩
section
variable {P : Program} {w : World} {K : PySem.W.Frag} {mg : Str → Option Value} {base : Heap}
variable {cN cF cB : Addr} {PT : Addr × Addr × Addr} [TN : TabN K mg base cN PT] [TF : TabF K mg base cF PT] [TC : TabC K mg base cB PT]
include TN TF TC
def sp_law (K : PySem.W.Frag) (PT : Addr × Addr × Addr) : Sp := fun vs H Q _ => ∃ (a : Addr) (ns : List Int), vs = [.ref a] ∧ SqL K H a (ns.map V.int) ∧ ns.length ≤ 63 ∧ Tb2 PT H ∧ ∀ H', Q (.bl true) H'
theorem ok_law {f : Addr} {fd : FuncData} (F : Fun K "law" "law" s_law f fd) (T : Top w K mg) : FnOk P w K mg base CX0 9 f fd ["_law_script"] (sp_law K PT) := by
  obtain ⟨f_law_flow, fd_law_flow, F_law_flow, b_law_flow, m_law_flow⟩ := T.d_law_flow
  have G_law_flow := ok_law_flow (P := P) (w := w) (base := base) F_law_flow T
  obtain ⟨f_law_grown_right, fd_law_grown_right, F_law_grown_right, b_law_grown_right, m_law_grown_right⟩ := T.d_law_grown_right
  have G_law_grown_right := ok_law_grown_right (P := P) (w := w) (base := base) F_law_grown_right T
  obtain ⟨f_law_any_room, fd_law_any_room, F_law_any_room, b_law_any_room, m_law_any_room⟩ := T.d_law_any_room
  have G_law_any_room := ok_law_any_room (P := P) (w := w) (base := base) F_law_any_room T
  obtain ⟨f_law_text, fd_law_text, F_law_text, b_law_text, m_law_text⟩ := T.d_law_text
  have G_law_text := ok_law_text (P := P) (w := w) (base := base) F_law_text T
  obtain ⟨f_show_room, fd_show_room, F_show_room, b_show_room, m_show_room⟩ := T.d_show_room
  have G_show_room := ok_show_room (P := P) (w := w) (base := base) F_show_room T
  obtain ⟨f_law_alike, fd_law_alike, F_law_alike, b_law_alike, m_law_alike⟩ := T.d_law_alike
  have G_law_alike := ok_law_alike (P := P) (w := w) (base := base) F_law_alike T
  obtain ⟨f_read_room, fd_read_room, F_read_room, b_read_room, m_read_room⟩ := T.d_read_room
  have G_read_room := ok_read_room (P := P) (w := w) (base := base) F_read_room T
  refine F.ok sc_law (fun vs H Q E h => ?_) (fun cdv A outer s H vs Q E hr h => ?_)
  · obtain ⟨a, ns, rfl, _⟩ := h
    rfl
  obtain ⟨a, ns, rfl, hS, hlen, tb, q⟩ := h
  refine ⟨_, (pss_cons (ps_set (i := 1) sc_law.nd rfl (Or.inl rfl) (pe_call G_law_flow (hr.mono (by decide)) (by rfl) m_law_flow F_law_flow.kp b_law_flow .nil pass0 (pa_cons (pv 0) pa_nil)))
      (pss_cons (ps_if (pt_not (pt_val (pe_call G_law_grown_right (hr.mono (by decide)) (by rfl) m_law_grown_right F_law_grown_right.kp b_law_grown_right .nil pass0 (pa_cons (pv 1) pa_nil)))) (pss_one (ps_ret pe_bl)) pss_nil)
      (pss_cons (ps_set (i := 2) sc_law.nd rfl (Or.inl rfl) (pe_lst (pa_cons (pe_call G_law_any_room (hr.mono (by decide)) (by rfl) m_law_any_room F_law_any_room.kp b_law_any_room .nil pass0 (pa_cons (pv 1) pa_nil)) (pa_cons (pe_call G_law_any_room (hr.mono (by decide)) (by rfl) m_law_any_room F_law_any_room.kp b_law_any_room .nil pass0 (pa_cons (pv 1) pa_nil)) pa_nil))))
      (pss_cons (ps_for PassesOwn.never rfl (pi_listK K rfl (pe_op op_cat (pv 2) (pe_slice (sl_listK K rfl) (pv 2) po_none (po_some pe_int)))) (pg_name (i := 3) sc_law.nd rfl (Or.inl rfl))
        (pss_cons (ps_set (i := 4) sc_law.nd rfl (Or.inl rfl) (pe_call G_law_text (hr.mono (by decide)) (by rfl) m_law_text F_law_text.kp b_law_text .nil pass0 (pa_cons (pv 3) pa_nil)))
      (pss_cons (ps_set (i := 5) sc_law.nd rfl (Or.inl rfl) (pe_call G_show_room (hr.mono (by decide)) (by rfl) m_show_room F_show_room.kp b_show_room .nil pass0 (pa_cons (pv 3) pa_nil)))
      (pss_one (ps_if (PW.pt (pw_or (pt_not (pt_val (pe_callB (call_isiKK K rfl) (by rfl) T.m_isinstance (by decide +kernel) (pa_cons (pv 5) (pa_cons (pe_bltn (v := .ty "str") (by rfl) T.m_str (by decide +kernel) rfl) pa_nil))))) (pw_or (pt_cmpR op_ne (pv 5) (pv 4) (nomark _)) (pw_or1 (pt_not (pt_val (pe_call G_law_alike (hr.mono (by decide)) (by rfl) m_law_alike F_law_alike.kp b_law_alike .nil pass0 (pa_cons (pe_callS G_read_room (hr.mono (by decide)) (by rfl) m_read_room F_read_room.kp b_read_room (fun σ => passAt takes0 σ) (pa_cons (pv 4) pa_nil)) (pa_cons (pv 3) pa_nil))))))))) (pss_one (ps_ret pe_bl)) pss_nil)))))
      (pss_one (ps_ret pe_bl)))))), ?_⟩
  refine ⟨_, rfl, a, ns, rfl, hS, fun f c H1 nf nc F1 s1 => ?_⟩
  have t1 := tb.same s1
  refine ⟨_, rfl, f, c, rfl, F1, t1, fun H2 F2 t2 => ⟨_, rfl, if_bl (fun z => absurd z (by decide)) (fun _ => ?_)⟩⟩
  refine ⟨_, rfl, f, c, rfl, F2, fun r1 h1 b1 H3 hR1 ok1 F3 B3 => ?_⟩
  refine ⟨_, rfl, f, c, rfl, F3, fun r2 h2 b2 H4 hR2 ok2 F4 B4 => ⟨(by show 2 ≤ sizeLine; decide), fun l nl => ?_⟩⟩
  have t4 := (t2.but F2 B3).but F3 B4
  have u5 := same_new (o := .lst [V.ref r1, V.ref r2]) nl
  have hl : (upd H4 l (.lst [V.ref r1, V.ref r2])) l = some (.lst [V.ref r1, V.ref r2]) := upd_same
  have hR15 := (hR1.keep (TK.but F3 B4)).keep (TK.same u5)
  have hR25 := hR2.keep (TK.same u5)
  have t5 := t4.same u5
  generalize upd H4 l (.lst [V.ref r1, V.ref r2]) = H5 at hl hR15 hR25 t5 ⊢
  refine ⟨_, rfl, _, rfl, _, rfl, l, _, rfl, SqL.of hl, fun p np => ?_⟩
  have ec : cutV [V.ref r1, V.ref r2] none (some 1) = [V.ref r1] := by
    rw [show (1 : Int) = ((1 : Nat) : Int) from rfl, cut_take]; rfl
  rw [ec]
  have u6 := same_new (o := .lst [V.ref r1]) np
  refine ⟨l, p, _, _, rfl, rfl, u6 _ _ hl, upd_same, little (by show 3 ≤ 1000; decide), fun p2 np2 => ?_⟩
  have u7 := same_new (o := .lst ([V.ref r1, V.ref r2] ++ [V.ref r1])) np2
  have hp2 : (upd (upd H5 p (.lst [V.ref r1])) p2 (.lst ([V.ref r1, V.ref r2] ++ [V.ref r1]))) p2 = some (.lst [V.ref r1, V.ref r2, V.ref r1]) := upd_same
  have hR17 := hR15.keep (TK.same (u6.trans u7))
  have hR27 := hR25.keep (TK.same (u6.trans u7))
  have t7 := t5.same (u6.trans u7)
  generalize upd (upd H5 p (.lst [V.ref r1])) p2 (.lst ([V.ref r1, V.ref r2] ++ [V.ref r1])) = H7 at hp2 hR17 hR27 t7 ⊢
  refine ⟨p2, rfl, ⟨_, SqL.of hp2⟩, for_list (K := K) (a := p2) (xs := [V.ref r1, V.ref r2, V.ref r1]) (fun i σ H8 => ∃ v3 v4 v5 : Option V, σ = [some (.ref a), some (.ref f), some (.ref l), v3, v4, v5] ∧ LamX.ExtN H7 H8 ∧ Tb2 PT H8) ⟨none, none, none, rfl, LamX.ExtN.refl H7, t7⟩ (fun i σ H8 _ ⟨_, _, _, _, e8, _⟩ => SqL.of (ExtN.lst e8 hp2)) ?_ ?_⟩
  · rintro i x σ H8 hx ⟨v3, v4, v5, rfl, e8, t8⟩
    obtain ⟨r, hs, bs, rfl, hR, ok⟩ : ∃ (r : Addr) (hs : List HR) (bs : List BR), x = .ref r ∧ RoomAt H8 r hs bs ∧ RoomOk hs bs := by
      match i, hx with
      | 0, hx => exact ⟨r1, h1, b1, (Option.some.inj hx).symm, hR17.keep (tk_ext e8), ok1⟩
      | 1, hx => exact ⟨r2, h2, b2, (Option.some.inj hx).symm, hR27.keep (tk_ext e8), ok2⟩
      | 2, hx => exact ⟨r1, h1, b1, (Option.some.inj hx).symm, hR17.keep (tk_ext e8), ok1⟩
    have rr := room_r ok
    have hw : ∀ h ∈ hs, HandW h := fun h hh => (rr.hs h hh).w
    refine ⟨_, rfl, r, hs, bs, rfl, hR, rr.lh, rr.lb, hw, rr.bw, fun z H9 hz s9 => ?_⟩
    have hR9 := hR.keep (TK.same s9)
    refine ⟨_, rfl, r, hs, bs, rfl, hR9, rr.lh, rr.lb, hw, rr.bw, fun z2 H10 hz2 s10 => ?_⟩
    obtain rfl : z2 = z := str_inj (hz2.trans hz.symm)
    have hR10 := hR9.keep (TK.same s10)
    have s810 := s9.trans s10
    have t10 := t8.same s810
    have e10 := e8.trans (ext_same s810)
    refine ⟨_, rfl, _, _, _, _, true, rfl, .ty "str", .base (.str _), kit_ty (by decide +kernel), _, rfl, if_bl (fun z => absurd z (by decide)) (fun _ => ?_)⟩
    refine ⟨_, rfl, _, rfl, rfl, _, rfl, if_bl (fun c => ?_) (fun _ => ?_)⟩
    · revert c
      simp
    refine ⟨_, rfl, z2, hs, bs, rfl, hz, rr, t10, fun _ => ⟨ok, fun r' H11 hR' e11 t11 => ?_⟩, fun j b d H11 eb nb _ _ _ _ => absurd (fun x hx => (ok.th b (List.mem_of_getElem? eb)).2 x hx) nb⟩
    have hR11 := hR10.keep (tk_ext e11)
    have lh := ok.hands
    have lb := ok.many
    refine ⟨_, rfl, _, _, rfl, al_room hR' hR11 (by omega) (by omega) ok.good (fun b hb => Nat.le_trans (ok.th b hb).1 (by decide)), fun H12 s12 => ⟨_, rfl, if_bl (fun z => absurd z (by decide)) (fun _ => ?_)⟩⟩
    exact ⟨_, _, _, rfl, (e10.trans e11).trans (ext_same s12), t11.same s12⟩
  · rintro σ H8 ⟨v3, v4, v5, rfl, e8, t8⟩
    exact q _
end
/-! ### the class of own errors, looked at in the head -/
def oexB (K : PySem.W.Frag) (C : Addr) : Bool := match K.lookup C with
  | some o => (match o.cls, o.data, o.slots.toList with
    | .type t, .cls cd, [_, _, _, _, some (.builtin n), _] => decide (t = "type") && (decide (n = "ValueError.__new__") && (!cd.hasDel && (cd.hasDict && (match cd.mro with
      | .ref C' :: bm => decide (C' = C) && PySem.HandSPX.refsVE bm
      | _ => false))))
    | _, _, _ => false)
  | none => false
theorem oexB_ok {K : PySem.W.Frag} {C : Addr} (h : oexB K C = true) : ∃ nm q N bs bm sn sub ab col dd k0 k1 k2 k3 k5, K.lookup C = some (excClassObj nm q C N bs bm true sn sub ab col dd k0 k1 k2 k3 k5 "ValueError.__new__") ∧ PySem.HandSPX.refsVE bm = true := by
  unfold oexB at h
  split at h
  · rename_i o ho
    split at h
    · rename_i t cd k0 k1 k2 k3 n k5 e1 e2 hs
      simp only [Bool.and_eq_true, decide_eq_true_eq, Bool.not_eq_true'] at h
      obtain ⟨q1, q2, q3, q4, q5⟩ := h
      split at q5
      · rename_i C' bm e3
        simp only [Bool.and_eq_true, decide_eq_true_eq] at q5
        obtain ⟨oc, od, odt, osl⟩ := o
        obtain ⟨nm, bs, mro, ns, qn, hd, sn, sub, ab, col, del⟩ := cd
        obtain ⟨l⟩ := osl
        dsimp only at e1 e2 e3 hs q3 q4
        have hs : l = [k0, k1, k2, k3, some (.builtin n), k5] := hs
        rw [e1, e2, e3, hs, q1, q2, q3, q4, q5.1] at ho
        exact ⟨nm, qn, ns, bs, bm, sn, sub, ab, col, od, k0, k1, k2, k3, k5, ho, q5.2⟩
      · cases q5
    · cases h
  · cases h
/-- all that is asked of the class named x, its __init__ at f -/
def ownB (K : PySem.W.Frag) (C f CB : Addr) : List Bool := [oexB K C,
  decide (PySem.W.findIn K (.ref C) "__setattr__" = some (some (.builtin "object.__setattr__"))),
  decide (PySem.W.subIn K (.ref C) (.type "BaseException") = some true),
  decide (PySem.W.typeIn K (.ref C) = some (.type "type")),
  PySem.W.keepIn K (.ref C),
  decide (PySem.W.findIn K (.ref C) "__init__" = some (some (.ref f))),
  decide (PySem.W.typeIn K (.ref f) = some (.type "function")),
  decide (PySem.W.findIn K (.ref C) "__getattribute__" = some (some (.builtin "BaseException.__getattribute__"))),
  decide (PySem.W.findIn K (.ref C) "__getattr__" = some none),
  PySem.W.hasDictIn K C,
  decide (PySem.W.findIn K (.ref C) "__class__" = some (some (.builtin "object.__class__"))),
  decide (PySem.W.specialIn K (.builtin "object.__class__") "__get__" = some (some (.builtin "getset_descriptor.__get__"))),
  decide (PySem.W.takesIn K (.builtin "object.__class__") = some true),
  decide (PySem.W.mroIn K C (.type "object") = some true),
  decide (PySem.W.exmOne K (.ref C) (.ref C) = some true),
  decide (PySem.W.kitOne K (.ref C) (.ref CB) = some true),
  decide (PySem.W.findIn K (.ref C) "row" = some none)]
def nsB (K : PySem.W.Frag) : Bool := (ownB K (He.ga K "NoText") (He.fAd K ("NoText", some "__init__")) (He.ga K "BeltError")).all id && decide (PySem.W.exmOne K (.ref (He.ga K "NoText")) (.ref (He.ga K "BeltError")) = some true)
theorem nsB_ok {K : PySem.W.Frag} {mg : Str → Option Value} {fd : FuncData} (h : nsB K = true) (gC : mg "NoText" = some (.ref (He.ga K "NoText"))) (gB : mg "BeltError" = some (.ref (He.ga K "BeltError"))) (F : Fun K "__init__" "NoText.__init__" s_NoText_init (He.fAd K ("NoText", some "__init__")) fd) (b : Binds K fd ["self", "row"] []) : NsC K mg (He.ga K "NoText") (He.ga K "BeltError") (He.fAd K ("NoText", some "__init__")) fd := by
  unfold nsB at h
  generalize He.ga K "NoText" = C at *
  generalize He.ga K "BeltError" = CB at *
  generalize He.fAd K ("NoText", some "__init__") = f at *
  obtain ⟨h, te⟩ := Bool.and_eq_true_iff.mp h
  have all := List.all_eq_true.mp h
  have at_ : ∀ (i : Nat) (z : Bool), (ownB K C f CB)[i]? = some z → z = true := fun i z e => all z (List.mem_of_getElem? e)
  have d : ∀ {p : Prop} [Decidable p], decide p = true → p := fun h => of_decide_eq_true h
  have w1 := d (at_ 1 _ rfl)
  have w2 := d (at_ 2 _ rfl)
  have w3 := d (at_ 3 _ rfl)
  have w4 := at_ 4 _ rfl
  have w7 := d (at_ 7 _ rfl)
  have w8 := d (at_ 8 _ rfl)
  have w9 := at_ 9 _ rfl
  exact ⟨gC, gB, ⟨oexB_ok (at_ 0 _ rfl), w1, w2, w3, w4⟩, d (at_ 16 _ rfl), d (at_ 5 _ rfl), d (at_ 6 _ rfl), F, b, of_decide_eq_true te, ⟨w7, w8, w2, w9⟩, ⟨w7, w8, w2, w9, d (at_ 10 _ rfl), d (at_ 11 _ rfl), d (at_ 12 _ rfl), d (at_ 13 _ rfl)⟩, d (at_ 14 _ rfl)⟩
theorem fun_of_D {K : PySem.W.Frag} {x q : Str} {st : Stmt} {f : Addr} {fd : FuncData} (D : FunD K x q (defArgs st) (defBody st) (defScope st) [] [] f fd) : Fun K x q st f fd := by
  obtain ⟨⟨oc, od, dV, kV, doc, pm, an, cdv, ct, osl, e, lk, ci, dfl, _⟩, kp⟩ := D
  have z : dV = .none := by
    rcases dfl with ⟨_, h⟩ | ⟨h, _⟩
    · exact h
    · exact absurd rfl h
  subst z
  exact ⟨⟨oc, od, kV, doc, pm, an, cdv, ct, osl, e, lk, ci⟩, kp⟩
def hd_first_on_ring : He.DefD := ⟨("first_on_ring", none), "first_on_ring", "first_on_ring", defArgs s_first_on_ring, defBody s_first_on_ring, defScope s_first_on_ring, [], []⟩
def hd_comes_back : He.DefD := ⟨("comes_back", none), "comes_back", "comes_back", defArgs s_comes_back, defBody s_comes_back, defScope s_comes_back, [], []⟩
def hd_is_whole : He.DefD := ⟨("is_whole", none), "is_whole", "is_whole", defArgs s_is_whole, defBody s_is_whole, defScope s_is_whole, [], []⟩
def hd_number_of : He.DefD := ⟨("number_of", none), "number_of", "number_of", defArgs s_number_of, defBody s_number_of, defScope s_number_of, [], []⟩
def hd_text_of : He.DefD := ⟨("text_of", none), "text_of", "text_of", defArgs s_text_of, defBody s_text_of, defScope s_text_of, [], []⟩
def hd_is_rule : He.DefD := ⟨("is_rule", none), "is_rule", "is_rule", defArgs s_is_rule, defBody s_is_rule, defScope s_is_rule, [], []⟩
def hd_needs : He.DefD := ⟨("needs", none), "needs", "needs", defArgs s_needs, defBody s_needs, defScope s_needs, [], []⟩
def hd_made_by : He.DefD := ⟨("made_by", none), "made_by", "made_by", defArgs s_made_by, defBody s_made_by, defScope s_made_by, [], []⟩
def hd_made_of_two : He.DefD := ⟨("made_of_two", none), "made_of_two", "made_of_two", defArgs s_made_of_two, defBody s_made_of_two, defScope s_made_of_two, [], []⟩
def hd_look_room : He.DefD := ⟨("look_room", none), "look_room", "look_room", defArgs s_look_room, defBody s_look_room, defScope s_look_room, [], []⟩
def hd_refuse_room : He.DefD := ⟨("refuse_room", none), "refuse_room", "refuse_room", defArgs s_refuse_room, defBody s_refuse_room, defScope s_refuse_room, [], []⟩
def hd_is_tuple_of : He.DefD := ⟨("is_tuple_of", none), "is_tuple_of", "is_tuple_of", defArgs s_is_tuple_of, defBody s_is_tuple_of, defScope s_is_tuple_of, [], []⟩
def hd_has_form : He.DefD := ⟨("has_form", none), "has_form", "has_form", defArgs s_has_form, defBody s_has_form, defScope s_has_form, [], []⟩
def hd_is_hand_pair : He.DefD := ⟨("is_hand_pair", none), "is_hand_pair", "is_hand_pair", defArgs s_is_hand_pair, defBody s_is_hand_pair, defScope s_is_hand_pair, [], []⟩
def hd_is_belt_triple : He.DefD := ⟨("is_belt_triple", none), "is_belt_triple", "is_belt_triple", defArgs s_is_belt_triple, defBody s_is_belt_triple, defScope s_is_belt_triple, [], []⟩
def hd_wrong_hand : He.DefD := ⟨("wrong_hand", none), "wrong_hand", "wrong_hand", defArgs s_wrong_hand, defBody s_wrong_hand, defScope s_wrong_hand, [], []⟩
def hd_wrong_belt : He.DefD := ⟨("wrong_belt", none), "wrong_belt", "wrong_belt", defArgs s_wrong_belt, defBody s_wrong_belt, defScope s_wrong_belt, [], []⟩
def hd_wrong_count : He.DefD := ⟨("wrong_count", none), "wrong_count", "wrong_count", defArgs s_wrong_count, defBody s_wrong_count, defScope s_wrong_count, [], []⟩
def hd_hand_on_ring : He.DefD := ⟨("hand_on_ring", none), "hand_on_ring", "hand_on_ring", defArgs s_hand_on_ring, defBody s_hand_on_ring, defScope s_hand_on_ring, [], []⟩
def hd_comings : He.DefD := ⟨("comings", none), "comings", "comings", defArgs s_comings, defBody s_comings, defScope s_comings, [], []⟩
def hd_doors_in : He.DefD := ⟨("doors_in", none), "doors_in", "doors_in", defArgs s_doors_in, defBody s_doors_in, defScope s_doors_in, [], []⟩
def hd_show_room : He.DefD := ⟨("show_room", none), "show_room", "show_room", defArgs s_show_room, defBody s_show_room, defScope s_show_room, [], []⟩
def hd_hand_row : He.DefD := ⟨("hand_row", none), "hand_row", "hand_row", defArgs s_hand_row, defBody s_hand_row, defScope s_hand_row, [], []⟩
def hd_belt_row : He.DefD := ⟨("belt_row", none), "belt_row", "belt_row", defArgs s_belt_row, defBody s_belt_row, defScope s_belt_row, [], []⟩
def hd_read_room : He.DefD := ⟨("read_room", none), "read_room", "read_room", defArgs s_read_room, defBody s_read_room, defScope s_read_room, [], []⟩
def hd_hand_of : He.DefD := ⟨("hand_of", none), "hand_of", "hand_of", defArgs s_hand_of, defBody s_hand_of, defScope s_hand_of, [], []⟩
def hd_belt_of : He.DefD := ⟨("belt_of", none), "belt_of", "belt_of", defArgs s_belt_of, defBody s_belt_of, defScope s_belt_of, [], []⟩
def hd_numbers_of : He.DefD := ⟨("numbers_of", none), "numbers_of", "numbers_of", defArgs s_numbers_of, defBody s_numbers_of, defScope s_numbers_of, [], []⟩
def hd_work_order : He.DefD := ⟨("work_order", none), "work_order", "work_order", defArgs s_work_order, defBody s_work_order, defScope s_work_order, [], []⟩
def hd_worked : He.DefD := ⟨("worked", none), "worked", "worked", defArgs s_worked, defBody s_worked, defScope s_worked, [], []⟩
def hd_standing : He.DefD := ⟨("standing", none), "standing", "standing", defArgs s_standing, defBody s_standing, defScope s_standing, [], []⟩
def hd_work_plan : He.DefD := ⟨("work_plan", none), "work_plan", "work_plan", defArgs s_work_plan, defBody s_work_plan, defScope s_work_plan, [], []⟩
def hd_made_at_bell : He.DefD := ⟨("made_at_bell", none), "made_at_bell", "made_at_bell", defArgs s_made_at_bell, defBody s_made_at_bell, defScope s_made_at_bell, [], []⟩
def hd_thing_taken : He.DefD := ⟨("thing_taken", none), "thing_taken", "thing_taken", defArgs s_thing_taken, defBody s_thing_taken, defScope s_thing_taken, [], []⟩
def hd_behind_bell : He.DefD := ⟨("behind_bell", none), "behind_bell", "behind_bell", defArgs s_behind_bell, defBody s_behind_bell, defScope s_behind_bell, [], []⟩
def hd_belt_behind_bell : He.DefD := ⟨("belt_behind_bell", none), "belt_behind_bell", "belt_behind_bell", defArgs s_belt_behind_bell, defBody s_belt_behind_bell, defScope s_belt_behind_bell, [], []⟩
def hd_law_flow : He.DefD := ⟨("_law_flow", none), "_law_flow", "_law_flow", defArgs s_law_flow, defBody s_law_flow, defScope s_law_flow, [], []⟩
def hd_law_pick : He.DefD := ⟨("_law_pick", none), "_law_pick", "_law_pick", defArgs s_law_pick, defBody s_law_pick, defScope s_law_pick, [], []⟩
def hd_law_thing : He.DefD := ⟨("_law_thing", none), "_law_thing", "_law_thing", defArgs s_law_thing, defBody s_law_thing, defScope s_law_thing, [], []⟩
def hd_law_needs : He.DefD := ⟨("_law_needs", none), "_law_needs", "_law_needs", defArgs s_law_needs, defBody s_law_needs, defScope s_law_needs, [], []⟩
def hd_law_rule : He.DefD := ⟨("_law_rule", none), "_law_rule", "_law_rule", defArgs s_law_rule, defBody s_law_rule, defScope s_law_rule, [], []⟩
def hd_law_shuffled : He.DefD := ⟨("_law_shuffled", none), "_law_shuffled", "_law_shuffled", defArgs s_law_shuffled, defBody s_law_shuffled, defScope s_law_shuffled, [], []⟩
def hd_law_hands : He.DefD := ⟨("_law_hands", none), "_law_hands", "_law_hands", defArgs s_law_hands, defBody s_law_hands, defScope s_law_hands, [], []⟩
def hd_law_room : He.DefD := ⟨("_law_room", none), "_law_room", "_law_room", defArgs s_law_room, defBody s_law_room, defScope s_law_room, [], []⟩
def hd_law_any_room : He.DefD := ⟨("_law_any_room", none), "_law_any_room", "_law_any_room", defArgs s_law_any_room, defBody s_law_any_room, defScope s_law_any_room, [], []⟩
def hd_law_rows_of : He.DefD := ⟨("_law_rows_of", none), "_law_rows_of", "_law_rows_of", defArgs s_law_rows_of, defBody s_law_rows_of, defScope s_law_rows_of, [], []⟩
def hd_law_text : He.DefD := ⟨("_law_text", none), "_law_text", "_law_text", defArgs s_law_text, defBody s_law_text, defScope s_law_text, [], []⟩
def hd_law_alike : He.DefD := ⟨("_law_alike", none), "_law_alike", "_law_alike", defArgs s_law_alike, defBody s_law_alike, defScope s_law_alike, [], []⟩
def hd_law_grown_right : He.DefD := ⟨("_law_grown_right", none), "_law_grown_right", "_law_grown_right", defArgs s_law_grown_right, defBody s_law_grown_right, defScope s_law_grown_right, [], []⟩
def hd_law : He.DefD := ⟨("law", none), "law", "law", defArgs s_law, defBody s_law, defScope s_law, [], []⟩
def hd_NsInit : He.DefD := ⟨("NoText", some "__init__"), "__init__", "NoText.__init__", defArgs s_NoText_init, defBody s_NoText_init, defScope s_NoText_init, [], []⟩
def hFn : List He.DefD := [hd_first_on_ring, hd_comes_back, hd_is_whole, hd_number_of, hd_text_of, hd_is_rule, hd_needs, hd_made_by, hd_made_of_two, hd_look_room, hd_refuse_room, hd_is_tuple_of, hd_has_form, hd_is_hand_pair, hd_is_belt_triple, hd_wrong_hand, hd_wrong_belt, hd_wrong_count, hd_hand_on_ring, hd_comings, hd_doors_in, hd_show_room, hd_hand_row, hd_belt_row, hd_read_room, hd_hand_of, hd_belt_of, hd_numbers_of, hd_work_order, hd_worked, hd_standing, hd_work_plan, hd_made_at_bell, hd_thing_taken, hd_behind_bell, hd_belt_behind_bell, hd_law_flow, hd_law_pick, hd_law_thing, hd_law_needs, hd_law_rule, hd_law_shuffled, hd_law_hands, hd_law_room, hd_law_any_room, hd_law_rows_of, hd_law_text, hd_law_alike, hd_law_grown_right, hd_law, hd_NsInit]
def knownK (K : PySem.W.Frag) (a : Addr) : Bool := match K.lookup a with
  | some ⟨_, _, .dict es _, _⟩ => es.toList.all fun e => match e.key with
    | .str s _ => decide (s ∈ eleven)
    | _ => false
  | _ => false
theorem knownK_no {K : PySem.W.Frag} {a : Addr} (h : knownK K a = true) {z : Str} (hz : z ∉ eleven) : PySem.W.nsIn K a z = some none := by
  unfold knownK at h
  unfold PySem.W.nsIn
  split at h
  · rename_i es n sl e
    rw [e]
    have all := List.all_eq_true.mp h
    have f1 : es.toList.find? (fun e => e.key.isStr z) = none := by
      rw [List.find?_eq_none]
      intro x hx y
      have := all x hx
      revert this y
      cases x.key with
      | str s t =>
        intro y this
        have y : (s == z) = true := y
        have := of_decide_eq_true this
        rw [eq_of_beq y] at this
        exact hz this
      | _ => intro _ this; cases this
    have f2 : es.toList.any (fun e => e.refKey) = false := by
      rw [List.any_eq_false]
      intro x hx y
      have := all x hx
      revert this y
      unfold DictEntry.refKey
      cases x.key with
      | str s t => intro y; cases y
      | _ => intro _ this; cases this
    dsimp only
    rw [f1]
    dsimp only
    rw [f2]
    rfl
  · cases h
def needsL : List (Str × He.Dv) := [("same", .int 1), ("sum", .int 2), ("gap", .int 2), ("below", .int 2), ("most", .int 2), ("least", .int 2), ("pick", .int 3), ("times", .int 1), ("always", .int 0), ("in", .int 0), ("out", .int 1)]
def needsT : He.Tab := (fun K => He.ga K "NEEDS", ["same", "sum", "gap", "below", "most", "least", "pick", "times", "always", "in", "out"])
theorem needs_yes {K : PySem.W.Frag} (h : He.valsB K (He.ga K "NEEDS") needsL = true) {z : Str} (hz : z ∈ eleven) : ∃ t, PySem.W.nsIn K (He.ga K "NEEDS") z = some (some (.int (needN z) t)) := by
  have key : ∀ i : Int, (z, He.Dv.int i) ∈ needsL → ∃ t, PySem.W.nsIn K (He.ga K "NEEDS") z = some (some (.int i t)) := fun i hm => by
    obtain ⟨u, e, r⟩ := He.valsB_ok h hm
    obtain ⟨t, rfl⟩ := r
    exact ⟨t, e⟩
  have key2 : ∀ i : Int, needN z = i → (z, He.Dv.int i) ∈ needsL → ∃ t, PySem.W.nsIn K (He.ga K "NEEDS") z = some (some (.int (needN z) t)) := fun i e hm => by
    rw [e]
    exact key i hm
  unfold needsL at key2
  unfold eleven at hz
  simp only [List.mem_cons, List.not_mem_nil, or_false] at hz
  rcases hz with h | h | h | h | h | h | h | h | h | h | h <;> subst h
  · exact key2 1 (by decide +kernel) (List.mem_cons_self ..)
  · exact key2 2 (by decide +kernel) (List.mem_cons_of_mem _ (List.mem_cons_self ..))
  · exact key2 2 (by decide +kernel) (List.mem_cons_of_mem _ (List.mem_cons_of_mem _ (List.mem_cons_self ..)))
  · exact key2 2 (by decide +kernel) (List.mem_cons_of_mem _ (List.mem_cons_of_mem _ (List.mem_cons_of_mem _ (List.mem_cons_self ..))))
  · exact key2 2 (by decide +kernel) (List.mem_cons_of_mem _ (List.mem_cons_of_mem _ (List.mem_cons_of_mem _ (List.mem_cons_of_mem _ (List.mem_cons_self ..)))))
  · exact key2 2 (by decide +kernel) (List.mem_cons_of_mem _ (List.mem_cons_of_mem _ (List.mem_cons_of_mem _ (List.mem_cons_of_mem _ (List.mem_cons_of_mem _ (List.mem_cons_self ..))))))
  · exact key2 3 (by decide +kernel) (List.mem_cons_of_mem _ (List.mem_cons_of_mem _ (List.mem_cons_of_mem _ (List.mem_cons_of_mem _ (List.mem_cons_of_mem _ (List.mem_cons_of_mem _ (List.mem_cons_self ..)))))))
  · exact key2 1 (by decide +kernel) (List.mem_cons_of_mem _ (List.mem_cons_of_mem _ (List.mem_cons_of_mem _ (List.mem_cons_of_mem _ (List.mem_cons_of_mem _ (List.mem_cons_of_mem _ (List.mem_cons_of_mem _ (List.mem_cons_self ..))))))))
  · exact key2 0 (by decide +kernel) (List.mem_cons_of_mem _ (List.mem_cons_of_mem _ (List.mem_cons_of_mem _ (List.mem_cons_of_mem _ (List.mem_cons_of_mem _ (List.mem_cons_of_mem _ (List.mem_cons_of_mem _ (List.mem_cons_of_mem _ (List.mem_cons_self ..)))))))))
  · exact key2 0 (by decide +kernel) (List.mem_cons_of_mem _ (List.mem_cons_of_mem _ (List.mem_cons_of_mem _ (List.mem_cons_of_mem _ (List.mem_cons_of_mem _ (List.mem_cons_of_mem _ (List.mem_cons_of_mem _ (List.mem_cons_of_mem _ (List.mem_cons_of_mem _ (List.mem_cons_self ..))))))))))
  · exact key2 1 (by decide +kernel) (List.mem_cons_of_mem _ (List.mem_cons_of_mem _ (List.mem_cons_of_mem _ (List.mem_cons_of_mem _ (List.mem_cons_of_mem _ (List.mem_cons_of_mem _ (List.mem_cons_of_mem _ (List.mem_cons_of_mem _ (List.mem_cons_of_mem _ (List.mem_cons_of_mem _ (List.mem_cons_self ..)))))))))))
def hFa : List He.Fa := [.glo "first_on_ring", .glo "comes_back", .glo "is_whole", .glo "number_of", .glo "text_of", .glo "is_rule", .glo "needs", .glo "made_by", .glo "made_of_two", .glo "look_room", .glo "refuse_room", .glo "is_tuple_of", .glo "has_form", .glo "is_hand_pair", .glo "is_belt_triple", .glo "wrong_hand", .glo "wrong_belt", .glo "wrong_count", .glo "hand_on_ring", .glo "comings", .glo "doors_in", .glo "show_room", .glo "hand_row", .glo "belt_row", .glo "read_room", .glo "hand_of", .glo "belt_of", .glo "numbers_of", .glo "work_order", .glo "worked", .glo "standing", .glo "work_plan", .glo "made_at_bell", .glo "thing_taken", .glo "behind_bell", .glo "belt_behind_bell", .glo "_law_flow", .glo "_law_pick", .glo "_law_thing", .glo "_law_needs", .glo "_law_rule", .glo "_law_shuffled", .glo "_law_hands", .glo "_law_room", .glo "_law_any_room", .glo "_law_rows_of", .glo "_law_text", .glo "_law_alike", .glo "_law_grown_right", .glo "law", .free "abs", .free "all", .free "bool", .free "dict", .free "divmod", .free "enumerate", .free "int", .free "isinstance", .free "len", .free "list", .free "max", .free "min", .free "range", .free "set", .free "str", .free "tuple", .free "zip", .glo "IN_RULE", .glo "OUT_RULE", .glo "WITH_NUMBER", .int "MOST_FIGURES" 9, .str "FIGURES" figS, .int "CHUNK" CHN, .int "CHUNK_FIGURES" 18, .glo "NoText", .glo "BeltError", .glo "NEEDS"]
def hEx (K : PySem.W.Frag) : Bool := He.tupB K "IN_RULE" [.str "in"] && He.tupB K "OUT_RULE" [.str "out"] && He.tupB K "WITH_NUMBER" [.str "times", .str "always"] && nsB K && He.valsB K (He.ga K "NEEDS") needsL && knownK K (He.ga K "NEEDS")
def hTf : List (Str × Option Str) := [("has_form", none), ("is_belt_triple", none), ("number_of", none)]
abbrev hR : PySem.W.OpenRow := PySem.W.OpenLaw.row PySem.Challenge.rw_beltshift_k10_rooms_written
abbrev hk : PySem.W.Hook := He.hookX 4 hFa hFn [needsT] hTf hEx
def hOb (s : PySem.W.SharedT) : He.AlX := He.obsX 4 hFa hFn [needsT] hTf hEx (HandSHeadRun.getT s)
theorem hOb_eq (s : PySem.W.SharedT) : hOb s = hk.obs s.abs := He.obsX_eq (HandSHeadRun.getT_eq s)
def hN0 : List Str := ["BeltError", "NoText", "NoRoom", "first_on_ring", "comes_back", "FIGURES", "MOST_FIGURES", "CHUNK_FIGURES", "CHUNK", "is_whole", "number_of", "text_of", "NEEDS", "WITH_NUMBER", "is_rule", "needs", "made_by", "made_of_two", "IN_RULE", "OUT_RULE", "look_room", "refuse_room", "is_tuple_of", "has_form", "is_hand_pair", "is_belt_triple", "wrong_hand", "wrong_belt", "wrong_count", "hand_on_ring"]
def hN1 : List Str := ["comings", "doors_in", "show_room", "hand_row", "belt_row", "read_room", "hand_of", "belt_of", "numbers_of", "work_order", "worked", "standing", "work_plan", "made_at_bell", "thing_taken", "behind_bell", "belt_behind_bell", "_law_flow", "_law_pick", "_law_thing", "_law_needs", "_law_rule", "_law_shuffled", "_law_hands", "_law_room", "_law_any_room", "_law_rows_of", "_law_text", "_law_alike", "_law_grown_right"]
def hNames : List Str := hN0 ++ hN1
set_option maxHeartbeats 0 in
theorem all_mkX {w : World} {K : PySem.W.Frag} {h : Heap} {mg : Str → Option Value} {fa : Addr} (X : K.In h) (G : h.Ns mainGlobals mg) (hfa : mg "law" = some (.ref fa)) (c : He.SaysX hFa hFn [needsT] hTf hEx w h K) : LamX.LawAtS PySem.Challenge.rw_beltshift_k10_rooms_written w K CX0 9 63 "_law_script" mg fa h := by
  have cd := c.t.d
  obtain ⟨fd0, D0⟩ := cd.def_ 0 (d := hd_first_on_ring) rfl
  have F0 : Fun K "first_on_ring" "first_on_ring" s_first_on_ring (He.ga K "first_on_ring") fd0 := fun_of_D D0
  have g0 : mg "first_on_ring" = some (.ref (He.ga K "first_on_ring")) := He.glo_ok X G (cd.fact 0 (f := .glo "first_on_ring") rfl)
  have b0 := F0.binds (ps := ["places", "steps"]) fun _ _ _ _ _ _ us hl => match us, hl with | [_, _], _ => rfl
  obtain ⟨fd1, D1⟩ := cd.def_ 1 (d := hd_comes_back) rfl
  have F1 : Fun K "comes_back" "comes_back" s_comes_back (He.ga K "comes_back") fd1 := fun_of_D D1
  have g1 : mg "comes_back" = some (.ref (He.ga K "comes_back")) := He.glo_ok X G (cd.fact 1 (f := .glo "comes_back") rfl)
  have b1 := F1.binds (ps := ["place", "steps"]) fun _ _ _ _ _ _ us hl => match us, hl with | [_, _], _ => rfl
  obtain ⟨fd2, D2⟩ := cd.def_ 2 (d := hd_is_whole) rfl
  have F2 : Fun K "is_whole" "is_whole" s_is_whole (He.ga K "is_whole") fd2 := fun_of_D D2
  have g2 : mg "is_whole" = some (.ref (He.ga K "is_whole")) := He.glo_ok X G (cd.fact 2 (f := .glo "is_whole") rfl)
  have b2 := F2.binds (ps := ["thing"]) fun _ _ _ _ _ _ us hl => match us, hl with | [_], _ => rfl
  obtain ⟨fd3, D3⟩ := cd.def_ 3 (d := hd_number_of) rfl
  have F3 : Fun K "number_of" "number_of" s_number_of (He.ga K "number_of") fd3 := fun_of_D D3
  have g3 : mg "number_of" = some (.ref (He.ga K "number_of")) := He.glo_ok X G (cd.fact 3 (f := .glo "number_of") rfl)
  have b3 := F3.binds (ps := ["text"]) fun _ _ _ _ _ _ us hl => match us, hl with | [_], _ => rfl
  obtain ⟨fd4, D4⟩ := cd.def_ 4 (d := hd_text_of) rfl
  have F4 : Fun K "text_of" "text_of" s_text_of (He.ga K "text_of") fd4 := fun_of_D D4
  have g4 : mg "text_of" = some (.ref (He.ga K "text_of")) := He.glo_ok X G (cd.fact 4 (f := .glo "text_of") rfl)
  have b4 := F4.binds (ps := ["number"]) fun _ _ _ _ _ _ us hl => match us, hl with | [_], _ => rfl
  obtain ⟨fd5, D5⟩ := cd.def_ 5 (d := hd_is_rule) rfl
  have F5 : Fun K "is_rule" "is_rule" s_is_rule (He.ga K "is_rule") fd5 := fun_of_D D5
  have g5 : mg "is_rule" = some (.ref (He.ga K "is_rule")) := He.glo_ok X G (cd.fact 5 (f := .glo "is_rule") rfl)
  have b5 := F5.binds (ps := ["thing"]) fun _ _ _ _ _ _ us hl => match us, hl with | [_], _ => rfl
  obtain ⟨fd6, D6⟩ := cd.def_ 6 (d := hd_needs) rfl
  have F6 : Fun K "needs" "needs" s_needs (He.ga K "needs") fd6 := fun_of_D D6
  have g6 : mg "needs" = some (.ref (He.ga K "needs")) := He.glo_ok X G (cd.fact 6 (f := .glo "needs") rfl)
  have b6 := F6.binds (ps := ["rule"]) fun _ _ _ _ _ _ us hl => match us, hl with | [_], _ => rfl
  obtain ⟨fd7, D7⟩ := cd.def_ 7 (d := hd_made_by) rfl
  have F7 : Fun K "made_by" "made_by" s_made_by (He.ga K "made_by") fd7 := fun_of_D D7
  have g7 : mg "made_by" = some (.ref (He.ga K "made_by")) := He.glo_ok X G (cd.fact 7 (f := .glo "made_by") rfl)
  have b7 := F7.binds (ps := ["rule", "things"]) fun _ _ _ _ _ _ us hl => match us, hl with | [_, _], _ => rfl
  obtain ⟨fd8, D8⟩ := cd.def_ 8 (d := hd_made_of_two) rfl
  have F8 : Fun K "made_of_two" "made_of_two" s_made_of_two (He.ga K "made_of_two") fd8 := fun_of_D D8
  have g8 : mg "made_of_two" = some (.ref (He.ga K "made_of_two")) := He.glo_ok X G (cd.fact 8 (f := .glo "made_of_two") rfl)
  have b8 := F8.binds (ps := ["word", "one", "other"]) fun _ _ _ _ _ _ us hl => match us, hl with | [_, _, _], _ => rfl
  obtain ⟨fd9, D9⟩ := cd.def_ 9 (d := hd_look_room) rfl
  have F9 : Fun K "look_room" "look_room" s_look_room (He.ga K "look_room") fd9 := fun_of_D D9
  have g9 : mg "look_room" = some (.ref (He.ga K "look_room")) := He.glo_ok X G (cd.fact 9 (f := .glo "look_room") rfl)
  have b9 := F9.binds (ps := ["room"]) fun _ _ _ _ _ _ us hl => match us, hl with | [_], _ => rfl
  obtain ⟨fd10, D10⟩ := cd.def_ 10 (d := hd_refuse_room) rfl
  have F10 : Fun K "refuse_room" "refuse_room" s_refuse_room (He.ga K "refuse_room") fd10 := fun_of_D D10
  have g10 : mg "refuse_room" = some (.ref (He.ga K "refuse_room")) := He.glo_ok X G (cd.fact 10 (f := .glo "refuse_room") rfl)
  have b10 := F10.binds (ps := ["word", "at"]) fun _ _ _ _ _ _ us hl => match us, hl with | [_, _], _ => rfl
  obtain ⟨fd11, D11⟩ := cd.def_ 11 (d := hd_is_tuple_of) rfl
  have F11 : Fun K "is_tuple_of" "is_tuple_of" s_is_tuple_of (He.ga K "is_tuple_of") fd11 := fun_of_D D11
  have g11 : mg "is_tuple_of" = some (.ref (He.ga K "is_tuple_of")) := He.glo_ok X G (cd.fact 11 (f := .glo "is_tuple_of") rfl)
  have b11 := F11.binds (ps := ["thing", "many"]) fun _ _ _ _ _ _ us hl => match us, hl with | [_, _], _ => rfl
  obtain ⟨fd12, D12⟩ := cd.def_ 12 (d := hd_has_form) rfl
  have F12 : Fun K "has_form" "has_form" s_has_form (He.ga K "has_form") fd12 := fun_of_D D12
  have g12 : mg "has_form" = some (.ref (He.ga K "has_form")) := He.glo_ok X G (cd.fact 12 (f := .glo "has_form") rfl)
  have b12 := F12.binds (ps := ["room"]) fun _ _ _ _ _ _ us hl => match us, hl with | [_], _ => rfl
  obtain ⟨fd13, D13⟩ := cd.def_ 13 (d := hd_is_hand_pair) rfl
  have F13 : Fun K "is_hand_pair" "is_hand_pair" s_is_hand_pair (He.ga K "is_hand_pair") fd13 := fun_of_D D13
  have g13 : mg "is_hand_pair" = some (.ref (He.ga K "is_hand_pair")) := He.glo_ok X G (cd.fact 13 (f := .glo "is_hand_pair") rfl)
  have b13 := F13.binds (ps := ["hand"]) fun _ _ _ _ _ _ us hl => match us, hl with | [_], _ => rfl
  obtain ⟨fd14, D14⟩ := cd.def_ 14 (d := hd_is_belt_triple) rfl
  have F14 : Fun K "is_belt_triple" "is_belt_triple" s_is_belt_triple (He.ga K "is_belt_triple") fd14 := fun_of_D D14
  have g14 : mg "is_belt_triple" = some (.ref (He.ga K "is_belt_triple")) := He.glo_ok X G (cd.fact 14 (f := .glo "is_belt_triple") rfl)
  have b14 := F14.binds (ps := ["belt"]) fun _ _ _ _ _ _ us hl => match us, hl with | [_], _ => rfl
  obtain ⟨fd15, D15⟩ := cd.def_ 15 (d := hd_wrong_hand) rfl
  have F15 : Fun K "wrong_hand" "wrong_hand" s_wrong_hand (He.ga K "wrong_hand") fd15 := fun_of_D D15
  have g15 : mg "wrong_hand" = some (.ref (He.ga K "wrong_hand")) := He.glo_ok X G (cd.fact 15 (f := .glo "wrong_hand") rfl)
  have b15 := F15.binds (ps := ["room"]) fun _ _ _ _ _ _ us hl => match us, hl with | [_], _ => rfl
  obtain ⟨fd16, D16⟩ := cd.def_ 16 (d := hd_wrong_belt) rfl
  have F16 : Fun K "wrong_belt" "wrong_belt" s_wrong_belt (He.ga K "wrong_belt") fd16 := fun_of_D D16
  have g16 : mg "wrong_belt" = some (.ref (He.ga K "wrong_belt")) := He.glo_ok X G (cd.fact 16 (f := .glo "wrong_belt") rfl)
  have b16 := F16.binds (ps := ["room"]) fun _ _ _ _ _ _ us hl => match us, hl with | [_], _ => rfl
  obtain ⟨fd17, D17⟩ := cd.def_ 17 (d := hd_wrong_count) rfl
  have F17 : Fun K "wrong_count" "wrong_count" s_wrong_count (He.ga K "wrong_count") fd17 := fun_of_D D17
  have g17 : mg "wrong_count" = some (.ref (He.ga K "wrong_count")) := He.glo_ok X G (cd.fact 17 (f := .glo "wrong_count") rfl)
  have b17 := F17.binds (ps := ["room"]) fun _ _ _ _ _ _ us hl => match us, hl with | [_], _ => rfl
  obtain ⟨fd18, D18⟩ := cd.def_ 18 (d := hd_hand_on_ring) rfl
  have F18 : Fun K "hand_on_ring" "hand_on_ring" s_hand_on_ring (He.ga K "hand_on_ring") fd18 := fun_of_D D18
  have g18 : mg "hand_on_ring" = some (.ref (He.ga K "hand_on_ring")) := He.glo_ok X G (cd.fact 18 (f := .glo "hand_on_ring") rfl)
  have b18 := F18.binds (ps := ["room"]) fun _ _ _ _ _ _ us hl => match us, hl with | [_], _ => rfl
  obtain ⟨fd19, D19⟩ := cd.def_ 19 (d := hd_comings) rfl
  have F19 : Fun K "comings" "comings" s_comings (He.ga K "comings") fd19 := fun_of_D D19
  have g19 : mg "comings" = some (.ref (He.ga K "comings")) := He.glo_ok X G (cd.fact 19 (f := .glo "comings") rfl)
  have b19 := F19.binds (ps := ["room", "hand"]) fun _ _ _ _ _ _ us hl => match us, hl with | [_, _], _ => rfl
  obtain ⟨fd20, D20⟩ := cd.def_ 20 (d := hd_doors_in) rfl
  have F20 : Fun K "doors_in" "doors_in" s_doors_in (He.ga K "doors_in") fd20 := fun_of_D D20
  have g20 : mg "doors_in" = some (.ref (He.ga K "doors_in")) := He.glo_ok X G (cd.fact 20 (f := .glo "doors_in") rfl)
  have b20 := F20.binds (ps := ["room"]) fun _ _ _ _ _ _ us hl => match us, hl with | [_], _ => rfl
  obtain ⟨fd21, D21⟩ := cd.def_ 21 (d := hd_show_room) rfl
  have F21 : Fun K "show_room" "show_room" s_show_room (He.ga K "show_room") fd21 := fun_of_D D21
  have g21 : mg "show_room" = some (.ref (He.ga K "show_room")) := He.glo_ok X G (cd.fact 21 (f := .glo "show_room") rfl)
  have b21 := F21.binds (ps := ["room"]) fun _ _ _ _ _ _ us hl => match us, hl with | [_], _ => rfl
  obtain ⟨fd22, D22⟩ := cd.def_ 22 (d := hd_hand_row) rfl
  have F22 : Fun K "hand_row" "hand_row" s_hand_row (He.ga K "hand_row") fd22 := fun_of_D D22
  have g22 : mg "hand_row" = some (.ref (He.ga K "hand_row")) := He.glo_ok X G (cd.fact 22 (f := .glo "hand_row") rfl)
  have b22 := F22.binds (ps := ["rule", "moments"]) fun _ _ _ _ _ _ us hl => match us, hl with | [_, _], _ => rfl
  obtain ⟨fd23, D23⟩ := cd.def_ 23 (d := hd_belt_row) rfl
  have F23 : Fun K "belt_row" "belt_row" s_belt_row (He.ga K "belt_row") fd23 := fun_of_D D23
  have g23 : mg "belt_row" = some (.ref (He.ga K "belt_row")) := He.glo_ok X G (cd.fact 23 (f := .glo "belt_row") rfl)
  have b23 := F23.binds (ps := ["giver", "taker", "things"]) fun _ _ _ _ _ _ us hl => match us, hl with | [_, _, _], _ => rfl
  obtain ⟨fd24, D24⟩ := cd.def_ 24 (d := hd_read_room) rfl
  have F24 : Fun K "read_room" "read_room" s_read_room (He.ga K "read_room") fd24 := fun_of_D D24
  have g24 : mg "read_room" = some (.ref (He.ga K "read_room")) := He.glo_ok X G (cd.fact 24 (f := .glo "read_room") rfl)
  have b24 := F24.binds (ps := ["text"]) fun _ _ _ _ _ _ us hl => match us, hl with | [_], _ => rfl
  obtain ⟨fd25, D25⟩ := cd.def_ 25 (d := hd_hand_of) rfl
  have F25 : Fun K "hand_of" "hand_of" s_hand_of (He.ga K "hand_of") fd25 := fun_of_D D25
  have g25 : mg "hand_of" = some (.ref (He.ga K "hand_of")) := He.glo_ok X G (cd.fact 25 (f := .glo "hand_of") rfl)
  have b25 := F25.binds (ps := ["words"]) fun _ _ _ _ _ _ us hl => match us, hl with | [_], _ => rfl
  obtain ⟨fd26, D26⟩ := cd.def_ 26 (d := hd_belt_of) rfl
  have F26 : Fun K "belt_of" "belt_of" s_belt_of (He.ga K "belt_of") fd26 := fun_of_D D26
  have g26 : mg "belt_of" = some (.ref (He.ga K "belt_of")) := He.glo_ok X G (cd.fact 26 (f := .glo "belt_of") rfl)
  have b26 := F26.binds (ps := ["words"]) fun _ _ _ _ _ _ us hl => match us, hl with | [_], _ => rfl
  obtain ⟨fd27, D27⟩ := cd.def_ 27 (d := hd_numbers_of) rfl
  have F27 : Fun K "numbers_of" "numbers_of" s_numbers_of (He.ga K "numbers_of") fd27 := fun_of_D D27
  have g27 : mg "numbers_of" = some (.ref (He.ga K "numbers_of")) := He.glo_ok X G (cd.fact 27 (f := .glo "numbers_of") rfl)
  have b27 := F27.binds (ps := ["words"]) fun _ _ _ _ _ _ us hl => match us, hl with | [_], _ => rfl
  obtain ⟨fd28, D28⟩ := cd.def_ 28 (d := hd_work_order) rfl
  have F28 : Fun K "work_order" "work_order" s_work_order (He.ga K "work_order") fd28 := fun_of_D D28
  have g28 : mg "work_order" = some (.ref (He.ga K "work_order")) := He.glo_ok X G (cd.fact 28 (f := .glo "work_order") rfl)
  have b28 := F28.binds (ps := ["room"]) fun _ _ _ _ _ _ us hl => match us, hl with | [_], _ => rfl
  obtain ⟨fd29, D29⟩ := cd.def_ 29 (d := hd_worked) rfl
  have F29 : Fun K "worked" "worked" s_worked (He.ga K "worked") fd29 := fun_of_D D29
  have g29 : mg "worked" = some (.ref (He.ga K "worked")) := He.glo_ok X G (cd.fact 29 (f := .glo "worked") rfl)
  have b29 := F29.binds (ps := ["room", "rows"]) fun _ _ _ _ _ _ us hl => match us, hl with | [_, _], _ => rfl
  obtain ⟨fd30, D30⟩ := cd.def_ 30 (d := hd_standing) rfl
  have F30 : Fun K "standing" "standing" s_standing (He.ga K "standing") fd30 := fun_of_D D30
  have g30 : mg "standing" = some (.ref (He.ga K "standing")) := He.glo_ok X G (cd.fact 30 (f := .glo "standing") rfl)
  have b30 := F30.binds (ps := ["room", "rows"]) fun _ _ _ _ _ _ us hl => match us, hl with | [_, _], _ => rfl
  obtain ⟨fd31, D31⟩ := cd.def_ 31 (d := hd_work_plan) rfl
  have F31 : Fun K "work_plan" "work_plan" s_work_plan (He.ga K "work_plan") fd31 := fun_of_D D31
  have g31 : mg "work_plan" = some (.ref (He.ga K "work_plan")) := He.glo_ok X G (cd.fact 31 (f := .glo "work_plan") rfl)
  have b31 := F31.binds (ps := ["room"]) fun _ _ _ _ _ _ us hl => match us, hl with | [_], _ => rfl
  obtain ⟨fd32, D32⟩ := cd.def_ 32 (d := hd_made_at_bell) rfl
  have F32 : Fun K "made_at_bell" "made_at_bell" s_made_at_bell (He.ga K "made_at_bell") fd32 := fun_of_D D32
  have g32 : mg "made_at_bell" = some (.ref (He.ga K "made_at_bell")) := He.glo_ok X G (cd.fact 32 (f := .glo "made_at_bell") rfl)
  have b32 := F32.binds (ps := ["room", "plan", "things"]) fun _ _ _ _ _ _ us hl => match us, hl with | [_, _, _], _ => rfl
  obtain ⟨fd33, D33⟩ := cd.def_ 33 (d := hd_thing_taken) rfl
  have F33 : Fun K "thing_taken" "thing_taken" s_thing_taken (He.ga K "thing_taken") fd33 := fun_of_D D33
  have g33 : mg "thing_taken" = some (.ref (He.ga K "thing_taken")) := He.glo_ok X G (cd.fact 33 (f := .glo "thing_taken") rfl)
  have b33 := F33.binds (ps := ["belt", "made"]) fun _ _ _ _ _ _ us hl => match us, hl with | [_, _], _ => rfl
  obtain ⟨fd34, D34⟩ := cd.def_ 34 (d := hd_behind_bell) rfl
  have F34 : Fun K "behind_bell" "behind_bell" s_behind_bell (He.ga K "behind_bell") fd34 := fun_of_D D34
  have g34 : mg "behind_bell" = some (.ref (He.ga K "behind_bell")) := He.glo_ok X G (cd.fact 34 (f := .glo "behind_bell") rfl)
  have b34 := F34.binds (ps := ["room", "made"]) fun _ _ _ _ _ _ us hl => match us, hl with | [_, _], _ => rfl
  obtain ⟨fd35, D35⟩ := cd.def_ 35 (d := hd_belt_behind_bell) rfl
  have F35 : Fun K "belt_behind_bell" "belt_behind_bell" s_belt_behind_bell (He.ga K "belt_behind_bell") fd35 := fun_of_D D35
  have g35 : mg "belt_behind_bell" = some (.ref (He.ga K "belt_behind_bell")) := He.glo_ok X G (cd.fact 35 (f := .glo "belt_behind_bell") rfl)
  have b35 := F35.binds (ps := ["belt", "made"]) fun _ _ _ _ _ _ us hl => match us, hl with | [_, _], _ => rfl
  obtain ⟨fd36, D36⟩ := cd.def_ 36 (d := hd_law_flow) rfl
  have F36 : Fun K "_law_flow" "_law_flow" s_law_flow (He.ga K "_law_flow") fd36 := fun_of_D D36
  have g36 : mg "_law_flow" = some (.ref (He.ga K "_law_flow")) := He.glo_ok X G (cd.fact 36 (f := .glo "_law_flow") rfl)
  have b36 := F36.binds (ps := ["_law_script"]) fun _ _ _ _ _ _ us hl => match us, hl with | [_], _ => rfl
  obtain ⟨fd37, D37⟩ := cd.def_ 37 (d := hd_law_pick) rfl
  have F37 : Fun K "_law_pick" "_law_pick" s_law_pick (He.ga K "_law_pick") fd37 := fun_of_D D37
  have g37 : mg "_law_pick" = some (.ref (He.ga K "_law_pick")) := He.glo_ok X G (cd.fact 37 (f := .glo "_law_pick") rfl)
  have b37 := F37.binds (ps := ["_law_flow_here", "_law_many"]) fun _ _ _ _ _ _ us hl => match us, hl with | [_, _], _ => rfl
  obtain ⟨fd38, D38⟩ := cd.def_ 38 (d := hd_law_thing) rfl
  have F38 : Fun K "_law_thing" "_law_thing" s_law_thing (He.ga K "_law_thing") fd38 := fun_of_D D38
  have g38 : mg "_law_thing" = some (.ref (He.ga K "_law_thing")) := He.glo_ok X G (cd.fact 38 (f := .glo "_law_thing") rfl)
  have b38 := F38.binds (ps := ["_law_flow_here"]) fun _ _ _ _ _ _ us hl => match us, hl with | [_], _ => rfl
  obtain ⟨fd39, D39⟩ := cd.def_ 39 (d := hd_law_needs) rfl
  have F39 : Fun K "_law_needs" "_law_needs" s_law_needs (He.ga K "_law_needs") fd39 := fun_of_D D39
  have g39 : mg "_law_needs" = some (.ref (He.ga K "_law_needs")) := He.glo_ok X G (cd.fact 39 (f := .glo "_law_needs") rfl)
  have b39 := F39.binds (ps := ["_law_rule_here"]) fun _ _ _ _ _ _ us hl => match us, hl with | [_], _ => rfl
  obtain ⟨fd40, D40⟩ := cd.def_ 40 (d := hd_law_rule) rfl
  have F40 : Fun K "_law_rule" "_law_rule" s_law_rule (He.ga K "_law_rule") fd40 := fun_of_D D40
  have g40 : mg "_law_rule" = some (.ref (He.ga K "_law_rule")) := He.glo_ok X G (cd.fact 40 (f := .glo "_law_rule") rfl)
  have b40 := F40.binds (ps := ["_law_flow_here", "_law_most"]) fun _ _ _ _ _ _ us hl => match us, hl with | [_, _], _ => rfl
  obtain ⟨fd41, D41⟩ := cd.def_ 41 (d := hd_law_shuffled) rfl
  have F41 : Fun K "_law_shuffled" "_law_shuffled" s_law_shuffled (He.ga K "_law_shuffled") fd41 := fun_of_D D41
  have g41 : mg "_law_shuffled" = some (.ref (He.ga K "_law_shuffled")) := He.glo_ok X G (cd.fact 41 (f := .glo "_law_shuffled") rfl)
  have b41 := F41.binds (ps := ["_law_flow_here", "_law_some"]) fun _ _ _ _ _ _ us hl => match us, hl with | [_, _], _ => rfl
  obtain ⟨fd42, D42⟩ := cd.def_ 42 (d := hd_law_hands) rfl
  have F42 : Fun K "_law_hands" "_law_hands" s_law_hands (He.ga K "_law_hands") fd42 := fun_of_D D42
  have g42 : mg "_law_hands" = some (.ref (He.ga K "_law_hands")) := He.glo_ok X G (cd.fact 42 (f := .glo "_law_hands") rfl)
  have b42 := F42.binds (ps := ["_law_flow_here", "_law_many"]) fun _ _ _ _ _ _ us hl => match us, hl with | [_, _], _ => rfl
  obtain ⟨fd43, D43⟩ := cd.def_ 43 (d := hd_law_room) rfl
  have F43 : Fun K "_law_room" "_law_room" s_law_room (He.ga K "_law_room") fd43 := fun_of_D D43
  have g43 : mg "_law_room" = some (.ref (He.ga K "_law_room")) := He.glo_ok X G (cd.fact 43 (f := .glo "_law_room") rfl)
  have b43 := F43.binds (ps := ["_law_flow_here", "_law_most"]) fun _ _ _ _ _ _ us hl => match us, hl with | [_, _], _ => rfl
  obtain ⟨fd44, D44⟩ := cd.def_ 44 (d := hd_law_any_room) rfl
  have F44 : Fun K "_law_any_room" "_law_any_room" s_law_any_room (He.ga K "_law_any_room") fd44 := fun_of_D D44
  have g44 : mg "_law_any_room" = some (.ref (He.ga K "_law_any_room")) := He.glo_ok X G (cd.fact 44 (f := .glo "_law_any_room") rfl)
  have b44 := F44.binds (ps := ["_law_flow_here"]) fun _ _ _ _ _ _ us hl => match us, hl with | [_], _ => rfl
  obtain ⟨fd45, D45⟩ := cd.def_ 45 (d := hd_law_rows_of) rfl
  have F45 : Fun K "_law_rows_of" "_law_rows_of" s_law_rows_of (He.ga K "_law_rows_of") fd45 := fun_of_D D45
  have g45 : mg "_law_rows_of" = some (.ref (He.ga K "_law_rows_of")) := He.glo_ok X G (cd.fact 45 (f := .glo "_law_rows_of") rfl)
  have b45 := F45.binds (ps := ["_law_room_here"]) fun _ _ _ _ _ _ us hl => match us, hl with | [_], _ => rfl
  obtain ⟨fd46, D46⟩ := cd.def_ 46 (d := hd_law_text) rfl
  have F46 : Fun K "_law_text" "_law_text" s_law_text (He.ga K "_law_text") fd46 := fun_of_D D46
  have g46 : mg "_law_text" = some (.ref (He.ga K "_law_text")) := He.glo_ok X G (cd.fact 46 (f := .glo "_law_text") rfl)
  have b46 := F46.binds (ps := ["_law_room_here"]) fun _ _ _ _ _ _ us hl => match us, hl with | [_], _ => rfl
  obtain ⟨fd47, D47⟩ := cd.def_ 47 (d := hd_law_alike) rfl
  have F47 : Fun K "_law_alike" "_law_alike" s_law_alike (He.ga K "_law_alike") fd47 := fun_of_D D47
  have g47 : mg "_law_alike" = some (.ref (He.ga K "_law_alike")) := He.glo_ok X G (cd.fact 47 (f := .glo "_law_alike") rfl)
  have b47 := F47.binds (ps := ["_law_found", "_law_due"]) fun _ _ _ _ _ _ us hl => match us, hl with | [_, _], _ => rfl
  obtain ⟨fd48, D48⟩ := cd.def_ 48 (d := hd_law_grown_right) rfl
  have F48 : Fun K "_law_grown_right" "_law_grown_right" s_law_grown_right (He.ga K "_law_grown_right") fd48 := fun_of_D D48
  have g48 : mg "_law_grown_right" = some (.ref (He.ga K "_law_grown_right")) := He.glo_ok X G (cd.fact 48 (f := .glo "_law_grown_right") rfl)
  have b48 := F48.binds (ps := ["_law_flow_here"]) fun _ _ _ _ _ _ us hl => match us, hl with | [_], _ => rfl
  obtain ⟨fd49, D49⟩ := cd.def_ 49 (d := hd_law) rfl
  have F49 : Fun K "law" "law" s_law (He.ga K "law") fd49 := fun_of_D D49
  have g49 : mg "law" = some (.ref (He.ga K "law")) := He.glo_ok X G (cd.fact 49 (f := .glo "law") rfl)
  have ex := c.more
  unfold hEx at ex
  simp only [Bool.and_eq_true] at ex
  obtain ⟨⟨⟨⟨⟨ex0, ex1⟩, ex2⟩, ex3⟩, ex4⟩, ex5⟩ := ex
  obtain ⟨fdNs, DNs⟩ := cd.def_ 50 (d := hd_NsInit) rfl
  have FNs : Fun K "__init__" "NoText.__init__" s_NoText_init (He.fAd K ("NoText", some "__init__")) fdNs := fun_of_D DNs
  have bNs := FNs.binds (ps := ["self", "row"]) fun _ _ _ _ _ _ us hl => match us, hl with | [_, _], _ => rfl
  have gNs : mg "NoText" = some (.ref (He.ga K "NoText")) := He.glo_ok X G (cd.fact 74 (f := .glo "NoText") rfl)
  have gBe : mg "BeltError" = some (.ref (He.ga K "BeltError")) := He.glo_ok X G (cd.fact 75 (f := .glo "BeltError") rfl)
  have T : Top w K mg := ⟨⟨_, fd0, F0, b0, g0⟩, ⟨_, fd1, F1, b1, g1⟩, ⟨_, fd2, F2, b2, g2⟩, ⟨_, fd3, F3, b3, g3⟩, ⟨_, fd4, F4, b4, g4⟩, ⟨_, fd5, F5, b5, g5⟩, ⟨_, fd6, F6, b6, g6⟩, ⟨_, fd7, F7, b7, g7⟩, ⟨_, fd8, F8, b8, g8⟩, ⟨_, fd9, F9, b9, g9⟩, ⟨_, fd10, F10, b10, g10⟩, ⟨_, fd11, F11, b11, g11⟩, ⟨_, fd12, F12, b12, g12⟩, ⟨_, fd13, F13, b13, g13⟩, ⟨_, fd14, F14, b14, g14⟩, ⟨_, fd15, F15, b15, g15⟩, ⟨_, fd16, F16, b16, g16⟩, ⟨_, fd17, F17, b17, g17⟩, ⟨_, fd18, F18, b18, g18⟩, ⟨_, fd19, F19, b19, g19⟩, ⟨_, fd20, F20, b20, g20⟩, ⟨_, fd21, F21, b21, g21⟩, ⟨_, fd22, F22, b22, g22⟩, ⟨_, fd23, F23, b23, g23⟩, ⟨_, fd24, F24, b24, g24⟩, ⟨_, fd25, F25, b25, g25⟩, ⟨_, fd26, F26, b26, g26⟩, ⟨_, fd27, F27, b27, g27⟩, ⟨_, fd28, F28, b28, g28⟩, ⟨_, fd29, F29, b29, g29⟩, ⟨_, fd30, F30, b30, g30⟩, ⟨_, fd31, F31, b31, g31⟩, ⟨_, fd32, F32, b32, g32⟩, ⟨_, fd33, F33, b33, g33⟩, ⟨_, fd34, F34, b34, g34⟩, ⟨_, fd35, F35, b35, g35⟩, ⟨_, fd36, F36, b36, g36⟩, ⟨_, fd37, F37, b37, g37⟩, ⟨_, fd38, F38, b38, g38⟩, ⟨_, fd39, F39, b39, g39⟩, ⟨_, fd40, F40, b40, g40⟩, ⟨_, fd41, F41, b41, g41⟩, ⟨_, fd42, F42, b42, g42⟩, ⟨_, fd43, F43, b43, g43⟩, ⟨_, fd44, F44, b44, g44⟩, ⟨_, fd45, F45, b45, g45⟩, ⟨_, fd46, F46, b46, g46⟩, ⟨_, fd47, F47, b47, g47⟩, ⟨_, fd48, F48, b48, g48⟩, He.free_ok X G (cd.fact 50 (f := .free "abs") rfl), He.free_ok X G (cd.fact 51 (f := .free "all") rfl), He.free_ok X G (cd.fact 52 (f := .free "bool") rfl), He.free_ok X G (cd.fact 53 (f := .free "dict") rfl), He.free_ok X G (cd.fact 54 (f := .free "divmod") rfl), He.free_ok X G (cd.fact 55 (f := .free "enumerate") rfl), He.free_ok X G (cd.fact 56 (f := .free "int") rfl), He.free_ok X G (cd.fact 57 (f := .free "isinstance") rfl), He.free_ok X G (cd.fact 58 (f := .free "len") rfl), He.free_ok X G (cd.fact 59 (f := .free "list") rfl), He.free_ok X G (cd.fact 60 (f := .free "max") rfl), He.free_ok X G (cd.fact 61 (f := .free "min") rfl), He.free_ok X G (cd.fact 62 (f := .free "range") rfl), He.free_ok X G (cd.fact 63 (f := .free "set") rfl), He.free_ok X G (cd.fact 64 (f := .free "str") rfl), He.free_ok X G (cd.fact 65 (f := .free "tuple") rfl), He.free_ok X G (cd.fact 66 (f := .free "zip") rfl), ⟨_, He.glo_ok X G (cd.fact 67 (f := .glo "IN_RULE") rfl), fun H => He.tupB_ok ex0 H⟩, ⟨_, He.glo_ok X G (cd.fact 68 (f := .glo "OUT_RULE") rfl), fun H => He.tupB_ok ex1 H⟩, ⟨_, He.glo_ok X G (cd.fact 69 (f := .glo "WITH_NUMBER") rfl), fun H => He.tupB_ok ex2 H⟩, ⟨_, He.glo_ok X G (cd.fact 76 (f := .glo "NEEDS") rfl), ⟨c.t.tab 0 (t := needsT), fun z hz => needs_yes ex4 hz, fun z hz => knownK_no ex5 hz⟩⟩, He.int_ok X G (cd.fact 70 (f := .int "MOST_FIGURES" 9) rfl), He.str_ok X G (cd.fact 71 (f := .str "FIGURES" figS) rfl), He.int_ok X G (cd.fact 72 (f := .int "CHUNK" CHN) rfl), He.int_ok X G (cd.fact 73 (f := .int "CHUNK_FIGURES" 18) rfl), ⟨_, nsB_ok ex3 gNs gBe FNs bNs⟩⟩
  have e := hfa.symm.trans g49
  cases e
  have law_b : ∀ (s : Shared) (v : Value), BindsTo s fd49 ⟨[v], []⟩ [("_law_script", v)] := fun s v => by
    obtain ⟨_, _, _, _, _, _, _, _, _, rfl, _, _⟩ := F49.ex
    exact .of_eq rfl
  refine ⟨fd49, [He.cT K ("has_form", none), He.cT K ("is_belt_triple", none), He.cT K ("number_of", none)], sp_law K ((He.cT K ("has_form", none)).2, (He.cT K ("is_belt_triple", none)).2, (He.cT K ("number_of", none)).2), fun p hp => ?_, fun p hp => ?_, fun p hp => ?_, law_b, fun H a ns hl _ hT hS => ⟨a, ns, rfl, hS, hl, ⟨⟨#[], hT (He.cT K ("has_form", none)) (List.mem_cons_self ..), trivial⟩, ⟨#[], hT (He.cT K ("is_belt_triple", none)) (List.mem_cons_of_mem _ (List.mem_cons_self ..)), trivial⟩, ⟨#[], hT (He.cT K ("number_of", none)) (List.mem_cons_of_mem _ (List.mem_cons_of_mem _ (List.mem_cons_self ..))), trivial⟩⟩, fun _ => rfl⟩, fun base _ _ TB => ?_⟩
  · have hin : ∀ p ∈ [He.cT K ("has_form", none), He.cT K ("is_belt_triple", none), He.cT K ("number_of", none)], ∃ q ∈ hTf, p = He.cT K q := fun p hp => by
      rcases List.mem_cons.mp hp with rfl | hp
      · exact ⟨_, List.mem_cons_self .., rfl⟩
      rcases List.mem_cons.mp hp with rfl | hp
      · exact ⟨_, (List.mem_cons_of_mem _ (List.mem_cons_self ..)), rfl⟩
      rcases List.mem_cons.mp hp with rfl | hp
      · exact ⟨_, (List.mem_cons_of_mem _ (List.mem_cons_of_mem _ (List.mem_cons_self ..))), rfl⟩
      cases hp
    obtain ⟨q, hq, rfl⟩ := hin p hp
    exact c.empty _ hq
  · have hin : ∀ p ∈ [He.cT K ("has_form", none), He.cT K ("is_belt_triple", none), He.cT K ("number_of", none)], ∃ q ∈ hTf, p = He.cT K q := fun p hp => by
      rcases List.mem_cons.mp hp with rfl | hp
      · exact ⟨_, List.mem_cons_self .., rfl⟩
      rcases List.mem_cons.mp hp with rfl | hp
      · exact ⟨_, (List.mem_cons_of_mem _ (List.mem_cons_self ..)), rfl⟩
      rcases List.mem_cons.mp hp with rfl | hp
      · exact ⟨_, (List.mem_cons_of_mem _ (List.mem_cons_of_mem _ (List.mem_cons_self ..))), rfl⟩
      cases hp
    obtain ⟨q, hq, rfl⟩ := hin p hp
    exact c.out _ hq
  · have hin : ∀ p ∈ [He.cT K ("has_form", none), He.cT K ("is_belt_triple", none), He.cT K ("number_of", none)], ∃ q ∈ hTf, p = He.cT K q := fun p hp => by
      rcases List.mem_cons.mp hp with rfl | hp
      · exact ⟨_, List.mem_cons_self .., rfl⟩
      rcases List.mem_cons.mp hp with rfl | hp
      · exact ⟨_, (List.mem_cons_of_mem _ (List.mem_cons_self ..)), rfl⟩
      rcases List.mem_cons.mp hp with rfl | hp
      · exact ⟨_, (List.mem_cons_of_mem _ (List.mem_cons_of_mem _ (List.mem_cons_self ..))), rfl⟩
      cases hp
    obtain ⟨q, hq, rfl⟩ := hin p hp
    exact PySem.W.codeHd_of_K X (c.hd _ hq)
  have TB0 := TB _ (List.mem_cons_self ..)
  have TC0 : GxR.TabB base mg (He.codeOf K ("has_form", none)) (He.tabOf K (He.codeOf K ("has_form", none))) := ⟨TB0.code, TB0.bm, TB0.gP⟩
  haveI : TabF K mg base _ ((He.cT K ("has_form", none)).2, (He.cT K ("is_belt_triple", none)).2, (He.cT K ("number_of", none)).2) := ⟨TC0, fun f fd F m => by
    have e := m.symm.trans g12
    cases e
    obtain ⟨_, _, _, _, _, _, cdv, _, _, rfl, lk, ci⟩ := F.ex
    obtain ⟨c0, rfl⟩ := He.codeIn_ref ci
    exact congrArg Value.ref (He.codeOf_eq (p := ("has_form", none)) lk rfl).symm⟩
  have TB1 := TB _ (List.mem_cons_of_mem _ (List.mem_cons_self ..))
  have TC1 : GxR.TabB base mg (He.codeOf K ("is_belt_triple", none)) (He.tabOf K (He.codeOf K ("is_belt_triple", none))) := ⟨TB1.code, TB1.bm, TB1.gP⟩
  haveI : TabC K mg base _ ((He.cT K ("has_form", none)).2, (He.cT K ("is_belt_triple", none)).2, (He.cT K ("number_of", none)).2) := ⟨TC1, fun f fd F m => by
    have e := m.symm.trans g14
    cases e
    obtain ⟨_, _, _, _, _, _, cdv, _, _, rfl, lk, ci⟩ := F.ex
    obtain ⟨c0, rfl⟩ := He.codeIn_ref ci
    exact congrArg Value.ref (He.codeOf_eq (p := ("is_belt_triple", none)) lk rfl).symm⟩
  have TB2 := TB _ (List.mem_cons_of_mem _ (List.mem_cons_of_mem _ (List.mem_cons_self ..)))
  have TC2 : GxR.TabB base mg (He.codeOf K ("number_of", none)) (He.tabOf K (He.codeOf K ("number_of", none))) := ⟨TB2.code, TB2.bm, TB2.gP⟩
  haveI : TabN K mg base _ ((He.cT K ("has_form", none)).2, (He.cT K ("is_belt_triple", none)).2, (He.cT K ("number_of", none)).2) := ⟨TC2, fun f fd F m => by
    have e := m.symm.trans g3
    cases e
    obtain ⟨_, _, _, _, _, _, cdv, _, _, rfl, lk, ci⟩ := F.ex
    obtain ⟨c0, rfl⟩ := He.codeIn_ref ci
    exact congrArg Value.ref (He.codeOf_eq (p := ("number_of", none)) lk rfl).symm⟩
  exact ok_law F49 T
end Mine
open PySem PySem.W PySem.Calls PyProof.Rows
set_option maxRecDepth 100000 in
set_option maxHeartbeats 0 in
theorem PySem.Challenge.cw_beltshift_k10_rooms_written_holds : PySem.Challenge.rw_beltshift_k10_rooms_written.Holds := by
  w_on; o_law
  o_head Mine.hk
  case hw => w_witness2
  case hc =>
    refine LamX.walk_ofTsE (l := PySem.Challenge.rw_beltshift_k10_rooms_written) (n := 63) (k := 9) (x := "_law_script") (CX := fun _ => L2.CX0) rfl (by decide) (by kernel_rfl) ⟨rfl, by decide, by decide⟩ ?F (fun _ _ _ _ _ z => z)
    intro w mg fa h Y G hmg0
    obtain ⟨K, KX, c⟩ := Y
    have hmg : mg ("law" : PySem.Str) = some (.ref fa) := by
      have e : (HandSHeadRun.topDef Mine.hR.prog 69).name = ("law" : PySem.Str) := by kernel_rfl
      rw [← e]
      exact hmg0
    exact ⟨K, KX, Mine.all_mkX KX G hmg c⟩
