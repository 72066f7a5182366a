import PyProof.Rows.All
import Wide.All
import OpenK.AllK
import Wide.FinOn
import HandS.ForMost
import HandS.Wide
import HandS.DictComp
import HandS.Style
import HandS.IsInst
import HandS.TupAny
import HandS.NoneIn
import HandS.SetFor
import HandS.Conv
import HandS.Zip
import HandS.SortKw
import HandS.Deep
import KE.DataMinMax
import KE.GoesMore
import KE.KDictZip
import KE.GoesZip
import KE.GoesEnum
import HandS.AnyAll
import HandS.Words
import HandS.EndTab
import HandS.HeadWalk
import HandS.Defaults
import HandS.Head0
import HandS.Head1
import HandS.Head2
import HandS.HeadEnd
import HandS.HeadHook1
import HandS.HeadHook2
import HandS.HeadHook3
import HandS.HeadHook4
import KE.KStateDown
import KE.KIsAll
import KE.KNestM
import PyProof.GenCompD
import PyProof.WalksMore
import PySem.Challenge.RW_beltshift_k81_whole_moved_rooms_without
import HandS.TupMul
import HandS.Lambda
import KE.KLam
import KE.DataMinKey
import HandS.TryOnly
import HandS.ExcInit
import HandS.WordsExc
import HandS.ExcIs
import HandS.ExcField
import HandS.ExcOwn
set_option Elab.async false
set_option linter.all false
set_option maxRecDepth 100000
namespace Mine
open PySem PyProof.Rows L2
def topS (i : Nat) : Stmt := PySem.Challenge.pw_beltshift_k81_whole_moved_rooms_without.main.body.getD i (.Pass ⟨0, 0, 0, 0⟩)
abbrev s_is_whole : Stmt := topS 5
abbrev N_is_whole : List Str := ["thing"]
theorem sc_is_whole : FnScope N_is_whole ["thing"] (defScope s_is_whole) := ⟨rfl, rfl, rfl, by decide +kernel, rfl, by decide +kernel, by decide +kernel⟩
abbrev s_made_by : Stmt := topS 7
abbrev N_made_by : List Str := ["rule", "things", "word"]
theorem sc_made_by : FnScope N_made_by ["rule", "things"] (defScope s_made_by) := ⟨rfl, rfl, rfl, by decide +kernel, rfl, by decide +kernel, by decide +kernel⟩
abbrev s_made_of_two : Stmt := topS 8
abbrev N_made_of_two : List Str := ["word", "one", "other"]
theorem sc_made_of_two : FnScope N_made_of_two ["word", "one", "other"] (defScope s_made_of_two) := ⟨rfl, rfl, rfl, by decide +kernel, rfl, by decide +kernel, by decide +kernel⟩
abbrev s_comings : Stmt := topS 12
abbrev N_comings : List Str := ["room", "hand", "number", "belt"]
theorem sc_comings : FnScope N_comings ["room", "hand"] (defScope s_comings) := ⟨rfl, rfl, rfl, by decide +kernel, rfl, by decide +kernel, by decide +kernel⟩
abbrev s_goings : Stmt := topS 13
abbrev N_goings : List Str := ["room", "hand", "number", "belt"]
theorem sc_goings : FnScope N_goings ["room", "hand"] (defScope s_goings) := ⟨rfl, rfl, rfl, by decide +kernel, rfl, by decide +kernel, by decide +kernel⟩
abbrev s_doors_in : Stmt := topS 14
abbrev N_doors_in : List Str := ["room", "number", "hand"]
theorem sc_doors_in : FnScope N_doors_in ["room"] (defScope s_doors_in) := ⟨rfl, rfl, rfl, by decide +kernel, rfl, by decide +kernel, by decide +kernel⟩
abbrev s_doors_out : Stmt := topS 15
abbrev N_doors_out : List Str := ["room", "number", "hand"]
theorem sc_doors_out : FnScope N_doors_out ["room"] (defScope s_doors_out) := ⟨rfl, rfl, rfl, by decide +kernel, rfl, by decide +kernel, by decide +kernel⟩
abbrev s_Floor___init__ : Stmt := inClass (topS 17) 0
abbrev N_Floor___init__ : List Str := ["self", "room", "hands", "belts", "numbers", "rule", "moments", "hand", "giver", "taker", "things"]
theorem sc_Floor___init__ : FnScope N_Floor___init__ ["self", "room"] (defScope s_Floor___init__) := ⟨rfl, rfl, rfl, by decide +kernel, rfl, by decide +kernel, by decide +kernel⟩
abbrev s_Floor_give : Stmt := inClass (topS 17) 1
abbrev N_Floor_give : List Str := ["self", "hand", "thing"]
theorem sc_Floor_give : FnScope N_Floor_give ["self", "hand", "thing"] (defScope s_Floor_give) := ⟨rfl, rfl, rfl, by decide +kernel, rfl, by decide +kernel, by decide +kernel⟩
abbrev s_Floor_ready : Stmt := inClass (topS 17) 2
abbrev N_Floor_ready : List Str := ["self", "hand"]
theorem sc_Floor_ready : FnScope N_Floor_ready ["self"] (defScope s_Floor_ready) := ⟨rfl, rfl, rfl, by decide +kernel, rfl, by decide +kernel, by decide +kernel⟩
abbrev s_Floor_work : Stmt := inClass (topS 17) 3
abbrev N_Floor_work : List Str := ["self", "hand", "taken", "things", "thing", "belt"]
theorem sc_Floor_work : FnScope N_Floor_work ["self", "hand"] (defScope s_Floor_work) := ⟨rfl, rfl, rfl, by decide +kernel, rfl, by decide +kernel, by decide +kernel⟩
abbrev s_Floor_made : Stmt := inClass (topS 17) 4
abbrev N_Floor_made : List Str := ["self", "hand"]
theorem sc_Floor_made : FnScope N_Floor_made ["self", "hand"] (defScope s_Floor_made) := ⟨rfl, rfl, rfl, by decide +kernel, rfl, by decide +kernel, by decide +kernel⟩
abbrev s_Floor_can_work : Stmt := inClass (topS 17) 5
abbrev N_Floor_can_work : List Str := ["self", "hand", "things"]
theorem sc_Floor_can_work : FnScope N_Floor_can_work ["self", "hand"] (defScope s_Floor_can_work) := ⟨rfl, rfl, rfl, by decide +kernel, rfl, by decide +kernel, by decide +kernel⟩
abbrev s_Floor_sources : Stmt := inClass (topS 17) 6
abbrev N_Floor_sources : List Str := ["self", "hand", "belt"]
theorem sc_Floor_sources : FnScope N_Floor_sources ["self", "hand"] (defScope s_Floor_sources) := ⟨rfl, rfl, rfl, by decide +kernel, rfl, by decide +kernel, by decide +kernel⟩
abbrev s_levels_or_ring : Stmt := topS 19
abbrev N_levels_or_ring : List Str := ["many", "steps", "levels", "last", "raised", "turn"]
theorem sc_levels_or_ring : FnScope N_levels_or_ring ["many", "steps"] (defScope s_levels_or_ring) := ⟨rfl, rfl, rfl, by decide +kernel, rfl, by decide +kernel, by decide +kernel⟩
abbrev s_raise_levels : Stmt := topS 20
abbrev N_raise_levels : List Str := ["levels", "last", "steps", "raised", "number", "begin", "end", "need"]
theorem sc_raise_levels : FnScope N_raise_levels ["levels", "last", "steps"] (defScope s_raise_levels) := ⟨rfl, rfl, rfl, by decide +kernel, rfl, by decide +kernel, by decide +kernel⟩
abbrev s_ring_behind : Stmt := topS 21
abbrev N_ring_behind : List Str := ["place", "last", "steps", "turn", "ring", "here"]
theorem sc_ring_behind : FnScope N_ring_behind ["place", "last", "steps"] (defScope s_ring_behind) := ⟨rfl, rfl, rfl, by decide +kernel, rfl, by decide +kernel, by decide +kernel⟩
abbrev s_work_order : Stmt := topS 23
abbrev N_work_order : List Str := ["room", "hands", "belts", "loose", "giver", "taker", "things", "owed", "left", "order", "ready", "hand"]
theorem sc_work_order : FnScope N_work_order ["room"] (defScope s_work_order) := ⟨rfl, rfl, rfl, by decide +kernel, rfl, by decide +kernel, by decide +kernel⟩
abbrev s_trays_on : Stmt := topS 25
abbrev N_trays_on : List Str := ["room", "way", "number"]
theorem sc_trays_on : FnScope N_trays_on ["room", "way"] (defScope s_trays_on) := ⟨rfl, rfl, rfl, by decide +kernel, rfl, by decide +kernel, by decide +kernel⟩
abbrev s_moments_on : Stmt := topS 26
abbrev N_moments_on : List Str := ["room", "way", "hands", "belts", "first", "numbers", "number"]
theorem sc_moments_on : FnScope N_moments_on ["room", "way"] (defScope s_moments_on) := ⟨rfl, rfl, rfl, by decide +kernel, rfl, by decide +kernel, by decide +kernel⟩
abbrev s_beat : Stmt := topS 28
abbrev N_beat : List Str := ["room", "fraction", "way", "numbers"]
theorem sc_beat : FnScope N_beat ["room"] (defScope s_beat) := ⟨rfl, rfl, rfl, by decide +kernel, rfl, by decide +kernel, by decide +kernel⟩
abbrev s_beat_papers : Stmt := topS 29
abbrev N_beat_papers : List Str := ["room", "hands", "belts", "slowest", "way", "fraction", "levels", "ring"]
theorem sc_beat_papers : FnScope N_beat_papers ["room"] (defScope s_beat_papers) := ⟨rfl, rfl, rfl, by decide +kernel, rfl, by decide +kernel, by decide +kernel⟩
abbrev s_beat_steps : Stmt := topS 30
abbrev N_beat_steps : List Str := ["room", "fraction", "a", "b", "hands", "belts", "giver", "taker", "things"]
theorem sc_beat_steps : FnScope N_beat_steps ["room", "fraction"] (defScope s_beat_steps) := ⟨rfl, rfl, rfl, by decide +kernel, rfl, by decide +kernel, by decide +kernel⟩
abbrev s_ring_moments : Stmt := topS 31
abbrev N_ring_moments : List Str := ["room", "way"]
theorem sc_ring_moments : FnScope N_ring_moments ["room", "way"] (defScope s_ring_moments) := ⟨rfl, rfl, rfl, by decide +kernel, rfl, by decide +kernel, by decide +kernel⟩
abbrev s_in_least_terms : Stmt := topS 32
abbrev N_in_least_terms : List Str := ["a", "b", "divisor", "left"]
theorem sc_in_least_terms : FnScope N_in_least_terms ["a", "b"] (defScope s_in_least_terms) := ⟨rfl, rfl, rfl, by decide +kernel, rfl, by decide +kernel, by decide +kernel⟩
abbrev s_worked : Stmt := topS 34
abbrev N_worked : List Str := ["room", "rows", "plan", "stands", "told", "things", "made"]
theorem sc_worked : FnScope N_worked ["room", "rows"] (defScope s_worked) := ⟨rfl, rfl, rfl, by decide +kernel, rfl, by decide +kernel, by decide +kernel⟩
abbrev s_work_plan : Stmt := topS 35
abbrev N_work_plan : List Str := ["room", "hand"]
theorem sc_work_plan : FnScope N_work_plan ["room"] (defScope s_work_plan) := ⟨rfl, rfl, rfl, by decide +kernel, rfl, by decide +kernel, by decide +kernel⟩
abbrev s_made_at_bell : Stmt := topS 36
abbrev N_made_at_bell : List Str := ["room", "plan", "things", "hands", "belts", "made", "hand", "coming", "taken", "number"]
theorem sc_made_at_bell : FnScope N_made_at_bell ["room", "plan", "things"] (defScope s_made_at_bell) := ⟨rfl, rfl, rfl, by decide +kernel, rfl, by decide +kernel, by decide +kernel⟩
abbrev s_thing_taken : Stmt := topS 37
abbrev N_thing_taken : List Str := ["belt", "made", "giver", "taker", "things"]
theorem sc_thing_taken : FnScope N_thing_taken ["belt", "made"] (defScope s_thing_taken) := ⟨rfl, rfl, rfl, by decide +kernel, rfl, by decide +kernel, by decide +kernel⟩
abbrev s_behind_bell : Stmt := topS 38
abbrev N_behind_bell : List Str := ["room", "made", "hands", "belts", "belt"]
theorem sc_behind_bell : FnScope N_behind_bell ["room", "made"] (defScope s_behind_bell) := ⟨rfl, rfl, rfl, by decide +kernel, rfl, by decide +kernel, by decide +kernel⟩
abbrev s_belt_behind_bell : Stmt := topS 39
abbrev N_belt_behind_bell : List Str := ["belt", "made", "giver", "taker", "things"]
theorem sc_belt_behind_bell : FnScope N_belt_behind_bell ["belt", "made"] (defScope s_belt_behind_bell) := ⟨rfl, rfl, rfl, by decide +kernel, rfl, by decide +kernel, by decide +kernel⟩
abbrev s_look_shifts : Stmt := topS 41
abbrev N_look_shifts : List Str := ["room", "late", "shifts"]
theorem sc_look_shifts : FnScope N_look_shifts ["room", "late", "shifts"] (defScope s_look_shifts) := ⟨rfl, rfl, rfl, by decide +kernel, rfl, by decide +kernel, by decide +kernel⟩
abbrev s_refuse_shifts : Stmt := topS 42
abbrev N_refuse_shifts : List Str := ["word", "at"]
theorem sc_refuse_shifts : FnScope N_refuse_shifts ["word", "at"] (defScope s_refuse_shifts) := ⟨rfl, rfl, rfl, by decide +kernel, rfl, by decide +kernel, by decide +kernel⟩
abbrev s_is_shifts : Stmt := topS 43
abbrev N_is_shifts : List Str := ["room", "thing", "shift"]
theorem sc_is_shifts : FnScope N_is_shifts ["room", "thing"] (defScope s_is_shifts) := ⟨rfl, rfl, rfl, by decide +kernel, rfl, by decide +kernel, by decide +kernel⟩
abbrev s_wrong_door : Stmt := topS 44
abbrev N_wrong_door : List Str := ["room", "late", "shifts", "wrong", "door"]
theorem sc_wrong_door : FnScope N_wrong_door ["room", "late", "shifts"] (defScope s_wrong_door) := ⟨rfl, rfl, rfl, by decide +kernel, rfl, by decide +kernel, by decide +kernel⟩
abbrev s_short_belt : Stmt := topS 45
abbrev N_short_belt : List Str := ["room", "shifts", "number", "trays"]
theorem sc_short_belt : FnScope N_short_belt ["room", "shifts"] (defScope s_short_belt) := ⟨rfl, rfl, rfl, by decide +kernel, rfl, by decide +kernel, by decide +kernel⟩
abbrev s_waits : Stmt := topS 46
abbrev N_waits : List Str := ["shifts"]
theorem sc_waits : FnScope N_waits ["shifts"] (defScope s_waits) := ⟨rfl, rfl, rfl, by decide +kernel, rfl, by decide +kernel, by decide +kernel⟩
abbrev s_trays_moved : Stmt := topS 47
abbrev N_trays_moved : List Str := ["room", "shifts", "giver", "taker", "things"]
theorem sc_trays_moved : FnScope N_trays_moved ["room", "shifts"] (defScope s_trays_moved) := ⟨rfl, rfl, rfl, by decide +kernel, rfl, by decide +kernel, by decide +kernel⟩
abbrev s_moved : Stmt := topS 49
abbrev N_moved : List Str := ["room", "late", "shifts", "rows", "hands", "belts", "bells", "made", "after", "giver", "taker", "things", "trays", "first", "taken", "bell"]
theorem sc_moved : FnScope N_moved ["room", "late", "shifts", "rows"] (defScope s_moved) := ⟨rfl, rfl, rfl, by decide +kernel, rfl, by decide +kernel, by decide +kernel⟩
abbrev s_rows_on : Stmt := topS 50
abbrev N_rows_on : List Str := ["room", "shifts", "rows", "noughts", "door"]
theorem sc_rows_on : FnScope N_rows_on ["room", "shifts", "rows"] (defScope s_rows_on) := ⟨rfl, rfl, rfl, by decide +kernel, rfl, by decide +kernel, by decide +kernel⟩
abbrev s_taken_at : Stmt := topS 51
abbrev N_taken_at : List Str := ["belt", "made", "bell", "giver", "taker", "things"]
theorem sc_taken_at : FnScope N_taken_at ["belt", "made", "bell"] (defScope s_taken_at) := ⟨rfl, rfl, rfl, by decide +kernel, rfl, by decide +kernel, by decide +kernel⟩
abbrev s_law_flow : Stmt := topS 53
abbrev N_law_flow : List Str := ["_law_script"]
theorem sc_law_flow : FnScope N_law_flow ["_law_script"] (defScope s_law_flow) := ⟨rfl, rfl, rfl, by decide +kernel, rfl, by decide +kernel, by decide +kernel⟩
abbrev s_law_pick : Stmt := topS 54
abbrev N_law_pick : List Str := ["_law_flow_here", "_law_many", "_law_cell", "_law_digit"]
theorem sc_law_pick : FnScope N_law_pick ["_law_flow_here", "_law_many"] (defScope s_law_pick) := ⟨rfl, rfl, rfl, by decide +kernel, rfl, by decide +kernel, by decide +kernel⟩
abbrev s_law_thing : Stmt := topS 55
abbrev N_law_thing : List Str := ["_law_flow_here"]
theorem sc_law_thing : FnScope N_law_thing ["_law_flow_here"] (defScope s_law_thing) := ⟨rfl, rfl, rfl, by decide +kernel, rfl, by decide +kernel, by decide +kernel⟩
abbrev s_law_needs : Stmt := topS 56
abbrev N_law_needs : List Str := ["_law_rule_here"]
theorem sc_law_needs : FnScope N_law_needs ["_law_rule_here"] (defScope s_law_needs) := ⟨rfl, rfl, rfl, by decide +kernel, rfl, by decide +kernel, by decide +kernel⟩
abbrev s_law_rule : Stmt := topS 57
abbrev N_law_rule : List Str := ["_law_flow_here", "_law_most", "_law_words", "_law_word"]
theorem sc_law_rule : FnScope N_law_rule ["_law_flow_here", "_law_most"] (defScope s_law_rule) := ⟨rfl, rfl, rfl, by decide +kernel, rfl, by decide +kernel, by decide +kernel⟩
abbrev s_law_shuffled : Stmt := topS 58
abbrev N_law_shuffled : List Str := ["_law_flow_here", "_law_some", "_law_left", "_law_k"]
theorem sc_law_shuffled : FnScope N_law_shuffled ["_law_flow_here", "_law_some"] (defScope s_law_shuffled) := ⟨rfl, rfl, rfl, by decide +kernel, rfl, by decide +kernel, by decide +kernel⟩
abbrev s_law_hands : Stmt := topS 59
abbrev N_law_hands : List Str := ["_law_flow_here", "_law_many", "_law_sorts", "_law_left", "_law_hands_here", "_law_k", "_law_sort", "_law_behind", "_law_other", "_law_rule_here"]
theorem sc_law_hands : FnScope N_law_hands ["_law_flow_here", "_law_many"] (defScope s_law_hands) := ⟨rfl, rfl, rfl, by decide +kernel, rfl, by decide +kernel, by decide +kernel⟩
abbrev s_law_room : Stmt := topS 60
abbrev N_law_room : List Str := ["_law_flow_here", "_law_most", "_law_hands_here", "_law_ranks", "_law_givers", "_law_k", "_law_takers", "_law_belts", "_law_to", "_law_one", "_law_trays"]
theorem sc_law_room : FnScope N_law_room ["_law_flow_here", "_law_most"] (defScope s_law_room) := ⟨rfl, rfl, rfl, by decide +kernel, rfl, by decide +kernel, by decide +kernel⟩
abbrev s_law_rows : Stmt := topS 61
abbrev N_law_rows : List Str := ["_law_flow_here", "_law_room_here", "_law_many", "_law_doors_here", "_law_hand", "_law_door", "_law_k"]
theorem sc_law_rows : FnScope N_law_rows ["_law_flow_here", "_law_room_here", "_law_many"] (defScope s_law_rows) := ⟨rfl, rfl, rfl, by decide +kernel, rfl, by decide +kernel, by decide +kernel⟩
abbrev s_law_made_by : Stmt := topS 62
abbrev N_law_made_by : List Str := ["_law_rule_here", "_law_things", "_law_a", "_law_b", "_law_some"]
theorem sc_law_made_by : FnScope N_law_made_by ["_law_rule_here", "_law_things"] (defScope s_law_made_by) := ⟨rfl, rfl, rfl, by decide +kernel, rfl, by decide +kernel, by decide +kernel⟩
abbrev s_law_worked : Stmt := topS 63
abbrev N_law_worked : List Str := ["_law_room_here", "_law_rows_here", "_law_hands_here", "_law_belts", "_law_found", "_law_t", "_law_row", "_law_doors_here", "_law_k", "_law_now", "_law_turn", "_law_things", "_law_one", "_law_to", "_law_first"]
theorem sc_law_worked : FnScope N_law_worked ["_law_room_here", "_law_rows_here"] (defScope s_law_worked) := ⟨rfl, rfl, rfl, by decide +kernel, rfl, by decide +kernel, by decide +kernel⟩
abbrev s_law_alike : Stmt := topS 64
abbrev N_law_alike : List Str := ["_law_found", "_law_due", "_law_one", "_law_other"]
theorem sc_law_alike : FnScope N_law_alike ["_law_found", "_law_due"] (defScope s_law_alike) := ⟨rfl, rfl, rfl, by decide +kernel, rfl, by decide +kernel, by decide +kernel⟩
abbrev s_law_doors : Stmt := topS 65
abbrev N_law_doors : List Str := ["_law_room_here", "_law_word", "_law_k", "_law_hand"]
theorem sc_law_doors : FnScope N_law_doors ["_law_room_here", "_law_word"] (defScope s_law_doors) := ⟨rfl, rfl, rfl, by decide +kernel, rfl, by decide +kernel, by decide +kernel⟩
abbrev s_law_moved : Stmt := topS 66
abbrev N_law_moved : List Str := ["_law_room_here", "_law_shifts", "_law_one", "_law_to", "_law_things"]
theorem sc_law_moved : FnScope N_law_moved ["_law_room_here", "_law_shifts"] (defScope s_law_moved) := ⟨rfl, rfl, rfl, by decide +kernel, rfl, by decide +kernel, by decide +kernel⟩
abbrev s_law_give_all : Stmt := topS 67
abbrev N_law_give_all : List Str := ["_law_floor", "_law_room_here", "_law_rows_here", "_law_doors_here", "_law_row", "_law_hand", "_law_thing_here"]
theorem sc_law_give_all : FnScope N_law_give_all ["_law_floor", "_law_room_here", "_law_rows_here"] (defScope s_law_give_all) := ⟨rfl, rfl, rfl, by decide +kernel, rfl, by decide +kernel, by decide +kernel⟩
abbrev s_law_drawn_shifts : Stmt := topS 68
abbrev N_law_drawn_shifts : List Str := ["_law_flow_here", "_law_room_here", "_law_late", "_law_many", "_law_hands_here", "_law_found", "_law_hand", "_law_free", "_law_k", "_law_turn", "_law_tried"]
theorem sc_law_drawn_shifts : FnScope N_law_drawn_shifts ["_law_flow_here", "_law_room_here", "_law_late", "_law_many"] (defScope s_law_drawn_shifts) := ⟨rfl, rfl, rfl, by decide +kernel, rfl, by decide +kernel, by decide +kernel⟩
abbrev s_law : Stmt := topS 69
abbrev N_law : List Str := ["_law_script", "_law_flow_here", "_law_room_here", "_law_late", "_law_shifts", "_law_wait", "_law_rows_here", "_law_there", "_law_first", "_law_floor", "_law_counts", "_law_turn", "_law_some", "_law_k"]
theorem sc_law : FnScope N_law ["_law_script"] (defScope s_law) := ⟨rfl, rfl, rfl, by decide +kernel, rfl, by decide +kernel, by decide +kernel⟩

/-- a def of the text stands, binds and is bound -/
def Dd (K : PySem.W.Frag) (mg : Str → Option Value) (name : Str) (st : Stmt) (ps : List Str) : Prop :=
  ∃ (f : Addr) (fd : FuncData), Fun K name name st f fd ∧ Binds K fd ps [] ∧ mg name = some (.ref f)
structure Top (K : PySem.W.Frag) (mg : Str → Option Value) (C : Addr) : Prop where
  d_is_whole : Dd K mg "is_whole" s_is_whole ["thing"]
  d_made_by : Dd K mg "made_by" s_made_by ["rule", "things"]
  d_made_of_two : Dd K mg "made_of_two" s_made_of_two ["word", "one", "other"]
  d_comings : Dd K mg "comings" s_comings ["room", "hand"]
  d_goings : Dd K mg "goings" s_goings ["room", "hand"]
  d_doors_in : Dd K mg "doors_in" s_doors_in ["room"]
  d_doors_out : Dd K mg "doors_out" s_doors_out ["room"]
  d_Floor___init__ : ∃ (f : Addr) (fd : FuncData), Fun K "__init__" "Floor.__init__" s_Floor___init__ f fd ∧ Binds K fd ["self", "room"] [] ∧ Mk K C f
  d_Floor_give : ∃ (f : Addr) (fd : FuncData), Fun K "give" "Floor.give" s_Floor_give f fd ∧ Binds K fd ["self", "hand", "thing"] [] ∧ Meth K C "give" f
  d_Floor_ready : ∃ (f : Addr) (fd : FuncData), Fun K "ready" "Floor.ready" s_Floor_ready f fd ∧ Binds K fd ["self"] [] ∧ Meth K C "ready" f
  d_Floor_work : ∃ (f : Addr) (fd : FuncData), Fun K "work" "Floor.work" s_Floor_work f fd ∧ Binds K fd ["self", "hand"] [] ∧ Meth K C "work" f
  d_Floor_made : ∃ (f : Addr) (fd : FuncData), Fun K "made" "Floor.made" s_Floor_made f fd ∧ Binds K fd ["self", "hand"] [] ∧ Meth K C "made" f
  d_Floor_can_work : ∃ (f : Addr) (fd : FuncData), Fun K "can_work" "Floor.can_work" s_Floor_can_work f fd ∧ Binds K fd ["self", "hand"] [] ∧ Meth K C "can_work" f
  d_Floor_sources : ∃ (f : Addr) (fd : FuncData), Fun K "sources" "Floor.sources" s_Floor_sources f fd ∧ Binds K fd ["self", "hand"] [] ∧ Meth K C "sources" f
  d_levels_or_ring : Dd K mg "levels_or_ring" s_levels_or_ring ["many", "steps"]
  d_raise_levels : Dd K mg "raise_levels" s_raise_levels ["levels", "last", "steps"]
  d_ring_behind : Dd K mg "ring_behind" s_ring_behind ["place", "last", "steps"]
  d_work_order : Dd K mg "work_order" s_work_order ["room"]
  d_trays_on : Dd K mg "trays_on" s_trays_on ["room", "way"]
  d_moments_on : Dd K mg "moments_on" s_moments_on ["room", "way"]
  d_beat : Dd K mg "beat" s_beat ["room"]
  d_beat_papers : Dd K mg "beat_papers" s_beat_papers ["room"]
  d_beat_steps : Dd K mg "beat_steps" s_beat_steps ["room", "fraction"]
  d_ring_moments : Dd K mg "ring_moments" s_ring_moments ["room", "way"]
  d_in_least_terms : Dd K mg "in_least_terms" s_in_least_terms ["a", "b"]
  d_worked : Dd K mg "worked" s_worked ["room", "rows"]
  d_work_plan : Dd K mg "work_plan" s_work_plan ["room"]
  d_made_at_bell : Dd K mg "made_at_bell" s_made_at_bell ["room", "plan", "things"]
  d_thing_taken : Dd K mg "thing_taken" s_thing_taken ["belt", "made"]
  d_behind_bell : Dd K mg "behind_bell" s_behind_bell ["room", "made"]
  d_belt_behind_bell : Dd K mg "belt_behind_bell" s_belt_behind_bell ["belt", "made"]
  d_look_shifts : Dd K mg "look_shifts" s_look_shifts ["room", "late", "shifts"]
  d_refuse_shifts : Dd K mg "refuse_shifts" s_refuse_shifts ["word", "at"]
  d_is_shifts : Dd K mg "is_shifts" s_is_shifts ["room", "thing"]
  d_wrong_door : Dd K mg "wrong_door" s_wrong_door ["room", "late", "shifts"]
  d_short_belt : Dd K mg "short_belt" s_short_belt ["room", "shifts"]
  d_waits : Dd K mg "waits" s_waits ["shifts"]
  d_trays_moved : Dd K mg "trays_moved" s_trays_moved ["room", "shifts"]
  d_moved : Dd K mg "moved" s_moved ["room", "late", "shifts", "rows"]
  d_rows_on : Dd K mg "rows_on" s_rows_on ["room", "shifts", "rows"]
  d_taken_at : Dd K mg "taken_at" s_taken_at ["belt", "made", "bell"]
  d_law_flow : Dd K mg "_law_flow" s_law_flow ["_law_script"]
  d_law_pick : Dd K mg "_law_pick" s_law_pick ["_law_flow_here", "_law_many"]
  d_law_thing : Dd K mg "_law_thing" s_law_thing ["_law_flow_here"]
  d_law_needs : Dd K mg "_law_needs" s_law_needs ["_law_rule_here"]
  d_law_rule : Dd K mg "_law_rule" s_law_rule ["_law_flow_here", "_law_most"]
  d_law_shuffled : Dd K mg "_law_shuffled" s_law_shuffled ["_law_flow_here", "_law_some"]
  d_law_hands : Dd K mg "_law_hands" s_law_hands ["_law_flow_here", "_law_many"]
  d_law_room : Dd K mg "_law_room" s_law_room ["_law_flow_here", "_law_most"]
  d_law_rows : Dd K mg "_law_rows" s_law_rows ["_law_flow_here", "_law_room_here", "_law_many"]
  d_law_made_by : Dd K mg "_law_made_by" s_law_made_by ["_law_rule_here", "_law_things"]
  d_law_worked : Dd K mg "_law_worked" s_law_worked ["_law_room_here", "_law_rows_here"]
  d_law_alike : Dd K mg "_law_alike" s_law_alike ["_law_found", "_law_due"]
  d_law_doors : Dd K mg "_law_doors" s_law_doors ["_law_room_here", "_law_word"]
  d_law_moved : Dd K mg "_law_moved" s_law_moved ["_law_room_here", "_law_shifts"]
  d_law_give_all : Dd K mg "_law_give_all" s_law_give_all ["_law_floor", "_law_room_here", "_law_rows_here"]
  d_law_drawn_shifts : Dd K mg "_law_drawn_shifts" s_law_drawn_shifts ["_law_flow_here", "_law_room_here", "_law_late", "_law_many"]
  m_abs : mg "abs" = none
  m_all : mg "all" = none
  m_bool : mg "bool" = none
  m_dict : mg "dict" = none
  m_enumerate : mg "enumerate" = none
  m_int : mg "int" = none
  m_isinstance : mg "isinstance" = none
  m_len : mg "len" = none
  m_list : mg "list" = none
  m_max : mg "max" = none
  m_min : mg "min" = none
  m_range : mg "range" = none
  m_sum : mg "sum" = none
  m_tuple : mg "tuple" = none
  m_zip : mg "zip" = none
  x_in : ∃ aI : Addr, mg "IN_RULE" = some (.ref aI) ∧ ∀ H : Hp, SqT K H aI [.str "in"]
  x_out : ∃ aO : Addr, mg "OUT_RULE" = some (.ref aO) ∧ ∀ H : Hp, SqT K H aO [.str "out"]
  cl : Cls K C
  mgC : mg "Floor" = some (.ref C)
  n_rules : NoAttr K C "rules"
  n_given : NoAttr K C "given"
  n_lying : NoAttr K C "lying"
  n_coming : NoAttr K C "coming"
  n_going : NoAttr K C "going"
  n_done : NoAttr K C "done"

/-! ### heaps -/
def But (f : Addr) (H H' : Hp) : Prop := ∀ b o, H b = some o → b ≠ f → H' b = some o
theorem But.refl {f : Addr} {H : Hp} : But f H H := fun _ _ e _ => e
theorem But.trans {f : Addr} {H H1 H2 : Hp} (a : But f H H1) (b : But f H1 H2) : But f H H2 := fun x o e n => b x o (a x o e n) n
theorem But.upd {f : Addr} {H H1 : Hp} {o : HO} (a : But f H H1) : But f H (upd H1 f o) := fun x u e n => by rw [upd_ne n]; exact a x u e n
theorem But.new {f p : Addr} {H H1 : Hp} {o : HO} (a : But f H H1) (h : H1 p = none) : But f H (L2.upd H1 p o) := fun x u e n => by
  have e1 := a x u e n
  rw [upd_ne (ne_of_none e1 h)]
  exact e1
theorem same_new {H : Hp} {p : Addr} {o : HO} (h : H p = none) : Same H (upd H p o) := fun b u q => by rw [upd_ne (ne_of_none q h)]; exact q
theorem But.same {f : Addr} {H H1 H2 : Hp} (a : But f H H1) (b : Same H1 H2) : But f H H2 := fun x o e n => b x o (a x o e n)
theorem But.seqT {K : PySem.W.Frag} {f a : Addr} {H H1 : Hp} {xs : List V} (b : But f H H1) (h : SqT K H a xs) (n : a ≠ f) : SqT K H1 a xs := by
  rcases h with h | h
  · left
    rcases h with h | ⟨o, h⟩
    · exact .inl (b _ _ h n)
    · exact .inr ⟨o, b _ _ h n⟩
  · exact .inr h
/-- a comprehension without a test -/
theorem yes_in {σ : L2.St} {H : Hp} {A B : Hp → Prop} (h : A H) : tYes σ H (fun b H3 => if b = true then A H3 else B H3) := by
  show (if true = true then A H else B H)
  rw [if_pos rfl]
  exact h
/-! ### the draw -/
/-- the list of the law's draws at f, the script's copy at c -/
def Flow (H : Hp) (f c : Addr) : Prop := ∃ (ns : List Int) (i p q r : Int), H f = some (.lst [.ref c, .int i, .int p, .int q, .int r]) ∧ H c = some (.lst (ns.map V.int)) ∧ 0 ≤ i ∧ 0 ≤ p ∧ 0 ≤ q ∧ q < 2147483647
theorem Flow.new {H : Hp} {f c p : Addr} {o : HO} (h : Flow H f c) (n : H p = none) : Flow (upd H p o) f c := by
  obtain ⟨ns, i, a, q, r, e1, e2, e⟩ := h
  exact ⟨ns, i, a, q, r, same_new n _ _ e1, same_new n _ _ e2, e⟩
theorem Flow.ne {H : Hp} {f c p : Addr} (h : Flow H f c) (n : H p = none) : p ≠ f := by
  obtain ⟨ns, i, a, q, r, e1, _⟩ := h
  exact fun e => by rw [e, e1] at n; cases n
theorem Flow.nec {H : Hp} {f c p : Addr} (h : Flow H f c) (n : H p = none) : p ≠ c := by
  obtain ⟨ns, i, a, q, r, _, e1, _⟩ := h
  exact fun e => by rw [e, e1] at n; cases n
theorem Flow.lst {H : Hp} {f c p : Addr} {o : HO} (h : Flow H f c) (n1 : p ≠ f) (n2 : p ≠ c) : Flow (upd H p o) f c := by
  obtain ⟨ns, i, a, q, r, e1, e2, e⟩ := h
  exact ⟨ns, i, a, q, r, by rw [upd_ne n1.symm]; exact e1, by rw [upd_ne n2.symm]; exact e2, e⟩
theorem Flow.same {H H' : Hp} {f c : Addr} (h : Flow H f c) (s : Same H H') : Flow H' f c := by
  obtain ⟨ns, i, a, q, r, e1, e2, e⟩ := h
  exact ⟨ns, i, a, q, r, s _ _ e1, s _ _ e2, e⟩
theorem Flow.tup {H : Hp} {f c p : Addr} {xs : List V} (h : Flow H f c) (e : H p = some (.tup xs)) : p ≠ f := by
  obtain ⟨ns, i, a, q, r, e1, _⟩ := h
  exact ne_of e e1 (by intro z; cases z)
theorem at_ints {ns : List Int} {i : Int} (h0 : 0 ≤ i) (h1 : i < (ns.length : Int)) : ∃ v : Int, atI (ns.map V.int) i = some (.int v) := by
  have hk : i.toNat < ns.length := by omega
  have ek : i = ((i.toNat : Nat) : Int) := by omega
  have q : atI (ns.map V.int) ((i.toNat : Nat) : Int) = some (.int ns[i.toNat]) := atI_nat (by rw [List.getElem?_map, List.getElem?_eq_getElem hk]; rfl)
  rw [← ek] at q
  exact ⟨_, q⟩
/-- a block by less than it asks -/
theorem PSs.to {X : Cx} {ss : List Stmt} {t : TS} (h : PSs X ss t) (u : TS) (k : ∀ D σ H, u D σ H → t D σ H) : PSs X ss u := ⟨fun pins s σ H D I q => h.run pins s σ H D I (k D σ H q)⟩
theorem if_bl {b : Bool} {A B : Prop} (h1 : b = true → A) (h2 : b = false → B) : if b = true then A else B := by
  cases b
  · rw [if_neg Bool.false_ne_true]; exact h2 rfl
  · rw [if_pos rfl]; exact h1 rfl
/-! ### lists, two by two -/
inductive All2 {α β : Type} (R : α → β → Prop) : List α → List β → Prop
  | nil : All2 R [] []
  | cons {a b as bs} : R a b → All2 R as bs → All2 R (a :: as) (b :: bs)
theorem All2.imp {α β : Type} {R S : α → β → Prop} (h : ∀ a b, R a b → S a b) : ∀ {as bs}, All2 R as bs → All2 S as bs
  | _, _, .nil => .nil
  | _, _, .cons a b => .cons (h _ _ a) (All2.imp h b)
theorem All2.length {α β : Type} {R : α → β → Prop} : ∀ {as bs}, All2 R as bs → as.length = bs.length
  | _, _, .nil => rfl
  | _, _, .cons _ b => congrArg (· + 1) (All2.length b)
theorem All2.snoc {α β : Type} {R : α → β → Prop} {a b} (r : R a b) : ∀ {as bs}, All2 R as bs → All2 R (as ++ [a]) (bs ++ [b])
  | _, _, .nil => .cons r .nil
  | _, _, .cons h t => .cons h (All2.snoc r t)
theorem All2.get {α β : Type} {R : α → β → Prop} {as : List α} {bs : List β} (h : All2 R as bs) : ∀ {i : Nat} {b : β}, bs[i]? = some b → ∃ a, as[i]? = some a ∧ R a b := by
  induction h with
  | nil => intro i b e; cases e
  | cons r t ih =>
    intro i b e
    cases i with
    | zero => cases e; exact ⟨_, rfl, r⟩
    | succ i => exact ih e
theorem All2.getL {α β : Type} {R : α → β → Prop} {as : List α} {bs : List β} (h : All2 R as bs) : ∀ {i : Nat} {a : α}, as[i]? = some a → ∃ b, bs[i]? = some b ∧ R a b := by
  induction h with
  | nil => intro i b e; cases e
  | cons r t ih =>
    intro i b e
    cases i with
    | zero => cases e; exact ⟨_, rfl, r⟩
    | succ i => exact ih e
/-! ### tuples stay -/
def TK (H H' : Hp) : Prop := ∀ b xs, H b = some (.tup xs) → H' b = some (.tup xs)
theorem TK.refl {H : Hp} : TK H H := fun _ _ e => e
theorem TK.trans {H H1 H2 : Hp} (a : TK H H1) (b : TK H1 H2) : TK H H2 := fun x xs e => b x xs (a x xs e)
theorem TK.same {H H' : Hp} (s : Same H H') : TK H H' := fun x xs e => s _ _ e
theorem TK.new {H : Hp} {p : Addr} {o : HO} (n : H p = none) : TK H (upd H p o) := fun x xs e => same_new n _ _ e
theorem TK.lst {H : Hp} {p : Addr} {xs ys : List V} (h : H p = some (.lst xs)) : TK H (upd H p (.lst ys)) := fun x zs e => by
  rw [upd_ne (ne_of e h (by intro z; cases z))]
  exact e
theorem TK.but {H H' : Hp} {f c : Addr} (F : Flow H f c) (b : But f H H') : TK H H' := fun x xs e => b _ _ e (F.tup e)
theorem same_none {H H' : Hp} {p : Addr} (s : Same H H') (n : H' p = none) : H p = none := by
  cases e : H p with
  | none => rfl
  | some o => rw [s _ _ e] at n; cases n
theorem But.none {f p : Addr} {H H' : Hp} (b : But f H H') (n : H' p = Option.none) (h : p ≠ f) : H p = Option.none := by
  cases e : H p with
  | none => rfl
  | some o => rw [b _ _ e h] at n; cases n
theorem But.of {f : Addr} {H H' : Hp} (s : Same H H') : But f H H' := fun _ _ e _ => s _ _ e
/-- a list that was not there is written: what was stays -/
theorem But.own {f p : Addr} {H H1 : Hp} {o : HO} (a : But f H H1) (h : H p = Option.none) : But f H (L2.upd H1 p o) := fun x u e n => by
  rw [upd_ne (ne_of_none e h)]
  exact a x u e n
theorem Same.own {p : Addr} {H H1 : Hp} {o : HO} (a : Same H H1) (h : H p = Option.none) : Same H (L2.upd H1 p o) := fun x u e => by
  rw [upd_ne (ne_of_none e h)]
  exact a x u e
/-! ### loops over any iterator -/
theorem for_it {J : It} {n : Nat} {g : TG} {tb : TS} {D : Ends} {σ : L2.St} {H : Hp} (Pv : Nat → L2.St → Hp → Prop) (h0 : Pv 0 σ H) (go : ∀ i σ H, i < n → Pv i σ H → J.go i H) (st : ∀ σ H, Pv n σ H → J.stop n H)
    (hs : ∀ i x σ H H', i < n → Pv i σ H → J.yld i H x H' → g x σ H' fun σ2 H2 => tb { D with nx := Pv (i + 1), ct := Pv (i + 1), bk := D.nx } σ2 H2) (hd : ∀ σ H, Pv n σ H → D.nx σ H) :
    ∃ W : Nat → Nat → L2.St → Hp → Prop, (∃ m, W 0 m σ H) ∧ ∀ i m σ H, W i m σ H →
      (J.stop i H ∧ D.nx σ H) ∨ (J.go i H ∧ ∃ N : L2.St → Hp → Prop, (∀ σ' H', N σ' H' → ∃ m', m' < m ∧ W (i + 1) m' σ' H') ∧ ∀ x H', J.yld i H x H' → g x σ H' fun σ2 H2 => tb { D with nx := N, ct := N, bk := D.nx } σ2 H2) := by
  refine ⟨fun i m σ H => i + m = n ∧ Pv i σ H, ⟨n, by omega, h0⟩, fun i m σ H ⟨e, p⟩ => ?_⟩
  by_cases k : i < n
  · exact .inr ⟨go i σ H k p, Pv (i + 1), fun σ' H' p' => ⟨m - 1, by omega, by omega, p'⟩, fun x H' y => hs i x σ H H' k p y⟩
  · have z : i = n := by omega
    subst z
    exact .inl ⟨st σ H p, hd σ H p⟩
theorem lc_it {J : It} {n : Nat} {g : TG} {tt : TT} {te : TE} {vs : List Nat} {σ : L2.St} {H1 : Hp} {D : Addr} {Qd : Hp → Prop} (Pv : Nat → Hp → Prop) (h0 : Pv 0 (upd H1 D (.lst []))) (go : ∀ i H, i < n → Pv i H → J.go i H) (st : ∀ H, Pv n H → J.stop n H)
    (hs : ∀ i x H H', i < n → Pv i H → J.yld i H x H' → g x (wipe σ vs) H' fun σ2 H2 => wipe σ2 vs = wipe σ vs ∧ tt σ2 H2 fun b H3 =>
      if b = true then te σ2 H3 fun y H4 => ∃ acc, H4 D = some (.lst acc) ∧ acc.length < sizeLine ∧ Pv (i + 1) (upd H4 D (.lst (acc ++ [y]))) else Pv (i + 1) H3) (hd : ∀ H, Pv n H → Qd H) :
    ∃ W : Nat → Nat → Hp → Prop, (∃ m, W 0 m (upd H1 D (.lst []))) ∧ ∀ i m H, W i m H →
      (J.stop i H ∧ Qd H) ∨ (J.go i H ∧ ∃ Nx : Hp → Prop, (∀ H', Nx H' → ∃ m', m' < m ∧ W (i + 1) m' H') ∧ ∀ x H', J.yld i H x H' → g x (wipe σ vs) H' fun σ2 H2 => wipe σ2 vs = wipe σ vs ∧ tt σ2 H2 fun b H3 =>
        if b = true then te σ2 H3 fun y H4 => ∃ acc, H4 D = some (.lst acc) ∧ acc.length < sizeLine ∧ Nx (upd H4 D (.lst (acc ++ [y]))) else Nx H3) := by
  refine ⟨fun i m H => i + m = n ∧ Pv i H, ⟨n, by omega, h0⟩, fun i m H ⟨e, p⟩ => ?_⟩
  by_cases k : i < n
  · exact .inr ⟨go i H k p, Pv (i + 1), fun H' p' => ⟨m - 1, by omega, by omega, p'⟩, fun x H' y => hs i x H H' k p y⟩
  · have z : i = n := by omega
    subst z
    exact .inl ⟨st H p, hd H p⟩
/-! ### tests -/
theorem if_str {x z : Str} {A B : Prop} (h1 : x = z → A) (h2 : x ≠ z → B) : if decide (V.str x = V.str z) = true then A else B :=
  if_bl (fun e => h1 (V.str.inj (of_decide_eq_true e))) (fun e => h2 (fun q => of_decide_eq_false e (congrArg V.str q)))
theorem inV_strs {x : Str} {zs : List Str} : inV (.str x) (zs.map V.str) = true ↔ x ∈ zs := by
  unfold inV
  induction zs with
  | nil => simp
  | cons z zs ih =>
    rw [List.map_cons, List.any_cons, Bool.or_eq_true, ih, List.mem_cons]
    constructor
    · rintro (h | h)
      · exact .inl (by simpa [eqV] using (show (z == x) = true from h) |> fun k => (eq_of_beq k).symm)
      · exact .inr h
    · rintro (h | h)
      · exact .inl (show (z == x) = true by rw [h]; exact beq_self_eq_true z)
      · exact .inr h
theorem if_in {x : Str} {zs : List Str} {A B : Prop} (h1 : x ∈ zs → A) (h2 : x ∉ zs → B) : if (if false = true then !inV (.str x) (zs.map V.str) else inV (.str x) (zs.map V.str)) = true then A else B := by
  have e : (if false = true then !inV (.str x) (zs.map V.str) else inV (.str x) (zs.map V.str)) = inV (.str x) (zs.map V.str) := if_neg Bool.false_ne_true
  rw [e]
  exact if_bl (fun c => h1 (inV_strs.mp c)) (fun c => h2 (fun k => by rw [inV_strs.mpr k] at c; cases c))
theorem same_seqT {K : PySem.W.Frag} {a : Addr} {H H1 : Hp} {xs : List V} (b : Same H H1) (h : SqT K H a xs) : SqT K H1 a xs := by
  rcases h with h | h
  · left
    rcases h with h | ⟨o, h⟩
    · exact .inl (b _ _ h)
    · exact .inr ⟨o, b _ _ h⟩
  · exact .inr h
theorem little {n : Nat} (h : n ≤ 1000) : n ≤ sizeLine := Nat.le_of_lt (small1000 h)
/-! ### xs[i] op= e -/
def rGetL (K : PySem.W.Frag) : V → V → Hp → VK → Prop := fun o i H Q => ∃ (p : Addr) (xs : List V) (j : Nat) (v : V), o = .ref p ∧ i = .int (j : Nat) ∧ SqL K H p xs ∧ xs[j]? = some v ∧ Q v H
theorem get_list {X : Cx} : PGet X (rGetL X.K) := by
  intro pins st σ H o i ov iv Q J ro ri asked
  obtain ⟨p, xs, j, v, rfl, rfl, hq, hj, now⟩ := asked
  cases ro
  obtain ⟨t, rfl⟩ := ri
  obtain ⟨its, r, pl, hz⟩ := J.list hq
  obtain ⟨u, eu, ru⟩ := r.get hj
  have n1 := (List.getElem?_eq_some_iff.mp hj).1
  have n2 := line63
  exact wpAny_getItem_list pl.isList (by omega) (by omega) (by simpa using eu) ⟨v, H, J, ru, now⟩
/-! ### the same rules, the written part named (so that they fit within comprehensions) -/
section
variable {X : Cx}
theorem ix_listK (K : PySem.W.Frag) (h : X.K = K) : IxR X (rIxL K) := by subst h; exact ix_list
theorem ix_tupK (K : PySem.W.Frag) (h : X.K = K) : IxR X (rIxT K) := by subst h; exact ix_tup
def rLenK (K : PySem.W.Frag) : List V → Hp → VK → Prop := fun xs H Q => ∃ (p : Addr) (ys : List V), xs = [.ref p] ∧ (SqL K H p ys ∨ SqT K H p ys) ∧ Q (.int (ys.length : Nat)) H
theorem call_len_seqK (K : PySem.W.Frag) (h : X.K = K) : CallR X (.builtin "len") (rLenK K) := by subst h; exact call_len_seq
def rListOfK (K : PySem.W.Frag) : List V → Hp → VK → Prop := fun xs H Q => ∃ (p : Addr) (ys : List V), xs = [.ref p] ∧ (SqL K H p ys ∨ SqT K H p ys) ∧ ∀ l, H l = none → Q (.ref l) (upd H l (.lst ys))
theorem call_list_ofK (K : PySem.W.Frag) (h : X.K = K) : CallR X (.type "list") (rListOfK K) := by subst h; exact call_list_of
def rTupOfK (K : PySem.W.Frag) : List V → Hp → VK → Prop := fun xs H Q => ∃ (p : Addr) (ys : List V), xs = [.ref p] ∧ ((SqL K H p ys ∧ ∀ l, H l = none → Q (.ref l) (upd H l (.tup ys))) ∨ (SqT K H p ys ∧ Q (.ref p) H))
theorem call_tuple_ofK (K : PySem.W.Frag) (h : X.K = K) : CallR X (.type "tuple") (rTupOfK K) := by subst h; exact call_tuple_of
theorem op_in_seqK (K : PySem.W.Frag) (h : X.K = K) : OpR X (compareOp .In) (rIn K false) := by subst h; exact op_in_seq
theorem op_notIn_seqK (K : PySem.W.Frag) (h : X.K = K) : OpR X (compareOp .NotIn) (rIn K true) := by subst h; exact op_notIn_seq
theorem sl_listK (K : PySem.W.Frag) (h : X.K = K) : SlR X (rSlL K) := by subst h; exact sl_list
theorem sl_tupAK (K : PySem.W.Frag) (h : X.K = K) : SlR X (rSlA K) := by subst h; exact sl_tupA
theorem op_eqDK (K : PySem.W.Frag) (h : X.K = K) (hu : X.A.units + 64 < cLine) : OpR X (compareOp .Eq) (rEqD K) := by subst h; exact op_eqD hu
theorem op_neDK (K : PySem.W.Frag) (h : X.K = K) (hu : X.A.units + 64 < cLine) : OpR X (compareOp .NotEq) (rNeD K) := by subst h; exact op_neD hu
theorem call_isiKK (K : PySem.W.Frag) (h : X.K = K) : CallR X (.builtin "isinstance") (rIsi K) := by subst h; exact call_isi
theorem cr_allK (K : PySem.W.Frag) (h : X.K = K) (hc : X.calm = true) : CallR X (.builtin "all") (rAll K) := by subst h; exact cr_all hc
theorem cr_anyK (K : PySem.W.Frag) (h : X.K = K) (hc : X.calm = true) : CallR X (.builtin "any") (rAny K) := by subst h; exact cr_any hc
theorem cr_minKK (K : PySem.W.Frag) (h : X.K = K) (hc : X.calm = true) : CallR X (.builtin "min") (rMin K) := by subst h; exact cr_min hc
theorem cr_maxKK (K : PySem.W.Frag) (h : X.K = K) (hc : X.calm = true) : CallR X (.builtin "max") (rMax K) := by subst h; exact cr_max hc
def tTruK (K : PySem.W.Frag) (ta : TE) : TT := fun σ H Q => ta σ H fun x H' => ∃ k, TruV K x H' k ∧ Q k H'
theorem pt_truthK (K : PySem.W.Frag) (h : X.K = K) {a : Expr} {ta : TE} (ha : PE X a ta) (he : ∀ whole, isTrue a X.env whole = (do let v ← whole; standAt a.pos; holding [v] (truthy v))) : PT X a (tTruK K ta) := by subst h; exact pt_truth ha he
theorem get_listK (K : PySem.W.Frag) (h : X.K = K) : PGet X (rGetL K) := by subst h; exact get_list
theorem pg_tupK (K : PySem.W.Frag) (h : X.K = K) {es : List Expr} {k n : Nat} {t : TGs} {pos : Pos} (hc : X.calm = true) (g : PGs X es t)
    (hn : (assignEach es X.env).length = n := by rfl) (hst : (assignEach es X.env).findIdx? (·.1) = none := by rfl) : PG X (.Tuple es k pos) (gTup K n t) := by subst h; exact pg_tup hc g hn hst
theorem pg_unlK (K : PySem.W.Frag) (h : X.K = K) {es : List Expr} {k n : Nat} {t : TGs} {pos : Pos} (hc : X.calm = true) (g : PGs X es t)
    (hn : (assignEach es X.env).length = n := by rfl) (hst : (assignEach es X.env).findIdx? (·.1) = none := by rfl) : PG X (.Tuple es k pos) (gUnl K n t) := by subst h; exact pg_unl hc g hn hst
theorem pi_listK (K : PySem.W.Frag) (h : X.K = K) {tg e : Expr} {te : TE} (he : PE X e te) : PI X tg e (iList K te) := by subst h; exact pi_list he
theorem pi_tupK (K : PySem.W.Frag) (h : X.K = K) {tg e : Expr} {te : TE} (he : PE X e te) : PI X tg e (iTup K te) := by subst h; exact pi_tup he
theorem pe_revLK (K : PySem.W.Frag) (h : X.K = K) {e : Expr} {te : TE} {k : Nat} {p1 p2 p3 pos : Pos} (he : PE X e te) : PE X (.Subscript e (.Slice none none (some (.UnaryOp .USub (.Constant (.int 1) k p1) p2)) p3) pos) (tRevL K te) := by subst h; exact pe_revL he
theorem pe_bmK (K : PySem.W.Frag) (h : X.K = K) {o e : Expr} {es : List Expr} {to : TE} {t : TA} {name : Str} {apos cpos : Pos} {T id : String} {r : V → List V → Hp → VK → Prop}
    (pa : PlainAttrs T) (slot : Slot T name id) (hty : typeOf (.builtin id) = pure (.type "method_descriptor")) (hm : MtR X id r) (ho : PE X o to) (ha : PA X (e :: es) t)
    (n1 : attributeBase o name X.env (eval o X.env) = eval o X.env := by rfl)
    (n2 : ((backTo cpos (starEach (e :: es) X.env)).all (fun x => !x.1) && (backToKw cpos (keywordEach [] X.env)).all (fun x => x.1.isSome) && decide ((e :: es).length + ([] : List Keyword).length + (if ([] : List Keyword).isEmpty then 0 else 1) < 30)) = true := by rfl)
    (n3 : (apos.endLine == cpos.line) = true := by rfl) (n4 : starEach (e :: es) X.env = (false, eval e X.env) :: starEach es X.env := by rfl) (n5 : (backTo cpos (starEach es X.env)).any (·.1) = false := by rfl) :
    PE X (.Call (.Attribute o name apos) (e :: es) [] cpos) (tBM K T r to t) := by subst h; exact pe_bm pa slot hty hm ho ha n1 n2 n3 n4 n5
theorem pe_bm0K (K : PySem.W.Frag) (h : X.K = K) {o : Expr} {to : TE} {name : Str} {apos cpos : Pos} {T id : String} {r : V → List V → Hp → VK → Prop}
    (pa : PlainAttrs T) (slot : Slot T name id) (hty : typeOf (.builtin id) = pure (.type "method_descriptor")) (hm : MtR X id r) (ho : PE X o to)
    (n1 : attributeBase o name X.env (eval o X.env) = eval o X.env := by rfl) (n3 : (apos.endLine == cpos.line) = true := by rfl) : PE X (.Call (.Attribute o name apos) [] [] cpos) (tBM0 K T r to) := by subst h; exact pe_bm0 pa slot hty hm ho n1 n3
theorem op_catAK (K : PySem.W.Frag) (h : X.K = K) : OpR X (binaryOp .Add) (rCatA K) := by subst h; exact op_catA
theorem call_isiTK (K : PySem.W.Frag) (h : X.K = K) : CallR X (.builtin "isinstance") (rIsiT K) := by subst h; exact call_isiT
theorem pi_zipAK (K : PySem.W.Frag) (h : X.K = K) {e e2 : Expr} {ta : TA} {p pos tpos : Pos} {elts : List Expr} {kk : Nat} (hg : Gl X "zip") (hm : X.mg "zip" = none) (ha : PA X [e, e2] ta)
    (hs : starEach [e, e2] X.env = (false, eval e X.env) :: starEach [e2] X.env := by rfl) (hpl : (backTo pos (starEach [e2] X.env)).any (·.1) = false := by rfl) :
    PI X (.Tuple elts kk tpos) (.Call (.Name "zip" p) [e, e2] [] pos) (RZ.iZipA K ta) := by subst h; exact RZ.pi_zipA hg hm ha hs hpl
theorem pi_or {tg e : Expr} {t1 t2 : TI} (h1 : PI X tg e t1) (h2 : PI X tg e t2) : PI X tg e (fun σ H R => t1 σ H R ∨ t2 σ H R) := ⟨fun pins s σ H R I h => h.elim (h1.run pins s σ H R I) (h2.run pins s σ H R I)⟩
theorem pe_fldK (K : PySem.W.Frag) (h : X.K = K) {e : Expr} {ta : TE} {f : Str} {pos : Pos} (he : PE X e ta) (hb : attributeBase e f X.env (eval e X.env) = eval e X.env) : PE X (.Attribute e f pos) (tFld K ta f) := by subst h; exact pe_fld he hb
theorem ps_fldK (K : PySem.W.Frag) (h : X.K = K) {o value : Expr} {ta tv : TE} {f : Str} {pos pos' : Pos} (ha : PE X o ta) (hv : PE X value tv) (hs : swapsWith value (some (.Attribute o f pos')) pos.line X.env = pure false) : PS X (.Assign [.Attribute o f pos'] value pos) (sFld K ta tv f) := by subst h; exact ps_fld ha hv hs
theorem ps_fldaugK (K : PySem.W.Frag) (h : X.K = K) {o value : Expr} {ta tv : TE} {f : Str} {pos tpos : Pos} {op : Operator} {rd : V → V → Hp → VK → Prop} (ha : PE X o ta) (hv : PE X value tv) (hop : InOp X op rd) : PS X (.AugAssign (.Attribute o f tpos) op value pos) (sFldAug K ta tv rd f) := by subst h; exact ps_fldaug ha hv hop
end
section
variable {X : Cx}
theorem cr_sumK (K : PySem.W.Frag) (h : X.K = K) (hc : X.calm = true) : CallR X (.builtin "sum") (rSum K) := by subst h; exact cr_sum hc
end
section
variable {X : Cx}
theorem op_ltTK (K : PySem.W.Frag) (h : X.K = K) (hu : X.A.units < cLine) : OpR X (compareOp .Lt) (rLtT K) := by subst h; exact op_ltT hu
end
section
variable {X : Cx}
theorem cr_sortedRevK (K : PySem.W.Frag) (h : X.K = K) {b : Bool} : CallRK X (.builtin "sorted") [Str.ofString "reverse"] (rSortedKw K b [.bl b]) := by subst h; exact cr_sortedRev
theorem op_inDK (K : PySem.W.Frag) (h : X.K = K) (hu : X.A.units + 65 < cLine) : OpR X (compareOp .In) (rInD K) := by subst h; exact op_inD hu
end
theorem hu65 {A : Around} {k : Nat} (hr : Room k A) : A.units + 65 < cLine := by have := hr.un; omega
section
variable {X : Cx}
/-- x not in t, t a tuple of data of any depth -/
def rNotInDT (K : PySem.W.Frag) : R2 := fun x y H Q => ∃ d ds, Dp K H x d ∧ Dp K H y (.tuple ds) ∧ SeqAt.shaped d = true ∧ SeqAt.shaped (.tuple ds) = true ∧ Q (.bl (!ds.any fun z => PyData.eqv z d)) H
theorem op_notInDTK (K : PySem.W.Frag) (same : X.K = K) (room : X.A.units + 65 < cLine) : OpR X (compareOp .NotIn) (rNotInDT K) := by
  subst same
  intro pins st σ H one many ov mv Q J ro rm asked
  have ⟨d, ds, dpO, dpM, shO, shM, done⟩ := asked
  have ⟨_, readO⟩ := Dp.reads J d one ov dpO ro
  have ⟨_, readM⟩ := Dp.reads J (.tuple ds) many mv dpM rm
  exact SeqAt.notIn_tuple_reads readM readO (SeqAt.canLay_of_shaped shM) (SeqAt.canLay_of_shaped shO) (room_in_shaped shO room) ⟨.bl _, H, J, rfl, done⟩
end
/-! ### for x, y in zip(t, l), t a tuple, l a list -/
def IzTL (K : PySem.W.Frag) (a b : Addr) (xs ys : List V) : It :=
  ⟨fun i H => SqT K H a xs ∧ SqL K H b ys ∧ i < xs.length ∧ i < ys.length, fun i H v H' => ∃ T x y, v = .ref T ∧ H T = none ∧ H' = upd H T (.tup [x, y]) ∧ xs[i]? = some x ∧ ys[i]? = some y, fun i H => SqT K H a xs ∧ SqL K H b ys ∧ i ≤ xs.length ∧ i ≤ ys.length ∧ (i = xs.length ∨ i = ys.length)⟩
theorem turn_zipTL {P : Program} {w : World} {K : PySem.W.Frag} {elts : List Expr} {kk : Nat} {tpos : Pos} {a b z TI TO i1 i2 : Addr} (S : ZipSep2 z TI TO i1 i2 [i1, a] [i2, b]) (na : a ≠ i1) (nb : b ≠ i2) (xs ys : List V) :
    Turn P w K (.Tuple elts kk tpos) (IzTL K a b xs ys) [z, TI, TO, i1, i2] z (fun i h => IsZip h z TI TO .none ∧ IsTupOf2 h TI (.ref i1) (.ref i2) ∧ (∃ x y, IsTupOf2 h TO x y) ∧ h.IsTupleIter i1 a i ∧ h.IsListIter i2 b i) where
  mem := by simp
  obj := fun i h stt c hc => by
    obtain ⟨hz, hI, ⟨x, y, hO⟩, ⟨o1, e1, _, d1⟩, ⟨o2, e2, _, d2⟩⟩ := stt
    have any : c = z ∨ c = TI ∨ c = TO ∨ c = i1 ∨ c = i2 := by simpa using hc
    rcases any with q | q | q | q | q <;> subst q
    · exact ⟨_, hz, fun v q => nomatch q⟩
    · exact ⟨_, hI, fun v q => nomatch q⟩
    · exact ⟨_, hO, fun v q => nomatch q⟩
    · exact ⟨o1, e1, fun v q => by rw [d1] at q; cases q⟩
    · exact ⟨o2, e2, fun v q => by rw [d2] at q; cases q⟩
  keep := fun i h h' stt k => by
    obtain ⟨hz, hI, ⟨x, y, hO⟩, k1, k2⟩ := stt
    exact ⟨k z (by simp) _ hz, k TI (by simp) _ hI, ⟨x, y, k TO (by simp) _ hO⟩, k1.at fun o q => k i1 (by simp) o q, k2.at fun o q => k i2 (by simp) o q⟩
  item := by
    intro X hP hw hK hc i pins st σ H E J hf stt going
    subst hP hw hK
    obtain ⟨hz, hI, ⟨x0, y0, hO⟩, k1, k2⟩ := stt
    obtain ⟨hq1, hq2, l1, l2⟩ := going
    obtain ⟨its, rv, tup, _⟩ := J.tuple hq1
    obtain ⟨its2, rv2, lst, _⟩ := J.list hq2
    have len1 := rv.length
    have len2 := rv2.length
    have zl : z < st.heap.objs.size := Heap.lt_size hz
    have D1 := Draws.tuple (prog := X.prog) (w := X.w) (A := X.A.in1) (J.ok.hd hc) i1 a na its.toArray
    have D2 := Draws.list (prog := X.prog) (w := X.w) (A := X.A.in1) (J.ok.hd hc) i2 b nb its2.toArray
    refine wpAny_pyNext_zipD2_item S D1 D2 hz hI hO ⟨k1, tup⟩ ⟨k2, lst.isList⟩ (by rw [List.size_toArray]; omega) (by rw [List.size_toArray]; omega) fun u1 u2 h' tk p1 p2 out hO' s1 s2 new size kp => ?_
    refine ⟨_, rfl, wpAny_letOwnedTupleGo_zip (s := { st with heap := h', toks := tk }) out fun h'' out' sb => ?_⟩
    obtain ⟨x, hx⟩ : ∃ x, xs[i]? = some x := ⟨_, List.getElem?_eq_getElem l1⟩
    obtain ⟨y, hy⟩ : ∃ y, ys[i]? = some y := ⟨_, List.getElem?_eq_getElem l2⟩
    obtain ⟨w1, hw1, r1⟩ := rv.get hx
    obtain ⟨w2, hw2, r2⟩ := rv2.get hy
    have e1 : w1 = u1 := by
      have p1 : its.toArray[i]? = some u1 := p1
      rw [List.getElem?_toArray, hw1] at p1
      exact Option.some.inj p1
    have e2 : w2 = u2 := by
      have p2 : its2.toArray[i]? = some u2 := p2
      rw [List.getElem?_toArray, hw2] at p2
      exact Option.some.inj p2
    subst e1 e2
    have there : h''.get? st.heap.objs.size = some { cls := .type "tuple", data := .seq #[w1, w2] } := (sb.2 _ (Nat.ne_of_gt zl)).trans new
    have good : ObjOk X.prog X.w (upd H st.heap.objs.size (.tup [x, y])) h'' st.heap.objs.size (.tup [x, y]) :=
      ⟨by show 2 ≤ sizeLine; decide, [w1, w2], .cons r1 (.cons r2 .nil), ⟨_, there, rfl, _, rfl⟩⟩
    have J1 : Inv X pins σ (upd H st.heap.objs.size (.tup [x, y])) { st with heap := h'', toks := tk } :=
      J.turnedNew (ch := [z, TI, TO, i1, i2]) (fun c o hb q => (sb.2 c (fun q' => hb (by simp [q']))).trans (kp c o (fun q' => hb (by simp [q'])) (fun q' => hb (by simp [q'])) (fun q' => hb (by simp [q'])) (fun q' => hb (by simp [q'])) q)) hf (Nat.le_refl _) good
    have i1z : i1 ≠ z := fun q => S.zf1 (by simp [q])
    have i2z : i2 ≠ z := fun q => S.zf2 (by simp [q])
    refine ⟨.ref st.heap.objs.size, _, J1, rfl, ⟨_, x, y, rfl, J.hok.fresh (Nat.le_refl _), rfl, hx, hy⟩, ⟨out', ?_, ⟨w1, w2, ?_⟩, ?_, ?_⟩, fun c hcm => ?_⟩
    · exact (sb.2 _ S.TIz).trans (kp _ _ S.TIz S.TITO S.TIi1 S.TIi2 hI)
    · exact (sb.2 _ S.TOz).trans hO'
    · exact s1.1.at fun o q => (sb.2 _ i1z).trans q
    · exact s2.1.at fun o q => (sb.2 _ i2z).trans q
    · have low : c < st.heap.objs.size := by
        have any : c = z ∨ c = TI ∨ c = TO ∨ c = i1 ∨ c = i2 := by simpa using hcm
        rcases any with q | q | q | q | q
        · rw [q]; exact zl
        · rw [q]; exact Heap.lt_size hI
        · rw [q]; exact Heap.lt_size hO
        · rw [q]; obtain ⟨_, q1, _⟩ := k1; exact Heap.lt_size q1
        · rw [q]; obtain ⟨_, q2, _⟩ := k2; exact Heap.lt_size q2
      rw [upd_ne (Nat.ne_of_lt low)]
      exact (hf c hcm).1
  done := by
    intro X hP hw hK hc i pins st σ H E J hf stt over
    subst hP hw hK
    obtain ⟨hz, hI, ⟨x0, y0, hO⟩, k1, k2⟩ := stt
    obtain ⟨hq1, hq2, l1, l2, fin⟩ := over
    obtain ⟨its, rv, tup, _⟩ := J.tuple hq1
    obtain ⟨its2, rv2, lst, _⟩ := J.list hq2
    have len1 := rv.length
    have len2 := rv2.length
    have D1 := Draws.tuple (prog := X.prog) (w := X.w) (A := X.A.in1) (J.ok.hd hc) i1 a na its.toArray
    have D2 := Draws.list (prog := X.prog) (w := X.w) (A := X.A.in1) (J.ok.hd hc) i2 b nb its2.toArray
    refine wpAny_pyNext_zipD2_end S D1 D2 hz hI hO ⟨k1, tup⟩ ⟨k2, lst.isList⟩ (by rw [List.size_toArray]; omega) (by rw [List.size_toArray]; omega) (by rw [List.size_toArray, List.size_toArray]; omega) fun h' tk kp => ⟨rfl, ?_⟩
    exact J.turnedL (t' := tk) (ch := [z, TI, TO, i1, i2]) (fun c o hb q => kp c o (fun q' => hb (by simp [q'])) (fun q' => hb (by simp [q'])) (fun q' => hb (by simp [q'])) (fun q' => hb (by simp [q'])) q) hf
  self := fun A i st Q E stt now => wpAny_pyIter_zip stt.1 now
def iZipTL (K : PySem.W.Frag) (ta : TA) : TI := fun σ H R => ta σ H fun vs H1 => ∃ a b xs ys, vs = [.ref a, .ref b] ∧ SqT K H1 a xs ∧ SqL K H1 b ys ∧ R (IzTL K a b xs ys) H1
theorem pi_zipTL (K : PySem.W.Frag) {X : Cx} (hk : X.K = K) {e e2 : Expr} {ta : TA} {p pos tpos : Pos} {elts : List Expr} {kk : Nat} (hg : Gl X "zip") (hm : X.mg "zip" = none) (ha : PA X [e, e2] ta)
    (hs : starEach [e, e2] X.env = (false, eval e X.env) :: starEach [e2] X.env := by rfl) (hpl : (backTo pos (starEach [e2] X.env)).any (·.1) = false := by rfl) : PI X (.Tuple elts kk tpos) (.Call (.Name "zip" p) [e, e2] [] pos) (iZipTL K ta) := by
  subst hk
  refine ⟨fun pins st σ H R J asked => ?_⟩
  refine Call_ (ld_blt J hg hm PyProof.Rows.boot_zip (PyProof.Rows.callWith_type1 (thn (ha.run pos pins st σ H _ J asked) fun us st1 ⟨vs, H1, J1, rel, now⟩ => ?_) hs hpl))
  obtain ⟨a, b, xs, ys, ex, hq1, hq2, now⟩ := now
  subst ex
  obtain ⟨u1, u2, rfl, r1, r2⟩ := vals2 rel
  obtain rfl : u1 = Value.ref a := r1
  obtain rfl : u2 = Value.ref b := r2
  obtain ⟨its, rv, tup, _⟩ := J1.tuple hq1
  obtain ⟨its2, rv2, lst, _⟩ := J1.list hq2
  have al : a < st1.heap.objs.size := by obtain ⟨o, ho, _⟩ := id tup; exact Heap.lt_size ho
  have bl : b < st1.heap.objs.size := by obtain ⟨o, ho, _⟩ := id lst.isList; exact Heap.lt_size ho
  refine zip_begins2 (begins_tuple a its.toArray) (begins_list b its2.toArray) tup lst.isList fun h' hz hI hO g1 g2 size kp => wpAny_pyIter_zip hz ?_
  have J2 : Inv X pins σ H1 { st1 with heap := h' } := J1.kept (t' := st1.toks) kp
  generalize hn : st1.heap.objs.size = n at *
  have S : ZipSep2 (n + 4) (n + 2) (n + 3) n (n + 1) [n, a] [n + 1, b] :=
    zip_sep2 (fun c hc => by rw [List.mem_singleton.mp hc]; exact al) (fun c hc => by rw [List.mem_singleton.mp hc]; exact bl)
  refine ⟨n + 4, [n + 4, n + 2, n + 3, n, n + 1], _, _, H1, rfl, J2, turn_zipTL S (Nat.ne_of_lt al) (Nat.ne_of_lt (Nat.lt_succ_of_lt bl)) xs ys, ⟨hz, hI, ⟨_, _, hO⟩, ⟨_, g1, rfl, rfl⟩, ⟨_, g2, rfl, rfl⟩⟩, fun c hcm => ?_, now⟩
  have low : n ≤ c := by
    have any : c = n + 4 ∨ c = n + 2 ∨ c = n + 3 ∨ c = n ∨ c = n + 1 := by simpa using hcm
    rcases any with q | q | q | q | q <;> rw [q]
    · exact Nat.le_add_right ..
    · exact Nat.le_add_right ..
    · exact Nat.le_add_right ..
    · exact Nat.le_refl _
    · exact Nat.le_add_right ..
  rw [← hn] at low
  exact J1.fpOk low (J1.hok.fresh low)
/-! ### for x, y in zip(l, t), l a list, t a tuple -/
def IzLT (K : PySem.W.Frag) (a b : Addr) (xs ys : List V) : It :=
  ⟨fun i H => SqL K H a xs ∧ SqT K H b ys ∧ i < xs.length ∧ i < ys.length, fun i H v H' => ∃ T x y, v = .ref T ∧ H T = none ∧ H' = upd H T (.tup [x, y]) ∧ xs[i]? = some x ∧ ys[i]? = some y, fun i H => SqL K H a xs ∧ SqT K H b ys ∧ i ≤ xs.length ∧ i ≤ ys.length ∧ (i = xs.length ∨ i = ys.length)⟩
theorem turn_zipLT {P : Program} {w : World} {K : PySem.W.Frag} {elts : List Expr} {kk : Nat} {tpos : Pos} {a b z TI TO i1 i2 : Addr} (S : ZipSep2 z TI TO i1 i2 [i1, a] [i2, b]) (na : a ≠ i1) (nb : b ≠ i2) (xs ys : List V) :
    Turn P w K (.Tuple elts kk tpos) (IzLT K a b xs ys) [z, TI, TO, i1, i2] z (fun i h => IsZip h z TI TO .none ∧ IsTupOf2 h TI (.ref i1) (.ref i2) ∧ (∃ x y, IsTupOf2 h TO x y) ∧ h.IsListIter i1 a i ∧ h.IsTupleIter i2 b i) where
  mem := by simp
  obj := fun i h stt c hc => by
    obtain ⟨hz, hI, ⟨x, y, hO⟩, ⟨o1, e1, _, d1⟩, ⟨o2, e2, _, d2⟩⟩ := stt
    have any : c = z ∨ c = TI ∨ c = TO ∨ c = i1 ∨ c = i2 := by simpa using hc
    rcases any with q | q | q | q | q <;> subst q
    · exact ⟨_, hz, fun v q => nomatch q⟩
    · exact ⟨_, hI, fun v q => nomatch q⟩
    · exact ⟨_, hO, fun v q => nomatch q⟩
    · exact ⟨o1, e1, fun v q => by rw [d1] at q; cases q⟩
    · exact ⟨o2, e2, fun v q => by rw [d2] at q; cases q⟩
  keep := fun i h h' stt k => by
    obtain ⟨hz, hI, ⟨x, y, hO⟩, k1, k2⟩ := stt
    exact ⟨k z (by simp) _ hz, k TI (by simp) _ hI, ⟨x, y, k TO (by simp) _ hO⟩, k1.at fun o q => k i1 (by simp) o q, k2.at fun o q => k i2 (by simp) o q⟩
  item := by
    intro X hP hw hK hc i pins st σ H E J hf stt going
    subst hP hw hK
    obtain ⟨hz, hI, ⟨x0, y0, hO⟩, k1, k2⟩ := stt
    obtain ⟨hq1, hq2, l1, l2⟩ := going
    obtain ⟨its, rv, lst, _⟩ := J.list hq1
    obtain ⟨its2, rv2, tup, _⟩ := J.tuple hq2
    have len1 := rv.length
    have len2 := rv2.length
    have zl : z < st.heap.objs.size := Heap.lt_size hz
    have D1 := Draws.list (prog := X.prog) (w := X.w) (A := X.A.in1) (J.ok.hd hc) i1 a na its.toArray
    have D2 := Draws.tuple (prog := X.prog) (w := X.w) (A := X.A.in1) (J.ok.hd hc) i2 b nb its2.toArray
    refine wpAny_pyNext_zipD2_item S D1 D2 hz hI hO ⟨k1, lst.isList⟩ ⟨k2, tup⟩ (by rw [List.size_toArray]; omega) (by rw [List.size_toArray]; omega) fun u1 u2 h' tk p1 p2 out hO' s1 s2 new size kp => ?_
    refine ⟨_, rfl, wpAny_letOwnedTupleGo_zip (s := { st with heap := h', toks := tk }) out fun h'' out' sb => ?_⟩
    obtain ⟨x, hx⟩ : ∃ x, xs[i]? = some x := ⟨_, List.getElem?_eq_getElem l1⟩
    obtain ⟨y, hy⟩ : ∃ y, ys[i]? = some y := ⟨_, List.getElem?_eq_getElem l2⟩
    obtain ⟨w1, hw1, r1⟩ := rv.get hx
    obtain ⟨w2, hw2, r2⟩ := rv2.get hy
    have e1 : w1 = u1 := by
      have p1 : its.toArray[i]? = some u1 := p1
      rw [List.getElem?_toArray, hw1] at p1
      exact Option.some.inj p1
    have e2 : w2 = u2 := by
      have p2 : its2.toArray[i]? = some u2 := p2
      rw [List.getElem?_toArray, hw2] at p2
      exact Option.some.inj p2
    subst e1 e2
    have there : h''.get? st.heap.objs.size = some { cls := .type "tuple", data := .seq #[w1, w2] } := (sb.2 _ (Nat.ne_of_gt zl)).trans new
    have good : ObjOk X.prog X.w (upd H st.heap.objs.size (.tup [x, y])) h'' st.heap.objs.size (.tup [x, y]) :=
      ⟨by show 2 ≤ sizeLine; decide, [w1, w2], .cons r1 (.cons r2 .nil), ⟨_, there, rfl, _, rfl⟩⟩
    have J1 : Inv X pins σ (upd H st.heap.objs.size (.tup [x, y])) { st with heap := h'', toks := tk } :=
      J.turnedNew (ch := [z, TI, TO, i1, i2]) (fun c o hb q => (sb.2 c (fun q' => hb (by simp [q']))).trans (kp c o (fun q' => hb (by simp [q'])) (fun q' => hb (by simp [q'])) (fun q' => hb (by simp [q'])) (fun q' => hb (by simp [q'])) q)) hf (Nat.le_refl _) good
    have i1z : i1 ≠ z := fun q => S.zf1 (by simp [q])
    have i2z : i2 ≠ z := fun q => S.zf2 (by simp [q])
    refine ⟨.ref st.heap.objs.size, _, J1, rfl, ⟨_, x, y, rfl, J.hok.fresh (Nat.le_refl _), rfl, hx, hy⟩, ⟨out', ?_, ⟨w1, w2, ?_⟩, ?_, ?_⟩, fun c hcm => ?_⟩
    · exact (sb.2 _ S.TIz).trans (kp _ _ S.TIz S.TITO S.TIi1 S.TIi2 hI)
    · exact (sb.2 _ S.TOz).trans hO'
    · exact s1.1.at fun o q => (sb.2 _ i1z).trans q
    · exact s2.1.at fun o q => (sb.2 _ i2z).trans q
    · have low : c < st.heap.objs.size := by
        have any : c = z ∨ c = TI ∨ c = TO ∨ c = i1 ∨ c = i2 := by simpa using hcm
        rcases any with q | q | q | q | q
        · rw [q]; exact zl
        · rw [q]; exact Heap.lt_size hI
        · rw [q]; exact Heap.lt_size hO
        · rw [q]; obtain ⟨_, q1, _⟩ := k1; exact Heap.lt_size q1
        · rw [q]; obtain ⟨_, q2, _⟩ := k2; exact Heap.lt_size q2
      rw [upd_ne (Nat.ne_of_lt low)]
      exact (hf c hcm).1
  done := by
    intro X hP hw hK hc i pins st σ H E J hf stt over
    subst hP hw hK
    obtain ⟨hz, hI, ⟨x0, y0, hO⟩, k1, k2⟩ := stt
    obtain ⟨hq1, hq2, l1, l2, fin⟩ := over
    obtain ⟨its, rv, lst, _⟩ := J.list hq1
    obtain ⟨its2, rv2, tup, _⟩ := J.tuple hq2
    have len1 := rv.length
    have len2 := rv2.length
    have D1 := Draws.list (prog := X.prog) (w := X.w) (A := X.A.in1) (J.ok.hd hc) i1 a na its.toArray
    have D2 := Draws.tuple (prog := X.prog) (w := X.w) (A := X.A.in1) (J.ok.hd hc) i2 b nb its2.toArray
    refine wpAny_pyNext_zipD2_end S D1 D2 hz hI hO ⟨k1, lst.isList⟩ ⟨k2, tup⟩ (by rw [List.size_toArray]; omega) (by rw [List.size_toArray]; omega) (by rw [List.size_toArray, List.size_toArray]; omega) fun h' tk kp => ⟨rfl, ?_⟩
    exact J.turnedL (t' := tk) (ch := [z, TI, TO, i1, i2]) (fun c o hb q => kp c o (fun q' => hb (by simp [q'])) (fun q' => hb (by simp [q'])) (fun q' => hb (by simp [q'])) (fun q' => hb (by simp [q'])) q) hf
  self := fun A i st Q E stt now => wpAny_pyIter_zip stt.1 now
def iZipLT (K : PySem.W.Frag) (ta : TA) : TI := fun σ H R => ta σ H fun vs H1 => ∃ a b xs ys, vs = [.ref a, .ref b] ∧ SqL K H1 a xs ∧ SqT K H1 b ys ∧ R (IzLT K a b xs ys) H1
theorem pi_zipLT (K : PySem.W.Frag) {X : Cx} (hk : X.K = K) {e e2 : Expr} {ta : TA} {p pos tpos : Pos} {elts : List Expr} {kk : Nat} (hg : Gl X "zip") (hm : X.mg "zip" = none) (ha : PA X [e, e2] ta)
    (hs : starEach [e, e2] X.env = (false, eval e X.env) :: starEach [e2] X.env := by rfl) (hpl : (backTo pos (starEach [e2] X.env)).any (·.1) = false := by rfl) : PI X (.Tuple elts kk tpos) (.Call (.Name "zip" p) [e, e2] [] pos) (iZipLT K ta) := by
  subst hk
  refine ⟨fun pins st σ H R J asked => ?_⟩
  refine Call_ (ld_blt J hg hm PyProof.Rows.boot_zip (PyProof.Rows.callWith_type1 (thn (ha.run pos pins st σ H _ J asked) fun us st1 ⟨vs, H1, J1, rel, now⟩ => ?_) hs hpl))
  obtain ⟨a, b, xs, ys, ex, hq1, hq2, now⟩ := now
  subst ex
  obtain ⟨u1, u2, rfl, r1, r2⟩ := vals2 rel
  obtain rfl : u1 = Value.ref a := r1
  obtain rfl : u2 = Value.ref b := r2
  obtain ⟨its, rv, lst, _⟩ := J1.list hq1
  obtain ⟨its2, rv2, tup, _⟩ := J1.tuple hq2
  have al : a < st1.heap.objs.size := by obtain ⟨o, ho, _⟩ := id lst.isList; exact Heap.lt_size ho
  have bl : b < st1.heap.objs.size := by obtain ⟨o, ho, _⟩ := id tup; exact Heap.lt_size ho
  refine zip_begins2 (begins_list a its.toArray) (begins_tuple b its2.toArray) lst.isList tup fun h' hz hI hO g1 g2 size kp => wpAny_pyIter_zip hz ?_
  have J2 : Inv X pins σ H1 { st1 with heap := h' } := J1.kept (t' := st1.toks) kp
  generalize hn : st1.heap.objs.size = n at *
  have S : ZipSep2 (n + 4) (n + 2) (n + 3) n (n + 1) [n, a] [n + 1, b] :=
    zip_sep2 (fun c hc => by rw [List.mem_singleton.mp hc]; exact al) (fun c hc => by rw [List.mem_singleton.mp hc]; exact bl)
  refine ⟨n + 4, [n + 4, n + 2, n + 3, n, n + 1], _, _, H1, rfl, J2, turn_zipLT S (Nat.ne_of_lt al) (Nat.ne_of_lt (Nat.lt_succ_of_lt bl)) xs ys, ⟨hz, hI, ⟨_, _, hO⟩, ⟨_, g1, rfl, rfl⟩, ⟨_, g2, rfl, rfl⟩⟩, fun c hcm => ?_, now⟩
  have low : n ≤ c := by
    have any : c = n + 4 ∨ c = n + 2 ∨ c = n + 3 ∨ c = n ∨ c = n + 1 := by simpa using hcm
    rcases any with q | q | q | q | q <;> rw [q]
    · exact Nat.le_add_right ..
    · exact Nat.le_add_right ..
    · exact Nat.le_add_right ..
    · exact Nat.le_refl _
    · exact Nat.le_add_right ..
  rw [← hn] at low
  exact J1.fpOk low (J1.hok.fresh low)
/-! ### for i, x in enumerate(t), t a tuple -/
section
open Sem (wp)
open AutoSeq1 (wpAny_loadPart')
theorem enum_of_tup (t : Addr) (its : Array Value) (n : Nat) (dct : Option Addr) (sl : Array (Option Value)) :
    Meets (Builtin.«enumerate.__new__» ⟨[.type "enumerate", .ref t], []⟩) (fun _ R st => st.heap.get? t = some { cls := .type "tuple", dict := dct, data := .seq its n, slots := sl } ∧
      R (.ok (.ret (.ref (st.heap.push { cls := .type "tuple_iterator", data := .fields #[.ref t, .int 0 0] }).objs.size)))
        { st with heap := (st.heap.push { cls := .type "tuple_iterator", data := .fields #[.ref t, .int 0 0] }).push { cls := .type "enumerate", data := .fields #[.none, .bool false, .ref st.heap.objs.size, rawInt 0, .none, .none] } }) :=
  .of_wp fun prog w A R st asked => by
    obtain ⟨hp, g, d, tk, os⟩ := st; obtain ⟨at_, asked⟩ := asked
    have sub := sub_enumerate
    have hT : Heap.IsTuple (Shared.heap ⟨hp, g, d, tk, os⟩) t its := ⟨_, at_, rfl, n, rfl⟩
    wp_walk using wpAny_loadPart' at_
    refine wpAny_stack_any fun stk => wpAny_pure ?_
    split
    · rename_i c _ _ _ _ _
      cases (c == Value.type "enumerate")
      · wp_walk using wpAny_loadPart' at_, wpAny_pyIter_tuple hT
        exact ⟨_, rfl, asked⟩
      · wp_walk using wpAny_loadPart' at_, wpAny_pyIter_tuple hT
        exact ⟨_, rfl, asked⟩
    · wp_walk using wpAny_loadPart' at_, wpAny_pyIter_tuple hT
      exact ⟨_, rfl, asked⟩
theorem call_enum_tup {prog : Program} {w : World} {A : Around} {E : Value → Shared → Prop} {st : Shared} {t : Addr} {its : Array Value} {Q : Value → Shared → Prop} (hT : st.heap.IsTuple t its)
    (now : ∀ h', IsEnum h' (st.heap.objs.size + 1) st.heap.objs.size 0 .none → h'.IsTupleIter st.heap.objs.size t 0 → h'.objs.size = st.heap.objs.size + 2 →
      (∀ b o, st.heap.get? b = some o → h'.get? b = some o) → Q (.ref (st.heap.objs.size + 1)) { st with heap := h' }) :
    wpAny (model prog w) A (call (.type "enumerate") [.ref t]) Q E st := by
  obtain ⟨⟨c, dct, dt, sl⟩, at_, hc, n, hd⟩ := hT
  replace hc : c = .type "tuple" := hc
  replace hd : dt = .seq its n := hd
  subst hc hd
  refine callType_new F.called_enumerate (by decide) (F.typeCall_enumerate_1 _) (F.newCall_enumerate_1 _) (fun obj => F.args_object_init_2 obj _) F.entry_enumerate_new (enum_of_tup t its n dct sl) ⟨at_, ?_⟩
  have size1 : (st.heap.push { cls := .type "tuple_iterator", data := .fields #[.ref t, .int 0 0] }).objs.size = st.heap.objs.size + 1 := Heap.size_push ..
  show _ ∧ _
  rw [size1]
  have made := Heap.get?_push_size (st.heap.push { cls := .type "tuple_iterator", data := .fields #[.ref t, .int 0 0] }) (o := { cls := .type "enumerate", data := .fields #[.none, .bool false, .ref st.heap.objs.size, rawInt 0, .none, .none] }) rfl
  rw [size1] at made
  exact ⟨⟨_, made, rfl⟩, now _ made ⟨_, Heap.get?_push_of_some _ (Heap.get?_push_size _ rfl), rfl, rfl⟩ (by rw [Heap.size_push, size1]) fun b o e => Heap.get?_push_of_some _ (Heap.get?_push_of_some _ e)⟩
end
/-- the tuple at a, each item in a new pair -/
def IteT (K : PySem.W.Frag) (a : Addr) (xs : List V) : It :=
  ⟨fun i H => SqT K H a xs ∧ i < xs.length, fun i H v H' => ∃ T x, v = .ref T ∧ H T = none ∧ H' = upd H T (.tup [.int (i : Nat), x]) ∧ xs[i]? = some x, fun i H => SqT K H a xs ∧ i = xs.length⟩
theorem turn_enumT {P : Program} {w : World} {K : PySem.W.Frag} {elts : List Expr} {kk : Nat} {tpos : Pos} (a e it : Addr) (xs : List V) :
    Turn P w K (.Tuple elts kk tpos) (IteT K a xs) [e, it] e (fun i h => (∃ old, IsEnum h e it ((i : Nat) : Int) old) ∧ h.IsTupleIter it a i ∧ e ≠ it ∧ a ≠ it ∧ a ≠ e) where
  mem := by simp
  obj := fun i h st b hb => by
    obtain ⟨⟨old, he⟩, ⟨o, ho, hc, hd⟩, _⟩ := st
    have either : b = e ∨ b = it := by simpa using hb
    rcases either with z | z
    · rw [z]; exact ⟨_, he, fun v q => nomatch q⟩
    · rw [z]; exact ⟨o, ho, fun v q => by rw [hd] at q; cases q⟩
  keep := fun i h h' st k => let ⟨⟨old, he⟩, hi, apart⟩ := st; ⟨⟨old, k e (by simp) _ he⟩, hi.at fun o q => k it (by simp) o q, apart⟩
  item := by
    intro X hP hw hK hc i pins st σ H E J hf stt going
    subst hP hw hK
    obtain ⟨⟨old, he⟩, hit, n1, n2, n3⟩ := stt
    obtain ⟨hq, hi⟩ := going
    obtain ⟨its, rv, tup, hz⟩ := J.tuple hq
    have len := rv.length
    have el : e < st.heap.objs.size := Heap.lt_size he
    have il : it < st.heap.objs.size := by obtain ⟨_, q, _⟩ := hit; exact Heap.lt_size q
    have D := Draws.tuple (prog := X.prog) (w := X.w) (A := X.A.in1) (J.ok.hd hc) it a n2 its.toArray
    refine wpAny_pyNext_enum_itemD D he ⟨hit, tup⟩ (by rw [List.size_toArray]; omega) n1 (by simp [n1, n3.symm]) fun u h' tk px out stt' new size kp => ?_
    refine ⟨_, rfl, wpAny_letOwnedTupleGo_enum (s := { st with heap := h', toks := tk + 1 }) out fun h'' he' sb => ?_⟩
    obtain ⟨x, hx⟩ : ∃ x, xs[i]? = some x := ⟨_, List.getElem?_eq_getElem hi⟩
    obtain ⟨u', hu', ru⟩ := rv.get hx
    have eu : u' = u := by
      have px : its.toArray[i]? = some u := px
      rw [List.getElem?_toArray, hu'] at px
      exact Option.some.inj px
    subst eu
    have there : h''.get? st.heap.objs.size = some { cls := .type "tuple", data := .seq #[.int i tk, u'] } := (sb.2 _ (Nat.ne_of_gt el)).trans new
    have ok2 : ObjOk X.prog X.w (upd H st.heap.objs.size (.tup [.int (i : Nat), x])) h'' st.heap.objs.size (.tup [.int (i : Nat), x]) :=
      ⟨by show 2 ≤ sizeLine; decide, [.int i tk, u'], .cons ⟨_, rfl⟩ (.cons ru .nil), ⟨_, there, rfl, _, rfl⟩⟩
    have J1 : Inv X pins σ (upd H st.heap.objs.size (.tup [.int (i : Nat), x])) { st with heap := h'', toks := tk + 1 } :=
      J.turnedNew (ch := [e, it]) (fun b ob hb q => (sb.2 b (fun z => hb (by simp [z]))).trans (kp b ob (fun z => hb (by simp [z])) (fun z => hb (by simp [z])) q)) hf (Nat.le_refl _) ok2
    refine ⟨.ref st.heap.objs.size, _, J1, rfl, ⟨_, x, rfl, J.hok.fresh (Nat.le_refl _), rfl, hx⟩, ⟨⟨u', ?_⟩, stt'.1.at fun o q => (sb.2 it (Ne.symm n1)).trans q, n1, n2, n3⟩, fun b hb => ?_⟩
    · rw [show ((i + 1 : Nat) : Int) = (i : Int) + 1 by omega]
      exact he'
    · have bl : b < st.heap.objs.size := by
        have either : b = e ∨ b = it := by simpa using hb
        rcases either with z | z
        · rw [z]; exact el
        · rw [z]; exact il
      rw [upd_ne (Nat.ne_of_lt bl)]
      exact (hf b hb).1
  done := by
    intro X hP hw hK hc i pins st σ H E J hf stt over
    subst hP hw hK
    obtain ⟨⟨old, he⟩, hit, n1, n2, n3⟩ := stt
    obtain ⟨hq, hi⟩ := over
    obtain ⟨its, rv, tup, hz⟩ := J.tuple hq
    obtain ⟨f0, f1, f2, f3, f4, f5⟩ := hf it (by simp)
    have len := rv.length
    have D := Draws.tuple (prog := X.prog) (w := X.w) (A := X.A.in1) (J.ok.hd hc) it a n2 its.toArray
    have ei : its.toArray.size = i := by rw [List.size_toArray]; omega
    exact wpAny_pyNext_enum_endD D he ⟨by rw [ei]; exact hit, tup⟩ fun h' eb => ⟨rfl, J.turned (t' := st.toks) (fun b o hb q => eb b o hb q) f0 f1 f3 f4 f5⟩
  self := fun A i st Q E stt now => let ⟨⟨_, he⟩, _⟩ := stt; wpAny_pyIter_enum he now
def iEnumT (K : PySem.W.Frag) (ta : TA) : TI := fun σ H R => ta σ H fun vs H1 => ∃ a xs, vs = [.ref a] ∧ SqT K H1 a xs ∧ R (IteT K a xs) H1
theorem pi_enumT (K : PySem.W.Frag) {X : Cx} (hk : X.K = K) {e : Expr} {ta : TA} {p pos tpos : Pos} {elts : List Expr} {kk : Nat} (hg : Gl X "enumerate") (hm : X.mg "enumerate" = none) (ha : PA X [e] ta) (hs : starEach [e] X.env = [(false, eval e X.env)] := by rfl) :
    PI X (.Tuple elts kk tpos) (.Call (.Name "enumerate" p) [e] [] pos) (iEnumT K ta) := by
  subst hk
  refine ⟨fun pins st σ H R J asked => ?_⟩
  refine Call_ (ld_blt J hg hm boot_enumerate (PyProof.Rows.callWith_type1 (thn (ha.run pos pins st σ H _ J asked) fun us st1 ⟨vs, H1, J1, rel, now⟩ => ?_) hs rfl))
  obtain ⟨a, xs, ex, hq, now⟩ := now
  subst ex
  obtain ⟨u, rfl, ru⟩ := vals1 rel
  obtain rfl : u = Value.ref a := ru
  obtain ⟨its, rv, tup, hz⟩ := J1.tuple hq
  have al : a < st1.heap.objs.size := by obtain ⟨o, ho, _⟩ := tup; exact Heap.lt_size ho
  refine call_enum_tup tup fun h' he hit size kp => wpAny_pyIter_enum he ?_
  have J2 : Inv X pins σ H1 { st1 with heap := h' } := J1.kept (t' := st1.toks) kp
  refine ⟨st1.heap.objs.size + 1, [st1.heap.objs.size + 1, st1.heap.objs.size], _, _, H1, rfl, J2, turn_enumT a (st1.heap.objs.size + 1) st1.heap.objs.size xs, ⟨⟨.none, he⟩, hit, Nat.succ_ne_self _, Nat.ne_of_lt al, Nat.ne_of_lt (Nat.lt_succ_of_lt al)⟩, fun b hb => ?_, now⟩
  have either : b = st1.heap.objs.size + 1 ∨ b = st1.heap.objs.size := by simpa using hb
  have low : st1.heap.objs.size ≤ b := by
    rcases either with z | z
    · rw [z]; exact Nat.le_add_right _ _
    · rw [z]; exact Nat.le_refl _
  exact J1.fpOk low (J1.hok.fresh low)
/-! ### dict(zip(xs, ys)), xs a list, ys a tuple -/
section
open Sem (wp)
variable {prog : Program} {w : World} {A : Around} {E : Value → Shared → Prop} {st : Shared} {z TI TO T i1 i2 : Addr} {fp1 fp2 : List Addr} {n1 n2 i : Nat} {P1 P2 : Nat → Value → Prop} {S1 S2 : Nat → Heap → Prop} {f : Bool} {oT : Obj}
theorem out_next (S : ZipSep2 z TI TO i1 i2 fp1 fp2) (D1 : Draws prog w A i1 fp1 n1 P1 S1) (D2 : Draws prog w A i2 fp2 n2 P2 S2) {Q : Value → Shared → Prop}
    (out : IsZipHeld st.heap z TI TO T f) (hT : st.heap.get? T = some oT) (both : IsTupOf2 st.heap TI (.ref i1) (.ref i2)) (at1 : S1 i st.heap) (at2 : S2 i st.heap) (l1 : i < n1) (l2 : i < n2)
    (now : ∀ x y h' tk, P1 i x → P2 i y → IsZipHeld h' z TI TO T true → S1 (i + 1) h' → S2 (i + 1) h' → IsTupOf2 h' st.heap.objs.size x y → (∀ c o, c ≠ z → c ≠ i1 → c ≠ i2 → st.heap.get? c = some o → h'.get? c = some o) → Q (.ref st.heap.objs.size) { st with heap := h', toks := tk }) :
    wpAny (model prog w) A (Builtin.«zip.__next__» ⟨[.ref z], []⟩) (fun fin s' => ∃ v, fin = .done (.ret v) ∧ Q v s') E st := by
  obtain ⟨hp, g, d, tk0, os⟩ := st
  show wpAny _ _ (field (.ref z) 2 >>= _) _ _ _; refine wpAny_bind (wpAny_field out rfl (x := .bool false) rfl ?_)
  show wpAny _ _ (field (.ref z) 3 >>= _) _ _ _; refine wpAny_bind (wpAny_field out rfl (x := .ref TI) rfl ?_)
  refine wpAny_bind (wpAny_seqItems both rfl ?_); show wpAny _ _ (Builtin.SmallTypes.ownedTupleIsFree (.ref z) >>= _) _ _ _
  refine wpAny_bind (wpAny_tupleHeld_zip out hT fun g1 out1 b1 => ?_)
  replace b1 : Heap.SameBut z hp g1 := b1
  simp only [Bool.false_eq_true, if_false]; refine wpAny_bind ?_; rw [← Array.forIn_toList]; simp only [List.forIn_cons, List.forIn_nil]
  refine wpAny_bind (wpAny_bind (wpAny_holding ?_)); show wpAny _ _ (Builtin.SmallTypes.nextOf (.ref i1) >>= _) _ _ ⟨g1, g, d, tk0, os⟩
  refine wpAny_bind (D1.item i _ _ _ l1 (D1.over at1 b1 S.zf1) fun x g2 tk1 px n1' b2 => wpAny_pure ?_)
  replace b2 : Heap.SameBut i1 g1 g2 := b2
  refine wpAny_pure ?_; refine wpAny_bind (wpAny_bind (wpAny_holding ?_)); show wpAny _ _ (Builtin.SmallTypes.nextOf (.ref i2) >>= _) _ _ ⟨g2, g, d, tk1, os⟩
  refine wpAny_bind (D2.item i _ _ _ l2 (D2.over (D2.over at2 b1 S.zf2) b2 S.sep1_2) fun y g3 tk2 py n2' b3 => wpAny_pure ?_)
  replace b3 : Heap.SameBut i2 g2 g3 := b3
  refine wpAny_pure (wpAny_pure ?_); show wpAny _ _ (newTuple [x, y] >>= _) _ _ ⟨g3, g, d, tk2, os⟩
  refine wpAny_bind (wpAny_newTuple ?_); refine wpAny_pure ⟨_, rfl, ?_⟩
  have size : g3.objs.size = hp.objs.size := by rw [b3.1, b2.1, b1.1]
  have out3 : IsZipHeld g3 z TI TO T true := b3.extBut _ _ S.zi2 (b2.extBut _ _ S.zi1 out1)
  have new : IsTupOf2 (g3.push { cls := .type "tuple", data := .seq #[x, y] }) g3.objs.size x y := Heap.get?_push_size _ rfl
  show Q (.ref g3.objs.size) _
  rw [size] at new ⊢
  exact now x y _ tk2 px py (Heap.get?_push_of_some _ out3) (D1.frame _ _ _ (D1.over n1' b3 S.sep2_1) fun _ _ _ q => Heap.get?_push_of_some _ q) (D2.frame _ _ _ n2' fun _ _ _ q => Heap.get?_push_of_some _ q) new
    fun c o c1 c2 c3 q => Heap.get?_push_of_some _ (b3.extBut _ _ c3 (b2.extBut _ _ c2 (b1.extBut _ _ c1 q)))
theorem out_end (S : ZipSep2 z TI TO i1 i2 fp1 fp2) (D1 : Draws prog w A i1 fp1 n1 P1 S1) (D2 : Draws prog w A i2 fp2 n2 P2 S2) {Q : Fin → Shared → Prop}
    (out : IsZipHeld st.heap z TI TO T f) (hT : st.heap.get? T = some oT) (both : IsTupOf2 st.heap TI (.ref i1) (.ref i2)) (at1 : S1 i st.heap) (at2 : S2 i st.heap) (l1 : i ≤ n1) (l2 : i ≤ n2) (last : i = n1 ∨ i = n2)
    (now : ∀ h' tk e, (∀ c o, c ≠ z → c ≠ i1 → c ≠ i2 → st.heap.get? c = some o → h'.get? c = some o) → (∃ o, h'.get? e = some o ∧ o.cls = .type "StopIteration") → E (.ref e) { st with heap := h', toks := tk }) :
    wpAny (model prog w) A (Builtin.«zip.__next__» ⟨[.ref z], []⟩) Q E st := by
  obtain ⟨hp, g, d, tk0, os⟩ := st
  show wpAny _ _ (field (.ref z) 2 >>= _) _ _ _; refine wpAny_bind (wpAny_field out rfl (x := .bool false) rfl ?_)
  show wpAny _ _ (field (.ref z) 3 >>= _) _ _ _; refine wpAny_bind (wpAny_field out rfl (x := .ref TI) rfl ?_)
  refine wpAny_bind (wpAny_seqItems both rfl ?_); show wpAny _ _ (Builtin.SmallTypes.ownedTupleIsFree (.ref z) >>= _) _ _ _
  refine wpAny_bind (wpAny_tupleHeld_zip out hT fun g1 out1 b1 => ?_)
  replace b1 : Heap.SameBut z hp g1 := b1
  simp only [Bool.false_eq_true, if_false]; refine wpAny_bind ?_; rw [← Array.forIn_toList]; simp only [List.forIn_cons, List.forIn_nil]
  refine wpAny_bind (wpAny_bind (wpAny_holding ?_)); show wpAny _ _ (Builtin.SmallTypes.nextOf (.ref i1) >>= _) _ _ ⟨g1, g, d, tk0, os⟩
  by_cases more : i < n1
  · refine wpAny_bind (D1.item i _ _ _ more (D1.over at1 b1 S.zf1) fun x g2 tk1 px n1' b2 => wpAny_pure ?_)
    replace b2 : Heap.SameBut i1 g1 g2 := b2
    refine wpAny_pure ?_; refine wpAny_bind (wpAny_bind (wpAny_holding ?_)); show wpAny _ _ (Builtin.SmallTypes.nextOf (.ref i2) >>= _) _ _ ⟨g2, g, d, tk1, os⟩
    have e2 : i = n2 := by omega
    subst e2
    refine wpAny_bind (D2.done _ _ _ (D2.over (D2.over at2 b1 S.zf2) b2 S.sep1_2) fun g3 e b3 he => ?_)
    exact now g3 tk1 e (fun c o c1 c2 c3 q => b3 _ _ c3 (b2.extBut _ _ c2 (b1.extBut _ _ c1 q))) he
  · have e1 : i = n1 := by omega
    subst e1
    refine wpAny_bind (D1.done _ _ _ (D1.over at1 b1 S.zf1) fun g3 e b3 he => ?_)
    exact now g3 tk0 e (fun c o c1 c2 c3 q => b3 _ _ c2 (b1.extBut _ _ c1 q)) he
theorem out_pyNext (S : ZipSep2 z TI TO i1 i2 fp1 fp2) (D1 : Draws prog w A.in1 i1 fp1 n1 P1 S1) (D2 : Draws prog w A.in1 i2 fp2 n2 P2 S2) {Q : Option Value → Shared → Prop}
    (out : IsZipHeld st.heap z TI TO T f) (hT : st.heap.get? T = some oT) (both : IsTupOf2 st.heap TI (.ref i1) (.ref i2)) (at1 : S1 i st.heap) (at2 : S2 i st.heap) (l1 : i < n1) (l2 : i < n2)
    (now : ∀ x y h' tk, P1 i x → P2 i y → IsZipHeld h' z TI TO T true → S1 (i + 1) h' → S2 (i + 1) h' → IsTupOf2 h' st.heap.objs.size x y → (∀ c o, c ≠ z → c ≠ i1 → c ≠ i2 → st.heap.get? c = some o → h'.get? c = some o) → Q (some (.ref st.heap.objs.size)) { st with heap := h', toks := tk }) :
    wpAny (model prog w) A (pyNext (.ref z)) Q E st := by
  have ty : st.TypeIs (.ref z) "zip" := ⟨_, out, rfl⟩
  unfold pyNext
  refine wpAny_bind (wpAny_attempt (wpAny_callSpecial?_slot (name := Str.ofString "__next__") ty F.slot_zip_next (wpAny_call_entry F.slot_zip_next ty F.entry_zip_next (out_next S D1 D2 out hT both at1 at2 l1 l2 ?_) (F.args_zip_next_1 _))))
  exact fun x y h' tk a b c d e g k => wpAny_pure (now x y h' tk a b c d e g k)
theorem out_pyNext_end (S : ZipSep2 z TI TO i1 i2 fp1 fp2) (D1 : Draws prog w A.in1 i1 fp1 n1 P1 S1) (D2 : Draws prog w A.in1 i2 fp2 n2 P2 S2) {Q : Option Value → Shared → Prop}
    (out : IsZipHeld st.heap z TI TO T f) (hT : st.heap.get? T = some oT) (both : IsTupOf2 st.heap TI (.ref i1) (.ref i2)) (at1 : S1 i st.heap) (at2 : S2 i st.heap) (l1 : i ≤ n1) (l2 : i ≤ n2) (last : i = n1 ∨ i = n2)
    (now : ∀ h' tk, (∀ c o, c ≠ z → c ≠ i1 → c ≠ i2 → st.heap.get? c = some o → h'.get? c = some o) → Q none { st with heap := h', toks := tk }) :
    wpAny (model prog w) A (pyNext (.ref z)) Q E st := by
  have ty : st.TypeIs (.ref z) "zip" := ⟨_, out, rfl⟩
  unfold pyNext
  refine wpAny_bind (wpAny_attempt (wpAny_callSpecial?_slot (name := Str.ofString "__next__") ty F.slot_zip_next (wpAny_call_entry F.slot_zip_next ty F.entry_zip_next (out_end S D1 D2 out hT both at1 at2 l1 l2 last ?_) (F.args_zip_next_1 _))))
  rintro h' tk e kp ⟨o, ho, hc⟩
  exact wpAny_bind (wpAny_isInstance (T := "StopIteration") (b := true) ⟨o, ho, hc⟩ isSubtype_stop (wpAny_pure (now _ _ kp)))
/-- the zip of the list l and the tuple t, begun -/
def ZipLT (h : Heap) (z TI TO i1 i2 l t : Addr) (xs ys : Array Value) (n : Nat) : Prop := IsTupOf2 h TI (.ref i1) (.ref i2) ∧ (h.IsListIter i1 l n ∧ h.IsList l xs) ∧ (h.IsTupleIter i2 t n ∧ h.IsTuple t ys)
theorem ZipLT.keep {h h' : Heap} {z TI TO i1 i2 l t : Addr} {xs ys : Array Value} {n : Nat} (q : ZipLT h z TI TO i1 i2 l t xs ys n) (k : ∀ b, b = TI ∨ b = i1 ∨ b = i2 ∨ b = l ∨ b = t → ∀ o, h.get? b = some o → h'.get? b = some o) : ZipLT h' z TI TO i1 i2 l t xs ys n :=
  ⟨k _ (.inl rfl) _ q.1, ⟨q.2.1.1.at fun o e => k _ (.inr (.inl rfl)) o e, q.2.1.2.at fun o e => k _ (.inr (.inr (.inr (.inl rfl)))) o e⟩, ⟨q.2.2.1.at fun o e => k _ (.inr (.inr (.inl rfl))) o e, q.2.2.2.at fun o e => k _ (.inr (.inr (.inr (.inr rfl)))) o e⟩⟩
theorem pairs_LT (z TI TO i1 i2 l t : Addr) (S : ZipSep2 z TI TO i1 i2 [i1, l] [i2, t]) (hl : l ≠ i1) (ht : t ≠ i2) (xs ys : Array Value) :
    PairArg prog w "zip" z [z, TI, TO, i1, i2, l, t] [z, TO, i1, i2] (min xs.size ys.size) (fun i k v => xs[i]? = some k ∧ ys[i]? = some v)
      (fun h => IsZip h z TI TO .none ∧ (∃ a b, IsTupOf2 h TO a b) ∧ ZipLT h z TI TO i1 i2 l t xs ys 0) where
  type := fun s ok => ⟨_, ok.1, rfl⟩
  notDict := by decide
  keep := fun h h' ok k => by
    obtain ⟨a1, ⟨a, b, a2⟩, a3⟩ := ok
    exact ⟨k _ _ a1, ⟨a, b, k _ _ a2⟩, a3.keep fun b _ o e => k b o e⟩
  there := fun h ok b hb => by
    obtain ⟨a1, ⟨a, c, a2⟩, a3, ⟨⟨o1, e1, _⟩, ⟨o2, e2, _⟩⟩, ⟨⟨o3, e3, _⟩, ⟨o4, e4, _⟩⟩⟩ := ok
    have either : b = z ∨ b = TI ∨ b = TO ∨ b = i1 ∨ b = i2 ∨ b = l ∨ b = t := by simpa using hb
    rcases either with q | q | q | q | q | q | q <;> subst q
    · exact ⟨_, a1⟩
    · exact ⟨_, a3⟩
    · exact ⟨_, a2⟩
    · exact ⟨_, e1⟩
    · exact ⟨_, e3⟩
    · exact ⟨_, e2⟩
    · exact ⟨_, e4⟩
  sub := fun b hb => by
    have either : b = z ∨ b = TO ∨ b = i1 ∨ b = i2 := by simpa using hb
    rcases either with q | q | q | q <;> subst q <;> simp
  noKeys := fun A s Q E hA ok now => getAttrOr_miss_zip ok.1 rfl rfl rfl zip_no_keys (by decide +kernel) hA now
  iter := fun A s d Q E hA ok dlt dfar now => by
    obtain ⟨a1, ⟨a, b, a2⟩, a3⟩ := ok
    have far : d ≠ z ∧ d ≠ TI ∧ d ≠ TO ∧ d ≠ i1 ∧ d ≠ i2 ∧ d ≠ l ∧ d ≠ t := by simpa using dfar
    obtain ⟨d1, d2, d3, d4, d5, d6, d7⟩ := far
    have D1 := Draws.list (prog := prog) (w := w) (A := A.in1) hA i1 l hl xs
    have D2 := Draws.tuple (prog := prog) (w := w) (A := A.in1) hA i2 t ht ys
    refine wpAny_pyIter_zip a1 (now z [z, TO, i1, i2] (fun n h => ZipLT h z TI TO i1 i2 l t xs ys n ∧ ((IsZip h z TI TO .none ∧ ∃ a b, IsTupOf2 h TO a b) ∨ ∃ T f oT, IsZipHeld h z TI TO T f ∧ h.get? T = some oT ∧ T ≠ z ∧ T ≠ i1 ∧ T ≠ i2 ∧ T ≠ d)) s.heap s.toks ?_ ⟨a3, .inl ⟨a1, a, b, a2⟩⟩ (fun _ _ e => e) fun b hb => .inl hb)
    refine ⟨fun hm => ?_, fun n h h' q k => ?_, fun n s1 Q1 E1 hn q dl now1 => ?_, fun s1 Q1 E1 q now1 => ?_⟩
    · have either : d = z ∨ d = TO ∨ d = i1 ∨ d = i2 := by simpa using hm
      rcases either with q | q | q | q
      · exact d1 q
      · exact d3 q
      · exact d4 q
      · exact d5 q
    · refine ⟨q.1.keep fun b hb o e => k b o (fun y => ?_) e, ?_⟩
      · rcases hb with q | q | q | q | q <;> rw [q] at y
        · exact d2 y.symm
        · exact d4 y.symm
        · exact d5 y.symm
        · exact d6 y.symm
        · exact d7 y.symm
      · rcases q.2 with ⟨q1, a, b, q2⟩ | ⟨T, f, oT, q1, q2, r1, r2, r3, r4⟩
        · exact .inl ⟨k _ _ (Ne.symm d1) q1, a, b, k _ _ (Ne.symm d3) q2⟩
        · exact .inr ⟨T, f, oT, k _ _ (Ne.symm d1) q1, k _ _ r4 q2, r1, r2, r3, r4⟩
    · obtain ⟨⟨both, at1, at2⟩, q⟩ := q
      have m1 : n < xs.size := Nat.lt_of_lt_of_le hn (Nat.min_le_left ..)
      have m2 : n < ys.size := Nat.lt_of_lt_of_le hn (Nat.min_le_right ..)
      have lt : ∀ {c o}, s1.heap.get? c = some o → s1.heap.objs.size ≠ c := fun e => Nat.ne_of_gt (Heap.lt_size e)
      have j1 : s1.heap.objs.size ≠ i1 := let ⟨_, e⟩ := D1.live _ _ at1; lt e
      have j2 : s1.heap.objs.size ≠ i2 := let ⟨_, e⟩ := D2.live _ _ at2; lt e
      rcases q with ⟨q1, a, b, q2⟩ | ⟨T, f, oT, q1, q2, r1, r2, r3, r4⟩
      · refine wpAny_pyNext_zipD2_item S D1 D2 q1 both q2 at1 at2 m1 m2 fun x y h' tk px py b1 b2 b3 b4 b5 b6 k => ?_
        exact now1 s1.heap.objs.size x y h' tk ⟨px, py⟩ (.inl ⟨_, b5, rfl, _, rfl⟩) ⟨⟨k _ _ S.TIz S.TITO S.TIi1 S.TIi2 both, b3, b4⟩, .inr ⟨_, false, _, b1, b5, lt q1, j1, j2, Nat.ne_of_gt dl⟩⟩
          fun c o hc e => k c o (fun y => hc (by simp [y])) (fun y => hc (by simp [y])) (fun y => hc (by simp [y])) (fun y => hc (by simp [y])) e
      · refine out_pyNext S D1 D2 q1 q2 both at1 at2 m1 m2 fun x y h' tk px py b1 b3 b4 b5 k => ?_
        exact now1 s1.heap.objs.size x y h' tk ⟨px, py⟩ (.inl ⟨_, b5, rfl, _, rfl⟩) ⟨⟨k _ _ S.TIz S.TIi1 S.TIi2 both, b3, b4⟩, .inr ⟨T, true, oT, b1, k _ _ r1 r2 r3 q2, r1, r2, r3, r4⟩⟩
          fun c o hc e => k c o (fun y => hc (by simp [y])) (fun y => hc (by simp [y])) (fun y => hc (by simp [y])) e
    · obtain ⟨⟨both, at1, at2⟩, q⟩ := q
      rcases q with ⟨q1, a, b, q2⟩ | ⟨T, f, oT, q1, q2, r1, r2, r3, r4⟩
      · exact wpAny_pyNext_zipD2_end S D1 D2 q1 both q2 at1 at2 (Nat.min_le_left ..) (Nat.min_le_right ..) (by omega) fun h' tk k => now1 h' tk fun c o hc e => k c o (fun y => hc (by simp [y])) (fun y => hc (by simp [y])) (fun y => hc (by simp [y])) (fun y => hc (by simp [y])) e
      · exact out_pyNext_end S D1 D2 q1 q2 both at1 at2 (Nat.min_le_left ..) (Nat.min_le_right ..) (by omega) fun h' tk k => now1 h' tk fun c o hc e => k c o (fun y => hc (by simp [y])) (fun y => hc (by simp [y])) (fun y => hc (by simp [y])) e
end
/-- dict(zip(e1, e2)): keys from a list, values from a tuple -/
def eDictZip (K : PySem.W.Frag) (ta : TA) : TE := fun σ H Q => ta σ H fun vs H1 => ∃ (a b : Addr) (ks : List Key) (xs : List V), vs = [.ref a, .ref b] ∧ SqL K H1 a (ks.map kV) ∧ SqT K H1 b xs ∧ ∀ p, H1 p = none → Q (.ref p) (upd H1 p (.dK (mergeK [] (ks.zip xs))))
theorem pe_dictZip (K : PySem.W.Frag) {X : Cx} (hk : X.K = K) (hcalm : X.calm = true) {e e2 : Expr} {ta : TA} {p p2 pos pos2 : Pos} (hd : Gl X "dict") (md : X.mg "dict" = none) (hg : Gl X "zip") (hm : X.mg "zip" = none) (ha : PA X [e, e2] ta)
    (hs : starEach [e, e2] X.env = (false, eval e X.env) :: starEach [e2] X.env := by rfl) (hpl : (backTo pos2 (starEach [e2] X.env)).any (·.1) = false := by rfl)
    (hs1 : starEach [.Call (.Name "zip" p2) [e, e2] [] pos2] X.env = [(false, eval (.Call (.Name "zip" p2) [e, e2] [] pos2) X.env)] := by rfl) :
    PE X (.Call (.Name "dict" p) [.Call (.Name "zip" p2) [e, e2] [] pos2] [] pos) (eDictZip K ta) := by
  subst hk
  refine ⟨fun pins st σ H Q J asked => ?_⟩
  refine Call_ (ld_blt J hd md boot_dict (PyProof.Rows.callWith_type1 (args_cons (Call_ (ld_blt J hg hm boot_zip (PyProof.Rows.callWith_type1 (thn (ha.run pos2 pins st σ H _ J asked) fun us st1 ⟨vs, H1, J1, rel, now⟩ => ?_) hs hpl))) hs1) hs1 rfl))
  obtain ⟨a, b, ks, xs, ex, hq1, hq2, now⟩ := now
  subst ex
  cases rel with
  | cons r1 rel =>
  cases rel with
  | cons r2 rel =>
  cases rel
  cases r1
  cases r2
  obtain ⟨its, rv, p1, z1⟩ := J1.list hq1
  obtain ⟨its2, rv2, p2, z2⟩ := J1.tuple hq2
  have al : a < st1.heap.objs.size := p1.lt
  have bl : b < st1.heap.objs.size := by obtain ⟨o, ho, _⟩ := p2; exact Heap.lt_size ho
  have B1 := begins_list a its.toArray
  have B2 := begins_tuple b its2.toArray
  refine zip_begins2 B1 B2 p1.isList p2 fun h' c1 c2 c3 c4 c5 size kp => args_nil ?_
  have S := zip_sep2 (N := st1.heap.objs.size) (fp1 := [a]) (fp2 := [b]) (by simpa using al) (by simpa using bl)
  have P := pairs_LT (prog := X.prog) (w := X.w) _ _ _ _ _ a b S (Nat.ne_of_lt al) (Nat.ne_of_lt (Nat.lt_succ_of_lt bl)) its.toArray its2.toArray
  have n1 := rv.length
  have n2 := rv2.length
  rw [List.length_map] at n1 z1
  have all : ∀ (ks : List Key) (xs : List V) (us vs : List Value), Vals (ks.map kV) us → Vals xs vs → ∃ rs : List (Key × Value), KV (ks.zip xs) rs ∧ rs.length = min us.length vs.length ∧ ∀ (i : Nat) (k v : Value), us[i]? = some k → vs[i]? = some v → ∃ q, rs[i]? = some (q, v) ∧ (mixKind X.prog X.w).is q k = true := by
    intro ks
    induction ks with
    | nil => intro xs us vs r1 r2; cases r1; exact ⟨[], .nil, by simp, fun i k v e => nomatch e⟩
    | cons k ks ih =>
      intro xs us vs r1 r2
      cases r1 with
      | cons h1 t1 =>
      cases r2 with
      | nil => exact ⟨[], .nil, by simp, fun i k v _ e => nomatch e⟩
      | cons h2 t2 =>
        obtain ⟨rs, e1, e2, e3⟩ := ih _ _ _ t1 t2
        refine ⟨(k, _) :: rs, .cons ⟨rfl, h2⟩ e1, by simp only [List.length_cons, e2]; omega, fun i q v e f => ?_⟩
        cases i with
        | zero => cases e; cases f; exact ⟨k, rfl, kV_is h1⟩
        | succ i => exact e3 i q v e f
  obtain ⟨rs, e1, e2, e3⟩ := all ks xs its its2 rv rv2
  have PH : PairsHave (mixKind X.prog X.w) (min its.toArray.size its2.toArray.size) (fun i k v => its.toArray[i]? = some k ∧ its2.toArray[i]? = some v) rs :=
    ⟨by simpa using e2, fun i k v q => e3 i k v (by simpa using q.1) (by simpa using q.2)⟩
  refine _root_.PySem.call_dict_pairs (s := { st1 with heap := h' }) P (J1.ok.hd hcalm) ⟨c1, ⟨_, _, c3⟩, c2, ⟨⟨_, c4, rfl, rfl⟩, B1.keeps _ _ p1.isList kp⟩, ⟨⟨_, c5, rfl, rfl⟩, B2.keeps _ _ p2 kp⟩⟩ PH (by have := n1; have := n2; simp only [List.size_toArray]; omega) fun h2 tk isd kp2 => ?_
  replace isd : h2.DictOf (mixKind X.prog X.w) h'.objs.size (merged [] rs) := isd
  have low : st1.heap.objs.size ≤ h'.objs.size := by rw [size]; exact Nat.le_add_right _ _
  have big : sysModules < h'.objs.size := Nat.lt_of_lt_of_le J1.big low
  have ne : (h'.objs.size == sysModules) = false := beq_eq_false_iff_ne.mpr (Nat.ne_of_gt big)
  have few : (mergeK [] (ks.zip xs)).length ≤ sizeLine := by
    refine Nat.le_trans (length_mergeK _ []) ?_
    rw [List.length_nil, Nat.zero_add, List.length_zip]
    omega
  refine ⟨.ref h'.objs.size, upd H1 h'.objs.size (.dK (mergeK [] (ks.zip xs))), J1.laid (t' := tk) (fun c o q => kp2 c o (fun hm => ?_) (kp c o q)) low (show ObjOk X.prog X.w _ _ _ (.dK (mergeK [] (ks.zip xs))) from ⟨few, ne, merged [] rs, KV.merge e1 .nil, isd⟩), rfl, now _ (J1.hok.fresh low)⟩
  have cl := Heap.lt_size q
  have either : c = st1.heap.objs.size + 4 ∨ c = st1.heap.objs.size + 3 ∨ c = st1.heap.objs.size ∨ c = st1.heap.objs.size + 1 := by simpa using hm
  rcases either with y | y | y | y <;> rw [y] at cl
  · exact absurd cl (Nat.not_lt.mpr (Nat.le_add_right _ _))
  · exact absurd cl (Nat.not_lt.mpr (Nat.le_add_right _ _))
  · exact absurd cl (Nat.lt_irrefl _)
  · exact absurd cl (Nat.not_lt.mpr (Nat.le_add_right _ _))
theorem one_at {K : PySem.W.Frag} {a : Addr} {od : Option Addr} {z : Str} {t1 : Tok} {n : Nat} {sl : Array (Option Value)} (l : K.lookup a = some ⟨.type "tuple", od, .seq #[.str z t1] n, sl⟩) (H : Hp) : SqT K H a [.str z] :=
  .inr ⟨_, _, _, l, rfl, rfl, (show 1 ≤ sizeLine by decide), .cons ⟨_, rfl⟩ .nil⟩
section
variable {P : Program} {w : World} {K : PySem.W.Frag} {mg : Str → Option Value} {base : Heap}
def sp_law_flow (K : PySem.W.Frag) : Sp := fun vs H Q _ => ∃ (a : Addr) (ns : List Int), vs = [.ref a] ∧ SqL K H a (ns.map V.int) ∧ ∀ (f c : Addr) (H' : Hp), H f = none → H c = none → Flow H' f c → Same H H' → Q (.ref f) H'
theorem ok_law_flow {f : Addr} {fd : FuncData} (F : Fun K "_law_flow" "_law_flow" s_law_flow f fd) {C : Addr} (T : Top K mg C) : FnOk P w K mg base CX0 1 f fd ["_law_script"] (sp_law_flow K) := by
  refine F.ok sc_law_flow (fun vs H Q E h => ?_) (fun cdv A outer s H vs Q E hr h => ?_)
  · obtain ⟨a, ns, rfl, _⟩ := h
    rfl
  obtain ⟨a, ns, rfl, hS, q⟩ := h
  refine ⟨_, (pss_one (ps_ret (pe_lst (pa_cons (pe_callTy (call_list_ofK K rfl) (by rfl) T.m_list (by decide +kernel) (pa_cons (pv 0) pa_nil)) (pa_cons pe_int (pa_cons pe_int (pa_cons pe_int (pa_cons pe_int pa_nil)))))))), ?_⟩
  refine ⟨_, rfl, a, _, rfl, .inl hS, fun c hc => ?_⟩
  refine ⟨(by show 5 ≤ sizeLine; decide), fun f hf => ?_⟩
  have nf : H f = none := by
    cases e : H f with
    | none => rfl
    | some o => rw [same_new hc _ _ e] at hf; cases hf
  have s1 := same_new (o := .lst (ns.map V.int)) hc
  refine q f c _ nf hc ⟨ns, 0, 0, 1, 0, upd_same, same_new hf _ _ upd_same, by decide, by decide, by decide, by decide⟩ fun b o e => same_new hf _ _ (s1 _ _ e)
def sp_law_pick (K : PySem.W.Frag) : Sp := fun vs H Q _ => ∃ (f c : Addr) (m : Int), vs = [.ref f, .int m] ∧ 0 < m ∧ m.natAbs.log2 < 9000 ∧ Flow H f c ∧
  ∀ (v : Int) (H' : Hp), 0 ≤ v → v < m → Flow H' f c → But f H H' → Q (.int v) H'
theorem ok_law_pick {f : Addr} {fd : FuncData} (F : Fun K "_law_pick" "_law_pick" s_law_pick f fd) {C : Addr} (T : Top K mg C) : FnOk P w K mg base CX0 1 f fd ["_law_flow_here", "_law_many"] (sp_law_pick K) := by
  refine F.ok sc_law_pick (fun vs H Q E h => ?_) (fun cdv A outer s H vs Q E hr h => ?_)
  · obtain ⟨f, c, m, rfl, _⟩ := h
    rfl
  obtain ⟨f, c, m, rfl, m0, m9, hF, q⟩ := h
  obtain ⟨ns, i, p, z, r, hf, hc, hi, hp, hz, hz2⟩ := hF
  have ncf : c ≠ f := ne_of hc hf (by intro e; injection e with e; cases ns with | nil => cases e | cons x l => cases e)
  let R1 : TS := fun D' σ' H' => D'.rt = Q ∧ ∃ x2 : Option V, σ' = [some (.ref f), some (.int m), x2, none] ∧ (∃ (i p z r : Int), H' f = some (.lst [.ref c, .int i, .int p, .int z, .int r]) ∧ H' c = some (.lst (ns.map V.int)) ∧ 0 ≤ i ∧ 0 ≤ p ∧ 0 ≤ z ∧ z < 2147483647) ∧ But f H H'
  refine ⟨_, (pss_cons (ps_if (PW.pt (pw_and (pt_cmpR op_eq (pe_ix (ix_listK K rfl) (pv 0) pe_int (fun _ _ => rfl)) pe_int (nomark _)) (pw_and1 (pt_cmpR op_lt (pe_ix (ix_listK K rfl) (pv 0) pe_int (fun _ _ => rfl)) (pe_callB (call_len_seqK K rfl) (by rfl) T.m_len (by decide +kernel) (pa_cons (pe_ix (ix_listK K rfl) (pv 0) pe_int (fun _ _ => rfl)) pa_nil)) (nomark _))))) (pss_cons (ps_set (i := 2) sc_law_pick.nd rfl (Or.inl rfl) (pe_ix (ix_listK K rfl) (pe_ix (ix_listK K rfl) (pv 0) pe_int (fun _ _ => rfl)) (pe_ix (ix_listK K rfl) (pv 0) pe_int (fun _ _ => rfl)) (fun _ _ => rfl)))
      (pss_cons (ps_asg (pe_op op_add (pe_ix (ix_listK K rfl) (pv 0) pe_int (fun _ _ => rfl)) pe_int) (pg_sub (pv 0) pe_int set_list))
      (pss_one (ps_if (pt_cmpR op_ge (pv 2) (pe_op op_pow pe_int pe_int) (nomark _)) (pss_one (ps_asg (pv 2) (pg_sub (pv 0) pe_int set_list))) (pss_one (ps_asg (pe_op op_mod (pe_op op_add (pe_op op_add (pe_op op_mul (pe_ix (ix_listK K rfl) (pv 0) pe_int (fun _ _ => rfl)) pe_int) (pe_op op_mod (pv 2) pe_int)) pe_int) pe_int) (pg_sub (pv 0) pe_int set_list))))))) pss_nil)
      (PSs.to (pss_cons (ps_if (pt_cmpR op_gt (pe_ix (ix_listK K rfl) (pv 0) pe_int (fun _ _ => rfl)) pe_int (nomark _)) (pss_cons (ps_set (i := 3) sc_law_pick.nd rfl (Or.inl rfl) (pe_op op_mod (pe_ix (ix_listK K rfl) (pv 0) pe_int (fun _ _ => rfl)) (pv 1)))
      (pss_cons (ps_asg (pe_op op_fdivW (pe_ix (ix_listK K rfl) (pv 0) pe_int (fun _ _ => rfl)) (pv 1)) (pg_sub (pv 0) pe_int set_list))
      (pss_one (ps_ret (pv 3))))) pss_nil)
      (pss_cons (ps_asg (pe_op op_add (pe_ix (ix_listK K rfl) (pv 0) pe_int (fun _ _ => rfl)) pe_int) (pg_sub (pv 0) pe_int set_list))
      (pss_cons (ps_asg (pe_op op_mod (pe_op op_add (pe_op op_add (pe_op op_mul (pe_ix (ix_listK K rfl) (pv 0) pe_int (fun _ _ => rfl)) pe_int) pe_int) (pe_ix (ix_listK K rfl) (pv 0) pe_int (fun _ _ => rfl))) pe_int) (pg_sub (pv 0) pe_int set_list))
      (pss_one (ps_ret (pe_op op_mod (pe_op op_fdiv (pe_op op_mod (pe_op op_mul (pe_op op_add (pe_op op_mod (pe_ix (ix_listK K rfl) (pv 0) pe_int (fun _ _ => rfl)) pe_int) pe_int) (pe_op op_add (pe_op op_fdiv (pe_ix (ix_listK K rfl) (pv 0) pe_int (fun _ _ => rfl)) pe_int) pe_int)) pe_int) pe_int) (pv 1))))))) R1 ?tail1)), ?_⟩
  case tail1 =>
    rintro D' σ' H1 ⟨eD, x2, rfl, ⟨i, p, z, r, hf, hc, hi, hp, hz, hz2⟩, bt⟩
    refine ⟨_, rfl, f, _, _, _, rfl, rfl, SqL.of hf, atI_nat (j := 2) rfl, _, _, rfl, rfl, _, rfl, if_bl (fun c1 => ?_) (fun c1 => ?_)⟩
    · refine ⟨_, rfl, f, _, _, _, rfl, rfl, SqL.of hf, atI_nat (j := 2) rfl, _, rfl, _, _, rfl, rfl, m0, ?_⟩
      refine ⟨_, rfl, f, _, _, _, rfl, rfl, SqL.of hf, atI_nat (j := 2) rfl, _, rfl, _, _, rfl, rfl, ⟨m0, m9⟩, _, rfl, f, _, _, 2, rfl, rfl, hf, rfl, ?_⟩
      refine ⟨_, rfl, ?_⟩
      rw [eD]
      exact q _ _ (Int.emod_nonneg _ (by omega)) (Int.emod_lt_of_pos _ m0) ⟨ns, i, p / m, z, r, upd_same, (by rw [upd_ne ncf]; exact hc), hi, Int.ediv_nonneg hp (by omega), hz, hz2⟩ bt.upd
    · refine ⟨_, rfl, f, _, _, _, rfl, rfl, SqL.of hf, atI_nat (j := 4) rfl, _, _, rfl, rfl, _, rfl, f, _, _, 4, rfl, rfl, hf, rfl, ?_⟩
      have hf2 : upd H1 f (.lst ([V.ref c, V.int i, V.int p, V.int z, V.int r].set 4 (V.int (r + 1)))) f = some (.lst [.ref c, .int i, .int p, .int z, .int (r + 1)]) := upd_same
      refine ⟨_, rfl, f, _, _, _, rfl, rfl, SqL.of hf2, atI_nat (j := 3) rfl, _, _, rfl, rfl, .inl ⟨by omega, by omega⟩, _, _, rfl, rfl, _, rfl, f, _, _, _, rfl, rfl, SqL.of hf2, atI_nat (j := 4) rfl, _, _, rfl, rfl, _, _, rfl, rfl, (by show (0 : Int) < 2147483647; decide), _, rfl, f, _, _, 3, rfl, rfl, hf2, rfl, ?_⟩
      have z0 : 0 ≤ (z * 48271 + 12820163 + (r + 1)) % 2147483647 := Int.emod_nonneg _ (by decide)
      have z1 : (z * 48271 + 12820163 + (r + 1)) % 2147483647 < 2147483647 := Int.emod_lt_of_pos _ (by decide)
      have hf3 : upd (upd H1 f (.lst ([V.ref c, V.int i, V.int p, V.int z, V.int r].set 4 (V.int (r + 1))))) f (.lst ([V.ref c, V.int i, V.int p, V.int z, V.int (r + 1)].set 3 (V.int ((z * 48271 + 12820163 + (r + 1)) % 2147483647)))) f =
        some (.lst [.ref c, .int i, .int p, .int ((z * 48271 + 12820163 + (r + 1)) % 2147483647), .int (r + 1)]) := upd_same
      have hc3 : upd (upd H1 f (.lst ([V.ref c, V.int i, V.int p, V.int z, V.int r].set 4 (V.int (r + 1))))) f (.lst ([V.ref c, V.int i, V.int p, V.int z, V.int (r + 1)].set 3 (V.int ((z * 48271 + 12820163 + (r + 1)) % 2147483647)))) c = some (.lst (ns.map V.int)) := by
        rw [upd_ne ncf, upd_ne ncf]
        exact hc
      refine ⟨_, rfl, f, _, _, _, rfl, rfl, SqL.of hf3, atI_nat (j := 3) rfl, _, _, rfl, rfl, (by show (0 : Int) < 65521; decide), _, _, rfl, rfl, _, rfl, f, _, _, _, rfl, rfl, SqL.of hf3, atI_nat (j := 3) rfl, _, _, rfl, rfl, ⟨by decide, by decide⟩, _, _, rfl, rfl, _, _, rfl, rfl, .inl ⟨?_, ?_⟩, _, _, rfl, rfl, (by show (0 : Int) < 1000003; decide), _, _, rfl, rfl, ⟨by decide, by decide⟩, _, rfl, _, _, rfl, rfl, m0, ?_⟩
      · omega
      · omega
      · rw [eD]
        exact q _ _ (Int.emod_nonneg _ (by omega)) (Int.emod_lt_of_pos _ m0) ⟨ns, i, p, _, r + 1, hf3, hc3, hi, hp, z0, z1⟩ bt.upd.upd
  refine ⟨_, rfl, f, _, _, _, rfl, rfl, SqL.of hf, atI_nat (j := 2) rfl, rfl, _, rfl, if_bl (fun c1 => ?_) (fun c1 => ?_)⟩
  · refine ⟨_, rfl, f, _, _, _, rfl, rfl, SqL.of hf, atI_nat (j := 1) rfl, _, rfl, f, _, _, _, rfl, rfl, SqL.of hf, atI_nat (j := 0) rfl, c, _, rfl, .inl (SqL.of hc), _, _, rfl, rfl, _, rfl, if_bl (fun c2 => ?_) (fun c2 => ?_)⟩
    · have c3 : i < ((ns.map V.int).length : Int) := of_decide_eq_true c2
      rw [List.length_map] at c3
      obtain ⟨v, hv⟩ := at_ints hi c3
      refine ⟨_, rfl, f, _, _, _, rfl, rfl, SqL.of hf, atI_nat (j := 0) rfl, _, rfl, f, _, _, _, rfl, rfl, SqL.of hf, atI_nat (j := 1) rfl, c, _, i, _, rfl, rfl, SqL.of hc, hv, ?_⟩
      refine ⟨_, rfl, f, _, _, _, rfl, rfl, SqL.of hf, atI_nat (j := 1) rfl, _, _, rfl, rfl, _, rfl, f, _, _, 1, rfl, rfl, hf, rfl, ?_⟩
      have hf2 : upd H f (.lst ([V.ref c, V.int i, V.int p, V.int z, V.int r].set 1 (V.int (i + 1)))) f = some (.lst [.ref c, .int (i + 1), .int p, .int z, .int r]) := upd_same
      refine ⟨_, rfl, _, _, rfl, rfl, ⟨by decide, by decide, by decide⟩, _, _, rfl, rfl, _, rfl, if_bl (fun c4 => ?_) (fun c4 => ?_)⟩
      · have c5 : (10 : Int) ^ (18 : Int).toNat ≤ v := of_decide_eq_true c4
        have c6 : (0 : Int) ≤ (10 : Int) ^ (18 : Int).toNat := by decide
        refine ⟨_, rfl, _, rfl, f, _, _, 2, rfl, rfl, hf2, rfl, rfl, _, rfl, ⟨i + 1, v, z, r, upd_same, ?_, by omega, by omega, hz, hz2⟩, But.refl.upd.upd⟩
        rw [upd_ne ncf, upd_ne ncf]
        exact hc
      · refine ⟨_, rfl, f, _, _, _, rfl, rfl, SqL.of hf2, atI_nat (j := 3) rfl, _, _, rfl, rfl, .inl ⟨by omega, by omega⟩, _, rfl, _, _, rfl, rfl, (by show (0 : Int) < 1000003; decide), _, _, rfl, rfl, _, _, rfl, rfl, _, _, rfl, rfl, (by show (0 : Int) < 2147483647; decide), _, rfl, f, _, _, 3, rfl, rfl, hf2, rfl, rfl, _, rfl, ⟨i + 1, p, _, r, upd_same, ?_, by omega, hp, Int.emod_nonneg _ (by decide), Int.emod_lt_of_pos _ (by decide)⟩, But.refl.upd.upd⟩
        rw [upd_ne ncf, upd_ne ncf]
        exact hc
    · exact ⟨rfl, _, rfl, ⟨i, p, z, r, hf, hc, hi, hp, hz, hz2⟩, But.refl⟩
  · exact ⟨rfl, _, rfl, ⟨i, p, z, r, hf, hc, hi, hp, hz, hz2⟩, But.refl⟩
end
/-! ### rooms: what they are -/
/-- a hand: its rule's word, its number if it has one, its moments -/
structure HR where
  wd : Str
  no : Option Int
  mom : Int
/-- a belt -/
structure BR where
  one : Nat
  to : Nat
  th : List Int
abbrev ruleL (h : HR) : List V := .str h.wd :: (match h.no with | none => [] | some n => [.int n])
def HandAt (H : Hp) (v : V) (h : HR) : Prop := ∃ t r : Addr, v = .ref t ∧ H t = some (.tup [.ref r, .int h.mom]) ∧ H r = some (.tup (ruleL h))
def BeltAt (H : Hp) (v : V) (b : BR) : Prop := ∃ t g : Addr, v = .ref t ∧ H t = some (.tup [.int (b.one : Nat), .int (b.to : Nat), .ref g]) ∧ H g = some (.tup (b.th.map V.int))
theorem HandAt.keep {H H' : Hp} {v : V} {h : HR} (a : HandAt H v h) (k : TK H H') : HandAt H' v h := by
  obtain ⟨t, r, e, e1, e2⟩ := a
  exact ⟨t, r, e, k _ _ e1, k _ _ e2⟩
theorem BeltAt.keep {H H' : Hp} {v : V} {b : BR} (a : BeltAt H v b) (k : TK H H') : BeltAt H' v b := by
  obtain ⟨t, r, e, e1, e2⟩ := a
  exact ⟨t, r, e, k _ _ e1, k _ _ e2⟩
def nine : List Str := ["always", "same", "times", "sum", "gap", "below", "most", "least", "pick"]
def needs (wd : Str) : Int := if wd ∈ (["in", "always"] : List Str) then 0 else if wd ∈ (["out", "same", "times"] : List Str) then 1 else 2 + (if wd = "pick" then 1 else 0)
/-- a rule of one of the nine words -/
structure GoodRule (h : HR) : Prop where
  wd : h.wd ∈ nine
  no : h.no.isSome = true ↔ h.wd = "times" ∨ h.wd = "always"
  big : ∀ n, h.no = some n → -1000000 ≤ n ∧ n ≤ 1000000
def GoodHand (h : HR) : Prop := (GoodRule h ∨ ((h.wd = "in" ∨ h.wd = "out") ∧ h.no = none)) ∧ 0 ≤ h.mom ∧ h.mom ≤ 30
def Small (v : Int) : Prop := -1000000 ≤ v ∧ v ≤ 1000000
section
variable {P : Program} {w : World} {K : PySem.W.Frag} {mg : Str → Option Value} {base : Heap}
def sp_law_thing (K : PySem.W.Frag) : Sp := fun vs H Q _ => ∃ f c : Addr, vs = [.ref f] ∧ Flow H f c ∧ ∀ (v : Int) (H' : Hp), Small v → Flow H' f c → But f H H' → Q (.int v) H'
theorem ok_law_thing {f : Addr} {fd : FuncData} (F : Fun K "_law_thing" "_law_thing" s_law_thing f fd) {C : Addr} (T : Top K mg C) : FnOk P w K mg base CX0 2 f fd ["_law_flow_here"] (sp_law_thing K) := by
  obtain ⟨f_law_pick, fd_law_pick, F_law_pick, b_law_pick, m_law_pick⟩ := T.d_law_pick
  have G_law_pick := ok_law_pick (P := P) (w := w) (base := base) F_law_pick T
  refine F.ok sc_law_thing (fun vs H Q E h => ?_) (fun cdv A outer s H vs Q E hr h => ?_)
  · obtain ⟨f, c, rfl, _⟩ := h
    rfl
  obtain ⟨f, c, rfl, hF, q⟩ := h
  refine ⟨_, (pss_cons (ps_if (pt_cmpR op_gt (pe_call G_law_pick (hr.mono (by decide)) (by rfl) m_law_pick F_law_pick.kp b_law_pick .nil pass0 (pa_cons (pv 0) (pa_cons pe_int pa_nil))) pe_int (nomark _)) (pss_one (ps_ret (pe_op op_sub (pe_call G_law_pick (hr.mono (by decide)) (by rfl) m_law_pick F_law_pick.kp b_law_pick .nil pass0 (pa_cons (pv 0) (pa_cons pe_int pa_nil))) pe_int))) pss_nil)
      (pss_one (ps_ret (pe_op op_sub (pe_call G_law_pick (hr.mono (by decide)) (by rfl) m_law_pick F_law_pick.kp b_law_pick .nil pass0 (pa_cons (pv 0) (pa_cons pe_int pa_nil))) pe_int)))), ?_⟩
  refine ⟨_, rfl, f, c, 3, rfl, by decide, by decide +kernel, hF, fun v1 H1 a1 b1 F1 B1 => ⟨_, _, rfl, rfl, _, rfl, if_bl (fun _ => ?_) (fun _ => ?_)⟩⟩
  · exact ⟨_, rfl, f, c, 7, rfl, by decide, by decide +kernel, F1, fun v2 H2 a2 b2 F2 B2 => ⟨_, _, rfl, rfl, q _ _ ⟨by omega, by omega⟩ F2 (B1.trans B2)⟩⟩
  · exact ⟨_, rfl, f, c, 2000001, rfl, by decide, by decide +kernel, F1, fun v2 H2 a2 b2 F2 B2 => ⟨_, _, rfl, rfl, q _ _ ⟨by omega, by omega⟩ F2 (B1.trans B2)⟩⟩
def sp_law_needs (K : PySem.W.Frag) : Sp := fun vs H Q _ => ∃ (r : Addr) (wd : Str) (l : List V), vs = [.ref r] ∧ SqT K H r (.str wd :: l) ∧ ∀ H', Same H H' → Q (.int (needs wd)) H'
theorem ok_law_needs {f : Addr} {fd : FuncData} (F : Fun K "_law_needs" "_law_needs" s_law_needs f fd) {C : Addr} (T : Top K mg C) : FnOk P w K mg base CX0 1 f fd ["_law_rule_here"] (sp_law_needs K) := by
  refine F.ok sc_law_needs (fun vs H Q E h => ?_) (fun cdv A outer s H vs Q E hr h => ?_)
  · obtain ⟨r, wd, l, rfl, _⟩ := h
    rfl
  obtain ⟨r, wd, l, rfl, hR, q⟩ := h
  unfold needs at q
  refine ⟨_, (pss_cons (ps_if (pt_cmpR (op_in_seqK K rfl) (pe_ix (ix_tupK K rfl) (pv 0) pe_int (fun _ _ => rfl)) (pe_tup (pa_cons pe_str (pa_cons pe_str pa_nil))) (by with_unfolding_all rfl)) (pss_one (ps_ret pe_int)) pss_nil)
      (pss_cons (ps_if (pt_cmpR (op_in_seqK K rfl) (pe_ix (ix_tupK K rfl) (pv 0) pe_int (fun _ _ => rfl)) (pe_tup (pa_cons pe_str (pa_cons pe_str (pa_cons pe_str pa_nil)))) (by with_unfolding_all rfl)) (pss_one (ps_ret pe_int)) pss_nil)
      (pss_one (ps_ret (pe_op op_add pe_int (pe_callTy call_int1 (by rfl) T.m_int (by decide +kernel) (pa_cons (pe_cmpR op_eq (pe_ix (ix_tupK K rfl) (pv 0) pe_int (fun _ _ => rfl)) pe_str (nomark _)) pa_nil))))))), ?_⟩
  refine ⟨_, rfl, r, _, _, _, rfl, rfl, hR, atI_nat (j := 0) rfl, (by show 2 ≤ sizeLine; decide), fun p np => ⟨p, _, rfl, .inr (SqT.of upd_same), rfl, rfl, _, rfl, if_in (zs := ["in", "always"]) (fun e => ?_) (fun e => ?_)⟩⟩
  · have q := q _ (same_new (o := .tup [V.str "in", V.str "always"]) np)
    rw [if_pos e] at q
    exact q
  have s1 := same_new (o := .tup [V.str "in", V.str "always"]) np
  refine ⟨_, rfl, r, _, _, _, rfl, rfl, same_seqT s1 hR, atI_nat (j := 0) rfl, (by show 3 ≤ sizeLine; decide), fun p2 np2 => ⟨p2, _, rfl, .inr (SqT.of upd_same), rfl, rfl, _, rfl, if_in (zs := ["out", "same", "times"]) (fun e2 => ?_) (fun e2 => ?_)⟩⟩
  · have q := q _ (s1.trans (same_new (o := .tup [V.str "out", V.str "same", V.str "times"]) np2))
    rw [if_neg e, if_pos e2] at q
    exact q
  have s2 := s1.trans (same_new (o := .tup [V.str "out", V.str "same", V.str "times"]) np2)
  have q := q _ s2
  rw [if_neg e, if_neg e2] at q
  refine ⟨_, rfl, r, _, _, _, rfl, rfl, same_seqT s2 hR, atI_nat (j := 0) rfl, rfl, .inr ⟨_, rfl, _, _, rfl, rfl, ?_⟩⟩
  by_cases k : wd = "pick"
  · rw [if_pos k] at q
    rw [decide_eq_true (show V.str wd = V.str "pick" by rw [k])]
    exact q
  · rw [if_neg k] at q
    rw [decide_eq_false (show ¬ V.str wd = V.str "pick" from fun z => k (V.str.inj z))]
    exact q
theorem nine_at {m : Int} (h0 : 0 ≤ m) (h9 : m < 9) : ∃ wd : Str, wd ∈ nine ∧ atI (nine.map V.str) m = some (.str wd) ∧ (m < 1 → needs wd ≤ 0) ∧ (m < 3 → needs wd ≤ 1) ∧ (m < 8 → needs wd ≤ 2) ∧ needs wd ≤ 3 ∧ 0 ≤ needs wd := by
  have : m = 0 ∨ m = 1 ∨ m = 2 ∨ m = 3 ∨ m = 4 ∨ m = 5 ∨ m = 6 ∨ m = 7 ∨ m = 8 := by omega
  rcases this with rfl | rfl | rfl | rfl | rfl | rfl | rfl | rfl | rfl
  · exact ⟨"always", by decide +kernel, rfl, by decide +kernel, by decide +kernel, by decide +kernel, by decide +kernel, by decide +kernel⟩
  · exact ⟨"same", by decide +kernel, rfl, by decide +kernel, by decide +kernel, by decide +kernel, by decide +kernel, by decide +kernel⟩
  · exact ⟨"times", by decide +kernel, rfl, by decide +kernel, by decide +kernel, by decide +kernel, by decide +kernel, by decide +kernel⟩
  · exact ⟨"sum", by decide +kernel, rfl, by decide +kernel, by decide +kernel, by decide +kernel, by decide +kernel, by decide +kernel⟩
  · exact ⟨"gap", by decide +kernel, rfl, by decide +kernel, by decide +kernel, by decide +kernel, by decide +kernel, by decide +kernel⟩
  · exact ⟨"below", by decide +kernel, rfl, by decide +kernel, by decide +kernel, by decide +kernel, by decide +kernel, by decide +kernel⟩
  · exact ⟨"most", by decide +kernel, rfl, by decide +kernel, by decide +kernel, by decide +kernel, by decide +kernel, by decide +kernel⟩
  · exact ⟨"least", by decide +kernel, rfl, by decide +kernel, by decide +kernel, by decide +kernel, by decide +kernel, by decide +kernel⟩
  · exact ⟨"pick", by decide +kernel, rfl, by decide +kernel, by decide +kernel, by decide +kernel, by decide +kernel, by decide +kernel⟩
def sp_law_rule (K : PySem.W.Frag) : Sp := fun vs H Q _ => ∃ (f c : Addr) (m : Int), vs = [.ref f, .int m] ∧ 0 ≤ m ∧ Flow H f c ∧
  ∀ (r : Addr) (h : HR) (H' : Hp), H' r = some (.tup (ruleL h)) → GoodRule h → needs h.wd ≤ m → 0 ≤ needs h.wd → h.mom = 0 → Flow H' f c → But f H H' → Q (.ref r) H'
theorem ok_law_rule {f : Addr} {fd : FuncData} (F : Fun K "_law_rule" "_law_rule" s_law_rule f fd) {C : Addr} (T : Top K mg C) : FnOk P w K mg base CX0 3 f fd ["_law_flow_here", "_law_most"] (sp_law_rule K) := by
  obtain ⟨f_law_pick, fd_law_pick, F_law_pick, b_law_pick, m_law_pick⟩ := T.d_law_pick
  have G_law_pick := ok_law_pick (P := P) (w := w) (base := base) F_law_pick T
  obtain ⟨f_law_thing, fd_law_thing, F_law_thing, b_law_thing, m_law_thing⟩ := T.d_law_thing
  have G_law_thing := ok_law_thing (P := P) (w := w) (base := base) F_law_thing T
  refine F.ok sc_law_rule (fun vs H Q E h => ?_) (fun cdv A outer s H vs Q E hr h => ?_)
  · obtain ⟨f, c, m, rfl, _⟩ := h
    rfl
  obtain ⟨f, c, m, rfl, m0, hF, q⟩ := h
  refine ⟨_, (pss_cons (ps_set (i := 2) sc_law_rule.nd rfl (Or.inl rfl) (pe_lst (pa_cons pe_str (pa_cons pe_str (pa_cons pe_str (pa_cons pe_str (pa_cons pe_str (pa_cons pe_str (pa_cons pe_str (pa_cons pe_str (pa_cons pe_str pa_nil)))))))))))
      (pss_cons (ps_set (i := 3) sc_law_rule.nd rfl (Or.inl rfl) (pe_ix (ix_listK K rfl) (pv 2) (pe_call G_law_pick (hr.mono (by decide)) (by rfl) m_law_pick F_law_pick.kp b_law_pick .nil pass0 (pa_cons (pv 0) (pa_cons (pe_ix (ix_listK K rfl) (pe_lst (pa_cons pe_int (pa_cons pe_int (pa_cons pe_int (pa_cons pe_int pa_nil))))) (pe_callB (call_min2 rfl) (by rfl) T.m_min (by decide +kernel) (pa_cons pe_int (pa_cons (pv 1) pa_nil))) (fun _ _ => rfl)) pa_nil))) (fun _ _ => rfl)))
      (pss_cons (ps_if (pt_cmpR op_eq (pv 3) pe_str (nomark _)) (pss_one (ps_ret (pe_tup (pa_cons (pv 3) (pa_cons (pe_op op_sub (pe_call G_law_pick (hr.mono (by decide)) (by rfl) m_law_pick F_law_pick.kp b_law_pick .nil pass0 (pa_cons (pv 0) (pa_cons pe_int pa_nil))) pe_int) pa_nil))))) pss_nil)
      (pss_cons (ps_if (pt_cmpR op_eq (pv 3) pe_str (nomark _)) (pss_one (ps_ret (pe_tup (pa_cons (pv 3) (pa_cons (pe_call G_law_thing (hr.mono (by decide)) (by rfl) m_law_thing F_law_thing.kp b_law_thing .nil pass0 (pa_cons (pv 0) pa_nil)) pa_nil))))) pss_nil)
      (pss_one (ps_ret (pe_tup (pa_cons (pv 3) pa_nil)))))))), ?_⟩
  refine ⟨(by show 9 ≤ sizeLine; decide), fun wl nwl => ?_⟩
  have F1 : Flow (upd H wl (.lst (nine.map V.str))) f c := hF.new nwl
  refine ⟨_, rfl, _, rfl, (by show 4 ≤ sizeLine; decide), fun cl ncl => ?_⟩
  have F2 : Flow (upd (upd H wl (.lst (nine.map V.str))) cl (.lst [V.int 1, V.int 3, V.int 8, V.int 9])) f c := F1.new ncl
  have B2 : But f H (upd (upd H wl (.lst (nine.map V.str))) cl (.lst [V.int 1, V.int 3, V.int 8, V.int 9])) := (But.refl.new nwl).new ncl
  obtain ⟨j, hj, j1, j9, jn⟩ : ∃ j : Int, atI [V.int 1, V.int 3, V.int 8, V.int 9] (if m < 3 then m else 3) = some (.int j) ∧ 1 ≤ j ∧ j ≤ 9 ∧ ((j = 1 ∧ m = 0) ∨ (j = 3 ∧ m = 1) ∨ (j = 8 ∧ m = 2) ∨ (j = 9 ∧ 3 ≤ m)) := by
    by_cases k : m < 3
    · rw [if_pos k]
      have : m = 0 ∨ m = 1 ∨ m = 2 := by omega
      rcases this with rfl | rfl | rfl
      · exact ⟨1, rfl, by decide, by decide, by decide⟩
      · exact ⟨3, rfl, by decide, by decide, by decide⟩
      · exact ⟨8, rfl, by decide, by decide, by decide⟩
    · rw [if_neg k]
      exact ⟨9, rfl, by decide, by decide, by omega⟩
  refine ⟨_, rfl, _, _, rfl, cl, _, _, _, rfl, rfl, SqL.of upd_same, hj, f, c, j, rfl, by omega, ?_, F2, fun v H1 v0 v1 F3 B3 => ?_⟩
  · have : j = 1 ∨ j = 3 ∨ j = 8 ∨ j = 9 := by omega
    rcases this with rfl | rfl | rfl | rfl <;> decide +kernel
  obtain ⟨wd, hw, hat, n1, n3, n8, n9, n0⟩ := nine_at v0 (by omega)
  have hn : needs wd ≤ m := by
    rcases jn with ⟨rfl, rfl⟩ | ⟨rfl, rfl⟩ | ⟨rfl, rfl⟩ | ⟨rfl, k⟩
    · exact n1 v1
    · exact n3 v1
    · exact n8 v1
    · omega
  have hwl : H1 wl = some (.lst (nine.map V.str)) := B3 _ _ (same_new ncl _ _ upd_same) (hF.ne nwl)
  refine ⟨wl, _, _, _, rfl, rfl, SqL.of hwl, hat, ?_⟩
  have BB := B2.trans B3
  refine ⟨_, rfl, rfl, _, rfl, if_str (fun e => ?_) (fun e => ?_)⟩
  · refine ⟨_, rfl, _, rfl, f, c, 19, rfl, by decide, by decide +kernel, F3, fun v2 H2 a2 b2 F4 B4 => ⟨_, _, rfl, rfl, (by show 2 ≤ sizeLine; decide), fun r nr => ?_⟩⟩
    exact q r ⟨wd, some (v2 - 9), 0⟩ _ upd_same ⟨hw, ⟨fun _ => .inl e, fun _ => rfl⟩, fun n en => by cases en; exact ⟨by omega, by omega⟩⟩ hn n0 rfl (F4.new nr) ((BB.trans B4).new nr)
  refine ⟨_, rfl, rfl, _, rfl, if_str (fun e2 => ?_) (fun e2 => ?_)⟩
  · refine ⟨_, rfl, _, rfl, f, c, rfl, F3, fun v2 H2 s2 F4 B4 => ⟨(by show 2 ≤ sizeLine; decide), fun r nr => ?_⟩⟩
    exact q r ⟨wd, some v2, 0⟩ _ upd_same ⟨hw, ⟨fun _ => .inr e2, fun _ => rfl⟩, fun n en => by cases en; exact s2⟩ hn n0 rfl (F4.new nr) ((BB.trans B4).new nr)
  · refine ⟨_, rfl, (by show 1 ≤ sizeLine; decide), fun r nr => ?_⟩
    exact q r ⟨wd, none, 0⟩ _ upd_same ⟨hw, ⟨(fun z => nomatch z), fun z => absurd z (fun z => z.elim e e2)⟩, (fun n en => nomatch en)⟩ hn n0 rfl (F3.new nr) (BB.new nr)
def sp_law_shuffled (K : PySem.W.Frag) : Sp := fun vs H Q _ => ∃ (f c l : Addr) (xs : List V), vs = [.ref f, .ref l] ∧ SqL K H l xs ∧ l ≠ f ∧ xs.length ≤ 500 ∧ Flow H f c ∧
  ∀ (p : Addr) (ys : List V) (H' : Hp), ys.Perm xs → H p = none → H' p = some (.lst ys) → Flow H' f c → But f H H' → Q (.ref p) H'
theorem But.seqL {K : PySem.W.Frag} {f a : Addr} {H H1 : Hp} {xs : List V} (b : But f H H1) (h : SqL K H a xs) (n : a ≠ f) : SqL K H1 a xs := by
  rcases h with h | h
  · left
    rcases h with h | ⟨o, h⟩
    · exact .inl (b _ _ h n)
    · exact .inr ⟨o, b _ _ h n⟩
  · exact .inr h
theorem same_seqL {K : PySem.W.Frag} {a : Addr} {H H1 : Hp} {xs : List V} (b : Same H H1) (h : SqL K H a xs) : SqL K H1 a xs := by
  rcases h with h | h
  · left
    rcases h with h | ⟨o, h⟩
    · exact .inl (b _ _ h)
    · exact .inr ⟨o, b _ _ h⟩
  · exact .inr h
theorem log_small {m : Nat} (h : m ≤ 500) : ((m : Int)).natAbs.log2 < 9000 := by
  rw [Int.natAbs_natCast]
  exact Nat.lt_of_le_of_lt (Nat.log2_le_self m) (by omega)
theorem perm_erase {α : Type} : ∀ {l : List α} {j : Nat} {y : α}, l[j]? = some y → (y :: l.eraseIdx j).Perm l
  | [], _, _, h => nomatch h
  | a :: l, 0, y, h => by
    cases h
    exact List.Perm.refl _
  | a :: l, j + 1, y, h => by
    have ih : (y :: l.eraseIdx j).Perm l := perm_erase h
    exact (List.Perm.swap a y _).trans (ih.cons a)
theorem ok_law_shuffled {f : Addr} {fd : FuncData} (F : Fun K "_law_shuffled" "_law_shuffled" s_law_shuffled f fd) {C : Addr} (T : Top K mg C) : FnOk P w K mg base CX0 2 f fd ["_law_flow_here", "_law_some"] (sp_law_shuffled K) := by
  obtain ⟨f_law_pick, fd_law_pick, F_law_pick, b_law_pick, m_law_pick⟩ := T.d_law_pick
  have G_law_pick := ok_law_pick (P := P) (w := w) (base := base) F_law_pick T
  refine F.ok sc_law_shuffled (fun vs H Q E h => ?_) (fun cdv A outer s H vs Q E hr h => ?_)
  · obtain ⟨f, c, l, xs, rfl, _⟩ := h
    rfl
  obtain ⟨f, c, l, xs, rfl, hL, nl, hlen, hF, q⟩ := h
  refine ⟨_, (pss_cons (ps_set (i := 2) sc_law_shuffled.nd rfl (Or.inr rfl) (pe_callTy (call_list_ofK K rfl) (by rfl) T.m_list (by decide +kernel) (pa_cons (pv 1) pa_nil)))
      (pss_one (ps_ret (pe_lc (own := [("_law_k", 3)]) (g := gName 3) (tt := tYes) (by rfl) sc_law_shuffled.nd (pi_range1 (by rfl) T.m_range (pa_cons (pe_callB (call_len_seqK K rfl) (by rfl) T.m_len (by decide +kernel) (pa_cons (pv 1) pa_nil)) pa_nil)) (blkOk_by (own := [("_law_k", 3)]) (N := N_law_shuffled) (sc := defScope s_law_shuffled) (by decide +kernel)) (fun _ _ _ _ _ => (pg_name (i := 3) sc_law_shuffled.nd rfl (Or.inl rfl))) (fun _ _ _ _ _ => pts_nil) (fun _ _ _ _ _ => (pe_bmK K rfl PySem.F.plainAttrs_list PySem.F.slot_list_pop PySem.F.type_list_pop mt_popAt (pv 2) (pa_cons (pe_call G_law_pick (hr.mono (by decide)) (by rfl) m_law_pick F_law_pick.kp b_law_pick .nil pass0 (pa_cons (pv 0) (pa_cons (pe_callB (call_len_seqK K rfl) (by rfl) T.m_len (by decide +kernel) (pa_cons (pv 2) pa_nil)) pa_nil))) pa_nil))))))), ?_⟩
  refine ⟨_, rfl, l, _, rfl, .inl hL, fun lf nlf => ?_⟩
  refine ⟨_, rfl, l, _, rfl, .inl (same_seqL (same_new nlf) hL), _, rfl, by omega, (by omega), fun D nD => ?_⟩
  have F1 : Flow (upd H lf (.lst xs)) f c := hF.new nlf
  have dl : D ≠ lf := (ne_of_none upd_same nD).symm
  refine lc_range (lo := 0) (n := xs.length) (fun i H5 => ∃ acc rest : List V, H5 D = some (.lst acc) ∧ H5 lf = some (.lst rest) ∧ acc.length = i ∧ rest.length + i = xs.length ∧ (acc ++ rest).Perm xs ∧ Flow H5 f c ∧ But f H H5)
    ⟨[], xs, upd_same, by rw [upd_ne dl.symm]; exact upd_same, rfl, by omega, List.Perm.refl _, F1.new nD, (But.refl.new nlf).new nD⟩ ?_ ?_
  · rintro i H5 hi ⟨acc, rest, hD, hl, ha, hr2, hp, F5, B5⟩
    refine ⟨rfl, yes_in ?_⟩
    refine ⟨_, rfl, .inl ⟨rfl, _, SqL.of hl⟩, _, rfl, _, rfl, lf, _, rfl, .inl (SqL.of hl), f, c, ((rest.length : Nat) : Int), rfl, by omega, log_small (by omega), F5, fun v H6 v0 v1 F6 B6 => ?_⟩
    have hl6 := B6 _ _ hl (hF.ne nlf)
    have hv : v.toNat < rest.length := by omega
    have e1 : seqIndex? v rest.length = some v.toNat := by
      rw [seqIndex_of v0 (by omega)]
    refine ⟨lf, rest, v, v.toNat, rest[v.toNat], rfl, rfl, hl6, by omega, by omega, e1, List.getElem?_eq_getElem hv, ?_⟩
    have hD6 := B6 _ _ hD (fun e => by rw [e] at nD; rw [show upd H lf (.lst xs) f = H f from upd_ne (hF.ne nlf).symm] at nD; obtain ⟨_, _, _, _, _, e1, _⟩ := hF; rw [e1] at nD; cases nD)
    refine ⟨acc, by rw [upd_ne dl]; exact hD6, small1000 (by omega), acc ++ [rest[v.toNat]], rest.eraseIdx v.toNat, upd_same, by rw [upd_ne dl.symm]; exact upd_same, by rw [List.length_append, ha]; rfl, ?_, ?_, ?_, ?_⟩
    · rw [List.length_eraseIdx, if_pos hv]
      omega
    · refine List.Perm.trans ?_ hp
      rw [List.append_assoc]
      exact List.Perm.append_left acc (perm_erase (List.getElem?_eq_getElem hv))
    · have dc : D ≠ c := fun e => by
        rw [e] at nD
        obtain ⟨_, _, _, _, _, _, e1, _⟩ := F1
        rw [e1] at nD
        cases nD
      exact (F6.lst (hF.ne nlf) (hF.nec nlf)).lst (F1.ne nD) dc
    · exact ((B5.trans B6).own nlf).own (same_none (same_new nlf) nD)
  · rintro H5 ⟨acc, rest, hD, hl, ha, hr2, hp, F5, B5⟩
    have er : rest = [] := by
      cases rest with
      | nil => rfl
      | cons a l => simp at hr2
    subst er
    rw [List.append_nil] at hp
    exact q D acc H5 hp (same_none (same_new nlf) nD) hD F5 B5
end
/-! ### the hands of a drawn room -/
def unS : V → Str
  | .str s => s
  | _ => ""
theorem perm_strs {ys : List V} {zs : List Str} (h : ys.Perm (zs.map V.str)) : ∃ ss : List Str, ys = ss.map V.str ∧ ss.Perm zs := by
  refine ⟨ys.map unS, ?_, ?_⟩
  · rw [List.map_map]
    symm
    refine (List.map_congr_left (g := id) fun y hy => ?_).trans (List.map_id _)
    obtain ⟨z, _, e⟩ := List.mem_map.mp (h.mem_iff.mp hy)
    subst e
    rfl
  · have q := h.map unS
    rw [List.map_map] at q
    have e : zs.map (unS ∘ V.str) = zs := (List.map_congr_left (g := id) fun z _ => rfl).trans (List.map_id _)
    rw [e] at q
    exact q
theorem flat_rep {α : Type} (x : α) : ∀ n : Nat, (List.replicate n [x]).flatten = List.replicate n x
  | 0 => rfl
  | n + 1 => by
    rw [List.replicate_succ, List.flatten_cons, flat_rep x n]
    rfl
def cnt (ss : List Str) : Nat := (ss.filter fun s => !decide (s = ("in" : Str))).length
theorem cnt_le (ss : List Str) : cnt ss ≤ ss.length := List.length_filter_le ..
theorem cut_drop (xs : List V) (k : Nat) : cutV xs (some ((k : Nat) : Int)) none = xs.drop k := by
  unfold cutV
  rw [HT.sIx_nat, HT.sIx_none]
  by_cases h : k ≤ xs.length
  · rw [Nat.min_eq_left h]
    exact List.take_of_length_le (by rw [List.length_drop]; exact Nat.le_refl _)
  · rw [Nat.min_eq_right (by omega), Nat.sub_self, List.take_zero, List.drop_eq_nil_of_le (by omega)]
structure HInv (f c sl hh : Addr) (ss : List Str) (H0 H : Hp) (i : Nat) (vs : List V) (hs : List HR) (left : Int) : Prop where
  fl : Flow H f c
  bt : But f H0 H
  hsl : H sl = some (.lst (ss.map V.str))
  hhh : H hh = some (.lst vs)
  al : All2 (HandAt H) vs hs
  len : hs.length = i
  good : ∀ h ∈ hs, GoodHand h
  lf : (cnt (ss.drop i) : Int) ≤ left
  sum : (hs.map fun h => needs h.wd).sum + left = 20
  nz : ∀ h ∈ hs, 0 ≤ needs h.wd
  one : ("hand" : Str) ∈ ss.take i → ∃ h ∈ hs, h.wd ≠ "out" ∧ h.wd ≠ "in"
  n1 : sl ≠ f
  n2 : sl ≠ hh
  n3 : hh ≠ f
  n4 : hh ≠ c
  n5 : H0 hh = none
section
variable {f c sl hh : Addr} {ss : List Str} {H0 H H' : Hp} {i : Nat} {vs : List V} {hs : List HR} {left : Int}
theorem HInv.but (s : HInv f c sl hh ss H0 H i vs hs left) (F : Flow H' f c) (b : But f H H') : HInv f c sl hh ss H0 H' i vs hs left :=
  { s with fl := F, bt := s.bt.trans b, hsl := b _ _ s.hsl s.n1, hhh := b _ _ s.hhh s.n3, al := s.al.imp fun _ _ k => k.keep (TK.but s.fl b) }
theorem HInv.new {p : Addr} {o : HO} (s : HInv f c sl hh ss H0 H i vs hs left) (n : H p = none) : HInv f c sl hh ss H0 (upd H p o) i vs hs left :=
  { s with fl := s.fl.new n, bt := s.bt.new n, hsl := same_new n _ _ s.hsl, hhh := same_new n _ _ s.hhh, al := s.al.imp fun _ _ k => k.keep (TK.new n) }
theorem HInv.same (s : HInv f c sl hh ss H0 H i vs hs left) (k : Same H H') : HInv f c sl hh ss H0 H' i vs hs left :=
  { s with fl := s.fl.same k, bt := s.bt.same k, hsl := k _ _ s.hsl, hhh := k _ _ s.hhh, al := s.al.imp fun _ _ z => z.keep (TK.same k) }
theorem HInv.step {x : V} {h : HR} {sd : Str} (s : HInv f c sl hh ss H0 H i vs hs left) (hx : HandAt H x h) (g : GoodHand h) (z : 0 ≤ needs h.wd) (k : needs h.wd + (cnt (ss.drop (i + 1)) : Int) ≤ left) (e : ss[i]? = some sd) (o : sd = "hand" → h.wd ≠ "out" ∧ h.wd ≠ "in") :
    HInv f c sl hh ss H0 (upd H hh (.lst (vs ++ [x]))) (i + 1) (vs ++ [x]) (hs ++ [h]) (left - needs h.wd) := by
  refine { s with fl := s.fl.lst s.n3 s.n4, bt := s.bt.own s.n5, hsl := by rw [upd_ne s.n2]; exact s.hsl, hhh := upd_same, al := (s.al.snoc hx).imp fun _ _ z => z.keep (TK.lst s.hhh), len := by rw [List.length_append, s.len]; rfl, good := ?_, lf := by omega, sum := ?_, nz := ?_, one := ?_ }
  · intro y hy
    rcases List.mem_append.mp hy with hy | hy
    · exact s.good y hy
    · obtain rfl : y = h := by simpa using hy
      exact g
  · have := s.sum
    rw [List.map_append, List.sum_append]
    simp only [List.map_cons, List.map_nil, List.sum_cons, List.sum_nil]
    omega
  · intro y hy
    rcases List.mem_append.mp hy with hy | hy
    · exact s.nz y hy
    · obtain rfl : y = h := by simpa using hy
      exact z
  · intro hm
    rw [List.take_add_one, e] at hm
    rcases List.mem_append.mp hm with hm | hm
    · obtain ⟨y, h1, h2⟩ := s.one hm
      exact ⟨y, List.mem_append_left _ h1, h2⟩
    · have e2 : ("hand" : Str) = sd := by simpa using hm
      exact ⟨h, List.mem_append_right _ (by simp), o e2.symm⟩
end
theorem cnt_cons {ss : List Str} {i : Nat} {sd : Str} (e : ss[i]? = some sd) : cnt (ss.drop i) = (if sd = "in" then 0 else 1) + cnt (ss.drop (i + 1)) := by
  have hi := (List.getElem?_eq_some_iff.mp e).1
  have e2 : ss.drop i = sd :: ss.drop (i + 1) := by
    rw [List.drop_eq_getElem_cons hi, (List.getElem?_eq_some_iff.mp e).2]
  rw [e2]
  unfold cnt
  rw [List.filter_cons]
  by_cases k : sd = "in"
  · rw [if_pos k, decide_eq_true k]
    simp
  · rw [if_neg k, decide_eq_false k]
    simp only [Bool.not_false, if_true, List.length_cons]
    omega
section
variable {P : Program} {w : World} {K : PySem.W.Frag} {mg : Str → Option Value} {base : Heap}
structure HandsOk (hs : List HR) : Prop where
  len : hs.length ≤ 12
  good : ∀ h ∈ hs, GoodHand h
  sum : (hs.map fun h => needs h.wd).sum ≤ 20
  nz : ∀ h ∈ hs, 0 ≤ needs h.wd
  one : ∃ h ∈ hs, h.wd ≠ "out" ∧ h.wd ≠ "in"
def sp_law_hands (K : PySem.W.Frag) : Sp := fun vs H Q _ => ∃ (f c : Addr) (m : Int), vs = [.ref f, .int m] ∧ 1 ≤ m ∧ m ≤ 8 ∧ Flow H f c ∧
  ∀ (p : Addr) (xs : List V) (hs : List HR) (H' : Hp), H p = none → H' p = some (.lst xs) → All2 (HandAt H') xs hs → HandsOk hs → Flow H' f c → But f H H' → Q (.ref p) H'
theorem ok_law_hands {f : Addr} {fd : FuncData} (F : Fun K "_law_hands" "_law_hands" s_law_hands f fd) {C : Addr} (T : Top K mg C) : FnOk P w K mg base CX0 4 f fd ["_law_flow_here", "_law_many"] (sp_law_hands K) := by
  obtain ⟨f_law_shuffled, fd_law_shuffled, F_law_shuffled, b_law_shuffled, m_law_shuffled⟩ := T.d_law_shuffled
  have G_law_shuffled := ok_law_shuffled (P := P) (w := w) (base := base) F_law_shuffled T
  obtain ⟨f_law_rule, fd_law_rule, F_law_rule, b_law_rule, m_law_rule⟩ := T.d_law_rule
  have G_law_rule := ok_law_rule (P := P) (w := w) (base := base) F_law_rule T
  obtain ⟨f_law_needs, fd_law_needs, F_law_needs, b_law_needs, m_law_needs⟩ := T.d_law_needs
  have G_law_needs := ok_law_needs (P := P) (w := w) (base := base) F_law_needs T
  obtain ⟨f_law_pick, fd_law_pick, F_law_pick, b_law_pick, m_law_pick⟩ := T.d_law_pick
  have G_law_pick := ok_law_pick (P := P) (w := w) (base := base) F_law_pick T
  refine F.ok sc_law_hands (fun vs H Q E h => ?_) (fun cdv A outer s H vs Q E hr h => ?_)
  · obtain ⟨f, c, m, rfl, _⟩ := h
    rfl
  obtain ⟨f, c, m, rfl, m1, m8, hF, q⟩ := h
  let R1 : TS := fun D' σ' H' => D'.rt = Q ∧ ∃ (sl : Addr) (ss : List Str), σ' = [some (.ref f), some (.int m), some (.ref sl), none, none, none, none, none, none, none] ∧ H' sl = some (.lst (ss.map V.str)) ∧ sl ≠ f ∧ ss.length ≤ 12 ∧ ("hand" : Str) ∈ ss ∧ (∀ s ∈ ss, s = "in" ∨ s = "out" ∨ s = "hand") ∧ Flow H' f c ∧ But f H H'
  refine ⟨_, (pss_cons (ps_set (i := 2) sc_law_hands.nd rfl (Or.inl rfl) (pe_op op_cat (pe_op op_cat (pe_op op_rep (pe_lst (pa_cons pe_str pa_nil)) (pe_call G_law_pick (hr.mono (by decide)) (by rfl) m_law_pick F_law_pick.kp b_law_pick .nil pass0 (pa_cons (pv 0) (pa_cons pe_int pa_nil)))) (pe_op op_rep (pe_lst (pa_cons pe_str pa_nil)) (pe_call G_law_pick (hr.mono (by decide)) (by rfl) m_law_pick F_law_pick.kp b_law_pick .nil pass0 (pa_cons (pv 0) (pa_cons pe_int pa_nil))))) (pe_op op_rep (pe_lst (pa_cons pe_str pa_nil)) (pv 1))))
      (pss_cons (ps_set (i := 2) sc_law_hands.nd rfl (Or.inl rfl) (pe_call G_law_shuffled (hr.mono (by decide)) (by rfl) m_law_shuffled F_law_shuffled.kp b_law_shuffled .nil pass0 (pa_cons (pv 0) (pa_cons (pv 2) pa_nil))))
      (PSs.to (pss_cons (ps_set (i := 3) sc_law_hands.nd rfl (Or.inl rfl) pe_int)
      (pss_cons (ps_set (i := 4) sc_law_hands.nd rfl (Or.inl rfl) (pe_lst pa_nil))
      (pss_cons (ps_for PassesOwn.never rfl (pi_enum (by rfl) T.m_enumerate (pa_cons (pv 2) pa_nil)) (pg_tupK K rfl rfl (pgs_cons (pg_name (i := 5) sc_law_hands.nd rfl (Or.inl rfl)) (pgs_cons (pg_name (i := 6) sc_law_hands.nd rfl (Or.inl rfl)) pgs_nil)))
        (pss_cons (ps_if (pt_cmpR op_eq (pv 6) pe_str (nomark _)) (pss_cons (ps_set (i := 7) sc_law_hands.nd rfl (Or.inl rfl) (pe_callB (call_len_seqK K rfl) (by rfl) T.m_len (by decide +kernel) (pa_cons (pe_lc (own := [("_law_other", 8)]) (g := gName 8) (by rfl) sc_law_hands.nd (pi_listK K rfl (pe_slice (sl_listK K rfl) (pv 2) (po_some (pe_op op_add (pv 5) pe_int)) po_none)) (blkOk_by (own := [("_law_other", 8)]) (N := N_law_hands) (sc := defScope s_law_hands) (by decide +kernel)) (fun _ _ _ _ _ => (pg_name (i := 8) sc_law_hands.nd rfl (Or.inl rfl))) (fun _ _ _ _ _ => pts_one (pt_cmpR op_ne (pv 8) pe_str (nomark _))) (fun _ _ _ _ _ => (pv 8))) pa_nil)))
      (pss_cons (ps_set (i := 9) sc_law_hands.nd rfl (Or.inl rfl) (pe_call G_law_rule (hr.mono (by decide)) (by rfl) m_law_rule F_law_rule.kp b_law_rule .nil pass0 (pa_cons (pv 0) (pa_cons (pe_op op_sub (pv 3) (pv 7)) pa_nil))))
      (pss_one (ps_expr (pe_bmK K rfl PySem.F.plainAttrs_list PySem.F.slot_list_append PySem.F.type_list_append mt_append (pv 4) (pa_cons (pe_tup (pa_cons (pv 9) (pa_cons (pe_call G_law_pick (hr.mono (by decide)) (by rfl) m_law_pick F_law_pick.kp b_law_pick .nil pass0 (pa_cons (pv 0) (pa_cons (pe_ix (ix_listK K rfl) (pe_lst (pa_cons pe_int (pa_cons pe_int (pa_cons pe_int pa_nil)))) (pe_call G_law_pick (hr.mono (by decide)) (by rfl) m_law_pick F_law_pick.kp b_law_pick .nil pass0 (pa_cons (pv 0) (pa_cons pe_int pa_nil))) (fun _ _ => rfl)) pa_nil))) pa_nil))) pa_nil)))))) (pss_one (ps_expr (pe_bmK K rfl PySem.F.plainAttrs_list PySem.F.slot_list_append PySem.F.type_list_append mt_append (pv 4) (pa_cons (pe_tup (pa_cons (pe_tup (pa_cons (pv 6) pa_nil)) (pa_cons pe_int pa_nil))) pa_nil)))))
      (pss_one (ps_set (i := 3) sc_law_hands.nd rfl (Or.inl rfl) (pe_op op_sub (pv 3) (pe_call G_law_needs (hr.mono (by decide)) (by rfl) m_law_needs F_law_needs.kp b_law_needs .nil pass0 (pa_cons (pe_ix (ix_tupK K rfl) (pe_ix (ix_listK K rfl) (pv 4) (pe_un un_neg pe_int) (fun _ _ => rfl)) pe_int (fun _ _ => rfl)) pa_nil)))))))
      (pss_one (ps_ret (pv 4)))))) R1 ?tail1))), ?_⟩
  case tail1 =>
    rintro D' σ' H1 ⟨eD, sl, ss, rfl, hsl, nsl, hlen, hhand, hall, F1, B1⟩
    refine ⟨(by show 0 ≤ sizeLine; decide), fun hh nhh => ?_⟩
    have I0 : HInv f c sl hh ss H (upd H1 hh (.lst [])) 0 [] [] 20 :=
      { fl := F1.new nhh, bt := B1.new nhh, hsl := same_new nhh _ _ hsl, hhh := upd_same, al := .nil, len := rfl, good := (fun _ h => nomatch h), lf := by have := cnt_le (ss.drop 0); rw [List.length_drop] at this; omega, sum := rfl, nz := (fun _ h => nomatch h), one := (fun h => nomatch h), n1 := nsl, n2 := ne_of_none hsl nhh, n3 := F1.ne nhh, n4 := F1.nec nhh, n5 := B1.none nhh (F1.ne nhh) }
    refine ⟨_, rfl, sl, _, rfl, SqL.of I0.hsl, for_it (n := ss.length) (fun i σ H2 => ∃ (vs : List V) (hs : List HR) (left : Int) (v5 v6 v7 v8 v9 : Option V), σ = [some (.ref f), some (.int m), some (.ref sl), some (.int left), some (.ref hh), v5, v6, v7, v8, v9] ∧ HInv f c sl hh ss H H2 i vs hs left)
      ⟨[], [], 20, none, none, none, none, none, rfl, I0⟩ ?_ ?_ ?_ ?_⟩
    · rintro i σ H2 hi ⟨vs, hs, left, v5, v6, v7, v8, v9, rfl, I⟩
      exact ⟨_, _, SqL.of I.hsl, by rw [List.getElem?_map, List.getElem?_eq_getElem hi]; rfl⟩
    · rintro σ H2 ⟨vs, hs, left, v5, v6, v7, v8, v9, rfl, I⟩
      exact ⟨_, SqL.of I.hsl, by rw [List.length_map]; exact Nat.le_refl _⟩
    · rintro i x σ H2 H3 hi ⟨vs, hs, left, v5, v6, v7, v8, v9, rfl, I⟩ ⟨t, y, rfl, nt, rfl, fy⟩
      have ei : ss[i]? = some ss[i] := List.getElem?_eq_getElem hi
      obtain ⟨sd, hsd⟩ : ∃ sd, sd = ss[i] := ⟨_, rfl⟩
      rw [← hsd] at ei
      have ey : y = V.str sd := by
        have := fy _ (SqL.of I.hsl)
        rw [List.getElem?_map, ei] at this
        exact (Option.some.inj this).symm
      subst ey
      have I1 := I.new (o := .tup [V.int ((i : Nat) : Int), V.str sd]) nt
      have hc1 := cnt_cons ei
      have hl := I.lf
      have sz : vs.length < sizeLine := small1000 (by rw [I.al.length, I.len]; omega)
      refine ⟨t, _, rfl, SqT.of upd_same, rfl, _, _, rfl, _, _, rfl, rfl, ?_⟩
      refine ⟨_, rfl, rfl, _, rfl, if_str (fun e => ?_) (fun e => ?_)⟩
      · -- a hand
        refine ⟨_, rfl, _, rfl, _, _, rfl, rfl, _, rfl, sl, _, rfl, SqL.of I1.hsl, fun cp ncp => ?_⟩
        have I2 := I1.new (o := .lst (cutV (ss.map V.str) (some (((i : Nat) : Int) + 1)) none)) ncp
        have ecut : cutV (ss.map V.str) (some (((i : Nat) : Int) + 1)) none = (ss.drop (i + 1)).map V.str := by
          rw [show ((i : Nat) : Int) + 1 = ((i + 1 : Nat) : Int) by omega, cut_drop, List.map_drop]
        refine ⟨cp, rfl, ⟨_, SqL.of upd_same⟩, fun D nD => lc_list (K := K) (a := cp) (xs := cutV (ss.map V.str) (some (((i : Nat) : Int) + 1)) none) (fun j H5 => ∃ acc : List V, H5 D = some (.lst acc) ∧ acc.length = cnt ((ss.drop (i + 1)).take j) ∧ H5 cp = some (.lst (cutV (ss.map V.str) (some (((i : Nat) : Int) + 1)) none)) ∧ HInv f c sl hh ss H H5 i vs hs left ∧ D ≠ cp ∧ D ≠ f ∧ D ≠ c ∧ D ≠ sl ∧ D ≠ hh ∧ H D = Option.none)
          ⟨[], upd_same, rfl, same_new nD _ _ upd_same, I2.new nD, (ne_of_none upd_same nD).symm, I2.fl.ne nD, I2.fl.nec nD, (ne_of_none I2.hsl nD).symm, (ne_of_none I2.hhh nD).symm, I2.bt.none nD (I2.fl.ne nD)⟩ (fun j H5 _ ⟨_, _, _, h, _⟩ => SqL.of h) ?_ ?_⟩
        · rintro j z H5 hz ⟨acc, hD, hacc, hcp, I5, d1, d2, d3, d4, d5, d6⟩
          rw [ecut, List.getElem?_map] at hz
          cases ez : (ss.drop (i + 1))[j]? with
          | none => rw [ez] at hz; cases hz
          | some so =>
            rw [ez] at hz
            obtain rfl : V.str so = z := Option.some.inj hz
            refine ⟨rfl, _, rfl, rfl, _, rfl, if_bl (fun k => ?_) (fun k => ?_)⟩
            · have k2 : ¬ so = "in" := fun y => by
                rw [y] at k
                exact absurd k (by decide +kernel)
              refine ⟨_, rfl, acc, hD, ?_, acc ++ [V.str so], upd_same, ?_, by rw [upd_ne d1.symm]; exact hcp, ?_, d1, d2, d3, d4, d5, d6⟩
              · rw [hacc]
                have := cnt_le ((ss.drop (i + 1)).take j)
                rw [List.length_take, List.length_drop] at this
                exact small1000 (by omega)
              · rw [List.length_append, hacc, List.take_add_one, ez]
                unfold cnt
                rw [List.filter_append, List.length_append]
                simp [k2]
              · exact { I5 with fl := I5.fl.lst d2 d3, bt := I5.bt.own d6, hsl := by rw [upd_ne d4.symm]; exact I5.hsl, hhh := by rw [upd_ne d5.symm]; exact I5.hhh, al := I5.al.imp fun _ _ y => y.keep (TK.lst hD) }
            · have k2 : so = "in" := by
                by_cases y : so = "in"
                · exact y
                · have k3 : (!decide (V.str so = V.str "in")) = false := k
                  rw [decide_eq_false (fun y2 => y (V.str.inj y2))] at k3
                  cases k3
              refine ⟨acc, hD, ?_, hcp, I5, d1, d2, d3, d4, d5, d6⟩
              rw [hacc, List.take_add_one, ez]
              unfold cnt
              rw [List.filter_append, List.length_append]
              simp [k2]
        · rintro H5 ⟨acc, hD, hacc, hcp, I5, d1, d2, d3, d4, d5, d6⟩
          have hacc2 : acc.length = cnt (ss.drop (i + 1)) := by
            rw [hacc, List.take_of_length_le]
            rw [ecut, List.length_map]
            exact Nat.le_refl _
          have hm0 : 0 ≤ left - ((acc.length : Nat) : Int) := by
            have hne : ¬ sd = "in" := by rw [e]; decide +kernel
            rw [hacc2]
            rw [hc1, if_neg hne] at hl
            omega
          refine ⟨D, _, rfl, .inl (SqL.of hD), ?_⟩
          refine ⟨_, rfl, _, rfl, _, rfl, _, _, rfl, rfl, f, c, _, rfl, hm0, I5.fl, fun r hR H6 hr6 gR n1 n0 mo F6 B6 => ?_⟩
          have I6 := I5.but F6 B6
          refine ⟨_, rfl, .inl ⟨rfl, _, SqL.of I6.hhh⟩, _, rfl, _, rfl, (by show 3 ≤ sizeLine; decide), fun ml nml => ?_⟩
          have I7 := I6.new (o := .lst [V.int 5, V.int 5, V.int 31]) nml
          refine ⟨_, rfl, f, c, 3, rfl, by decide, by decide +kernel, I7.fl, fun z H8 z0 z3 F8 B8 => ?_⟩
          have I8 := I7.but F8 B8
          have hml := B8 _ _ upd_same (I6.fl.ne nml)
          obtain ⟨mm, hmm, mk⟩ : ∃ mm : Int, atI [V.int 5, V.int 5, V.int 31] z = some (.int mm) ∧ (mm = 5 ∨ mm = 31) := by
            have : z = 0 ∨ z = 1 ∨ z = 2 := by omega
            rcases this with rfl | rfl | rfl
            · exact ⟨5, rfl, .inl rfl⟩
            · exact ⟨5, rfl, .inl rfl⟩
            · exact ⟨31, rfl, .inr rfl⟩
          refine ⟨ml, _, _, _, rfl, rfl, SqL.of hml, hmm, f, c, mm, rfl, by omega, (by rcases mk with rfl | rfl <;> decide +kernel), I8.fl, fun mo2 H9 o0 o1 F9 B9 => ?_⟩
          have I9 := I8.but F9 B9
          refine ⟨(by show 2 ≤ sizeLine; decide), fun t2 nt2 => ?_⟩
          have I10 := I9.new (o := .tup [V.ref r, V.int mo2]) nt2
          have sz10 : vs.length < sizeLine := sz
          refine ⟨hh, _, _, rfl, rfl, I10.hhh, sz10, ?_⟩
          have k9 : TK H6 H9 := ((TK.new nml).trans (TK.but I7.fl B8)).trans (TK.but I8.fl B9)
          have hx : HandAt (upd H9 t2 (.tup [V.ref r, V.int mo2])) (V.ref t2) ⟨hR.wd, hR.no, mo2⟩ := ⟨t2, r, rfl, upd_same, TK.new nt2 _ _ (k9 _ _ hr6)⟩
          have gd : GoodHand ⟨hR.wd, hR.no, mo2⟩ := ⟨.inl ⟨gR.wd, gR.no, gR.big⟩, o0, (show mo2 ≤ 30 by omega)⟩
          have nout : hR.wd ≠ "out" ∧ hR.wd ≠ "in" := ⟨fun y => by
            have := gR.wd
            rw [y] at this
            exact absurd this (by decide +kernel), fun y => by
            have := gR.wd
            rw [y] at this
            exact absurd this (by decide +kernel)⟩
          have I11 := I10.step (h := ⟨hR.wd, hR.no, mo2⟩) hx gd n0 (by show needs hR.wd + _ ≤ left; rw [hacc2] at n1; omega) ei (fun _ => nout)
          refine ⟨_, rfl, _, rfl, 1, rfl, hh, _, -1, _, rfl, rfl, SqL.of I11.hhh, atI_last _ _, t2, _, _, _, rfl, rfl, SqT.of (TK.lst I10.hhh _ _ upd_same), atI_nat (j := 0) rfl, r, hR.wd, _, rfl, SqT.of (TK.lst I10.hhh _ _ (TK.new nt2 _ _ (k9 _ _ hr6))), fun H12 s12 => ⟨_, _, rfl, rfl, ?_⟩⟩
          exact ⟨_, _, _, _, _, _, _, _, rfl, I11.same s12⟩
      · -- a door
        refine ⟨_, rfl, .inl ⟨rfl, _, SqL.of I1.hhh⟩, _, rfl, (by show 1 ≤ sizeLine; decide), fun r nr => ⟨(by show 2 ≤ sizeLine; decide), fun t2 nt2 => ?_⟩⟩
        have I2 := (I1.new (o := .tup [V.str sd]) nr).new (o := .tup [V.ref r, V.int 0]) nt2
        refine ⟨hh, _, _, rfl, rfl, I2.hhh, sz, ?_⟩
        have hsd2 : sd = "in" ∨ sd = "out" := by
          rcases hall sd (List.mem_of_getElem? ei) with y | y | y
          · exact .inl y
          · exact .inr y
          · exact absurd y e
        have hn : needs sd = (if sd = "in" then 0 else 1) := by
          rcases hsd2 with y | y <;> rw [y] <;> decide +kernel
        have hx : HandAt (upd (upd (upd H2 t (.tup [V.int ((i : Nat) : Int), V.str sd])) r (.tup [V.str sd])) t2 (.tup [V.ref r, V.int 0])) (V.ref t2) ⟨sd, none, 0⟩ := ⟨t2, r, rfl, upd_same, same_new nt2 _ _ upd_same⟩
        have I3 := I2.step (h := ⟨sd, none, 0⟩) hx ⟨.inr ⟨hsd2, rfl⟩, (show (0 : Int) ≤ 0 by decide), (show (0 : Int) ≤ 30 by decide)⟩ (by show 0 ≤ needs sd; rw [hn]; split <;> decide) (by
          show needs sd + _ ≤ left
          rw [hn]
          rw [hc1] at hl
          by_cases y : sd = "in"
          · rw [if_pos y] at hl ⊢; omega
          · rw [if_neg y] at hl ⊢; omega) ei (fun y => absurd y e)
        refine ⟨_, rfl, _, rfl, 1, rfl, hh, _, -1, _, rfl, rfl, SqL.of I3.hhh, atI_last _ _, t2, _, _, _, rfl, rfl, SqT.of (TK.lst I2.hhh _ _ upd_same), atI_nat (j := 0) rfl, r, sd, _, rfl, SqT.of (TK.lst I2.hhh _ _ (same_new nt2 _ _ upd_same)), fun H12 s12 => ⟨_, _, rfl, rfl, ?_⟩⟩
        exact ⟨_, _, _, _, _, _, _, _, rfl, I3.same s12⟩
    · rintro σ H2 ⟨vs, hs, left, v5, v6, v7, v8, v9, rfl, I⟩
      refine ⟨_, rfl, ?_⟩
      rw [eD]
      refine q hh vs hs H2 I.n5 I.hhh I.al ⟨by rw [I.len]; exact hlen, I.good, ?_, I.nz, I.one (by rw [List.take_length]; exact hhand)⟩ I.fl I.bt
      have := I.sum
      have := I.lf
      omega
  refine ⟨(by show 1 ≤ sizeLine; decide), fun l1 nl1 => ?_⟩
  refine ⟨_, rfl, f, c, 3, rfl, by decide, by decide +kernel, hF.new nl1, fun v1 H1 a1 b1 F1 B1 => ?_⟩
  have g1 := B1 _ _ upd_same (hF.ne nl1)
  have small : ∀ v : Int, 0 ≤ v → v ≤ 8 → [V.str "in"].length * v.toNat ≤ sizeLine := fun v v0 v8 => little (by show 1 * v.toNat ≤ 1000; omega)
  refine ⟨l1, v1, _, rfl, rfl, g1, by omega, by omega, small v1 a1 (by omega), fun p1 np1 => ?_⟩
  rw [flat_rep]
  have F2 := F1.new (o := .lst (List.replicate v1.toNat (V.str "in"))) np1
  refine ⟨(by show 1 ≤ sizeLine; decide), fun l2 nl2 => ?_⟩
  refine ⟨_, rfl, f, c, 3, rfl, by decide, by decide +kernel, F2.new nl2, fun v2 H3 a2 b2 F3 B3 => ?_⟩
  have g2 := B3 _ _ upd_same (F2.ne nl2)
  have h1 := B3 _ _ (same_new nl2 _ _ upd_same) (F1.ne np1)
  refine ⟨l2, v2, _, rfl, rfl, g2, by omega, by omega, small v2 a2 (by omega), fun p2 np2 => ?_⟩
  rw [flat_rep]
  have F4 := F3.new (o := .lst (List.replicate v2.toNat (V.str "out"))) np2
  refine ⟨p1, p2, _, _, rfl, rfl, same_new np2 _ _ h1, upd_same, ?_, fun p3 np3 => ?_⟩
  · rw [List.length_replicate, List.length_replicate]; exact little (by omega)
  have F5 := F4.new (o := .lst (List.replicate v1.toNat (V.str "in") ++ List.replicate v2.toNat (V.str "out"))) np3
  refine ⟨(by show 1 ≤ sizeLine; decide), fun l4 nl4 => ⟨_, rfl, l4, m, _, rfl, rfl, upd_same, by omega, by omega, small m (by omega) m8, fun p5 np5 => ?_⟩⟩
  rw [flat_rep]
  have F6 := F5.new (o := .lst [V.str "hand"]) nl4
  have F7 := F6.new (o := .lst (List.replicate m.toNat (V.str "hand"))) np5
  refine ⟨p3, p5, _, _, rfl, rfl, same_new np5 _ _ (same_new nl4 _ _ upd_same), upd_same, ?_, fun p6 np6 => ?_⟩
  · rw [List.length_append, List.length_replicate, List.length_replicate, List.length_replicate]; exact little (by omega)
  refine ⟨_, rfl, _, rfl, f, c, p6, _, rfl, SqL.of upd_same, F7.ne np6, ?_, F7.new np6, fun p ys H8 hp np hy F8 B8 => ?_⟩
  · rw [List.length_append, List.length_append, List.length_replicate, List.length_replicate, List.length_replicate]; omega
  have ez : (List.replicate v1.toNat (V.str "in") ++ List.replicate v2.toNat (V.str "out")) ++ List.replicate m.toNat (V.str "hand") = ((List.replicate v1.toNat ("in" : Str) ++ List.replicate v2.toNat ("out" : Str)) ++ List.replicate m.toNat ("hand" : Str)).map V.str := by
    rw [List.map_append, List.map_append, List.map_replicate, List.map_replicate, List.map_replicate]
  rw [ez] at hp
  obtain ⟨ss, rfl, hss⟩ := perm_strs hp
  have pf : p ≠ f := fun y => by
    rw [y] at np
    obtain ⟨_, _, _, _, _, e1, _⟩ := F7.new (o := .lst ((List.replicate v1.toNat (V.str "in") ++ List.replicate v2.toNat (V.str "out")) ++ List.replicate m.toNat (V.str "hand"))) np6
    rw [e1] at np
    cases np
  refine ⟨rfl, p, ss, rfl, hy, pf, ?_, ?_, ?_, F8, But.trans ((((((((((But.refl.new nl1).trans B1).new np1).new nl2).trans B3).new np2).new np3).new nl4).new np5).new np6) B8⟩
  · rw [hss.length_eq, List.length_append, List.length_append, List.length_replicate, List.length_replicate, List.length_replicate]; omega
  · refine hss.mem_iff.mpr (List.mem_append_right _ (List.mem_replicate.mpr ⟨by omega, rfl⟩))
  · intro s hs
    rcases List.mem_append.mp (hss.mem_iff.mp hs) with hs | hs
    · rcases List.mem_append.mp hs with hs | hs
      · exact .inl (List.mem_replicate.mp hs).2
      · exact .inr (.inl (List.mem_replicate.mp hs).2)
    · exact .inr (.inr (List.mem_replicate.mp hs).2)
end
/-! ### rules as data -/
abbrev ruleD (h : HR) : List PyData := .str h.wd :: (match h.no with | none => [] | some n => [.int n])
theorem rule_dp {K : PySem.W.Frag} {H : Hp} {r : Addr} {h : HR} (e : H r = some (.tup (ruleL h))) : Dp K H (.ref r) (.tuple (ruleD h)) := by
  obtain ⟨wd, no, mom⟩ := h
  cases no with
  | none => exact .tup (SqT.of e) (.cons (.str _) .nil)
  | some n => exact .tup (SqT.of e) (.cons (.str _) (.cons (.int _) .nil))
theorem rule_shaped {h : HR} (k : PyData.canLay0 (.str h.wd) = true) : SeqAt.shaped (.tuple (ruleD h)) = true := by
  obtain ⟨wd, no, mom⟩ := h
  have k : PyData.canLay0 (.str wd) = true := k
  cases no <;> simp [SeqAt.shaped, PyData.canLay0, PyData.canLayAll0, PyData.depth, PyData.depthAll] <;> simpa [PyData.canLay0] using k
theorem GoodHand.lay {h : HR} (g : GoodHand h) : PyData.canLay0 (.str h.wd) = true := by
  have : h.wd ∈ nine ∨ h.wd = "in" ∨ h.wd = "out" := g.1.elim (fun k => .inl k.wd) (fun k => .inr k.1)
  rcases this with k | k | k
  · unfold nine at k
    simp only [List.mem_cons, List.not_mem_nil, or_false] at k
    rcases k with k | k | k | k | k | k | k | k | k <;> rw [k] <;> decide +kernel
  · rw [k]; decide +kernel
  · rw [k]; decide +kernel
theorem one_shaped {z : Str} (k : PyData.canLay0 (.str z) = true) : SeqAt.shaped (.tuple [.str z]) = true := rule_shaped (h := ⟨z, none, 0⟩) k
theorem at0 {xs : List V} {i : Nat} {v : V} (h : xs[i]? = some v) : atI xs (0 + ((i : Nat) : Int)) = some v := by
  rw [Int.zero_add]
  exact atI_nat h
theorem rule_eqv (h : HR) (z : Str) : PyData.eqv (.tuple (ruleD h)) (.tuple [.str z]) = (decide (h.wd = z) && h.no.isNone) := by
  obtain ⟨wd, no, mom⟩ := h
  have e : (wd == z) = decide (wd = z) := by
    by_cases k : wd = z
    · rw [k, decide_eq_true rfl]; exact beq_self_eq_true z
    · rw [decide_eq_false k]; exact beq_eq_false_iff_ne.mpr k
  cases no with
  | none =>
    show (wd == z && true) = (decide (wd = z) && true)
    rw [e]
  | some n =>
    show (wd == z && false) = (decide (wd = z) && false)
    rw [Bool.and_false, Bool.and_false]
theorem GoodHand.door {h : HR} (g : GoodHand h) (z : Str) (hz : z = "in" ∨ z = "out") : (decide (h.wd = z) && h.no.isNone) = decide (h.wd = z) := by
  by_cases k : h.wd = z
  · rw [decide_eq_true k, Bool.true_and]
    rcases g.1 with g | g
    · have := g.wd
      rw [k] at this
      rcases hz with rfl | rfl <;> exact absurd this (by decide +kernel)
    · rw [g.2]; rfl
  · rw [decide_eq_false k]; rfl
/-! ### numbers in lists -/
abbrev nV (n : Nat) : V := .int (n : Nat)
def unN : V → Nat
  | .int i => i.toNat
  | _ => 0
def unI : V → Int
  | .int i => i
  | _ => 0
theorem perm_inv {α : Type} {f : α → V} {g : V → α} (k : ∀ a, g (f a) = a) {ys : List V} {zs : List α} (h : ys.Perm (zs.map f)) : ∃ ss : List α, ys = ss.map f ∧ ss.Perm zs := by
  refine ⟨ys.map g, ?_, ?_⟩
  · rw [List.map_map]
    symm
    refine (List.map_congr_left (g := id) fun y hy => ?_).trans (List.map_id _)
    obtain ⟨z, _, e⟩ := List.mem_map.mp (h.mem_iff.mp hy)
    subst e
    show f (g (f z)) = f z
    rw [k]
  · have q := h.map g
    rw [List.map_map] at q
    have e : zs.map (g ∘ f) = zs := (List.map_congr_left (g := id) fun z _ => k z).trans (List.map_id _)
    rw [e] at q
    exact q
def nd (hs : List HR) (j : Nat) : Nat := match hs[j]? with | some h => (needs h.wd).toNat | none => 0
def tkTo (hs : List HR) : Nat → List Nat
  | 0 => []
  | n + 1 => tkTo hs n ++ List.replicate (nd hs n) n
theorem tk_count (hs : List HR) (k : Nat) : ∀ n, (tkTo hs n).count k = if k < n then nd hs k else 0
  | 0 => by simp [tkTo]
  | n + 1 => by
    unfold tkTo
    rw [List.count_append, tk_count hs k n, List.count_replicate]
    by_cases h1 : k < n
    · have h2 : ¬ (n == k) = true := by simp; omega
      rw [if_pos h1, if_neg h2, if_pos (show k < n + 1 by omega), Nat.add_zero]
    · by_cases h2 : n = k
      · subst h2
        rw [if_neg h1, if_pos (beq_self_eq_true n), if_pos (show n < n + 1 by omega), Nat.zero_add]
      · have h3 : ¬ (n == k) = true := by simpa using h2
        rw [if_neg h1, if_neg h3, if_neg (show ¬ k < n + 1 by omega)]
theorem tk_mem (hs : List HR) : ∀ n k, k ∈ tkTo hs n → k < n
  | 0, k, h => nomatch h
  | n + 1, k, h => by
    rcases List.mem_append.mp h with h | h
    · exact Nat.lt_succ_of_lt (tk_mem hs n k h)
    · rw [(List.mem_replicate.mp h).2]; exact Nat.lt_succ_self n
theorem tk_len (hs : List HR) (z : ∀ h ∈ hs, 0 ≤ needs h.wd) : ∀ n, n ≤ hs.length → ((tkTo hs n).length : Int) = ((hs.take n).map fun h => needs h.wd).sum
  | 0, _ => rfl
  | n + 1, hn => by
    have e : hs[n]? = some hs[n] := List.getElem?_eq_getElem (by omega)
    unfold tkTo
    rw [List.length_append, List.length_replicate, List.take_add_one, e, List.map_append, List.sum_append, Int.natCast_add, tk_len hs z n (by omega)]
    unfold nd
    rw [e]
    have := z hs[n] (List.getElem_mem _)
    simp only [Option.toList, List.map_cons, List.map_nil, List.sum_cons, List.sum_nil]
    omega
structure RoomOk (hs : List HR) (bs : List BR) : Prop where
  hands : hs.length ≤ 12
  good : ∀ h ∈ hs, GoodHand h
  ends : ∀ b ∈ bs, b.one < hs.length ∧ b.to < hs.length
  out : ∀ b ∈ bs, ∀ h, hs[b.one]? = some h → h.wd ≠ "out"
  th : ∀ b ∈ bs, b.th.length ≤ 300 ∧ True
  rank : ∃ rk : Nat → Int, ∀ b ∈ bs, b.th = [] → rk b.one < rk b.to
  count : ∀ k h, hs[k]? = some h → (((bs.map BR.to).count k : Nat) : Int) = needs h.wd
  many : bs.length ≤ 20
structure RoomAt (H : Hp) (r : Addr) (hs : List HR) (bs : List BR) : Prop where
  ex : ∃ (ha ba : Addr) (hv bv : List V), H r = some (.tup [.ref ha, .ref ba]) ∧ H ha = some (.tup hv) ∧ H ba = some (.tup bv) ∧ All2 (HandAt H) hv hs ∧ All2 (BeltAt H) bv bs
theorem RoomAt.keep {H H' : Hp} {r : Addr} {hs : List HR} {bs : List BR} (a : RoomAt H r hs bs) (k : TK H H') : RoomAt H' r hs bs := by
  obtain ⟨ha, ba, hv, bv, e1, e2, e3, a1, a2⟩ := a.ex
  exact ⟨ha, ba, hv, bv, k _ _ e1, k _ _ e2, k _ _ e3, a1.imp fun _ _ z => z.keep k, a2.imp fun _ _ z => z.keep k⟩
section
variable {P : Program} {w : World} {K : PySem.W.Frag} {mg : Str → Option Value} {base : Heap}
def sp_law_room (K : PySem.W.Frag) : Sp := fun vs H Q _ => ∃ (f c : Addr) (m : Int), vs = [.ref f, .int m] ∧ 1 ≤ m ∧ m ≤ 8 ∧ Flow H f c ∧
  ∀ (r : Addr) (hs : List HR) (bs : List BR) (H' : Hp), RoomAt H' r hs bs → RoomOk hs bs → (∃ h ∈ hs, h.wd ≠ "out" ∧ h.wd ≠ "in") → (∀ b ∈ bs, b.th.length ≤ 6) → Flow H' f c → But f H H' → Q (.ref r) H'
/-- what stands while a room is drawn: the draws, the list of its hands -/
structure RI (f c hh : Addr) (H0 H : Hp) (xs : List V) (hs : List HR) : Prop where
  fl : Flow H f c
  bt : But f H0 H
  lh : H hh = some (.lst xs)
  al : All2 (HandAt H) xs hs
  n1 : hh ≠ f
  n2 : H0 hh = none
section
variable {f c hh : Addr} {H0 H H' : Hp} {xs : List V} {hs : List HR}
theorem RI.but (s : RI f c hh H0 H xs hs) (F : Flow H' f c) (b : But f H H') : RI f c hh H0 H' xs hs :=
  { s with fl := F, bt := s.bt.trans b, lh := b _ _ s.lh s.n1, al := s.al.imp fun _ _ k => k.keep (TK.but s.fl b) }
theorem RI.new {p : Addr} {o : HO} (s : RI f c hh H0 H xs hs) (n : H p = none) : RI f c hh H0 (upd H p o) xs hs :=
  { s with fl := s.fl.new n, bt := s.bt.new n, lh := same_new n _ _ s.lh, al := s.al.imp fun _ _ k => k.keep (TK.new n) }
theorem RI.same (s : RI f c hh H0 H xs hs) (k : Same H H') : RI f c hh H0 H' xs hs :=
  { s with fl := s.fl.same k, bt := s.bt.same k, lh := k _ _ s.lh, al := s.al.imp fun _ _ z => z.keep (TK.same k) }
theorem RI.lst {D : Addr} {as bs : List V} (s : RI f c hh H0 H xs hs) (h : H D = some (.lst as)) (d1 : D ≠ f) (d2 : D ≠ c) (d3 : D ≠ hh) (d4 : H0 D = none) : RI f c hh H0 (upd H D (.lst bs)) xs hs :=
  { s with fl := s.fl.lst d1 d2, bt := s.bt.own d4, lh := by rw [upd_ne d3.symm]; exact s.lh, al := s.al.imp fun _ _ z => z.keep (TK.lst h) }
end
theorem ok_law_room {f : Addr} {fd : FuncData} (F : Fun K "_law_room" "_law_room" s_law_room f fd) {C : Addr} (T : Top K mg C) : FnOk P w K mg base CX0 5 f fd ["_law_flow_here", "_law_most"] (sp_law_room K) := by
  obtain ⟨f_law_hands, fd_law_hands, F_law_hands, b_law_hands, m_law_hands⟩ := T.d_law_hands
  have G_law_hands := ok_law_hands (P := P) (w := w) (base := base) F_law_hands T
  obtain ⟨f_law_shuffled, fd_law_shuffled, F_law_shuffled, b_law_shuffled, m_law_shuffled⟩ := T.d_law_shuffled
  have G_law_shuffled := ok_law_shuffled (P := P) (w := w) (base := base) F_law_shuffled T
  obtain ⟨f_law_pick, fd_law_pick, F_law_pick, b_law_pick, m_law_pick⟩ := T.d_law_pick
  have G_law_pick := ok_law_pick (P := P) (w := w) (base := base) F_law_pick T
  obtain ⟨f_law_needs, fd_law_needs, F_law_needs, b_law_needs, m_law_needs⟩ := T.d_law_needs
  have G_law_needs := ok_law_needs (P := P) (w := w) (base := base) F_law_needs T
  obtain ⟨f_law_thing, fd_law_thing, F_law_thing, b_law_thing, m_law_thing⟩ := T.d_law_thing
  have G_law_thing := ok_law_thing (P := P) (w := w) (base := base) F_law_thing T
  refine F.ok sc_law_room (fun vs H Q E h => ?_) (fun cdv A outer s H vs Q E hr h => ?_)
  · obtain ⟨f, c, m, rfl, _⟩ := h
    rfl
  obtain ⟨f, c, m, rfl, m1, m8, hF, q⟩ := h
  have hm9 : m.natAbs.log2 < 9000 := by
    obtain ⟨j, rfl⟩ : ∃ j : Nat, m = (j : Int) := ⟨m.toNat, by omega⟩
    exact log_small (by omega)
  let R1 : TS := fun D' σ' H' => D'.rt = Q ∧ ∃ (hh rk gv : Addr) (xs : List V) (hs : List HR) (is : List Int) (gs : List Nat), σ' = [some (.ref f), some (.int m), some (.ref hh), some (.ref rk), some (.ref gv), none, none, none, none, none, none] ∧ RI f c hh H H' xs hs ∧ HandsOk hs ∧ H' rk = some (.lst (is.map V.int)) ∧ is.length = hs.length ∧ H' gv = some (.lst (gs.map nV)) ∧ gs ≠ [] ∧ gs.length ≤ 12 ∧ (∀ k ∈ gs, ∃ h, hs[k]? = some h ∧ h.wd ≠ "out") ∧ rk ≠ f ∧ gv ≠ f
  let R2 : TS := fun D' σ' H' => D'.rt = Q ∧ ∃ (hh rk gv tk : Addr) (xs : List V) (hs : List HR) (is : List Int) (gs ts : List Nat) (v5 : Option V), σ' = [some (.ref f), some (.int m), some (.ref hh), some (.ref rk), some (.ref gv), v5, some (.ref tk), none, none, none, none] ∧ RI f c hh H H' xs hs ∧ HandsOk hs ∧ H' rk = some (.lst (is.map V.int)) ∧ is.length = hs.length ∧ H' gv = some (.lst (gs.map nV)) ∧ gs ≠ [] ∧ gs.length ≤ 12 ∧ (∀ k ∈ gs, ∃ h, hs[k]? = some h ∧ h.wd ≠ "out") ∧ rk ≠ f ∧ gv ≠ f ∧ tk ≠ f ∧ H' tk = some (.lst (ts.map nV)) ∧ ts = tkTo hs hs.length
  refine ⟨_, (pss_cons (ps_set (i := 2) sc_law_room.nd rfl (Or.inr rfl) (pe_call G_law_hands (hr.mono (by decide)) (by rfl) m_law_hands F_law_hands.kp b_law_hands .nil pass0 (pa_cons (pv 0) (pa_cons (pe_op op_add pe_int (pe_call G_law_pick (hr.mono (by decide)) (by rfl) m_law_pick F_law_pick.kp b_law_pick .nil pass0 (pa_cons (pv 0) (pa_cons (pv 1) pa_nil)))) pa_nil))))
      (pss_cons (ps_set (i := 3) sc_law_room.nd rfl (Or.inl rfl) (pe_call G_law_shuffled (hr.mono (by decide)) (by rfl) m_law_shuffled F_law_shuffled.kp b_law_shuffled .nil pass0 (pa_cons (pv 0) (pa_cons (pe_listRg rfl (by rfl) T.m_list (prg_1 (by rfl) T.m_range (pe_callB (call_len_seqK K rfl) (by rfl) T.m_len (by decide +kernel) (pa_cons (pv 2) pa_nil)))) pa_nil))))
      (pss_cons (ps_setLc (i := 4) (own := [("_law_k", 5)]) (g := gName 5) (by rfl) sc_law_room.nd rfl rfl (sw_true rfl rfl rfl (by decide +kernel)) (pi_range1 (by rfl) T.m_range (pa_cons (pe_callB (call_len_seqK K rfl) (by rfl) T.m_len (by decide +kernel) (pa_cons (pv 2) pa_nil)) pa_nil)) (blkOk_by (own := [("_law_k", 5)]) (N := N_law_room) (sc := defScope s_law_room) (by decide +kernel)) (fun _ _ _ _ _ => (pg_name (i := 5) sc_law_room.nd rfl (Or.inl rfl))) (fun _ _ _ _ _ => pts_one (pt_cmpR (op_neDK K rfl hr.units) (pe_ix (ix_tupK K rfl) (pe_ix (ix_listK K rfl) (pv 2) (pv 5) (fun _ _ => rfl)) pe_int (fun _ _ => rfl)) (pe_tup (pa_cons pe_str pa_nil)) (nomark _))) (fun _ _ _ _ _ => (pv 5)))
      (PSs.to (pss_cons (ps_set (i := 6) sc_law_room.nd rfl (Or.inl rfl) (pe_lst pa_nil))
      (pss_cons (ps_for PassesOwn.never rfl (pi_range1 (by rfl) T.m_range (pa_cons (pe_callB (call_len_seqK K rfl) (by rfl) T.m_len (by decide +kernel) (pa_cons (pv 2) pa_nil)) pa_nil)) (pg_name (i := 5) sc_law_room.nd rfl (Or.inl rfl))
        (pss_one (ps_set (i := 6) sc_law_room.nd rfl (Or.inl rfl) (pe_op op_cat (pv 6) (pe_op op_rep (pe_lst (pa_cons (pv 5) pa_nil)) (pe_call G_law_needs (hr.mono (by decide)) (by rfl) m_law_needs F_law_needs.kp b_law_needs .nil pass0 (pa_cons (pe_ix (ix_tupK K rfl) (pe_ix (ix_listK K rfl) (pv 2) (pv 5) (fun _ _ => rfl)) pe_int (fun _ _ => rfl)) pa_nil)))))))
      (PSs.to (pss_cons (ps_set (i := 7) sc_law_room.nd rfl (Or.inl rfl) (pe_lst pa_nil))
      (pss_cons (ps_for PassesOwn.never rfl (pi_listK K rfl (pe_call G_law_shuffled (hr.mono (by decide)) (by rfl) m_law_shuffled F_law_shuffled.kp b_law_shuffled .nil pass0 (pa_cons (pv 0) (pa_cons (pv 6) pa_nil)))) (pg_name (i := 8) sc_law_room.nd rfl (Or.inl rfl))
        (pss_cons (ps_set (i := 9) sc_law_room.nd rfl (Or.inl rfl) (pe_ix (ix_listK K rfl) (pv 4) (pe_call G_law_pick (hr.mono (by decide)) (by rfl) m_law_pick F_law_pick.kp b_law_pick .nil pass0 (pa_cons (pv 0) (pa_cons (pe_callB (call_len_seqK K rfl) (by rfl) T.m_len (by decide +kernel) (pa_cons (pv 4) pa_nil)) pa_nil))) (fun _ _ => rfl)))
      (pss_cons (ps_set (i := 10) sc_law_room.nd rfl (Or.inl rfl) (pe_ix (ix_listK K rfl) (pe_lst (pa_cons pe_int (pa_cons pe_int (pa_cons pe_int (pa_cons pe_int (pa_cons pe_int (pa_cons pe_int (pa_cons pe_int (pa_cons pe_int pa_nil))))))))) (pe_call G_law_pick (hr.mono (by decide)) (by rfl) m_law_pick F_law_pick.kp b_law_pick .nil pass0 (pa_cons (pv 0) (pa_cons pe_int pa_nil))) (fun _ _ => rfl)))
      (pss_cons (ps_if (pt_cmpR op_ge (pe_ix (ix_listK K rfl) (pv 3) (pv 9) (fun _ _ => rfl)) (pe_ix (ix_listK K rfl) (pv 3) (pv 8) (fun _ _ => rfl)) (nomark _)) (pss_one (ps_set (i := 10) sc_law_room.nd rfl (Or.inl rfl) (pe_callB (call_max2 rfl) (by rfl) T.m_max (by decide +kernel) (pa_cons pe_int (pa_cons (pv 10) pa_nil))))) pss_nil)
      (pss_one (ps_expr (pe_bmK K rfl PySem.F.plainAttrs_list PySem.F.slot_list_append PySem.F.type_list_append mt_append (pv 7) (pa_cons (pe_tup (pa_cons (pv 9) (pa_cons (pv 8) (pa_cons (pe_callTy (call_tuple_ofK K rfl) (by rfl) T.m_tuple (by decide +kernel) (pa_cons (pe_lc (own := [("_law_k", 5)]) (g := gName 5) (tt := tYes) (by rfl) sc_law_room.nd (pi_range1 (by rfl) T.m_range (pa_cons (pv 10) pa_nil)) (blkOk_by (own := [("_law_k", 5)]) (N := N_law_room) (sc := defScope s_law_room) (by decide +kernel)) (fun _ _ _ _ _ => (pg_name (i := 5) sc_law_room.nd rfl (Or.inl rfl))) (fun _ _ _ _ _ => pts_nil) (fun _ _ _ _ _ => (pe_call G_law_thing (hr.mono (by decide)) (by rfl) m_law_thing F_law_thing.kp b_law_thing .nil pass0 (pa_cons (pv 0) pa_nil)))) pa_nil)) pa_nil)))) pa_nil))))))))
      (pss_one (ps_ret (pe_tup (pa_cons (pe_callTy (call_tuple_ofK K rfl) (by rfl) T.m_tuple (by decide +kernel) (pa_cons (pv 2) pa_nil)) (pa_cons (pe_callTy (call_tuple_ofK K rfl) (by rfl) T.m_tuple (by decide +kernel) (pa_cons (pv 7) pa_nil)) pa_nil))))))) R2 ?tail2))) R1 ?tail1)))), ?_⟩
  case tail2 =>
    rintro D' σ' H1 ⟨eD, hh, rk, gv, tk, xs, hs, is, gs, ts, v5, rfl, I1, ok, hrk, lis, hgv, gne, glen, gok, nrk, ngv, ntk, htk, ets⟩
    have hx : xs.length = hs.length := I1.al.length
    have len12 := ok.len
    have lts : ts.length ≤ 20 := by
      have a := tk_len hs ok.nz hs.length (Nat.le_refl _)
      rw [List.take_length, ← ets] at a
      have := ok.sum
      omega
    refine ⟨(by show 0 ≤ sizeLine; decide), fun bl nbl => ?_⟩
    have I2 := I1.new (o := .lst []) nbl
    refine ⟨_, rfl, _, rfl, f, c, tk, _, rfl, SqL.of (same_new nbl _ _ htk), ntk, by rw [List.length_map]; omega, I2.fl, fun sh ys H3 hp nsh hsh F3 B3 => ?_⟩
    obtain ⟨tt, rfl, htt⟩ := perm_inv (f := nV) (g := unN) (fun n => by show ((n : Nat) : Int).toNat = n; omega) hp
    have I3 := I2.but F3 B3
    have bf : bl ≠ f := I1.fl.ne nbl
    have bc : bl ≠ c := I1.fl.nec nbl
    have hbl3 := B3 _ _ upd_same bf
    have bsh : bl ≠ sh := fun e => by rw [← e, upd_same] at nsh; cases nsh
    have bnone : H bl = Option.none := I1.bt.none nbl bf
    have rank : Nat → Int := fun k => is.getD k 0
    refine ⟨sh, rfl, ⟨_, SqL.of hsh⟩, for_list (K := K) (a := sh) (xs := tt.map nV) (fun i σ H4 => ∃ (bv : List V) (bs : List BR) (v5 v8 v9 v10 : Option V), σ = [some (.ref f), some (.int m), some (.ref hh), some (.ref rk), some (.ref gv), v5, some (.ref tk), some (.ref bl), v8, v9, v10] ∧ RI f c hh H H4 xs hs ∧ H4 rk = some (.lst (is.map V.int)) ∧ H4 gv = some (.lst (gs.map nV)) ∧ H4 sh = some (.lst (tt.map nV)) ∧ H4 bl = some (.lst bv) ∧ All2 (BeltAt H4) bv bs ∧ bs.map BR.to = tt.take i ∧
        (∀ b ∈ bs, b.one < hs.length ∧ (∀ h, hs[b.one]? = some h → h.wd ≠ "out") ∧ b.th.length ≤ 6 ∧ (∀ x ∈ b.th, Small x) ∧ (b.th = [] → is.getD b.one 0 < is.getD b.to 0)))
      ⟨[], [], v5, none, none, none, rfl, I3, B3 _ _ (same_new nbl _ _ hrk) nrk, B3 _ _ (same_new nbl _ _ hgv) ngv, hsh, hbl3, .nil, rfl, (fun _ h => nomatch h)⟩ (fun i σ H4 _ ⟨_, _, _, _, _, _, _, _, _, _, h, _⟩ => SqL.of h) ?_ ?_⟩
    · rintro i y σ H4 hi ⟨bv, bs, v5, v8, v9, v10, rfl, I4, hrk4, hgv4, hsh4, hbl4, al, em, hb⟩
      rw [List.getElem?_map] at hi
      cases et : tt[i]? with
      | none => rw [et] at hi; cases hi
      | some to =>
      rw [et] at hi
      obtain rfl : nV to = y := Option.some.inj hi
      have toL : to < hs.length := tk_mem hs _ _ (by rw [← ets]; exact htt.mem_iff.mp (List.mem_of_getElem? et))
      have il : i < 20 := by have := (List.getElem?_eq_some_iff.mp et).1; rw [htt.length_eq] at this; omega
      have lb : bs.length = i := by
        have := congrArg List.length em
        rw [List.length_map, List.length_take, Nat.min_eq_left (Nat.le_of_lt (List.getElem?_eq_some_iff.mp et).1)] at this
        exact this
      have g0 : 0 < gs.length := List.length_pos_iff.mpr gne
      refine ⟨_, rfl, _, rfl, _, rfl, gv, _, rfl, .inl (SqL.of hgv4), f, c, _, rfl, (by rw [List.length_map]; omega), (by rw [List.length_map]; exact log_small (by omega)), I4.fl, fun z H5 z0 z1 F5 B5 => ?_⟩
      rw [List.length_map] at z1
      have I5 := I4.but F5 B5
      have hgv5 := B5 _ _ hgv4 ngv
      obtain ⟨one, eo, ho⟩ : ∃ one, atI (gs.map nV) z = some (nV one) ∧ one ∈ gs := by
        have hk : z.toNat < gs.length := by omega
        have ek : z = ((z.toNat : Nat) : Int) := by omega
        refine ⟨gs[z.toNat], ?_, List.getElem_mem _⟩
        have q2 : atI (gs.map nV) ((z.toNat : Nat) : Int) = some (nV gs[z.toNat]) := atI_nat (by rw [List.getElem?_map, List.getElem?_eq_getElem hk]; rfl)
        rw [← ek] at q2
        exact q2
      obtain ⟨ho1, eh1, hout⟩ := gok one ho
      have oneL : one < hs.length := (List.getElem?_eq_some_iff.mp eh1).1
      refine ⟨gv, _, _, _, rfl, rfl, SqL.of hgv5, eo, ?_⟩
      refine ⟨(by show 8 ≤ sizeLine; decide), fun tl ntl => ?_⟩
      have I6 := I5.new (o := .lst [V.int 0, V.int 0, V.int 0, V.int 1, V.int 1, V.int 2, V.int 3, V.int 6]) ntl
      refine ⟨_, rfl, f, c, 8, rfl, by decide, by decide +kernel, I6.fl, fun y2 H7 y0 y8 F7 B7 => ?_⟩
      have I7 := I6.but F7 B7
      have htl := B7 _ _ upd_same (I5.fl.ne ntl)
      obtain ⟨tr, htr, tr0, tr6⟩ : ∃ tr : Int, atI [V.int 0, V.int 0, V.int 0, V.int 1, V.int 1, V.int 2, V.int 3, V.int 6] y2 = some (.int tr) ∧ 0 ≤ tr ∧ tr ≤ 6 := by
        have : y2 = 0 ∨ y2 = 1 ∨ y2 = 2 ∨ y2 = 3 ∨ y2 = 4 ∨ y2 = 5 ∨ y2 = 6 ∨ y2 = 7 := by omega
        rcases this with rfl | rfl | rfl | rfl | rfl | rfl | rfl | rfl
        · exact ⟨0, rfl, by decide, by decide⟩
        · exact ⟨0, rfl, by decide, by decide⟩
        · exact ⟨0, rfl, by decide, by decide⟩
        · exact ⟨1, rfl, by decide, by decide⟩
        · exact ⟨1, rfl, by decide, by decide⟩
        · exact ⟨2, rfl, by decide, by decide⟩
        · exact ⟨3, rfl, by decide, by decide⟩
        · exact ⟨6, rfl, by decide, by decide⟩
      refine ⟨tl, _, _, _, rfl, rfl, SqL.of htl, htr, ?_⟩
      have k7 : But f H4 H7 := (B5.new ntl).trans B7
      have hrk7 := k7 _ _ hrk4 nrk
      have hgv7 := k7 _ _ hgv4 ngv
      have shf : sh ≠ f := fun e => by rw [e] at nsh; obtain ⟨_, _, _, _, _, e1, _⟩ := I2.fl; rw [e1] at nsh; cases nsh
      have hsh7 := k7 _ _ hsh4 shf
      have hbl7 := k7 _ _ hbl4 bf
      have tk7 : TK H4 H7 := (TK.but I4.fl B5).trans ((TK.new ntl).trans (TK.but I6.fl B7))
      have al7 : All2 (BeltAt H7) bv bs := al.imp fun _ _ z => z.keep tk7
      have r1 : (is.map V.int)[one]? = some (.int (is.getD one 0)) := by
        rw [List.getElem?_map, List.getD_eq_getElem?_getD, List.getElem?_eq_getElem (by omega)]; rfl
      have r2 : (is.map V.int)[to]? = some (.int (is.getD to 0)) := by
        rw [List.getElem?_map, List.getD_eq_getElem?_getD, List.getElem?_eq_getElem (by omega)]; rfl
      have bvl : bv.length = i := by rw [al.length, lb]
      -- the end of a turn, with so many trays
      refine ⟨_, rfl, _, rfl, rk, _, _, _, rfl, rfl, SqL.of hrk7, atI_nat r1, _, rfl, _, rfl, rk, _, _, _, rfl, rfl, SqL.of hrk7, atI_nat r2, _, _, rfl, rfl, _, rfl, if_bl (fun kk => ?_) (fun kk => ?_)⟩
      · refine ⟨_, rfl, _, _, rfl, ?_⟩
        generalize ht : (if tr > 1 then tr else 1) = tn
        have tn0 : 0 ≤ tn := by rw [← ht]; split <;> omega
        have tn6 : tn ≤ 6 := by rw [← ht]; split <;> omega
        have ttt : tn.toNat = 0 → is.getD one 0 < is.getD to 0 := fun e => by
          exfalso
          have : 1 ≤ tn := by rw [← ht]; split <;> omega
          omega
        refine ⟨_, rfl, .inl ⟨rfl, _, SqL.of hbl7⟩, _, rfl, _, rfl, _, rfl, _, rfl, by omega, by omega, fun D nD => lc_range (lo := 0) (n := tn.toNat) (fun j H8 => ∃ vs : List Int, vs.length = j ∧ H8 D = some (.lst (vs.map V.int)) ∧ (∀ x ∈ vs, Small x) ∧ RI f c hh H H8 xs hs ∧ But f H7 H8 ∧ TK H7 H8 ∧ D ≠ f ∧ D ≠ c ∧ D ≠ hh ∧ H D = Option.none ∧ H7 D = Option.none)
          ⟨[], rfl, upd_same, (fun _ h => nomatch h), I7.new nD, But.refl.new nD, TK.new nD, I7.fl.ne nD, I7.fl.nec nD, (ne_of_none I7.lh nD).symm, I7.bt.none nD (I7.fl.ne nD), nD⟩ ?_ ?_⟩
        · rintro j H8 hj ⟨vs, lv, hD, sm, I8, b8, t8, d1, d2, d3, d4, d5⟩
          refine ⟨rfl, yes_in ⟨_, rfl, f, c, rfl, I8.fl, fun x H9 sx F9 B9 => ⟨_, B9 _ _ hD d1, ?_, vs ++ [x], by rw [List.length_append, lv]; rfl, ?_, ?_, (I8.but F9 B9).lst (B9 _ _ hD d1) d1 d2 d3 d4, (b8.trans B9).own d5, (t8.trans (TK.but I8.fl B9)).trans (TK.lst (B9 _ _ hD d1)), d1, d2, d3, d4, d5⟩⟩⟩
          · rw [List.length_map, lv]; exact small1000 (by omega)
          · rw [upd_same, List.map_append]; rfl
          · intro y hy
            rcases List.mem_append.mp hy with hy | hy
            · exact sm y hy
            · obtain rfl : y = x := by simpa using hy
              exact sx
        · rintro H8 ⟨vs, lv, hD, sm, I8, b8, t8, d1, d2, d3, d4, d5⟩
          refine ⟨D, _, rfl, .inl ⟨SqL.of hD, fun g ng => ⟨(by show 3 ≤ sizeLine; decide), fun t nt => ?_⟩⟩⟩
          have I9 := (I8.new (o := .tup (vs.map V.int)) ng).new (o := .tup [nV one, nV to, V.ref g]) nt
          have hbl8 := same_new (o := .tup [nV one, nV to, V.ref g]) nt _ _ (same_new (o := .tup (vs.map V.int)) ng _ _ (b8 _ _ hbl7 bf))
          have t9 : TK H7 (upd (upd H8 g (.tup (vs.map V.int))) t (.tup [nV one, nV to, V.ref g])) := (t8.trans (TK.new ng)).trans (TK.new nt)
          have s9 : ∀ b o, H7 b = some o → b ≠ f → (upd (upd H8 g (.tup (vs.map V.int))) t (.tup [nV one, nV to, V.ref g])) b = some o := fun b o e n => same_new nt _ _ (same_new ng _ _ (b8 _ _ e n))
          have bh : bl ≠ hh := fun e => by
            have h1 := I1.lh
            rw [← e, nbl] at h1
            cases h1
          have brk : bl ≠ rk := fun e => by
            have h1 := hrk
            rw [← e, nbl] at h1
            cases h1
          have bgv : bl ≠ gv := fun e => by
            have h1 := hgv
            rw [← e, nbl] at h1
            cases h1
          refine ⟨bl, _, _, rfl, rfl, hbl8, small1000 (by rw [bvl]; omega), ?_⟩
          refine ⟨bv ++ [V.ref t], bs ++ [⟨one, to, vs⟩], _, _, _, _, rfl, I9.lst hbl8 bf bc bh bnone, ?_, ?_, ?_, upd_same, ?_, ?_, ?_⟩
          · rw [upd_ne brk.symm]; exact s9 _ _ hrk7 nrk
          · rw [upd_ne bgv.symm]; exact s9 _ _ hgv7 ngv
          · rw [upd_ne bsh.symm]; exact s9 _ _ hsh7 shf
          · exact ((al7.imp fun _ _ z => z.keep t9).snoc ⟨t, g, rfl, upd_same, same_new nt _ _ upd_same⟩).imp fun _ _ z => z.keep (TK.lst hbl8)
          · rw [List.map_append, em, List.take_add_one, et]; rfl
          · intro b hb2
            rcases List.mem_append.mp hb2 with hb2 | hb2
            · exact hb b hb2
            · obtain rfl : b = ⟨one, to, vs⟩ := by simpa using hb2
              refine ⟨oneL, fun h e => ?_, by show vs.length ≤ 6; omega, sm, fun e => ?_⟩
              · have e : hs[one]? = some h := e
                rw [eh1] at e
                cases e
                exact hout
              · have e : vs = [] := e
                rw [e] at lv
                exact ttt (by simpa using lv.symm)
      · obtain ⟨tn, ht⟩ : ∃ tn, tn = tr := ⟨_, rfl⟩
        rw [← ht]
        have tn0 : 0 ≤ tn := by omega
        have tn6 : tn ≤ 6 := by omega
        have ttt : tn.toNat = 0 → is.getD one 0 < is.getD to 0 := fun _ => by
          have : ¬ is.getD to 0 ≤ is.getD one 0 := of_decide_eq_false kk
          omega
        refine ⟨_, rfl, .inl ⟨rfl, _, SqL.of hbl7⟩, _, rfl, _, rfl, _, rfl, _, rfl, by omega, by omega, fun D nD => lc_range (lo := 0) (n := tn.toNat) (fun j H8 => ∃ vs : List Int, vs.length = j ∧ H8 D = some (.lst (vs.map V.int)) ∧ (∀ x ∈ vs, Small x) ∧ RI f c hh H H8 xs hs ∧ But f H7 H8 ∧ TK H7 H8 ∧ D ≠ f ∧ D ≠ c ∧ D ≠ hh ∧ H D = Option.none ∧ H7 D = Option.none)
          ⟨[], rfl, upd_same, (fun _ h => nomatch h), I7.new nD, But.refl.new nD, TK.new nD, I7.fl.ne nD, I7.fl.nec nD, (ne_of_none I7.lh nD).symm, I7.bt.none nD (I7.fl.ne nD), nD⟩ ?_ ?_⟩
        · rintro j H8 hj ⟨vs, lv, hD, sm, I8, b8, t8, d1, d2, d3, d4, d5⟩
          refine ⟨rfl, yes_in ⟨_, rfl, f, c, rfl, I8.fl, fun x H9 sx F9 B9 => ⟨_, B9 _ _ hD d1, ?_, vs ++ [x], by rw [List.length_append, lv]; rfl, ?_, ?_, (I8.but F9 B9).lst (B9 _ _ hD d1) d1 d2 d3 d4, (b8.trans B9).own d5, (t8.trans (TK.but I8.fl B9)).trans (TK.lst (B9 _ _ hD d1)), d1, d2, d3, d4, d5⟩⟩⟩
          · rw [List.length_map, lv]; exact small1000 (by omega)
          · rw [upd_same, List.map_append]; rfl
          · intro y hy
            rcases List.mem_append.mp hy with hy | hy
            · exact sm y hy
            · obtain rfl : y = x := by simpa using hy
              exact sx
        · rintro H8 ⟨vs, lv, hD, sm, I8, b8, t8, d1, d2, d3, d4, d5⟩
          refine ⟨D, _, rfl, .inl ⟨SqL.of hD, fun g ng => ⟨(by show 3 ≤ sizeLine; decide), fun t nt => ?_⟩⟩⟩
          have I9 := (I8.new (o := .tup (vs.map V.int)) ng).new (o := .tup [nV one, nV to, V.ref g]) nt
          have hbl8 := same_new (o := .tup [nV one, nV to, V.ref g]) nt _ _ (same_new (o := .tup (vs.map V.int)) ng _ _ (b8 _ _ hbl7 bf))
          have t9 : TK H7 (upd (upd H8 g (.tup (vs.map V.int))) t (.tup [nV one, nV to, V.ref g])) := (t8.trans (TK.new ng)).trans (TK.new nt)
          have s9 : ∀ b o, H7 b = some o → b ≠ f → (upd (upd H8 g (.tup (vs.map V.int))) t (.tup [nV one, nV to, V.ref g])) b = some o := fun b o e n => same_new nt _ _ (same_new ng _ _ (b8 _ _ e n))
          have bh : bl ≠ hh := fun e => by
            have h1 := I1.lh
            rw [← e, nbl] at h1
            cases h1
          have brk : bl ≠ rk := fun e => by
            have h1 := hrk
            rw [← e, nbl] at h1
            cases h1
          have bgv : bl ≠ gv := fun e => by
            have h1 := hgv
            rw [← e, nbl] at h1
            cases h1
          refine ⟨bl, _, _, rfl, rfl, hbl8, small1000 (by rw [bvl]; omega), ?_⟩
          refine ⟨bv ++ [V.ref t], bs ++ [⟨one, to, vs⟩], _, _, _, _, rfl, I9.lst hbl8 bf bc bh bnone, ?_, ?_, ?_, upd_same, ?_, ?_, ?_⟩
          · rw [upd_ne brk.symm]; exact s9 _ _ hrk7 nrk
          · rw [upd_ne bgv.symm]; exact s9 _ _ hgv7 ngv
          · rw [upd_ne bsh.symm]; exact s9 _ _ hsh7 shf
          · exact ((al7.imp fun _ _ z => z.keep t9).snoc ⟨t, g, rfl, upd_same, same_new nt _ _ upd_same⟩).imp fun _ _ z => z.keep (TK.lst hbl8)
          · rw [List.map_append, em, List.take_add_one, et]; rfl
          · intro b hb2
            rcases List.mem_append.mp hb2 with hb2 | hb2
            · exact hb b hb2
            · obtain rfl : b = ⟨one, to, vs⟩ := by simpa using hb2
              refine ⟨oneL, fun h e => ?_, by show vs.length ≤ 6; omega, sm, fun e => ?_⟩
              · have e : hs[one]? = some h := e
                rw [eh1] at e
                cases e
                exact hout
              · have e : vs = [] := e
                rw [e] at lv
                exact ttt (by simpa using lv.symm)
    · rintro σ H4 ⟨bv, bs, v5, v8, v9, v10, rfl, I4, hrk4, hgv4, hsh4, hbl4, al, em, hb⟩
      rw [List.length_map, List.take_length] at em
      have lb : bs.length = ts.length := by
        have := congrArg List.length em
        rw [List.length_map] at this
        rw [this, htt.length_eq]
      refine ⟨_, rfl, hh, _, rfl, .inl ⟨SqL.of I4.lh, fun a1 na1 => ⟨_, rfl, bl, _, rfl, .inl ⟨SqL.of (same_new na1 _ _ hbl4), fun a2 na2 => ⟨(by show 2 ≤ sizeLine; decide), fun a3 na3 => ?_⟩⟩⟩⟩⟩
      rw [eD]
      have k1 : TK H4 (upd (upd (upd H4 a1 (.tup xs)) a2 (.tup bv)) a3 (.tup [V.ref a1, V.ref a2])) := ((TK.new na1).trans (TK.new na2)).trans (TK.new na3)
      refine q a3 hs bs _ ⟨a1, a2, xs, bv, upd_same, same_new na3 _ _ (same_new na2 _ _ upd_same), same_new na3 _ _ upd_same, I4.al.imp fun _ _ z => z.keep k1, al.imp fun _ _ z => z.keep k1⟩ ⟨ok.len, ok.good, fun b hb2 => ⟨(hb b hb2).1, ?_⟩, fun b hb2 => (hb b hb2).2.1, fun b hb2 => ⟨Nat.le_trans (hb b hb2).2.2.1 (by decide), trivial⟩, ⟨fun k => is.getD k 0, fun b hb2 => (hb b hb2).2.2.2.2⟩, fun k h hk => ?_, by omega⟩ ok.one (fun b hb2 => (hb b hb2).2.2.1) (((I4.fl.new na1).new na2).new na3) (((I4.bt.new na1).new na2).new na3)
      · have : b.to ∈ bs.map BR.to := List.mem_map.mpr ⟨b, hb2, rfl⟩
        rw [em] at this
        exact tk_mem hs _ _ (by rw [← ets]; exact htt.mem_iff.mp this)
      · rw [em, htt.count_eq, ets, tk_count, if_pos (List.getElem?_eq_some_iff.mp hk).1]
        unfold nd
        rw [hk]
        have := ok.nz h (List.mem_of_getElem? hk)
        show (((needs h.wd).toNat : Nat) : Int) = needs h.wd
        omega
  case tail1 =>
    rintro D' σ' H1 ⟨eD, hh, rk, gv, xs, hs, is, gs, rfl, I1, ok, hrk, lis, hgv, gne, glen, gok, nrk, ngv⟩
    refine ⟨(by show 0 ≤ sizeLine; decide), fun tk ntk => ?_⟩
    have I2 := I1.new (o := .lst []) ntk
    have hx : xs.length = hs.length := I1.al.length
    refine ⟨_, rfl, hh, _, rfl, .inl (SqL.of I2.lh), _, rfl, by omega, (by rw [hx]; have := ok.len; omega), for_range (lo := 0) (n := xs.length) (fun i σ H2 => ∃ (tk : Addr) (v5 : Option V), σ = [some (.ref f), some (.int m), some (.ref hh), some (.ref rk), some (.ref gv), v5, some (.ref tk), none, none, none, none] ∧ RI f c hh H H2 xs hs ∧ H2 rk = some (.lst (is.map V.int)) ∧ H2 gv = some (.lst (gs.map nV)) ∧ tk ≠ f ∧ H2 tk = some (.lst ((tkTo hs i).map nV)))
      ⟨tk, none, rfl, I2, same_new ntk _ _ hrk, same_new ntk _ _ hgv, I1.fl.ne ntk, upd_same⟩ ?_ ?_⟩
    · rintro i σ H2 hi ⟨tk, v5, rfl, I3, hrk3, hgv3, tf, htk⟩
      have eh : hs[i]? = some hs[i] := List.getElem?_eq_getElem (by omega)
      obtain ⟨x, ex, ⟨t, r, rfl, e1, e2⟩⟩ := I3.al.get eh
      have z0 := ok.nz _ (List.mem_of_getElem? eh)
      have zs : needs hs[i].wd ≤ 3 := by
        unfold needs
        split
        · decide
        · split
          · decide
          · split <;> decide
      have sz : (tkTo hs i).length ≤ 20 := by
        have a := tk_len hs ok.nz i (by omega)
        have b : ((hs.take i).map fun h => needs h.wd).sum ≤ (hs.map fun h => needs h.wd).sum := by
          have e : hs.map (fun h => needs h.wd) = (hs.take i).map (fun h => needs h.wd) ++ (hs.drop i).map (fun h => needs h.wd) := by rw [← List.map_append, List.take_append_drop]
          rw [e, List.sum_append]
          have : 0 ≤ ((hs.drop i).map fun h => needs h.wd).sum := by
            have hz : ∀ h ∈ hs.drop i, 0 ≤ needs h.wd := fun h hh => ok.nz h (List.mem_of_mem_drop hh)
            revert hz
            generalize hs.drop i = l
            intro hz
            induction l with
            | nil => decide
            | cons a l ih =>
              have := hz a (List.mem_cons_self ..)
              have := ih fun h hh => hz h (List.mem_cons_of_mem _ hh)
              rw [List.map_cons, List.sum_cons]
              omega
          omega
        have := ok.sum
        omega
      refine ⟨_, rfl, _, rfl, (by show 1 ≤ sizeLine; decide), fun l1 nl1 => ?_⟩
      have I4 := I3.new (o := .lst [V.int (0 + ((i : Nat) : Int))]) nl1
      refine ⟨_, rfl, _, rfl, hh, _, _, _, rfl, rfl, SqL.of I4.lh, at0 ex, t, _, _, _, rfl, rfl, SqT.of (same_new nl1 _ _ e1), atI_nat (j := 0) rfl, r, hs[i].wd, _, rfl, SqT.of (same_new nl1 _ _ e2), fun H5 s5 => ?_⟩
      have I5 := I4.same s5
      have g1 := s5 _ _ upd_same
      have g2 := s5 _ _ (same_new nl1 _ _ htk)
      refine ⟨l1, _, _, rfl, rfl, g1, by omega, by omega, little (by show 1 * (needs hs[i].wd).toNat ≤ 1000; omega), fun l2 nl2 => ?_⟩
      rw [flat_rep]
      have I6 := I5.new (o := .lst (List.replicate (needs hs[i].wd).toNat (V.int (0 + ((i : Nat) : Int))))) nl2
      refine ⟨tk, l2, _, _, rfl, rfl, same_new nl2 _ _ g2, upd_same, ?_, fun l3 nl3 => ?_⟩
      · rw [List.length_map, List.length_replicate]; exact little (by omega)
      refine ⟨l3, _, rfl, I6.new nl3, same_new nl3 _ _ (same_new nl2 _ _ (s5 _ _ (same_new nl1 _ _ hrk3))), same_new nl3 _ _ (same_new nl2 _ _ (s5 _ _ (same_new nl1 _ _ hgv3))), I6.fl.ne nl3, ?_⟩
      rw [upd_same]
      have e : nd hs i = (needs hs[i].wd).toNat := by unfold nd; rw [eh]
      rw [show tkTo hs (i + 1) = tkTo hs i ++ List.replicate (nd hs i) i from rfl, List.map_append, List.map_replicate, e, Int.zero_add]
    · rintro σ H2 ⟨tk, v5, rfl, I3, hrk3, hgv3, tf, htk⟩
      exact ⟨eD, hh, rk, gv, tk, xs, hs, is, gs, _, v5, rfl, I3, ok, hrk3, lis, hgv3, gne, glen, gok, nrk, ngv, tf, htk, by rw [hx]⟩
  refine ⟨_, rfl, _, rfl, _, rfl, f, c, m, rfl, by omega, hm9, hF, fun v1 H1 a1 b1 F1 B1 => ?_⟩
  refine ⟨_, _, rfl, rfl, f, c, _, rfl, by omega, by omega, F1, fun hh xs hs H2 nhh hhh al ok F2 B2 => ?_⟩
  have hx : xs.length = hs.length := al.length
  have len12 := ok.len
  have nf : hh ≠ f := F1.ne nhh
  have I2 : RI f c hh H H2 xs hs := ⟨F2, B1.trans B2, hhh, al, nf, B1.none nhh nf⟩
  -- ranks
  refine ⟨_, rfl, _, rfl, hh, _, rfl, .inl (SqL.of I2.lh), _, rfl, ⟨by omega, by omega, by omega, by omega, by omega⟩, fun rg nrg => ?_⟩
  have I3 := I2.new (o := .lst (rgV 0 ((xs.length : Nat) : Int))) nrg
  refine ⟨f, c, rg, _, rfl, SqL.of upd_same, I2.fl.ne nrg, ?_, I3.fl, fun rk ys H4 hp nrk hrk F4 B4 => ?_⟩
  · rw [rgV_length]; omega
  have erg : rgV 0 ((xs.length : Nat) : Int) = ((List.range xs.length).map fun i => ((i : Nat) : Int)).map V.int := by
    unfold rgV
    rw [List.map_map, show (((xs.length : Nat) : Int) - 0).toNat = xs.length by omega]
    refine List.map_congr_left fun i _ => ?_
    show V.int (0 + ((i : Nat) : Int)) = V.int ((i : Nat) : Int)
    rw [Int.zero_add]
  rw [erg] at hp
  obtain ⟨is, rfl, his⟩ := perm_inv (f := V.int) (g := unI) (fun _ => rfl) hp
  have lis : is.length = hs.length := by rw [his.length_eq, List.length_map, List.length_range, hx]
  have I4 := I3.but F4 B4
  have rkf : rk ≠ f := I3.fl.ne nrk
  -- givers
  refine ⟨_, rfl, hh, _, rfl, .inl (SqL.of I4.lh), _, rfl, by omega, by omega, fun D nD => lc_range (lo := 0) (n := xs.length) (fun i H5 => ∃ gs : List Nat, H5 D = some (.lst (gs.map nV)) ∧ gs.length ≤ i ∧ RI f c hh H H5 xs hs ∧ H5 rk = some (.lst (is.map V.int)) ∧ (∀ k ∈ gs, ∃ h, hs[k]? = some h ∧ h.wd ≠ "out") ∧ (∀ k h, k < i → hs[k]? = some h → h.wd ≠ "out" → gs ≠ []) ∧ D ≠ f ∧ D ≠ c ∧ D ≠ hh ∧ D ≠ rk ∧ H D = Option.none)
    ⟨[], upd_same, Nat.le_refl _, I4.new nD, same_new nD _ _ hrk, (fun _ h => nomatch h), (fun k h hk => absurd hk (Nat.not_lt_zero _)), I4.fl.ne nD, I4.fl.nec nD, (ne_of_none I4.lh nD).symm, (ne_of_none hrk nD).symm, I4.bt.none nD (I4.fl.ne nD)⟩ ?_ ?_⟩
  · rintro i H5 hi ⟨gs, hD, lg, I5, hrk5, g1, g2, d1, d2, d3, d4, d5⟩
    have eh : hs[i]? = some hs[i] := List.getElem?_eq_getElem (by omega)
    obtain ⟨x, ex, ⟨t, r, rfl, e1, e2⟩⟩ := I5.al.get eh
    have gh := ok.good _ (List.mem_of_getElem? eh)
    refine ⟨rfl, _, rfl, _, rfl, hh, _, _, _, rfl, rfl, SqL.of I5.lh, at0 ex, t, _, _, _, rfl, rfl, SqT.of e1, atI_nat (j := 0) rfl, (by show 1 ≤ sizeLine; decide), fun o1 no1 => ?_⟩
    have I6 := I5.new (o := .tup [V.str "out"]) no1
    have hD6 : (upd H5 o1 (.tup [V.str "out"])) D = some (.lst (gs.map nV)) := same_new no1 _ _ hD
    refine ⟨_, _, rule_dp (same_new no1 _ _ e2), .tup (SqT.of upd_same) (.cons (.str _) .nil), rule_shaped gh.lay, one_shaped (by decide +kernel), _, rfl, ?_⟩
    rw [rule_eqv, gh.door "out" (.inr rfl)]
    by_cases k : hs[i].wd = "out"
    · rw [decide_eq_true k]
      refine if_bl (fun z => absurd z (by decide)) (fun _ => ⟨gs, hD6, by omega, I6, same_new no1 _ _ hrk5, g1, fun k' h' hk hk2 hk3 => ?_, d1, d2, d3, d4, d5⟩)
      by_cases y : k' = i
      · subst y
        rw [eh] at hk2
        cases hk2
        exact absurd k hk3
      · exact g2 k' h' (by omega) hk2 hk3
    · rw [decide_eq_false k]
      refine if_bl (fun _ => ⟨_, rfl, _, hD6, ?_, gs ++ [i], ?_, ?_, I6.lst hD6 d1 d2 d3 d5, ?_, ?_, fun _ _ _ _ _ z => by simp at z, d1, d2, d3, d4, d5⟩) (fun z => absurd z (by decide))
      · rw [List.length_map]; exact small1000 (by omega)
      · rw [upd_same, List.map_append, Int.zero_add]; rfl
      · rw [List.length_append]; show gs.length + 1 ≤ i + 1; omega
      · rw [upd_ne d4.symm]; exact same_new no1 _ _ hrk5
      · intro k' hk
        rcases List.mem_append.mp hk with hk | hk
        · exact g1 k' hk
        · obtain rfl : k' = i := by simpa using hk
          exact ⟨_, eh, k⟩
  · rintro H5 ⟨gs, hD, lg, I5, hrk5, g1, g2, d1, d2, d3, d4, d5⟩
    obtain ⟨h1, hm1, hm2, _⟩ := ok.one
    obtain ⟨k1, hk1⟩ := List.getElem?_of_mem hm1
    have k1l := (List.getElem?_eq_some_iff.mp hk1).1
    exact ⟨rfl, hh, rk, D, xs, hs, is, gs, rfl, I5, ok, hrk5, lis, hD, g2 k1 h1 (by omega) hk1 hm2, by omega, g1, rkf, d1⟩
end
/-! ### the order of work -/
/-- the belts without trays, their ends -/
def looseOf (bs : List BR) : List (Nat × Nat) := (bs.filter fun b => b.th.isEmpty).map fun b => (b.one, b.to)
def free (ls : List (Nat × Nat)) (left : List Nat) (k : Nat) : Prop := ∀ p ∈ ls, p.2 = k → p.1 ∉ left
/-- each stands as soon as it can -/
inductive Soon (ls : List (Nat × Nat)) : List Nat → List Nat → Prop
  | nil : Soon ls [] []
  | cons {left ord : List Nat} {k : Nat} : k ∈ left → free ls left k → (∀ j ∈ left, free ls left j → k ≤ j) → Soon ls (left.erase k) ord → Soon ls left (k :: ord)
def cN (p : Nat × Nat → Bool) (l : List (Nat × Nat)) : Int := ((l.filter p).length : Nat)
theorem cN_snoc (p : Nat × Nat → Bool) (l : List (Nat × Nat)) (x : Nat × Nat) : cN p (l ++ [x]) = cN p l + (if p x = true then 1 else 0) := by
  unfold cN
  rw [List.filter_append, List.length_append]
  cases h : p x <;> simp [h]
theorem cN_zero {p : Nat × Nat → Bool} {l : List (Nat × Nat)} : cN p l = 0 ↔ ∀ x ∈ l, p x = false := by
  unfold cN
  constructor
  · intro h x hx
    have e : (l.filter p).length = 0 := by omega
    have e2 := List.eq_nil_of_length_eq_zero e
    cases k : p x with
    | false => rfl
    | true =>
      have : x ∈ l.filter p := List.mem_filter.mpr ⟨hx, k⟩
      rw [e2] at this
      cases this
  · intro h
    have e : l.filter p = [] := List.filter_eq_nil_iff.mpr fun x hx => by rw [h x hx]; decide
    rw [e]
    rfl
abbrev owing (left : List Nat) (k : Nat) : Nat × Nat → Bool := fun p => decide (p.2 = k) && decide (p.1 ∈ left)
theorem owing_free {ls : List (Nat × Nat)} {left : List Nat} {k : Nat} : cN (owing left k) ls = 0 ↔ free ls left k := by
  rw [cN_zero]
  constructor
  · intro h p hp e1 e2
    have := h p hp
    have this : (decide (p.2 = k) && decide (p.1 ∈ left)) = false := this
    rw [decide_eq_true e1, decide_eq_true e2] at this
    cases this
  · intro h p hp
    show (decide (p.2 = k) && decide (p.1 ∈ left)) = false
    by_cases e1 : p.2 = k
    · rw [decide_eq_false (h p hp e1), Bool.and_false]
    · rw [decide_eq_false e1, Bool.false_and]
theorem cN_erase {ls : List (Nat × Nat)} {left : List Nat} {k r : Nat} (nd : left.Nodup) (hr : r ∈ left) : cN (owing left k) ls - cN (fun p => decide (p.1 = r) && decide (p.2 = k)) ls = cN (owing (left.erase r) k) ls := by
  induction ls with
  | nil => rfl
  | cons x l ih =>
    have e : ∀ q : Nat × Nat → Bool, cN q (x :: l) = (if q x = true then 1 else 0) + cN q l := fun q => by
      unfold cN
      rw [List.filter_cons]
      cases h : q x <;> simp [h] <;> omega
    have h1 : x.1 ∈ left.erase r ↔ x.1 ≠ r ∧ x.1 ∈ left := nd.mem_erase_iff
    have key : (if owing left k x = true then (1 : Int) else 0) - (if (decide (x.1 = r) && decide (x.2 = k)) = true then 1 else 0) = (if owing (left.erase r) k x = true then 1 else 0) := by
      by_cases a : x.2 = k
      · by_cases b : x.1 = r
        · have d : ¬ r ∈ left.erase r := fun z => (nd.mem_erase_iff.mp z).1 rfl
          simp [owing, a, b, hr, d]
        · by_cases c : x.1 ∈ left
          · have d : x.1 ∈ left.erase r := h1.mpr ⟨b, c⟩
            simp [owing, a, b, c, d]
          · have d : ¬ x.1 ∈ left.erase r := fun z => c (h1.mp z).2
            simp [owing, a, b, c, d]
      · simp [owing, a]
    rw [e, e, e, ← ih]
    omega
/-- some hand is free, where the belts without trays go up -/
theorem some_free {ls : List (Nat × Nat)} {rk : Nat → Int} (hr : ∀ p ∈ ls, rk p.1 < rk p.2) : ∀ {left : List Nat}, left ≠ [] → ∃ k ∈ left, free ls left k := by
  have low : ∀ left : List Nat, left ≠ [] → ∃ k ∈ left, ∀ j ∈ left, rk k ≤ rk j := by
    intro left
    induction left with
    | nil => intro h; exact absurd rfl h
    | cons a l ih =>
      intro _
      cases l with
      | nil => exact ⟨a, by simp, fun j hj => by have : j = a := by simpa using hj
                                                 rw [this]; exact Int.le_refl _⟩
      | cons b l =>
        obtain ⟨k, hk, h⟩ := ih (by simp)
        by_cases c : rk a ≤ rk k
        · exact ⟨a, by simp, fun j hj => by
            rcases List.mem_cons.mp hj with e | e
            · rw [e]; exact Int.le_refl _
            · exact Int.le_trans c (h j e)⟩
        · exact ⟨k, List.mem_cons_of_mem _ hk, fun j hj => by
            rcases List.mem_cons.mp hj with e | e
            · rw [e]; omega
            · exact h j e⟩
  intro left hl
  obtain ⟨k, hk, h⟩ := low left hl
  refine ⟨k, hk, fun p hp e hm => ?_⟩
  have h1 := h _ hm
  have h2 := hr p hp
  rw [e] at h2
  omega
theorem erase_map {α β : Type} (f : α → β) : ∀ (l : List α) (j : Nat), (l.map f).eraseIdx j = (l.eraseIdx j).map f
  | [], _ => rfl
  | _ :: _, 0 => rfl
  | a :: l, j + 1 => congrArg (f a :: ·) (erase_map f l j)
abbrev fL (n : Nat) (F : Nat → Int) : List V := (List.range n).map fun k => V.int (F k)
theorem fL_get {n k : Nat} {F : Nat → Int} (h : k < n) : (fL n F)[k]? = some (.int (F k)) := by
  rw [List.getElem?_map, List.getElem?_range h]; rfl
theorem fL_set {n k : Nat} {F : Nat → Int} {z : Int} : (fL n F).set k (.int z) = fL n fun j => if j = k then z else F j := by
  apply List.ext_getElem?
  intro i
  rw [List.getElem?_set]
  by_cases h : i < n
  · rw [fL_get h, fL_get h]
    by_cases e : k = i
    · subst e
      rw [if_pos rfl, if_pos rfl, if_pos (by rw [List.length_map, List.length_range]; exact h)]
    · rw [if_neg e, if_neg (fun z => e z.symm)]
  · have h1 : (fL n F)[i]? = none := List.getElem?_eq_none (by rw [List.length_map, List.length_range]; omega)
    have h2 : (fL n fun j => if j = k then z else F j)[i]? = none := List.getElem?_eq_none (by rw [List.length_map, List.length_range]; omega)
    rw [h1, h2]
    by_cases e : k = i
    · rw [if_pos e, if_neg (by rw [List.length_map, List.length_range]; omega)]
    · rw [if_neg e]
def PairAt (H : Hp) (v : V) (p : Nat × Nat) : Prop := ∃ t : Addr, v = .ref t ∧ H t = some (.tup [nV p.1, nV p.2])
theorem PairAt.keep {H H' : Hp} {v : V} {p : Nat × Nat} (a : PairAt H v p) (k : TK H H') : PairAt H' v p := by
  obtain ⟨t, e, h⟩ := a
  exact ⟨t, e, k _ _ h⟩
section
variable {P : Program} {w : World} {K : PySem.W.Frag} {mg : Str → Option Value} {base : Heap}
def sp_work_order (K : PySem.W.Frag) : Sp := fun vs H Q _ => ∃ (r : Addr) (hs : List HR) (bs : List BR) (rk : Nat → Int), vs = [.ref r] ∧ RoomAt H r hs bs ∧ hs.length ≤ 400 ∧ bs.length ≤ 400 ∧ (∀ b ∈ bs, b.one < hs.length ∧ b.to < hs.length) ∧ (∀ p ∈ looseOf bs, rk p.1 < rk p.2) ∧
  ∀ (p : Addr) (ord : List Nat) (H' : Hp), H p = none → H' p = some (.lst (ord.map nV)) → Same H H' → Soon (looseOf bs) (List.range hs.length) ord → Q (.ref p) H'
theorem ok_work_order {f : Addr} {fd : FuncData} (F : Fun K "work_order" "work_order" s_work_order f fd) {C : Addr} (T : Top K mg C) : FnOk P w K mg base CX0 1 f fd ["room"] (sp_work_order K) := by
  refine F.ok sc_work_order (fun vs H Q E h => ?_) (fun cdv A outer s H vs Q E hr h => ?_)
  · obtain ⟨r, hs, bs, rk, rfl, _⟩ := h
    rfl
  obtain ⟨r, hs, bs, rk, rfl, hR, lh, lb, ends, hrk, q⟩ := h
  obtain ⟨ha, ba, hv, bv, er, eh, eb, alh, alb⟩ := hR.ex
  have lhv := alh.length
  have lbv := alb.length
  have lls : (looseOf bs).length ≤ 400 := by
    unfold looseOf
    rw [List.length_map]
    exact Nat.le_trans (List.length_filter_le ..) lb
  have pls : ∀ p ∈ looseOf bs, p.1 < hs.length ∧ p.2 < hs.length := by
    intro p hp
    obtain ⟨b, hb, e⟩ := List.mem_map.mp hp
    have := ends b (List.mem_filter.mp hb).1
    rw [← e]
    exact this
  let R1 : TS := fun D' σ' H' => D'.rt = Q ∧ ∃ (lo : Addr) (lv : List V), σ' = [some (.ref r), some (.ref ha), some (.ref ba), some (.ref lo), none, none, none, none, none, none, none, none] ∧ H' lo = some (.lst lv) ∧ All2 (PairAt H') lv (looseOf bs) ∧ Same H H' ∧ H lo = none
  let R2 : TS := fun D' σ' H' => D'.rt = Q ∧ ∃ (lo ow : Addr) (lv : List V) (v4 v5 : Option V), σ' = [some (.ref r), some (.ref ha), some (.ref ba), some (.ref lo), v4, v5, none, some (.ref ow), none, none, none, none] ∧ H' lo = some (.lst lv) ∧ All2 (PairAt H') lv (looseOf bs) ∧ Same H H' ∧ H lo = none ∧ H ow = none ∧ lo ≠ ow ∧ H' ow = some (.lst (fL hs.length fun k => cN (owing (List.range hs.length) k) (looseOf bs)))
  refine ⟨_, (pss_cons (ps_asg (pv 0) (pg_tupK K rfl rfl (pgs_cons (pg_name (i := 1) sc_work_order.nd rfl (Or.inl rfl)) (pgs_cons (pg_name (i := 2) sc_work_order.nd rfl (Or.inl rfl)) pgs_nil))))
      (pss_cons (ps_setLc (i := 3) (own := [("giver", 4), ("taker", 5), ("things", 6)]) (g := gTup K 3 (gCons (gName 4) (gCons (gName 5) (gCons (gName 6) gNil)))) (by rfl) sc_work_order.nd rfl rfl (sw_true rfl rfl rfl (by decide +kernel)) (pi_tupK K rfl (pv 2)) (blkOk_by (own := [("giver", 4), ("taker", 5), ("things", 6)]) (N := N_work_order) (sc := defScope s_work_order) (by decide +kernel)) (fun _ _ _ _ _ => (pg_tupK K rfl rfl (pgs_cons (pg_name (i := 4) sc_work_order.nd rfl (Or.inl rfl)) (pgs_cons (pg_name (i := 5) sc_work_order.nd rfl (Or.inl rfl)) (pgs_cons (pg_name (i := 6) sc_work_order.nd rfl (Or.inl rfl)) pgs_nil))))) (fun _ _ _ _ _ => pts_one (pt_not (pt_truthK K rfl (pv 6) (by intro _; rfl)))) (fun _ _ _ _ _ => (pe_tup (pa_cons (pv 4) (pa_cons (pv 5) pa_nil)))))
      (PSs.to (pss_cons (ps_set (i := 7) sc_work_order.nd rfl (Or.inr rfl) (pe_op op_rep (pe_lst (pa_cons pe_int pa_nil)) (pe_callB (call_len_seqK K rfl) (by rfl) T.m_len (by decide +kernel) (pa_cons (pv 1) pa_nil))))
      (pss_cons (ps_for PassesOwn.never rfl (pi_listK K rfl (pv 3)) (pg_tupK K rfl rfl (pgs_cons (pg_name (i := 4) sc_work_order.nd rfl (Or.inl rfl)) (pgs_cons (pg_name (i := 5) sc_work_order.nd rfl (Or.inl rfl)) pgs_nil)))
        (pss_one (ps_augS (pv 7) (pv 5) (get_listK K rfl) pe_int ip_add set_list)))
      (PSs.to (pss_cons (ps_set (i := 8) sc_work_order.nd rfl (Or.inl rfl) (pe_listRg rfl (by rfl) T.m_list (prg_1 (by rfl) T.m_range (pe_callB (call_len_seqK K rfl) (by rfl) T.m_len (by decide +kernel) (pa_cons (pv 1) pa_nil)))))
      (pss_cons (ps_set (i := 9) sc_work_order.nd rfl (Or.inl rfl) (pe_lst pa_nil))
      (pss_cons (ps_while PassesOwn.never (pt_truthK K rfl (pv 8) (by intro _; rfl))
        (pss_cons (ps_set (i := 10) sc_work_order.nd rfl (Or.inl rfl) (pe_callB (cr_minKK K rfl rfl) (by rfl) T.m_min (by decide +kernel) (pa_cons (pe_lc (own := [("hand", 11)]) (g := gName 11) (by rfl) sc_work_order.nd (pi_listK K rfl (pv 8)) (blkOk_by (own := [("hand", 11)]) (N := N_work_order) (sc := defScope s_work_order) (by decide +kernel)) (fun _ _ _ _ _ => (pg_name (i := 11) sc_work_order.nd rfl (Or.inl rfl))) (fun _ _ _ _ _ => pts_one (pt_cmpR op_eq (pe_ix (ix_listK K rfl) (pv 7) (pv 11) (fun _ _ => rfl)) pe_int (nomark _))) (fun _ _ _ _ _ => (pv 11))) pa_nil)))
      (pss_cons (ps_expr (pe_bmK K rfl PySem.F.plainAttrs_list PySem.F.slot_list_remove PySem.F.type_list_remove mt_remove (pv 8) (pa_cons (pv 10) pa_nil)))
      (pss_cons (ps_expr (pe_bmK K rfl PySem.F.plainAttrs_list PySem.F.slot_list_append PySem.F.type_list_append mt_append (pv 9) (pa_cons (pv 10) pa_nil)))
      (pss_one (ps_for PassesOwn.never rfl (pi_listK K rfl (pv 3)) (pg_tupK K rfl rfl (pgs_cons (pg_name (i := 4) sc_work_order.nd rfl (Or.inl rfl)) (pgs_cons (pg_name (i := 5) sc_work_order.nd rfl (Or.inl rfl)) pgs_nil)))
        (pss_one (ps_if (pt_cmpR op_eq (pv 4) (pv 10) (nomark _)) (pss_one (ps_augS (pv 7) (pv 5) (get_listK K rfl) pe_int ip_sub set_list)) pss_nil))))))))
      (pss_one (ps_ret (pv 9)))))) R2 ?tail2))) R1 ?tail1))), ?_⟩
  case tail2 =>
    rintro D' σ' H1 ⟨eD, lo, ow, lv, v4, v5, rfl, hlo, al, s1, nlo, now, low, how⟩
    refine ⟨_, rfl, ha, _, rfl, .inr (SqT.of (s1 _ _ eh)), _, rfl, ⟨by omega, by omega, by omega, by omega, by omega⟩, fun lf nlf => ?_⟩
    refine ⟨(by show 0 ≤ sizeLine; decide), fun od nod => ?_⟩
    have erg : rgV 0 ((hv.length : Nat) : Int) = (List.range hs.length).map nV := by
      unfold rgV
      rw [show (((hv.length : Nat) : Int) - 0).toNat = hs.length by omega]
      refine List.map_congr_left fun i _ => ?_
      show V.int (0 + ((i : Nat) : Int)) = V.int ((i : Nat) : Int)
      rw [Int.zero_add]
    rw [erg] at nod ⊢
    have lf0 : H lf = none := same_none s1 nlf
    have od0 : H od = none := same_none (s1.trans (same_new nlf)) nod
    have lfod : lf ≠ od := ne_of_none upd_same nod
    have lflo : lo ≠ lf := ne_of_none hlo nlf
    have lfow : ow ≠ lf := ne_of_none how nlf
    have odlo : lo ≠ od := ne_of_none (same_new nlf _ _ hlo) nod
    have odow : ow ≠ od := ne_of_none (same_new nlf _ _ how) nod
    have tk2 : TK H1 (upd (upd H1 lf (.lst ((List.range hs.length).map nV))) od (.lst [])) := (TK.new nlf).trans (TK.new nod)
    let W : Nat → L2.St → Hp → Prop := fun mm σ H2 => ∃ (left ord : List Nat) (v4 v5 v10 v11 : Option V), σ = [some (.ref r), some (.ref ha), some (.ref ba), some (.ref lo), v4, v5, none, some (.ref ow), some (.ref lf), some (.ref od), v10, v11] ∧ mm = left.length ∧ left.Nodup ∧ (∀ k ∈ left, k < hs.length) ∧ H2 lo = some (.lst lv) ∧ All2 (PairAt H2) lv (looseOf bs) ∧ Same H H2 ∧ H2 lf = some (.lst (left.map nV)) ∧ H2 od = some (.lst (ord.map nV)) ∧ ord.length + left.length = hs.length ∧ H2 ow = some (.lst (fL hs.length fun k => cN (owing left k) (looseOf bs))) ∧ (∀ rest, Soon (looseOf bs) left rest → Soon (looseOf bs) (List.range hs.length) (ord ++ rest))
    refine ⟨W, ⟨_, List.range hs.length, [], v4, v5, none, none, rfl, rfl, List.nodup_range, fun k hk => List.mem_range.mp hk, same_new nod _ _ (same_new nlf _ _ hlo), al.imp fun _ _ z => z.keep tk2, (s1.trans (same_new nlf)).trans (same_new nod), same_new nod _ _ upd_same, upd_same, by rw [List.length_range]; exact Nat.zero_add _, same_new nod _ _ (same_new nlf _ _ how), fun rest h => h⟩, ?_⟩
    rintro mm σ H2 ⟨left, ord, w4, w5, w10, w11, rfl, rfl, ndl, hll, hlo2, al2, s2, hlf, hod, lol, how2, soon⟩
    refine ⟨_, rfl, _, .inl ⟨_, SqL.of hlf, rfl⟩, ?_⟩
    by_cases ne : left = []
    · subst ne
      refine if_bl (fun z => nomatch z) (fun _ => ⟨_, rfl, ?_⟩)
      rw [eD]
      have := soon [] .nil
      rw [List.append_nil] at this
      exact q od ord H2 od0 hod s2 this
    · have nb : (!(left.map nV).isEmpty) = true := by
        cases left with
        | nil => exact absurd rfl ne
        | cons a l => rfl
      refine if_bl (fun _ => ⟨W (left.length - 1), fun σ' H' hW => ⟨left.length - 1, by have := List.length_pos_iff.mpr ne; omega, hW⟩, ?_⟩) (fun z => by rw [nb] at z; cases z)
      obtain ⟨k0, hk0, fk0⟩ := some_free hrk ne
      -- the free ones
      refine ⟨_, rfl, lf, rfl, ⟨_, SqL.of hlf⟩, fun D nD => lc_list (K := K) (a := lf) (xs := left.map nV) (fun i H5 => ∃ fs : List Nat, H5 D = some (.lst (fs.map nV)) ∧ H5 lf = some (.lst (left.map nV)) ∧ H5 ow = some (.lst (fL hs.length fun k => cN (owing left k) (looseOf bs))) ∧ Same H2 H5 ∧ fs.length ≤ i ∧ (∀ k, k ∈ fs ↔ k ∈ left.take i ∧ free (looseOf bs) left k)) ⟨[], upd_same, same_new nD _ _ hlf, same_new nD _ _ how2, same_new nD, Nat.le_refl _, fun k => ⟨(fun z => nomatch z), (fun z => nomatch z.1)⟩⟩ (fun i H5 _ ⟨_, _, h, _⟩ => SqL.of h) ?_ ?_⟩
      · rintro i x H5 hx ⟨fs, hD, hlf5, how5, s5, lf5, mem⟩
        rw [List.getElem?_map] at hx
        cases ek : left[i]? with
        | none => rw [ek] at hx; cases hx
        | some k =>
        rw [ek] at hx
        obtain rfl : nV k = x := Option.some.inj hx
        have kl := hll k (List.mem_of_getElem? ek)
        refine ⟨rfl, _, rfl, _, rfl, ow, _, _, _, rfl, rfl, SqL.of how5, atI_nat (fL_get kl), rfl, _, rfl, if_bl (fun kk => ?_) (fun kk => ?_)⟩
        · have fk : free (looseOf bs) left k := owing_free.mp (V.int.inj (of_decide_eq_true kk))
          refine ⟨_, rfl, _, hD, ?_, fs ++ [k], ?_, ?_, ?_, Same.own s5 nD, by rw [List.length_append]; show fs.length + 1 ≤ i + 1; omega, fun j => ?_⟩
          · rw [List.length_map]
            have := (List.getElem?_eq_some_iff.mp ek).1
            exact small1000 (by omega)
          · rw [upd_same, List.map_append]; rfl
          · rw [upd_ne (ne_of_none hlf nD)]; exact hlf5
          · rw [upd_ne (ne_of_none how2 nD)]; exact how5
          · rw [List.mem_append, mem, List.take_add_one, ek, List.mem_append]
            constructor
            · rintro (h | h)
              · exact ⟨.inl h.1, h.2⟩
              · obtain rfl : j = k := by simpa using h
                exact ⟨.inr (by simp), fk⟩
            · rintro ⟨h | h, f⟩
              · exact .inl ⟨h, f⟩
              · obtain rfl : j = k := by simpa using h
                exact .inr (by simp)
        · have fk : ¬ free (looseOf bs) left k := fun z => of_decide_eq_false kk (congrArg V.int (owing_free.mpr z))
          refine ⟨fs, hD, hlf5, how5, s5, by omega, fun j => ?_⟩
          rw [mem, List.take_add_one, ek, List.mem_append]
          constructor
          · rintro ⟨h, f⟩
            exact ⟨.inl h, f⟩
          · rintro ⟨h | h, f⟩
            · exact ⟨h, f⟩
            · obtain rfl : j = k := by simpa using h
              exact absurd f fk
      · rintro H5 ⟨fs, hD, hlf5, how5, s5, lf5, mem⟩
        rw [List.length_map, List.take_length] at mem
        have hk0f : k0 ∈ fs := (mem k0).mpr ⟨hk0, fk0⟩
        refine ⟨D, fs.map fun k => ((k : Nat) : Int), rfl, SqL.of (by rw [hD, List.map_map]; rfl), by rw [List.length_map]; exact List.length_pos_of_mem hk0f, fun m hm hmin => ?_⟩
        obtain ⟨k, hk, rfl⟩ := List.mem_map.mp hm
        obtain ⟨hkl, fk⟩ := (mem k).mp hk
        have least : ∀ j ∈ left, free (looseOf bs) left j → k ≤ j := fun j h1 h2 => by
          have := hmin ((j : Nat) : Int) (List.mem_map.mpr ⟨j, (mem j).mpr ⟨h1, h2⟩, rfl⟩)
          omega
        have kl := hll k hkl
        obtain ⟨j, hj, hfirst, ees⟩ : ∃ j : Nat, left[j]? = some k ∧ (∀ m : Nat, m < j → left[m]? ≠ some k) ∧ left.eraseIdx j = left.erase k := by
          refine ⟨left.idxOf k, ?_, fun m hm => ?_, (List.erase_eq_eraseIdx_of_idxOf (rfl : left.idxOf k = left.idxOf k)).symm⟩
          · rw [List.getElem?_eq_getElem (List.idxOf_lt_length_of_mem hkl), List.getElem_idxOf]
          · intro e
            have := List.idxOf_lt_length_of_mem hkl
            have e1 : left[m] = k := (List.getElem?_eq_some_iff.mp e).2
            have e2 : left[left.idxOf k] = k := List.getElem_idxOf this
            have := (List.getElem_inj ndl (h₀ := by omega) (h₁ := this)).mp (e1.trans e2.symm)
            omega
        have elf : left.map nV = (left.map fun k => ((k : Nat) : Int)).map V.int := by rw [List.map_map]; rfl
        refine ⟨_, rfl, .inl ⟨rfl, _, SqL.of hlf5⟩, _, rfl, lf, left.map (fun k => ((k : Nat) : Int)), ((k : Nat) : Int), j, rfl, rfl, by rw [hlf5, elf], by rw [List.getElem?_map, hj]; rfl, fun m hm => ?_, ?_⟩
        · rw [List.getElem?_map]
          intro e
          cases em : left[m]? with
          | none => rw [em] at e; cases e
          | some y =>
            rw [em] at e
            have e : ((y : Nat) : Int) = ((k : Nat) : Int) := Option.some.inj e
            exact hfirst m hm (by rw [em]; congr 1; omega)
        have eer : ((left.map fun k => ((k : Nat) : Int)).eraseIdx j).map V.int = (left.erase k).map nV := by
          rw [← ees, erase_map, List.map_map]; rfl
        rw [eer]
        have hod5 := s5 _ _ hod
        have tk5 := TK.same s5
        have hlo5 := s5 _ _ hlo2
        have s6 : Same H (upd H5 lf (.lst ((left.erase k).map nV))) := Same.own (s2.trans s5) lf0
        have hod6 : (upd H5 lf (.lst ((left.erase k).map nV))) od = some (.lst (ord.map nV)) := by rw [upd_ne lfod.symm]; exact hod5
        have ll := lol
        have hlp := List.length_pos_of_mem hkl
        refine ⟨_, rfl, .inl ⟨rfl, _, SqL.of hod6⟩, _, rfl, od, _, _, rfl, rfl, hod6, by rw [List.length_map]; exact small1000 (by omega), ?_⟩
        have tk7 : TK H2 (upd (upd H5 lf (.lst ((left.erase k).map nV))) od (.lst (ord.map nV ++ [nV k]))) := (tk5.trans (TK.lst hlf5)).trans (TK.lst hod6)
        have hlo7 : (upd (upd H5 lf (.lst ((left.erase k).map nV))) od (.lst (ord.map nV ++ [nV k]))) lo = some (.lst lv) := by
          rw [upd_ne odlo, upd_ne lflo]; exact hlo5
        refine ⟨_, rfl, lo, rfl, ⟨_, SqL.of hlo7⟩, for_list (K := K) (a := lo) (xs := lv) (fun i σ H3 => ∃ v4 v5 : Option V, σ = [some (.ref r), some (.ref ha), some (.ref ba), some (.ref lo), v4, v5, none, some (.ref ow), some (.ref lf), some (.ref od), some (nV k), w11] ∧ H3 lo = some (.lst lv) ∧ All2 (PairAt H3) lv (looseOf bs) ∧ Same H H3 ∧ H3 lf = some (.lst ((left.erase k).map nV)) ∧ H3 od = some (.lst ((ord ++ [k]).map nV)) ∧ H3 ow = some (.lst (fL hs.length fun z => cN (owing left z) (looseOf bs) - cN (fun p => decide (p.1 = k) && decide (p.2 = z)) ((looseOf bs).take i))))
          ⟨w4, w5, rfl, hlo7, al2.imp fun _ _ z => z.keep tk7, Same.own s6 od0, by rw [upd_ne lfod, upd_same], by rw [upd_same, List.map_append]; rfl, ?_⟩ (fun i σ H3 _ ⟨_, _, _, h, _⟩ => SqL.of h) ?_ ?_⟩
        · rw [upd_ne odow, upd_ne lfow, how5]
          congr 2
        · rintro i x σ H3 hx ⟨u4, u5, rfl, hlo3, al3, s3, hlf3, hod3, how3⟩
          obtain ⟨p, ep, ⟨t, rfl, e1⟩⟩ := al3.getL hx
          have hp := pls p (List.mem_of_getElem? ep)
          have etk : (looseOf bs).take (i + 1) = (looseOf bs).take i ++ [p] := by rw [List.take_add_one, ep]; rfl
          refine ⟨t, _, rfl, SqT.of e1, rfl, _, _, rfl, _, _, rfl, rfl, ?_⟩
          refine ⟨_, rfl, _, rfl, rfl, _, rfl, if_bl (fun kk => ?_) (fun kk => ?_)⟩
          · have pk : p.1 = k := by have := V.int.inj (of_decide_eq_true kk); omega
            refine ⟨_, rfl, _, rfl, ow, _, p.2, _, rfl, rfl, SqL.of how3, fL_get hp.2, _, _, rfl, rfl, ow, _, _, p.2, rfl, rfl, how3, ?_, ?_⟩
            · unfold ixN
              rw [if_pos (by omega), if_pos (by rw [List.length_map, List.length_range]; omega), Int.toNat_natCast]
            · refine ⟨_, _, rfl, ?_, al3.imp fun _ _ z => z.keep (TK.lst how3), Same.own s3 now, ?_, ?_, ?_⟩
              · rw [upd_ne low]; exact hlo3
              · rw [upd_ne lfow.symm]; exact hlf3
              · rw [upd_ne odow.symm]; exact hod3
              · rw [upd_same, fL_set]
                congr 2
                refine List.map_congr_left fun z _ => ?_
                show V.int (if z = p.2 then (cN (owing left p.2) (looseOf bs) - cN (fun q => decide (q.1 = k) && decide (q.2 = p.2)) ((looseOf bs).take i)) - 1 else cN (owing left z) (looseOf bs) - cN (fun q => decide (q.1 = k) && decide (q.2 = z)) ((looseOf bs).take i)) = V.int (cN (owing left z) (looseOf bs) - cN (fun q => decide (q.1 = k) && decide (q.2 = z)) ((looseOf bs).take (i + 1)))
                rw [etk, cN_snoc]
                by_cases e : z = p.2
                · subst e
                  simp [pk]
                  omega
                · have : ¬ p.2 = z := fun y => e y.symm
                  simp [e, this]
          · have pk : ¬ p.1 = k := fun e => of_decide_eq_false kk (by rw [e])
            refine ⟨_, _, rfl, hlo3, al3, s3, hlf3, hod3, ?_⟩
            rw [how3]
            congr 2
            refine List.map_congr_left fun z _ => ?_
            show V.int (_ - cN _ _) = V.int (_ - cN _ _)
            rw [etk, cN_snoc]
            simp [pk]
        · rintro σ H3 ⟨u4, u5, rfl, hlo3, al3, s3, hlf3, hod3, how3⟩
          have le : (left.erase k).length = left.length - 1 := List.length_erase_of_mem hkl
          refine ⟨left.erase k, ord ++ [k], u4, u5, _, _, rfl, le.symm, ndl.erase k, fun y hy => hll y (List.mem_of_mem_erase hy), hlo3, al3, s3, hlf3, hod3, by rw [List.length_append, le]; show ord.length + 1 + (left.length - 1) = hs.length; omega, ?_, fun rest h => ?_⟩
          · rw [how3, List.take_of_length_le (by rw [← al3.length]; exact Nat.le_refl _)]
            congr 2
            refine List.map_congr_left fun z _ => ?_
            show V.int (_ - cN _ _) = V.int (cN _ _)
            rw [cN_erase ndl hkl]
          · have := soon (k :: rest) (.cons hkl fk least h)
            rw [List.append_assoc]
            exact this
  case tail1 =>
    rintro D' σ' H1 ⟨eD, lo, lv, rfl, hlo, al, s1, nlo⟩
    refine ⟨(by show 1 ≤ sizeLine; decide), fun l1 nl1 => ⟨_, rfl, ha, _, rfl, .inr (SqT.of (same_new nl1 _ _ (s1 _ _ eh))), l1, _, _, rfl, rfl, upd_same, by omega, by omega, little (by show 1 * _ ≤ 1000; omega), fun ow now => ?_⟩⟩
    have s2 : Same H _ := (s1.trans (same_new (o := .lst [V.int 0]) nl1)).trans (same_new (o := .lst (fL hs.length fun _ => 0)) now)
    have now0 : H ow = none := same_none (s1.trans (same_new nl1)) now
    have hlo2 := same_new (o := .lst (fL hs.length fun _ => 0)) now _ _ (same_new (o := .lst [V.int 0]) nl1 _ _ hlo)
    have low : lo ≠ ow := ne_of_none (same_new nl1 _ _ hlo) now
    have e0 : (List.replicate ((hv.length : Nat) : Int).toNat [V.int 0]).flatten = fL hs.length fun _ => 0 := by
      rw [flat_rep, Int.toNat_natCast, lhv]
      symm
      show (List.range hs.length).map (fun _ => V.int 0) = _
      rw [List.map_const', List.length_range]
    rw [e0]
    refine ⟨_, rfl, lo, rfl, ⟨_, SqL.of hlo2⟩, for_list (K := K) (a := lo) (xs := lv) (fun i σ H3 => ∃ v4 v5 : Option V, σ = [some (.ref r), some (.ref ha), some (.ref ba), some (.ref lo), v4, v5, none, some (.ref ow), none, none, none, none] ∧ H3 lo = some (.lst lv) ∧ All2 (PairAt H3) lv (looseOf bs) ∧ Same H H3 ∧ H3 ow = some (.lst (fL hs.length fun k => cN (fun p => decide (p.2 = k)) ((looseOf bs).take i))))
      ⟨none, none, rfl, hlo2, al.imp fun _ _ z => z.keep ((TK.new nl1).trans (TK.new now)), s2, upd_same⟩ (fun i σ H3 _ ⟨_, _, _, h, _⟩ => SqL.of h) ?_ ?_⟩
    · rintro i x σ H3 hx ⟨v4, v5, rfl, hlo3, al3, s3, how⟩
      obtain ⟨p, ep, ⟨t, rfl, e1⟩⟩ := al3.getL hx
      have hp := pls p (List.mem_of_getElem? ep)
      refine ⟨t, _, rfl, SqT.of e1, rfl, _, _, rfl, _, _, rfl, rfl, ?_⟩
      refine ⟨_, rfl, _, rfl, ow, _, p.2, _, rfl, rfl, SqL.of how, fL_get hp.2, _, _, rfl, rfl, ow, _, _, p.2, rfl, rfl, how, ?_, ?_⟩
      · unfold ixN
        rw [if_pos (by omega), if_pos (by rw [List.length_map, List.length_range]; omega), Int.toNat_natCast]
      · refine ⟨_, _, rfl, ?_, al3.imp fun _ _ z => z.keep (TK.lst how), Same.own s3 now0, ?_⟩
        · rw [upd_ne low]; exact hlo3
        · rw [upd_same, fL_set]
          congr 2
          refine List.map_congr_left fun k _ => ?_
          show V.int (if k = p.2 then cN (fun q => decide (q.2 = p.2)) ((looseOf bs).take i) + 1 else cN (fun q => decide (q.2 = k)) ((looseOf bs).take i)) = V.int (cN (fun q => decide (q.2 = k)) ((looseOf bs).take (i + 1)))
          rw [List.take_add_one, ep, show (some p).toList = [p] from rfl, cN_snoc]
          by_cases e : k = p.2
          · subst e
            simp
          · have : ¬ p.2 = k := fun z => e z.symm
            simp [e, this]
    · rintro σ H3 ⟨v4, v5, rfl, hlo3, al3, s3, how⟩
      refine ⟨eD, lo, ow, lv, v4, v5, rfl, hlo3, al3, s3, nlo, now0, low, ?_⟩
      rw [how, List.take_of_length_le (by rw [← al3.length]; exact Nat.le_refl _)]
      congr 2
      refine List.map_congr_left fun k _ => ?_
      show V.int (cN (fun q => decide (q.2 = k)) (looseOf bs)) = V.int (cN (owing (List.range hs.length) k) (looseOf bs))
      have e : (looseOf bs).filter (fun q => decide (q.2 = k)) = (looseOf bs).filter (owing (List.range hs.length) k) := List.filter_congr fun p hp => by
        have := (pls p hp).1
        show decide (p.2 = k) = (decide (p.2 = k) && decide (p.1 ∈ List.range hs.length))
        rw [decide_eq_true (List.mem_range.mpr this), Bool.and_true]
      unfold cN
      rw [e]
  refine ⟨_, rfl, r, _, rfl, SqT.of er, rfl, _, _, rfl, _, _, rfl, rfl, ?_⟩
  refine ⟨_, rfl, ba, rfl, ⟨_, SqT.of eb⟩, fun D nD => lc_tup (K := K) (a := ba) (xs := bv) (fun i H5 => ∃ lv : List V, H5 D = some (.lst lv) ∧ All2 (PairAt H5) lv (looseOf (bs.take i)) ∧ Same H H5) ⟨[], upd_same, .nil, same_new nD⟩ (fun i H5 _ ⟨_, _, _, s5⟩ => SqT.of (s5 _ _ eb)) ?_ ?_⟩
  · rintro i x H5 hx ⟨lv, hD, al, s5⟩
    obtain ⟨b, eb2, ⟨t, g, rfl, e1, e2⟩⟩ := alb.getL hx
    have il : i < bs.length := (List.getElem?_eq_some_iff.mp eb2).1
    have elo : looseOf (bs.take (i + 1)) = looseOf (bs.take i) ++ (if b.th.isEmpty = true then [(b.one, b.to)] else []) := by
      unfold looseOf
      rw [List.take_add_one, eb2, List.filter_append, List.map_append]
      congr 1
      cases h : b.th.isEmpty <;> simp [h]
    refine ⟨t, _, rfl, SqT.of (s5 _ _ e1), rfl, _, _, rfl, _, _, rfl, _, _, rfl, rfl, rfl, _, rfl, _, .inr (.inl ⟨_, SqT.of (s5 _ _ e2), rfl⟩), ?_⟩
    have lvl : lv.length ≤ 400 := by
      rw [al.length]
      unfold looseOf
      rw [List.length_map]
      refine Nat.le_trans (List.length_filter_le ..) ?_
      rw [List.length_take]
      omega
    refine if_bl (fun kk => ?_) (fun kk => ?_)
    · have ke : b.th.isEmpty = true := by
        cases h : b.th with
        | nil => rfl
        | cons a l => rw [h] at kk; cases kk
      refine ⟨_, rfl, _, rfl, (by show 2 ≤ sizeLine; decide), fun u nu => ⟨lv, same_new nu _ _ hD, small1000 (by omega), lv ++ [V.ref u], upd_same, ?_, ?_⟩⟩
      · rw [elo, if_pos ke]
        exact ((al.imp fun _ _ z => z.keep (TK.new nu)).snoc ⟨u, rfl, upd_same⟩).imp fun _ _ z => z.keep (TK.lst (same_new nu _ _ hD))
      · exact Same.own (s5.trans (same_new nu)) nD
    · have ke : ¬ b.th.isEmpty = true := by
        cases h : b.th with
        | nil => rw [h] at kk; cases kk
        | cons a l => intro z; cases z
      refine ⟨lv, hD, ?_, s5⟩
      rw [elo, if_neg ke, List.append_nil]
      exact al
  · rintro H5 ⟨lv, hD, al, s5⟩
    rw [List.take_of_length_le (by omega)] at al
    exact ⟨rfl, D, lv, rfl, hD, al, s5, nD⟩
end
/-! ### what rules make, bells -/
def mk2 (wd : Str) (a b : Int) : Int :=
  if wd = "sum" then a + b else if wd = "gap" then a - b else if wd = "below" then (if a < b then 1 else 0) else if wd = "most" then (if b > a then b else a) else (if b < a then b else a)
def mk (wd : Str) (n a b c : Int) : Int :=
  if wd = "always" then n else if wd = "times" then n * a else if wd = "pick" then (if a = 0 then c else b) else if wd = "same" ∨ wd = "out" then a else mk2 wd a b
def mkR (h : HR) (xs : List Int) : Int := mk h.wd (h.no.getD 0) (xs.getD 0 0) (xs.getD 1 0) (xs.getD 2 0)
/-- the hands whose rule is this door's -/
def doorsOf (z : Str) (hs : List HR) : List Nat := (List.range hs.length).filter fun i => decide (hs[i]?.map HR.wd = some z)
theorem mem_doors {z : Str} {hs : List HR} {k : Nat} : k ∈ doorsOf z hs ↔ ∃ h, hs[k]? = some h ∧ h.wd = z := by
  unfold doorsOf
  rw [List.mem_filter, List.mem_range, decide_eq_true_eq]
  constructor
  · rintro ⟨a, b⟩
    rw [List.getElem?_eq_getElem a] at b
    exact ⟨_, List.getElem?_eq_getElem a, Option.some.inj b⟩
  · rintro ⟨h, a, b⟩
    refine ⟨(List.getElem?_eq_some_iff.mp a).1, ?_⟩
    rw [a, ← b]
    rfl
theorem doors_nodup {z : Str} {hs : List HR} : (doorsOf z hs).Nodup := List.nodup_range.filter _
theorem doors_len {z : Str} {hs : List HR} : (doorsOf z hs).length ≤ hs.length := by
  refine Nat.le_trans (List.length_filter_le ..) ?_
  rw [List.length_range]
  exact Nat.le_refl _
abbrev gD (m : List Int) (k : Nat) : Int := m.getD k 0
def valB (f : Nat → Int) (b : BR) : Int := match b.th with | [] => f b.one | x :: _ => x
def takes (cur : List BR) (f : Nat → Int) (k : Nat) : List Int := (cur.filter fun b => decide (b.to = k)).map (valB f)
theorem valB_nil {f : Nat → Int} {b : BR} (h : b.th = []) : valB f b = f b.one := by unfold valB; rw [h]
theorem takes_ext {cur : List BR} {f g : Nat → Int} {k : Nat} (h : ∀ b ∈ cur, b.to = k → b.th = [] → f b.one = g b.one) : takes cur f k = takes cur g k := by
  unfold takes
  refine List.map_congr_left fun b hb => ?_
  have hb := List.mem_filter.mp hb
  cases e : b.th with
  | nil => rw [valB_nil e, valB_nil e]; exact h b hb.1 (of_decide_eq_true hb.2) e
  | cons x l => unfold valB; rw [e]
structure IsBell (hs : List HR) (cur : List BR) (ins m : List Int) : Prop where
  len : m.length = hs.length
  door : ∀ j k : Nat, (doorsOf "in" hs)[j]? = some k → m[k]? = ins[j]?
  hand : ∀ (k : Nat) (h : HR), hs[k]? = some h → h.wd ≠ "in" → m[k]? = some (mkR h (takes cur (gD m) k))
theorem mem_loose {cur : List BR} {b : BR} (h : b ∈ cur) (e : b.th = []) : (b.one, b.to) ∈ looseOf cur := List.mem_map.mpr ⟨b, List.mem_filter.mpr ⟨h, by rw [e]; rfl⟩, rfl⟩
theorem bell_one {hs : List HR} {cur : List BR} {ins m m' : List Int} {rk : Nat → Int} (hr : ∀ p ∈ looseOf cur, rk p.1 < rk p.2) (a : IsBell hs cur ins m) (b : IsBell hs cur ins m') : m = m' := by
  have off : ∀ k, ¬ k < hs.length → m[k]? = m'[k]? := fun k hk => by
    rw [List.getElem?_eq_none (by have := a.len; omega), List.getElem?_eq_none (by have := b.len; omega)]
  obtain ⟨D, hD⟩ : ∃ D, D = (List.range hs.length).filter fun k => decide (m[k]? ≠ m'[k]?) := ⟨_, rfl⟩
  have mD : ∀ k, k ∉ D → m[k]? = m'[k]? := fun k hk => by
    by_cases l : k < hs.length
    · by_cases e : m[k]? = m'[k]?
      · exact e
      · refine absurd ?_ hk
        rw [hD, List.mem_filter]
        exact ⟨List.mem_range.mpr l, decide_eq_true e⟩
    · exact off k l
  by_cases e : D = []
  · refine List.ext_getElem? fun k => mD k ?_
    rw [e]
    exact fun z => nomatch z
  · exfalso
    obtain ⟨k, hk, fr⟩ := some_free hr e
    have hk2 := hk
    rw [hD, List.mem_filter] at hk2
    have kl := List.mem_range.mp hk2.1
    have ne : m[k]? ≠ m'[k]? := of_decide_eq_true hk2.2
    have eh : hs[k]? = some hs[k] := List.getElem?_eq_getElem kl
    by_cases w : hs[k].wd = "in"
    · obtain ⟨j, hj⟩ := List.getElem?_of_mem (mem_doors.mpr ⟨_, eh, w⟩)
      exact ne ((a.door j k hj).trans (b.door j k hj).symm)
    · refine ne ((a.hand k _ eh w).trans ((b.hand k _ eh w).trans ?_).symm)
      rw [takes_ext (g := gD m) fun c hc et en => ?_]
      have := mD c.one (fr _ (mem_loose hc en) et)
      show m'.getD c.one 0 = m.getD c.one 0
      rw [List.getD_eq_getElem?_getD, List.getD_eq_getElem?_getD, this]
/-- what some hands have made already -/
structure Part (hs : List HR) (cur : List BR) (ins : List Int) (pm : Nat → Option Int) : Prop where
  dom : ∀ k v, pm k = some v → k < hs.length
  door : ∀ j k : Nat, (doorsOf "in" hs)[j]? = some k → pm k = ins[j]?
  hand : ∀ (k : Nat) (h : HR) (v : Int), hs[k]? = some h → h.wd ≠ "in" → pm k = some v → v = mkR h (takes cur (fun j => (pm j).getD 0) k) ∧ ∀ b ∈ cur, b.to = k → b.th = [] → (pm b.one).isSome = true
abbrev putM (pm : Nat → Option Int) (k : Nat) (v : Int) : Nat → Option Int := fun j => if j = k then some v else pm j
theorem Part.put {hs : List HR} {cur : List BR} {ins : List Int} {pm : Nat → Option Int} (p : Part hs cur ins pm) {k : Nat} {h : HR} (eh : hs[k]? = some h) (w : h.wd ≠ "in") (new : pm k = none)
    (there : ∀ b ∈ cur, b.to = k → b.th = [] → (pm b.one).isSome = true) : Part hs cur ins (putM pm k (mkR h (takes cur (fun j => (pm j).getD 0) k))) := by
  have old : ∀ j, (pm j).isSome = true → ∀ v, putM pm k v j = pm j := fun j hj v => if_neg fun e => by rw [e, new] at hj; cases hj
  have same : ∀ j v, (∀ b ∈ cur, b.to = j → b.th = [] → (pm b.one).isSome = true) → takes cur (fun i => (pm i).getD 0) j = takes cur (fun i => (putM pm k v i).getD 0) j := fun j v hb => takes_ext fun b b1 b2 b3 => by
    show (pm b.one).getD 0 = (putM pm k v b.one).getD 0
    rw [old _ (hb b b1 b2 b3)]
  refine ⟨fun j v e => ?_, fun i j e => ?_, fun j h' v e1 e2 e3 => ?_⟩
  · by_cases z : j = k
    · rw [z]; exact (List.getElem?_eq_some_iff.mp eh).1
    · exact p.dom j v ((if_neg z).symm.trans e)
  · have z : j ≠ k := fun z => by
      obtain ⟨h2, q1, q2⟩ := mem_doors.mp (List.mem_of_getElem? e)
      rw [z, eh] at q1
      cases q1
      exact w q2
    exact (if_neg z).trans (p.door i j e)
  · by_cases z : j = k
    · subst z
      rw [eh] at e1
      cases e1
      have e4 := Option.some.inj ((if_pos rfl).symm.trans e3)
      refine ⟨?_, fun b b1 b2 b3 => ?_⟩
      · exact e4.symm.trans (congrArg (mkR h) (same _ _ there))
      · rw [old _ (there b b1 b2 b3)]
        exact there b b1 b2 b3
    · have e4 : pm j = some v := (if_neg z).symm.trans e3
      obtain ⟨q1, q2⟩ := p.hand j h' v e1 e2 e4
      refine ⟨?_, fun b b1 b2 b3 => ?_⟩
      · exact q1.trans (congrArg (mkR h') (same _ _ q2))
      · rw [old _ (q2 b b1 b2 b3)]
        exact q2 b b1 b2 b3
abbrev fullM (n : Nat) (pm : Nat → Option Int) : List Int := (List.range n).map fun k => (pm k).getD 0
theorem fullM_get {n k : Nat} {pm : Nat → Option Int} (h : k < n) : (fullM n pm)[k]? = some ((pm k).getD 0) := by
  rw [List.getElem?_map, List.getElem?_range h]; rfl
theorem Part.full {hs : List HR} {cur : List BR} {ins : List Int} {pm : Nat → Option Int} (p : Part hs cur ins pm) (all : ∀ k, k < hs.length → (pm k).isSome = true) : IsBell hs cur ins (fullM hs.length pm) := by
  have at_ : ∀ k, k < hs.length → ∃ v, pm k = some v ∧ (fullM hs.length pm)[k]? = some v := fun k hk => by
    obtain ⟨v, hv⟩ := Option.isSome_iff_exists.mp (all k hk)
    exact ⟨v, hv, by rw [fullM_get hk, hv]; rfl⟩
  refine ⟨by rw [List.length_map, List.length_range], fun j k e => ?_, fun k h e w => ?_⟩
  · obtain ⟨h, q, _⟩ := mem_doors.mp (List.mem_of_getElem? e)
    obtain ⟨v, e1, e2⟩ := at_ k (List.getElem?_eq_some_iff.mp q).1
    rw [e2, ← e1]
    exact p.door j k e
  · obtain ⟨v, e1, e2⟩ := at_ k (List.getElem?_eq_some_iff.mp e).1
    obtain ⟨q1, q2⟩ := p.hand k h v e w e1
    rw [e2, q1]
    congr 2
    refine takes_ext fun b b1 b2 b3 => ?_
    obtain ⟨x, hx⟩ := Option.isSome_iff_exists.mp (q2 b b1 b2 b3)
    obtain ⟨y, e3, e4⟩ := at_ b.one (p.dom _ _ hx)
    show (pm b.one).getD 0 = (fullM hs.length pm).getD b.one 0
    rw [List.getD_eq_getElem?_getD, e4, e3]
/-! ### the dict of what was made -/
abbrev kN (k : Nat) : Key := .inl ((k : Nat) : Int)
def DM (kvs : List (Key × V)) (pm : Nat → Option Int) : Prop := ∀ k : Nat, valV kvs (kN k) = (pm k).map V.int
theorem kN_inj {a b : Nat} (h : kN a = kN b) : a = b := by
  have : ((a : Nat) : Int) = ((b : Nat) : Int) := Sum.inl.inj h
  omega
theorem DM.put {kvs : List (Key × V)} {pm : Nat → Option Int} (d : DM kvs pm) (k : Nat) (v : Int) : DM (putK kvs (kN k) (.int v)) (putM pm k v) := fun j => by
  rw [valV_put]
  by_cases e : j = k
  · subst e
    rw [if_pos rfl, show putM pm j v j = some v from if_pos rfl]
    rfl
  · rw [if_neg fun z => e (kN_inj z), show putM pm k v j = pm j from if_neg e]
    exact d j
theorem merge_off {k : Nat} : ∀ (ks : List Nat) (xs : List Int) (acc : List (Key × V)), k ∉ ks → valV (mergeK acc ((ks.map kN).zip (xs.map V.int))) (kN k) = valV acc (kN k)
  | [], _, _, _ => rfl
  | _ :: _, [], _, _ => rfl
  | a :: ks, x :: xs, acc, h => by
    have h1 : k ≠ a := fun e => h (by rw [e]; exact List.mem_cons_self ..)
    have h2 : k ∉ ks := fun e => h (List.mem_cons_of_mem _ e)
    show valV (mergeK (putK acc (kN a) (V.int x)) ((ks.map kN).zip (xs.map V.int))) (kN k) = _
    rw [merge_off ks xs _ h2, valV_put, if_neg fun z => h1 (kN_inj z)]
theorem merge_on {k : Nat} {v : Int} : ∀ (ks : List Nat) (xs : List Int) (acc : List (Key × V)) (j : Nat), ks.Nodup → ks[j]? = some k → xs[j]? = some v → valV (mergeK acc ((ks.map kN).zip (xs.map V.int))) (kN k) = some (.int v)
  | [], _, _, _, _, h, _ => nomatch h
  | _ :: _, [], _, _, _, _, h => nomatch h
  | a :: ks, x :: xs, acc, 0, nd, h1, h2 => by
    cases h1
    cases h2
    show valV (mergeK (putK acc (kN k) (V.int v)) ((ks.map kN).zip (xs.map V.int))) (kN k) = _
    rw [merge_off ks xs _ (List.nodup_cons.mp nd).1, valV_put, if_pos rfl]
  | a :: ks, x :: xs, acc, j + 1, nd, h1, h2 => merge_on ks xs _ j (List.nodup_cons.mp nd).2 h1 h2
/-- what the in doors have made -/
def doorM (hs : List HR) (ins : List Int) : Nat → Option Int := fun k => if k ∈ doorsOf "in" hs then ins[(doorsOf "in" hs).idxOf k]? else none
theorem idx_at {l : List Nat} (nd : l.Nodup) {j k : Nat} (h : l[j]? = some k) : l.idxOf k = j := by
  have jl := (List.getElem?_eq_some_iff.mp h).1
  have m := List.mem_of_getElem? h
  have il := List.idxOf_lt_length_of_mem m
  exact (List.getElem_inj nd (h₀ := il) (h₁ := jl)).mp ((List.getElem_idxOf il).trans (List.getElem?_eq_some_iff.mp h).2.symm)
theorem doorM_dm {hs : List HR} {ins : List Int} (hl : ins.length = (doorsOf "in" hs).length) : DM (mergeK [] (((doorsOf "in" hs).map kN).zip (ins.map V.int))) (doorM hs ins) := fun k => by
  unfold doorM
  by_cases e : k ∈ doorsOf "in" hs
  · rw [if_pos e]
    have il := List.idxOf_lt_length_of_mem e
    have e1 : (doorsOf "in" hs)[(doorsOf "in" hs).idxOf k]? = some k := by rw [List.getElem?_eq_getElem il, List.getElem_idxOf]
    have e2 : ins[(doorsOf "in" hs).idxOf k]? = some ins[(doorsOf "in" hs).idxOf k] := List.getElem?_eq_getElem (by omega)
    rw [merge_on _ _ _ _ doors_nodup e1 e2, e2]
    rfl
  · rw [if_neg e, merge_off _ _ _ e]
    rfl
theorem doorM_part {hs : List HR} {cur : List BR} {ins : List Int} : Part hs cur ins (doorM hs ins) := by
  refine ⟨fun k v e => ?_, fun j k e => ?_, fun k h v e w e2 => ?_⟩
  · unfold doorM at e
    by_cases m : k ∈ doorsOf "in" hs
    · obtain ⟨h, q, _⟩ := mem_doors.mp m
      exact (List.getElem?_eq_some_iff.mp q).1
    · rw [if_neg m] at e
      cases e
  · unfold doorM
    rw [if_pos (List.mem_of_getElem? e), idx_at doors_nodup e]
  · unfold doorM at e2
    rw [if_neg fun m => by
      obtain ⟨h2, q1, q2⟩ := mem_doors.mp m
      rw [e] at q1
      cases q1
      exact w q2] at e2
    cases e2
theorem doorM_all {hs : List HR} {ins : List Int} (hl : ins.length = (doorsOf "in" hs).length) {k : Nat} {h : HR} (e : hs[k]? = some h) (w : h.wd = "in") : (doorM hs ins k).isSome = true := by
  have m := mem_doors.mpr ⟨h, e, w⟩
  unfold doorM
  rw [if_pos m]
  have il := List.idxOf_lt_length_of_mem m
  rw [List.getElem?_eq_getElem (by omega)]
  rfl
/-! ### belts as they stand behind some bells -/
def nextB (m : List Int) (b : BR) : BR := if b.th = [] then b else ⟨b.one, b.to, b.th.drop 1 ++ [gD m b.one]⟩
def standB (ms : List (List Int)) (b : BR) : BR := if b.th = [] then b else ⟨b.one, b.to, (b.th ++ ms.map fun m => gD m b.one).drop ms.length⟩
abbrev stand (bs : List BR) (ms : List (List Int)) : List BR := bs.map (standB ms)
theorem stand_one (ms : List (List Int)) (b : BR) : (standB ms b).one = b.one := by unfold standB; split <;> rfl
theorem stand_to (ms : List (List Int)) (b : BR) : (standB ms b).to = b.to := by unfold standB; split <;> rfl
theorem stand_len (ms : List (List Int)) (b : BR) : (standB ms b).th.length = b.th.length := by
  unfold standB
  split
  · rfl
  · rw [List.length_drop, List.length_append, List.length_map]; omega
theorem nil_len {l l' : List Int} (h : l.length = l'.length) : l = [] ↔ l' = [] := by
  cases l <;> cases l' <;> simp at h ⊢
theorem stand_th (ms : List (List Int)) (b : BR) : (standB ms b).th = [] ↔ b.th = [] := nil_len (stand_len ms b)
theorem stand_zero (bs : List BR) : stand bs [] = bs := by
  refine (List.map_congr_left (g := id) fun b _ => ?_).trans (List.map_id _)
  unfold standB
  split
  · rfl
  · show (⟨b.one, b.to, (b.th ++ []).drop 0⟩ : BR) = b
    rw [List.append_nil]
    rfl
theorem stand_next (bs : List BR) (ms : List (List Int)) (m : List Int) : (stand bs ms).map (nextB m) = stand bs (ms ++ [m]) := by
  rw [List.map_map]
  refine List.map_congr_left fun b _ => ?_
  show nextB m (standB ms b) = standB (ms ++ [m]) b
  have hn := stand_th ms b
  by_cases e : b.th = []
  · rw [show nextB m (standB ms b) = standB ms b from if_pos (hn.mpr e)]
    rw [show standB ms b = b from if_pos e, show standB (ms ++ [m]) b = b from if_pos e]
  · rw [show nextB m (standB ms b) = ⟨(standB ms b).one, (standB ms b).to, (standB ms b).th.drop 1 ++ [gD m (standB ms b).one]⟩ from if_neg fun z => e (hn.mp z)]
    rw [stand_one, stand_to, show standB ms b = ⟨b.one, b.to, (b.th ++ ms.map fun m => gD m b.one).drop ms.length⟩ from if_neg e,
      show standB (ms ++ [m]) b = ⟨b.one, b.to, (b.th ++ (ms ++ [m]).map fun m => gD m b.one).drop (ms ++ [m]).length⟩ from if_neg e]
    show (⟨b.one, b.to, ((b.th ++ ms.map fun m => gD m b.one).drop ms.length).drop 1 ++ [gD m b.one]⟩ : BR) = _
    rw [List.drop_drop, List.map_append, ← List.append_assoc, List.length_append]
    congr 1
    refine (List.drop_append_of_le_length ?_).symm
    have := List.length_pos_iff.mpr e
    rw [List.length_append, List.length_map]
    show ms.length + 1 ≤ _
    omega
theorem loose_stand (bs : List BR) (ms : List (List Int)) : looseOf (stand bs ms) = looseOf bs := by
  unfold looseOf
  induction bs with
  | nil => rfl
  | cons b bs ih =>
    have e : (standB ms b).th.isEmpty = b.th.isEmpty := by
      have h := stand_th ms b
      cases h1 : (standB ms b).th <;> cases h2 : b.th <;> simp [h1, h2] at h ⊢
    show List.map _ (List.filter _ (standB ms b :: stand bs ms)) = _
    rw [List.filter_cons, List.filter_cons, e]
    cases b.th.isEmpty
    · exact ih
    · show ((standB ms b).one, (standB ms b).to) :: _ = (b.one, b.to) :: _
      rw [ih, stand_one, stand_to]
/-- what is taken from a belt with trays -/
theorem stand_head {ms : List (List Int)} {b : BR} (f : Nat → Int) (e : b.th ≠ []) : valB f (standB ms b) = (b.th ++ ms.map fun m => gD m b.one).getD ms.length 0 := by
  have hl := stand_len ms b
  have pos := List.length_pos_iff.mpr e
  have et : (standB ms b).th = (b.th ++ ms.map fun m => gD m b.one).drop ms.length := by unfold standB; rw [if_neg e]
  unfold valB
  cases q : (standB ms b).th with
  | nil => rw [q] at hl; simp at hl; omega
  | cons x l =>
    rw [q] at et
    have : ((b.th ++ ms.map fun m => gD m b.one).drop ms.length)[0]? = some x := by rw [← et]; rfl
    rw [List.getElem?_drop, Nat.add_zero] at this
    rw [List.getD_eq_getElem?_getD, this]
    rfl
/-! ### many bells -/
structure WS (hs : List HR) (bs : List BR) (rows ms : List (List Int)) : Prop where
  len : ms.length = rows.length
  at_ : ∀ (t : Nat) (r m : List Int), rows[t]? = some r → ms[t]? = some m → IsBell hs (stand bs (ms.take t)) r m
theorem WS.nil {hs : List HR} {bs : List BR} : WS hs bs [] [] := ⟨rfl, fun t r m e => nomatch e⟩
theorem WS.snoc {hs : List HR} {bs : List BR} {rows ms : List (List Int)} {r m : List Int} (h : WS hs bs rows ms) (b : IsBell hs (stand bs ms) r m) : WS hs bs (rows ++ [r]) (ms ++ [m]) := by
  refine ⟨by rw [List.length_append, List.length_append, h.len]; rfl, fun t r' m' e1 e2 => ?_⟩
  by_cases l : t < ms.length
  · have l2 : t < rows.length := by rw [← h.len]; exact l
    rw [List.getElem?_append_left l2] at e1
    rw [List.getElem?_append_left l] at e2
    rw [List.take_append_of_le_length (Nat.le_of_lt l)]
    exact h.at_ t r' m' e1 e2
  · have tl := (List.getElem?_eq_some_iff.mp e2).1
    rw [List.length_append] at tl
    have et : t = ms.length := by simp at tl; omega
    subst et
    rw [List.getElem?_append_right (Nat.le_refl _), Nat.sub_self] at e2
    rw [h.len, List.getElem?_append_right (Nat.le_refl _), Nat.sub_self] at e1
    cases e1
    cases e2
    rw [List.take_append_of_le_length (Nat.le_refl _), List.take_length]
    exact b
theorem WS.one {hs : List HR} {bs : List BR} {rows ms ms' : List (List Int)} {rk : Nat → Int} (hr : ∀ p ∈ looseOf bs, rk p.1 < rk p.2) (a : WS hs bs rows ms) (b : WS hs bs rows ms') : ms = ms' := by
  have key : ∀ t, ms.take t = ms'.take t := by
    intro t
    induction t with
    | zero => rfl
    | succ t ih =>
      rw [List.take_add_one, List.take_add_one, ih]
      by_cases l : t < rows.length
      · have l1 : t < ms.length := by have := a.len; omega
        have l2 : t < ms'.length := by have := b.len; omega
        have e1 : ms[t]? = some ms[t] := List.getElem?_eq_getElem l1
        have e2 : ms'[t]? = some ms'[t] := List.getElem?_eq_getElem l2
        have e3 : rows[t]? = some rows[t] := List.getElem?_eq_getElem l
        have q1 := a.at_ t _ _ e3 e1
        have q2 := b.at_ t _ _ e3 e2
        rw [ih] at q1
        have := bell_one (rk := rk) (by rw [loose_stand]; exact hr) q1 q2
        rw [e1, e2, this]
      · rw [List.getElem?_eq_none (by have := a.len; omega), List.getElem?_eq_none (by have := b.len; omega)]
  have h1 := key rows.length
  rw [List.take_of_length_le (by rw [a.len]; exact Nat.le_refl _), List.take_of_length_le (by rw [b.len]; exact Nat.le_refl _)] at h1
  exact h1
theorem WS.row {hs : List HR} {bs : List BR} {rows ms : List (List Int)} (h : WS hs bs rows ms) : ∀ m ∈ ms, m.length = hs.length := fun m hm => by
  obtain ⟨t, e⟩ := List.getElem?_of_mem hm
  have tl := (List.getElem?_eq_some_iff.mp e).1
  have e3 : rows[t]? = some (rows[t]'(by rw [← h.len]; exact tl)) := List.getElem?_eq_getElem _
  exact (h.at_ t _ _ e3 e).len
/-- the belts that come to a hand -/
def comingN (bs : List BR) (k : Nat) : List Nat := (List.range bs.length).filter fun i => decide (bs[i]?.map BR.to = some k)
def outsOf (hs : List HR) (m : List Int) : List Int := (doorsOf "out" hs).map (gD m)
/-! ### a loop over any iterator, whatever its turn does -/
theorem it_loop {J : It} {n : Nat} {B : V → Hp → (Hp → Prop) → Prop} {H0 : Hp} {Qd : Hp → Prop} (Pv : Nat → Hp → Prop) (h0 : Pv 0 H0) (go : ∀ i H, i < n → Pv i H → J.go i H) (st : ∀ H, Pv n H → J.stop n H)
    (hs : ∀ i x H H', i < n → Pv i H → J.yld i H x H' → B x H' (Pv (i + 1))) (hd : ∀ H, Pv n H → Qd H) :
    ∃ W : Nat → Nat → Hp → Prop, (∃ m, W 0 m H0) ∧ ∀ i m H, W i m H → (J.stop i H ∧ Qd H) ∨ (J.go i H ∧ ∃ Nx : Hp → Prop, (∀ H', Nx H' → ∃ m', m' < m ∧ W (i + 1) m' H') ∧ ∀ x H', J.yld i H x H' → B x H' Nx) := by
  refine ⟨fun i m H => i + m = n ∧ Pv i H, ⟨n, by omega, h0⟩, fun i m H ⟨e, p⟩ => ?_⟩
  by_cases k : i < n
  · exact .inr ⟨go i H k p, Pv (i + 1), fun H' p' => ⟨m - 1, by omega, by omega, p'⟩, fun x H' y => hs i x H H' k p y⟩
  · have z : i = n := by omega
    subst z
    exact .inl ⟨st H p, hd H p⟩
theorem r_at0 {xs : List V} {k : Nat} {x : V} (h : xs[k]? = some x) : atI xs (0 + (k : Int)) = some x := by
  rw [Int.zero_add]
  exact atI_nat h
theorem filt_succ {p : Nat → Bool} (i : Nat) : (List.range (i + 1)).filter p = (List.range i).filter p ++ (if p i = true then [i] else []) := by
  rw [List.range_succ, List.filter_append]
  cases h : p i <;> simp [h]
theorem filt_len {p : Nat → Bool} (i : Nat) : ((List.range i).filter p).length ≤ i := by
  refine Nat.le_trans (List.length_filter_le ..) ?_
  rw [List.length_range]
  exact Nat.le_refl _
/-! ### max, min of a list with a default -/
def rMaxDf (K : PySem.W.Frag) : List V → List V → Hp → VK → Prop := fun xs zs H Q => ∃ (a : Addr) (ns : List Int) (d : V), xs = [.ref a] ∧ zs = [d] ∧ SqL K H a (ns.map V.int) ∧ (ns = [] → Q d H) ∧ ∀ m, m ∈ ns → (∀ y ∈ ns, y ≤ m) → Q (.int m) H
def rMinDf (K : PySem.W.Frag) : List V → List V → Hp → VK → Prop := fun xs zs H Q => ∃ (a : Addr) (ns : List Int) (d : V), xs = [.ref a] ∧ zs = [d] ∧ SqL K H a (ns.map V.int) ∧ (ns = [] → Q d H) ∧ ∀ m, m ∈ ns → (∀ y ∈ ns, m ≤ y) → Q (.int m) H
theorem ints_val {ns : List Int} {its : List Value} (rv : Vals (ns.map V.int) its) : ∀ i v, its.toArray[i]? = some v → ∃ t, v = Value.int (ns.getD i 0) t := fun i v e => by
  rw [List.getElem?_toArray] at e
  have il : i < ns.length := by
    have h1 := (List.getElem?_eq_some_iff.mp e).1
    have h2 := rv.length
    rw [List.length_map] at h2
    omega
  obtain ⟨u, eu, t, ru⟩ := rv.get (i := i) (x := .int ns[i]) (by rw [List.getElem?_map, List.getElem?_eq_getElem il]; rfl)
  rw [e] at eu
  cases eu
  exact ⟨t, by rw [ru, List.getD_eq_getElem?_getD, List.getElem?_eq_getElem il]; rfl⟩
section
variable {X : Cx}
theorem cr_maxDf (K : PySem.W.Frag) (hk : X.K = K) (hc : X.calm = true) : CallRK X (.builtin "max") ["default"] (rMaxDf K) := by
  subst hk
  intro pins s σ H xs zs us ws Q I r r2 h
  obtain ⟨a, ns, d, rfl, rfl, hs, q0, q1⟩ := h
  obtain ⟨its, rv, hl, _⟩ := I.list hs
  rw [Vals.ref1 r]
  obtain ⟨dv, rfl, rd⟩ := vals1 r2
  have hh := I.ok.hd hc
  have ln : its.length = ns.length := by rw [← rv.length, List.length_map]
  show wpAny _ _ (call (.builtin "max") [.ref a] [(Str.ofString "default", dv)]) _ _ s
  refine PySem.call_max_walkD (PySem.W.iter_listW (A := X.A.in1) hh hl.isList fun s₂ e W st hfp hw hk => ?_)
  refine ⟨_, _, _, _, _, _, _, s.heap, (fun i j => decide (ns.getD i 0 > ns.getD j 0)), rfl, W, st, hfp, hw, hk, fun hz s' m => ?_, fun hp => ⟨fun i j vi vj s3 Q3 E3 _ p1 p2 q3 => ?_, fun v s' hP m => ?_⟩⟩
  · obtain ⟨h', tk, rfl, hk'⟩ := PySem.W.moved_old e rfl m
    refine ⟨d, H, I.kept hk', rd, q0 ?_⟩
    exact List.eq_nil_of_length_eq_zero (by have : its.toArray.size = 0 := hz; rw [List.size_toArray] at this; omega)
  · exact (CmpOf.ints_gt (fun i => ns.getD i 0) (ints_val rv)) i j vi vj s3 Q3 E3 p1 p2 q3
  · obtain ⟨h', tk, rfl, hk'⟩ := PySem.W.moved_old e rfl m
    have hp : 0 < its.length := by have : 0 < its.toArray.size := hp; rw [List.size_toArray] at this; exact this
    have hsz : its.toArray.size = its.length := List.size_toArray
    obtain ⟨t, rfl⟩ := ints_val rv _ v hP
    obtain ⟨h1, h2⟩ := argBest_gt (fun i => ns.getD i 0) (its.toArray.size - 1)
    refine ⟨.int _, H, I.kept hk', ⟨_, rfl⟩, q1 _ ?_ fun y hy => ?_⟩
    · have il : argBest (fun i j => decide (ns.getD i 0 > ns.getD j 0)) (its.toArray.size - 1) < ns.length := by omega
      rw [List.getD_eq_getElem?_getD, List.getElem?_eq_getElem il]
      exact List.getElem_mem _
    · obtain ⟨j, hj⟩ := List.getElem?_of_mem hy
      have jl := (List.getElem?_eq_some_iff.mp hj).1
      have := h2 j (by omega)
      rw [show ns.getD j 0 = y by rw [List.getD_eq_getElem?_getD, hj]; rfl] at this
      exact this
theorem cr_minDf (K : PySem.W.Frag) (hk : X.K = K) (hc : X.calm = true) : CallRK X (.builtin "min") ["default"] (rMinDf K) := by
  subst hk
  intro pins s σ H xs zs us ws Q I r r2 h
  obtain ⟨a, ns, d, rfl, rfl, hs, q0, q1⟩ := h
  obtain ⟨its, rv, hl, _⟩ := I.list hs
  rw [Vals.ref1 r]
  obtain ⟨dv, rfl, rd⟩ := vals1 r2
  have hh := I.ok.hd hc
  have ln : its.length = ns.length := by rw [← rv.length, List.length_map]
  show wpAny _ _ (call (.builtin "min") [.ref a] [(Str.ofString "default", dv)]) _ _ s
  refine PySem.call_min_walkD (PySem.W.iter_listW (A := X.A.in1) hh hl.isList fun s₂ e W st hfp hw hk => ?_)
  refine ⟨_, _, _, _, _, _, _, s.heap, (fun i j => decide (ns.getD i 0 < ns.getD j 0)), rfl, W, st, hfp, hw, hk, fun hz s' m => ?_, fun hp => ⟨fun i j vi vj s3 Q3 E3 _ p1 p2 q3 => ?_, fun v s' hP m => ?_⟩⟩
  · obtain ⟨h', tk, rfl, hk'⟩ := PySem.W.moved_old e rfl m
    refine ⟨d, H, I.kept hk', rd, q0 ?_⟩
    exact List.eq_nil_of_length_eq_zero (by have : its.toArray.size = 0 := hz; rw [List.size_toArray] at this; omega)
  · exact (CmpOf.ints_lt (fun i => ns.getD i 0) (ints_val rv)) i j vi vj s3 Q3 E3 p1 p2 q3
  · obtain ⟨h', tk, rfl, hk'⟩ := PySem.W.moved_old e rfl m
    have hp : 0 < its.length := by have : 0 < its.toArray.size := hp; rw [List.size_toArray] at this; exact this
    have hsz : its.toArray.size = its.length := List.size_toArray
    obtain ⟨t, rfl⟩ := ints_val rv _ v hP
    obtain ⟨h1, h2⟩ := argBest_lt (fun i => ns.getD i 0) (its.toArray.size - 1)
    refine ⟨.int _, H, I.kept hk', ⟨_, rfl⟩, q1 _ ?_ fun y hy => ?_⟩
    · have il : argBest (fun i j => decide (ns.getD i 0 < ns.getD j 0)) (its.toArray.size - 1) < ns.length := by omega
      rw [List.getD_eq_getElem?_getD, List.getElem?_eq_getElem il]
      exact List.getElem_mem _
    · obtain ⟨j, hj⟩ := List.getElem?_of_mem hy
      have jl := (List.getElem?_eq_some_iff.mp hj).1
      have := h2 j (by omega)
      rw [show ns.getD j 0 = y by rw [List.getD_eq_getElem?_getD, hj]; rfl] at this
      exact this
end
section
variable {P : Program} {w : World} {K : PySem.W.Frag} {mg : Str → Option Value} {base : Heap}
def sp_made_of_two (K : PySem.W.Frag) : Sp := fun vs H Q _ => ∃ (wd : Str) (a b : Int), vs = [.str wd, .int a, .int b] ∧ Q (.int (mk2 wd a b)) H
theorem ok_made_of_two {f : Addr} {fd : FuncData} (F : Fun K "made_of_two" "made_of_two" s_made_of_two f fd) {C : Addr} (T : Top K mg C) : FnOk P w K mg base CX0 1 f fd ["word", "one", "other"] (sp_made_of_two K) := by
  refine F.ok sc_made_of_two (fun vs H Q E h => ?_) (fun cdv A outer s H vs Q E hr h => ?_)
  · obtain ⟨wd, a, b, rfl, _⟩ := h
    rfl
  obtain ⟨wd, a, b, rfl, q⟩ := h
  unfold mk2 at q
  refine ⟨_, (pss_cons (ps_if (pt_cmpR op_eq (pv 0) pe_str (nomark _)) (pss_one (ps_ret (pe_op op_add (pv 1) (pv 2)))) pss_nil)
      (pss_cons (ps_if (pt_cmpR op_eq (pv 0) pe_str (nomark _)) (pss_one (ps_ret (pe_op op_sub (pv 1) (pv 2)))) pss_nil)
      (pss_cons (ps_if (pt_cmpR op_eq (pv 0) pe_str (nomark _)) (pss_one (ps_ret (pe_ifExp (pt_cmpR op_lt (pv 1) (pv 2) (nomark _)) pe_int pe_int))) pss_nil)
      (pss_cons (ps_if (pt_cmpR op_eq (pv 0) pe_str (nomark _)) (pss_one (ps_ret (pe_callB (call_max2 rfl) (by rfl) T.m_max (by decide +kernel) (pa_cons (pv 1) (pa_cons (pv 2) pa_nil))))) pss_nil)
      (pss_one (ps_ret (pe_callB (call_min2 rfl) (by rfl) T.m_min (by decide +kernel) (pa_cons (pv 1) (pa_cons (pv 2) pa_nil))))))))), ?_⟩
  refine ⟨_, rfl, rfl, _, rfl, if_str (fun e => ?_) (fun e => ?_)⟩
  · rw [if_pos e] at q
    exact ⟨_, rfl, _, rfl, _, _, rfl, rfl, q⟩
  rw [if_neg e] at q
  refine ⟨_, rfl, rfl, _, rfl, if_str (fun e => ?_) (fun e => ?_)⟩
  · rw [if_pos e] at q
    exact ⟨_, rfl, _, rfl, _, _, rfl, rfl, q⟩
  rw [if_neg e] at q
  refine ⟨_, rfl, rfl, _, rfl, if_str (fun e => ?_) (fun e => ?_)⟩
  · rw [if_pos e] at q
    refine ⟨_, rfl, _, rfl, _, _, rfl, rfl, _, rfl, if_bl (fun c => ?_) (fun c => ?_)⟩
    · rw [if_pos (of_decide_eq_true c)] at q
      exact q
    · rw [if_neg (of_decide_eq_false c)] at q
      exact q
  rw [if_neg e] at q
  refine ⟨_, rfl, rfl, _, rfl, if_str (fun e => ?_) (fun e => ?_)⟩
  · rw [if_pos e] at q
    exact ⟨_, rfl, _, rfl, _, _, rfl, q⟩
  rw [if_neg e] at q
  exact ⟨_, rfl, _, rfl, _, _, rfl, q⟩
theorem inV_two {x y z : Str} : inV (.str x) [.str y, .str z] = true ↔ x = y ∨ x = z := by
  unfold inV
  simp only [List.any_cons, List.any_nil, Bool.or_false, Bool.or_eq_true, eqV, beq_iff_eq]
  constructor
  · rintro (h | h)
    · exact .inl h.symm
    · exact .inr h.symm
  · rintro (h | h)
    · exact .inl h.symm
    · exact .inr h.symm
theorem if_in2 {x y z : Str} {A B : Prop} (h1 : x = y ∨ x = z → A) (h2 : ¬ (x = y ∨ x = z) → B) : if (if false = true then !inV (.str x) [.str y, .str z] else inV (.str x) [.str y, .str z]) = true then A else B := by
  have e : (if false = true then !inV (.str x) [.str y, .str z] else inV (.str x) [.str y, .str z]) = inV (.str x) [.str y, .str z] := if_neg Bool.false_ne_true
  rw [e]
  exact if_bl (fun c => h1 (inV_two.mp c)) (fun c => h2 (fun k => by rw [inV_two.mpr k] at c; cases c))
def sp_made_by (K : PySem.W.Frag) : Sp := fun vs H Q _ => ∃ (r t : Addr) (rl ts : List V) (wd : Str) (n a b c : Int), vs = [.ref r, .ref t] ∧ SqT K H r rl ∧ SqT K H t ts ∧ rl[0]? = some (.str wd) ∧
  (wd = "always" ∨ wd = "times" → rl[1]? = some (.int n)) ∧ (wd ≠ "always" → ts[0]? = some (.int a)) ∧ (wd = "pick" ∨ (wd ≠ "always" ∧ wd ≠ "times" ∧ wd ≠ "same" ∧ wd ≠ "out") → ts[1]? = some (.int b)) ∧ (wd = "pick" → ts[2]? = some (.int c)) ∧
  (-(2 ^ 64) < n ∧ n < 2 ^ 64) ∧ ∀ H', Same H H' → Q (.int (mk wd n a b c)) H'
theorem ok_made_by {f : Addr} {fd : FuncData} (F : Fun K "made_by" "made_by" s_made_by f fd) {C : Addr} (T : Top K mg C) : FnOk P w K mg base CX0 2 f fd ["rule", "things"] (sp_made_by K) := by
  obtain ⟨f_made_of_two, fd_made_of_two, F_made_of_two, b_made_of_two, m_made_of_two⟩ := T.d_made_of_two
  have G_made_of_two := ok_made_of_two (P := P) (w := w) (base := base) F_made_of_two T
  refine F.ok sc_made_by (fun vs H Q E h => ?_) (fun cdv A outer s H vs Q E hr h => ?_)
  · obtain ⟨r, t, rl, ts, wd, n, a, b, c, rfl, _⟩ := h
    rfl
  obtain ⟨r, t, rl, ts, wd, n, a, b, c, rfl, hR, hT, r0, r1, t0, t1, t2, hn, q⟩ := h
  unfold mk at q
  refine ⟨_, (pss_cons (ps_set (i := 2) sc_made_by.nd rfl (Or.inl rfl) (pe_ix (ix_tupK K rfl) (pv 0) pe_int (fun _ _ => rfl)))
      (pss_cons (ps_if (pt_cmpR op_eq (pv 2) pe_str (nomark _)) (pss_one (ps_ret (pe_ix (ix_tupK K rfl) (pv 0) pe_int (fun _ _ => rfl)))) pss_nil)
      (pss_cons (ps_if (pt_cmpR op_eq (pv 2) pe_str (nomark _)) (pss_one (ps_ret (pe_op op_mul (pe_ix (ix_tupK K rfl) (pv 0) pe_int (fun _ _ => rfl)) (pe_ix (ix_tupK K rfl) (pv 1) pe_int (fun _ _ => rfl))))) pss_nil)
      (pss_cons (ps_if (pt_cmpR op_eq (pv 2) pe_str (nomark _)) (pss_one (ps_ret (pe_ifExp (pt_cmpR op_ne (pe_ix (ix_tupK K rfl) (pv 1) pe_int (fun _ _ => rfl)) pe_int (nomark _)) (pe_ix (ix_tupK K rfl) (pv 1) pe_int (fun _ _ => rfl)) (pe_ix (ix_tupK K rfl) (pv 1) pe_int (fun _ _ => rfl))))) pss_nil)
      (pss_cons (ps_if (pt_cmpR (op_in_seqK K rfl) (pv 2) (pe_tup (pa_cons pe_str (pa_cons pe_str pa_nil))) (by with_unfolding_all rfl)) (pss_one (ps_ret (pe_ix (ix_tupK K rfl) (pv 1) pe_int (fun _ _ => rfl)))) pss_nil)
      (pss_one (ps_ret (pe_call G_made_of_two (hr.mono (by decide)) (by rfl) m_made_of_two F_made_of_two.kp b_made_of_two .nil pass0 (pa_cons (pv 2) (pa_cons (pe_ix (ix_tupK K rfl) (pv 1) pe_int (fun _ _ => rfl)) (pa_cons (pe_ix (ix_tupK K rfl) (pv 1) pe_int (fun _ _ => rfl)) pa_nil))))))))))), ?_⟩
  refine ⟨_, rfl, r, _, _, _, rfl, rfl, hR, atI_nat (j := 0) r0, ?_⟩
  refine ⟨_, rfl, rfl, _, rfl, if_str (fun e1 => ?_) (fun e1 => ?_)⟩
  · have q := q H (fun _ _ e => e)
    rw [if_pos e1] at q
    exact ⟨_, rfl, r, _, _, _, rfl, rfl, hR, atI_nat (j := 1) (r1 (.inl e1)), q⟩
  refine ⟨_, rfl, rfl, _, rfl, if_str (fun e2 => ?_) (fun e2 => ?_)⟩
  · have q := q H (fun _ _ e => e)
    rw [if_neg e1, if_pos e2] at q
    exact ⟨_, rfl, r, _, _, _, rfl, rfl, hR, atI_nat (j := 1) (r1 (.inr e2)), _, rfl, t, _, _, _, rfl, rfl, hT, atI_nat (j := 0) (t0 e1), _, _, rfl, rfl, .inl hn, q⟩
  refine ⟨_, rfl, rfl, _, rfl, if_str (fun e3 => ?_) (fun e3 => ?_)⟩
  · have q := q H (fun _ _ e => e)
    rw [if_neg e1, if_neg e2, if_pos e3] at q
    refine ⟨_, rfl, t, _, _, _, rfl, rfl, hT, atI_nat (j := 0) (t0 e1), rfl, _, rfl, if_bl (fun k => ?_) (fun k => ?_)⟩
    · have k2 : ¬ a = 0 := fun z => by
        rw [z] at k
        exact absurd k (by decide)
      rw [if_neg k2] at q
      exact ⟨_, rfl, t, _, _, _, rfl, rfl, hT, atI_nat (j := 1) (t1 (.inl e3)), q⟩
    · have k2 : a = 0 := by
        by_cases z : a = 0
        · exact z
        · have k3 : (!decide (V.int a = V.int 0)) = false := k
          rw [decide_eq_false (fun y => z (V.int.inj y))] at k3
          cases k3
      rw [if_pos k2] at q
      exact ⟨_, rfl, t, _, _, _, rfl, rfl, hT, atI_nat (j := 2) (t2 e3), q⟩
  refine ⟨_, rfl, (by show 2 ≤ sizeLine; decide), fun p np => ?_⟩
  have s1 := same_new (o := .tup [V.str "same", V.str "out"]) np
  have q := q _ s1
  rw [if_neg e1, if_neg e2, if_neg e3] at q
  refine ⟨p, _, rfl, .inr (SqT.of upd_same), rfl, rfl, _, rfl, if_in2 (fun e4 => ?_) (fun e4 => ?_)⟩
  · rw [if_pos e4] at q
    exact ⟨_, rfl, t, _, _, _, rfl, rfl, same_seqT s1 hT, atI_nat (j := 0) (t0 e1), q⟩
  · rw [if_neg e4] at q
    exact ⟨_, rfl, _, rfl, t, _, _, _, rfl, rfl, same_seqT s1 hT, atI_nat (j := 0) (t0 e1), _, rfl, t, _, _, _, rfl, rfl, same_seqT s1 hT, atI_nat (j := 1) (t1 (.inr ⟨e1, e2, fun z => e4 (.inl z), fun z => e4 (.inr z)⟩)), wd, a, b, rfl, q⟩
end
section
variable {P : Program} {w : World} {K : PySem.W.Frag} {mg : Str → Option Value} {base : Heap}
def sp_comings (K : PySem.W.Frag) : Sp := fun vs H Q _ => ∃ (r : Addr) (hs : List HR) (bs : List BR) (k : Nat), vs = [.ref r, nV k] ∧ RoomAt H r hs bs ∧ bs.length ≤ 400 ∧ ∀ (p : Addr) (H' : Hp), H p = none → H' p = some (.lst ((comingN bs k).map nV)) → Same H H' → Q (.ref p) H'
theorem ok_comings {f : Addr} {fd : FuncData} (F : Fun K "comings" "comings" s_comings f fd) {C : Addr} (T : Top K mg C) : FnOk P w K mg base CX0 1 f fd ["room", "hand"] (sp_comings K) := by
  refine F.ok sc_comings (fun vs H Q E h => ?_) (fun cdv A outer s H vs Q E hr h => ?_)
  · obtain ⟨r, hs, bs, k, rfl, _⟩ := h
    rfl
  obtain ⟨r, hs, bs, k, rfl, hR, lb, q⟩ := h
  obtain ⟨ha, ba, hv, bv, er, eh, eb, alh, alb⟩ := hR.ex
  have lbv := alb.length
  refine ⟨_, (pss_one (ps_ret (pe_lc (own := [("number", 2), ("belt", 3)]) (g := gTup K 2 (gCons (gName 2) (gCons (gName 3) gNil))) (by rfl) sc_comings.nd (pi_enumT K rfl (by rfl) T.m_enumerate (pa_cons (pe_ix (ix_tupK K rfl) (pv 0) pe_int (fun _ _ => rfl)) pa_nil)) (blkOk_by (own := [("number", 2), ("belt", 3)]) (N := N_comings) (sc := defScope s_comings) (by decide +kernel)) (fun _ _ _ _ _ => (pg_tupK K rfl rfl (pgs_cons (pg_name (i := 2) sc_comings.nd rfl (Or.inl rfl)) (pgs_cons (pg_name (i := 3) sc_comings.nd rfl (Or.inl rfl)) pgs_nil)))) (fun _ _ _ _ _ => pts_one (pt_cmpR op_eq (pe_ix (ix_tupK K rfl) (pv 3) pe_int (fun _ _ => rfl)) (pv 1) (nomark _))) (fun _ _ _ _ _ => (pv 2))))), ?_⟩
  refine ⟨_, rfl, r, _, _, _, rfl, rfl, SqT.of er, atI_nat (j := 1) rfl, ba, bv, rfl, SqT.of eb, fun D nD => lc_it (J := IteT K ba bv) (n := bv.length) (fun i H5 => H5 D = some (.lst (((List.range i).filter fun j => decide (bs[j]?.map BR.to = some k)).map nV)) ∧ Same H H5) ⟨upd_same, same_new nD⟩ ?_ ?_ ?_ ?_⟩
  · rintro i H5 hi ⟨hD, s5⟩
    exact ⟨SqT.of (s5 _ _ eb), hi⟩
  · rintro H5 ⟨hD, s5⟩
    exact ⟨SqT.of (s5 _ _ eb), rfl⟩
  · rintro i x H5 H6 hi ⟨hD, s5⟩ ⟨t, y, rfl, nt, rfl, ey⟩
    obtain ⟨b, eb2, ⟨t2, g, rfl, e1, e2⟩⟩ := alb.getL ey
    have s6 := s5.trans (same_new (o := .tup [V.int ((i : Nat) : Int), V.ref t2]) nt)
    have hD6 := same_new (o := .tup [V.int ((i : Nat) : Int), V.ref t2]) nt _ _ hD
    have few := filt_len (p := fun j => decide (bs[j]?.map BR.to = some k)) i
    refine ⟨t, _, rfl, SqT.of upd_same, rfl, _, _, rfl, _, _, rfl, rfl, rfl, _, rfl, t2, _, _, _, rfl, rfl, SqT.of (s6 _ _ e1), atI_nat (j := 1) rfl, _, rfl, rfl, _, rfl, if_bl (fun c => ?_) (fun c => ?_)⟩
    · have c : b.to = k := by have := V.int.inj (of_decide_eq_true c); omega
      refine ⟨_, rfl, _, hD6, by rw [List.length_map]; exact small1000 (by omega), ?_, Same.own s6 nD⟩
      rw [upd_same, filt_succ, if_pos (decide_eq_true (by rw [eb2, ← c]; rfl)), List.map_append]
      rfl
    · have c : ¬ b.to = k := fun z => of_decide_eq_false c (by rw [z])
      refine ⟨?_, s6⟩
      rw [filt_succ, if_neg fun z => c (by have := of_decide_eq_true z; rw [eb2] at this; exact Option.some.inj this), List.append_nil]
      exact hD6
  · rintro H5 ⟨hD, s5⟩
    refine q D H5 nD ?_ s5
    rw [hD, lbv]
    rfl
def sp_doors (z : Str) : Sp := fun vs H Q _ => ∃ (r : Addr) (hs : List HR) (bs : List BR), vs = [.ref r] ∧ RoomAt H r hs bs ∧ hs.length ≤ 400 ∧ (∀ h ∈ hs, GoodHand h) ∧ ∀ (p : Addr) (H' : Hp), H p = none → H' p = some (.lst ((doorsOf z hs).map nV)) → Same H H' → Q (.ref p) H'
abbrev sp_doors_in (K : PySem.W.Frag) : Sp := sp_doors "in"
abbrev sp_doors_out (K : PySem.W.Frag) : Sp := sp_doors "out"
theorem ok_doors_in {f : Addr} {fd : FuncData} (F : Fun K "doors_in" "doors_in" s_doors_in f fd) {C : Addr} (T : Top K mg C) : FnOk P w K mg base CX0 1 f fd ["room"] (sp_doors_in K) := by
  refine F.ok sc_doors_in (fun vs H Q E h => ?_) (fun cdv A outer s H vs Q E hr h => ?_)
  · obtain ⟨r, hs, bs, rfl, _⟩ := h
    rfl
  obtain ⟨aI, mI, hI⟩ := T.x_in
  obtain ⟨r, hs, bs, rfl, hR, lb, good, q⟩ := h
  obtain ⟨ha, ba, hv, bv, er, eh, eb, alh, alb⟩ := hR.ex
  have lhv := alh.length
  refine ⟨_, (pss_one (ps_ret (pe_lc (own := [("number", 1), ("hand", 2)]) (g := gTup K 2 (gCons (gName 1) (gCons (gName 2) gNil))) (by rfl) sc_doors_in.nd (pi_enumT K rfl (by rfl) T.m_enumerate (pa_cons (pe_ix (ix_tupK K rfl) (pv 0) pe_int (fun _ _ => rfl)) pa_nil)) (blkOk_by (own := [("number", 1), ("hand", 2)]) (N := N_doors_in) (sc := defScope s_doors_in) (by decide +kernel)) (fun _ _ _ _ _ => (pg_tupK K rfl rfl (pgs_cons (pg_name (i := 1) sc_doors_in.nd rfl (Or.inl rfl)) (pgs_cons (pg_name (i := 2) sc_doors_in.nd rfl (Or.inl rfl)) pgs_nil)))) (fun _ _ _ _ _ => pts_one (pt_cmpR (op_eqDK K rfl hr.units) (pe_ix (ix_tupK K rfl) (pv 2) pe_int (fun _ _ => rfl)) (pe_glob (v := .ref aI) (by rfl) mI rfl) (nomark _))) (fun _ _ _ _ _ => (pv 1))))), ?_⟩
  refine ⟨_, rfl, r, _, _, _, rfl, rfl, SqT.of er, atI_nat (j := 0) rfl, ha, hv, rfl, SqT.of eh, fun D nD => lc_it (J := IteT K ha hv) (n := hv.length) (fun i H5 => H5 D = some (.lst (((List.range i).filter fun j => decide (hs[j]?.map HR.wd = some ("in" : Str))).map nV)) ∧ Same H H5) ⟨upd_same, same_new nD⟩ ?_ ?_ ?_ ?_⟩
  · rintro i H5 hi ⟨hD, s5⟩
    exact ⟨SqT.of (s5 _ _ eh), hi⟩
  · rintro H5 ⟨hD, s5⟩
    exact ⟨SqT.of (s5 _ _ eh), rfl⟩
  · rintro i x H5 H6 hi ⟨hD, s5⟩ ⟨t, y, rfl, nt, rfl, ey⟩
    obtain ⟨hh, eb2, ⟨t2, g, rfl, e1, e2⟩⟩ := alh.getL ey
    have gh := good _ (List.mem_of_getElem? eb2)
    have s6 := s5.trans (same_new (o := .tup [V.int ((i : Nat) : Int), V.ref t2]) nt)
    have hD6 := same_new (o := .tup [V.int ((i : Nat) : Int), V.ref t2]) nt _ _ hD
    have few := filt_len (p := fun j => decide (hs[j]?.map HR.wd = some ("in" : Str))) i
    refine ⟨t, _, rfl, SqT.of upd_same, rfl, _, _, rfl, _, _, rfl, rfl, rfl, _, rfl, t2, _, _, _, rfl, rfl, SqT.of (s6 _ _ e1), atI_nat (j := 0) rfl, ?_⟩
    refine ⟨_, _, rule_dp (s6 _ _ e2), .tup (hI _) (.cons (.str _) .nil), rule_shaped gh.lay, one_shaped (by decide +kernel), _, rfl, ?_⟩
    rw [rule_eqv, gh.door "in" (.inl rfl)]
    by_cases c : hh.wd = "in"
    · rw [decide_eq_true c]
      refine if_bl (fun _ => ⟨_, rfl, _, hD6, by rw [List.length_map]; exact small1000 (by omega), ?_, Same.own s6 nD⟩) (fun z => nomatch z)
      rw [upd_same, filt_succ, if_pos (decide_eq_true (by rw [eb2, ← c]; rfl)), List.map_append]
      rfl
    · rw [decide_eq_false c]
      refine if_bl (fun z => nomatch z) (fun _ => ⟨?_, s6⟩)
      rw [filt_succ, if_neg fun z => c (by have := of_decide_eq_true z; rw [eb2] at this; exact Option.some.inj this), List.append_nil]
      exact hD6
  · rintro H5 ⟨hD, s5⟩
    refine q D H5 nD ?_ s5
    rw [hD, lhv]
    rfl
end
/-- a tuple of whole numbers -/
def RowAt (H : Hp) (v : V) (m : List Int) : Prop := ∃ t : Addr, v = .ref t ∧ H t = some (.tup (m.map V.int))
theorem RowAt.keep {H H' : Hp} {v : V} {m : List Int} (a : RowAt H v m) (k : TK H H') : RowAt H' v m := by
  obtain ⟨t, e, h⟩ := a
  exact ⟨t, e, k _ _ h⟩
theorem gD_get {m : List Int} {k : Nat} (h : k < m.length) : m[k]? = some (gD m k) := by
  show _ = some (m.getD k 0)
  rw [List.getD_eq_getElem?_getD, List.getElem?_eq_getElem h]; rfl
theorem at_row {m : List Int} {k : Nat} (h : k < m.length) : atI (m.map V.int) ((k : Nat) : Int) = some (.int (gD m k)) := atI_nat (by rw [List.getElem?_map, gD_get h]; rfl)
theorem soon_one {ls : List (Nat × Nat)} : ∀ {left o1 o2 : List Nat}, Soon ls left o1 → Soon ls left o2 → o1 = o2 := by
  intro left o1 o2 h
  induction h generalizing o2 with
  | nil =>
    intro h2
    cases h2 with
    | nil => rfl
    | cons a => cases a
  | cons a b c d ih =>
    intro h2
    cases h2 with
    | nil => cases a
    | @cons _ ord k2 a2 b2 c2 d2 =>
      have e := Nat.le_antisymm (c _ a2 b2) (c2 _ a b)
      subst e
      rw [ih d2]
theorem soon_len {ls : List (Nat × Nat)} {left ord : List Nat} (h : Soon ls left ord) : ord.length = left.length := by
  induction h with
  | nil => rfl
  | cons a b c d ih =>
    rw [List.length_cons, ih, List.length_erase_of_mem a]
    have := List.length_pos_of_mem a
    omega
theorem soon_mem {ls : List (Nat × Nat)} {left ord : List Nat} (h : Soon ls left ord) : ∀ x ∈ ord, x ∈ left := by
  induction h with
  | nil => exact fun _ z => nomatch z
  | cons a b c d ih =>
    intro x hx
    rcases List.mem_cons.mp hx with e | e
    · rw [e]; exact a
    · exact List.mem_of_mem_erase (ih x e)
section
variable {P : Program} {w : World} {K : PySem.W.Frag} {mg : Str → Option Value} {base : Heap}
/-- a hand and the belts that come to it -/
def PlanAt (Z : Hp) (D : Addr) (bs : List BR) (H : Hp) (v : V) (k : Nat) : Prop := ∃ t l : Addr, v = .ref t ∧ H t = some (.tup [nV k, .ref l]) ∧ H l = some (.lst ((comingN bs k).map nV)) ∧ l ≠ D ∧ Z t = none ∧ Z l = none
theorem PlanAt.same {Z : Hp} {D : Addr} {bs : List BR} {H H' : Hp} {v : V} {k : Nat} (a : PlanAt Z D bs H v k) (s : Same H H') : PlanAt Z D bs H' v k := by
  obtain ⟨t, l, e, h1, h2, n⟩ := a
  exact ⟨t, l, e, s _ _ h1, s _ _ h2, n⟩
theorem PlanAt.own {Z : Hp} {D : Addr} {bs : List BR} {H : Hp} {v : V} {k : Nat} {xs ys : List V} (a : PlanAt Z D bs H v k) (h : H D = some (.lst xs)) : PlanAt Z D bs (upd H D (.lst ys)) v k := by
  obtain ⟨t, l, e, h1, h2, n⟩ := a
  exact ⟨t, l, e, TK.lst h _ _ h1, by rw [upd_ne n.1]; exact h2, n⟩
def sp_work_plan (K : PySem.W.Frag) : Sp := fun vs H Q _ => ∃ (r : Addr) (hs : List HR) (bs : List BR) (rk : Nat → Int), vs = [.ref r] ∧ RoomAt H r hs bs ∧ hs.length ≤ 400 ∧ bs.length ≤ 400 ∧ (∀ b ∈ bs, b.one < hs.length ∧ b.to < hs.length) ∧ (∀ p ∈ looseOf bs, rk p.1 < rk p.2) ∧
  ∀ (p D : Addr) (ord : List Nat) (pv : List V) (H' : Hp), H p = none → H' p = some (.lst pv) → All2 (PlanAt H D bs H') pv ord → Soon (looseOf bs) (List.range hs.length) ord → Same H H' → Q (.ref p) H'
theorem ok_work_plan {f : Addr} {fd : FuncData} (F : Fun K "work_plan" "work_plan" s_work_plan f fd) {C : Addr} (T : Top K mg C) : FnOk P w K mg base CX0 2 f fd ["room"] (sp_work_plan K) := by
  obtain ⟨f_comings, fd_comings, F_comings, b_comings, m_comings⟩ := T.d_comings
  have G_comings := ok_comings (P := P) (w := w) (base := base) F_comings T
  obtain ⟨f_work_order, fd_work_order, F_work_order, b_work_order, m_work_order⟩ := T.d_work_order
  have G_work_order := ok_work_order (P := P) (w := w) (base := base) F_work_order T
  refine F.ok sc_work_plan (fun vs H Q E h => ?_) (fun cdv A outer s H vs Q E hr h => ?_)
  · obtain ⟨r, hs, bs, rk, rfl, _⟩ := h
    rfl
  obtain ⟨r, hs, bs, rk, rfl, hR, lh, lb, ends, hrk, q⟩ := h
  refine ⟨_, (pss_one (ps_ret (pe_lc (own := [("hand", 1)]) (g := gName 1) (tt := tYes) (by rfl) sc_work_plan.nd (pi_listK K rfl (pe_call G_work_order (hr.mono (by decide)) (by rfl) m_work_order F_work_order.kp b_work_order .nil pass0 (pa_cons (pv 0) pa_nil))) (blkOk_by (own := [("hand", 1)]) (N := N_work_plan) (sc := defScope s_work_plan) (by decide +kernel)) (fun _ _ _ _ _ => (pg_name (i := 1) sc_work_plan.nd rfl (Or.inl rfl))) (fun _ _ _ _ _ => pts_nil) (fun _ _ _ _ _ => (pe_tup (pa_cons (pv 1) (pa_cons (pe_call G_comings (hr.mono (by decide)) (by rfl) m_comings F_comings.kp b_comings .nil pass0 (pa_cons (pv 0) (pa_cons (pv 1) pa_nil))) pa_nil))))))), ?_⟩
  refine ⟨_, rfl, r, hs, bs, rk, rfl, hR, lh, lb, ends, hrk, fun od ord H1 nod hod s1 soon => ?_⟩
  have lo := soon_len soon
  rw [List.length_range] at lo
  refine ⟨od, rfl, ⟨_, SqL.of hod⟩, fun D nD => lc_list (K := K) (a := od) (xs := ord.map nV) (fun i H5 => ∃ pv : List V, H5 D = some (.lst pv) ∧ All2 (PlanAt H D bs H5) pv (ord.take i) ∧ Same H1 H5) ⟨[], upd_same, .nil, same_new nD⟩ (fun i H5 _ ⟨_, _, _, s5⟩ => SqL.of (s5 _ _ hod)) ?_ ?_⟩
  · rintro i x H5 hx ⟨pv, hD, al, s5⟩
    rw [List.getElem?_map] at hx
    cases ek : ord[i]? with
    | none => rw [ek] at hx; cases hx
    | some k =>
    rw [ek] at hx
    obtain rfl : nV k = x := Option.some.inj hx
    have il := (List.getElem?_eq_some_iff.mp ek).1
    refine ⟨rfl, yes_in ⟨_, rfl, _, rfl, _, rfl, r, hs, bs, k, rfl, hR.keep (TK.same (s1.trans s5)), lb, fun l H6 nl hl s6 => ⟨(by show 2 ≤ sizeLine; decide), fun t nt => ⟨pv, same_new nt _ _ (s6 _ _ hD), ?_, pv ++ [V.ref t], upd_same, ?_, Same.own ((s5.trans s6).trans (same_new nt)) nD⟩⟩⟩⟩
    · have := al.length
      rw [List.length_take] at this
      exact small1000 (by omega)
    · rw [List.take_add_one, ek]
      have h6 : All2 (PlanAt H D bs (upd H6 t (.tup [nV k, V.ref l]))) (pv ++ [V.ref t]) (ord.take i ++ [k]) := (al.imp fun _ _ z => z.same (s6.trans (same_new nt))).snoc ⟨t, l, rfl, upd_same, same_new nt _ _ hl, (ne_of_none hD nl).symm, same_none ((s1.trans s5).trans s6) nt, same_none (s1.trans s5) nl⟩
      exact h6.imp fun _ _ z => z.own (same_new nt _ _ (s6 _ _ hD))
  · rintro H5 ⟨pv, hD, al, s5⟩
    rw [List.length_map, List.take_length] at al
    exact q D D ord pv H5 (same_none s1 nD) hD al soon (s1.trans s5)
theorem dget_of {H : Hp} {a : Addr} {kvs : List (Key × V)} {k : Nat} {o : Option V} (e : H a = some (.dK kvs)) (h : valV kvs (kN k) = o) : DGet H a (nV k) o := h ▸ DGet.k (k := kN k) e
def sp_thing_taken (K : PySem.W.Frag) : Sp := fun vs H Q _ => ∃ (v : V) (b : BR) (d : Addr) (kvs : List (Key × V)) (pm : Nat → Option Int), vs = [v, .ref d] ∧ BeltAt H v b ∧ H d = some (.dK kvs) ∧ DM kvs pm ∧ (b.th = [] → (pm b.one).isSome = true) ∧ Q (.int (valB (fun j => (pm j).getD 0) b)) H
theorem ok_thing_taken {f : Addr} {fd : FuncData} (F : Fun K "thing_taken" "thing_taken" s_thing_taken f fd) {C : Addr} (T : Top K mg C) : FnOk P w K mg base CX0 1 f fd ["belt", "made"] (sp_thing_taken K) := by
  refine F.ok sc_thing_taken (fun vs H Q E h => ?_) (fun cdv A outer s H vs Q E hr h => ?_)
  · obtain ⟨v, b, d, kvs, pm, rfl, _⟩ := h
    rfl
  obtain ⟨v, b, d, kvs, pm, rfl, ⟨t, g, rfl, e1, e2⟩, hd, dm, av, q⟩ := h
  refine ⟨_, (pss_cons (ps_asg (pv 0) (pg_tupK K rfl rfl (pgs_cons (pg_name (i := 2) sc_thing_taken.nd rfl (Or.inl rfl)) (pgs_cons (pg_name (i := 3) sc_thing_taken.nd rfl (Or.inl rfl)) (pgs_cons (pg_name (i := 4) sc_thing_taken.nd rfl (Or.inl rfl)) pgs_nil)))))
      (pss_one (ps_ret (pe_ifExp (pt_truthK K rfl (pv 4) (by intro _; rfl)) (pe_ix (ix_tupK K rfl) (pv 4) pe_int (fun _ _ => rfl)) (pe_dget (hu_of hr) (pv 1) (pv 2) (fun _ _ => rfl)))))), ?_⟩
  refine ⟨_, rfl, t, _, rfl, SqT.of e1, rfl, _, _, rfl, _, _, rfl, _, _, rfl, rfl, ?_⟩
  refine ⟨_, rfl, _, .inr (.inl ⟨_, SqT.of e2, rfl⟩), ?_⟩
  cases eb : b.th with
  | nil =>
    rw [valB_nil eb] at q
    obtain ⟨x, hx⟩ := Option.isSome_iff_exists.mp (av eb)
    rw [hx] at q
    refine if_bl (fun z => nomatch z) (fun _ => ⟨_, rfl, _, rfl, d, .int x, rfl, dget_of hd ?_, q⟩)
    rw [dm, hx]
    rfl
  | cons x l =>
    have ev : valB (fun j => (pm j).getD 0) b = x := by unfold valB; rw [eb]
    rw [ev] at q
    rw [eb] at e2
    exact if_bl (fun _ => ⟨_, rfl, g, _, _, _, rfl, rfl, SqT.of e2, atI_nat (j := 0) rfl, q⟩) (fun z => nomatch z)
def sp_belt_behind_bell (K : PySem.W.Frag) : Sp := fun vs H Q _ => ∃ (v : V) (b : BR) (t : Addr) (m : List Int), vs = [v, .ref t] ∧ BeltAt H v b ∧ H t = some (.tup (m.map V.int)) ∧ b.one < m.length ∧ b.th.length ≤ 400 ∧ ∀ (u : V) (H' : Hp), BeltAt H' u (nextB m b) → Same H H' → Q u H'
theorem ok_belt_behind_bell {f : Addr} {fd : FuncData} (F : Fun K "belt_behind_bell" "belt_behind_bell" s_belt_behind_bell f fd) {C : Addr} (T : Top K mg C) : FnOk P w K mg base CX0 1 f fd ["belt", "made"] (sp_belt_behind_bell K) := by
  refine F.ok sc_belt_behind_bell (fun vs H Q E h => ?_) (fun cdv A outer s H vs Q E hr h => ?_)
  · obtain ⟨v, b, t, m, rfl, _⟩ := h
    rfl
  obtain ⟨v, b, tm, m, rfl, hb, htm, om, lt, q⟩ := h
  obtain ⟨t, g, rfl, e1, e2⟩ := id hb
  refine ⟨_, (pss_cons (ps_asg (pv 0) (pg_tupK K rfl rfl (pgs_cons (pg_name (i := 2) sc_belt_behind_bell.nd rfl (Or.inl rfl)) (pgs_cons (pg_name (i := 3) sc_belt_behind_bell.nd rfl (Or.inl rfl)) (pgs_cons (pg_name (i := 4) sc_belt_behind_bell.nd rfl (Or.inl rfl)) pgs_nil)))))
      (pss_one (ps_ret (pe_ifExp (pt_truthK K rfl (pv 4) (by intro _; rfl)) (pe_tup (pa_cons (pv 2) (pa_cons (pv 3) (pa_cons (pe_op (op_catAK K rfl) (pe_slice (sl_tupAK K rfl) (pv 4) (po_some pe_int) po_none) (pe_tup (pa_cons (pe_ix (ix_tupK K rfl) (pv 1) (pv 2) (fun _ _ => rfl)) pa_nil))) pa_nil)))) (pv 0))))), ?_⟩
  refine ⟨_, rfl, t, _, rfl, SqT.of e1, rfl, _, _, rfl, _, _, rfl, _, _, rfl, rfl, ?_⟩
  refine ⟨_, rfl, _, .inr (.inl ⟨_, SqT.of e2, rfl⟩), ?_⟩
  unfold nextB at q
  cases eb : b.th with
  | nil =>
    rw [if_pos eb] at q
    exact if_bl (fun z => nomatch z) (fun _ => ⟨_, rfl, q _ _ hb (fun _ _ e => e)⟩)
  | cons x l =>
    rw [if_neg (by rw [eb]; exact fun z => nomatch z), eb] at q
    rw [eb] at e2 lt
    have lt : l.length + 1 ≤ 400 := lt
    have ec : cutV ((x :: l).map V.int) (some 1) none = l.map V.int := by
      have := cut_drop ((x :: l).map V.int) 1
      exact this
    refine if_bl (fun _ => ⟨_, rfl, _, rfl, _, rfl, _, rfl, g, _, rfl, SqT.of e2, (fun z => ?_), fun _ p np => ?_⟩) (fun z => nomatch z)
    · exact absurd z.1 (by rw [show (1 : Int) = ((1 : Nat) : Int) from rfl, HT.sIx_nat]; simp)
    rw [ec]
    refine ⟨_, rfl, _, rfl, tm, _, _, _, rfl, rfl, SqT.of (same_new np _ _ htm), at_row om, (by show 1 ≤ sizeLine; decide), fun p2 np2 => ?_⟩
    have s2 := (same_new (o := .tup (l.map V.int)) np).trans (same_new (o := .tup [V.int (gD m b.one)]) np2)
    have hp2 := same_new (o := .tup [V.int (gD m b.one)]) np2 _ _ (upd_same (H := H) (a := p) (o := .tup (l.map V.int)))
    refine ⟨p, p2, _, _, rfl, rfl, SqT.of hp2, SqT.of upd_same, ?_, fun z => ?_, (fun z y => nomatch y), fun z _ p3 np3 => ?_⟩
    · rw [List.length_map]; exact little (by show l.length + 1 ≤ 1000; omega)
    · have zl : l = [] := by cases l with | nil => rfl | cons a b => cases z
      subst zl
      refine ⟨(by show 3 ≤ sizeLine; decide), fun p4 np4 => q (.ref p4) _ ⟨p4, p2, rfl, upd_same, ?_⟩ (s2.trans (same_new np4))⟩
      exact same_new np4 _ _ upd_same
    · refine ⟨(by show 3 ≤ sizeLine; decide), fun p4 np4 => q (.ref p4) _ ⟨p4, p3, rfl, upd_same, ?_⟩ ((s2.trans (same_new np3)).trans (same_new np4))⟩
      have := same_new (o := .tup [nV b.one, nV b.to, V.ref p3]) np4 _ _ (upd_same (H := upd (upd H p (.tup (l.map V.int))) p2 (.tup [V.int (gD m b.one)])) (a := p3) (o := .tup (l.map V.int ++ [V.int (gD m b.one)])))
      rw [this]
      show _ = some (HO.tup ((l ++ [gD m b.one]).map V.int))
      rw [List.map_append]
      rfl
def sp_behind_bell (K : PySem.W.Frag) : Sp := fun vs H Q _ => ∃ (r t : Addr) (hs : List HR) (cur : List BR) (m : List Int), vs = [.ref r, .ref t] ∧ RoomAt H r hs cur ∧ H t = some (.tup (m.map V.int)) ∧ (∀ b ∈ cur, b.one < m.length ∧ b.th.length ≤ 400) ∧ cur.length ≤ 400 ∧ ∀ (p : Addr) (H' : Hp), RoomAt H' p hs (cur.map (nextB m)) → Same H H' → Q (.ref p) H'
theorem ok_behind_bell {f : Addr} {fd : FuncData} (F : Fun K "behind_bell" "behind_bell" s_behind_bell f fd) {C : Addr} (T : Top K mg C) : FnOk P w K mg base CX0 2 f fd ["room", "made"] (sp_behind_bell K) := by
  obtain ⟨f_belt_behind_bell, fd_belt_behind_bell, F_belt_behind_bell, b_belt_behind_bell, m_belt_behind_bell⟩ := T.d_belt_behind_bell
  have G_belt_behind_bell := ok_belt_behind_bell (P := P) (w := w) (base := base) F_belt_behind_bell T
  refine F.ok sc_behind_bell (fun vs H Q E h => ?_) (fun cdv A outer s H vs Q E hr h => ?_)
  · obtain ⟨r, t, hs, cur, m, rfl, _⟩ := h
    rfl
  obtain ⟨r, t, hs, cur, m, rfl, hR, ht, hb, lc, q⟩ := h
  obtain ⟨ha, ba, hv, bv, er, eh, eb, alh, alb⟩ := hR.ex
  have lbv := alb.length
  refine ⟨_, (pss_cons (ps_asg (pv 0) (pg_tupK K rfl rfl (pgs_cons (pg_name (i := 2) sc_behind_bell.nd rfl (Or.inl rfl)) (pgs_cons (pg_name (i := 3) sc_behind_bell.nd rfl (Or.inl rfl)) pgs_nil))))
      (pss_one (ps_ret (pe_tup (pa_cons (pv 2) (pa_cons (pe_callTy (call_tuple_ofK K rfl) (by rfl) T.m_tuple (by decide +kernel) (pa_cons (pe_lc (own := [("belt", 4)]) (g := gName 4) (tt := tYes) (by rfl) sc_behind_bell.nd (pi_tupK K rfl (pv 3)) (blkOk_by (own := [("belt", 4)]) (N := N_behind_bell) (sc := defScope s_behind_bell) (by decide +kernel)) (fun _ _ _ _ _ => (pg_name (i := 4) sc_behind_bell.nd rfl (Or.inl rfl))) (fun _ _ _ _ _ => pts_nil) (fun _ _ _ _ _ => (pe_call G_belt_behind_bell (hr.mono (by decide)) (by rfl) m_belt_behind_bell F_belt_behind_bell.kp b_belt_behind_bell .nil pass0 (pa_cons (pv 4) (pa_cons (pv 1) pa_nil))))) pa_nil)) pa_nil)))))), ?_⟩
  refine ⟨_, rfl, r, _, rfl, SqT.of er, rfl, _, _, rfl, _, _, rfl, rfl, ?_⟩
  refine ⟨_, rfl, _, rfl, ba, rfl, ⟨_, SqT.of eb⟩, fun D nD => lc_tup (K := K) (a := ba) (xs := bv) (fun i H5 => ∃ lv : List V, H5 D = some (.lst lv) ∧ All2 (BeltAt H5) lv ((cur.take i).map (nextB m)) ∧ Same H H5) ⟨[], upd_same, .nil, same_new nD⟩ (fun i H5 _ ⟨_, _, _, s5⟩ => SqT.of (s5 _ _ eb)) ?_ ?_⟩
  · rintro i x H5 hx ⟨lv, hD, al, s5⟩
    obtain ⟨b, eb2, hB⟩ := alb.getL hx
    have il := (List.getElem?_eq_some_iff.mp eb2).1
    obtain ⟨b1, b2⟩ := hb b (List.mem_of_getElem? eb2)
    refine ⟨rfl, yes_in ⟨_, rfl, _, rfl, x, b, t, m, rfl, hB.keep (TK.same s5), s5 _ _ ht, b1, b2, fun u H6 hu s6 => ⟨lv, s6 _ _ hD, ?_, lv ++ [u], upd_same, ?_, Same.own (s5.trans s6) nD⟩⟩⟩
    · have := al.length
      rw [List.length_map, List.length_take] at this
      exact small1000 (by omega)
    · rw [List.take_add_one, eb2, List.map_append]
      exact ((al.imp fun _ _ z => z.keep (TK.same s6)).snoc hu).imp fun _ _ z => z.keep (TK.lst (s6 _ _ hD))
  · rintro H5 ⟨lv, hD, al, s5⟩
    rw [lbv, List.take_length] at al
    refine ⟨D, _, rfl, .inl ⟨SqL.of hD, fun p np => ⟨(by show 2 ≤ sizeLine; decide), fun p2 np2 => ?_⟩⟩⟩
    have s6 : Same H (upd (upd H5 p (.tup lv)) p2 (.tup [V.ref ha, V.ref p])) := (s5.trans (same_new np)).trans (same_new np2)
    exact q p2 _ ⟨ha, p, hv, lv, upd_same, s6 _ _ eh, same_new np2 _ _ upd_same, alh.imp fun _ _ z => z.keep (TK.same s6), al.imp fun _ _ z => z.keep ((TK.new np).trans (TK.new np2))⟩ s6
end
theorem filt_map {α β : Type} (p : Option α → Bool) (g : Option α → β) (l : List α) : ∀ n, n ≤ l.length → ((List.range n).filter fun i => p l[i]?).map (fun i => g l[i]?) = ((l.take n).filter fun b => p (some b)).map fun b => g (some b)
  | 0, _ => rfl
  | n + 1, h => by
    have e : l[n]? = some l[n] := List.getElem?_eq_getElem (by omega)
    rw [filt_succ, List.map_append, filt_map p g l n (by omega), List.take_add_one, e, List.filter_append, List.map_append]
    congr 1
    cases k : p (some l[n])
    · rw [if_neg Bool.false_ne_true]
      simp [k]
    · rw [if_pos rfl]
      simp [k, e]
def valI (cur : List BR) (f : Nat → Int) (i : Nat) : Int := match cur[i]? with | some b => valB f b | none => 0
theorem coming_takes (cur : List BR) (f : Nat → Int) (k : Nat) : (comingN cur k).map (valI cur f) = takes cur f k := by
  have := filt_map (fun o => decide (o.map BR.to = some k)) (fun o : Option BR => match o with | some b => valB f b | none => 0) cur cur.length (Nat.le_refl _)
  rw [List.take_length] at this
  refine this.trans ?_
  unfold takes
  congr 1
  refine List.filter_congr fun b _ => ?_
  simp
theorem takes_len {cur : List BR} {f : Nat → Int} {k : Nat} : (takes cur f k).length = (cur.map BR.to).count k := by
  unfold takes
  rw [List.length_map, List.count_eq_countP, List.countP_map, List.countP_eq_length_filter]
  congr 1
theorem coming_mem {cur : List BR} {k i : Nat} (h : i ∈ comingN cur k) : ∃ b, cur[i]? = some b ∧ b.to = k := by
  unfold comingN at h
  have h := (List.mem_filter.mp h).2
  have h := of_decide_eq_true h
  cases e : cur[i]? with
  | none => rw [e] at h; cases h
  | some b => rw [e] at h; exact ⟨b, rfl, Option.some.inj h⟩
theorem coming_len {cur : List BR} {k : Nat} : (comingN cur k).length ≤ cur.length := filt_len _
/-- what made_by asks of a good hand and what it takes -/
theorem getD_map {xs : List Int} {j : Nat} (h : j < xs.length) : (xs.map V.int)[j]? = some (.int (xs.getD j 0)) := by
  rw [List.getElem?_map, List.getElem?_eq_getElem h, List.getD_eq_getElem?_getD, List.getElem?_eq_getElem h]; rfl
theorem needs_some {wd : Str} (h1 : wd ≠ "in") (h2 : wd ≠ "always") : 1 ≤ needs wd := by
  unfold needs
  rw [if_neg (by simp [h1, h2])]
  split
  · exact Int.le_refl _
  · split <;> decide
theorem needs_two {wd : Str} (h1 : wd ≠ "in") (h2 : wd ≠ "always") (h3 : wd ≠ "times") (h4 : wd ≠ "same") (h5 : wd ≠ "out") : 2 ≤ needs wd := by
  unfold needs
  rw [if_neg (by simp [h1, h2]), if_neg (by simp [h3, h4, h5])]
  split <;> decide
theorem needs_pick : needs "pick" = 3 := by decide +kernel
structure Args (h : HR) (rl ts : List V) (n a b c : Int) : Prop where
  r0 : rl[0]? = some (.str h.wd)
  r1 : h.wd = "always" ∨ h.wd = "times" → rl[1]? = some (.int n)
  t0 : h.wd ≠ "always" → ts[0]? = some (.int a)
  t1 : h.wd = "pick" ∨ (h.wd ≠ "always" ∧ h.wd ≠ "times" ∧ h.wd ≠ "same" ∧ h.wd ≠ "out") → ts[1]? = some (.int b)
  t2 : h.wd = "pick" → ts[2]? = some (.int c)
  big : -(2 ^ 64) < n ∧ n < 2 ^ 64
theorem args_of {h : HR} (g : GoodHand h) (w : h.wd ≠ "in") {xs : List Int} (hl : ((xs.length : Nat) : Int) = needs h.wd) : Args h (ruleL h) (xs.map V.int) (h.no.getD 0) (xs.getD 0 0) (xs.getD 1 0) (xs.getD 2 0) := by
  refine ⟨rfl, fun e => ?_, fun e => getD_map ?_, fun e => getD_map ?_, fun e => getD_map ?_, ?_⟩
  · have k : h.no.isSome = true := by
      rcases g.1 with k | k
      · exact k.no.mpr e.symm
      · exfalso
        rcases k.1 with z | z <;> rcases e with e | e <;> rw [z] at e <;> exact absurd e (by decide +kernel)
    obtain ⟨n, hn⟩ := Option.isSome_iff_exists.mp k
    show (V.str h.wd :: (match h.no with | none => [] | some n => [.int n]))[1]? = _
    rw [hn]
    rfl
  · have := needs_some w e
    omega
  · rcases e with e | ⟨e1, e2, e3, e4⟩
    · rw [e, needs_pick] at hl
      omega
    · have := needs_two w e1 e2 e3 e4
      omega
  · rw [e, needs_pick] at hl
    omega
  · cases e : h.no with
    | none => decide
    | some n =>
      rcases g.1 with k | k
      · have := k.big n e
        show -(2 ^ 64) < n ∧ n < 2 ^ 64
        omega
      · rw [k.2] at e
        cases e
section
variable {P : Program} {w : World} {K : PySem.W.Frag} {mg : Str → Option Value} {base : Heap}
structure BellOk (hs : List HR) (cur : List BR) : Prop where
  hands : hs.length ≤ 12
  belts : cur.length ≤ 20
  good : ∀ h ∈ hs, GoodHand h
  ends : ∀ b ∈ cur, b.one < hs.length ∧ b.to < hs.length
  count : ∀ k h, hs[k]? = some h → (((cur.map BR.to).count k : Nat) : Int) = needs h.wd
theorem dget0 {H : Hp} {a : Addr} {kvs : List (Key × V)} {k : Nat} {o : Option V} (e : H a = some (.dK kvs)) (h : valV kvs (kN k) = o) : DGet H a (.int (0 + ((k : Nat) : Int))) o := by
  rw [Int.zero_add]
  exact dget_of e h
def sp_made_at_bell (K : PySem.W.Frag) : Sp := fun vs H Q _ => ∃ (r pl t D : Addr) (Z : Hp) (hs : List HR) (cur : List BR) (pv : List V) (ord : List Nat) (ins : List Int), vs = [.ref r, .ref pl, .ref t] ∧ RoomAt H r hs cur ∧ H pl = some (.lst pv) ∧ All2 (PlanAt Z D cur H) pv ord ∧ H t = some (.tup (ins.map V.int)) ∧
  BellOk hs cur ∧ Soon (looseOf cur) (List.range hs.length) ord ∧ ins.length = (doorsOf "in" hs).length ∧ ∀ (p : Addr) (m : List Int) (H' : Hp), H p = none → H' p = some (.tup (m.map V.int)) → IsBell hs cur ins m → Same H H' → Q (.ref p) H'
theorem ok_made_at_bell {f : Addr} {fd : FuncData} (F : Fun K "made_at_bell" "made_at_bell" s_made_at_bell f fd) {C : Addr} (T : Top K mg C) : FnOk P w K mg base CX0 3 f fd ["room", "plan", "things"] (sp_made_at_bell K) := by
  obtain ⟨f_doors_in, fd_doors_in, F_doors_in, b_doors_in, m_doors_in⟩ := T.d_doors_in
  have G_doors_in := ok_doors_in (P := P) (w := w) (base := base) F_doors_in T
  obtain ⟨f_made_by, fd_made_by, F_made_by, b_made_by, m_made_by⟩ := T.d_made_by
  have G_made_by := ok_made_by (P := P) (w := w) (base := base) F_made_by T
  obtain ⟨f_thing_taken, fd_thing_taken, F_thing_taken, b_thing_taken, m_thing_taken⟩ := T.d_thing_taken
  have G_thing_taken := ok_thing_taken (P := P) (w := w) (base := base) F_thing_taken T
  refine F.ok sc_made_at_bell (fun vs H Q E h => ?_) (fun cdv A outer s H vs Q E hr h => ?_)
  · obtain ⟨r, pl, t, D, Z, hs, cur, pls, ord, ins, rfl, _⟩ := h
    rfl
  obtain ⟨r, pl, t, D0, Z0, hs, cur, pls, ord, ins, rfl, hR, hpl, alp, ht, ok, soon, hi, q⟩ := h
  obtain ⟨ha, ba, hv, bv, er, eh, eb, alh, alb⟩ := hR.ex
  have lh := ok.hands
  have lbb := ok.belts
  have lhv := alh.length
  have lo := soon_len soon
  rw [List.length_range] at lo
  have lpv := alp.length
  have ld := doors_len (z := "in") (hs := hs)
  refine ⟨_, (pss_cons (ps_asg (pv 0) (pg_tupK K rfl rfl (pgs_cons (pg_name (i := 3) sc_made_at_bell.nd rfl (Or.inl rfl)) (pgs_cons (pg_name (i := 4) sc_made_at_bell.nd rfl (Or.inr rfl)) pgs_nil))))
      (pss_cons (ps_set (i := 5) sc_made_at_bell.nd rfl (Or.inr rfl) (pe_dictZip K rfl rfl (by rfl) T.m_dict (by rfl) T.m_zip (pa_cons (pe_call G_doors_in (hr.mono (by decide)) (by rfl) m_doors_in F_doors_in.kp b_doors_in .nil pass0 (pa_cons (pv 0) pa_nil)) (pa_cons (pv 2) pa_nil))))
      (pss_cons (ps_for PassesOwn.never rfl (pi_listK K rfl (pv 1)) (pg_tupK K rfl rfl (pgs_cons (pg_name (i := 6) sc_made_at_bell.nd rfl (Or.inl rfl)) (pgs_cons (pg_name (i := 7) sc_made_at_bell.nd rfl (Or.inl rfl)) pgs_nil)))
        (pss_one (ps_if (pt_cmp (pc_dnotin (hu_of hr) (pv 6) (pv 5)) (by with_unfolding_all rfl)) (pss_cons (ps_setLc (i := 8) (own := [("number", 9)]) (g := gName 9) (tt := tYes) (by rfl) sc_made_at_bell.nd rfl rfl (sw_true rfl rfl rfl (by decide +kernel)) (pi_listK K rfl (pv 7)) (blkOk_by (own := [("number", 9)]) (N := N_made_at_bell) (sc := defScope s_made_at_bell) (by decide +kernel)) (fun _ _ _ _ _ => (pg_name (i := 9) sc_made_at_bell.nd rfl (Or.inl rfl))) (fun _ _ _ _ _ => pts_nil) (fun _ _ _ _ _ => (pe_call G_thing_taken (hr.mono (by decide)) (by rfl) m_thing_taken F_thing_taken.kp b_thing_taken .nil pass0 (pa_cons (pe_ix (ix_tupK K rfl) (pv 4) (pv 9) (fun _ _ => rfl)) (pa_cons (pv 5) pa_nil)))))
      (pss_one (ps_dput (hu_of hr) (pv 5) (pv 6) (pe_call G_made_by (hr.mono (by decide)) (by rfl) m_made_by F_made_by.kp b_made_by .nil pass0 (pa_cons (pe_ix (ix_tupK K rfl) (pe_ix (ix_tupK K rfl) (pv 3) (pv 6) (fun _ _ => rfl)) pe_int (fun _ _ => rfl)) (pa_cons (pe_callTy (call_tuple_ofK K rfl) (by rfl) T.m_tuple (by decide +kernel) (pa_cons (pv 8) pa_nil)) pa_nil))) (by rfl)))) pss_nil)))
      (pss_one (ps_ret (pe_callTy (call_tuple_ofK K rfl) (by rfl) T.m_tuple (by decide +kernel) (pa_cons (pe_lc (own := [("hand", 6)]) (g := gName 6) (tt := tYes) (by rfl) sc_made_at_bell.nd (pi_range1 (by rfl) T.m_range (pa_cons (pe_callB (call_len_seqK K rfl) (by rfl) T.m_len (by decide +kernel) (pa_cons (pv 3) pa_nil)) pa_nil)) (blkOk_by (own := [("hand", 6)]) (N := N_made_at_bell) (sc := defScope s_made_at_bell) (by decide +kernel)) (fun _ _ _ _ _ => (pg_name (i := 6) sc_made_at_bell.nd rfl (Or.inl rfl))) (fun _ _ _ _ _ => pts_nil) (fun _ _ _ _ _ => (pe_dget (hu_of hr) (pv 5) (pv 6) (fun _ _ => rfl)))) pa_nil))))))), ?_⟩
  refine ⟨_, rfl, r, _, rfl, SqT.of er, rfl, _, _, rfl, _, _, rfl, rfl, ?_⟩
  refine ⟨_, rfl, r, hs, cur, rfl, hR, by omega, ok.good, fun dd H1 ndd hdd s1 => ⟨_, rfl, dd, t, (doorsOf "in" hs).map kN, ins.map V.int, rfl, SqL.of (by rw [hdd, List.map_map]; rfl), SqT.of (s1 _ _ ht), fun d nd => ?_⟩⟩
  have nd0 : H d = none := same_none s1 nd
  have s2 : Same H (upd H1 d (.dK (mergeK [] (((doorsOf "in" hs).map kN).zip (ins.map V.int))))) := s1.trans (same_new nd)
  have len0 : (mergeK [] (((doorsOf "in" hs).map kN).zip (ins.map V.int))).length ≤ 12 := by
    refine Nat.le_trans (length_mergeK _ []) ?_
    rw [List.length_zip, List.length_map, List.length_map, List.length_nil]
    omega
  refine ⟨_, rfl, pl, rfl, ⟨_, SqL.of (s2 _ _ hpl)⟩, for_list (K := K) (a := pl) (xs := pls) (fun i σ H2 => ∃ (v6 v7 v8 v9 : Option V) (kvs : List (Key × V)) (pm : Nat → Option Int) (left : List Nat), σ = [some (.ref r), some (.ref pl), some (.ref t), some (.ref ha), some (.ref ba), some (.ref d), v6, v7, v8, v9] ∧ H2 d = some (.dK kvs) ∧ DM kvs pm ∧ Part hs cur ins pm ∧ kvs.length ≤ 12 + i ∧ Same H H2 ∧ Soon (looseOf cur) left (ord.drop i) ∧ (∀ k, k < hs.length → k ∉ left → (pm k).isSome = true) ∧ (∀ (k : Nat) (h : HR), hs[k]? = some h → h.wd = "in" → (pm k).isSome = true))
    ⟨none, none, none, none, _, doorM hs ins, List.range hs.length, rfl, upd_same, doorM_dm hi, doorM_part, len0, s2, soon, fun k hk n => absurd (List.mem_range.mpr hk) n, fun k h e w => doorM_all hi e w⟩ (fun i σ H2 _ ⟨_, _, _, _, _, _, _, _, _, _, _, _, s, _⟩ => SqL.of (s _ _ hpl)) ?_ ?_⟩
  · rintro i x σ H2 hx ⟨v6, v7, v8, v9, kvs, pm, left, rfl, hd, dm, part, lk, s3, so, all, doors⟩
    obtain ⟨k, ek, ⟨t2, l, rfl, p1, p2, _⟩⟩ := alp.getL hx
    have il := (List.getElem?_eq_some_iff.mp ek).1
    have ed : ord.drop i = k :: ord.drop (i + 1) := by
      rw [List.drop_eq_getElem_cons il, (List.getElem?_eq_some_iff.mp ek).2]
    rw [ed] at so
    obtain ⟨kl, fr, so2⟩ : k ∈ left ∧ free (looseOf cur) left k ∧ Soon (looseOf cur) (left.erase k) (ord.drop (i + 1)) := by
      cases so with
      | cons a b c d => exact ⟨a, b, d⟩
    have kn : k < hs.length := by
      have e := soon_mem soon k (List.mem_of_getElem? ek)
      exact List.mem_range.mp e
    have eh2 : hs[k]? = some hs[k] := List.getElem?_eq_getElem kn
    refine ⟨t2, _, rfl, SqT.of (s3 _ _ p1), rfl, _, _, rfl, _, _, rfl, rfl, ?_⟩
    refine ⟨_, rfl, _, rfl, d, _, rfl, dget_of hd (dm k), _, rfl, if_bl (fun c => ?_) (fun c => ?_)⟩
    · have new : pm k = none := by
        cases e : pm k with
        | none => rfl
        | some v => rw [e] at c; cases c
      have win : hs[k].wd ≠ "in" := fun z => by
        have := doors k _ eh2 z
        rw [new] at this
        cases this
      have there : ∀ b ∈ cur, b.to = k → b.th = [] → (pm b.one).isSome = true := fun b b1 b2 b3 => all b.one (ok.ends b b1).1 (fr _ (mem_loose b1 b3) b2)
      have hl2 := s3 _ _ p2
      refine ⟨_, rfl, l, rfl, ⟨_, SqL.of hl2⟩, fun D nD => lc_list (K := K) (a := l) (xs := (comingN cur k).map nV) (fun j H5 => H5 D = some (.lst ((((comingN cur k).take j).map (valI cur fun j => (pm j).getD 0)).map V.int)) ∧ H5 d = some (.dK kvs) ∧ Same H2 H5) ⟨upd_same, same_new nD _ _ hd, same_new nD⟩ (fun j H5 _ ⟨_, _, s5⟩ => SqL.of (s5 _ _ hl2)) ?_ ?_⟩
      · rintro j x H5 hx ⟨hD, hd5, s5⟩
        rw [List.getElem?_map] at hx
        cases ej : (comingN cur k)[j]? with
        | none => rw [ej] at hx; cases hx
        | some n =>
        rw [ej] at hx
        obtain rfl : nV n = x := Option.some.inj hx
        have jl := (List.getElem?_eq_some_iff.mp ej).1
        have cl := coming_len (cur := cur) (k := k)
        obtain ⟨b, e1, e2⟩ := coming_mem (List.mem_of_getElem? ej)
        obtain ⟨v, ev, hB⟩ := alb.get e1
        have evi : valI cur (fun j => (pm j).getD 0) n = valB (fun j => (pm j).getD 0) b := by unfold valI; rw [e1]
        refine ⟨rfl, yes_in ⟨_, rfl, _, rfl, ba, _, _, _, rfl, rfl, SqT.of (s5 _ _ (s3 _ _ eb)), atI_nat ev, _, rfl, v, b, d, kvs, pm, rfl, hB.keep (TK.same (s3.trans s5)), hd5, dm, fun z => there b (List.mem_of_getElem? e1) e2 z, _, hD, ?_, ?_, ?_, Same.own s5 nD⟩⟩
        · rw [List.length_map, List.length_map, List.length_take]; exact small1000 (by omega)
        · rw [upd_same, List.take_add_one, ej, List.map_append, List.map_append, ← evi]; rfl
        · rw [upd_ne (ne_of_none hd nD)]; exact hd5
      · rintro H5 ⟨hD, hd5, s5⟩
        rw [List.length_map, List.take_length, coming_takes] at hD
        obtain ⟨xs, hxs⟩ : ∃ xs, xs = takes cur (fun j => (pm j).getD 0) k := ⟨_, rfl⟩
        rw [← hxs] at hD
        have lx : ((xs.length : Nat) : Int) = needs hs[k].wd := by rw [hxs, takes_len]; exact ok.count k _ eh2
        obtain ⟨v, ev, ⟨tk, rk2, rfl, h1, h2⟩⟩ := alh.get eh2
        have s4 := s3.trans s5
        have A := args_of (ok.good _ (List.mem_of_getElem? eh2)) win lx
        refine ⟨_, rfl, _, rfl, ha, _, _, _, rfl, rfl, SqT.of (s4 _ _ eh), atI_nat ev, tk, _, _, _, rfl, rfl, SqT.of (s4 _ _ h1), atI_nat (j := 0) rfl, _, rfl, D, _, rfl, .inl ⟨SqL.of hD, fun tt ntt => ?_⟩⟩
        have s5b := s4.trans (same_new (o := .tup (xs.map V.int)) ntt)
        refine ⟨rk2, tt, _, _, hs[k].wd, _, _, _, _, rfl, SqT.of (s5b _ _ h2), SqT.of upd_same, A.r0, A.r1, A.t0, A.t1, A.t2, A.big, fun H6 s6 => ?_⟩
        have hd6 := s6 _ _ (same_new ntt _ _ hd5)
        refine ⟨_, rfl, _, rfl, d, _, rfl, DPut.k (k := kN k) hd6 (small1000 (by omega)), ?_⟩
        refine ⟨_, _, _, _, _, putM pm k (mkR hs[k] xs), left.erase k, rfl, upd_same, dm.put k _, by rw [hxs]; exact part.put eh2 win new there, ?_, Same.own (s5b.trans s6) nd0, so2, fun j hj n => ?_, fun j h e w => ?_⟩
        · have := length_putK kvs (kN k) (V.int (mkR hs[k] xs))
          exact Nat.le_trans this (by omega)
        · by_cases e : j = k
          · rw [show putM pm k (mkR hs[k] xs) j = some _ from if_pos e]; rfl
          · rw [show putM pm k (mkR hs[k] xs) j = pm j from if_neg e]
            exact all j hj fun z => n ((List.mem_erase_of_ne e).mpr z)
        · by_cases e' : j = k
          · rw [show putM pm k (mkR hs[k] xs) j = some _ from if_pos e']; rfl
          · rw [show putM pm k (mkR hs[k] xs) j = pm j from if_neg e']
            exact doors j h e w
    · have old : (pm k).isSome = true := by
        cases e : pm k with
        | none => rw [e] at c; cases c
        | some v => rfl
      refine ⟨_, _, _, _, kvs, pm, left.erase k, rfl, hd, dm, part, by omega, s3, so2, fun j hj n => ?_, doors⟩
      by_cases e : j = k
      · rw [e]; exact old
      · exact all j hj fun z => n ((List.mem_erase_of_ne e).mpr z)
  · rintro σ H2 ⟨v6, v7, v8, v9, kvs, pm, left, rfl, hd, dm, part, lk, s3, so, all, doors⟩
    rw [List.drop_eq_nil_of_le (by omega)] at so
    have el : left = [] := by
      cases so
      rfl
    subst el
    have full : ∀ k, k < hs.length → (pm k).isSome = true := fun k hk => all k hk (fun z => nomatch z)
    refine ⟨_, rfl, ha, _, rfl, .inr (SqT.of (s3 _ _ eh)), _, rfl, by omega, by omega, fun D nD => lc_range (lo := 0) (n := hv.length) (fun j H5 => H5 D = some (.lst ((fullM j pm).map V.int)) ∧ H5 d = some (.dK kvs) ∧ Same H2 H5) ⟨upd_same, same_new nD _ _ hd, same_new nD⟩ ?_ ?_⟩
    · rintro j H5 hj ⟨hD, hd5, s5⟩
      obtain ⟨v, ev⟩ := Option.isSome_iff_exists.mp (full j (by omega))
      refine ⟨rfl, yes_in ⟨_, rfl, _, rfl, d, .int v, rfl, dget0 hd5 (by rw [dm, ev]; rfl), _, hD, ?_, ?_, ?_, Same.own s5 nD⟩⟩
      · rw [List.length_map, List.length_map, List.length_range]; exact small1000 (by omega)
      · rw [upd_same]
        unfold fullM
        rw [List.range_succ, List.map_append, List.map_append]
        simp [ev]
      · rw [upd_ne (ne_of_none hd nD)]; exact hd5
    · rintro H5 ⟨hD, hd5, s5⟩
      rw [lhv] at hD
      exact ⟨D, _, rfl, .inl ⟨SqL.of hD, fun p np => q p _ _ (same_none (s3.trans s5) np) upd_same (part.full full) ((s3.trans s5).trans (same_new np))⟩⟩
end
/-- a list or a tuple of rows -/
def RowsAt (H : Hp) (a : Addr) (rows : List (List Int)) : Prop := ∃ rv : List V, (H a = some (.lst rv) ∨ H a = some (.tup rv)) ∧ All2 (RowAt H) rv rows
theorem RowsAt.same {H H' : Hp} {a : Addr} {rows : List (List Int)} (h : RowsAt H a rows) (s : Same H H') : RowsAt H' a rows := by
  obtain ⟨rv, e, al⟩ := h
  exact ⟨rv, e.imp (s _ _) (s _ _), al.imp fun _ _ z => z.keep (TK.same s)⟩
theorem either_stays {H H' : Hp} {a : Addr} {xs : List V} (s : Same H H') (h : H a = some (.lst xs) ∨ H a = some (.tup xs)) : H' a = H a := by
  rcases h with e | e <;> rw [s _ _ e, e]
theorem or_seq {K : PySem.W.Frag} {te : TE} {σ : L2.St} {H : Hp} {R : It → Hp → Prop} {a : Addr} {xs : List V} (ht : ∀ Q : VK, Q (.ref a) H → te σ H Q) (h : H a = some (.lst xs) ∨ H a = some (.tup xs))
    (k : ∀ J : It, (∀ i H', H' a = H a → i < xs.length → J.go i H') → (∀ H', H' a = H a → J.stop xs.length H') → (∀ i H' x H'', H' a = H a → J.yld i H' x H'' → xs[i]? = some x ∧ H'' = H') → R J H) :
    iList K te σ H R ∨ iTup K te σ H R := by
  rcases h with e | e
  · refine .inl (ht _ ⟨a, rfl, ⟨_, SqL.of e⟩, k _ (fun i H' q hi => ?_) (fun H' q => ?_) fun i H' x H'' q y => ?_⟩)
    · exact ⟨xs, _, SqL.of (q.trans e), List.getElem?_eq_getElem hi⟩
    · exact ⟨xs, SqL.of (q.trans e), Nat.le_refl _⟩
    · exact ⟨y.2 _ (SqL.of (q.trans e)), y.1⟩
  · refine .inr (ht _ ⟨a, rfl, ⟨_, SqT.of e⟩, k _ (fun i H' q hi => ?_) (fun H' q => ?_) fun i H' x H'' q y => ?_⟩)
    · exact ⟨xs, _, SqT.of (q.trans e), List.getElem?_eq_getElem hi⟩
    · exact ⟨xs, SqT.of (q.trans e), Nat.le_refl _⟩
    · exact ⟨y.2 _ (SqT.of (q.trans e)), y.1⟩
theorem map_to (bs : List BR) (ms : List (List Int)) : (stand bs ms).map BR.to = bs.map BR.to := by
  rw [List.map_map]
  exact List.map_congr_left fun b _ => stand_to ms b
theorem coming_stand (bs : List BR) (ms : List (List Int)) (k : Nat) : comingN (stand bs ms) k = comingN bs k := by
  unfold comingN
  rw [List.length_map]
  refine List.filter_congr fun i _ => ?_
  rw [List.getElem?_map]
  cases bs[i]? with
  | none => rfl
  | some b =>
    show decide (some (standB ms b).to = some k) = decide (some b.to = some k)
    rw [stand_to]
theorem RoomOk.bell {hs : List HR} {bs : List BR} (ok : RoomOk hs bs) (ms : List (List Int)) : BellOk hs (stand bs ms) := by
  refine ⟨ok.hands, by rw [List.length_map]; exact ok.many, ok.good, fun b hb => ?_, fun k h e => by rw [map_to]; exact ok.count k h e⟩
  obtain ⟨c, hc, rfl⟩ := List.mem_map.mp hb
  rw [stand_one, stand_to]
  exact ok.ends c hc
theorem RoomOk.rk {hs : List HR} {bs : List BR} (ok : RoomOk hs bs) : ∃ rk : Nat → Int, ∀ p ∈ looseOf bs, rk p.1 < rk p.2 := by
  obtain ⟨rk, h⟩ := ok.rank
  refine ⟨rk, fun p hp => ?_⟩
  obtain ⟨b, hb, rfl⟩ := List.mem_map.mp hp
  obtain ⟨h1, h2⟩ := List.mem_filter.mp hb
  exact h b h1 (List.isEmpty_iff.mp h2)
theorem out_lt {hs : List HR} {m : List Int} (hl : m.length = hs.length) : ∀ k ∈ doorsOf "out" hs, k < m.length := fun k hk => by
  obtain ⟨h, e, _⟩ := mem_doors.mp hk
  have := (List.getElem?_eq_some_iff.mp e).1
  omega
section
variable {P : Program} {w : World} {K : PySem.W.Frag} {mg : Str → Option Value} {base : Heap}
def sp_worked (K : PySem.W.Frag) : Sp := fun vs H Q _ => ∃ (r a : Addr) (hs : List HR) (bs : List BR) (rows : List (List Int)), vs = [.ref r, .ref a] ∧ RoomAt H r hs bs ∧ RoomOk hs bs ∧ RowsAt H a rows ∧ (∀ x ∈ rows, x.length = (doorsOf "in" hs).length) ∧ rows.length ≤ 100 ∧
  ∀ (p : Addr) (ov : List V) (ms : List (List Int)) (H' : Hp), H p = none → H' p = some (.lst ov) → All2 (RowAt H') ov ms → WS hs bs rows ms → Same H H' → Q (.ref p) H'
theorem ok_worked {f : Addr} {fd : FuncData} (F : Fun K "worked" "worked" s_worked f fd) {C : Addr} (T : Top K mg C) : FnOk P w K mg base CX0 4 f fd ["room", "rows"] (sp_worked K) := by
  obtain ⟨f_work_plan, fd_work_plan, F_work_plan, b_work_plan, m_work_plan⟩ := T.d_work_plan
  have G_work_plan := ok_work_plan (P := P) (w := w) (base := base) F_work_plan T
  obtain ⟨f_made_at_bell, fd_made_at_bell, F_made_at_bell, b_made_at_bell, m_made_at_bell⟩ := T.d_made_at_bell
  have G_made_at_bell := ok_made_at_bell (P := P) (w := w) (base := base) F_made_at_bell T
  obtain ⟨f_behind_bell, fd_behind_bell, F_behind_bell, b_behind_bell, m_behind_bell⟩ := T.d_behind_bell
  have G_behind_bell := ok_behind_bell (P := P) (w := w) (base := base) F_behind_bell T
  refine F.ok sc_worked (fun vs H Q E h => ?_) (fun cdv A outer s H vs Q E hr h => ?_)
  · obtain ⟨r, a, hs, bs, rows, rfl, _⟩ := h
    rfl
  obtain ⟨r, a, hs, bs, rows, rfl, hR, ok, ⟨rv, hrv, alr⟩, hw, lr, q⟩ := h
  have lh := ok.hands
  have lb := ok.many
  have lrv := alr.length
  obtain ⟨rk, hrk⟩ := ok.rk
  refine ⟨_, (pss_cons (ps_set (i := 2) sc_worked.nd rfl (Or.inl rfl) (pe_call G_work_plan (hr.mono (by decide)) (by rfl) m_work_plan F_work_plan.kp b_work_plan .nil pass0 (pa_cons (pv 0) pa_nil)))
      (pss_cons (ps_set (i := 3) sc_worked.nd rfl (Or.inl rfl) (pv 0))
      (pss_cons (ps_set (i := 4) sc_worked.nd rfl (Or.inl rfl) (pe_lst pa_nil))
      (pss_cons (ps_for PassesOwn.never rfl (pi_or (pi_listK K rfl (pv 1)) (pi_tupK K rfl (pv 1))) (pg_name (i := 5) sc_worked.nd rfl (Or.inl rfl))
        (pss_cons (ps_set (i := 6) sc_worked.nd rfl (Or.inl rfl) (pe_call G_made_at_bell (hr.mono (by decide)) (by rfl) m_made_at_bell F_made_at_bell.kp b_made_at_bell .nil pass0 (pa_cons (pv 3) (pa_cons (pv 2) (pa_cons (pv 5) pa_nil)))))
      (pss_cons (ps_set (i := 3) sc_worked.nd rfl (Or.inl rfl) (pe_call G_behind_bell (hr.mono (by decide)) (by rfl) m_behind_bell F_behind_bell.kp b_behind_bell .nil pass0 (pa_cons (pv 3) (pa_cons (pv 6) pa_nil))))
      (pss_one (ps_expr (pe_bmK K rfl PySem.F.plainAttrs_list PySem.F.slot_list_append PySem.F.type_list_append mt_append (pv 4) (pa_cons (pv 6) pa_nil)))))))
      (pss_one (ps_ret (pv 4))))))), ?_⟩
  refine ⟨_, rfl, r, hs, bs, rk, rfl, hR, by omega, by omega, ok.ends, hrk, fun pl D ord pls H1 npl hpl alp soon s1 => ?_⟩
  refine ⟨_, rfl, (by show 0 ≤ sizeLine; decide), fun tl ntl => ?_⟩
  have s2 : Same H (upd H1 tl (.lst [])) := s1.trans (same_new ntl)
  have tl0 : H tl = none := same_none s1 ntl
  refine or_seq (a := a) (xs := rv) (fun Q q => ⟨_, rfl, q⟩) (hrv.imp (s2 _ _) (s2 _ _)) (fun J gj sj yj => for_it (J := J) (n := rv.length) (fun i σ H2 => ∃ (st : Addr) (ms : List (List Int)) (tv : List V) (v5 v6 : Option V), σ = [some (.ref r), some (.ref a), some (.ref pl), some (.ref st), some (.ref tl), v5, v6] ∧ RoomAt H2 st hs (stand bs ms) ∧ H2 tl = some (.lst tv) ∧ All2 (RowAt H2) tv ms ∧ WS hs bs (rows.take i) ms ∧ Same H1 H2)
    ⟨r, [], [], none, none, rfl, by rw [stand_zero]; exact hR.keep (TK.same s2), upd_same, .nil, WS.nil, same_new ntl⟩ ?_ ?_ ?_ ?_)
  · rintro i σ H2 hi ⟨st, ms, tv, v5, v6, rfl, hst, htl, alt, ws, s3⟩
    exact gj i H2 ((either_stays (s1.trans s3) hrv).trans (either_stays s2 hrv).symm) hi
  · rintro σ H2 ⟨st, ms, tv, v5, v6, rfl, hst, htl, alt, ws, s3⟩
    exact sj H2 ((either_stays (s1.trans s3) hrv).trans (either_stays s2 hrv).symm)
  · rintro i x σ H2 H3 hi ⟨st, ms, tv, v5, v6, rfl, hst, htl, alt, ws, s3⟩ y
    obtain ⟨ex, rfl⟩ := yj i H2 x H3 ((either_stays (s1.trans s3) hrv).trans (either_stays s2 hrv).symm) y
    obtain ⟨row, er, ⟨t, rfl, ht⟩⟩ := alr.getL ex
    have ht2 := s3 _ _ (s1 _ _ ht)
    have lms : ms.length = i := by
      have := ws.len
      rw [List.length_take] at this
      omega
    refine ⟨_, rfl, _, rfl, _, rfl, st, pl, t, D, H, hs, stand bs ms, pls, ord, row, rfl, hst, s3 _ _ hpl, alp.imp fun v k z => ?_, ht2, ok.bell ms, by rw [loose_stand]; exact soon, hw row (List.mem_of_getElem? er), fun p m H4 np hp bell s4 => ?_⟩
    · obtain ⟨t', l, e1, e2, e3, e4⟩ := z.same s3
      exact ⟨t', l, e1, e2, by rw [coming_stand]; exact e3, e4⟩
    have lm := bell.len
    refine ⟨_, rfl, _, rfl, st, p, hs, stand bs ms, m, rfl, hst.keep (TK.same s4), hp, fun b hb => ?_, by rw [List.length_map]; omega, fun st2 H5 hst2 s5 => ?_⟩
    · have e1 := ((ok.bell ms).ends b hb).1
      obtain ⟨c, hc, rfl⟩ := List.mem_map.mp hb
      have e2 := stand_len ms c
      have e3 := (ok.th c hc).1
      exact ⟨by omega, by omega⟩
    rw [stand_next] at hst2
    have htl5 := s5 _ _ (s4 _ _ htl)
    refine ⟨_, rfl, .inl ⟨rfl, _, SqL.of htl5⟩, _, rfl, tl, _, _, rfl, rfl, htl5, by rw [alt.length, lms]; exact small1000 (by omega), ?_⟩
    refine ⟨st2, ms ++ [m], tv ++ [V.ref p], _, _, rfl, hst2.keep (TK.lst htl5), upd_same, ?_, ?_, Same.own ((s3.trans s4).trans s5) ntl⟩
    · exact ((alt.imp fun _ _ z => z.keep (TK.same (s4.trans s5))).snoc ⟨p, rfl, s5 _ _ hp⟩).imp fun _ _ z => z.keep (TK.lst htl5)
    · rw [List.take_add_one, er]
      exact ws.snoc bell
  · rintro σ H2 ⟨st, ms, tv, v5, v6, rfl, hst, htl, alt, ws, s3⟩
    rw [lrv, List.take_length] at ws
    exact ⟨_, rfl, q tl tv ms H2 tl0 htl alt ws (s1.trans s3)⟩
end
/-! ### slices and sums of tuples, whatever they are -/
theorem slA_of {K : PySem.W.Frag} {H : Hp} {a : Addr} {xs : List V} {lo hi : Option Int} {Q : VK} (h : H a = some (.tup xs)) (k : ∀ (p : Addr) (H' : Hp), H' p = some (.tup (cutV xs lo hi)) → Same H H' → Q (.ref p) H') : rSlA K (.ref a) lo hi H Q := by
  refine ⟨a, xs, rfl, SqT.of h, fun z => k a H ?_ (Same.refl _), fun _ p np => k p _ upd_same (same_new np)⟩
  unfold cutV
  rw [z.1, z.2, List.drop_zero, Nat.sub_zero, List.take_length]
  exact h
theorem catA_of {K : PySem.W.Frag} {H : Hp} {a b : Addr} {xs ys : List V} {Q : VK} (h : H a = some (.tup xs)) (g : H b = some (.tup ys)) (l : xs.length + ys.length ≤ 1000) (k : ∀ (p : Addr) (H' : Hp), H' p = some (.tup (xs ++ ys)) → Same H H' → Q (.ref p) H') : rCatA K (.ref a) (.ref b) H Q := by
  refine ⟨a, b, xs, ys, rfl, rfl, SqT.of h, SqT.of g, little l, fun e => k b H ?_ (Same.refl _), fun _ e => k a H ?_ (Same.refl _), fun _ _ p np => k p _ upd_same (same_new np)⟩
  · rw [e]; exact g
  · rw [e, List.append_nil]; exact h
theorem cut_take (xs : List V) (k : Nat) : cutV xs none (some ((k : Nat) : Int)) = xs.take k := by
  unfold cutV
  rw [HT.sIx_nat, HT.sIx_none, List.drop_zero, Nat.sub_zero]
  by_cases h : k ≤ xs.length
  · rw [Nat.min_eq_left h]
  · rw [Nat.min_eq_right (by omega), List.take_length, List.take_of_length_le (by omega)]
theorem cut_part {xs : List V} {lo hi : Option Int} : ∀ x ∈ cutV xs lo hi, x ∈ xs := fun x hx => List.mem_of_mem_drop (List.mem_of_mem_take hx)
theorem cut_nats {ns : List Nat} {lo hi : Option Int} : ∃ ms : List Nat, cutV (ns.map nV) lo hi = ms.map nV ∧ ms.length ≤ ns.length ∧ ∀ x ∈ ms, x ∈ ns := by
  refine ⟨(ns.drop (HT.sIx (ns.map nV).length 0 lo)).take (HT.sIx (ns.map nV).length (ns.map nV).length hi - HT.sIx (ns.map nV).length 0 lo), ?_, ?_, fun x hx => List.mem_of_mem_drop (List.mem_of_mem_take hx)⟩
  · unfold cutV
    rw [List.map_take, List.map_drop]
  · rw [List.length_take, List.length_drop]
    omega
section
variable {P : Program} {w : World} {K : PySem.W.Frag} {mg : Str → Option Value} {base : Heap}
theorem ok_doors_out {f : Addr} {fd : FuncData} (F : Fun K "doors_out" "doors_out" s_doors_out f fd) {C : Addr} (T : Top K mg C) : FnOk P w K mg base CX0 1 f fd ["room"] (sp_doors_out K) := by
  refine F.ok sc_doors_out (fun vs H Q E h => ?_) (fun cdv A outer s H vs Q E hr h => ?_)
  · obtain ⟨r, hs, bs, rfl, _⟩ := h
    rfl
  obtain ⟨aO, mO, hI⟩ := T.x_out
  obtain ⟨r, hs, bs, rfl, hR, lb, good, q⟩ := h
  obtain ⟨ha, ba, hv, bv, er, eh, eb, alh, alb⟩ := hR.ex
  have lhv := alh.length
  refine ⟨_, (pss_one (ps_ret (pe_lc (own := [("number", 1), ("hand", 2)]) (g := gTup K 2 (gCons (gName 1) (gCons (gName 2) gNil))) (by rfl) sc_doors_out.nd (pi_enumT K rfl (by rfl) T.m_enumerate (pa_cons (pe_ix (ix_tupK K rfl) (pv 0) pe_int (fun _ _ => rfl)) pa_nil)) (blkOk_by (own := [("number", 1), ("hand", 2)]) (N := N_doors_out) (sc := defScope s_doors_out) (by decide +kernel)) (fun _ _ _ _ _ => (pg_tupK K rfl rfl (pgs_cons (pg_name (i := 1) sc_doors_out.nd rfl (Or.inl rfl)) (pgs_cons (pg_name (i := 2) sc_doors_out.nd rfl (Or.inl rfl)) pgs_nil)))) (fun _ _ _ _ _ => pts_one (pt_cmpR (op_eqDK K rfl hr.units) (pe_ix (ix_tupK K rfl) (pv 2) pe_int (fun _ _ => rfl)) (pe_glob (v := .ref aO) (by rfl) mO rfl) (nomark _))) (fun _ _ _ _ _ => (pv 1))))), ?_⟩
  refine ⟨_, rfl, r, _, _, _, rfl, rfl, SqT.of er, atI_nat (j := 0) rfl, ha, hv, rfl, SqT.of eh, fun D nD => lc_it (J := IteT K ha hv) (n := hv.length) (fun i H5 => H5 D = some (.lst (((List.range i).filter fun j => decide (hs[j]?.map HR.wd = some ("out" : Str))).map nV)) ∧ Same H H5) ⟨upd_same, same_new nD⟩ ?_ ?_ ?_ ?_⟩
  · rintro i H5 hi ⟨hD, s5⟩
    exact ⟨SqT.of (s5 _ _ eh), hi⟩
  · rintro H5 ⟨hD, s5⟩
    exact ⟨SqT.of (s5 _ _ eh), rfl⟩
  · rintro i x H5 H6 hi ⟨hD, s5⟩ ⟨t, y, rfl, nt, rfl, ey⟩
    obtain ⟨hh, eb2, ⟨t2, g, rfl, e1, e2⟩⟩ := alh.getL ey
    have gh := good _ (List.mem_of_getElem? eb2)
    have s6 := s5.trans (same_new (o := .tup [V.int ((i : Nat) : Int), V.ref t2]) nt)
    have hD6 := same_new (o := .tup [V.int ((i : Nat) : Int), V.ref t2]) nt _ _ hD
    have few := filt_len (p := fun j => decide (hs[j]?.map HR.wd = some ("out" : Str))) i
    refine ⟨t, _, rfl, SqT.of upd_same, rfl, _, _, rfl, _, _, rfl, rfl, rfl, _, rfl, t2, _, _, _, rfl, rfl, SqT.of (s6 _ _ e1), atI_nat (j := 0) rfl, ?_⟩
    refine ⟨_, _, rule_dp (s6 _ _ e2), .tup (hI _) (.cons (.str _) .nil), rule_shaped gh.lay, one_shaped (by decide +kernel), _, rfl, ?_⟩
    rw [rule_eqv, gh.door "out" (.inr rfl)]
    by_cases c : hh.wd = "out"
    · rw [decide_eq_true c]
      refine if_bl (fun _ => ⟨_, rfl, _, hD6, by rw [List.length_map]; exact small1000 (by omega), ?_, Same.own s6 nD⟩) (fun z => nomatch z)
      rw [upd_same, filt_succ, if_pos (decide_eq_true (by rw [eb2, ← c]; rfl)), List.map_append]
      rfl
    · rw [decide_eq_false c]
      refine if_bl (fun z => nomatch z) (fun _ => ⟨?_, s6⟩)
      rw [filt_succ, if_neg fun z => c (by have := of_decide_eq_true z; rw [eb2] at this; exact Option.some.inj this), List.append_nil]
      exact hD6
  · rintro H5 ⟨hD, s5⟩
    refine q D H5 nD ?_ s5
    rw [hD, lhv]
    rfl
end
/-! ### max(xs, key=lambda x: ..), the lambda over a name of the def around it -/
/-- one answer of the lambda: in its own frame, the caller's things as they are -/
def KeyBody (X : Cx) (scope : Scope) (body : Expr) (x : Str) (KA : L2.St → Hp → Int → Int → Prop) : Prop :=
  ∀ (pins : List (Addr × Obj)) (σ : L2.St) (H : Hp) (A' : Around) (env' : Env) (E' : Value → Shared → Prop) (z : Shared) (n k : Int) (t : Tok), Inv X pins σ H z → A'.units + 1 < cLine → env'.scope = scope → env'.cells = cloFrom X.env.cells scope.names [] →
    z.heap.Ns env'.locals (fun y => ([(x, Value.int n t)] : List (Str × Value)).lookup y) → KA σ H n k → wpAny (model X.prog X.w) A' (eval body env') (fun y z' => (∃ t', y = .int k t') ∧ ∃ tk, z' = { z with toks := tk }) E' z
/-- a state that keeps all that stood -/
def Grown (s z : Shared) : Prop := ∃ (h' : Heap) (tk : Nat), z = { s with heap := h', toks := tk } ∧ ∀ b o, s.heap.get? b = some o → h'.get? b = some o
theorem Grown.refl (s : Shared) : Grown s s := ⟨s.heap, s.toks, rfl, fun _ _ e => e⟩
theorem Grown.kp {s z : Shared} (g : Grown s z) : ∀ b o, s.heap.get? b = some o → z.heap.get? b = some o := by
  obtain ⟨h', tk, rfl, k⟩ := g
  exact k
structure LamShape (params : Arguments) (body : Expr) (scope : Scope) (x : Str) : Prop where
  bnd : ∀ (q : Str) (cl : List (Str × Addr)) (pm cdv ct v : Value), bindArgs (PySem.W.kla_fn "<lambda>" q params body scope cl pm cdv ct) ⟨[v], []⟩ = pure [(x, v)]
  loc : scope.names.lookup x = some .local
  co : scope.isCoroutine = false
  gen : scope.isGenerator = false
  kind : scope.kind = .function
  cell : ∀ y ∈ scope.names, y.2 ≠ .cell
theorem lam_call {X : Cx} {pins : List (Addr × Obj)} {σ : L2.St} {H : Hp} {s z : Shared} {A' : Around} {E' : Value → Shared → Prop} {params : Arguments} {body : Expr} {scope : Scope} {x : Str} {KA : L2.St → Hp → Int → Int → Prop} {f c' : Addr} {q : Str} {pm ctv : Value} {n k : Int} {t : Tok}
    (L : LamShape params body scope x) (B : KeyBody X scope body x KA) (I : Inv X pins σ H s) (g : Grown s z) (hf : s.heap.get? f = some (PySem.W.kla_obj "<lambda>" q params body scope (cloFrom X.env.cells scope.names []) pm c' ctv)) (hc : s.heap.CodeRec (.ref c') q)
    (dep : A'.depth < recursionLimit) (un : ∀ e : Env, (A'.deeper e).units + 1 < cLine) (ka : KA σ H n k) :
    wpAny (model X.prog X.w) A' (call (.ref f) [.int n t]) (fun y z' => (∃ t', y = .int k t') ∧ Grown z z') E' z := by
  obtain ⟨h', tk, rfl, kp⟩ := g
  have hc2 : Heap.CodeRec h' (.ref c') q := by
    obtain ⟨c0, oc, vs, tq, e0, e1, e2, e3⟩ := hc
    exact ⟨c0, oc, vs, tq, e0, kp _ _ e1, e2, e3⟩
  refine wpAny_call (PySem.W.kla_callFunE dep (kp _ _ hf) rfl L.co L.gen rfl hc2 ?_)
  rw [L.bnd]
  refine wpAny_pure (wpAny_newFunctionEnv L.cell (fun y hy => ?_) (fun h1 hns hsb => ?_) L.kind)
  · rw [List.mem_singleton.mp hy]
    exact L.loc
  have grew : ∀ b o, h'.get? b = some o → h1.get? b = some o := fun b o e => hsb.extBut b o (Nat.ne_of_lt (Heap.lt_size e)) (Heap.get?_push_of_some _ e)
  have J : Inv X pins σ H { s with heap := h1, toks := tk + 1 } := I.kept fun b o e => grew b o (kp b o e)
  refine ⟨J.nolimit, PySem.W.kla_codeExpr ?_⟩
  refine wpAny_mono (B pins σ H _ _ _ { s with heap := h1, toks := tk + 1 } n k t J (un _) rfl rfl hns ka) (fun y z' r => ?_) fun _ _ e => e
  obtain ⟨e1, tk2, rfl⟩ := r
  exact ⟨e1, h1, tk2, rfl, grew⟩
def tMaxKey (K : PySem.W.Frag) (T : List (Addr × Str)) (KA : L2.St → Hp → Int → Int → Prop) (te : TE) : TE := fun σ H Q => te σ H fun v H1 => ∃ (a : Addr) (ns : List Int) (kf : Int → Int), v = .ref a ∧ SqL K H1 a (ns.map V.int) ∧ 0 < ns.length ∧ LamX.Tabs T H1 ∧
  ∀ H2, LamX.ExtN H1 H2 → LamX.Tabs T H2 → SqL K H2 a (ns.map V.int) ∧ (∀ n ∈ ns, KA σ H2 n (kf n)) ∧ ∀ m, m ∈ ns → (∀ y ∈ ns, kf y ≤ kf m) → Q (.int m) H2
theorem ints_val2 {ns : List Int} {its : List Value} (rv : Vals (ns.map V.int) its) : ∀ i v, its.toArray[i]? = some v → i < ns.length ∧ ∃ t, v = Value.int (ns.getD i 0) t := fun i v e => by
  rw [List.getElem?_toArray] at e
  have il : i < ns.length := by
    have h1 := (List.getElem?_eq_some_iff.mp e).1
    have h2 := rv.length
    rw [List.length_map] at h2
    omega
  obtain ⟨u, eu, t, ru⟩ := rv.get (i := i) (x := .int ns[i]) (by rw [List.getElem?_map, List.getElem?_eq_getElem il]; rfl)
  rw [e] at eu
  cases eu
  exact ⟨il, t, by rw [ru, List.getD_eq_getElem?_getD, List.getElem?_eq_getElem il]; rfl⟩
theorem pe_maxLam {X : Cx} (K : PySem.W.Frag) (hK : X.K = K) {T : List (Addr × Str)} {c P : Addr} {e : Expr} {te : TE} {params : Arguments} {body : Expr} {scope : Scope} {lpos kpos p pos : Pos} {x : Str} {KA : L2.St → Hp → Int → Int → Prop} {k : Nat}
    (hc : X.calm = true) (hr : Room k X.A) (hk : 2 ≤ k) (hg : Gl X "max") (hm : X.mg "max" = none) (TB : LamX.TabB X.base X.mg c P) (hcode : X.env.code = .ref c) (hT1 : (P, X.env.qual ++ "<lambda>") ∈ T) (hT2 : ∀ q ∈ T, q.1 = P → q.2 = X.env.qual ++ "<lambda>")
    (hdef : defaultsOf params X.env = ([], [])) (hfree : ∀ y ∈ scope.names, y.2 = .free → ∃ d, X.env.cells.lookup y.1 = some d) (L : LamShape params body scope x) (B : KeyBody X scope body x KA) (he : PE X e te)
    (hbt : backTo pos (starEach [e] X.env) = (false, eval e X.env) :: backTo pos (starEach [] X.env) := by rfl) (hpl : (backTo pos (starEach [e] X.env)).any (·.1) = false := by rfl) :
    PE X (.Call (.Name "max" p) [e] [⟨some "key", .Lambda params body scope lpos, kpos⟩] pos) (tMaxKey K T KA te) := by
  subst hK
  refine ⟨fun pins s σ H Q I h => ?_⟩
  have hbm : bootBuiltins ("max" : Str) = some (.builtin "max") := by decide +kernel
  refine wpAny_Call_Name_kw (ld_blt I hg hm hbm ?_)
  refine PyProof.Rows.callWith_kw ?_ hbt hpl rfl rfl
  rw [hbt]
  refine Calls.spliced_cons (thn (he.run pins s σ H _ I h) fun u s1 ⟨v, H1, I1, rv, now⟩ => Calls.spliced_nil ?_)
  obtain ⟨a, ns, kf, ev, hq, pos0, tabs, fin⟩ := now
  subst ev
  obtain rfl : u = Value.ref a := rv
  show wpAny _ _ (evalAll [(do let v ← eval (.Lambda params body scope lpos) X.env; standAt pos; pure v)]) _ _ s1
  refine wpAny_evalAll_cons (wpAny_bind (LamX.lam_make2 I1 TB hcode hT1 hT2 tabs hdef hfree fun f c' pm ctv H2 s2 I2 ext tabs2 hf nf nst hco => wpAny_bind (wpAny_standAt (wpAny_pure (wpAny_evalAll_nil ?_)))))
  obtain ⟨hq2, keys, fin⟩ := fin H2 ext tabs2
  obtain ⟨its, rvs, hl, _⟩ := I2.list hq2
  have ln : its.length = ns.length := by rw [← rvs.length, List.length_map]
  have hh := I2.ok.hd hc
  have codeR : s2.heap.CodeRec (.ref c') (X.env.qual ++ "<lambda>") := by
    obtain ⟨⟨oc, vs, tq, g1, g2, g3⟩, _⟩ := I2.hok c' _ hco
    exact ⟨c', oc, vs, tq, rfl, g1, g2, g3⟩
  have dep := hr.dp
  show wpAny _ _ (call (.builtin "max") [.ref a] [(Str.ofString "key", .ref f)]) _ _ s2
  refine PySem.call_max_walkK (PySem.W.iter_listW (A := X.A.in1) hh hl.isList fun s₂ es W st hfp hw hkp => ?_)
  refine ⟨_, _, _, _, _, _, _, Grown s2, (fun i kv _ => ∃ t, kv = Value.int (kf (ns.getD i 0)) t), (fun i j => decide (kf (ns.getD i 0) > kf (ns.getD j 0))), rfl, W, st, hfp, ?_, ⟨fun z z' g m => ?_, fun i kv z z' r _ => r, fun i vi z o Qt Et hi hP g hst hS now => ?_, fun i j ki kj z Qc Ec g ri rj now => ?_⟩, ?_, fun v z hP g => ?_⟩
  · rw [List.size_toArray, ln]; exact pos0
  · obtain ⟨h', tk, rfl, kp⟩ := g
    refine ⟨z'.heap, z'.toks, ?_, fun b o eb => m.heap b o (fun hb => ?_) (kp b o eb)⟩
    · obtain ⟨hp, gs, dr, tk2, os⟩ := z'
      obtain rfl : gs = s2.gens := m.gens
      obtain rfl : dr = s2.drawn := m.drawn
      obtain rfl : os = s2.os := m.os
      rfl
    · have lt := Heap.lt_size eb
      have sz : s₂.heap.objs.size = s2.heap.objs.size + 1 := by rw [es]; exact Heap.size_push ..
      have either : b = s₂.heap.objs.size ∨ b = s2.heap.objs.size := by simpa using hb
      rcases either with w | w
      · rw [w, sz] at lt
        exact Nat.lt_irrefl _ (Nat.lt_trans (Nat.lt_succ_self _) lt)
      · rw [w] at lt
        exact Nat.lt_irrefl _ lt
  · obtain ⟨il, t, rfl⟩ := ints_val2 rvs i vi hP
    have mem : ns.getD i 0 ∈ ns := by
      rw [List.getD_eq_getElem?_getD, List.getElem?_eq_getElem il]
      exact List.getElem_mem _
    refine wpAny_mono (lam_call L B I2 g hf codeR (show X.A.in1.depth < recursionLimit from by show X.A.depth < _; omega) (fun e => by have := hr.un; show X.A.units + 1 + 3 + 1 < cLine; omega) (keys _ mem)) (fun y z' r => ?_) fun _ _ e => e
    obtain ⟨e1, gr⟩ := r
    have kp := gr.kp
    obtain ⟨h', tk, ez, kp0⟩ := g
    obtain ⟨h2, tk2, ez2, _⟩ := gr
    have gz : Grown s2 z' := by
      subst ez
      subst ez2
      exact ⟨h2, tk2, rfl, fun b o q => kp b o (kp0 b o q)⟩
    refine now y z' gz ⟨?_, ?_⟩ (kp _ _ hS) e1 fun j k' q => q
    · obtain ⟨o1, ho1, r1⟩ := hst.1
      exact ⟨o1, kp _ _ ho1, r1⟩
    · obtain ⟨o1, ho1, r1⟩ := hst.2
      exact ⟨o1, kp _ _ ho1, r1⟩
  · exact (CmpOf.ints_gt (P := fun i kv => ∃ t, kv = Value.int (kf (ns.getD i 0)) t) (fun i => kf (ns.getD i 0)) (fun _ _ q => q)) i j ki kj z Qc Ec ri rj now
  · exact ⟨s₂.heap, s2.toks, by rw [es], hkp⟩
  · obtain ⟨h', tk, rfl, kp⟩ := g
    obtain ⟨il, t, rfl⟩ := ints_val2 rvs _ v hP
    obtain ⟨b1, b2⟩ := argBest_gt (fun i => kf (ns.getD i 0)) (its.toArray.size - 1)
    have hsz : its.toArray.size = its.length := List.size_toArray
    refine ⟨.int _, H2, I2.kept kp, ⟨_, rfl⟩, fin _ ?_ fun y hy => ?_⟩
    · rw [List.getD_eq_getElem?_getD, List.getElem?_eq_getElem il]
      exact List.getElem_mem _
    · obtain ⟨j, hj⟩ := List.getElem?_of_mem hy
      have jl := (List.getElem?_eq_some_iff.mp hj).1
      have := b2 j (by omega)
      rw [show ns.getD j 0 = y by rw [List.getD_eq_getElem?_getD, hj]; rfl] at this
      exact this
/-! ### what such lambdas say -/
/-- a name of the def around, as the lambda sees it -/
structure Sees (X : Cx) (scope : Scope) (x y : Str) (i : Nat) : Prop where
  at_ : X.N[i]? = some y
  vis : Vis X.env.scope y
  out : X.env.kindOf y ≠ some .local
  kind : scope.kind = .function
  kx : scope.names.lookup x = some .local
  ky : scope.names.lookup y = some .free
  clo : ∀ cells : List (Str × Addr), (cloFrom cells scope.names []).lookup y = some ((cells.lookup y).getD 0)
  dx : (x == ("__debug__" : Str)) = false
  dy : (y == ("__debug__" : Str)) = false
  cy : (y == ("__classdict__" : Str)) = false
theorem Sees.load {X : Cx} {scope : Scope} {x y : Str} {i : Nat} (S : Sees X scope x y i) {pins : List (Addr × Obj)} {σ : L2.St} {H : Hp} {A' : Around} {env' : Env} {E' : Value → Shared → Prop} {z : Shared} {v : V} {p : Pos} {Q : Value → Shared → Prop} (I : Inv X pins σ H z) (es : env'.scope = scope) (ec : env'.cells = cloFrom X.env.cells scope.names []) (hv : σ[i]? = some (some v))
    (h : ∀ u, RelV v u → Q u z) : wpAny (model X.prog X.w) A' (eval (.Name y p) env') Q E' z := by
  obtain ⟨m, _, look⟩ := I.loc
  obtain ⟨u, ru, l⟩ := look i y v S.at_ hv S.vis
  rcases l with ⟨l, _⟩ | ⟨_, d, hd, hc⟩
  · exact absurd l S.out
  · refine wpAny_Name (wpAny_loadName_free (c := d) (by rw [es]; exact S.kind) (show env'.scope.names.lookup y = _ by rw [es]; exact S.ky) ?_ hc (h u ru) S.cy) S.dy
    rw [ec, S.clo, hd]
    rfl
theorem Sees.arg {X : Cx} {scope : Scope} {x y : Str} {i : Nat} (S : Sees X scope x y i) {A' : Around} {env' : Env} {E' : Value → Shared → Prop} {z : Shared} {n : Int} {t : Tok} {p : Pos} {Q : Value → Shared → Prop} (es : env'.scope = scope) (ns : z.heap.Ns env'.locals (fun y => ([(x, Value.int n t)] : List (Str × Value)).lookup y))
    (h : Q (.int n t) z) : wpAny (model X.prog X.w) A' (eval (.Name x p) env') Q E' z := by
  refine wpAny_Name (wpAny_loadName_local (by rw [es]; exact S.kind) (show env'.scope.names.lookup x = _ by rw [es]; exact S.kx) ns ?_ h) S.dx
  show (match x == x with | true => some (Value.int n t) | false => none) = some (Value.int n t)
  rw [beq_self_eq_true]
/-- lambda x: y[x], y a dict -/
def kaDict (i : Nat) : L2.St → Hp → Int → Int → Prop := fun σ H n k => ∃ (d : Addr) (kvs : List (Key × V)), σ[i]? = some (some (.ref d)) ∧ H d = some (.dK kvs) ∧ valV kvs (.inl n) = some (.int k)
theorem body_dict {X : Cx} {scope : Scope} {x y : Str} {i : Nat} {p1 p2 p3 : Pos} (S : Sees X scope x y i) (ns : NoSl (.Name x p2)) : KeyBody X scope (.Subscript (.Name y p1) (.Name x p2) p3) x (kaDict i) := by
  intro pins σ H A' env' E' z n k t I un es ec nz ka
  obtain ⟨d, kvs, hd, hH, hv⟩ := ka
  refine subD_of PySem.F.slot_dict_getitem.lookup ns (S.load I es ec hd fun u ru => S.arg es nz ?_)
  obtain rfl : u = Value.ref d := ru
  obtain ⟨_, _, vals, kv, dict⟩ := dk_of I.hok hH
  obtain ⟨w', hw, rw'⟩ := RelO.some_of (v := .int k) (o := valueAt vals (.inl n)) (by rw [← hv]; exact kv.val _)
  refine ⟨dict.typeIs, wpAny_getItem_of (kV_is (k := .inl n) ⟨t, rfl⟩) dict.mapOf hw ⟨rw', _, rfl⟩⟩
/-- lambda x: y[x][1], y a tuple of tuples -/
def kaTup (K : PySem.W.Frag) (i : Nat) : L2.St → Hp → Int → Int → Prop := fun σ H n k => ∃ (a b : Addr) (xs ys : List V), σ[i]? = some (some (.ref a)) ∧ SqT K H a xs ∧ atI xs n = some (.ref b) ∧ SqT K H b ys ∧ atI ys 1 = some (.int k)
theorem tup_item {X : Cx} {pins : List (Addr × Obj)} {σ : L2.St} {H : Hp} {A' : Around} {E' : Value → Shared → Prop} {z : Shared} {a : Addr} {xs : List V} {n : Int} {t : Tok} {v : V} {Q : Value → Shared → Prop} (I : Inv X pins σ H z) (hs : SqT X.K H a xs) (hv : atI xs n = some v)
    (h : ∀ u, RelV v u → Q u z) : z.TypeIs (.ref a) "tuple" ∧ wpAny (model X.prog X.w) A' (getItem (.ref a) (.int n t)) Q E' z := by
  obtain ⟨items, rel, tup, small⟩ := I.tuple hs
  obtain ⟨j, i1, i2, i3, i4, i5⟩ := atI_get hv
  obtain ⟨u, hu, ru⟩ := rel.get i2
  have len := rel.length
  have big := line63
  exact ⟨tup.typeIs, PyProof.Rows.getItem_tuple (j := j) tup (by omega) (by omega) (by rw [List.size_toArray, ← len]; exact i1) (by simpa using hu) (h u ru)⟩
theorem body_tup {X : Cx} {scope : Scope} {x y : Str} {i j : Nat} {p1 p2 p3 p4 p5 : Pos} (S : Sees X scope x y i) (n1 : NoSl (.Name x p2)) (n2 : NoSl (.Constant (.int 1) j p4)) : KeyBody X scope (.Subscript (.Subscript (.Name y p1) (.Name x p2) p3) (.Constant (.int 1) j p4) p5) x (kaTup X.K i) := by
  intro pins σ H A' env' E' z n k t I un es ec nz ka
  obtain ⟨a, b, xs, ys, ha, hx, hb, hy, hk⟩ := ka
  refine subD_of slot_tuple_getitem.lookup n2 (subD_of slot_tuple_getitem.lookup n1 (S.load I es ec ha fun u ru => S.arg es nz ?_))
  obtain rfl : u = Value.ref a := ru
  refine tup_item I hx hb fun u2 ru2 => wpAny_Constant_int ?_
  obtain rfl : u2 = Value.ref b := ru2
  exact tup_item (I.tok _) hy hk fun u3 ru3 => ⟨ru3, _, rfl⟩
theorem free_one {names : List (Str × NameKind)} {cells : List (Str × Addr)} {y : Str} {d : Addr} (h : (names.filter fun p => p.2 == NameKind.free) = [(y, NameKind.free)]) (hd : cells.lookup y = some d) : ∀ p ∈ names, p.2 = .free → ∃ d, cells.lookup p.1 = some d := fun p hp e => by
  have : p ∈ names.filter fun p => p.2 == NameKind.free := List.mem_filter.mpr ⟨hp, by rw [e]; rfl⟩
  rw [h] at this
  rw [List.mem_singleton.mp this]
  exact ⟨d, hd⟩
theorem ExtN.tk {H H' : Hp} (e : LamX.ExtN H H') : TK H H' := fun b xs h => e b _ h (fun _ z => nomatch z)
theorem ExtN.lst {H H' : Hp} {a : Addr} {xs : List V} (e : LamX.ExtN H H') (h : H a = some (.lst xs)) : H' a = some (.lst xs) := e a _ h (fun _ z => nomatch z)
theorem ExtN.dic {H H' : Hp} {a : Addr} {kvs : List (Key × V)} (e : LamX.ExtN H H') (h : H a = some (.dK kvs)) : H' a = some (.dK kvs) := e a _ h (fun _ z => nomatch z)
theorem ExtN.flow {H H' : Hp} {f c : Addr} (e : LamX.ExtN H H') (h : Flow H f c) : Flow H' f c := by
  obtain ⟨ns, i, p, q, r, e1, e2, rest⟩ := h
  exact ⟨ns, i, p, q, r, ExtN.lst e e1, ExtN.lst e e2, rest⟩
theorem ExtN.same {H H' : Hp} (s : Same H H') : LamX.ExtN H H' := LamX.ExtN.of s
theorem tabs_same {T : List (Addr × Str)} {H H' : Hp} (t : LamX.Tabs T H) (s : Same H H') : LamX.Tabs T H' := t.ext s
theorem tabs_lst {T : List (Addr × Str)} {H : Hp} {l : Addr} {xs ys : List V} (t : LamX.Tabs T H) (h : H l = some (.lst xs)) : LamX.Tabs T (upd H l (.lst ys)) := fun p hp => by
  obtain ⟨ps, h1, h2, h3⟩ := t p hp
  have ne : ∀ b o, H b = some o → (∀ zs, o ≠ .lst zs) → upd H l (.lst ys) b = some o := fun b o e n => by
    rw [upd_ne (fun z => by rw [z, h] at e; cases e; exact n _ rfl)]
    exact e
  refine ⟨ps, ne _ _ h1 (fun _ z => nomatch z), h2, fun pos cv hc => ?_⟩
  obtain ⟨c, e1, e2⟩ := h3 pos cv hc
  exact ⟨c, e1, ne _ _ e2 (fun zs z => by unfold LamX.CodeO at z; cases z)⟩
theorem tabs_but {T : List (Addr × Str)} {H H' : Hp} {f c : Addr} (t : LamX.Tabs T H) (F : Flow H f c) (b : But f H H') : LamX.Tabs T H' := fun p hp => by
  obtain ⟨ps, h1, h2, h3⟩ := t p hp
  obtain ⟨ns, i, a, q, r, e1, _⟩ := F
  have ne : ∀ d o, H d = some o → (∀ zs, o ≠ .lst zs) → H' d = some o := fun d o e n => b d o e (fun z => by rw [z, e1] at e; cases e; exact n _ rfl)
  refine ⟨ps, ne _ _ h1 (fun _ z => nomatch z), h2, fun pos cv hc => ?_⟩
  obtain ⟨c, g1, g2⟩ := h3 pos cv hc
  exact ⟨c, g1, ne _ _ g2 (fun zs z => by unfold LamX.CodeO at z; cases z)⟩
/-- a def of which the code object is known -/
theorem ok_code {P : Program} {w : World} {K : PySem.W.Frag} {mg : Str → Option Value} {base : Heap} {x qual : Str} {st : Stmt} {f c : Addr} {fd : FuncData} {N ps : List Str} {k : Nat} {sp : Sp} (F : Fun K x qual st f fd) (hc : fd.code = .ref c) (S : FnScope N ps (defScope st)) (len : ∀ vs H Q E, sp vs H Q E → vs.length = ps.length)
    (hbody : ∀ (A : Around) (outer : List Env) (s : Shared) (H : Hp) (vs : List V) (Q : VK) (E : XK), Room k (A.deeper (envOfC qual (defScope st) s.heap.objs.size f (.ref c))) → sp vs H Q E →
      ∃ t, PSs (cxOf CX0 P w K mg base N qual (defScope st) f (.ref c) A outer s H E).nox (defBody st) t ∧ t { nx := fun _ H' => Q .non H', rt := Q } (start N vs) H) : FnOk P w K mg base CX0 (k + 1) f fd ps sp := by
  obtain ⟨kl, kd, kV, dc, pm, an, cv, ct, ks, rfl, look, cin⟩ := F.ex
  obtain rfl : cv = .ref c := hc
  refine fn_of look cin S len fun A outer s H vs Q E hr now => ?_
  obtain ⟨t, h, q⟩ := hbody A outer s H vs Q E hr now
  exact ⟨t, h.nox, q⟩
/-! ### all(is_whole(x) for x in a tuple) -/
section
open PySem.Spec GxR
/-- isinstance(x, T), x a local name, wherever it stands -/
theorem isi_local {prog : Program} {w : World} {A : Around} {E : Value → Shared → Prop} {Q : Value → Shared → Prop} {env : Env} {K : PySem.W.Frag} {mg mb m : Str → Option Value} {s : Shared} {x T : Str} {Tn : String} {v t : Value} {b : Bool} {Hx : Heap → Prop} {p1 p2 p3 p4 : Pos}
    (kind : env.scope.kind = .function) (ki : env.kindOf "isinstance" = some .globalImplicit) (kT : env.kindOf T = some .globalImplicit) (kx : env.scope.names.lookup x = some .local) (dT : (T == ("__debug__" : Str)) = false) (dx : (x == ("__debug__" : Str)) = false)
    (g : s.heap.Ns env.globals mg) (bl : s.heap.Ns env.builtins mb) (mi : mg "isinstance" = none) (bi : mb "isinstance" = some (.builtin "isinstance")) (mT : mg T = none) (bT : mb T = some (.type Tn)) (ns : s.heap.Ns env.locals m) (mx : m x = some v)
    (kin : K.In s.heap) (Z : PySem.W.KitX K v t Hx) (p : Hx s.heap) (e : PySem.W.kitOne K t (.type Tn) = some b) (no : v ≠ .builtin "__main__.__loader__#opaque") (hQ : ∀ tk, Q (.bool b) { s with toks := tk }) :
    wpAny (model prog w) A (eval (.Call (.Name "isinstance" p1) [.Name x p2, .Name T p3] [] p4) env) Q E s := by
  refine wpAny_Call_Name_kw (Calls.Name_function_global kind ki (Calls.loadGlobal_builtin g mi bl bi ?_))
  refine PyProof.Rows.callWith_builtin1 ?_ (by rfl) (by rfl)
  show wpAny _ _ (spliced ((false, eval (.Name x p2) env) :: backTo p4 (starEach [.Name T p3] env))) _ _ s
  refine Calls.spliced_cons (wpAny_Name (wpAny_loadName_local kind kx ns mx ?_) dx)
  show wpAny _ _ (spliced ((false, eval (.Name T p3) env) :: backTo p4 (starEach [] env))) _ _ s
  refine Calls.spliced_cons (Calls.Name_function_global kind kT (Calls.loadGlobal_builtin g mT bl bT ?_) dT)
  refine Calls.spliced_nil ?_
  exact PySem.W.kia_one Z kin p e no hQ
/-- a def whose body is: return isinstance(x, int) and not isinstance(x, bool) -/
structure IsWholeDef (body : List Stmt) (scope : Scope) (x : Str) : Prop where
  body : ∃ p0 p1 p2 p3 p4 p5 p6 p7 p8 p9 p10 : Pos, body = [.Return (some (.BoolOp .And [.Call (.Name "isinstance" p1) [.Name x p2, .Name "int" p3] [] p4, .UnaryOp .Not (.Call (.Name "isinstance" p5) [.Name x p6, .Name "bool" p7] [] p8) p9] p10)) p0]
  kind : scope.kind = .function
  co : scope.isCoroutine = false
  gen : scope.isGenerator = false
  ki : scope.names.lookup ("isinstance" : Str) = some NameKind.globalImplicit
  kt : scope.names.lookup ("int" : Str) = some NameKind.globalImplicit
  kb : scope.names.lookup ("bool" : Str) = some NameKind.globalImplicit
  kx : scope.names.lookup x = some NameKind.local
  dx : (x == ("__debug__" : Str)) = false
theorem whole_call {prog : Program} {w : World} {A : Around} {E : Value → Shared → Prop} {K : PySem.W.Frag} {mg : Str → Option Value} {base : Heap} {s : Shared} {f : Addr} {fd : FuncData} {x nm : Str} {st : Stmt} {v t : Value} {a b : Bool} {Hx : Heap → Prop}
    (F : Fun K nm nm st f fd) (W : IsWholeDef (defBody st) (defScope st) x) (bnd : BindsTo s fd ⟨[v], []⟩ [(x, v)]) (Z : PySem.W.KitX K v t Hx) (hx : ∀ h', (∀ b o, s.heap.get? b = some o → h'.get? b = some o) → Hx h') (ea : PySem.W.kitOne K t (.type "int") = some a) (eb : PySem.W.kitOne K t (.type "bool") = some b) (no : v ≠ .builtin "__main__.__loader__#opaque") (M : Mod K mg base) (bk : ∀ b o, base.get? b = some o → s.heap.get? b = some o)
    (mi : mg "isinstance" = none) (mt : mg "int" = none) (mb : mg "bool" = none) (depth : A.depth + 2 < recursionLimit) :
    wpAny (model prog w) A (call (.ref f) [v]) (fun y s' => y = .bool (a && !b) ∧ Keeps s s') E s := by
  obtain ⟨kl, kd, kV, dc, pm, an, cv, ct, ks, rfl, look, cin⟩ := F.ex
  have kin : K.In s.heap := M.kin.keeps bk
  have lim : s.heap.NoLimit := M.nolimit.keeps bk
  refine wpAny_call (codeAny_call_function (by omega) (kin _ _ look) rfl W.co W.gen rfl (PySem.W.codeRec_of kin cin) (bnd _ _ _ _ ?_))
  refine wpAny_newFunctionEnv_cells W.kind (fun y hy => ?_) fun env he s1 ic => ?_
  · rw [List.mem_singleton.mp hy]
    exact .inl W.kx
  subst he
  refine ⟨lim.keeps ic.toInCall.keep, codeAny_func ?_⟩
  have nsx := ic.toInCall.ns
  have kp := ic.toInCall.keep
  have dn := ic.done
  generalize eenv : newEnv (PySem.W.fnOf nm nm (defArgs st) (defBody st) (defScope st) Value.none kV dc pm an cv ct).scope s.heap.objs.size _ _ _ _ _ _ _ = env at nsx ⊢
  have sc : env.scope = defScope st := by rw [← eenv]; rfl
  have gl : env.globals = mainGlobals := by rw [← eenv]; rfl
  have bl : env.builtins = builtinsNs := by rw [← eenv]; rfl
  have ko : ∀ y, env.kindOf y = (defScope st).names.lookup y := fun y => by rw [← eenv]; rfl
  have bk1 : ∀ b o, base.get? b = some o → s1.heap.get? b = some o := fun b o e => kp b o (bk b o e)
  obtain ⟨mbs, hb1, hb2⟩ := M.blt
  obtain ⟨p0, p1, p2, p3, p4, p5, p6, p7, p8, p9, p10, hbody⟩ := W.body
  show wpAny _ _ (execs (defBody st) env) _ _ s1
  rw [hbody]
  refine wpAny_execs_cons ?_
  refine wpAny_Return_some ?_
  have kindf : env.scope.kind = .function := by rw [sc]; exact W.kind
  have nsl := nsx
  have g1 : s1.heap.Ns env.globals mg := by rw [gl]; exact M.glob.keeps bk1
  have b1 : s1.heap.Ns env.builtins mbs := by rw [bl]; exact hb1.keeps bk1
  have kx1 : env.scope.names.lookup x = some .local := by rw [sc]; exact W.kx
  have mx : bindL env.kindOf [(x, v)] (fun _ => none) x = some v := by
    show (if env.kindOf x = some .local then fun y => if y = x then some v else none else fun _ => none) x = _
    rw [if_pos ((ko x).trans W.kx)]
    exact if_pos rfl
  refine wpAny_And2 (isi_local (K := K) kindf ((ko _).trans W.ki) ((ko _).trans W.kt) kx1 (by decide) W.dx g1 b1 mi (hb2 _ (by decide) |>.trans boot_isinstance) mt (hb2 _ (by decide) |>.trans boot_int) nsl mx (kin.keeps kp) Z (hx _ kp) ea no fun tk1 => ?_)
  refine wpAny_truthy_bool ?_
  obtain ⟨h', tk', e1, k1⟩ := dn
  cases a with
  | false => exact ⟨rfl, h', tk1, by rw [e1], k1⟩
  | true =>
    refine wpAny_UnaryOp (isi_local (K := K) kindf ((ko _).trans W.ki) ((ko _).trans W.kb) kx1 (by decide) W.dx g1 b1 mi (hb2 _ (by decide) |>.trans boot_isinstance) mb (hb2 _ (by decide) |>.trans boot_bool) nsl mx (kin.keeps kp) Z (hx _ kp) eb no fun tk2 => ?_)
    refine not_value (wpAny_truthy_bool ?_)
    exact ⟨rfl, h', tk2, by rw [e1], k1⟩
/-- one item looked at, in the generator's own surroundings -/
def LooksAt (X : Cx) (scope : Scope) (x : Str) (elt : Expr) (its : List Value) (pb : Nat → Bool) : Prop :=
  ∀ (cenv : Env) (A' : Around) (E' : Value → Shared → Prop) (i : Nat) (v : Value) (z : Shared) (mz : Str → Option Value), A'.depth ≤ X.A.depth + 1 → cenv.scope = scope → cenv.globals = mainGlobals →
    (∀ b o, X.base.get? b = some o → z.heap.get? b = some o) → z.heap.Ns cenv.locals mz → mz x = some v → its[i]? = some v →
    wpAny (model X.prog X.w) A' (eval elt cenv) (fun y z' => y = .bool (pb i) ∧ Keeps z z') E' z
/-- the state when the generator's code object was got: it is in the table at P, or was just put there -/
structure Got (P : Addr) (ps : Array Value) (nm : Str) (z z' : Shared) : Prop where
  same : z' = { z with heap := z'.heap, toks := z'.toks }
  ext : Heap.ExtBut P z.heap z'.heap
  size : z.heap.objs.size ≤ z'.heap.objs.size
  tab : z'.heap.get? P = some { cls := .none, data := .fields ps } ∨ ∃ (pos : Pos) (c' : Addr), z'.heap.get? P = some { cls := .none, data := .fields (ps ++ #[rawInt ↑pos.line, rawInt ↑pos.col, .ref c']) } ∧ TriplesOk (ps ++ #[rawInt ↑pos.line, rawInt ↑pos.col, Value.ref c']).toList ∧ z.heap.objs.size ≤ c' ∧ c' < z'.heap.objs.size ∧ z'.heap.CodeRec (.ref c') nm
theorem code_got {prog : Program} {w : World} {A : Around} {E : Value → Shared → Prop} {env : Env} {gpos : Pos} {nm : Str} {scope : Scope} {c P : Addr} {ps : Array Value} {z : Shared}
    (hcode : env.code = .ref c) (cd : PySem.W.CodeHd z.heap c P) (hP : z.heap.get? P = some { cls := .none, data := .fields ps }) (ht : TriplesOk ps.toList) :
    wpAny (model prog w) A (genexprCode env gpos nm scope) (fun _ z' => Got P ps nm z z') E z := by
  cases among : codeAmong gpos ps.toList with
  | some cv => exact wpAny_genexprCode_hit hcode (cd.code hP ht) among ⟨rfl, .refl _ _, Nat.le_refl _, .inl hP⟩
  | none =>
    refine wpAny_genexprCodeX hcode (cd.code hP ht) (cd.tab hP) among fun c' h' tk ext ge lt co rec tab _ => ?_
    obtain ⟨_, _, _, _, _, _, _, _, _, _, _, _, _, _, _, _, _, _, _, tr, _⟩ := co
    exact ⟨rfl, ext, Nat.le_trans ge (Nat.le_of_lt lt), .inr ⟨gpos, c', tab.2, tr, ge, lt, rec⟩⟩
/-- a generator g of n truths pb, about to be walked; however far it is walked, H1 stands but for tables -/
def Poised (X : Cx) (pins : List (Addr × Obj)) (σ : L2.St) (H1 : Hp) (T : List (Addr × Str)) (n : Nat) (pb : Nat → Bool) (g : Addr) (z : Shared) : Prop :=
  ∃ (foot own : List Addr) (Gn : Array GenState → Array GenState → Prop) (Fn : Nat → Value → Prop) (Sn : Nat → Shared → Prop),
    WalksS X.prog X.w X.A.in1 g foot own Gn n Fn Sn ∧ Sn 0 z ∧ TruthOf X.prog X.w X.A.in1 Fn pb ∧ ∀ z', Moved own Gn z z' → ∃ H2, LamX.ExtN H1 H2 ∧ LamX.Tabs T H2 ∧ Inv X pins σ H2 z'
theorem gen_items {X : Cx} {pins : List (Addr × Obj)} {σ : L2.St} {H : Hp} {s : Shared} {c P : Addr} {elt iter : Expr} {x : Str} {px gpos : Pos} {scope : Scope} {te : TE} {k : Nat} {Qg : Value → Shared → Prop}
    {T : List (Addr × Str)} (hr : Room k X.A) (TB : LamX.TabB X.base X.mg c P) (hT1 : (P, X.env.qual ++ "<genexpr>") ∈ T) (hT2 : ∀ q ∈ T, q.1 = P → q.2 = X.env.qual ++ "<genexpr>") (hcode : X.env.code = .ref c) (S : GenS X.env scope x) (hi : PE X iter te) (hs : ∀ v, genFold iter X.env v = pure v) (I : Inv X pins σ H s)
    {R : VK} (h : te σ H R) (hR : ∀ v H1, R v H1 → ∃ (a : Addr) (xs : List V) (pb : Nat → Bool), v = .ref a ∧ SqT X.K H1 a xs ∧ LamX.Tabs T H1 ∧ (∀ its, Vals xs its → LooksAt X scope x elt its pb) ∧ ∀ g z, Poised X pins σ H1 T xs.length pb g z → Qg (.ref g) z) :
    wpAny (model X.prog X.w) X.A (eval (.GeneratorExp elt [⟨.Name x px, iter, [], 0⟩] scope gpos) X.env) Qg X.xe s := by
  refine wpAny_GeneratorExp_walksQD hr.hd S.co (closure_ok S.free) S.cell S.dot S.loc S.kind (by have := hr.dp; omega) ?_ hs
  refine thn (hi.run pins s σ H _ I h) fun u s1 ⟨v, H1, I1, rel, now⟩ => ?_
  obtain ⟨a, xs, pb, ev, hq, tabs, look, fin⟩ := hR v H1 now
  obtain ⟨ps, hP, tri, codes⟩ := id (tabs _ hT1)
  subst ev
  obtain rfl : u = Value.ref a := rel
  obtain ⟨its, rv, tup, _⟩ := I1.tuple hq
  refine wpAny_pyIter_tuple tup ?_
  have tabP : s1.heap.get? P = some { cls := .none, data := .fields ps } := I1.hok P _ hP
  have pushed : ∀ b o, s1.heap.get? b = some o → (s1.heap.push { cls := .type "tuple_iterator", data := .fields #[.ref a, .int 0 0] }).get? b = some o := fun b o e => Heap.get?_push_of_some _ e
  have born : Heap.IsTupleIter (s1.heap.push { cls := .type "tuple_iterator", data := .fields #[.ref a, .int 0 0] }) s1.heap.objs.size a 0 := ⟨_, Heap.get?_push_size _ rfl, rfl, rfl⟩
  have wider : (s1.heap.push { cls := .type "tuple_iterator", data := .fields #[.ref a, .int 0 0] }).objs.size = s1.heap.objs.size + 1 := Heap.size_push ..
  generalize s1.heap.push { cls := .type "tuple_iterator", data := .fields #[.ref a, .int 0 0] } = h2 at pushed born wider ⊢
  have al : a < s1.heap.objs.size := by obtain ⟨o, ho, _⟩ := tup; exact Heap.lt_size ho
  have pl : P < s1.heap.objs.size := Heap.lt_size tabP
  have cl : cStatics < s1.heap.objs.size := let ⟨_, hn, _⟩ := I1.nolimit; hn.lt
  have cP : cStatics ≠ P := fun e => by
    obtain ⟨_, ⟨o, es, ep, ho, hd, _⟩, _⟩ := I1.nolimit
    rw [e, tabP] at ho
    cases ho
    cases hd
  have aP : a ≠ P := fun e => by
    obtain ⟨o, ho, hc, _⟩ := tup
    rw [e, tabP] at ho
    cases ho
    cases hc
  have lim2 : h2.NoLimit := I1.nolimit.keeps pushed
  refine ⟨lim2, thn (code_got (ps := ps) hcode (TB.code.keeps fun b o e => pushed b o (I1.bk b o e)) (pushed _ _ tabP) tri) fun code s3 got => ?_⟩
  obtain ⟨eq3, ext, wide, tab3⟩ := got
  obtain ⟨h3, g3, d3, t3, o3⟩ := s3
  obtain ⟨rfl, rfl, rfl⟩ : g3 = s1.gens ∧ d3 = s1.drawn ∧ o3 = s1.os := by
    have := eq3
    simp only [Shared.mk.injEq] at this
    exact ⟨this.2.1, this.2.2.1, this.2.2.2.2⟩
  replace ext : Heap.ExtBut P h2 h3 := ext
  replace wide : h2.objs.size ≤ h3.objs.size := wide
  have kept : ∀ b o, b ≠ P → s1.heap.get? b = some o → h3.get? b = some o := fun b o nb e => ext b o nb (pushed b o e)
  obtain ⟨bm, ob, b1, b2, b3, b4, b5, b6, b7, b8⟩ := TB.bm
  refine wpAny_builtinsFor (m := X.mg) (by rw [I1.ok.glob]; exact (I1.mod.glob.keeps fun b o e => pushed b o (I1.bk b o e)).extBut ext TB.gP) b1 b2 (kept _ _ b4 (I1.bk _ _ b5)) b6 b7 b8 ?_
  refine ⟨s1.heap.objs.size, [s1.heap.objs.size, a], [s1.heap.objs.size], its.toArray.size, (fun i v => its.toArray[i]? = some v), _, (fun _ => true), (fun i y => i < its.length ∧ y = .bool (pb i)), rfl, fun A' hA => Walks.tuple hA s1.heap.objs.size a (Nat.ne_of_lt al) its.toArray, ⟨?_, ?_⟩, ?_, lim2.extBut ext cP, ?_, ?_, ?_⟩
  · exact born.at fun o e => ext _ o (Nat.ne_of_gt pl) e
  · exact (show Heap.IsTuple s1.heap a its.toArray from tup).at fun o e => kept a o aP e
  · intro b hb
    have either : b = s1.heap.objs.size ∨ b = a := by simpa using hb
    show b < h3.objs.size
    have past : s1.heap.objs.size < h3.objs.size := by omega
    rcases either with z | z
    · rw [z]; exact past
    · rw [z]; exact Nat.lt_trans al past
  · intro z
    exact Nat.ne_of_lt cl (List.mem_singleton.mp z)
  · intro href above
    refine ⟨fun A' E' i v z mz _ _ _ _ _ _ _ => ?_, fun A' E' i v z mz _ dep _ pv _ nz mx up => ?_⟩
    · rw [List.forIn_nil]
      exact wpAny_pure ⟨rfl, GxR.keeps_refl z⟩
    · have at_ : its[i]? = some v := by
        have pv : its.toArray[i]? = some v := pv
        rwa [List.getElem?_toArray] at pv
      refine wpAny_mono (look its rv _ A' E' i v z mz dep rfl I1.ok.glob (fun b o e => ?_) nz mx at_) (fun y z' r => ⟨⟨(List.getElem?_eq_some_iff.mp at_).1, r.1⟩, r.2⟩) fun _ _ e => e
      have nb : b ≠ P := fun q => by
        have := (I1.bs b o e).2
        rw [q, hP] at this
        cases this
      have e1 := kept b o nb (I1.bk b o e)
      have bl := Heap.lt_size (I1.bk b o e)
      exact up b (List.mem_range.mpr (Heap.lt_size e1)) (fun q => Nat.ne_of_lt bl (List.mem_singleton.mp q)) o (above b o e1)
  · intro g h5 tk5 gs bare gt size5 kept5 W st0
    have many : (passing (fun _ => true) its.toArray.size 0).length = xs.length := by rw [GxR.passing_true, List.length_range, List.size_toArray, rv.length]
    rw [many] at W
    refine fin g _ ⟨_, _, _, _, _, W.in4_1, st0, fun j y z Qj Ej hy now => ?_, fun z' mv => ?_⟩
    · obtain ⟨i, hij, hil, rfl⟩ := hy
      rw [GxR.passing_true] at hij
      obtain ⟨lt, ij⟩ := List.getElem?_eq_some_iff.mp hij
      rw [List.getElem_range] at ij
      subst ij
      exact wpAny_truthy_bool now
    · have un : ∀ b o, s1.heap.get? b = some o → b ∉ h3.objs.size :: [s1.heap.objs.size] := fun b o e q => by
        have bl := Heap.lt_size e
        have past : s1.heap.objs.size < h3.objs.size := by omega
        have either : b = h3.objs.size ∨ b = s1.heap.objs.size := by simpa using q
        rcases either with q | q
        · exact Nat.ne_of_lt (Nat.lt_trans bl past) q
        · exact Nat.ne_of_lt bl q
      rcases tab3 with hP3 | ⟨pos3, c3, hP3, tri3, c3a, c3b, rec3⟩
      · have J := inv_tab (more := #[]) (h' := z'.heap) (g' := z'.gens) (d' := z'.drawn) (t' := z'.toks) I1 hP (fun b o nb e => mv.heap b o (un b o e) (kept5 b o (kept b o nb e))) (mv.heap P _ (un P _ tabP) (kept5 P _ (by simpa using hP3))) (AllBare.movedS (I1.bare.push bare) mv)
        rw [sh_eta s1 z' mv.os] at J
        have same : upd H1 P (HO.tbl (ps ++ #[])) = H1 := by
          funext b
          by_cases e : b = P
          · rw [e, upd_same, hP]; simp
          · exact upd_ne e
        rw [same] at J
        exact ⟨_, LamX.ExtN.refl _, tabs, J⟩
      · have c3s : s1.heap.objs.size ≤ c3 := by
          have : h2.objs.size ≤ c3 := c3a
          omega
        have c3n : H1 c3 = none := HOk.fresh I1.hok c3s
        have c3o : c3 ∉ h3.objs.size :: [s1.heap.objs.size] := fun q => by
          have a1 : h2.objs.size ≤ c3 := c3a
          have a2 : c3 < h3.objs.size := c3b
          have either : c3 = h3.objs.size ∨ c3 = s1.heap.objs.size := by simpa using q
          rcases either with q | q
          · exact Nat.ne_of_lt a2 q
          · rw [q] at a1; omega
        have rec5 : ∃ oc vs t, z'.heap.get? c3 = some oc ∧ oc.data = Data.fields vs ∧ vs[1]? = some (Value.str (X.env.qual ++ "<genexpr>") t) := by
          obtain ⟨c0, oc, vs, tq, e0, e1, e2, e3⟩ := rec3
          cases e0
          exact ⟨oc, vs, tq, mv.heap _ _ c3o (kept5 _ _ e1), e2, e3⟩
        have J := LamX.inv_table (more := #[rawInt ↑pos3.line, rawInt ↑pos3.col, Value.ref c3]) (h' := z'.heap) (t' := z'.toks) I1 hP (fun b o nb e => mv.heap b o (un b o e) (kept5 b o (kept b o nb e))) (mv.heap P _ (un P _ tabP) (kept5 P _ hP3)) c3s rec5
        have bz : AllBare z'.gens := AllBare.movedS (I1.bare.push bare) mv
        have J2 : Inv X pins σ _ { heap := z'.heap, gens := z'.gens, drawn := z'.drawn, toks := z'.toks, os := s1.os } := ⟨J.ok, J.os, bz, J.base, J.loc, J.cell, J.free, J.freeC, J.pin, J.hok, J.len⟩
        rw [sh_eta s1 z' mv.os] at J2
        have cP3 : c3 ≠ P := fun z => by rw [z, hP] at c3n; cases c3n
        have off : ∀ b o, H1 b = some o → b ≠ P → (upd (upd H1 P (HO.tbl (ps ++ #[rawInt ↑pos3.line, rawInt ↑pos3.col, Value.ref c3]))) c3 (LamX.CodeO c3 (X.env.qual ++ "<genexpr>"))) b = some o := fun b o e nb => by
          rw [upd_ne (fun z => by rw [z, c3n] at e; cases e), upd_ne nb]
          exact e
        refine ⟨_, fun b o e nt => off b o e fun z => by rw [z, hP] at e; exact nt ps (Option.some.inj e).symm, fun q hq => ?_, J2⟩
        by_cases eq : q.1 = P
        · rw [hT2 q hq eq, eq]
          refine ⟨_, by rw [upd_ne cP3.symm, upd_same], tri3, fun pos cv among => ?_⟩
          rw [Array.toList_append] at among
          rcases LamX.among_app ps.toList tri among with z | z
          · obtain ⟨c0, e0, e1⟩ := codes pos cv z
            exact ⟨c0, e0, off _ _ e1 fun y => by rw [y, hP] at e1; exact LamX.codeO_ne ps (Option.some.inj e1).symm⟩
          · exact ⟨c3, z, upd_same⟩
        · obtain ⟨ps', h1, h2, h3⟩ := tabs q hq
          refine ⟨ps', off _ _ h1 eq, h2, fun pos cv among => ?_⟩
          obtain ⟨c0, e0, e1⟩ := h3 pos cv among
          exact ⟨c0, e0, off _ _ e1 fun y => by rw [y, hP] at e1; exact LamX.codeO_ne ps (Option.some.inj e1).symm⟩
/-- is_whole's answer for a thing that is no object -/
def wholeV : V → Option Bool
  | .int _ => some true
  | .bl _ => some false
  | .non => some false
  | .str _ => some false
  | _ => none
/-- is_whole(x) for x in ..: the generator's element -/
structure WholeElt (X : Cx) (scope : Scope) (x nm : Str) (f : Addr) (fd : FuncData) (st : Stmt) (y : Str) : Prop where
  fn : Fun X.K nm nm st f fd
  df : IsWholeDef (defBody st) (defScope st) y
  bn : Binds X.K fd [y] []
  mg : X.mg nm = some (.ref f)
  mi : X.mg "isinstance" = none
  mt : X.mg "int" = none
  mb : X.mg "bool" = none
  kind : scope.kind = .function
  kf : scope.names.lookup nm = some NameKind.globalImplicit
  kx : scope.names.lookup x = some NameKind.local
  dx : (x == ("__debug__" : Str)) = false
  df2 : (nm == ("__debug__" : Str)) = false
theorem whole_elt {X : Cx} {scope : Scope} {x nm : Str} {f : Addr} {fd : FuncData} {st : Stmt} {y : Str} {k : Nat} {xs : List V} {p1 p2 p3 : Pos} (W : WholeElt X scope x nm f fd st y) (M : L2.Mod X.K X.mg X.base) (hr : Room k X.A) (hk : 1 ≤ k)
    (hv : ∀ v ∈ xs, ∃ b, wholeV v = some b) :
    ∀ its, Vals xs its → LooksAt X scope x (.Call (.Name nm p1) [.Name x p2] [] p3) its (fun i => (xs[i]?.bind wholeV).getD false) := by
  intro its rv cenv A' E' i v z mz dep sc gl up nz mx at_
  have kc : cenv.scope.kind = .function := by rw [sc]; exact W.kind
  have hd := hr.dp
  refine wpAny_Call_Name_kw (Calls.Name_function_global kc (show cenv.scope.names.lookup nm = _ by rw [sc]; exact W.kf) (Calls.loadGlobal_global (by rw [gl]; exact M.glob.keeps up) W.mg ?_) W.df2)
  have at2 := at_
  obtain ⟨v0, hv0⟩ : ∃ v0, xs[i]? = some v0 := ⟨_, List.getElem?_eq_getElem (by rw [rv.length]; exact (List.getElem?_eq_some_iff.mp at_).1)⟩
  obtain ⟨u, hu, rel⟩ := rv.get hv0
  rw [at_] at hu
  cases hu
  obtain ⟨b, hb⟩ := hv v0 (List.mem_of_getElem? hv0)
  have ans : (fun i => (xs[i]?.bind wholeV).getD false) i = b := by
    show (xs[i]?.bind wholeV).getD false = b
    rw [hv0]
    show (wholeV v0).getD false = b
    rw [hb]
    rfl
  rw [ans]
  have kin : X.K.In z.heap := M.kin.keeps up
  obtain ⟨oc, od, kV, doc, pm, an, cdv, ct, osl, efd, lk, hcd⟩ := W.fn.ex
  refine callWith_meth (h₀ := z.heap) (first := []) rfl (kin _ _ lk) ?_
  show wpAny _ _ (spliced ((false, eval (.Name x p2) cenv) :: backTo p3 (starEach [] cenv))) _ _ z
  refine Calls.spliced_cons (wpAny_Name (wpAny_loadName_local kc (show cenv.scope.names.lookup x = _ by rw [sc]; exact W.kx) nz mx ?_) W.dx)
  refine Calls.spliced_nil ⟨fun _ _ e => e, ?_⟩
  have go : ∀ {t : Value} {a c : Bool}, PySem.W.KitX X.K v t (fun _ => True) → PySem.W.kitOne X.K t (.type "int") = some a → PySem.W.kitOne X.K t (.type "bool") = some c → v ≠ .builtin "__main__.__loader__#opaque" → b = (a && !c) →
      wpAny (model X.prog X.w) A' (call (.ref f) [v]) (fun y z' => y = .bool b ∧ Keeps z z') E' z := fun {t a c} Z ea eb no eq => by
    rw [eq]
    exact whole_call W.fn W.df (W.bn z [v] kin rfl) Z (fun _ _ => trivial) ea eb no M up W.mi W.mt W.mb (by omega)
  cases v0 with
  | int n =>
    obtain ⟨t, rfl⟩ := rel
    cases hb
    exact go PySem.W.kitx_int (kit_ty rfl) (kit_ty rfl) (fun z => nomatch z) rfl
  | bl n =>
    obtain rfl : v = .bool n := rel
    cases hb
    exact go PySem.W.kitx_bool (kit_ty rfl) (kit_ty rfl) (fun z => nomatch z) rfl
  | non =>
    obtain rfl : v = .none := rel
    cases hb
    exact go PySem.W.kitx_none (kit_ty rfl) (kit_ty rfl) (fun z => nomatch z) rfl
  | str n =>
    obtain ⟨t, rfl⟩ := rel
    cases hb
    exact go PySem.W.kitx_str (kit_ty rfl) (kit_ty rfl) (fun z => nomatch z) rfl
  | byt n => cases hb
  | flt n => cases hb
  | ref n => cases hb
  | ty n => cases hb
/-- all(is_whole(x) for x in e), e a tuple -/
def tAllW (K : PySem.W.Frag) (T : List (Addr × Str)) (te : TE) : TE := fun σ H Q => te σ H fun v H1 => ∃ (a : Addr) (xs : List V), v = .ref a ∧ SqT K H1 a xs ∧ LamX.Tabs T H1 ∧ (∀ y ∈ xs, ∃ b, wholeV y = some b) ∧ ∀ H2, LamX.ExtN H1 H2 → LamX.Tabs T H2 → Q (.bl (xs.all fun y => (wholeV y).getD false)) H2
theorem all_at {α : Type} (xs : List α) (g : α → Option Bool) : ((List.range xs.length).all fun i => (xs[i]?.bind g).getD false) = xs.all fun y => (g y).getD false := by
  induction xs with
  | nil => rfl
  | cons y r ih =>
    rw [List.length_cons, List.range_succ_eq_map, List.all_cons, List.all_map, List.all_cons, ← ih]
    rfl
theorem pe_allW {X : Cx} (K : PySem.W.Frag) (hK : X.K = K) {c P : Addr} {iter : Expr} {x nm y : Str} {px p pos gpos p1 p2 p3 : Pos} {scope : Scope} {te : TE} {k : Nat} {f : Addr} {fd : FuncData} {st : Stmt}
    (hr : Room k X.A) (hk : 1 ≤ k) (hg : Gl X "all") (hm : X.mg "all" = none) (hb : bootBuiltins "all" = some (.builtin "all")) {T : List (Addr × Str)} (TB : LamX.TabB X.base X.mg c P) (hcode : X.env.code = .ref c) (hT1 : (P, X.env.qual ++ "<genexpr>") ∈ T) (hT2 : ∀ q ∈ T, q.1 = P → q.2 = X.env.qual ++ "<genexpr>") (S : GenS X.env scope x) (hi : PE X iter te) (W : WholeElt X scope x nm f fd st y)
    (hs : ∀ v, genFold iter X.env v = pure v) :
    PE X (.Call (.Name "all" p) [.GeneratorExp (.Call (.Name nm p1) [.Name x p2] [] p3) [⟨.Name x px, iter, [], 0⟩] scope gpos] [] pos) (tAllW K T te) := by
  subst hK
  refine ⟨fun pins s σ H Q I h => ?_⟩
  refine wpAny_Call_Name_kw (ld_blt I hg hm hb (PyProof.Rows.callWith_builtin1 ?_ rfl rfl))
  show wpAny _ _ (spliced ((false, eval (.GeneratorExp (.Call (.Name nm p1) [.Name x p2] [] p3) [⟨.Name x px, iter, [], 0⟩] scope gpos) X.env) :: backTo pos (starEach [] X.env))) _ _ s
  refine Calls.spliced_cons (gen_items hr TB hT1 hT2 hcode S hi hs I h fun v H1 now => ?_)
  obtain ⟨a, xs, rfl, hq, tab, scal, fin⟩ := now
  refine ⟨a, xs, _, rfl, hq, tab, whole_elt W I.mod hr hk scal, fun g z poised => Calls.spliced_nil ?_⟩
  obtain ⟨fp, wr, G, F, St, walks, st0, truth, after⟩ := poised
  refine call_all_walkS (walks.self 0 _ _ _ st0 ⟨g, fp, wr, G, _, F, St, _, rfl, walks, st0, truth, fun z' mv => ?_⟩)
  obtain ⟨H2, ext, tb, J⟩ := after z' mv
  refine ⟨.bl _, H2, J, rfl, ?_⟩
  rw [all_at xs wholeV]
  exact fin H2 ext tb
/-- a statement that is never come to -/
theorem ps_dead {X : Cx} {st : Stmt} : PS X st (fun _ _ _ => False) := ⟨fun _ _ _ _ _ _ h => h.elim⟩
end
/-- the tables of beat_papers' and is_shifts' code objects -/
abbrev TL (PT : Addr × Addr) : List (Addr × Str) := [(PT.1, (("beat_papers" : Str) ++ ".<locals>.") ++ "<lambda>"), (PT.2, (("is_shifts" : Str) ++ ".<locals>.") ++ "<genexpr>")]
theorem tl_one1 {PT : Addr × Addr} (ne : PT.1 ≠ PT.2) {q : Addr × Str} (hq : q ∈ TL PT) (e : q.1 = PT.1) : q.2 = (("beat_papers" : Str) ++ ".<locals>.") ++ "<lambda>" := by
  rcases List.mem_cons.mp hq with rfl | hq
  · rfl
  · rw [List.mem_singleton.mp hq] at e
    exact absurd e.symm ne
theorem tl_one2 {PT : Addr × Addr} (ne : PT.1 ≠ PT.2) {q : Addr × Str} (hq : q ∈ TL PT) (e : q.1 = PT.2) : q.2 = (("is_shifts" : Str) ++ ".<locals>.") ++ "<genexpr>" := by
  rcases List.mem_cons.mp hq with rfl | hq
  · exact absurd e ne
  · rw [List.mem_singleton.mp hq]
class TabL (K : PySem.W.Frag) (mg : Str → Option Value) (base : Heap) (cT : outParam Addr) (PT : outParam (Addr × Addr)) : Prop where
  tb : LamX.TabB base mg cT PT.1
  cd : ∀ (f : Addr) (fd : FuncData), Fun K "beat_papers" "beat_papers" s_beat_papers f fd → mg "beat_papers" = some (.ref f) → fd.code = .ref cT
  ne : PT.1 ≠ PT.2
class TabI (K : PySem.W.Frag) (mg : Str → Option Value) (base : Heap) (cG : outParam Addr) (PT : outParam (Addr × Addr)) : Prop where
  tb : LamX.TabB base mg cG PT.2
  cd : ∀ (f : Addr) (fd : FuncData), Fun K "is_shifts" "is_shifts" s_is_shifts f fd → mg "is_shifts" = some (.ref f) → fd.code = .ref cG
  ne : PT.1 ≠ PT.2
/-! ### max of a tuple of numbers -/
def rMaxT (K : PySem.W.Frag) : List V → Hp → VK → Prop := fun xs H Q => ∃ (a : Addr) (ns : List Int), xs = [.ref a] ∧ SqT K H a (ns.map V.int) ∧ ns ≠ [] ∧ ∀ m, m ∈ ns → (∀ y ∈ ns, y ≤ m) → Q (.int m) H
theorem cr_maxT {X : Cx} (K : PySem.W.Frag) (hk : X.K = K) (hc : X.calm = true) : CallR X (.builtin "max") (rMaxT K) := by
  subst hk
  intro pins s σ H xs us Q I r h
  obtain ⟨a, ns, rfl, hs, ne, q⟩ := h
  obtain ⟨its, rv, hl, _⟩ := I.tuple hs
  rw [Vals.ref1 r]
  have ln : its.length = ns.length := by rw [← rv.length, List.length_map]
  have pos : 0 < ns.length := List.length_pos_iff.mpr ne
  have size : its.toArray.size = ns.length := by rw [List.size_toArray, ln]
  refine PySem.call_max_walkH (PySem.W.iter_tupleW (A := X.A.in1) (I.ok.hd hc) hl fun z e W st low out up => ?_)
  refine ⟨_, _, _, _, _, _, _, s.heap, (fun i j => decide (ns.getD i 0 > ns.getD j 0)), rfl, W, st, low, by rw [size]; exact pos, out, up, fun i j vi vj s3 Q3 E3 _ p1 p2 q3 => ?_, fun v s' hP m => ?_⟩
  · exact (CmpOf.ints_gt (fun i => ns.getD i 0) (ints_val rv)) i j vi vj s3 Q3 E3 p1 p2 q3
  · obtain ⟨h', tk, rfl, old⟩ := PySem.W.moved_old e rfl m
    obtain ⟨t, rfl⟩ := ints_val rv _ v hP
    obtain ⟨h1, h2⟩ := argBest_gt (fun i => ns.getD i 0) (its.toArray.size - 1)
    have get : ∀ j, j < ns.length → ns.getD j 0 ∈ ns := fun j jl => by
      rw [List.getD_eq_getElem?_getD, List.getElem?_eq_getElem jl]
      exact List.getElem_mem _
    refine ⟨.int _, H, I.kept old, ⟨_, rfl⟩, q _ (get _ (by omega)) fun y hy => ?_⟩
    obtain ⟨j, hj⟩ := List.getElem?_of_mem hy
    have jl := (List.getElem?_eq_some_iff.mp hj).1
    have := h2 j (by omega)
    rwa [show ns.getD j 0 = y by rw [List.getD_eq_getElem?_getD, hj]; rfl] at this
/-! ### min of a tuple of numbers -/
def rMinT (K : PySem.W.Frag) : List V → Hp → VK → Prop := fun xs H Q => ∃ (a : Addr) (ns : List Int), xs = [.ref a] ∧ SqT K H a (ns.map V.int) ∧ ns ≠ [] ∧ ∀ m, m ∈ ns → (∀ y ∈ ns, m ≤ y) → Q (.int m) H
theorem cr_minT {X : Cx} (K : PySem.W.Frag) (hk : X.K = K) (hc : X.calm = true) : CallR X (.builtin "min") (rMinT K) := by
  subst hk
  intro pins s σ H xs us Q I r h
  obtain ⟨a, ns, rfl, hs, ne, q⟩ := h
  obtain ⟨its, rv, hl, _⟩ := I.tuple hs
  rw [Vals.ref1 r]
  have ln : its.length = ns.length := by rw [← rv.length, List.length_map]
  have pos : 0 < ns.length := List.length_pos_iff.mpr ne
  have size : its.toArray.size = ns.length := by rw [List.size_toArray, ln]
  refine PySem.call_min_walkH (PySem.W.iter_tupleW (A := X.A.in1) (I.ok.hd hc) hl fun z e W st low out up => ?_)
  refine ⟨_, _, _, _, _, _, _, s.heap, (fun i j => decide (ns.getD i 0 < ns.getD j 0)), rfl, W, st, low, by rw [size]; exact pos, out, up, fun i j vi vj s3 Q3 E3 _ p1 p2 q3 => ?_, fun v s' hP m => ?_⟩
  · exact (CmpOf.ints_lt (fun i => ns.getD i 0) (ints_val rv)) i j vi vj s3 Q3 E3 p1 p2 q3
  · obtain ⟨h', tk, rfl, old⟩ := PySem.W.moved_old e rfl m
    obtain ⟨t, rfl⟩ := ints_val rv _ v hP
    obtain ⟨h1, h2⟩ := argBest_lt (fun i => ns.getD i 0) (its.toArray.size - 1)
    have get : ∀ j, j < ns.length → ns.getD j 0 ∈ ns := fun j jl => by
      rw [List.getD_eq_getElem?_getD, List.getElem?_eq_getElem jl]
      exact List.getElem_mem _
    refine ⟨.int _, H, I.kept old, ⟨_, rfl⟩, q _ (get _ (by omega)) fun y hy => ?_⟩
    obtain ⟨j, hj⟩ := List.getElem?_of_mem hy
    have jl := (List.getElem?_eq_some_iff.mp hj).1
    have := h2 j (by omega)
    rwa [show ns.getD j 0 = y by rw [List.getD_eq_getElem?_getD, hj]; rfl] at this
abbrev levL (n : Nat) (lv : Nat → Int) : List V := (List.range n).map fun p => V.int (lv p)
theorem rg_at {n p : Nat} {f : Nat → V} (h : p < n) : ((List.range n).map f)[p]? = some (f p) := by
  rw [List.getElem?_map, List.getElem?_range h]; rfl
/-- a belt's trays, shifts gone -/
def trS (sh : Nat → Int) (b : BR) : Int := (b.th.length : Int) + sh b.to - sh b.one
/-- shifts that are let by -/
structure Good33 (hs : List HR) (bs : List BR) (late : Int) (sh : Nat → Int) : Prop where
  ins : ∀ k ∈ doorsOf "in" hs, sh k = 0
  outs : ∀ k ∈ doorsOf "out" hs, sh k = late
  tr : ∀ b ∈ bs, 0 ≤ trS sh b
section
variable {P : Program} {w : World} {K : PySem.W.Frag} {mg : Str → Option Value} {base : Heap}
def sp_is_whole (K : PySem.W.Frag) : Sp := fun vs H Q _ => ∃ n : Int, vs = [.int n] ∧ Q (.bl true) H
theorem ok_is_whole {f : Addr} {fd : FuncData} (F : Fun K "is_whole" "is_whole" s_is_whole f fd) {C : Addr} (T : Top K mg C) : FnOk P w K mg base CX0 1 f fd ["thing"] (sp_is_whole K) := by
  refine F.ok sc_is_whole (fun vs H Q E h => ?_) (fun cdv A outer s H vs Q E hr h => ?_)
  · obtain ⟨n, rfl, _⟩ := h
    rfl
  obtain ⟨n, rfl, q⟩ := h
  refine ⟨_, (pss_one (ps_ret (pe_and (pe_callB (call_isiKK K rfl) (by rfl) T.m_isinstance (by decide +kernel) (pa_cons (pv 0) (pa_cons (pe_bltn (v := .ty "int") (by rfl) T.m_int (by decide +kernel) rfl) pa_nil))) (pe_one (pe_not (pe_callB (call_isiKK K rfl) (by rfl) T.m_isinstance (by decide +kernel) (pa_cons (pv 0) (pa_cons (pe_bltn (v := .ty "bool") (by rfl) T.m_bool (by decide +kernel) rfl) pa_nil)))))))), ?_⟩
  refine ⟨_, rfl, _, _, _, _, true, rfl, .ty "int", .base (.int _), kit_ty (by decide +kernel), _, rfl, if_bl (fun _ => ?_) (fun z => nomatch z)⟩
  exact ⟨_, rfl, _, _, _, _, false, rfl, .ty "bool", .base (.int _), kit_ty (by decide +kernel), _, rfl, q⟩
theorem genS_of {env : Env} {scope : Scope} {x : Str} (h1 : scope.kind = .function) (h2 : scope.isCoroutine = false) (h3 : ∀ y ∈ scope.names, y.2 ≠ .cell) (h4 : scope.names.lookup (".0" : Str) = some NameKind.local) (h5 : scope.names.lookup x = some .local) (h6 : ∀ y ∈ scope.names, y.2 ≠ .free) : GxR.GenS env scope x :=
  ⟨h1, h2, h3, h4, h5, fun y hy z => absurd z (h6 y hy)⟩
theorem iw_def : IsWholeDef (defBody s_is_whole) (defScope s_is_whole) "thing" := ⟨⟨_, _, _, _, _, _, _, _, _, _, _, rfl⟩, rfl, rfl, rfl, rfl, rfl, rfl, rfl, by decide⟩
section
variable {cG : Addr} {PT : Addr × Addr} [TI : TabI K mg base cG PT]
include TI
def sp_is_shifts (K : PySem.W.Frag) (PT : Addr × Addr) : Sp := fun vs H Q _ => ∃ (r sl : Addr) (hs : List HR) (bs : List BR) (sh : Nat → Int), vs = [.ref r, .ref sl] ∧ RoomAt H r hs bs ∧ RoomOk hs bs ∧ H sl = some (.tup (levL hs.length sh)) ∧ LamX.Tabs (TL PT) H ∧ ∀ H', LamX.ExtN H H' → LamX.Tabs (TL PT) H' → Q (.bl true) H'
theorem ok_is_shifts {f : Addr} {fd : FuncData} (F : Fun K "is_shifts" "is_shifts" s_is_shifts f fd) {C : Addr} (hcd : fd.code = .ref cG) (T : Top K mg C) : FnOk P w K mg base CX0 2 f fd ["room", "thing"] (sp_is_shifts K PT) := by
  obtain ⟨f_is_whole, fd_is_whole, F_is_whole, b_is_whole, m_is_whole⟩ := T.d_is_whole
  have G_is_whole := ok_is_whole (P := P) (w := w) (base := base) F_is_whole T
  refine ok_code F hcd sc_is_shifts (fun vs H Q E h => ?_) (fun A outer s H vs Q E hr h => ?_)
  · obtain ⟨r, sl, hs, bs, sh, rfl, _⟩ := h
    rfl
  obtain ⟨r, sl, hs, bs, sh, rfl, hR, ok, hsl, tg, q⟩ := h
  obtain ⟨ha, ba, hv, bv, er, eh, eb, alh, alb⟩ := hR.ex
  have lhv := alh.length
  have lh := ok.hands
  have lsl : (levL hs.length sh).length = hs.length := by rw [List.length_map, List.length_range]
  refine ⟨_, (pss_cons (ps_if (PW.pt (pw_or (pt_not (pt_val (pe_callB (call_isiKK K rfl) (by rfl) T.m_isinstance (by decide +kernel) (pa_cons (pv 1) (pa_cons (pe_bltn (v := .ty "tuple") (by rfl) T.m_tuple (by decide +kernel) rfl) pa_nil))))) (pw_or1 (pt_cmpR op_ne (pe_callB (call_len_seqK K rfl) (by rfl) T.m_len (by decide +kernel) (pa_cons (pv 1) pa_nil)) (pe_callB (call_len_seqK K rfl) (by rfl) T.m_len (by decide +kernel) (pa_cons (pe_ix (ix_tupK K rfl) (pv 0) pe_int (fun _ _ => rfl)) pa_nil)) (nomark _))))) (pss_one (ps_ret pe_bl)) pss_nil)
      (pss_one (ps_ret (pe_allW K rfl hr (by decide) (by rfl) T.m_all (by decide +kernel) TI.tb rfl (List.mem_cons_of_mem _ (List.mem_cons_self ..)) (fun q hq e => tl_one2 TI.ne hq e) (genS_of rfl rfl (by decide +kernel) rfl rfl (by decide +kernel)) (pv 1) ⟨F_is_whole, iw_def, b_is_whole, m_is_whole, T.m_isinstance, T.m_int, T.m_bool, rfl, rfl, rfl, by decide, by decide⟩ (fun _ => rfl))))), ?_⟩
  refine ⟨_, rfl, _, _, _, _, true, rfl, .ty "tuple", .base (.tup hsl), kit_ty (by decide +kernel), _, rfl, if_bl (fun z => nomatch z) (fun _ => ?_)⟩
  refine ⟨_, rfl, sl, _, rfl, .inr (SqT.of hsl), _, rfl, r, _, _, _, rfl, rfl, SqT.of er, atI_nat (j := 0) rfl, ha, _, rfl, .inr (SqT.of eh), rfl, _, rfl, ?_⟩
  have elen : V.int (((levL hs.length sh).length : Nat) : Int) = V.int ((hv.length : Nat) : Int) := by rw [lsl, lhv]
  refine if_bl (fun z => ?_) (fun _ => ?_)
  · have z : (!decide (V.int (((levL hs.length sh).length : Nat) : Int) = V.int ((hv.length : Nat) : Int))) = true := z
    rw [decide_eq_true elen] at z
    cases z
  refine ⟨_, rfl, sl, _, rfl, SqT.of hsl, tg, fun y hy => ?_, fun H2 ext tb => ?_⟩
  · obtain ⟨p, _, rfl⟩ := List.mem_map.mp hy
    exact ⟨true, rfl⟩
  · have each : ((levL hs.length sh).all fun y => (wholeV y).getD false) = true := List.all_eq_true.mpr fun y hy => by
      obtain ⟨p, _, rfl⟩ := List.mem_map.mp hy
      rfl
    rw [each]
    exact q H2 ext tb
end
def sp_trays_moved (K : PySem.W.Frag) : Sp := fun vs H Q _ => ∃ (r sl : Addr) (hs : List HR) (bs : List BR) (sh : Nat → Int), vs = [.ref r, .ref sl] ∧ RoomAt H r hs bs ∧ RoomOk hs bs ∧ H sl = some (.tup (levL hs.length sh)) ∧
  ∀ (p : Addr) (H' : Hp), H p = none → H' p = some (.lst (bs.map fun b => V.int (trS sh b))) → Same H H' → Q (.ref p) H'
theorem ok_trays_moved {f : Addr} {fd : FuncData} (F : Fun K "trays_moved" "trays_moved" s_trays_moved f fd) {C : Addr} (T : Top K mg C) : FnOk P w K mg base CX0 1 f fd ["room", "shifts"] (sp_trays_moved K) := by
  refine F.ok sc_trays_moved (fun vs H Q E h => ?_) (fun cdv A outer s H vs Q E hr h => ?_)
  · obtain ⟨r, sl, hs, bs, sh, rfl, _⟩ := h
    rfl
  obtain ⟨r, sl, hs, bs, sh, rfl, hR, ok, hsl, q⟩ := h
  obtain ⟨ha, ba, hv, bv, er, eh, eb, alh, alb⟩ := hR.ex
  have lbv := alb.length
  have lb := ok.many
  refine ⟨_, (pss_one (ps_ret (pe_lc (own := [("giver", 2), ("taker", 3), ("things", 4)]) (g := gTup K 3 (gCons (gName 2) (gCons (gName 3) (gCons (gName 4) gNil)))) (tt := tYes) (by rfl) sc_trays_moved.nd (pi_tupK K rfl (pe_ix (ix_tupK K rfl) (pv 0) pe_int (fun _ _ => rfl))) (blkOk_by (own := [("giver", 2), ("taker", 3), ("things", 4)]) (N := N_trays_moved) (sc := defScope s_trays_moved) (by decide +kernel)) (fun _ _ _ _ _ => (pg_tupK K rfl rfl (pgs_cons (pg_name (i := 2) sc_trays_moved.nd rfl (Or.inl rfl)) (pgs_cons (pg_name (i := 3) sc_trays_moved.nd rfl (Or.inl rfl)) (pgs_cons (pg_name (i := 4) sc_trays_moved.nd rfl (Or.inl rfl)) pgs_nil))))) (fun _ _ _ _ _ => pts_nil) (fun _ _ _ _ _ => (pe_op op_sub (pe_op op_add (pe_callB (call_len_seqK K rfl) (by rfl) T.m_len (by decide +kernel) (pa_cons (pv 4) pa_nil)) (pe_ix (ix_tupK K rfl) (pv 1) (pv 3) (fun _ _ => rfl))) (pe_ix (ix_tupK K rfl) (pv 1) (pv 2) (fun _ _ => rfl))))))), ?_⟩
  refine ⟨_, rfl, r, _, _, _, rfl, rfl, SqT.of er, atI_nat (j := 1) rfl, ba, rfl, ⟨_, SqT.of eb⟩, fun D nD => lc_tup (K := K) (a := ba) (xs := bv) (fun i H5 => H5 D = some (.lst ((bs.take i).map fun b => V.int (trS sh b))) ∧ Same H H5) ⟨upd_same, same_new nD⟩ (fun i H5 _ ⟨_, s5⟩ => SqT.of (s5 _ _ eb)) ?_ ?_⟩
  · rintro i x H5 hx ⟨hD, s5⟩
    obtain ⟨b, ebi, ⟨t, g, rfl, e1, e2⟩⟩ := alb.getL hx
    have il := (List.getElem?_eq_some_iff.mp ebi).1
    obtain ⟨l1, l2⟩ := ok.ends b (List.mem_of_getElem? ebi)
    refine ⟨t, _, rfl, SqT.of (s5 _ _ e1), rfl, ?_⟩
    refine ⟨_, _, rfl, ?_⟩
    refine ⟨_, _, rfl, ?_⟩
    refine ⟨_, _, rfl, rfl, ?_⟩
    refine ⟨rfl, ?_⟩
    refine yes_in ?_
    refine ⟨_, rfl, g, _, rfl, .inr (SqT.of (s5 _ _ e2)), _, rfl, _, rfl, sl, _, _, _, rfl, rfl, SqT.of (s5 _ _ hsl), atI_nat (rg_at l2), _, _, rfl, rfl, _, rfl, _, rfl, sl, _, _, _, rfl, rfl, SqT.of (s5 _ _ hsl), atI_nat (rg_at l1), _, _, rfl, rfl, _, hD, by rw [List.length_map, List.length_take]; exact small1000 (by omega), ?_, Same.own s5 nD⟩
    rw [upd_same, List.take_add_one, ebi, List.map_append, List.length_map]
    rfl
  · rintro H5 ⟨hD, s5⟩
    rw [lbv, List.take_length] at hD
    exact q D H5 nD hD s5
def sp_waits (K : PySem.W.Frag) : Sp := fun vs H Q _ => ∃ (sl : Addr) (ns : List Int), vs = [.ref sl] ∧ H sl = some (.tup (ns.map V.int)) ∧ ns.length ≤ 100 ∧ ∀ (m : Int) (H' : Hp), m ∈ 0 :: ns → (∀ y ∈ 0 :: ns, y ≤ m) → Same H H' → Q (.int m) H'
theorem ok_waits {f : Addr} {fd : FuncData} (F : Fun K "waits" "waits" s_waits f fd) {C : Addr} (T : Top K mg C) : FnOk P w K mg base CX0 1 f fd ["shifts"] (sp_waits K) := by
  refine F.ok sc_waits (fun vs H Q E h => ?_) (fun cdv A outer s H vs Q E hr h => ?_)
  · obtain ⟨sl, ns, rfl, _⟩ := h
    rfl
  obtain ⟨sl, ns, rfl, hsl, ln, q⟩ := h
  refine ⟨_, (pss_one (ps_ret (pe_callB (cr_maxT K rfl rfl) (by rfl) T.m_max (by decide +kernel) (pa_cons (pe_op (op_catAK K rfl) (pe_tup (pa_cons pe_int pa_nil)) (pv 0)) pa_nil)))), ?_⟩
  refine ⟨(by show 1 ≤ sizeLine; decide), fun z0 nz => ?_⟩
  have s1 := same_new (o := .tup [V.int 0]) nz
  refine ⟨_, rfl, z0, sl, _, _, rfl, rfl, SqT.of upd_same, SqT.of (s1 _ _ hsl), by rw [List.length_map]; exact little (by show 1 + _ ≤ 1000; omega), fun z => (nomatch z), fun _ em => ?_, fun _ _ p np => ?_⟩
  · have em : ns = [] := List.map_eq_nil_iff.mp em
    subst em
    exact ⟨z0, [0], rfl, SqT.of upd_same, by simp, fun m hm hle => q m _ hm hle s1⟩
  · exact ⟨p, 0 :: ns, rfl, SqT.of upd_same, by simp, fun m hm hle => q m _ hm hle (s1.trans (same_new np))⟩
def sp_refuse_shifts (K : PySem.W.Frag) : Sp := fun vs H Q _ => ∃ x : V, vs = [x, .non] ∧ Q .non H
theorem ok_refuse_shifts {f : Addr} {fd : FuncData} (F : Fun K "refuse_shifts" "refuse_shifts" s_refuse_shifts f fd) {C : Addr} (T : Top K mg C) : FnOk P w K mg base CX0 1 f fd ["word", "at"] (sp_refuse_shifts K) := by
  refine F.ok sc_refuse_shifts (fun vs H Q E h => ?_) (fun cdv A outer s H vs Q E hr h => ?_)
  · obtain ⟨x, rfl, _⟩ := h
    rfl
  obtain ⟨x, rfl, q⟩ := h
  refine ⟨_, (pss_one (ps_if (pt_cmpR op_notN (pv 1) pe_non (nomark _)) (pss_one ps_dead) pss_nil)), ?_⟩
  exact ⟨_, rfl, rfl, _, rfl, if_bl (fun z => absurd (show (!decide (V.non = V.non)) = true from z) (by decide)) (fun _ => q)⟩
theorem nats_at {ns : List Nat} {i : Nat} {x : V} (h : (ns.map nV)[i]? = some x) : ∃ n : Nat, ns[i]? = some n ∧ x = nV n := by
  rw [List.getElem?_map] at h
  cases e : ns[i]? with
  | none => rw [e] at h; cases h
  | some n => rw [e] at h; exact ⟨n, rfl, (Option.some.inj h).symm⟩
theorem door_lt {z : Str} {hs : List HR} {k : Nat} (h : k ∈ doorsOf z hs) : k < hs.length := by
  obtain ⟨_, e, _⟩ := mem_doors.mp h
  exact (List.getElem?_eq_some_iff.mp e).1
def sp_wrong_door (K : PySem.W.Frag) : Sp := fun vs H Q _ => ∃ (r sl : Addr) (hs : List HR) (bs : List BR) (late : Int) (sh : Nat → Int), vs = [.ref r, .int late, .ref sl] ∧ RoomAt H r hs bs ∧ RoomOk hs bs ∧ H sl = some (.tup (levL hs.length sh)) ∧ Good33 hs bs late sh ∧ ∀ H', Same H H' → Q .non H'
theorem ok_wrong_door {f : Addr} {fd : FuncData} (F : Fun K "wrong_door" "wrong_door" s_wrong_door f fd) {C : Addr} (T : Top K mg C) : FnOk P w K mg base CX0 2 f fd ["room", "late", "shifts"] (sp_wrong_door K) := by
  obtain ⟨f_doors_in, fd_doors_in, F_doors_in, b_doors_in, m_doors_in⟩ := T.d_doors_in
  have G_doors_in := ok_doors_in (P := P) (w := w) (base := base) F_doors_in T
  obtain ⟨f_doors_out, fd_doors_out, F_doors_out, b_doors_out, m_doors_out⟩ := T.d_doors_out
  have G_doors_out := ok_doors_out (P := P) (w := w) (base := base) F_doors_out T
  refine F.ok sc_wrong_door (fun vs H Q E h => ?_) (fun cdv A outer s H vs Q E hr h => ?_)
  · obtain ⟨r, sl, hs, bs, late, sh, rfl, _⟩ := h
    rfl
  obtain ⟨r, sl, hs, bs, late, sh, rfl, hR, ok, hsl, gd, q⟩ := h
  have lh := ok.hands
  let R1 : TS := fun D' σ' H' => D'.rt = Q ∧ ∃ (wl : Addr), σ' = [some (.ref r), some (.int late), some (.ref sl), some (.ref wl), none] ∧ H' wl = some (.lst []) ∧ H wl = none ∧ Same H H'
  let R2 : TS := fun D' σ' H' => D'.rt = Q ∧ ∃ (wl : Addr), σ' = [some (.ref r), some (.int late), some (.ref sl), some (.ref wl), none] ∧ H' wl = some (.lst []) ∧ Same H H'
  refine ⟨_, (pss_cons (ps_setLc (i := 3) (own := [("door", 4)]) (g := gName 4) (by rfl) sc_wrong_door.nd rfl rfl (sw_true rfl rfl rfl (by decide +kernel)) (pi_listK K rfl (pe_call G_doors_in (hr.mono (by decide)) (by rfl) m_doors_in F_doors_in.kp b_doors_in .nil pass0 (pa_cons (pv 0) pa_nil))) (blkOk_by (own := [("door", 4)]) (N := N_wrong_door) (sc := defScope s_wrong_door) (by decide +kernel)) (fun _ _ _ _ _ => (pg_name (i := 4) sc_wrong_door.nd rfl (Or.inl rfl))) (fun _ _ _ _ _ => pts_one (pt_cmpR op_ne (pe_ix (ix_tupK K rfl) (pv 2) (pv 4) (fun _ _ => rfl)) pe_int (nomark _))) (fun _ _ _ _ _ => (pv 4)))
      (PSs.to (pss_cons (ps_expr (pe_bmK K rfl PySem.F.plainAttrs_list PySem.F.slot_list_extend PySem.F.type_list_extend mt_extend (pv 3) (pa_cons (pe_lc (own := [("door", 4)]) (g := gName 4) (by rfl) sc_wrong_door.nd (pi_listK K rfl (pe_call G_doors_out (hr.mono (by decide)) (by rfl) m_doors_out F_doors_out.kp b_doors_out .nil pass0 (pa_cons (pv 0) pa_nil))) (blkOk_by (own := [("door", 4)]) (N := N_wrong_door) (sc := defScope s_wrong_door) (by decide +kernel)) (fun _ _ _ _ _ => (pg_name (i := 4) sc_wrong_door.nd rfl (Or.inl rfl))) (fun _ _ _ _ _ => pts_one (pt_cmpR op_ne (pe_ix (ix_tupK K rfl) (pv 2) (pv 4) (fun _ _ => rfl)) (pv 1) (nomark _))) (fun _ _ _ _ _ => (pv 4))) pa_nil)))
      (PSs.to (pss_one (ps_ret (pe_callBK (cr_minDf K rfl rfl) (by rfl) T.m_min (by decide +kernel) (pa_cons (pv 3) pa_nil) (pk_cons pe_non pk_nil)))) R2 ?tail2)) R1 ?tail1)), ?_⟩
  case tail2 =>
    rintro D' σ' H1 ⟨eD, wl, rfl, hw, s1⟩
    refine ⟨_, rfl, wl, [], _, rfl, rfl, SqL.of hw, fun _ => ?_, fun m hm => nomatch hm⟩
    rw [eD]
    exact q H1 s1
  case tail1 =>
    rintro D' σ' H1 ⟨eD, wl, rfl, hw, nw, s1⟩
    refine ⟨_, rfl, .inl ⟨rfl, _, SqL.of hw⟩, ?_⟩
    refine ⟨_, rfl, r, hs, bs, rfl, hR.keep (TK.same s1), by omega, ok.good, fun p H2 np hp s2 => ⟨p, rfl, ⟨_, SqL.of hp⟩, fun D nD => lc_list (K := K) (a := p) (xs := (doorsOf "out" hs).map nV) (fun i H5 => H5 D = some (.lst []) ∧ Same H2 H5) ⟨upd_same, same_new nD⟩ (fun i H5 _ ⟨_, s5⟩ => SqL.of (s5 _ _ hp)) ?_ ?_⟩⟩
    · rintro i x H5 hx ⟨hD, s5⟩
      obtain ⟨k, ek, rfl⟩ := nats_at hx
      have km := List.mem_of_getElem? ek
      refine ⟨rfl, _, rfl, _, rfl, sl, _, _, _, rfl, rfl, SqT.of (((s1.trans s2).trans s5) _ _ hsl), atI_nat (rg_at (door_lt km)), _, rfl, rfl, _, rfl, if_bl (fun z => ?_) (fun _ => ⟨hD, s5⟩)⟩
      have z : (!decide (V.int (sh k) = V.int late)) = true := z
      rw [gd.outs k km, decide_eq_true rfl] at z
      cases z
    · rintro H5 ⟨hD, s5⟩
      have hw5 := (s2.trans s5) _ _ hw
      refine ⟨wl, D, _, _, rfl, rfl, hw5, hD, Nat.zero_le _, ?_⟩
      exact ⟨eD, wl, rfl, upd_same, Same.own ((s1.trans s2).trans s5) nw⟩
  refine ⟨_, rfl, r, hs, bs, rfl, hR, by omega, ok.good, fun p H1 np hp s1 => ⟨p, rfl, ⟨_, SqL.of hp⟩, fun D nD => lc_list (K := K) (a := p) (xs := (doorsOf "in" hs).map nV) (fun i H5 => H5 D = some (.lst []) ∧ Same H1 H5) ⟨upd_same, same_new nD⟩ (fun i H5 _ ⟨_, s5⟩ => SqL.of (s5 _ _ hp)) ?_ ?_⟩⟩
  · rintro i x H5 hx ⟨hD, s5⟩
    obtain ⟨k, ek, rfl⟩ := nats_at hx
    have km := List.mem_of_getElem? ek
    refine ⟨rfl, _, rfl, _, rfl, sl, _, _, _, rfl, rfl, SqT.of ((s1.trans s5) _ _ hsl), atI_nat (rg_at (door_lt km)), rfl, _, rfl, if_bl (fun z => ?_) (fun _ => ⟨hD, s5⟩)⟩
    have z : (!decide (V.int (sh k) = V.int 0)) = true := z
    rw [gd.ins k km] at z
    exact absurd z (by decide)
  · rintro H5 ⟨hD, s5⟩
    refine ⟨rfl, D, rfl, hD, ?_, s1.trans s5⟩
    cases e : H D with
    | none => rfl
    | some u => rw [s1 _ _ e] at nD; cases nD
def sp_short_belt (K : PySem.W.Frag) : Sp := fun vs H Q _ => ∃ (r sl : Addr) (hs : List HR) (bs : List BR) (late : Int) (sh : Nat → Int), vs = [.ref r, .ref sl] ∧ RoomAt H r hs bs ∧ RoomOk hs bs ∧ H sl = some (.tup (levL hs.length sh)) ∧ Good33 hs bs late sh ∧ ∀ H', Same H H' → Q .non H'
theorem ok_short_belt {f : Addr} {fd : FuncData} (F : Fun K "short_belt" "short_belt" s_short_belt f fd) {C : Addr} (T : Top K mg C) : FnOk P w K mg base CX0 2 f fd ["room", "shifts"] (sp_short_belt K) := by
  obtain ⟨f_trays_moved, fd_trays_moved, F_trays_moved, b_trays_moved, m_trays_moved⟩ := T.d_trays_moved
  have G_trays_moved := ok_trays_moved (P := P) (w := w) (base := base) F_trays_moved T
  refine F.ok sc_short_belt (fun vs H Q E h => ?_) (fun cdv A outer s H vs Q E hr h => ?_)
  · obtain ⟨r, sl, hs, bs, late, sh, rfl, _⟩ := h
    rfl
  obtain ⟨r, sl, hs, bs, late, sh, rfl, hR, ok, hsl, gd, q⟩ := h
  refine ⟨_, (pss_cons (ps_for PassesOwn.never rfl (pi_enum (by rfl) T.m_enumerate (pa_cons (pe_call G_trays_moved (hr.mono (by decide)) (by rfl) m_trays_moved F_trays_moved.kp b_trays_moved .nil pass0 (pa_cons (pv 0) (pa_cons (pv 1) pa_nil))) pa_nil)) (pg_tupK K rfl rfl (pgs_cons (pg_name (i := 2) sc_short_belt.nd rfl (Or.inl rfl)) (pgs_cons (pg_name (i := 3) sc_short_belt.nd rfl (Or.inl rfl)) pgs_nil)))
        (pss_one (ps_if (pt_cmpR op_lt (pv 3) pe_int (nomark _)) (pss_one (ps_ret (pv 2))) pss_nil)))
      (pss_one (ps_ret pe_non))), ?_⟩
  refine ⟨_, rfl, _, rfl, r, sl, hs, bs, sh, rfl, hR, ok, hsl, fun p H1 np hp s1 => ?_⟩
  refine ⟨p, _, rfl, SqL.of hp, for_it (J := Ite K p) (n := bs.length) (fun i σ H5 => ∃ v2 v3 : Option V, σ = [some (.ref r), some (.ref sl), v2, v3] ∧ Same H1 H5) ⟨none, none, rfl, fun _ _ e => e⟩ (fun i σ H5 hi ⟨_, _, _, s5⟩ => ⟨_, _, SqL.of (s5 _ _ hp), by rw [List.getElem?_map, List.getElem?_eq_getElem hi]; rfl⟩) (fun σ H5 ⟨_, _, _, s5⟩ => ⟨_, SqL.of (s5 _ _ hp), by rw [List.length_map]; exact Nat.le_refl _⟩) ?_ ?_⟩
  · rintro i x σ H5 H6 hi ⟨v2, v3, rfl, s5⟩ ⟨t, y, rfl, nt, rfl, ey⟩
    have ey := ey _ (SqL.of (s5 _ _ hp))
    rw [List.getElem?_map, List.getElem?_eq_getElem hi] at ey
    obtain rfl : V.int (trS sh bs[i]) = y := Option.some.inj ey
    have g0 := gd.tr _ (List.getElem_mem hi)
    refine ⟨t, _, rfl, SqT.of upd_same, rfl, _, _, rfl, _, _, rfl, rfl, _, rfl, _, _, rfl, rfl, _, rfl, if_bl (fun z => ?_) (fun _ => ⟨_, _, rfl, s5.trans (same_new nt)⟩)⟩
    have z : decide (trS sh bs[i] < 0) = true := z
    have := of_decide_eq_true z
    omega
  · rintro σ H5 ⟨v2, v3, rfl, s5⟩
    exact q H5 (s1.trans s5)
end
section
variable {P : Program} {w : World} {K : PySem.W.Frag} {mg : Str → Option Value} {base : Heap} {cG : Addr} {PT : Addr × Addr} [TI : TabI K mg base cG PT]
include TI
def sp_look_shifts (K : PySem.W.Frag) (PT : Addr × Addr) : Sp := fun vs H Q _ => ∃ (r sl : Addr) (hs : List HR) (bs : List BR) (late : Int) (sh : Nat → Int), vs = [.ref r, .int late, .ref sl] ∧ RoomAt H r hs bs ∧ RoomOk hs bs ∧ H sl = some (.tup (levL hs.length sh)) ∧ Good33 hs bs late sh ∧ LamX.Tabs (TL PT) H ∧ ∀ H', LamX.Tabs (TL PT) H' → LamX.ExtN H H' → Q (.bl true) H'
theorem ok_look_shifts {f : Addr} {fd : FuncData} (F : Fun K "look_shifts" "look_shifts" s_look_shifts f fd) {C : Addr} (T : Top K mg C) : FnOk P w K mg base CX0 3 f fd ["room", "late", "shifts"] (sp_look_shifts K PT) := by
  obtain ⟨f_refuse_shifts, fd_refuse_shifts, F_refuse_shifts, b_refuse_shifts, m_refuse_shifts⟩ := T.d_refuse_shifts
  have G_refuse_shifts := ok_refuse_shifts (P := P) (w := w) (base := base) F_refuse_shifts T
  obtain ⟨f_is_shifts, fd_is_shifts, F_is_shifts, b_is_shifts, m_is_shifts⟩ := T.d_is_shifts
  have G_is_shifts := ok_is_shifts (P := P) (w := w) (base := base) F_is_shifts (TI.cd _ _ F_is_shifts m_is_shifts) T
  obtain ⟨f_wrong_door, fd_wrong_door, F_wrong_door, b_wrong_door, m_wrong_door⟩ := T.d_wrong_door
  have G_wrong_door := ok_wrong_door (P := P) (w := w) (base := base) F_wrong_door T
  obtain ⟨f_short_belt, fd_short_belt, F_short_belt, b_short_belt, m_short_belt⟩ := T.d_short_belt
  have G_short_belt := ok_short_belt (P := P) (w := w) (base := base) F_short_belt T
  refine F.ok sc_look_shifts (fun vs H Q E h => ?_) (fun cdv A outer s H vs Q E hr h => ?_)
  · obtain ⟨r, sl, hs, bs, late, sh, rfl, _⟩ := h
    rfl
  obtain ⟨r, sl, hs, bs, late, sh, rfl, hR, ok, hsl, gd, tg, q⟩ := h
  refine ⟨_, (pss_cons (ps_if (pt_not (pt_val (pe_call G_is_shifts (hr.mono (by decide)) (by rfl) m_is_shifts F_is_shifts.kp b_is_shifts .nil pass0 (pa_cons (pv 0) (pa_cons (pv 2) pa_nil))))) (pss_one ps_dead) pss_nil)
      (pss_cons (ps_expr (pe_call G_refuse_shifts (hr.mono (by decide)) (by rfl) m_refuse_shifts F_refuse_shifts.kp b_refuse_shifts .nil pass0 (pa_cons pe_str (pa_cons (pe_call G_wrong_door (hr.mono (by decide)) (by rfl) m_wrong_door F_wrong_door.kp b_wrong_door .nil pass0 (pa_cons (pv 0) (pa_cons (pv 1) (pa_cons (pv 2) pa_nil)))) pa_nil))))
      (pss_cons (ps_expr (pe_call G_refuse_shifts (hr.mono (by decide)) (by rfl) m_refuse_shifts F_refuse_shifts.kp b_refuse_shifts .nil pass0 (pa_cons pe_str (pa_cons (pe_call G_short_belt (hr.mono (by decide)) (by rfl) m_short_belt F_short_belt.kp b_short_belt .nil pass0 (pa_cons (pv 0) (pa_cons (pv 2) pa_nil))) pa_nil))))
      (pss_one (ps_ret pe_bl))))), ?_⟩
  refine ⟨_, rfl, _, rfl, r, sl, hs, bs, sh, rfl, hR, ok, hsl, tg, fun H1 b1 tg1 => ?_⟩
  have k1 := ExtN.tk b1
  have hsl1 := k1 _ _ hsl
  have hR1 := hR.keep k1
  refine ⟨_, rfl, if_bl (fun z => nomatch z) (fun _ => ?_)⟩
  refine ⟨_, rfl, _, rfl, _, rfl, r, sl, hs, bs, late, sh, rfl, hR1, ok, hsl1, gd, fun H2 s2 => ⟨_, rfl, ?_⟩⟩
  refine ⟨_, rfl, _, rfl, r, sl, hs, bs, late, sh, rfl, hR1.keep (TK.same s2), ok, s2 _ _ hsl1, gd, fun H3 s3 => ⟨_, rfl, ?_⟩⟩
  exact q H3 (tabs_same tg1 (s2.trans s3)) (b1.trans (ExtN.same (s2.trans s3)))
end
def Bd (n : Int) (sh : Nat → Int) : Prop := ∀ k, -n ≤ sh k ∧ sh k ≤ n
/-! ### rooms moved -/
/-- what is taken from a belt at a bell -/
def takenAt (b : BR) (ms : List (List Int)) (t : Nat) : Int := if t < b.th.length then gD b.th t else gD (ms.getD (t - b.th.length) []) b.one
/-- a belt moved -/
def movB (sh : Nat → Int) (w : Int) (ms : List (List Int)) (b : BR) : BR := ⟨b.one, b.to, (List.range (trS sh b).toNat).map fun i => takenAt b ms ((w - sh b.to).toNat + i)⟩
section
variable {P : Program} {w : World} {K : PySem.W.Frag} {mg : Str → Option Value} {base : Heap}
def sp_taken_at (K : PySem.W.Frag) : Sp := fun vs H Q _ => ∃ (v : V) (b : BR) (ml : Addr) (mv : List V) (ms : List (List Int)) (n : Nat), vs = [v, .ref ml, .int ((n : Nat) : Int)] ∧ BeltAt H v b ∧ H ml = some (.lst mv) ∧ All2 (RowAt H) mv ms ∧ (∀ m ∈ ms, b.one < m.length) ∧ n < b.th.length + ms.length ∧ Q (.int (takenAt b ms n)) H
theorem ok_taken_at {f : Addr} {fd : FuncData} (F : Fun K "taken_at" "taken_at" s_taken_at f fd) {C : Addr} (T : Top K mg C) : FnOk P w K mg base CX0 1 f fd ["belt", "made", "bell"] (sp_taken_at K) := by
  refine F.ok sc_taken_at (fun vs H Q E h => ?_) (fun cdv A outer s H vs Q E hr h => ?_)
  · obtain ⟨v, b, ml, mv, ms, n, rfl, _⟩ := h
    rfl
  obtain ⟨v, b, ml, mv, ms, n, rfl, ⟨t, g, rfl, e1, e2⟩, hml, al, om, nl, q⟩ := h
  refine ⟨_, (pss_cons (ps_asg (pv 0) (pg_tupK K rfl rfl (pgs_cons (pg_name (i := 3) sc_taken_at.nd rfl (Or.inl rfl)) (pgs_cons (pg_name (i := 4) sc_taken_at.nd rfl (Or.inl rfl)) (pgs_cons (pg_name (i := 5) sc_taken_at.nd rfl (Or.inl rfl)) pgs_nil)))))
      (pss_one (ps_ret (pe_ifExp (pt_cmpR op_lt (pv 2) (pe_callB (call_len_seqK K rfl) (by rfl) T.m_len (by decide +kernel) (pa_cons (pv 5) pa_nil)) (nomark _)) (pe_ix (ix_tupK K rfl) (pv 5) (pv 2) (fun _ _ => rfl)) (pe_ix (ix_tupK K rfl) (pe_ix (ix_listK K rfl) (pv 1) (pe_op op_sub (pv 2) (pe_callB (call_len_seqK K rfl) (by rfl) T.m_len (by decide +kernel) (pa_cons (pv 5) pa_nil))) (fun _ _ => rfl)) (pv 3) (fun _ _ => rfl)))))), ?_⟩
  refine ⟨_, rfl, t, _, rfl, SqT.of e1, rfl, _, _, rfl, _, _, rfl, _, _, rfl, rfl, ?_⟩
  refine ⟨_, rfl, _, rfl, g, _, rfl, .inr (SqT.of e2), _, _, rfl, rfl, _, rfl, ?_⟩
  unfold takenAt at q
  rw [List.length_map]
  by_cases c : n < b.th.length
  · rw [if_pos c] at q
    rw [decide_eq_true (show ((n : Nat) : Int) < ((b.th.length : Nat) : Int) by omega)]
    exact if_bl (fun _ => ⟨_, rfl, _, rfl, g, _, _, _, rfl, rfl, SqT.of e2, at_row c, q⟩) (fun z => nomatch z)
  · rw [if_neg c] at q
    rw [decide_eq_false (show ¬ ((n : Nat) : Int) < ((b.th.length : Nat) : Int) by omega)]
    have jl : n - b.th.length < ms.length := by omega
    obtain ⟨x, ex, ⟨tr, rfl, hr⟩⟩ := al.get (List.getElem?_eq_getElem jl)
    have em : ms.getD (n - b.th.length) [] = ms[n - b.th.length] := by rw [List.getD_eq_getElem?_getD, List.getElem?_eq_getElem jl]; rfl
    rw [em] at q
    have oml := om _ (List.getElem_mem jl)
    have ix : (fun i j => V.int (i - j)) ((n : Nat) : Int) ((b.th.length : Nat) : Int) = V.int (((n - b.th.length : Nat)) : Int) := by
      show V.int _ = V.int _
      congr 1
      omega
    refine if_bl (fun z => nomatch z) (fun _ => ⟨_, rfl, _, rfl, _, rfl, g, _, rfl, .inr (SqT.of e2), ?_⟩)
    rw [List.length_map]
    refine ⟨_, _, rfl, rfl, ?_⟩
    rw [ix]
    exact ⟨ml, _, _, _, rfl, rfl, SqL.of hml, atI_nat ex, _, rfl, tr, _, _, _, rfl, rfl, SqT.of hr, at_row oml, q⟩
abbrev noughts (hs : List HR) : List Int := (doorsOf "in" hs).map fun _ => 0
def sp_rows_on (K : PySem.W.Frag) : Sp := fun vs H Q _ => ∃ (r sl a : Addr) (hs : List HR) (bs : List BR) (rv : List V) (rows : List (List Int)) (ns : List Int), vs = [.ref r, .ref sl, .ref a] ∧ RoomAt H r hs bs ∧ RoomOk hs bs ∧ H sl = some (.tup (ns.map V.int)) ∧ ns.length ≤ 100 ∧ (∀ x ∈ ns, -100 ≤ x) ∧ (H a = some (.lst rv) ∨ H a = some (.tup rv)) ∧ All2 (RowAt H) rv rows ∧ rows.length ≤ 200 ∧
  ∀ (p : Addr) (ov : List V) (d : Nat) (H' : Hp), H' p = some (.lst ov) → All2 (RowAt H') ov (rows ++ List.replicate d (noughts hs)) → (∀ x ∈ ns, -((d : Nat) : Int) ≤ x) → (d = 0 ∨ -((d : Nat) : Int) ∈ ns) → Same H H' → Q (.ref p) H'
theorem all2_rep {α β : Type} {R : α → β → Prop} {x : α} {y : β} (h : R x y) : ∀ n : Nat, All2 R (List.replicate n x) (List.replicate n y)
  | 0 => .nil
  | n + 1 => .cons h (all2_rep h n)
theorem All2.app {α β : Type} {R : α → β → Prop} {as : List α} {bs : List β} (h : All2 R as bs) {cs : List α} {ds : List β} (g : All2 R cs ds) : All2 R (as ++ cs) (bs ++ ds) := by
  induction h with
  | nil => exact g
  | cons a _ ih => exact .cons a ih
theorem rep_flat {α : Type} (x : α) : ∀ n : Nat, (List.replicate n [x]).flatten = List.replicate n x
  | 0 => rfl
  | n + 1 => by rw [List.replicate_succ, List.flatten_cons, rep_flat x n]; rfl
theorem ok_rows_on {f : Addr} {fd : FuncData} (F : Fun K "rows_on" "rows_on" s_rows_on f fd) {C : Addr} (T : Top K mg C) : FnOk P w K mg base CX0 2 f fd ["room", "shifts", "rows"] (sp_rows_on K) := by
  obtain ⟨f_doors_in, fd_doors_in, F_doors_in, b_doors_in, m_doors_in⟩ := T.d_doors_in
  have G_doors_in := ok_doors_in (P := P) (w := w) (base := base) F_doors_in T
  refine F.ok sc_rows_on (fun vs H Q E h => ?_) (fun cdv A outer s H vs Q E hr h => ?_)
  · obtain ⟨r, sl, a, hs, bs, rv, rows, ns, rfl, _⟩ := h
    rfl
  obtain ⟨r, sl, a, hs, bs, rv, rows, ns, rfl, hR, ok, hsl, ln, lo, ha, al, lr, q⟩ := h
  have lh := ok.hands
  have lrv := al.length
  have ld := doors_len (z := "in") (hs := hs)
  refine ⟨_, (pss_cons (ps_set (i := 3) sc_rows_on.nd rfl (Or.inl rfl) (pe_callTy (call_tuple_ofK K rfl) (by rfl) T.m_tuple (by decide +kernel) (pa_cons (pe_lc (own := [("door", 4)]) (g := gName 4) (tt := tYes) (by rfl) sc_rows_on.nd (pi_listK K rfl (pe_call G_doors_in (hr.mono (by decide)) (by rfl) m_doors_in F_doors_in.kp b_doors_in .nil pass0 (pa_cons (pv 0) pa_nil))) (blkOk_by (own := [("door", 4)]) (N := N_rows_on) (sc := defScope s_rows_on) (by decide +kernel)) (fun _ _ _ _ _ => (pg_name (i := 4) sc_rows_on.nd rfl (Or.inl rfl))) (fun _ _ _ _ _ => pts_nil) (fun _ _ _ _ _ => pe_int)) pa_nil)))
      (pss_one (ps_ret (pe_op op_cat (pe_callTy (call_list_ofK K rfl) (by rfl) T.m_list (by decide +kernel) (pa_cons (pv 2) pa_nil)) (pe_op op_rep (pe_lst (pa_cons (pv 3) pa_nil)) (pe_un un_neg (pe_callB (cr_minT K rfl rfl) (by rfl) T.m_min (by decide +kernel) (pa_cons (pe_op (op_catAK K rfl) (pe_tup (pa_cons pe_int pa_nil)) (pv 1)) pa_nil)))))))), ?_⟩
  refine ⟨_, rfl, r, hs, bs, rfl, hR, by omega, ok.good, fun p0 H1 np0 hp0 s1 => ⟨p0, rfl, ⟨_, SqL.of hp0⟩, fun D nD => lc_list (K := K) (a := p0) (xs := (doorsOf "in" hs).map nV) (fun i H5 => H5 D = some (.lst (List.replicate i (V.int 0))) ∧ Same H1 H5) ⟨upd_same, same_new nD⟩ (fun i H5 _ ⟨_, s5⟩ => SqL.of (s5 _ _ hp0)) ?_ ?_⟩⟩
  · rintro i x H5 hx ⟨hD, s5⟩
    have il := (List.getElem?_eq_some_iff.mp hx).1
    rw [List.length_map] at il
    refine ⟨rfl, yes_in ⟨_, hD, by rw [List.length_replicate]; exact small1000 (by omega), ?_, Same.own s5 nD⟩⟩
    rw [upd_same, List.replicate_succ']
  rintro H2 ⟨hD, s2⟩
  have s02 := s1.trans s2
  refine ⟨D, _, rfl, .inl ⟨SqL.of hD, fun p1 np1 => ?_⟩⟩
  rw [List.length_map]
  obtain ⟨o1, eo1⟩ : ∃ o1, o1 = HO.tup (List.replicate (doorsOf "in" hs).length (V.int 0)) := ⟨_, rfl⟩
  have s3 := s02.trans (same_new (o := o1) np1)
  have hp1 : (upd H2 p1 o1) p1 = some (.tup ((noughts hs).map V.int)) := by
    rw [upd_same, eo1]
    congr 2
    rw [List.map_map]
    refine List.ext_getElem? fun i => ?_
    rw [List.getElem?_replicate, List.getElem?_map]
    by_cases c : i < (doorsOf "in" hs).length
    · rw [if_pos c, List.getElem?_eq_getElem c]; rfl
    · rw [if_neg c, List.getElem?_eq_none (by omega)]; rfl
  rw [← eo1]
  generalize upd H2 p1 o1 = H3 at s3 hp1 ⊢
  have ha3 : H3 a = some (.lst rv) ∨ H3 a = some (.tup rv) := ha.imp (s3 _ _) (s3 _ _)
  have fin : ∀ (p2 : Addr) (H4 H5 : Hp) (m : Int), H4 p2 = some (.lst rv) → Same H3 H4 → Same H4 H5 → m ∈ 0 :: ns → (∀ y ∈ 0 :: ns, m ≤ y) → ∃ d : Nat, m = -((d : Nat) : Int) ∧ d ≤ 100 ∧ ∀ p5 H6, H5 p5 = none → H6 = upd H5 p5 (.lst (rv ++ List.replicate d (.ref p1))) → Q (.ref p5) H6 := fun p2 H4 H5 m hp2 s4 s5 hm hle => by
    obtain ⟨d, ed⟩ : ∃ d : Nat, m = -((d : Nat) : Int) := ⟨(-m).toNat, by have := hle 0 (List.mem_cons_self ..); omega⟩
    subst ed
    have d100 : d ≤ 100 := by
      rcases List.mem_cons.mp hm with z | z
      · omega
      · have := lo _ z; omega
    refine ⟨d, rfl, d100, fun p5 H6 np5 e6 => ?_⟩
    have s6 : Same H3 H6 := (s4.trans s5).trans (by rw [e6]; exact same_new np5)
    refine q p5 _ d H6 (by rw [e6]; exact upd_same) ?_ (fun x hx => hle x (List.mem_cons_of_mem _ hx)) ?_ (s3.trans s6)
    · exact (al.imp fun _ _ z => z.keep (TK.same (s3.trans s6))).app (all2_rep ⟨p1, rfl, s6 _ _ hp1⟩ d)
    · rcases List.mem_cons.mp hm with z | z
      · exact .inl (by omega)
      · exact .inr z
  have hA : SqL K H3 a rv ∨ SqT K H3 a rv := ha3.imp SqL.of SqT.of
  refine ⟨_, rfl, a, rv, rfl, hA, fun p2 np2 => ?_⟩
  have t1 := same_new (o := .lst rv) np2
  have hp2 : (upd H3 p2 (.lst rv)) p2 = some (.lst rv) := upd_same
  generalize upd H3 p2 (.lst rv) = H4 at t1 hp2 ⊢
  refine ⟨_, rfl, (by show 1 ≤ sizeLine; decide), fun p3 np3 => ?_⟩
  have t2 := same_new (o := .lst [V.ref p1]) np3
  have hp3 : (upd H4 p3 (.lst [V.ref p1])) p3 = some (.lst [V.ref p1]) := upd_same
  generalize upd H4 p3 (.lst [V.ref p1]) = H5 at t2 hp3 ⊢
  have tail : ∀ (m : Int) (H6 : Hp), m ∈ 0 :: ns → (∀ y ∈ 0 :: ns, m ≤ y) → Same H5 H6 → ∃ i : Int, V.int m = V.int i ∧ (∃ (l : Addr) (k : Int) (xs : List V), V.ref p3 = .ref l ∧ V.int (-i) = .int k ∧ H6 l = some (.lst xs) ∧ -(2 ^ 63) ≤ k ∧ k < 2 ^ 63 ∧ xs.length * k.toNat ≤ sizeLine ∧ ∀ p, H6 p = none → (∃ (l b : Addr) (xs' zs : List V), V.ref p2 = .ref l ∧ V.ref p = .ref b ∧ (upd H6 p (.lst (List.replicate k.toNat xs).flatten)) l = some (.lst xs') ∧ (upd H6 p (.lst (List.replicate k.toNat xs).flatten)) b = some (.lst zs) ∧ xs'.length + zs.length ≤ sizeLine ∧ ∀ p', (upd H6 p (.lst (List.replicate k.toNat xs).flatten)) p' = none → Q (.ref p') (upd (upd H6 p (.lst (List.replicate k.toNat xs).flatten)) p' (.lst (xs' ++ zs))))) := fun m H6 hm hle s6 => by
    have t12 := t2.trans s6
    refine ⟨m, rfl, p3, _, _, rfl, rfl, s6 _ _ hp3, ?_⟩
    obtain ⟨d, em⟩ : ∃ d : Nat, m = -((d : Nat) : Int) := ⟨(-m).toNat, by have := hle 0 (List.mem_cons_self ..); omega⟩
    have d100 : d ≤ 100 := by
      rcases List.mem_cons.mp hm with z | z
      · omega
      · have := lo _ z; omega
    have ek : (-m).toNat = d := by omega
    rw [ek, rep_flat]
    refine ⟨by omega, by omega, by show 1 * d ≤ _; rw [Nat.one_mul]; exact little (by omega), fun p4 np4 => ?_⟩
    have t5 := same_new (o := .lst (List.replicate d (V.ref p1))) np4
    refine ⟨p2, p4, _, _, rfl, rfl, t5 _ _ (t12 _ _ hp2), upd_same, by rw [List.length_replicate, lrv]; exact little (by omega), fun p5 np5 => ?_⟩
    obtain ⟨d', e1, _, f⟩ := fin p2 H4 _ m hp2 t1 (t12.trans t5) hm hle
    obtain rfl : d' = d := by omega
    exact f p5 _ np5 rfl
  refine ⟨(by show 1 ≤ sizeLine; decide), fun z0 nz => ?_⟩
  have t3 := same_new (o := .tup [V.int 0]) nz
  refine ⟨_, rfl, z0, sl, _, _, rfl, rfl, SqT.of upd_same, SqT.of ((((s3.trans t1).trans t2).trans t3) _ _ hsl), by rw [List.length_map]; exact little (by show 1 + _ ≤ 1000; omega), fun z => (nomatch z), fun _ em => ?_, fun _ _ p np => ?_⟩
  · have em : ns = [] := List.map_eq_nil_iff.mp em
    subst em
    refine ⟨z0, [0], rfl, SqT.of upd_same, by simp, fun m hm hle => ?_⟩
    exact tail m _ hm hle t3
  · refine ⟨p, 0 :: ns, rfl, SqT.of upd_same, by simp, fun m hm hle => ?_⟩
    exact tail m _ hm hle (t3.trans (same_new np))
end
section
variable {P : Program} {w : World} {K : PySem.W.Frag} {mg : Str → Option Value} {base : Heap} {cG : Addr} {PT : Addr × Addr} [TI : TabI K mg base cG PT]
include TI
/-- how many bells shifts wait -/
structure Wait (n : Nat) (sh : Nat → Int) (w : Int) : Prop where
  nn : 0 ≤ w
  le : ∀ k, k < n → sh k ≤ w
  at_ : w = 0 ∨ ∃ k, k < n ∧ sh k = w
/-- how many bells hands are ahead -/
structure Ahead (n : Nat) (sh : Nat → Int) (d : Nat) : Prop where
  le : ∀ k, k < n → -((d : Nat) : Int) ≤ sh k
  at_ : d = 0 ∨ ∃ k, k < n ∧ sh k = -((d : Nat) : Int)
def sp_moved (K : PySem.W.Frag) (PT : Addr × Addr) : Sp := fun vs H Q _ => ∃ (r sl a : Addr) (hs : List HR) (bs : List BR) (late : Int) (sh : Nat → Int) (rv : List V) (rows : List (List Int)), vs = [.ref r, .int late, .ref sl, .ref a] ∧ RoomAt H r hs bs ∧ RoomOk hs bs ∧ H sl = some (.tup (levL hs.length sh)) ∧ Good33 hs bs late sh ∧ Bd 50 sh ∧ (H a = some (.lst rv) ∨ H a = some (.tup rv)) ∧ All2 (RowAt H) rv rows ∧ (∀ x ∈ rows, x.length = (doorsOf "in" hs).length) ∧ rows.length ≤ 50 ∧ (∀ k, k < hs.length → sh k ≤ (rows.length : Int)) ∧ LamX.Tabs (TL PT) H ∧
  ∀ (p : Addr) (w : Int) (d : Nat) (ms : List (List Int)) (H' : Hp), RoomAt H' p hs (bs.map (movB sh w ms)) → Wait hs.length sh w → Ahead hs.length sh d → WS hs bs (rows ++ List.replicate d (noughts hs)) ms → LamX.Tabs (TL PT) H' → LamX.ExtN H H' → Q (.ref p) H'
theorem ok_moved {f : Addr} {fd : FuncData} (F : Fun K "moved" "moved" s_moved f fd) {C : Addr} (T : Top K mg C) : FnOk P w K mg base CX0 5 f fd ["room", "late", "shifts", "rows"] (sp_moved K PT) := by
  obtain ⟨f_look_shifts, fd_look_shifts, F_look_shifts, b_look_shifts, m_look_shifts⟩ := T.d_look_shifts
  have G_look_shifts := ok_look_shifts (P := P) (w := w) (base := base) F_look_shifts T
  obtain ⟨f_waits, fd_waits, F_waits, b_waits, m_waits⟩ := T.d_waits
  have G_waits := ok_waits (P := P) (w := w) (base := base) F_waits T
  obtain ⟨f_worked, fd_worked, F_worked, b_worked, m_worked⟩ := T.d_worked
  have G_worked := ok_worked (P := P) (w := w) (base := base) F_worked T
  obtain ⟨f_rows_on, fd_rows_on, F_rows_on, b_rows_on, m_rows_on⟩ := T.d_rows_on
  have G_rows_on := ok_rows_on (P := P) (w := w) (base := base) F_rows_on T
  obtain ⟨f_trays_moved, fd_trays_moved, F_trays_moved, b_trays_moved, m_trays_moved⟩ := T.d_trays_moved
  have G_trays_moved := ok_trays_moved (P := P) (w := w) (base := base) F_trays_moved T
  obtain ⟨f_taken_at, fd_taken_at, F_taken_at, b_taken_at, m_taken_at⟩ := T.d_taken_at
  have G_taken_at := ok_taken_at (P := P) (w := w) (base := base) F_taken_at T
  refine F.ok sc_moved (fun vs H Q E h => ?_) (fun cdv A outer s H vs Q E hr h => ?_)
  · obtain ⟨r, sl, a, hs, bs, late, sh, rv, rows, rfl, _⟩ := h
    rfl
  obtain ⟨r, sl, a, hs, bs, late, sh, rv, rows, rfl, hR, ok, hsl, gd, bd, ha, al, lrow, lr, lsh, tg, q⟩ := h
  have lh := ok.hands
  have lbs := ok.many
  have esl : levL hs.length sh = ((List.range hs.length).map sh).map V.int := by rw [List.map_map]; rfl
  obtain ⟨ha', ba, hv, bv, er, eh, eb, alh, alb⟩ := id hR.ex
  let R1 : TS := fun D' σ' H' => D'.rt = Q ∧ ∃ (w : Int) (d : Nat) (ms : List (List Int)) (mv : List V) (ml : Addr), σ' = [some (.ref r), some (.int late), some (.ref sl), some (.ref a), some (.ref ha'), some (.ref ba), some (.int w), some (.ref ml), none, none, none, none, none, none, none, none] ∧ H' ml = some (.lst mv) ∧ All2 (RowAt H') mv ms ∧ Wait hs.length sh w ∧ Ahead hs.length sh d ∧ WS hs bs (rows ++ List.replicate d (noughts hs)) ms ∧ LamX.Tabs (TL PT) H' ∧ LamX.ExtN H H'
  refine ⟨_, (pss_cons (ps_expr (pe_call G_look_shifts (hr.mono (by decide)) (by rfl) m_look_shifts F_look_shifts.kp b_look_shifts .nil pass0 (pa_cons (pv 0) (pa_cons (pv 1) (pa_cons (pv 2) pa_nil)))))
      (pss_cons (ps_asg (pv 0) (pg_tupK K rfl rfl (pgs_cons (pg_name (i := 4) sc_moved.nd rfl (Or.inl rfl)) (pgs_cons (pg_name (i := 5) sc_moved.nd rfl (Or.inl rfl)) pgs_nil))))
      (pss_cons (ps_set (i := 6) sc_moved.nd rfl (Or.inl rfl) (pe_call G_waits (hr.mono (by decide)) (by rfl) m_waits F_waits.kp b_waits .nil pass0 (pa_cons (pv 2) pa_nil)))
      (pss_cons (ps_set (i := 7) sc_moved.nd rfl (Or.inr rfl) (pe_call G_worked (hr.mono (by decide)) (by rfl) m_worked F_worked.kp b_worked .nil pass0 (pa_cons (pv 0) (pa_cons (pe_call G_rows_on (hr.mono (by decide)) (by rfl) m_rows_on F_rows_on.kp b_rows_on .nil pass0 (pa_cons (pv 0) (pa_cons (pv 2) (pa_cons (pv 3) pa_nil)))) pa_nil))))
      (PSs.to (pss_cons (ps_set (i := 8) sc_moved.nd rfl (Or.inl rfl) (pe_lst pa_nil))
      (pss_cons (ps_for PassesOwn.never rfl (pi_zipTL K rfl (by rfl) T.m_zip (pa_cons (pv 5) (pa_cons (pe_call G_trays_moved (hr.mono (by decide)) (by rfl) m_trays_moved F_trays_moved.kp b_trays_moved .nil pass0 (pa_cons (pv 0) (pa_cons (pv 2) pa_nil))) pa_nil))) (pg_tupK K rfl rfl (pgs_cons (pg_tupK K rfl rfl (pgs_cons (pg_name (i := 9) sc_moved.nd rfl (Or.inr rfl)) (pgs_cons (pg_name (i := 10) sc_moved.nd rfl (Or.inr rfl)) (pgs_cons (pg_name (i := 11) sc_moved.nd rfl (Or.inr rfl)) pgs_nil)))) (pgs_cons (pg_name (i := 12) sc_moved.nd rfl (Or.inl rfl)) pgs_nil)))
        (pss_cons (ps_set (i := 13) sc_moved.nd rfl (Or.inl rfl) (pe_op op_sub (pv 6) (pe_ix (ix_tupK K rfl) (pv 2) (pv 10) (fun _ _ => rfl))))
      (pss_cons (ps_setLc (i := 14) (own := [("bell", 15)]) (g := gName 15) (tt := tYes) (by rfl) sc_moved.nd rfl rfl (sw_true rfl rfl rfl (by decide +kernel)) (pi_range2 (by rfl) T.m_range (pa_cons (pv 13) (pa_cons (pe_op op_add (pv 13) (pv 12)) pa_nil))) (blkOk_by (own := [("bell", 15)]) (N := N_moved) (sc := defScope s_moved) (by decide +kernel)) (fun _ _ _ _ _ => (pg_name (i := 15) sc_moved.nd rfl (Or.inl rfl))) (fun _ _ _ _ _ => pts_nil) (fun _ _ _ _ _ => (pe_call G_taken_at (hr.mono (by decide)) (by rfl) m_taken_at F_taken_at.kp b_taken_at .nil pass0 (pa_cons (pe_tup (pa_cons (pv 9) (pa_cons (pv 10) (pa_cons (pv 11) pa_nil)))) (pa_cons (pv 7) (pa_cons (pv 15) pa_nil))))))
      (pss_one (ps_expr (pe_bmK K rfl PySem.F.plainAttrs_list PySem.F.slot_list_append PySem.F.type_list_append mt_append (pv 8) (pa_cons (pe_tup (pa_cons (pv 9) (pa_cons (pv 10) (pa_cons (pe_callTy (call_tuple_ofK K rfl) (by rfl) T.m_tuple (by decide +kernel) (pa_cons (pv 14) pa_nil)) pa_nil)))) pa_nil)))))))
      (pss_one (ps_ret (pe_tup (pa_cons (pv 4) (pa_cons (pe_callTy (call_tuple_ofK K rfl) (by rfl) T.m_tuple (by decide +kernel) (pa_cons (pv 8) pa_nil)) pa_nil))))))) R1 ?tail1))))), ?_⟩
  case tail1 =>
    rintro D' σ' H1 ⟨eD, w, d, ms, mv, ml, rfl, hml, alm, wt, ahd, ws, tg1, b1⟩
    have k1 := ExtN.tk b1
    have lms : ms.length = rows.length + d := by
      have := ws.len
      rw [List.length_append, List.length_replicate] at this
      omega
    refine ⟨(by show 0 ≤ sizeLine; decide), fun af naf => ?_⟩
    have s2 := same_new (o := .lst []) naf
    have haf : (upd H1 af (.lst [])) af = some (.lst []) := upd_same
    generalize upd H1 af (.lst []) = H2 at s2 haf ⊢
    have k2 := k1.trans (TK.same s2)
    refine ⟨_, rfl, _, rfl, _, rfl, r, sl, hs, bs, sh, rfl, hR.keep k2, ok, k2 _ _ hsl, fun tl H3 ntl htl s3 => ?_⟩
    have k3 := k2.trans (TK.same s3)
    have haf3 := s3 _ _ haf
    have eb3 := k3 _ _ eb
    have nba : ba ≠ af := ne_of eb3 haf3 (fun z => nomatch z)
    have tlaf : tl ≠ af := fun z => by rw [z, haf] at ntl; cases ntl
    have tpl : ∀ {b : Addr} {xs : List V}, H b = some (.tup xs) → H3 b = some (.tup xs) ∧ b ≠ af := fun e => ⟨k3 _ _ e, ne_of (k3 _ _ e) haf3 (fun z => nomatch z)⟩
    have lbv := alb.length
    refine ⟨ba, tl, bv, _, rfl, SqT.of (k3 _ _ eb), SqL.of htl, for_it (n := bs.length) (fun i σ H5 => ∃ (av : List V) (v9 v10 v11 v12 v13 v14 : Option V), σ = [some (.ref r), some (.int late), some (.ref sl), some (.ref a), some (.ref ha'), some (.ref ba), some (.int w), some (.ref ml), some (.ref af), v9, v10, v11, v12, v13, v14, none] ∧ H5 af = some (.lst av) ∧ All2 (BeltAt H5) av ((bs.take i).map (movB sh w ms)) ∧ (∀ b o, H3 b = some o → b ≠ af → H5 b = some o))
      ⟨[], none, none, none, none, none, none, rfl, haf3, .nil, fun _ _ e _ => e⟩ ?_ ?_ ?_ ?_⟩
    · rintro i σ H5 hi ⟨av, v9, v10, v11, v12, v13, v14, rfl, hav, ala, f5⟩
      exact ⟨SqT.of (f5 _ _ eb3 nba), SqL.of (f5 _ _ htl tlaf), by omega, by rw [List.length_map]; exact hi⟩
    · rintro σ H5 ⟨av, v9, v10, v11, v12, v13, v14, rfl, hav, ala, f5⟩
      exact ⟨SqT.of (f5 _ _ eb3 nba), SqL.of (f5 _ _ htl tlaf), by omega, by rw [List.length_map]; exact Nat.le_refl _, .inl (by omega)⟩
    · rintro i x σ H5 H6 hi ⟨av, v9, v10, v11, v12, v13, v14, rfl, hav, ala, f5⟩ ⟨T', x1, y1, rfl, nT, rfl, hx1, hy1⟩
      obtain ⟨b, ebj, ⟨t2, g, rfl, e1, e2⟩⟩ := alb.getL hx1
      have hb := List.mem_of_getElem? ebj
      obtain ⟨ob, tb⟩ := ok.ends b hb
      obtain rfl : y1 = V.int (trS sh b) := by
        rw [List.getElem?_map, ebj] at hy1
        exact (Option.some.inj hy1).symm
      have s6 := same_new (o := .tup [V.ref t2, V.int (trS sh b)]) nT
      have hT' : (upd H5 T' (.tup [V.ref t2, V.int (trS sh b)])) T' = some (.tup [V.ref t2, V.int (trS sh b)]) := upd_same
      generalize upd H5 T' (.tup [V.ref t2, V.int (trS sh b)]) = H6 at s6 hT' ⊢
      have f6 : ∀ {c : Addr} {xs : List V}, H c = some (.tup xs) → H6 c = some (.tup xs) := fun e => s6 _ _ (f5 _ _ (tpl e).1 (tpl e).2)
      have t0 := gd.tr b hb
      have sto := wt.le b.to tb
      have son := ahd.le b.one ob
      have btw := bd b.to
      have b1w := bd b.one
      have thl := (ok.th b hb).1
      have w50 : w ≤ 50 := by
        rcases wt.at_ with z | ⟨k, _, z⟩
        · omega
        · have := bd k; omega
      refine ⟨T', _, rfl, SqT.of hT', rfl, _, _, rfl, ?_⟩
      refine ⟨t2, _, rfl, SqT.of (f6 e1), rfl, _, _, rfl, _, _, rfl, _, _, rfl, rfl, _, _, rfl, rfl, ?_⟩
      refine ⟨_, rfl, _, rfl, _, rfl, sl, _, _, _, rfl, rfl, SqT.of (f6 hsl), atI_nat (rg_at tb), _, _, rfl, rfl, ?_⟩
      obtain ⟨f0, ef0⟩ : ∃ f0 : Nat, w - sh b.to = ((f0 : Nat) : Int) := ⟨(w - sh b.to).toNat, by omega⟩
      obtain ⟨n0, en0⟩ : ∃ n0 : Nat, trS sh b = ((n0 : Nat) : Int) := ⟨(trS sh b).toNat, by omega⟩
      have trd : trS sh b = (b.th.length : Int) + sh b.to - sh b.one := rfl
      have fl : f0 + n0 ≤ b.th.length + ms.length := by
        have := lsh b.to tb
        rcases wt.at_ with z | ⟨k, kl, z⟩
        · omega
        · have := lsh k kl; omega
      have nl : n0 ≤ 500 := by omega
      show tSeq _ _ _ [some (.ref r), some (.int late), some (.ref sl), some (.ref a), some (.ref ha'), some (.ref ba), some (.int w), some (.ref ml), some (.ref af), some (.int ((b.one : Nat) : Int)), some (.int ((b.to : Nat) : Int)), some (.ref g), some (.int (trS sh b)), some (.int (w - sh b.to)), v14, none] H6
      rw [ef0, en0]
      have mlaf : ml ≠ af := fun z => by rw [z, naf] at hml; cases hml
      have hml6 : H6 ml = some (.lst mv) := s6 _ _ (f5 _ _ (s3 _ _ (s2 _ _ hml)) mlaf)
      have kk : TK H1 H6 := fun c xs e => s6 _ _ (f5 _ _ (s3 _ _ (s2 _ _ e)) (fun z => by rw [z, naf] at e; cases e))
      have alm6 := alm.imp fun _ _ z => z.keep kk
      have haf6 := s6 _ _ hav
      refine ⟨_, rfl, _, rfl, _, rfl, _, _, rfl, rfl, _, _, rfl, ⟨by omega, by omega, by omega, by omega⟩, fun D nD => lc_range (lo := ((f0 : Nat) : Int)) (n := (((f0 : Nat) : Int) + ((n0 : Nat) : Int) - ((f0 : Nat) : Int)).toNat) (fun i H7 => H7 D = some (.lst (((List.range i).map fun j => takenAt b ms (f0 + j)).map V.int)) ∧ Same H6 H7) ⟨upd_same, same_new nD⟩ ?_ ?_⟩
      · rintro j H7 hj ⟨hD, s7⟩
        have hj : j < n0 := by omega
        refine ⟨rfl, yes_in ?_⟩
        refine ⟨_, rfl, _, rfl, _, rfl, (by show 3 ≤ sizeLine; decide), fun tt ntt => ?_⟩
        have s8 := same_new (o := .tup [V.int ((b.one : Nat) : Int), V.int ((b.to : Nat) : Int), V.ref g]) ntt
        have s68 := s7.trans s8
        refine ⟨_, rfl, _, rfl, .ref tt, b, ml, mv, ms, f0 + j, by rw [Int.natCast_add]; rfl, ⟨tt, g, rfl, upd_same, s68 _ _ (f6 e2)⟩, s68 _ _ hml6, alm6.imp fun _ _ z => z.keep (TK.same s68), fun m hm => ?_, by omega, ?_⟩
        · obtain ⟨tt', ett⟩ := List.getElem?_of_mem hm
          have lt' := (List.getElem?_eq_some_iff.mp ett).1
          have := (ws.at_ tt' _ m (List.getElem?_eq_getElem (by rw [← ws.len]; exact lt')) ett).len
          omega
        · refine ⟨_, s8 _ _ hD, by rw [List.length_map, List.length_map, List.length_range]; exact small1000 (by omega), ?_, Same.own s68 nD⟩
          rw [upd_same, List.range_succ, List.map_append, List.map_append]
          rfl
      rintro H7 ⟨hD, s7⟩
      rw [show (((f0 : Nat) : Int) + ((n0 : Nat) : Int) - ((f0 : Nat) : Int)).toNat = n0 by omega] at hD
      have Daf : af ≠ D := fun z => by rw [← z, haf6] at nD; cases nD
      refine ⟨_, rfl, .inl ⟨rfl, _, SqL.of (s7 _ _ haf6)⟩, _, rfl, _, rfl, _, rfl, D, _, rfl, .inl ⟨SqL.of hD, fun pt npt => ?_⟩⟩
      have s8 := s7.trans (same_new (o := .tup (((List.range n0).map fun j => takenAt b ms (f0 + j)).map V.int)) npt)
      have hpt : (upd H7 pt (.tup (((List.range n0).map fun j => takenAt b ms (f0 + j)).map V.int))) pt = some (.tup (((List.range n0).map fun j => takenAt b ms (f0 + j)).map V.int)) := upd_same
      generalize upd H7 pt _ = H8 at s8 hpt ⊢
      refine ⟨(by show 3 ≤ sizeLine; decide), fun p3 np3 => ?_⟩
      have s9 := same_new (o := .tup [V.int ((b.one : Nat) : Int), V.int ((b.to : Nat) : Int), V.ref pt]) np3
      have hp3 : (upd H8 p3 (.tup [V.int ((b.one : Nat) : Int), V.int ((b.to : Nat) : Int), V.ref pt])) p3 = some (.tup [V.int ((b.one : Nat) : Int), V.int ((b.to : Nat) : Int), V.ref pt]) := upd_same
      generalize upd H8 p3 _ = H9 at s9 hp3 ⊢
      have s69 := s8.trans s9
      have haf9 := s69 _ _ haf6
      have lav := ala.length
      rw [List.length_map, List.length_take] at lav
      refine ⟨af, _, _, rfl, rfl, haf9, small1000 (by omega), ?_⟩
      have kL : TK H9 (upd H9 af (.lst (av ++ [V.ref p3]))) := TK.lst haf9
      refine ⟨av ++ [V.ref p3], _, _, _, _, _, _, rfl, upd_same, ?_, fun c o e n => ?_⟩
      · rw [List.take_add_one, ebj, List.map_append]
        refine ((ala.imp fun _ _ z => z.keep (TK.same (s6.trans s69))).snoc ⟨p3, pt, rfl, hp3, ?_⟩).imp fun _ _ z => z.keep kL
        rw [s9 _ _ hpt]
        unfold movB
        rw [ef0, en0]
        rfl
      · rw [upd_ne n]
        exact s69 _ _ (s6 _ _ (f5 _ _ e n))
    · rintro σ H5 ⟨av, v9, v10, v11, v12, v13, v14, rfl, hav, ala, f5⟩
      rw [List.take_length] at ala
      refine ⟨_, rfl, _, rfl, af, _, rfl, .inl ⟨SqL.of hav, fun pt npt => ?_⟩⟩
      have s6 := same_new (o := .tup av) npt
      have hpt : (upd H5 pt (.tup av)) pt = some (.tup av) := upd_same
      generalize upd H5 pt (.tup av) = H6 at s6 hpt ⊢
      refine ⟨(by show 2 ≤ sizeLine; decide), fun p np => ?_⟩
      have s7 := same_new (o := .tup [V.ref ha', V.ref pt]) np
      have hp : (upd H6 p (.tup [V.ref ha', V.ref pt])) p = some (.tup [V.ref ha', V.ref pt]) := upd_same
      generalize upd H6 p (.tup [V.ref ha', V.ref pt]) = H7 at s7 hp ⊢
      have s57 := s6.trans s7
      have k7 : TK H H7 := fun c xs e => s57 _ _ (f5 _ _ (tpl e).1 (tpl e).2)
      have b17 : LamX.ExtN H1 H7 := fun c o e n => s57 _ _ (f5 _ _ (s3 _ _ (s2 _ _ e)) (fun z => by rw [z, naf] at e; cases e))
      have b7 : LamX.ExtN H H7 := b1.trans b17
      have tg7 : LamX.Tabs (TL PT) H7 := fun qq hq => by
        obtain ⟨ps, h1, h2, h3⟩ := tg1 qq hq
        have up : ∀ c o, H1 c = some o → H7 c = some o := fun c o e => s57 _ _ (f5 _ _ (s3 _ _ (s2 _ _ e)) (fun z => by rw [z, naf] at e; cases e))
        refine ⟨ps, up _ _ h1, h2, fun pos cv among => ?_⟩
        obtain ⟨c0, e0, e1⟩ := h3 pos cv among
        exact ⟨c0, e0, up _ _ e1⟩
      rw [eD]
      exact q p w d ms H7 ⟨ha', pt, hv, av, hp, k7 _ _ eh, s7 _ _ hpt, alh.imp fun _ _ z => z.keep k7, ala.imp fun _ _ z => z.keep (TK.same s57)⟩ wt ahd ws tg7 b7
  refine ⟨_, rfl, _, rfl, _, rfl, r, sl, hs, bs, late, sh, rfl, hR, ok, hsl, gd, tg, fun H1 tg1 b1 => ?_⟩
  have k1 := ExtN.tk b1
  refine ⟨_, rfl, r, _, rfl, SqT.of (k1 _ _ er), rfl, _, _, rfl, _, _, rfl, rfl, ?_⟩
  refine ⟨_, rfl, sl, (List.range hs.length).map sh, rfl, by rw [← esl]; exact k1 _ _ hsl, by rw [List.length_map, List.length_range]; omega, fun w H2 hm hle s2 => ?_⟩
  have k2 := k1.trans (TK.same s2)
  have ha1 : H1 a = some (.lst rv) ∨ H1 a = some (.tup rv) := ha.imp (fun e => ExtN.lst b1 e) (k1 _ _)
  have ha2 : H2 a = some (.lst rv) ∨ H2 a = some (.tup rv) := ha1.imp (s2 _ _) (s2 _ _)
  refine ⟨_, rfl, _, rfl, _, rfl, _, rfl, r, sl, a, hs, bs, rv, rows, (List.range hs.length).map sh, rfl, hR.keep k2, ok, by rw [← esl]; exact k2 _ _ hsl, by rw [List.length_map, List.length_range]; omega, fun x hx => ?_, ha2, al.imp fun _ _ z => z.keep k2, by omega, fun p3 ov d H3 hp3 alo dle dat s3 => ?_⟩
  · obtain ⟨k, _, rfl⟩ := List.mem_map.mp hx
    have := bd k
    omega
  have k3 := k2.trans (TK.same s3)
  have ahd : Ahead hs.length sh d := ⟨fun k hk => dle _ (List.mem_map.mpr ⟨k, List.mem_range.mpr hk, rfl⟩), dat.imp id fun z => by
    obtain ⟨k, h1, h2⟩ := List.mem_map.mp z
    exact ⟨k, List.mem_range.mp h1, h2⟩⟩
  have d50 : d ≤ 50 := by
    rcases ahd.at_ with z | ⟨k, _, z⟩
    · omega
    · have := bd k; omega
  have wt : Wait hs.length sh w := ⟨hle 0 (List.mem_cons_self ..), fun k hk => hle _ (List.mem_cons_of_mem _ (List.mem_map.mpr ⟨k, List.mem_range.mpr hk, rfl⟩)), by
    rcases List.mem_cons.mp hm with z | z
    · exact .inl z
    · obtain ⟨k, h1, h2⟩ := List.mem_map.mp z
      exact .inr ⟨k, List.mem_range.mp h1, h2⟩⟩
  refine ⟨r, p3, hs, bs, _, rfl, hR.keep k3, ok, ⟨ov, .inl hp3, alo⟩, fun x hx => ?_, by rw [List.length_append, List.length_replicate]; omega, fun ml mv ms H4 nml hml alm ws s4 => ?_⟩
  · rcases List.mem_append.mp hx with z | z
    · exact lrow x z
    · rw [List.eq_of_mem_replicate z, List.length_map]
  exact ⟨rfl, w, d, ms, mv, ml, rfl, hml, alm, wt, ahd, ws, tabs_same tg1 ((s2.trans s3).trans s4), b1.trans (ExtN.same ((s2.trans s3).trans s4))⟩
end
/-! ### the moved room -/
theorem mov_th {sh : Nat → Int} {w : Int} {ms : List (List Int)} {b : BR} : (movB sh w ms b).th.length = (trS sh b).toNat := by
  unfold movB
  rw [List.length_map, List.length_range]
theorem rk_bound (rk : Nat → Int) : ∀ n : Nat, ∃ B : Int, 0 ≤ B ∧ ∀ i, i < n → -B ≤ rk i ∧ rk i ≤ B
  | 0 => ⟨0, by omega, fun i h => by omega⟩
  | n + 1 => by
    obtain ⟨B, b0, h⟩ := rk_bound rk n
    refine ⟨B + (if rk n < 0 then -rk n else rk n), by split <;> omega, fun i hi => ?_⟩
    by_cases e : i = n
    · rw [e]; split <;> omega
    · have := h i (by omega)
      split <;> omega
theorem mov_ok {hs : List HR} {bs : List BR} {sh : Nat → Int} {w : Int} {ms : List (List Int)} {N : Int} (ok : RoomOk hs bs) (tr : ∀ b ∈ bs, 0 ≤ trS sh b) (bd : Bd N sh) (n6 : ∀ b ∈ bs, (b.th.length : Int) + 2 * N ≤ 300) : RoomOk hs (bs.map (movB sh w ms)) := by
  have mem : ∀ {c : BR}, c ∈ bs.map (movB sh w ms) → ∃ b ∈ bs, c.one = b.one ∧ c.to = b.to ∧ c.th.length = (trS sh b).toNat := fun hc => by
    obtain ⟨b, hb, rfl⟩ := List.mem_map.mp hc
    exact ⟨b, hb, rfl, rfl, mov_th⟩
  refine ⟨ok.hands, ok.good, fun c hc => ?_, fun c hc h e => ?_, fun c hc => ?_, ?_, fun k h e => ?_, by rw [List.length_map]; exact ok.many⟩
  · obtain ⟨b, hb, e1, e2, _⟩ := mem hc
    rw [e1, e2]; exact ok.ends b hb
  · obtain ⟨b, hb, e1, e2, _⟩ := mem hc
    exact ok.out b hb h (by rw [← e1]; exact e)
  · obtain ⟨b, hb, e1, e2, e3⟩ := mem hc
    refine ⟨?_, trivial⟩
    have d : trS sh b = (b.th.length : Int) + sh b.to - sh b.one := rfl
    have := bd b.to
    have := bd b.one
    have := n6 b hb
    omega
  · obtain ⟨rk, hrk⟩ := ok.rank
    obtain ⟨B, b0, hB⟩ := rk_bound rk hs.length
    refine ⟨fun k => rk k - sh k * (2 * B + 1), fun c hc en => ?_⟩
    obtain ⟨b, hb, e1, e2, e3⟩ := mem hc
    rw [en] at e3
    have e3 : (trS sh b).toNat = 0 := e3.symm
    have t0 := tr b hb
    have d : trS sh b = (b.th.length : Int) + sh b.to - sh b.one := rfl
    obtain ⟨l1, l2⟩ := ok.ends b hb
    have h1 := hB _ l1
    have h2 := hB _ l2
    rw [e1, e2]
    show rk b.one - sh b.one * (2 * B + 1) < rk b.to - sh b.to * (2 * B + 1)
    have es : sh b.one = sh b.to + (b.th.length : Int) := by omega
    rw [es, Int.add_mul]
    cases eth : b.th with
    | nil =>
      have := hrk b hb eth
      show rk b.one - (sh b.to * (2 * B + 1) + (0 : Int) * (2 * B + 1)) < _
      rw [Int.zero_mul]
      omega
    | cons x l =>
      have hm : 2 * B + 1 ≤ ((x :: l).length : Int) * (2 * B + 1) := by
        have := Int.mul_le_mul_of_nonneg_right (a := 1) (b := ((x :: l).length : Int)) (c := 2 * B + 1) (by simp only [List.length_cons]; omega) (by omega)
        rwa [Int.one_mul] at this
      omega
  · rw [show (bs.map (movB sh w ms)).map BR.to = bs.map BR.to by rw [List.map_map]; rfl]
    exact ok.count k h e
/-! ### what hands make, by bells; rooms moved go on -/
/-- what a hand makes at a bell -/
def Vm (ms : List (List Int)) (s k : Nat) : Int := gD (ms.getD s []) k
theorem getD_at {ms : List (List Int)} {s : Nat} {m : List Int} (h : ms[s]? = some m) : ms.getD s [] = m := by
  rw [List.getD_eq_getElem?_getD, h]; rfl
theorem taken_at_eq {b : BR} {ms : List (List Int)} {s : Nat} (h : s ≤ ms.length) (m : List Int) (hm : ms[s]? = some m) : valB (gD m) (standB (ms.take s) b) = takenAt b ms s := by
  have ls : (ms.take s).length = s := by rw [List.length_take]; omega
  unfold takenAt
  by_cases e : b.th = []
  · rw [valB_nil ((stand_th _ b).mpr e), stand_one, e]
    rw [if_neg (by show ¬ s < 0; omega)]
    show gD m b.one = gD (ms.getD (s - 0) []) b.one
    rw [Nat.sub_zero, getD_at hm]
  · rw [stand_head _ e, ls]
    by_cases c : s < b.th.length
    · rw [if_pos c, List.getD_eq_getElem?_getD, List.getElem?_append_left c]
      show _ = b.th.getD s 0
      rw [List.getD_eq_getElem?_getD]
    · rw [if_neg c, List.getD_eq_getElem?_getD, List.getElem?_append_right (by omega), List.getElem?_map]
      have pos := List.length_pos_iff.mpr e
      rw [List.getElem?_take_of_lt (by omega)]
      have l : s - b.th.length < ms.length := by
        have := (List.getElem?_eq_some_iff.mp hm).1
        omega
      rw [List.getElem?_eq_getElem l, List.getD_eq_getElem?_getD, List.getElem?_eq_getElem l]
      rfl
theorem takes_stand {bs : List BR} {ms : List (List Int)} {s k : Nat} {m : List Int} (hm : ms[s]? = some m) : takes (stand bs (ms.take s)) (gD m) k = (bs.filter fun b => decide (b.to = k)).map fun b => takenAt b ms s := by
  have hl : s ≤ ms.length := Nat.le_of_lt (List.getElem?_eq_some_iff.mp hm).1
  unfold takes
  induction bs with
  | nil => rfl
  | cons b bs ih =>
    rw [show stand (b :: bs) (ms.take s) = standB (ms.take s) b :: stand bs (ms.take s) from rfl, List.filter_cons, List.filter_cons, stand_to]
    by_cases c : b.to = k
    · rw [if_pos (decide_eq_true c), if_pos (decide_eq_true c), List.map_cons, List.map_cons, ih, taken_at_eq hl m hm]
    · rw [if_neg (by rw [decide_eq_false c]; exact Bool.false_ne_true), if_neg (by rw [decide_eq_false c]; exact Bool.false_ne_true)]
      exact ih
theorem WS.hand {hs : List HR} {bs : List BR} {rows ms : List (List Int)} (a : WS hs bs rows ms) {s k : Nat} {h : HR} (sl : s < ms.length) (eh : hs[k]? = some h) (w : h.wd ≠ "in") : Vm ms s k = mkR h ((bs.filter fun b => decide (b.to = k)).map fun b => takenAt b ms s) := by
  have em : ms[s]? = some ms[s] := List.getElem?_eq_getElem sl
  have er : rows[s]? = some (rows[s]'(by rw [← a.len]; exact sl)) := List.getElem?_eq_getElem _
  have B := a.at_ s _ _ er em
  have q := B.hand k h eh w
  rw [takes_stand em] at q
  unfold Vm
  rw [getD_at em]
  show ms[s].getD k 0 = _
  rw [List.getD_eq_getElem?_getD, q]
  rfl
theorem WS.door {hs : List HR} {bs : List BR} {rows ms : List (List Int)} (a : WS hs bs rows ms) {s k j : Nat} (sl : s < ms.length) (ed : (doorsOf "in" hs)[j]? = some k) : Vm ms s k = gD (rows.getD s []) j := by
  have em : ms[s]? = some ms[s] := List.getElem?_eq_getElem sl
  have er : rows[s]? = some (rows[s]'(by rw [← a.len]; exact sl)) := List.getElem?_eq_getElem _
  have B := a.at_ s _ _ er em
  unfold Vm
  rw [getD_at em, getD_at er]
  show ms[s].getD k 0 = (rows[s]'_).getD j 0
  rw [List.getD_eq_getElem?_getD, List.getD_eq_getElem?_getD, B.door j k ed]
theorem rank_ind {n : Nat} {rk : Nat → Int} {P : Nat → Prop} (step : ∀ k, k < n → (∀ j, j < n → rk j < rk k → P j) → P k) : ∀ k, k < n → P k := by
  obtain ⟨B, b0, hB⟩ := rk_bound rk n
  have key : ∀ (m : Nat) (k : Nat), k < n → rk k + B < (m : Int) → P k := by
    intro m
    induction m with
    | zero => intro k hk h; have := hB k hk; omega
    | succ m ih =>
      intro k hk h
      refine step k hk fun j hj l => ih j hj ?_
      omega
  intro k hk
  exact key (rk k + B + 1).toNat k hk (by have := hB k hk; omega)
theorem map_cong {α β : Type} {l : List α} {f g : α → β} (h : ∀ x ∈ l, f x = g x) : l.map f = l.map g := List.map_congr_left h
/-- shifts that leave no belt below none, nought at in doors -/
structure Lets (hs : List HR) (bs : List BR) (sh : Nat → Int) : Prop where
  ins : ∀ k ∈ doorsOf "in" hs, sh k = 0
  tr : ∀ b ∈ bs, 0 ≤ trS sh b
/-- what a hand makes leans on no rows beyond its bell and its shift -/
theorem rows_agree {hs : List HR} {bs : List BR} {sh : Nat → Int} {R R' ms ms' : List (List Int)} (ok : RoomOk hs bs) (le : Lets hs bs sh) (a : WS hs bs R ms) (a' : WS hs bs R' ms') {N : Int} (ag : ∀ u : Nat, (u : Int) ≤ N → R.getD u [] = R'.getD u []) :
    ∀ s k, k < hs.length → s < ms.length → s < ms'.length → (s : Int) + sh k ≤ N → Vm ms s k = Vm ms' s k := by
  obtain ⟨rk, hrk⟩ := ok.rank
  intro s
  induction s using Nat.strongRecOn with
  | _ s ih =>
    refine rank_ind (rk := rk) fun k kn ihk s1 s2 hN => ?_
    have eh : hs[k]? = some hs[k] := List.getElem?_eq_getElem kn
    by_cases w : hs[k].wd = "in"
    · have km := mem_doors.mpr ⟨_, eh, w⟩
      obtain ⟨j, hj⟩ := List.getElem?_of_mem km
      rw [a.door s1 hj, a'.door s2 hj, ag s (by have := le.ins k km; omega)]
    · rw [a.hand s1 eh w, a'.hand s2 eh w]
      refine congrArg _ (map_cong fun b hb => ?_)
      obtain ⟨hb, hk⟩ := List.mem_filter.mp hb
      have hk : b.to = k := of_decide_eq_true hk
      have t0 := le.tr b hb
      have d : trS sh b = (b.th.length : Int) + sh b.to - sh b.one := rfl
      obtain ⟨l1, l2⟩ := ok.ends b hb
      unfold takenAt
      by_cases c : s < b.th.length
      · rw [if_pos c, if_pos c]
      · rw [if_neg c, if_neg c]
        show Vm ms (s - b.th.length) b.one = Vm ms' (s - b.th.length) b.one
        rw [hk] at d
        by_cases e : b.th = []
        · have e0 : b.th.length = 0 := by rw [e]; rfl
          rw [e0, Nat.sub_zero]
          exact ihk b.one l1 (by rw [← hk]; exact hrk b hb e) s1 s2 (by omega)
        · have pos := List.length_pos_iff.mpr e
          exact ih (s - b.th.length) (by omega) b.one l1 (by omega) (by omega) (by omega)
theorem mov_filter {bs : List BR} {sh : Nat → Int} {w : Int} {ms : List (List Int)} {k : Nat} : (bs.map (movB sh w ms)).filter (fun b => decide (b.to = k)) = (bs.filter fun b => decide (b.to = k)).map (movB sh w ms) := by
  rw [List.filter_map]
  rfl
/-- the moved room makes what the first one makes, later by what it waits, less the shift -/
theorem moved_on {hs : List HR} {bs : List BR} {sh : Nat → Int} {w : Nat} {R0 R1 T0 T ms0 ms ms1 : List (List Int)} (ok : RoomOk hs bs) (okg : RoomOk hs (bs.map (movB sh ((w : Nat) : Int) ms0))) (le : Lets hs bs sh) (lw : R0.length = w) (wt : ∀ k, k < hs.length → sh k ≤ ((w : Nat) : Int))
    (a0 : WS hs bs (R0 ++ T0) ms0) (l0 : ∀ k, k < hs.length → ((w : Nat) : Int) - sh k ≤ (ms0.length : Int)) (a : WS hs bs ((R0 ++ R1) ++ T) ms) (a1 : WS hs (bs.map (movB sh ((w : Nat) : Int) ms0)) R1 ms1) :
    ∀ t k, k < hs.length → t < ms1.length → (t : Int) + w - sh k < (ms.length : Int) → Vm ms1 t k = Vm ms ((t : Int) + w - sh k).toNat k := by
  obtain ⟨rk, hrk⟩ := okg.rank
  intro t
  induction t using Nat.strongRecOn with
  | _ t ih =>
    refine rank_ind (rk := rk) fun k kn ihk t1 t2 => ?_
    have eh : hs[k]? = some hs[k] := List.getElem?_eq_getElem kn
    have wk := wt k kn
    obtain ⟨s, es⟩ : ∃ s : Nat, (t : Int) + w - sh k = (s : Int) := ⟨((t : Int) + w - sh k).toNat, by omega⟩
    rw [es, Int.toNat_natCast]
    have sl : s < ms.length := by omega
    have l1 := a1.len
    by_cases wd : hs[k].wd = "in"
    · have km := mem_doors.mpr ⟨_, eh, wd⟩
      obtain ⟨j, hj⟩ := List.getElem?_of_mem km
      have z := le.ins k km
      rw [a1.door t1 hj, a.door sl hj]
      have e1 : s = R0.length + t := by omega
      rw [e1, List.getD_eq_getElem?_getD, List.getD_eq_getElem?_getD, List.getElem?_append_left (by rw [List.length_append]; omega), List.getElem?_append_right (by omega), Nat.add_sub_cancel_left]
    · rw [a1.hand t1 eh wd, a.hand sl eh wd, mov_filter, List.map_map]
      refine congrArg _ (map_cong fun b hb => ?_)
      obtain ⟨hb, hk⟩ := List.mem_filter.mp hb
      have hk : b.to = k := of_decide_eq_true hk
      have t0 := le.tr b hb
      have d : trS sh b = (b.th.length : Int) + sh b.to - sh b.one := rfl
      obtain ⟨l1, l2⟩ := ok.ends b hb
      have wo := wt b.one l1
      have lo := l0 b.one l1
      show takenAt (movB sh w ms0 b) ms1 t = takenAt b ms s
      obtain ⟨n0, en0⟩ : ∃ n0 : Nat, trS sh b = ((n0 : Nat) : Int) := ⟨(trS sh b).toNat, by omega⟩
      have lth : (movB sh w ms0 b).th.length = n0 := by rw [mov_th, en0, Int.toNat_natCast]
      rw [hk] at d
      unfold takenAt
      rw [lth]
      by_cases c : t < n0
      · rw [if_pos c]
        have ei : gD (movB sh w ms0 b).th t = takenAt b ms0 s := by
          show ((List.range (trS sh b).toNat).map fun i => takenAt b ms0 ((((w : Nat) : Int) - sh b.to).toNat + i)).getD t 0 = _
          rw [List.getD_eq_getElem?_getD, List.getElem?_map, en0, Int.toNat_natCast, List.getElem?_range c, hk]
          show takenAt b ms0 _ = _
          congr 1
          omega
        rw [ei]
        unfold takenAt
        by_cases c2 : s < b.th.length
        · rw [if_pos c2, if_pos c2]
        · rw [if_neg c2, if_neg c2]
          refine rows_agree ok le a0 a (N := (w : Int) - 1) (fun u hu => ?_) (s - b.th.length) b.one l1 (by omega) (by omega) (by omega)
          rw [List.getD_eq_getElem?_getD, List.getD_eq_getElem?_getD, List.append_assoc, List.getElem?_append_left (by omega), List.getElem?_append_left (by omega)]
      · rw [if_neg c, if_neg (by omega)]
        show Vm ms1 (t - n0) b.one = Vm ms (s - b.th.length) b.one
        have ev : ((t - n0 : Nat) : Int) + w - sh b.one = ((s - b.th.length : Nat) : Int) := by omega
        have fin : Vm ms1 (t - n0) b.one = Vm ms (((t - n0 : Nat) : Int) + w - sh b.one).toNat b.one := by
          by_cases e : n0 = 0
          · subst e
            rw [Nat.sub_zero] at *
            refine ihk b.one l1 ?_ t1 (by omega)
            have := hrk (movB sh w ms0 b) (List.mem_map.mpr ⟨b, hb, rfl⟩) (List.length_eq_zero_iff.mp lth)
            rw [← hk]
            exact this
          · exact ih (t - n0) (by omega) b.one l1 (by omega) (by omega)
        rw [fin, ev, Int.toNat_natCast]
/-! ### bells are there -/
theorem part_ex {hs : List HR} {cur : List BR} {ins : List Int} {rk : Nat → Int} (hr : ∀ p ∈ looseOf cur, rk p.1 < rk p.2) (ends : ∀ b ∈ cur, b.one < hs.length) : ∀ (n : Nat) (pm : Nat → Option Int), Part hs cur ins pm → (∀ (k : Nat) (h : HR), hs[k]? = some h → h.wd = "in" → (pm k).isSome = true) → ((List.range hs.length).filter fun k => decide (pm k = none)).length ≤ n → ∃ m, IsBell hs cur ins m := by
  intro n
  induction n with
  | zero =>
    intro pm p _ l
    refine ⟨_, p.full fun k hk => ?_⟩
    cases e : pm k with
    | some v => rfl
    | none =>
      have m : k ∈ (List.range hs.length).filter fun k => decide (pm k = none) := List.mem_filter.mpr ⟨List.mem_range.mpr hk, decide_eq_true e⟩
      rw [List.length_eq_zero_iff.mp (Nat.le_zero.mp l)] at m
      cases m
  | succ n ih =>
    intro pm p dr l
    by_cases e : ((List.range hs.length).filter fun k => decide (pm k = none)) = []
    · refine ⟨_, p.full fun k hk => ?_⟩
      cases e2 : pm k with
      | some v => rfl
      | none =>
        have m : k ∈ (List.range hs.length).filter fun k => decide (pm k = none) := List.mem_filter.mpr ⟨List.mem_range.mpr hk, decide_eq_true e2⟩
        rw [e] at m
        cases m
    · obtain ⟨k, hk, fr⟩ := some_free hr e
      obtain ⟨h1, h2⟩ := List.mem_filter.mp hk
      have kl := List.mem_range.mp h1
      have kn : pm k = none := of_decide_eq_true h2
      have eh : hs[k]? = some hs[k] := List.getElem?_eq_getElem kl
      have w : hs[k].wd ≠ "in" := fun z => by have := dr k _ eh z; rw [kn] at this; cases this
      have there : ∀ b ∈ cur, b.to = k → b.th = [] → (pm b.one).isSome = true := fun b hb et en => by
        have nf := fr (b.one, b.to) (mem_loose hb en) et
        cases e3 : pm b.one with
        | some v => rfl
        | none => exact absurd (List.mem_filter.mpr ⟨List.mem_range.mpr (ends b hb), decide_eq_true e3⟩) nf
      refine ih _ (p.put eh w kn there) (fun j h e1 e2 => ?_) ?_
      · show (if j = k then _ else pm j).isSome = true
        split
        · rfl
        · exact dr j h e1 e2
      · have sub : (List.range hs.length).filter (fun j => decide (putM pm k (mkR hs[k] (takes cur (fun j => (pm j).getD 0) k)) j = none)) = ((List.range hs.length).filter fun j => decide (pm j = none)).filter fun j => decide (j ≠ k) := by
          rw [List.filter_filter]
          refine List.filter_congr fun j _ => ?_
          by_cases z : j = k
          · rw [show putM pm k (mkR hs[k] (takes cur (fun j => (pm j).getD 0) k)) j = some _ from if_pos z, decide_eq_false (fun y => nomatch y), decide_eq_false (not_not_intro z), Bool.false_and]
          · rw [show putM pm k (mkR hs[k] (takes cur (fun j => (pm j).getD 0) k)) j = pm j from if_neg z, decide_eq_true z, Bool.true_and]
        rw [sub]
        have lt : (((List.range hs.length).filter fun j => decide (pm j = none)).filter fun j => decide (j ≠ k)).length < ((List.range hs.length).filter fun j => decide (pm j = none)).length :=
          List.length_filter_lt_length_iff_exists.mpr ⟨k, hk, fun z => (of_decide_eq_true z) rfl⟩
        omega
theorem bell_ex {hs : List HR} {cur : List BR} {ins : List Int} {rk : Nat → Int} (hr : ∀ p ∈ looseOf cur, rk p.1 < rk p.2) (ends : ∀ b ∈ cur, b.one < hs.length) (hl : ins.length = (doorsOf "in" hs).length) : ∃ m, IsBell hs cur ins m :=
  part_ex hr ends _ (doorM hs ins) doorM_part (fun _ _ e w => doorM_all hl e w) (Nat.le_refl _)
theorem ws_ex {hs : List HR} {bs : List BR} (ok : RoomOk hs bs) {rows : List (List Int)} (hw : ∀ x ∈ rows, x.length = (doorsOf "in" hs).length) : ∃ ms, WS hs bs rows ms := by
  obtain ⟨rk, hrk⟩ := ok.rk
  have key : ∀ n, n ≤ rows.length → ∃ ms, WS hs bs (rows.take n) ms := by
    intro n
    induction n with
    | zero => intro _; exact ⟨[], WS.nil⟩
    | succ n ih =>
      intro hn
      obtain ⟨ms, ws⟩ := ih (by omega)
      have e : rows[n]? = some rows[n] := List.getElem?_eq_getElem (by omega)
      obtain ⟨m, hm⟩ := bell_ex (hs := hs) (cur := stand bs ms) (ins := rows[n]) (by rw [loose_stand]; exact hrk) (fun c hc => by
        obtain ⟨b, hb, rfl⟩ := List.mem_map.mp hc
        rw [stand_one]
        exact (ok.ends b hb).1) (hw _ (List.mem_of_getElem? e))
      refine ⟨ms ++ [m], ?_⟩
      rw [List.take_add_one, e]
      exact ws.snoc hm
  obtain ⟨ms, h⟩ := key rows.length (Nat.le_refl _)
  rw [List.take_length] at h
  exact ⟨ms, h⟩
/-! ### ways -/
def WayAt (H : Hp) (t : Addr) (k : Nat) (ns : List Nat) : Prop := ∃ g : Addr, H t = some (.tup [nV k, .ref g]) ∧ H g = some (.tup (ns.map nV))
theorem WayAt.keep {H H' : Hp} {t : Addr} {k : Nat} {ns : List Nat} (h : WayAt H t k ns) (s : TK H H') : WayAt H' t k ns := by
  obtain ⟨g, e1, e2⟩ := h
  exact ⟨g, s _ _ e1, s _ _ e2⟩
def momH (hs : List HR) (k : Nat) : Int := match hs[k]? with | some h => h.mom | none => 0
def trB (bs : List BR) (n : Nat) : Int := match bs[n]? with | some b => (b.th.length : Int) | none => 0
def toB (bs : List BR) (n : Nat) : Nat := match bs[n]? with | some b => b.to | none => 0
def wayEnd (bs : List BR) : Nat → List Nat → Option Nat
  | k, [] => some k
  | k, n :: ns => match bs[n]? with | some b => if b.one = k then wayEnd bs b.to ns else none | none => none
theorem wayEnd_cons {bs : List BR} {n k : Nat} {b : BR} {ns : List Nat} (e : bs[n]? = some b) : wayEnd bs k (n :: ns) = if b.one = k then wayEnd bs b.to ns else none := by
  show (match bs[n]? with | some b => if b.one = k then wayEnd bs b.to ns else none | none => none) = _
  rw [e]
theorem drop_at {α : Type} {ns : List α} {i : Nat} {n : α} (e : ns[i]? = some n) : ns.drop i = n :: ns.drop (i + 1) := by
  obtain ⟨h, z⟩ := List.getElem?_eq_some_iff.mp e
  rw [List.drop_eq_getElem_cons h, z]
def onV : Option Nat → V
  | none => .non
  | some k => nV k
section
variable {P : Program} {w : World} {K : PySem.W.Frag} {mg : Str → Option Value} {base : Heap}
def sp_trays_on (K : PySem.W.Frag) : Sp := fun vs H Q _ => ∃ (r t : Addr) (hs : List HR) (bs : List BR) (k : Nat) (ns : List Nat), vs = [.ref r, .ref t] ∧ RoomAt H r hs bs ∧ WayAt H t k ns ∧ (∀ n ∈ ns, n < bs.length) ∧ ns.length ≤ 400 ∧ ∀ H', Same H H' → Q (.int (ns.map (trB bs)).sum) H'
theorem ok_trays_on {f : Addr} {fd : FuncData} (F : Fun K "trays_on" "trays_on" s_trays_on f fd) {C : Addr} (T : Top K mg C) : FnOk P w K mg base CX0 1 f fd ["room", "way"] (sp_trays_on K) := by
  refine F.ok sc_trays_on (fun vs H Q E h => ?_) (fun cdv A outer s H vs Q E hr h => ?_)
  · obtain ⟨r, t, hs, bs, k, ns, rfl, _⟩ := h
    rfl
  obtain ⟨r, t, hs, bs, k, ns, rfl, hR, ⟨g, et, eg⟩, hn, ln, q⟩ := h
  obtain ⟨ha, ba, hv, bv, er, eh, eb, alh, alb⟩ := hR.ex
  refine ⟨_, (pss_one (ps_ret (pe_callB (cr_sumK K rfl rfl) (by rfl) T.m_sum (by decide +kernel) (pa_cons (pe_lc (own := [("number", 2)]) (g := gName 2) (tt := tYes) (by rfl) sc_trays_on.nd (pi_tupK K rfl (pe_ix (ix_tupK K rfl) (pv 1) pe_int (fun _ _ => rfl))) (blkOk_by (own := [("number", 2)]) (N := N_trays_on) (sc := defScope s_trays_on) (by decide +kernel)) (fun _ _ _ _ _ => (pg_name (i := 2) sc_trays_on.nd rfl (Or.inl rfl))) (fun _ _ _ _ _ => pts_nil) (fun _ _ _ _ _ => (pe_callB (call_len_seqK K rfl) (by rfl) T.m_len (by decide +kernel) (pa_cons (pe_ix (ix_tupK K rfl) (pe_ix (ix_tupK K rfl) (pe_ix (ix_tupK K rfl) (pv 0) pe_int (fun _ _ => rfl)) (pv 2) (fun _ _ => rfl)) pe_int (fun _ _ => rfl)) pa_nil)))) pa_nil)))), ?_⟩
  refine ⟨_, rfl, t, _, _, _, rfl, rfl, SqT.of et, atI_nat (j := 1) rfl, g, rfl, ⟨_, SqT.of eg⟩, fun D nD => lc_tup (K := K) (a := g) (xs := ns.map nV) (fun i H5 => H5 D = some (.lst (((ns.take i).map (trB bs)).map V.int)) ∧ Same H H5) ⟨upd_same, same_new nD⟩ (fun i H5 _ ⟨_, s5⟩ => SqT.of (s5 _ _ eg)) ?_ ?_⟩
  · rintro i x H5 hx ⟨hD, s5⟩
    obtain ⟨n, en, rfl⟩ := nats_at hx
    have il := (List.getElem?_eq_some_iff.mp en).1
    have nb := hn n (List.mem_of_getElem? en)
    have ebn : bs[n]? = some bs[n] := List.getElem?_eq_getElem nb
    obtain ⟨x, ex, ⟨t2, g2, rfl, e1, e2⟩⟩ := alb.get ebn
    refine ⟨rfl, yes_in ⟨_, rfl, r, _, _, _, rfl, rfl, SqT.of (s5 _ _ er), atI_nat (j := 1) rfl, _, rfl, ba, _, _, _, rfl, rfl, SqT.of (s5 _ _ eb), atI_nat ex, t2, _, _, _, rfl, rfl, SqT.of (s5 _ _ e1), atI_nat (j := 2) rfl, g2, _, rfl, .inr (SqT.of (s5 _ _ e2)), _, hD, ?_, ?_, Same.own s5 nD⟩⟩
    · rw [List.length_map, List.length_map, List.length_take]; exact small1000 (by omega)
    · rw [upd_same, List.take_add_one, en, List.map_append, List.map_append, List.length_map]
      show _ = some (HO.lst (_ ++ [V.int (trB bs n)]))
      unfold trB
      rw [ebn]
  · rintro H5 ⟨hD, s5⟩
    rw [List.length_map, List.take_length] at hD
    exact ⟨D, _, rfl, SqL.of hD, q _ s5⟩
def momW (hs : List HR) (bs : List BR) (k : Nat) (ns : List Nat) : Int := momH hs k + (ns.map fun n => momH hs (toB bs n)).sum
def sp_moments_on (K : PySem.W.Frag) : Sp := fun vs H Q _ => ∃ (r t : Addr) (hs : List HR) (bs : List BR) (k : Nat) (ns : List Nat), vs = [.ref r, .ref t] ∧ RoomAt H r hs bs ∧ (∀ b ∈ bs, b.to < hs.length) ∧ WayAt H t k ns ∧ k < hs.length ∧ (∀ n ∈ ns, n < bs.length) ∧ ns.length ≤ 400 ∧ ∀ H', Same H H' → Q (.int (momW hs bs k ns)) H'
theorem ok_moments_on {f : Addr} {fd : FuncData} (F : Fun K "moments_on" "moments_on" s_moments_on f fd) {C : Addr} (T : Top K mg C) : FnOk P w K mg base CX0 1 f fd ["room", "way"] (sp_moments_on K) := by
  refine F.ok sc_moments_on (fun vs H Q E h => ?_) (fun cdv A outer s H vs Q E hr h => ?_)
  · obtain ⟨r, t, hs, bs, k, ns, rfl, _⟩ := h
    rfl
  obtain ⟨r, t, hs, bs, k, ns, rfl, hR, hto, ⟨g, et, eg⟩, hk, hn, ln, q⟩ := h
  obtain ⟨ha, ba, hv, bv, er, eh, eb, alh, alb⟩ := hR.ex
  refine ⟨_, (pss_cons (ps_asg (pv 0) (pg_tupK K rfl rfl (pgs_cons (pg_name (i := 2) sc_moments_on.nd rfl (Or.inr rfl)) (pgs_cons (pg_name (i := 3) sc_moments_on.nd rfl (Or.inr rfl)) pgs_nil))))
      (pss_cons (ps_asg (pv 1) (pg_tupK K rfl rfl (pgs_cons (pg_name (i := 4) sc_moments_on.nd rfl (Or.inl rfl)) (pgs_cons (pg_name (i := 5) sc_moments_on.nd rfl (Or.inl rfl)) pgs_nil))))
      (pss_one (ps_ret (pe_op op_add (pe_ix (ix_tupK K rfl) (pe_ix (ix_tupK K rfl) (pv 2) (pv 4) (fun _ _ => rfl)) pe_int (fun _ _ => rfl)) (pe_callB (cr_sumK K rfl rfl) (by rfl) T.m_sum (by decide +kernel) (pa_cons (pe_lc (own := [("number", 6)]) (g := gName 6) (tt := tYes) (by rfl) sc_moments_on.nd (pi_tupK K rfl (pv 5)) (blkOk_by (own := [("number", 6)]) (N := N_moments_on) (sc := defScope s_moments_on) (by decide +kernel)) (fun _ _ _ _ _ => (pg_name (i := 6) sc_moments_on.nd rfl (Or.inl rfl))) (fun _ _ _ _ _ => pts_nil) (fun _ _ _ _ _ => (pe_ix (ix_tupK K rfl) (pe_ix (ix_tupK K rfl) (pv 2) (pe_ix (ix_tupK K rfl) (pe_ix (ix_tupK K rfl) (pv 3) (pv 6) (fun _ _ => rfl)) pe_int (fun _ _ => rfl)) (fun _ _ => rfl)) pe_int (fun _ _ => rfl)))) pa_nil))))))), ?_⟩
  refine ⟨_, rfl, r, _, rfl, SqT.of er, rfl, _, _, rfl, _, _, rfl, rfl, ?_⟩
  refine ⟨_, rfl, t, _, rfl, SqT.of et, rfl, _, _, rfl, _, _, rfl, rfl, ?_⟩
  have ehk : hs[k]? = some hs[k] := List.getElem?_eq_getElem hk
  obtain ⟨x0, ex0, ⟨t0, r0, rfl, e01, e02⟩⟩ := alh.get ehk
  refine ⟨_, rfl, _, rfl, ha, _, _, _, rfl, rfl, SqT.of eh, atI_nat ex0, t0, _, _, _, rfl, rfl, SqT.of e01, atI_nat (j := 1) rfl, ?_⟩
  refine ⟨_, rfl, g, rfl, ⟨_, SqT.of eg⟩, fun D nD => lc_tup (K := K) (a := g) (xs := ns.map nV) (fun i H5 => H5 D = some (.lst (((ns.take i).map fun n => momH hs (toB bs n)).map V.int)) ∧ Same H H5) ⟨upd_same, same_new nD⟩ (fun i H5 _ ⟨_, s5⟩ => SqT.of (s5 _ _ eg)) ?_ ?_⟩
  · rintro i x H5 hx ⟨hD, s5⟩
    obtain ⟨n, en, rfl⟩ := nats_at hx
    have il := (List.getElem?_eq_some_iff.mp en).1
    have nb := hn n (List.mem_of_getElem? en)
    have ebn : bs[n]? = some bs[n] := List.getElem?_eq_getElem nb
    obtain ⟨x, ex, ⟨t2, g2, rfl, e1, e2⟩⟩ := alb.get ebn
    have tb := hto _ (List.getElem_mem nb)
    have eht : hs[bs[n].to]? = some hs[bs[n].to] := List.getElem?_eq_getElem tb
    obtain ⟨y, ey, ⟨t3, r3, rfl, e31, e32⟩⟩ := alh.get eht
    refine ⟨rfl, yes_in ⟨_, rfl, _, rfl, _, rfl, ba, _, _, _, rfl, rfl, SqT.of (s5 _ _ eb), atI_nat ex, t2, _, _, _, rfl, rfl, SqT.of (s5 _ _ e1), atI_nat (j := 1) rfl, ha, _, _, _, rfl, rfl, SqT.of (s5 _ _ eh), atI_nat ey, t3, _, _, _, rfl, rfl, SqT.of (s5 _ _ e31), atI_nat (j := 1) rfl, _, hD, ?_, ?_, Same.own s5 nD⟩⟩
    · rw [List.length_map, List.length_map, List.length_take]; exact small1000 (by omega)
    · rw [upd_same, List.take_add_one, en, List.map_append, List.map_append]
      show _ = some (HO.lst (_ ++ [V.int (momH hs (toB bs n))]))
      unfold momH toB
      rw [ebn]
      dsimp only
      rw [eht]
  · rintro H5 ⟨hD, s5⟩
    rw [List.length_map, List.take_length] at hD
    refine ⟨D, _, rfl, SqL.of hD, _, _, rfl, rfl, ?_⟩
    have := q _ s5
    unfold momW at this
    rw [show momH hs k = hs[k].mom by unfold momH; rw [ehk]] at this
    exact this
end
theorem nodup_len : ∀ (n : Nat) (l : List Nat), l.Nodup → (∀ x ∈ l, x < n) → l.length ≤ n
  | 0, l, _, h => by
    cases l with
    | nil => exact Nat.le_refl _
    | cons a l => exact absurd (h a (List.mem_cons_self ..)) (Nat.not_lt_zero _)
  | n + 1, l, nd, h => by
    by_cases m : n ∈ l
    · have ih := nodup_len n (l.erase n) (nd.erase n) fun x hx => by
        have hx := (List.Nodup.mem_erase_iff nd).mp hx
        have := h x hx.2
        have := hx.1
        omega
      rw [List.length_erase_of_mem m] at ih
      omega
    · have ih := nodup_len n l nd fun x hx => by
        have h1 := h x hx
        have : x ≠ n := fun z => m (z ▸ hx)
        omega
      omega
theorem pigeon {n : Nat} {g : Nat → Nat} {m : Nat} (h : ∀ i, i < m → g i < n) (hm : n < m) : ∃ i j, i < j ∧ j < m ∧ g i = g j := by
  refine Classical.byContradiction fun no => ?_
  have nd : ((List.range m).map g).Nodup := by
    unfold List.Nodup
    rw [List.pairwise_map]
    exact List.Pairwise.imp_of_mem (fun ha hb lt e => no ⟨_, _, lt, List.mem_range.mp hb, e⟩) List.pairwise_lt_range
  have := nodup_len n _ nd fun x hx => by
    obtain ⟨i, hi, rfl⟩ := List.mem_map.mp hx
    exact h i (List.mem_range.mp hi)
  rw [List.length_map, List.length_range] at this
  omega
/-! ### levels: mathematics -/
structure St3 where
  u : Nat
  v : Nat
  w : Int
def Feas (st : List St3) : Prop := ∃ lv : Nat → Int, ∀ s ∈ st, lv s.u + s.w ≤ lv s.v
structure Lv (st : List St3) (i j : Nat) (lv : Nat → Int) (la : Nat → Option Nat) (r t : Nat → Nat) (now : Nat) : Prop where
  bk : ∀ p k, la p = some k → ∃ s, st[k]? = some s ∧ s.v = p ∧ lv p ≤ lv s.u + s.w ∧ (t p ≤ t s.u → lv p < lv s.u + s.w) ∧ r p ≤ r s.u + 1
  has : ∀ p, 1 ≤ r p → ∃ k, la p = some k
  tn : ∀ p, t p ≤ now
  rl : ∀ p, r p ≤ i
  sat : ∀ k s, st[k]? = some s → lv s.u + s.w ≤ lv s.v ∨ (if k < j then i else i - 1) ≤ r s.u
def put {α : Type} (f : Nat → α) (p : Nat) (x : α) : Nat → α := fun q => if q = p then x else f q
theorem put_at {α : Type} {f : Nat → α} {p : Nat} {x : α} : put f p x p = x := if_pos rfl
theorem put_ne {α : Type} {f : Nat → α} {p q : Nat} {x : α} (h : q ≠ p) : put f p x q = f q := if_neg h
theorem Lv.start {st : List St3} : Lv st 1 0 (fun _ => 0) (fun _ => none) (fun _ => 0) (fun _ => 0) 0 :=
  ⟨(fun _ _ z => nomatch z), fun p z => absurd z (by decide), fun _ => Nat.le_refl _, fun _ => Nat.zero_le _, fun k s _ => .inr (by rw [if_neg (Nat.not_lt_zero _)]; exact Nat.le_refl _)⟩
theorem Lv.idle {st : List St3} {i j : Nat} {lv : Nat → Int} {la : Nat → Option Nat} {r t : Nat → Nat} {now : Nat} (L : Lv st i j lv la r t now) {s : St3} (es : st[j]? = some s) (h : ¬ lv s.u + s.w > lv s.v) : Lv st i (j + 1) lv la r t now := by
  refine { L with sat := fun k s2 e => ?_ }
  by_cases z : k = j
  · subst z
    rw [es] at e
    cases e
    exact .inl (by omega)
  · rcases L.sat k s2 e with y | y
    · exact .inl y
    · refine .inr ?_
      by_cases x : k < j
      · rw [if_pos x] at y; rw [if_pos (by omega)]; exact y
      · rw [if_neg x] at y; rw [if_neg (by omega)]; exact y
theorem Lv.lift {st : List St3} {i j : Nat} {lv : Nat → Int} {la : Nat → Option Nat} {r t : Nat → Nat} {now : Nat} (L : Lv st i j lv la r t now) {s : St3} (es : st[j]? = some s) (h : lv s.u + s.w > lv s.v) :
    Lv st i (j + 1) (put lv s.v (lv s.u + s.w)) (put la s.v (some j)) (put r s.v i) (put t s.v (now + 1)) (now + 1) := by
  have ru : i ≤ r s.u + 1 := by
    rcases L.sat j s es with y | y
    · omega
    · rw [if_neg (Nat.lt_irrefl _)] at y; omega
  have rge : ∀ p, r p ≤ put r s.v i p := fun p => by
    by_cases z : p = s.v
    · rw [z, put_at]; exact L.rl _
    · rw [put_ne z]; exact Nat.le_refl _
  have lge : ∀ p, lv p ≤ put lv s.v (lv s.u + s.w) p := fun p => by
    by_cases z : p = s.v
    · rw [z, put_at]; omega
    · rw [put_ne z]; exact Int.le_refl _
  refine ⟨fun p k e => ?_, fun p z => ?_, fun p => ?_, fun p => ?_, fun k s2 e => ?_⟩
  · by_cases z : p = s.v
    · subst z
      rw [put_at] at e
      cases e
      refine ⟨s, es, rfl, ?_, fun y => ?_, ?_⟩
      · rw [put_at]
        have := lge s.u
        omega
      · rw [put_at] at y ⊢
        by_cases x : s.u = s.v
        · rw [x, put_at]
          rw [x] at h
          omega
        · rw [put_ne x] at y
          have := L.tn s.u
          omega
      · rw [put_at]
        have := rge s.u
        omega
    · rw [put_ne z] at e
      obtain ⟨s2, e1, e2, e3, e4, e5⟩ := L.bk p k e
      refine ⟨s2, e1, e2, ?_, fun y => ?_, ?_⟩
      · rw [put_ne z]
        have := lge s2.u
        omega
      · rw [put_ne z]
        by_cases x : s2.u = s.v
        · rw [x, put_at]
          rw [x] at e3
          omega
        · rw [put_ne x]
          rw [put_ne x, put_ne z] at y
          exact e4 y
      · rw [put_ne z]
        have := rge s2.u
        omega
  · by_cases y : p = s.v
    · exact ⟨j, by rw [y, put_at]⟩
    · rw [put_ne y] at z ⊢
      exact L.has p z
  · by_cases y : p = s.v
    · rw [y, put_at]; exact Nat.le_refl _
    · rw [put_ne y]; exact Nat.le_succ_of_le (L.tn p)
  · by_cases y : p = s.v
    · rw [y, put_at]; exact Nat.le_refl _
    · rw [put_ne y]; exact L.rl p
  · by_cases x : s2.u = s.v
    · refine .inr ?_
      rw [x, put_at]
      split <;> omega
    · rw [put_ne x, put_ne x]
      by_cases z : k = j
      · subst z
        rw [es] at e
        cases e
        exact .inl (by rw [put_at]; exact Int.le_refl _)
      · rcases L.sat k s2 e with y | y
        · exact .inl (Int.le_trans y (lge _))
        · refine .inr ?_
          by_cases q : k < j
          · rw [if_pos q] at y; rw [if_pos (by omega)]; exact y
          · rw [if_neg q] at y; rw [if_neg (by omega)]; exact y
theorem Lv.next {st : List St3} {i : Nat} {lv : Nat → Int} {la : Nat → Option Nat} {r t : Nat → Nat} {now : Nat} (L : Lv st i st.length lv la r t now) : Lv st (i + 1) 0 lv la r t now := by
  refine { L with rl := fun p => Nat.le_succ_of_le (L.rl p), sat := fun k s e => ?_ }
  rcases L.sat k s e with y | y
  · exact .inl y
  · refine .inr ?_
    rw [if_pos (List.getElem?_eq_some_iff.mp e).1] at y
    rw [if_neg (Nat.not_lt_zero _)]
    exact y
theorem Lv.feas {st : List St3} {i : Nat} {lv : Nat → Int} {la : Nat → Option Nat} {r t : Nat → Nat} {now : Nat} (L : Lv st i st.length lv la r t now) (h : ∀ p, r p < i) : ∀ s ∈ st, lv s.u + s.w ≤ lv s.v := fun s hs => by
  obtain ⟨k, e⟩ := List.getElem?_of_mem hs
  rcases L.sat k s e with y | y
  · exact y
  · rw [if_pos (List.getElem?_eq_some_iff.mp e).1] at y
    have := h s.u
    omega
/-- one step back -/
def back (st : List St3) (la : Nat → Option Nat) (p : Nat) : Nat := match la p with
  | none => p
  | some k => match st[k]? with
    | none => p
    | some s => s.u
def backs (st : List St3) (la : Nat → Option Nat) (p : Nat) : Nat → Nat
  | 0 => p
  | k + 1 => back st la (backs st la p k)
theorem backs_add {st : List St3} {la : Nat → Option Nat} {p : Nat} : ∀ {a b k : Nat}, backs st la p a = backs st la p b → backs st la p (a + k) = backs st la p (b + k)
  | _, _, 0, h => h
  | a, b, k + 1, h => by
    show back st la (backs st la p (a + k)) = back st la (backs st la p (b + k))
    rw [backs_add h]
theorem Lv.back_r {st : List St3} {i j : Nat} {lv : Nat → Int} {la : Nat → Option Nat} {r t : Nat → Nat} {now : Nat} (L : Lv st i j lv la r t now) (p : Nat) : r p ≤ r (back st la p) + 1 := by
  unfold back
  cases e : la p with
  | none => dsimp only; omega
  | some k =>
    obtain ⟨s, e1, _, _, _, e5⟩ := L.bk p k e
    dsimp only
    rw [e1]
    exact e5
theorem Lv.backs_r {st : List St3} {i j : Nat} {lv : Nat → Int} {la : Nat → Option Nat} {r t : Nat → Nat} {now : Nat} (L : Lv st i j lv la r t now) (p : Nat) : ∀ k, r p ≤ r (backs st la p k) + k
  | 0 => Nat.le_refl _
  | k + 1 => by
    have := L.backs_r p k
    have := L.back_r (backs st la p k)
    show r p ≤ r (back st la (backs st la p k)) + (k + 1)
    omega
/-- from a place that was raised in the last of as many rounds as there are places the steps back lead onto a ring -/
theorem Lv.ring {st : List St3} {n : Nat} {lv : Nat → Int} {la : Nat → Option Nat} {r t : Nat → Nat} {now : Nat} (L : Lv st n st.length lv la r t now) (hu : ∀ s ∈ st, s.u < n) {p : Nat} (hp : p < n) (hr : r p = n) :
    ∃ c, 1 ≤ c ∧ c ≤ n ∧ backs st la p (n + c) = backs st la p n ∧ (∀ k, n ≤ k → ∃ m, la (backs st la p k) = some m) ∧ (∀ k, backs st la p k < n) ∧ ∀ k, k < n → ∃ m, la (backs st la p k) = some m := by
  have lt : ∀ k, backs st la p k < n := fun k => by
    induction k with
    | zero => exact hp
    | succ k ih =>
      show back st la (backs st la p k) < n
      unfold back
      cases e : la (backs st la p k) with
      | none => exact ih
      | some m =>
        obtain ⟨s, e1, _⟩ := L.bk _ m e
        dsimp only
        rw [e1]
        exact hu s (List.mem_of_getElem? e1)
  have some_ : ∀ k, k < n → ∃ m, la (backs st la p k) = some m := fun k hk => by
    have := L.backs_r p k
    exact L.has _ (by omega)
  obtain ⟨a, b, ab, bn, e⟩ := pigeon (n := n) (g := backs st la p) (m := n + 1) (fun i _ => lt i) (by omega)
  have per : ∀ k, a ≤ k → backs st la p (k + (b - a)) = backs st la p k := fun k hk => by
    have := backs_add (k := k - a) e
    rw [show a + (k - a) = k by omega, show b + (k - a) = k + (b - a) by omega] at this
    exact this.symm
  refine ⟨b - a, by omega, by omega, per n (by omega), fun k hk => ?_, lt, some_⟩
  have low : ∀ d k, k ≤ d → a ≤ k → ∃ j, j < n ∧ backs st la p k = backs st la p j := fun d => by
    induction d with
    | zero => exact fun k h1 h2 => ⟨k, by omega, rfl⟩
    | succ d ih =>
      intro k h1 h2
      by_cases z : k < n
      · exact ⟨k, z, rfl⟩
      · obtain ⟨j, j1, j2⟩ := ih (k - (b - a)) (by omega) (by omega)
        have := per (k - (b - a)) (by omega)
        rw [show k - (b - a) + (b - a) = k by omega] at this
        exact ⟨j, j1, by rw [this, j2]⟩
  obtain ⟨j, j1, j2⟩ := low k k (Nat.le_refl _) (by omega)
  rw [j2]
  exact some_ j j1
/-- the need of the step back from a place -/
def need (st : List St3) (la : Nat → Option Nat) (p : Nat) : Int := match la p with
  | none => 0
  | some k => match st[k]? with
    | none => 0
    | some s => s.w
def needs3 (st : List St3) (la : Nat → Option Nat) (p : Nat) (a : Nat) : Nat → Int
  | 0 => 0
  | k + 1 => needs3 st la p a k + need st la (backs st la p (a + k))
theorem Lv.sum_pos {st : List St3} {i j : Nat} {lv : Nat → Int} {la : Nat → Option Nat} {r t : Nat → Nat} {now : Nat} (L : Lv st i j lv la r t now) {p a c : Nat} (hc : 1 ≤ c) (e : backs st la p (a + c) = backs st la p a) (hs : ∀ k, a ≤ k → ∃ m, la (backs st la p k) = some m) : 0 < needs3 st la p a c := by
  have go : ∀ k, lv (backs st la p a) ≤ lv (backs st la p (a + k)) + needs3 st la p a k ∧ (lv (backs st la p a) < lv (backs st la p (a + k)) + needs3 st la p a k ∨ t (backs st la p (a + k)) + k ≤ t (backs st la p a)) := fun k => by
    induction k with
    | zero => exact ⟨by show lv (backs st la p a) ≤ lv (backs st la p a) + 0; omega, .inr (Nat.le_refl _)⟩
    | succ k ih =>
      obtain ⟨m, em⟩ := hs (a + k) (by omega)
      obtain ⟨s, e1, e2, e3, e4, e5⟩ := L.bk _ m em
      have eb : backs st la p (a + (k + 1)) = s.u := by
        show back st la (backs st la p (a + k)) = s.u
        unfold back
        rw [em]
        dsimp only
        rw [e1]
      have en : needs3 st la p a (k + 1) = needs3 st la p a k + s.w := by
        show needs3 st la p a k + need st la (backs st la p (a + k)) = _
        unfold need
        rw [em]
        dsimp only
        rw [e1]
      rw [eb, en]
      refine ⟨by omega, ?_⟩
      rcases ih.2 with y | y
      · exact .inl (by omega)
      · by_cases z : t (backs st la p (a + k)) ≤ t s.u
        · exact .inl (by have := e4 z; omega)
        · exact .inr (by omega)
  obtain ⟨g1, g2⟩ := go c
  rw [e] at g1 g2
  rcases g2 with y | y
  · omega
  · omega
theorem needs3_le {st : List St3} {la : Nat → Option Nat} {p a : Nat} {lv : Nat → Int} (f : ∀ s ∈ st, lv s.u + s.w ≤ lv s.v) (bk : ∀ p k, la p = some k → ∃ s, st[k]? = some s ∧ s.v = p) (hs : ∀ k, a ≤ k → ∃ m, la (backs st la p k) = some m) : ∀ k, needs3 st la p a k ≤ lv (backs st la p a) - lv (backs st la p (a + k))
  | 0 => by show (0 : Int) ≤ lv (backs st la p a) - lv (backs st la p a); omega
  | k + 1 => by
    have ih := needs3_le f bk hs k
    obtain ⟨m, em⟩ := hs (a + k) (by omega)
    obtain ⟨s, e1, e2⟩ := bk _ m em
    have eb : backs st la p (a + (k + 1)) = s.u := by
      show back st la (backs st la p (a + k)) = s.u
      unfold back
      rw [em]
      dsimp only
      rw [e1]
    have en : needs3 st la p a (k + 1) = needs3 st la p a k + s.w := by
      show needs3 st la p a k + need st la (backs st la p (a + k)) = _
      unfold need
      rw [em]
      dsimp only
      rw [e1]
    have := f s (List.mem_of_getElem? e1)
    rw [eb, en]
    rw [e2] at this
    omega
theorem Lv.not_feas {st : List St3} {n : Nat} {lv : Nat → Int} {la : Nat → Option Nat} {r t : Nat → Nat} {now : Nat} (L : Lv st n st.length lv la r t now) (hu : ∀ s ∈ st, s.u < n) {p : Nat} (hp : p < n) (hr : r p = n) : ¬ Feas st := fun ⟨lv0, f⟩ => by
  obtain ⟨c, c1, c2, e, hs, _⟩ := L.ring hu hp hr
  have h1 := L.sum_pos c1 e hs
  have h2 := needs3_le f (fun p k z => by obtain ⟨s, e1, e2, _⟩ := L.bk p k z; exact ⟨s, e1, e2⟩) hs c
  rw [e] at h2
  omega
theorem ixN_nat {n k : Nat} (h : k < n) : ixN n ((k : Nat) : Int) = some k := by
  unfold ixN
  rw [if_pos (by omega), if_pos (by omega)]
  simp
/-! ### levels: the program -/
def oV : Option Nat → V
  | none => .non
  | some k => nV k
abbrev lasL (n : Nat) (la : Nat → Option Nat) : List V := (List.range n).map fun p => oV (la p)
theorem rg_set {n p : Nat} {α : Type} {f : Nat → α} {g : α → V} {x : α} : ((List.range n).map fun q => g (f q)).set p (g x) = (List.range n).map fun q => g (put f p x q) := by
  refine List.ext_getElem? fun i => ?_
  by_cases e : i = p
  · subst e
    by_cases l : i < n
    · rw [List.getElem?_set_self (by rw [List.length_map, List.length_range]; exact l), rg_at l, put_at]
    · rw [List.getElem?_eq_none (by rw [List.length_set, List.length_map, List.length_range]; omega), List.getElem?_eq_none (by rw [List.length_map, List.length_range]; omega)]
  · rw [List.getElem?_set_ne (fun z => e z.symm)]
    by_cases l : i < n
    · rw [rg_at l, rg_at (f := fun q => g (put f p x q)) l, put_ne e]
    · rw [List.getElem?_eq_none (by rw [List.length_map, List.length_range]; omega), List.getElem?_eq_none (by rw [List.length_map, List.length_range]; omega)]
def StepAt (H : Hp) (v : V) (s : St3) : Prop := ∃ t : Addr, v = .ref t ∧ H t = some (.tup [nV s.u, nV s.v, .int s.w])
theorem StepAt.keep {H H' : Hp} {v : V} {s : St3} (h : StepAt H v s) (k : TK H H') : StepAt H' v s := by
  obtain ⟨t, e, h⟩ := h
  exact ⟨t, e, k _ _ h⟩
def StepsAt (H : Hp) (sl : Addr) (st : List St3) : Prop := ∃ sv : List V, H sl = some (.lst sv) ∧ All2 (StepAt H) sv st
def stepEnd (st : List St3) : Nat → List Nat → Option Nat
  | p, [] => some p
  | p, k :: ks => match st[k]? with | some s => if s.u = p then stepEnd st s.v ks else none | none => none
theorem stepEnd_cons {st : List St3} {k p : Nat} {s : St3} {ks : List Nat} (e : st[k]? = some s) : stepEnd st p (k :: ks) = if s.u = p then stepEnd st s.v ks else none := by
  show (match st[k]? with | some s => if s.u = p then stepEnd st s.v ks else none | none => none) = _
  rw [e]
def wS (st : List St3) (k : Nat) : Int := match st[k]? with | some s => s.w | none => 0
/-- a ring of steps that needs more than nothing -/
structure RingOk (st : List St3) (ks : List Nat) : Prop where
  ne : ks ≠ []
  lt : ∀ k ∈ ks, k < st.length
  cl : ∃ p, stepEnd st p ks = some p
  pos : 0 < (ks.map (wS st)).sum
theorem step_sum {st : List St3} {lv : Nat → Int} (f : ∀ s ∈ st, lv s.u + s.w ≤ lv s.v) : ∀ {ks : List Nat} {p q : Nat}, stepEnd st p ks = some q → lv p + (ks.map (wS st)).sum ≤ lv q
  | [], p, q, h => by cases h; show lv p + 0 ≤ lv p; omega
  | k :: ks, p, q, h => by
    cases e : st[k]? with
    | none =>
      have : stepEnd st p (k :: ks) = none := by
        show (match st[k]? with | some s => if s.u = p then stepEnd st s.v ks else none | none => none) = none
        rw [e]
      rw [this] at h; cases h
    | some s =>
      rw [stepEnd_cons e] at h
      by_cases z : s.u = p
      · rw [if_pos z] at h
        have ih := step_sum f h
        have := f s (List.mem_of_getElem? e)
        rw [List.map_cons, List.sum_cons, show wS st k = s.w by unfold wS; rw [e]]
        rw [z] at this
        omega
      · rw [if_neg z] at h; cases h
theorem RingOk.not_feas {st : List St3} {ks : List Nat} (r : RingOk st ks) : ¬ Feas st := fun ⟨lv, f⟩ => by
  obtain ⟨p, e⟩ := r.cl
  have := step_sum f e
  have := r.pos
  omega
section
variable {P : Program} {w : World} {K : PySem.W.Frag} {mg : Str → Option Value} {base : Heap}
def sp_raise_levels (K : PySem.W.Frag) : Sp := fun vs H Q _ => ∃ (ll lb sl : Addr) (n i : Nat) (st : List St3) (lv : Nat → Int) (la : Nat → Option Nat) (r t : Nat → Nat) (now : Nat), vs = [.ref ll, .ref lb, .ref sl] ∧ H ll = some (.lst (levL n lv)) ∧ H lb = some (.lst (lasL n la)) ∧ StepsAt H sl st ∧ ll ≠ lb ∧ sl ≠ ll ∧ sl ≠ lb ∧ (∀ s ∈ st, s.u < n ∧ s.v < n) ∧ st.length ≤ 400 ∧ Lv st i 0 lv la r t now ∧ (∀ p, r p < i) ∧
  ∀ (lv' : Nat → Int) (la' : Nat → Option Nat) (r' t' : Nat → Nat) (now' : Nat) (v : Option Nat) (H' : Hp), H' ll = some (.lst (levL n lv')) → H' lb = some (.lst (lasL n la')) → Lv st i st.length lv' la' r' t' now' → (v = none → ∀ p, r' p < i) → (∀ x, v = some x → x < n ∧ r' x = i) → (∀ p, lv p ≤ lv' p) → (∀ b o, H b = some o → b ≠ ll → b ≠ lb → H' b = some o) → Q (oV v) H'
theorem ok_raise_levels {f : Addr} {fd : FuncData} (F : Fun K "raise_levels" "raise_levels" s_raise_levels f fd) {C : Addr} (T : Top K mg C) : FnOk P w K mg base CX0 1 f fd ["levels", "last", "steps"] (sp_raise_levels K) := by
  refine F.ok sc_raise_levels (fun vs H Q E h => ?_) (fun cdv A outer s H vs Q E hr h => ?_)
  · obtain ⟨ll, lb, sl, n, i, st, lv, la, r, t, now, rfl, _⟩ := h
    rfl
  obtain ⟨ll, lb, sl, n, i, st, lv, la, r, t, now, rfl, hll, hlb, ⟨sv, hsl, als⟩, llb, sll, slb, bd, few, L, rlt, q⟩ := h
  have lsv := als.length
  refine ⟨_, (pss_cons (ps_set (i := 3) sc_raise_levels.nd rfl (Or.inl rfl) pe_non)
      (pss_cons (ps_for PassesOwn.never rfl (pi_enum (by rfl) T.m_enumerate (pa_cons (pv 2) pa_nil)) (pg_tupK K rfl rfl (pgs_cons (pg_name (i := 4) sc_raise_levels.nd rfl (Or.inl rfl)) (pgs_cons (pg_tupK K rfl rfl (pgs_cons (pg_name (i := 5) sc_raise_levels.nd rfl (Or.inl rfl)) (pgs_cons (pg_name (i := 6) sc_raise_levels.nd rfl (Or.inl rfl)) (pgs_cons (pg_name (i := 7) sc_raise_levels.nd rfl (Or.inl rfl)) pgs_nil)))) pgs_nil)))
        (pss_one (ps_if (pt_cmpR op_gt (pe_op op_add (pe_ix (ix_listK K rfl) (pv 0) (pv 5) (fun _ _ => rfl)) (pv 7)) (pe_ix (ix_listK K rfl) (pv 0) (pv 6) (fun _ _ => rfl)) (nomark _)) (pss_cons (ps_asg (pe_op op_add (pe_ix (ix_listK K rfl) (pv 0) (pv 5) (fun _ _ => rfl)) (pv 7)) (pg_sub (pv 0) (pv 6) set_list))
      (pss_cons (ps_asg (pv 4) (pg_sub (pv 1) (pv 6) set_list))
      (pss_one (ps_set (i := 3) sc_raise_levels.nd rfl (Or.inl rfl) (pv 6))))) pss_nil)))
      (pss_one (ps_ret (pv 3))))), ?_⟩
  refine ⟨_, rfl, sl, _, rfl, SqL.of hsl, for_it (n := sv.length) (fun j σ H2 => ∃ (lv' : Nat → Int) (la' : Nat → Option Nat) (r' t' : Nat → Nat) (now' : Nat) (v : Option Nat) (v4 v5 v6 v7 : Option V), σ = [some (.ref ll), some (.ref lb), some (.ref sl), some (oV v), v4, v5, v6, v7] ∧ H2 ll = some (.lst (levL n lv')) ∧ H2 lb = some (.lst (lasL n la')) ∧ Lv st i j lv' la' r' t' now' ∧ (v = none → ∀ p, r' p < i) ∧ (∀ x, v = some x → x < n ∧ r' x = i) ∧ (∀ p, lv p ≤ lv' p) ∧ (∀ b o, H b = some o → b ≠ ll → b ≠ lb → H2 b = some o))
    ⟨lv, la, r, t, now, none, none, none, none, none, rfl, hll, hlb, L, (fun _ => rlt), (fun _ z => nomatch z), (fun _ => Int.le_refl _), (fun _ _ e _ _ => e)⟩ ?_ ?_ ?_ ?_⟩
  · rintro j σ H2 hj ⟨lv', la', r', t', now', v, v4, v5, v6, v7, rfl, h1, h2, L, f1, f2, f3, fr⟩
    exact ⟨_, _, SqL.of (fr _ _ hsl sll slb), List.getElem?_eq_getElem hj⟩
  · rintro σ H2 ⟨lv', la', r', t', now', v, v4, v5, v6, v7, rfl, h1, h2, L, f1, f2, f3, fr⟩
    exact ⟨_, SqL.of (fr _ _ hsl sll slb), Nat.le_refl _⟩
  · rintro j x σ H2 H3 hj ⟨lv', la', r', t', now', v, v4, v5, v6, v7, rfl, h1, h2, L, f1, f2, f3, fr⟩ ⟨tt, y, rfl, ntt, rfl, fy⟩
    have ey := fy _ (SqL.of (fr _ _ hsl sll slb))
    obtain ⟨s, es, ⟨t2, rfl, e1⟩⟩ := als.getL ey
    obtain ⟨ul, vl⟩ := bd s (List.mem_of_getElem? es)
    have t2l : t2 ≠ ll := ne_of e1 hll (fun z => nomatch z)
    have t2b : t2 ≠ lb := ne_of e1 hlb (fun z => nomatch z)
    have e13 := same_new (o := .tup [V.int ((j : Nat) : Int), V.ref t2]) ntt _ _ (fr _ _ e1 t2l t2b)
    have h13 := same_new (o := .tup [V.int ((j : Nat) : Int), V.ref t2]) ntt _ _ h1
    have h23 := same_new (o := .tup [V.int ((j : Nat) : Int), V.ref t2]) ntt _ _ h2
    refine ⟨tt, _, rfl, SqT.of upd_same, rfl, _, _, rfl, _, _, rfl, t2, _, rfl, SqT.of e13, rfl, _, _, rfl, _, _, rfl, _, _, rfl, rfl, rfl, ?_⟩
    refine ⟨_, rfl, _, rfl, ll, _, _, _, rfl, rfl, SqL.of h13, atI_nat (rg_at ul), _, rfl, _, _, rfl, rfl, _, rfl, _, rfl, ll, _, _, _, rfl, rfl, SqL.of h13, atI_nat (rg_at vl), _, _, rfl, rfl, _, rfl, if_bl (fun c => ?_) (fun c => ?_)⟩
    · have c : lv' s.v < lv' s.u + s.w := of_decide_eq_true c
      refine ⟨_, rfl, _, rfl, ll, _, _, _, rfl, rfl, SqL.of h13, atI_nat (rg_at ul), _, rfl, _, _, rfl, rfl, _, rfl, _, rfl, ll, _, _, s.v, rfl, rfl, h13, ixN_nat (by rw [List.length_map, List.length_range]; exact vl), ?_⟩
      refine ⟨_, rfl, _, rfl, _, rfl, lb, _, _, s.v, rfl, rfl, (by rw [upd_ne llb.symm]; exact h23), ixN_nat (by rw [List.length_map, List.length_range]; exact vl), ?_⟩
      refine ⟨_, rfl, ?_⟩
      refine ⟨put lv' s.v (lv' s.u + s.w), put la' s.v (some j), put r' s.v i, put t' s.v (now' + 1), now' + 1, some s.v, _, _, _, _, rfl, ?_, ?_, L.lift es c, (fun z => nomatch z), (fun x z => ?_), fun p => ?_, fun b o e n1 n2 => ?_⟩
      · rw [upd_ne llb, upd_same]
        exact congrArg (fun l => some (HO.lst l)) (rg_set (g := V.int))
      · rw [upd_same]
        exact congrArg (fun l => some (HO.lst l)) (rg_set (g := oV) (x := some j))
      · cases z
        exact ⟨vl, put_at⟩
      · have := f3 p
        by_cases z : p = s.v
        · rw [z, put_at]; rw [z] at this; omega
        · rw [put_ne z]; exact this
      · rw [upd_ne n2, upd_ne n1]
        exact same_new ntt _ _ (fr b o e n1 n2)
    · have c : ¬ lv' s.v < lv' s.u + s.w := of_decide_eq_false c
      exact ⟨lv', la', r', t', now', v, _, _, _, _, rfl, h13, h23, L.idle es c, f1, f2, f3, fun b o e n1 n2 => same_new ntt _ _ (fr b o e n1 n2)⟩
  · rintro σ H2 ⟨lv', la', r', t', now', v, v4, v5, v6, v7, rfl, h1, h2, L, f1, f2, f3, fr⟩
    rw [lsv] at L
    exact ⟨_, rfl, q lv' la' r' t' now' v H2 h1 h2 L f1 f2 f3 fr⟩
def sp_ring_behind (K : PySem.W.Frag) : Sp := fun vs H Q _ => ∃ (lb sl : Addr) (n p : Nat) (st : List St3) (lv : Nat → Int) (la : Nat → Option Nat) (r t : Nat → Nat) (now : Nat), vs = [nV p, .ref lb, .ref sl] ∧ H lb = some (.lst (lasL n la)) ∧ StepsAt H sl st ∧ (∀ s ∈ st, s.u < n ∧ s.v < n) ∧ st.length ≤ 400 ∧ n ≤ 100 ∧ Lv st n st.length lv la r t now ∧ p < n ∧ r p = n ∧
  ∀ (pr : Addr) (ks : List Nat) (H' : Hp), H' pr = some (.lst (ks.map nV)) → RingOk st ks → ks.length ≤ n → Same H H' → Q (.ref pr) H'
theorem ok_ring_behind {f : Addr} {fd : FuncData} (F : Fun K "ring_behind" "ring_behind" s_ring_behind f fd) {C : Addr} (T : Top K mg C) : FnOk P w K mg base CX0 1 f fd ["place", "last", "steps"] (sp_ring_behind K) := by
  refine F.ok sc_ring_behind (fun vs H Q E h => ?_) (fun cdv A outer s H vs Q E hr h => ?_)
  · obtain ⟨lb, sl, n, p, st, lv, la, r, t, now, rfl, _⟩ := h
    rfl
  obtain ⟨lb, sl, n, p, st, lv, la, r, t, now, rfl, hlb, ⟨sv, hsl, als⟩, bd, few, n100, L, hp, hrp, q⟩ := h
  obtain ⟨c, c1, cn, cyc, hs, lt, hs0⟩ := L.ring (fun s z => (bd s z).1) hp hrp
  have lsv := als.length
  -- one step back, in the program
  have step : ∀ (k m : Nat), la (backs st la p k) = some m → ∃ s x t2, st[m]? = some s ∧ s.v = backs st la p k ∧ backs st la p (k + 1) = s.u ∧ sv[m]? = some x ∧ x = V.ref t2 ∧ H t2 = some (.tup [nV s.u, nV s.v, .int s.w]) := fun k m e => by
    obtain ⟨s, e1, e2, _⟩ := L.bk _ m e
    obtain ⟨x, ex, t2, rfl, h2⟩ := als.get e1
    refine ⟨s, _, t2, e1, e2, ?_, ex, rfl, h2⟩
    show back st la (backs st la p k) = s.u
    unfold back
    rw [e]
    dsimp only
    rw [e1]
  refine ⟨_, (pss_cons (ps_for PassesOwn.never rfl (pi_range1 (by rfl) T.m_range (pa_cons (pe_callB (call_len_seqK K rfl) (by rfl) T.m_len (by decide +kernel) (pa_cons (pv 1) pa_nil)) pa_nil)) (pg_name (i := 3) sc_ring_behind.nd rfl (Or.inl rfl))
        (pss_one (ps_set (i := 0) sc_ring_behind.nd rfl (Or.inl rfl) (pe_ix (ix_tupK K rfl) (pe_ix (ix_listK K rfl) (pv 2) (pe_ix (ix_listK K rfl) (pv 1) (pv 0) (fun _ _ => rfl)) (fun _ _ => rfl)) pe_int (fun _ _ => rfl)))))
      (pss_cons (ps_set (i := 4) sc_ring_behind.nd rfl (Or.inl rfl) (pe_lst (pa_cons (pe_ix (ix_listK K rfl) (pv 1) (pv 0) (fun _ _ => rfl)) pa_nil)))
      (pss_cons (ps_set (i := 5) sc_ring_behind.nd rfl (Or.inl rfl) (pe_ix (ix_tupK K rfl) (pe_ix (ix_listK K rfl) (pv 2) (pe_ix (ix_listK K rfl) (pv 1) (pv 0) (fun _ _ => rfl)) (fun _ _ => rfl)) pe_int (fun _ _ => rfl)))
      (pss_cons (ps_while PassesOwn.never (pt_cmpR op_ne (pv 5) (pv 0) (nomark _))
        (pss_cons (ps_expr (pe_bmK K rfl PySem.F.plainAttrs_list PySem.F.slot_list_append PySem.F.type_list_append mt_append (pv 4) (pa_cons (pe_ix (ix_listK K rfl) (pv 1) (pv 5) (fun _ _ => rfl)) pa_nil)))
      (pss_one (ps_set (i := 5) sc_ring_behind.nd rfl (Or.inl rfl) (pe_ix (ix_tupK K rfl) (pe_ix (ix_listK K rfl) (pv 2) (pe_ix (ix_listK K rfl) (pv 1) (pv 5) (fun _ _ => rfl)) (fun _ _ => rfl)) pe_int (fun _ _ => rfl))))))
      (pss_one (ps_ret (pe_revLK K rfl (pv 4)))))))), ?_⟩
  refine ⟨_, rfl, lb, _, rfl, .inl (SqL.of hlb), _, rfl, by rw [List.length_map, List.length_range]; omega, by rw [List.length_map, List.length_range]; omega, for_range (lo := 0) (n := (lasL n la).length) (fun k σ H2 => ∃ v3 v4 v5 : Option V, σ = [some (nV (backs st la p k)), some (.ref lb), some (.ref sl), v3, v4, v5] ∧ Same H H2) ⟨none, none, none, rfl, Same.refl _⟩ ?_ ?_⟩
  · rintro k σ H2 hk ⟨v3, v4, v5, rfl, s2⟩
    rw [List.length_map, List.length_range] at hk
    obtain ⟨m, em⟩ := hs0 k hk
    obtain ⟨s, x, t2, e1, e2, e3, ex, rfl, h2⟩ := step k m em
    have al : (lasL n la)[backs st la p k]? = some (nV m) := by rw [rg_at (lt k), em]; rfl
    refine ⟨_, rfl, _, rfl, _, rfl, lb, _, _, _, rfl, rfl, SqL.of (s2 _ _ hlb), atI_nat al, sl, _, _, _, rfl, rfl, SqL.of (s2 _ _ hsl), atI_nat ex, t2, _, _, _, rfl, rfl, SqT.of (s2 _ _ h2), atI_nat (j := 0) rfl, ?_⟩
    exact ⟨_, _, _, by rw [e3]; rfl, s2⟩
  rintro σ H2 ⟨v3, v4, v5, rfl, s2⟩
  have ln : (lasL n la).length = n := by rw [List.length_map, List.length_range]
  rw [ln]
  obtain ⟨m, em⟩ := hs n (Nat.le_refl _)
  obtain ⟨s, x, t2, e1, e2, e3, ex, rfl, h2⟩ := step n m em
  have al : (lasL n la)[backs st la p n]? = some (nV m) := by rw [rg_at (lt n), em]; rfl
  refine ⟨_, rfl, _, rfl, lb, _, _, _, rfl, rfl, SqL.of (s2 _ _ hlb), atI_nat al, (by show 1 ≤ sizeLine; decide), fun rl nrl => ?_⟩
  have s3 := s2.trans (same_new (o := .lst [nV m]) nrl)
  refine ⟨_, rfl, _, rfl, _, rfl, lb, _, _, _, rfl, rfl, SqL.of (s3 _ _ hlb), atI_nat al, sl, _, _, _, rfl, rfl, SqL.of (s3 _ _ hsl), atI_nat ex, t2, _, _, _, rfl, rfl, SqT.of (s3 _ _ h2), atI_nat (j := 0) rfl, ?_⟩
  refine ⟨fun z σ H4 => ∃ (j : Nat) (ks : List Nat), σ = [some (nV (backs st la p n)), some (.ref lb), some (.ref sl), v3, some (.ref rl), some (nV (backs st la p (n + 1 + j)))] ∧ H4 rl = some (.lst (ks.reverse.map nV)) ∧ ks.length = j + 1 ∧ (∀ k ∈ ks, k < st.length) ∧ stepEnd st (backs st la p (n + 1 + j)) ks = some (backs st la p n) ∧ (ks.map (wS st)).sum = needs3 st la p n (j + 1) ∧ j + 1 ≤ c ∧ z = c - (j + 1) ∧ Same H H4,
    ⟨_, 0, [m], ?_, upd_same, rfl, fun k hk => ?_, ?_, ?_, c1, rfl, s3⟩, ?_⟩
  · rw [show n + 1 + 0 = n + 1 by omega, e3]; rfl
  · obtain rfl : k = m := by simpa using hk
    exact (List.getElem?_eq_some_iff.mp e1).1
  · rw [show n + 1 + 0 = n + 1 by omega, e3, stepEnd_cons e1, if_pos rfl, e2]; rfl
  · show wS st m + 0 = 0 + need st la (backs st la p (n + 0))
    have hw : wS st m = s.w := by unfold wS; rw [e1]
    have hn : need st la (backs st la p n) = s.w := by unfold need; rw [em]; dsimp only; rw [e1]
    rw [show n + 0 = n by omega, hw, hn]
    omega
  rintro z σ H4 ⟨j, ks, rfl, hrl, lk, kl, se, sm, jc, rfl, s4⟩
  refine ⟨_, rfl, _, rfl, rfl, _, rfl, ?_⟩
  by_cases cl : backs st la p (n + 1 + j) = backs st la p n
  · rw [decide_eq_true (show nV (backs st la p (n + 1 + j)) = nV (backs st la p n) by rw [cl])]
    refine if_bl (fun z => nomatch z) (fun _ => ?_)
    refine ⟨_, rfl, rl, _, rfl, SqL.of hrl, fun r2 nr2 => ?_⟩
    refine q r2 ks _ ?_ ⟨fun z => ?_, kl, ⟨backs st la p n, by rw [cl] at se; exact se⟩, ?_⟩ (by omega) (s4.trans (same_new nr2))
    · rw [upd_same, ← List.map_reverse, List.reverse_reverse]
    · rw [z] at lk; cases lk
    · rw [sm]
      exact L.sum_pos (by omega) (by rw [show n + (j + 1) = n + 1 + j by omega]; exact cl) hs
  · rw [decide_eq_false (show ¬ nV (backs st la p (n + 1 + j)) = nV (backs st la p n) from fun y => cl (by have := V.int.inj y; omega))]
    refine if_bl (fun _ => ?_) (fun z => nomatch z)
    have jlt : j + 1 < c := by
      refine Nat.lt_of_le_of_ne jc fun y => cl ?_
      rw [show n + 1 + j = n + (j + 1) by omega, y]
      exact cyc
    refine ⟨_, fun σ' H' h => h, ?_⟩
    obtain ⟨m, em⟩ := hs (n + 1 + j) (by omega)
    obtain ⟨s, x, t2, e1, e2, e3, ex, rfl, h2⟩ := step (n + 1 + j) m em
    have al : (lasL n la)[backs st la p (n + 1 + j)]? = some (nV m) := by rw [rg_at (lt _), em]; rfl
    refine ⟨_, rfl, .inl ⟨rfl, _, SqL.of hrl⟩, _, rfl, _, rfl, lb, _, _, _, rfl, rfl, SqL.of (s4 _ _ hlb), atI_nat al, rl, _, _, rfl, rfl, hrl, by rw [List.length_map, List.length_reverse]; exact small1000 (by omega), ?_⟩
    have rl0 : H rl = none := same_none s2 nrl
    have s5 : Same H (upd H4 rl (.lst (ks.reverse.map nV ++ [nV m]))) := Same.own s4 rl0
    refine ⟨_, rfl, _, rfl, _, rfl, lb, _, _, _, rfl, rfl, SqL.of (s5 _ _ hlb), atI_nat al, sl, _, _, _, rfl, rfl, SqL.of (s5 _ _ hsl), atI_nat ex, t2, _, _, _, rfl, rfl, SqT.of (s5 _ _ h2), atI_nat (j := 0) rfl, ?_⟩
    refine ⟨c - (j + 1 + 1), by omega, j + 1, m :: ks, ?_, ?_, by rw [List.length_cons, lk], fun k hk => ?_, ?_, ?_, by omega, rfl, s5⟩
    · rw [show n + 1 + (j + 1) = n + 1 + j + 1 by omega, e3]; rfl
    · rw [upd_same, List.reverse_cons, List.map_append]; rfl
    · rcases List.mem_cons.mp hk with rfl | hk
      · exact (List.getElem?_eq_some_iff.mp e1).1
      · exact kl k hk
    · rw [show n + 1 + (j + 1) = n + 1 + j + 1 by omega, e3, stepEnd_cons e1, if_pos rfl, e2]; exact se
    · show wS st m + (ks.map (wS st)).sum = needs3 st la p n (j + 1) + need st la (backs st la p (n + (j + 1)))
      have hw : wS st m = s.w := by unfold wS; rw [e1]
      have hn : need st la (backs st la p (n + 1 + j)) = s.w := by unfold need; rw [em]; dsimp only; rw [e1]
      rw [sm, show n + (j + 1) = n + 1 + j by omega, hw, hn]
      omega
def sp_levels_or_ring (K : PySem.W.Frag) : Sp := fun vs H Q _ => ∃ (sl : Addr) (n : Nat) (st : List St3), vs = [nV n, .ref sl] ∧ StepsAt H sl st ∧ (∀ s ∈ st, s.u < n ∧ s.v < n) ∧ st.length ≤ 400 ∧ n ≤ 100 ∧
  (∀ (p ll : Addr) (lv : Nat → Int) (H' : Hp), H' p = some (.tup [.ref ll, .non]) → H' ll = some (.lst (levL n lv)) → (∀ s ∈ st, lv s.u + s.w ≤ lv s.v) → (∀ q, 0 ≤ lv q) → Same H H' → Q (.ref p) H') ∧
  ∀ (p rl : Addr) (ks : List Nat) (H' : Hp), H' p = some (.tup [.non, .ref rl]) → H' rl = some (.lst (ks.map nV)) → RingOk st ks → ks.length ≤ n → Same H H' → Q (.ref p) H'
theorem ok_levels_or_ring {f : Addr} {fd : FuncData} (F : Fun K "levels_or_ring" "levels_or_ring" s_levels_or_ring f fd) {C : Addr} (T : Top K mg C) : FnOk P w K mg base CX0 2 f fd ["many", "steps"] (sp_levels_or_ring K) := by
  obtain ⟨f_raise_levels, fd_raise_levels, F_raise_levels, b_raise_levels, m_raise_levels⟩ := T.d_raise_levels
  have G_raise_levels := ok_raise_levels (P := P) (w := w) (base := base) F_raise_levels T
  obtain ⟨f_ring_behind, fd_ring_behind, F_ring_behind, b_ring_behind, m_ring_behind⟩ := T.d_ring_behind
  have G_ring_behind := ok_ring_behind (P := P) (w := w) (base := base) F_ring_behind T
  refine F.ok sc_levels_or_ring (fun vs H Q E h => ?_) (fun cdv A outer s H vs Q E hr h => ?_)
  · obtain ⟨sl, n, st, rfl, _⟩ := h
    rfl
  obtain ⟨sl, n, st, rfl, ⟨sv, hsl, als⟩, bd, few, n100, q1, q2⟩ := h
  let R1 : TS := fun D' σ' H' => D'.rt = Q ∧ ∃ (ll lb : Addr) (lv : Nat → Int) (la : Nat → Option Nat) (r t : Nat → Nat) (now : Nat) (v : Option Nat) (v5 : Option V), σ' = [some (nV n), some (.ref sl), some (.ref ll), some (.ref lb), some (oV v), v5] ∧ H' ll = some (.lst (levL n lv)) ∧ H' lb = some (.lst (lasL n la)) ∧ Same H H' ∧ (∀ p, 0 ≤ lv p) ∧ (v = none → ∀ s ∈ st, lv s.u + s.w ≤ lv s.v) ∧ ∀ x, v = some x → x < n ∧ r x = n ∧ Lv st n st.length lv la r t now
  refine ⟨_, (pss_cons (ps_set (i := 2) sc_levels_or_ring.nd rfl (Or.inl rfl) (pe_op op_rep (pe_lst (pa_cons pe_int pa_nil)) (pv 0)))
      (pss_cons (ps_set (i := 3) sc_levels_or_ring.nd rfl (Or.inl rfl) (pe_op op_rep (pe_lst (pa_cons pe_non pa_nil)) (pv 0)))
      (pss_cons (ps_set (i := 4) sc_levels_or_ring.nd rfl (Or.inl rfl) pe_non)
      (pss_cons (ps_for PassesOwn.never rfl (pi_range1 (by rfl) T.m_range (pa_cons (pv 0) pa_nil)) (pg_name (i := 5) sc_levels_or_ring.nd rfl (Or.inl rfl))
        (pss_cons (ps_set (i := 4) sc_levels_or_ring.nd rfl (Or.inl rfl) (pe_call G_raise_levels (hr.mono (by decide)) (by rfl) m_raise_levels F_raise_levels.kp b_raise_levels .nil pass0 (pa_cons (pv 2) (pa_cons (pv 3) (pa_cons (pv 1) pa_nil)))))
      (pss_one (ps_if (pt_cmpR op_isN (pv 4) pe_non (nomark _)) (pss_one ps_break) pss_nil))))
      (PSs.to (pss_cons (ps_if (pt_cmpR op_isN (pv 4) pe_non (nomark _)) (pss_one (ps_ret (pe_tup (pa_cons (pv 2) (pa_cons pe_non pa_nil))))) pss_nil)
      (pss_one (ps_ret (pe_tup (pa_cons pe_non (pa_cons (pe_call G_ring_behind (hr.mono (by decide)) (by rfl) m_ring_behind F_ring_behind.kp b_ring_behind .nil pass0 (pa_cons (pv 4) (pa_cons (pv 3) (pa_cons (pv 1) pa_nil)))) pa_nil)))))) R1 ?tail1))))), ?_⟩
  case tail1 =>
    rintro D' σ' H1 ⟨eD, ll, lb, lv, la, r, t, now, v, v5, rfl, hll, hlb, s1, nn, f1, f2⟩
    cases v with
    | none =>
      refine ⟨_, rfl, rfl, _, rfl, if_bl (fun _ => ?_) (fun z => absurd rfl (of_decide_eq_false z))⟩
      refine ⟨_, rfl, (by show 2 ≤ sizeLine; decide), fun p np => ?_⟩
      rw [eD]
      exact q1 p ll lv _ upd_same (same_new np _ _ hll) (f1 rfl) nn (s1.trans (same_new np))
    | some x =>
      obtain ⟨xl, rx, L⟩ := f2 x rfl
      refine ⟨_, rfl, rfl, _, rfl, if_bl (fun z => absurd (of_decide_eq_true z) (fun y => nomatch y)) (fun _ => ?_)⟩
      refine ⟨_, rfl, _, rfl, _, rfl, lb, sl, n, x, st, lv, la, r, t, now, rfl, hlb, ⟨sv, s1 _ _ hsl, als.imp fun _ _ z => z.keep (TK.same s1)⟩, bd, few, n100, L, xl, rx, fun pr ks H2 hpr ring lk s2 => ⟨(by show 2 ≤ sizeLine; decide), fun p np => ?_⟩⟩
      rw [eD]
      exact q2 p pr ks _ upd_same (same_new np _ _ hpr) ring lk ((s1.trans s2).trans (same_new np))
  refine ⟨(by show 1 ≤ sizeLine; decide), fun z1 nz1 => ⟨_, rfl, z1, ((n : Nat) : Int), _, rfl, rfl, upd_same, by omega, by omega, (by show 1 * ((n : Nat) : Int).toNat ≤ sizeLine; exact little (by omega)), fun ll nll => ?_⟩⟩
  have eL : (List.replicate ((n : Nat) : Int).toNat [V.int 0]).flatten = levL n (fun _ => 0) := by
    rw [flat_rep, Int.toNat_natCast]
    exact (List.map_const' .. ▸ by rw [List.length_range] : List.replicate n (V.int 0) = (List.range n).map fun _ => V.int 0)
  rw [eL]
  refine ⟨(by show 1 ≤ sizeLine; decide), fun z2 nz2 => ⟨_, rfl, z2, ((n : Nat) : Int), _, rfl, rfl, upd_same, by omega, by omega, (by show 1 * ((n : Nat) : Int).toNat ≤ sizeLine; exact little (by omega)), fun lb nlb => ?_⟩⟩
  have eB : (List.replicate ((n : Nat) : Int).toNat [V.non]).flatten = lasL n (fun _ => none) := by
    rw [flat_rep, Int.toNat_natCast]
    exact (List.map_const' .. ▸ by rw [List.length_range] : List.replicate n V.non = (List.range n).map fun _ => V.non)
  rw [eB]
  have sA := ((same_new (o := .lst [V.int 0]) nz1).trans (same_new (o := .lst (levL n (fun _ => 0))) nll))
  have s0 : Same H _ := (sA.trans (same_new (o := .lst [V.non]) nz2)).trans (same_new (o := .lst (lasL n (fun _ => none))) nlb)
  have ll0 : H ll = none := same_none (same_new nz1) nll
  have lb0 : H lb = none := same_none (sA.trans (same_new nz2)) nlb
  have hll0 := same_new (o := .lst (lasL n (fun _ => none))) nlb _ _ (same_new (o := .lst [V.non]) nz2 _ _ (upd_same (H := upd H z1 (.lst [V.int 0])) (a := ll) (o := .lst (levL n (fun _ => 0)))))
  have llb : ll ≠ lb := ne_of_none (same_new (o := .lst [V.non]) nz2 _ _ (upd_same (H := upd H z1 (.lst [V.int 0])) (a := ll) (o := .lst (levL n (fun _ => 0))))) nlb
  have sll : sl ≠ ll := ne_of_none hsl ll0
  have slb : sl ≠ lb := ne_of_none hsl lb0
  refine ⟨_, rfl, _, rfl, by omega, by omega, for_range (lo := 0) (n := ((n : Nat) : Int).toNat) (fun i σ H2 => ∃ (lv : Nat → Int) (la : Nat → Option Nat) (r t : Nat → Nat) (now : Nat) (v : Option Nat) (v5 : Option V), σ = [some (nV n), some (.ref sl), some (.ref ll), some (.ref lb), some (oV v), v5] ∧ H2 ll = some (.lst (levL n lv)) ∧ H2 lb = some (.lst (lasL n la)) ∧ Same H H2 ∧ (∀ p, 0 ≤ lv p) ∧ Lv st (i + 1) 0 lv la r t now ∧ (∀ p, r p < i + 1) ∧ ((i = 0 ∧ v = none) ∨ ∃ x, v = some x ∧ x < n ∧ r x = i ∧ Lv st i st.length lv la r t now))
    ⟨fun _ => 0, fun _ => none, fun _ => 0, fun _ => 0, 0, none, none, rfl, hll0, upd_same, s0, (fun _ => Int.le_refl _), Lv.start, (fun _ => Nat.zero_lt_one), .inl ⟨rfl, rfl⟩⟩ ?_ ?_⟩
  · rintro i σ H2 hi ⟨lv, la, r, t, now, v, v5, rfl, hll, hlb, s, nn, L, rl, _⟩
    have hsl2 := s _ _ hsl
    refine ⟨_, rfl, _, rfl, _, rfl, ll, lb, sl, n, i + 1, st, lv, la, r, t, now, rfl, hll, hlb, ⟨sv, hsl2, als.imp fun _ _ z => z.keep (TK.same s)⟩, llb, sll, slb, bd, few, L, rl, fun lv' la' r' t' now' v' H3 h1 h2 L' f1 f2 f3 fr => ?_⟩
    have s3 : Same H H3 := fun b o e => fr b o (s _ _ e) (ne_of_none e ll0) (ne_of_none e lb0)
    have nn' : ∀ p, 0 ≤ lv' p := fun p => Int.le_trans (nn p) (f3 p)
    cases v' with
    | none =>
      refine ⟨_, rfl, rfl, _, rfl, if_bl (fun _ => ?_) (fun z => absurd rfl (of_decide_eq_false z))⟩
      exact ⟨rfl, ll, lb, lv', la', r', t', now', none, _, rfl, h1, h2, s3, nn', (fun _ => L'.feas (f1 rfl)), (fun _ z => nomatch z)⟩
    | some x =>
      obtain ⟨xl, rx⟩ := f2 x rfl
      refine ⟨_, rfl, rfl, _, rfl, if_bl (fun z => absurd (of_decide_eq_true z) (fun y => nomatch y)) (fun _ => ?_)⟩
      exact ⟨lv', la', r', t', now', some x, _, rfl, h1, h2, s3, nn', L'.next, fun p => Nat.lt_succ_of_le (L'.rl p), .inr ⟨x, rfl, xl, rx, L'⟩⟩
  · rintro σ H2 ⟨lv, la, r, t, now, v, v5, rfl, hll, hlb, s, nn, L, rl, fl⟩
    rw [Int.toNat_natCast] at fl
    rcases fl with ⟨z, rfl⟩ | ⟨x, rfl, xl, rx, L'⟩
    · exact ⟨rfl, ll, lb, lv, la, r, t, now, none, _, rfl, hll, hlb, s, nn, (fun _ s hs => absurd (bd s hs).1 (by omega)), (fun _ z => nomatch z)⟩
    · exact ⟨rfl, ll, lb, lv, la, r, t, now, some x, _, rfl, hll, hlb, s, nn, (fun z => nomatch z), fun y z => by cases z; exact ⟨xl, rx, L'⟩⟩
end
/-! ### beats: mathematics -/
def oneB (bs : List BR) (n : Nat) : Nat := match bs[n]? with | some b => b.one | none => 0
/-- the steps that belts ask for, where a by b is to be held down -/
def bstep (hs : List HR) (a b : Int) (x : BR) : St3 := ⟨x.one, x.to, b * momH hs x.one - a * (x.th.length : Int)⟩
def rmom (hs : List HR) (bs : List BR) (ns : List Nat) : Int := (ns.map fun n => momH hs (toB bs n)).sum
def rtr (bs : List BR) (ns : List Nat) : Int := (ns.map (trB bs)).sum
theorem bstep_end {hs : List HR} {bs : List BR} {a b : Int} : ∀ {ks : List Nat} {p : Nat}, stepEnd (bs.map (bstep hs a b)) p ks = wayEnd bs p ks
  | [], p => rfl
  | k :: ks, p => by
    cases e : bs[k]? with
    | none =>
      show (match (bs.map (bstep hs a b))[k]? with | some s => if s.u = p then stepEnd (bs.map (bstep hs a b)) s.v ks else none | none => none) = (match bs[k]? with | some b => if b.one = p then wayEnd bs b.to ks else none | none => none)
      rw [List.getElem?_map, e]
      rfl
    | some x =>
      rw [wayEnd_cons e, stepEnd_cons (s := bstep hs a b x) (by rw [List.getElem?_map, e]; rfl)]
      show (if x.one = p then stepEnd (bs.map (bstep hs a b)) x.to ks else none) = _
      rw [bstep_end]
theorem bstep_w {hs : List HR} {bs : List BR} {a b : Int} {k : Nat} (h : k < bs.length) : wS (bs.map (bstep hs a b)) k = b * momH hs (oneB bs k) - a * trB bs k := by
  unfold wS oneB trB
  rw [List.getElem?_map, List.getElem?_eq_getElem h]
  rfl
theorem ones_tos {hs : List HR} {bs : List BR} : ∀ {ns : List Nat} {k e : Nat}, wayEnd bs k ns = some e → (ns.map fun n => momH hs (oneB bs n)).sum + momH hs e = momH hs k + rmom hs bs ns
  | [], k, e, h => by cases h; show 0 + _ = _ + 0; omega
  | n :: ns, k, e, h => by
    cases eb : bs[n]? with
    | none =>
      have : wayEnd bs k (n :: ns) = none := by
        show (match bs[n]? with | some b => if b.one = k then wayEnd bs b.to ns else none | none => none) = none
        rw [eb]
      rw [this] at h; cases h
    | some b =>
      rw [wayEnd_cons eb] at h
      by_cases z : b.one = k
      · rw [if_pos z] at h
        have ih := ones_tos (hs := hs) h
        have e1 : oneB bs n = k := by unfold oneB; rw [eb]; exact z
        have e2 : toB bs n = b.to := by unfold toB; rw [eb]
        unfold rmom at ih ⊢
        rw [List.map_cons, List.sum_cons, List.map_cons, List.sum_cons, e1, e2]
        omega
      · rw [if_neg z] at h; cases h
theorem ring_w {hs : List HR} {bs : List BR} {a b : Int} {ks : List Nat} (lt : ∀ k ∈ ks, k < bs.length) : (ks.map (wS (bs.map (bstep hs a b)))).sum = b * (ks.map fun n => momH hs (oneB bs n)).sum - a * rtr bs ks := by
  induction ks with
  | nil => show (0 : Int) = b * 0 - a * 0; omega
  | cons k ks ih =>
    have ih := ih fun x hx => lt x (List.mem_cons_of_mem _ hx)
    unfold rtr at ih ⊢
    rw [List.map_cons, List.sum_cons, List.map_cons, List.sum_cons, List.map_cons, List.sum_cons, bstep_w (lt k (List.mem_cons_self ..)), ih, Int.mul_add, Int.mul_add]
    omega
theorem trB_nn {bs : List BR} {n : Nat} : 0 ≤ trB bs n := by
  unfold trB
  cases bs[n]? with
  | none => exact Int.le_refl _
  | some b => exact Int.natCast_nonneg _
theorem rtr_nn {bs : List BR} : ∀ {ns : List Nat}, 0 ≤ rtr bs ns
  | [] => Int.le_refl _
  | n :: ns => by
    have ih := rtr_nn (bs := bs) (ns := ns)
    have := trB_nn (bs := bs) (n := n)
    unfold rtr at ih ⊢
    rw [List.map_cons, List.sum_cons]
    omega
theorem bway_rank {bs : List BR} {rk : Nat → Int} (hr : ∀ b ∈ bs, b.th = [] → rk b.one < rk b.to) : ∀ {ns : List Nat} {k e : Nat}, wayEnd bs k ns = some e → rtr bs ns = 0 → rk k + (ns.length : Int) ≤ rk e
  | [], k, e, h, _ => by cases h; show rk k + 0 ≤ rk k; omega
  | n :: ns, k, e, h, t => by
    cases eb : bs[n]? with
    | none =>
      have : wayEnd bs k (n :: ns) = none := by
        show (match bs[n]? with | some b => if b.one = k then wayEnd bs b.to ns else none | none => none) = none
        rw [eb]
      rw [this] at h; cases h
    | some b =>
      rw [wayEnd_cons eb] at h
      by_cases z : b.one = k
      · rw [if_pos z] at h
        have t1 := trB_nn (bs := bs) (n := n)
        have t2 := rtr_nn (bs := bs) (ns := ns)
        have t3 : trB bs n + rtr bs ns = 0 := by unfold rtr at t ⊢; rw [List.map_cons, List.sum_cons] at t; exact t
        have ih := bway_rank hr h (by omega)
        have t4 : trB bs n = (b.th.length : Int) := by unfold trB; rw [eb]
        have e0 : b.th = [] := List.eq_nil_of_length_eq_zero (by omega)
        have := hr b (List.mem_of_getElem? eb) e0
        rw [z] at this
        rw [List.length_cons]
        omega
      · rw [if_neg z] at h; cases h
theorem ring_trays {bs : List BR} {rk : Nat → Int} (hr : ∀ b ∈ bs, b.th = [] → rk b.one < rk b.to) {ns : List Nat} {k : Nat} (h : wayEnd bs k ns = some k) (ne : ns ≠ []) : 0 < rtr bs ns := by
  have t := rtr_nn (bs := bs) (ns := ns)
  rcases Int.lt_or_le 0 (rtr bs ns) with z | z
  · exact z
  · have := bway_rank hr h (by omega)
    cases ns with
    | nil => exact absurd rfl ne
    | cons n ns => rw [List.length_cons] at this; omega
theorem sum_le {f : Nat → Int} {c : Int} (c0 : 0 ≤ c) (h : ∀ n, 0 ≤ f n ∧ f n ≤ c) : ∀ ns : List Nat, 0 ≤ (ns.map f).sum ∧ (ns.map f).sum ≤ c * (ns.length : Int)
  | [] => ⟨Int.le_refl _, by show (0 : Int) ≤ c * 0; omega⟩
  | n :: ns => by
    have ih := sum_le c0 h ns
    have := h n
    rw [List.map_cons, List.sum_cons, List.length_cons]
    have e : c * ((ns.length + 1 : Nat) : Int) = c * (ns.length : Int) + c := by
      rw [show ((ns.length + 1 : Nat) : Int) = (ns.length : Int) + 1 by omega, Int.mul_add, Int.mul_one]
    omega
/-- rooms whose beat is asked -/
structure BOk (hs : List HR) (bs : List BR) : Prop where
  hands : hs.length ≤ 12
  many : bs.length ≤ 20
  ends : ∀ b ∈ bs, b.one < hs.length ∧ b.to < hs.length
  mom : ∀ h ∈ hs, 0 ≤ h.mom ∧ h.mom ≤ 30
  th : ∀ b ∈ bs, b.th.length ≤ 30
  rank : ∃ rk : Nat → Int, ∀ b ∈ bs, b.th = [] → rk b.one < rk b.to
theorem BOk.momH {hs : List HR} {bs : List BR} (ok : BOk hs bs) (k : Nat) : 0 ≤ momH hs k ∧ momH hs k ≤ 30 := by
  unfold Mine.momH
  cases e : hs[k]? with
  | none => exact ⟨Int.le_refl _, by decide⟩
  | some h => exact ok.mom h (List.mem_of_getElem? e)
theorem BOk.trB {hs : List HR} {bs : List BR} (ok : BOk hs bs) (n : Nat) : 0 ≤ trB bs n ∧ trB bs n ≤ 30 := by
  unfold Mine.trB
  cases e : bs[n]? with
  | none => exact ⟨Int.le_refl _, by decide⟩
  | some b =>
    have := ok.th b (List.mem_of_getElem? e)
    exact ⟨Int.natCast_nonneg _, by show (b.th.length : Int) ≤ 30; omega⟩
theorem BOk.rmom {hs : List HR} {bs : List BR} (ok : BOk hs bs) {ns : List Nat} (l : ns.length ≤ 12) : 0 ≤ rmom hs bs ns ∧ rmom hs bs ns ≤ 360 := by
  have := sum_le (f := fun n => Mine.momH hs (toB bs n)) (by decide : (0 : Int) ≤ 30) (fun n => ok.momH _) ns
  unfold Mine.rmom
  omega
theorem BOk.rtr {hs : List HR} {bs : List BR} (ok : BOk hs bs) {ns : List Nat} (l : ns.length ≤ 12) : 0 ≤ rtr bs ns ∧ rtr bs ns ≤ 360 := by
  have := sum_le (f := Mine.trB bs) (by decide : (0 : Int) ≤ 30) (fun n => ok.trB _) ns
  unfold Mine.rtr
  omega
/-- what holds a beat up -/
def Up (hs : List HR) (bs : List BR) (a b : Int) (k : Nat) (ns : List Nat) : Prop := (ns = [] ∧ b * momH hs k = a) ∨ (ns ≠ [] ∧ wayEnd bs k ns = some k ∧ b * rmom hs bs ns = a * rtr bs ns)
/-- what holds a beat down -/
def Down (hs : List HR) (bs : List BR) (a b : Int) (lv : Nat → Int) : Prop := (∀ k, 0 ≤ lv k) ∧ (∀ h ∈ hs, b * h.mom ≤ a) ∧ ∀ x ∈ bs, lv x.one + (b * momH hs x.one - a * (x.th.length : Int)) ≤ lv x.to
structure Beat (hs : List HR) (bs : List BR) (a b : Int) (k : Nat) (ns : List Nat) : Prop where
  a0 : 0 ≤ a
  a9 : a ≤ 360
  b1 : 1 ≤ b
  b9 : b ≤ 360
  low : Nat.gcd a.toNat b.toNat = 1
  kl : k < hs.length
  nl : ∀ n ∈ ns, n < bs.length
  ln : ns.length ≤ 12
  up : Up hs bs a b k ns
  mom : ∀ h ∈ hs, b * h.mom ≤ a
theorem down_ring {hs : List HR} {bs : List BR} {a b : Int} {lv : Nat → Int} (d : Down hs bs a b lv) {ns : List Nat} {k : Nat} (lt : ∀ n ∈ ns, n < bs.length) (h : wayEnd bs k ns = some k) : b * rmom hs bs ns ≤ a * rtr bs ns := by
  have f : ∀ s ∈ bs.map (bstep hs a b), lv s.u + s.w ≤ lv s.v := fun s hs2 => by
    obtain ⟨x, hx, rfl⟩ := List.mem_map.mp hs2
    exact d.2.2 x hx
  have s := step_sum f (ks := ns) (p := k) (q := k) (by rw [bstep_end]; exact h)
  rw [ring_w lt] at s
  have o := ones_tos (hs := hs) h
  rw [show (ns.map fun n => momH hs (oneB bs n)).sum = rmom hs bs ns by omega] at s
  omega
/-- the measure: the fraction, in parts of 360 * 360 -/
def bms (a b : Int) : Int := a * 129600 / b
theorem bms_lt {a b c d : Int} (b1 : 1 ≤ b) (b9 : b ≤ 360) (d1 : 1 ≤ d) (d9 : d ≤ 360) (h : a * d < c * b) : bms a b < bms c d := by
  unfold bms
  have q := Int.mul_ediv_self_le (x := a * 129600) (k := b) (by omega)
  refine Int.lt_of_add_one_le ((Int.le_ediv_iff_mul_le (by omega)).mpr ?_)
  generalize a * 129600 / b = q0 at q
  have bd : b * d ≤ 129600 := Int.le_trans (Int.mul_le_mul b9 d9 (by omega) (by decide)) (by decide)
  have h1 : (a * d + 1) * 129600 ≤ c * b * 129600 := Int.mul_le_mul_of_nonneg_right h (by decide)
  have h2 : b * q0 * d ≤ a * 129600 * d := Int.mul_le_mul_of_nonneg_right q (by omega)
  refine Int.le_of_mul_le_mul_left (a := b) ?_ (by omega)
  have e1 : b * ((q0 + 1) * d) = b * q0 * d + b * d := by rw [Int.add_mul, Int.one_mul, Int.mul_add, Int.mul_assoc]
  have e2 : a * 129600 * d = a * d * 129600 := by rw [Int.mul_assoc, Int.mul_comm 129600 d, Int.mul_assoc]
  have e3 : c * b * 129600 = b * (c * 129600) := by rw [Int.mul_comm c b, Int.mul_assoc]
  have e4 : (a * d + 1) * 129600 = a * d * 129600 + 129600 := by rw [Int.add_mul, Int.one_mul]
  omega
theorem bms_nn {a b : Int} (a0 : 0 ≤ a) (b1 : 1 ≤ b) : 0 ≤ bms a b := Int.ediv_nonneg (by omega) (by omega)
theorem bms_le {a b : Int} (a0 : 0 ≤ a) (a9 : a ≤ 360) (b1 : 1 ≤ b) : bms a b ≤ 360 * 129600 := by
  unfold bms
  refine Int.ediv_le_of_le_mul (by omega) ?_
  have h1 : a * 129600 ≤ 360 * 129600 := Int.mul_le_mul_of_nonneg_right a9 (by decide)
  have h2 : 360 * 129600 * 1 ≤ 360 * 129600 * b := Int.mul_le_mul_of_nonneg_left b1 (by decide)
  omega
/-- a fraction without a common divisor -/
theorem low_terms {A B : Nat} (hB : 0 < B) : 0 < Nat.gcd A B ∧ 1 ≤ B / Nat.gcd A B ∧ Nat.gcd (A / Nat.gcd A B) (B / Nat.gcd A B) = 1 ∧ A / Nat.gcd A B * B = B / Nat.gcd A B * A ∧ A / Nat.gcd A B ≤ A ∧ B / Nat.gcd A B ≤ B := by
  have g := Nat.gcd_pos_of_pos_right A hB
  refine ⟨g, Nat.div_pos (Nat.le_of_dvd hB (Nat.gcd_dvd_right A B)) g, Nat.gcd_div_gcd_div_gcd_of_pos_right hB, ?_, Nat.div_le_self .., Nat.div_le_self ..⟩
  obtain ⟨x, hx⟩ := Nat.gcd_dvd_left A B
  obtain ⟨y, hy⟩ := Nat.gcd_dvd_right A B
  generalize Nat.gcd A B = d at g hx hy
  subst hx hy
  rw [Nat.mul_div_cancel_left _ g, Nat.mul_div_cancel_left _ g, Nat.mul_left_comm, Nat.mul_left_comm y d x, Nat.mul_comm x y]
/-- a ring that needs more than nothing is above the fraction -/
theorem ring_above {hs : List HR} {bs : List BR} {a b : Int} {ks : List Nat} (r : RingOk (bs.map (bstep hs a b)) ks) : ∃ k, wayEnd bs k ks = some k ∧ (∀ n ∈ ks, n < bs.length) ∧ a * rtr bs ks < b * rmom hs bs ks := by
  obtain ⟨ne, lt, ⟨p, cl⟩, pos⟩ := r
  have lt2 : ∀ n ∈ ks, n < bs.length := fun n hn => by have := lt n hn; rwa [List.length_map] at this
  rw [bstep_end] at cl
  rw [ring_w lt2] at pos
  have o := ones_tos (hs := hs) cl
  rw [show (ks.map fun n => momH hs (oneB bs n)).sum = rmom hs bs ks by omega] at pos
  exact ⟨p, cl, lt2, by omega⟩
theorem beat_next {hs : List HR} {bs : List BR} {a b : Int} {ks : List Nat} {k : Nat} {k0 : Nat} {ns0 : List Nat} (ok : BOk hs bs) (B : Beat hs bs a b k0 ns0) (cl : wayEnd bs k ks = some k) (kl : k < hs.length) (lt : ∀ n ∈ ks, n < bs.length) (ln : ks.length ≤ 12) (ne : ks ≠ []) (ab : a * rtr bs ks < b * rmom hs bs ks) :
    0 < rtr bs ks ∧ 0 ≤ rmom hs bs ks ∧ Beat hs bs (((rmom hs bs ks).toNat / Nat.gcd (rmom hs bs ks).toNat (rtr bs ks).toNat : Nat) : Int) (((rtr bs ks).toNat / Nat.gcd (rmom hs bs ks).toNat (rtr bs ks).toNat : Nat) : Int) k ks ∧
      bms a b < bms (((rmom hs bs ks).toNat / Nat.gcd (rmom hs bs ks).toNat (rtr bs ks).toNat : Nat) : Int) (((rtr bs ks).toNat / Nat.gcd (rmom hs bs ks).toNat (rtr bs ks).toNat : Nat) : Int) := by
  obtain ⟨rk, hr⟩ := ok.rank
  have t0 := ring_trays hr cl ne
  have m := ok.rmom (ns := ks) ln
  have t := ok.rtr (ns := ks) ln
  obtain ⟨A, hA⟩ : ∃ A : Nat, rmom hs bs ks = (A : Int) := ⟨(rmom hs bs ks).toNat, by omega⟩
  obtain ⟨B', hB⟩ : ∃ B : Nat, rtr bs ks = (B : Int) := ⟨(rtr bs ks).toNat, by omega⟩
  obtain ⟨g, l1, l2, l3, l4, l5⟩ := low_terms (A := A) (B := B') (by omega)
  have up : (((B' / Nat.gcd A B' : Nat) : Int)) * rmom hs bs ks = ((A / Nat.gcd A B' : Nat) : Int) * rtr bs ks := by
    rw [hA, hB, ← Int.natCast_mul, ← Int.natCast_mul, l3]
  rw [hA, hB] at ab
  rw [show (rmom hs bs ks).toNat = A by omega, show (rtr bs ks).toNat = B' by omega]
  generalize Nat.gcd A B' = d at g l1 l2 l3 l4 l5 up
  have up0 := up
  rw [hA, hB] at up0
  generalize A / d = x at l2 l3 l4 up up0
  generalize B' / d = y at l1 l2 l3 l5 up up0
  have cross : a * (y : Int) < (x : Int) * b := by
    have c1 : (B' : Int) * (a * (y : Int)) < (B' : Int) * ((x : Int) * b) := by
      have h1 : a * (B' : Int) * (y : Int) < b * (A : Int) * (y : Int) := Int.mul_lt_mul_of_pos_right ab (by omega)
      have e1 : (B' : Int) * (a * (y : Int)) = a * (B' : Int) * (y : Int) := by rw [Int.mul_left_comm, Int.mul_assoc]
      have e2 : b * (A : Int) * (y : Int) = b * ((y : Int) * (A : Int)) := by rw [Int.mul_assoc, Int.mul_comm (A : Int)]
      have e3 : (B' : Int) * ((x : Int) * b) = b * ((x : Int) * (B' : Int)) := by rw [Int.mul_comm, Int.mul_comm (x : Int) b, Int.mul_assoc]
      rw [e1, e3, ← up0, ← e2]
      exact h1
    exact Int.lt_of_mul_lt_mul_left c1 (by omega)
  refine ⟨by omega, by omega, ⟨by omega, by omega, by omega, by omega, by simpa using l2, kl, lt, ln, .inr ⟨ne, cl, up⟩, fun h hh => ?_⟩, bms_lt B.b1 B.b9 (by omega) (by omega) cross⟩
  have h1 := B.mom h hh
  have h2 : b * h.mom * (y : Int) ≤ a * (y : Int) := Int.mul_le_mul_of_nonneg_right h1 (by omega)
  refine Int.le_of_mul_le_mul_left (a := b) ?_ (by have := B.b1; omega)
  have e1 : b * ((y : Int) * h.mom) = b * h.mom * (y : Int) := by rw [Int.mul_assoc, Int.mul_comm (y : Int)]
  have e2 : b * (x : Int) = (x : Int) * b := Int.mul_comm ..
  omega
/-- a beat is no greater than another one -/
theorem beat_le {hs : List HR} {bs : List BR} {a b c d : Int} {k : Nat} {ns : List Nat} {lv : Nat → Int} (ok : BOk hs bs) (B : Beat hs bs a b k ns) (D : Down hs bs c d lv) (c0 : 0 ≤ c) : a * d ≤ c * b := by
  rcases B.up with ⟨rfl, e⟩ | ⟨ne, cl, e⟩
  · have kl := B.kl
    have : momH hs k = hs[k].mom := by unfold momH; rw [List.getElem?_eq_getElem kl]
    have h := D.2.1 hs[k] (List.getElem_mem kl)
    rw [← this] at h
    rw [← e]
    have h2 : d * momH hs k * b ≤ c * b := Int.mul_le_mul_of_nonneg_right h (by have := B.b1; omega)
    rw [Int.mul_comm (b * momH hs k) d, Int.mul_left_comm, ← Int.mul_assoc, Int.mul_comm b d, Int.mul_assoc, Int.mul_comm b, ← Int.mul_assoc]
    exact h2
  · obtain ⟨rk, hr⟩ := ok.rank
    have t0 := ring_trays hr cl ne
    have h := down_ring D B.nl cl
    refine Int.le_of_mul_le_mul_left (a := rtr bs ns) ?_ t0
    have h2 : d * rmom hs bs ns * b ≤ c * rtr bs ns * b := Int.mul_le_mul_of_nonneg_right h (by have := B.b1; omega)
    have e1 : rtr bs ns * (a * d) = d * (b * rmom hs bs ns) := by rw [e, Int.mul_comm, Int.mul_comm a d, Int.mul_assoc]
    have e2 : d * (b * rmom hs bs ns) = d * rmom hs bs ns * b := by rw [Int.mul_assoc, Int.mul_comm b]
    have e3 : rtr bs ns * (c * b) = c * rtr bs ns * b := by rw [Int.mul_left_comm, Int.mul_assoc]
    omega
theorem low_one {a b c d : Nat} (hb : 0 < b) (hd : 0 < d) (h : a * d = c * b) (l1 : Nat.gcd a b = 1) (l2 : Nat.gcd c d = 1) : a = c ∧ b = d := by
  have bd : b ∣ d := Nat.Coprime.dvd_of_dvd_mul_left (Nat.Coprime.symm l1 : Nat.Coprime b a) ⟨c, by rw [h, Nat.mul_comm]⟩
  have db : d ∣ b := Nat.Coprime.dvd_of_dvd_mul_left (Nat.Coprime.symm l2 : Nat.Coprime d c) ⟨a, by rw [← h, Nat.mul_comm]⟩
  have e := Nat.dvd_antisymm bd db
  subst e
  exact ⟨Nat.eq_of_mul_eq_mul_right hb h, rfl⟩
/-- there is one beat -/
theorem beat_one {hs : List HR} {bs : List BR} {a b c d : Int} {k k2 : Nat} {ns ns2 : List Nat} {lv lv2 : Nat → Int} (ok : BOk hs bs) (B : Beat hs bs a b k ns) (D : Down hs bs a b lv) (B2 : Beat hs bs c d k2 ns2) (D2 : Down hs bs c d lv2) : a = c ∧ b = d := by
  have h1 := beat_le ok B D2 B2.a0
  have h2 := beat_le ok B2 D B.a0
  have := B.a0
  have := B2.a0
  have := B.b1
  have := B2.b1
  obtain ⟨a', rfl⟩ : ∃ n : Nat, a = (n : Int) := ⟨a.toNat, by omega⟩
  obtain ⟨b', rfl⟩ : ∃ n : Nat, b = (n : Int) := ⟨b.toNat, by omega⟩
  obtain ⟨c', rfl⟩ : ∃ n : Nat, c = (n : Int) := ⟨c.toNat, by omega⟩
  obtain ⟨d', rfl⟩ : ∃ n : Nat, d = (n : Int) := ⟨d.toNat, by omega⟩
  have l1 := B.low
  have l2 := B2.low
  rw [Int.toNat_natCast, Int.toNat_natCast] at l1 l2
  have e : a' * d' = c' * b' := by
    have : ((a' * d' : Nat) : Int) = ((c' * b' : Nat) : Int) := by rw [Int.natCast_mul, Int.natCast_mul]; omega
    omega
  obtain ⟨x, y⟩ := low_one (by omega) (by omega) e l1 l2
  exact ⟨by rw [x], by rw [y]⟩
/-! ### beats: the program -/
section
variable {P : Program} {w : World} {K : PySem.W.Frag} {mg : Str → Option Value} {base : Heap}
def sp_beat_steps (K : PySem.W.Frag) : Sp := fun vs H Q _ => ∃ (r fp : Addr) (hs : List HR) (bs : List BR) (a b : Int), vs = [.ref r, .ref fp] ∧ RoomAt H r hs bs ∧ H fp = some (.tup [.int a, .int b]) ∧ BOk hs bs ∧
  ∀ (sl : Addr) (H' : Hp), StepsAt H' sl (bs.map (bstep hs a b)) → Same H H' → Q (.ref sl) H'
theorem ok_beat_steps {f : Addr} {fd : FuncData} (F : Fun K "beat_steps" "beat_steps" s_beat_steps f fd) {C : Addr} (T : Top K mg C) : FnOk P w K mg base CX0 1 f fd ["room", "fraction"] (sp_beat_steps K) := by
  refine F.ok sc_beat_steps (fun vs H Q E h => ?_) (fun cdv A outer s H vs Q E hr h => ?_)
  · obtain ⟨r, fp, hs, bs, a, b, rfl, _⟩ := h
    rfl
  obtain ⟨r, fp, hs, bs, a, b, rfl, hR, hfp, ok, q⟩ := h
  obtain ⟨ha, ba, hv, bv, er, eh, eb, alh, alb⟩ := hR.ex
  have lbv := alb.length
  have lb := ok.many
  let R1 : TS := fun D' σ' H' => D'.rt = Q ∧ H = H' ∧ σ' = [some (.ref r), some (.ref fp), some (.int a), some (.int b), some (.ref ha), some (.ref ba), none, none, none]
  refine ⟨_, (pss_cons (ps_asg (pv 1) (pg_tupK K rfl rfl (pgs_cons (pg_name (i := 2) sc_beat_steps.nd rfl (Or.inr rfl)) (pgs_cons (pg_name (i := 3) sc_beat_steps.nd rfl (Or.inr rfl)) pgs_nil))))
      (pss_cons (ps_asg (pv 0) (pg_tupK K rfl rfl (pgs_cons (pg_name (i := 4) sc_beat_steps.nd rfl (Or.inr rfl)) (pgs_cons (pg_name (i := 5) sc_beat_steps.nd rfl (Or.inl rfl)) pgs_nil))))
      (PSs.to (pss_one (ps_ret (pe_lc (own := [("giver", 6), ("taker", 7), ("things", 8)]) (g := gTup K 3 (gCons (gName 6) (gCons (gName 7) (gCons (gName 8) gNil)))) (tt := tYes) (by rfl) sc_beat_steps.nd (pi_tupK K rfl (pv 5)) (blkOk_by (own := [("giver", 6), ("taker", 7), ("things", 8)]) (N := N_beat_steps) (sc := defScope s_beat_steps) (by decide +kernel)) (fun _ _ _ _ _ => (pg_tupK K rfl rfl (pgs_cons (pg_name (i := 6) sc_beat_steps.nd rfl (Or.inl rfl)) (pgs_cons (pg_name (i := 7) sc_beat_steps.nd rfl (Or.inl rfl)) (pgs_cons (pg_name (i := 8) sc_beat_steps.nd rfl (Or.inl rfl)) pgs_nil))))) (fun _ _ _ _ _ => pts_nil) (fun _ _ _ _ _ => (pe_tup (pa_cons (pv 6) (pa_cons (pv 7) (pa_cons (pe_op op_sub (pe_op op_mul (pv 3) (pe_ix (ix_tupK K rfl) (pe_ix (ix_tupK K rfl) (pv 4) (pv 6) (fun _ _ => rfl)) pe_int (fun _ _ => rfl))) (pe_op op_mul (pv 2) (pe_callB (call_len_seqK K rfl) (by rfl) T.m_len (by decide +kernel) (pa_cons (pv 8) pa_nil)))) pa_nil)))))))) R1 ?tail1))), ?_⟩
  case' tail1 => rintro D' σ' H' ⟨eD, rfl, rfl⟩; rw [tRet, eD]
  rotate_left
  refine ⟨_, rfl, fp, _, rfl, SqT.of hfp, rfl, _, _, rfl, _, _, rfl, rfl, ?_⟩
  exact ⟨_, rfl, r, _, rfl, SqT.of er, rfl, _, _, rfl, _, _, rfl, rfl, rfl, rfl, rfl⟩
  refine ⟨_, rfl, ba, rfl, ⟨_, SqT.of eb⟩, fun D nD => lc_tup (K := K) (a := ba) (xs := bv) (fun i H5 => ∃ sv, H5 D = some (.lst sv) ∧ All2 (StepAt H5) sv ((bs.take i).map (bstep hs a b)) ∧ Same H H5) ⟨[], upd_same, .nil, same_new nD⟩ (fun i H5 _ ⟨_, _, _, s5⟩ => SqT.of (s5 _ _ eb)) ?_ ?_⟩
  · rintro i x H5 hx ⟨sv, hD, al, s5⟩
    obtain ⟨x, ebi, ⟨t, g, rfl, e1, e2⟩⟩ := alb.getL hx
    have il := (List.getElem?_eq_some_iff.mp ebi).1
    have hb := List.mem_of_getElem? ebi
    obtain ⟨l1, l2⟩ := ok.ends x hb
    have ehn : hs[x.one]? = some hs[x.one] := List.getElem?_eq_getElem l1
    obtain ⟨y, ey, ⟨t3, r3, rfl, e31, e32⟩⟩ := alh.get ehn
    have m30 := ok.mom _ (List.getElem_mem l1)
    have t30 := ok.th x hb
    have lsv := al.length
    rw [List.length_map, List.length_take] at lsv
    refine ⟨t, _, rfl, SqT.of (s5 _ _ e1), rfl, _, _, rfl, _, _, rfl, _, _, rfl, rfl, rfl, yes_in ?_⟩
    refine ⟨_, rfl, _, rfl, _, rfl, _, rfl, _, rfl, ha, _, _, _, rfl, rfl, SqT.of (s5 _ _ eh), atI_nat ey, t3, _, _, _, rfl, rfl, SqT.of (s5 _ _ e31), atI_nat (j := 1) rfl, _, _, rfl, rfl, .inr ⟨by omega, by omega⟩, ?_⟩
    refine ⟨_, rfl, _, rfl, g, _, rfl, .inr (SqT.of (s5 _ _ e2)), _, _, rfl, rfl, .inr ⟨by rw [List.length_map]; omega, by rw [List.length_map]; omega⟩, _, _, rfl, rfl, (by show 3 ≤ sizeLine; decide), fun tp ntp => ?_⟩
    have hD6 := same_new (o := .tup [nV x.one, nV x.to, V.int (b * hs[x.one].mom - a * (((x.th.map V.int).length : Nat) : Int))]) ntp _ _ hD
    have s6 := s5.trans (same_new (o := .tup [nV x.one, nV x.to, V.int (b * hs[x.one].mom - a * (((x.th.map V.int).length : Nat) : Int))]) ntp)
    refine ⟨sv, hD6, by rw [lsv]; exact small1000 (by omega), sv ++ [.ref tp], upd_same, ?_, Same.own s6 nD⟩
    rw [List.take_add_one, ebi, List.map_append]
    refine All2.snoc ⟨tp, rfl, ?_⟩ (al.imp fun _ _ z => z.keep ((TK.new ntp).trans (TK.lst hD6)))
    rw [TK.lst hD6 _ _ upd_same]
    show _ = some (HO.tup [nV x.one, nV x.to, V.int (b * momH hs x.one - a * (x.th.length : Int))])
    have : momH hs x.one = hs[x.one].mom := by unfold momH; rw [ehn]
    rw [this, List.length_map]
  · rintro H5 ⟨sv, hD, al, s5⟩
    rw [lbv, List.take_length] at al
    exact q D H5 ⟨sv, hD, al⟩ s5
def sp_ring_moments (K : PySem.W.Frag) : Sp := fun vs H Q _ => ∃ (r t : Addr) (hs : List HR) (bs : List BR) (k : Nat) (ns : List Nat), vs = [.ref r, .ref t] ∧ RoomAt H r hs bs ∧ (∀ b ∈ bs, b.to < hs.length) ∧ WayAt H t k ns ∧ k < hs.length ∧ (∀ n ∈ ns, n < bs.length) ∧ ns.length ≤ 400 ∧ ∀ H', Same H H' → Q (.int (rmom hs bs ns)) H'
theorem ok_ring_moments {f : Addr} {fd : FuncData} (F : Fun K "ring_moments" "ring_moments" s_ring_moments f fd) {C : Addr} (T : Top K mg C) : FnOk P w K mg base CX0 2 f fd ["room", "way"] (sp_ring_moments K) := by
  obtain ⟨f_moments_on, fd_moments_on, F_moments_on, b_moments_on, m_moments_on⟩ := T.d_moments_on
  have G_moments_on := ok_moments_on (P := P) (w := w) (base := base) F_moments_on T
  refine F.ok sc_ring_moments (fun vs H Q E h => ?_) (fun cdv A outer s H vs Q E hr h => ?_)
  · obtain ⟨r, t, hs, bs, k, ns, rfl, _⟩ := h
    rfl
  obtain ⟨r, t, hs, bs, k, ns, rfl, hR, hto, hp, hk, hn, ln, q⟩ := h
  refine ⟨_, (pss_one (ps_ret (pe_op op_sub (pe_call G_moments_on (hr.mono (by decide)) (by rfl) m_moments_on F_moments_on.kp b_moments_on .nil pass0 (pa_cons (pv 0) (pa_cons (pv 1) pa_nil))) (pe_ix (ix_tupK K rfl) (pe_ix (ix_tupK K rfl) (pe_ix (ix_tupK K rfl) (pv 0) pe_int (fun _ _ => rfl)) (pe_ix (ix_tupK K rfl) (pv 1) pe_int (fun _ _ => rfl)) (fun _ _ => rfl)) pe_int (fun _ _ => rfl))))), ?_⟩
  refine ⟨_, rfl, _, rfl, r, t, hs, bs, k, ns, rfl, hR, hto, hp, hk, hn, ln, fun H1 s1 => ?_⟩
  obtain ⟨ha, ba, hv, bv, er, eh, eb, alh, alb⟩ := hR.ex
  obtain ⟨g, et, eg⟩ := hp
  have ehk : hs[k]? = some hs[k] := List.getElem?_eq_getElem hk
  obtain ⟨x0, ex0, ⟨t0, r0, rfl, e01, e02⟩⟩ := alh.get ehk
  refine ⟨_, rfl, r, _, _, _, rfl, rfl, SqT.of (s1 _ _ er), atI_nat (j := 0) rfl, _, rfl, t, _, _, _, rfl, rfl, SqT.of (s1 _ _ et), atI_nat (j := 0) rfl, ha, _, _, _, rfl, rfl, SqT.of (s1 _ _ eh), atI_nat ex0, t0, _, _, _, rfl, rfl, SqT.of (s1 _ _ e01), atI_nat (j := 1) rfl, _, _, rfl, rfl, ?_⟩
  have := q _ s1
  rw [show rmom hs bs ns = momW hs bs k ns - hs[k].mom by unfold momW rmom momH; rw [ehk]; dsimp only; omega] at this
  exact this
def sp_in_least_terms (K : PySem.W.Frag) : Sp := fun vs H Q _ => ∃ (A B : Nat), vs = [.int (A : Int), .int (B : Int)] ∧ 0 < B ∧ A ≤ 360 ∧ B ≤ 360 ∧ ∀ (p : Addr) (H' : Hp), H' p = some (.tup [.int ((A / Nat.gcd A B : Nat) : Int), .int ((B / Nat.gcd A B : Nat) : Int)]) → Same H H' → Q (.ref p) H'
theorem ok_in_least_terms {f : Addr} {fd : FuncData} (F : Fun K "in_least_terms" "in_least_terms" s_in_least_terms f fd) {C : Addr} (T : Top K mg C) : FnOk P w K mg base CX0 1 f fd ["a", "b"] (sp_in_least_terms K) := by
  refine F.ok sc_in_least_terms (fun vs H Q E h => ?_) (fun cdv A outer s H vs Q E hr h => ?_)
  · obtain ⟨A, B, rfl, _⟩ := h
    rfl
  obtain ⟨A, B, rfl, hB, a9, b9, q⟩ := h
  refine ⟨_, (pss_cons (ps_par (i := 2) (j := 3) rfl sc_in_least_terms.nd rfl rfl (by decide) rfl rfl (pa_cons (pv 0) (pa_cons (pv 1) pa_nil)) (by rfl))
      (pss_cons (ps_while PassesOwn.never (pt_cmpR op_ne (pv 3) pe_int (nomark _))
        (pss_one (ps_par (i := 2) (j := 3) rfl sc_in_least_terms.nd rfl rfl (by decide) rfl rfl (pa_cons (pv 3) (pa_cons (pe_op op_mod (pv 2) (pv 3)) pa_nil)) (by rfl))))
      (pss_one (ps_ret (pe_tup (pa_cons (pe_op op_fdivW (pv 0) (pv 2)) (pa_cons (pe_op op_fdivW (pv 1) (pv 2)) pa_nil))))))), ?_⟩
  refine ⟨_, rfl, _, rfl, _, _, rfl, ?_⟩
  refine ⟨fun m σ H2 => ∃ d l : Nat, σ = [some (.int (A : Int)), some (.int (B : Int)), some (nV d), some (nV l)] ∧ Nat.gcd d l = Nat.gcd A B ∧ d ≤ 360 ∧ l ≤ 360 ∧ m = l ∧ H = H2, ⟨B, A, B, rfl, rfl, a9, b9, rfl, rfl⟩, ?_⟩
  rintro m σ H2 ⟨d, l, rfl, g, d9, l9, rfl, eH⟩
  subst eH
  refine ⟨_, rfl, rfl, _, rfl, ?_⟩
  cases m with
  | zero =>
    refine if_bl (fun z => nomatch z) (fun _ => ?_)
    rw [Nat.gcd_zero_right] at g
    have gp : 0 < Nat.gcd A B := Nat.gcd_pos_of_pos_right A hB
    have cd : CDivW ((A : Nat) : Int) ((d : Nat) : Int) := wide_div (b := 64) (by omega) (Nat.lt_of_le_of_lt (show _ ≤ 360 by omega) (by decide)) (by decide) (by decide)
    have cd2 : CDivW ((B : Nat) : Int) ((d : Nat) : Int) := cd
    refine ⟨_, rfl, _, rfl, _, _, rfl, rfl, cd, _, rfl, _, rfl, _, _, rfl, rfl, cd2, (by show 2 ≤ sizeLine; decide), fun p np => ?_⟩
    refine q p _ ?_ (same_new np)
    rw [upd_same, ← g]
    rfl
  | succ l =>
    refine if_bl (fun _ => ?_) (fun z => ?_)
    · refine ⟨_, fun σ' H' h => h, ?_⟩
      have ml : d % (l + 1) < l + 1 := Nat.mod_lt _ (Nat.succ_pos _)
      refine ⟨_, rfl, _, rfl, _, rfl, _, _, rfl, rfl, (by omega), _, _, rfl, ?_⟩
      refine ⟨d % (l + 1), ml, l + 1, d % (l + 1), rfl, ?_, l9, by omega, rfl, rfl⟩
      rw [← g, Nat.gcd_comm d, Nat.gcd_rec (l + 1) d, Nat.gcd_comm]
    · have z2 : nV (l + 1) = V.int 0 := by simpa using z
      have := V.int.inj z2
      omega
/-- what beat_papers tells -/
def Papers (hs : List HR) (bs : List BR) (H : Hp) (p : Addr) : Prop := ∃ (fp wp np : Addr) (a b : Int) (k : Nat) (ns : List Nat) (lv : Nat → Int), H p = some (.tup [.ref fp, .ref wp, .ref np]) ∧ H fp = some (.tup [.int a, .int b]) ∧ WayAt H wp k ns ∧ H np = some (.tup (levL hs.length lv)) ∧ Beat hs bs a b k ns ∧ Down hs bs a b lv
def Papers0 (H : Hp) (p : Addr) : Prop := ∃ fp np : Addr, H p = some (.tup [.ref fp, .non, .ref np]) ∧ H fp = some (.tup [.int 0, .int 1]) ∧ H np = some (.tup [])
def sp_beat_papers (K : PySem.W.Frag) (PT : Addr × Addr) : Sp := fun vs H Q _ => ∃ (r : Addr) (hs : List HR) (bs : List BR), vs = [.ref r] ∧ RoomAt H r hs bs ∧ BOk hs bs ∧ LamX.Tabs (TL PT) H ∧
  (hs = [] → ∀ (p : Addr) (H' : Hp), Papers0 H' p → LamX.ExtN H H' → LamX.Tabs (TL PT) H' → Q (.ref p) H') ∧
  (0 < hs.length → ∀ (p : Addr) (H' : Hp), Papers hs bs H' p → LamX.ExtN H H' → LamX.Tabs (TL PT) H' → Q (.ref p) H')
/-- what stands ahead of the loop of beat_papers, and behind each turn -/
def PB (hs : List HR) (bs : List BR) (r ha ba : Addr) (PT : Addr × Addr) (H : Hp) (a b : Int) (σ' : L2.St) (H' : Hp) : Prop := ∃ (m k : Nat) (ns : List Nat) (fp wp : Addr) (v6 v7 : V), σ' = [some (.ref r), some (.ref ha), some (.ref ba), some (nV m), some (.ref wp), some (.ref fp), some v6, some v7] ∧ H' fp = some (.tup [.int a, .int b]) ∧ WayAt H' wp k ns ∧ Beat hs bs a b k ns ∧ LamX.ExtN H H' ∧ LamX.Tabs (TL PT) H' ∧
  ((v7 = .non ∧ ∃ (ll : Addr) (lv : Nat → Int), v6 = .ref ll ∧ H' ll = some (.lst (levL hs.length lv)) ∧ Down hs bs a b lv) ∨
   ∃ (rl : Addr) (ks : List Nat), v6 = .non ∧ v7 = .ref rl ∧ H' rl = some (.lst (ks.map nV)) ∧ RingOk (bs.map (bstep hs a b)) ks ∧ ks.length ≤ hs.length)
theorem down_of {hs : List HR} {bs : List BR} {a b : Int} {k : Nat} {ns : List Nat} {lv : Nat → Int} (B : Beat hs bs a b k ns) (f : ∀ s ∈ bs.map (bstep hs a b), lv s.u + s.w ≤ lv s.v) (nn : ∀ q, 0 ≤ lv q) : Down hs bs a b lv :=
  ⟨nn, B.mom, fun x hx => f _ (List.mem_map.mpr ⟨x, hx, rfl⟩)⟩
theorem steps_bd {hs : List HR} {bs : List BR} {a b : Int} (ok : BOk hs bs) : ∀ s ∈ bs.map (bstep hs a b), s.u < hs.length ∧ s.v < hs.length := fun s hs2 => by
  obtain ⟨x, hx, rfl⟩ := List.mem_map.mp hs2
  exact ok.ends x hx
variable {cT : Addr} {PT : Addr × Addr} [TLI : TabL K mg base cT PT]
include TLI
theorem ok_beat_papers {f : Addr} {fd : FuncData} (F : Fun K "beat_papers" "beat_papers" s_beat_papers f fd) {C : Addr} (hcd : fd.code = .ref cT) (T : Top K mg C) : FnOk P w K mg base CX0 3 f fd ["room"] (sp_beat_papers K PT) := by
  obtain ⟨f_levels_or_ring, fd_levels_or_ring, F_levels_or_ring, b_levels_or_ring, m_levels_or_ring⟩ := T.d_levels_or_ring
  have G_levels_or_ring := ok_levels_or_ring (P := P) (w := w) (base := base) F_levels_or_ring T
  obtain ⟨f_beat_steps, fd_beat_steps, F_beat_steps, b_beat_steps, m_beat_steps⟩ := T.d_beat_steps
  have G_beat_steps := ok_beat_steps (P := P) (w := w) (base := base) F_beat_steps T
  obtain ⟨f_in_least_terms, fd_in_least_terms, F_in_least_terms, b_in_least_terms, m_in_least_terms⟩ := T.d_in_least_terms
  have G_in_least_terms := ok_in_least_terms (P := P) (w := w) (base := base) F_in_least_terms T
  obtain ⟨f_ring_moments, fd_ring_moments, F_ring_moments, b_ring_moments, m_ring_moments⟩ := T.d_ring_moments
  have G_ring_moments := ok_ring_moments (P := P) (w := w) (base := base) F_ring_moments T
  obtain ⟨f_trays_on, fd_trays_on, F_trays_on, b_trays_on, m_trays_on⟩ := T.d_trays_on
  have G_trays_on := ok_trays_on (P := P) (w := w) (base := base) F_trays_on T
  refine ok_code F hcd sc_beat_papers (fun vs H Q E h => ?_) (fun A outer s H vs Q E hr h => ?_)
  · obtain ⟨r, hs, bs, rfl, _⟩ := h
    rfl
  obtain ⟨r, hs, bs, rfl, hR, ok, tabs, q0, q1⟩ := h
  obtain ⟨ha, ba, hv, bv, er, eh, eb, alh, alb⟩ := hR.ex
  have lhv := alh.length
  have lbv := alb.length
  have lh := ok.hands
  have lb := ok.many
  have hto : ∀ b ∈ bs, b.to < hs.length := fun b hb => (ok.ends b hb).2
  let R1 : TS := fun D' σ' H' => D'.rt = Q ∧ 0 < hs.length ∧ ∃ a b : Int, PB hs bs r ha ba PT H a b σ' H'
  refine ⟨_, (pss_cons (ps_asg (pv 0) (pg_tupK K rfl rfl (pgs_cons (pg_name (i := 1) sc_beat_papers.nd rfl (Or.inr rfl)) (pgs_cons (pg_name (i := 2) sc_beat_papers.nd rfl (Or.inl rfl)) pgs_nil))))
      (pss_cons (ps_if (pt_not (pt_truthK K rfl (pv 1) (by intro _; rfl))) (pss_one (ps_ret (pe_tup (pa_cons (pe_tup (pa_cons pe_int (pa_cons pe_int pa_nil))) (pa_cons pe_non (pa_cons (pe_tup pa_nil) pa_nil)))))) pss_nil)
      (pss_cons (ps_set (i := 3) sc_beat_papers.nd rfl (Or.inl rfl) (pe_maxLam (T := TL PT) K rfl rfl hr (by decide) (by rfl) T.m_max TLI.tb rfl (List.mem_cons_self ..) (fun q hq e => tl_one1 TLI.ne hq e) rfl (free_one rfl rfl) ⟨fun _ _ _ _ _ _ => rfl, rfl, rfl, rfl, rfl, by decide⟩ (body_tup (i := 1) ⟨rfl, .inr (.inl rfl), (fun z => nomatch (show (some NameKind.cell : Option NameKind) = some NameKind.local from z)), rfl, rfl, rfl, fun _ => rfl, by decide, by decide, by decide⟩ (fun _ _ => rfl) (fun _ _ => rfl)) (pe_listRg rfl (by rfl) T.m_list (prg_1 (by rfl) T.m_range (pe_callB (call_len_seqK K rfl) (by rfl) T.m_len (by decide +kernel) (pa_cons (pv 1) pa_nil))))))
      (pss_cons (ps_set (i := 4) sc_beat_papers.nd rfl (Or.inl rfl) (pe_tup (pa_cons (pv 3) (pa_cons (pe_tup pa_nil) pa_nil))))
      (pss_cons (ps_set (i := 5) sc_beat_papers.nd rfl (Or.inl rfl) (pe_tup (pa_cons (pe_ix (ix_tupK K rfl) (pe_ix (ix_tupK K rfl) (pv 1) (pv 3) (fun _ _ => rfl)) pe_int (fun _ _ => rfl)) (pa_cons pe_int pa_nil))))
      (pss_cons (ps_asg (pe_call G_levels_or_ring (hr.mono (by decide)) (by rfl) m_levels_or_ring F_levels_or_ring.kp b_levels_or_ring .nil pass0 (pa_cons (pe_callB (call_len_seqK K rfl) (by rfl) T.m_len (by decide +kernel) (pa_cons (pv 1) pa_nil)) (pa_cons (pe_call G_beat_steps (hr.mono (by decide)) (by rfl) m_beat_steps F_beat_steps.kp b_beat_steps .nil pass0 (pa_cons (pv 0) (pa_cons (pv 5) pa_nil))) pa_nil))) (pg_tupK K rfl rfl (pgs_cons (pg_name (i := 6) sc_beat_papers.nd rfl (Or.inl rfl)) (pgs_cons (pg_name (i := 7) sc_beat_papers.nd rfl (Or.inl rfl)) pgs_nil))))
      (PSs.to (pss_cons (ps_while PassesOwn.never (pt_cmpR op_notN (pv 7) pe_non (nomark _))
        (pss_cons (ps_set (i := 4) sc_beat_papers.nd rfl (Or.inl rfl) (pe_tup (pa_cons (pe_ix (ix_tupK K rfl) (pe_ix (ix_tupK K rfl) (pv 2) (pe_ix (ix_listK K rfl) (pv 7) pe_int (fun _ _ => rfl)) (fun _ _ => rfl)) pe_int (fun _ _ => rfl)) (pa_cons (pe_callTy (call_tuple_ofK K rfl) (by rfl) T.m_tuple (by decide +kernel) (pa_cons (pv 7) pa_nil)) pa_nil))))
      (pss_cons (ps_set (i := 5) sc_beat_papers.nd rfl (Or.inl rfl) (pe_call G_in_least_terms (hr.mono (by decide)) (by rfl) m_in_least_terms F_in_least_terms.kp b_in_least_terms .nil pass0 (pa_cons (pe_call G_ring_moments (hr.mono (by decide)) (by rfl) m_ring_moments F_ring_moments.kp b_ring_moments .nil pass0 (pa_cons (pv 0) (pa_cons (pv 4) pa_nil))) (pa_cons (pe_call G_trays_on (hr.mono (by decide)) (by rfl) m_trays_on F_trays_on.kp b_trays_on .nil pass0 (pa_cons (pv 0) (pa_cons (pv 4) pa_nil))) pa_nil))))
      (pss_one (ps_asg (pe_call G_levels_or_ring (hr.mono (by decide)) (by rfl) m_levels_or_ring F_levels_or_ring.kp b_levels_or_ring .nil pass0 (pa_cons (pe_callB (call_len_seqK K rfl) (by rfl) T.m_len (by decide +kernel) (pa_cons (pv 1) pa_nil)) (pa_cons (pe_call G_beat_steps (hr.mono (by decide)) (by rfl) m_beat_steps F_beat_steps.kp b_beat_steps .nil pass0 (pa_cons (pv 0) (pa_cons (pv 5) pa_nil))) pa_nil))) (pg_tupK K rfl rfl (pgs_cons (pg_name (i := 6) sc_beat_papers.nd rfl (Or.inl rfl)) (pgs_cons (pg_name (i := 7) sc_beat_papers.nd rfl (Or.inl rfl)) pgs_nil))))))))
      (pss_one (ps_ret (pe_tup (pa_cons (pv 5) (pa_cons (pv 4) (pa_cons (pe_callTy (call_tuple_ofK K rfl) (by rfl) T.m_tuple (by decide +kernel) (pa_cons (pv 6) pa_nil)) pa_nil))))))) R1 ?tail1))))))), ?_⟩
  case tail1 =>
    rintro D' σ' H1 ⟨eD, h0, a0, b0, pb⟩
    refine ⟨fun m σ H2 => ∃ a b : Int, PB hs bs r ha ba PT H a b σ H2 ∧ m = (360 * 129600 - bms a b).toNat, ⟨_, a0, b0, pb, rfl⟩, ?_⟩
    rintro m σ H2 ⟨a, b, ⟨m1, k, ns, fp, wp, v6, v7, rfl, hfp, hwp, B, ext, tabs2, kind⟩, rfl⟩
    rcases kind with ⟨rfl, ll, lv, rfl, hll, D⟩ | ⟨rl, ks, rfl, rfl, hrl, ring, lks⟩
    · refine ⟨_, rfl, rfl, _, rfl, if_bl (fun z => nomatch z) (fun _ => ?_)⟩
      refine ⟨_, rfl, _, rfl, _, rfl, ll, _, rfl, .inl ⟨SqL.of hll, fun np nnp => ⟨(by show 3 ≤ sizeLine; decide), fun p np2 => ?_⟩⟩⟩
      have s3 := (same_new (H := H2) (o := .tup (levL hs.length lv)) nnp).trans (same_new (o := .tup [.ref fp, .ref wp, .ref np]) np2)
      rw [eD]
      exact q1 h0 p _ ⟨fp, wp, np, a, b, k, ns, lv, upd_same, s3 _ _ hfp, hwp.keep (TK.same s3), same_new np2 _ _ upd_same, B, D⟩ (ext.trans (ExtN.same s3)) (tabs_same tabs2 s3)
    · refine ⟨_, rfl, rfl, _, rfl, if_bl (fun _ => ?_) (fun z => nomatch z)⟩
      refine ⟨_, fun σ' H' h => h, ?_⟩
      obtain ⟨k2, cl, lt, ab⟩ := ring_above ring
      have ne := ring.ne
      cases ks with
      | nil => exact absurd rfl ne
      | cons n0 ks =>
      have nb := lt n0 (List.mem_cons_self ..)
      have ebn : bs[n0]? = some bs[n0] := List.getElem?_eq_getElem nb
      obtain ⟨x, ex, ⟨t2, g2, rfl, e1, e2⟩⟩ := alb.get ebn
      have eone : bs[n0].one = k2 := by
        rw [wayEnd_cons ebn] at cl
        by_cases z : bs[n0].one = k2
        · exact z
        · rw [if_neg z] at cl; cases cl
      have kl2 : k2 < hs.length := eone ▸ (ok.ends _ (List.getElem_mem nb)).1
      have T2 := ExtN.tk ext
      refine ⟨_, rfl, _, rfl, rl, _, _, _, rfl, rfl, SqL.of hrl, atI_nat (j := 0) rfl, ba, _, _, _, rfl, rfl, SqT.of (T2 _ _ eb), atI_nat ex, t2, _, _, _, rfl, rfl, SqT.of (T2 _ _ e1), atI_nat (j := 0) rfl, _, rfl, rl, _, rfl, .inl ⟨SqL.of hrl, fun tp ntp => ⟨(by show 2 ≤ sizeLine; decide), fun wp2 nwp2 => ?_⟩⟩⟩
      rw [eone]
      have s3 := (same_new (H := H2) (o := .tup ((n0 :: ks).map nV)) ntp).trans (same_new (o := .tup [nV k2, .ref tp]) nwp2)
      have ln12 : (n0 :: ks).length ≤ 12 := by omega
      obtain ⟨t0, m0, B2, lt2⟩ := beat_next ok B cl kl2 lt ln12 ne ab
      have mB := ok.rmom (ns := n0 :: ks) ln12
      have tB := ok.rtr (ns := n0 :: ks) ln12
      have pw : WayAt (upd (upd H2 tp (.tup ((n0 :: ks).map nV))) wp2 (.tup [nV k2, .ref tp])) wp2 k2 (n0 :: ks) := ⟨tp, upd_same, same_new nwp2 _ _ upd_same⟩
      have hR3 := (hR.keep T2).keep (TK.same s3)
      refine ⟨_, rfl, _, rfl, r, wp2, hs, bs, k2, n0 :: ks, rfl, hR3, hto, pw, kl2, lt, by omega, fun H4 s4 => ?_⟩
      refine ⟨_, rfl, _, rfl, r, wp2, hs, bs, k2, n0 :: ks, rfl, hR3.keep (TK.same s4), pw.keep (TK.same s4), lt, by omega, fun H5 s5 => ?_⟩
      refine ⟨(rmom hs bs (n0 :: ks)).toNat, (rtr bs (n0 :: ks)).toNat, ?_, by omega, by omega, by omega, fun p H6 hp s6 => ?_⟩
      · rw [Int.toNat_of_nonneg mB.1, Int.toNat_of_nonneg tB.1]; rfl
      have s36 := s3.trans ((s4.trans s5).trans s6)
      have hR6 := hR3.keep (TK.same ((s4.trans s5).trans s6))
      have pw6 := pw.keep (TK.same ((s4.trans s5).trans s6))
      refine ⟨_, rfl, ha, _, rfl, .inr (SqT.of (s36 _ _ (T2 _ _ eh))), _, rfl, _, rfl, r, p, hs, bs, _, _, rfl, hR6, hp, ok, fun sl H7 hst s7 => ⟨sl, hs.length, _, by rw [lhv]; rfl, hst, steps_bd ok, by rw [List.length_map]; omega, by omega, fun q2 ll lv H8 hq hll f nn s8 => ?_, fun q2 rl ks2 H8 hq hrl ring lk s8 => ?_⟩⟩
      all_goals have s68 := s7.trans s8
      all_goals have bb := B2
      all_goals have x1 := bms_le B2.a0 B2.a9 B2.b1
      · exact ⟨q2, _, rfl, SqT.of hq, rfl, _, _, rfl, _, _, rfl, rfl, _, (by omega), _, _, ⟨m1, k2, n0 :: ks, p, wp2, _, _, rfl, s68 _ _ hp, pw6.keep (TK.same s68), B2, ext.trans (ExtN.same (s36.trans s68)), tabs_same tabs2 (s36.trans s68), .inl ⟨rfl, ll, lv, rfl, hll, down_of B2 f nn⟩⟩, rfl⟩
      · exact ⟨q2, _, rfl, SqT.of hq, rfl, _, _, rfl, _, _, rfl, rfl, _, (by omega), _, _, ⟨m1, k2, n0 :: ks, p, wp2, _, _, rfl, s68 _ _ hp, pw6.keep (TK.same s68), B2, ext.trans (ExtN.same (s36.trans s68)), tabs_same tabs2 (s36.trans s68), .inr ⟨rl, ks2, rfl, rfl, hrl, ring, lk⟩⟩, rfl⟩
  refine ⟨_, rfl, r, _, rfl, SqT.of er, rfl, _, _, rfl, _, _, rfl, rfl, ?_⟩
  refine ⟨_, rfl, _, .inr (.inl ⟨_, SqT.of eh, rfl⟩), if_bl (fun z => ?_) (fun z => ?_)⟩
  · have e0 : hs = [] := by
      cases hv with
      | nil => exact List.eq_nil_of_length_eq_zero lhv.symm
      | cons x l => exact nomatch z
    refine ⟨(by show 2 ≤ sizeLine; decide), fun p1 np1 => ⟨(by show 0 ≤ sizeLine; decide), fun p2 np2 => ⟨(by show 3 ≤ sizeLine; decide), fun p np => ?_⟩⟩⟩
    have s3 := ((same_new (H := H) (o := .tup [.int 0, .int 1]) np1).trans (same_new (o := .tup []) np2)).trans (same_new (o := .tup [.ref p1, .non, .ref p2]) np)
    exact q0 e0 p _ ⟨p1, p2, upd_same, same_new np _ _ (same_new np2 _ _ upd_same), same_new np _ _ upd_same⟩ (ExtN.same s3) (tabs_same tabs s3)
  have h0 : 0 < hs.length := by
    cases hv with
    | nil => exact nomatch z
    | cons x l => rw [← lhv]; exact Nat.succ_pos _
  refine ⟨_, rfl, ha, _, rfl, .inr (SqT.of eh), _, rfl, ⟨by omega, by omega, by omega, by omega, by omega⟩, fun rg nrg => ?_⟩
  have erg : rgV 0 ((hv.length : Nat) : Int) = ((List.range hs.length).map fun i => ((i : Nat) : Int)).map V.int := by
    unfold rgV
    rw [List.map_map, show (((hv.length : Nat) : Int) - 0).toNat = hs.length by omega]
    refine List.map_congr_left fun i _ => ?_
    show V.int (0 + ((i : Nat) : Int)) = V.int ((i : Nat) : Int)
    rw [Int.zero_add]
  have hrg : upd H rg (.lst (rgV 0 ((hv.length : Nat) : Int))) rg = some (.lst (((List.range hs.length).map fun i => ((i : Nat) : Int)).map V.int)) := by rw [upd_same, erg]
  have s1 := same_new (H := H) (o := .lst (rgV 0 ((hv.length : Nat) : Int))) nrg
  refine ⟨rg, (List.range hs.length).map fun i => ((i : Nat) : Int), fun z => momH hs z.toNat, rfl, SqL.of hrg, by rw [List.length_map, List.length_range]; exact h0, tabs_same tabs s1, fun H3 ext tabs3 => ⟨SqL.of (ExtN.lst ext hrg), fun n hn => ?_, fun m hm hg => ?_⟩⟩
  · obtain ⟨j, hj, rfl⟩ := List.mem_map.mp hn
    have jl := List.mem_range.mp hj
    have ehj : hs[j]? = some hs[j] := List.getElem?_eq_getElem jl
    obtain ⟨x0, ex0, ⟨t0, r0, rfl, e01, e02⟩⟩ := alh.get ehj
    refine ⟨ha, t0, hv, _, rfl, SqT.of (ExtN.tk ext _ _ (s1 _ _ eh)), atI_nat ex0, SqT.of (ExtN.tk ext _ _ (s1 _ _ e01)), ?_⟩
    show atI [V.ref r0, V.int hs[j].mom] 1 = some (V.int (momH hs ((j : Nat) : Int).toNat))
    rw [Int.toNat_natCast, show momH hs j = hs[j].mom by unfold momH; rw [ehj]]
    exact atI_nat (j := 1) rfl
  · obtain ⟨e, he, rfl⟩ := List.mem_map.mp hm
    have el := List.mem_range.mp he
    have ehj : hs[e]? = some hs[e] := List.getElem?_eq_getElem el
    obtain ⟨x0, ex0, ⟨t0, r0, rfl, e01, e02⟩⟩ := alh.get ehj
    have ex2 : LamX.ExtN H H3 := (ExtN.same s1).trans ext
    have T3 := ExtN.tk ex2
    have emo : momH hs e = hs[e].mom := by unfold momH; rw [ehj]
    have mo := ok.mom _ (List.getElem_mem el)
    have B : Beat hs bs hs[e].mom 1 e [] := ⟨mo.1, by omega, by omega, by omega, Nat.gcd_one_right _, el, (fun _ z => nomatch z), by show 0 ≤ 12; decide, .inl ⟨rfl, by rw [emo]; omega⟩, fun h hh => by
      obtain ⟨j, hj⟩ := List.getElem?_of_mem hh
      have jl := (List.getElem?_eq_some_iff.mp hj).1
      have : momH hs ((j : Nat) : Int).toNat ≤ momH hs ((e : Nat) : Int).toNat := hg ((j : Nat) : Int) (List.mem_map.mpr ⟨j, List.mem_range.mpr jl, rfl⟩)
      rw [Int.toNat_natCast, Int.toNat_natCast, emo] at this
      have : momH hs j = h.mom := by unfold momH; rw [hj]
      omega⟩
    refine ⟨_, rfl, (by show 0 ≤ sizeLine; decide), fun tp ntp => ⟨(by show 2 ≤ sizeLine; decide), fun wp nwp => ?_⟩⟩
    have s4 := (same_new (H := H3) (o := .tup []) ntp).trans (same_new (o := .tup [nV e, .ref tp]) nwp)
    have pw : WayAt (upd (upd H3 tp (.tup [])) wp (.tup [nV e, .ref tp])) wp e [] := ⟨tp, upd_same, same_new nwp _ _ upd_same⟩
    refine ⟨_, rfl, _, rfl, ha, _, _, _, rfl, rfl, SqT.of (s4 _ _ (T3 _ _ eh)), atI_nat ex0, t0, _, _, _, rfl, rfl, SqT.of (s4 _ _ (T3 _ _ e01)), atI_nat (j := 1) rfl, (by show 2 ≤ sizeLine; decide), fun fp nfp => ?_⟩
    have s5 := same_new (o := .tup [.int hs[e].mom, .int 1]) nfp
    have s45 := s4.trans s5
    refine ⟨_, rfl, ha, _, rfl, .inr (SqT.of (s45 _ _ (T3 _ _ eh))), _, rfl, _, rfl, r, fp, hs, bs, _, _, rfl, (hR.keep T3).keep (TK.same s45), upd_same, ok, fun sl H7 hst s7 => ⟨sl, hs.length, _, by rw [lhv]; rfl, hst, steps_bd ok, by rw [List.length_map]; omega, by omega, fun q2 ll lv H8 hq hll f nn s8 => ?_, fun q2 rl ks2 H8 hq hrl ring lk s8 => ?_⟩⟩
    all_goals have s68 := s7.trans s8
    all_goals have s48 := s45.trans s68
    · exact ⟨q2, _, rfl, SqT.of hq, rfl, _, _, rfl, _, _, rfl, rfl, rfl, h0, _, _, e, e, [], fp, wp, _, _, rfl, s68 _ _ upd_same, (pw.keep (TK.same s5)).keep (TK.same s68), B, ex2.trans (ExtN.same s48), tabs_same tabs3 s48, .inl ⟨rfl, ll, lv, rfl, hll, down_of B f nn⟩⟩
    · exact ⟨q2, _, rfl, SqT.of hq, rfl, _, _, rfl, _, _, rfl, rfl, rfl, h0, _, _, e, e, [], fp, wp, _, _, rfl, s68 _ _ upd_same, (pw.keep (TK.same s5)).keep (TK.same s68), B, ex2.trans (ExtN.same s48), tabs_same tabs3 s48, .inr ⟨rl, ks2, rfl, rfl, hrl, ring, lk⟩⟩
def sp_beat (K : PySem.W.Frag) (PT : Addr × Addr) : Sp := fun vs H Q _ => ∃ (r : Addr) (hs : List HR) (bs : List BR), vs = [.ref r] ∧ RoomAt H r hs bs ∧ BOk hs bs ∧ LamX.Tabs (TL PT) H ∧
  (hs = [] → ∀ (p : Addr) (H' : Hp), H' p = some (.tup [.int 0, .int 1]) → LamX.ExtN H H' → LamX.Tabs (TL PT) H' → Q (.ref p) H') ∧
  (0 < hs.length → ∀ (p : Addr) (a b : Int) (k : Nat) (ns : List Nat) (lv : Nat → Int) (H' : Hp), H' p = some (.tup [.int a, .int b]) → Beat hs bs a b k ns → Down hs bs a b lv → LamX.ExtN H H' → LamX.Tabs (TL PT) H' → Q (.ref p) H')
theorem ok_beat {f : Addr} {fd : FuncData} (F : Fun K "beat" "beat" s_beat f fd) {C : Addr} (T : Top K mg C) : FnOk P w K mg base CX0 4 f fd ["room"] (sp_beat K PT) := by
  obtain ⟨f_beat_papers, fd_beat_papers, F_beat_papers, b_beat_papers, m_beat_papers⟩ := T.d_beat_papers
  have G_beat_papers := ok_beat_papers (P := P) (w := w) (base := base) F_beat_papers (TLI.cd _ _ F_beat_papers m_beat_papers) T
  refine F.ok sc_beat (fun vs H Q E h => ?_) (fun cdv A outer s H vs Q E hr h => ?_)
  · obtain ⟨r, hs, bs, rfl, _⟩ := h
    rfl
  obtain ⟨r, hs, bs, rfl, hR, ok, tabs, q0, q1⟩ := h
  refine ⟨_, (pss_cons (ps_asg (pe_call G_beat_papers (hr.mono (by decide)) (by rfl) m_beat_papers F_beat_papers.kp b_beat_papers .nil pass0 (pa_cons (pv 0) pa_nil)) (pg_tupK K rfl rfl (pgs_cons (pg_name (i := 1) sc_beat.nd rfl (Or.inl rfl)) (pgs_cons (pg_name (i := 2) sc_beat.nd rfl (Or.inl rfl)) (pgs_cons (pg_name (i := 3) sc_beat.nd rfl (Or.inl rfl)) pgs_nil)))))
      (pss_one (ps_ret (pv 1)))), ?_⟩
  refine ⟨_, rfl, r, hs, bs, rfl, hR, ok, tabs, fun h0 p H1 pp ext tb => ?_, fun h0 p H1 pp ext tb => ?_⟩
  · obtain ⟨fp, np, hp, hfp, hnp⟩ := pp
    exact ⟨p, _, rfl, SqT.of hp, rfl, _, _, rfl, _, _, rfl, _, _, rfl, rfl, _, rfl, q0 h0 fp H1 hfp ext tb⟩
  · obtain ⟨fp, wp, np, a, b, k, ns, lv, hp, hfp, hwp, hnp, B, D⟩ := pp
    exact ⟨p, _, rfl, SqT.of hp, rfl, _, _, rfl, _, _, rfl, _, _, rfl, rfl, _, rfl, q1 h0 fp a b k ns lv H1 hfp B D ext tb⟩
end
/-! ### two things alike (found == due, by kinds, as deep as need be) -/
def Lf (v : V) : Prop := (∃ a : Int, v = .int a) ∨ ∃ s : Str, v = .str s ∧ PyData.canLay0 (.str s) = true
def Al : Nat → Hp → V → V → Prop
  | 0, _, _, _ => False
  | n + 1, H, v, u => (Lf v ∧ v = u) ∨ ∃ (p q : Addr) (xs ys : List V), v = .ref p ∧ u = .ref q ∧ ((H p = some (.lst xs) ∧ H q = some (.lst ys)) ∨ (H p = some (.tup xs) ∧ H q = some (.tup ys))) ∧ xs.length ≤ 400 ∧ All2 (Al n H) xs ys
theorem Al.same {H H' : Hp} (s : Same H H') : ∀ {n : Nat} {v u : V}, Al n H v u → Al n H' v u
  | 0, _, _, h => h
  | n + 1, _, _, .inl h => .inl h
  | n + 1, _, _, .inr h => by
    obtain ⟨p, q, xs, ys, e1, e2, e3, e4, e5⟩ := h
    exact .inr ⟨p, q, xs, ys, e1, e2, e3.imp (fun z => ⟨s _ _ z.1, s _ _ z.2⟩) (fun z => ⟨s _ _ z.1, s _ _ z.2⟩), e4, e5.imp fun _ _ z => Al.same s z⟩
theorem Al.int {n : Nat} {H : Hp} {a : Int} : Al (n + 1) H (.int a) (.int a) := .inl ⟨.inl ⟨a, rfl⟩, rfl⟩
theorem Al.str {n : Nat} {H : Hp} {s : Str} (h : PyData.canLay0 (.str s) = true) : Al (n + 1) H (.str s) (.str s) := .inl ⟨.inr ⟨s, rfl, h⟩, rfl⟩
theorem Al.ints {n : Nat} {H : Hp} : ∀ m : List Int, All2 (Al (n + 1) H) (m.map V.int) (m.map V.int)
  | [] => .nil
  | _ :: m => .cons .int (Al.ints m)
theorem Al.tup {n : Nat} {H : Hp} {p q : Addr} {xs ys : List V} (h1 : H p = some (.tup xs)) (h2 : H q = some (.tup ys)) (l : xs.length ≤ 400) (a : All2 (Al n H) xs ys) : Al (n + 1) H (.ref p) (.ref q) := .inr ⟨p, q, xs, ys, rfl, rfl, .inr ⟨h1, h2⟩, l, a⟩
theorem Al.lst {n : Nat} {H : Hp} {p q : Addr} {xs ys : List V} (h1 : H p = some (.lst xs)) (h2 : H q = some (.lst ys)) (l : xs.length ≤ 400) (a : All2 (Al n H) xs ys) : Al (n + 1) H (.ref p) (.ref q) := .inr ⟨p, q, xs, ys, rfl, rfl, .inl ⟨h1, h2⟩, l, a⟩
def spA (n : Nat) : Sp := fun vs H Q _ => ∃ v u : V, vs = [v, u] ∧ Al n H v u ∧ ∀ H', Same H H' → Q (.bl true) H'
theorem kit_lst {K : PySem.W.Frag} : PySem.W.kitAny K (.type "list") [.type "list", .type "tuple"] = some true := by
  unfold PySem.W.kitAny
  rw [kit_ty (show kitB "list" "list" = some true by decide +kernel)]
theorem kit_tup {K : PySem.W.Frag} : PySem.W.kitAny K (.type "tuple") [.type "list", .type "tuple"] = some true := by
  unfold PySem.W.kitAny
  rw [kit_ty (show kitB "tuple" "list" = some false by decide +kernel)]
  unfold PySem.W.kitAny
  rw [kit_ty (show kitB "tuple" "tuple" = some true by decide +kernel)]
theorem kit_int {K : PySem.W.Frag} : PySem.W.kitAny K (.type "int") [.type "list", .type "tuple"] = some false := by
  unfold PySem.W.kitAny
  rw [kit_ty (show kitB "int" "list" = some false by decide +kernel)]
  unfold PySem.W.kitAny
  rw [kit_ty (show kitB "int" "tuple" = some false by decide +kernel)]
  rfl
theorem or_zip {K : PySem.W.Frag} {ta : TA} {σ : L2.St} {H : Hp} {R : It → Hp → Prop} {p q : Addr} {xs ys : List V} (ht : ∀ Q : List V → Hp → Prop, Q [.ref p, .ref q] H → ta σ H Q) (h : (H p = some (.lst xs) ∧ H q = some (.lst ys)) ∨ (H p = some (.tup xs) ∧ H q = some (.tup ys))) (hl : xs.length = ys.length)
    (k : ∀ J : It, (∀ i H', (H' p = H p ∧ H' q = H q) → i < xs.length → J.go i H') → (∀ H', (H' p = H p ∧ H' q = H q) → J.stop xs.length H') → (∀ i H' v H'', (H' p = H p ∧ H' q = H q) → J.yld i H' v H'' → ∃ T x y, v = .ref T ∧ H' T = none ∧ H'' = upd H' T (.tup [x, y]) ∧ xs[i]? = some x ∧ ys[i]? = some y) → R J H) :
    RZ.iZipA K ta σ H R := by
  rcases h with ⟨e1, e2⟩ | ⟨e1, e2⟩
  · refine ht _ ⟨p, q, xs, ys, rfl, .inl ⟨SqL.of e1, SqL.of e2, k _ (fun i H' st hi => ?_) (fun H' st => ?_) fun i H' v H'' st y => ?_⟩⟩
    · exact ⟨xs, ys, _, _, SqL.of (st.1.trans e1), SqL.of (st.2.trans e2), List.getElem?_eq_getElem hi, List.getElem?_eq_getElem (by omega)⟩
    · exact ⟨xs, ys, SqL.of (st.1.trans e1), SqL.of (st.2.trans e2), .inl (Nat.le_refl _)⟩
    · obtain ⟨T, x, z, q1, q2, q3, q4, q5⟩ := y
      exact ⟨T, x, z, q1, q2, q3, q4 _ (SqL.of (st.1.trans e1)), q5 _ (SqL.of (st.2.trans e2))⟩
  · refine ht _ ⟨p, q, xs, ys, rfl, .inr ⟨SqT.of e1, SqT.of e2, k _ (fun i H' st hi => ?_) (fun H' st => ?_) fun i H' v H'' st y => ?_⟩⟩
    · exact ⟨xs, ys, _, _, SqT.of (st.1.trans e1), SqT.of (st.2.trans e2), List.getElem?_eq_getElem hi, List.getElem?_eq_getElem (by omega)⟩
    · exact ⟨xs, ys, SqT.of (st.1.trans e1), SqT.of (st.2.trans e2), .inl (Nat.le_refl _)⟩
    · obtain ⟨T, x, z, q1, q2, q3, q4, q5⟩ := y
      exact ⟨T, x, z, q1, q2, q3, q4 _ (SqT.of (st.1.trans e1)), q5 _ (SqT.of (st.2.trans e2))⟩
theorem kit_str {K : PySem.W.Frag} : PySem.W.kitAny K (.type "str") [.type "list", .type "tuple"] = some false := by
  unfold PySem.W.kitAny
  rw [kit_ty (show kitB "str" "list" = some false by decide +kernel)]
  unfold PySem.W.kitAny
  rw [kit_ty (show kitB "str" "tuple" = some false by decide +kernel)]
  rfl
section
variable {P : Program} {w : World} {K : PySem.W.Frag} {mg : Str → Option Value} {base : Heap}
theorem alike_step {C : Addr} (T : Top K mg C) (n : Nat) (below : ∀ (f : Addr) (fd : FuncData), Fun K "_law_alike" "_law_alike" s_law_alike f fd → FnOk P w K mg base CX0 n f fd ["_law_found", "_law_due"] (spA n)) {f : Addr} {fd : FuncData} (F : Fun K "_law_alike" "_law_alike" s_law_alike f fd) :
    FnOk P w K mg base CX0 (n + 1) f fd ["_law_found", "_law_due"] (spA (n + 1)) := by
  obtain ⟨f_law_alike, fd_law_alike, F_law_alike, b_law_alike, m_law_alike⟩ := T.d_law_alike
  have G_law_alike := below f_law_alike fd_law_alike F_law_alike
  refine F.ok sc_law_alike (fun vs H Q E h => ?_) (fun cdv A outer s H vs Q E hr h => ?_)
  · obtain ⟨v, u, rfl, _⟩ := h
    rfl
  obtain ⟨v, u, rfl, al, q⟩ := h
  refine ⟨_, (pss_cons (ps_if (pt_val (pe_callB (call_isiTK K rfl) (by rfl) T.m_isinstance (by decide +kernel) (pa_cons (pv 1) (pa_cons (pe_tup (pa_cons (pe_bltn (v := .ty "list") (by rfl) T.m_list (by decide +kernel) rfl) (pa_cons (pe_bltn (v := .ty "tuple") (by rfl) T.m_tuple (by decide +kernel) rfl) pa_nil))) pa_nil)))) (pss_cons (ps_if (PW.pt (pw_or (pt_cmpR op_ne (pe_callB (call_isiKK K rfl) (by rfl) T.m_isinstance (by decide +kernel) (pa_cons (pv 0) (pa_cons (pe_bltn (v := .ty "list") (by rfl) T.m_list (by decide +kernel) rfl) pa_nil))) (pe_callB (call_isiKK K rfl) (by rfl) T.m_isinstance (by decide +kernel) (pa_cons (pv 1) (pa_cons (pe_bltn (v := .ty "list") (by rfl) T.m_list (by decide +kernel) rfl) pa_nil))) (nomark _)) (pw_or1 (pt_cmpR op_ne (pe_callB (call_isiKK K rfl) (by rfl) T.m_isinstance (by decide +kernel) (pa_cons (pv 0) (pa_cons (pe_bltn (v := .ty "tuple") (by rfl) T.m_tuple (by decide +kernel) rfl) pa_nil))) (pe_callB (call_isiKK K rfl) (by rfl) T.m_isinstance (by decide +kernel) (pa_cons (pv 1) (pa_cons (pe_bltn (v := .ty "tuple") (by rfl) T.m_tuple (by decide +kernel) rfl) pa_nil))) (nomark _))))) (pss_one (ps_ret pe_bl)) pss_nil)
      (pss_one (ps_ret (pe_and (pe_cmpR op_eq (pe_callB (call_len_seqK K rfl) (by rfl) T.m_len (by decide +kernel) (pa_cons (pv 0) pa_nil)) (pe_callB (call_len_seqK K rfl) (by rfl) T.m_len (by decide +kernel) (pa_cons (pv 1) pa_nil)) (nomark _)) (pe_one (pe_callB (cr_allK K rfl rfl) (by rfl) T.m_all (by decide +kernel) (pa_cons (pe_lc (own := [("_law_one", 2), ("_law_other", 3)]) (g := gTup K 2 (gCons (gName 2) (gCons (gName 3) gNil))) (tt := tYes) (by rfl) sc_law_alike.nd (pi_zipAK K rfl (by rfl) T.m_zip (pa_cons (pv 0) (pa_cons (pv 1) pa_nil))) (blkOk_by (own := [("_law_one", 2), ("_law_other", 3)]) (N := N_law_alike) (sc := defScope s_law_alike) (by decide +kernel)) (fun _ _ _ _ _ => (pg_tupK K rfl rfl (pgs_cons (pg_name (i := 2) sc_law_alike.nd rfl (Or.inl rfl)) (pgs_cons (pg_name (i := 3) sc_law_alike.nd rfl (Or.inl rfl)) pgs_nil)))) (fun _ _ _ _ _ => pts_nil) (fun _ _ _ _ _ => (pe_call G_law_alike (hr.mono (Nat.le_refl _)) (by rfl) m_law_alike F_law_alike.kp b_law_alike .nil pass0 (pa_cons (pv 2) (pa_cons (pv 3) pa_nil))))) pa_nil))))))) pss_nil)
      (pss_one (ps_ret (pe_and (pe_cmpR op_eq (pe_callB (call_isiKK K rfl) (by rfl) T.m_isinstance (by decide +kernel) (pa_cons (pv 0) (pa_cons (pe_bltn (v := .ty "bool") (by rfl) T.m_bool (by decide +kernel) rfl) pa_nil))) (pe_callB (call_isiKK K rfl) (by rfl) T.m_isinstance (by decide +kernel) (pa_cons (pv 1) (pa_cons (pe_bltn (v := .ty "bool") (by rfl) T.m_bool (by decide +kernel) rfl) pa_nil))) (nomark _)) (pe_one (pe_cmpR (op_eqDK K rfl hr.units) (pv 0) (pv 1) (nomark _))))))), ?_⟩
  refine ⟨_, rfl, (by show 2 ≤ sizeLine; decide), fun tp ntp => ?_⟩
  rcases al with ⟨lf, rfl⟩ | ⟨p, q2, xs, ys, rfl, rfl, kinds, few, al⟩
  · rcases lf with ⟨a, rfl⟩ | ⟨a, rfl, lay⟩
    · refine ⟨_, tp, _, _, _, false, rfl, upd_same, .cons (.ty "list") (.cons (.ty "tuple") .nil), .base (.int _), kit_int, _, rfl, if_bl (fun z => nomatch z) (fun _ => ?_)⟩
      refine ⟨_, rfl, _, _, _, _, false, rfl, .ty "bool", .base (.int _), kit_ty (by decide +kernel), _, rfl, _, _, _, _, false, rfl, .ty "bool", .base (.int _), kit_ty (by decide +kernel), rfl, _, rfl, if_bl (fun _ => ?_) (fun z => nomatch z)⟩
      refine ⟨_, rfl, _, rfl, _, _, .int a, .int a, rfl, rfl, ?_⟩
      rw [show PyData.eqv (.int a) (.int a) = true by simp [PyData.eqv]]
      exact q _ (same_new ntp)
    · refine ⟨_, tp, _, _, _, false, rfl, upd_same, .cons (.ty "list") (.cons (.ty "tuple") .nil), .base (.str _), kit_str, _, rfl, if_bl (fun z => nomatch z) (fun _ => ?_)⟩
      refine ⟨_, rfl, _, _, _, _, false, rfl, .ty "bool", .base (.str _), kit_ty (by decide +kernel), _, rfl, _, _, _, _, false, rfl, .ty "bool", .base (.str _), kit_ty (by decide +kernel), rfl, _, rfl, if_bl (fun _ => ?_) (fun z => nomatch z)⟩
      have sh : SeqAt.shaped (.str a) = true := by
        unfold SeqAt.shaped
        rw [lay]
        rfl
      refine ⟨_, rfl, _, rfl, _, _, .str a, .str a, sh, sh, ?_⟩
      rw [show PyData.eqv (.str a) (.str a) = true by simp [PyData.eqv]]
      exact q _ (same_new ntp)
  rcases kinds with ⟨hp, hq⟩ | ⟨hp, hq⟩
  · have hp1 := same_new (o := .tup [V.ty "list", V.ty "tuple"]) ntp _ _ hp
    have hq1 := same_new (o := .tup [V.ty "list", V.ty "tuple"]) ntp _ _ hq
    refine ⟨_, tp, _, _, _, true, rfl, upd_same, .cons (.ty "list") (.cons (.ty "tuple") .nil), .base (.lst hq1), kit_lst, _, rfl, if_bl (fun _ => ?_) (fun z => nomatch z)⟩
    refine ⟨_, rfl, _, _, _, _, true, rfl, .ty "list", .base (.lst hp1), kit_ty (by decide +kernel), _, rfl, _, _, _, _, true, rfl, .ty "list", .base (.lst hq1), kit_ty (by decide +kernel), rfl, _, rfl, if_bl (fun z => nomatch z) (fun _ => ?_)⟩
    refine ⟨_, rfl, _, _, _, _, false, rfl, .ty "tuple", .base (.lst hp1), kit_ty (by decide +kernel), _, rfl, _, _, _, _, false, rfl, .ty "tuple", .base (.lst hq1), kit_ty (by decide +kernel), rfl, _, rfl, if_bl (fun z => nomatch z) (fun _ => ?_)⟩
    refine ⟨_, rfl, p, _, rfl, .inl (SqL.of hp1), _, rfl, q2, _, rfl, .inl (SqL.of hq1), rfl, _, rfl, if_bl (fun _ => ?_) (fun z => ?_)⟩
    case refine_2 =>
      rw [al.length, decide_eq_true rfl] at z
      cases z
    dsimp only [tNext, tRet, tCB, tCons, tLc]
    refine or_zip (p := p) (q := q2) (xs := xs) (ys := ys) (fun Q q => ⟨_, rfl, _, rfl, q⟩) (.inl ⟨hp1, hq1⟩) al.length (fun J gj sj yj D nD => lc_it (J := J) (n := xs.length) (fun i H5 => H5 D = some (.lst ((List.replicate i true).map V.bl)) ∧ Same (upd H tp (.tup [V.ty "list", V.ty "tuple"])) H5) ⟨upd_same, same_new nD⟩ ?_ ?_ ?_ ?_)
    · rintro i H5 hi ⟨hD, s5⟩
      exact gj i H5 ⟨(s5 _ _ hp1).trans hp1.symm, (s5 _ _ hq1).trans hq1.symm⟩ hi
    · rintro H5 ⟨hD, s5⟩
      exact sj H5 ⟨(s5 _ _ hp1).trans hp1.symm, (s5 _ _ hq1).trans hq1.symm⟩
    · rintro i v H5 H6 hi ⟨hD, s5⟩ y
      obtain ⟨t, x, z, rfl, nt, rfl, ex, ez⟩ := yj i H5 v H6 ⟨(s5 _ _ hp1).trans hp1.symm, (s5 _ _ hq1).trans hq1.symm⟩ y
      obtain ⟨z', ez', ha⟩ := al.getL ex
      rw [ez] at ez'
      cases ez'
      have s6 := s5.trans (same_new (o := .tup [x, z]) nt)
      refine ⟨t, _, rfl, SqT.of upd_same, rfl, _, _, rfl, _, _, rfl, rfl, rfl, yes_in ⟨_, rfl, _, rfl, x, z, rfl, ha.same ((same_new ntp).trans s6), fun H7 s7 => ⟨_, s7 _ _ (same_new nt _ _ hD), ?_, ?_, Same.own (s6.trans s7) nD⟩⟩⟩
      · rw [List.length_map, List.length_replicate]; exact small1000 (by omega)
      · rw [upd_same, List.replicate_succ', List.map_append]; rfl
    · rintro H5 ⟨hD, s5⟩
      refine ⟨D, _, rfl, SqL.of hD, ?_⟩
      rw [show (List.replicate xs.length true).all id = true by simp]
      exact q _ ((same_new ntp).trans s5)
  · have hp1 := same_new (o := .tup [V.ty "list", V.ty "tuple"]) ntp _ _ hp
    have hq1 := same_new (o := .tup [V.ty "list", V.ty "tuple"]) ntp _ _ hq
    refine ⟨_, tp, _, _, _, true, rfl, upd_same, .cons (.ty "list") (.cons (.ty "tuple") .nil), .base (.tup hq1), kit_tup, _, rfl, if_bl (fun _ => ?_) (fun z => nomatch z)⟩
    refine ⟨_, rfl, _, _, _, _, false, rfl, .ty "list", .base (.tup hp1), kit_ty (by decide +kernel), _, rfl, _, _, _, _, false, rfl, .ty "list", .base (.tup hq1), kit_ty (by decide +kernel), rfl, _, rfl, if_bl (fun z => nomatch z) (fun _ => ?_)⟩
    refine ⟨_, rfl, _, _, _, _, true, rfl, .ty "tuple", .base (.tup hp1), kit_ty (by decide +kernel), _, rfl, _, _, _, _, true, rfl, .ty "tuple", .base (.tup hq1), kit_ty (by decide +kernel), rfl, _, rfl, if_bl (fun z => nomatch z) (fun _ => ?_)⟩
    refine ⟨_, rfl, p, _, rfl, .inr (SqT.of hp1), _, rfl, q2, _, rfl, .inr (SqT.of hq1), rfl, _, rfl, if_bl (fun _ => ?_) (fun z => ?_)⟩
    case refine_2 =>
      rw [al.length, decide_eq_true rfl] at z
      cases z
    dsimp only [tNext, tRet, tCB, tCons, tLc]
    refine or_zip (p := p) (q := q2) (xs := xs) (ys := ys) (fun Q q => ⟨_, rfl, _, rfl, q⟩) (.inr ⟨hp1, hq1⟩) al.length (fun J gj sj yj D nD => lc_it (J := J) (n := xs.length) (fun i H5 => H5 D = some (.lst ((List.replicate i true).map V.bl)) ∧ Same (upd H tp (.tup [V.ty "list", V.ty "tuple"])) H5) ⟨upd_same, same_new nD⟩ ?_ ?_ ?_ ?_)
    · rintro i H5 hi ⟨hD, s5⟩
      exact gj i H5 ⟨(s5 _ _ hp1).trans hp1.symm, (s5 _ _ hq1).trans hq1.symm⟩ hi
    · rintro H5 ⟨hD, s5⟩
      exact sj H5 ⟨(s5 _ _ hp1).trans hp1.symm, (s5 _ _ hq1).trans hq1.symm⟩
    · rintro i v H5 H6 hi ⟨hD, s5⟩ y
      obtain ⟨t, x, z, rfl, nt, rfl, ex, ez⟩ := yj i H5 v H6 ⟨(s5 _ _ hp1).trans hp1.symm, (s5 _ _ hq1).trans hq1.symm⟩ y
      obtain ⟨z', ez', ha⟩ := al.getL ex
      rw [ez] at ez'
      cases ez'
      have s6 := s5.trans (same_new (o := .tup [x, z]) nt)
      refine ⟨t, _, rfl, SqT.of upd_same, rfl, _, _, rfl, _, _, rfl, rfl, rfl, yes_in ⟨_, rfl, _, rfl, x, z, rfl, ha.same ((same_new ntp).trans s6), fun H7 s7 => ⟨_, s7 _ _ (same_new nt _ _ hD), ?_, ?_, Same.own (s6.trans s7) nD⟩⟩⟩
      · rw [List.length_map, List.length_replicate]; exact small1000 (by omega)
      · rw [upd_same, List.replicate_succ', List.map_append]; rfl
    · rintro H5 ⟨hD, s5⟩
      refine ⟨D, _, rfl, SqL.of hD, ?_⟩
      rw [show (List.replicate xs.length true).all id = true by simp]
      exact q _ ((same_new ntp).trans s5)
theorem ok_alike {C : Addr} (T : Top K mg C) : ∀ (n : Nat) (f : Addr) (fd : FuncData), Fun K "_law_alike" "_law_alike" s_law_alike f fd → FnOk P w K mg base CX0 n f fd ["_law_found", "_law_due"] (spA n)
  | 0, _, _, _ => ⟨fun _ _ _ _ ⟨_, _, _, h, _⟩ => h.elim, fun _ _ _ _ _ _ _ _ _ _ _ _ _ ⟨_, _, _, h, _⟩ => h.elim⟩
  | n + 1, _, _, F => alike_step T n (ok_alike T n) F
abbrev sp_law_alike (K : PySem.W.Frag) : Sp := spA 6
theorem ok_law_alike {f : Addr} {fd : FuncData} (F : Fun K "_law_alike" "_law_alike" s_law_alike f fd) {C : Addr} (T : Top K mg C) : FnOk P w K mg base CX0 6 f fd ["_law_found", "_law_due"] (sp_law_alike K) := ok_alike T 6 f fd F
end
section
variable {P : Program} {w : World} {K : PySem.W.Frag} {mg : Str → Option Value} {base : Heap}
def sp_law_rows (K : PySem.W.Frag) : Sp := fun vs H Q _ => ∃ (f c r : Addr) (hs : List HR) (bs : List BR) (m : Int), vs = [.ref f, .ref r, .int m] ∧ 0 ≤ m ∧ m ≤ 100 ∧ Flow H f c ∧ RoomAt H r hs bs ∧ hs.length ≤ 12 ∧ (∀ h ∈ hs, GoodHand h) ∧
  ∀ (p : Addr) (rv : List V) (rows : List (List Int)) (H' : Hp), H p = none → H' p = some (.lst rv) → All2 (RowAt H') rv rows → rows.length = m.toNat → (∀ x ∈ rows, x.length = (doorsOf "in" hs).length ∧ ∀ y ∈ x, Small y) → Flow H' f c → But f H H' → Q (.ref p) H'
theorem ok_law_rows {f : Addr} {fd : FuncData} (F : Fun K "_law_rows" "_law_rows" s_law_rows f fd) {C : Addr} (T : Top K mg C) : FnOk P w K mg base CX0 3 f fd ["_law_flow_here", "_law_room_here", "_law_many"] (sp_law_rows K) := by
  obtain ⟨f_law_thing, fd_law_thing, F_law_thing, b_law_thing, m_law_thing⟩ := T.d_law_thing
  have G_law_thing := ok_law_thing (P := P) (w := w) (base := base) F_law_thing T
  refine F.ok sc_law_rows (fun vs H Q E h => ?_) (fun cdv A outer s H vs Q E hr h => ?_)
  · obtain ⟨f, c, r, hs, bs, m, rfl, _⟩ := h
    rfl
  obtain ⟨f, c, r, hs, bs, m, rfl, m0, m1, hF, hR, lh, good, q⟩ := h
  obtain ⟨ha, ba, hv, bv, er, eh, eb, alh, alb⟩ := hR.ex
  have lhv := alh.length
  refine ⟨_, (pss_cons (ps_set (i := 3) sc_law_rows.nd rfl (Or.inr rfl) (pe_lc (own := [("_law_hand", 4)]) (g := gName 4) (by rfl) sc_law_rows.nd (pi_tupK K rfl (pe_ix (ix_tupK K rfl) (pv 1) pe_int (fun _ _ => rfl))) (blkOk_by (own := [("_law_hand", 4)]) (N := N_law_rows) (sc := defScope s_law_rows) (by decide +kernel)) (fun _ _ _ _ _ => (pg_name (i := 4) sc_law_rows.nd rfl (Or.inl rfl))) (fun _ _ _ _ _ => pts_one (pt_cmpR (op_eqDK K rfl hr.units) (pe_ix (ix_tupK K rfl) (pv 4) pe_int (fun _ _ => rfl)) (pe_tup (pa_cons pe_str pa_nil)) (nomark _))) (fun _ _ _ _ _ => (pv 4))))
      (pss_one (ps_ret (pe_lc (own := [("_law_k", 6)]) (g := gName 6) (tt := tYes) (by rfl) sc_law_rows.nd (pi_range1 (by rfl) T.m_range (pa_cons (pv 2) pa_nil)) (blkOk_by (own := [("_law_k", 6)]) (N := N_law_rows) (sc := defScope s_law_rows) (by decide +kernel)) (fun _ _ _ _ _ => (pg_name (i := 6) sc_law_rows.nd rfl (Or.inl rfl))) (fun _ _ _ _ _ => pts_nil) (fun _ _ _ _ _ => (pe_callTy (call_tuple_ofK K rfl) (by rfl) T.m_tuple (by decide +kernel) (pa_cons (pe_lc (own := [("_law_door", 5)]) (g := gName 5) (tt := tYes) (by rfl) sc_law_rows.nd (pi_listK K rfl (pv 3)) (blkOk_by (own := [("_law_door", 5)]) (N := N_law_rows) (sc := { kind := .function, names := [(".0", .local), ("_law_k", .local), ("tuple", .globalImplicit), ("_law_doors_here", .cell), ("_law_flow_here", .cell)], isGenerator := false, isCoroutine := false }) (by decide +kernel)) (fun _ _ _ _ _ => (pg_name (i := 5) sc_law_rows.nd rfl (Or.inl rfl))) (fun _ _ _ _ _ => pts_nil) (fun _ _ _ _ _ => (pe_call G_law_thing (hr.mono (by decide)) (by rfl) m_law_thing F_law_thing.kp b_law_thing .nil pass0 (pa_cons (pv 0) pa_nil)))) pa_nil))))))), ?_⟩
  refine ⟨_, rfl, r, _, _, _, rfl, rfl, SqT.of er, atI_nat (j := 0) rfl, ha, rfl, ⟨_, SqT.of eh⟩, fun D nD => lc_tup (K := K) (a := ha) (xs := hv) (fun i H5 => ∃ dv : List V, H5 D = some (.lst dv) ∧ dv.length = ((List.range i).filter fun j => decide (hs[j]?.map HR.wd = some ("in" : Str))).length ∧ Same H H5) ⟨[], upd_same, rfl, same_new nD⟩ (fun i H5 _ ⟨_, _, _, s5⟩ => SqT.of (s5 _ _ eh)) ?_ ?_⟩
  · rintro i x H5 hx ⟨dv, hD, ld, s5⟩
    obtain ⟨hh, eb2, ⟨t2, g, rfl, e1, e2⟩⟩ := alh.getL hx
    have il := (List.getElem?_eq_some_iff.mp eb2).1
    have gh := good _ (List.mem_of_getElem? eb2)
    have few := filt_len (p := fun j => decide (hs[j]?.map HR.wd = some ("in" : Str))) i
    refine ⟨rfl, _, rfl, t2, _, _, _, rfl, rfl, SqT.of (s5 _ _ e1), atI_nat (j := 0) rfl, (by show 1 ≤ sizeLine; decide), fun o1 no1 => ?_⟩
    have s6 := s5.trans (same_new (o := .tup [V.str "in"]) no1)
    have hD6 := same_new (o := .tup [V.str "in"]) no1 _ _ hD
    refine ⟨_, _, rule_dp (s6 _ _ e2), .tup (SqT.of upd_same) (.cons (.str _) .nil), rule_shaped gh.lay, one_shaped (by decide +kernel), _, rfl, ?_⟩
    rw [rule_eqv, gh.door "in" (.inl rfl)]
    by_cases cc : hh.wd = "in"
    · rw [decide_eq_true cc]
      refine if_bl (fun _ => ⟨_, rfl, dv, hD6, small1000 (by omega), _, upd_same, ?_, Same.own s6 nD⟩) (fun z => nomatch z)
      rw [filt_succ, if_pos (decide_eq_true (by rw [eb2, ← cc]; rfl)), List.length_append, List.length_append, ld]
      rfl
    · rw [decide_eq_false cc]
      refine if_bl (fun z => nomatch z) (fun _ => ⟨dv, hD6, ?_, s6⟩)
      rw [filt_succ, if_neg fun z => cc (by have := of_decide_eq_true z; rw [eb2] at this; exact Option.some.inj this), List.append_nil]
      exact ld
  · rintro H5 ⟨dv, hD, ld, s5⟩
    rw [lhv] at ld
    have ld : dv.length = (doorsOf "in" hs).length := ld
    have ldl := doors_len (z := "in") (hs := hs)
    have F5 := hF.same s5
    have df : D ≠ f := hF.ne nD
    refine ⟨_, rfl, _, rfl, by omega, by omega, fun L nL => lc_range (lo := 0) (n := m.toNat) (fun i H6 => ∃ (rv : List V) (rows : List (List Int)), H6 L = some (.lst rv) ∧ H6 D = some (.lst dv) ∧ All2 (RowAt H6) rv rows ∧ rows.length = i ∧ (∀ x ∈ rows, x.length = (doorsOf "in" hs).length ∧ ∀ y ∈ x, Small y) ∧ Flow H6 f c ∧ But f H5 H6) ⟨[], [], upd_same, same_new nL _ _ hD, .nil, rfl, (fun _ z => nomatch z), F5.new nL, But.refl.new nL⟩ ?_ ?_⟩
    · rintro i H6 hi ⟨rv, rows, hL, hD6, al, lr, ok, F6, B6⟩
      refine ⟨rfl, yes_in ⟨_, rfl, D, rfl, ⟨_, SqL.of hD6⟩, fun M nM => lc_list (K := K) (a := D) (xs := dv) (fun j H7 => ∃ vs : List Int, vs.length = j ∧ H7 M = some (.lst (vs.map V.int)) ∧ (∀ y ∈ vs, Small y) ∧ H7 D = some (.lst dv) ∧ Flow H7 f c ∧ But f H6 H7) ⟨[], rfl, upd_same, (fun _ z => nomatch z), same_new nM _ _ hD6, F6.new nM, But.refl.new nM⟩ (fun j H7 _ ⟨_, _, _, _, h, _⟩ => SqL.of h) ?_ ?_⟩⟩
      · rintro j x H7 hx ⟨vs, lv, hM, sm, hD7, F7, B7⟩
        have jl := (List.getElem?_eq_some_iff.mp hx).1
        have mf : M ≠ f := F6.ne nM
        have mc : M ≠ c := F6.nec nM
        have md : D ≠ M := ne_of_none hD6 nM
        refine ⟨rfl, yes_in ⟨_, rfl, f, c, rfl, F7, fun y H8 sy F8 B8 => ⟨_, B8 _ _ hM mf, ?_, vs ++ [y], by rw [List.length_append, lv]; rfl, ?_, ?_, ?_, F8.lst mf mc, (B7.trans B8).own nM⟩⟩⟩
        · rw [List.length_map, lv]; exact small1000 (by omega)
        · rw [upd_same, List.map_append]; rfl
        · intro z hz
          rcases List.mem_append.mp hz with hz | hz
          · exact sm z hz
          · obtain rfl : z = y := by simpa using hz
            exact sy
        · rw [upd_ne md]; exact B8 _ _ hD7 df
      · rintro H7 ⟨vs, lv, hM, sm, hD7, F7, B7⟩
        have lf : L ≠ f := F5.ne nL
        have lc : L ≠ c := F5.nec nL
        refine ⟨M, _, rfl, .inl ⟨SqL.of hM, fun p np => ?_⟩⟩
        have hL7 := same_new (o := .tup (vs.map V.int)) np _ _ (B7 _ _ hL lf)
        refine ⟨rv, hL7, by rw [al.length, lr]; exact small1000 (by omega), rv ++ [V.ref p], rows ++ [vs], upd_same, ?_, ?_, by rw [List.length_append, lr]; rfl, ?_, (F7.new np).lst lf lc, ?_⟩
        · rw [upd_ne (ne_of_none hD nL)]; exact same_new np _ _ hD7
        · exact ((al.imp fun _ _ z => z.keep ((TK.but F6 B7).trans (TK.new np))).snoc ⟨p, rfl, upd_same⟩).imp fun _ _ z => z.keep (TK.lst hL7)
        · intro x hx
          rcases List.mem_append.mp hx with hx | hx
          · exact ok x hx
          · obtain rfl : x = vs := by simpa using hx
            exact ⟨by rw [lv, ld], sm⟩
        · exact ((B6.trans B7).new np).own nL
    · rintro H6 ⟨rv, rows, hL, hD6, al, lr, ok, F6, B6⟩
      exact q L rv rows H6 (same_none s5 nL) hL al lr ok F6 ((But.of s5).trans B6)
end
section
variable {P : Program} {w : World} {K : PySem.W.Frag} {mg : Str → Option Value} {base : Heap}
/-! ### what the law reckons a hand makes -/
theorem five_of {h : HR} (g : GoodHand h) (n0 : h.wd ≠ "in") (n1 : h.wd ≠ "always") (n2 : h.wd ≠ "times") (n3 : h.wd ≠ "pick") (n4 : needs h.wd ≠ 1) : h.wd = "sum" ∨ h.wd = "gap" ∨ h.wd = "below" ∨ h.wd = "most" ∨ h.wd = "least" := by
  have o : h.wd ≠ "out" := fun z => by rw [z] at n4; exact n4 (by decide +kernel)
  have s : h.wd ≠ "same" := fun z => by rw [z] at n4; exact n4 (by decide +kernel)
  rcases g.1 with k | k
  · have := k.wd
    unfold nine at this
    simp only [List.mem_cons, List.not_mem_nil, or_false] at this
    rcases this with z | z | z | z | z | z | z | z | z
    · exact absurd z n1
    · exact absurd z s
    · exact absurd z n2
    · exact .inl z
    · exact .inr (.inl z)
    · exact .inr (.inr (.inl z))
    · exact .inr (.inr (.inr (.inl z)))
    · exact .inr (.inr (.inr (.inr z)))
    · exact absurd z n3
  · exact absurd k.1 (fun z => z.elim n0 o)
theorem one_of {h : HR} (g : GoodHand h) (n1 : h.wd ≠ "always") (n2 : h.wd ≠ "times") (n4 : needs h.wd = 1) : h.wd = "same" ∨ h.wd = "out" := by
  have n4' := n4
  unfold needs at n4
  by_cases a : h.wd ∈ (["in", "always"] : List Str)
  · rw [if_pos a] at n4; cases n4
  · rw [if_neg a] at n4
    by_cases b : h.wd ∈ (["out", "same", "times"] : List Str)
    · simp only [List.mem_cons, List.not_mem_nil, or_false] at b
      rcases b with b | b | b
      · exact .inr b
      · exact .inl b
      · exact absurd b n2
    · rw [if_neg b] at n4
      split at n4 <;> exact absurd n4 (by decide)
abbrev kv5 (a b : Int) : List (Key × V) := [(.inr "sum", .int (a + b)), (.inr "gap", .int (a - b)), (.inr "below", .int (if a < b then 1 else 0)), (.inr "most", .int (if b > a then b else a)), (.inr "least", .int (if b < a then b else a))]
theorem five_val {wd : Str} (h : wd = "sum" ∨ wd = "gap" ∨ wd = "below" ∨ wd = "most" ∨ wd = "least") (n a b c : Int) : valV (mergeK [] (kv5 a b)) (.inr wd) = some (.int (mk wd n a b c)) := by
  rcases h with e | e | e | e | e <;> subst e <;> rfl
def sp_law_made_by (K : PySem.W.Frag) : Sp := fun vs H Q _ => ∃ (r t : Addr) (h : HR) (xs : List Int), vs = [.ref r, .ref t] ∧ H r = some (.tup (ruleL h)) ∧ H t = some (.lst (xs.map V.int)) ∧ GoodHand h ∧ h.wd ≠ "in" ∧ ((xs.length : Nat) : Int) = needs h.wd ∧ ∀ H', Same H H' → Q (.int (mkR h xs)) H'
theorem ok_law_made_by {f : Addr} {fd : FuncData} (F : Fun K "_law_made_by" "_law_made_by" s_law_made_by f fd) {C : Addr} (T : Top K mg C) : FnOk P w K mg base CX0 1 f fd ["_law_rule_here", "_law_things"] (sp_law_made_by K) := by
  refine F.ok sc_law_made_by (fun vs H Q E h => ?_) (fun cdv A outer s H vs Q E hr h => ?_)
  · obtain ⟨r, t, h, xs, rfl, _⟩ := h
    rfl
  obtain ⟨r, t, h, xs, rfl, hr1, ht, g, win, hl, q⟩ := h
  have A := args_of g win hl
  unfold mkR at q
  obtain ⟨n, hn⟩ : ∃ n, n = h.no.getD 0 := ⟨_, rfl⟩
  obtain ⟨a, ha⟩ : ∃ a, a = xs.getD 0 0 := ⟨_, rfl⟩
  obtain ⟨b, hb⟩ : ∃ b, b = xs.getD 1 0 := ⟨_, rfl⟩
  obtain ⟨c, hc⟩ : ∃ c, c = xs.getD 2 0 := ⟨_, rfl⟩
  rw [← hn, ← ha, ← hb, ← hc] at q A
  have q1 := fun H' (s' : Same H H') => q H' s'
  refine ⟨_, (pss_cons (ps_if (pt_cmpR op_eq (pe_ix (ix_tupK K rfl) (pv 0) pe_int (fun _ _ => rfl)) pe_str (nomark _)) (pss_one (ps_ret (pe_ix (ix_tupK K rfl) (pv 0) pe_int (fun _ _ => rfl)))) pss_nil)
      (pss_cons (ps_set (i := 2) sc_law_made_by.nd rfl (Or.inl rfl) (pe_ix (ix_listK K rfl) (pv 1) pe_int (fun _ _ => rfl)))
      (pss_cons (ps_if (pt_cmpR op_eq (pe_ix (ix_tupK K rfl) (pv 0) pe_int (fun _ _ => rfl)) pe_str (nomark _)) (pss_one (ps_ret (pe_op op_mul (pe_ix (ix_tupK K rfl) (pv 0) pe_int (fun _ _ => rfl)) (pv 2)))) pss_nil)
      (pss_cons (ps_if (pt_cmpR op_eq (pe_ix (ix_tupK K rfl) (pv 0) pe_int (fun _ _ => rfl)) pe_str (nomark _)) (pss_one (ps_ret (pe_ix (ix_listK K rfl) (pe_lst (pa_cons (pe_ix (ix_listK K rfl) (pv 1) pe_int (fun _ _ => rfl)) (pa_cons (pe_ix (ix_listK K rfl) (pv 1) pe_int (fun _ _ => rfl)) pa_nil))) (pe_callTy call_int1 (by rfl) T.m_int (by decide +kernel) (pa_cons (pe_cmpR op_ne (pv 2) pe_int (nomark _)) pa_nil)) (fun _ _ => rfl)))) pss_nil)
      (pss_cons (ps_if (pt_cmpR op_eq (pe_callB (call_len_seqK K rfl) (by rfl) T.m_len (by decide +kernel) (pa_cons (pv 1) pa_nil)) pe_int (nomark _)) (pss_one (ps_ret (pv 2))) pss_nil)
      (pss_cons (ps_set (i := 3) sc_law_made_by.nd rfl (Or.inl rfl) (pe_ix (ix_listK K rfl) (pv 1) pe_int (fun _ _ => rfl)))
      (pss_cons (ps_set (i := 4) sc_law_made_by.nd rfl (Or.inl rfl) (pe_disp (pps_cons pe_str (pe_op op_add (pv 2) (pv 3)) (pps_cons pe_str (pe_op op_sub (pv 2) (pv 3)) (pps_cons pe_str (pe_callTy call_int1 (by rfl) T.m_int (by decide +kernel) (pa_cons (pe_cmpR op_lt (pv 2) (pv 3) (nomark _)) pa_nil)) (pps_cons pe_str (pe_callB (call_max2 rfl) (by rfl) T.m_max (by decide +kernel) (pa_cons (pv 2) (pa_cons (pv 3) pa_nil))) (pps_cons pe_str (pe_callB (call_min2 rfl) (by rfl) T.m_min (by decide +kernel) (pa_cons (pv 2) (pa_cons (pv 3) pa_nil))) pps_nil))))) (by rfl) (by rfl) (fun z => by cases z) (by decide)))
      (pss_one (ps_ret (pe_dget (hu_of hr) (pv 4) (pe_ix (ix_tupK K rfl) (pv 0) pe_int (fun _ _ => rfl)) (fun _ _ => rfl))))))))))), ?_⟩
  refine ⟨_, rfl, r, _, _, _, rfl, rfl, SqT.of hr1, atI_nat (j := 0) rfl, rfl, _, rfl, if_str (fun e1 => ?_) (fun e1 => ?_)⟩
  · have q := q1 H (fun _ _ e => e)
    unfold mk at q
    rw [if_pos e1] at q
    exact ⟨_, rfl, r, _, _, _, rfl, rfl, SqT.of hr1, atI_nat (j := 1) (A.r1 (.inl e1)), q⟩
  refine ⟨_, rfl, t, _, _, _, rfl, rfl, SqL.of ht, atI_nat (j := 0) (A.t0 e1), ?_⟩
  refine ⟨_, rfl, r, _, _, _, rfl, rfl, SqT.of hr1, atI_nat (j := 0) rfl, rfl, _, rfl, if_str (fun e2 => ?_) (fun e2 => ?_)⟩
  · have q := q1 H (fun _ _ e => e)
    unfold mk at q
    rw [if_neg e1, if_pos e2] at q
    exact ⟨_, rfl, r, _, _, _, rfl, rfl, SqT.of hr1, atI_nat (j := 1) (A.r1 (.inr e2)), _, rfl, _, _, rfl, rfl, .inl A.big, q⟩
  refine ⟨_, rfl, r, _, _, _, rfl, rfl, SqT.of hr1, atI_nat (j := 0) rfl, rfl, _, rfl, if_str (fun e3 => ?_) (fun e3 => ?_)⟩
  · refine ⟨_, rfl, t, _, _, _, rfl, rfl, SqL.of ht, atI_nat (j := 2) (A.t2 e3), _, rfl, t, _, _, _, rfl, rfl, SqL.of ht, atI_nat (j := 1) (A.t1 (.inl e3)), (by show 2 ≤ sizeLine; decide), fun p np => ?_⟩
    have q := q1 _ (same_new (o := .lst [V.int c, V.int b]) np)
    unfold mk at q
    rw [if_neg e1, if_neg e2, if_pos e3] at q
    by_cases z : a = 0
    · rw [if_pos z] at q
      refine ⟨_, rfl, rfl, .inr ⟨_, rfl, p, _, _, .int c, rfl, rfl, SqL.of upd_same, ?_, q⟩⟩
      rw [z]
      rfl
    · rw [if_neg z] at q
      refine ⟨_, rfl, rfl, .inr ⟨_, rfl, p, _, _, .int b, rfl, rfl, SqL.of upd_same, ?_, q⟩⟩
      rw [show (!decide (V.int a = V.int 0)) = true by rw [decide_eq_false fun y => z (V.int.inj y)]; rfl]
      rfl
  refine ⟨_, rfl, t, _, rfl, .inl (SqL.of ht), rfl, _, rfl, if_bl (fun e4 => ?_) (fun e4 => ?_)⟩
  · have e5 : needs h.wd = 1 := by
      have := V.int.inj (of_decide_eq_true e4)
      rw [List.length_map] at this
      omega
    have q := q1 H (fun _ _ e => e)
    unfold mk at q
    rw [if_neg e1, if_neg e2, if_neg e3, if_pos (one_of g e1 e2 e5)] at q
    exact ⟨_, rfl, q⟩
  have e5 : needs h.wd ≠ 1 := fun z => of_decide_eq_false e4 (by rw [List.length_map, hl, z])
  have f5 := five_of g win e1 e2 e3 e5
  have n1 : h.wd ≠ "same" := fun z => by rw [z] at f5; exact absurd f5 (by decide +kernel)
  have n2 : h.wd ≠ "out" := fun z => by rw [z] at f5; exact absurd f5 (by decide +kernel)
  refine ⟨_, rfl, t, _, _, _, rfl, rfl, SqL.of ht, atI_nat (j := 1) (A.t1 (.inr ⟨e1, e2, n1, n2⟩)), ?_⟩
  refine fun d nd => ⟨_, rfl, _, rfl, _, _, rfl, rfl, _, rfl, _, rfl, _, _, rfl, rfl, _, rfl, _, rfl, _, _, rfl, rfl, .inr ⟨_, rfl, _, rfl, _, rfl, _, _, rfl, _, rfl, _, rfl, _, _, rfl, upd_same, kv5 a b, ?_, (by show 5 ≤ 15; decide), ?_⟩⟩
  · by_cases z : a < b
    · simp [z, kV]
    · simp [z, kV]
  have s1 : Same H (upd (upd H d (.dK [])) d (.dK (mergeK [] (kv5 a b)))) := by rw [upd_upd]; exact same_new nd
  refine ⟨_, rfl, _, rfl, r, _, _, _, rfl, rfl, SqT.of (s1 _ _ hr1), atI_nat (j := 0) rfl, d, .int (mk h.wd n a b c), rfl, ?_, q1 _ s1⟩
  have := DGet.k (k := Sum.inr h.wd) (upd_same (H := upd H d (.dK [])) (a := d) (o := .dK (mergeK [] (kv5 a b))))
  rw [five_val f5 n a b c] at this
  exact this
end
theorem or_enum {K : PySem.W.Frag} {ta : TA} {σ : L2.St} {H : Hp} {R : It → Hp → Prop} {a : Addr} {xs : List V} (ht : ∀ Q : List V → Hp → Prop, Q [.ref a] H → ta σ H Q) (h : H a = some (.lst xs) ∨ H a = some (.tup xs))
    (k : ∀ J : It, (∀ i H', H' a = H a → i < xs.length → J.go i H') → (∀ H', H' a = H a → J.stop xs.length H') → (∀ i H' v H'', H' a = H a → J.yld i H' v H'' → ∃ T x, v = .ref T ∧ H' T = none ∧ H'' = upd H' T (.tup [nV i, x]) ∧ xs[i]? = some x) → R J H) :
    iEnum K ta σ H R ∨ iEnumT K ta σ H R := by
  rcases h with e | e
  · refine .inl (ht _ ⟨a, xs, rfl, SqL.of e, k _ (fun i H' q hi => ?_) (fun H' q => ?_) fun i H' x H'' q y => ?_⟩)
    · exact ⟨xs, _, SqL.of (q.trans e), List.getElem?_eq_getElem hi⟩
    · exact ⟨xs, SqL.of (q.trans e), Nat.le_refl _⟩
    · obtain ⟨T, x, q1, q2, q3, q4⟩ := y
      exact ⟨T, x, q1, q2, q3, q4 _ (SqL.of (q.trans e))⟩
  · refine .inr (ht _ ⟨a, xs, rfl, SqT.of e, k _ (fun i H' q hi => ?_) (fun H' q => ?_) fun i H' x H'' q y => ?_⟩)
    · exact ⟨SqT.of (q.trans e), hi⟩
    · exact ⟨SqT.of (q.trans e), rfl⟩
    · exact y
theorem filt_le {α : Type} {p q : α → Bool} (h : ∀ x, p x = true → q x = true) : ∀ l : List α, (l.filter p).length ≤ (l.filter q).length
  | [] => Nat.le_refl _
  | a :: l => by
    have ih := filt_le h l
    rw [List.filter_cons, List.filter_cons]
    cases ep : p a with
    | true => rw [h a ep, if_pos rfl, if_pos rfl, List.length_cons, List.length_cons]; omega
    | false =>
      cases eq : q a with
      | true => rw [if_neg Bool.false_ne_true, if_pos rfl, List.length_cons]; omega
      | false => rw [if_neg Bool.false_ne_true, if_neg Bool.false_ne_true]; exact ih
theorem filt_eq {α : Type} {p q : α → Bool} (h : ∀ x, p x = true → q x = true) : ∀ l : List α, (l.filter p).length = (l.filter q).length → ∀ x ∈ l, q x = true → p x = true
  | [], _, _, hx, _ => nomatch hx
  | a :: l, e, x, hx, qx => by
    have ih := filt_eq h l
    have le := filt_le h l
    rw [List.filter_cons, List.filter_cons] at e
    cases ep : p a with
    | true =>
      rw [ep, h a ep, if_pos rfl, if_pos rfl, List.length_cons, List.length_cons] at e
      rcases List.mem_cons.mp hx with z | z
      · rw [z]; exact ep
      · exact ih (by omega) x z qx
    | false =>
      cases eq : q a with
      | true => rw [ep, eq, if_neg Bool.false_ne_true, if_pos rfl, List.length_cons] at e; omega
      | false =>
        rw [ep, eq, if_neg Bool.false_ne_true, if_neg Bool.false_ne_true] at e
        rcases List.mem_cons.mp hx with z | z
        · rw [z, eq] at qx; cases qx
        · exact ih e x z qx
theorem filt_lt {α : Type} {p q : α → Bool} (h : ∀ x, p x = true → q x = true) {l : List α} {x : α} (hx : x ∈ l) (h1 : q x = true) (h2 : p x = false) : (l.filter p).length < (l.filter q).length := by
  have le := filt_le h l
  have ne : (l.filter p).length ≠ (l.filter q).length := fun e => by
    have := filt_eq h l e x hx h1
    rw [h2] at this
    cases this
  omega
def missing (n : Nat) (pm : Nat → Option Int) : List Nat := (List.range n).filter fun k => !(pm k).isSome
theorem mem_missing {n k : Nat} {pm : Nat → Option Int} : k ∈ missing n pm ↔ k < n ∧ pm k = none := by
  unfold missing
  rw [List.mem_filter, List.mem_range]
  cases pm k <;> simp
def av (pm : Nat → Option Int) (k : Nat) (b : BR) : Bool := decide (b.to = k) && (!b.th.isEmpty || (pm b.one).isSome)
theorem av_to {pm : Nat → Option Int} {k : Nat} (b : BR) (h : av pm k b = true) : decide (b.to = k) = true := by
  unfold av at h
  rw [Bool.and_eq_true] at h
  exact h.1
theorem av_all {cur : List BR} {pm : Nat → Option Int} {k : Nat} (h : ∀ b ∈ cur, b.to = k → b.th = [] → (pm b.one).isSome = true) : cur.filter (av pm k) = cur.filter fun b => decide (b.to = k) := by
  refine List.filter_congr fun b hb => ?_
  unfold av
  by_cases e : b.to = k
  · rw [decide_eq_true e, Bool.true_and]
    cases z : b.th with
    | nil => rw [h b hb e z]; rfl
    | cons x l => rfl
  · rw [decide_eq_false e, Bool.false_and]
theorem av_len {cur : List BR} {pm : Nat → Option Int} {k : Nat} (h : (cur.filter (av pm k)).length = (cur.filter fun b => decide (b.to = k)).length) : ∀ b ∈ cur, b.to = k → b.th = [] → (pm b.one).isSome = true := fun b hb e z => by
  have := filt_eq av_to cur h b hb (decide_eq_true e)
  unfold av at this
  rw [z, Bool.and_eq_true] at this
  simpa using this.2
theorem filt_to {cur : List BR} {k : Nat} : (cur.filter fun b => decide (b.to = k)).length = (cur.map BR.to).count k := by
  rw [← takes_len (f := fun _ => 0)]
  unfold takes
  rw [List.length_map]
theorem head_first {ms : List (List Int)} {b : BR} (f : Nat → Int) (h : ms.length < b.th.length) : b.th[ms.length]? = some (valB f (standB ms b)) := by
  rw [stand_head f (fun z => by rw [z] at h; exact absurd h (Nat.not_lt_zero _)), List.getD_eq_getElem?_getD, List.getElem?_append_left h, List.getElem?_eq_getElem h]
  rfl
theorem head_later {ms : List (List Int)} {b : BR} (f : Nat → Int) {m : List Int} (h1 : b.th ≠ []) (h2 : b.th.length ≤ ms.length) (hm : ms[ms.length - b.th.length]? = some m) : valB f (standB ms b) = gD m b.one := by
  rw [stand_head f h1, List.getD_eq_getElem?_getD, List.getElem?_append_right h2, List.getElem?_map, hm]
  rfl
abbrev sgW (r a ha ba fo : Addr) (v5 v6 v7 v8 v9 v10 v11 v12 v13 v14 : Option V) : L2.St := [some (.ref r), some (.ref a), some (.ref ha), some (.ref ba), some (.ref fo), v5, v6, v7, v8, v9, v10, v11, v12, v13, v14]
/-- what stands within one bell of the law's reckoning -/
structure LW (hs : List HR) (cur : List BR) (ins : List Int) (d : Addr) (H0 H : Hp) (kvs : List (Key × V)) (pm : Nat → Option Int) : Prop where
  at_ : H d = some (.dK kvs)
  dm : DM kvs pm
  part : Part hs cur ins pm
  door : ∀ (k : Nat) (h : HR), hs[k]? = some h → h.wd = "in" → (pm k).isSome = true
  same : Same H0 H
theorem LW.go {hs : List HR} {cur : List BR} {ins : List Int} {d : Addr} {H0 H H' : Hp} {kvs : List (Key × V)} {pm : Nat → Option Int} (l : LW hs cur ins d H0 H kvs pm) (s : Same H H') : LW hs cur ins d H0 H' kvs pm := { l with at_ := s _ _ l.at_, same := l.same.trans s }
section
variable {P : Program} {w : World} {K : PySem.W.Frag} {mg : Str → Option Value} {base : Heap}
def sp_law_worked (K : PySem.W.Frag) : Sp := fun vs H Q _ => ∃ (r a : Addr) (hs : List HR) (bs : List BR) (rows : List (List Int)), vs = [.ref r, .ref a] ∧ RoomAt H r hs bs ∧ RoomOk hs bs ∧ RowsAt H a rows ∧ (∀ x ∈ rows, x.length = (doorsOf "in" hs).length) ∧ rows.length ≤ 100 ∧
  ∀ (p : Addr) (ov : List V) (ms : List (List Int)) (H' : Hp), H p = none → H' p = some (.lst ov) → All2 (RowAt H') ov ms → WS hs bs rows ms → Same H H' → Q (.ref p) H'
theorem ok_law_worked {f : Addr} {fd : FuncData} (F : Fun K "_law_worked" "_law_worked" s_law_worked f fd) {C : Addr} (T : Top K mg C) : FnOk P w K mg base CX0 2 f fd ["_law_room_here", "_law_rows_here"] (sp_law_worked K) := by
  obtain ⟨f_law_needs, fd_law_needs, F_law_needs, b_law_needs, m_law_needs⟩ := T.d_law_needs
  have G_law_needs := ok_law_needs (P := P) (w := w) (base := base) F_law_needs T
  obtain ⟨f_law_made_by, fd_law_made_by, F_law_made_by, b_law_made_by, m_law_made_by⟩ := T.d_law_made_by
  have G_law_made_by := ok_law_made_by (P := P) (w := w) (base := base) F_law_made_by T
  refine F.ok sc_law_worked (fun vs H Q E h => ?_) (fun cdv A outer s H vs Q E hr h => ?_)
  · obtain ⟨r, a, hs, bs, rows, rfl, _⟩ := h
    rfl
  obtain ⟨r, a, hs, bs, rows, rfl, hR, ok, ⟨rv, hrv, alr⟩, hw, lr, q⟩ := h
  obtain ⟨ha, ba, hv, bv, er, eh, eb, alh, alb⟩ := hR.ex
  have lh := ok.hands
  have lb := ok.many
  have lrv := alr.length
  have lhv := alh.length
  have lbv := alb.length
  have ldl := doors_len (z := "in") (hs := hs)
  obtain ⟨rk, hrk⟩ := ok.rk
  refine ⟨_, (pss_cons (ps_asg (pv 0) (pg_tupK K rfl rfl (pgs_cons (pg_name (i := 2) sc_law_worked.nd rfl (Or.inr rfl)) (pgs_cons (pg_name (i := 3) sc_law_worked.nd rfl (Or.inl rfl)) pgs_nil))))
      (pss_cons (ps_set (i := 4) sc_law_worked.nd rfl (Or.inl rfl) (pe_lst pa_nil))
      (pss_cons (ps_for PassesOwn.never rfl (pi_or (pi_enum (by rfl) T.m_enumerate (pa_cons (pv 1) pa_nil)) (pi_enumT K rfl (by rfl) T.m_enumerate (pa_cons (pv 1) pa_nil))) (pg_tupK K rfl rfl (pgs_cons (pg_name (i := 5) sc_law_worked.nd rfl (Or.inl rfl)) (pgs_cons (pg_name (i := 6) sc_law_worked.nd rfl (Or.inl rfl)) pgs_nil)))
        (pss_cons (ps_setLc (i := 7) (own := [("_law_k", 8)]) (g := gName 8) (by rfl) sc_law_worked.nd rfl rfl (sw_true rfl rfl rfl (by decide +kernel)) (pi_range1 (by rfl) T.m_range (pa_cons (pe_callB (call_len_seqK K rfl) (by rfl) T.m_len (by decide +kernel) (pa_cons (pv 2) pa_nil)) pa_nil)) (blkOk_by (own := [("_law_k", 8)]) (N := N_law_worked) (sc := defScope s_law_worked) (by decide +kernel)) (fun _ _ _ _ _ => (pg_name (i := 8) sc_law_worked.nd rfl (Or.inl rfl))) (fun _ _ _ _ _ => pts_one (pt_cmpR (op_eqDK K rfl hr.units) (pe_ix (ix_tupK K rfl) (pe_ix (ix_tupK K rfl) (pv 2) (pv 8) (fun _ _ => rfl)) pe_int (fun _ _ => rfl)) (pe_tup (pa_cons pe_str pa_nil)) (nomark _))) (fun _ _ _ _ _ => (pv 8)))
      (pss_cons (ps_set (i := 9) sc_law_worked.nd rfl (Or.inr rfl) (pe_dictZip K rfl rfl (by rfl) T.m_dict (by rfl) T.m_zip (pa_cons (pv 7) (pa_cons (pv 6) pa_nil))))
      (pss_cons (ps_for PassesOwn.never rfl (pi_range1 (by rfl) T.m_range (pa_cons (pe_callB (call_len_seqK K rfl) (by rfl) T.m_len (by decide +kernel) (pa_cons (pv 2) pa_nil)) pa_nil)) (pg_name (i := 10) sc_law_worked.nd rfl (Or.inl rfl))
        (pss_one (ps_for PassesOwn.never rfl (pi_range1 (by rfl) T.m_range (pa_cons (pe_callB (call_len_seqK K rfl) (by rfl) T.m_len (by decide +kernel) (pa_cons (pv 2) pa_nil)) pa_nil)) (pg_name (i := 8) sc_law_worked.nd rfl (Or.inl rfl))
        (pss_cons (ps_if (pt_cmp (pc_din (hu_of hr) (pv 8) (pv 9)) (by with_unfolding_all rfl)) (pss_one ps_continue) pss_nil)
      (pss_cons (ps_set (i := 11) sc_law_worked.nd rfl (Or.inl rfl) (pe_lst pa_nil))
      (pss_cons (ps_for PassesOwn.never rfl (pi_tupK K rfl (pv 3)) (pg_tupK K rfl rfl (pgs_cons (pg_name (i := 12) sc_law_worked.nd rfl (Or.inl rfl)) (pgs_cons (pg_name (i := 13) sc_law_worked.nd rfl (Or.inl rfl)) (pgs_cons (pg_name (i := 14) sc_law_worked.nd rfl (Or.inl rfl)) pgs_nil))))
        (pss_one (ps_if (PW.pt (pw_and (pt_cmpR op_eq (pv 13) (pv 8) (nomark _)) (pw_and1 (pt_cmpR op_lt (pv 5) (pe_callB (call_len_seqK K rfl) (by rfl) T.m_len (by decide +kernel) (pa_cons (pv 14) pa_nil)) (nomark _))))) (pss_one (ps_expr (pe_bmK K rfl PySem.F.plainAttrs_list PySem.F.slot_list_append PySem.F.type_list_append mt_append (pv 11) (pa_cons (pe_ix (ix_tupK K rfl) (pv 14) (pv 5) (fun _ _ => rfl)) pa_nil)))) (pss_one (ps_if (PW.pt (pw_and (pt_cmpR op_eq (pv 13) (pv 8) (nomark _)) (pw_and1 (pt_cmpR op_gt (pe_callB (call_len_seqK K rfl) (by rfl) T.m_len (by decide +kernel) (pa_cons (pv 14) pa_nil)) pe_int (nomark _))))) (pss_one (ps_expr (pe_bmK K rfl PySem.F.plainAttrs_list PySem.F.slot_list_append PySem.F.type_list_append mt_append (pv 11) (pa_cons (pe_ix (ix_tupK K rfl) (pe_ix (ix_listK K rfl) (pv 4) (pe_op op_sub (pv 5) (pe_callB (call_len_seqK K rfl) (by rfl) T.m_len (by decide +kernel) (pa_cons (pv 14) pa_nil))) (fun _ _ => rfl)) (pv 12) (fun _ _ => rfl)) pa_nil)))) (pss_one (ps_if (PW.pt (pw_and (pt_cmpR op_eq (pv 13) (pv 8) (nomark _)) (pw_and1 (pt_cmp (pc_din (hu_of hr) (pv 12) (pv 9)) (by with_unfolding_all rfl))))) (pss_one (ps_expr (pe_bmK K rfl PySem.F.plainAttrs_list PySem.F.slot_list_append PySem.F.type_list_append mt_append (pv 11) (pa_cons (pe_dget (hu_of hr) (pv 9) (pv 12) (fun _ _ => rfl)) pa_nil)))) pss_nil)))))))
      (pss_one (ps_if (pt_cmpR op_eq (pe_callB (call_len_seqK K rfl) (by rfl) T.m_len (by decide +kernel) (pa_cons (pv 11) pa_nil)) (pe_call G_law_needs (hr.mono (by decide)) (by rfl) m_law_needs F_law_needs.kp b_law_needs .nil pass0 (pa_cons (pe_ix (ix_tupK K rfl) (pe_ix (ix_tupK K rfl) (pv 2) (pv 8) (fun _ _ => rfl)) pe_int (fun _ _ => rfl)) pa_nil)) (nomark _)) (pss_one (ps_dput (hu_of hr) (pv 9) (pv 8) (pe_call G_law_made_by (hr.mono (by decide)) (by rfl) m_law_made_by F_law_made_by.kp b_law_made_by .nil pass0 (pa_cons (pe_ix (ix_tupK K rfl) (pe_ix (ix_tupK K rfl) (pv 2) (pv 8) (fun _ _ => rfl)) pe_int (fun _ _ => rfl)) (pa_cons (pv 11) pa_nil))) (by rfl))) pss_nil))))))))
      (pss_one (ps_expr (pe_bmK K rfl PySem.F.plainAttrs_list PySem.F.slot_list_append PySem.F.type_list_append mt_append (pv 4) (pa_cons (pe_callTy (call_tuple_ofK K rfl) (by rfl) T.m_tuple (by decide +kernel) (pa_cons (pe_lc (own := [("_law_k", 8)]) (g := gName 8) (tt := tYes) (by rfl) sc_law_worked.nd (pi_range1 (by rfl) T.m_range (pa_cons (pe_callB (call_len_seqK K rfl) (by rfl) T.m_len (by decide +kernel) (pa_cons (pv 2) pa_nil)) pa_nil)) (blkOk_by (own := [("_law_k", 8)]) (N := N_law_worked) (sc := defScope s_law_worked) (by decide +kernel)) (fun _ _ _ _ _ => (pg_name (i := 8) sc_law_worked.nd rfl (Or.inl rfl))) (fun _ _ _ _ _ => pts_nil) (fun _ _ _ _ _ => (pe_dget (hu_of hr) (pv 9) (pv 8) (fun _ _ => rfl)))) pa_nil)) pa_nil))))))))
      (pss_one (ps_ret (pv 4)))))), ?_⟩
  refine ⟨_, rfl, r, _, rfl, SqT.of er, rfl, _, _, rfl, _, _, rfl, rfl, (by show 0 ≤ sizeLine; decide), fun fo nfo => ?_⟩
  have s1 : Same H (upd H fo (.lst [])) := same_new nfo
  refine or_enum (a := a) (xs := rv) (fun Q q => ⟨_, rfl, q⟩) (hrv.imp (s1 _ _) (s1 _ _)) (fun J gj sj yj => for_it (J := J) (n := rv.length) (fun t σ H2 => ∃ (fv : List V) (ms : List (List Int)) (v5 v6 v7 v8 v9 v10 v11 v12 v13 v14 : Option V), σ = sgW r a ha ba fo v5 v6 v7 v8 v9 v10 v11 v12 v13 v14 ∧ H2 fo = some (.lst fv) ∧ All2 (RowAt H2) fv ms ∧ WS hs bs (rows.take t) ms ∧ Same H H2)
    ⟨[], [], none, none, none, none, none, none, none, none, none, none, rfl, upd_same, .nil, WS.nil, s1⟩ ?_ ?_ ?_ ?_)
  · rintro t σ H2 ht ⟨fv, ms, v5, v6, v7, v8, v9, v10, v11, v12, v13, v14, rfl, hfo, alf, ws, s2⟩
    exact gj t H2 ((either_stays s2 hrv).trans (either_stays s1 hrv).symm) ht
  · rintro σ H2 ⟨fv, ms, v5, v6, v7, v8, v9, v10, v11, v12, v13, v14, rfl, hfo, alf, ws, s2⟩
    exact sj H2 ((either_stays s2 hrv).trans (either_stays s1 hrv).symm)
  · rintro t x σ H2 H3 htl ⟨fv, ms, v5, v6, v7, v8, v9, v10, v11, v12, v13, v14, rfl, hfo, alf, ws, s2⟩ y
    obtain ⟨tt, x, rfl, ntt, rfl, ex⟩ := yj t H2 x H3 ((either_stays s2 hrv).trans (either_stays s1 hrv).symm) y
    obtain ⟨row, er2, ⟨tr, rfl, htr⟩⟩ := alr.getL ex
    have lms : ms.length = t := by
      have := ws.len
      rw [List.length_take] at this
      omega
    have lrow := hw row (List.mem_of_getElem? er2)
    have mrow := ws.row
    have s3 := s2.trans (same_new (o := .tup [nV t, V.ref tr]) ntt)
    have hfo3 := same_new (o := .tup [nV t, V.ref tr]) ntt _ _ hfo
    refine ⟨tt, _, rfl, SqT.of upd_same, rfl, _, _, rfl, _, _, rfl, rfl, ?_⟩
    -- the in doors
    refine ⟨_, rfl, ha, _, rfl, .inr (SqT.of (s3 _ _ eh)), _, rfl, by omega, by omega, fun D nD => lc_range (lo := 0) (n := hv.length) (fun i H5 => H5 D = some (.lst (((List.range i).filter fun j => decide (hs[j]?.map HR.wd = some ("in" : Str))).map nV)) ∧ Same (upd H2 tt (.tup [nV t, V.ref tr])) H5) ⟨upd_same, same_new nD⟩ ?_ ?_⟩
    · rintro i H5 hi ⟨hD, s5⟩
      have eh1 : hs[i]? = some hs[i] := List.getElem?_eq_getElem (by omega)
      obtain ⟨x, ex, ⟨t1, g, rfl, e1, e2⟩⟩ := alh.get eh1
      have gh := ok.good _ (List.mem_of_getElem? eh1)
      have few := filt_len (p := fun j => decide (hs[j]?.map HR.wd = some ("in" : Str))) i
      have s4 := s3.trans s5
      refine ⟨rfl, _, rfl, _, rfl, ha, _, _, _, rfl, rfl, SqT.of (s4 _ _ eh), at0 ex, t1, _, _, _, rfl, rfl, SqT.of (s4 _ _ e1), atI_nat (j := 0) rfl, (by show 1 ≤ sizeLine; decide), fun o1 no1 => ?_⟩
      have s6 := s5.trans (same_new (o := .tup [V.str "in"]) no1)
      have hD6 := same_new (o := .tup [V.str "in"]) no1 _ _ hD
      refine ⟨_, _, rule_dp ((s3.trans s6) _ _ e2), .tup (SqT.of upd_same) (.cons (.str _) .nil), rule_shaped gh.lay, one_shaped (by decide +kernel), _, rfl, ?_⟩
      rw [rule_eqv, gh.door "in" (.inl rfl)]
      by_cases c : hs[i].wd = "in"
      · rw [decide_eq_true c]
        refine if_bl (fun _ => ⟨_, rfl, _, hD6, by rw [List.length_map]; exact small1000 (by omega), ?_, Same.own s6 nD⟩) (fun z => nomatch z)
        rw [upd_same, filt_succ, if_pos (decide_eq_true (by rw [eh1, ← c]; rfl)), List.map_append, Int.zero_add]
        rfl
      · rw [decide_eq_false c]
        refine if_bl (fun z => nomatch z) (fun _ => ⟨?_, s6⟩)
        rw [filt_succ, if_neg fun z => c (by have := of_decide_eq_true z; rw [eh1] at this; exact Option.some.inj this), List.append_nil]
        exact hD6
    · rintro H4 ⟨hD, s4⟩
      have hD : H4 D = some (.lst ((doorsOf "in" hs).map nV)) := by rw [hD, lhv]; rfl
      have s5 := s3.trans s4
      refine ⟨_, rfl, _, rfl, D, tr, (doorsOf "in" hs).map kN, row.map V.int, rfl, SqL.of (by rw [hD, List.map_map]; rfl), SqT.of (s5 _ _ htr), fun d nd => ?_⟩
      obtain ⟨cur, hcur⟩ : ∃ cur, cur = stand bs ms := ⟨_, rfl⟩
      have bok : BellOk hs cur := by rw [hcur]; exact ok.bell ms
      have crk : ∀ p ∈ looseOf cur, rk p.1 < rk p.2 := by rw [hcur, loose_stand]; exact hrk
      have len0 : (mergeK [] (((doorsOf "in" hs).map kN).zip (row.map V.int))).length ≤ 12 := by
        refine Nat.le_trans (length_mergeK _ []) ?_
        rw [List.length_zip, List.length_map, List.length_map, List.length_nil]
        omega
      have miss0 : ∀ pm, (missing hs.length pm).length ≤ hs.length := fun pm => filt_len _
      have lw0 : LW hs cur row d H4 (upd H4 d (.dK (mergeK [] (((doorsOf "in" hs).map kN).zip (row.map V.int))))) _ (doorM hs row) := ⟨upd_same, doorM_dm lrow, doorM_part, fun k h e w => doorM_all lrow e w, same_new nd⟩
      -- the rounds
      refine ⟨_, rfl, ha, _, rfl, .inr (SqT.of (lw0.same _ _ (s5 _ _ eh))), _, rfl, by omega, by omega, for_range (lo := 0) (n := hv.length) (fun i σ H5 => ∃ (w8 w10 w11 w12 w13 w14 : Option V) (kvs : List (Key × V)) (pm : Nat → Option Int), σ = sgW r a ha ba fo (some (nV t)) (some (.ref tr)) (some (.ref D)) w8 (some (.ref d)) w10 w11 w12 w13 w14 ∧ LW hs cur row d H4 H5 kvs pm ∧ kvs.length ≤ 12 + 12 * i ∧ (missing hs.length pm).length + i ≤ hs.length)
        ⟨_, _, _, _, _, _, _, _, rfl, lw0, len0, by have := miss0 (doorM hs row); omega⟩ ?_ ?_⟩
      · rintro i σ H5 hi ⟨w8, w10, w11, w12, w13, w14, kvs, pm, rfl, lw, lk, lm⟩
        have lw6 := lw
        obtain ⟨ll, hll⟩ : ∃ ll, ll = missing hs.length pm := ⟨_, rfl⟩
        have lll : ll.length ≤ 12 := by rw [hll]; have := miss0 pm; omega
        have ndl : ll.Nodup := by rw [hll]; exact List.nodup_range.filter _
        have mll : ∀ k ∈ ll, k < hs.length ∧ pm k = none := fun k hk => mem_missing.mp (by rw [← hll]; exact hk)
        have nll : ∀ k, k < hs.length → k ∉ ll → (pm k).isSome = true := fun k hk hn => by
          cases e : pm k with
          | none => exact absurd (by rw [hll]; exact mem_missing.mpr ⟨hk, e⟩) hn
          | some v => rfl
        -- each of them
        refine ⟨_, rfl, ha, _, rfl, .inr (SqT.of (lw.same _ _ (s5 _ _ eh))), _, rfl, by omega, by omega, for_range (lo := 0) (n := hv.length) (fun j σ H7 => ∃ (w8 w11 w12 w13 w14 : Option V) (kvs' : List (Key × V)) (pm' : Nat → Option Int), σ = sgW r a ha ba fo (some (nV t)) (some (.ref tr)) (some (.ref D)) w8 (some (.ref d)) (some (.int (0 + ((i : Nat) : Int)))) w11 w12 w13 w14 ∧ LW hs cur row d H4 H7 kvs' pm' ∧ kvs'.length ≤ 12 + 12 * i + j ∧ (∀ k, (pm k).isSome = true → pm' k = pm k) ∧ (∀ k, j ≤ k → pm' k = pm k) ∧ (∀ k ∈ ll, k < j → free (looseOf cur) ll k → (pm' k).isSome = true))
          ⟨_, _, _, _, _, kvs, pm, rfl, lw6, by omega, fun _ _ => rfl, fun k hk => rfl, fun k hk hj => absurd hj (Nat.not_lt_zero _)⟩ ?_ ?_⟩
        · rintro k σ H7 kv ⟨u8, u11, u12, u13, u14, kvs', pm', rfl, lw7, lk7, ext, rest, done⟩
          show tIfS _ _ _ _ (sgW r a ha ba fo (some (nV t)) (some (.ref tr)) (some (.ref D)) (some (.int (0 + ((k : Nat) : Int)))) (some (.ref d)) (some (.int (0 + ((i : Nat) : Int)))) u11 u12 u13 u14) H7
          rw [Int.zero_add (k : Int)]
          have kn : k < hs.length := by omega
          refine ⟨_, rfl, _, rfl, d, _, rfl, dget_of lw7.at_ (lw7.dm k), _, rfl, if_bl (fun c => ?_) (fun c => ?_)⟩
          · rw [Option.isSome_map] at c
            refine ⟨_, _, _, _, _, kvs', pm', rfl, lw7, by omega, ext, fun j hj => rest j (by omega), fun j hj jk fr => ?_⟩
            by_cases e : j = k
            · rw [e]; exact c
            · exact done j hj (by omega) fr
          rw [Option.isSome_map] at c
          have new : pm' k = none := by
            cases e : pm' k with
            | none => rfl
            | some v => rw [e] at c; cases c
          have kz : pm k = none := by rw [← rest k (Nat.le_refl _)]; exact new
          have eh2 : hs[k]? = some hs[k] := List.getElem?_eq_getElem kn
          have win : hs[k].wd ≠ "in" := fun z => by
            have := lw7.door k _ eh2 z
            rw [new] at this
            cases this
          have gk := ok.good _ (List.mem_of_getElem? eh2)
          have isfree : free (looseOf cur) ll k → ∀ b ∈ cur, b.to = k → b.th = [] → (pm' b.one).isSome = true := fun fr b b1 b2 b3 => by
            have e := nll b.one (bok.ends b b1).1 (fr _ (mem_loose b1 b3) b2)
            rw [ext _ e]
            exact e
          refine ⟨(by show 0 ≤ sizeLine; decide), fun tl ntl => ?_⟩
          have lw8 := lw7.go (same_new (o := .lst []) ntl)
          have hba := s5 _ _ eb
          obtain ⟨f, hf⟩ : ∃ f : Nat → Int, f = fun j => (pm' j).getD 0 := ⟨_, rfl⟩
          -- what is there for it
          refine ⟨_, rfl, ba, rfl, ⟨_, SqT.of (lw8.same _ _ hba)⟩, for_tup (K := K) (a := ba) (xs := bv) (fun m σ H8 => ∃ (z11 z13 z14 : Option V), σ = sgW r a ha ba fo (some (nV t)) (some (.ref tr)) (some (.ref D)) (some (nV k)) (some (.ref d)) (some (.int (0 + ((i : Nat) : Int)))) (some (.ref tl)) z11 z13 z14 ∧ H8 tl = some (.lst ((((cur.take m).filter (av pm' k)).map (valB f)).map V.int)) ∧ Same H7 H8)
            ⟨_, _, _, rfl, upd_same, same_new ntl⟩ (fun m σ H8 _ ⟨_, _, _, _, _, s8⟩ => SqT.of (s8 _ _ (lw7.same _ _ hba))) ?_ ?_⟩
          · rintro m x σ H8 hx ⟨z11, z13, z14, rfl, hth, s8⟩
            obtain ⟨b, eb2, ⟨t1, g1, rfl, e1, e2⟩⟩ := alb.getL hx
            have ml := (List.getElem?_eq_some_iff.mp eb2).1
            have ec : cur[m]? = some (standB ms b) := by rw [hcur, List.getElem?_map, eb2]; rfl
            have s9 := (s5.trans lw7.same).trans s8
            have few : (((cur.take m).filter (av pm' k)).map (valB f)).length ≤ 20 := by
              rw [List.length_map]
              refine Nat.le_trans (List.length_filter_le ..) ?_
              rw [List.length_take]
              have := bok.belts
              omega
            have step : ∀ v : Int, av pm' k (standB ms b) = true → v = valB f (standB ms b) → (upd H8 tl (.lst ((((cur.take m).filter (av pm' k)).map (valB f)).map V.int ++ [V.int v]))) tl = some (.lst ((((cur.take (m + 1)).filter (av pm' k)).map (valB f)).map V.int)) := fun v h1 h2 => by
              rw [upd_same, List.take_add_one, ec, List.filter_append, List.map_append, List.map_append, h2]
              simp [h1]
            have stay : av pm' k (standB ms b) = false → H8 tl = some (.lst ((((cur.take (m + 1)).filter (av pm' k)).map (valB f)).map V.int)) := fun h1 => by
              rw [hth, List.take_add_one, ec, List.filter_append, List.map_append, List.map_append]
              simp [h1]
            have avto : b.to ≠ k → av pm' k (standB ms b) = false := fun z => by
              unfold av
              rw [stand_to, decide_eq_false z, Bool.false_and]
            have avth : b.to = k → b.th ≠ [] → av pm' k (standB ms b) = true := fun z1 z2 => by
              unfold av
              rw [stand_to, decide_eq_true z1, Bool.true_and]
              have : (standB ms b).th ≠ [] := fun z => z2 ((stand_th ms b).mp z)
              cases e : (standB ms b).th with
              | nil => exact absurd e this
              | cons x l => rfl
            have avno : b.to = k → b.th = [] → av pm' k (standB ms b) = (pm' b.one).isSome := fun z1 z2 => by
              unfold av
              rw [stand_to, decide_eq_true z1, Bool.true_and, (stand_th ms b).mpr z2, stand_one]
              rfl
            have own : ∀ {ys : List V}, Same H7 (upd H8 tl (.lst ys)) := Same.own s8 ntl
            refine ⟨t1, _, rfl, SqT.of (s9 _ _ e1), rfl, _, _, rfl, _, _, rfl, _, _, rfl, rfl, ?_⟩
            have sz : ((((cur.take m).filter (av pm' k)).map (valB f)).map V.int).length < sizeLine := by rw [List.length_map]; exact small1000 (by omega)
            refine ⟨_, rfl, _, rfl, rfl, _, rfl, if_bl (fun c => ?_) (fun c => ?_)⟩
            · have c : b.to = k := by have := V.int.inj (of_decide_eq_true c); omega
              refine ⟨_, rfl, _, rfl, g1, _, rfl, .inr (SqT.of (s9 _ _ e2)), _, _, rfl, rfl, _, rfl, if_bl (fun c2 => ?_) (fun c2 => ?_)⟩
              · have c2 : ms.length < b.th.length := by
                  have := of_decide_eq_true c2
                  rw [List.length_map] at this
                  omega
                refine ⟨_, rfl, .inl ⟨rfl, _, SqL.of hth⟩, _, rfl, _, rfl, g1, _, _, _, rfl, rfl, SqT.of (s9 _ _ e2), atI_nat (j := t) (by rw [← lms, List.getElem?_map, head_first f c2]; rfl), tl, _, _, rfl, rfl, hth, sz, ?_⟩
                exact ⟨_, _, _, rfl, step _ (avth c fun z => by rw [z] at c2; exact absurd c2 (Nat.not_lt_zero _)) rfl, own⟩
              have c2 : b.th.length ≤ ms.length := by
                have := of_decide_eq_false c2
                rw [List.length_map] at this
                omega
              refine ⟨_, rfl, _, rfl, rfl, _, rfl, if_bl (fun _ => ?_) (fun z => absurd (show V.int ((b.to : Nat) : Int) = V.int ((k : Nat) : Int) by rw [c]) (of_decide_eq_false z))⟩
              refine ⟨_, rfl, g1, _, rfl, .inr (SqT.of (s9 _ _ e2)), _, _, rfl, rfl, _, rfl, if_bl (fun c3 => ?_) (fun c3 => ?_)⟩
              · have c3 : b.th ≠ [] := fun z => by
                  have := of_decide_eq_true c3
                  rw [z] at this
                  exact absurd this (by decide)
                have pos := List.length_pos_iff.mpr c3
                have em : ms[ms.length - b.th.length]? = some (ms[ms.length - b.th.length]'(by omega)) := List.getElem?_eq_getElem _
                obtain ⟨mm, hmm⟩ : ∃ mm, mm = ms[ms.length - b.th.length]'(by omega) := ⟨_, rfl⟩
                rw [← hmm] at em
                obtain ⟨vm, evm, ⟨tm, rfl, htm⟩⟩ := alf.get em
                have lmm := mrow mm (List.mem_of_getElem? em)
                have s10 := ((same_new (o := .tup [nV t, V.ref tr]) ntt).trans (s4.trans lw7.same)).trans s8
                refine ⟨_, rfl, .inl ⟨rfl, _, SqL.of hth⟩, _, rfl, _, rfl, _, rfl, g1, _, rfl, .inr (SqT.of (s9 _ _ e2)), _, _, rfl, rfl, fo, fv, _, _, rfl, rfl, SqL.of (s10 _ _ hfo), ?_, _, rfl, tm, _, _, _, rfl, rfl, SqT.of (s10 _ _ htm), at_row (k := b.one) (by have := (ok.ends b (List.mem_of_getElem? eb2)).1; omega), tl, _, _, rfl, rfl, hth, sz, ?_⟩
                · rw [List.length_map, show ((t : Nat) : Int) - ((b.th.length : Nat) : Int) = ((ms.length - b.th.length : Nat) : Int) by omega]
                  exact atI_nat evm
                · exact ⟨_, _, _, rfl, step _ (avth c c3) (head_later f c3 c2 em).symm, own⟩
              have c3 : b.th = [] := by
                cases e : b.th with
                | nil => rfl
                | cons x l =>
                  have := of_decide_eq_false c3
                  rw [e] at this
                  exact absurd (by show (0 : Int) < (((x :: l).map V.int).length : Nat); simp) this
              have an := avno c c3
              refine ⟨_, rfl, _, rfl, rfl, _, rfl, if_bl (fun _ => ?_) (fun z => absurd (show V.int ((b.to : Nat) : Int) = V.int ((k : Nat) : Int) by rw [c]) (of_decide_eq_false z))⟩
              have lw9 := lw7.go s8
              refine ⟨_, rfl, _, rfl, d, _, rfl, dget_of lw9.at_ (lw9.dm b.one), _, rfl, if_bl (fun c4 => ?_) (fun c4 => ?_)⟩
              · rw [Option.isSome_map] at c4
                obtain ⟨v, hv2⟩ := Option.isSome_iff_exists.mp c4
                refine ⟨_, rfl, .inl ⟨rfl, _, SqL.of hth⟩, _, rfl, _, rfl, d, .int v, rfl, dget_of lw9.at_ (by rw [lw9.dm, hv2]; rfl), tl, _, _, rfl, rfl, hth, sz, ?_⟩
                refine ⟨_, _, _, rfl, step _ (by rw [an]; exact c4) ?_, own⟩
                rw [valB_nil ((stand_th ms b).mpr c3), stand_one, hf]
                show v = (pm' b.one).getD 0
                rw [hv2]
                rfl
              · rw [Option.isSome_map] at c4
                exact ⟨_, _, _, rfl, stay (by rw [an]; exact c4), s8⟩
            · have c : b.to ≠ k := fun z => of_decide_eq_false c (by rw [z])
              have cf : ¬ (V.int ((b.to : Nat) : Int) = V.int ((k : Nat) : Int)) := fun z => c (by have := V.int.inj z; omega)
              refine ⟨_, rfl, _, rfl, rfl, _, rfl, if_bl (fun z => absurd (of_decide_eq_true z) cf) (fun _ => ?_)⟩
              refine ⟨_, rfl, _, rfl, rfl, _, rfl, if_bl (fun z => absurd (of_decide_eq_true z) cf) (fun _ => ?_)⟩
              exact ⟨_, _, _, rfl, stay (avto c), s8⟩
          · rintro σ H8 ⟨z11, z13, z14, rfl, hth, s8⟩
            rw [lbv, List.take_of_length_le (by rw [hcur, List.length_map]; exact Nat.le_refl _)] at hth
            have lw8 := lw7.go s8
            have s9 := s5.trans lw8.same
            obtain ⟨xs, hxs⟩ : ∃ xs, xs = (cur.filter (av pm' k)).map (valB f) := ⟨_, rfl⟩
            rw [← hxs] at hth
            obtain ⟨v, ev, ⟨tk, rk2, rfl, h1, h2⟩⟩ := alh.get eh2
            have lxs : xs.length = (cur.filter (av pm' k)).length := by rw [hxs, List.length_map]
            have cnt := bok.count k _ eh2
            rw [← filt_to] at cnt
            refine ⟨_, rfl, tl, _, rfl, .inl (SqL.of hth), _, rfl, _, rfl, ha, _, _, _, rfl, rfl, SqT.of (s9 _ _ eh), atI_nat ev, tk, _, _, _, rfl, rfl, SqT.of (s9 _ _ h1), atI_nat (j := 0) rfl, rk2, hs[k].wd, _, rfl, SqT.of (s9 _ _ h2), fun H9 s10 => ⟨rfl, _, rfl, if_bl (fun c => ?_) (fun c => ?_)⟩⟩
            · have c : ((xs.length : Nat) : Int) = needs hs[k].wd := by
                have := V.int.inj (of_decide_eq_true c)
                rw [List.length_map] at this
                exact this
              have there := av_len (cur := cur) (pm := pm') (k := k) (by omega)
              have ex2 : xs = takes cur f k := by
                rw [hxs, av_all there]
                rfl
              have s11 := s9.trans s10
              refine ⟨_, rfl, _, rfl, ha, _, _, _, rfl, rfl, SqT.of (s11 _ _ eh), atI_nat ev, tk, _, _, _, rfl, rfl, SqT.of (s11 _ _ h1), atI_nat (j := 0) rfl, _, rfl, rk2, tl, hs[k], xs, rfl, s11 _ _ h2, s10 _ _ hth, gk, win, c, fun H10 s12 => ?_⟩
              have lw10 := lw8.go (s10.trans s12)
              refine ⟨_, rfl, _, rfl, d, _, rfl, DPut.k (k := kN k) lw10.at_ (small1000 (by omega)), ?_⟩
              refine ⟨_, _, _, _, _, _, putM pm' k (mkR hs[k] xs), rfl, ⟨upd_same, lw10.dm.put k _, ?_, fun j h e w => ?_, Same.own lw10.same nd⟩, ?_, fun j hj => ?_, fun j hj => ?_, fun j hj jk fr => ?_⟩
              · rw [ex2, hf]
                exact lw10.part.put eh2 win new there
              · by_cases e' : j = k
                · rw [show putM pm' k (mkR hs[k] xs) j = some _ from if_pos e']; rfl
                · rw [show putM pm' k (mkR hs[k] xs) j = pm' j from if_neg e']
                  exact lw10.door j h e w
              · have := length_putK kvs' (kN k) (V.int (mkR hs[k] xs))
                exact Nat.le_trans this (by omega)
              · have e' : j ≠ k := fun z => by rw [z, kz] at hj; cases hj
                rw [show putM pm' k (mkR hs[k] xs) j = pm' j from if_neg e']
                exact ext j hj
              · have e' : j ≠ k := by omega
                rw [show putM pm' k (mkR hs[k] xs) j = pm' j from if_neg e']
                exact rest j (by omega)
              · by_cases e' : j = k
                · rw [show putM pm' k (mkR hs[k] xs) j = some _ from if_pos e']; rfl
                · rw [show putM pm' k (mkR hs[k] xs) j = pm' j from if_neg e']
                  exact done j hj (by omega) fr
            · have c : ¬ ((xs.length : Nat) : Int) = needs hs[k].wd := fun z => of_decide_eq_false c (by rw [List.length_map, z])
              have nofree : ¬ free (looseOf cur) ll k := fun fr => c (by
                have := av_all (isfree fr)
                rw [lxs, this]
                exact cnt)
              refine ⟨_, _, _, _, _, kvs', pm', rfl, lw8.go s10, by omega, ext, fun j hj => rest j (by omega), fun j hj jk fr => ?_⟩
              by_cases e : j = k
              · rw [e] at fr; exact absurd fr nofree
              · exact done j hj (by omega) fr
        · rintro σ H7 ⟨u8, u11, u12, u13, u14, kvs', pm', rfl, lw7, lk7, ext, rest, done⟩
          refine ⟨_, _, _, _, _, _, kvs', pm', rfl, lw7, by omega, ?_⟩
          have mono : ∀ k, (!(pm' k).isSome) = true → (!(pm k).isSome) = true := fun k hk => by
            cases e : (pm k).isSome with
            | false => rfl
            | true => rw [ext k e, e] at hk; cases hk
          by_cases e : ll = []
          · have le : (missing hs.length pm').length ≤ ll.length := by rw [hll]; exact filt_le mono _
            rw [e] at le
            have : (missing hs.length pm').length = 0 := Nat.le_zero.mp le
            omega
          · obtain ⟨k, hk, fr⟩ := some_free crk e
            obtain ⟨kn, kz⟩ := mll k hk
            have dk := done k hk (by omega) fr
            have : (missing hs.length pm').length < (missing hs.length pm).length := filt_lt mono (List.mem_range.mpr kn) (by rw [kz]; rfl) (by rw [dk]; rfl)
            omega
      · rintro σ H5 ⟨w8, w10, w11, w12, w13, w14, kvs, pm, rfl, lw, lk, lm⟩
        have m0 : missing hs.length pm = [] := List.eq_nil_of_length_eq_zero (by omega)
        have full : ∀ k, k < hs.length → (pm k).isSome = true := fun k hk => by
          cases e : pm k with
          | none =>
            have := mem_missing.mpr ⟨hk, e⟩
            rw [m0] at this
            cases this
          | some v => rfl
        have s6 := s5.trans lw.same
        have s7 := (same_new (o := .tup [nV t, V.ref tr]) ntt).trans (s4.trans lw.same)
        refine ⟨_, rfl, .inl ⟨rfl, _, SqL.of (s7 _ _ hfo)⟩, _, rfl, ha, _, rfl, .inr (SqT.of (s6 _ _ eh)), _, rfl, by omega, by omega, fun M nM => lc_range (lo := 0) (n := hv.length) (fun j H6 => H6 M = some (.lst ((fullM j pm).map V.int)) ∧ H6 d = some (.dK kvs) ∧ Same H5 H6) ⟨upd_same, same_new nM _ _ lw.at_, same_new nM⟩ ?_ ?_⟩
        · rintro j H6 hj ⟨hM, hd6, s8⟩
          obtain ⟨v, ev⟩ := Option.isSome_iff_exists.mp (full j (by omega))
          refine ⟨rfl, yes_in ⟨_, rfl, _, rfl, d, .int v, rfl, dget0 hd6 (by rw [lw.dm, ev]; rfl), _, hM, ?_, ?_, ?_, Same.own s8 nM⟩⟩
          · rw [List.length_map, List.length_map, List.length_range]; exact small1000 (by omega)
          · rw [upd_same]
            unfold fullM
            rw [List.range_succ, List.map_append, List.map_append]
            simp [ev]
          · rw [upd_ne (ne_of_none lw.at_ nM)]; exact hd6
        · rintro H6 ⟨hM, hd6, s8⟩
          rw [lhv] at hM
          refine ⟨M, _, rfl, .inl ⟨SqL.of hM, fun p np => ?_⟩⟩
          have s9 := (s7.trans s8).trans (same_new (o := .tup ((fullM hs.length pm).map V.int)) np)
          have hfo9 := s9 _ _ hfo
          refine ⟨fo, _, _, rfl, rfl, hfo9, by rw [alf.length, lms]; exact small1000 (by omega), ?_⟩
          refine ⟨fv ++ [V.ref p], ms ++ [fullM hs.length pm], _, _, _, _, _, _, _, _, _, _, rfl, upd_same, ?_, ?_, Same.own (s2.trans s9) nfo⟩
          · exact ((alf.imp fun _ _ z => z.keep (TK.same s9)).snoc ⟨p, rfl, upd_same⟩).imp fun _ _ z => z.keep (TK.lst hfo9)
          · rw [List.take_add_one, er2]
            have := lw.part.full full
            rw [hcur] at this
            exact ws.snoc this
  · rintro σ H2 ⟨fv, ms, v5, v6, v7, v8, v9, v10, v11, v12, v13, v14, rfl, hfo, alf, ws, s2⟩
    rw [lrv, List.take_length] at ws
    exact ⟨_, rfl, q fo fv ms H2 nfo hfo alf ws s2⟩
end
structure HOk (hs : List HR) : Prop where
  hands : hs.length ≤ 12
  good : ∀ h ∈ hs, GoodHand h
section
variable {P : Program} {w : World} {K : PySem.W.Frag} {mg : Str → Option Value} {base : Heap}
def sp_law_doors (K : PySem.W.Frag) : Sp := fun vs H Q _ => ∃ (r : Addr) (hs : List HR) (bs : List BR) (z : Str), vs = [.ref r, .str z] ∧ (z = "in" ∨ z = "out") ∧ RoomAt H r hs bs ∧ HOk hs ∧ ∀ (p : Addr) (H' : Hp), H p = none → H' p = some (.lst ((doorsOf z hs).map nV)) → Same H H' → Q (.ref p) H'
theorem ok_law_doors {f : Addr} {fd : FuncData} (F : Fun K "_law_doors" "_law_doors" s_law_doors f fd) {C : Addr} (T : Top K mg C) : FnOk P w K mg base CX0 1 f fd ["_law_room_here", "_law_word"] (sp_law_doors K) := by
  refine F.ok sc_law_doors (fun vs H Q E h => ?_) (fun cdv A outer s H vs Q E hr h => ?_)
  · obtain ⟨r, hs, bs, z, rfl, _⟩ := h
    rfl
  obtain ⟨r, hs, bs, z, rfl, hz, hR, ok, q⟩ := h
  have oz : SeqAt.shaped (.tuple [.str z]) = true := by rcases hz with rfl | rfl <;> exact one_shaped (by decide +kernel)
  obtain ⟨ha, ba, hv, bv, er, eh, eb, alh, alb⟩ := id hR.ex
  have lhv := alh.length
  have lh := ok.hands
  refine ⟨_, (pss_one (ps_ret (pe_lc (own := [("_law_k", 2), ("_law_hand", 3)]) (g := gTup K 2 (gCons (gName 2) (gCons (gName 3) gNil))) (by rfl) sc_law_doors.nd (pi_enumT K rfl (by rfl) T.m_enumerate (pa_cons (pe_ix (ix_tupK K rfl) (pv 0) pe_int (fun _ _ => rfl)) pa_nil)) (blkOk_by (own := [("_law_k", 2), ("_law_hand", 3)]) (N := N_law_doors) (sc := defScope s_law_doors) (by decide +kernel)) (fun _ _ _ _ _ => (pg_tupK K rfl rfl (pgs_cons (pg_name (i := 2) sc_law_doors.nd rfl (Or.inl rfl)) (pgs_cons (pg_name (i := 3) sc_law_doors.nd rfl (Or.inl rfl)) pgs_nil)))) (fun _ _ _ _ _ => pts_one (pt_cmpR (op_eqDK K rfl hr.units) (pe_ix (ix_tupK K rfl) (pv 3) pe_int (fun _ _ => rfl)) (pe_tup (pa_cons (pv 1) pa_nil)) (nomark _))) (fun _ _ _ _ _ => (pv 2))))), ?_⟩
  refine ⟨_, rfl, r, _, _, _, rfl, rfl, SqT.of er, atI_nat (j := 0) rfl, ha, hv, rfl, SqT.of eh, fun D nD => lc_it (J := IteT K ha hv) (n := hv.length) (fun i H5 => H5 D = some (.lst (((List.range i).filter fun j => decide (hs[j]?.map HR.wd = some z)).map nV)) ∧ Same H H5) ⟨upd_same, same_new nD⟩ ?_ ?_ ?_ ?_⟩
  · rintro i H5 hi ⟨hD, s5⟩
    exact ⟨SqT.of (s5 _ _ eh), hi⟩
  · rintro H5 ⟨hD, s5⟩
    exact ⟨SqT.of (s5 _ _ eh), rfl⟩
  · rintro i x H5 H6 hi ⟨hD, s5⟩ ⟨t, y, rfl, nt, rfl, ey⟩
    obtain ⟨hh, eb2, ⟨t2, g, rfl, e1, e2⟩⟩ := alh.getL ey
    have gh := ok.good _ (List.mem_of_getElem? eb2)
    have s6 := s5.trans (same_new (o := .tup [V.int ((i : Nat) : Int), V.ref t2]) nt)
    have hD6 := same_new (o := .tup [V.int ((i : Nat) : Int), V.ref t2]) nt _ _ hD
    have few := filt_len (p := fun j => decide (hs[j]?.map HR.wd = some z)) i
    refine ⟨t, _, rfl, SqT.of upd_same, rfl, _, _, rfl, _, _, rfl, rfl, rfl, _, rfl, t2, _, _, _, rfl, rfl, SqT.of (s6 _ _ e1), atI_nat (j := 0) rfl, ?_⟩
    generalize upd H5 t (.tup [V.int ((i : Nat) : Int), V.ref t2]) = H6 at s6 hD6 ⊢
    refine ⟨_, rfl, (by show 1 ≤ sizeLine; decide), fun o1 no1 => ?_⟩
    have s7 := s6.trans (same_new (o := .tup [V.str z]) no1)
    have hD7 := same_new (o := .tup [V.str z]) no1 _ _ hD6
    refine ⟨_, _, rule_dp (s7 _ _ e2), .tup (SqT.of upd_same) (.cons (.str _) .nil), rule_shaped gh.lay, oz, _, rfl, ?_⟩
    rw [rule_eqv, gh.door z hz]
    by_cases c : hh.wd = z
    · rw [decide_eq_true c]
      refine if_bl (fun _ => ⟨_, rfl, _, hD7, by rw [List.length_map]; exact small1000 (by omega), ?_, Same.own s7 nD⟩) (fun z => nomatch z)
      rw [upd_same, filt_succ, if_pos (decide_eq_true (by rw [eb2, ← c]; rfl)), List.map_append]
      rfl
    · rw [decide_eq_false c]
      refine if_bl (fun z => nomatch z) (fun _ => ⟨?_, s7⟩)
      rw [filt_succ, if_neg fun z => c (by have := of_decide_eq_true z; rw [eb2] at this; exact Option.some.inj this), List.append_nil]
      exact hD7
  · rintro H5 ⟨hD, s5⟩
    refine q D H5 nD ?_ s5
    rw [hD, lhv]
    rfl
end
/-! ### what hands make, by bells; rooms moved go on -/
def goingN (bs : List BR) (k : Nat) : List Nat := (List.range bs.length).filter fun i => decide (bs[i]?.map BR.one = some k)
section
variable {P : Program} {w : World} {K : PySem.W.Frag} {mg : Str → Option Value} {base : Heap}
def sp_goings (K : PySem.W.Frag) : Sp := fun vs H Q _ => ∃ (r : Addr) (hs : List HR) (bs : List BR) (k : Nat), vs = [.ref r, nV k] ∧ RoomAt H r hs bs ∧ bs.length ≤ 400 ∧ ∀ (p : Addr) (H' : Hp), H p = none → H' p = some (.lst ((goingN bs k).map nV)) → Same H H' → Q (.ref p) H'
theorem ok_goings {f : Addr} {fd : FuncData} (F : Fun K "goings" "goings" s_goings f fd) {C : Addr} (T : Top K mg C) : FnOk P w K mg base CX0 1 f fd ["room", "hand"] (sp_goings K) := by
  refine F.ok sc_goings (fun vs H Q E h => ?_) (fun cdv A outer s H vs Q E hr h => ?_)
  · obtain ⟨r, hs, bs, k, rfl, _⟩ := h
    rfl
  obtain ⟨r, hs, bs, k, rfl, hR, lb, q⟩ := h
  obtain ⟨ha, ba, hv, bv, er, eh, eb, alh, alb⟩ := hR.ex
  have lbv := alb.length
  refine ⟨_, (pss_one (ps_ret (pe_lc (own := [("number", 2), ("belt", 3)]) (g := gTup K 2 (gCons (gName 2) (gCons (gName 3) gNil))) (by rfl) sc_goings.nd (pi_enumT K rfl (by rfl) T.m_enumerate (pa_cons (pe_ix (ix_tupK K rfl) (pv 0) pe_int (fun _ _ => rfl)) pa_nil)) (blkOk_by (own := [("number", 2), ("belt", 3)]) (N := N_goings) (sc := defScope s_goings) (by decide +kernel)) (fun _ _ _ _ _ => (pg_tupK K rfl rfl (pgs_cons (pg_name (i := 2) sc_goings.nd rfl (Or.inl rfl)) (pgs_cons (pg_name (i := 3) sc_goings.nd rfl (Or.inl rfl)) pgs_nil)))) (fun _ _ _ _ _ => pts_one (pt_cmpR op_eq (pe_ix (ix_tupK K rfl) (pv 3) pe_int (fun _ _ => rfl)) (pv 1) (nomark _))) (fun _ _ _ _ _ => (pv 2))))), ?_⟩
  refine ⟨_, rfl, r, _, _, _, rfl, rfl, SqT.of er, atI_nat (j := 1) rfl, ba, bv, rfl, SqT.of eb, fun D nD => lc_it (J := IteT K ba bv) (n := bv.length) (fun i H5 => H5 D = some (.lst (((List.range i).filter fun j => decide (bs[j]?.map BR.one = some k)).map nV)) ∧ Same H H5) ⟨upd_same, same_new nD⟩ ?_ ?_ ?_ ?_⟩
  · rintro i H5 hi ⟨hD, s5⟩
    exact ⟨SqT.of (s5 _ _ eb), hi⟩
  · rintro H5 ⟨hD, s5⟩
    exact ⟨SqT.of (s5 _ _ eb), rfl⟩
  · rintro i x H5 H6 hi ⟨hD, s5⟩ ⟨t, y, rfl, nt, rfl, ey⟩
    obtain ⟨b, eb2, ⟨t2, g, rfl, e1, e2⟩⟩ := alb.getL ey
    have s6 := s5.trans (same_new (o := .tup [V.int ((i : Nat) : Int), V.ref t2]) nt)
    have hD6 := same_new (o := .tup [V.int ((i : Nat) : Int), V.ref t2]) nt _ _ hD
    have few := filt_len (p := fun j => decide (bs[j]?.map BR.one = some k)) i
    refine ⟨t, _, rfl, SqT.of upd_same, rfl, _, _, rfl, _, _, rfl, rfl, rfl, _, rfl, t2, _, _, _, rfl, rfl, SqT.of (s6 _ _ e1), atI_nat (j := 0) rfl, _, rfl, rfl, _, rfl, if_bl (fun c => ?_) (fun c => ?_)⟩
    · have c : b.one = k := by have := V.int.inj (of_decide_eq_true c); omega
      refine ⟨_, rfl, _, hD6, by rw [List.length_map]; exact small1000 (by omega), ?_, Same.own s6 nD⟩
      rw [upd_same, filt_succ, if_pos (decide_eq_true (by rw [eb2, ← c]; rfl)), List.map_append]
      rfl
    · have c : ¬ b.one = k := fun z => of_decide_eq_false c (by rw [z])
      refine ⟨?_, s6⟩
      rw [filt_succ, if_neg fun z => c (by have := of_decide_eq_true z; rw [eb2] at this; exact Option.some.inj this), List.append_nil]
      exact hD6
  · rintro H5 ⟨hD, s5⟩
    refine q D H5 nD ?_ s5
    rw [hD, lbv]
    rfl
end

/-! ### a Floor -/
/-- the lists of a Floor: (0, j) what lies on belt j, (1, k) what was given to hand k, (2, k) what hand k made; (3, _) lists that stay -/
abbrev Sl := Nat × Nat
abbrev ff (ra ga la ca oa da : Addr) : List (Str × V) := [("rules", .ref ra), ("given", .ref ga), ("lying", .ref la), ("coming", .ref ca), ("going", .ref oa), ("done", .ref da)]
def VS (hs : List HR) (bs : List BR) (s : Sl) : Prop := (s.1 = 0 ∧ s.2 < bs.length) ∨ (s.1 = 1 ∧ s.2 ∈ doorsOf "in" hs) ∨ (s.1 = 2 ∧ s.2 < hs.length)
/-- a list of numbers that stays -/
def NlAt (tg : Addr → Option Sl) (H : Hp) (v : V) (ns : List Nat) : Prop := ∃ t : Addr, v = .ref t ∧ H t = some (.lst (ns.map nV)) ∧ tg t = some (3, 0)
def RlAt (H : Hp) (v : V) (h : HR) : Prop := ∃ t : Addr, v = .ref t ∧ H t = some (.tup (ruleL h))
/-- what is tagged is a list -/
def Tg (H : Hp) (tg : Addr → Option Sl) : Prop := ∀ p s, tg p = some s → ∃ xs, H p = some (.lst xs)
/-- all tagged lists stand, and all that is no list -/
def Kp (tg : Addr → Option Sl) (H H' : Hp) : Prop := ∀ b o, H b = some o → (tg b ≠ none ∨ ∀ xs, o ≠ .lst xs) → H' b = some o
/-- all stands but what is tagged -/
def Bt (tg : Addr → Option Sl) (H H' : Hp) : Prop := ∀ b o, H b = some o → tg b = none → H' b = some o
theorem Kp.same {tg : Addr → Option Sl} {H H' : Hp} (s : Same H H') : Kp tg H H' := fun b o e _ => s b o e
theorem Kp.but {tg : Addr → Option Sl} {H H' : Hp} {f c : Addr} (F : Flow H f c) (b : But f H H') (n : tg f = none) : Kp tg H H' := fun x o e h => b x o e fun z => by
  obtain ⟨ns, i, a, q, r, e1, _⟩ := F
  rw [z] at e h
  rw [e1] at e
  rcases h with h | h
  · exact h n
  · exact h _ (Option.some.inj e).symm
theorem Kp.lst {tg : Addr → Option Sl} {H : Hp} {p : Addr} {xs ys : List V} (e : H p = some (.lst xs)) (n : tg p = none) : Kp tg H (upd H p (.lst ys)) := fun x o e1 h => by
  rw [upd_ne fun z => ?_]
  · exact e1
  · rw [z, e] at e1
    rcases h with h | h
    · exact h (by rw [z]; exact n)
    · exact h _ (Option.some.inj e1).symm
theorem Kp.trans {tg : Addr → Option Sl} {H H1 H2 : Hp} (a : Kp tg H H1) (b : Kp tg H1 H2) : Kp tg H H2 := fun x o e h => b x o (a x o e h) h
theorem Kp.tk {tg : Addr → Option Sl} {H H' : Hp} (a : Kp tg H H') : TK H H' := fun x xs e => a x _ e (.inr fun _ z => nomatch z)
theorem Bt.refl {tg : Addr → Option Sl} {H : Hp} : Bt tg H H := fun _ _ e _ => e
theorem Bt.trans {tg : Addr → Option Sl} {H H1 H2 : Hp} (a : Bt tg H H1) (b : Bt tg H1 H2) : Bt tg H H2 := fun x o e h => b x o (a x o e h) h
theorem Bt.same {tg : Addr → Option Sl} {H H1 H2 : Hp} (a : Bt tg H H1) (s : Same H1 H2) : Bt tg H H2 := fun x o e h => s x o (a x o e h)
theorem Bt.flow {tg : Addr → Option Sl} {H H' : Hp} {f c : Addr} (a : Bt tg H H') (F : Flow H f c) (n1 : tg f = none) (n2 : tg c = none) : Flow H' f c := by
  obtain ⟨ns, i, x, q, r, e1, e2, e⟩ := F
  exact ⟨ns, i, x, q, r, a _ _ e1 n1, a _ _ e2 n2, e⟩
theorem Tg.tup {H : Hp} {tg : Addr → Option Sl} {p : Addr} {o : HO} (g : Tg H tg) (e : H p = some o) (n : ∀ xs, o ≠ .lst xs) : tg p = none := by
  cases z : tg p with
  | none => rfl
  | some s =>
    obtain ⟨xs, h⟩ := g p s z
    rw [e] at h
    exact absurd (Option.some.inj h) (n xs)
theorem Tg.free {H : Hp} {tg : Addr → Option Sl} {p : Addr} (g : Tg H tg) (e : H p = none) : tg p = none := by
  cases z : tg p with
  | none => rfl
  | some s =>
    obtain ⟨xs, h⟩ := g p s z
    rw [e] at h
    cases h
theorem Bt.tk {tg : Addr → Option Sl} {H H' : Hp} (a : Bt tg H H') (g : Tg H tg) : TK H H' := fun x xs e => a x _ e (g.tup e fun _ z => nomatch z)
theorem Tg.kp {H H' : Hp} {tg : Addr → Option Sl} (g : Tg H tg) (k : Kp tg H H') : Tg H' tg := fun p s e => by
  obtain ⟨xs, h⟩ := g p s e
  exact ⟨xs, k p _ h (.inl (by rw [e]; exact fun z => nomatch z))⟩
/-- a Floor at F; cn: what is on its lists -/
structure FlA (C : Addr) (H : Hp) (F : Addr) (hs : List HR) (bs : List BR) (cn : Sl → List Int) (tg : Addr → Option Sl) (dx ra ga la ca oa da : Addr) (kvs : List (Key × V)) (A : Sl → Addr) (rv cv ov : List V) : Prop where
  hF : H F = some (.ins C dx (ff ra ga la ca oa da))
  hr : H ra = some (.lst rv)
  alr : All2 (RlAt H) rv hs
  hg : H ga = some (.dK kvs)
  gv : ∀ k, k < hs.length → valV kvs (kN k) = if k ∈ doorsOf "in" hs then some (.ref (A (1, k))) else none
  hl : H la = some (.lst ((List.range bs.length).map fun j => V.ref (A (0, j))))
  hc : H ca = some (.lst cv)
  alc : All2 (NlAt tg H) cv ((List.range hs.length).map (comingN bs))
  ho : H oa = some (.lst ov)
  alo : All2 (NlAt tg H) ov ((List.range hs.length).map (goingN bs))
  hd : H da = some (.lst ((List.range hs.length).map fun k => V.ref (A (2, k))))
  sl : ∀ s, VS hs bs s → H (A s) = some (.lst ((cn s).map V.int)) ∧ tg (A s) = some s
  tr : tg ra = some (3, 0)
  tl : tg la = some (3, 0)
  tc : tg ca = some (3, 0)
  to : tg oa = some (3, 0)
  td : tg da = some (3, 0)
  own : Tg H tg
def FlAt (C : Addr) (H : Hp) (F : Addr) (hs : List HR) (bs : List BR) (cn : Sl → List Int) (tg : Addr → Option Sl) : Prop := ∃ (dx ra ga la ca oa da : Addr) (kvs : List (Key × V)) (A : Sl → Addr) (rv cv ov : List V), FlA C H F hs bs cn tg dx ra ga la ca oa da kvs A rv cv ov
theorem FlA.kp {C : Addr} {H H' : Hp} {F : Addr} {hs : List HR} {bs : List BR} {cn : Sl → List Int} {tg : Addr → Option Sl} {dx ra ga la ca oa da : Addr} {kvs : List (Key × V)} {A : Sl → Addr} {rv cv ov : List V} (a : FlA C H F hs bs cn tg dx ra ga la ca oa da kvs A rv cv ov) (k : Kp tg H H') : FlA C H' F hs bs cn tg dx ra ga la ca oa da kvs A rv cv ov := by
  have kl : ∀ {p : Addr} {o : HO} {s : Sl}, H p = some o → tg p = some s → H' p = some o := fun e t => k _ _ e (.inl (by rw [t]; exact fun z => nomatch z))
  have nl : ∀ {v : V} {ns : List Nat}, NlAt tg H v ns → NlAt tg H' v ns := fun ⟨t, e, h, g⟩ => ⟨t, e, kl h g, g⟩
  exact ⟨k _ _ a.hF (.inr fun _ z => nomatch z), kl a.hr a.tr, a.alr.imp fun _ _ ⟨t, e, h⟩ => ⟨t, e, k.tk _ _ h⟩, k _ _ a.hg (.inr fun _ z => nomatch z), a.gv, kl a.hl a.tl, kl a.hc a.tc, a.alc.imp fun _ _ z => nl z, kl a.ho a.to, a.alo.imp fun _ _ z => nl z, kl a.hd a.td, fun s v => ⟨kl (a.sl s v).1 (a.sl s v).2, (a.sl s v).2⟩, a.tr, a.tl, a.tc, a.to, a.td, a.own.kp k⟩
theorem FlAt.kp {C : Addr} {H H' : Hp} {F : Addr} {hs : List HR} {bs : List BR} {cn : Sl → List Int} {tg : Addr → Option Sl} (a : FlAt C H F hs bs cn tg) (k : Kp tg H H') : FlAt C H' F hs bs cn tg := by
  obtain ⟨dx, ra, ga, la, ca, oa, da, kvs, A, rv, cv, ov, a⟩ := a
  exact ⟨dx, ra, ga, la, ca, oa, da, kvs, A, rv, cv, ov, a.kp k⟩
theorem FlAt.own {C : Addr} {H : Hp} {F : Addr} {hs : List HR} {bs : List BR} {cn : Sl → List Int} {tg : Addr → Option Sl} (a : FlAt C H F hs bs cn tg) : Tg H tg := by
  obtain ⟨dx, ra, ga, la, ca, oa, da, kvs, A, rv, cv, ov, a⟩ := a
  exact a.own
abbrev putS (cn : Sl → List Int) (s : Sl) (xs : List Int) : Sl → List Int := fun t => if t = s then xs else cn t
theorem FlA.put {C : Addr} {H : Hp} {F : Addr} {hs : List HR} {bs : List BR} {cn : Sl → List Int} {tg : Addr → Option Sl} {dx ra ga la ca oa da : Addr} {kvs : List (Key × V)} {A : Sl → Addr} {rv cv ov : List V} (a : FlA C H F hs bs cn tg dx ra ga la ca oa da kvs A rv cv ov) {s : Sl} (v : VS hs bs s) (xs : List Int) : FlA C (upd H (A s) (.lst (xs.map V.int))) F hs bs (putS cn s xs) tg dx ra ga la ca oa da kvs A rv cv ov ∧ Bt tg H (upd H (A s) (.lst (xs.map V.int))) := by
  obtain ⟨h0, t0⟩ := a.sl s v
  have s3 : s ≠ (3, 0) := fun e => by
    rw [e] at v
    rcases v with ⟨z, _⟩ | ⟨z, _⟩ | ⟨z, _⟩ <;> exact absurd z (by decide)
  have off : ∀ {p : Addr} {o : HO}, H p = some o → p ≠ A s → (upd H (A s) (.lst (xs.map V.int))) p = some o := fun e n => by rw [upd_ne n]; exact e
  have fx : ∀ {p : Addr} {o : HO}, H p = some o → tg p = some (3, 0) → (upd H (A s) (.lst (xs.map V.int))) p = some o := fun e t => off e fun z => by
    rw [z, t0] at t
    exact s3 (Option.some.inj t)
  have nx : ∀ {p : Addr} {o : HO}, H p = some o → (∀ ys, o ≠ .lst ys) → (upd H (A s) (.lst (xs.map V.int))) p = some o := fun e n => off e fun z => by
    rw [z, h0] at e
    exact n _ (Option.some.inj e).symm
  have nl : ∀ {v : V} {ns : List Nat}, NlAt tg H v ns → NlAt tg (upd H (A s) (.lst (xs.map V.int))) v ns := fun ⟨t, e, h, g⟩ => ⟨t, e, fx h g, g⟩
  refine ⟨⟨nx a.hF (fun _ z => nomatch z), fx a.hr a.tr, a.alr.imp fun _ _ ⟨t, e, h⟩ => ⟨t, e, nx h (fun _ z => nomatch z)⟩, nx a.hg (fun _ z => nomatch z), a.gv, fx a.hl a.tl, fx a.hc a.tc, a.alc.imp fun _ _ z => nl z, fx a.ho a.to, a.alo.imp fun _ _ z => nl z, fx a.hd a.td, fun u vu => ?_, a.tr, a.tl, a.tc, a.to, a.td, fun p u e => ?_⟩, fun b o e n => off e fun z => ?_⟩
  · obtain ⟨h1, t1⟩ := a.sl u vu
    refine ⟨?_, t1⟩
    by_cases z : u = s
    · subst z
      rw [upd_same]
      show _ = some (HO.lst ((if u = u then xs else cn u).map V.int))
      rw [if_pos rfl]
    · rw [off h1 fun y => z (by rw [y, t0] at t1; exact (Option.some.inj t1).symm)]
      show _ = some (HO.lst ((if u = s then xs else cn u).map V.int))
      rw [if_neg z]
  · obtain ⟨ys, h⟩ := a.own p u e
    by_cases z : p = A s
    · exact ⟨_, by rw [z, upd_same]⟩
    · exact ⟨ys, off h z⟩
  · rw [z, t0] at n
    cases n
structure Fp where
  dx : Addr
  ra : Addr
  ga : Addr
  la : Addr
  ca : Addr
  oa : Addr
  da : Addr
  kvs : List (Key × V)
  A : Sl → Addr
  rv : List V
  cv : List V
  ov : List V
abbrev FlB (C : Addr) (H : Hp) (F : Addr) (hs : List HR) (bs : List BR) (cn : Sl → List Int) (tg : Addr → Option Sl) (p : Fp) : Prop := FlA C H F hs bs cn tg p.dx p.ra p.ga p.la p.ca p.oa p.da p.kvs p.A p.rv p.cv p.ov
theorem FlAt.b {C : Addr} {H : Hp} {F : Addr} {hs : List HR} {bs : List BR} {cn : Sl → List Int} {tg : Addr → Option Sl} (a : FlAt C H F hs bs cn tg) : ∃ p, FlB C H F hs bs cn tg p := by
  obtain ⟨dx, ra, ga, la, ca, oa, da, kvs, A, rv, cv, ov, a⟩ := a
  exact ⟨⟨dx, ra, ga, la, ca, oa, da, kvs, A, rv, cv, ov⟩, a⟩
theorem FlA.at_ {C : Addr} {H : Hp} {F : Addr} {hs : List HR} {bs : List BR} {cn : Sl → List Int} {tg : Addr → Option Sl} {p : Fp} (a : FlB C H F hs bs cn tg p) : FlAt C H F hs bs cn tg := ⟨_, _, _, _, _, _, _, _, _, _, _, _, a⟩
/-- from which lists a hand takes -/
def srcs (hs : List HR) (bs : List BR) (k : Nat) : List Sl := if k ∈ doorsOf "in" hs then [(1, k)] else (comingN bs k).map fun j => (0, j)
theorem coming_lt {bs : List BR} {k j : Nat} (h : j ∈ comingN bs k) : j < bs.length := List.mem_range.mp (List.mem_filter.mp h).1
theorem going_lt {bs : List BR} {k j : Nat} (h : j ∈ goingN bs k) : j < bs.length := List.mem_range.mp (List.mem_filter.mp h).1
theorem srcs_vs {hs : List HR} {bs : List BR} {k : Nat} : ∀ s ∈ srcs hs bs k, VS hs bs s := fun s h => by
  unfold srcs at h
  by_cases c : k ∈ doorsOf "in" hs
  · rw [if_pos c] at h
    rw [List.mem_singleton.mp h]
    exact .inr (.inl ⟨rfl, c⟩)
  · rw [if_neg c] at h
    obtain ⟨j, hj, rfl⟩ := List.mem_map.mp h
    exact .inl ⟨rfl, coming_lt hj⟩
theorem srcs_nd {hs : List HR} {bs : List BR} {k : Nat} : (srcs hs bs k).Nodup := by
  unfold srcs
  by_cases c : k ∈ doorsOf "in" hs
  · rw [if_pos c]
    exact List.pairwise_singleton ..
  · rw [if_neg c]
    refine List.Pairwise.map _ (fun a b h e => h ?_) (List.nodup_range.filter _)
    exact congrArg Prod.snd e
theorem srcs_len {hs : List HR} {bs : List BR} {k : Nat} (lb : bs.length ≤ 20) : (srcs hs bs k).length ≤ 20 := by
  unfold srcs
  by_cases c : k ∈ doorsOf "in" hs
  · rw [if_pos c]; show 1 ≤ 20; decide
  · rw [if_neg c, List.length_map]
    have := filt_len (p := fun i => decide (bs[i]?.map BR.to = some k)) bs.length
    unfold comingN
    omega
/-- all is there that a hand takes -/
def rdy (hs : List HR) (bs : List BR) (cn : Sl → List Int) (k : Nat) : Bool := (srcs hs bs k).all fun s => decide ((((cn s).length : Nat) : Int) > 0)
theorem rg_ref {n j : Nat} {f : Nat → V} (h : j < n) : atI ((List.range n).map f) ((j : Nat) : Int) = some (f j) := atI_nat (by rw [List.getElem?_map, List.getElem?_range h]; rfl)
theorem nl_get {tg : Addr → Option Sl} {H : Hp} {cv : List V} {n k : Nat} {g : Nat → List Nat} (al : All2 (NlAt tg H) cv ((List.range n).map g)) (h : k < n) : ∃ t : Addr, cv[k]? = some (.ref t) ∧ H t = some (.lst ((g k).map nV)) ∧ tg t = some (3, 0) := by
  obtain ⟨x, ex, t, rfl, h1, h2⟩ := al.get (show ((List.range n).map g)[k]? = some (g k) by rw [List.getElem?_map, List.getElem?_range h]; rfl)
  exact ⟨t, ex, h1, h2⟩
section
variable {P : Program} {w : World} {K : PySem.W.Frag} {mg : Str → Option Value} {base : Heap}
def sp_Floor_sources (K : PySem.W.Frag) (C : Addr) : Sp := fun vs H Q _ => ∃ (F : Addr) (hs : List HR) (bs : List BR) (cn : Sl → List Int) (tg : Addr → Option Sl) (p : Fp) (k : Nat), vs = [.ref F, nV k] ∧ FlB C H F hs bs cn tg p ∧ k < hs.length ∧ bs.length ≤ 20 ∧
  ∀ (D : Addr) (H' : Hp), H D = none → H' D = some (.lst ((srcs hs bs k).map fun s => V.ref (p.A s))) → Same H H' → Q (.ref D) H'
theorem ok_Floor_sources {f : Addr} {fd : FuncData} (F : Fun K "sources" "Floor.sources" s_Floor_sources f fd) {C : Addr} (T : Top K mg C) : FnOk P w K mg base CX0 1 f fd ["self", "hand"] (sp_Floor_sources K C) := by
  refine F.ok sc_Floor_sources (fun vs H Q E h => ?_) (fun cdv A outer s H vs Q E hr h => ?_)
  · obtain ⟨F, hs, bs, cn, tg, p, k, rfl, _⟩ := h
    rfl
  obtain ⟨F, hs, bs, cn, tg, p, k, rfl, a, hk, lb, q⟩ := h
  refine ⟨_, (pss_cons (ps_if (pt_cmp (pc_din (hu_of hr) (pv 1) (pe_fldK K rfl (pv 0) rfl)) (by with_unfolding_all rfl)) (pss_one (ps_ret (pe_lst (pa_cons (pe_dget (hu_of hr) (pe_fldK K rfl (pv 0) rfl) (pv 1) (fun _ _ => rfl)) pa_nil)))) pss_nil)
      (pss_one (ps_ret (pe_lc (own := [("belt", 2)]) (g := gName 2) (tt := tYes) (by rfl) sc_Floor_sources.nd (pi_listK K rfl (pe_ix (ix_listK K rfl) (pe_fldK K rfl (pv 0) rfl) (pv 1) (fun _ _ => rfl))) (blkOk_by (own := [("belt", 2)]) (N := N_Floor_sources) (sc := defScope s_Floor_sources) (by decide +kernel)) (fun _ _ _ _ _ => (pg_name (i := 2) sc_Floor_sources.nd rfl (Or.inl rfl))) (fun _ _ _ _ _ => pts_nil) (fun _ _ _ _ _ => (pe_ix (ix_listK K rfl) (pe_fldK K rfl (pv 0) rfl) (pv 2) (fun _ _ => rfl))))))), ?_⟩
  refine ⟨_, rfl, _, rfl, F, C, p.dx, _, _, rfl, a.hF, T.cl, T.n_given, rfl, p.ga, _, rfl, dget_of a.hg (a.gv k hk), ?_⟩
  unfold srcs at q
  by_cases c : k ∈ doorsOf "in" hs
  · rw [if_pos c] at q ⊢
    refine ⟨_, rfl, if_bl (fun _ => ?_) (fun z => by cases z)⟩
    refine ⟨_, rfl, F, C, p.dx, _, _, rfl, a.hF, T.cl, T.n_given, rfl, _, rfl, p.ga, .ref (p.A (1, k)), rfl, dget_of a.hg (by rw [a.gv k hk, if_pos c]), (by show 1 ≤ sizeLine; decide), fun D nD => ?_⟩
    exact q D _ nD upd_same (same_new nD)
  · rw [if_neg c] at q ⊢
    refine ⟨_, rfl, if_bl (fun z => by cases z) (fun _ => ?_)⟩
    obtain ⟨t, et, ht, _⟩ := nl_get a.alc hk
    refine ⟨_, rfl, F, C, p.dx, _, _, rfl, a.hF, T.cl, T.n_coming, rfl, _, rfl, p.ca, _, _, _, rfl, rfl, SqL.of a.hc, atI_nat et, t, rfl, ⟨_, SqL.of ht⟩, fun D nD => lc_list (K := K) (a := t) (xs := (comingN bs k).map nV) (fun i H5 => H5 D = some (.lst ((((comingN bs k).take i).map fun j => ((0, j) : Sl)).map fun s => V.ref (p.A s))) ∧ Same H H5) ⟨upd_same, same_new nD⟩ (fun i H5 _ ⟨_, s5⟩ => SqL.of (s5 _ _ ht)) ?_ ?_⟩
    · rintro i x H5 hx ⟨hD, s5⟩
      rw [List.getElem?_map] at hx
      cases ej : (comingN bs k)[i]? with
      | none => rw [ej] at hx; cases hx
      | some j =>
      rw [ej] at hx
      obtain rfl : nV j = x := Option.some.inj hx
      have jl := coming_lt (List.mem_of_getElem? ej)
      have lc := filt_len (p := fun i => decide (bs[i]?.map BR.to = some k)) bs.length
      have lc : (comingN bs k).length ≤ bs.length := lc
      refine ⟨rfl, yes_in ⟨_, rfl, F, C, p.dx, _, _, rfl, s5 _ _ a.hF, T.cl, T.n_lying, rfl, _, rfl, p.la, _, _, _, rfl, rfl, SqL.of (s5 _ _ a.hl), rg_ref jl, _, hD, by rw [List.length_map, List.length_map, List.length_take]; exact small1000 (by omega), ?_, Same.own s5 nD⟩⟩
      rw [upd_same, List.take_add_one, ej, List.map_append, List.map_append]
      rfl
    · rintro H5 ⟨hD, s5⟩
      rw [List.length_map, List.take_length] at hD
      exact q D H5 nD hD s5
def sp_Floor_can_work (K : PySem.W.Frag) (C : Addr) : Sp := fun vs H Q _ => ∃ (F : Addr) (hs : List HR) (bs : List BR) (cn : Sl → List Int) (tg : Addr → Option Sl) (p : Fp) (k : Nat), vs = [.ref F, nV k] ∧ FlB C H F hs bs cn tg p ∧ k < hs.length ∧ bs.length ≤ 20 ∧
  ∀ H', Same H H' → Q (.bl (rdy hs bs cn k)) H'
theorem ok_Floor_can_work {f : Addr} {fd : FuncData} (F : Fun K "can_work" "Floor.can_work" s_Floor_can_work f fd) {C : Addr} (T : Top K mg C) : FnOk P w K mg base CX0 2 f fd ["self", "hand"] (sp_Floor_can_work K C) := by
  obtain ⟨f_Floor_sources, fd_Floor_sources, F_Floor_sources, b_Floor_sources, m_Floor_sources⟩ := T.d_Floor_sources
  have G_Floor_sources := ok_Floor_sources (P := P) (w := w) (base := base) F_Floor_sources T
  refine F.ok sc_Floor_can_work (fun vs H Q E h => ?_) (fun cdv A outer s H vs Q E hr h => ?_)
  · obtain ⟨F, hs, bs, cn, tg, p, k, rfl, _⟩ := h
    rfl
  obtain ⟨F, hs, bs, cn, tg, p, k, rfl, a, hk, lb, q⟩ := h
  have ls := srcs_len (hs := hs) (bs := bs) (k := k) lb
  refine ⟨_, (pss_one (ps_ret (pe_callB (cr_allK K rfl rfl) (by rfl) T.m_all (by decide +kernel) (pa_cons (pe_lc (own := [("things", 2)]) (g := gName 2) (tt := tYes) (by rfl) sc_Floor_can_work.nd (pi_listK K rfl (pe_meth (pv 0) T.cl m_Floor_sources G_Floor_sources (hr.mono (by decide)) b_Floor_sources .nil pass0 (pa_cons (pv 1) pa_nil))) (blkOk_by (own := [("things", 2)]) (N := N_Floor_can_work) (sc := defScope s_Floor_can_work) (by decide +kernel)) (fun _ _ _ _ _ => (pg_name (i := 2) sc_Floor_can_work.nd rfl (Or.inl rfl))) (fun _ _ _ _ _ => pts_nil) (fun _ _ _ _ _ => (pe_cmpR op_gt (pe_callB (call_len_seqK K rfl) (by rfl) T.m_len (by decide +kernel) (pa_cons (pv 2) pa_nil)) pe_int (nomark _)))) pa_nil)))), ?_⟩
  refine ⟨_, rfl, F, p.dx, _, rfl, a.hF, rfl, _, rfl, F, hs, bs, cn, tg, p, k, rfl, a, hk, lb, fun S H1 nS hS s1 => ⟨S, rfl, ⟨_, SqL.of hS⟩, fun D nD => lc_list (K := K) (a := S) (xs := (srcs hs bs k).map fun s => V.ref (p.A s)) (fun i H5 => H5 D = some (.lst ((((srcs hs bs k).take i).map fun s => decide ((((cn s).length : Nat) : Int) > 0)).map V.bl)) ∧ Same H1 H5) ⟨upd_same, same_new nD⟩ (fun i H5 _ ⟨_, s5⟩ => SqL.of (s5 _ _ hS)) ?_ ?_⟩⟩
  · rintro i x H5 hx ⟨hD, s5⟩
    rw [List.getElem?_map] at hx
    cases es : (srcs hs bs k)[i]? with
    | none => rw [es] at hx; cases hx
    | some s =>
    rw [es] at hx
    obtain rfl : V.ref (p.A s) = x := Option.some.inj hx
    obtain ⟨h1, _⟩ := a.sl s (srcs_vs s (List.mem_of_getElem? es))
    refine ⟨rfl, yes_in ⟨_, rfl, p.A s, _, rfl, .inl (SqL.of (s5 _ _ (s1 _ _ h1))), _, _, rfl, rfl, _, hD, by rw [List.length_map, List.length_map, List.length_take]; exact small1000 (by omega), ?_, Same.own s5 nD⟩⟩
    rw [upd_same, List.take_add_one, es, List.map_append, List.map_append, List.length_map]
    rfl
  · rintro H5 ⟨hD, s5⟩
    rw [List.length_map, List.take_length] at hD
    refine ⟨D, _, rfl, SqL.of hD, ?_⟩
    rw [List.all_map]
    exact q H5 (s1.trans s5)
def sp_Floor_ready (K : PySem.W.Frag) (C : Addr) : Sp := fun vs H Q _ => ∃ (F : Addr) (hs : List HR) (bs : List BR) (cn : Sl → List Int) (tg : Addr → Option Sl), vs = [.ref F] ∧ FlAt C H F hs bs cn tg ∧ hs.length ≤ 12 ∧ bs.length ≤ 20 ∧
  ∀ (D : Addr) (H' : Hp), H D = none → H' D = some (.lst (((List.range hs.length).filter (rdy hs bs cn)).map nV)) → Same H H' → Q (.ref D) H'
theorem ok_Floor_ready {f : Addr} {fd : FuncData} (F : Fun K "ready" "Floor.ready" s_Floor_ready f fd) {C : Addr} (T : Top K mg C) : FnOk P w K mg base CX0 3 f fd ["self"] (sp_Floor_ready K C) := by
  obtain ⟨f_Floor_can_work, fd_Floor_can_work, F_Floor_can_work, b_Floor_can_work, m_Floor_can_work⟩ := T.d_Floor_can_work
  have G_Floor_can_work := ok_Floor_can_work (P := P) (w := w) (base := base) F_Floor_can_work T
  refine F.ok sc_Floor_ready (fun vs H Q E h => ?_) (fun cdv A outer s H vs Q E hr h => ?_)
  · obtain ⟨F, hs, bs, cn, tg, rfl, _⟩ := h
    rfl
  obtain ⟨F, hs, bs, cn, tg, rfl, a, lh, lb, q⟩ := h
  obtain ⟨p, a⟩ := a.b
  have lr := a.alr.length
  refine ⟨_, (pss_one (ps_ret (pe_lc (own := [("hand", 1)]) (g := gName 1) (by rfl) sc_Floor_ready.nd (pi_range1 (by rfl) T.m_range (pa_cons (pe_callB (call_len_seqK K rfl) (by rfl) T.m_len (by decide +kernel) (pa_cons (pe_fldK K rfl (pv 0) rfl) pa_nil)) pa_nil)) (blkOk_by (own := [("hand", 1)]) (N := N_Floor_ready) (sc := defScope s_Floor_ready) (by decide +kernel)) (fun _ _ _ _ _ => (pg_name (i := 1) sc_Floor_ready.nd rfl (Or.inl rfl))) (fun _ _ _ _ _ => pts_one (pt_val (pe_meth (pv 0) T.cl m_Floor_can_work G_Floor_can_work (hr.mono (by decide)) b_Floor_can_work .nil pass0 (pa_cons (pv 1) pa_nil)))) (fun _ _ _ _ _ => (pv 1))))), ?_⟩
  refine ⟨_, rfl, F, C, p.dx, _, _, rfl, a.hF, T.cl, T.n_rules, rfl, p.ra, _, rfl, .inl (SqL.of a.hr), _, rfl, by omega, by omega, fun D nD => lc_range (lo := 0) (n := p.rv.length) (fun i H5 => H5 D = some (.lst (((List.range i).filter (rdy hs bs cn)).map nV)) ∧ Same H H5) ⟨upd_same, same_new nD⟩ ?_ ?_⟩
  · rintro i H5 hi ⟨hD, s5⟩
    have few := filt_len (p := rdy hs bs cn) i
    refine ⟨rfl, _, rfl, F, p.dx, _, rfl, s5 _ _ a.hF, rfl, _, rfl, F, hs, bs, cn, tg, p, i, by rw [Int.zero_add]; rfl, a.kp (Kp.same s5), by omega, lb, fun H6 s6 => ⟨_, rfl, if_bl (fun z => ?_) (fun z => ?_)⟩⟩
    · refine ⟨_, rfl, _, s6 _ _ hD, by rw [List.length_map]; exact small1000 (by omega), ?_, Same.own (s5.trans s6) nD⟩
      rw [upd_same, filt_succ, if_pos z, List.map_append, Int.zero_add]
      rfl
    · refine ⟨?_, s5.trans s6⟩
      rw [filt_succ, if_neg (by rw [z]; exact Bool.false_ne_true), List.append_nil]
      exact s6 _ _ hD
  · rintro H5 ⟨hD, s5⟩
    rw [lr] at hD
    exact q D H5 nD hD s5
def sp_Floor_made (K : PySem.W.Frag) (C : Addr) : Sp := fun vs H Q _ => ∃ (F : Addr) (hs : List HR) (bs : List BR) (cn : Sl → List Int) (tg : Addr → Option Sl) (k : Nat), vs = [.ref F, nV k] ∧ FlAt C H F hs bs cn tg ∧ k < hs.length ∧
  ∀ (D : Addr) (H' : Hp), H D = none → H' D = some (.lst ((cn (2, k)).map V.int)) → Same H H' → Q (.ref D) H'
theorem ok_Floor_made {f : Addr} {fd : FuncData} (F : Fun K "made" "Floor.made" s_Floor_made f fd) {C : Addr} (T : Top K mg C) : FnOk P w K mg base CX0 1 f fd ["self", "hand"] (sp_Floor_made K C) := by
  refine F.ok sc_Floor_made (fun vs H Q E h => ?_) (fun cdv A outer s H vs Q E hr h => ?_)
  · obtain ⟨F, hs, bs, cn, tg, k, rfl, _⟩ := h
    rfl
  obtain ⟨F, hs, bs, cn, tg, k, rfl, a, hk, q⟩ := h
  obtain ⟨p, a⟩ := a.b
  obtain ⟨h1, _⟩ := a.sl (2, k) (.inr (.inr ⟨rfl, hk⟩))
  refine ⟨_, (pss_one (ps_ret (pe_callTy (call_list_ofK K rfl) (by rfl) T.m_list (by decide +kernel) (pa_cons (pe_ix (ix_listK K rfl) (pe_fldK K rfl (pv 0) rfl) (pv 1) (fun _ _ => rfl)) pa_nil)))), ?_⟩
  refine ⟨_, rfl, F, C, p.dx, _, _, rfl, a.hF, T.cl, T.n_done, rfl, _, rfl, p.da, _, _, _, rfl, rfl, SqL.of a.hd, rg_ref hk, p.A (2, k), _, rfl, .inl (SqL.of h1), fun D nD => ?_⟩
  exact q D _ nD upd_same (same_new nD)
def sp_Floor_give (K : PySem.W.Frag) (C : Addr) : Sp := fun vs H Q _ => ∃ (F : Addr) (hs : List HR) (bs : List BR) (cn : Sl → List Int) (tg : Addr → Option Sl) (k : Nat) (z : Int), vs = [.ref F, nV k, .int z] ∧ FlAt C H F hs bs cn tg ∧ k < hs.length ∧ k ∈ doorsOf "in" hs ∧ (cn (1, k)).length ≤ 900 ∧
  ∀ H', FlAt C H' F hs bs (putS cn (1, k) (cn (1, k) ++ [z])) tg → Bt tg H H' → Q .non H'
theorem ok_Floor_give {f : Addr} {fd : FuncData} (F : Fun K "give" "Floor.give" s_Floor_give f fd) {C : Addr} (T : Top K mg C) : FnOk P w K mg base CX0 1 f fd ["self", "hand", "thing"] (sp_Floor_give K C) := by
  refine F.ok sc_Floor_give (fun vs H Q E h => ?_) (fun cdv A outer s H vs Q E hr h => ?_)
  · obtain ⟨F, hs, bs, cn, tg, k, z, rfl, _⟩ := h
    rfl
  obtain ⟨F, hs, bs, cn, tg, k, z, rfl, a, hk, kd, lz, q⟩ := h
  obtain ⟨p, a⟩ := a.b
  have v1 : VS hs bs (1, k) := .inr (.inl ⟨rfl, kd⟩)
  obtain ⟨h1, _⟩ := a.sl (1, k) v1
  obtain ⟨a2, b2⟩ := a.put v1 (cn (1, k) ++ [z])
  refine ⟨_, (pss_one (ps_expr (pe_bmK K rfl PySem.F.plainAttrs_list PySem.F.slot_list_append PySem.F.type_list_append mt_append (pe_dget (hu_of hr) (pe_fldK K rfl (pv 0) rfl) (pv 1) (fun _ _ => rfl)) (pa_cons (pv 2) pa_nil)))), ?_⟩
  refine ⟨_, rfl, F, C, p.dx, _, _, rfl, a.hF, T.cl, T.n_given, rfl, _, rfl, p.ga, .ref (p.A (1, k)), rfl, dget_of a.hg (by rw [a.gv k hk, if_pos kd]), .inl ⟨rfl, _, SqL.of h1⟩, _, rfl, p.A (1, k), _, _, rfl, rfl, h1, by rw [List.length_map]; exact small1000 (by omega), ?_⟩
  have := q _ a2.at_ b2
  rw [List.map_append] at this
  exact this
end
theorem nd_at {α : Type} {l : List α} (nd : l.Nodup) {i j : Nat} {a : α} (h1 : l[i]? = some a) (h2 : l[j]? = some a) : i = j := by
  have i1 := (List.getElem?_eq_some_iff.mp h1)
  have i2 := (List.getElem?_eq_some_iff.mp h2)
  obtain ⟨l1, e1⟩ := i1
  obtain ⟨l2, e2⟩ := i2
  exact (List.getElem_inj nd).mp (e1.trans e2.symm)
/-- what a hand makes of what it then takes -/
def wkV (hs : List HR) (bs : List BR) (cn : Sl → List Int) (k : Nat) : Int := if k ∈ doorsOf "in" hs then (cn (1, k)).getD 0 0 else match hs[k]? with
  | some h => mkR h ((comingN bs k).map fun j => (cn (0, j)).getD 0 0)
  | none => 0
def popC (hs : List HR) (bs : List BR) (cn : Sl → List Int) (k i : Nat) : Sl → List Int := fun s => if s ∈ (srcs hs bs k).take i then (cn s).tail else cn s
def putC (bs : List BR) (cn : Sl → List Int) (k : Nat) (z : Int) (i : Nat) : Sl → List Int := fun s => if s ∈ ((goingN bs k).take i).map (fun j => ((0, j) : Sl)) then cn s ++ [z] else cn s
/-- the lists behind its work -/
def wkC (hs : List HR) (bs : List BR) (cn : Sl → List Int) (k : Nat) : Sl → List Int := putS (putC bs (popC hs bs cn k (srcs hs bs k).length) k (wkV hs bs cn k) (goingN bs k).length) (2, k) (cn (2, k) ++ [wkV hs bs cn k])
theorem take_new {α : Type} [DecidableEq α] {l : List α} (nd : l.Nodup) {i : Nat} {x : α} (e : l[i]? = some x) : x ∉ l.take i ∧ ∀ y, y ∈ l.take (i + 1) ↔ y = x ∨ y ∈ l.take i := by
  have il := (List.getElem?_eq_some_iff.mp e).1
  have ex := (List.getElem?_eq_some_iff.mp e).2
  refine ⟨fun h => ?_, fun y => ?_⟩
  · obtain ⟨j, hj⟩ := List.getElem?_of_mem h
    have jl := (List.getElem?_eq_some_iff.mp hj).1
    rw [List.length_take] at jl
    rw [List.getElem?_take_of_lt (by omega)] at hj
    have := nd_at nd e hj
    omega
  · rw [List.take_add_one, e]
    constructor
    · intro h
      rcases List.mem_append.mp h with h | h
      · exact .inr h
      · exact .inl (List.mem_singleton.mp h)
    · rintro (h | h)
      · exact List.mem_append_right _ (List.mem_singleton.mpr h)
      · exact List.mem_append_left _ h
theorem popC_next {hs : List HR} {bs : List BR} {cn : Sl → List Int} {k i : Nat} {s : Sl} (e : (srcs hs bs k)[i]? = some s) : popC hs bs cn k i s = cn s ∧ putS (popC hs bs cn k i) s (cn s).tail = popC hs bs cn k (i + 1) := by
  obtain ⟨n, m⟩ := take_new srcs_nd e
  refine ⟨if_neg n, funext fun y => ?_⟩
  show (if y = s then (cn s).tail else if y ∈ (srcs hs bs k).take i then (cn y).tail else cn y) = if y ∈ (srcs hs bs k).take (i + 1) then (cn y).tail else cn y
  by_cases a : y = s
  · rw [if_pos a, if_pos ((m y).mpr (.inl a)), a]
  · rw [if_neg a]
    by_cases b : y ∈ (srcs hs bs k).take i
    · rw [if_pos b, if_pos ((m y).mpr (.inr b))]
    · rw [if_neg b, if_neg fun z => ((m y).mp z).elim a b]
theorem going_nd {bs : List BR} {k : Nat} : (goingN bs k).Nodup := List.nodup_range.filter _
theorem putC_next {bs : List BR} {cn : Sl → List Int} {k i j : Nat} {z : Int} (e : (goingN bs k)[i]? = some j) : putC bs cn k z i (0, j) = cn (0, j) ∧ putS (putC bs cn k z i) (0, j) (cn (0, j) ++ [z]) = putC bs cn k z (i + 1) := by
  obtain ⟨n, m⟩ := take_new going_nd e
  have mm : ∀ {i : Nat} {y : Sl}, y ∈ ((goingN bs k).take i).map (fun j => ((0, j) : Sl)) ↔ ∃ x ∈ (goingN bs k).take i, ((0, x) : Sl) = y := List.mem_map
  refine ⟨if_neg fun h => ?_, funext fun y => ?_⟩
  · obtain ⟨x, hx, ex⟩ := mm.mp h
    have := congrArg Prod.snd ex
    simp only at this
    rw [this] at hx
    exact n hx
  show (if y = (0, j) then cn (0, j) ++ [z] else if y ∈ ((goingN bs k).take i).map (fun j => ((0, j) : Sl)) then cn y ++ [z] else cn y) = if y ∈ ((goingN bs k).take (i + 1)).map (fun j => ((0, j) : Sl)) then cn y ++ [z] else cn y
  by_cases a : y = (0, j)
  · rw [if_pos a, if_pos (mm.mpr ⟨j, (m j).mpr (.inl rfl), a.symm⟩), a]
  · rw [if_neg a]
    by_cases b : y ∈ ((goingN bs k).take i).map (fun j => ((0, j) : Sl))
    · obtain ⟨x, hx, ex⟩ := mm.mp b
      rw [if_pos b, if_pos (mm.mpr ⟨x, (m x).mpr (.inr hx), ex⟩)]
    · rw [if_neg b, if_neg fun h => ?_]
      obtain ⟨x, hx, ex⟩ := mm.mp h
      rcases (m x).mp hx with w | w
      · exact a (by rw [← ex, w])
      · exact b (mm.mpr ⟨x, w, ex⟩)
theorem going_len {bs : List BR} {k : Nat} : (goingN bs k).length ≤ bs.length := filt_len _
theorem coming_need {hs : List HR} {bs : List BR} {k : Nat} {h : HR} (ok : RoomOk hs bs) (e : hs[k]? = some h) : (((comingN bs k).length : Nat) : Int) = needs h.wd := by
  rw [← ok.count k h e, ← takes_len (f := fun _ => 0), ← coming_takes, List.length_map]
section
variable {P : Program} {w : World} {K : PySem.W.Frag} {mg : Str → Option Value} {base : Heap}
def sp_Floor_work (K : PySem.W.Frag) (C : Addr) : Sp := fun vs H Q _ => ∃ (F : Addr) (hs : List HR) (bs : List BR) (cn : Sl → List Int) (tg : Addr → Option Sl) (k : Nat), vs = [.ref F, nV k] ∧ FlAt C H F hs bs cn tg ∧ RoomOk hs bs ∧ k < hs.length ∧ rdy hs bs cn k = true ∧ (∀ s, VS hs bs s → (cn s).length ≤ 900) ∧
  ∀ H', FlAt C H' F hs bs (wkC hs bs cn k) tg → Bt tg H H' → Q (.int (wkV hs bs cn k)) H'
theorem ok_Floor_work {f : Addr} {fd : FuncData} (F : Fun K "work" "Floor.work" s_Floor_work f fd) {C : Addr} (T : Top K mg C) : FnOk P w K mg base CX0 3 f fd ["self", "hand"] (sp_Floor_work K C) := by
  obtain ⟨f_Floor_sources, fd_Floor_sources, F_Floor_sources, b_Floor_sources, m_Floor_sources⟩ := T.d_Floor_sources
  have G_Floor_sources := ok_Floor_sources (P := P) (w := w) (base := base) F_Floor_sources T
  obtain ⟨f_Floor_can_work, fd_Floor_can_work, F_Floor_can_work, b_Floor_can_work, m_Floor_can_work⟩ := T.d_Floor_can_work
  have G_Floor_can_work := ok_Floor_can_work (P := P) (w := w) (base := base) F_Floor_can_work T
  obtain ⟨f_made_by, fd_made_by, F_made_by, b_made_by, m_made_by⟩ := T.d_made_by
  have G_made_by := ok_made_by (P := P) (w := w) (base := base) F_made_by T
  refine F.ok sc_Floor_work (fun vs H Q E h => ?_) (fun cdv A outer s H vs Q E hr h => ?_)
  · obtain ⟨F, hs, bs, cn, tg, k, rfl, _⟩ := h
    rfl
  obtain ⟨F, hs, bs, cn, tg, k, rfl, a, ok, hk, rd, len, q⟩ := h
  obtain ⟨p, a⟩ := a.b
  have lb := ok.many
  have ls := srcs_len (hs := hs) (bs := bs) (k := k) lb
  have some1 : ∀ s ∈ srcs hs bs k, ∃ x r, cn s = x :: r := fun s hs' => by
    have := of_decide_eq_true (List.all_eq_true.mp rd s hs')
    cases e : cn s with
    | nil => rw [e] at this; exact absurd this (by show ¬ ((0 : Nat) : Int) > 0; omega)
    | cons x r => exact ⟨x, r, rfl⟩
  let hd : List Int := (srcs hs bs k).map fun s => (cn s).getD 0 0
  let R1 : TS := fun D' σ' H' => D'.rt = Q ∧ ∃ (t : Addr) (v3 : Option V), σ' = [some (.ref F), some (nV k), some (.ref t), v3, none, none] ∧ FlB C H' F hs bs cn tg p ∧ H' t = some (.tup (hd.map V.int)) ∧ Bt tg H H'
  let R2 : TS := fun D' σ' H' => D'.rt = Q ∧ ∃ (t : Addr) (v3 : Option V), σ' = [some (.ref F), some (nV k), some (.ref t), v3, none, none] ∧ FlB C H' F hs bs (popC hs bs cn k (srcs hs bs k).length) tg p ∧ H' t = some (.tup (hd.map V.int)) ∧ Bt tg H H'
  let R3 : TS := fun D' σ' H' => D'.rt = Q ∧ ∃ (t : Addr) (v3 : Option V), σ' = [some (.ref F), some (nV k), some (.ref t), v3, some (.int (wkV hs bs cn k)), none] ∧ FlB C H' F hs bs (popC hs bs cn k (srcs hs bs k).length) tg p ∧ Bt tg H H'
  let R4 : TS := fun D' σ' H' => D'.rt = Q ∧ ∃ (t : Addr) (v3 v5 : Option V), σ' = [some (.ref F), some (nV k), some (.ref t), v3, some (.int (wkV hs bs cn k)), v5] ∧ FlB C H' F hs bs (putC bs (popC hs bs cn k (srcs hs bs k).length) k (wkV hs bs cn k) (goingN bs k).length) tg p ∧ Bt tg H H'
  refine ⟨_, (pss_cons (ps_if (pt_not (pt_val (pe_meth (pv 0) T.cl m_Floor_can_work G_Floor_can_work (hr.mono (by decide)) b_Floor_can_work .nil pass0 (pa_cons (pv 1) pa_nil)))) (pss_one ps_dead) pss_nil)
      (pss_cons (ps_set (i := 2) sc_Floor_work.nd rfl (Or.inl rfl) (pe_callTy (call_tuple_ofK K rfl) (by rfl) T.m_tuple (by decide +kernel) (pa_cons (pe_lc (own := [("things", 3)]) (g := gName 3) (tt := tYes) (by rfl) sc_Floor_work.nd (pi_listK K rfl (pe_meth (pv 0) T.cl m_Floor_sources G_Floor_sources (hr.mono (by decide)) b_Floor_sources .nil pass0 (pa_cons (pv 1) pa_nil))) (blkOk_by (own := [("things", 3)]) (N := N_Floor_work) (sc := defScope s_Floor_work) (by decide +kernel)) (fun _ _ _ _ _ => (pg_name (i := 3) sc_Floor_work.nd rfl (Or.inl rfl))) (fun _ _ _ _ _ => pts_nil) (fun _ _ _ _ _ => (pe_ix (ix_listK K rfl) (pv 3) pe_int (fun _ _ => rfl)))) pa_nil)))
      (PSs.to (pss_cons (ps_for PassesOwn.never rfl (pi_listK K rfl (pe_meth (pv 0) T.cl m_Floor_sources G_Floor_sources (hr.mono (by decide)) b_Floor_sources .nil pass0 (pa_cons (pv 1) pa_nil))) (pg_name (i := 3) sc_Floor_work.nd rfl (Or.inl rfl))
        (pss_one (ps_expr (pe_bmK K rfl PySem.F.plainAttrs_list PySem.F.slot_list_pop PySem.F.type_list_pop mt_popAt (pv 3) (pa_cons pe_int pa_nil)))))
      (PSs.to (pss_cons (ps_set (i := 4) sc_Floor_work.nd rfl (Or.inl rfl) (pe_ifExp (pt_cmp (pc_din (hu_of hr) (pv 1) (pe_fldK K rfl (pv 0) rfl)) (by with_unfolding_all rfl)) (pe_ix (ix_tupK K rfl) (pv 2) pe_int (fun _ _ => rfl)) (pe_call G_made_by (hr.mono (by decide)) (by rfl) m_made_by F_made_by.kp b_made_by .nil pass0 (pa_cons (pe_ix (ix_listK K rfl) (pe_fldK K rfl (pv 0) rfl) (pv 1) (fun _ _ => rfl)) (pa_cons (pv 2) pa_nil)))))
      (PSs.to (pss_cons (ps_for PassesOwn.never rfl (pi_listK K rfl (pe_ix (ix_listK K rfl) (pe_fldK K rfl (pv 0) rfl) (pv 1) (fun _ _ => rfl))) (pg_name (i := 5) sc_Floor_work.nd rfl (Or.inl rfl))
        (pss_one (ps_expr (pe_bmK K rfl PySem.F.plainAttrs_list PySem.F.slot_list_append PySem.F.type_list_append mt_append (pe_ix (ix_listK K rfl) (pe_fldK K rfl (pv 0) rfl) (pv 5) (fun _ _ => rfl)) (pa_cons (pv 4) pa_nil)))))
      (PSs.to (pss_cons (ps_expr (pe_bmK K rfl PySem.F.plainAttrs_list PySem.F.slot_list_append PySem.F.type_list_append mt_append (pe_ix (ix_listK K rfl) (pe_fldK K rfl (pv 0) rfl) (pv 1) (fun _ _ => rfl)) (pa_cons (pv 4) pa_nil)))
      (pss_one (ps_ret (pv 4)))) R4 ?tail4)) R3 ?tail3)) R2 ?tail2)) R1 ?tail1))), ?_⟩
  case tail1 =>
    rintro D' σ' H1 ⟨eD, t, v3, rfl, a1, ht, b1⟩
    refine ⟨_, rfl, F, p.dx, _, rfl, a1.hF, rfl, _, rfl, F, hs, bs, cn, tg, p, k, rfl, a1, hk, lb, fun S H2 nS hS s2 => ?_⟩
    have tS : tg S = none := a1.own.free nS
    refine ⟨S, rfl, ⟨_, SqL.of hS⟩, for_list (K := K) (a := S) (xs := (srcs hs bs k).map fun s => V.ref (p.A s)) (fun i σ H5 => ∃ v3 : Option V, σ = [some (.ref F), some (nV k), some (.ref t), v3, none, none] ∧ FlB C H5 F hs bs (popC hs bs cn k i) tg p ∧ H5 S = some (.lst ((srcs hs bs k).map fun s => V.ref (p.A s))) ∧ H5 t = some (.tup (hd.map V.int)) ∧ Bt tg H H5) ⟨v3, rfl, ?_, hS, s2 _ _ ht, b1.same s2⟩ (fun i σ H5 _ ⟨_, _, _, h, _⟩ => SqL.of h) ?_ ?_⟩
    · have e0 : popC hs bs cn k 0 = cn := funext fun s => if_neg (by rw [List.take_zero]; exact fun z => nomatch z)
      rw [e0]
      exact a1.kp (Kp.same s2)
    · rintro i x σ H5 hx ⟨v3, rfl, a5, hS5, ht5, b5⟩
      rw [List.getElem?_map] at hx
      cases es : (srcs hs bs k)[i]? with
      | none => rw [es] at hx; cases hx
      | some s =>
      rw [es] at hx
      obtain rfl : V.ref (p.A s) = x := Option.some.inj hx
      have sm := List.mem_of_getElem? es
      have vs := srcs_vs s sm
      obtain ⟨e1, e2⟩ := popC_next (cn := cn) es
      obtain ⟨h1, t1⟩ := a5.sl s vs
      obtain ⟨x0, r0, e0⟩ := some1 s sm
      rw [e1, e0] at h1
      obtain ⟨a6, b6⟩ := a5.put vs (cn s).tail
      rw [e2, e0] at a6
      rw [e0] at b6
      refine ⟨_, rfl, .inl ⟨rfl, _, SqL.of h1⟩, p.A s, _, 0, 0, .int x0, rfl, rfl, h1, by decide, by decide, ?_, rfl, ?_⟩
      · rw [seqIndex_of (by decide) (by show (0 : Int) < (((V.int x0 :: r0.map V.int).length : Nat) : Int); rw [List.length_cons]; omega)]
        rfl
      exact ⟨_, rfl, a6, b6 _ _ hS5 tS, b6 _ _ ht5 (a5.own.tup ht5 fun _ z => nomatch z), b5.trans b6⟩
    · rintro σ H5 ⟨v3, rfl, a5, hS5, ht5, b5⟩
      rw [List.length_map] at a5
      exact ⟨eD, t, v3, rfl, a5, ht5, b5⟩
  case tail2 =>
    rintro D' σ' H1 ⟨eD, t, v3, rfl, a1, ht, b1⟩
    refine ⟨_, rfl, _, rfl, F, C, p.dx, _, _, rfl, a1.hF, T.cl, T.n_given, rfl, p.ga, _, rfl, dget_of a1.hg (a1.gv k hk), ?_⟩
    by_cases c : k ∈ doorsOf "in" hs
    · rw [if_pos c]
      refine ⟨_, rfl, if_bl (fun _ => ?_) (fun z => by cases z)⟩
      have ehd : hd = [(cn (1, k)).getD 0 0] := by
        show (srcs hs bs k).map _ = _
        unfold srcs
        rw [if_pos c]
        rfl
      have ev : wkV hs bs cn k = (cn (1, k)).getD 0 0 := if_pos c
      rw [ehd] at ht
      refine ⟨_, rfl, t, _, _, _, rfl, rfl, SqT.of ht, atI_nat (j := 0) rfl, ?_⟩
      exact ⟨eD, t, v3, by rw [ev]; rfl, a1, b1⟩
    · rw [if_neg c]
      refine ⟨_, rfl, if_bl (fun z => by cases z) (fun _ => ?_)⟩
      have eh : hs[k]? = some hs[k] := List.getElem?_eq_getElem hk
      have ehd : hd = (comingN bs k).map fun j => (cn (0, j)).getD 0 0 := by
        show (srcs hs bs k).map _ = _
        unfold srcs
        rw [if_neg c, List.map_map]
        rfl
      have ev : wkV hs bs cn k = mkR hs[k] ((comingN bs k).map fun j => (cn (0, j)).getD 0 0) := by
        unfold wkV
        rw [if_neg c, eh]
      have wn : hs[k].wd ≠ "in" := fun z => c (mem_doors.mpr ⟨_, eh, z⟩)
      rw [ehd] at ht
      obtain ⟨x, ex, tr, rfl, hrl⟩ := a1.alr.get eh
      have A := args_of (xs := (comingN bs k).map fun j => (cn (0, j)).getD 0 0) (ok.good _ (List.mem_of_getElem? eh)) wn (by rw [List.length_map]; exact coming_need ok eh)
      refine ⟨_, rfl, F, C, p.dx, _, _, rfl, a1.hF, T.cl, T.n_rules, rfl, _, rfl, p.ra, _, _, _, rfl, rfl, SqL.of a1.hr, atI_nat ex, _, rfl, tr, t, _, _, hs[k].wd, _, _, _, _, rfl, SqT.of hrl, SqT.of ht, A.r0, A.r1, A.t0, A.t1, A.t2, A.big, fun H2 s2 => ?_⟩
      exact ⟨eD, t, v3, by rw [ev]; rfl, a1.kp (Kp.same s2), b1.same s2⟩
  case tail3 =>
    rintro D' σ' H1 ⟨eD, t, v3, rfl, a1, b1⟩
    obtain ⟨l, el, hl, tl⟩ := nl_get a1.alo hk
    refine ⟨_, rfl, F, C, p.dx, _, _, rfl, a1.hF, T.cl, T.n_going, rfl, _, rfl, p.oa, _, _, _, rfl, rfl, SqL.of a1.ho, atI_nat el, l, rfl, ⟨_, SqL.of hl⟩, for_list (K := K) (a := l) (xs := (goingN bs k).map nV) (fun i σ H5 => ∃ v5 : Option V, σ = [some (.ref F), some (nV k), some (.ref t), v3, some (.int (wkV hs bs cn k)), v5] ∧ FlB C H5 F hs bs (putC bs (popC hs bs cn k (srcs hs bs k).length) k (wkV hs bs cn k) i) tg p ∧ H5 l = some (.lst ((goingN bs k).map nV)) ∧ Bt tg H H5) ⟨none, rfl, ?_, hl, b1⟩ (fun i σ H5 _ ⟨_, _, _, h, _⟩ => SqL.of h) ?_ ?_⟩
    · have e0 : putC bs (popC hs bs cn k (srcs hs bs k).length) k (wkV hs bs cn k) 0 = popC hs bs cn k (srcs hs bs k).length := funext fun s => if_neg (by rw [List.take_zero]; exact fun z => nomatch z)
      rw [e0]
      exact a1
    · rintro i x σ H5 hx ⟨v5, rfl, a5, hl5, b5⟩
      rw [List.getElem?_map] at hx
      cases ej : (goingN bs k)[i]? with
      | none => rw [ej] at hx; cases hx
      | some j =>
      rw [ej] at hx
      obtain rfl : nV j = x := Option.some.inj hx
      have jl := going_lt (List.mem_of_getElem? ej)
      have vs : VS hs bs (0, j) := .inl ⟨rfl, jl⟩
      obtain ⟨e1, e2⟩ := putC_next (cn := popC hs bs cn k (srcs hs bs k).length) (z := wkV hs bs cn k) ej
      obtain ⟨h1, t1⟩ := a5.sl (0, j) vs
      rw [e1] at h1
      obtain ⟨a6, b6⟩ := a5.put vs (popC hs bs cn k (srcs hs bs k).length (0, j) ++ [wkV hs bs cn k])
      rw [e2] at a6
      have ln : (popC hs bs cn k (srcs hs bs k).length (0, j)).length ≤ 900 := by
        unfold popC
        have := len (0, j) vs
        split
        · rw [List.length_tail]; omega
        · exact this
      refine ⟨_, rfl, F, C, p.dx, _, _, rfl, a5.hF, T.cl, T.n_lying, rfl, _, rfl, p.la, _, _, _, rfl, rfl, SqL.of a5.hl, rg_ref jl, .inl ⟨rfl, _, SqL.of h1⟩, _, rfl, p.A (0, j), _, _, rfl, rfl, h1, by rw [List.length_map]; exact small1000 (by omega), ?_⟩
      rw [List.map_append] at a6 b6
      refine ⟨_, rfl, a6, ?_, b5.trans b6⟩
      rw [upd_ne fun z => ?_]
      · exact hl5
      · rw [z, t1] at tl
        exact absurd (show (0 : Nat) = 3 from congrArg Prod.fst (Option.some.inj tl)) (by decide)
    · rintro σ H5 ⟨v5, rfl, a5, hl5, b5⟩
      rw [List.length_map] at a5
      exact ⟨eD, t, v3, v5, rfl, a5, b5⟩
  case tail4 =>
    rintro D' σ' H1 ⟨eD, t, v3, v5, rfl, a1, b1⟩
    have vs : VS hs bs (2, k) := .inr (.inr ⟨rfl, hk⟩)
    obtain ⟨h1, t1⟩ := a1.sl (2, k) vs
    have e2 : putC bs (popC hs bs cn k (srcs hs bs k).length) k (wkV hs bs cn k) (goingN bs k).length (2, k) = cn (2, k) := by
      have n1 : ((2, k) : Sl) ∉ ((goingN bs k).take (goingN bs k).length).map (fun j => ((0, j) : Sl)) := fun z => by
        obtain ⟨x, _, e⟩ := List.mem_map.mp z
        exact absurd (show (0 : Nat) = 2 from congrArg Prod.fst e) (by decide)
      have n2 : ((2, k) : Sl) ∉ (srcs hs bs k).take (srcs hs bs k).length := fun z => by
        rw [List.take_length] at z
        unfold srcs at z
        split at z
        · exact absurd (show (2 : Nat) = 1 from congrArg Prod.fst (List.mem_singleton.mp z)) (by decide)
        · obtain ⟨x, _, e⟩ := List.mem_map.mp z
          exact absurd (show (0 : Nat) = 2 from congrArg Prod.fst e) (by decide)
      show (if _ then _ else _) = _
      rw [if_neg n1]
      show (if _ then _ else _) = _
      rw [if_neg n2]
    rw [e2] at h1
    obtain ⟨a6, b6⟩ := a1.put vs (cn (2, k) ++ [wkV hs bs cn k])
    have ln := len (2, k) vs
    refine ⟨_, rfl, F, C, p.dx, _, _, rfl, a1.hF, T.cl, T.n_done, rfl, _, rfl, p.da, _, _, _, rfl, rfl, SqL.of a1.hd, rg_ref hk, .inl ⟨rfl, _, SqL.of h1⟩, _, rfl, p.A (2, k), _, _, rfl, rfl, h1, by rw [List.length_map]; exact small1000 (by omega), ?_⟩
    refine ⟨_, rfl, ?_⟩
    rw [eD]
    rw [List.map_append] at a6 b6
    exact q _ a6.at_ (b1.trans b6)
  refine ⟨_, rfl, F, p.dx, _, rfl, a.hF, rfl, _, rfl, F, hs, bs, cn, tg, p, k, rfl, a, hk, lb, fun H1 s1 => ⟨_, rfl, ?_⟩⟩
  rw [rd]
  refine if_bl (fun z => nomatch z) (fun _ => ?_)
  have a1 := a.kp (Kp.same s1)
  refine ⟨_, rfl, F, p.dx, _, rfl, a1.hF, rfl, _, rfl, F, hs, bs, cn, tg, p, k, rfl, a1, hk, lb, fun S H2 nS hS s2 => ⟨S, rfl, ⟨_, SqL.of hS⟩, fun D nD => lc_list (K := K) (a := S) (xs := (srcs hs bs k).map fun s => V.ref (p.A s)) (fun i H5 => H5 D = some (.lst ((((srcs hs bs k).take i).map fun s => (cn s).getD 0 0).map V.int)) ∧ Same H2 H5) ⟨upd_same, same_new nD⟩ (fun i H5 _ ⟨_, s5⟩ => SqL.of (s5 _ _ hS)) ?_ ?_⟩⟩
  · rintro i x H5 hx ⟨hD, s5⟩
    rw [List.getElem?_map] at hx
    cases es : (srcs hs bs k)[i]? with
    | none => rw [es] at hx; cases hx
    | some s =>
    rw [es] at hx
    obtain rfl : V.ref (p.A s) = x := Option.some.inj hx
    have sm := List.mem_of_getElem? es
    obtain ⟨x0, r0, e0⟩ := some1 s sm
    obtain ⟨h1, _⟩ := a1.sl s (srcs_vs s sm)
    rw [e0] at h1
    refine ⟨rfl, yes_in ⟨_, rfl, p.A s, _, _, _, rfl, rfl, SqL.of (s5 _ _ (s2 _ _ h1)), atI_nat (j := 0) rfl, _, hD, by rw [List.length_map, List.length_map, List.length_take]; exact small1000 (by omega), ?_, Same.own s5 nD⟩⟩
    rw [upd_same, List.take_add_one, es, List.map_append, List.map_append]
    show _ = some (HO.lst (_ ++ [V.int ((cn s).getD 0 0)]))
    rw [e0]
    rfl
  · rintro H5 ⟨hD, s5⟩
    rw [List.length_map, List.take_length] at hD
    refine ⟨D, _, rfl, .inl ⟨SqL.of hD, fun t nt => ?_⟩⟩
    have u := same_new (o := .tup (hd.map V.int)) nt
    exact ⟨rfl, t, _, rfl, a1.kp (Kp.same ((s2.trans s5).trans u)), upd_same, Bt.refl.same (((s1.trans s2).trans s5).trans u)⟩
end
/-! ### a dict, comprehended over a list -/
abbrev DSt (g : TG) (tt : TT) (tk tv : TE) (vs : List Nat) (σ : L2.St) (D : Addr) (x : V) (H' : Hp) (N : Hp → Prop) : Prop := g x (wipe σ vs) H' fun σ2 H2 => wipe σ2 vs = wipe σ vs ∧ tt σ2 H2 fun b H3 => if b = true then (tk σ2 H3 fun y H4 => tv σ2 H4 fun z H5 => ∃ kvs k, y = kV k ∧ H5 D = some (.dK kvs) ∧ kvs.length < sizeLine ∧ N (upd H5 D (.dK (putK kvs k z)))) else N H3
theorem dcl {K : PySem.W.Frag} {a : Addr} {xs : List V} {g : TG} {tt : TT} {tk tv : TE} {vs : List Nat} {σ : L2.St} {H1 : Hp} {D : Addr} {Qd : Hp → Prop} (Pv : Nat → Hp → Prop) (h0 : Pv 0 (upd H1 D (.dK []))) (hl : ∀ i H, Pv i H → SqL K H a xs) (hs : ∀ i x H, xs[i]? = some x → Pv i H → DSt g tt tk tv vs σ D x H (Pv (i + 1))) (hd : ∀ H, Pv xs.length H → Qd H) :
    ∃ W : Nat → Nat → Hp → Prop, (∃ m, W 0 m (upd H1 D (.dK []))) ∧ ∀ i m H, W i m H → ((Itl K a).stop i H ∧ Qd H) ∨ ((Itl K a).go i H ∧ ∃ Nx : Hp → Prop, (∀ H', Nx H' → ∃ m', m' < m ∧ W (i + 1) m' H') ∧ ∀ x H', (Itl K a).yld i H x H' → DSt g tt tk tv vs σ D x H' Nx) := by
  refine ⟨fun i m H => Pv i H ∧ i + m = xs.length, ⟨xs.length, h0, Nat.zero_add _⟩, fun i m H st => ?_⟩
  obtain ⟨here, total⟩ := st
  have seen := hl i H here
  cases m with
  | zero =>
    have : i = xs.length := by omega
    subst this
    exact .inl ⟨⟨xs, seen, Nat.le_refl _⟩, hd H here⟩
  | succ m =>
    have lt : i < xs.length := by omega
    refine .inr ⟨⟨xs, xs[i], seen, List.getElem?_eq_getElem lt⟩, Pv (i + 1), fun H' p' => ⟨m, Nat.lt_succ_self m, p', by omega⟩, fun x H' y => ?_⟩
    obtain ⟨rfl, y⟩ := y
    exact hs i x _ (y xs seen) here
/-! ### a Floor begun -/
theorem ins_tk59 {C p dx : Addr} {H : Hp} {fs gs : List (Str × V)} (h : H p = some (.ins C dx fs)) : TK H (upd H p (.ins C dx gs)) := fun x zs e => by
  rw [upd_ne (ne_of e h (fun z => nomatch z))]
  exact e
abbrev putT (tg : Addr → Option Sl) (p : Addr) (s : Sl) : Addr → Option Sl := fun q => if q = p then some s else tg q
def Gr (tg tg' : Addr → Option Sl) : Prop := ∀ q s, tg q = some s → tg' q = some s
theorem Gr.refl {tg : Addr → Option Sl} : Gr tg tg := fun _ _ e => e
theorem Gr.trans {t1 t2 t3 : Addr → Option Sl} (a : Gr t1 t2) (b : Gr t2 t3) : Gr t1 t3 := fun q s e => b q s (a q s e)
theorem Gr.put {tg : Addr → Option Sl} {p : Addr} {s : Sl} (n : tg p = none) : Gr tg (putT tg p s) := fun q u e => by
  show (if q = p then some s else tg q) = _
  by_cases z : q = p
  · rw [z, n] at e; cases e
  · rw [if_neg z]; exact e
theorem putT_at {tg : Addr → Option Sl} {p : Addr} {s : Sl} : putT tg p s p = some s := if_pos rfl
theorem Tg.same {H H' : Hp} {tg : Addr → Option Sl} (g : Tg H tg) (s : Same H H') : Tg H' tg := fun p u e => by
  obtain ⟨xs, h⟩ := g p u e
  exact ⟨xs, s _ _ h⟩
theorem Tg.new {H : Hp} {tg : Addr → Option Sl} {p : Addr} {s : Sl} {xs : List V} (g : Tg H tg) (n : H p = none) : Tg (upd H p (.lst xs)) (putT tg p s) := fun q u e => by
  by_cases z : q = p
  · exact ⟨xs, by rw [z, upd_same]⟩
  · have e : (if q = p then some s else tg q) = some u := e
    rw [if_neg z] at e
    obtain ⟨ys, h⟩ := g q u e
    exact ⟨ys, by rw [upd_ne z]; exact h⟩
theorem Tg.mark {H : Hp} {tg : Addr → Option Sl} {p : Addr} {s : Sl} {xs : List V} (g : Tg H tg) (h0 : H p = some (.lst xs)) : Tg H (putT tg p s) := fun q u e => by
  by_cases z : q = p
  · exact ⟨xs, by rw [z]; exact h0⟩
  · have e : (if q = p then some s else tg q) = some u := e
    rw [if_neg z] at e
    exact g q u e
theorem Tg.upd {H : Hp} {tg : Addr → Option Sl} {p : Addr} {o : HO} (g : Tg H tg) (n : tg p = none) : Tg (L2.upd H p o) tg := fun q u e => by
  obtain ⟨ys, h⟩ := g q u e
  exact ⟨ys, by rw [upd_ne fun z => by rw [z, n] at e; cases e]; exact h⟩
/-- how far a Floor is begun: all that stood ahead stands, F apart -/
structure I0 (C : Addr) (H0 H : Hp) (F dx r ha ba nl : Addr) (fs : List (Str × V)) (hs : List HR) (bs : List BR) (hv bv : List V) (tg : Addr → Option Sl) : Prop where
  hF : H F = some (.ins C dx fs)
  room : RoomAt H r hs bs
  eh : H ha = some (.tup hv)
  eb : H ba = some (.tup bv)
  alh : All2 (HandAt H) hv hs
  alb : All2 (BeltAt H) bv bs
  hn : H nl = some (.lst ((List.range hs.length).map nV))
  own : Tg H tg
  old : ∀ p o, H0 p = some o → tg p = none
  tn : tg nl = none
  tF : tg F = none
  bt : But F H0 H
/-- a step: what was made is kept, and put into a field of F -/
theorem I0.go {C : Addr} {H0 H H1 : Hp} {F dx r ha ba nl : Addr} {fs fs' : List (Str × V)} {hs : List HR} {bs : List BR} {hv bv : List V} {tg tg' : Addr → Option Sl} (i : I0 C H0 H F dx r ha ba nl fs hs bs hv bv tg) (s : Same H H1) (g : Tg H1 tg') (gr : ∀ p o, H p = some o → tg' p = tg p) : I0 C H0 (upd H1 F (.ins C dx fs')) F dx r ha ba nl fs' hs bs hv bv tg' := by
  have k : TK H (upd H1 F (.ins C dx fs')) := (TK.same s).trans (ins_tk59 (s _ _ i.hF))
  have tF : tg' F = none := (gr F _ i.hF).trans i.tF
  refine ⟨upd_same, i.room.keep k, k _ _ i.eh, k _ _ i.eb, i.alh.imp fun _ _ z => z.keep k, i.alb.imp fun _ _ z => z.keep k, by rw [upd_ne (ne_of i.hn i.hF fun z => nomatch z)]; exact s _ _ i.hn, g.upd tF, fun p o e => ?_, (gr nl _ i.hn).trans i.tn, tF, (i.bt.same s).upd⟩
  by_cases z : p = F
  · rw [z]; exact tF
  · exact (gr p _ (i.bt _ _ e z)).trans (i.old p o e)
theorem putK_le (kvs : List (Key × V)) (k : Key) (v : V) : (putK kvs k v).length ≤ kvs.length + 1 := by
  unfold putK
  split
  · rw [List.length_map]; exact Nat.le_succ _
  · rw [List.length_append]; exact Nat.le_refl _
theorem TK.dic {H : Hp} {p : Addr} {kvs lvs : List (Key × V)} (h : H p = some (.dK kvs)) : TK H (upd H p (.dK lvs)) := fun x zs e => by
  rw [upd_ne (ne_of e h (fun z => nomatch z))]
  exact e
/-- a list that is tagged -/
def Fx (H : Hp) (tg : Addr → Option Sl) (p : Addr) (xs : List V) (s : Sl) : Prop := H p = some (.lst xs) ∧ tg p = some s
/-- from one cut to the next: all stands but F, tags stay -/
structure Stp (F : Addr) (H H' : Hp) (tg tg' : Addr → Option Sl) : Prop where
  h : ∀ p o, H p = some o → p ≠ F → H' p = some o
  t : ∀ p o, H p = some o → tg' p = tg p
theorem Fx.go {F C dx : Addr} {fs : List (Str × V)} {H H' : Hp} {tg tg' : Addr → Option Sl} {p : Addr} {xs : List V} {s : Sl} (f : Fx H tg p xs s) (hF : H F = some (.ins C dx fs)) (k : Stp F H H' tg tg') : Fx H' tg' p xs s := ⟨k.h _ _ f.1 (ne_of f.1 hF fun z => nomatch z), (k.t _ _ f.1).trans f.2⟩
theorem Stp.tk {F C dx : Addr} {fs : List (Str × V)} {H H' : Hp} {tg tg' : Addr → Option Sl} (k : Stp F H H' tg tg') (hF : H F = some (.ins C dx fs)) : TK H H' := fun p xs e => k.h _ _ e (ne_of e hF fun z => nomatch z)
theorem Stp.nl {F C dx : Addr} {fs : List (Str × V)} {H H' : Hp} {tg tg' : Addr → Option Sl} {v : V} {ns : List Nat} (k : Stp F H H' tg tg') (hF : H F = some (.ins C dx fs)) (n : NlAt tg H v ns) : NlAt tg' H' v ns := by
  obtain ⟨t, e, h1, h2⟩ := n
  exact ⟨t, e, k.h _ _ h1 (ne_of h1 hF fun z => nomatch z), (k.t _ _ h1).trans h2⟩
/-- a store of a field behind new things -/
theorem stp_of {F C dx : Addr} {fs : List (Str × V)} {H H1 : Hp} {tg tg' : Addr → Option Sl} (s : Same H H1) (gr : ∀ p o, H p = some o → tg' p = tg p) : Stp F H (upd H1 F (.ins C dx fs)) tg tg' := ⟨fun p o e n => by rw [upd_ne n]; exact s _ _ e, gr⟩
def cn0 (bs : List BR) : Sl → List Int := fun s => if s.1 = 0 then (match bs[s.2]? with | some b => b.th | none => []) else []
section
variable {P : Program} {w : World} {K : PySem.W.Frag} {mg : Str → Option Value} {base : Heap}
def sp_Floor___init__ (K : PySem.W.Frag) (C : Addr) : Sp := fun vs H Q _ => ∃ (F r dx : Addr) (hs : List HR) (bs : List BR), vs = [.ref F, .ref r] ∧ H F = some (.ins C dx []) ∧ RoomAt H r hs bs ∧ RoomOk hs bs ∧
  ∀ (tg : Addr → Option Sl) (H' : Hp), FlAt C H' F hs bs (cn0 bs) tg → (∀ p o, H p = some o → tg p = none) → But F H H' → Q .non H'
theorem ok_Floor___init__ {f : Addr} {fd : FuncData} (F : Fun K "__init__" "Floor.__init__" s_Floor___init__ f fd) {C : Addr} (T : Top K mg C) : FnOk P w K mg base CX0 2 f fd ["self", "room"] (sp_Floor___init__ K C) := by
  obtain ⟨f_comings, fd_comings, F_comings, b_comings, m_comings⟩ := T.d_comings
  have G_comings := ok_comings (P := P) (w := w) (base := base) F_comings T
  obtain ⟨f_goings, fd_goings, F_goings, b_goings, m_goings⟩ := T.d_goings
  have G_goings := ok_goings (P := P) (w := w) (base := base) F_goings T
  refine F.ok sc_Floor___init__ (fun vs H Q E h => ?_) (fun cdv A outer s H vs Q E hr h => ?_)
  · obtain ⟨F, r, dx, hs, bs, rfl, _⟩ := h
    rfl
  obtain ⟨aI, mI, hI⟩ := T.x_in
  obtain ⟨F, r, dx, hs, bs, rfl, hF, hR, ok, q⟩ := h
  obtain ⟨ha, ba, hv, bv, er, eh, eb, alh, alb⟩ := id hR.ex
  have lh := ok.hands
  have lb := ok.many
  have lhv := alh.length
  have lbv := alb.length
  let sg : Addr → Option V → Option V → Option V → Option V → Option V → Option V → L2.St := fun nl v5 v6 v7 v8 v9 v10 => [some (.ref F), some (.ref r), some (.ref ha), some (.ref ba), some (.ref nl), v5, v6, v7, v8, v9, v10]
  let R1 : TS := fun D' σ' H' => D'.rt = Q ∧ (D'.nx = fun _ H2 => Q .non H2) ∧ ∃ (nl : Addr) (tg : Addr → Option Sl), σ' = sg nl none none none none none none ∧ I0 C H H' F dx r ha ba nl [] hs bs hv bv tg
  let R2 : TS := fun D' σ' H' => D'.rt = Q ∧ (D'.nx = fun _ H2 => Q .non H2) ∧ ∃ (nl ra : Addr) (rv : List V) (tg : Addr → Option Sl) (v5 v6 : Option V), σ' = sg nl v5 v6 none none none none ∧ I0 C H H' F dx r ha ba nl [("rules", .ref ra)] hs bs hv bv tg ∧ Fx H' tg ra rv (3, 0) ∧ All2 (RlAt H') rv hs
  let R3 : TS := fun D' σ' H' => D'.rt = Q ∧ (D'.nx = fun _ H2 => Q .non H2) ∧ ∃ (nl ra ga : Addr) (rv : List V) (kvs : List (Key × V)) (A1 : Nat → Addr) (tg : Addr → Option Sl) (v5 v6 v7 : Option V), σ' = sg nl v5 v6 v7 none none none ∧ I0 C H H' F dx r ha ba nl [("rules", .ref ra), ("given", .ref ga)] hs bs hv bv tg ∧ Fx H' tg ra rv (3, 0) ∧ All2 (RlAt H') rv hs ∧
    H' ga = some (.dK kvs) ∧ (∀ k, k < hs.length → valV kvs (kN k) = if k ∈ doorsOf "in" hs then some (.ref (A1 k)) else none) ∧ (∀ k ∈ doorsOf "in" hs, Fx H' tg (A1 k) [] (1, k))
  let R4 : TS := fun D' σ' H' => D'.rt = Q ∧ (D'.nx = fun _ H2 => Q .non H2) ∧ ∃ (nl ra ga la : Addr) (rv : List V) (kvs : List (Key × V)) (A1 A0 : Nat → Addr) (tg : Addr → Option Sl) (v5 v6 v7 v8 v9 v10 : Option V), σ' = sg nl v5 v6 v7 v8 v9 v10 ∧ I0 C H H' F dx r ha ba nl [("rules", .ref ra), ("given", .ref ga), ("lying", .ref la)] hs bs hv bv tg ∧ Fx H' tg ra rv (3, 0) ∧ All2 (RlAt H') rv hs ∧
    H' ga = some (.dK kvs) ∧ (∀ k, k < hs.length → valV kvs (kN k) = if k ∈ doorsOf "in" hs then some (.ref (A1 k)) else none) ∧ (∀ k ∈ doorsOf "in" hs, Fx H' tg (A1 k) [] (1, k)) ∧ Fx H' tg la ((List.range bs.length).map fun j => V.ref (A0 j)) (3, 0) ∧ (∀ j b, bs[j]? = some b → Fx H' tg (A0 j) (b.th.map V.int) (0, j))
  let R5 : TS := fun D' σ' H' => D'.rt = Q ∧ (D'.nx = fun _ H2 => Q .non H2) ∧ ∃ (nl ra ga la ca : Addr) (rv cv : List V) (kvs : List (Key × V)) (A1 A0 : Nat → Addr) (tg : Addr → Option Sl) (v5 v6 v7 v8 v9 v10 : Option V), σ' = sg nl v5 v6 v7 v8 v9 v10 ∧ I0 C H H' F dx r ha ba nl [("rules", .ref ra), ("given", .ref ga), ("lying", .ref la), ("coming", .ref ca)] hs bs hv bv tg ∧ Fx H' tg ra rv (3, 0) ∧ All2 (RlAt H') rv hs ∧
    H' ga = some (.dK kvs) ∧ (∀ k, k < hs.length → valV kvs (kN k) = if k ∈ doorsOf "in" hs then some (.ref (A1 k)) else none) ∧ (∀ k ∈ doorsOf "in" hs, Fx H' tg (A1 k) [] (1, k)) ∧ Fx H' tg la ((List.range bs.length).map fun j => V.ref (A0 j)) (3, 0) ∧ (∀ j b, bs[j]? = some b → Fx H' tg (A0 j) (b.th.map V.int) (0, j)) ∧ Fx H' tg ca cv (3, 0) ∧ All2 (NlAt tg H') cv ((List.range hs.length).map (comingN bs))
  let R6 : TS := fun D' σ' H' => D'.rt = Q ∧ (D'.nx = fun _ H2 => Q .non H2) ∧ ∃ (nl ra ga la ca oa : Addr) (rv cv ov : List V) (kvs : List (Key × V)) (A1 A0 : Nat → Addr) (tg : Addr → Option Sl) (v5 v6 v7 v8 v9 v10 : Option V), σ' = sg nl v5 v6 v7 v8 v9 v10 ∧ I0 C H H' F dx r ha ba nl [("rules", .ref ra), ("given", .ref ga), ("lying", .ref la), ("coming", .ref ca), ("going", .ref oa)] hs bs hv bv tg ∧ Fx H' tg ra rv (3, 0) ∧ All2 (RlAt H') rv hs ∧
    H' ga = some (.dK kvs) ∧ (∀ k, k < hs.length → valV kvs (kN k) = if k ∈ doorsOf "in" hs then some (.ref (A1 k)) else none) ∧ (∀ k ∈ doorsOf "in" hs, Fx H' tg (A1 k) [] (1, k)) ∧ Fx H' tg la ((List.range bs.length).map fun j => V.ref (A0 j)) (3, 0) ∧ (∀ j b, bs[j]? = some b → Fx H' tg (A0 j) (b.th.map V.int) (0, j)) ∧ Fx H' tg ca cv (3, 0) ∧ All2 (NlAt tg H') cv ((List.range hs.length).map (comingN bs)) ∧ Fx H' tg oa ov (3, 0) ∧ All2 (NlAt tg H') ov ((List.range hs.length).map (goingN bs))
  refine ⟨_, (pss_cons (ps_asg (pv 1) (pg_tupK K rfl rfl (pgs_cons (pg_name (i := 2) sc_Floor___init__.nd rfl (Or.inr rfl)) (pgs_cons (pg_name (i := 3) sc_Floor___init__.nd rfl (Or.inl rfl)) pgs_nil))))
      (pss_cons (ps_set (i := 4) sc_Floor___init__.nd rfl (Or.inl rfl) (pe_listRg rfl (by rfl) T.m_list (prg_1 (by rfl) T.m_range (pe_callB (call_len_seqK K rfl) (by rfl) T.m_len (by decide +kernel) (pa_cons (pv 2) pa_nil)))))
      (PSs.to (pss_cons (ps_fldK K rfl (pv 0) (pe_lc (own := [("rule", 5), ("moments", 6)]) (g := gTup K 2 (gCons (gName 5) (gCons (gName 6) gNil))) (tt := tYes) (by rfl) sc_Floor___init__.nd (pi_tupK K rfl (pv 2)) (blkOk_by (own := [("rule", 5), ("moments", 6)]) (N := N_Floor___init__) (sc := defScope s_Floor___init__) (by decide +kernel)) (fun _ _ _ _ _ => (pg_tupK K rfl rfl (pgs_cons (pg_name (i := 5) sc_Floor___init__.nd rfl (Or.inl rfl)) (pgs_cons (pg_name (i := 6) sc_Floor___init__.nd rfl (Or.inl rfl)) pgs_nil)))) (fun _ _ _ _ _ => pts_nil) (fun _ _ _ _ _ => (pv 5))) rfl)
      (PSs.to (pss_cons (ps_fldK K rfl (pv 0) (pe_dc (own := [("hand", 7)]) (g := gName 7) (by rfl) sc_Floor___init__.nd (pi_listK K rfl (pv 4)) (blkOk_by (own := [("hand", 7)]) (N := N_Floor___init__) (sc := defScope s_Floor___init__) (by decide +kernel)) (fun _ _ _ _ _ => (pg_name (i := 7) sc_Floor___init__.nd rfl (Or.inl rfl))) (fun _ _ _ _ _ => pts_one (pt_cmpR (op_eqDK K rfl hr.units) (pe_ix (ix_tupK K rfl) (pe_ix (ix_tupK K rfl) (pv 2) (pv 7) (fun _ _ => rfl)) pe_int (fun _ _ => rfl)) (pe_glob (v := .ref aI) (by rfl) mI rfl) (nomark _))) (fun _ _ _ _ _ => (pv 7)) (fun _ _ _ _ _ => (pe_lst pa_nil))) rfl)
      (PSs.to (pss_cons (ps_fldK K rfl (pv 0) (pe_lc (own := [("giver", 8), ("taker", 9), ("things", 10)]) (g := gTup K 3 (gCons (gName 8) (gCons (gName 9) (gCons (gName 10) gNil)))) (tt := tYes) (by rfl) sc_Floor___init__.nd (pi_tupK K rfl (pv 3)) (blkOk_by (own := [("giver", 8), ("taker", 9), ("things", 10)]) (N := N_Floor___init__) (sc := defScope s_Floor___init__) (by decide +kernel)) (fun _ _ _ _ _ => (pg_tupK K rfl rfl (pgs_cons (pg_name (i := 8) sc_Floor___init__.nd rfl (Or.inl rfl)) (pgs_cons (pg_name (i := 9) sc_Floor___init__.nd rfl (Or.inl rfl)) (pgs_cons (pg_name (i := 10) sc_Floor___init__.nd rfl (Or.inl rfl)) pgs_nil))))) (fun _ _ _ _ _ => pts_nil) (fun _ _ _ _ _ => (pe_callTy (call_list_ofK K rfl) (by rfl) T.m_list (by decide +kernel) (pa_cons (pv 10) pa_nil)))) rfl)
      (PSs.to (pss_cons (ps_fldK K rfl (pv 0) (pe_lc (own := [("hand", 7)]) (g := gName 7) (tt := tYes) (by rfl) sc_Floor___init__.nd (pi_listK K rfl (pv 4)) (blkOk_by (own := [("hand", 7)]) (N := N_Floor___init__) (sc := defScope s_Floor___init__) (by decide +kernel)) (fun _ _ _ _ _ => (pg_name (i := 7) sc_Floor___init__.nd rfl (Or.inl rfl))) (fun _ _ _ _ _ => pts_nil) (fun _ _ _ _ _ => (pe_call G_comings (hr.mono (by decide)) (by rfl) m_comings F_comings.kp b_comings .nil pass0 (pa_cons (pv 1) (pa_cons (pv 7) pa_nil))))) rfl)
      (PSs.to (pss_cons (ps_fldK K rfl (pv 0) (pe_lc (own := [("hand", 7)]) (g := gName 7) (tt := tYes) (by rfl) sc_Floor___init__.nd (pi_listK K rfl (pv 4)) (blkOk_by (own := [("hand", 7)]) (N := N_Floor___init__) (sc := defScope s_Floor___init__) (by decide +kernel)) (fun _ _ _ _ _ => (pg_name (i := 7) sc_Floor___init__.nd rfl (Or.inl rfl))) (fun _ _ _ _ _ => pts_nil) (fun _ _ _ _ _ => (pe_call G_goings (hr.mono (by decide)) (by rfl) m_goings F_goings.kp b_goings .nil pass0 (pa_cons (pv 1) (pa_cons (pv 7) pa_nil))))) rfl)
      (PSs.to (pss_one (ps_fldK K rfl (pv 0) (pe_lc (own := [("hand", 7)]) (g := gName 7) (tt := tYes) (by rfl) sc_Floor___init__.nd (pi_listK K rfl (pv 4)) (blkOk_by (own := [("hand", 7)]) (N := N_Floor___init__) (sc := defScope s_Floor___init__) (by decide +kernel)) (fun _ _ _ _ _ => (pg_name (i := 7) sc_Floor___init__.nd rfl (Or.inl rfl))) (fun _ _ _ _ _ => pts_nil) (fun _ _ _ _ _ => (pe_lst pa_nil))) rfl)) R6 ?tail6)) R5 ?tail5)) R4 ?tail4)) R3 ?tail3)) R2 ?tail2)) R1 ?tail1))), ?_⟩
  case tail1 =>
    rintro D' σ' H1 ⟨eD, eN, nl, tg, rfl, i⟩
    refine ⟨_, rfl, ha, rfl, ⟨_, SqT.of i.eh⟩, fun D nD => lc_tup (K := K) (a := ha) (xs := hv) (fun j H5 => ∃ rv : List V, H5 D = some (.lst rv) ∧ All2 (RlAt H5) rv (hs.take j) ∧ Same H1 H5) ⟨[], upd_same, .nil, same_new nD⟩ (fun j H5 _ ⟨_, _, _, s5⟩ => SqT.of (s5 _ _ i.eh)) ?_ ?_⟩
    · rintro j x H5 hx ⟨rv, hD, al, s5⟩
      obtain ⟨hh, eb2, ⟨t2, g, rfl, e1, e2⟩⟩ := i.alh.getL hx
      have il := (List.getElem?_eq_some_iff.mp eb2).1
      have lr := al.length
      rw [List.length_take] at lr
      refine ⟨t2, _, rfl, SqT.of (s5 _ _ e1), rfl, _, _, rfl, _, _, rfl, rfl, rfl, yes_in ⟨_, rfl, rv, hD, small1000 (by omega), rv ++ [.ref g], upd_same, ?_, Same.own s5 nD⟩⟩
      rw [List.take_add_one, eb2]
      exact (al.snoc ⟨g, rfl, s5 _ _ e2⟩).imp fun _ _ ⟨t, e, h⟩ => ⟨t, e, TK.lst hD _ _ h⟩
    rintro H5 ⟨rv, hD, al, s5⟩
    rw [lhv, List.take_length] at al
    have tD : tg D = none := i.own.free nD
    have gr : ∀ p o, H1 p = some o → putT tg D (3, 0) p = tg p := fun p o e => if_neg (ne_of_none e nD)
    refine ⟨_, rfl, F, C, dx, _, rfl, s5 _ _ i.hF, T.cl, T.n_rules, (by show 0 < 1000; decide), ?_⟩
    have st : Stp F H5 (upd H5 F (.ins C dx [("rules", .ref D)])) (putT tg D (3, 0)) (putT tg D (3, 0)) := stp_of (Same.refl _) fun _ _ _ => rfl
    exact ⟨eD, eN, nl, D, rv, putT tg D (3, 0), _, _, rfl, i.go s5 ((i.own.same s5).mark hD) gr, Fx.go ⟨hD, putT_at⟩ (s5 _ _ i.hF) st, al.imp fun _ _ ⟨t, e, h⟩ => ⟨t, e, st.tk (s5 _ _ i.hF) _ _ h⟩⟩
  case tail2 =>
    rintro D' σ' H1 ⟨eD, eN, nl, ra, rv, tg, v5, v6, rfl, i, hra, alr⟩
    refine ⟨_, rfl, nl, rfl, ⟨_, SqL.of i.hn⟩, fun D nD => dcl (K := K) (a := nl) (xs := (List.range hs.length).map nV) (fun j H5 => ∃ (kvs : List (Key × V)) (A1 : Nat → Addr) (tg5 : Addr → Option Sl), H5 D = some (.dK kvs) ∧ (∀ k, valV kvs (kN k) = if k < j ∧ k ∈ doorsOf "in" hs then some (.ref (A1 k)) else none) ∧ kvs.length ≤ j ∧ (∀ k ∈ doorsOf "in" hs, k < j → Fx H5 tg5 (A1 k) [] (1, k)) ∧ Tg H5 tg5 ∧ (∀ p o, H1 p = some o → tg5 p = tg p) ∧ Same H1 H5) ⟨[], fun _ => 0, tg, upd_same, (fun k => (if_neg fun z => absurd z.1 (Nat.not_lt_zero _)).symm), Nat.le_refl _, (fun k _ z => absurd z (Nat.not_lt_zero _)), i.own.upd (i.own.free nD), (fun _ _ _ => rfl), same_new nD⟩ (fun j H5 ⟨_, _, _, _, _, _, _, _, _, s5⟩ => SqL.of (s5 _ _ i.hn)) ?_ ?_⟩
    · rintro j x H5 hx ⟨kvs, A1, tg5, hD, gv, lk, fx, own, gr, s5⟩
      rw [List.getElem?_map] at hx
      have jl : j < hs.length := by
        refine Classical.byContradiction fun z => ?_
        rw [List.getElem?_eq_none (by rw [List.length_range]; omega)] at hx
        cases hx
      rw [List.getElem?_range jl] at hx
      obtain rfl : nV j = x := Option.some.inj hx
      have eh1 : hs[j]? = some hs[j] := List.getElem?_eq_getElem jl
      obtain ⟨x, ex, ⟨t2, g, rfl, e1, e2⟩⟩ := i.alh.get eh1
      have gh := ok.good _ (List.mem_of_getElem? eh1)
      unfold DSt
      refine ⟨rfl, _, rfl, _, rfl, ha, _, _, _, rfl, rfl, SqT.of (s5 _ _ i.eh), atI_nat ex, t2, _, _, _, rfl, rfl, SqT.of (s5 _ _ e1), atI_nat (j := 0) rfl, ?_⟩
      refine ⟨_, _, rule_dp (s5 _ _ e2), .tup (hI _) (.cons (.str _) .nil), rule_shaped gh.lay, one_shaped (by decide +kernel), _, rfl, ?_⟩
      rw [rule_eqv, gh.door "in" (.inl rfl)]
      by_cases c : hs[j].wd = "in"
      · have jd : j ∈ doorsOf "in" hs := mem_doors.mpr ⟨_, eh1, c⟩
        rw [decide_eq_true c]
        refine if_bl (fun _ => ⟨_, rfl, (by show 0 ≤ sizeLine; decide), fun p np => ?_⟩) (fun z => nomatch z)
        have u := same_new (o := .lst []) np
        have pD : p ≠ D := fun z => by rw [z, hD] at np; cases np
        have tp : tg5 p = none := own.free np
        have gp := Gr.put (s := (1, j)) tp
        have dk : ∀ {q : Addr} {xs : List V}, (upd H5 p (.lst [])) q = some (.lst xs) → (upd (upd H5 p (.lst [])) D (.dK (putK kvs (kN j) (.ref p)))) q = some (.lst xs) := fun {q xs} e => by
          rw [upd_ne fun z => ?_]
          · exact e
          · rw [z, u _ _ hD] at e
            cases e
        refine ⟨kvs, kN j, rfl, u _ _ hD, small1000 (by omega), putK kvs (kN j) (.ref p), fun k => if k = j then p else A1 k, putT tg5 p (1, j), upd_same, fun k => ?_, Nat.le_trans (putK_le ..) (by omega), fun k kd kl => ?_, ?_, fun q o e => ?_, Same.own (s5.trans u) nD⟩
        · rw [valV_put]
          by_cases z : k = j
          · subst z
            rw [if_pos rfl, if_pos ⟨Nat.lt_succ_self _, jd⟩]
            show _ = some (V.ref (if k = k then p else A1 k))
            rw [if_pos rfl]
          · rw [if_neg fun y => z (kN_inj y), gv k]
            show _ = if k < j + 1 ∧ k ∈ doorsOf "in" hs then some (V.ref (if k = j then p else A1 k)) else none
            rw [if_neg z]
            by_cases y : k < j ∧ k ∈ doorsOf "in" hs
            · rw [if_pos y, if_pos ⟨by omega, y.2⟩]
            · rw [if_neg y, if_neg fun w => y ⟨by omega, w.2⟩]
        · by_cases z : k = j
          · subst z
            show Fx _ _ (if k = k then p else A1 k) _ _
            rw [if_pos rfl]
            exact ⟨dk upd_same, putT_at⟩
          · show Fx _ _ (if k = j then p else A1 k) _ _
            rw [if_neg z]
            obtain ⟨f1, f2⟩ := fx k kd (by omega)
            exact ⟨dk (u _ _ f1), gp _ _ f2⟩
        · refine (own.new np).upd ?_
          show (if D = p then _ else tg5 D) = none
          rw [if_neg pD.symm]
          exact own.tup hD fun _ z => nomatch z
        · show (if q = p then _ else tg5 q) = _
          rw [if_neg (ne_of_none (s5 _ _ e) np)]
          exact gr q o e
      · have jd : j ∉ doorsOf "in" hs := fun z => by
          obtain ⟨h, e, w⟩ := mem_doors.mp z
          rw [eh1] at e
          cases e
          exact c w
        rw [decide_eq_false c]
        refine if_bl (fun z => nomatch z) (fun _ => ?_)
        refine ⟨kvs, A1, tg5, hD, fun k => ?_, by omega, fun k kd kl => fx k kd ?_, own, gr, s5⟩
        · rw [gv k]
          by_cases y : k < j ∧ k ∈ doorsOf "in" hs
          · rw [if_pos y, if_pos ⟨by omega, y.2⟩]
          · rw [if_neg y, if_neg fun w => y ⟨?_, w.2⟩]
            have : k ≠ j := fun z => jd (z ▸ w.2)
            omega
        · have : k ≠ j := fun z => jd (z ▸ kd)
          omega
    · rintro H5 ⟨kvs, A1, tg5, hD, gv, lk, fx, own, gr, s5⟩
      rw [List.length_map, List.length_range] at gv fx
      refine ⟨_, rfl, F, C, dx, _, rfl, s5 _ _ i.hF, T.cl, T.n_given, (by show 1 < 1000; decide), ?_⟩
      have st : Stp F H1 (upd H5 F (.ins C dx [("rules", .ref ra), ("given", .ref D)])) tg tg5 := stp_of s5 gr
      have s2 : Stp F H5 (upd H5 F (.ins C dx [("rules", .ref ra), ("given", .ref D)])) tg5 tg5 := stp_of (Same.refl _) fun _ _ _ => rfl
      have hF5 := s5 _ _ i.hF
      refine ⟨eD, eN, nl, ra, D, rv, kvs, A1, tg5, _, _, _, rfl, i.go s5 own gr, Fx.go hra i.hF st, alr.imp fun _ _ ⟨t, e, h⟩ => ⟨t, e, st.tk i.hF _ _ h⟩, s2.h _ _ hD (ne_of hD hF5 fun z => nomatch z), fun k hk => ?_, fun k kd => Fx.go (fx k kd (by obtain ⟨h, e, _⟩ := mem_doors.mp kd; exact (List.getElem?_eq_some_iff.mp e).1)) hF5 s2⟩
      rw [gv k]
      by_cases y : k ∈ doorsOf "in" hs
      · rw [if_pos ⟨hk, y⟩, if_pos y]
      · rw [if_neg y, if_neg fun w => y w.2]
  case tail3 =>
    rintro D' σ' H1 ⟨eD, eN, nl, ra, ga, rv, kvs, A1, tg, v5, v6, v7, rfl, i, hra, alr, hga, gv, fx1⟩
    refine ⟨_, rfl, ba, rfl, ⟨_, SqT.of i.eb⟩, fun D nD => lc_tup (K := K) (a := ba) (xs := bv) (fun j H5 => ∃ (A0 : Nat → Addr) (tg5 : Addr → Option Sl), H5 D = some (.lst ((List.range j).map fun k => V.ref (A0 k))) ∧ (∀ k b, k < j → bs[k]? = some b → Fx H5 tg5 (A0 k) (b.th.map V.int) (0, k)) ∧ Tg H5 tg5 ∧ (∀ p o, H1 p = some o → tg5 p = tg p) ∧ tg5 D = none ∧ Same H1 H5) ⟨fun _ => 0, tg, upd_same, (fun k _ z => absurd z (Nat.not_lt_zero _)), i.own.upd (i.own.free nD), (fun _ _ _ => rfl), i.own.free nD, same_new nD⟩ (fun j H5 _ ⟨_, _, _, _, _, _, _, s5⟩ => SqT.of (s5 _ _ i.eb)) ?_ ?_⟩
    · rintro j x H5 hx ⟨A0, tg5, hD, fx, own, gr, tD, s5⟩
      obtain ⟨b, eb2, ⟨t, g, rfl, e1, e2⟩⟩ := i.alb.getL hx
      have jl := (List.getElem?_eq_some_iff.mp eb2).1
      refine ⟨t, _, rfl, SqT.of (s5 _ _ e1), rfl, _, _, rfl, _, _, rfl, _, _, rfl, rfl, rfl, yes_in ⟨_, rfl, g, _, rfl, .inr (SqT.of (s5 _ _ e2)), fun p np => ?_⟩⟩
      have u := same_new (o := .lst (b.th.map V.int)) np
      have pD : p ≠ D := fun z => by rw [z, hD] at np; cases np
      have gp := Gr.put (s := (0, j)) (own.free np)
      have dk : ∀ {q : Addr} {xs ys : List V}, q ≠ D → (upd H5 p (.lst (b.th.map V.int))) q = some (.lst xs) → (upd (upd H5 p (.lst (b.th.map V.int))) D (.lst ys)) q = some (.lst xs) := fun n e => by rw [upd_ne n]; exact e
      refine ⟨_, u _ _ hD, by rw [List.length_map, List.length_range]; exact small1000 (by omega), fun k => if k = j then p else A0 k, putT tg5 p (0, j), ?_, fun k b' kl e => ?_, (own.new np).upd ?_, fun q o e => ?_, ?_, Same.own (s5.trans u) nD⟩
      · rw [upd_same, List.range_succ, List.map_append]
        refine congrArg (fun z => some (HO.lst z)) ?_
        refine congr (congrArg _ (List.map_congr_left fun k hk => ?_)) ?_
        · show V.ref (A0 k) = V.ref (if k = j then p else A0 k)
          rw [if_neg (Nat.ne_of_lt (List.mem_range.mp hk))]
        · show [V.ref p] = [V.ref (if j = j then p else A0 j)]
          rw [if_pos rfl]
      · by_cases z : k = j
        · subst z
          rw [eb2] at e
          cases e
          show Fx _ _ (if k = k then p else A0 k) _ _
          rw [if_pos rfl]
          exact ⟨dk pD upd_same, putT_at⟩
        · show Fx _ _ (if k = j then p else A0 k) _ _
          rw [if_neg z]
          obtain ⟨f1, f2⟩ := fx k b' (by omega) e
          exact ⟨dk (fun y => by rw [y, tD] at f2; cases f2) (u _ _ f1), gp _ _ f2⟩
      · show (if D = p then _ else tg5 D) = none
        rw [if_neg pD.symm]
        exact tD
      · show (if q = p then _ else tg5 q) = _
        rw [if_neg (ne_of_none (s5 _ _ e) np)]
        exact gr q o e
      · show (if D = p then _ else tg5 D) = none
        rw [if_neg pD.symm]
        exact tD
    · rintro H5 ⟨A0, tg5, hD, fx, own, gr, tD, s5⟩
      rw [lbv] at hD fx
      have hF5 := s5 _ _ i.hF
      refine ⟨_, rfl, F, C, dx, _, rfl, hF5, T.cl, T.n_lying, (by show 2 < 1000; decide), ?_⟩
      have gr' : ∀ p o, H1 p = some o → putT tg5 D (3, 0) p = tg p := fun p o e => (if_neg (ne_of_none e nD)).trans (gr p o e)
      have st : Stp F H1 (upd H5 F (.ins C dx [("rules", .ref ra), ("given", .ref ga), ("lying", .ref D)])) tg (putT tg5 D (3, 0)) := stp_of s5 gr'
      have s2 : Stp F H5 (upd H5 F (.ins C dx [("rules", .ref ra), ("given", .ref ga), ("lying", .ref D)])) (putT tg5 D (3, 0)) (putT tg5 D (3, 0)) := stp_of (Same.refl _) fun _ _ _ => rfl
      exact ⟨eD, eN, nl, ra, ga, D, rv, kvs, A1, A0, putT tg5 D (3, 0), _, _, _, _, _, _, rfl, i.go s5 (own.mark hD) gr', Fx.go hra i.hF st, alr.imp fun _ _ ⟨t, e, h⟩ => ⟨t, e, st.tk i.hF _ _ h⟩, st.h _ _ hga (ne_of hga i.hF fun z => nomatch z), gv, fun k kd => Fx.go (fx1 k kd) i.hF st, Fx.go ⟨hD, putT_at⟩ hF5 s2, fun j b e => by
        obtain ⟨f1, f2⟩ := fx j b (List.getElem?_eq_some_iff.mp e).1 e
        exact Fx.go ⟨f1, Gr.put tD _ _ f2⟩ hF5 s2⟩
  case tail4 =>
    rintro D' σ' H1 ⟨eD, eN, nl, ra, ga, la, rv, kvs, A1, A0, tg, v5, v6, v7, v8, v9, v10, rfl, i, hra, alr, hga, gv, fx1, hla, fx0⟩
    refine ⟨_, rfl, nl, rfl, ⟨_, SqL.of i.hn⟩, fun D nD => lc_list (K := K) (a := nl) (xs := (List.range hs.length).map nV) (fun j H5 => ∃ (nv : List V) (tg5 : Addr → Option Sl), H5 D = some (.lst nv) ∧ All2 (NlAt tg5 H5) nv ((List.range j).map (comingN bs)) ∧ Tg H5 tg5 ∧ (∀ p o, H1 p = some o → tg5 p = tg p) ∧ tg5 D = none ∧ Same H1 H5) ⟨[], tg, upd_same, .nil, i.own.upd (i.own.free nD), (fun _ _ _ => rfl), i.own.free nD, same_new nD⟩ (fun j H5 _ ⟨_, _, _, _, _, _, _, s5⟩ => SqL.of (s5 _ _ i.hn)) ?_ ?_⟩
    · rintro j x H5 hx ⟨nv, tg5, hD, al, own, gr, tD, s5⟩
      rw [List.getElem?_map] at hx
      have jl : j < hs.length := by
        refine Classical.byContradiction fun z => ?_
        rw [List.getElem?_eq_none (by rw [List.length_range]; omega)] at hx
        cases hx
      rw [List.getElem?_range jl] at hx
      obtain rfl : nV j = x := Option.some.inj hx
      have lnv := al.length
      rw [List.length_map, List.length_range] at lnv
      refine ⟨rfl, yes_in ⟨_, rfl, _, rfl, r, hs, bs, j, rfl, i.room.keep (TK.same s5), by omega, fun p H6 np hp s6 => ?_⟩⟩
      have pD : p ≠ D := fun z => by rw [z, hD] at np; cases np
      have tp := own.free np
      have gp := Gr.put (s := (3, 0)) tp
      refine ⟨nv, s6 _ _ hD, small1000 (by omega), nv ++ [.ref p], putT tg5 p (3, 0), upd_same, ?_, ((own.same s6).mark hp).upd ?_, fun q o e => ?_, ?_, Same.own (s5.trans s6) nD⟩
      · rw [List.range_succ, List.map_append]
        have old : All2 (NlAt (putT tg5 p (3, 0)) (upd H6 D (.lst (nv ++ [.ref p])))) nv ((List.range j).map (comingN bs)) := al.imp fun v ns ⟨t, e, h1, h2⟩ => ⟨t, e, by rw [upd_ne fun y => by rw [y, tD] at h2; cases h2]; exact s6 _ _ h1, gp _ _ h2⟩
        exact old.snoc ⟨p, rfl, by rw [upd_ne pD]; exact hp, putT_at⟩
      · show (if D = p then _ else tg5 D) = none
        rw [if_neg pD.symm]
        exact tD
      · show (if q = p then _ else tg5 q) = _
        rw [if_neg (ne_of_none (s5 _ _ e) np)]
        exact gr q o e
      · show (if D = p then _ else tg5 D) = none
        rw [if_neg pD.symm]
        exact tD
    · rintro H5 ⟨nv, tg5, hD, al, own, gr, tD, s5⟩
      rw [List.length_map, List.length_range] at al
      have hF5 := s5 _ _ i.hF
      refine ⟨_, rfl, F, C, dx, _, rfl, hF5, T.cl, T.n_coming, (by show 3 < 1000; decide), ?_⟩
      have gr' : ∀ p o, H1 p = some o → putT tg5 D (3, 0) p = tg p := fun p o e => (if_neg (ne_of_none e nD)).trans (gr p o e)
      have st : Stp F H1 (upd H5 F (.ins C dx [("rules", .ref ra), ("given", .ref ga), ("lying", .ref la), ("coming", .ref D)])) tg (putT tg5 D (3, 0)) := stp_of s5 gr'
      have s2 : Stp F H5 (upd H5 F (.ins C dx [("rules", .ref ra), ("given", .ref ga), ("lying", .ref la), ("coming", .ref D)])) (putT tg5 D (3, 0)) (putT tg5 D (3, 0)) := stp_of (Same.refl _) fun _ _ _ => rfl
      exact ⟨eD, eN, nl, ra, ga, la, D, rv, nv, kvs, A1, A0, putT tg5 D (3, 0), _, _, _, _, _, _, rfl, i.go s5 (own.mark hD) gr', Fx.go hra i.hF st, alr.imp fun _ _ ⟨t, e, h⟩ => ⟨t, e, st.tk i.hF _ _ h⟩, st.h _ _ hga (ne_of hga i.hF fun z => nomatch z), gv, fun k kd => Fx.go (fx1 k kd) i.hF st, Fx.go hla i.hF st, fun j b e => Fx.go (fx0 j b e) i.hF st, Fx.go ⟨hD, putT_at⟩ hF5 s2, al.imp fun _ _ ⟨t, e, h1, h2⟩ => s2.nl hF5 ⟨t, e, h1, Gr.put tD _ _ h2⟩⟩
  case tail5 =>
    rintro D' σ' H1 ⟨eD, eN, nl, ra, ga, la, ca, rv, cv, kvs, A1, A0, tg, v5, v6, v7, v8, v9, v10, rfl, i, hra, alr, hga, gv, fx1, hla, fx0, hca, alc⟩
    refine ⟨_, rfl, nl, rfl, ⟨_, SqL.of i.hn⟩, fun D nD => lc_list (K := K) (a := nl) (xs := (List.range hs.length).map nV) (fun j H5 => ∃ (nv : List V) (tg5 : Addr → Option Sl), H5 D = some (.lst nv) ∧ All2 (NlAt tg5 H5) nv ((List.range j).map (goingN bs)) ∧ Tg H5 tg5 ∧ (∀ p o, H1 p = some o → tg5 p = tg p) ∧ tg5 D = none ∧ Same H1 H5) ⟨[], tg, upd_same, .nil, i.own.upd (i.own.free nD), (fun _ _ _ => rfl), i.own.free nD, same_new nD⟩ (fun j H5 _ ⟨_, _, _, _, _, _, _, s5⟩ => SqL.of (s5 _ _ i.hn)) ?_ ?_⟩
    · rintro j x H5 hx ⟨nv, tg5, hD, al, own, gr, tD, s5⟩
      rw [List.getElem?_map] at hx
      have jl : j < hs.length := by
        refine Classical.byContradiction fun z => ?_
        rw [List.getElem?_eq_none (by rw [List.length_range]; omega)] at hx
        cases hx
      rw [List.getElem?_range jl] at hx
      obtain rfl : nV j = x := Option.some.inj hx
      have lnv := al.length
      rw [List.length_map, List.length_range] at lnv
      refine ⟨rfl, yes_in ⟨_, rfl, _, rfl, r, hs, bs, j, rfl, i.room.keep (TK.same s5), by omega, fun p H6 np hp s6 => ?_⟩⟩
      have pD : p ≠ D := fun z => by rw [z, hD] at np; cases np
      have tp := own.free np
      have gp := Gr.put (s := (3, 0)) tp
      refine ⟨nv, s6 _ _ hD, small1000 (by omega), nv ++ [.ref p], putT tg5 p (3, 0), upd_same, ?_, ((own.same s6).mark hp).upd ?_, fun q o e => ?_, ?_, Same.own (s5.trans s6) nD⟩
      · rw [List.range_succ, List.map_append]
        have old : All2 (NlAt (putT tg5 p (3, 0)) (upd H6 D (.lst (nv ++ [.ref p])))) nv ((List.range j).map (goingN bs)) := al.imp fun v ns ⟨t, e, h1, h2⟩ => ⟨t, e, by rw [upd_ne fun y => by rw [y, tD] at h2; cases h2]; exact s6 _ _ h1, gp _ _ h2⟩
        exact old.snoc ⟨p, rfl, by rw [upd_ne pD]; exact hp, putT_at⟩
      · show (if D = p then _ else tg5 D) = none
        rw [if_neg pD.symm]
        exact tD
      · show (if q = p then _ else tg5 q) = _
        rw [if_neg (ne_of_none (s5 _ _ e) np)]
        exact gr q o e
      · show (if D = p then _ else tg5 D) = none
        rw [if_neg pD.symm]
        exact tD
    · rintro H5 ⟨nv, tg5, hD, al, own, gr, tD, s5⟩
      rw [List.length_map, List.length_range] at al
      have hF5 := s5 _ _ i.hF
      refine ⟨_, rfl, F, C, dx, _, rfl, hF5, T.cl, T.n_going, (by show 4 < 1000; decide), ?_⟩
      have gr' : ∀ p o, H1 p = some o → putT tg5 D (3, 0) p = tg p := fun p o e => (if_neg (ne_of_none e nD)).trans (gr p o e)
      have st : Stp F H1 (upd H5 F (.ins C dx [("rules", .ref ra), ("given", .ref ga), ("lying", .ref la), ("coming", .ref ca), ("going", .ref D)])) tg (putT tg5 D (3, 0)) := stp_of s5 gr'
      have s2 : Stp F H5 (upd H5 F (.ins C dx [("rules", .ref ra), ("given", .ref ga), ("lying", .ref la), ("coming", .ref ca), ("going", .ref D)])) (putT tg5 D (3, 0)) (putT tg5 D (3, 0)) := stp_of (Same.refl _) fun _ _ _ => rfl
      exact ⟨eD, eN, nl, ra, ga, la, ca, D, rv, cv, nv, kvs, A1, A0, putT tg5 D (3, 0), _, _, _, _, _, _, rfl, i.go s5 (own.mark hD) gr', Fx.go hra i.hF st, alr.imp fun _ _ ⟨t, e, h⟩ => ⟨t, e, st.tk i.hF _ _ h⟩, st.h _ _ hga (ne_of hga i.hF fun z => nomatch z), gv, fun k kd => Fx.go (fx1 k kd) i.hF st, Fx.go hla i.hF st, fun j b e => Fx.go (fx0 j b e) i.hF st, Fx.go hca i.hF st, alc.imp fun _ _ z => st.nl i.hF z, Fx.go ⟨hD, putT_at⟩ hF5 s2, al.imp fun _ _ ⟨t, e, h1, h2⟩ => s2.nl hF5 ⟨t, e, h1, Gr.put tD _ _ h2⟩⟩
  case tail6 =>
    rintro D' σ' H1 ⟨eD, eN, nl, ra, ga, la, ca, oa, rv, cv, ov, kvs, A1, A0, tg, v5, v6, v7, v8, v9, v10, rfl, i, hra, alr, hga, gv, fx1, hla, fx0, hca, alc, hoa, alo⟩
    refine ⟨_, rfl, nl, rfl, ⟨_, SqL.of i.hn⟩, fun D nD => lc_list (K := K) (a := nl) (xs := (List.range hs.length).map nV) (fun j H5 => ∃ (A2 : Nat → Addr) (tg5 : Addr → Option Sl), H5 D = some (.lst ((List.range j).map fun k => V.ref (A2 k))) ∧ (∀ k, k < j → Fx H5 tg5 (A2 k) [] (2, k)) ∧ Tg H5 tg5 ∧ (∀ p o, H1 p = some o → tg5 p = tg p) ∧ tg5 D = none ∧ Same H1 H5) ⟨fun _ => 0, tg, upd_same, (fun k z => absurd z (Nat.not_lt_zero _)), i.own.upd (i.own.free nD), (fun _ _ _ => rfl), i.own.free nD, same_new nD⟩ (fun j H5 _ ⟨_, _, _, _, _, _, _, s5⟩ => SqL.of (s5 _ _ i.hn)) ?_ ?_⟩
    · rintro j x H5 hx ⟨A2, tg5, hD, fx, own, gr, tD, s5⟩
      have jl := (List.getElem?_eq_some_iff.mp hx).1
      rw [List.length_map, List.length_range] at jl
      refine ⟨rfl, yes_in ⟨(by show 0 ≤ sizeLine; decide), fun p np => ?_⟩⟩
      have u := same_new (o := .lst []) np
      have pD : p ≠ D := fun z => by rw [z, hD] at np; cases np
      have gp := Gr.put (s := (2, j)) (own.free np)
      have dk : ∀ {q : Addr} {xs ys : List V}, q ≠ D → (upd H5 p (.lst [])) q = some (.lst xs) → (upd (upd H5 p (.lst [])) D (.lst ys)) q = some (.lst xs) := fun n e => by rw [upd_ne n]; exact e
      refine ⟨_, u _ _ hD, by rw [List.length_map, List.length_range]; exact small1000 (by omega), fun k => if k = j then p else A2 k, putT tg5 p (2, j), ?_, fun k kl => ?_, (own.new np).upd ?_, fun q o e => ?_, ?_, Same.own (s5.trans u) nD⟩
      · rw [upd_same, List.range_succ, List.map_append]
        refine congrArg (fun z => some (HO.lst z)) ?_
        refine congr (congrArg _ (List.map_congr_left fun k hk => ?_)) ?_
        · show V.ref (A2 k) = V.ref (if k = j then p else A2 k)
          rw [if_neg (Nat.ne_of_lt (List.mem_range.mp hk))]
        · show [V.ref p] = [V.ref (if j = j then p else A2 j)]
          rw [if_pos rfl]
      · by_cases z : k = j
        · subst z
          show Fx _ _ (if k = k then p else A2 k) _ _
          rw [if_pos rfl]
          exact ⟨dk pD upd_same, putT_at⟩
        · show Fx _ _ (if k = j then p else A2 k) _ _
          rw [if_neg z]
          obtain ⟨f1, f2⟩ := fx k (by omega)
          exact ⟨dk (fun y => by rw [y, tD] at f2; cases f2) (u _ _ f1), gp _ _ f2⟩
      · show (if D = p then _ else tg5 D) = none
        rw [if_neg pD.symm]
        exact tD
      · show (if q = p then _ else tg5 q) = _
        rw [if_neg (ne_of_none (s5 _ _ e) np)]
        exact gr q o e
      · show (if D = p then _ else tg5 D) = none
        rw [if_neg pD.symm]
        exact tD
    · rintro H5 ⟨A2, tg5, hD, fx, own, gr, tD, s5⟩
      rw [List.length_map, List.length_range] at hD fx
      have hF5 := s5 _ _ i.hF
      refine ⟨_, rfl, F, C, dx, _, rfl, hF5, T.cl, T.n_done, (by show 5 < 1000; decide), ?_⟩
      have gr' : ∀ p o, H1 p = some o → putT tg5 D (3, 0) p = tg p := fun p o e => (if_neg (ne_of_none e nD)).trans (gr p o e)
      have st : Stp F H1 (upd H5 F (.ins C dx [("rules", .ref ra), ("given", .ref ga), ("lying", .ref la), ("coming", .ref ca), ("going", .ref oa), ("done", .ref D)])) tg (putT tg5 D (3, 0)) := stp_of s5 gr'
      have s2 : Stp F H5 (upd H5 F (.ins C dx [("rules", .ref ra), ("given", .ref ga), ("lying", .ref la), ("coming", .ref ca), ("going", .ref oa), ("done", .ref D)])) (putT tg5 D (3, 0)) (putT tg5 D (3, 0)) := stp_of (Same.refl _) fun _ _ _ => rfl
      have I := i.go (fs' := [("rules", .ref ra), ("given", .ref ga), ("lying", .ref la), ("coming", .ref ca), ("going", .ref oa), ("done", .ref D)]) s5 (own.mark hD) gr'
      have hra' := Fx.go hra i.hF st
      have hla' := Fx.go hla i.hF st
      have hca' := Fx.go hca i.hF st
      have hoa' := Fx.go hoa i.hF st
      have hD' := Fx.go (tg := putT tg5 D (3, 0)) ⟨hD, putT_at⟩ hF5 s2
      show D'.nx _ _
      rw [eN]
      refine q (putT tg5 D (3, 0)) _ ⟨dx, ra, ga, la, ca, oa, D, kvs, fun s => if s.1 = 0 then A0 s.2 else if s.1 = 1 then A1 s.2 else A2 s.2, rv, cv, ov, I.hF, hra'.1, alr.imp fun _ _ ⟨t, e, h⟩ => ⟨t, e, st.tk i.hF _ _ h⟩, st.h _ _ hga (ne_of hga i.hF fun z => nomatch z), gv, hla'.1, hca'.1, alc.imp fun _ _ z => st.nl i.hF z, hoa'.1, alo.imp fun _ _ z => st.nl i.hF z, hD'.1, ?_, hra'.2, hla'.2, hca'.2, hoa'.2, hD'.2, I.own⟩ I.old I.bt
      rintro ⟨a, j⟩ (⟨rfl, jl⟩ | ⟨rfl, jd⟩ | ⟨rfl, jl⟩)
      · have eb1 : bs[j]? = some bs[j] := List.getElem?_eq_getElem jl
        obtain ⟨f1, f2⟩ := Fx.go (fx0 j _ eb1) i.hF st
        refine ⟨?_, f2⟩
        have e : cn0 bs (0, j) = bs[j].th := by
          show (match bs[j]? with | some b => b.th | none => []) = _
          rw [eb1]
        rw [e]
        exact f1
      · obtain ⟨f1, f2⟩ := Fx.go (fx1 j jd) i.hF st
        exact ⟨f1, f2⟩
      · obtain ⟨f1, f2⟩ := fx j jl
        exact Fx.go ⟨f1, Gr.put tD _ _ f2⟩ hF5 s2
  refine ⟨_, rfl, r, _, rfl, SqT.of er, rfl, _, _, rfl, _, _, rfl, rfl, ?_⟩
  refine ⟨_, rfl, ha, _, rfl, .inr (SqT.of eh), _, rfl, ⟨by omega, by omega, by omega, by omega, by omega⟩, fun nl nnl => ?_⟩
  have u := same_new (o := .lst (rgV 0 ((hv.length : Nat) : Int))) nnl
  have e0 : rgV 0 ((hv.length : Nat) : Int) = (List.range hs.length).map nV := by
    unfold rgV
    rw [Int.sub_zero, Int.toNat_natCast, lhv]
    refine List.map_congr_left fun j _ => ?_
    rw [Int.zero_add]
  refine ⟨rfl, rfl, nl, fun _ => none, rfl, ⟨u _ _ hF, hR.keep (TK.same u), u _ _ eh, u _ _ eb, alh.imp fun _ _ z => z.keep (TK.same u), alb.imp fun _ _ z => z.keep (TK.same u), by rw [upd_same, e0], (fun _ _ z => nomatch z), (fun _ _ _ => rfl), rfl, rfl, But.of u⟩⟩
end
/-! ### hands work in any order, and make what the bells tell -/
structure Cn59 (hs : List HR) (bs : List BR) (rows ms : List (List Int)) (G : Nat) (c : Nat → Nat) (cn : Sl → List Int) : Prop where
  top : ∀ k, k < hs.length → c k ≤ ms.length
  don : ∀ k, k < hs.length → cn (2, k) = (ms.take (c k)).map fun m => gD m k
  lie : ∀ j b, bs[j]? = some b → c b.to ≤ b.th.length + c b.one ∧ cn (0, j) = (b.th ++ (ms.take (c b.one)).map fun m => gD m b.one).drop (c b.to)
  giv : ∀ i k, (doorsOf "in" hs)[i]? = some k → c k ≤ G ∧ cn (1, k) = ((rows.take G).map fun r => gD r i).drop (c k)
  row : G ≤ rows.length
theorem head_drop {xs : List Int} {n : Nat} (h : (((xs.drop n).length : Nat) : Int) > 0) : n < xs.length ∧ (xs.drop n).getD 0 0 = xs.getD n 0 ∧ (xs.drop n).tail = xs.drop (n + 1) := by
  rw [List.length_drop] at h
  refine ⟨by omega, ?_, by rw [List.tail_drop]⟩
  rw [List.getD_eq_getElem?_getD, List.getElem?_drop, List.getD_eq_getElem?_getD, Nat.add_zero]
theorem no_coming {hs : List HR} {bs : List BR} {k : Nat} (ok : RoomOk hs bs) (kd : k ∈ doorsOf "in" hs) {b : BR} (hb : b ∈ bs) : b.to ≠ k := fun z => by
  obtain ⟨h, e, wd⟩ := mem_doors.mp kd
  have n := ok.count k h e
  rw [wd, show needs "in" = 0 by decide +kernel] at n
  have pos := List.count_pos_iff.mpr (List.mem_map.mpr ⟨b, hb, z⟩ : k ∈ bs.map BR.to)
  omega
theorem in_srcs {hs : List HR} {bs : List BR} {k j : Nat} {b : BR} (ok : RoomOk hs bs) (e : bs[j]? = some b) : ((0, j) : Sl) ∈ srcs hs bs k ↔ b.to = k := by
  unfold srcs
  by_cases c : k ∈ doorsOf "in" hs
  · rw [if_pos c]
    constructor
    · intro h
      exact absurd (show (0 : Nat) = 1 from congrArg Prod.fst (List.mem_singleton.mp h)) (by decide)
    · intro h
      exact absurd h (no_coming ok c (List.mem_of_getElem? e))
  · rw [if_neg c, List.mem_map]
    constructor
    · rintro ⟨x, hx, ex⟩
      have : x = j := congrArg Prod.snd ex
      rw [this] at hx
      have := of_decide_eq_true (List.mem_filter.mp hx).2
      rw [e] at this
      exact Option.some.inj this
    · intro h
      refine ⟨j, List.mem_filter.mpr ⟨List.mem_range.mpr (List.getElem?_eq_some_iff.mp e).1, decide_eq_true ?_⟩, rfl⟩
      rw [e, ← h]
      rfl
theorem in_going {bs : List BR} {k j : Nat} {b : BR} (e : bs[j]? = some b) : ((0, j) : Sl) ∈ (goingN bs k).map (fun j => ((0, j) : Sl)) ↔ b.one = k := by
  rw [List.mem_map]
  constructor
  · rintro ⟨x, hx, ex⟩
    have : x = j := congrArg Prod.snd ex
    rw [this] at hx
    have := of_decide_eq_true (List.mem_filter.mp hx).2
    rw [e] at this
    exact Option.some.inj this
  · intro h
    refine ⟨j, List.mem_filter.mpr ⟨List.mem_range.mpr (List.getElem?_eq_some_iff.mp e).1, decide_eq_true ?_⟩, rfl⟩
    rw [e, ← h]
    rfl
theorem rdy_at {hs : List HR} {bs : List BR} {cn : Sl → List Int} {k : Nat} (rd : rdy hs bs cn k = true) : ∀ s ∈ srcs hs bs k, (((cn s).length : Nat) : Int) > 0 := fun s h => of_decide_eq_true (List.all_eq_true.mp rd s h)
theorem Cn59.val {hs : List HR} {bs : List BR} {rows ms : List (List Int)} {G : Nat} {c : Nat → Nat} {cn : Sl → List Int} (a : Cn59 hs bs rows ms G c cn) (ok : RoomOk hs bs) (ws : WS hs bs rows ms) {k : Nat} (hk : k < hs.length) (rd : rdy hs bs cn k = true) (ck : c k < ms.length) : wkV hs bs cn k = Vm ms (c k) k := by
  have rd := rdy_at rd
  by_cases d : k ∈ doorsOf "in" hs
  · obtain ⟨i, ei⟩ := List.getElem?_of_mem d
    have sm : ((1, k) : Sl) ∈ srcs hs bs k := by unfold srcs; rw [if_pos d]; exact List.mem_singleton.mpr rfl
    have r1 := rd _ sm
    obtain ⟨_, e⟩ := a.giv i k ei
    rw [e] at r1
    obtain ⟨l1, h1, _⟩ := head_drop r1
    have ev : wkV hs bs cn k = (cn (1, k)).getD 0 0 := if_pos d
    rw [ev, e, h1, ws.door ck ei]
    rw [List.length_map, List.length_take] at l1
    rw [List.getD_eq_getElem?_getD, List.getElem?_map, List.getElem?_take_of_lt (by omega), List.getD_eq_getElem?_getD, List.getElem?_eq_getElem (by omega)]
    rfl
  · have eh : hs[k]? = some hs[k] := List.getElem?_eq_getElem hk
    have wn : hs[k].wd ≠ "in" := fun z => d (mem_doors.mpr ⟨_, eh, z⟩)
    have ev : wkV hs bs cn k = mkR hs[k] ((comingN bs k).map fun j => (cn (0, j)).getD 0 0) := by
      unfold wkV
      rw [if_neg d, eh]
    rw [ev, ws.hand ck eh wn]
    refine congrArg _ ?_
    have fm := filt_map (fun o : Option BR => decide (o.map BR.to = some k)) (fun o => match o with | some b => takenAt b ms (c k) | none => 0) bs bs.length (Nat.le_refl _)
    rw [List.take_length] at fm
    have e1 : ((bs.filter fun b => decide (b.to = k)).map fun b => takenAt b ms (c k)) = (comingN bs k).map fun i => match bs[i]? with | some b => takenAt b ms (c k) | none => 0 := by
      unfold comingN
      rw [fm]
      refine congr (congrArg _ rfl) ?_
      refine List.filter_congr fun b _ => ?_
      show decide (b.to = k) = decide (some b.to = some k)
      by_cases z : b.to = k
      · rw [decide_eq_true z, decide_eq_true (by rw [z])]
      · rw [decide_eq_false z, decide_eq_false fun y => z (Option.some.inj y)]
    rw [e1]
    refine List.map_congr_left fun j hj => ?_
    have jl := coming_lt hj
    have eb : bs[j]? = some bs[j] := List.getElem?_eq_getElem jl
    have to : bs[j].to = k := by
      have := of_decide_eq_true (List.mem_filter.mp hj).2
      rw [eb] at this
      exact Option.some.inj this
    obtain ⟨le, e⟩ := a.lie j _ eb
    have r1 := rd _ ((in_srcs ok eb).mpr to)
    rw [e] at r1
    obtain ⟨l1, h1, _⟩ := head_drop r1
    obtain ⟨o1, _⟩ := ok.ends _ (List.getElem_mem jl)
    have t1 := a.top _ o1
    rw [List.length_append, List.length_map, List.length_take] at l1
    rw [to] at l1 le
    rw [e, h1, to, eb]
    show _ = takenAt bs[j] ms (c k)
    unfold takenAt
    by_cases z : c k < bs[j].th.length
    · rw [if_pos z, List.getD_eq_getElem?_getD, List.getElem?_append_left z]
      show _ = bs[j].th.getD (c k) 0
      exact (List.getD_eq_getElem?_getD ..).symm
    · rw [if_neg z, List.getD_eq_getElem?_getD, List.getElem?_append_right (by omega), List.getElem?_map, List.getElem?_take_of_lt (by omega), List.getElem?_eq_getElem (by omega), getD_at (List.getElem?_eq_getElem (by omega))]
      rfl
theorem take_one {ms : List (List Int)} {n k : Nat} (h : n < ms.length) : (ms.take (n + 1)).map (fun m => gD m k) = (ms.take n).map (fun m => gD m k) ++ [Vm ms n k] := by
  have e : ms[n]? = some ms[n] := List.getElem?_eq_getElem h
  rw [List.take_add_one, e, List.map_append]
  unfold Vm
  rw [getD_at e]
  rfl
theorem Cn59.work {hs : List HR} {bs : List BR} {rows ms : List (List Int)} {G : Nat} {c : Nat → Nat} {cn : Sl → List Int} (a : Cn59 hs bs rows ms G c cn) (ok : RoomOk hs bs) (ws : WS hs bs rows ms) {k : Nat} (hk : k < hs.length) (rd : rdy hs bs cn k = true) (ck : c k < ms.length) : Cn59 hs bs rows ms G (fun j => if j = k then c k + 1 else c j) (wkC hs bs cn k) := by
  have ev := a.val ok ws hk rd ck
  have rd := rdy_at rd
  have pop : ∀ s, popC hs bs cn k (srcs hs bs k).length s = if s ∈ srcs hs bs k then (cn s).tail else cn s := fun s => by
    show (if s ∈ (srcs hs bs k).take (srcs hs bs k).length then (cn s).tail else cn s) = _
    rw [List.take_length]
  have full : ∀ s, wkC hs bs cn k s = if s = (2, k) then cn (2, k) ++ [Vm ms (c k) k] else if s ∈ (goingN bs k).map (fun j => ((0, j) : Sl)) then (if s ∈ srcs hs bs k then (cn s).tail else cn s) ++ [Vm ms (c k) k] else if s ∈ srcs hs bs k then (cn s).tail else cn s := fun s => by
    show (if s = (2, k) then cn (2, k) ++ [wkV hs bs cn k] else if s ∈ ((goingN bs k).take (goingN bs k).length).map (fun j => ((0, j) : Sl)) then popC hs bs cn k (srcs hs bs k).length s ++ [wkV hs bs cn k] else popC hs bs cn k (srcs hs bs k).length s) = _
    rw [List.take_length, ev, pop]
  have ng : ∀ {s : Sl}, s.1 ≠ 0 → s ∉ (goingN bs k).map (fun j => ((0, j) : Sl)) := fun h z => by
    obtain ⟨x, _, e⟩ := List.mem_map.mp z
    exact h (congrArg Prod.fst e).symm
  have ns2 : ∀ {j : Nat}, ((2, j) : Sl) ∉ srcs hs bs k := fun {j} z => by
    rcases srcs_vs _ z with ⟨h, _⟩ | ⟨h, _⟩ | ⟨_, _⟩
    · exact absurd (show (2 : Nat) = 0 from h) (by decide)
    · exact absurd (show (2 : Nat) = 1 from h) (by decide)
    · unfold srcs at z
      split at z
      · exact absurd (show (2 : Nat) = 1 from congrArg Prod.fst (List.mem_singleton.mp z)) (by decide)
      · obtain ⟨x, _, e⟩ := List.mem_map.mp z
        exact absurd (show (0 : Nat) = 2 from congrArg Prod.fst e) (by decide)
  refine ⟨fun j hj => ?_, fun j hj => ?_, fun j b eb => ?_, fun i j ei => ?_, a.row⟩
  · show (if j = k then c k + 1 else c j) ≤ _
    split
    · omega
    · exact a.top j hj
  · rw [full]
    show _ = (ms.take (if j = k then c k + 1 else c j)).map fun m => gD m j
    by_cases z : j = k
    · subst z
      rw [if_pos rfl, if_pos rfl, take_one ck, a.don _ hj]
    · rw [if_neg (fun y => z (congrArg Prod.snd y)), if_neg z, if_neg (ng (by show (2 : Nat) ≠ 0; decide)), if_neg ns2, a.don j hj]
  · obtain ⟨le, e⟩ := a.lie j b eb
    obtain ⟨o1, o2⟩ := ok.ends b (List.mem_of_getElem? eb)
    have t1 := a.top _ o1
    rw [full, if_neg (fun y => absurd (show (0 : Nat) = 2 from congrArg Prod.fst y) (by decide))]
    show (if b.to = k then c k + 1 else c b.to) ≤ b.th.length + (if b.one = k then c k + 1 else c b.one) ∧ _ = (b.th ++ (ms.take (if b.one = k then c k + 1 else c b.one)).map fun m => gD m b.one).drop (if b.to = k then c k + 1 else c b.to)
    have lX : (b.th ++ (ms.take (c b.one)).map fun m => gD m b.one).length = b.th.length + c b.one := by rw [List.length_append, List.length_map, List.length_take]; omega
    have part : (if ((0, j) : Sl) ∈ srcs hs bs k then (cn (0, j)).tail else cn (0, j)) = (b.th ++ (ms.take (c b.one)).map fun m => gD m b.one).drop (if b.to = k then c k + 1 else c b.to) ∧ (if b.to = k then c k + 1 else c b.to) ≤ b.th.length + c b.one := by
      by_cases t : b.to = k
      · have r1 := rd _ ((in_srcs ok eb).mpr t)
        rw [e] at r1
        obtain ⟨l1, _, h2⟩ := head_drop r1
        rw [if_pos ((in_srcs ok eb).mpr t), if_pos t, e, h2, t]
        rw [lX, t] at l1
        exact ⟨rfl, by omega⟩
      · rw [if_neg fun z => t ((in_srcs ok eb).mp z), if_neg t]
        exact ⟨e, le⟩
    by_cases g : b.one = k
    · rw [if_pos ((in_going eb).mpr g), part.1, if_pos g]
      have p2 := part.2
      rw [g] at p2 lX ⊢
      refine ⟨by omega, ?_⟩
      rw [take_one ck, ← List.append_assoc]
      exact (List.drop_append_of_le_length (by rw [lX]; exact p2)).symm
    · rw [if_neg fun z => g ((in_going eb).mp z), part.1, if_neg g]
      exact ⟨part.2, rfl⟩
  · obtain ⟨le, e⟩ := a.giv i j ei
    rw [full, if_neg (fun y => absurd (show (1 : Nat) = 2 from congrArg Prod.fst y) (by decide)), if_neg (ng (by show (1 : Nat) ≠ 0; decide))]
    show (if j = k then c k + 1 else c j) ≤ G ∧ _ = ((rows.take G).map fun r => gD r i).drop (if j = k then c k + 1 else c j)
    have jd := List.mem_of_getElem? ei
    by_cases z : j = k
    · subst z
      have sm : ((1, j) : Sl) ∈ srcs hs bs j := by unfold srcs; rw [if_pos jd]; exact List.mem_singleton.mpr rfl
      have r1 := rd _ sm
      rw [e] at r1
      obtain ⟨l1, _, h2⟩ := head_drop r1
      rw [List.length_map, List.length_take] at l1
      rw [if_pos rfl, if_pos sm, e, h2]
      exact ⟨by omega, rfl⟩
    · have sm : ((1, j) : Sl) ∉ srcs hs bs k := fun y => by
        unfold srcs at y
        split at y
        · exact z (congrArg Prod.snd (List.mem_singleton.mp y))
        · obtain ⟨x, _, e⟩ := List.mem_map.mp y
          exact absurd (show (0 : Nat) = 1 from congrArg Prod.fst e) (by decide)
      rw [if_neg z, if_neg sm]
      exact ⟨le, e⟩
/-- given rows more -/
def gvC (hs : List HR) (cn : Sl → List Int) (R : List (List Int)) (t i : Nat) : Sl → List Int := fun s => if s.1 = 1 ∧ s.2 ∈ doorsOf "in" hs then cn s ++ ((R.take t).map fun r => gD r ((doorsOf "in" hs).idxOf s.2)) ++ (if (doorsOf "in" hs).idxOf s.2 < i then [gD (R.getD t []) ((doorsOf "in" hs).idxOf s.2)] else []) else cn s
theorem Cn59.give {hs : List HR} {bs : List BR} {rows ms R : List (List Int)} {G : Nat} {c : Nat → Nat} {cn : Sl → List Int} (a : Cn59 hs bs rows ms G c cn) (l : G + R.length ≤ rows.length) (e : R = (rows.drop G).take R.length) : Cn59 hs bs rows ms (G + R.length) c (gvC hs cn R R.length 0) := by
  refine ⟨a.top, fun k hk => ?_, fun j b eb => ?_, fun i k ei => ?_, l⟩
  · rw [show gvC hs cn R R.length 0 (2, k) = cn (2, k) from if_neg fun z => absurd (show (2 : Nat) = 1 from z.1) (by decide)]
    exact a.don k hk
  · rw [show gvC hs cn R R.length 0 (0, j) = cn (0, j) from if_neg fun z => absurd (show (0 : Nat) = 1 from z.1) (by decide)]
    exact a.lie j b eb
  · obtain ⟨le, e1⟩ := a.giv i k ei
    have kd := List.mem_of_getElem? ei
    have ix := idx_at doors_nodup ei
    refine ⟨by omega, ?_⟩
    rw [show gvC hs cn R R.length 0 (1, k) = cn (1, k) ++ ((R.take R.length).map fun r => gD r ((doorsOf "in" hs).idxOf k)) ++ (if (doorsOf "in" hs).idxOf k < 0 then [gD (R.getD R.length []) ((doorsOf "in" hs).idxOf k)] else []) from if_pos ⟨rfl, kd⟩, if_neg (Nat.not_lt_zero _), List.append_nil, List.take_length, ix, e1]
    have lr := a.row
    have e2 : rows.take (G + R.length) = rows.take G ++ R := by rw [List.take_add, ← e]
    rw [e2, List.map_append, List.drop_append_of_le_length (by rw [List.length_map, List.length_take]; omega)]
theorem Cn59.start {hs : List HR} {bs : List BR} {rows ms : List (List Int)} : Cn59 hs bs rows ms 0 (fun _ => 0) (cn0 bs) := by
  refine ⟨fun _ _ => Nat.zero_le _, fun k _ => ?_, fun j b eb => ⟨Nat.zero_le _, ?_⟩, fun i k ei => ⟨Nat.le_refl _, ?_⟩, Nat.zero_le _⟩
  · rw [List.take_zero]; rfl
  · rw [List.take_zero, List.map_nil, List.append_nil, List.drop_zero]
    show (match bs[j]? with | some b => b.th | none => []) = _
    rw [eb]
  · rw [List.take_zero]; rfl
theorem Cn59.len {hs : List HR} {bs : List BR} {rows ms : List (List Int)} {G : Nat} {c : Nat → Nat} {cn : Sl → List Int} (a : Cn59 hs bs rows ms G c cn) (ok : RoomOk hs bs) (l6 : ∀ b ∈ bs, b.th.length ≤ 6) (lm : ms.length ≤ 60) (lr : rows.length ≤ 60) {s : Sl} (v : VS hs bs s) : (cn s).length ≤ 100 := by
  obtain ⟨x, j⟩ := s
  rcases v with ⟨z, jl⟩ | ⟨z, jd⟩ | ⟨z, jl⟩
  · obtain rfl : x = 0 := z
    have jl : j < bs.length := jl
    have eb : bs[j]? = some bs[j] := List.getElem?_eq_getElem jl
    obtain ⟨_, e⟩ := a.lie j _ eb
    have := l6 _ (List.getElem_mem jl)
    rw [e, List.length_drop, List.length_append, List.length_map, List.length_take]
    omega
  · obtain rfl : x = 1 := z
    obtain ⟨i, ei⟩ := List.getElem?_of_mem jd
    obtain ⟨_, e⟩ := a.giv i _ ei
    rw [e, List.length_drop, List.length_map, List.length_take]
    omega
  · obtain rfl : x = 2 := z
    rw [a.don j jl, List.length_map, List.length_take]
    omega
theorem lev_set {n : Nat} {f : Nat → Int} {j : Nat} {z : Int} (hj : j < n) : (levL n f).set j (V.int z) = levL n fun k => if k = j then z else f k := by
  refine List.ext_getElem? fun m => ?_
  by_cases e : m = j
  · subst e
    rw [List.getElem?_set_self (by rw [List.length_map, List.length_range]; exact hj), rg_at hj]
    show _ = some (V.int (if m = m then z else f m))
    rw [if_pos rfl]
  · rw [List.getElem?_set_ne (fun z => e z.symm)]
    by_cases l : m < n
    · rw [rg_at l, rg_at l]
      show _ = some (V.int (if m = j then z else f m))
      rw [if_neg e]
    · rw [List.getElem?_eq_none (by rw [List.length_map, List.length_range]; omega), List.getElem?_eq_none (by rw [List.length_map, List.length_range]; omega)]

theorem Bt.lst {tg : Addr → Option Sl} {H H' : Hp} {p : Addr} {xs : List V} (b : Bt tg H H') (e : H p = some (.lst xs)) (n : tg p = none) : H' p = some (.lst xs) := b _ _ e n
theorem gvC_len {hs : List HR} {cn : Sl → List Int} {R : List (List Int)} {t i n : Nat} {s : Sl} (h : (cn s).length ≤ n) : (gvC hs cn R t i s).length ≤ n + t + 1 := by
  unfold gvC
  split
  · rw [List.length_append, List.length_append, List.length_map, List.length_take]
    split
    · show _ + _ + 1 ≤ _
      omega
    · show _ + _ + 0 ≤ _
      omega
  · omega
theorem gvC_one {hs : List HR} {cn : Sl → List Int} {R : List (List Int)} {t i k : Nat} {row : List Int} (ei : (doorsOf "in" hs)[i]? = some k) (er : R[t]? = some row) : putS (gvC hs cn R t i) (1, k) (gvC hs cn R t i (1, k) ++ [gD row i]) = gvC hs cn R t (i + 1) := by
  have kd := List.mem_of_getElem? ei
  have ix := idx_at doors_nodup ei
  have rw1 : R.getD t [] = row := getD_at er
  funext s
  show (if s = (1, k) then gvC hs cn R t i (1, k) ++ [gD row i] else gvC hs cn R t i s) = _
  by_cases z : s = (1, k)
  · subst z
    rw [if_pos rfl]
    have e : ∀ i', gvC hs cn R t i' (1, k) = cn (1, k) ++ ((R.take t).map fun r => gD r i) ++ (if i < i' then [gD row i] else []) := fun i' => by
      have h : gvC hs cn R t i' (1, k) = cn (1, k) ++ ((R.take t).map fun r => gD r ((doorsOf "in" hs).idxOf k)) ++ (if (doorsOf "in" hs).idxOf k < i' then [gD (R.getD t []) ((doorsOf "in" hs).idxOf k)] else []) := if_pos ⟨rfl, kd⟩
      rw [h, ix, rw1]
    rw [e i, e (i + 1), if_neg (Nat.lt_irrefl i), if_pos (Nat.lt_succ_self i), List.append_nil]
  · rw [if_neg z]
    unfold gvC
    by_cases y : s.1 = 1 ∧ s.2 ∈ doorsOf "in" hs
    · rw [if_pos y, if_pos y]
      have ne : (doorsOf "in" hs).idxOf s.2 ≠ i := fun w => by
        obtain ⟨i', ei'⟩ := List.getElem?_of_mem y.2
        have ix' := idx_at doors_nodup ei'
        rw [ix'] at w
        rw [w, ei] at ei'
        exact z (Prod.ext y.1 (Option.some.inj ei').symm)
      by_cases w : (doorsOf "in" hs).idxOf s.2 < i
      · rw [if_pos w, if_pos (by omega)]
      · rw [if_neg w, if_neg (by omega)]
    · rw [if_neg y, if_neg y]
theorem gvC_row {hs : List HR} {cn : Sl → List Int} {R : List (List Int)} {t : Nat} {row : List Int} (er : R[t]? = some row) : gvC hs cn R t (doorsOf "in" hs).length = gvC hs cn R (t + 1) 0 := by
  funext s
  unfold gvC
  by_cases y : s.1 = 1 ∧ s.2 ∈ doorsOf "in" hs
  · rw [if_pos y, if_pos y, if_pos (List.idxOf_lt_length_of_mem y.2), if_neg (Nat.not_lt_zero _), List.append_nil, List.take_add_one, er, List.map_append, getD_at er, List.append_assoc]
    rfl
  · rw [if_neg y, if_neg y]
theorem gvC_zero {hs : List HR} {cn : Sl → List Int} {R : List (List Int)} : gvC hs cn R 0 0 = cn := by
  funext s
  unfold gvC
  split
  · rw [List.take_zero, if_neg (Nat.not_lt_zero _), List.append_nil]
    exact List.append_nil _
  · rfl
section
variable {P : Program} {w : World} {K : PySem.W.Frag} {mg : Str → Option Value} {base : Heap}
def sp_law_give_all (K : PySem.W.Frag) (C : Addr) : Sp := fun vs H Q _ => ∃ (F r a : Addr) (hs : List HR) (bs : List BR) (cn : Sl → List Int) (tg : Addr → Option Sl) (rv : List V) (R : List (List Int)), vs = [.ref F, .ref r, .ref a] ∧ FlAt C H F hs bs cn tg ∧ RoomAt H r hs bs ∧ RoomOk hs bs ∧ H a = some (.lst rv) ∧ tg a = none ∧ All2 (RowAt H) rv R ∧ (∀ x ∈ R, x.length = (doorsOf "in" hs).length) ∧ (∀ s, VS hs bs s → (cn s).length ≤ 400) ∧ R.length ≤ 100 ∧
  ∀ H', FlAt C H' F hs bs (gvC hs cn R R.length 0) tg → Bt tg H H' → Q .non H'
theorem ok_law_give_all {f : Addr} {fd : FuncData} (F : Fun K "_law_give_all" "_law_give_all" s_law_give_all f fd) {C : Addr} (T : Top K mg C) : FnOk P w K mg base CX0 2 f fd ["_law_floor", "_law_room_here", "_law_rows_here"] (sp_law_give_all K C) := by
  obtain ⟨f_law_doors, fd_law_doors, F_law_doors, b_law_doors, m_law_doors⟩ := T.d_law_doors
  have G_law_doors := ok_law_doors (P := P) (w := w) (base := base) F_law_doors T
  obtain ⟨f_Floor_give, fd_Floor_give, F_Floor_give, b_Floor_give, m_Floor_give⟩ := T.d_Floor_give
  have G_Floor_give := ok_Floor_give (P := P) (w := w) (base := base) F_Floor_give T
  refine F.ok sc_law_give_all (fun vs H Q E h => ?_) (fun cdv A outer s H vs Q E hr h => ?_)
  · obtain ⟨F, r, a, hs, bs, cn, tg, rv, R, rfl, _⟩ := h
    rfl
  obtain ⟨F, r, a, hs, bs, cn, tg, rv, R, rfl, fl, hR, ok, ha, ta, al, wid, len, lR, q⟩ := h
  have lrv := al.length
  refine ⟨_, (pss_cons (ps_set (i := 3) sc_law_give_all.nd rfl (Or.inl rfl) (pe_call G_law_doors (hr.mono (by decide)) (by rfl) m_law_doors F_law_doors.kp b_law_doors .nil pass0 (pa_cons (pv 1) (pa_cons pe_str pa_nil))))
      (pss_one (ps_for PassesOwn.never rfl (pi_listK K rfl (pv 2)) (pg_name (i := 4) sc_law_give_all.nd rfl (Or.inl rfl))
        (pss_one (ps_for PassesOwn.never rfl (pi_zipLT K rfl (by rfl) T.m_zip (pa_cons (pv 3) (pa_cons (pv 4) pa_nil))) (pg_tupK K rfl rfl (pgs_cons (pg_name (i := 5) sc_law_give_all.nd rfl (Or.inl rfl)) (pgs_cons (pg_name (i := 6) sc_law_give_all.nd rfl (Or.inl rfl)) pgs_nil)))
        (pss_one (ps_expr (pe_meth (pv 0) T.cl m_Floor_give G_Floor_give (hr.mono (by decide)) b_Floor_give .nil pass0 (pa_cons (pv 5) (pa_cons (pv 6) pa_nil)))))))))), ?_⟩
  refine ⟨_, rfl, r, hs, bs, "in", rfl, .inl rfl, hR, ⟨ok.hands, ok.good⟩, fun D H1 nD hD s1 => ?_⟩
  have tD : tg D = none := fl.own.free nD
  have fl1 := fl.kp (Kp.same s1)
  refine ⟨_, rfl, a, rfl, ⟨_, SqL.of (s1 _ _ ha)⟩, for_list (K := K) (a := a) (xs := rv) (fun t σ H5 => ∃ v4 v5 v6 : Option V, σ = [some (.ref F), some (.ref r), some (.ref a), some (.ref D), v4, v5, v6] ∧ FlAt C H5 F hs bs (gvC hs cn R t 0) tg ∧ Bt tg H1 H5) ⟨none, none, none, rfl, by rw [gvC_zero]; exact fl1, Bt.refl⟩ (fun t σ H5 _ ⟨_, _, _, _, _, b5⟩ => SqL.of (b5 _ _ (s1 _ _ ha) ta)) ?_ ?_⟩
  · rintro t x σ H5 hx ⟨v4, v5, v6, rfl, fl5, b5⟩
    have k5 : TK H H5 := (TK.same s1).trans (b5.tk fl1.own)
    obtain ⟨row, er, tr, rfl, htr⟩ := (al.imp fun _ _ z => z.keep k5).getL hx
    have lrow := wid row (List.mem_of_getElem? er)
    have tl := (List.getElem?_eq_some_iff.mp er).1
    have hD5 := b5 _ _ hD tD
    refine ⟨_, rfl, _, rfl, D, tr, _, _, rfl, SqL.of hD5, SqT.of htr, for_it (n := (doorsOf "in" hs).length) (fun i σ H6 => ∃ v5 v6 : Option V, σ = [some (.ref F), some (.ref r), some (.ref a), some (.ref D), some (.ref tr), v5, v6] ∧ FlAt C H6 F hs bs (gvC hs cn R t i) tg ∧ H6 D = some (.lst ((doorsOf "in" hs).map nV)) ∧ H6 tr = some (.tup (row.map V.int)) ∧ Bt tg H1 H6) ⟨v5, v6, rfl, fl5, hD5, htr, b5⟩ ?_ ?_ ?_ ?_⟩
    · rintro i σ H6 hi ⟨v5, v6, rfl, fl6, hD6, ht6, b6⟩
      exact ⟨SqL.of hD6, SqT.of ht6, by rw [List.length_map]; exact hi, by rw [List.length_map]; omega⟩
    · rintro σ H6 ⟨v5, v6, rfl, fl6, hD6, ht6, b6⟩
      exact ⟨SqL.of hD6, SqT.of ht6, by rw [List.length_map]; exact Nat.le_refl _, by rw [List.length_map]; omega, .inl (by rw [List.length_map])⟩
    · rintro i x σ H6 H7 hi ⟨v5, v6, rfl, fl6, hD6, ht6, b6⟩ ⟨T', x1, y1, rfl, nT, rfl, hx1, hy1⟩
      obtain ⟨k, ek, rfl⟩ := nats_at hx1
      have kd := List.mem_of_getElem? ek
      obtain ⟨h0, eh, _⟩ := mem_doors.mp kd
      have kl := (List.getElem?_eq_some_iff.mp eh).1
      obtain rfl : V.int (gD row i) = y1 := by
        have il : i < row.length := by omega
        rw [List.getElem?_map, gD_get il] at hy1
        exact Option.some.inj hy1
      have u := same_new (o := .tup [nV k, V.int (gD row i)]) nT
      have hT' : (upd H6 T' (.tup [nV k, V.int (gD row i)])) T' = some (.tup [nV k, V.int (gD row i)]) := upd_same
      have fl7 := fl6.kp (Kp.same u)
      obtain ⟨p, a7⟩ := fl7.b
      have vs : VS hs bs (1, k) := .inr (.inl ⟨rfl, kd⟩)
      have ln := gvC_len (hs := hs) (R := R) (t := t) (i := i) (len _ vs)
      refine ⟨T', _, rfl, SqT.of hT', rfl, _, _, rfl, _, _, rfl, rfl, ?_⟩
      refine ⟨_, rfl, F, p.dx, _, rfl, a7.hF, rfl, _, rfl, _, rfl, F, hs, bs, _, tg, k, gD row i, rfl, fl7, kl, kd, by omega, fun H8 fl8 b8 => ?_⟩
      rw [gvC_one ek er] at fl8
      have b68 : Bt tg H6 H8 := (Bt.refl.same u).trans b8
      exact ⟨_, _, rfl, fl8, b68 _ _ hD6 tD, b68 _ _ ht6 (fl6.own.tup ht6 fun _ z => nomatch z), b6.trans b68⟩
    · rintro σ H6 ⟨v5, v6, rfl, fl6, hD6, ht6, b6⟩
      rw [gvC_row er] at fl6
      exact ⟨_, _, _, rfl, fl6, b6⟩
  · rintro σ H5 ⟨v4, v5, v6, rfl, fl5, b5⟩
    rw [lrv] at fl5
    exact q H5 fl5 ((Bt.refl.same s1).trans b5)
end
theorem log_sm {n : Nat} (h : n ≤ 1000) : ((n : Nat) : Int).natAbs.log2 < 9000 := by
  rw [Int.natAbs_natCast]
  exact Nat.lt_of_le_of_lt (Nat.log2_le_self n) (by omega)
theorem lev_len {n : Nat} {sh : Nat → Int} : (levL n sh).length = n := by rw [List.length_map, List.length_range]
theorem lev_set33 {n k : Nat} {sh : Nat → Int} {v : Int} (h : k < n) : ((levL n sh).take k ++ [V.int v]) ++ (levL n sh).drop (k + 1) = levL n (fun p => if p = k then v else sh p) := by
  have lt : ((levL n sh).take k).length = k := by rw [List.length_take, lev_len]; omega
  refine List.ext_getElem? fun i => ?_
  by_cases il : i < n
  · rw [rg_at (f := fun p => V.int (if p = k then v else sh p)) il]
    by_cases c1 : i < k
    · rw [List.append_assoc, List.getElem?_append_left (by omega), List.getElem?_take_of_lt c1, rg_at il, if_neg (by omega)]
    · by_cases c2 : i = k
      · subst c2
        rw [List.append_assoc, List.getElem?_append_right (by omega), lt, Nat.sub_self, if_pos rfl]
        rfl
      · rw [List.getElem?_append_right (by rw [List.length_append, lt]; show k + 1 ≤ i; omega), List.length_append, lt, List.getElem?_drop]
        show (levL n sh)[k + 1 + (i - (k + 1))]? = _
        rw [show k + 1 + (i - (k + 1)) = i by omega, rg_at il, if_neg c2]
  · rw [List.getElem?_eq_none (by rw [List.length_append, List.length_append, lt, List.length_drop, lev_len]; show k + 1 + (n - (k + 1)) ≤ i; omega), List.getElem?_eq_none (by rw [lev_len]; omega)]
theorem abs20 {a : Int} (h : decide ((if a < 0 then -a else a) ≤ 20) = true) : -20 ≤ a ∧ a ≤ 20 := by
  have := of_decide_eq_true h
  split at this <;> omega
/-- how far apart shifts are -/
def Apart (n : Int) (sh : Nat → Int) : Prop := ∀ i j, sh i - sh j ≤ n
theorem one_eqv (h : HR) (z : Str) : PyData.eqv (.tuple [.str z]) (.tuple (ruleD h)) = (decide (h.wd = z) && h.no.isNone) := by
  obtain ⟨wd, no, mom⟩ := h
  have e : (z == wd) = decide (wd = z) := by
    by_cases k : wd = z
    · rw [k, decide_eq_true rfl]; exact beq_self_eq_true z
    · rw [decide_eq_false k]; exact beq_eq_false_iff_ne.mpr fun y => k y.symm
  cases no with
  | none => show (z == wd && true) = (decide (wd = z) && true); rw [e]
  | some n => show (z == wd && false) = (decide (wd = z) && false); rw [Bool.and_false, Bool.and_false]
section
variable {P : Program} {w : World} {K : PySem.W.Frag} {mg : Str → Option Value} {base : Heap}
def sp_law_moved (K : PySem.W.Frag) : Sp := fun vs H Q _ => ∃ (r sl : Addr) (hs : List HR) (bs : List BR) (sh : Nat → Int), vs = [.ref r, .ref sl] ∧ RoomAt H r hs bs ∧ RoomOk hs bs ∧ H sl = some (.lst (levL hs.length sh)) ∧
  ∀ (p : Addr) (H' : Hp), H p = none → H' p = some (.lst (bs.map fun b => V.int (trS sh b))) → Same H H' → Q (.ref p) H'
theorem ok_law_moved {f : Addr} {fd : FuncData} (F : Fun K "_law_moved" "_law_moved" s_law_moved f fd) {C : Addr} (T : Top K mg C) : FnOk P w K mg base CX0 1 f fd ["_law_room_here", "_law_shifts"] (sp_law_moved K) := by
  refine F.ok sc_law_moved (fun vs H Q E h => ?_) (fun cdv A outer s H vs Q E hr h => ?_)
  · obtain ⟨r, sl, hs, bs, sh, rfl, _⟩ := h
    rfl
  obtain ⟨r, sl, hs, bs, sh, rfl, hR, ok, hsl, q⟩ := h
  obtain ⟨ha, ba, hv, bv, er, eh, eb, alh, alb⟩ := hR.ex
  have lbv := alb.length
  have lb := ok.many
  refine ⟨_, (pss_one (ps_ret (pe_lc (own := [("_law_one", 2), ("_law_to", 3), ("_law_things", 4)]) (g := gTup K 3 (gCons (gName 2) (gCons (gName 3) (gCons (gName 4) gNil)))) (tt := tYes) (by rfl) sc_law_moved.nd (pi_tupK K rfl (pe_ix (ix_tupK K rfl) (pv 0) pe_int (fun _ _ => rfl))) (blkOk_by (own := [("_law_one", 2), ("_law_to", 3), ("_law_things", 4)]) (N := N_law_moved) (sc := defScope s_law_moved) (by decide +kernel)) (fun _ _ _ _ _ => (pg_tupK K rfl rfl (pgs_cons (pg_name (i := 2) sc_law_moved.nd rfl (Or.inl rfl)) (pgs_cons (pg_name (i := 3) sc_law_moved.nd rfl (Or.inl rfl)) (pgs_cons (pg_name (i := 4) sc_law_moved.nd rfl (Or.inl rfl)) pgs_nil))))) (fun _ _ _ _ _ => pts_nil) (fun _ _ _ _ _ => (pe_op op_sub (pe_op op_add (pe_callB (call_len_seqK K rfl) (by rfl) T.m_len (by decide +kernel) (pa_cons (pv 4) pa_nil)) (pe_ix (ix_listK K rfl) (pv 1) (pv 3) (fun _ _ => rfl))) (pe_ix (ix_listK K rfl) (pv 1) (pv 2) (fun _ _ => rfl))))))), ?_⟩
  refine ⟨_, rfl, r, _, _, _, rfl, rfl, SqT.of er, atI_nat (j := 1) rfl, ba, rfl, ⟨_, SqT.of eb⟩, fun D nD => lc_tup (K := K) (a := ba) (xs := bv) (fun i H5 => H5 D = some (.lst ((bs.take i).map fun b => V.int (trS sh b))) ∧ Same H H5) ⟨upd_same, same_new nD⟩ (fun i H5 _ ⟨_, s5⟩ => SqT.of (s5 _ _ eb)) ?_ ?_⟩
  · rintro i x H5 hx ⟨hD, s5⟩
    obtain ⟨b, ebi, ⟨t, g, rfl, e1, e2⟩⟩ := alb.getL hx
    have il := (List.getElem?_eq_some_iff.mp ebi).1
    obtain ⟨l1, l2⟩ := ok.ends b (List.mem_of_getElem? ebi)
    refine ⟨t, _, rfl, SqT.of (s5 _ _ e1), rfl, ?_⟩
    refine ⟨_, _, rfl, ?_⟩
    refine ⟨_, _, rfl, ?_⟩
    refine ⟨_, _, rfl, rfl, ?_⟩
    refine ⟨rfl, yes_in ?_⟩
    refine ⟨_, rfl, g, _, rfl, .inr (SqT.of (s5 _ _ e2)), _, rfl, _, rfl, sl, _, _, _, rfl, rfl, SqL.of (s5 _ _ hsl), atI_nat (rg_at l2), _, _, rfl, rfl, _, rfl, _, rfl, sl, _, _, _, rfl, rfl, SqL.of (s5 _ _ hsl), atI_nat (rg_at l1), _, _, rfl, rfl, _, hD, by rw [List.length_map, List.length_take]; exact small1000 (by omega), ?_, Same.own s5 nD⟩
    rw [upd_same, List.take_add_one, ebi, List.map_append, List.length_map]
    rfl
  · rintro H5 ⟨hD, s5⟩
    rw [lbv, List.take_length] at hD
    exact q D H5 nD hD s5
/-- the law's drawn shifts: let by, and no more than twenty either way at hands -/
def sp_law_drawn_shifts (K : PySem.W.Frag) : Sp := fun vs H Q _ => ∃ (f c r : Addr) (hs : List HR) (bs : List BR) (late many : Int), vs = [.ref f, .ref r, .int late, .int many] ∧ Flow H f c ∧ RoomAt H r hs bs ∧ RoomOk hs bs ∧ (∃ h ∈ hs, h.wd ≠ "out" ∧ h.wd ≠ "in") ∧ 0 ≤ late ∧ late ≤ 3 ∧ 0 ≤ many ∧ many ≤ 100 ∧
  ∀ (p : Addr) (sh : Nat → Int) (H' : Hp), H' p = some (.tup (levL hs.length sh)) → Good33 hs bs late sh → Bd 20 sh → Apart (3 + many) sh → Flow H' f c → But f H H' → Q (.ref p) H'
theorem ok_law_drawn_shifts {f : Addr} {fd : FuncData} (F : Fun K "_law_drawn_shifts" "_law_drawn_shifts" s_law_drawn_shifts f fd) {C : Addr} (T : Top K mg C) : FnOk P w K mg base CX0 2 f fd ["_law_flow_here", "_law_room_here", "_law_late", "_law_many"] (sp_law_drawn_shifts K) := by
  obtain ⟨f_law_pick, fd_law_pick, F_law_pick, b_law_pick, m_law_pick⟩ := T.d_law_pick
  have G_law_pick := ok_law_pick (P := P) (w := w) (base := base) F_law_pick T
  obtain ⟨f_law_moved, fd_law_moved, F_law_moved, b_law_moved, m_law_moved⟩ := T.d_law_moved
  have G_law_moved := ok_law_moved (P := P) (w := w) (base := base) F_law_moved T
  refine F.ok sc_law_drawn_shifts (fun vs H Q E h => ?_) (fun cdv A outer s H vs Q E hr h => ?_)
  · obtain ⟨f, c, r, hs, bs, late, many, rfl, _⟩ := h
    rfl
  obtain ⟨f, c, r, hs, bs, late, many, rfl, hF, hR, ok, some1, l0, l6, m0, m1, q⟩ := h
  obtain ⟨ha, ba, hv, bv, er, eh, eb, alh, alb⟩ := hR.ex
  have lhv := alh.length
  have lh := ok.hands
  let R1 : TS := fun D' σ' H' => D'.rt = Q ∧ ∃ (fl : Addr), σ' = [some (.ref f), some (.ref r), some (.int late), some (.int many), some (.ref ha), some (.ref fl), none, none, none, none, none] ∧ H' fl = some (.lst (levL hs.length fun k => if hs[k]?.map HR.wd = some ("in" : Str) then 0 else late)) ∧ fl ≠ f ∧ fl ≠ c ∧ Flow H' f c ∧ But f H H'
  let R2 : TS := fun D' σ' H' => D'.rt = Q ∧ ∃ (fl gl : Addr) (fr : List Nat), σ' = [some (.ref f), some (.ref r), some (.int late), some (.int many), some (.ref ha), some (.ref fl), none, some (.ref gl), none, none, none] ∧ H' fl = some (.lst (levL hs.length fun k => if hs[k]?.map HR.wd = some ("in" : Str) then 0 else late)) ∧ fl ≠ f ∧ fl ≠ c ∧ H' gl = some (.lst (fr.map nV)) ∧ gl ≠ f ∧ gl ≠ c ∧ fr ≠ [] ∧ fr.length ≤ 12 ∧ (∀ k ∈ fr, k < hs.length ∧ k ∉ doorsOf "in" hs ∧ k ∉ doorsOf "out" hs) ∧ Flow H' f c ∧ But f H H'
  refine ⟨_, (pss_cons (ps_set (i := 4) sc_law_drawn_shifts.nd rfl (Or.inr rfl) (pe_ix (ix_tupK K rfl) (pv 1) pe_int (fun _ _ => rfl)))
      (pss_cons (ps_setLc (i := 5) (own := [("_law_hand", 6)]) (g := gName 6) (tt := tYes) (by rfl) sc_law_drawn_shifts.nd rfl rfl (sw_true rfl rfl rfl (by decide +kernel)) (pi_tupK K rfl (pv 4)) (blkOk_by (own := [("_law_hand", 6)]) (N := N_law_drawn_shifts) (sc := defScope s_law_drawn_shifts) (by decide +kernel)) (fun _ _ _ _ _ => (pg_name (i := 6) sc_law_drawn_shifts.nd rfl (Or.inl rfl))) (fun _ _ _ _ _ => pts_nil) (fun _ _ _ _ _ => (pe_op op_mul (pv 2) (pe_callTy call_int1 (by rfl) T.m_int (by decide +kernel) (pa_cons (pe_cmpR (op_neDK K rfl hr.units) (pe_ix (ix_tupK K rfl) (pv 6) pe_int (fun _ _ => rfl)) (pe_tup (pa_cons pe_str pa_nil)) (nomark _)) pa_nil)))))
      (PSs.to (pss_cons (ps_setLc (i := 7) (own := [("_law_k", 8)]) (g := gName 8) (by rfl) sc_law_drawn_shifts.nd rfl rfl (sw_true rfl rfl rfl (by decide +kernel)) (pi_range1 (by rfl) T.m_range (pa_cons (pe_callB (call_len_seqK K rfl) (by rfl) T.m_len (by decide +kernel) (pa_cons (pv 4) pa_nil)) pa_nil)) (blkOk_by (own := [("_law_k", 8)]) (N := N_law_drawn_shifts) (sc := defScope s_law_drawn_shifts) (by decide +kernel)) (fun _ _ _ _ _ => (pg_name (i := 8) sc_law_drawn_shifts.nd rfl (Or.inl rfl))) (fun _ _ _ _ _ => pts_one (pt_cmpR (op_notInDTK K rfl (hu65 hr)) (pe_ix (ix_tupK K rfl) (pe_ix (ix_tupK K rfl) (pv 4) (pv 8) (fun _ _ => rfl)) pe_int (fun _ _ => rfl)) (pe_tup (pa_cons (pe_tup (pa_cons pe_str pa_nil)) (pa_cons (pe_tup (pa_cons pe_str pa_nil)) pa_nil))) (by with_unfolding_all rfl))) (fun _ _ _ _ _ => (pv 8)))
      (PSs.to (pss_cons (ps_for PassesOwn.never rfl (pi_range1 (by rfl) T.m_range (pa_cons (pv 3) pa_nil)) (pg_name (i := 9) sc_law_drawn_shifts.nd rfl (Or.inl rfl))
        (pss_cons (ps_set (i := 8) sc_law_drawn_shifts.nd rfl (Or.inl rfl) (pe_ix (ix_listK K rfl) (pv 7) (pe_call G_law_pick (hr.mono (by decide)) (by rfl) m_law_pick F_law_pick.kp b_law_pick .nil pass0 (pa_cons (pv 0) (pa_cons (pe_callB (call_len_seqK K rfl) (by rfl) T.m_len (by decide +kernel) (pa_cons (pv 7) pa_nil)) pa_nil))) (fun _ _ => rfl)))
      (pss_cons (ps_set (i := 10) sc_law_drawn_shifts.nd rfl (Or.inl rfl) (pe_op op_cat (pe_op op_cat (pe_slice (sl_listK K rfl) (pv 5) po_none (po_some (pv 8))) (pe_lst (pa_cons (pe_op op_sub (pe_op op_add (pe_ix (ix_listK K rfl) (pv 5) (pv 8) (fun _ _ => rfl)) pe_int) (pe_op op_mul pe_int (pe_call G_law_pick (hr.mono (by decide)) (by rfl) m_law_pick F_law_pick.kp b_law_pick .nil pass0 (pa_cons (pv 0) (pa_cons pe_int pa_nil))))) pa_nil))) (pe_slice (sl_listK K rfl) (pv 5) (po_some (pe_op op_add (pv 8) pe_int)) po_none)))
      (pss_one (ps_if (PW.pt (pw_and (pt_cmpR op_eq (pe_callB (cr_minKK K rfl rfl) (by rfl) T.m_min (by decide +kernel) (pa_cons (pe_op op_cat (pe_lst (pa_cons pe_int pa_nil)) (pe_call G_law_moved (hr.mono (by decide)) (by rfl) m_law_moved F_law_moved.kp b_law_moved .nil pass0 (pa_cons (pv 1) (pa_cons (pv 10) pa_nil)))) pa_nil)) pe_int (nomark _)) (pw_and1 (pt_cmpR op_le (pe_callB call_abs (by rfl) T.m_abs (by decide +kernel) (pa_cons (pe_ix (ix_listK K rfl) (pv 10) (pv 8) (fun _ _ => rfl)) pa_nil)) pe_int (nomark _))))) (pss_one (ps_set (i := 5) sc_law_drawn_shifts.nd rfl (Or.inl rfl) (pv 10))) pss_nil)))))
      (pss_one (ps_ret (pe_callTy (call_tuple_ofK K rfl) (by rfl) T.m_tuple (by decide +kernel) (pa_cons (pv 5) pa_nil))))) R2 ?tail2)) R1 ?tail1))), ?_⟩
  case tail2 =>
    rintro D' σ' H1 ⟨eD, fl, gl, fr, rfl, hfl, n1, n2, hgl, n3, n4, frne, frl, frg, F1, B1⟩
    have fpos : 0 < fr.length := List.length_pos_iff.mpr frne
    refine ⟨_, rfl, _, rfl, by omega, by omega, for_range (lo := 0) (n := many.toNat) (fun i σ H5 => ∃ (fl : Addr) (sh : Nat → Int) (v8 v9 v10 : Option V), σ = [some (.ref f), some (.ref r), some (.int late), some (.int many), some (.ref ha), some (.ref fl), none, some (.ref gl), v8, v9, v10] ∧ H5 fl = some (.lst (levL hs.length sh)) ∧ fl ≠ f ∧ fl ≠ c ∧ H5 gl = some (.lst (fr.map nV)) ∧ Good33 hs bs late sh ∧ Bd 20 sh ∧ Apart (3 + (i : Int)) sh ∧ Flow H5 f c ∧ But f H H5) ⟨fl, _, none, none, none, rfl, hfl, n1, n2, hgl, ?_, (fun k => by show (-20 : Int) ≤ (if _ then _ else _) ∧ (if _ then _ else _) ≤ (20 : Int); split <;> omega), (fun i j => by show (if _ then _ else _) - (if _ then _ else _) ≤ (3 + ((0 : Nat) : Int)); split <;> split <;> omega), F1, B1⟩ ?_ ?_⟩
    · refine ⟨fun j hj => ?_, fun j hj => ?_, fun b hb => ?_⟩
      · obtain ⟨h, e, w1⟩ := mem_doors.mp hj
        exact if_pos (by rw [e, ← w1]; rfl)
      · obtain ⟨h, e, w1⟩ := mem_doors.mp hj
        refine if_neg fun z => ?_
        rw [e] at z
        have z : h.wd = "in" := Option.some.inj z
        rw [z] at w1
        exact absurd w1 (by decide +kernel)
      · unfold trS
        have hto : ¬ hs[b.to]?.map HR.wd = some ("in" : Str) := fun z => by
          cases e : hs[b.to]? with
          | none => rw [e] at z; cases z
          | some h =>
            rw [e] at z
            have z : h.wd = "in" := Option.some.inj z
            have cnt := ok.count _ _ e
            rw [z, show needs "in" = 0 by decide +kernel] at cnt
            have pos := List.count_pos_iff.mpr (List.mem_map.mpr ⟨b, hb, rfl⟩ : b.to ∈ bs.map BR.to)
            omega
        show 0 ≤ (b.th.length : Int) + (if hs[b.to]?.map HR.wd = some ("in" : Str) then 0 else late) - (if hs[b.one]?.map HR.wd = some ("in" : Str) then 0 else late)
        rw [if_neg hto]
        split <;> omega
    · rintro i σ H5 hi ⟨fl, sh, v8, v9, v10, rfl, hfl, n1, n2, hgl, gd, bd, ap, F5, B5⟩
      refine ⟨_, rfl, _, rfl, _, rfl, gl, _, rfl, .inl (SqL.of hgl), f, c, _, rfl, by rw [List.length_map]; omega, by rw [List.length_map]; exact log_sm (by omega), F5, fun v H6 v0 v1 F6 B6 => ?_⟩
      rw [List.length_map] at v1
      have hgl6 := B6 _ _ hgl n3
      have hfl6 := B6 _ _ hfl n1
      obtain ⟨j, rfl⟩ : ∃ j : Nat, v = ((j : Nat) : Int) := ⟨v.toNat, by omega⟩
      have jl : j < fr.length := by omega
      have ek : (fr.map nV)[j]? = some (nV fr[j]) := by rw [List.getElem?_map, List.getElem?_eq_getElem jl]; rfl
      obtain ⟨kl, kin, kout⟩ := frg _ (List.getElem_mem jl)
      generalize fr[j] = k at ek kl kin kout
      refine ⟨gl, _, _, _, rfl, rfl, SqL.of hgl6, atI_nat ek, ?_⟩
      have kc : cutV (levL hs.length sh) none (some ((k : Nat) : Int)) = (levL hs.length sh).take k := cut_take _ _
      have kd : cutV (levL hs.length sh) (some (((k : Nat) : Int) + 1)) none = (levL hs.length sh).drop (k + 1) := by rw [show ((k : Nat) : Int) + 1 = ((k + 1 : Nat) : Int) by omega, cut_drop]
      refine ⟨_, rfl, ?_⟩
      dsimp only [tNoPart]
      refine ⟨_, rfl, _, rfl, fl, _, rfl, SqL.of hfl6, fun p1 np1 => ?_⟩
      have t0 := same_new (o := .lst (cutV (levL hs.length sh) none (some ((k : Nat) : Int)))) np1
      have F60 := F6.new (o := .lst (cutV (levL hs.length sh) none (some ((k : Nat) : Int)))) np1
      have p1f := F6.ne np1
      have p1v := upd_same (H := H6) (a := p1) (o := .lst (cutV (levL hs.length sh) none (some ((k : Nat) : Int))))
      have B60 := (B5.trans B6).same t0
      have hgl60 := t0 _ _ hgl6
      have hfl60 := t0 _ _ hfl6
      generalize upd H6 p1 (.lst (cutV (levL hs.length sh) none (some ((k : Nat) : Int)))) = H60 at F60 p1v B60 hgl60 hfl60 ⊢
      refine ⟨_, rfl, _, rfl, fl, _, _, _, rfl, rfl, SqL.of hfl60, atI_nat (rg_at kl), _, _, rfl, rfl, ?_⟩
      refine ⟨_, rfl, f, c, _, rfl, by decide, by decide +kernel, F60, fun v2 H7 w0 w1 F7 B7 => ?_⟩
      have hfl7 := B7 _ _ hfl60 n1
      have hp17 := B7 _ _ p1v p1f
      refine ⟨_, _, rfl, rfl, .inl ⟨by decide, by decide⟩, _, _, rfl, rfl, (by show 1 ≤ sizeLine; decide), fun p2 np2 => ?_⟩
      obtain ⟨step, es⟩ : ∃ step : Int, sh k + 1 - 2 * v2 = sh k + step := ⟨1 - 2 * v2, by omega⟩
      have s1 : -1 ≤ step ∧ step ≤ 1 := by omega
      rw [show (fun (i j : Int) => V.int (i - j)) (sh k + 1) (2 * v2) = V.int (sh k + step) from congrArg V.int es]
      have t2 := same_new (o := .lst [V.int (sh k + step)]) np2
      refine ⟨p1, p2, _, _, rfl, rfl, t2 _ _ hp17, upd_same, by rw [kc, List.length_take, lev_len]; exact little (by show _ + 1 ≤ 1000; omega), fun p3 np3 => ?_⟩
      have t3 := same_new (o := .lst (cutV (levL hs.length sh) none (some ((k : Nat) : Int)) ++ [V.int (sh k + step)])) np3
      refine ⟨_, rfl, _, rfl, _, _, rfl, rfl, _, rfl, fl, _, rfl, SqL.of ((t2.trans t3) _ _ hfl7), fun p4 np4 => ?_⟩
      have t4 := same_new (o := .lst (cutV (levL hs.length sh) (some (((k : Nat) : Int) + 1)) none)) np4
      refine ⟨p3, p4, _, _, rfl, rfl, t4 _ _ upd_same, upd_same, by rw [kc, kd, List.length_append, List.length_take, List.length_drop, lev_len]; exact little (by show _ + 1 + _ ≤ 1000; omega), fun p5 np5 => ?_⟩
      have t5 := same_new (o := .lst ((cutV (levL hs.length sh) none (some ((k : Nat) : Int)) ++ [V.int (sh k + step)]) ++ cutV (levL hs.length sh) (some (((k : Nat) : Int) + 1)) none)) np5
      have F8 := F7.same ((t2.trans t3).trans t4)
      have tt := ((t2.trans t3).trans t4).trans t5
      have new := upd_same (H := upd (upd (upd H7 p2 (.lst [V.int (sh k + step)])) p3 (.lst (cutV (levL hs.length sh) none (some ((k : Nat) : Int)) ++ [V.int (sh k + step)]))) p4 (.lst (cutV (levL hs.length sh) (some (((k : Nat) : Int) + 1)) none))) (a := p5) (o := .lst ((cutV (levL hs.length sh) none (some ((k : Nat) : Int)) ++ [V.int (sh k + step)]) ++ cutV (levL hs.length sh) (some (((k : Nat) : Int) + 1)) none))
      rw [kc, kd, lev_set33 kl] at new
      have nf := F8.ne np5
      have nc := F8.nec np5
      have F9 := F8.new (o := .lst ((cutV (levL hs.length sh) none (some ((k : Nat) : Int)) ++ [V.int (sh k + step)]) ++ cutV (levL hs.length sh) (some (((k : Nat) : Int) + 1)) none)) np5
      have B9 := (B60.trans B7).same tt
      have hgl9 := tt _ _ (B7 _ _ hgl60 n3)
      have hfl9 := tt _ _ hfl7
      rw [kc, kd, lev_set33 kl] at *
      generalize upd _ p5 _ = H9 at new F9 B9 hgl9 hfl9 ⊢
      have hR9 := hR.keep (TK.but hF B9)
      obtain ⟨sn, esn⟩ : ∃ sn : Nat → Int, sn = fun p => if p = k then sh k + step else sh p := ⟨_, rfl⟩
      rw [← esn] at new
      have okn : (∀ b ∈ bs, 0 ≤ trS sn b) → Good33 hs bs late sn := fun tr => ⟨fun j hj => by rw [esn]; show (if j = k then _ else _) = _; rw [if_neg (fun z : j = k => kin (z ▸ hj))]; exact gd.ins j hj, fun j hj => by rw [esn]; show (if j = k then _ else _) = _; rw [if_neg (fun z : j = k => kout (z ▸ hj))]; exact gd.outs j hj, tr⟩
      show tIfS _ _ _ _ [some (.ref f), some (.ref r), some (.int late), some (.int many), some (.ref ha), some (.ref fl), none, some (.ref gl), some (nV k), some (.int (0 + ((i : Nat) : Int))), some (.ref p5)] H9
      refine ⟨(by show 1 ≤ sizeLine; decide), fun z0 nz0 => ?_⟩
      have u1 := same_new (o := .lst [V.int 0]) nz0
      refine ⟨_, rfl, _, rfl, r, p5, hs, bs, sn, rfl, hR9.keep (TK.same u1), ok, u1 _ _ new, fun pt H10 npt hpt u2 => ?_⟩
      have lbs := ok.many
      refine ⟨z0, pt, _, _, rfl, rfl, u2 _ _ upd_same, hpt, by show 1 + _ ≤ sizeLine; rw [List.length_map]; exact little (by omega), fun p7 np7 => ?_⟩
      have u3 := same_new (o := .lst ([V.int 0] ++ bs.map fun b => V.int (trS sn b))) np7
      have u := (u1.trans u2).trans u3
      refine ⟨p7, 0 :: bs.map (trS sn), rfl, SqL.of (by rw [upd_same, List.map_cons, List.map_map]; rfl), by simp, fun m hm hle => ?_⟩
      refine ⟨rfl, _, rfl, if_bl (fun z => ?_) (fun z => ?_)⟩
      · have m0 : m = 0 := V.int.inj (of_decide_eq_true z)
        subst m0
        have hgd : Good33 hs bs late sn := okn fun b hb => hle _ (List.mem_cons_of_mem _ (List.mem_map.mpr ⟨b, hb, rfl⟩))
        refine ⟨_, rfl, _, rfl, p5, _, _, _, rfl, rfl, SqL.of (u _ _ new), atI_nat (rg_at kl), _, rfl, _, _, rfl, rfl, _, rfl, if_bl (fun zz => ?_) (fun _ => ?_)⟩
        · have zb : -20 ≤ sn k ∧ sn k ≤ 20 := abs20 zz
          have bn : Bd 20 sn := fun j => by
            by_cases ej : j = k
            · rw [ej]; exact zb
            · rw [esn]; show -20 ≤ (if j = k then _ else _) ∧ (if j = k then _ else _) ≤ 20; rw [if_neg ej]; exact bd j
          refine ⟨_, rfl, p5, sn, _, _, _, rfl, u _ _ new, nf, nc, u _ _ hgl9, hgd, bn, fun x y => ?_, F9.same u, B9.same u⟩
          have a1 := ap x y
          have a2 := ap x k
          have a3 := ap k y
          rw [esn]
          show (if x = k then sh k + step else sh x) - (if y = k then sh k + step else sh y) ≤ 3 + ((i + 1 : Nat) : Int)
          by_cases e1 : x = k <;> by_cases e2 : y = k
          · rw [if_pos e1, if_pos e2]; omega
          · rw [if_pos e1, if_neg e2]; omega
          · rw [if_neg e1, if_pos e2]; omega
          · rw [if_neg e1, if_neg e2]; omega
        · exact ⟨fl, sh, _, _, _, rfl, u _ _ hfl9, n1, n2, u _ _ hgl9, gd, bd, (fun x y => by have := ap x y; omega), F9.same u, B9.same u⟩
      · exact ⟨fl, sh, _, _, _, rfl, u _ _ hfl9, n1, n2, u _ _ hgl9, gd, bd, (fun x y => by have := ap x y; omega), F9.same u, B9.same u⟩
    · rintro σ H5 ⟨fl, sh, v8, v9, v10, rfl, hfl, n1, n2, hgl, gd, bd, ap, F5, B5⟩
      refine ⟨_, rfl, fl, _, rfl, .inl ⟨SqL.of hfl, fun p np => ?_⟩⟩
      rw [eD]
      exact q p sh _ upd_same gd bd (fun x y => by have := ap x y; omega) (F5.new np) (B5.new np)
  case tail1 =>
    rintro D' σ' H1 ⟨eD, fl, rfl, hfl, n1, n2, F1, B1⟩
    have k1 := TK.but hF B1
    have alh1 := alh.imp fun _ _ z => z.keep k1
    refine ⟨_, rfl, ha, _, rfl, .inr (SqT.of (k1 _ _ eh)), _, rfl, by omega, by omega, fun D nD => lc_range (lo := 0) (n := hv.length) (fun i H5 => H5 D = some (.lst (((List.range i).filter fun k => decide (hs[k]?.map HR.wd ≠ some ("in" : Str) ∧ hs[k]?.map HR.wd ≠ some ("out" : Str))).map nV)) ∧ Same H1 H5) ⟨upd_same, same_new nD⟩ ?_ ?_⟩
    · rintro i H5 hi ⟨hD, s5⟩
      obtain ⟨hh, ehi, ⟨t, rr, ex, e1, e2⟩⟩ := alh1.getL (List.getElem?_eq_getElem hi)
      have gh := ok.good _ (List.mem_of_getElem? ehi)
      have few := filt_len (p := fun k => decide (hs[k]?.map HR.wd ≠ some ("in" : Str) ∧ hs[k]?.map HR.wd ≠ some ("out" : Str))) i
      refine ⟨rfl, _, rfl, _, rfl, ha, _, _, _, rfl, rfl, SqT.of (s5 _ _ (k1 _ _ eh)), at0 (List.getElem?_eq_getElem hi), ?_⟩
      rw [ex]
      refine ⟨t, _, _, _, rfl, rfl, SqT.of (s5 _ _ e1), atI_nat (j := 0) rfl, (by show 1 ≤ sizeLine; decide), fun o1 no1 => ⟨(by show 1 ≤ sizeLine; decide), fun o2 no2 => ⟨(by show 2 ≤ sizeLine; decide), fun o3 no3 => ?_⟩⟩⟩
      have t1 := same_new (o := .tup [V.str "in"]) no1
      have t2 := same_new (o := .tup [V.str "out"]) no2
      have t3 := same_new (o := .tup [V.ref o1, V.ref o2]) no3
      have s6 := ((s5.trans t1).trans t2).trans t3
      refine ⟨.tuple (ruleD hh), [.tuple [.str "in"], .tuple [.str "out"]], rule_dp (s6 _ _ e2), .tup (SqT.of upd_same) (.cons (.tup (SqT.of ((t2.trans t3) _ _ upd_same)) (.cons (.str _) .nil)) (.cons (.tup (SqT.of (t3 _ _ upd_same)) (.cons (.str _) .nil)) .nil)), rule_shaped gh.lay, by decide +kernel, _, rfl, ?_⟩
      have hD6 := ((t1.trans t2).trans t3) _ _ hD
      have val : ([PyData.tuple [.str "in"], .tuple [.str "out"]].any fun z => PyData.eqv z (.tuple (ruleD hh))) = (decide (hh.wd = "in") || decide (hh.wd = "out")) := by
        rw [List.any_cons, List.any_cons, List.any_nil, Bool.or_false, one_eqv, one_eqv, gh.door "in" (.inl rfl), gh.door "out" (.inr rfl)]
      rw [val]
      by_cases cc : hh.wd ≠ "in" ∧ hh.wd ≠ "out"
      · rw [decide_eq_false cc.1, decide_eq_false cc.2]
        refine if_bl (fun _ => ⟨_, rfl, _, hD6, by rw [List.length_map]; exact small1000 (by omega), ?_, Same.own s6 nD⟩) (fun z => nomatch z)
        rw [upd_same, filt_succ, if_pos (decide_eq_true ⟨by rw [ehi]; exact fun z => cc.1 (Option.some.inj z), by rw [ehi]; exact fun z => cc.2 (Option.some.inj z)⟩), List.map_append, Int.zero_add]
        rfl
      · have v2 : (decide (hh.wd = "in") || decide (hh.wd = "out")) = true := by
          by_cases a : hh.wd = "in"
          · rw [decide_eq_true a]; rfl
          · rw [decide_eq_true (Classical.byContradiction fun z => cc ⟨a, z⟩ : hh.wd = "out"), Bool.or_true]
        rw [v2]
        refine if_bl (fun z => nomatch z) (fun _ => ⟨?_, s6⟩)
        rw [filt_succ, if_neg (fun z => cc (by have := of_decide_eq_true z; rw [ehi] at this; exact ⟨fun y => this.1 (congrArg some y), fun y => this.2 (congrArg some y)⟩)), List.append_nil]
        exact hD6
    · rintro H5 ⟨hD, s5⟩
      have few := filt_len (p := fun k => decide (hs[k]?.map HR.wd ≠ some ("in" : Str) ∧ hs[k]?.map HR.wd ≠ some ("out" : Str))) hv.length
      refine ⟨eD, fl, D, _, rfl, s5 _ _ hfl, n1, n2, hD, F1.ne nD, F1.nec nD, ?_, by omega, fun k hk => ?_, F1.same s5, B1.same s5⟩
      · obtain ⟨h, hm, w1, w2⟩ := some1
        obtain ⟨j, ej⟩ := List.getElem?_of_mem hm
        have jl := (List.getElem?_eq_some_iff.mp ej).1
        exact List.ne_nil_of_mem (List.mem_filter.mpr ⟨List.mem_range.mpr (lhv ▸ jl), decide_eq_true ⟨by rw [ej]; exact fun z => w2 (Option.some.inj z), by rw [ej]; exact fun z => w1 (Option.some.inj z)⟩⟩)
      · obtain ⟨k1, k2⟩ := List.mem_filter.mp hk
        have k2 := of_decide_eq_true k2
        refine ⟨lhv ▸ List.mem_range.mp k1, fun z => ?_, fun z => ?_⟩
        · obtain ⟨h, e, w⟩ := mem_doors.mp z
          exact k2.1 (by rw [e, ← w]; rfl)
        · obtain ⟨h, e, w⟩ := mem_doors.mp z
          exact k2.2 (by rw [e, ← w]; rfl)
  refine ⟨_, rfl, r, _, _, _, rfl, rfl, SqT.of er, atI_nat (j := 0) rfl, ?_⟩
  refine ⟨_, rfl, ha, rfl, ⟨_, SqT.of eh⟩, fun D nD => lc_tup (K := K) (a := ha) (xs := hv) (fun i H5 => H5 D = some (.lst ((List.range i).map fun k => V.int (if hs[k]?.map HR.wd = some ("in" : Str) then 0 else late))) ∧ Same H H5) ⟨upd_same, same_new nD⟩ (fun i H5 _ ⟨_, s5⟩ => SqT.of (s5 _ _ eh)) ?_ ?_⟩
  · rintro i x H5 hx ⟨hD, s5⟩
    obtain ⟨hh, ehi, ⟨t, rr, rfl, e1, e2⟩⟩ := alh.getL hx
    have gh := ok.good _ (List.mem_of_getElem? ehi)
    refine ⟨rfl, yes_in ⟨_, rfl, _, rfl, t, _, _, _, rfl, rfl, SqT.of (s5 _ _ e1), atI_nat (j := 0) rfl, (by show 1 ≤ sizeLine; decide), fun o1 no1 => ?_⟩⟩
    have s6 := s5.trans (same_new (o := .tup [V.str "in"]) no1)
    refine ⟨_, _, rule_dp (s6 _ _ e2), .tup (SqT.of upd_same) (.cons (.str _) .nil), rule_shaped gh.lay, one_shaped (by decide +kernel), ?_⟩
    refine .inr ⟨_, rfl, _, _, rfl, rfl, ?_⟩
    rw [rule_eqv, gh.door "in" (.inl rfl)]
    have sm : ∀ z : Int, z = 0 ∨ z = 1 → CMul late z := fun z hz => by
      have a1 : -(2 ^ 64 : Int) < 0 := by decide
      have a2 : (6 : Int) < 2 ^ 64 := by decide
      exact .inl ⟨by omega, by omega⟩
    have hD6 := same_new (o := .tup [V.str "in"]) no1 _ _ hD
    have il := (List.getElem?_eq_some_iff.mp ehi).1
    by_cases cc : hh.wd = "in"
    · rw [decide_eq_true cc]
      refine ⟨sm _ (.inl rfl), _, hD6, by rw [List.length_map, List.length_range]; exact small1000 (by omega), ?_, Same.own s6 nD⟩
      rw [upd_same, List.range_succ, List.map_append]
      show some (HO.lst (_ ++ [V.int (late * 0)])) = some (HO.lst (_ ++ [V.int (if hs[i]?.map HR.wd = some ("in" : Str) then 0 else late)]))
      rw [ehi, if_pos (by rw [← cc]; rfl), Int.mul_zero]
    · rw [decide_eq_false cc]
      refine ⟨sm _ (.inr rfl), _, hD6, by rw [List.length_map, List.length_range]; exact small1000 (by omega), ?_, Same.own s6 nD⟩
      rw [upd_same, List.range_succ, List.map_append]
      show some (HO.lst (_ ++ [V.int (late * 1)])) = some (HO.lst (_ ++ [V.int (if hs[i]?.map HR.wd = some ("in" : Str) then 0 else late)]))
      rw [ehi, if_neg (show ¬ Option.map HR.wd (some hh) = some ("in" : Str) from fun z => cc (Option.some.inj z)), Int.mul_one]
  · rintro H5 ⟨hD, s5⟩
    have F5 := hF.same s5
    exact ⟨rfl, D, rfl, by rw [hD, lhv], hF.ne nD, hF.nec nD, F5, fun b o e _ => s5 b o e⟩
end
/-! ### rings of a moved room are those of the first one -/
theorem mov_way {sh : Nat → Int} {w : Int} {ms : List (List Int)} {bs : List BR} : ∀ {ns : List Nat} {k : Nat}, wayEnd (bs.map (movB sh w ms)) k ns = wayEnd bs k ns
  | [], _ => rfl
  | n :: ns, k => by
    have ih := fun k => mov_way (sh := sh) (w := w) (ms := ms) (bs := bs) (ns := ns) (k := k)
    cases e : bs[n]? with
    | none =>
      show (match (bs.map (movB sh w ms))[n]? with | some b => if b.one = k then wayEnd (bs.map (movB sh w ms)) b.to ns else none | none => none) = (match bs[n]? with | some b => if b.one = k then wayEnd bs b.to ns else none | none => none)
      rw [List.getElem?_map, e]
      rfl
    | some b =>
      rw [wayEnd_cons e, wayEnd_cons (b := movB sh w ms b) (by rw [List.getElem?_map, e]; rfl)]
      show (if b.one = k then wayEnd (bs.map (movB sh w ms)) b.to ns else none) = _
      rw [ih]
theorem mov_to {sh : Nat → Int} {w : Int} {ms : List (List Int)} {bs : List BR} (n : Nat) : toB (bs.map (movB sh w ms)) n = toB bs n := by
  unfold toB
  rw [List.getElem?_map]
  cases bs[n]? with
  | none => rfl
  | some b => rfl
theorem mov_rmom {sh : Nat → Int} {w : Int} {ms : List (List Int)} {hs : List HR} {bs : List BR} (ns : List Nat) : rmom hs (bs.map (movB sh w ms)) ns = rmom hs bs ns := by
  unfold rmom
  exact congrArg List.sum (List.map_congr_left fun n _ => by rw [mov_to])
theorem mov_rtr {sh : Nat → Int} {w : Int} {ms : List (List Int)} {bs : List BR} (tr : ∀ b ∈ bs, 0 ≤ trS sh b) : ∀ {ns : List Nat} {k e : Nat}, wayEnd bs k ns = some e → rtr (bs.map (movB sh w ms)) ns = rtr bs ns + sh e - sh k
  | [], k, e, h => by cases h; show (0 : Int) = 0 + sh k - sh k; omega
  | n :: ns, k, e, h => by
    cases eb : bs[n]? with
    | none =>
      have : wayEnd bs k (n :: ns) = none := by
        show (match bs[n]? with | some b => if b.one = k then wayEnd bs b.to ns else none | none => none) = none
        rw [eb]
      rw [this] at h; cases h
    | some b =>
      rw [wayEnd_cons eb] at h
      by_cases z : b.one = k
      · rw [if_pos z] at h
        have ih := mov_rtr (w := w) (ms := ms) tr h
        have t0 := tr b (List.mem_of_getElem? eb)
        have d : trS sh b = (b.th.length : Int) + sh b.to - sh b.one := rfl
        have e1 : trB bs n = (b.th.length : Int) := by unfold trB; rw [eb]
        have e2 : trB (bs.map (movB sh w ms)) n = trS sh b := by
          unfold trB
          rw [List.getElem?_map, eb]
          show (((movB sh w ms b).th.length : Nat) : Int) = _
          rw [mov_th]
          omega
        unfold rtr at ih ⊢
        rw [List.map_cons, List.sum_cons, List.map_cons, List.sum_cons, e1, e2, ih, ← z]
        omega
      · rw [if_neg z] at h; cases h
theorem Beat.first {sh : Nat → Int} {w : Int} {ms : List (List Int)} {hs : List HR} {bs : List BR} {a b : Int} {k : Nat} {ns : List Nat} (tr : ∀ b ∈ bs, 0 ≤ trS sh b) (B : Beat hs (bs.map (movB sh w ms)) a b k ns) : Beat hs bs a b k ns := by
  refine { B with nl := fun n hn => by have := B.nl n hn; rwa [List.length_map] at this, up := ?_ }
  rcases B.up with h | ⟨ne, cl, e⟩
  · exact .inl h
  · rw [mov_way] at cl
    rw [mov_rmom, mov_rtr tr cl] at e
    refine .inr ⟨ne, cl, ?_⟩
    rw [e]
    congr 1
    omega
theorem Down.first {sh : Nat → Int} {w : Int} {ms : List (List Int)} {hs : List HR} {bs : List BR} {a b : Int} {lv : Nat → Int} (tr : ∀ b ∈ bs, 0 ≤ trS sh b) (bd : Bd 20 sh) (a0 : 0 ≤ a) (D : Down hs (bs.map (movB sh w ms)) a b lv) : Down hs bs a b (fun k => lv k + a * (sh k + 20)) := by
  refine ⟨fun k => ?_, D.2.1, fun x hx => ?_⟩
  · have h1 := D.1 k
    have h2 := bd k
    have h3 := Int.mul_nonneg a0 (show 0 ≤ sh k + 20 by omega)
    show 0 ≤ lv k + a * (sh k + 20)
    omega
  · have h := D.2.2 _ (List.mem_map.mpr ⟨x, hx, rfl⟩)
    have t0 := tr x hx
    have d : trS sh x = (x.th.length : Int) + sh x.to - sh x.one := rfl
    have e : (((movB sh w ms x).th.length : Nat) : Int) = (x.th.length : Int) + sh x.to - sh x.one := by rw [mov_th]; omega
    rw [e] at h
    have h : lv x.one + (b * momH hs x.one - a * ((x.th.length : Int) + sh x.to - sh x.one)) ≤ lv x.to := h
    show lv x.one + a * (sh x.one + 20) + (b * momH hs x.one - a * (x.th.length : Int)) ≤ lv x.to + a * (sh x.to + 20)
    rw [Int.mul_sub, Int.mul_add] at h
    rw [Int.mul_add, Int.mul_add]
    omega
/-! ### the moved room goes on as the first one, as far as need be -/
theorem WS.take {hs : List HR} {bs : List BR} {rows ms : List (List Int)} (a : WS hs bs rows ms) (n : Nat) : WS hs bs (rows.take n) (ms.take n) := by
  refine ⟨by rw [List.length_take, List.length_take, a.len], fun t r m e1 e2 => ?_⟩
  have l := (List.getElem?_eq_some_iff.mp e1).1
  rw [List.length_take] at l
  rw [List.getElem?_take_of_lt (by omega)] at e1 e2
  have h := a.at_ t r m e1 e2
  rwa [List.take_take, Nat.min_eq_left (by omega)]
theorem ws_same {hs : List HR} {bs : List BR} {rows more ms ms' : List (List Int)} (ok : RoomOk hs bs) (a : WS hs bs rows ms) (b : WS hs bs (rows ++ more) ms') {s : Nat} (h : s < ms.length) (k : Nat) : Vm ms' s k = Vm ms s k := by
  obtain ⟨rk, hrk⟩ := ok.rk
  have t := b.take rows.length
  rw [List.take_left] at t
  have e := WS.one hrk a t
  unfold Vm
  rw [e] at h ⊢
  rw [List.length_take] at h
  rw [List.getD_eq_getElem?_getD, List.getD_eq_getElem?_getD, List.getElem?_take_of_lt (by omega)]
/-- how the moved room's hands go on: R1 its rows -/
theorem moved_due {hs : List HR} {bs : List BR} {sh : Nat → Int} {N d : Nat} {rows rest ms ms0 : List (List Int)} (ok : RoomOk hs bs) (okg : RoomOk hs (bs.map (movB sh ((N : Nat) : Int) ms0))) (le : Lets hs bs sh) (lN : N ≤ rows.length) (n20 : N ≤ 20) (wt : ∀ k, k < hs.length → sh k ≤ ((N : Nat) : Int)) (ah : ∀ k, k < hs.length → -((d : Nat) : Int) ≤ sh k)
    (fit : ∀ x ∈ rows ++ rest, x.length = (doorsOf "in" hs).length) (a0 : WS hs bs (rows.take N ++ List.replicate d (noughts hs)) ms0) (a : WS hs bs (rows ++ rest) ms) :
    ∃ (R1 ms1 : List (List Int)), R1.length = rows.length - N + rest.length + 30 ∧ rows.drop N = R1.take (rows.length - N) ∧ WS hs (bs.map (movB sh ((N : Nat) : Int) ms0)) R1 ms1 ∧
      ∀ c k : Nat, k < hs.length → (c : Int) + N - sh k < (ms.length : Int) → c < ms1.length ∧ Vm ms1 c k = Vm ms ((c : Int) + N - sh k).toNat k := by
  have fz : ∀ x ∈ List.replicate 30 (noughts hs), x.length = (doorsOf "in" hs).length := fun x hx => by rw [(List.mem_replicate.mp hx).2, List.length_map]
  have f1 : ∀ x ∈ rows.drop N ++ rest ++ List.replicate 30 (noughts hs), x.length = (doorsOf "in" hs).length := fun x hx => by
    rcases List.mem_append.mp hx with h | h
    · rcases List.mem_append.mp h with h | h
      · exact fit x (List.mem_append_left _ (List.mem_of_mem_drop h))
      · exact fit x (List.mem_append_right _ h)
    · exact fz x h
  obtain ⟨ms1, a1⟩ := ws_ex okg f1
  have e : (rows.take N ++ (rows.drop N ++ rest ++ List.replicate 30 (noughts hs))) ++ [] = (rows ++ rest) ++ List.replicate 30 (noughts hs) := by
    rw [List.append_nil, ← List.append_assoc, ← List.append_assoc, List.take_append_drop]
  have f2 : ∀ x ∈ (rows ++ rest) ++ List.replicate 30 (noughts hs), x.length = (doorsOf "in" hs).length := fun x hx => by
    rcases List.mem_append.mp hx with h | h
    · exact fit x h
    · exact fz x h
  obtain ⟨mx, ax⟩ := ws_ex ok f2
  have lx := ax.len
  have lm := a.len
  have l1 := a1.len
  have l0 := a0.len
  rw [List.length_append, List.length_append, List.length_replicate] at lx
  rw [List.length_append] at lm
  rw [List.length_append, List.length_append, List.length_drop, List.length_replicate] at l1
  rw [List.length_append, List.length_take, List.length_replicate] at l0
  refine ⟨_, ms1, by rw [List.length_append, List.length_append, List.length_drop, List.length_replicate], ?_, a1, fun c k hk h => ?_⟩
  · rw [List.append_assoc, List.take_append_of_le_length (by rw [List.length_drop]; exact Nat.le_refl _), List.take_of_length_le (by rw [List.length_drop]; exact Nat.le_refl _)]
  have w1 := wt k hk
  have cl : c < ms1.length := by omega
  refine ⟨cl, ?_⟩
  have ax' := ax
  rw [← e] at ax'
  have m := moved_on ok okg le (by rw [List.length_take]; omega) wt a0 (fun k hk => by have := ah k hk; omega) ax' a1 c k hk cl (by omega)
  rw [m]
  exact ws_same ok a ax (by omega) k
/-- lists of a Floor, no longer than need be -/
theorem Cn59.len81 {hs : List HR} {bs : List BR} {rows ms : List (List Int)} {G : Nat} {c : Nat → Nat} {cn : Sl → List Int} (a : Cn59 hs bs rows ms G c cn) (l6 : ∀ b ∈ bs, b.th.length ≤ 60) (lm : ms.length ≤ 80) (lr : rows.length ≤ 80) {s : Sl} (v : VS hs bs s) : (cn s).length ≤ 200 := by
  obtain ⟨x, j⟩ := s
  rcases v with ⟨z, jl⟩ | ⟨z, jd⟩ | ⟨z, jl⟩
  · obtain rfl : x = 0 := z
    have jl : j < bs.length := jl
    have eb : bs[j]? = some bs[j] := List.getElem?_eq_getElem jl
    obtain ⟨_, e⟩ := a.lie j _ eb
    have := l6 _ (List.getElem_mem jl)
    rw [e, List.length_drop, List.length_append, List.length_map, List.length_take]
    omega
  · obtain rfl : x = 1 := z
    obtain ⟨i, ei⟩ := List.getElem?_of_mem jd
    obtain ⟨_, e⟩ := a.giv i _ ei
    rw [e, List.length_drop, List.length_map, List.length_take]
    omega
  · obtain rfl : x = 2 := z
    rw [a.don j jl, List.length_map, List.length_take]
    omega
theorem bok81 {hs : List HR} {bs : List BR} (ok : RoomOk hs bs) (t : ∀ b ∈ bs, b.th.length ≤ 30) : BOk hs bs := ⟨ok.hands, ok.many, ok.ends, fun h hh => (ok.good h hh).2, t, ok.rank⟩
theorem mov_th30 {sh : Nat → Int} {w n : Int} {ms : List (List Int)} {bs : List BR} (l6 : ∀ b ∈ bs, b.th.length ≤ 6) (ap : Apart n sh) (h : n ≤ 24) : ∀ b ∈ bs.map (movB sh w ms), b.th.length ≤ 30 := fun b hb => by
  obtain ⟨x, hx, rfl⟩ := List.mem_map.mp hb
  have h1 := l6 x hx
  have h2 := ap x.to x.one
  have d : trS sh x = (x.th.length : Int) + sh x.to - sh x.one := rfl
  rw [mov_th]
  omega
theorem dp_ints {K : PySem.W.Frag} {H : Hp} : ∀ ns : List Int, DpAll K H (ns.map V.int) (ns.map PyData.int)
  | [] => .nil
  | n :: ns => .cons (.int n) (dp_ints ns)
theorem ints_lay : ∀ l : List Int, PyData.canLayAll0 (l.map PyData.int) = true ∧ PyData.depthAll (l.map PyData.int) ≤ 1
  | [] => by simp [PyData.canLayAll0, PyData.depthAll]
  | x :: l => by
    have := ints_lay l
    simp [PyData.canLayAll0, PyData.depthAll, PyData.canLay0, PyData.depth, this.1, this.2]
theorem eqv_ints (l : List Int) : PyData.eqvAll (l.map PyData.int) (l.map PyData.int) = true := by
  induction l with
  | nil => rfl
  | cons x l ih =>
    show (x == x && PyData.eqvAll (l.map PyData.int) (l.map PyData.int)) = true
    rw [ih, beq_self_eq_true]
    rfl
theorem ints_shaped (l : List Int) : SeqAt.shaped (.list (l.map PyData.int)) = true := by
  have h := ints_lay l
  unfold SeqAt.shaped
  rw [Bool.and_eq_true]
  refine ⟨by simp only [PyData.canLay0]; exact h.1, decide_eq_true ?_⟩
  simp only [PyData.depth]
  have := h.2
  omega
theorem ints_same (l : List Int) : PyData.eqv (.list (l.map PyData.int)) (.list (l.map PyData.int)) = true := by
  have := eqv_ints l
  simp [PyData.eqv, this]
theorem made_same {C p dx : Addr} {H H' : Hp} (np : H p = none) (ndx : H dx = none) (ne : dx ≠ p) (b : But p (upd (upd H dx (.own p)) p (.ins C dx [])) H') : Same H H' := fun x o e => by
  have xp : x ≠ p := ne_of_none e np
  have xd : x ≠ dx := ne_of_none e ndx
  exact b _ _ (by rw [upd_ne xp, upd_ne xd]; exact e) xp
theorem All2.takeN {α β : Type} {R : α → β → Prop} {xs : List α} {ys : List β} (a : All2 R xs ys) (n : Nat) : All2 R (xs.take n) (ys.take n) := by
  induction a generalizing n with
  | nil => rw [List.take_nil, List.take_nil]; exact .nil
  | cons h _ ih =>
    cases n with
    | zero => exact .nil
    | succ n => exact .cons h (ih n)
theorem All2.dropN {α β : Type} {R : α → β → Prop} {xs : List α} {ys : List β} (a : All2 R xs ys) (n : Nat) : All2 R (xs.drop n) (ys.drop n) := by
  induction a generalizing n with
  | nil => rw [List.drop_nil, List.drop_nil]; exact .nil
  | cons h t ih =>
    cases n with
    | zero => exact .cons h t
    | succ n => exact ih n
theorem All2.cat {α β : Type} {R : α → β → Prop} {xs xs' : List α} {ys ys' : List β} (a : All2 R xs ys) (b : All2 R xs' ys') : All2 R (xs ++ xs') (ys ++ ys') := by
  induction a with
  | nil => exact b
  | cons h _ ih => exact .cons h ih
theorem lev0 (n : Nat) : (List.replicate n [V.int 0]).flatten = levL n fun _ => (((0 : Nat) : Int)) := by
  induction n with
  | zero => rfl
  | succ n ih =>
    rw [List.replicate_succ', List.flatten_append, ih]
    unfold levL
    rw [List.range_succ, List.map_append]
    rfl
/-- what stands fast while hands of the moved room work -/
structure L81 (C : Addr) (H : Hp) (f c F dl cl sl : Addr) (hs : List HR) (bs : List BR) (R1 ms1 ms : List (List Int)) (dv : List V) (N G : Nat) (sh : Nat → Int) (cc : Nat → Nat) (cn : Sl → List Int) (tg : Addr → Option Sl) : Prop where
  fl : Flow H f c
  fa : FlAt C H F hs bs cn tg
  ok : RoomOk hs bs
  l60 : ∀ b ∈ bs, b.th.length ≤ 60
  ws : WS hs bs R1 ms1
  cs : Cn59 hs bs R1 ms1 G cc cn
  lm : ms1.length ≤ 80
  row : ∀ m ∈ ms, m.length = hs.length
  hd : H dl = some (.lst dv)
  ald : All2 (RowAt H) dv ms
  hc : H cl = some (.lst (levL hs.length fun k => ((cc k : Nat) : Int)))
  hsl : H sl = some (.tup (levL hs.length sh))
  due : ∀ x k : Nat, k < hs.length → (x : Int) + N - sh k < (ms.length : Int) → x < ms1.length ∧ Vm ms1 x k = Vm ms ((x : Int) + N - sh k).toNat k
  wt : ∀ k, k < hs.length → sh k ≤ ((N : Nat) : Int)
  tf : tg f = none
  tc : tg c = none
  td : tg dl = none
  tl : tg cl = none
  n1 : cl ≠ f
  n2 : cl ≠ c
  n3 : cl ≠ dl
  n4 : dl ≠ f
theorem L81.len {C : Addr} {H : Hp} {f c F dl cl sl : Addr} {hs : List HR} {bs : List BR} {R1 ms1 ms : List (List Int)} {dv : List V} {N G : Nat} {sh : Nat → Int} {cc : Nat → Nat} {cn : Sl → List Int} {tg : Addr → Option Sl} (w : L81 C H f c F dl cl sl hs bs R1 ms1 ms dv N G sh cc cn tg) {s : Sl} (v : VS hs bs s) : (cn s).length ≤ 200 := w.cs.len81 w.l60 w.lm (by rw [← w.ws.len]; exact w.lm) v
theorem L81.same {C : Addr} {H H' : Hp} {f c F dl cl sl : Addr} {hs : List HR} {bs : List BR} {R1 ms1 ms : List (List Int)} {dv : List V} {N G : Nat} {sh : Nat → Int} {cc : Nat → Nat} {cn : Sl → List Int} {tg : Addr → Option Sl} (w : L81 C H f c F dl cl sl hs bs R1 ms1 ms dv N G sh cc cn tg) (s : Same H H') : L81 C H' f c F dl cl sl hs bs R1 ms1 ms dv N G sh cc cn tg :=
  ⟨w.fl.same s, w.fa.kp (Kp.same s), w.ok, w.l60, w.ws, w.cs, w.lm, w.row, s _ _ w.hd, w.ald.imp fun _ _ z => z.keep (TK.same s), s _ _ w.hc, s _ _ w.hsl, w.due, w.wt, w.tf, w.tc, w.td, w.tl, w.n1, w.n2, w.n3, w.n4⟩
theorem L81.pick {C : Addr} {H H' : Hp} {f c F dl cl sl : Addr} {hs : List HR} {bs : List BR} {R1 ms1 ms : List (List Int)} {dv : List V} {N G : Nat} {sh : Nat → Int} {cc : Nat → Nat} {cn : Sl → List Int} {tg : Addr → Option Sl} (w : L81 C H f c F dl cl sl hs bs R1 ms1 ms dv N G sh cc cn tg) (F' : Flow H' f c) (b : But f H H') : L81 C H' f c F dl cl sl hs bs R1 ms1 ms dv N G sh cc cn tg :=
  ⟨F', w.fa.kp (Kp.but w.fl b w.tf), w.ok, w.l60, w.ws, w.cs, w.lm, w.row, b _ _ w.hd w.n4, w.ald.imp fun _ _ z => z.keep (TK.but w.fl b), b _ _ w.hc w.n1, TK.but w.fl b _ _ w.hsl, w.due, w.wt, w.tf, w.tc, w.td, w.tl, w.n1, w.n2, w.n3, w.n4⟩
theorem filt_take {α : Type} {p : α → Bool} {l : List α} {i : Nat} {x : α} (e : l[i]? = some x) : (l.take (i + 1)).filter p = (l.take i).filter p ++ if p x = true then [x] else [] := by
  rw [List.take_add_one, e, List.filter_append]
  show _ ++ [x].filter p = _
  rw [List.filter_cons, List.filter_nil]
/-- the room, its shifts, its rows and the moved room -/
structure M81 (H : Hp) (f c r q sl rl : Addr) (hs : List HR) (bs : List BR) (sh : Nat → Int) (N d : Nat) (ms0 : List (List Int)) (rv : List V) (rows : List (List Int)) : Prop where
  fl : Flow H f c
  hR : RoomAt H r hs bs
  hQ : RoomAt H q hs (bs.map (movB sh ((N : Nat) : Int) ms0))
  ok : RoomOk hs bs
  some1 : 0 < hs.length
  l6 : ∀ b ∈ bs, b.th.length ≤ 6
  le : Lets hs bs sh
  bd : Bd 20 sh
  ap : Apart 19 sh
  hsl : H sl = some (.tup (levL hs.length sh))
  hrl : H rl = some (.lst rv)
  alr : All2 (RowAt H) rv rows
  fit : ∀ x ∈ rows, x.length = (doorsOf "in" hs).length
  lr : rows.length ≤ N + 5
  lN : N ≤ rows.length
  n20 : N ≤ 20
  wt : ∀ k, k < hs.length → sh k ≤ ((N : Nat) : Int)
  ah : ∀ k, k < hs.length → -((d : Nat) : Int) ≤ sh k
  ws0 : WS hs bs (rows.take N ++ List.replicate d (noughts hs)) ms0
  rf : rl ≠ f
section
variable {H H' : Hp} {f c r q sl rl : Addr} {hs : List HR} {bs : List BR} {sh : Nat → Int} {N d : Nat} {ms0 : List (List Int)} {rv : List V} {rows : List (List Int)}
theorem M81.same (w : M81 H f c r q sl rl hs bs sh N d ms0 rv rows) (s : Same H H') : M81 H' f c r q sl rl hs bs sh N d ms0 rv rows :=
  { w with fl := w.fl.same s, hR := w.hR.keep (TK.same s), hQ := w.hQ.keep (TK.same s), hsl := s _ _ w.hsl, hrl := s _ _ w.hrl, alr := w.alr.imp fun _ _ z => z.keep (TK.same s) }
theorem M81.but (w : M81 H f c r q sl rl hs bs sh N d ms0 rv rows) (F : Flow H' f c) (b : But f H H') : M81 H' f c r q sl rl hs bs sh N d ms0 rv rows :=
  { w with fl := F, hR := w.hR.keep (TK.but w.fl b), hQ := w.hQ.keep (TK.but w.fl b), hsl := TK.but w.fl b _ _ w.hsl, hrl := b _ _ w.hrl w.rf, alr := w.alr.imp fun _ _ z => z.keep (TK.but w.fl b) }
theorem M81.ext (w : M81 H f c r q sl rl hs bs sh N d ms0 rv rows) (e : LamX.ExtN H H') : M81 H' f c r q sl rl hs bs sh N d ms0 rv rows :=
  { w with fl := ExtN.flow e w.fl, hR := w.hR.keep (ExtN.tk e), hQ := w.hQ.keep (ExtN.tk e), hsl := ExtN.tk e _ _ w.hsl, hrl := ExtN.lst e w.hrl, alr := w.alr.imp fun _ _ z => z.keep (ExtN.tk e) }
theorem M81.okg (w : M81 H f c r q sl rl hs bs sh N d ms0 rv rows) : RoomOk hs (bs.map (movB sh ((N : Nat) : Int) ms0)) := mov_ok w.ok w.le.tr w.bd (fun b hb => by have := w.l6 b hb; omega)
theorem M81.th30 (w : M81 H f c r q sl rl hs bs sh N d ms0 rv rows) : ∀ b ∈ bs.map (movB sh ((N : Nat) : Int) ms0), b.th.length ≤ 30 := mov_th30 w.l6 w.ap (by decide)
end
section
variable {P : Program} {w : World} {K : PySem.W.Frag} {mg : Str → Option Value} {base : Heap} {cT cG : Addr} {PT : Addr × Addr} [TLI : TabL K mg base cT PT] [TI : TabI K mg base cG PT]
include TLI TI
def sp_law (K : PySem.W.Frag) (PT : Addr × Addr) : Sp := fun vs H Q _ => ∃ (a : Addr) (ns : List Int), vs = [.ref a] ∧ SqL K H a (ns.map V.int) ∧ ns.length ≤ 63 ∧ LamX.Tabs (TL PT) H ∧ ∀ H', Q (.bl true) H'
theorem ok_law {f : Addr} {fd : FuncData} (F : Fun K "law" "law" s_law f fd) {C : Addr} (T : Top K mg C) : FnOk P w K mg base CX0 7 f fd ["_law_script"] (sp_law K PT) := by
  obtain ⟨f_law_flow, fd_law_flow, F_law_flow, b_law_flow, m_law_flow⟩ := T.d_law_flow
  have G_law_flow := ok_law_flow (P := P) (w := w) (base := base) F_law_flow T
  obtain ⟨f_law_room, fd_law_room, F_law_room, b_law_room, m_law_room⟩ := T.d_law_room
  have G_law_room := ok_law_room (P := P) (w := w) (base := base) F_law_room T
  obtain ⟨f_law_pick, fd_law_pick, F_law_pick, b_law_pick, m_law_pick⟩ := T.d_law_pick
  have G_law_pick := ok_law_pick (P := P) (w := w) (base := base) F_law_pick T
  obtain ⟨f_law_drawn_shifts, fd_law_drawn_shifts, F_law_drawn_shifts, b_law_drawn_shifts, m_law_drawn_shifts⟩ := T.d_law_drawn_shifts
  have G_law_drawn_shifts := ok_law_drawn_shifts (P := P) (w := w) (base := base) F_law_drawn_shifts T
  obtain ⟨f_law_rows, fd_law_rows, F_law_rows, b_law_rows, m_law_rows⟩ := T.d_law_rows
  have G_law_rows := ok_law_rows (P := P) (w := w) (base := base) F_law_rows T
  obtain ⟨f_moved, fd_moved, F_moved, b_moved, m_moved⟩ := T.d_moved
  have G_moved := ok_moved (P := P) (w := w) (base := base) F_moved T
  obtain ⟨f_law_worked, fd_law_worked, F_law_worked, b_law_worked, m_law_worked⟩ := T.d_law_worked
  have G_law_worked := ok_law_worked (P := P) (w := w) (base := base) F_law_worked T
  obtain ⟨f_Floor___init__, fd_Floor___init__, F_Floor___init__, b_Floor___init__, m_Floor___init__⟩ := T.d_Floor___init__
  have G_Floor___init__ := ok_Floor___init__ (P := P) (w := w) (base := base) F_Floor___init__ T
  obtain ⟨f_law_give_all, fd_law_give_all, F_law_give_all, b_law_give_all, m_law_give_all⟩ := T.d_law_give_all
  have G_law_give_all := ok_law_give_all (P := P) (w := w) (base := base) F_law_give_all T
  obtain ⟨f_law_alike, fd_law_alike, F_law_alike, b_law_alike, m_law_alike⟩ := T.d_law_alike
  have G_law_alike := ok_law_alike (P := P) (w := w) (base := base) F_law_alike T
  obtain ⟨f_beat, fd_beat, F_beat, b_beat, m_beat⟩ := T.d_beat
  have G_beat := ok_beat (P := P) (w := w) (base := base) F_beat T
  obtain ⟨f_Floor_ready, fd_Floor_ready, F_Floor_ready, b_Floor_ready, m_Floor_ready⟩ := T.d_Floor_ready
  have G_Floor_ready := ok_Floor_ready (P := P) (w := w) (base := base) F_Floor_ready T
  obtain ⟨f_Floor_made, fd_Floor_made, F_Floor_made, b_Floor_made, m_Floor_made⟩ := T.d_Floor_made
  have G_Floor_made := ok_Floor_made (P := P) (w := w) (base := base) F_Floor_made T
  obtain ⟨f_Floor_work, fd_Floor_work, F_Floor_work, b_Floor_work, m_Floor_work⟩ := T.d_Floor_work
  have G_Floor_work := ok_Floor_work (P := P) (w := w) (base := base) F_Floor_work T
  refine F.ok sc_law (fun vs H Q E h => ?_) (fun cdv A outer s H vs Q E hr h => ?_)
  · obtain ⟨a, ns, rfl, _⟩ := h
    rfl
  obtain ⟨a, ns, rfl, hS, hlen, tabs, q⟩ := h
  let sg : Addr → Addr → Int → Addr → Nat → Addr → Addr → Option V → Option V → Option V → Option V → Option V → Option V → L2.St := fun f r late sl N rl q v8 v9 v10 v11 v12 v13 => [some (.ref a), some (.ref f), some (.ref r), some (.int late), some (.ref sl), some (nV N), some (.ref rl), some (.ref q), v8, v9, v10, v11, v12, v13]
  let R1 : TS := fun D' σ' H' => D'.rt = Q ∧ ∃ (f c r q sl rl : Addr) (late : Int) (hs : List HR) (bs : List BR) (sh : Nat → Int) (N d : Nat) (ms0 : List (List Int)) (rv : List V) (rows : List (List Int)), σ' = sg f r late sl N rl q none none none none none none ∧ M81 H' f c r q sl rl hs bs sh N d ms0 rv rows ∧ LamX.Tabs (TL PT) H'
  let R2 : TS := fun D' σ' H' => D'.rt = Q ∧ ∃ (f c r q sl rl : Addr) (late : Int) (hs : List HR) (bs : List BR) (sh : Nat → Int) (N d : Nat) (ms0 : List (List Int)) (rv : List V) (rows : List (List Int)), σ' = sg f r late sl N rl q none none none none none none ∧ M81 H' f c r q sl rl hs bs sh N d ms0 rv rows
  let R3 : TS := fun D' σ' H' => D'.rt = Q ∧ ∃ (f c r q sl rl F dl cl : Addr) (late : Int) (hs : List HR) (bs : List BR) (R1 ms1 ms : List (List Int)) (dv : List V) (N G : Nat) (sh : Nat → Int) (cc : Nat → Nat) (cn : Sl → List Int) (tg : Addr → Option Sl), σ' = sg f r late sl N rl q (some (.ref dl)) (some (.ref F)) (some (.ref cl)) none none none ∧ L81 C H' f c F dl cl sl hs bs R1 ms1 ms dv N G sh cc cn tg
  let R4 : TS := fun D' σ' H' => D'.rt = Q ∧ ∃ (f c r q sl rl F dl cl : Addr) (late : Int) (hs : List HR) (bs : List BR) (R1 ms1 ms : List (List Int)) (dv : List V) (N G : Nat) (sh : Nat → Int) (cc : Nat → Nat) (cn : Sl → List Int) (tg : Addr → Option Sl) (v11 v12 v13 : Option V), σ' = sg f r late sl N rl q (some (.ref dl)) (some (.ref F)) (some (.ref cl)) v11 v12 v13 ∧ L81 C H' f c F dl cl sl hs bs R1 ms1 ms dv N G sh cc cn tg
  refine ⟨_, (pss_cons (ps_set (i := 1) sc_law.nd rfl (Or.inl rfl) (pe_call G_law_flow (hr.mono (by decide)) (by rfl) m_law_flow F_law_flow.kp b_law_flow .nil pass0 (pa_cons (pv 0) pa_nil)))
      (pss_cons (ps_set (i := 2) sc_law.nd rfl (Or.inl rfl) (pe_call G_law_room (hr.mono (by decide)) (by rfl) m_law_room F_law_room.kp b_law_room .nil pass0 (pa_cons (pv 1) (pa_cons pe_int pa_nil))))
      (pss_cons (ps_set (i := 3) sc_law.nd rfl (Or.inl rfl) (pe_call G_law_pick (hr.mono (by decide)) (by rfl) m_law_pick F_law_pick.kp b_law_pick .nil pass0 (pa_cons (pv 1) (pa_cons pe_int pa_nil))))
      (pss_cons (ps_set (i := 4) sc_law.nd rfl (Or.inr rfl) (pe_call G_law_drawn_shifts (hr.mono (by decide)) (by rfl) m_law_drawn_shifts F_law_drawn_shifts.kp b_law_drawn_shifts .nil pass0 (pa_cons (pv 1) (pa_cons (pv 2) (pa_cons (pv 3) (pa_cons (pe_call G_law_pick (hr.mono (by decide)) (by rfl) m_law_pick F_law_pick.kp b_law_pick .nil pass0 (pa_cons (pv 1) (pa_cons pe_int pa_nil))) pa_nil))))))
      (pss_cons (ps_set (i := 5) sc_law.nd rfl (Or.inr rfl) (pe_callB (cr_maxKK K rfl rfl) (by rfl) T.m_max (by decide +kernel) (pa_cons (pe_op op_cat (pe_lst (pa_cons pe_int pa_nil)) (pe_callTy (call_list_ofK K rfl) (by rfl) T.m_list (by decide +kernel) (pa_cons (pv 4) pa_nil))) pa_nil)))
      (pss_cons (ps_set (i := 6) sc_law.nd rfl (Or.inl rfl) (pe_call G_law_rows (hr.mono (by decide)) (by rfl) m_law_rows F_law_rows.kp b_law_rows .nil pass0 (pa_cons (pv 1) (pa_cons (pv 2) (pa_cons (pe_op op_add (pv 5) (pe_call G_law_pick (hr.mono (by decide)) (by rfl) m_law_pick F_law_pick.kp b_law_pick .nil pass0 (pa_cons (pv 1) (pa_cons pe_int pa_nil)))) pa_nil)))))
      (pss_cons (ps_set (i := 7) sc_law.nd rfl (Or.inl rfl) (pe_call G_moved (hr.mono (by decide)) (by rfl) m_moved F_moved.kp b_moved .nil pass0 (pa_cons (pv 2) (pa_cons (pv 3) (pa_cons (pv 4) (pa_cons (pe_slice (sl_listK K rfl) (pv 6) po_none (po_some (pv 5))) pa_nil))))))
      (PSs.to (pss_cons (ps_if (pt_not (pt_val (pe_call G_law_alike (hr.mono (by decide)) (by rfl) m_law_alike F_law_alike.kp b_law_alike .nil pass0 (pa_cons (pe_call G_beat (hr.mono (by decide)) (by rfl) m_beat F_beat.kp b_beat .nil pass0 (pa_cons (pv 7) pa_nil)) (pa_cons (pe_call G_beat (hr.mono (by decide)) (by rfl) m_beat F_beat.kp b_beat .nil pass0 (pa_cons (pv 2) pa_nil)) pa_nil))))) (pss_one (ps_ret pe_bl)) pss_nil)
      (PSs.to (pss_cons (ps_set (i := 8) sc_law.nd rfl (Or.inr rfl) (pe_call G_law_worked (hr.mono (by decide)) (by rfl) m_law_worked F_law_worked.kp b_law_worked .nil pass0 (pa_cons (pv 2) (pa_cons (pe_op op_cat (pv 6) (pe_call G_law_rows (hr.mono (by decide)) (by rfl) m_law_rows F_law_rows.kp b_law_rows .nil pass0 (pa_cons (pv 1) (pa_cons (pv 2) (pa_cons pe_int pa_nil))))) pa_nil))))
      (pss_cons (ps_set (i := 9) sc_law.nd rfl (Or.inr rfl) (pe_make m_Floor___init__ G_Floor___init__ (hr.mono (by decide)) (by rfl) T.mgC b_Floor___init__ .nil pass0 (pa_cons (pv 7) pa_nil)))
      (pss_cons (ps_expr (pe_call G_law_give_all (hr.mono (by decide)) (by rfl) m_law_give_all F_law_give_all.kp b_law_give_all .nil pass0 (pa_cons (pv 9) (pa_cons (pv 7) (pa_cons (pe_slice (sl_listK K rfl) (pv 6) (po_some (pv 5)) po_none) pa_nil)))))
      (pss_cons (ps_set (i := 10) sc_law.nd rfl (Or.inr rfl) (pe_op op_rep (pe_lst (pa_cons pe_int pa_nil)) (pe_callB (call_len_seqK K rfl) (by rfl) T.m_len (by decide +kernel) (pa_cons (pe_ix (ix_tupK K rfl) (pv 2) pe_int (fun _ _ => rfl)) pa_nil))))
      (PSs.to (pss_cons (ps_for PassesOwn.never rfl (pi_range1 (by rfl) T.m_range (pa_cons (pe_op op_add pe_int (pe_call G_law_pick (hr.mono (by decide)) (by rfl) m_law_pick F_law_pick.kp b_law_pick .nil pass0 (pa_cons (pv 1) (pa_cons pe_int pa_nil)))) pa_nil)) (pg_name (i := 11) sc_law.nd rfl (Or.inl rfl))
        (pss_cons (ps_setLc (i := 12) (own := [("_law_k", 13)]) (g := gName 13) (by rfl) sc_law.nd rfl rfl (sw_true rfl rfl rfl (by decide +kernel)) (pi_listK K rfl (pe_meth0 (pv 9) T.cl m_Floor_ready G_Floor_ready (hr.mono (by decide)) b_Floor_ready .nil pass0)) (blkOk_by (own := [("_law_k", 13)]) (N := N_law) (sc := defScope s_law) (by decide +kernel)) (fun _ _ _ _ _ => (pg_name (i := 13) sc_law.nd rfl (Or.inl rfl))) (fun _ _ _ _ _ => pts_one (pt_cmpR op_lt (pe_op op_sub (pe_op op_add (pe_ix (ix_listK K rfl) (pv 10) (pv 13) (fun _ _ => rfl)) (pv 5)) (pe_ix (ix_tupK K rfl) (pv 4) (pv 13) (fun _ _ => rfl))) (pe_callB (call_len_seqK K rfl) (by rfl) T.m_len (by decide +kernel) (pa_cons (pv 8) pa_nil)) (nomark _))) (fun _ _ _ _ _ => (pv 13)))
      (pss_one (ps_if (pt_cmpR op_gt (pe_callB (call_len_seqK K rfl) (by rfl) T.m_len (by decide +kernel) (pa_cons (pv 12) pa_nil)) pe_int (nomark _)) (pss_cons (ps_set (i := 13) sc_law.nd rfl (Or.inl rfl) (pe_ix (ix_listK K rfl) (pv 12) (pe_call G_law_pick (hr.mono (by decide)) (by rfl) m_law_pick F_law_pick.kp b_law_pick .nil pass0 (pa_cons (pv 1) (pa_cons (pe_callB (call_len_seqK K rfl) (by rfl) T.m_len (by decide +kernel) (pa_cons (pv 12) pa_nil)) pa_nil))) (fun _ _ => rfl)))
      (pss_cons (ps_if (pt_not (pt_val (pe_call G_law_alike (hr.mono (by decide)) (by rfl) m_law_alike F_law_alike.kp b_law_alike .nil pass0 (pa_cons (pe_meth (pv 9) T.cl m_Floor_work G_Floor_work (hr.mono (by decide)) b_Floor_work .nil pass0 (pa_cons (pv 13) pa_nil)) (pa_cons (pe_ix (ix_tupK K rfl) (pe_ix (ix_listK K rfl) (pv 8) (pe_op op_sub (pe_op op_add (pe_ix (ix_listK K rfl) (pv 10) (pv 13) (fun _ _ => rfl)) (pv 5)) (pe_ix (ix_tupK K rfl) (pv 4) (pv 13) (fun _ _ => rfl))) (fun _ _ => rfl)) (pv 13) (fun _ _ => rfl)) pa_nil))))) (pss_one (ps_ret pe_bl)) pss_nil)
      (pss_one (ps_asg (pe_op op_add (pe_ix (ix_listK K rfl) (pv 10) (pv 13) (fun _ _ => rfl)) pe_int) (pg_sub (pv 10) (pv 13) set_list))))) pss_nil))))
      (PSs.to (pss_one (ps_ret (pe_cmpR (op_eqDK K rfl hr.units) (pe_lc (own := [("_law_k", 13)]) (g := gName 13) (tt := tYes) (by rfl) sc_law.nd (pi_range1 (by rfl) T.m_range (pa_cons (pe_callB (call_len_seqK K rfl) (by rfl) T.m_len (by decide +kernel) (pa_cons (pv 10) pa_nil)) pa_nil)) (blkOk_by (own := [("_law_k", 13)]) (N := N_law) (sc := defScope s_law) (by decide +kernel)) (fun _ _ _ _ _ => (pg_name (i := 13) sc_law.nd rfl (Or.inl rfl))) (fun _ _ _ _ _ => pts_nil) (fun _ _ _ _ _ => (pe_callB (call_len_seqK K rfl) (by rfl) T.m_len (by decide +kernel) (pa_cons (pe_meth (pv 9) T.cl m_Floor_made G_Floor_made (hr.mono (by decide)) b_Floor_made .nil pass0 (pa_cons (pv 13) pa_nil)) pa_nil)))) (pv 10) (nomark _)))) R4 ?tail4)) R3 ?tail3))))) R2 ?tail2)) R1 ?tail1)))))))), ?_⟩
  case tail4 =>
    rintro D' σ' H1 ⟨eD, f, c, r, q', sl, rl, F, dl, cl, late, hs, bs, R1, ms1, ms, dv, N, G, sh, cc, cn, tg, v11, v12, v13, rfl, W⟩
    have lh := W.ok.hands
    have llv : (levL hs.length fun k => ((cc k : Nat) : Int)).length = hs.length := by rw [List.length_map, List.length_range]
    refine ⟨_, rfl, cl, _, rfl, .inl (SqL.of W.hc), _, rfl, by rw [llv]; omega, by rw [llv]; omega, fun D nD => lc_range (lo := 0) (n := (levL hs.length fun k => ((cc k : Nat) : Int)).length) (fun i H5 => H5 D = some (.lst (((List.range i).map fun k => ((cc k : Nat) : Int)).map V.int)) ∧ Same H1 H5) ⟨upd_same, same_new nD⟩ ?_ ?_⟩
    · rintro k H5 hk ⟨hD, s5⟩
      rw [llv] at hk
      have W5 := W.same s5
      obtain ⟨p, a5⟩ := W5.fa.b
      have tk := W.cs.top k hk
      have lm := W.lm
      refine ⟨rfl, yes_in ⟨_, rfl, F, p.dx, _, rfl, a5.hF, rfl, _, rfl, F, hs, bs, cn, tg, k, by rw [Int.zero_add]; rfl, W5.fa, hk, fun p1 H7 np1 hp1 s7 => ?_⟩⟩
      refine ⟨p1, _, rfl, .inl (SqL.of hp1), _, s7 _ _ hD, by rw [List.length_map, List.length_map, List.length_range]; exact small1000 (by omega), ?_, Same.own (s5.trans s7) nD⟩
      rw [upd_same, List.range_succ, List.map_append, List.map_append, W.cs.don k hk, List.length_map, List.length_map, List.length_take, Nat.min_eq_left tk]
      rfl
    · rintro H5 ⟨hD, s5⟩
      rw [llv] at hD
      refine ⟨_, rfl, _, _, .lst (SqL.of hD) (dp_ints _), .lst (SqL.of (s5 _ _ W.hc)) (by rw [show (levL hs.length fun k => ((cc k : Nat) : Int)) = (((List.range hs.length).map fun k => ((cc k : Nat) : Int)).map V.int) by rw [List.map_map]; rfl]; exact dp_ints _), ints_shaped _, ints_shaped _, ?_⟩
      rw [ints_same, eD]
      exact q _
  case tail3 =>
    rintro D' σ' H1 ⟨eD, f, c, r, q', sl, rl, F, dl, cl, late, hs, bs, R1, ms1, ms, dv, N, G, sh, cc, cn, tg, rfl, W⟩
    refine ⟨_, rfl, f, c, 50, rfl, by decide, by decide +kernel, W.fl, fun v H2 v0 v1 F2 B2 => ?_⟩
    refine ⟨_, _, rfl, rfl, _, rfl, by omega, by omega, for_range (lo := 0) (n := (1 + v).toNat) (fun i σ H5 => ∃ (cc : Nat → Nat) (cn : Sl → List Int) (v11 v12 v13 : Option V), σ = sg f r late sl N rl q' (some (.ref dl)) (some (.ref F)) (some (.ref cl)) v11 v12 v13 ∧ L81 C H5 f c F dl cl sl hs bs R1 ms1 ms dv N G sh cc cn tg) ⟨cc, cn, none, none, none, rfl, W.pick F2 B2⟩ ?_ ?_⟩
    · rintro i σ H5 hi ⟨cc, cn, v11, v12, v13, rfl, W⟩
      have lh := W.ok.hands
      have lb := W.ok.many
      have ldv := W.ald.length
      obtain ⟨p, a⟩ := W.fa.b
      let pr : Nat → Bool := fun k => decide (((cc k : Nat) : Int) + ((N : Nat) : Int) - sh k < ((dv.length : Nat) : Int))
      refine ⟨_, rfl, F, p.dx, _, rfl, a.hF, rfl, F, hs, bs, cn, tg, rfl, W.fa, lh, lb, fun S H6 nS hS s6 => ⟨S, rfl, ⟨_, SqL.of hS⟩, fun D nD => lc_list (K := K) (a := S) (xs := ((List.range hs.length).filter (rdy hs bs cn)).map nV) (fun j H7 => H7 D = some (.lst (((((List.range hs.length).filter (rdy hs bs cn)).take j).filter pr).map nV)) ∧ Same H6 H7) ⟨upd_same, same_new nD⟩ (fun j H7 _ ⟨_, s7⟩ => SqL.of (s7 _ _ hS)) ?_ ?_⟩⟩
      · rintro j x H7 hx ⟨hD, s7⟩
        obtain ⟨k, ek, rfl⟩ := nats_at hx
        have km := List.mem_filter.mp (List.mem_of_getElem? ek)
        have kl := List.mem_range.mp km.1
        have s67 := s6.trans s7
        have jl := (List.getElem?_eq_some_iff.mp ek).1
        have few := filt_len (p := rdy hs bs cn) hs.length
        have few2 := List.length_filter_le pr (((List.range hs.length).filter (rdy hs bs cn)).take j)
        rw [List.length_take] at few2
        refine ⟨rfl, _, rfl, _, rfl, cl, _, _, _, rfl, rfl, SqL.of (s67 _ _ W.hc), atI_nat (rg_at kl), _, rfl, _, _, rfl, rfl, _, rfl, _, rfl, sl, _, _, _, rfl, rfl, SqT.of (s67 _ _ W.hsl), atI_nat (rg_at kl), _, _, rfl, rfl, _, rfl, dl, _, rfl, .inl (SqL.of (s67 _ _ W.hd)), _, _, rfl, rfl, _, rfl, if_bl (fun z => ⟨_, rfl, _, hD, by rw [List.length_map]; exact small1000 (by omega), ?_, Same.own s7 nD⟩) (fun z => ⟨?_, s7⟩)⟩
        · rw [upd_same, filt_take ek, if_pos z, List.map_append]
          rfl
        · rw [filt_take ek, if_neg (fun y => by rw [show pr k = false from z] at y; cases y), List.append_nil]
          exact hD
      rintro H7 ⟨hD, s7⟩
      rw [List.length_map, List.take_length] at hD
      generalize esm : (((List.range hs.length).filter (rdy hs bs cn)).filter pr) = sm at hD
      have lsm : sm.length ≤ 12 := by
        have h1 := List.length_filter_le pr ((List.range hs.length).filter (rdy hs bs cn))
        have h2 := filt_len (p := rdy hs bs cn) hs.length
        rw [esm] at h1
        omega
      have s67 := s6.trans s7
      have W7 := W.same s67
      have Df : D ≠ f := fun z => by
        rw [z] at nD
        obtain ⟨_, _, _, _, _, e1, _⟩ := W.fl.same s6
        rw [e1] at nD
        cases nD
      refine ⟨_, rfl, D, _, rfl, .inl (SqL.of hD), _, _, rfl, rfl, _, rfl, if_bl (fun z => ?_) (fun _ => ⟨cc, cn, _, _, _, rfl, W7⟩)⟩
      have z : (((sm.map nV).length : Nat) : Int) > 0 := of_decide_eq_true z
      rw [List.length_map] at z
      refine ⟨_, rfl, _, rfl, _, rfl, D, _, rfl, .inl (SqL.of hD), f, c, ((sm.length : Nat) : Int), by rw [List.length_map]; rfl, by omega, log_small (by omega), W7.fl, fun v H8 v0 v1 F8 B8 => ?_⟩
      obtain ⟨vn, rfl⟩ : ∃ vn : Nat, v = ((vn : Nat) : Int) := ⟨v.toNat, by omega⟩
      have W8 := W7.pick F8 B8
      obtain ⟨k, ek⟩ : ∃ k, sm[vn]? = some k := ⟨_, List.getElem?_eq_getElem (by omega)⟩
      have km : k ∈ (((List.range hs.length).filter (rdy hs bs cn)).filter pr) := by rw [esm]; exact List.mem_of_getElem? ek
      obtain ⟨km1, km2⟩ := List.mem_filter.mp km
      obtain ⟨km3, rd⟩ := List.mem_filter.mp km1
      have kl := List.mem_range.mp km3
      have cX : ((cc k : Nat) : Int) + ((N : Nat) : Int) - sh k < ((dv.length : Nat) : Int) := of_decide_eq_true km2
      have wk := W.wt k kl
      obtain ⟨ck, ed⟩ := W.due (cc k) k kl (by omega)
      obtain ⟨x, eX⟩ : ∃ x : Nat, ((cc k : Nat) : Int) + ((N : Nat) : Int) - sh k = ((x : Nat) : Int) := ⟨(((cc k : Nat) : Int) + ((N : Nat) : Int) - sh k).toNat, by omega⟩
      have xl : x < ms.length := by omega
      rw [eX, Int.toNat_natCast] at ed
      have hD8 := B8 _ _ hD Df
      refine ⟨D, _, _, _, rfl, rfl, SqL.of hD8, atI_nat (show (sm.map nV)[vn]? = some (nV k) by rw [List.getElem?_map, ek]; rfl), ?_⟩
      obtain ⟨p8, a8⟩ := W8.fa.b
      have len9 : ∀ s, VS hs bs s → (cn s).length ≤ 900 := fun s vs => Nat.le_trans (W8.len vs) (by decide)
      refine ⟨_, rfl, F, p8.dx, _, rfl, a8.hF, rfl, _, rfl, F, hs, bs, cn, tg, k, rfl, W8.fa, W8.ok, kl, rd, len9, fun H9 fa9 b9 => ?_⟩
      have ev := W8.cs.val W8.ok W8.ws kl rd ck
      have hc9 := b9 _ _ W8.hc W8.tl
      have hd9 := b9 _ _ W8.hd W8.td
      have hsl9 := b9.tk W8.fa.own _ _ W8.hsl
      obtain ⟨y, ey, tr, rfl, htr⟩ := W8.ald.get (List.getElem?_eq_getElem xl)
      have htr9 := b9.tk W8.fa.own _ _ htr
      have lrow := W8.row ms[x] (List.getElem_mem xl)
      have em : gD ms[x] k = wkV hs bs cn k := by
        rw [ev, ed]
        unfold Vm
        rw [getD_at (List.getElem?_eq_getElem xl)]
      refine ⟨_, rfl, _, rfl, _, rfl, cl, _, _, _, rfl, rfl, SqL.of hc9, atI_nat (rg_at kl), _, rfl, _, _, rfl, rfl, _, rfl, _, rfl, sl, _, _, _, rfl, rfl, SqT.of hsl9, atI_nat (rg_at kl), _, _, rfl, rfl, dl, _, _, _, rfl, rfl, SqL.of hd9, (show atI dv (((cc k : Nat) : Int) + ((N : Nat) : Int) - sh k) = some (.ref tr) by rw [eX]; exact atI_nat ey), _, rfl, tr, _, _, _, rfl, rfl, SqT.of htr9, at_row (by omega), ?_⟩
      refine ⟨_, _, rfl, by rw [em]; exact Al.int, fun H10 s10 => ⟨_, rfl, if_bl (fun z => nomatch z) (fun _ => ?_)⟩⟩
      have hc10 := s10 _ _ hc9
      refine ⟨_, rfl, _, rfl, cl, _, _, _, rfl, rfl, SqL.of hc10, atI_nat (rg_at kl), _, _, rfl, rfl, _, rfl, _, rfl, cl, _, _, k, rfl, rfl, hc10, ixN_nat (by rw [List.length_map, List.length_range]; exact kl), ?_⟩
      have u : Kp tg H10 (upd H10 cl (.lst ((levL hs.length fun k => ((cc k : Nat) : Int)).set k (V.int (((cc k : Nat) : Int) + 1))))) := Kp.lst hc10 W.tl
      have b98 : Bt tg H8 H10 := b9.same s10
      refine ⟨fun j => if j = k then cc k + 1 else cc j, wkC hs bs cn k, _, _, _, rfl, ⟨(b98.flow W8.fl W.tf W.tc).lst W.n1 W.n2, (fa9.kp (Kp.same s10)).kp u, W.ok, W.l60, W.ws, W8.cs.work W8.ok W8.ws kl rd ck, W.lm, W.row, by rw [upd_ne W.n3.symm]; exact b98 _ _ W8.hd W.td, W8.ald.imp fun _ _ z => (z.keep (b98.tk W8.fa.own)).keep u.tk, ?_, u.tk _ _ (b98.tk W8.fa.own _ _ W8.hsl), W.due, W.wt, W.tf, W.tc, W.td, W.tl, W.n1, W.n2, W.n3, W.n4⟩⟩
      rw [upd_same, lev_set kl]
      refine congrArg (fun z => some (HO.lst z)) (List.map_congr_left fun j _ => congrArg V.int ?_)
      show (if j = k then ((cc k : Nat) : Int) + 1 else ((cc j : Nat) : Int)) = (((if j = k then cc k + 1 else cc j : Nat)) : Int)
      by_cases y : j = k
      · rw [if_pos y, if_pos y]; rfl
      · rw [if_neg y, if_neg y]
    · rintro σ H5 ⟨cc, cn, v11, v12, v13, rfl, W⟩
      exact ⟨eD, f, c, r, q', sl, rl, F, dl, cl, late, hs, bs, R1, ms1, ms, dv, N, G, sh, cc, cn, tg, v11, v12, v13, rfl, W⟩
  case tail2 =>
    rintro D' σ' H1 ⟨eD, f, c, r, q', sl, rl, late, hs, bs, sh, N, d, ms0, rv, rows, rfl, m⟩
    have lr := m.lr
    have n20 := m.n20
    have lN := m.lN
    have lrv := m.alr.length
    refine ⟨_, rfl, _, rfl, _, rfl, _, rfl, f, c, r, hs, bs, 12, rfl, by decide, by decide, m.fl, m.hR, m.ok.hands, m.ok.good, fun xl xv rest H2 nxl hxl alx lrest fit2 F2 B2 => ?_⟩
    have m2 := m.but F2 B2
    have lxv := alx.length
    have lrest : rest.length = 12 := lrest
    refine ⟨rl, xl, _, _, rfl, rfl, m2.hrl, hxl, little (by omega), fun al nal => ?_⟩
    have s3 := same_new (o := .lst (rv ++ xv)) nal
    have m3 := m2.same s3
    have fit3 : ∀ x ∈ rows ++ rest, x.length = (doorsOf "in" hs).length := fun x hx => by
      rcases List.mem_append.mp hx with h | h
      · exact m.fit x h
      · exact (fit2 x h).1
    refine ⟨r, al, hs, bs, rows ++ rest, rfl, m3.hR, m.ok, ⟨rv ++ xv, .inl upd_same, (All2.cat m2.alr alx).imp fun _ _ z => RowAt.keep z (TK.same s3)⟩, fit3, by rw [List.length_append]; omega, fun dl dv ms H4 ndl hdl ald ws s4 => ?_⟩
    have m4 := m3.same s4
    have ndf : dl ≠ f := m3.fl.ne ndl
    obtain ⟨R1', ms1, lR, eR, ws1, due⟩ := moved_due m.ok m.okg m.le m.lN m.n20 m.wt m.ah fit3 m.ws0 ws
    have lms1 := ws1.len
    refine ⟨_, rfl, fun F dx nF ndx ne => ?_⟩
    have sm : ∀ b o, H4 b = some o → upd (upd H4 dx (.own F)) F (.ins C dx []) b = some o := fun b o e => by
      rw [upd_ne (ne_of_none e nF), upd_ne (ne_of_none e ndx)]; exact e
    refine ⟨F, q', dx, hs, _, rfl, upd_same, m4.hQ.keep (TK.same sm), m.okg, fun tg H5 fa5 old b5 => ⟨rfl, ?_⟩⟩
    have s5 := made_same nF ndx ne b5
    have m5 := m4.same s5
    have hdl5 := s5 _ _ hdl
    have ald5 := ald.imp fun _ _ z => RowAt.keep z (TK.same s5)
    have free : ∀ b o, H4 b = some o → tg b = none := fun b o e => old b o (sm b o e)
    obtain ⟨_, _, _, _, _, ef, ec, _⟩ := m4.fl
    have tf := free _ _ ef
    have tc := free _ _ ec
    have td := free _ _ hdl
    have tr := free _ _ m4.hrl
    refine ⟨_, rfl, _, rfl, _, rfl, _, rfl, _, rfl, rl, rv, rfl, SqL.of m5.hrl, fun x1 nx1 => ?_⟩
    rw [cut_drop]
    have s6 := same_new (o := .lst (rv.drop N)) nx1
    obtain ⟨p5, a5⟩ := fa5.b
    have tx1 : tg x1 = none := a5.own.free nx1
    have fa6 := fa5.kp (Kp.same s6)
    have m6 := m5.same s6
    have l60 : ∀ b ∈ bs.map (movB sh ((N : Nat) : Int) ms0), b.th.length ≤ 60 := fun b hb => Nat.le_trans (m.th30 b hb) (by decide)
    have st := Cn59.start (hs := hs) (bs := bs.map (movB sh ((N : Nat) : Int) ms0)) (rows := R1') (ms := ms1)
    refine ⟨F, q', x1, hs, _, cn0 (bs.map (movB sh ((N : Nat) : Int) ms0)), tg, rv.drop N, rows.drop N, rfl, fa6, m6.hQ, m.okg, upd_same, tx1, (All2.dropN m5.alr N).imp fun _ _ z => RowAt.keep z (TK.same s6), fun x hx => m.fit x (List.mem_of_mem_drop hx), fun s vs => Nat.le_trans (st.len81 l60 (by omega) (by omega) vs) (by decide), by rw [List.length_drop]; omega, fun H7 fa7 b7 => ?_⟩
    have g7 := st.give (R := rows.drop N) (by rw [List.length_drop]; omega) (by rw [List.drop_zero, List.length_drop]; exact eR)
    obtain ⟨p6, a6⟩ := fa6.b
    have k7 := b7.tk a6.own
    have F7 := b7.flow m6.fl tf tc
    obtain ⟨ha, ba, hv, bv, er, eh, eb, alh, alb⟩ := (m6.hR.keep k7).ex
    have lhv := alh.length
    have lh := m.ok.hands
    refine ⟨(by show 1 ≤ sizeLine; decide), fun l1 n1 => ?_⟩
    have u1 := same_new (o := .lst [V.int 0]) n1
    refine ⟨_, rfl, r, _, _, _, rfl, rfl, SqT.of (u1 _ _ er), atI_nat (j := 0) rfl, ha, _, rfl, .inr (SqT.of (u1 _ _ eh)), l1, _, _, rfl, rfl, upd_same, by omega, by omega, (by show 1 * ((hv.length : Nat) : Int).toNat ≤ sizeLine; exact little (by omega)), fun cl ncl => ?_⟩
    have u2 := same_new (o := .lst (List.replicate ((hv.length : Nat) : Int).toNat [V.int 0]).flatten) ncl
    have hcl : upd (upd H7 l1 (.lst [V.int 0])) cl (.lst (List.replicate ((hv.length : Nat) : Int).toNat [V.int 0]).flatten) cl = some (.lst (levL hs.length fun _ => (((0 : Nat) : Int)))) := by
      rw [upd_same, Int.toNat_natCast, lhv, lev0]
    have s8 := u1.trans u2
    have ncl7 : H7 cl = none := same_none u1 ncl
    generalize upd (upd H7 l1 (.lst [V.int 0])) cl (.lst (List.replicate ((hv.length : Nat) : Int).toNat [V.int 0]).flatten) = H8 at hcl s8
    obtain ⟨p7, a7⟩ := fa7.b
    have hdl7 := b7 _ _ (s6 _ _ hdl5) td
    exact ⟨eD, f, c, r, q', sl, rl, F, dl, cl, late, hs, _, R1', ms1, ms, dv, N, _, sh, (fun _ => 0), _, tg, rfl, ⟨F7.same s8, fa7.kp (Kp.same s8), m.okg, l60, ws1, g7, by omega, fun x hx => ws.row x hx, s8 _ _ hdl7, (ald5.imp fun _ _ z => RowAt.keep z ((TK.same s6).trans k7)).imp fun _ _ z => RowAt.keep z (TK.same s8), hcl, s8 _ _ (k7 _ _ m6.hsl), due, m.wt, tf, tc, td, a7.own.free ncl7, F7.ne ncl7, F7.nec ncl7, (ne_of_none hdl7 ncl7).symm, ndf⟩⟩
  case tail1 =>
    rintro D' σ' H1 ⟨eD, f, c, r, q', sl, rl, late, hs, bs, sh, N, d, ms0, rv, rows, rfl, m, tb⟩
    have okB := bok81 m.ok (fun b hb => Nat.le_trans (m.l6 b hb) (by decide))
    have pos := m.some1
    refine ⟨_, rfl, q', hs, _, rfl, m.hQ, bok81 m.okg m.th30, tb, (fun h0 => by rw [h0] at pos; cases pos), fun _ p1 a1 b1 k1 ns1 lv1 H2 hp1 B1 D1 ext1 tb2 => ?_⟩
    have m2 := m.ext ext1
    refine ⟨_, rfl, r, hs, bs, rfl, m2.hR, okB, tb2, (fun h0 => by rw [h0] at pos; cases pos), fun _ p2 a2 b2 k2 ns2 lv2 H3 hp2 B2 D2 ext2 tb3 => ?_⟩
    have m3 := m2.ext ext2
    obtain ⟨ea, eb⟩ := beat_one okB B2 D2 (B1.first m.le.tr) (D1.first m.le.tr m.bd B1.a0)
    subst ea
    subst eb
    refine ⟨_, _, rfl, Al.tup (ExtN.tk ext2 _ _ hp1) hp2 (by show 2 ≤ 400; decide) (.cons Al.int (.cons Al.int .nil)), fun H4 s4 => ⟨_, rfl, if_bl (fun z => nomatch z) (fun _ => ?_)⟩⟩
    exact ⟨eD, f, c, r, q', sl, rl, late, hs, bs, sh, N, d, ms0, rv, rows, rfl, m3.same s4⟩
  refine ⟨_, rfl, a, ns, rfl, hS, fun f c H1 nf nc F1 s1 => ?_⟩
  have tb1 := tabs_same tabs s1
  refine ⟨_, rfl, f, c, 5, rfl, by decide, by decide, F1, fun r hs bs H2 hR ok some1 l6 F2 B2 => ?_⟩
  have lh := ok.hands
  have tb2 := tabs_but tb1 F1 B2
  refine ⟨_, rfl, f, c, 4, rfl, by decide, by decide +kernel, F2, fun late H3 v0 v1 F3 B3 => ?_⟩
  have tb3 := tabs_but tb2 F2 B3
  refine ⟨_, rfl, _, rfl, _, rfl, _, rfl, f, c, 17, rfl, by decide, by decide +kernel, F3, fun v2 H4 w0 w1 F4 B4 => ?_⟩
  have tb4 := tabs_but tb3 F3 B4
  have k4 : TK H2 H4 := (TK.but F2 B3).trans (TK.but F3 B4)
  refine ⟨f, c, r, hs, bs, late, v2, rfl, F4, hR.keep k4, ok, some1, v0, by omega, w0, by omega, fun sl sh H5 hsl gd bd ap F5 B5 => ?_⟩
  have tb5 := tabs_but tb4 F4 B5
  have k5 := k4.trans (TK.but F4 B5)
  refine ⟨(by show 1 ≤ sizeLine; decide), fun z0 nz => ?_⟩
  have u1 := same_new (o := .lst [V.int 0]) nz
  refine ⟨_, rfl, sl, _, rfl, .inr (SqT.of (u1 _ _ hsl)), fun l nl => ?_⟩
  have u2 := same_new (o := .lst (levL hs.length sh)) nl
  refine ⟨z0, l, _, _, rfl, rfl, u2 _ _ upd_same, upd_same, by rw [List.length_map, List.length_range]; exact little (by show 1 + _ ≤ 1000; omega), fun p np => ?_⟩
  have u3 := same_new (o := .lst ([V.int 0] ++ levL hs.length sh)) np
  have esl : levL hs.length sh = ((List.range hs.length).map sh).map V.int := by rw [List.map_map]; rfl
  refine ⟨p, 0 :: (List.range hs.length).map sh, rfl, SqL.of (by rw [upd_same, List.map_cons, ← esl]; rfl), by simp, fun m hm hle => ?_⟩
  have u := (u1.trans u2).trans u3
  have m20 : m ≤ 20 := by
    rcases List.mem_cons.mp hm with z | z
    · omega
    · obtain ⟨k, _, rfl⟩ := List.mem_map.mp z
      exact (bd k).2
  have m0 := hle 0 (List.mem_cons_self ..)
  have wt : Wait hs.length sh m := ⟨m0, fun k hk => hle _ (List.mem_cons_of_mem _ (List.mem_map.mpr ⟨k, List.mem_range.mpr hk, rfl⟩)), by
    rcases List.mem_cons.mp hm with z | z
    · exact .inl z
    · obtain ⟨k, h1, h2⟩ := List.mem_map.mp z
      exact .inr ⟨k, List.mem_range.mp h1, h2⟩⟩
  generalize upd _ p _ = H6 at u
  have F6 := F5.same u
  have tb6 := tabs_same tb5 u
  have hR6 := hR.keep (k5.trans (TK.same u))
  have hsl6 := u _ _ hsl
  obtain ⟨N, rfl⟩ : ∃ N : Nat, m = ((N : Nat) : Int) := ⟨m.toNat, by omega⟩
  refine ⟨_, rfl, _, rfl, _, rfl, _, rfl, f, c, 6, rfl, by decide, by decide +kernel, F6, fun v3 H7 y0 y1 F7 B7 => ?_⟩
  have tb7 := tabs_but tb6 F6 B7
  have k7 := TK.but F6 B7
  refine ⟨_, _, rfl, rfl, f, c, r, hs, bs, ((N : Nat) : Int) + v3, rfl, by omega, by omega, F7, hR6.keep k7, lh, ok.good, fun rp rv rows H8 nrp hrp alr lr rok F8 B8 => ?_⟩
  have tb8 := tabs_but tb7 F7 B8
  have k8 := k7.trans (TK.but F7 B8)
  refine ⟨_, rfl, _, rfl, _, rfl, _, rfl, ?_⟩
  dsimp only [tNoPart]
  refine ⟨_, rfl, _, rfl, rp, _, rfl, SqL.of hrp, fun p9 np9 => ?_⟩
  rw [cut_take]
  have s9 := same_new (o := .lst (rv.take N)) np9
  have hp9 : (upd H8 p9 (.lst (rv.take N))) p9 = some (.lst (rv.take N)) := upd_same
  generalize upd H8 p9 (.lst (rv.take N)) = H9 at s9 hp9 ⊢
  have tb9 := tabs_same tb8 s9
  have k9 := k8.trans (TK.same s9)
  have F9 := F8.same s9
  have lrow : ∀ x ∈ rows.take N, x.length = (doorsOf "in" hs).length := fun x hx => (rok x (List.mem_of_mem_take hx)).1
  have lrt : (rows.take N).length = N := by rw [List.length_take]; omega
  refine ⟨r, sl, p9, hs, bs, late, sh, rv.take N, rows.take N, rfl, hR6.keep k9, ok, k9 _ _ hsl6, gd, fun k => by have := bd k; omega, .inl hp9, (All2.takeN alr N).imp fun _ _ z => RowAt.keep z (TK.same s9), lrow, by omega, fun k hk => by rw [lrt]; exact wt.le k hk, tb9, fun q' w' d ms0 H10 hq' wt' ahd ws0 tb10 b10 => ?_⟩
  have ew : w' = ((N : Nat) : Int) := by
    refine Int.le_antisymm ?_ ?_
    · rcases wt'.at_ with z | ⟨k, kl, z⟩
      · have := wt.nn; omega
      · rw [← z]; exact wt.le k kl
    · rcases wt.at_ with z | ⟨k, kl, z⟩
      · have := wt'.nn; omega
      · rw [← z]; exact wt'.le k kl
  subst ew
  have k10 := k9.trans (ExtN.tk b10)
  exact ⟨rfl, f, c, r, q', sl, rp, late, hs, bs, sh, N, d, ms0, rv, rows, rfl, ⟨ExtN.flow b10 F9, hR6.keep k10, hq', ok, (by obtain ⟨h, hm, _⟩ := some1; exact List.length_pos_of_mem hm), l6, ⟨gd.ins, gd.tr⟩, bd, fun i j => by have := ap i j; omega, k10 _ _ hsl6, ExtN.lst b10 (s9 _ _ hrp), alr.imp fun _ _ z => RowAt.keep z ((TK.same s9).trans (ExtN.tk b10)), fun x hx => (rok x hx).1, by omega, by omega, by omega, wt.le, ahd.le, ws0, F7.ne nrp⟩, tb10⟩
end
theorem fun_of_D {K : PySem.W.Frag} {x q : Str} {st : Stmt} {f : Addr} {fd : FuncData} (D : FunD K x q (defArgs st) (defBody st) (defScope st) [] [] f fd) : Fun K x q st f fd := by
  obtain ⟨⟨oc, od, dV, kV, doc, pm, an, cdv, ct, osl, e, lk, ci, dfl, _⟩, kp⟩ := D
  have z : dV = .none := by
    rcases dfl with ⟨_, h⟩ | ⟨h, _⟩
    · exact h
    · exact absurd rfl h
  subst z
  exact ⟨⟨oc, od, kV, doc, pm, an, cdv, ct, osl, e, lk, ci⟩, kp⟩
def hd_is_whole : He.DefD := ⟨("is_whole", none), "is_whole", "is_whole", defArgs s_is_whole, defBody s_is_whole, defScope s_is_whole, [], []⟩
def hd_made_by : He.DefD := ⟨("made_by", none), "made_by", "made_by", defArgs s_made_by, defBody s_made_by, defScope s_made_by, [], []⟩
def hd_made_of_two : He.DefD := ⟨("made_of_two", none), "made_of_two", "made_of_two", defArgs s_made_of_two, defBody s_made_of_two, defScope s_made_of_two, [], []⟩
def hd_comings : He.DefD := ⟨("comings", none), "comings", "comings", defArgs s_comings, defBody s_comings, defScope s_comings, [], []⟩
def hd_goings : He.DefD := ⟨("goings", none), "goings", "goings", defArgs s_goings, defBody s_goings, defScope s_goings, [], []⟩
def hd_doors_in : He.DefD := ⟨("doors_in", none), "doors_in", "doors_in", defArgs s_doors_in, defBody s_doors_in, defScope s_doors_in, [], []⟩
def hd_doors_out : He.DefD := ⟨("doors_out", none), "doors_out", "doors_out", defArgs s_doors_out, defBody s_doors_out, defScope s_doors_out, [], []⟩
def hd_Floor___init__ : He.DefD := ⟨("Floor", some "__init__"), "__init__", "Floor.__init__", defArgs s_Floor___init__, defBody s_Floor___init__, defScope s_Floor___init__, [], []⟩
def hd_Floor_give : He.DefD := ⟨("Floor", some "give"), "give", "Floor.give", defArgs s_Floor_give, defBody s_Floor_give, defScope s_Floor_give, [], []⟩
def hd_Floor_ready : He.DefD := ⟨("Floor", some "ready"), "ready", "Floor.ready", defArgs s_Floor_ready, defBody s_Floor_ready, defScope s_Floor_ready, [], []⟩
def hd_Floor_work : He.DefD := ⟨("Floor", some "work"), "work", "Floor.work", defArgs s_Floor_work, defBody s_Floor_work, defScope s_Floor_work, [], []⟩
def hd_Floor_made : He.DefD := ⟨("Floor", some "made"), "made", "Floor.made", defArgs s_Floor_made, defBody s_Floor_made, defScope s_Floor_made, [], []⟩
def hd_Floor_can_work : He.DefD := ⟨("Floor", some "can_work"), "can_work", "Floor.can_work", defArgs s_Floor_can_work, defBody s_Floor_can_work, defScope s_Floor_can_work, [], []⟩
def hd_Floor_sources : He.DefD := ⟨("Floor", some "sources"), "sources", "Floor.sources", defArgs s_Floor_sources, defBody s_Floor_sources, defScope s_Floor_sources, [], []⟩
def hd_levels_or_ring : He.DefD := ⟨("levels_or_ring", none), "levels_or_ring", "levels_or_ring", defArgs s_levels_or_ring, defBody s_levels_or_ring, defScope s_levels_or_ring, [], []⟩
def hd_raise_levels : He.DefD := ⟨("raise_levels", none), "raise_levels", "raise_levels", defArgs s_raise_levels, defBody s_raise_levels, defScope s_raise_levels, [], []⟩
def hd_ring_behind : He.DefD := ⟨("ring_behind", none), "ring_behind", "ring_behind", defArgs s_ring_behind, defBody s_ring_behind, defScope s_ring_behind, [], []⟩
def hd_work_order : He.DefD := ⟨("work_order", none), "work_order", "work_order", defArgs s_work_order, defBody s_work_order, defScope s_work_order, [], []⟩
def hd_trays_on : He.DefD := ⟨("trays_on", none), "trays_on", "trays_on", defArgs s_trays_on, defBody s_trays_on, defScope s_trays_on, [], []⟩
def hd_moments_on : He.DefD := ⟨("moments_on", none), "moments_on", "moments_on", defArgs s_moments_on, defBody s_moments_on, defScope s_moments_on, [], []⟩
def hd_beat : He.DefD := ⟨("beat", none), "beat", "beat", defArgs s_beat, defBody s_beat, defScope s_beat, [], []⟩
def hd_beat_papers : He.DefD := ⟨("beat_papers", none), "beat_papers", "beat_papers", defArgs s_beat_papers, defBody s_beat_papers, defScope s_beat_papers, [], []⟩
def hd_beat_steps : He.DefD := ⟨("beat_steps", none), "beat_steps", "beat_steps", defArgs s_beat_steps, defBody s_beat_steps, defScope s_beat_steps, [], []⟩
def hd_ring_moments : He.DefD := ⟨("ring_moments", none), "ring_moments", "ring_moments", defArgs s_ring_moments, defBody s_ring_moments, defScope s_ring_moments, [], []⟩
def hd_in_least_terms : He.DefD := ⟨("in_least_terms", none), "in_least_terms", "in_least_terms", defArgs s_in_least_terms, defBody s_in_least_terms, defScope s_in_least_terms, [], []⟩
def hd_worked : He.DefD := ⟨("worked", none), "worked", "worked", defArgs s_worked, defBody s_worked, defScope s_worked, [], []⟩
def hd_work_plan : He.DefD := ⟨("work_plan", none), "work_plan", "work_plan", defArgs s_work_plan, defBody s_work_plan, defScope s_work_plan, [], []⟩
def hd_made_at_bell : He.DefD := ⟨("made_at_bell", none), "made_at_bell", "made_at_bell", defArgs s_made_at_bell, defBody s_made_at_bell, defScope s_made_at_bell, [], []⟩
def hd_thing_taken : He.DefD := ⟨("thing_taken", none), "thing_taken", "thing_taken", defArgs s_thing_taken, defBody s_thing_taken, defScope s_thing_taken, [], []⟩
def hd_behind_bell : He.DefD := ⟨("behind_bell", none), "behind_bell", "behind_bell", defArgs s_behind_bell, defBody s_behind_bell, defScope s_behind_bell, [], []⟩
def hd_belt_behind_bell : He.DefD := ⟨("belt_behind_bell", none), "belt_behind_bell", "belt_behind_bell", defArgs s_belt_behind_bell, defBody s_belt_behind_bell, defScope s_belt_behind_bell, [], []⟩
def hd_look_shifts : He.DefD := ⟨("look_shifts", none), "look_shifts", "look_shifts", defArgs s_look_shifts, defBody s_look_shifts, defScope s_look_shifts, [], []⟩
def hd_refuse_shifts : He.DefD := ⟨("refuse_shifts", none), "refuse_shifts", "refuse_shifts", defArgs s_refuse_shifts, defBody s_refuse_shifts, defScope s_refuse_shifts, [], []⟩
def hd_is_shifts : He.DefD := ⟨("is_shifts", none), "is_shifts", "is_shifts", defArgs s_is_shifts, defBody s_is_shifts, defScope s_is_shifts, [], []⟩
def hd_wrong_door : He.DefD := ⟨("wrong_door", none), "wrong_door", "wrong_door", defArgs s_wrong_door, defBody s_wrong_door, defScope s_wrong_door, [], []⟩
def hd_short_belt : He.DefD := ⟨("short_belt", none), "short_belt", "short_belt", defArgs s_short_belt, defBody s_short_belt, defScope s_short_belt, [], []⟩
def hd_waits : He.DefD := ⟨("waits", none), "waits", "waits", defArgs s_waits, defBody s_waits, defScope s_waits, [], []⟩
def hd_trays_moved : He.DefD := ⟨("trays_moved", none), "trays_moved", "trays_moved", defArgs s_trays_moved, defBody s_trays_moved, defScope s_trays_moved, [], []⟩
def hd_moved : He.DefD := ⟨("moved", none), "moved", "moved", defArgs s_moved, defBody s_moved, defScope s_moved, [], []⟩
def hd_rows_on : He.DefD := ⟨("rows_on", none), "rows_on", "rows_on", defArgs s_rows_on, defBody s_rows_on, defScope s_rows_on, [], []⟩
def hd_taken_at : He.DefD := ⟨("taken_at", none), "taken_at", "taken_at", defArgs s_taken_at, defBody s_taken_at, defScope s_taken_at, [], []⟩
def hd_law_flow : He.DefD := ⟨("_law_flow", none), "_law_flow", "_law_flow", defArgs s_law_flow, defBody s_law_flow, defScope s_law_flow, [], []⟩
def hd_law_pick : He.DefD := ⟨("_law_pick", none), "_law_pick", "_law_pick", defArgs s_law_pick, defBody s_law_pick, defScope s_law_pick, [], []⟩
def hd_law_thing : He.DefD := ⟨("_law_thing", none), "_law_thing", "_law_thing", defArgs s_law_thing, defBody s_law_thing, defScope s_law_thing, [], []⟩
def hd_law_needs : He.DefD := ⟨("_law_needs", none), "_law_needs", "_law_needs", defArgs s_law_needs, defBody s_law_needs, defScope s_law_needs, [], []⟩
def hd_law_rule : He.DefD := ⟨("_law_rule", none), "_law_rule", "_law_rule", defArgs s_law_rule, defBody s_law_rule, defScope s_law_rule, [], []⟩
def hd_law_shuffled : He.DefD := ⟨("_law_shuffled", none), "_law_shuffled", "_law_shuffled", defArgs s_law_shuffled, defBody s_law_shuffled, defScope s_law_shuffled, [], []⟩
def hd_law_hands : He.DefD := ⟨("_law_hands", none), "_law_hands", "_law_hands", defArgs s_law_hands, defBody s_law_hands, defScope s_law_hands, [], []⟩
def hd_law_room : He.DefD := ⟨("_law_room", none), "_law_room", "_law_room", defArgs s_law_room, defBody s_law_room, defScope s_law_room, [], []⟩
def hd_law_rows : He.DefD := ⟨("_law_rows", none), "_law_rows", "_law_rows", defArgs s_law_rows, defBody s_law_rows, defScope s_law_rows, [], []⟩
def hd_law_made_by : He.DefD := ⟨("_law_made_by", none), "_law_made_by", "_law_made_by", defArgs s_law_made_by, defBody s_law_made_by, defScope s_law_made_by, [], []⟩
def hd_law_worked : He.DefD := ⟨("_law_worked", none), "_law_worked", "_law_worked", defArgs s_law_worked, defBody s_law_worked, defScope s_law_worked, [], []⟩
def hd_law_alike : He.DefD := ⟨("_law_alike", none), "_law_alike", "_law_alike", defArgs s_law_alike, defBody s_law_alike, defScope s_law_alike, [], []⟩
def hd_law_doors : He.DefD := ⟨("_law_doors", none), "_law_doors", "_law_doors", defArgs s_law_doors, defBody s_law_doors, defScope s_law_doors, [], []⟩
def hd_law_moved : He.DefD := ⟨("_law_moved", none), "_law_moved", "_law_moved", defArgs s_law_moved, defBody s_law_moved, defScope s_law_moved, [], []⟩
def hd_law_give_all : He.DefD := ⟨("_law_give_all", none), "_law_give_all", "_law_give_all", defArgs s_law_give_all, defBody s_law_give_all, defScope s_law_give_all, [], []⟩
def hd_law_drawn_shifts : He.DefD := ⟨("_law_drawn_shifts", none), "_law_drawn_shifts", "_law_drawn_shifts", defArgs s_law_drawn_shifts, defBody s_law_drawn_shifts, defScope s_law_drawn_shifts, [], []⟩
def hd_law : He.DefD := ⟨("law", none), "law", "law", defArgs s_law, defBody s_law, defScope s_law, [], []⟩
def hFn : List He.DefD := [hd_is_whole, hd_made_by, hd_made_of_two, hd_comings, hd_goings, hd_doors_in, hd_doors_out, hd_Floor___init__, hd_Floor_give, hd_Floor_ready, hd_Floor_work, hd_Floor_made, hd_Floor_can_work, hd_Floor_sources, hd_levels_or_ring, hd_raise_levels, hd_ring_behind, hd_work_order, hd_trays_on, hd_moments_on, hd_beat, hd_beat_papers, hd_beat_steps, hd_ring_moments, hd_in_least_terms, hd_worked, hd_work_plan, hd_made_at_bell, hd_thing_taken, hd_behind_bell, hd_belt_behind_bell, hd_look_shifts, hd_refuse_shifts, hd_is_shifts, hd_wrong_door, hd_short_belt, hd_waits, hd_trays_moved, hd_moved, hd_rows_on, hd_taken_at, hd_law_flow, hd_law_pick, hd_law_thing, hd_law_needs, hd_law_rule, hd_law_shuffled, hd_law_hands, hd_law_room, hd_law_rows, hd_law_made_by, hd_law_worked, hd_law_alike, hd_law_doors, hd_law_moved, hd_law_give_all, hd_law_drawn_shifts, hd_law]
def hFa : List He.Fa := [.glo "is_whole", .glo "made_by", .glo "made_of_two", .glo "comings", .glo "goings", .glo "doors_in", .glo "doors_out", .mkr "Floor", .meth "Floor" "give", .meth "Floor" "ready", .meth "Floor" "work", .meth "Floor" "made", .meth "Floor" "can_work", .meth "Floor" "sources", .glo "levels_or_ring", .glo "raise_levels", .glo "ring_behind", .glo "work_order", .glo "trays_on", .glo "moments_on", .glo "beat", .glo "beat_papers", .glo "beat_steps", .glo "ring_moments", .glo "in_least_terms", .glo "worked", .glo "work_plan", .glo "made_at_bell", .glo "thing_taken", .glo "behind_bell", .glo "belt_behind_bell", .glo "look_shifts", .glo "refuse_shifts", .glo "is_shifts", .glo "wrong_door", .glo "short_belt", .glo "waits", .glo "trays_moved", .glo "moved", .glo "rows_on", .glo "taken_at", .glo "_law_flow", .glo "_law_pick", .glo "_law_thing", .glo "_law_needs", .glo "_law_rule", .glo "_law_shuffled", .glo "_law_hands", .glo "_law_room", .glo "_law_rows", .glo "_law_made_by", .glo "_law_worked", .glo "_law_alike", .glo "_law_doors", .glo "_law_moved", .glo "_law_give_all", .glo "_law_drawn_shifts", .glo "law", .free "abs", .free "all", .free "bool", .free "dict", .free "enumerate", .free "int", .free "isinstance", .free "len", .free "list", .free "max", .free "min", .free "range", .free "sum", .free "tuple", .free "zip", .glo "IN_RULE", .glo "OUT_RULE", .cls "Floor", .glo "Floor", .noat "Floor" "rules", .noat "Floor" "given", .noat "Floor" "lying", .noat "Floor" "coming", .noat "Floor" "going", .noat "Floor" "done"]
def hEx (K : PySem.W.Frag) : Bool := He.tupB K "IN_RULE" [.str "in"] && He.tupB K "OUT_RULE" [.str "out"] && decide ((He.cT K ("beat_papers", none)).2 ≠ (He.cT K ("is_shifts", none)).2)
def hTf : List (Str × Option Str) := [("beat_papers", none), ("is_shifts", none)]
abbrev hR : PySem.W.OpenRow := PySem.W.OpenLaw.row PySem.Challenge.rw_beltshift_k81_whole_moved_rooms_without
abbrev hk : PySem.W.Hook := He.hookX 4 hFa hFn [] hTf hEx
def hOb (s : PySem.W.SharedT) : He.AlX := He.obsX 4 hFa hFn [] hTf hEx (HandSHeadRun.getT s)
theorem hOb_eq (s : PySem.W.SharedT) : hOb s = hk.obs s.abs := He.obsX_eq (HandSHeadRun.getT_eq s)
def hN0 : List Str := ["BeltError", "NoShift", "NotReady", "is_whole", "made_by", "made_of_two", "IN_RULE", "OUT_RULE", "comings", "goings", "doors_in", "doors_out", "Floor", "levels_or_ring", "raise_levels", "ring_behind", "work_order", "trays_on", "moments_on", "beat", "beat_papers", "beat_steps", "ring_moments", "in_least_terms", "worked", "work_plan", "made_at_bell", "thing_taken", "behind_bell", "belt_behind_bell"]
def hN1 : List Str := ["look_shifts", "refuse_shifts", "is_shifts", "wrong_door", "short_belt", "waits", "trays_moved", "moved", "rows_on", "taken_at", "_law_flow", "_law_pick", "_law_thing", "_law_needs", "_law_rule", "_law_shuffled", "_law_hands", "_law_room", "_law_rows", "_law_made_by", "_law_worked", "_law_alike", "_law_doors", "_law_moved", "_law_give_all", "_law_drawn_shifts"]
def hNames : List Str := hN0 ++ hN1
set_option maxHeartbeats 0 in
theorem hRun (w : World) : HandSHeadRun.RunEq hR (PySem.W.view hR.prog [69]) hk hOb 40000 hNames w := by
  intro os
  kernel_rfl
set_option maxHeartbeats 0 in
theorem all_mkX {w : World} {K : PySem.W.Frag} {h : Heap} {mg : Str → Option Value} {fa : Addr} (X : K.In h) (G : h.Ns mainGlobals mg) (hfa : mg "law" = some (.ref fa)) (c : He.SaysX hFa hFn [] hTf hEx w h K) : LamX.LawAtS PySem.Challenge.rw_beltshift_k81_whole_moved_rooms_without w K CX0 7 63 "_law_script" mg fa h := by
  have cd := c.t.d
  obtain ⟨fd0, D0⟩ := cd.def_ 0 (d := hd_is_whole) rfl
  have F0 : Fun K "is_whole" "is_whole" s_is_whole (He.ga K "is_whole") fd0 := fun_of_D D0
  have g0 : mg "is_whole" = some (.ref (He.ga K "is_whole")) := He.glo_ok X G (cd.fact 0 (f := .glo "is_whole") rfl)
  have b0 := F0.binds (ps := ["thing"]) fun _ _ _ _ _ _ us hl => match us, hl with | [_], _ => rfl
  obtain ⟨fd1, D1⟩ := cd.def_ 1 (d := hd_made_by) rfl
  have F1 : Fun K "made_by" "made_by" s_made_by (He.ga K "made_by") fd1 := fun_of_D D1
  have g1 : mg "made_by" = some (.ref (He.ga K "made_by")) := He.glo_ok X G (cd.fact 1 (f := .glo "made_by") rfl)
  have b1 := F1.binds (ps := ["rule", "things"]) fun _ _ _ _ _ _ us hl => match us, hl with | [_, _], _ => rfl
  obtain ⟨fd2, D2⟩ := cd.def_ 2 (d := hd_made_of_two) rfl
  have F2 : Fun K "made_of_two" "made_of_two" s_made_of_two (He.ga K "made_of_two") fd2 := fun_of_D D2
  have g2 : mg "made_of_two" = some (.ref (He.ga K "made_of_two")) := He.glo_ok X G (cd.fact 2 (f := .glo "made_of_two") rfl)
  have b2 := F2.binds (ps := ["word", "one", "other"]) fun _ _ _ _ _ _ us hl => match us, hl with | [_, _, _], _ => rfl
  obtain ⟨fd3, D3⟩ := cd.def_ 3 (d := hd_comings) rfl
  have F3 : Fun K "comings" "comings" s_comings (He.ga K "comings") fd3 := fun_of_D D3
  have g3 : mg "comings" = some (.ref (He.ga K "comings")) := He.glo_ok X G (cd.fact 3 (f := .glo "comings") rfl)
  have b3 := F3.binds (ps := ["room", "hand"]) fun _ _ _ _ _ _ us hl => match us, hl with | [_, _], _ => rfl
  obtain ⟨fd4, D4⟩ := cd.def_ 4 (d := hd_goings) rfl
  have F4 : Fun K "goings" "goings" s_goings (He.ga K "goings") fd4 := fun_of_D D4
  have g4 : mg "goings" = some (.ref (He.ga K "goings")) := He.glo_ok X G (cd.fact 4 (f := .glo "goings") rfl)
  have b4 := F4.binds (ps := ["room", "hand"]) fun _ _ _ _ _ _ us hl => match us, hl with | [_, _], _ => rfl
  obtain ⟨fd5, D5⟩ := cd.def_ 5 (d := hd_doors_in) rfl
  have F5 : Fun K "doors_in" "doors_in" s_doors_in (He.ga K "doors_in") fd5 := fun_of_D D5
  have g5 : mg "doors_in" = some (.ref (He.ga K "doors_in")) := He.glo_ok X G (cd.fact 5 (f := .glo "doors_in") rfl)
  have b5 := F5.binds (ps := ["room"]) fun _ _ _ _ _ _ us hl => match us, hl with | [_], _ => rfl
  obtain ⟨fd6, D6⟩ := cd.def_ 6 (d := hd_doors_out) rfl
  have F6 : Fun K "doors_out" "doors_out" s_doors_out (He.ga K "doors_out") fd6 := fun_of_D D6
  have g6 : mg "doors_out" = some (.ref (He.ga K "doors_out")) := He.glo_ok X G (cd.fact 6 (f := .glo "doors_out") rfl)
  have b6 := F6.binds (ps := ["room"]) fun _ _ _ _ _ _ us hl => match us, hl with | [_], _ => rfl
  obtain ⟨fd7, D7⟩ := cd.def_ 7 (d := hd_Floor___init__) rfl
  have F7 : Fun K "__init__" "Floor.__init__" s_Floor___init__ (He.fAd K ("Floor", some "__init__")) fd7 := fun_of_D D7
  have g7 : Mk K (He.ga K "Floor") (He.fAd K ("Floor", some "__init__")) := He.mkr_ok (cd.fact 7 (f := .mkr "Floor") rfl)
  have b7 := F7.binds (ps := ["self", "room"]) fun _ _ _ _ _ _ us hl => match us, hl with | [_, _], _ => rfl
  obtain ⟨fd8, D8⟩ := cd.def_ 8 (d := hd_Floor_give) rfl
  have F8 : Fun K "give" "Floor.give" s_Floor_give (He.fAd K ("Floor", some "give")) fd8 := fun_of_D D8
  have g8 : Meth K (He.ga K "Floor") "give" (He.fAd K ("Floor", some "give")) := He.meth_ok (cd.fact 8 (f := .meth "Floor" "give") rfl)
  have b8 := F8.binds (ps := ["self", "hand", "thing"]) fun _ _ _ _ _ _ us hl => match us, hl with | [_, _, _], _ => rfl
  obtain ⟨fd9, D9⟩ := cd.def_ 9 (d := hd_Floor_ready) rfl
  have F9 : Fun K "ready" "Floor.ready" s_Floor_ready (He.fAd K ("Floor", some "ready")) fd9 := fun_of_D D9
  have g9 : Meth K (He.ga K "Floor") "ready" (He.fAd K ("Floor", some "ready")) := He.meth_ok (cd.fact 9 (f := .meth "Floor" "ready") rfl)
  have b9 := F9.binds (ps := ["self"]) fun _ _ _ _ _ _ us hl => match us, hl with | [_], _ => rfl
  obtain ⟨fd10, D10⟩ := cd.def_ 10 (d := hd_Floor_work) rfl
  have F10 : Fun K "work" "Floor.work" s_Floor_work (He.fAd K ("Floor", some "work")) fd10 := fun_of_D D10
  have g10 : Meth K (He.ga K "Floor") "work" (He.fAd K ("Floor", some "work")) := He.meth_ok (cd.fact 10 (f := .meth "Floor" "work") rfl)
  have b10 := F10.binds (ps := ["self", "hand"]) fun _ _ _ _ _ _ us hl => match us, hl with | [_, _], _ => rfl
  obtain ⟨fd11, D11⟩ := cd.def_ 11 (d := hd_Floor_made) rfl
  have F11 : Fun K "made" "Floor.made" s_Floor_made (He.fAd K ("Floor", some "made")) fd11 := fun_of_D D11
  have g11 : Meth K (He.ga K "Floor") "made" (He.fAd K ("Floor", some "made")) := He.meth_ok (cd.fact 11 (f := .meth "Floor" "made") rfl)
  have b11 := F11.binds (ps := ["self", "hand"]) fun _ _ _ _ _ _ us hl => match us, hl with | [_, _], _ => rfl
  obtain ⟨fd12, D12⟩ := cd.def_ 12 (d := hd_Floor_can_work) rfl
  have F12 : Fun K "can_work" "Floor.can_work" s_Floor_can_work (He.fAd K ("Floor", some "can_work")) fd12 := fun_of_D D12
  have g12 : Meth K (He.ga K "Floor") "can_work" (He.fAd K ("Floor", some "can_work")) := He.meth_ok (cd.fact 12 (f := .meth "Floor" "can_work") rfl)
  have b12 := F12.binds (ps := ["self", "hand"]) fun _ _ _ _ _ _ us hl => match us, hl with | [_, _], _ => rfl
  obtain ⟨fd13, D13⟩ := cd.def_ 13 (d := hd_Floor_sources) rfl
  have F13 : Fun K "sources" "Floor.sources" s_Floor_sources (He.fAd K ("Floor", some "sources")) fd13 := fun_of_D D13
  have g13 : Meth K (He.ga K "Floor") "sources" (He.fAd K ("Floor", some "sources")) := He.meth_ok (cd.fact 13 (f := .meth "Floor" "sources") rfl)
  have b13 := F13.binds (ps := ["self", "hand"]) fun _ _ _ _ _ _ us hl => match us, hl with | [_, _], _ => rfl
  obtain ⟨fd14, D14⟩ := cd.def_ 14 (d := hd_levels_or_ring) rfl
  have F14 : Fun K "levels_or_ring" "levels_or_ring" s_levels_or_ring (He.ga K "levels_or_ring") fd14 := fun_of_D D14
  have g14 : mg "levels_or_ring" = some (.ref (He.ga K "levels_or_ring")) := He.glo_ok X G (cd.fact 14 (f := .glo "levels_or_ring") rfl)
  have b14 := F14.binds (ps := ["many", "steps"]) fun _ _ _ _ _ _ us hl => match us, hl with | [_, _], _ => rfl
  obtain ⟨fd15, D15⟩ := cd.def_ 15 (d := hd_raise_levels) rfl
  have F15 : Fun K "raise_levels" "raise_levels" s_raise_levels (He.ga K "raise_levels") fd15 := fun_of_D D15
  have g15 : mg "raise_levels" = some (.ref (He.ga K "raise_levels")) := He.glo_ok X G (cd.fact 15 (f := .glo "raise_levels") rfl)
  have b15 := F15.binds (ps := ["levels", "last", "steps"]) fun _ _ _ _ _ _ us hl => match us, hl with | [_, _, _], _ => rfl
  obtain ⟨fd16, D16⟩ := cd.def_ 16 (d := hd_ring_behind) rfl
  have F16 : Fun K "ring_behind" "ring_behind" s_ring_behind (He.ga K "ring_behind") fd16 := fun_of_D D16
  have g16 : mg "ring_behind" = some (.ref (He.ga K "ring_behind")) := He.glo_ok X G (cd.fact 16 (f := .glo "ring_behind") rfl)
  have b16 := F16.binds (ps := ["place", "last", "steps"]) fun _ _ _ _ _ _ us hl => match us, hl with | [_, _, _], _ => rfl
  obtain ⟨fd17, D17⟩ := cd.def_ 17 (d := hd_work_order) rfl
  have F17 : Fun K "work_order" "work_order" s_work_order (He.ga K "work_order") fd17 := fun_of_D D17
  have g17 : mg "work_order" = some (.ref (He.ga K "work_order")) := He.glo_ok X G (cd.fact 17 (f := .glo "work_order") rfl)
  have b17 := F17.binds (ps := ["room"]) fun _ _ _ _ _ _ us hl => match us, hl with | [_], _ => rfl
  obtain ⟨fd18, D18⟩ := cd.def_ 18 (d := hd_trays_on) rfl
  have F18 : Fun K "trays_on" "trays_on" s_trays_on (He.ga K "trays_on") fd18 := fun_of_D D18
  have g18 : mg "trays_on" = some (.ref (He.ga K "trays_on")) := He.glo_ok X G (cd.fact 18 (f := .glo "trays_on") rfl)
  have b18 := F18.binds (ps := ["room", "way"]) fun _ _ _ _ _ _ us hl => match us, hl with | [_, _], _ => rfl
  obtain ⟨fd19, D19⟩ := cd.def_ 19 (d := hd_moments_on) rfl
  have F19 : Fun K "moments_on" "moments_on" s_moments_on (He.ga K "moments_on") fd19 := fun_of_D D19
  have g19 : mg "moments_on" = some (.ref (He.ga K "moments_on")) := He.glo_ok X G (cd.fact 19 (f := .glo "moments_on") rfl)
  have b19 := F19.binds (ps := ["room", "way"]) fun _ _ _ _ _ _ us hl => match us, hl with | [_, _], _ => rfl
  obtain ⟨fd20, D20⟩ := cd.def_ 20 (d := hd_beat) rfl
  have F20 : Fun K "beat" "beat" s_beat (He.ga K "beat") fd20 := fun_of_D D20
  have g20 : mg "beat" = some (.ref (He.ga K "beat")) := He.glo_ok X G (cd.fact 20 (f := .glo "beat") rfl)
  have b20 := F20.binds (ps := ["room"]) fun _ _ _ _ _ _ us hl => match us, hl with | [_], _ => rfl
  obtain ⟨fd21, D21⟩ := cd.def_ 21 (d := hd_beat_papers) rfl
  have F21 : Fun K "beat_papers" "beat_papers" s_beat_papers (He.ga K "beat_papers") fd21 := fun_of_D D21
  have g21 : mg "beat_papers" = some (.ref (He.ga K "beat_papers")) := He.glo_ok X G (cd.fact 21 (f := .glo "beat_papers") rfl)
  have b21 := F21.binds (ps := ["room"]) fun _ _ _ _ _ _ us hl => match us, hl with | [_], _ => rfl
  obtain ⟨fd22, D22⟩ := cd.def_ 22 (d := hd_beat_steps) rfl
  have F22 : Fun K "beat_steps" "beat_steps" s_beat_steps (He.ga K "beat_steps") fd22 := fun_of_D D22
  have g22 : mg "beat_steps" = some (.ref (He.ga K "beat_steps")) := He.glo_ok X G (cd.fact 22 (f := .glo "beat_steps") rfl)
  have b22 := F22.binds (ps := ["room", "fraction"]) fun _ _ _ _ _ _ us hl => match us, hl with | [_, _], _ => rfl
  obtain ⟨fd23, D23⟩ := cd.def_ 23 (d := hd_ring_moments) rfl
  have F23 : Fun K "ring_moments" "ring_moments" s_ring_moments (He.ga K "ring_moments") fd23 := fun_of_D D23
  have g23 : mg "ring_moments" = some (.ref (He.ga K "ring_moments")) := He.glo_ok X G (cd.fact 23 (f := .glo "ring_moments") rfl)
  have b23 := F23.binds (ps := ["room", "way"]) fun _ _ _ _ _ _ us hl => match us, hl with | [_, _], _ => rfl
  obtain ⟨fd24, D24⟩ := cd.def_ 24 (d := hd_in_least_terms) rfl
  have F24 : Fun K "in_least_terms" "in_least_terms" s_in_least_terms (He.ga K "in_least_terms") fd24 := fun_of_D D24
  have g24 : mg "in_least_terms" = some (.ref (He.ga K "in_least_terms")) := He.glo_ok X G (cd.fact 24 (f := .glo "in_least_terms") rfl)
  have b24 := F24.binds (ps := ["a", "b"]) fun _ _ _ _ _ _ us hl => match us, hl with | [_, _], _ => rfl
  obtain ⟨fd25, D25⟩ := cd.def_ 25 (d := hd_worked) rfl
  have F25 : Fun K "worked" "worked" s_worked (He.ga K "worked") fd25 := fun_of_D D25
  have g25 : mg "worked" = some (.ref (He.ga K "worked")) := He.glo_ok X G (cd.fact 25 (f := .glo "worked") rfl)
  have b25 := F25.binds (ps := ["room", "rows"]) fun _ _ _ _ _ _ us hl => match us, hl with | [_, _], _ => rfl
  obtain ⟨fd26, D26⟩ := cd.def_ 26 (d := hd_work_plan) rfl
  have F26 : Fun K "work_plan" "work_plan" s_work_plan (He.ga K "work_plan") fd26 := fun_of_D D26
  have g26 : mg "work_plan" = some (.ref (He.ga K "work_plan")) := He.glo_ok X G (cd.fact 26 (f := .glo "work_plan") rfl)
  have b26 := F26.binds (ps := ["room"]) fun _ _ _ _ _ _ us hl => match us, hl with | [_], _ => rfl
  obtain ⟨fd27, D27⟩ := cd.def_ 27 (d := hd_made_at_bell) rfl
  have F27 : Fun K "made_at_bell" "made_at_bell" s_made_at_bell (He.ga K "made_at_bell") fd27 := fun_of_D D27
  have g27 : mg "made_at_bell" = some (.ref (He.ga K "made_at_bell")) := He.glo_ok X G (cd.fact 27 (f := .glo "made_at_bell") rfl)
  have b27 := F27.binds (ps := ["room", "plan", "things"]) fun _ _ _ _ _ _ us hl => match us, hl with | [_, _, _], _ => rfl
  obtain ⟨fd28, D28⟩ := cd.def_ 28 (d := hd_thing_taken) rfl
  have F28 : Fun K "thing_taken" "thing_taken" s_thing_taken (He.ga K "thing_taken") fd28 := fun_of_D D28
  have g28 : mg "thing_taken" = some (.ref (He.ga K "thing_taken")) := He.glo_ok X G (cd.fact 28 (f := .glo "thing_taken") rfl)
  have b28 := F28.binds (ps := ["belt", "made"]) fun _ _ _ _ _ _ us hl => match us, hl with | [_, _], _ => rfl
  obtain ⟨fd29, D29⟩ := cd.def_ 29 (d := hd_behind_bell) rfl
  have F29 : Fun K "behind_bell" "behind_bell" s_behind_bell (He.ga K "behind_bell") fd29 := fun_of_D D29
  have g29 : mg "behind_bell" = some (.ref (He.ga K "behind_bell")) := He.glo_ok X G (cd.fact 29 (f := .glo "behind_bell") rfl)
  have b29 := F29.binds (ps := ["room", "made"]) fun _ _ _ _ _ _ us hl => match us, hl with | [_, _], _ => rfl
  obtain ⟨fd30, D30⟩ := cd.def_ 30 (d := hd_belt_behind_bell) rfl
  have F30 : Fun K "belt_behind_bell" "belt_behind_bell" s_belt_behind_bell (He.ga K "belt_behind_bell") fd30 := fun_of_D D30
  have g30 : mg "belt_behind_bell" = some (.ref (He.ga K "belt_behind_bell")) := He.glo_ok X G (cd.fact 30 (f := .glo "belt_behind_bell") rfl)
  have b30 := F30.binds (ps := ["belt", "made"]) fun _ _ _ _ _ _ us hl => match us, hl with | [_, _], _ => rfl
  obtain ⟨fd31, D31⟩ := cd.def_ 31 (d := hd_look_shifts) rfl
  have F31 : Fun K "look_shifts" "look_shifts" s_look_shifts (He.ga K "look_shifts") fd31 := fun_of_D D31
  have g31 : mg "look_shifts" = some (.ref (He.ga K "look_shifts")) := He.glo_ok X G (cd.fact 31 (f := .glo "look_shifts") rfl)
  have b31 := F31.binds (ps := ["room", "late", "shifts"]) fun _ _ _ _ _ _ us hl => match us, hl with | [_, _, _], _ => rfl
  obtain ⟨fd32, D32⟩ := cd.def_ 32 (d := hd_refuse_shifts) rfl
  have F32 : Fun K "refuse_shifts" "refuse_shifts" s_refuse_shifts (He.ga K "refuse_shifts") fd32 := fun_of_D D32
  have g32 : mg "refuse_shifts" = some (.ref (He.ga K "refuse_shifts")) := He.glo_ok X G (cd.fact 32 (f := .glo "refuse_shifts") rfl)
  have b32 := F32.binds (ps := ["word", "at"]) fun _ _ _ _ _ _ us hl => match us, hl with | [_, _], _ => rfl
  obtain ⟨fd33, D33⟩ := cd.def_ 33 (d := hd_is_shifts) rfl
  have F33 : Fun K "is_shifts" "is_shifts" s_is_shifts (He.ga K "is_shifts") fd33 := fun_of_D D33
  have g33 : mg "is_shifts" = some (.ref (He.ga K "is_shifts")) := He.glo_ok X G (cd.fact 33 (f := .glo "is_shifts") rfl)
  have b33 := F33.binds (ps := ["room", "thing"]) fun _ _ _ _ _ _ us hl => match us, hl with | [_, _], _ => rfl
  obtain ⟨fd34, D34⟩ := cd.def_ 34 (d := hd_wrong_door) rfl
  have F34 : Fun K "wrong_door" "wrong_door" s_wrong_door (He.ga K "wrong_door") fd34 := fun_of_D D34
  have g34 : mg "wrong_door" = some (.ref (He.ga K "wrong_door")) := He.glo_ok X G (cd.fact 34 (f := .glo "wrong_door") rfl)
  have b34 := F34.binds (ps := ["room", "late", "shifts"]) fun _ _ _ _ _ _ us hl => match us, hl with | [_, _, _], _ => rfl
  obtain ⟨fd35, D35⟩ := cd.def_ 35 (d := hd_short_belt) rfl
  have F35 : Fun K "short_belt" "short_belt" s_short_belt (He.ga K "short_belt") fd35 := fun_of_D D35
  have g35 : mg "short_belt" = some (.ref (He.ga K "short_belt")) := He.glo_ok X G (cd.fact 35 (f := .glo "short_belt") rfl)
  have b35 := F35.binds (ps := ["room", "shifts"]) fun _ _ _ _ _ _ us hl => match us, hl with | [_, _], _ => rfl
  obtain ⟨fd36, D36⟩ := cd.def_ 36 (d := hd_waits) rfl
  have F36 : Fun K "waits" "waits" s_waits (He.ga K "waits") fd36 := fun_of_D D36
  have g36 : mg "waits" = some (.ref (He.ga K "waits")) := He.glo_ok X G (cd.fact 36 (f := .glo "waits") rfl)
  have b36 := F36.binds (ps := ["shifts"]) fun _ _ _ _ _ _ us hl => match us, hl with | [_], _ => rfl
  obtain ⟨fd37, D37⟩ := cd.def_ 37 (d := hd_trays_moved) rfl
  have F37 : Fun K "trays_moved" "trays_moved" s_trays_moved (He.ga K "trays_moved") fd37 := fun_of_D D37
  have g37 : mg "trays_moved" = some (.ref (He.ga K "trays_moved")) := He.glo_ok X G (cd.fact 37 (f := .glo "trays_moved") rfl)
  have b37 := F37.binds (ps := ["room", "shifts"]) fun _ _ _ _ _ _ us hl => match us, hl with | [_, _], _ => rfl
  obtain ⟨fd38, D38⟩ := cd.def_ 38 (d := hd_moved) rfl
  have F38 : Fun K "moved" "moved" s_moved (He.ga K "moved") fd38 := fun_of_D D38
  have g38 : mg "moved" = some (.ref (He.ga K "moved")) := He.glo_ok X G (cd.fact 38 (f := .glo "moved") rfl)
  have b38 := F38.binds (ps := ["room", "late", "shifts", "rows"]) fun _ _ _ _ _ _ us hl => match us, hl with | [_, _, _, _], _ => rfl
  obtain ⟨fd39, D39⟩ := cd.def_ 39 (d := hd_rows_on) rfl
  have F39 : Fun K "rows_on" "rows_on" s_rows_on (He.ga K "rows_on") fd39 := fun_of_D D39
  have g39 : mg "rows_on" = some (.ref (He.ga K "rows_on")) := He.glo_ok X G (cd.fact 39 (f := .glo "rows_on") rfl)
  have b39 := F39.binds (ps := ["room", "shifts", "rows"]) fun _ _ _ _ _ _ us hl => match us, hl with | [_, _, _], _ => rfl
  obtain ⟨fd40, D40⟩ := cd.def_ 40 (d := hd_taken_at) rfl
  have F40 : Fun K "taken_at" "taken_at" s_taken_at (He.ga K "taken_at") fd40 := fun_of_D D40
  have g40 : mg "taken_at" = some (.ref (He.ga K "taken_at")) := He.glo_ok X G (cd.fact 40 (f := .glo "taken_at") rfl)
  have b40 := F40.binds (ps := ["belt", "made", "bell"]) fun _ _ _ _ _ _ us hl => match us, hl with | [_, _, _], _ => rfl
  obtain ⟨fd41, D41⟩ := cd.def_ 41 (d := hd_law_flow) rfl
  have F41 : Fun K "_law_flow" "_law_flow" s_law_flow (He.ga K "_law_flow") fd41 := fun_of_D D41
  have g41 : mg "_law_flow" = some (.ref (He.ga K "_law_flow")) := He.glo_ok X G (cd.fact 41 (f := .glo "_law_flow") rfl)
  have b41 := F41.binds (ps := ["_law_script"]) fun _ _ _ _ _ _ us hl => match us, hl with | [_], _ => rfl
  obtain ⟨fd42, D42⟩ := cd.def_ 42 (d := hd_law_pick) rfl
  have F42 : Fun K "_law_pick" "_law_pick" s_law_pick (He.ga K "_law_pick") fd42 := fun_of_D D42
  have g42 : mg "_law_pick" = some (.ref (He.ga K "_law_pick")) := He.glo_ok X G (cd.fact 42 (f := .glo "_law_pick") rfl)
  have b42 := F42.binds (ps := ["_law_flow_here", "_law_many"]) fun _ _ _ _ _ _ us hl => match us, hl with | [_, _], _ => rfl
  obtain ⟨fd43, D43⟩ := cd.def_ 43 (d := hd_law_thing) rfl
  have F43 : Fun K "_law_thing" "_law_thing" s_law_thing (He.ga K "_law_thing") fd43 := fun_of_D D43
  have g43 : mg "_law_thing" = some (.ref (He.ga K "_law_thing")) := He.glo_ok X G (cd.fact 43 (f := .glo "_law_thing") rfl)
  have b43 := F43.binds (ps := ["_law_flow_here"]) fun _ _ _ _ _ _ us hl => match us, hl with | [_], _ => rfl
  obtain ⟨fd44, D44⟩ := cd.def_ 44 (d := hd_law_needs) rfl
  have F44 : Fun K "_law_needs" "_law_needs" s_law_needs (He.ga K "_law_needs") fd44 := fun_of_D D44
  have g44 : mg "_law_needs" = some (.ref (He.ga K "_law_needs")) := He.glo_ok X G (cd.fact 44 (f := .glo "_law_needs") rfl)
  have b44 := F44.binds (ps := ["_law_rule_here"]) fun _ _ _ _ _ _ us hl => match us, hl with | [_], _ => rfl
  obtain ⟨fd45, D45⟩ := cd.def_ 45 (d := hd_law_rule) rfl
  have F45 : Fun K "_law_rule" "_law_rule" s_law_rule (He.ga K "_law_rule") fd45 := fun_of_D D45
  have g45 : mg "_law_rule" = some (.ref (He.ga K "_law_rule")) := He.glo_ok X G (cd.fact 45 (f := .glo "_law_rule") rfl)
  have b45 := F45.binds (ps := ["_law_flow_here", "_law_most"]) fun _ _ _ _ _ _ us hl => match us, hl with | [_, _], _ => rfl
  obtain ⟨fd46, D46⟩ := cd.def_ 46 (d := hd_law_shuffled) rfl
  have F46 : Fun K "_law_shuffled" "_law_shuffled" s_law_shuffled (He.ga K "_law_shuffled") fd46 := fun_of_D D46
  have g46 : mg "_law_shuffled" = some (.ref (He.ga K "_law_shuffled")) := He.glo_ok X G (cd.fact 46 (f := .glo "_law_shuffled") rfl)
  have b46 := F46.binds (ps := ["_law_flow_here", "_law_some"]) fun _ _ _ _ _ _ us hl => match us, hl with | [_, _], _ => rfl
  obtain ⟨fd47, D47⟩ := cd.def_ 47 (d := hd_law_hands) rfl
  have F47 : Fun K "_law_hands" "_law_hands" s_law_hands (He.ga K "_law_hands") fd47 := fun_of_D D47
  have g47 : mg "_law_hands" = some (.ref (He.ga K "_law_hands")) := He.glo_ok X G (cd.fact 47 (f := .glo "_law_hands") rfl)
  have b47 := F47.binds (ps := ["_law_flow_here", "_law_many"]) fun _ _ _ _ _ _ us hl => match us, hl with | [_, _], _ => rfl
  obtain ⟨fd48, D48⟩ := cd.def_ 48 (d := hd_law_room) rfl
  have F48 : Fun K "_law_room" "_law_room" s_law_room (He.ga K "_law_room") fd48 := fun_of_D D48
  have g48 : mg "_law_room" = some (.ref (He.ga K "_law_room")) := He.glo_ok X G (cd.fact 48 (f := .glo "_law_room") rfl)
  have b48 := F48.binds (ps := ["_law_flow_here", "_law_most"]) fun _ _ _ _ _ _ us hl => match us, hl with | [_, _], _ => rfl
  obtain ⟨fd49, D49⟩ := cd.def_ 49 (d := hd_law_rows) rfl
  have F49 : Fun K "_law_rows" "_law_rows" s_law_rows (He.ga K "_law_rows") fd49 := fun_of_D D49
  have g49 : mg "_law_rows" = some (.ref (He.ga K "_law_rows")) := He.glo_ok X G (cd.fact 49 (f := .glo "_law_rows") rfl)
  have b49 := F49.binds (ps := ["_law_flow_here", "_law_room_here", "_law_many"]) fun _ _ _ _ _ _ us hl => match us, hl with | [_, _, _], _ => rfl
  obtain ⟨fd50, D50⟩ := cd.def_ 50 (d := hd_law_made_by) rfl
  have F50 : Fun K "_law_made_by" "_law_made_by" s_law_made_by (He.ga K "_law_made_by") fd50 := fun_of_D D50
  have g50 : mg "_law_made_by" = some (.ref (He.ga K "_law_made_by")) := He.glo_ok X G (cd.fact 50 (f := .glo "_law_made_by") rfl)
  have b50 := F50.binds (ps := ["_law_rule_here", "_law_things"]) fun _ _ _ _ _ _ us hl => match us, hl with | [_, _], _ => rfl
  obtain ⟨fd51, D51⟩ := cd.def_ 51 (d := hd_law_worked) rfl
  have F51 : Fun K "_law_worked" "_law_worked" s_law_worked (He.ga K "_law_worked") fd51 := fun_of_D D51
  have g51 : mg "_law_worked" = some (.ref (He.ga K "_law_worked")) := He.glo_ok X G (cd.fact 51 (f := .glo "_law_worked") rfl)
  have b51 := F51.binds (ps := ["_law_room_here", "_law_rows_here"]) fun _ _ _ _ _ _ us hl => match us, hl with | [_, _], _ => rfl
  obtain ⟨fd52, D52⟩ := cd.def_ 52 (d := hd_law_alike) rfl
  have F52 : Fun K "_law_alike" "_law_alike" s_law_alike (He.ga K "_law_alike") fd52 := fun_of_D D52
  have g52 : mg "_law_alike" = some (.ref (He.ga K "_law_alike")) := He.glo_ok X G (cd.fact 52 (f := .glo "_law_alike") rfl)
  have b52 := F52.binds (ps := ["_law_found", "_law_due"]) fun _ _ _ _ _ _ us hl => match us, hl with | [_, _], _ => rfl
  obtain ⟨fd53, D53⟩ := cd.def_ 53 (d := hd_law_doors) rfl
  have F53 : Fun K "_law_doors" "_law_doors" s_law_doors (He.ga K "_law_doors") fd53 := fun_of_D D53
  have g53 : mg "_law_doors" = some (.ref (He.ga K "_law_doors")) := He.glo_ok X G (cd.fact 53 (f := .glo "_law_doors") rfl)
  have b53 := F53.binds (ps := ["_law_room_here", "_law_word"]) fun _ _ _ _ _ _ us hl => match us, hl with | [_, _], _ => rfl
  obtain ⟨fd54, D54⟩ := cd.def_ 54 (d := hd_law_moved) rfl
  have F54 : Fun K "_law_moved" "_law_moved" s_law_moved (He.ga K "_law_moved") fd54 := fun_of_D D54
  have g54 : mg "_law_moved" = some (.ref (He.ga K "_law_moved")) := He.glo_ok X G (cd.fact 54 (f := .glo "_law_moved") rfl)
  have b54 := F54.binds (ps := ["_law_room_here", "_law_shifts"]) fun _ _ _ _ _ _ us hl => match us, hl with | [_, _], _ => rfl
  obtain ⟨fd55, D55⟩ := cd.def_ 55 (d := hd_law_give_all) rfl
  have F55 : Fun K "_law_give_all" "_law_give_all" s_law_give_all (He.ga K "_law_give_all") fd55 := fun_of_D D55
  have g55 : mg "_law_give_all" = some (.ref (He.ga K "_law_give_all")) := He.glo_ok X G (cd.fact 55 (f := .glo "_law_give_all") rfl)
  have b55 := F55.binds (ps := ["_law_floor", "_law_room_here", "_law_rows_here"]) fun _ _ _ _ _ _ us hl => match us, hl with | [_, _, _], _ => rfl
  obtain ⟨fd56, D56⟩ := cd.def_ 56 (d := hd_law_drawn_shifts) rfl
  have F56 : Fun K "_law_drawn_shifts" "_law_drawn_shifts" s_law_drawn_shifts (He.ga K "_law_drawn_shifts") fd56 := fun_of_D D56
  have g56 : mg "_law_drawn_shifts" = some (.ref (He.ga K "_law_drawn_shifts")) := He.glo_ok X G (cd.fact 56 (f := .glo "_law_drawn_shifts") rfl)
  have b56 := F56.binds (ps := ["_law_flow_here", "_law_room_here", "_law_late", "_law_many"]) fun _ _ _ _ _ _ us hl => match us, hl with | [_, _, _, _], _ => rfl
  obtain ⟨fd57, D57⟩ := cd.def_ 57 (d := hd_law) rfl
  have F57 : Fun K "law" "law" s_law (He.ga K "law") fd57 := fun_of_D D57
  have g57 : mg "law" = some (.ref (He.ga K "law")) := He.glo_ok X G (cd.fact 57 (f := .glo "law") rfl)
  have ex := c.more
  unfold hEx at ex
  simp only [Bool.and_eq_true] at ex
  obtain ⟨⟨ex0, ex1⟩, exN⟩ := ex
  have ne : (He.cT K ("beat_papers", none)).2 ≠ (He.cT K ("is_shifts", none)).2 := of_decide_eq_true exN
  have T : Top K mg (He.ga K "Floor") := ⟨⟨_, fd0, F0, b0, g0⟩, ⟨_, fd1, F1, b1, g1⟩, ⟨_, fd2, F2, b2, g2⟩, ⟨_, fd3, F3, b3, g3⟩, ⟨_, fd4, F4, b4, g4⟩, ⟨_, fd5, F5, b5, g5⟩, ⟨_, fd6, F6, b6, g6⟩, ⟨_, fd7, F7, b7, g7⟩, ⟨_, fd8, F8, b8, g8⟩, ⟨_, fd9, F9, b9, g9⟩, ⟨_, fd10, F10, b10, g10⟩, ⟨_, fd11, F11, b11, g11⟩, ⟨_, fd12, F12, b12, g12⟩, ⟨_, fd13, F13, b13, g13⟩, ⟨_, fd14, F14, b14, g14⟩, ⟨_, fd15, F15, b15, g15⟩, ⟨_, fd16, F16, b16, g16⟩, ⟨_, fd17, F17, b17, g17⟩, ⟨_, fd18, F18, b18, g18⟩, ⟨_, fd19, F19, b19, g19⟩, ⟨_, fd20, F20, b20, g20⟩, ⟨_, fd21, F21, b21, g21⟩, ⟨_, fd22, F22, b22, g22⟩, ⟨_, fd23, F23, b23, g23⟩, ⟨_, fd24, F24, b24, g24⟩, ⟨_, fd25, F25, b25, g25⟩, ⟨_, fd26, F26, b26, g26⟩, ⟨_, fd27, F27, b27, g27⟩, ⟨_, fd28, F28, b28, g28⟩, ⟨_, fd29, F29, b29, g29⟩, ⟨_, fd30, F30, b30, g30⟩, ⟨_, fd31, F31, b31, g31⟩, ⟨_, fd32, F32, b32, g32⟩, ⟨_, fd33, F33, b33, g33⟩, ⟨_, fd34, F34, b34, g34⟩, ⟨_, fd35, F35, b35, g35⟩, ⟨_, fd36, F36, b36, g36⟩, ⟨_, fd37, F37, b37, g37⟩, ⟨_, fd38, F38, b38, g38⟩, ⟨_, fd39, F39, b39, g39⟩, ⟨_, fd40, F40, b40, g40⟩, ⟨_, fd41, F41, b41, g41⟩, ⟨_, fd42, F42, b42, g42⟩, ⟨_, fd43, F43, b43, g43⟩, ⟨_, fd44, F44, b44, g44⟩, ⟨_, fd45, F45, b45, g45⟩, ⟨_, fd46, F46, b46, g46⟩, ⟨_, fd47, F47, b47, g47⟩, ⟨_, fd48, F48, b48, g48⟩, ⟨_, fd49, F49, b49, g49⟩, ⟨_, fd50, F50, b50, g50⟩, ⟨_, fd51, F51, b51, g51⟩, ⟨_, fd52, F52, b52, g52⟩, ⟨_, fd53, F53, b53, g53⟩, ⟨_, fd54, F54, b54, g54⟩, ⟨_, fd55, F55, b55, g55⟩, ⟨_, fd56, F56, b56, g56⟩, He.free_ok X G (cd.fact 58 (f := .free "abs") rfl), He.free_ok X G (cd.fact 59 (f := .free "all") rfl), He.free_ok X G (cd.fact 60 (f := .free "bool") rfl), He.free_ok X G (cd.fact 61 (f := .free "dict") rfl), He.free_ok X G (cd.fact 62 (f := .free "enumerate") rfl), He.free_ok X G (cd.fact 63 (f := .free "int") rfl), He.free_ok X G (cd.fact 64 (f := .free "isinstance") rfl), He.free_ok X G (cd.fact 65 (f := .free "len") rfl), He.free_ok X G (cd.fact 66 (f := .free "list") rfl), He.free_ok X G (cd.fact 67 (f := .free "max") rfl), He.free_ok X G (cd.fact 68 (f := .free "min") rfl), He.free_ok X G (cd.fact 69 (f := .free "range") rfl), He.free_ok X G (cd.fact 70 (f := .free "sum") rfl), He.free_ok X G (cd.fact 71 (f := .free "tuple") rfl), He.free_ok X G (cd.fact 72 (f := .free "zip") rfl), ⟨_, He.glo_ok X G (cd.fact 73 (f := .glo "IN_RULE") rfl), fun H => He.tupB_ok ex0 H⟩, ⟨_, He.glo_ok X G (cd.fact 74 (f := .glo "OUT_RULE") rfl), fun H => He.tupB_ok ex1 H⟩, He.cls_ok (cd.fact 75 (f := .cls "Floor") rfl), He.glo_ok X G (cd.fact 76 (f := .glo "Floor") rfl), He.noat_ok (cd.fact 77 (f := .noat "Floor" "rules") rfl), He.noat_ok (cd.fact 78 (f := .noat "Floor" "given") rfl), He.noat_ok (cd.fact 79 (f := .noat "Floor" "lying") rfl), He.noat_ok (cd.fact 80 (f := .noat "Floor" "coming") rfl), He.noat_ok (cd.fact 81 (f := .noat "Floor" "going") rfl), He.noat_ok (cd.fact 82 (f := .noat "Floor" "done") rfl)⟩
  have e := hfa.symm.trans g57
  cases e
  have law_b : ∀ (s : Shared) (v : Value), BindsTo s fd57 ⟨[v], []⟩ [("_law_script", v)] := fun s v => by
    obtain ⟨_, _, _, _, _, _, _, _, _, rfl, _, _⟩ := F57.ex
    exact .of_eq rfl
  refine ⟨fd57, [He.cT K ("beat_papers", none), He.cT K ("is_shifts", none)], sp_law K ((He.cT K ("beat_papers", none)).2, (He.cT K ("is_shifts", none)).2), fun p hp => ?_, fun p hp => ?_, fun p hp => ?_, law_b, fun H a ns hl _ hT hS => ⟨a, ns, rfl, hS, hl, (fun p hp => by
    rcases List.mem_cons.mp hp with rfl | hp
    · exact LamX.TabS.nil (hT _ (List.mem_cons_self ..))
    · rw [List.mem_singleton.mp hp]; exact LamX.TabS.nil (hT _ (List.mem_cons_of_mem _ (List.mem_cons_self ..)))), fun _ => rfl⟩, fun base _ _ TB => ?_⟩
  · have hin : ∀ p ∈ [He.cT K ("beat_papers", none), He.cT K ("is_shifts", none)], ∃ q ∈ hTf, p = He.cT K q := fun p hp => by
      rcases List.mem_cons.mp hp with rfl | hp
      · exact ⟨_, List.mem_cons_self .., rfl⟩
      rcases List.mem_cons.mp hp with rfl | hp
      · exact ⟨_, (List.mem_cons_of_mem _ (List.mem_cons_self ..)), rfl⟩
      cases hp
    obtain ⟨q, hq, rfl⟩ := hin p hp
    exact c.empty _ hq
  · have hin : ∀ p ∈ [He.cT K ("beat_papers", none), He.cT K ("is_shifts", none)], ∃ q ∈ hTf, p = He.cT K q := fun p hp => by
      rcases List.mem_cons.mp hp with rfl | hp
      · exact ⟨_, List.mem_cons_self .., rfl⟩
      rcases List.mem_cons.mp hp with rfl | hp
      · exact ⟨_, (List.mem_cons_of_mem _ (List.mem_cons_self ..)), rfl⟩
      cases hp
    obtain ⟨q, hq, rfl⟩ := hin p hp
    exact c.out _ hq
  · have hin : ∀ p ∈ [He.cT K ("beat_papers", none), He.cT K ("is_shifts", none)], ∃ q ∈ hTf, p = He.cT K q := fun p hp => by
      rcases List.mem_cons.mp hp with rfl | hp
      · exact ⟨_, List.mem_cons_self .., rfl⟩
      rcases List.mem_cons.mp hp with rfl | hp
      · exact ⟨_, (List.mem_cons_of_mem _ (List.mem_cons_self ..)), rfl⟩
      cases hp
    obtain ⟨q, hq, rfl⟩ := hin p hp
    exact PySem.W.codeHd_of_K X (c.hd _ hq)
  have TB0 := TB _ (List.mem_cons_self ..)
  have TC0 := TB0
  haveI : TabL K mg base _ ((He.cT K ("beat_papers", none)).2, (He.cT K ("is_shifts", none)).2) := ⟨TC0, fun f fd F m => by
    have e := m.symm.trans g21
    cases e
    obtain ⟨_, _, _, _, _, _, cdv, _, _, rfl, lk, ci⟩ := F.ex
    obtain ⟨c0, rfl⟩ := He.codeIn_ref ci
    exact congrArg Value.ref (He.codeOf_eq (p := ("beat_papers", none)) lk rfl).symm, ne⟩
  have TB1 := TB _ (List.mem_cons_of_mem _ (List.mem_cons_self ..))
  have TC1 := TB1
  haveI : TabI K mg base _ ((He.cT K ("beat_papers", none)).2, (He.cT K ("is_shifts", none)).2) := ⟨TC1, fun f fd F m => by
    have e := m.symm.trans g33
    cases e
    obtain ⟨_, _, _, _, _, _, cdv, _, _, rfl, lk, ci⟩ := F.ex
    obtain ⟨c0, rfl⟩ := He.codeIn_ref ci
    exact congrArg Value.ref (He.codeOf_eq (p := ("is_shifts", none)) lk rfl).symm, ne⟩
  exact ok_law F57 T
end Mine
open PySem PySem.W PySem.Calls PyProof.Rows
set_option maxRecDepth 100000 in
set_option maxHeartbeats 0 in
theorem PySem.Challenge.cw_beltshift_k81_whole_moved_rooms_without_holds : PySem.Challenge.rw_beltshift_k81_whole_moved_rooms_without.Holds := by
  w_on; o_law
  refine HandSHeadRun.head_any (r := Mine.hR) (q := view Mine.hR.prog [69]) (H := Mine.hk) (ob := Mine.hOb) (M := 40000) (loose := Mine.hNames) (d := HandSHeadRun.topDef Mine.hR.prog 69) (kwd := []) Mine.hOb_eq (by kernel_rfl) (fun s => by kernel_rfl) Mine.hRun (by kernel_rfl) (by kernel_rfl) (by kernel_rfl) (by rfl) (by first | assumption | decide +kernel) (by decide +kernel) ⟨rfl, rfl, rfl, rfl, rfl, by decide +kernel⟩ ?hw ?hc
  case hw => w_witness2
  case hc =>
    refine LamX.walk_ofTsE (l := PySem.Challenge.rw_beltshift_k81_whole_moved_rooms_without) (n := 63) (k := 7) (x := "_law_script") (CX := fun _ => L2.CX0) rfl (by decide) (by kernel_rfl) ⟨rfl, by decide, by decide⟩ ?F (fun _ _ _ _ _ z => z)
    intro w mg fa h Y G hmg0
    obtain ⟨K, KX, c⟩ := Y
    have hmg : mg ("law" : PySem.Str) = some (.ref fa) := by
      have e : (HandSHeadRun.topDef Mine.hR.prog 69).name = ("law" : PySem.Str) := by kernel_rfl
      rw [← e]
      exact hmg0
    exact ⟨K, KX, Mine.all_mkX KX G hmg c⟩
