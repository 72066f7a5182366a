import PyProof.Rows.All
import Wide.All
import OpenK.AllK
import Wide.FinOn
import HandS.ForMost
import HandS.Wide
import HandS.Style
import HandS.IsInst
import HandS.TupAny
import HandS.NoneIn
import HandS.SetFor
import HandS.Conv
import HandS.Zip
import HandS.SortKw
import HandS.Deep
import KE.DataMinMax
import KE.GoesMore
import KE.KDictZip
import KE.GoesZip
import KE.GoesEnum
import HandS.AnyAll
import HandS.Words
import HandS.EndTab
import HandS.HeadWalk
import HandS.Defaults
import HandS.Head0
import HandS.Head1
import HandS.Head2
import HandS.HeadEnd
import HandS.HeadHook1
import HandS.HeadHook2
import HandS.HeadHook3
import HandS.HeadHook4
import KE.KStateDown
import KE.KIsAll
import KE.KNestM
import PyProof.GenCompD
import PyProof.WalksMore
import PySem.Challenge.RW_beltshift_k46_whole_least_and_goes_on
set_option Elab.async false
set_option linter.all false
set_option maxRecDepth 100000
namespace Mine
open PySem PyProof.Rows L2
def topS (i : Nat) : Stmt := PySem.Challenge.pw_beltshift_k46_whole_least_and_goes_on.main.body.getD i (.Pass ⟨0, 0, 0, 0⟩)
abbrev s_levels_or_ring : Stmt := topS 1
abbrev N_levels_or_ring : List Str := ["many", "steps", "levels", "last", "raised", "turn"]
theorem sc_levels_or_ring : FnScope N_levels_or_ring ["many", "steps"] (defScope s_levels_or_ring) := ⟨rfl, rfl, rfl, by decide +kernel, rfl, by decide +kernel, by decide +kernel⟩
abbrev s_raise_levels : Stmt := topS 2
abbrev N_raise_levels : List Str := ["levels", "last", "steps", "raised", "number", "begin", "end", "need"]
theorem sc_raise_levels : FnScope N_raise_levels ["levels", "last", "steps"] (defScope s_raise_levels) := ⟨rfl, rfl, rfl, by decide +kernel, rfl, by decide +kernel, by decide +kernel⟩
abbrev s_ring_behind : Stmt := topS 3
abbrev N_ring_behind : List Str := ["place", "last", "steps", "turn", "ring", "here"]
theorem sc_ring_behind : FnScope N_ring_behind ["place", "last", "steps"] (defScope s_ring_behind) := ⟨rfl, rfl, rfl, by decide +kernel, rfl, by decide +kernel, by decide +kernel⟩
abbrev s_is_whole : Stmt := topS 8
abbrev N_is_whole : List Str := ["thing"]
theorem sc_is_whole : FnScope N_is_whole ["thing"] (defScope s_is_whole) := ⟨rfl, rfl, rfl, by decide +kernel, rfl, by decide +kernel, by decide +kernel⟩
abbrev s_made_by : Stmt := topS 10
abbrev N_made_by : List Str := ["rule", "things", "word"]
theorem sc_made_by : FnScope N_made_by ["rule", "things"] (defScope s_made_by) := ⟨rfl, rfl, rfl, by decide +kernel, rfl, by decide +kernel, by decide +kernel⟩
abbrev s_made_of_two : Stmt := topS 11
abbrev N_made_of_two : List Str := ["word", "one", "other"]
theorem sc_made_of_two : FnScope N_made_of_two ["word", "one", "other"] (defScope s_made_of_two) := ⟨rfl, rfl, rfl, by decide +kernel, rfl, by decide +kernel, by decide +kernel⟩
abbrev s_comings : Stmt := topS 15
abbrev N_comings : List Str := ["room", "hand", "number", "belt"]
theorem sc_comings : FnScope N_comings ["room", "hand"] (defScope s_comings) := ⟨rfl, rfl, rfl, by decide +kernel, rfl, by decide +kernel, by decide +kernel⟩
abbrev s_doors_in : Stmt := topS 16
abbrev N_doors_in : List Str := ["room", "number", "hand"]
theorem sc_doors_in : FnScope N_doors_in ["room"] (defScope s_doors_in) := ⟨rfl, rfl, rfl, by decide +kernel, rfl, by decide +kernel, by decide +kernel⟩
abbrev s_doors_out : Stmt := topS 17
abbrev N_doors_out : List Str := ["room", "number", "hand"]
theorem sc_doors_out : FnScope N_doors_out ["room"] (defScope s_doors_out) := ⟨rfl, rfl, rfl, by decide +kernel, rfl, by decide +kernel, by decide +kernel⟩
abbrev s_work_order : Stmt := topS 19
abbrev N_work_order : List Str := ["room", "hands", "belts", "loose", "giver", "taker", "things", "owed", "left", "order", "ready", "hand"]
theorem sc_work_order : FnScope N_work_order ["room"] (defScope s_work_order) := ⟨rfl, rfl, rfl, by decide +kernel, rfl, by decide +kernel, by decide +kernel⟩
abbrev s_way_back : Stmt := topS 21
abbrev N_way_back : List Str := ["room", "end", "last", "numbers", "hand"]
theorem sc_way_back : FnScope N_way_back ["room", "end", "last"] (defScope s_way_back) := ⟨rfl, rfl, rfl, by decide +kernel, rfl, by decide +kernel, by decide +kernel⟩
abbrev s_least_costs : Stmt := topS 22
abbrev N_least_costs : List Str := ["room", "one", "hands", "belts", "costs", "last", "changed", "number", "giver", "taker", "things", "trays", "less", "cost"]
theorem sc_least_costs : FnScope N_least_costs ["room", "one"] (defScope s_least_costs) := ⟨rfl, rfl, rfl, by decide +kernel, rfl, by decide +kernel, by decide +kernel⟩
abbrev s_shifts_or_bar : Stmt := topS 24
abbrev N_shifts_or_bar : List Str := ["room", "late", "time"]
theorem sc_shifts_or_bar : FnScope N_shifts_or_bar ["room", "late", "time"] (defScope s_shifts_or_bar) := ⟨rfl, rfl, rfl, by decide +kernel, rfl, by decide +kernel, by decide +kernel⟩
abbrev s_least_time : Stmt := topS 25
abbrev N_least_time : List Str := ["room", "late", "ways", "low", "high", "trays", "moments", "way", "end", "word", "shifts", "bar", "middle", "paper"]
theorem sc_least_time : FnScope N_least_time ["room", "late"] (defScope s_least_time) := ⟨rfl, rfl, rfl, by decide +kernel, rfl, by decide +kernel, by decide +kernel⟩
abbrev s_least_ways : Stmt := topS 26
abbrev N_least_ways : List Str := ["room", "found", "one", "costs", "last", "end", "trays", "less"]
theorem sc_least_ways : FnScope N_least_ways ["room"] (defScope s_least_ways) := ⟨rfl, rfl, rfl, by decide +kernel, rfl, by decide +kernel, by decide +kernel⟩
abbrev s_paper_by : Stmt := topS 27
abbrev N_paper_by : List Str := ["room", "late", "time", "ways", "steps", "trays", "moments", "way", "end", "levels", "ring", "number"]
theorem sc_paper_by : FnScope N_paper_by ["room", "late", "time", "ways"] (defScope s_paper_by) := ⟨rfl, rfl, rfl, by decide +kernel, rfl, by decide +kernel, by decide +kernel⟩
abbrev s_needed : Stmt := topS 28
abbrev N_needed : List Str := ["moments", "time"]
theorem sc_needed : FnScope N_needed ["moments", "time"] (defScope s_needed) := ⟨rfl, rfl, rfl, by decide +kernel, rfl, by decide +kernel, by decide +kernel⟩
abbrev s_jumps : Stmt := topS 29
abbrev N_jumps : List Str := ["room", "late", "door", "other"]
theorem sc_jumps : FnScope N_jumps ["room", "late"] (defScope s_jumps) := ⟨rfl, rfl, rfl, by decide +kernel, rfl, by decide +kernel, by decide +kernel⟩
abbrev s_shifts_by : Stmt := topS 30
abbrev N_shifts_by : List Str := ["room", "late", "levels", "ins", "outs", "highest", "door", "told", "free", "ground", "shifts", "level"]
theorem sc_shifts_by : FnScope N_shifts_by ["room", "late", "levels"] (defScope s_shifts_by) := ⟨rfl, rfl, rfl, by decide +kernel, rfl, by decide +kernel, by decide +kernel⟩
abbrev s_worked : Stmt := topS 32
abbrev N_worked : List Str := ["room", "rows", "plan", "stands", "told", "things", "made"]
theorem sc_worked : FnScope N_worked ["room", "rows"] (defScope s_worked) := ⟨rfl, rfl, rfl, by decide +kernel, rfl, by decide +kernel, by decide +kernel⟩
abbrev s_work_plan : Stmt := topS 33
abbrev N_work_plan : List Str := ["room", "hand"]
theorem sc_work_plan : FnScope N_work_plan ["room"] (defScope s_work_plan) := ⟨rfl, rfl, rfl, by decide +kernel, rfl, by decide +kernel, by decide +kernel⟩
abbrev s_made_at_bell : Stmt := topS 34
abbrev N_made_at_bell : List Str := ["room", "plan", "things", "hands", "belts", "made", "hand", "coming", "taken", "number"]
theorem sc_made_at_bell : FnScope N_made_at_bell ["room", "plan", "things"] (defScope s_made_at_bell) := ⟨rfl, rfl, rfl, by decide +kernel, rfl, by decide +kernel, by decide +kernel⟩
abbrev s_thing_taken : Stmt := topS 35
abbrev N_thing_taken : List Str := ["belt", "made", "giver", "taker", "things"]
theorem sc_thing_taken : FnScope N_thing_taken ["belt", "made"] (defScope s_thing_taken) := ⟨rfl, rfl, rfl, by decide +kernel, rfl, by decide +kernel, by decide +kernel⟩
abbrev s_behind_bell : Stmt := topS 36
abbrev N_behind_bell : List Str := ["room", "made", "hands", "belts", "belt"]
theorem sc_behind_bell : FnScope N_behind_bell ["room", "made"] (defScope s_behind_bell) := ⟨rfl, rfl, rfl, by decide +kernel, rfl, by decide +kernel, by decide +kernel⟩
abbrev s_belt_behind_bell : Stmt := topS 37
abbrev N_belt_behind_bell : List Str := ["belt", "made", "giver", "taker", "things"]
theorem sc_belt_behind_bell : FnScope N_belt_behind_bell ["belt", "made"] (defScope s_belt_behind_bell) := ⟨rfl, rfl, rfl, by decide +kernel, rfl, by decide +kernel, by decide +kernel⟩
abbrev s_look_shifts : Stmt := topS 39
abbrev N_look_shifts : List Str := ["room", "late", "shifts"]
theorem sc_look_shifts : FnScope N_look_shifts ["room", "late", "shifts"] (defScope s_look_shifts) := ⟨rfl, rfl, rfl, by decide +kernel, rfl, by decide +kernel, by decide +kernel⟩
abbrev s_refuse_shifts : Stmt := topS 40
abbrev N_refuse_shifts : List Str := ["word", "at"]
theorem sc_refuse_shifts : FnScope N_refuse_shifts ["word", "at"] (defScope s_refuse_shifts) := ⟨rfl, rfl, rfl, by decide +kernel, rfl, by decide +kernel, by decide +kernel⟩
abbrev s_is_shifts : Stmt := topS 41
abbrev N_is_shifts : List Str := ["room", "thing", "shift"]
theorem sc_is_shifts : FnScope N_is_shifts ["room", "thing"] (defScope s_is_shifts) := ⟨rfl, rfl, rfl, by decide +kernel, rfl, by decide +kernel, by decide +kernel⟩
abbrev s_wrong_door : Stmt := topS 42
abbrev N_wrong_door : List Str := ["room", "late", "shifts", "wrong", "door"]
theorem sc_wrong_door : FnScope N_wrong_door ["room", "late", "shifts"] (defScope s_wrong_door) := ⟨rfl, rfl, rfl, by decide +kernel, rfl, by decide +kernel, by decide +kernel⟩
abbrev s_short_belt : Stmt := topS 43
abbrev N_short_belt : List Str := ["room", "shifts", "number", "trays"]
theorem sc_short_belt : FnScope N_short_belt ["room", "shifts"] (defScope s_short_belt) := ⟨rfl, rfl, rfl, by decide +kernel, rfl, by decide +kernel, by decide +kernel⟩
abbrev s_waits : Stmt := topS 44
abbrev N_waits : List Str := ["shifts"]
theorem sc_waits : FnScope N_waits ["shifts"] (defScope s_waits) := ⟨rfl, rfl, rfl, by decide +kernel, rfl, by decide +kernel, by decide +kernel⟩
abbrev s_trays_moved : Stmt := topS 45
abbrev N_trays_moved : List Str := ["room", "shifts", "giver", "taker", "things"]
theorem sc_trays_moved : FnScope N_trays_moved ["room", "shifts"] (defScope s_trays_moved) := ⟨rfl, rfl, rfl, by decide +kernel, rfl, by decide +kernel, by decide +kernel⟩
abbrev s_moved : Stmt := topS 47
abbrev N_moved : List Str := ["room", "late", "shifts", "rows", "hands", "belts", "bells", "made", "after", "giver", "taker", "things", "trays", "first", "taken", "bell"]
theorem sc_moved : FnScope N_moved ["room", "late", "shifts", "rows"] (defScope s_moved) := ⟨rfl, rfl, rfl, by decide +kernel, rfl, by decide +kernel, by decide +kernel⟩
abbrev s_rows_on : Stmt := topS 48
abbrev N_rows_on : List Str := ["room", "shifts", "rows", "noughts", "door"]
theorem sc_rows_on : FnScope N_rows_on ["room", "shifts", "rows"] (defScope s_rows_on) := ⟨rfl, rfl, rfl, by decide +kernel, rfl, by decide +kernel, by decide +kernel⟩
abbrev s_taken_at : Stmt := topS 49
abbrev N_taken_at : List Str := ["belt", "made", "bell", "giver", "taker", "things"]
theorem sc_taken_at : FnScope N_taken_at ["belt", "made", "bell"] (defScope s_taken_at) := ⟨rfl, rfl, rfl, by decide +kernel, rfl, by decide +kernel, by decide +kernel⟩
abbrev s_hand_places : Stmt := topS 51
abbrev N_hand_places : List Str := ["room", "late", "ground", "places", "hand", "rule", "moments"]
theorem sc_hand_places : FnScope N_hand_places ["room", "late"] (defScope s_hand_places) := ⟨rfl, rfl, rfl, by decide +kernel, rfl, by decide +kernel, by decide +kernel⟩
abbrev s_ground_steps : Stmt := topS 52
abbrev N_ground_steps : List Str := ["room", "late", "time", "places", "ways", "steps", "trays", "moments", "way", "end", "begins", "ends", "above"]
theorem sc_ground_steps : FnScope N_ground_steps ["room", "late", "time"] (defScope s_ground_steps) := ⟨rfl, rfl, rfl, by decide +kernel, rfl, by decide +kernel, by decide +kernel⟩
abbrev s_ground_shifts : Stmt := topS 53
abbrev N_ground_shifts : List Str := ["room", "late", "levels", "ground", "place", "above"]
theorem sc_ground_shifts : FnScope N_ground_shifts ["room", "late", "levels"] (defScope s_ground_shifts) := ⟨rfl, rfl, rfl, by decide +kernel, rfl, by decide +kernel, by decide +kernel⟩
abbrev s_soonest : Stmt := topS 55
abbrev N_soonest : List Str := ["room", "late", "time", "ways", "steps", "many", "walk", "levels", "path", "number"]
theorem sc_soonest : FnScope N_soonest ["room", "late", "time"] (defScope s_soonest) := ⟨rfl, rfl, rfl, by decide +kernel, rfl, by decide +kernel, by decide +kernel⟩
abbrev s_levels_or_path : Stmt := topS 56
abbrev N_levels_or_path : List Str := ["room", "steps", "many", "ground", "caps", "hand", "levels", "ring", "cap", "behind"]
theorem sc_levels_or_path : FnScope N_levels_or_path ["room", "steps", "many"] (defScope s_levels_or_path) := ⟨rfl, rfl, rfl, by decide +kernel, rfl, by decide +kernel, by decide +kernel⟩
abbrev s_law_flow : Stmt := topS 58
abbrev N_law_flow : List Str := ["_law_script"]
theorem sc_law_flow : FnScope N_law_flow ["_law_script"] (defScope s_law_flow) := ⟨rfl, rfl, rfl, by decide +kernel, rfl, by decide +kernel, by decide +kernel⟩
abbrev s_law_pick : Stmt := topS 59
abbrev N_law_pick : List Str := ["_law_flow_here", "_law_many", "_law_cell", "_law_digit"]
theorem sc_law_pick : FnScope N_law_pick ["_law_flow_here", "_law_many"] (defScope s_law_pick) := ⟨rfl, rfl, rfl, by decide +kernel, rfl, by decide +kernel, by decide +kernel⟩
abbrev s_law_thing : Stmt := topS 60
abbrev N_law_thing : List Str := ["_law_flow_here"]
theorem sc_law_thing : FnScope N_law_thing ["_law_flow_here"] (defScope s_law_thing) := ⟨rfl, rfl, rfl, by decide +kernel, rfl, by decide +kernel, by decide +kernel⟩
abbrev s_law_needs : Stmt := topS 61
abbrev N_law_needs : List Str := ["_law_rule_here"]
theorem sc_law_needs : FnScope N_law_needs ["_law_rule_here"] (defScope s_law_needs) := ⟨rfl, rfl, rfl, by decide +kernel, rfl, by decide +kernel, by decide +kernel⟩
abbrev s_law_rule : Stmt := topS 62
abbrev N_law_rule : List Str := ["_law_flow_here", "_law_most", "_law_words", "_law_word"]
theorem sc_law_rule : FnScope N_law_rule ["_law_flow_here", "_law_most"] (defScope s_law_rule) := ⟨rfl, rfl, rfl, by decide +kernel, rfl, by decide +kernel, by decide +kernel⟩
abbrev s_law_shuffled : Stmt := topS 63
abbrev N_law_shuffled : List Str := ["_law_flow_here", "_law_some", "_law_left", "_law_k"]
theorem sc_law_shuffled : FnScope N_law_shuffled ["_law_flow_here", "_law_some"] (defScope s_law_shuffled) := ⟨rfl, rfl, rfl, by decide +kernel, rfl, by decide +kernel, by decide +kernel⟩
abbrev s_law_hands : Stmt := topS 64
abbrev N_law_hands : List Str := ["_law_flow_here", "_law_many", "_law_most", "_law_sorts", "_law_left", "_law_hands_here", "_law_k", "_law_sort", "_law_behind", "_law_other", "_law_rule_here"]
theorem sc_law_hands : FnScope N_law_hands ["_law_flow_here", "_law_many"] (defScope s_law_hands) := ⟨rfl, rfl, rfl, by decide +kernel, rfl, by decide +kernel, by decide +kernel⟩
abbrev s_law_room : Stmt := topS 65
abbrev N_law_room : List Str := ["_law_flow_here", "_law_most", "_law_hands_here", "_law_ranks", "_law_givers", "_law_k", "_law_takers", "_law_belts", "_law_to", "_law_one", "_law_trays"]
theorem sc_law_room : FnScope N_law_room ["_law_flow_here", "_law_most"] (defScope s_law_room) := ⟨rfl, rfl, rfl, by decide +kernel, rfl, by decide +kernel, by decide +kernel⟩
abbrev s_law_rows : Stmt := topS 66
abbrev N_law_rows : List Str := ["_law_flow_here", "_law_room_here", "_law_many", "_law_doors", "_law_hand", "_law_door", "_law_k"]
theorem sc_law_rows : FnScope N_law_rows ["_law_flow_here", "_law_room_here", "_law_many"] (defScope s_law_rows) := ⟨rfl, rfl, rfl, by decide +kernel, rfl, by decide +kernel, by decide +kernel⟩
abbrev s_law_made_by : Stmt := topS 67
abbrev N_law_made_by : List Str := ["_law_rule_here", "_law_things", "_law_a", "_law_b", "_law_some"]
theorem sc_law_made_by : FnScope N_law_made_by ["_law_rule_here", "_law_things"] (defScope s_law_made_by) := ⟨rfl, rfl, rfl, by decide +kernel, rfl, by decide +kernel, by decide +kernel⟩
abbrev s_law_worked : Stmt := topS 68
abbrev N_law_worked : List Str := ["_law_room_here", "_law_rows_here", "_law_hands_here", "_law_belts", "_law_found", "_law_t", "_law_row", "_law_doors", "_law_k", "_law_now", "_law_turn", "_law_things", "_law_one", "_law_to", "_law_first"]
theorem sc_law_worked : FnScope N_law_worked ["_law_room_here", "_law_rows_here"] (defScope s_law_worked) := ⟨rfl, rfl, rfl, by decide +kernel, rfl, by decide +kernel, by decide +kernel⟩
abbrev s_law_time_of : Stmt := topS 69
abbrev N_law_time_of : List Str := ["_law_room_here", "_law_trays", "_law_hands_here", "_law_belts", "_law_best", "_law_hand", "_law_turn", "_law_belt", "_law_many"]
theorem sc_law_time_of : FnScope N_law_time_of ["_law_room_here", "_law_trays"] (defScope s_law_time_of) := ⟨rfl, rfl, rfl, by decide +kernel, rfl, by decide +kernel, by decide +kernel⟩
abbrev s_law_goes_on : Stmt := topS 70
abbrev N_law_goes_on : List Str := ["_law_flow_here", "_law_room_here", "_law_late", "_law_time", "_law_shifts", "_law_wait", "_law_rows_here", "_law_found", "_law_belt", "_law_first", "_law_later", "_law_outs", "_law_k", "_law_t", "_law_made"]
theorem sc_law_goes_on : FnScope N_law_goes_on ["_law_flow_here", "_law_room_here", "_law_late", "_law_time", "_law_shifts"] (defScope s_law_goes_on) := ⟨rfl, rfl, rfl, by decide +kernel, rfl, by decide +kernel, by decide +kernel⟩
abbrev s_law : Stmt := topS 71
abbrev N_law : List Str := ["_law_script", "_law_flow_here", "_law_room_here", "_law_late", "_law_time", "_law_shifts", "_law_bar", "_law_outs", "_law_k", "_law_meant", "_law_one", "_law_told"]
theorem sc_law : FnScope N_law ["_law_script"] (defScope s_law) := ⟨rfl, rfl, rfl, by decide +kernel, rfl, by decide +kernel, by decide +kernel⟩

/-- a def of the text stands, binds and is bound -/
def Dd (K : PySem.W.Frag) (mg : Str → Option Value) (name : Str) (st : Stmt) (ps : List Str) : Prop :=
  ∃ (f : Addr) (fd : FuncData), Fun K name name st f fd ∧ Binds K fd ps [] ∧ mg name = some (.ref f)
structure Top (K : PySem.W.Frag) (mg : Str → Option Value) : Prop where
  d_levels_or_ring : Dd K mg "levels_or_ring" s_levels_or_ring ["many", "steps"]
  d_raise_levels : Dd K mg "raise_levels" s_raise_levels ["levels", "last", "steps"]
  d_ring_behind : Dd K mg "ring_behind" s_ring_behind ["place", "last", "steps"]
  d_is_whole : Dd K mg "is_whole" s_is_whole ["thing"]
  d_made_by : Dd K mg "made_by" s_made_by ["rule", "things"]
  d_made_of_two : Dd K mg "made_of_two" s_made_of_two ["word", "one", "other"]
  d_comings : Dd K mg "comings" s_comings ["room", "hand"]
  d_doors_in : Dd K mg "doors_in" s_doors_in ["room"]
  d_doors_out : Dd K mg "doors_out" s_doors_out ["room"]
  d_work_order : Dd K mg "work_order" s_work_order ["room"]
  d_way_back : Dd K mg "way_back" s_way_back ["room", "end", "last"]
  d_least_costs : Dd K mg "least_costs" s_least_costs ["room", "one"]
  d_shifts_or_bar : Dd K mg "shifts_or_bar" s_shifts_or_bar ["room", "late", "time"]
  d_least_time : Dd K mg "least_time" s_least_time ["room", "late"]
  d_least_ways : Dd K mg "least_ways" s_least_ways ["room"]
  d_paper_by : Dd K mg "paper_by" s_paper_by ["room", "late", "time", "ways"]
  d_needed : Dd K mg "needed" s_needed ["moments", "time"]
  d_jumps : Dd K mg "jumps" s_jumps ["room", "late"]
  d_shifts_by : Dd K mg "shifts_by" s_shifts_by ["room", "late", "levels"]
  d_worked : Dd K mg "worked" s_worked ["room", "rows"]
  d_work_plan : Dd K mg "work_plan" s_work_plan ["room"]
  d_made_at_bell : Dd K mg "made_at_bell" s_made_at_bell ["room", "plan", "things"]
  d_thing_taken : Dd K mg "thing_taken" s_thing_taken ["belt", "made"]
  d_behind_bell : Dd K mg "behind_bell" s_behind_bell ["room", "made"]
  d_belt_behind_bell : Dd K mg "belt_behind_bell" s_belt_behind_bell ["belt", "made"]
  d_look_shifts : Dd K mg "look_shifts" s_look_shifts ["room", "late", "shifts"]
  d_refuse_shifts : Dd K mg "refuse_shifts" s_refuse_shifts ["word", "at"]
  d_is_shifts : Dd K mg "is_shifts" s_is_shifts ["room", "thing"]
  d_wrong_door : Dd K mg "wrong_door" s_wrong_door ["room", "late", "shifts"]
  d_short_belt : Dd K mg "short_belt" s_short_belt ["room", "shifts"]
  d_waits : Dd K mg "waits" s_waits ["shifts"]
  d_trays_moved : Dd K mg "trays_moved" s_trays_moved ["room", "shifts"]
  d_moved : Dd K mg "moved" s_moved ["room", "late", "shifts", "rows"]
  d_rows_on : Dd K mg "rows_on" s_rows_on ["room", "shifts", "rows"]
  d_taken_at : Dd K mg "taken_at" s_taken_at ["belt", "made", "bell"]
  d_hand_places : Dd K mg "hand_places" s_hand_places ["room", "late"]
  d_ground_steps : Dd K mg "ground_steps" s_ground_steps ["room", "late", "time"]
  d_ground_shifts : Dd K mg "ground_shifts" s_ground_shifts ["room", "late", "levels"]
  d_soonest : Dd K mg "soonest" s_soonest ["room", "late", "time"]
  d_levels_or_path : Dd K mg "levels_or_path" s_levels_or_path ["room", "steps", "many"]
  d_law_flow : Dd K mg "_law_flow" s_law_flow ["_law_script"]
  d_law_pick : Dd K mg "_law_pick" s_law_pick ["_law_flow_here", "_law_many"]
  d_law_thing : Dd K mg "_law_thing" s_law_thing ["_law_flow_here"]
  d_law_needs : Dd K mg "_law_needs" s_law_needs ["_law_rule_here"]
  d_law_rule : Dd K mg "_law_rule" s_law_rule ["_law_flow_here", "_law_most"]
  d_law_shuffled : Dd K mg "_law_shuffled" s_law_shuffled ["_law_flow_here", "_law_some"]
  d_law_hands : Dd K mg "_law_hands" s_law_hands ["_law_flow_here", "_law_many"]
  d_law_room : Dd K mg "_law_room" s_law_room ["_law_flow_here", "_law_most"]
  d_law_rows : Dd K mg "_law_rows" s_law_rows ["_law_flow_here", "_law_room_here", "_law_many"]
  d_law_made_by : Dd K mg "_law_made_by" s_law_made_by ["_law_rule_here", "_law_things"]
  d_law_worked : Dd K mg "_law_worked" s_law_worked ["_law_room_here", "_law_rows_here"]
  d_law_time_of : Dd K mg "_law_time_of" s_law_time_of ["_law_room_here", "_law_trays"]
  d_law_goes_on : Dd K mg "_law_goes_on" s_law_goes_on ["_law_flow_here", "_law_room_here", "_law_late", "_law_time", "_law_shifts"]
  m_abs : mg "abs" = none
  m_all : mg "all" = none
  m_bool : mg "bool" = none
  m_dict : mg "dict" = none
  m_enumerate : mg "enumerate" = none
  m_int : mg "int" = none
  m_isinstance : mg "isinstance" = none
  m_len : mg "len" = none
  m_list : mg "list" = none
  m_max : mg "max" = none
  m_min : mg "min" = none
  m_range : mg "range" = none
  m_sum : mg "sum" = none
  m_tuple : mg "tuple" = none
  m_zip : mg "zip" = none
  x_in : ∃ aI : Addr, mg "IN_RULE" = some (.ref aI) ∧ ∀ H : Hp, SqT K H aI [.str "in"]
  x_out : ∃ aO : Addr, mg "OUT_RULE" = some (.ref aO) ∧ ∀ H : Hp, SqT K H aO [.str "out"]

/-! ### heaps -/
def But (f : Addr) (H H' : Hp) : Prop := ∀ b o, H b = some o → b ≠ f → H' b = some o
theorem But.refl {f : Addr} {H : Hp} : But f H H := fun _ _ e _ => e
theorem But.trans {f : Addr} {H H1 H2 : Hp} (a : But f H H1) (b : But f H1 H2) : But f H H2 := fun x o e n => b x o (a x o e n) n
theorem But.upd {f : Addr} {H H1 : Hp} {o : HO} (a : But f H H1) : But f H (upd H1 f o) := fun x u e n => by rw [upd_ne n]; exact a x u e n
theorem But.new {f p : Addr} {H H1 : Hp} {o : HO} (a : But f H H1) (h : H1 p = none) : But f H (L2.upd H1 p o) := fun x u e n => by
  have e1 := a x u e n
  rw [upd_ne (ne_of_none e1 h)]
  exact e1
theorem same_new {H : Hp} {p : Addr} {o : HO} (h : H p = none) : Same H (upd H p o) := fun b u q => by rw [upd_ne (ne_of_none q h)]; exact q
theorem But.same {f : Addr} {H H1 H2 : Hp} (a : But f H H1) (b : Same H1 H2) : But f H H2 := fun x o e n => b x o (a x o e n)
theorem But.seqT {K : PySem.W.Frag} {f a : Addr} {H H1 : Hp} {xs : List V} (b : But f H H1) (h : SqT K H a xs) (n : a ≠ f) : SqT K H1 a xs := by
  rcases h with h | h
  · left
    rcases h with h | ⟨o, h⟩
    · exact .inl (b _ _ h n)
    · exact .inr ⟨o, b _ _ h n⟩
  · exact .inr h
/-- a comprehension without a test -/
theorem yes_in {σ : L2.St} {H : Hp} {A B : Hp → Prop} (h : A H) : tYes σ H (fun b H3 => if b = true then A H3 else B H3) := by
  show (if true = true then A H else B H)
  rw [if_pos rfl]
  exact h
/-! ### the draw -/
/-- the list of the law's draws at f, the script's copy at c -/
def Flow (H : Hp) (f c : Addr) : Prop := ∃ (ns : List Int) (i p q r : Int), H f = some (.lst [.ref c, .int i, .int p, .int q, .int r]) ∧ H c = some (.lst (ns.map V.int)) ∧ 0 ≤ i ∧ 0 ≤ p ∧ 0 ≤ q ∧ q < 2147483647
theorem Flow.new {H : Hp} {f c p : Addr} {o : HO} (h : Flow H f c) (n : H p = none) : Flow (upd H p o) f c := by
  obtain ⟨ns, i, a, q, r, e1, e2, e⟩ := h
  exact ⟨ns, i, a, q, r, same_new n _ _ e1, same_new n _ _ e2, e⟩
theorem Flow.ne {H : Hp} {f c p : Addr} (h : Flow H f c) (n : H p = none) : p ≠ f := by
  obtain ⟨ns, i, a, q, r, e1, _⟩ := h
  exact fun e => by rw [e, e1] at n; cases n
theorem Flow.nec {H : Hp} {f c p : Addr} (h : Flow H f c) (n : H p = none) : p ≠ c := by
  obtain ⟨ns, i, a, q, r, _, e1, _⟩ := h
  exact fun e => by rw [e, e1] at n; cases n
theorem Flow.lst {H : Hp} {f c p : Addr} {o : HO} (h : Flow H f c) (n1 : p ≠ f) (n2 : p ≠ c) : Flow (upd H p o) f c := by
  obtain ⟨ns, i, a, q, r, e1, e2, e⟩ := h
  exact ⟨ns, i, a, q, r, by rw [upd_ne n1.symm]; exact e1, by rw [upd_ne n2.symm]; exact e2, e⟩
theorem Flow.same {H H' : Hp} {f c : Addr} (h : Flow H f c) (s : Same H H') : Flow H' f c := by
  obtain ⟨ns, i, a, q, r, e1, e2, e⟩ := h
  exact ⟨ns, i, a, q, r, s _ _ e1, s _ _ e2, e⟩
theorem Flow.tup {H : Hp} {f c p : Addr} {xs : List V} (h : Flow H f c) (e : H p = some (.tup xs)) : p ≠ f := by
  obtain ⟨ns, i, a, q, r, e1, _⟩ := h
  exact ne_of e e1 (by intro z; cases z)
theorem at_ints {ns : List Int} {i : Int} (h0 : 0 ≤ i) (h1 : i < (ns.length : Int)) : ∃ v : Int, atI (ns.map V.int) i = some (.int v) := by
  have hk : i.toNat < ns.length := by omega
  have ek : i = ((i.toNat : Nat) : Int) := by omega
  have q : atI (ns.map V.int) ((i.toNat : Nat) : Int) = some (.int ns[i.toNat]) := atI_nat (by rw [List.getElem?_map, List.getElem?_eq_getElem hk]; rfl)
  rw [← ek] at q
  exact ⟨_, q⟩
/-- a block by less than it asks -/
theorem PSs.to {X : Cx} {ss : List Stmt} {t : TS} (h : PSs X ss t) (u : TS) (k : ∀ D σ H, u D σ H → t D σ H) : PSs X ss u := ⟨fun pins s σ H D I q => h.run pins s σ H D I (k D σ H q)⟩
theorem if_bl {b : Bool} {A B : Prop} (h1 : b = true → A) (h2 : b = false → B) : if b = true then A else B := by
  cases b
  · rw [if_neg Bool.false_ne_true]; exact h2 rfl
  · rw [if_pos rfl]; exact h1 rfl
/-! ### lists, two by two -/
inductive All2 {α β : Type} (R : α → β → Prop) : List α → List β → Prop
  | nil : All2 R [] []
  | cons {a b as bs} : R a b → All2 R as bs → All2 R (a :: as) (b :: bs)
theorem All2.imp {α β : Type} {R S : α → β → Prop} (h : ∀ a b, R a b → S a b) : ∀ {as bs}, All2 R as bs → All2 S as bs
  | _, _, .nil => .nil
  | _, _, .cons a b => .cons (h _ _ a) (All2.imp h b)
theorem All2.length {α β : Type} {R : α → β → Prop} : ∀ {as bs}, All2 R as bs → as.length = bs.length
  | _, _, .nil => rfl
  | _, _, .cons _ b => congrArg (· + 1) (All2.length b)
theorem All2.snoc {α β : Type} {R : α → β → Prop} {a b} (r : R a b) : ∀ {as bs}, All2 R as bs → All2 R (as ++ [a]) (bs ++ [b])
  | _, _, .nil => .cons r .nil
  | _, _, .cons h t => .cons h (All2.snoc r t)
theorem All2.get {α β : Type} {R : α → β → Prop} {as : List α} {bs : List β} (h : All2 R as bs) : ∀ {i : Nat} {b : β}, bs[i]? = some b → ∃ a, as[i]? = some a ∧ R a b := by
  induction h with
  | nil => intro i b e; cases e
  | cons r t ih =>
    intro i b e
    cases i with
    | zero => cases e; exact ⟨_, rfl, r⟩
    | succ i => exact ih e
theorem All2.getL {α β : Type} {R : α → β → Prop} {as : List α} {bs : List β} (h : All2 R as bs) : ∀ {i : Nat} {a : α}, as[i]? = some a → ∃ b, bs[i]? = some b ∧ R a b := by
  induction h with
  | nil => intro i b e; cases e
  | cons r t ih =>
    intro i b e
    cases i with
    | zero => cases e; exact ⟨_, rfl, r⟩
    | succ i => exact ih e
/-! ### tuples stay -/
def TK (H H' : Hp) : Prop := ∀ b xs, H b = some (.tup xs) → H' b = some (.tup xs)
theorem TK.refl {H : Hp} : TK H H := fun _ _ e => e
theorem TK.trans {H H1 H2 : Hp} (a : TK H H1) (b : TK H1 H2) : TK H H2 := fun x xs e => b x xs (a x xs e)
theorem TK.same {H H' : Hp} (s : Same H H') : TK H H' := fun x xs e => s _ _ e
theorem TK.new {H : Hp} {p : Addr} {o : HO} (n : H p = none) : TK H (upd H p o) := fun x xs e => same_new n _ _ e
theorem TK.lst {H : Hp} {p : Addr} {xs ys : List V} (h : H p = some (.lst xs)) : TK H (upd H p (.lst ys)) := fun x zs e => by
  rw [upd_ne (ne_of e h (by intro z; cases z))]
  exact e
theorem TK.but {H H' : Hp} {f c : Addr} (F : Flow H f c) (b : But f H H') : TK H H' := fun x xs e => b _ _ e (F.tup e)
theorem same_none {H H' : Hp} {p : Addr} (s : Same H H') (n : H' p = none) : H p = none := by
  cases e : H p with
  | none => rfl
  | some o => rw [s _ _ e] at n; cases n
theorem But.none {f p : Addr} {H H' : Hp} (b : But f H H') (n : H' p = Option.none) (h : p ≠ f) : H p = Option.none := by
  cases e : H p with
  | none => rfl
  | some o => rw [b _ _ e h] at n; cases n
theorem But.of {f : Addr} {H H' : Hp} (s : Same H H') : But f H H' := fun _ _ e _ => s _ _ e
/-- a list that was not there is written: what was stays -/
theorem But.own {f p : Addr} {H H1 : Hp} {o : HO} (a : But f H H1) (h : H p = Option.none) : But f H (L2.upd H1 p o) := fun x u e n => by
  rw [upd_ne (ne_of_none e h)]
  exact a x u e n
theorem Same.own {p : Addr} {H H1 : Hp} {o : HO} (a : Same H H1) (h : H p = Option.none) : Same H (L2.upd H1 p o) := fun x u e => by
  rw [upd_ne (ne_of_none e h)]
  exact a x u e
/-! ### loops over any iterator -/
theorem for_it {J : It} {n : Nat} {g : TG} {tb : TS} {D : Ends} {σ : L2.St} {H : Hp} (Pv : Nat → L2.St → Hp → Prop) (h0 : Pv 0 σ H) (go : ∀ i σ H, i < n → Pv i σ H → J.go i H) (st : ∀ σ H, Pv n σ H → J.stop n H)
    (hs : ∀ i x σ H H', i < n → Pv i σ H → J.yld i H x H' → g x σ H' fun σ2 H2 => tb { D with nx := Pv (i + 1), ct := Pv (i + 1), bk := D.nx } σ2 H2) (hd : ∀ σ H, Pv n σ H → D.nx σ H) :
    ∃ W : Nat → Nat → L2.St → Hp → Prop, (∃ m, W 0 m σ H) ∧ ∀ i m σ H, W i m σ H →
      (J.stop i H ∧ D.nx σ H) ∨ (J.go i H ∧ ∃ N : L2.St → Hp → Prop, (∀ σ' H', N σ' H' → ∃ m', m' < m ∧ W (i + 1) m' σ' H') ∧ ∀ x H', J.yld i H x H' → g x σ H' fun σ2 H2 => tb { D with nx := N, ct := N, bk := D.nx } σ2 H2) := by
  refine ⟨fun i m σ H => i + m = n ∧ Pv i σ H, ⟨n, by omega, h0⟩, fun i m σ H ⟨e, p⟩ => ?_⟩
  by_cases k : i < n
  · exact .inr ⟨go i σ H k p, Pv (i + 1), fun σ' H' p' => ⟨m - 1, by omega, by omega, p'⟩, fun x H' y => hs i x σ H H' k p y⟩
  · have z : i = n := by omega
    subst z
    exact .inl ⟨st σ H p, hd σ H p⟩
theorem lc_it {J : It} {n : Nat} {g : TG} {tt : TT} {te : TE} {vs : List Nat} {σ : L2.St} {H1 : Hp} {D : Addr} {Qd : Hp → Prop} (Pv : Nat → Hp → Prop) (h0 : Pv 0 (upd H1 D (.lst []))) (go : ∀ i H, i < n → Pv i H → J.go i H) (st : ∀ H, Pv n H → J.stop n H)
    (hs : ∀ i x H H', i < n → Pv i H → J.yld i H x H' → g x (wipe σ vs) H' fun σ2 H2 => wipe σ2 vs = wipe σ vs ∧ tt σ2 H2 fun b H3 =>
      if b = true then te σ2 H3 fun y H4 => ∃ acc, H4 D = some (.lst acc) ∧ acc.length < sizeLine ∧ Pv (i + 1) (upd H4 D (.lst (acc ++ [y]))) else Pv (i + 1) H3) (hd : ∀ H, Pv n H → Qd H) :
    ∃ W : Nat → Nat → Hp → Prop, (∃ m, W 0 m (upd H1 D (.lst []))) ∧ ∀ i m H, W i m H →
      (J.stop i H ∧ Qd H) ∨ (J.go i H ∧ ∃ Nx : Hp → Prop, (∀ H', Nx H' → ∃ m', m' < m ∧ W (i + 1) m' H') ∧ ∀ x H', J.yld i H x H' → g x (wipe σ vs) H' fun σ2 H2 => wipe σ2 vs = wipe σ vs ∧ tt σ2 H2 fun b H3 =>
        if b = true then te σ2 H3 fun y H4 => ∃ acc, H4 D = some (.lst acc) ∧ acc.length < sizeLine ∧ Nx (upd H4 D (.lst (acc ++ [y]))) else Nx H3) := by
  refine ⟨fun i m H => i + m = n ∧ Pv i H, ⟨n, by omega, h0⟩, fun i m H ⟨e, p⟩ => ?_⟩
  by_cases k : i < n
  · exact .inr ⟨go i H k p, Pv (i + 1), fun H' p' => ⟨m - 1, by omega, by omega, p'⟩, fun x H' y => hs i x H H' k p y⟩
  · have z : i = n := by omega
    subst z
    exact .inl ⟨st H p, hd H p⟩
/-! ### tests -/
theorem if_str {x z : Str} {A B : Prop} (h1 : x = z → A) (h2 : x ≠ z → B) : if decide (V.str x = V.str z) = true then A else B :=
  if_bl (fun e => h1 (V.str.inj (of_decide_eq_true e))) (fun e => h2 (fun q => of_decide_eq_false e (congrArg V.str q)))
theorem inV_strs {x : Str} {zs : List Str} : inV (.str x) (zs.map V.str) = true ↔ x ∈ zs := by
  unfold inV
  induction zs with
  | nil => simp
  | cons z zs ih =>
    rw [List.map_cons, List.any_cons, Bool.or_eq_true, ih, List.mem_cons]
    constructor
    · rintro (h | h)
      · exact .inl (by simpa [eqV] using (show (z == x) = true from h) |> fun k => (eq_of_beq k).symm)
      · exact .inr h
    · rintro (h | h)
      · exact .inl (show (z == x) = true by rw [h]; exact beq_self_eq_true z)
      · exact .inr h
theorem if_in {x : Str} {zs : List Str} {A B : Prop} (h1 : x ∈ zs → A) (h2 : x ∉ zs → B) : if (if false = true then !inV (.str x) (zs.map V.str) else inV (.str x) (zs.map V.str)) = true then A else B := by
  have e : (if false = true then !inV (.str x) (zs.map V.str) else inV (.str x) (zs.map V.str)) = inV (.str x) (zs.map V.str) := if_neg Bool.false_ne_true
  rw [e]
  exact if_bl (fun c => h1 (inV_strs.mp c)) (fun c => h2 (fun k => by rw [inV_strs.mpr k] at c; cases c))
theorem same_seqT {K : PySem.W.Frag} {a : Addr} {H H1 : Hp} {xs : List V} (b : Same H H1) (h : SqT K H a xs) : SqT K H1 a xs := by
  rcases h with h | h
  · left
    rcases h with h | ⟨o, h⟩
    · exact .inl (b _ _ h)
    · exact .inr ⟨o, b _ _ h⟩
  · exact .inr h
theorem little {n : Nat} (h : n ≤ 1000) : n ≤ sizeLine := Nat.le_of_lt (small1000 h)
/-! ### xs[i] op= e -/
def rGetL (K : PySem.W.Frag) : V → V → Hp → VK → Prop := fun o i H Q => ∃ (p : Addr) (xs : List V) (j : Nat) (v : V), o = .ref p ∧ i = .int (j : Nat) ∧ SqL K H p xs ∧ xs[j]? = some v ∧ Q v H
theorem get_list {X : Cx} : PGet X (rGetL X.K) := by
  intro pins st σ H o i ov iv Q J ro ri asked
  obtain ⟨p, xs, j, v, rfl, rfl, hq, hj, now⟩ := asked
  cases ro
  obtain ⟨t, rfl⟩ := ri
  obtain ⟨its, r, pl, hz⟩ := J.list hq
  obtain ⟨u, eu, ru⟩ := r.get hj
  have n1 := (List.getElem?_eq_some_iff.mp hj).1
  have n2 := line63
  exact wpAny_getItem_list pl.isList (by omega) (by omega) (by simpa using eu) ⟨v, H, J, ru, now⟩
/-! ### the same rules, the written part named (so that they fit within comprehensions) -/
section
variable {X : Cx}
theorem ix_listK (K : PySem.W.Frag) (h : X.K = K) : IxR X (rIxL K) := by subst h; exact ix_list
theorem ix_tupK (K : PySem.W.Frag) (h : X.K = K) : IxR X (rIxT K) := by subst h; exact ix_tup
def rLenK (K : PySem.W.Frag) : List V → Hp → VK → Prop := fun xs H Q => ∃ (p : Addr) (ys : List V), xs = [.ref p] ∧ (SqL K H p ys ∨ SqT K H p ys) ∧ Q (.int (ys.length : Nat)) H
theorem call_len_seqK (K : PySem.W.Frag) (h : X.K = K) : CallR X (.builtin "len") (rLenK K) := by subst h; exact call_len_seq
def rListOfK (K : PySem.W.Frag) : List V → Hp → VK → Prop := fun xs H Q => ∃ (p : Addr) (ys : List V), xs = [.ref p] ∧ (SqL K H p ys ∨ SqT K H p ys) ∧ ∀ l, H l = none → Q (.ref l) (upd H l (.lst ys))
theorem call_list_ofK (K : PySem.W.Frag) (h : X.K = K) : CallR X (.type "list") (rListOfK K) := by subst h; exact call_list_of
def rTupOfK (K : PySem.W.Frag) : List V → Hp → VK → Prop := fun xs H Q => ∃ (p : Addr) (ys : List V), xs = [.ref p] ∧ ((SqL K H p ys ∧ ∀ l, H l = none → Q (.ref l) (upd H l (.tup ys))) ∨ (SqT K H p ys ∧ Q (.ref p) H))
theorem call_tuple_ofK (K : PySem.W.Frag) (h : X.K = K) : CallR X (.type "tuple") (rTupOfK K) := by subst h; exact call_tuple_of
theorem op_in_seqK (K : PySem.W.Frag) (h : X.K = K) : OpR X (compareOp .In) (rIn K false) := by subst h; exact op_in_seq
theorem op_notIn_seqK (K : PySem.W.Frag) (h : X.K = K) : OpR X (compareOp .NotIn) (rIn K true) := by subst h; exact op_notIn_seq
theorem sl_listK (K : PySem.W.Frag) (h : X.K = K) : SlR X (rSlL K) := by subst h; exact sl_list
theorem sl_tupAK (K : PySem.W.Frag) (h : X.K = K) : SlR X (rSlA K) := by subst h; exact sl_tupA
theorem op_eqDK (K : PySem.W.Frag) (h : X.K = K) (hu : X.A.units + 64 < cLine) : OpR X (compareOp .Eq) (rEqD K) := by subst h; exact op_eqD hu
theorem op_neDK (K : PySem.W.Frag) (h : X.K = K) (hu : X.A.units + 64 < cLine) : OpR X (compareOp .NotEq) (rNeD K) := by subst h; exact op_neD hu
theorem call_isiKK (K : PySem.W.Frag) (h : X.K = K) : CallR X (.builtin "isinstance") (rIsi K) := by subst h; exact call_isi
theorem cr_allK (K : PySem.W.Frag) (h : X.K = K) (hc : X.calm = true) : CallR X (.builtin "all") (rAll K) := by subst h; exact cr_all hc
theorem cr_anyK (K : PySem.W.Frag) (h : X.K = K) (hc : X.calm = true) : CallR X (.builtin "any") (rAny K) := by subst h; exact cr_any hc
theorem cr_minKK (K : PySem.W.Frag) (h : X.K = K) (hc : X.calm = true) : CallR X (.builtin "min") (rMin K) := by subst h; exact cr_min hc
theorem cr_maxKK (K : PySem.W.Frag) (h : X.K = K) (hc : X.calm = true) : CallR X (.builtin "max") (rMax K) := by subst h; exact cr_max hc
def tTruK (K : PySem.W.Frag) (ta : TE) : TT := fun σ H Q => ta σ H fun x H' => ∃ k, TruV K x H' k ∧ Q k H'
theorem pt_truthK (K : PySem.W.Frag) (h : X.K = K) {a : Expr} {ta : TE} (ha : PE X a ta) (he : ∀ whole, isTrue a X.env whole = (do let v ← whole; standAt a.pos; holding [v] (truthy v))) : PT X a (tTruK K ta) := by subst h; exact pt_truth ha he
theorem get_listK (K : PySem.W.Frag) (h : X.K = K) : PGet X (rGetL K) := by subst h; exact get_list
theorem pg_tupK (K : PySem.W.Frag) (h : X.K = K) {es : List Expr} {k n : Nat} {t : TGs} {pos : Pos} (hc : X.calm = true) (g : PGs X es t)
    (hn : (assignEach es X.env).length = n := by rfl) (hst : (assignEach es X.env).findIdx? (·.1) = none := by rfl) : PG X (.Tuple es k pos) (gTup K n t) := by subst h; exact pg_tup hc g hn hst
theorem pg_unlK (K : PySem.W.Frag) (h : X.K = K) {es : List Expr} {k n : Nat} {t : TGs} {pos : Pos} (hc : X.calm = true) (g : PGs X es t)
    (hn : (assignEach es X.env).length = n := by rfl) (hst : (assignEach es X.env).findIdx? (·.1) = none := by rfl) : PG X (.Tuple es k pos) (gUnl K n t) := by subst h; exact pg_unl hc g hn hst
theorem pi_listK (K : PySem.W.Frag) (h : X.K = K) {tg e : Expr} {te : TE} (he : PE X e te) : PI X tg e (iList K te) := by subst h; exact pi_list he
theorem pi_tupK (K : PySem.W.Frag) (h : X.K = K) {tg e : Expr} {te : TE} (he : PE X e te) : PI X tg e (iTup K te) := by subst h; exact pi_tup he
theorem pe_revLK (K : PySem.W.Frag) (h : X.K = K) {e : Expr} {te : TE} {k : Nat} {p1 p2 p3 pos : Pos} (he : PE X e te) : PE X (.Subscript e (.Slice none none (some (.UnaryOp .USub (.Constant (.int 1) k p1) p2)) p3) pos) (tRevL K te) := by subst h; exact pe_revL he
theorem pe_bmK (K : PySem.W.Frag) (h : X.K = K) {o e : Expr} {es : List Expr} {to : TE} {t : TA} {name : Str} {apos cpos : Pos} {T id : String} {r : V → List V → Hp → VK → Prop}
    (pa : PlainAttrs T) (slot : Slot T name id) (hty : typeOf (.builtin id) = pure (.type "method_descriptor")) (hm : MtR X id r) (ho : PE X o to) (ha : PA X (e :: es) t)
    (n1 : attributeBase o name X.env (eval o X.env) = eval o X.env := by rfl)
    (n2 : ((backTo cpos (starEach (e :: es) X.env)).all (fun x => !x.1) && (backToKw cpos (keywordEach [] X.env)).all (fun x => x.1.isSome) && decide ((e :: es).length + ([] : List Keyword).length + (if ([] : List Keyword).isEmpty then 0 else 1) < 30)) = true := by rfl)
    (n3 : (apos.endLine == cpos.line) = true := by rfl) (n4 : starEach (e :: es) X.env = (false, eval e X.env) :: starEach es X.env := by rfl) (n5 : (backTo cpos (starEach es X.env)).any (·.1) = false := by rfl) :
    PE X (.Call (.Attribute o name apos) (e :: es) [] cpos) (tBM K T r to t) := by subst h; exact pe_bm pa slot hty hm ho ha n1 n2 n3 n4 n5
theorem pe_bm0K (K : PySem.W.Frag) (h : X.K = K) {o : Expr} {to : TE} {name : Str} {apos cpos : Pos} {T id : String} {r : V → List V → Hp → VK → Prop}
    (pa : PlainAttrs T) (slot : Slot T name id) (hty : typeOf (.builtin id) = pure (.type "method_descriptor")) (hm : MtR X id r) (ho : PE X o to)
    (n1 : attributeBase o name X.env (eval o X.env) = eval o X.env := by rfl) (n3 : (apos.endLine == cpos.line) = true := by rfl) : PE X (.Call (.Attribute o name apos) [] [] cpos) (tBM0 K T r to) := by subst h; exact pe_bm0 pa slot hty hm ho n1 n3
theorem op_catAK (K : PySem.W.Frag) (h : X.K = K) : OpR X (binaryOp .Add) (rCatA K) := by subst h; exact op_catA
theorem call_isiTK (K : PySem.W.Frag) (h : X.K = K) : CallR X (.builtin "isinstance") (rIsiT K) := by subst h; exact call_isiT
theorem pi_zipAK (K : PySem.W.Frag) (h : X.K = K) {e e2 : Expr} {ta : TA} {p pos tpos : Pos} {elts : List Expr} {kk : Nat} (hg : Gl X "zip") (hm : X.mg "zip" = none) (ha : PA X [e, e2] ta)
    (hs : starEach [e, e2] X.env = (false, eval e X.env) :: starEach [e2] X.env := by rfl) (hpl : (backTo pos (starEach [e2] X.env)).any (·.1) = false := by rfl) :
    PI X (.Tuple elts kk tpos) (.Call (.Name "zip" p) [e, e2] [] pos) (RZ.iZipA K ta) := by subst h; exact RZ.pi_zipA hg hm ha hs hpl
theorem pi_or {tg e : Expr} {t1 t2 : TI} (h1 : PI X tg e t1) (h2 : PI X tg e t2) : PI X tg e (fun σ H R => t1 σ H R ∨ t2 σ H R) := ⟨fun pins s σ H R I h => h.elim (h1.run pins s σ H R I) (h2.run pins s σ H R I)⟩
theorem pe_fldK (K : PySem.W.Frag) (h : X.K = K) {e : Expr} {ta : TE} {f : Str} {pos : Pos} (he : PE X e ta) (hb : attributeBase e f X.env (eval e X.env) = eval e X.env) : PE X (.Attribute e f pos) (tFld K ta f) := by subst h; exact pe_fld he hb
theorem ps_fldK (K : PySem.W.Frag) (h : X.K = K) {o value : Expr} {ta tv : TE} {f : Str} {pos pos' : Pos} (ha : PE X o ta) (hv : PE X value tv) (hs : swapsWith value (some (.Attribute o f pos')) pos.line X.env = pure false) : PS X (.Assign [.Attribute o f pos'] value pos) (sFld K ta tv f) := by subst h; exact ps_fld ha hv hs
theorem ps_fldaugK (K : PySem.W.Frag) (h : X.K = K) {o value : Expr} {ta tv : TE} {f : Str} {pos tpos : Pos} {op : Operator} {rd : V → V → Hp → VK → Prop} (ha : PE X o ta) (hv : PE X value tv) (hop : InOp X op rd) : PS X (.AugAssign (.Attribute o f tpos) op value pos) (sFldAug K ta tv rd f) := by subst h; exact ps_fldaug ha hv hop
end
section
variable {X : Cx}
theorem cr_sumK (K : PySem.W.Frag) (h : X.K = K) (hc : X.calm = true) : CallR X (.builtin "sum") (rSum K) := by subst h; exact cr_sum hc
end
section
variable {X : Cx}
theorem op_ltTK (K : PySem.W.Frag) (h : X.K = K) (hu : X.A.units < cLine) : OpR X (compareOp .Lt) (rLtT K) := by subst h; exact op_ltT hu
end
section
variable {X : Cx}
theorem cr_sortedRevK (K : PySem.W.Frag) (h : X.K = K) {b : Bool} : CallRK X (.builtin "sorted") [Str.ofString "reverse"] (rSortedKw K b [.bl b]) := by subst h; exact cr_sortedRev
theorem op_inDK (K : PySem.W.Frag) (h : X.K = K) (hu : X.A.units + 65 < cLine) : OpR X (compareOp .In) (rInD K) := by subst h; exact op_inD hu
end
theorem hu65 {A : Around} {k : Nat} (hr : Room k A) : A.units + 65 < cLine := by have := hr.un; omega
section
variable {X : Cx}
/-- x not in t, t a tuple of data of any depth -/
def rNotInDT (K : PySem.W.Frag) : R2 := fun x y H Q => ∃ d ds, Dp K H x d ∧ Dp K H y (.tuple ds) ∧ SeqAt.shaped d = true ∧ SeqAt.shaped (.tuple ds) = true ∧ Q (.bl (!ds.any fun z => PyData.eqv z d)) H
theorem op_notInDTK (K : PySem.W.Frag) (same : X.K = K) (room : X.A.units + 65 < cLine) : OpR X (compareOp .NotIn) (rNotInDT K) := by
  subst same
  intro pins st σ H one many ov mv Q J ro rm asked
  have ⟨d, ds, dpO, dpM, shO, shM, done⟩ := asked
  have ⟨_, readO⟩ := Dp.reads J d one ov dpO ro
  have ⟨_, readM⟩ := Dp.reads J (.tuple ds) many mv dpM rm
  exact SeqAt.notIn_tuple_reads readM readO (SeqAt.canLay_of_shaped shM) (SeqAt.canLay_of_shaped shO) (room_in_shaped shO room) ⟨.bl _, H, J, rfl, done⟩
end
/-! ### for x, y in zip(t, l), t a tuple, l a list -/
def IzTL (K : PySem.W.Frag) (a b : Addr) (xs ys : List V) : It :=
  ⟨fun i H => SqT K H a xs ∧ SqL K H b ys ∧ i < xs.length ∧ i < ys.length, fun i H v H' => ∃ T x y, v = .ref T ∧ H T = none ∧ H' = upd H T (.tup [x, y]) ∧ xs[i]? = some x ∧ ys[i]? = some y, fun i H => SqT K H a xs ∧ SqL K H b ys ∧ i ≤ xs.length ∧ i ≤ ys.length ∧ (i = xs.length ∨ i = ys.length)⟩
theorem turn_zipTL {P : Program} {w : World} {K : PySem.W.Frag} {elts : List Expr} {kk : Nat} {tpos : Pos} {a b z TI TO i1 i2 : Addr} (S : ZipSep2 z TI TO i1 i2 [i1, a] [i2, b]) (na : a ≠ i1) (nb : b ≠ i2) (xs ys : List V) :
    Turn P w K (.Tuple elts kk tpos) (IzTL K a b xs ys) [z, TI, TO, i1, i2] z (fun i h => IsZip h z TI TO .none ∧ IsTupOf2 h TI (.ref i1) (.ref i2) ∧ (∃ x y, IsTupOf2 h TO x y) ∧ h.IsTupleIter i1 a i ∧ h.IsListIter i2 b i) where
  mem := by simp
  obj := fun i h stt c hc => by
    obtain ⟨hz, hI, ⟨x, y, hO⟩, ⟨o1, e1, _, d1⟩, ⟨o2, e2, _, d2⟩⟩ := stt
    have any : c = z ∨ c = TI ∨ c = TO ∨ c = i1 ∨ c = i2 := by simpa using hc
    rcases any with q | q | q | q | q <;> subst q
    · exact ⟨_, hz, fun v q => nomatch q⟩
    · exact ⟨_, hI, fun v q => nomatch q⟩
    · exact ⟨_, hO, fun v q => nomatch q⟩
    · exact ⟨o1, e1, fun v q => by rw [d1] at q; cases q⟩
    · exact ⟨o2, e2, fun v q => by rw [d2] at q; cases q⟩
  keep := fun i h h' stt k => by
    obtain ⟨hz, hI, ⟨x, y, hO⟩, k1, k2⟩ := stt
    exact ⟨k z (by simp) _ hz, k TI (by simp) _ hI, ⟨x, y, k TO (by simp) _ hO⟩, k1.at fun o q => k i1 (by simp) o q, k2.at fun o q => k i2 (by simp) o q⟩
  item := by
    intro X hP hw hK hc i pins st σ H E J hf stt going
    subst hP hw hK
    obtain ⟨hz, hI, ⟨x0, y0, hO⟩, k1, k2⟩ := stt
    obtain ⟨hq1, hq2, l1, l2⟩ := going
    obtain ⟨its, rv, tup, _⟩ := J.tuple hq1
    obtain ⟨its2, rv2, lst, _⟩ := J.list hq2
    have len1 := rv.length
    have len2 := rv2.length
    have zl : z < st.heap.objs.size := Heap.lt_size hz
    have D1 := Draws.tuple (prog := X.prog) (w := X.w) (A := X.A.in1) (J.ok.hd hc) i1 a na its.toArray
    have D2 := Draws.list (prog := X.prog) (w := X.w) (A := X.A.in1) (J.ok.hd hc) i2 b nb its2.toArray
    refine wpAny_pyNext_zipD2_item S D1 D2 hz hI hO ⟨k1, tup⟩ ⟨k2, lst.isList⟩ (by rw [List.size_toArray]; omega) (by rw [List.size_toArray]; omega) fun u1 u2 h' tk p1 p2 out hO' s1 s2 new size kp => ?_
    refine ⟨_, rfl, wpAny_letOwnedTupleGo_zip (s := { st with heap := h', toks := tk }) out fun h'' out' sb => ?_⟩
    obtain ⟨x, hx⟩ : ∃ x, xs[i]? = some x := ⟨_, List.getElem?_eq_getElem l1⟩
    obtain ⟨y, hy⟩ : ∃ y, ys[i]? = some y := ⟨_, List.getElem?_eq_getElem l2⟩
    obtain ⟨w1, hw1, r1⟩ := rv.get hx
    obtain ⟨w2, hw2, r2⟩ := rv2.get hy
    have e1 : w1 = u1 := by
      have p1 : its.toArray[i]? = some u1 := p1
      rw [List.getElem?_toArray, hw1] at p1
      exact Option.some.inj p1
    have e2 : w2 = u2 := by
      have p2 : its2.toArray[i]? = some u2 := p2
      rw [List.getElem?_toArray, hw2] at p2
      exact Option.some.inj p2
    subst e1 e2
    have there : h''.get? st.heap.objs.size = some { cls := .type "tuple", data := .seq #[w1, w2] } := (sb.2 _ (Nat.ne_of_gt zl)).trans new
    have good : ObjOk X.prog X.w (upd H st.heap.objs.size (.tup [x, y])) h'' st.heap.objs.size (.tup [x, y]) :=
      ⟨by show 2 ≤ sizeLine; decide, [w1, w2], .cons r1 (.cons r2 .nil), ⟨_, there, rfl, _, rfl⟩⟩
    have J1 : Inv X pins σ (upd H st.heap.objs.size (.tup [x, y])) { st with heap := h'', toks := tk } :=
      J.turnedNew (ch := [z, TI, TO, i1, i2]) (fun c o hb q => (sb.2 c (fun q' => hb (by simp [q']))).trans (kp c o (fun q' => hb (by simp [q'])) (fun q' => hb (by simp [q'])) (fun q' => hb (by simp [q'])) (fun q' => hb (by simp [q'])) q)) hf (Nat.le_refl _) good
    have i1z : i1 ≠ z := fun q => S.zf1 (by simp [q])
    have i2z : i2 ≠ z := fun q => S.zf2 (by simp [q])
    refine ⟨.ref st.heap.objs.size, _, J1, rfl, ⟨_, x, y, rfl, J.hok.fresh (Nat.le_refl _), rfl, hx, hy⟩, ⟨out', ?_, ⟨w1, w2, ?_⟩, ?_, ?_⟩, fun c hcm => ?_⟩
    · exact (sb.2 _ S.TIz).trans (kp _ _ S.TIz S.TITO S.TIi1 S.TIi2 hI)
    · exact (sb.2 _ S.TOz).trans hO'
    · exact s1.1.at fun o q => (sb.2 _ i1z).trans q
    · exact s2.1.at fun o q => (sb.2 _ i2z).trans q
    · have low : c < st.heap.objs.size := by
        have any : c = z ∨ c = TI ∨ c = TO ∨ c = i1 ∨ c = i2 := by simpa using hcm
        rcases any with q | q | q | q | q
        · rw [q]; exact zl
        · rw [q]; exact Heap.lt_size hI
        · rw [q]; exact Heap.lt_size hO
        · rw [q]; obtain ⟨_, q1, _⟩ := k1; exact Heap.lt_size q1
        · rw [q]; obtain ⟨_, q2, _⟩ := k2; exact Heap.lt_size q2
      rw [upd_ne (Nat.ne_of_lt low)]
      exact (hf c hcm).1
  done := by
    intro X hP hw hK hc i pins st σ H E J hf stt over
    subst hP hw hK
    obtain ⟨hz, hI, ⟨x0, y0, hO⟩, k1, k2⟩ := stt
    obtain ⟨hq1, hq2, l1, l2, fin⟩ := over
    obtain ⟨its, rv, tup, _⟩ := J.tuple hq1
    obtain ⟨its2, rv2, lst, _⟩ := J.list hq2
    have len1 := rv.length
    have len2 := rv2.length
    have D1 := Draws.tuple (prog := X.prog) (w := X.w) (A := X.A.in1) (J.ok.hd hc) i1 a na its.toArray
    have D2 := Draws.list (prog := X.prog) (w := X.w) (A := X.A.in1) (J.ok.hd hc) i2 b nb its2.toArray
    refine wpAny_pyNext_zipD2_end S D1 D2 hz hI hO ⟨k1, tup⟩ ⟨k2, lst.isList⟩ (by rw [List.size_toArray]; omega) (by rw [List.size_toArray]; omega) (by rw [List.size_toArray, List.size_toArray]; omega) fun h' tk kp => ⟨rfl, ?_⟩
    exact J.turnedL (t' := tk) (ch := [z, TI, TO, i1, i2]) (fun c o hb q => kp c o (fun q' => hb (by simp [q'])) (fun q' => hb (by simp [q'])) (fun q' => hb (by simp [q'])) (fun q' => hb (by simp [q'])) q) hf
  self := fun A i st Q E stt now => wpAny_pyIter_zip stt.1 now
def iZipTL (K : PySem.W.Frag) (ta : TA) : TI := fun σ H R => ta σ H fun vs H1 => ∃ a b xs ys, vs = [.ref a, .ref b] ∧ SqT K H1 a xs ∧ SqL K H1 b ys ∧ R (IzTL K a b xs ys) H1
theorem pi_zipTL (K : PySem.W.Frag) {X : Cx} (hk : X.K = K) {e e2 : Expr} {ta : TA} {p pos tpos : Pos} {elts : List Expr} {kk : Nat} (hg : Gl X "zip") (hm : X.mg "zip" = none) (ha : PA X [e, e2] ta)
    (hs : starEach [e, e2] X.env = (false, eval e X.env) :: starEach [e2] X.env := by rfl) (hpl : (backTo pos (starEach [e2] X.env)).any (·.1) = false := by rfl) : PI X (.Tuple elts kk tpos) (.Call (.Name "zip" p) [e, e2] [] pos) (iZipTL K ta) := by
  subst hk
  refine ⟨fun pins st σ H R J asked => ?_⟩
  refine Call_ (ld_blt J hg hm PyProof.Rows.boot_zip (PyProof.Rows.callWith_type1 (thn (ha.run pos pins st σ H _ J asked) fun us st1 ⟨vs, H1, J1, rel, now⟩ => ?_) hs hpl))
  obtain ⟨a, b, xs, ys, ex, hq1, hq2, now⟩ := now
  subst ex
  obtain ⟨u1, u2, rfl, r1, r2⟩ := vals2 rel
  obtain rfl : u1 = Value.ref a := r1
  obtain rfl : u2 = Value.ref b := r2
  obtain ⟨its, rv, tup, _⟩ := J1.tuple hq1
  obtain ⟨its2, rv2, lst, _⟩ := J1.list hq2
  have al : a < st1.heap.objs.size := by obtain ⟨o, ho, _⟩ := id tup; exact Heap.lt_size ho
  have bl : b < st1.heap.objs.size := by obtain ⟨o, ho, _⟩ := id lst.isList; exact Heap.lt_size ho
  refine zip_begins2 (begins_tuple a its.toArray) (begins_list b its2.toArray) tup lst.isList fun h' hz hI hO g1 g2 size kp => wpAny_pyIter_zip hz ?_
  have J2 : Inv X pins σ H1 { st1 with heap := h' } := J1.kept (t' := st1.toks) kp
  generalize hn : st1.heap.objs.size = n at *
  have S : ZipSep2 (n + 4) (n + 2) (n + 3) n (n + 1) [n, a] [n + 1, b] :=
    zip_sep2 (fun c hc => by rw [List.mem_singleton.mp hc]; exact al) (fun c hc => by rw [List.mem_singleton.mp hc]; exact bl)
  refine ⟨n + 4, [n + 4, n + 2, n + 3, n, n + 1], _, _, H1, rfl, J2, turn_zipTL S (Nat.ne_of_lt al) (Nat.ne_of_lt (Nat.lt_succ_of_lt bl)) xs ys, ⟨hz, hI, ⟨_, _, hO⟩, ⟨_, g1, rfl, rfl⟩, ⟨_, g2, rfl, rfl⟩⟩, fun c hcm => ?_, now⟩
  have low : n ≤ c := by
    have any : c = n + 4 ∨ c = n + 2 ∨ c = n + 3 ∨ c = n ∨ c = n + 1 := by simpa using hcm
    rcases any with q | q | q | q | q <;> rw [q]
    · exact Nat.le_add_right ..
    · exact Nat.le_add_right ..
    · exact Nat.le_add_right ..
    · exact Nat.le_refl _
    · exact Nat.le_add_right ..
  rw [← hn] at low
  exact J1.fpOk low (J1.hok.fresh low)
/-! ### for i, x in enumerate(t), t a tuple -/
section
open Sem (wp)
open AutoSeq1 (wpAny_loadPart')
theorem enum_of_tup (t : Addr) (its : Array Value) (n : Nat) (dct : Option Addr) (sl : Array (Option Value)) :
    Meets (Builtin.«enumerate.__new__» ⟨[.type "enumerate", .ref t], []⟩) (fun _ R st => st.heap.get? t = some { cls := .type "tuple", dict := dct, data := .seq its n, slots := sl } ∧
      R (.ok (.ret (.ref (st.heap.push { cls := .type "tuple_iterator", data := .fields #[.ref t, .int 0 0] }).objs.size)))
        { st with heap := (st.heap.push { cls := .type "tuple_iterator", data := .fields #[.ref t, .int 0 0] }).push { cls := .type "enumerate", data := .fields #[.none, .bool false, .ref st.heap.objs.size, rawInt 0, .none, .none] } }) :=
  .of_wp fun prog w A R st asked => by
    obtain ⟨hp, g, d, tk, os⟩ := st; obtain ⟨at_, asked⟩ := asked
    have sub := sub_enumerate
    have hT : Heap.IsTuple (Shared.heap ⟨hp, g, d, tk, os⟩) t its := ⟨_, at_, rfl, n, rfl⟩
    wp_walk using wpAny_loadPart' at_
    refine wpAny_stack_any fun stk => wpAny_pure ?_
    split
    · rename_i c _ _ _ _ _
      cases (c == Value.type "enumerate")
      · wp_walk using wpAny_loadPart' at_, wpAny_pyIter_tuple hT
        exact ⟨_, rfl, asked⟩
      · wp_walk using wpAny_loadPart' at_, wpAny_pyIter_tuple hT
        exact ⟨_, rfl, asked⟩
    · wp_walk using wpAny_loadPart' at_, wpAny_pyIter_tuple hT
      exact ⟨_, rfl, asked⟩
theorem call_enum_tup {prog : Program} {w : World} {A : Around} {E : Value → Shared → Prop} {st : Shared} {t : Addr} {its : Array Value} {Q : Value → Shared → Prop} (hT : st.heap.IsTuple t its)
    (now : ∀ h', IsEnum h' (st.heap.objs.size + 1) st.heap.objs.size 0 .none → h'.IsTupleIter st.heap.objs.size t 0 → h'.objs.size = st.heap.objs.size + 2 →
      (∀ b o, st.heap.get? b = some o → h'.get? b = some o) → Q (.ref (st.heap.objs.size + 1)) { st with heap := h' }) :
    wpAny (model prog w) A (call (.type "enumerate") [.ref t]) Q E st := by
  obtain ⟨⟨c, dct, dt, sl⟩, at_, hc, n, hd⟩ := hT
  replace hc : c = .type "tuple" := hc
  replace hd : dt = .seq its n := hd
  subst hc hd
  refine callType_new F.called_enumerate (by decide) (F.typeCall_enumerate_1 _) (F.newCall_enumerate_1 _) (fun obj => F.args_object_init_2 obj _) F.entry_enumerate_new (enum_of_tup t its n dct sl) ⟨at_, ?_⟩
  have size1 : (st.heap.push { cls := .type "tuple_iterator", data := .fields #[.ref t, .int 0 0] }).objs.size = st.heap.objs.size + 1 := Heap.size_push ..
  show _ ∧ _
  rw [size1]
  have made := Heap.get?_push_size (st.heap.push { cls := .type "tuple_iterator", data := .fields #[.ref t, .int 0 0] }) (o := { cls := .type "enumerate", data := .fields #[.none, .bool false, .ref st.heap.objs.size, rawInt 0, .none, .none] }) rfl
  rw [size1] at made
  exact ⟨⟨_, made, rfl⟩, now _ made ⟨_, Heap.get?_push_of_some _ (Heap.get?_push_size _ rfl), rfl, rfl⟩ (by rw [Heap.size_push, size1]) fun b o e => Heap.get?_push_of_some _ (Heap.get?_push_of_some _ e)⟩
end
/-- the tuple at a, each item in a new pair -/
def IteT (K : PySem.W.Frag) (a : Addr) (xs : List V) : It :=
  ⟨fun i H => SqT K H a xs ∧ i < xs.length, fun i H v H' => ∃ T x, v = .ref T ∧ H T = none ∧ H' = upd H T (.tup [.int (i : Nat), x]) ∧ xs[i]? = some x, fun i H => SqT K H a xs ∧ i = xs.length⟩
theorem turn_enumT {P : Program} {w : World} {K : PySem.W.Frag} {elts : List Expr} {kk : Nat} {tpos : Pos} (a e it : Addr) (xs : List V) :
    Turn P w K (.Tuple elts kk tpos) (IteT K a xs) [e, it] e (fun i h => (∃ old, IsEnum h e it ((i : Nat) : Int) old) ∧ h.IsTupleIter it a i ∧ e ≠ it ∧ a ≠ it ∧ a ≠ e) where
  mem := by simp
  obj := fun i h st b hb => by
    obtain ⟨⟨old, he⟩, ⟨o, ho, hc, hd⟩, _⟩ := st
    have either : b = e ∨ b = it := by simpa using hb
    rcases either with z | z
    · rw [z]; exact ⟨_, he, fun v q => nomatch q⟩
    · rw [z]; exact ⟨o, ho, fun v q => by rw [hd] at q; cases q⟩
  keep := fun i h h' st k => let ⟨⟨old, he⟩, hi, apart⟩ := st; ⟨⟨old, k e (by simp) _ he⟩, hi.at fun o q => k it (by simp) o q, apart⟩
  item := by
    intro X hP hw hK hc i pins st σ H E J hf stt going
    subst hP hw hK
    obtain ⟨⟨old, he⟩, hit, n1, n2, n3⟩ := stt
    obtain ⟨hq, hi⟩ := going
    obtain ⟨its, rv, tup, hz⟩ := J.tuple hq
    have len := rv.length
    have el : e < st.heap.objs.size := Heap.lt_size he
    have il : it < st.heap.objs.size := by obtain ⟨_, q, _⟩ := hit; exact Heap.lt_size q
    have D := Draws.tuple (prog := X.prog) (w := X.w) (A := X.A.in1) (J.ok.hd hc) it a n2 its.toArray
    refine wpAny_pyNext_enum_itemD D he ⟨hit, tup⟩ (by rw [List.size_toArray]; omega) n1 (by simp [n1, n3.symm]) fun u h' tk px out stt' new size kp => ?_
    refine ⟨_, rfl, wpAny_letOwnedTupleGo_enum (s := { st with heap := h', toks := tk + 1 }) out fun h'' he' sb => ?_⟩
    obtain ⟨x, hx⟩ : ∃ x, xs[i]? = some x := ⟨_, List.getElem?_eq_getElem hi⟩
    obtain ⟨u', hu', ru⟩ := rv.get hx
    have eu : u' = u := by
      have px : its.toArray[i]? = some u := px
      rw [List.getElem?_toArray, hu'] at px
      exact Option.some.inj px
    subst eu
    have there : h''.get? st.heap.objs.size = some { cls := .type "tuple", data := .seq #[.int i tk, u'] } := (sb.2 _ (Nat.ne_of_gt el)).trans new
    have ok2 : ObjOk X.prog X.w (upd H st.heap.objs.size (.tup [.int (i : Nat), x])) h'' st.heap.objs.size (.tup [.int (i : Nat), x]) :=
      ⟨by show 2 ≤ sizeLine; decide, [.int i tk, u'], .cons ⟨_, rfl⟩ (.cons ru .nil), ⟨_, there, rfl, _, rfl⟩⟩
    have J1 : Inv X pins σ (upd H st.heap.objs.size (.tup [.int (i : Nat), x])) { st with heap := h'', toks := tk + 1 } :=
      J.turnedNew (ch := [e, it]) (fun b ob hb q => (sb.2 b (fun z => hb (by simp [z]))).trans (kp b ob (fun z => hb (by simp [z])) (fun z => hb (by simp [z])) q)) hf (Nat.le_refl _) ok2
    refine ⟨.ref st.heap.objs.size, _, J1, rfl, ⟨_, x, rfl, J.hok.fresh (Nat.le_refl _), rfl, hx⟩, ⟨⟨u', ?_⟩, stt'.1.at fun o q => (sb.2 it (Ne.symm n1)).trans q, n1, n2, n3⟩, fun b hb => ?_⟩
    · rw [show ((i + 1 : Nat) : Int) = (i : Int) + 1 by omega]
      exact he'
    · have bl : b < st.heap.objs.size := by
        have either : b = e ∨ b = it := by simpa using hb
        rcases either with z | z
        · rw [z]; exact el
        · rw [z]; exact il
      rw [upd_ne (Nat.ne_of_lt bl)]
      exact (hf b hb).1
  done := by
    intro X hP hw hK hc i pins st σ H E J hf stt over
    subst hP hw hK
    obtain ⟨⟨old, he⟩, hit, n1, n2, n3⟩ := stt
    obtain ⟨hq, hi⟩ := over
    obtain ⟨its, rv, tup, hz⟩ := J.tuple hq
    obtain ⟨f0, f1, f2, f3, f4, f5⟩ := hf it (by simp)
    have len := rv.length
    have D := Draws.tuple (prog := X.prog) (w := X.w) (A := X.A.in1) (J.ok.hd hc) it a n2 its.toArray
    have ei : its.toArray.size = i := by rw [List.size_toArray]; omega
    exact wpAny_pyNext_enum_endD D he ⟨by rw [ei]; exact hit, tup⟩ fun h' eb => ⟨rfl, J.turned (t' := st.toks) (fun b o hb q => eb b o hb q) f0 f1 f3 f4 f5⟩
  self := fun A i st Q E stt now => let ⟨⟨_, he⟩, _⟩ := stt; wpAny_pyIter_enum he now
def iEnumT (K : PySem.W.Frag) (ta : TA) : TI := fun σ H R => ta σ H fun vs H1 => ∃ a xs, vs = [.ref a] ∧ SqT K H1 a xs ∧ R (IteT K a xs) H1
theorem pi_enumT (K : PySem.W.Frag) {X : Cx} (hk : X.K = K) {e : Expr} {ta : TA} {p pos tpos : Pos} {elts : List Expr} {kk : Nat} (hg : Gl X "enumerate") (hm : X.mg "enumerate" = none) (ha : PA X [e] ta) (hs : starEach [e] X.env = [(false, eval e X.env)] := by rfl) :
    PI X (.Tuple elts kk tpos) (.Call (.Name "enumerate" p) [e] [] pos) (iEnumT K ta) := by
  subst hk
  refine ⟨fun pins st σ H R J asked => ?_⟩
  refine Call_ (ld_blt J hg hm boot_enumerate (PyProof.Rows.callWith_type1 (thn (ha.run pos pins st σ H _ J asked) fun us st1 ⟨vs, H1, J1, rel, now⟩ => ?_) hs rfl))
  obtain ⟨a, xs, ex, hq, now⟩ := now
  subst ex
  obtain ⟨u, rfl, ru⟩ := vals1 rel
  obtain rfl : u = Value.ref a := ru
  obtain ⟨its, rv, tup, hz⟩ := J1.tuple hq
  have al : a < st1.heap.objs.size := by obtain ⟨o, ho, _⟩ := tup; exact Heap.lt_size ho
  refine call_enum_tup tup fun h' he hit size kp => wpAny_pyIter_enum he ?_
  have J2 : Inv X pins σ H1 { st1 with heap := h' } := J1.kept (t' := st1.toks) kp
  refine ⟨st1.heap.objs.size + 1, [st1.heap.objs.size + 1, st1.heap.objs.size], _, _, H1, rfl, J2, turn_enumT a (st1.heap.objs.size + 1) st1.heap.objs.size xs, ⟨⟨.none, he⟩, hit, Nat.succ_ne_self _, Nat.ne_of_lt al, Nat.ne_of_lt (Nat.lt_succ_of_lt al)⟩, fun b hb => ?_, now⟩
  have either : b = st1.heap.objs.size + 1 ∨ b = st1.heap.objs.size := by simpa using hb
  have low : st1.heap.objs.size ≤ b := by
    rcases either with z | z
    · rw [z]; exact Nat.le_add_right _ _
    · rw [z]; exact Nat.le_refl _
  exact J1.fpOk low (J1.hok.fresh low)
/-! ### dict(zip(xs, ys)), xs a list, ys a tuple -/
section
open Sem (wp)
variable {prog : Program} {w : World} {A : Around} {E : Value → Shared → Prop} {st : Shared} {z TI TO T i1 i2 : Addr} {fp1 fp2 : List Addr} {n1 n2 i : Nat} {P1 P2 : Nat → Value → Prop} {S1 S2 : Nat → Heap → Prop} {f : Bool} {oT : Obj}
theorem out_next (S : ZipSep2 z TI TO i1 i2 fp1 fp2) (D1 : Draws prog w A i1 fp1 n1 P1 S1) (D2 : Draws prog w A i2 fp2 n2 P2 S2) {Q : Value → Shared → Prop}
    (out : IsZipHeld st.heap z TI TO T f) (hT : st.heap.get? T = some oT) (both : IsTupOf2 st.heap TI (.ref i1) (.ref i2)) (at1 : S1 i st.heap) (at2 : S2 i st.heap) (l1 : i < n1) (l2 : i < n2)
    (now : ∀ x y h' tk, P1 i x → P2 i y → IsZipHeld h' z TI TO T true → S1 (i + 1) h' → S2 (i + 1) h' → IsTupOf2 h' st.heap.objs.size x y → (∀ c o, c ≠ z → c ≠ i1 → c ≠ i2 → st.heap.get? c = some o → h'.get? c = some o) → Q (.ref st.heap.objs.size) { st with heap := h', toks := tk }) :
    wpAny (model prog w) A (Builtin.«zip.__next__» ⟨[.ref z], []⟩) (fun fin s' => ∃ v, fin = .done (.ret v) ∧ Q v s') E st := by
  obtain ⟨hp, g, d, tk0, os⟩ := st
  show wpAny _ _ (field (.ref z) 2 >>= _) _ _ _; refine wpAny_bind (wpAny_field out rfl (x := .bool false) rfl ?_)
  show wpAny _ _ (field (.ref z) 3 >>= _) _ _ _; refine wpAny_bind (wpAny_field out rfl (x := .ref TI) rfl ?_)
  refine wpAny_bind (wpAny_seqItems both rfl ?_); show wpAny _ _ (Builtin.SmallTypes.ownedTupleIsFree (.ref z) >>= _) _ _ _
  refine wpAny_bind (wpAny_tupleHeld_zip out hT fun g1 out1 b1 => ?_)
  replace b1 : Heap.SameBut z hp g1 := b1
  simp only [Bool.false_eq_true, if_false]; refine wpAny_bind ?_; rw [← Array.forIn_toList]; simp only [List.forIn_cons, List.forIn_nil]
  refine wpAny_bind (wpAny_bind (wpAny_holding ?_)); show wpAny _ _ (Builtin.SmallTypes.nextOf (.ref i1) >>= _) _ _ ⟨g1, g, d, tk0, os⟩
  refine wpAny_bind (D1.item i _ _ _ l1 (D1.over at1 b1 S.zf1) fun x g2 tk1 px n1' b2 => wpAny_pure ?_)
  replace b2 : Heap.SameBut i1 g1 g2 := b2
  refine wpAny_pure ?_; refine wpAny_bind (wpAny_bind (wpAny_holding ?_)); show wpAny _ _ (Builtin.SmallTypes.nextOf (.ref i2) >>= _) _ _ ⟨g2, g, d, tk1, os⟩
  refine wpAny_bind (D2.item i _ _ _ l2 (D2.over (D2.over at2 b1 S.zf2) b2 S.sep1_2) fun y g3 tk2 py n2' b3 => wpAny_pure ?_)
  replace b3 : Heap.SameBut i2 g2 g3 := b3
  refine wpAny_pure (wpAny_pure ?_); show wpAny _ _ (newTuple [x, y] >>= _) _ _ ⟨g3, g, d, tk2, os⟩
  refine wpAny_bind (wpAny_newTuple ?_); refine wpAny_pure ⟨_, rfl, ?_⟩
  have size : g3.objs.size = hp.objs.size := by rw [b3.1, b2.1, b1.1]
  have out3 : IsZipHeld g3 z TI TO T true := b3.extBut _ _ S.zi2 (b2.extBut _ _ S.zi1 out1)
  have new : IsTupOf2 (g3.push { cls := .type "tuple", data := .seq #[x, y] }) g3.objs.size x y := Heap.get?_push_size _ rfl
  show Q (.ref g3.objs.size) _
  rw [size] at new ⊢
  exact now x y _ tk2 px py (Heap.get?_push_of_some _ out3) (D1.frame _ _ _ (D1.over n1' b3 S.sep2_1) fun _ _ _ q => Heap.get?_push_of_some _ q) (D2.frame _ _ _ n2' fun _ _ _ q => Heap.get?_push_of_some _ q) new
    fun c o c1 c2 c3 q => Heap.get?_push_of_some _ (b3.extBut _ _ c3 (b2.extBut _ _ c2 (b1.extBut _ _ c1 q)))
theorem out_end (S : ZipSep2 z TI TO i1 i2 fp1 fp2) (D1 : Draws prog w A i1 fp1 n1 P1 S1) (D2 : Draws prog w A i2 fp2 n2 P2 S2) {Q : Fin → Shared → Prop}
    (out : IsZipHeld st.heap z TI TO T f) (hT : st.heap.get? T = some oT) (both : IsTupOf2 st.heap TI (.ref i1) (.ref i2)) (at1 : S1 i st.heap) (at2 : S2 i st.heap) (l1 : i ≤ n1) (l2 : i ≤ n2) (last : i = n1 ∨ i = n2)
    (now : ∀ h' tk e, (∀ c o, c ≠ z → c ≠ i1 → c ≠ i2 → st.heap.get? c = some o → h'.get? c = some o) → (∃ o, h'.get? e = some o ∧ o.cls = .type "StopIteration") → E (.ref e) { st with heap := h', toks := tk }) :
    wpAny (model prog w) A (Builtin.«zip.__next__» ⟨[.ref z], []⟩) Q E st := by
  obtain ⟨hp, g, d, tk0, os⟩ := st
  show wpAny _ _ (field (.ref z) 2 >>= _) _ _ _; refine wpAny_bind (wpAny_field out rfl (x := .bool false) rfl ?_)
  show wpAny _ _ (field (.ref z) 3 >>= _) _ _ _; refine wpAny_bind (wpAny_field out rfl (x := .ref TI) rfl ?_)
  refine wpAny_bind (wpAny_seqItems both rfl ?_); show wpAny _ _ (Builtin.SmallTypes.ownedTupleIsFree (.ref z) >>= _) _ _ _
  refine wpAny_bind (wpAny_tupleHeld_zip out hT fun g1 out1 b1 => ?_)
  replace b1 : Heap.SameBut z hp g1 := b1
  simp only [Bool.false_eq_true, if_false]; refine wpAny_bind ?_; rw [← Array.forIn_toList]; simp only [List.forIn_cons, List.forIn_nil]
  refine wpAny_bind (wpAny_bind (wpAny_holding ?_)); show wpAny _ _ (Builtin.SmallTypes.nextOf (.ref i1) >>= _) _ _ ⟨g1, g, d, tk0, os⟩
  by_cases more : i < n1
  · refine wpAny_bind (D1.item i _ _ _ more (D1.over at1 b1 S.zf1) fun x g2 tk1 px n1' b2 => wpAny_pure ?_)
    replace b2 : Heap.SameBut i1 g1 g2 := b2
    refine wpAny_pure ?_; refine wpAny_bind (wpAny_bind (wpAny_holding ?_)); show wpAny _ _ (Builtin.SmallTypes.nextOf (.ref i2) >>= _) _ _ ⟨g2, g, d, tk1, os⟩
    have e2 : i = n2 := by omega
    subst e2
    refine wpAny_bind (D2.done _ _ _ (D2.over (D2.over at2 b1 S.zf2) b2 S.sep1_2) fun g3 e b3 he => ?_)
    exact now g3 tk1 e (fun c o c1 c2 c3 q => b3 _ _ c3 (b2.extBut _ _ c2 (b1.extBut _ _ c1 q))) he
  · have e1 : i = n1 := by omega
    subst e1
    refine wpAny_bind (D1.done _ _ _ (D1.over at1 b1 S.zf1) fun g3 e b3 he => ?_)
    exact now g3 tk0 e (fun c o c1 c2 c3 q => b3 _ _ c2 (b1.extBut _ _ c1 q)) he
theorem out_pyNext (S : ZipSep2 z TI TO i1 i2 fp1 fp2) (D1 : Draws prog w A.in1 i1 fp1 n1 P1 S1) (D2 : Draws prog w A.in1 i2 fp2 n2 P2 S2) {Q : Option Value → Shared → Prop}
    (out : IsZipHeld st.heap z TI TO T f) (hT : st.heap.get? T = some oT) (both : IsTupOf2 st.heap TI (.ref i1) (.ref i2)) (at1 : S1 i st.heap) (at2 : S2 i st.heap) (l1 : i < n1) (l2 : i < n2)
    (now : ∀ x y h' tk, P1 i x → P2 i y → IsZipHeld h' z TI TO T true → S1 (i + 1) h' → S2 (i + 1) h' → IsTupOf2 h' st.heap.objs.size x y → (∀ c o, c ≠ z → c ≠ i1 → c ≠ i2 → st.heap.get? c = some o → h'.get? c = some o) → Q (some (.ref st.heap.objs.size)) { st with heap := h', toks := tk }) :
    wpAny (model prog w) A (pyNext (.ref z)) Q E st := by
  have ty : st.TypeIs (.ref z) "zip" := ⟨_, out, rfl⟩
  unfold pyNext
  refine wpAny_bind (wpAny_attempt (wpAny_callSpecial?_slot (name := Str.ofString "__next__") ty F.slot_zip_next (wpAny_call_entry F.slot_zip_next ty F.entry_zip_next (out_next S D1 D2 out hT both at1 at2 l1 l2 ?_) (F.args_zip_next_1 _))))
  exact fun x y h' tk a b c d e g k => wpAny_pure (now x y h' tk a b c d e g k)
theorem out_pyNext_end (S : ZipSep2 z TI TO i1 i2 fp1 fp2) (D1 : Draws prog w A.in1 i1 fp1 n1 P1 S1) (D2 : Draws prog w A.in1 i2 fp2 n2 P2 S2) {Q : Option Value → Shared → Prop}
    (out : IsZipHeld st.heap z TI TO T f) (hT : st.heap.get? T = some oT) (both : IsTupOf2 st.heap TI (.ref i1) (.ref i2)) (at1 : S1 i st.heap) (at2 : S2 i st.heap) (l1 : i ≤ n1) (l2 : i ≤ n2) (last : i = n1 ∨ i = n2)
    (now : ∀ h' tk, (∀ c o, c ≠ z → c ≠ i1 → c ≠ i2 → st.heap.get? c = some o → h'.get? c = some o) → Q none { st with heap := h', toks := tk }) :
    wpAny (model prog w) A (pyNext (.ref z)) Q E st := by
  have ty : st.TypeIs (.ref z) "zip" := ⟨_, out, rfl⟩
  unfold pyNext
  refine wpAny_bind (wpAny_attempt (wpAny_callSpecial?_slot (name := Str.ofString "__next__") ty F.slot_zip_next (wpAny_call_entry F.slot_zip_next ty F.entry_zip_next (out_end S D1 D2 out hT both at1 at2 l1 l2 last ?_) (F.args_zip_next_1 _))))
  rintro h' tk e kp ⟨o, ho, hc⟩
  exact wpAny_bind (wpAny_isInstance (T := "StopIteration") (b := true) ⟨o, ho, hc⟩ isSubtype_stop (wpAny_pure (now _ _ kp)))
/-- the zip of the list l and the tuple t, begun -/
def ZipLT (h : Heap) (z TI TO i1 i2 l t : Addr) (xs ys : Array Value) (n : Nat) : Prop := IsTupOf2 h TI (.ref i1) (.ref i2) ∧ (h.IsListIter i1 l n ∧ h.IsList l xs) ∧ (h.IsTupleIter i2 t n ∧ h.IsTuple t ys)
theorem ZipLT.keep {h h' : Heap} {z TI TO i1 i2 l t : Addr} {xs ys : Array Value} {n : Nat} (q : ZipLT h z TI TO i1 i2 l t xs ys n) (k : ∀ b, b = TI ∨ b = i1 ∨ b = i2 ∨ b = l ∨ b = t → ∀ o, h.get? b = some o → h'.get? b = some o) : ZipLT h' z TI TO i1 i2 l t xs ys n :=
  ⟨k _ (.inl rfl) _ q.1, ⟨q.2.1.1.at fun o e => k _ (.inr (.inl rfl)) o e, q.2.1.2.at fun o e => k _ (.inr (.inr (.inr (.inl rfl)))) o e⟩, ⟨q.2.2.1.at fun o e => k _ (.inr (.inr (.inl rfl))) o e, q.2.2.2.at fun o e => k _ (.inr (.inr (.inr (.inr rfl)))) o e⟩⟩
theorem pairs_LT (z TI TO i1 i2 l t : Addr) (S : ZipSep2 z TI TO i1 i2 [i1, l] [i2, t]) (hl : l ≠ i1) (ht : t ≠ i2) (xs ys : Array Value) :
    PairArg prog w "zip" z [z, TI, TO, i1, i2, l, t] [z, TO, i1, i2] (min xs.size ys.size) (fun i k v => xs[i]? = some k ∧ ys[i]? = some v)
      (fun h => IsZip h z TI TO .none ∧ (∃ a b, IsTupOf2 h TO a b) ∧ ZipLT h z TI TO i1 i2 l t xs ys 0) where
  type := fun s ok => ⟨_, ok.1, rfl⟩
  notDict := by decide
  keep := fun h h' ok k => by
    obtain ⟨a1, ⟨a, b, a2⟩, a3⟩ := ok
    exact ⟨k _ _ a1, ⟨a, b, k _ _ a2⟩, a3.keep fun b _ o e => k b o e⟩
  there := fun h ok b hb => by
    obtain ⟨a1, ⟨a, c, a2⟩, a3, ⟨⟨o1, e1, _⟩, ⟨o2, e2, _⟩⟩, ⟨⟨o3, e3, _⟩, ⟨o4, e4, _⟩⟩⟩ := ok
    have either : b = z ∨ b = TI ∨ b = TO ∨ b = i1 ∨ b = i2 ∨ b = l ∨ b = t := by simpa using hb
    rcases either with q | q | q | q | q | q | q <;> subst q
    · exact ⟨_, a1⟩
    · exact ⟨_, a3⟩
    · exact ⟨_, a2⟩
    · exact ⟨_, e1⟩
    · exact ⟨_, e3⟩
    · exact ⟨_, e2⟩
    · exact ⟨_, e4⟩
  sub := fun b hb => by
    have either : b = z ∨ b = TO ∨ b = i1 ∨ b = i2 := by simpa using hb
    rcases either with q | q | q | q <;> subst q <;> simp
  noKeys := fun A s Q E hA ok now => getAttrOr_miss_zip ok.1 rfl rfl rfl zip_no_keys (by decide +kernel) hA now
  iter := fun A s d Q E hA ok dlt dfar now => by
    obtain ⟨a1, ⟨a, b, a2⟩, a3⟩ := ok
    have far : d ≠ z ∧ d ≠ TI ∧ d ≠ TO ∧ d ≠ i1 ∧ d ≠ i2 ∧ d ≠ l ∧ d ≠ t := by simpa using dfar
    obtain ⟨d1, d2, d3, d4, d5, d6, d7⟩ := far
    have D1 := Draws.list (prog := prog) (w := w) (A := A.in1) hA i1 l hl xs
    have D2 := Draws.tuple (prog := prog) (w := w) (A := A.in1) hA i2 t ht ys
    refine wpAny_pyIter_zip a1 (now z [z, TO, i1, i2] (fun n h => ZipLT h z TI TO i1 i2 l t xs ys n ∧ ((IsZip h z TI TO .none ∧ ∃ a b, IsTupOf2 h TO a b) ∨ ∃ T f oT, IsZipHeld h z TI TO T f ∧ h.get? T = some oT ∧ T ≠ z ∧ T ≠ i1 ∧ T ≠ i2 ∧ T ≠ d)) s.heap s.toks ?_ ⟨a3, .inl ⟨a1, a, b, a2⟩⟩ (fun _ _ e => e) fun b hb => .inl hb)
    refine ⟨fun hm => ?_, fun n h h' q k => ?_, fun n s1 Q1 E1 hn q dl now1 => ?_, fun s1 Q1 E1 q now1 => ?_⟩
    · have either : d = z ∨ d = TO ∨ d = i1 ∨ d = i2 := by simpa using hm
      rcases either with q | q | q | q
      · exact d1 q
      · exact d3 q
      · exact d4 q
      · exact d5 q
    · refine ⟨q.1.keep fun b hb o e => k b o (fun y => ?_) e, ?_⟩
      · rcases hb with q | q | q | q | q <;> rw [q] at y
        · exact d2 y.symm
        · exact d4 y.symm
        · exact d5 y.symm
        · exact d6 y.symm
        · exact d7 y.symm
      · rcases q.2 with ⟨q1, a, b, q2⟩ | ⟨T, f, oT, q1, q2, r1, r2, r3, r4⟩
        · exact .inl ⟨k _ _ (Ne.symm d1) q1, a, b, k _ _ (Ne.symm d3) q2⟩
        · exact .inr ⟨T, f, oT, k _ _ (Ne.symm d1) q1, k _ _ r4 q2, r1, r2, r3, r4⟩
    · obtain ⟨⟨both, at1, at2⟩, q⟩ := q
      have m1 : n < xs.size := Nat.lt_of_lt_of_le hn (Nat.min_le_left ..)
      have m2 : n < ys.size := Nat.lt_of_lt_of_le hn (Nat.min_le_right ..)
      have lt : ∀ {c o}, s1.heap.get? c = some o → s1.heap.objs.size ≠ c := fun e => Nat.ne_of_gt (Heap.lt_size e)
      have j1 : s1.heap.objs.size ≠ i1 := let ⟨_, e⟩ := D1.live _ _ at1; lt e
      have j2 : s1.heap.objs.size ≠ i2 := let ⟨_, e⟩ := D2.live _ _ at2; lt e
      rcases q with ⟨q1, a, b, q2⟩ | ⟨T, f, oT, q1, q2, r1, r2, r3, r4⟩
      · refine wpAny_pyNext_zipD2_item S D1 D2 q1 both q2 at1 at2 m1 m2 fun x y h' tk px py b1 b2 b3 b4 b5 b6 k => ?_
        exact now1 s1.heap.objs.size x y h' tk ⟨px, py⟩ (.inl ⟨_, b5, rfl, _, rfl⟩) ⟨⟨k _ _ S.TIz S.TITO S.TIi1 S.TIi2 both, b3, b4⟩, .inr ⟨_, false, _, b1, b5, lt q1, j1, j2, Nat.ne_of_gt dl⟩⟩
          fun c o hc e => k c o (fun y => hc (by simp [y])) (fun y => hc (by simp [y])) (fun y => hc (by simp [y])) (fun y => hc (by simp [y])) e
      · refine out_pyNext S D1 D2 q1 q2 both at1 at2 m1 m2 fun x y h' tk px py b1 b3 b4 b5 k => ?_
        exact now1 s1.heap.objs.size x y h' tk ⟨px, py⟩ (.inl ⟨_, b5, rfl, _, rfl⟩) ⟨⟨k _ _ S.TIz S.TIi1 S.TIi2 both, b3, b4⟩, .inr ⟨T, true, oT, b1, k _ _ r1 r2 r3 q2, r1, r2, r3, r4⟩⟩
          fun c o hc e => k c o (fun y => hc (by simp [y])) (fun y => hc (by simp [y])) (fun y => hc (by simp [y])) e
    · obtain ⟨⟨both, at1, at2⟩, q⟩ := q
      rcases q with ⟨q1, a, b, q2⟩ | ⟨T, f, oT, q1, q2, r1, r2, r3, r4⟩
      · exact wpAny_pyNext_zipD2_end S D1 D2 q1 both q2 at1 at2 (Nat.min_le_left ..) (Nat.min_le_right ..) (by omega) fun h' tk k => now1 h' tk fun c o hc e => k c o (fun y => hc (by simp [y])) (fun y => hc (by simp [y])) (fun y => hc (by simp [y])) (fun y => hc (by simp [y])) e
      · exact out_pyNext_end S D1 D2 q1 q2 both at1 at2 (Nat.min_le_left ..) (Nat.min_le_right ..) (by omega) fun h' tk k => now1 h' tk fun c o hc e => k c o (fun y => hc (by simp [y])) (fun y => hc (by simp [y])) (fun y => hc (by simp [y])) e
end
/-- dict(zip(e1, e2)): keys from a list, values from a tuple -/
def eDictZip (K : PySem.W.Frag) (ta : TA) : TE := fun σ H Q => ta σ H fun vs H1 => ∃ (a b : Addr) (ks : List Key) (xs : List V), vs = [.ref a, .ref b] ∧ SqL K H1 a (ks.map kV) ∧ SqT K H1 b xs ∧ ∀ p, H1 p = none → Q (.ref p) (upd H1 p (.dK (mergeK [] (ks.zip xs))))
theorem pe_dictZip (K : PySem.W.Frag) {X : Cx} (hk : X.K = K) (hcalm : X.calm = true) {e e2 : Expr} {ta : TA} {p p2 pos pos2 : Pos} (hd : Gl X "dict") (md : X.mg "dict" = none) (hg : Gl X "zip") (hm : X.mg "zip" = none) (ha : PA X [e, e2] ta)
    (hs : starEach [e, e2] X.env = (false, eval e X.env) :: starEach [e2] X.env := by rfl) (hpl : (backTo pos2 (starEach [e2] X.env)).any (·.1) = false := by rfl)
    (hs1 : starEach [.Call (.Name "zip" p2) [e, e2] [] pos2] X.env = [(false, eval (.Call (.Name "zip" p2) [e, e2] [] pos2) X.env)] := by rfl) :
    PE X (.Call (.Name "dict" p) [.Call (.Name "zip" p2) [e, e2] [] pos2] [] pos) (eDictZip K ta) := by
  subst hk
  refine ⟨fun pins st σ H Q J asked => ?_⟩
  refine Call_ (ld_blt J hd md boot_dict (PyProof.Rows.callWith_type1 (args_cons (Call_ (ld_blt J hg hm boot_zip (PyProof.Rows.callWith_type1 (thn (ha.run pos2 pins st σ H _ J asked) fun us st1 ⟨vs, H1, J1, rel, now⟩ => ?_) hs hpl))) hs1) hs1 rfl))
  obtain ⟨a, b, ks, xs, ex, hq1, hq2, now⟩ := now
  subst ex
  cases rel with
  | cons r1 rel =>
  cases rel with
  | cons r2 rel =>
  cases rel
  cases r1
  cases r2
  obtain ⟨its, rv, p1, z1⟩ := J1.list hq1
  obtain ⟨its2, rv2, p2, z2⟩ := J1.tuple hq2
  have al : a < st1.heap.objs.size := p1.lt
  have bl : b < st1.heap.objs.size := by obtain ⟨o, ho, _⟩ := p2; exact Heap.lt_size ho
  have B1 := begins_list a its.toArray
  have B2 := begins_tuple b its2.toArray
  refine zip_begins2 B1 B2 p1.isList p2 fun h' c1 c2 c3 c4 c5 size kp => args_nil ?_
  have S := zip_sep2 (N := st1.heap.objs.size) (fp1 := [a]) (fp2 := [b]) (by simpa using al) (by simpa using bl)
  have P := pairs_LT (prog := X.prog) (w := X.w) _ _ _ _ _ a b S (Nat.ne_of_lt al) (Nat.ne_of_lt (Nat.lt_succ_of_lt bl)) its.toArray its2.toArray
  have n1 := rv.length
  have n2 := rv2.length
  rw [List.length_map] at n1 z1
  have all : ∀ (ks : List Key) (xs : List V) (us vs : List Value), Vals (ks.map kV) us → Vals xs vs → ∃ rs : List (Key × Value), KV (ks.zip xs) rs ∧ rs.length = min us.length vs.length ∧ ∀ (i : Nat) (k v : Value), us[i]? = some k → vs[i]? = some v → ∃ q, rs[i]? = some (q, v) ∧ (mixKind X.prog X.w).is q k = true := by
    intro ks
    induction ks with
    | nil => intro xs us vs r1 r2; cases r1; exact ⟨[], .nil, by simp, fun i k v e => nomatch e⟩
    | cons k ks ih =>
      intro xs us vs r1 r2
      cases r1 with
      | cons h1 t1 =>
      cases r2 with
      | nil => exact ⟨[], .nil, by simp, fun i k v _ e => nomatch e⟩
      | cons h2 t2 =>
        obtain ⟨rs, e1, e2, e3⟩ := ih _ _ _ t1 t2
        refine ⟨(k, _) :: rs, .cons ⟨rfl, h2⟩ e1, by simp only [List.length_cons, e2]; omega, fun i q v e f => ?_⟩
        cases i with
        | zero => cases e; cases f; exact ⟨k, rfl, kV_is h1⟩
        | succ i => exact e3 i q v e f
  obtain ⟨rs, e1, e2, e3⟩ := all ks xs its its2 rv rv2
  have PH : PairsHave (mixKind X.prog X.w) (min its.toArray.size its2.toArray.size) (fun i k v => its.toArray[i]? = some k ∧ its2.toArray[i]? = some v) rs :=
    ⟨by simpa using e2, fun i k v q => e3 i k v (by simpa using q.1) (by simpa using q.2)⟩
  refine _root_.PySem.call_dict_pairs (s := { st1 with heap := h' }) P (J1.ok.hd hcalm) ⟨c1, ⟨_, _, c3⟩, c2, ⟨⟨_, c4, rfl, rfl⟩, B1.keeps _ _ p1.isList kp⟩, ⟨⟨_, c5, rfl, rfl⟩, B2.keeps _ _ p2 kp⟩⟩ PH (by have := n1; have := n2; simp only [List.size_toArray]; omega) fun h2 tk isd kp2 => ?_
  replace isd : h2.DictOf (mixKind X.prog X.w) h'.objs.size (merged [] rs) := isd
  have low : st1.heap.objs.size ≤ h'.objs.size := by rw [size]; exact Nat.le_add_right _ _
  have big : sysModules < h'.objs.size := Nat.lt_of_lt_of_le J1.big low
  have ne : (h'.objs.size == sysModules) = false := beq_eq_false_iff_ne.mpr (Nat.ne_of_gt big)
  have few : (mergeK [] (ks.zip xs)).length ≤ sizeLine := by
    refine Nat.le_trans (length_mergeK _ []) ?_
    rw [List.length_nil, Nat.zero_add, List.length_zip]
    omega
  refine ⟨.ref h'.objs.size, upd H1 h'.objs.size (.dK (mergeK [] (ks.zip xs))), J1.laid (t' := tk) (fun c o q => kp2 c o (fun hm => ?_) (kp c o q)) low (show ObjOk X.prog X.w _ _ _ (.dK (mergeK [] (ks.zip xs))) from ⟨few, ne, merged [] rs, KV.merge e1 .nil, isd⟩), rfl, now _ (J1.hok.fresh low)⟩
  have cl := Heap.lt_size q
  have either : c = st1.heap.objs.size + 4 ∨ c = st1.heap.objs.size + 3 ∨ c = st1.heap.objs.size ∨ c = st1.heap.objs.size + 1 := by simpa using hm
  rcases either with y | y | y | y <;> rw [y] at cl
  · exact absurd cl (Nat.not_lt.mpr (Nat.le_add_right _ _))
  · exact absurd cl (Nat.not_lt.mpr (Nat.le_add_right _ _))
  · exact absurd cl (Nat.lt_irrefl _)
  · exact absurd cl (Nat.not_lt.mpr (Nat.le_add_right _ _))
theorem one_at {K : PySem.W.Frag} {a : Addr} {od : Option Addr} {z : Str} {t1 : Tok} {n : Nat} {sl : Array (Option Value)} (l : K.lookup a = some ⟨.type "tuple", od, .seq #[.str z t1] n, sl⟩) (H : Hp) : SqT K H a [.str z] :=
  .inr ⟨_, _, _, l, rfl, rfl, (show 1 ≤ sizeLine by decide), .cons ⟨_, rfl⟩ .nil⟩
section
variable {P : Program} {w : World} {K : PySem.W.Frag} {mg : Str → Option Value} {base : Heap}
def sp_law_flow (K : PySem.W.Frag) : Sp := fun vs H Q _ => ∃ (a : Addr) (ns : List Int), vs = [.ref a] ∧ SqL K H a (ns.map V.int) ∧ ∀ (f c : Addr) (H' : Hp), H f = none → H c = none → Flow H' f c → Same H H' → Q (.ref f) H'
theorem ok_law_flow {f : Addr} {fd : FuncData} (F : Fun K "_law_flow" "_law_flow" s_law_flow f fd) (T : Top K mg) : FnOk P w K mg base CX0 1 f fd ["_law_script"] (sp_law_flow K) := by
  refine F.ok sc_law_flow (fun vs H Q E h => ?_) (fun cdv A outer s H vs Q E hr h => ?_)
  · obtain ⟨a, ns, rfl, _⟩ := h
    rfl
  obtain ⟨a, ns, rfl, hS, q⟩ := h
  refine ⟨_, (pss_one (ps_ret (pe_lst (pa_cons (pe_callTy (call_list_ofK K rfl) (by rfl) T.m_list (by decide +kernel) (pa_cons (pv 0) pa_nil)) (pa_cons pe_int (pa_cons pe_int (pa_cons pe_int (pa_cons pe_int pa_nil)))))))), ?_⟩
  refine ⟨_, rfl, a, _, rfl, .inl hS, fun c hc => ?_⟩
  refine ⟨(by show 5 ≤ sizeLine; decide), fun f hf => ?_⟩
  have nf : H f = none := by
    cases e : H f with
    | none => rfl
    | some o => rw [same_new hc _ _ e] at hf; cases hf
  have s1 := same_new (o := .lst (ns.map V.int)) hc
  refine q f c _ nf hc ⟨ns, 0, 0, 1, 0, upd_same, same_new hf _ _ upd_same, by decide, by decide, by decide, by decide⟩ fun b o e => same_new hf _ _ (s1 _ _ e)
def sp_law_pick (K : PySem.W.Frag) : Sp := fun vs H Q _ => ∃ (f c : Addr) (m : Int), vs = [.ref f, .int m] ∧ 0 < m ∧ m.natAbs.log2 < 9000 ∧ Flow H f c ∧
  ∀ (v : Int) (H' : Hp), 0 ≤ v → v < m → Flow H' f c → But f H H' → Q (.int v) H'
theorem ok_law_pick {f : Addr} {fd : FuncData} (F : Fun K "_law_pick" "_law_pick" s_law_pick f fd) (T : Top K mg) : FnOk P w K mg base CX0 1 f fd ["_law_flow_here", "_law_many"] (sp_law_pick K) := by
  refine F.ok sc_law_pick (fun vs H Q E h => ?_) (fun cdv A outer s H vs Q E hr h => ?_)
  · obtain ⟨f, c, m, rfl, _⟩ := h
    rfl
  obtain ⟨f, c, m, rfl, m0, m9, hF, q⟩ := h
  obtain ⟨ns, i, p, z, r, hf, hc, hi, hp, hz, hz2⟩ := hF
  have ncf : c ≠ f := ne_of hc hf (by intro e; injection e with e; cases ns with | nil => cases e | cons x l => cases e)
  let R1 : TS := fun D' σ' H' => D'.rt = Q ∧ ∃ x2 : Option V, σ' = [some (.ref f), some (.int m), x2, none] ∧ (∃ (i p z r : Int), H' f = some (.lst [.ref c, .int i, .int p, .int z, .int r]) ∧ H' c = some (.lst (ns.map V.int)) ∧ 0 ≤ i ∧ 0 ≤ p ∧ 0 ≤ z ∧ z < 2147483647) ∧ But f H H'
  refine ⟨_, (pss_cons (ps_if (PW.pt (pw_and (pt_cmpR op_eq (pe_ix (ix_listK K rfl) (pv 0) pe_int (fun _ _ => rfl)) pe_int (nomark _)) (pw_and1 (pt_cmpR op_lt (pe_ix (ix_listK K rfl) (pv 0) pe_int (fun _ _ => rfl)) (pe_callB (call_len_seqK K rfl) (by rfl) T.m_len (by decide +kernel) (pa_cons (pe_ix (ix_listK K rfl) (pv 0) pe_int (fun _ _ => rfl)) pa_nil)) (nomark _))))) (pss_cons (ps_set (i := 2) sc_law_pick.nd rfl (Or.inl rfl) (pe_ix (ix_listK K rfl) (pe_ix (ix_listK K rfl) (pv 0) pe_int (fun _ _ => rfl)) (pe_ix (ix_listK K rfl) (pv 0) pe_int (fun _ _ => rfl)) (fun _ _ => rfl)))
      (pss_cons (ps_asg (pe_op op_add (pe_ix (ix_listK K rfl) (pv 0) pe_int (fun _ _ => rfl)) pe_int) (pg_sub (pv 0) pe_int set_list))
      (pss_one (ps_if (pt_cmpR op_ge (pv 2) (pe_op op_pow pe_int pe_int) (nomark _)) (pss_one (ps_asg (pv 2) (pg_sub (pv 0) pe_int set_list))) (pss_one (ps_asg (pe_op op_mod (pe_op op_add (pe_op op_add (pe_op op_mul (pe_ix (ix_listK K rfl) (pv 0) pe_int (fun _ _ => rfl)) pe_int) (pe_op op_mod (pv 2) pe_int)) pe_int) pe_int) (pg_sub (pv 0) pe_int set_list))))))) pss_nil)
      (PSs.to (pss_cons (ps_if (pt_cmpR op_gt (pe_ix (ix_listK K rfl) (pv 0) pe_int (fun _ _ => rfl)) pe_int (nomark _)) (pss_cons (ps_set (i := 3) sc_law_pick.nd rfl (Or.inl rfl) (pe_op op_mod (pe_ix (ix_listK K rfl) (pv 0) pe_int (fun _ _ => rfl)) (pv 1)))
      (pss_cons (ps_asg (pe_op op_fdivW (pe_ix (ix_listK K rfl) (pv 0) pe_int (fun _ _ => rfl)) (pv 1)) (pg_sub (pv 0) pe_int set_list))
      (pss_one (ps_ret (pv 3))))) pss_nil)
      (pss_cons (ps_asg (pe_op op_add (pe_ix (ix_listK K rfl) (pv 0) pe_int (fun _ _ => rfl)) pe_int) (pg_sub (pv 0) pe_int set_list))
      (pss_cons (ps_asg (pe_op op_mod (pe_op op_add (pe_op op_add (pe_op op_mul (pe_ix (ix_listK K rfl) (pv 0) pe_int (fun _ _ => rfl)) pe_int) pe_int) (pe_ix (ix_listK K rfl) (pv 0) pe_int (fun _ _ => rfl))) pe_int) (pg_sub (pv 0) pe_int set_list))
      (pss_one (ps_ret (pe_op op_mod (pe_op op_fdiv (pe_op op_mod (pe_op op_mul (pe_op op_add (pe_op op_mod (pe_ix (ix_listK K rfl) (pv 0) pe_int (fun _ _ => rfl)) pe_int) pe_int) (pe_op op_add (pe_op op_fdiv (pe_ix (ix_listK K rfl) (pv 0) pe_int (fun _ _ => rfl)) pe_int) pe_int)) pe_int) pe_int) (pv 1))))))) R1 ?tail1)), ?_⟩
  case tail1 =>
    rintro D' σ' H1 ⟨eD, x2, rfl, ⟨i, p, z, r, hf, hc, hi, hp, hz, hz2⟩, bt⟩
    refine ⟨_, rfl, f, _, _, _, rfl, rfl, SqL.of hf, atI_nat (j := 2) rfl, _, _, rfl, rfl, _, rfl, if_bl (fun c1 => ?_) (fun c1 => ?_)⟩
    · refine ⟨_, rfl, f, _, _, _, rfl, rfl, SqL.of hf, atI_nat (j := 2) rfl, _, rfl, _, _, rfl, rfl, m0, ?_⟩
      refine ⟨_, rfl, f, _, _, _, rfl, rfl, SqL.of hf, atI_nat (j := 2) rfl, _, rfl, _, _, rfl, rfl, ⟨m0, m9⟩, _, rfl, f, _, _, 2, rfl, rfl, hf, rfl, ?_⟩
      refine ⟨_, rfl, ?_⟩
      rw [eD]
      exact q _ _ (Int.emod_nonneg _ (by omega)) (Int.emod_lt_of_pos _ m0) ⟨ns, i, p / m, z, r, upd_same, (by rw [upd_ne ncf]; exact hc), hi, Int.ediv_nonneg hp (by omega), hz, hz2⟩ bt.upd
    · refine ⟨_, rfl, f, _, _, _, rfl, rfl, SqL.of hf, atI_nat (j := 4) rfl, _, _, rfl, rfl, _, rfl, f, _, _, 4, rfl, rfl, hf, rfl, ?_⟩
      have hf2 : upd H1 f (.lst ([V.ref c, V.int i, V.int p, V.int z, V.int r].set 4 (V.int (r + 1)))) f = some (.lst [.ref c, .int i, .int p, .int z, .int (r + 1)]) := upd_same
      refine ⟨_, rfl, f, _, _, _, rfl, rfl, SqL.of hf2, atI_nat (j := 3) rfl, _, _, rfl, rfl, .inl ⟨by omega, by omega⟩, _, _, rfl, rfl, _, rfl, f, _, _, _, rfl, rfl, SqL.of hf2, atI_nat (j := 4) rfl, _, _, rfl, rfl, _, _, rfl, rfl, (by show (0 : Int) < 2147483647; decide), _, rfl, f, _, _, 3, rfl, rfl, hf2, rfl, ?_⟩
      have z0 : 0 ≤ (z * 48271 + 12820163 + (r + 1)) % 2147483647 := Int.emod_nonneg _ (by decide)
      have z1 : (z * 48271 + 12820163 + (r + 1)) % 2147483647 < 2147483647 := Int.emod_lt_of_pos _ (by decide)
      have hf3 : upd (upd H1 f (.lst ([V.ref c, V.int i, V.int p, V.int z, V.int r].set 4 (V.int (r + 1))))) f (.lst ([V.ref c, V.int i, V.int p, V.int z, V.int (r + 1)].set 3 (V.int ((z * 48271 + 12820163 + (r + 1)) % 2147483647)))) f =
        some (.lst [.ref c, .int i, .int p, .int ((z * 48271 + 12820163 + (r + 1)) % 2147483647), .int (r + 1)]) := upd_same
      have hc3 : upd (upd H1 f (.lst ([V.ref c, V.int i, V.int p, V.int z, V.int r].set 4 (V.int (r + 1))))) f (.lst ([V.ref c, V.int i, V.int p, V.int z, V.int (r + 1)].set 3 (V.int ((z * 48271 + 12820163 + (r + 1)) % 2147483647)))) c = some (.lst (ns.map V.int)) := by
        rw [upd_ne ncf, upd_ne ncf]
        exact hc
      refine ⟨_, rfl, f, _, _, _, rfl, rfl, SqL.of hf3, atI_nat (j := 3) rfl, _, _, rfl, rfl, (by show (0 : Int) < 65521; decide), _, _, rfl, rfl, _, rfl, f, _, _, _, rfl, rfl, SqL.of hf3, atI_nat (j := 3) rfl, _, _, rfl, rfl, ⟨by decide, by decide⟩, _, _, rfl, rfl, _, _, rfl, rfl, .inl ⟨?_, ?_⟩, _, _, rfl, rfl, (by show (0 : Int) < 1000003; decide), _, _, rfl, rfl, ⟨by decide, by decide⟩, _, rfl, _, _, rfl, rfl, m0, ?_⟩
      · omega
      · omega
      · rw [eD]
        exact q _ _ (Int.emod_nonneg _ (by omega)) (Int.emod_lt_of_pos _ m0) ⟨ns, i, p, _, r + 1, hf3, hc3, hi, hp, z0, z1⟩ bt.upd.upd
  refine ⟨_, rfl, f, _, _, _, rfl, rfl, SqL.of hf, atI_nat (j := 2) rfl, rfl, _, rfl, if_bl (fun c1 => ?_) (fun c1 => ?_)⟩
  · refine ⟨_, rfl, f, _, _, _, rfl, rfl, SqL.of hf, atI_nat (j := 1) rfl, _, rfl, f, _, _, _, rfl, rfl, SqL.of hf, atI_nat (j := 0) rfl, c, _, rfl, .inl (SqL.of hc), _, _, rfl, rfl, _, rfl, if_bl (fun c2 => ?_) (fun c2 => ?_)⟩
    · have c3 : i < ((ns.map V.int).length : Int) := of_decide_eq_true c2
      rw [List.length_map] at c3
      obtain ⟨v, hv⟩ := at_ints hi c3
      refine ⟨_, rfl, f, _, _, _, rfl, rfl, SqL.of hf, atI_nat (j := 0) rfl, _, rfl, f, _, _, _, rfl, rfl, SqL.of hf, atI_nat (j := 1) rfl, c, _, i, _, rfl, rfl, SqL.of hc, hv, ?_⟩
      refine ⟨_, rfl, f, _, _, _, rfl, rfl, SqL.of hf, atI_nat (j := 1) rfl, _, _, rfl, rfl, _, rfl, f, _, _, 1, rfl, rfl, hf, rfl, ?_⟩
      have hf2 : upd H f (.lst ([V.ref c, V.int i, V.int p, V.int z, V.int r].set 1 (V.int (i + 1)))) f = some (.lst [.ref c, .int (i + 1), .int p, .int z, .int r]) := upd_same
      refine ⟨_, rfl, _, _, rfl, rfl, ⟨by decide, by decide, by decide⟩, _, _, rfl, rfl, _, rfl, if_bl (fun c4 => ?_) (fun c4 => ?_)⟩
      · have c5 : (10 : Int) ^ (18 : Int).toNat ≤ v := of_decide_eq_true c4
        have c6 : (0 : Int) ≤ (10 : Int) ^ (18 : Int).toNat := by decide
        refine ⟨_, rfl, _, rfl, f, _, _, 2, rfl, rfl, hf2, rfl, rfl, _, rfl, ⟨i + 1, v, z, r, upd_same, ?_, by omega, by omega, hz, hz2⟩, But.refl.upd.upd⟩
        rw [upd_ne ncf, upd_ne ncf]
        exact hc
      · refine ⟨_, rfl, f, _, _, _, rfl, rfl, SqL.of hf2, atI_nat (j := 3) rfl, _, _, rfl, rfl, .inl ⟨by omega, by omega⟩, _, rfl, _, _, rfl, rfl, (by show (0 : Int) < 1000003; decide), _, _, rfl, rfl, _, _, rfl, rfl, _, _, rfl, rfl, (by show (0 : Int) < 2147483647; decide), _, rfl, f, _, _, 3, rfl, rfl, hf2, rfl, rfl, _, rfl, ⟨i + 1, p, _, r, upd_same, ?_, by omega, hp, Int.emod_nonneg _ (by decide), Int.emod_lt_of_pos _ (by decide)⟩, But.refl.upd.upd⟩
        rw [upd_ne ncf, upd_ne ncf]
        exact hc
    · exact ⟨rfl, _, rfl, ⟨i, p, z, r, hf, hc, hi, hp, hz, hz2⟩, But.refl⟩
  · exact ⟨rfl, _, rfl, ⟨i, p, z, r, hf, hc, hi, hp, hz, hz2⟩, But.refl⟩
end
/-! ### rooms: what they are -/
/-- a hand: its rule's word, its number if it has one, its moments -/
structure HR where
  wd : Str
  no : Option Int
  mom : Int
/-- a belt -/
structure BR where
  one : Nat
  to : Nat
  th : List Int
abbrev ruleL (h : HR) : List V := .str h.wd :: (match h.no with | none => [] | some n => [.int n])
def HandAt (H : Hp) (v : V) (h : HR) : Prop := ∃ t r : Addr, v = .ref t ∧ H t = some (.tup [.ref r, .int h.mom]) ∧ H r = some (.tup (ruleL h))
def BeltAt (H : Hp) (v : V) (b : BR) : Prop := ∃ t g : Addr, v = .ref t ∧ H t = some (.tup [.int (b.one : Nat), .int (b.to : Nat), .ref g]) ∧ H g = some (.tup (b.th.map V.int))
theorem HandAt.keep {H H' : Hp} {v : V} {h : HR} (a : HandAt H v h) (k : TK H H') : HandAt H' v h := by
  obtain ⟨t, r, e, e1, e2⟩ := a
  exact ⟨t, r, e, k _ _ e1, k _ _ e2⟩
theorem BeltAt.keep {H H' : Hp} {v : V} {b : BR} (a : BeltAt H v b) (k : TK H H') : BeltAt H' v b := by
  obtain ⟨t, r, e, e1, e2⟩ := a
  exact ⟨t, r, e, k _ _ e1, k _ _ e2⟩
def nine : List Str := ["always", "same", "times", "sum", "gap", "below", "most", "least", "pick"]
def needs (wd : Str) : Int := if wd ∈ (["in", "always"] : List Str) then 0 else if wd ∈ (["out", "same", "times"] : List Str) then 1 else 2 + (if wd = "pick" then 1 else 0)
/-- a rule of one of the nine words -/
structure GoodRule (h : HR) : Prop where
  wd : h.wd ∈ nine
  no : h.no.isSome = true ↔ h.wd = "times" ∨ h.wd = "always"
  big : ∀ n, h.no = some n → -1000000 ≤ n ∧ n ≤ 1000000
def GoodHand (h : HR) : Prop := (GoodRule h ∨ ((h.wd = "in" ∨ h.wd = "out") ∧ h.no = none)) ∧ 0 ≤ h.mom ∧ h.mom ≤ 30
def Small (v : Int) : Prop := -1000000 ≤ v ∧ v ≤ 1000000
section
variable {P : Program} {w : World} {K : PySem.W.Frag} {mg : Str → Option Value} {base : Heap}
def sp_law_thing (K : PySem.W.Frag) : Sp := fun vs H Q _ => ∃ f c : Addr, vs = [.ref f] ∧ Flow H f c ∧ ∀ (v : Int) (H' : Hp), Small v → Flow H' f c → But f H H' → Q (.int v) H'
theorem ok_law_thing {f : Addr} {fd : FuncData} (F : Fun K "_law_thing" "_law_thing" s_law_thing f fd) (T : Top K mg) : FnOk P w K mg base CX0 2 f fd ["_law_flow_here"] (sp_law_thing K) := by
  obtain ⟨f_law_pick, fd_law_pick, F_law_pick, b_law_pick, m_law_pick⟩ := T.d_law_pick
  have G_law_pick := ok_law_pick (P := P) (w := w) (base := base) F_law_pick T
  refine F.ok sc_law_thing (fun vs H Q E h => ?_) (fun cdv A outer s H vs Q E hr h => ?_)
  · obtain ⟨f, c, rfl, _⟩ := h
    rfl
  obtain ⟨f, c, rfl, hF, q⟩ := h
  refine ⟨_, (pss_cons (ps_if (pt_cmpR op_gt (pe_call G_law_pick (hr.mono (by decide)) (by rfl) m_law_pick F_law_pick.kp b_law_pick .nil pass0 (pa_cons (pv 0) (pa_cons pe_int pa_nil))) pe_int (nomark _)) (pss_one (ps_ret (pe_op op_sub (pe_call G_law_pick (hr.mono (by decide)) (by rfl) m_law_pick F_law_pick.kp b_law_pick .nil pass0 (pa_cons (pv 0) (pa_cons pe_int pa_nil))) pe_int))) pss_nil)
      (pss_one (ps_ret (pe_op op_sub (pe_call G_law_pick (hr.mono (by decide)) (by rfl) m_law_pick F_law_pick.kp b_law_pick .nil pass0 (pa_cons (pv 0) (pa_cons pe_int pa_nil))) pe_int)))), ?_⟩
  refine ⟨_, rfl, f, c, 3, rfl, by decide, by decide +kernel, hF, fun v1 H1 a1 b1 F1 B1 => ⟨_, _, rfl, rfl, _, rfl, if_bl (fun _ => ?_) (fun _ => ?_)⟩⟩
  · exact ⟨_, rfl, f, c, 7, rfl, by decide, by decide +kernel, F1, fun v2 H2 a2 b2 F2 B2 => ⟨_, _, rfl, rfl, q _ _ ⟨by omega, by omega⟩ F2 (B1.trans B2)⟩⟩
  · exact ⟨_, rfl, f, c, 2000001, rfl, by decide, by decide +kernel, F1, fun v2 H2 a2 b2 F2 B2 => ⟨_, _, rfl, rfl, q _ _ ⟨by omega, by omega⟩ F2 (B1.trans B2)⟩⟩
def sp_law_needs (K : PySem.W.Frag) : Sp := fun vs H Q _ => ∃ (r : Addr) (wd : Str) (l : List V), vs = [.ref r] ∧ SqT K H r (.str wd :: l) ∧ ∀ H', Same H H' → Q (.int (needs wd)) H'
theorem ok_law_needs {f : Addr} {fd : FuncData} (F : Fun K "_law_needs" "_law_needs" s_law_needs f fd) (T : Top K mg) : FnOk P w K mg base CX0 1 f fd ["_law_rule_here"] (sp_law_needs K) := by
  refine F.ok sc_law_needs (fun vs H Q E h => ?_) (fun cdv A outer s H vs Q E hr h => ?_)
  · obtain ⟨r, wd, l, rfl, _⟩ := h
    rfl
  obtain ⟨r, wd, l, rfl, hR, q⟩ := h
  unfold needs at q
  refine ⟨_, (pss_cons (ps_if (pt_cmpR (op_in_seqK K rfl) (pe_ix (ix_tupK K rfl) (pv 0) pe_int (fun _ _ => rfl)) (pe_tup (pa_cons pe_str (pa_cons pe_str pa_nil))) (by with_unfolding_all rfl)) (pss_one (ps_ret pe_int)) pss_nil)
      (pss_cons (ps_if (pt_cmpR (op_in_seqK K rfl) (pe_ix (ix_tupK K rfl) (pv 0) pe_int (fun _ _ => rfl)) (pe_tup (pa_cons pe_str (pa_cons pe_str (pa_cons pe_str pa_nil)))) (by with_unfolding_all rfl)) (pss_one (ps_ret pe_int)) pss_nil)
      (pss_one (ps_ret (pe_op op_add pe_int (pe_callTy call_int1 (by rfl) T.m_int (by decide +kernel) (pa_cons (pe_cmpR op_eq (pe_ix (ix_tupK K rfl) (pv 0) pe_int (fun _ _ => rfl)) pe_str (nomark _)) pa_nil))))))), ?_⟩
  refine ⟨_, rfl, r, _, _, _, rfl, rfl, hR, atI_nat (j := 0) rfl, (by show 2 ≤ sizeLine; decide), fun p np => ⟨p, _, rfl, .inr (SqT.of upd_same), rfl, rfl, _, rfl, if_in (zs := ["in", "always"]) (fun e => ?_) (fun e => ?_)⟩⟩
  · have q := q _ (same_new (o := .tup [V.str "in", V.str "always"]) np)
    rw [if_pos e] at q
    exact q
  have s1 := same_new (o := .tup [V.str "in", V.str "always"]) np
  refine ⟨_, rfl, r, _, _, _, rfl, rfl, same_seqT s1 hR, atI_nat (j := 0) rfl, (by show 3 ≤ sizeLine; decide), fun p2 np2 => ⟨p2, _, rfl, .inr (SqT.of upd_same), rfl, rfl, _, rfl, if_in (zs := ["out", "same", "times"]) (fun e2 => ?_) (fun e2 => ?_)⟩⟩
  · have q := q _ (s1.trans (same_new (o := .tup [V.str "out", V.str "same", V.str "times"]) np2))
    rw [if_neg e, if_pos e2] at q
    exact q
  have s2 := s1.trans (same_new (o := .tup [V.str "out", V.str "same", V.str "times"]) np2)
  have q := q _ s2
  rw [if_neg e, if_neg e2] at q
  refine ⟨_, rfl, r, _, _, _, rfl, rfl, same_seqT s2 hR, atI_nat (j := 0) rfl, rfl, .inr ⟨_, rfl, _, _, rfl, rfl, ?_⟩⟩
  by_cases k : wd = "pick"
  · rw [if_pos k] at q
    rw [decide_eq_true (show V.str wd = V.str "pick" by rw [k])]
    exact q
  · rw [if_neg k] at q
    rw [decide_eq_false (show ¬ V.str wd = V.str "pick" from fun z => k (V.str.inj z))]
    exact q
theorem nine_at {m : Int} (h0 : 0 ≤ m) (h9 : m < 9) : ∃ wd : Str, wd ∈ nine ∧ atI (nine.map V.str) m = some (.str wd) ∧ (m < 1 → needs wd ≤ 0) ∧ (m < 3 → needs wd ≤ 1) ∧ (m < 8 → needs wd ≤ 2) ∧ needs wd ≤ 3 ∧ 0 ≤ needs wd := by
  have : m = 0 ∨ m = 1 ∨ m = 2 ∨ m = 3 ∨ m = 4 ∨ m = 5 ∨ m = 6 ∨ m = 7 ∨ m = 8 := by omega
  rcases this with rfl | rfl | rfl | rfl | rfl | rfl | rfl | rfl | rfl
  · exact ⟨"always", by decide +kernel, rfl, by decide +kernel, by decide +kernel, by decide +kernel, by decide +kernel, by decide +kernel⟩
  · exact ⟨"same", by decide +kernel, rfl, by decide +kernel, by decide +kernel, by decide +kernel, by decide +kernel, by decide +kernel⟩
  · exact ⟨"times", by decide +kernel, rfl, by decide +kernel, by decide +kernel, by decide +kernel, by decide +kernel, by decide +kernel⟩
  · exact ⟨"sum", by decide +kernel, rfl, by decide +kernel, by decide +kernel, by decide +kernel, by decide +kernel, by decide +kernel⟩
  · exact ⟨"gap", by decide +kernel, rfl, by decide +kernel, by decide +kernel, by decide +kernel, by decide +kernel, by decide +kernel⟩
  · exact ⟨"below", by decide +kernel, rfl, by decide +kernel, by decide +kernel, by decide +kernel, by decide +kernel, by decide +kernel⟩
  · exact ⟨"most", by decide +kernel, rfl, by decide +kernel, by decide +kernel, by decide +kernel, by decide +kernel, by decide +kernel⟩
  · exact ⟨"least", by decide +kernel, rfl, by decide +kernel, by decide +kernel, by decide +kernel, by decide +kernel, by decide +kernel⟩
  · exact ⟨"pick", by decide +kernel, rfl, by decide +kernel, by decide +kernel, by decide +kernel, by decide +kernel, by decide +kernel⟩
def sp_law_rule (K : PySem.W.Frag) : Sp := fun vs H Q _ => ∃ (f c : Addr) (m : Int), vs = [.ref f, .int m] ∧ 0 ≤ m ∧ Flow H f c ∧
  ∀ (r : Addr) (h : HR) (H' : Hp), H' r = some (.tup (ruleL h)) → GoodRule h → needs h.wd ≤ m → 0 ≤ needs h.wd → h.mom = 0 → Flow H' f c → But f H H' → Q (.ref r) H'
theorem ok_law_rule {f : Addr} {fd : FuncData} (F : Fun K "_law_rule" "_law_rule" s_law_rule f fd) (T : Top K mg) : FnOk P w K mg base CX0 3 f fd ["_law_flow_here", "_law_most"] (sp_law_rule K) := by
  obtain ⟨f_law_pick, fd_law_pick, F_law_pick, b_law_pick, m_law_pick⟩ := T.d_law_pick
  have G_law_pick := ok_law_pick (P := P) (w := w) (base := base) F_law_pick T
  obtain ⟨f_law_thing, fd_law_thing, F_law_thing, b_law_thing, m_law_thing⟩ := T.d_law_thing
  have G_law_thing := ok_law_thing (P := P) (w := w) (base := base) F_law_thing T
  refine F.ok sc_law_rule (fun vs H Q E h => ?_) (fun cdv A outer s H vs Q E hr h => ?_)
  · obtain ⟨f, c, m, rfl, _⟩ := h
    rfl
  obtain ⟨f, c, m, rfl, m0, hF, q⟩ := h
  refine ⟨_, (pss_cons (ps_set (i := 2) sc_law_rule.nd rfl (Or.inl rfl) (pe_lst (pa_cons pe_str (pa_cons pe_str (pa_cons pe_str (pa_cons pe_str (pa_cons pe_str (pa_cons pe_str (pa_cons pe_str (pa_cons pe_str (pa_cons pe_str pa_nil)))))))))))
      (pss_cons (ps_set (i := 3) sc_law_rule.nd rfl (Or.inl rfl) (pe_ix (ix_listK K rfl) (pv 2) (pe_call G_law_pick (hr.mono (by decide)) (by rfl) m_law_pick F_law_pick.kp b_law_pick .nil pass0 (pa_cons (pv 0) (pa_cons (pe_ix (ix_listK K rfl) (pe_lst (pa_cons pe_int (pa_cons pe_int (pa_cons pe_int (pa_cons pe_int pa_nil))))) (pe_callB (call_min2 rfl) (by rfl) T.m_min (by decide +kernel) (pa_cons pe_int (pa_cons (pv 1) pa_nil))) (fun _ _ => rfl)) pa_nil))) (fun _ _ => rfl)))
      (pss_cons (ps_if (pt_cmpR op_eq (pv 3) pe_str (nomark _)) (pss_one (ps_ret (pe_tup (pa_cons (pv 3) (pa_cons (pe_op op_sub (pe_call G_law_pick (hr.mono (by decide)) (by rfl) m_law_pick F_law_pick.kp b_law_pick .nil pass0 (pa_cons (pv 0) (pa_cons pe_int pa_nil))) pe_int) pa_nil))))) pss_nil)
      (pss_cons (ps_if (pt_cmpR op_eq (pv 3) pe_str (nomark _)) (pss_one (ps_ret (pe_tup (pa_cons (pv 3) (pa_cons (pe_call G_law_thing (hr.mono (by decide)) (by rfl) m_law_thing F_law_thing.kp b_law_thing .nil pass0 (pa_cons (pv 0) pa_nil)) pa_nil))))) pss_nil)
      (pss_one (ps_ret (pe_tup (pa_cons (pv 3) pa_nil)))))))), ?_⟩
  refine ⟨(by show 9 ≤ sizeLine; decide), fun wl nwl => ?_⟩
  have F1 : Flow (upd H wl (.lst (nine.map V.str))) f c := hF.new nwl
  refine ⟨_, rfl, _, rfl, (by show 4 ≤ sizeLine; decide), fun cl ncl => ?_⟩
  have F2 : Flow (upd (upd H wl (.lst (nine.map V.str))) cl (.lst [V.int 1, V.int 3, V.int 8, V.int 9])) f c := F1.new ncl
  have B2 : But f H (upd (upd H wl (.lst (nine.map V.str))) cl (.lst [V.int 1, V.int 3, V.int 8, V.int 9])) := (But.refl.new nwl).new ncl
  obtain ⟨j, hj, j1, j9, jn⟩ : ∃ j : Int, atI [V.int 1, V.int 3, V.int 8, V.int 9] (if m < 3 then m else 3) = some (.int j) ∧ 1 ≤ j ∧ j ≤ 9 ∧ ((j = 1 ∧ m = 0) ∨ (j = 3 ∧ m = 1) ∨ (j = 8 ∧ m = 2) ∨ (j = 9 ∧ 3 ≤ m)) := by
    by_cases k : m < 3
    · rw [if_pos k]
      have : m = 0 ∨ m = 1 ∨ m = 2 := by omega
      rcases this with rfl | rfl | rfl
      · exact ⟨1, rfl, by decide, by decide, by decide⟩
      · exact ⟨3, rfl, by decide, by decide, by decide⟩
      · exact ⟨8, rfl, by decide, by decide, by decide⟩
    · rw [if_neg k]
      exact ⟨9, rfl, by decide, by decide, by omega⟩
  refine ⟨_, rfl, _, _, rfl, cl, _, _, _, rfl, rfl, SqL.of upd_same, hj, f, c, j, rfl, by omega, ?_, F2, fun v H1 v0 v1 F3 B3 => ?_⟩
  · have : j = 1 ∨ j = 3 ∨ j = 8 ∨ j = 9 := by omega
    rcases this with rfl | rfl | rfl | rfl <;> decide +kernel
  obtain ⟨wd, hw, hat, n1, n3, n8, n9, n0⟩ := nine_at v0 (by omega)
  have hn : needs wd ≤ m := by
    rcases jn with ⟨rfl, rfl⟩ | ⟨rfl, rfl⟩ | ⟨rfl, rfl⟩ | ⟨rfl, k⟩
    · exact n1 v1
    · exact n3 v1
    · exact n8 v1
    · omega
  have hwl : H1 wl = some (.lst (nine.map V.str)) := B3 _ _ (same_new ncl _ _ upd_same) (hF.ne nwl)
  refine ⟨wl, _, _, _, rfl, rfl, SqL.of hwl, hat, ?_⟩
  have BB := B2.trans B3
  refine ⟨_, rfl, rfl, _, rfl, if_str (fun e => ?_) (fun e => ?_)⟩
  · refine ⟨_, rfl, _, rfl, f, c, 19, rfl, by decide, by decide +kernel, F3, fun v2 H2 a2 b2 F4 B4 => ⟨_, _, rfl, rfl, (by show 2 ≤ sizeLine; decide), fun r nr => ?_⟩⟩
    exact q r ⟨wd, some (v2 - 9), 0⟩ _ upd_same ⟨hw, ⟨fun _ => .inl e, fun _ => rfl⟩, fun n en => by cases en; exact ⟨by omega, by omega⟩⟩ hn n0 rfl (F4.new nr) ((BB.trans B4).new nr)
  refine ⟨_, rfl, rfl, _, rfl, if_str (fun e2 => ?_) (fun e2 => ?_)⟩
  · refine ⟨_, rfl, _, rfl, f, c, rfl, F3, fun v2 H2 s2 F4 B4 => ⟨(by show 2 ≤ sizeLine; decide), fun r nr => ?_⟩⟩
    exact q r ⟨wd, some v2, 0⟩ _ upd_same ⟨hw, ⟨fun _ => .inr e2, fun _ => rfl⟩, fun n en => by cases en; exact s2⟩ hn n0 rfl (F4.new nr) ((BB.trans B4).new nr)
  · refine ⟨_, rfl, (by show 1 ≤ sizeLine; decide), fun r nr => ?_⟩
    exact q r ⟨wd, none, 0⟩ _ upd_same ⟨hw, ⟨(fun z => nomatch z), fun z => absurd z (fun z => z.elim e e2)⟩, (fun n en => nomatch en)⟩ hn n0 rfl (F3.new nr) (BB.new nr)
def sp_law_shuffled (K : PySem.W.Frag) : Sp := fun vs H Q _ => ∃ (f c l : Addr) (xs : List V), vs = [.ref f, .ref l] ∧ SqL K H l xs ∧ l ≠ f ∧ xs.length ≤ 500 ∧ Flow H f c ∧
  ∀ (p : Addr) (ys : List V) (H' : Hp), ys.Perm xs → H p = none → H' p = some (.lst ys) → Flow H' f c → But f H H' → Q (.ref p) H'
theorem But.seqL {K : PySem.W.Frag} {f a : Addr} {H H1 : Hp} {xs : List V} (b : But f H H1) (h : SqL K H a xs) (n : a ≠ f) : SqL K H1 a xs := by
  rcases h with h | h
  · left
    rcases h with h | ⟨o, h⟩
    · exact .inl (b _ _ h n)
    · exact .inr ⟨o, b _ _ h n⟩
  · exact .inr h
theorem same_seqL {K : PySem.W.Frag} {a : Addr} {H H1 : Hp} {xs : List V} (b : Same H H1) (h : SqL K H a xs) : SqL K H1 a xs := by
  rcases h with h | h
  · left
    rcases h with h | ⟨o, h⟩
    · exact .inl (b _ _ h)
    · exact .inr ⟨o, b _ _ h⟩
  · exact .inr h
theorem log_small {m : Nat} (h : m ≤ 500) : ((m : Int)).natAbs.log2 < 9000 := by
  rw [Int.natAbs_natCast]
  exact Nat.lt_of_le_of_lt (Nat.log2_le_self m) (by omega)
theorem perm_erase {α : Type} : ∀ {l : List α} {j : Nat} {y : α}, l[j]? = some y → (y :: l.eraseIdx j).Perm l
  | [], _, _, h => nomatch h
  | a :: l, 0, y, h => by
    cases h
    exact List.Perm.refl _
  | a :: l, j + 1, y, h => by
    have ih : (y :: l.eraseIdx j).Perm l := perm_erase h
    exact (List.Perm.swap a y _).trans (ih.cons a)
theorem ok_law_shuffled {f : Addr} {fd : FuncData} (F : Fun K "_law_shuffled" "_law_shuffled" s_law_shuffled f fd) (T : Top K mg) : FnOk P w K mg base CX0 2 f fd ["_law_flow_here", "_law_some"] (sp_law_shuffled K) := by
  obtain ⟨f_law_pick, fd_law_pick, F_law_pick, b_law_pick, m_law_pick⟩ := T.d_law_pick
  have G_law_pick := ok_law_pick (P := P) (w := w) (base := base) F_law_pick T
  refine F.ok sc_law_shuffled (fun vs H Q E h => ?_) (fun cdv A outer s H vs Q E hr h => ?_)
  · obtain ⟨f, c, l, xs, rfl, _⟩ := h
    rfl
  obtain ⟨f, c, l, xs, rfl, hL, nl, hlen, hF, q⟩ := h
  refine ⟨_, (pss_cons (ps_set (i := 2) sc_law_shuffled.nd rfl (Or.inr rfl) (pe_callTy (call_list_ofK K rfl) (by rfl) T.m_list (by decide +kernel) (pa_cons (pv 1) pa_nil)))
      (pss_one (ps_ret (pe_lc (own := [("_law_k", 3)]) (g := gName 3) (tt := tYes) (by rfl) sc_law_shuffled.nd (pi_range1 (by rfl) T.m_range (pa_cons (pe_callB (call_len_seqK K rfl) (by rfl) T.m_len (by decide +kernel) (pa_cons (pv 1) pa_nil)) pa_nil)) (blkOk_by (own := [("_law_k", 3)]) (N := N_law_shuffled) (sc := defScope s_law_shuffled) (by decide +kernel)) (fun _ _ _ _ _ => (pg_name (i := 3) sc_law_shuffled.nd rfl (Or.inl rfl))) (fun _ _ _ _ _ => pts_nil) (fun _ _ _ _ _ => (pe_bmK K rfl PySem.F.plainAttrs_list PySem.F.slot_list_pop PySem.F.type_list_pop mt_popAt (pv 2) (pa_cons (pe_call G_law_pick (hr.mono (by decide)) (by rfl) m_law_pick F_law_pick.kp b_law_pick .nil pass0 (pa_cons (pv 0) (pa_cons (pe_callB (call_len_seqK K rfl) (by rfl) T.m_len (by decide +kernel) (pa_cons (pv 2) pa_nil)) pa_nil))) pa_nil))))))), ?_⟩
  refine ⟨_, rfl, l, _, rfl, .inl hL, fun lf nlf => ?_⟩
  refine ⟨_, rfl, l, _, rfl, .inl (same_seqL (same_new nlf) hL), _, rfl, by omega, (by omega), fun D nD => ?_⟩
  have F1 : Flow (upd H lf (.lst xs)) f c := hF.new nlf
  have dl : D ≠ lf := (ne_of_none upd_same nD).symm
  refine lc_range (lo := 0) (n := xs.length) (fun i H5 => ∃ acc rest : List V, H5 D = some (.lst acc) ∧ H5 lf = some (.lst rest) ∧ acc.length = i ∧ rest.length + i = xs.length ∧ (acc ++ rest).Perm xs ∧ Flow H5 f c ∧ But f H H5)
    ⟨[], xs, upd_same, by rw [upd_ne dl.symm]; exact upd_same, rfl, by omega, List.Perm.refl _, F1.new nD, (But.refl.new nlf).new nD⟩ ?_ ?_
  · rintro i H5 hi ⟨acc, rest, hD, hl, ha, hr2, hp, F5, B5⟩
    refine ⟨rfl, yes_in ?_⟩
    refine ⟨_, rfl, .inl ⟨rfl, _, SqL.of hl⟩, _, rfl, _, rfl, lf, _, rfl, .inl (SqL.of hl), f, c, ((rest.length : Nat) : Int), rfl, by omega, log_small (by omega), F5, fun v H6 v0 v1 F6 B6 => ?_⟩
    have hl6 := B6 _ _ hl (hF.ne nlf)
    have hv : v.toNat < rest.length := by omega
    have e1 : seqIndex? v rest.length = some v.toNat := by
      rw [seqIndex_of v0 (by omega)]
    refine ⟨lf, rest, v, v.toNat, rest[v.toNat], rfl, rfl, hl6, by omega, by omega, e1, List.getElem?_eq_getElem hv, ?_⟩
    have hD6 := B6 _ _ hD (fun e => by rw [e] at nD; rw [show upd H lf (.lst xs) f = H f from upd_ne (hF.ne nlf).symm] at nD; obtain ⟨_, _, _, _, _, e1, _⟩ := hF; rw [e1] at nD; cases nD)
    refine ⟨acc, by rw [upd_ne dl]; exact hD6, small1000 (by omega), acc ++ [rest[v.toNat]], rest.eraseIdx v.toNat, upd_same, by rw [upd_ne dl.symm]; exact upd_same, by rw [List.length_append, ha]; rfl, ?_, ?_, ?_, ?_⟩
    · rw [List.length_eraseIdx, if_pos hv]
      omega
    · refine List.Perm.trans ?_ hp
      rw [List.append_assoc]
      exact List.Perm.append_left acc (perm_erase (List.getElem?_eq_getElem hv))
    · have dc : D ≠ c := fun e => by
        rw [e] at nD
        obtain ⟨_, _, _, _, _, _, e1, _⟩ := F1
        rw [e1] at nD
        cases nD
      exact (F6.lst (hF.ne nlf) (hF.nec nlf)).lst (F1.ne nD) dc
    · exact ((B5.trans B6).own nlf).own (same_none (same_new nlf) nD)
  · rintro H5 ⟨acc, rest, hD, hl, ha, hr2, hp, F5, B5⟩
    have er : rest = [] := by
      cases rest with
      | nil => rfl
      | cons a l => simp at hr2
    subst er
    rw [List.append_nil] at hp
    exact q D acc H5 hp (same_none (same_new nlf) nD) hD F5 B5
end
/-! ### the hands of a drawn room -/
def unS : V → Str
  | .str s => s
  | _ => ""
theorem perm_strs {ys : List V} {zs : List Str} (h : ys.Perm (zs.map V.str)) : ∃ ss : List Str, ys = ss.map V.str ∧ ss.Perm zs := by
  refine ⟨ys.map unS, ?_, ?_⟩
  · rw [List.map_map]
    symm
    refine (List.map_congr_left (g := id) fun y hy => ?_).trans (List.map_id _)
    obtain ⟨z, _, e⟩ := List.mem_map.mp (h.mem_iff.mp hy)
    subst e
    rfl
  · have q := h.map unS
    rw [List.map_map] at q
    have e : zs.map (unS ∘ V.str) = zs := (List.map_congr_left (g := id) fun z _ => rfl).trans (List.map_id _)
    rw [e] at q
    exact q
theorem flat_rep {α : Type} (x : α) : ∀ n : Nat, (List.replicate n [x]).flatten = List.replicate n x
  | 0 => rfl
  | n + 1 => by
    rw [List.replicate_succ, List.flatten_cons, flat_rep x n]
    rfl
def cnt (ss : List Str) : Nat := (ss.filter fun s => !decide (s = ("in" : Str))).length
theorem cnt_le (ss : List Str) : cnt ss ≤ ss.length := List.length_filter_le ..
theorem cut_drop (xs : List V) (k : Nat) : cutV xs (some ((k : Nat) : Int)) none = xs.drop k := by
  unfold cutV
  rw [HT.sIx_nat, HT.sIx_none]
  by_cases h : k ≤ xs.length
  · rw [Nat.min_eq_left h]
    exact List.take_of_length_le (by rw [List.length_drop]; exact Nat.le_refl _)
  · rw [Nat.min_eq_right (by omega), Nat.sub_self, List.take_zero, List.drop_eq_nil_of_le (by omega)]
structure HInv (f c sl hh : Addr) (ss : List Str) (H0 H : Hp) (i : Nat) (vs : List V) (hs : List HR) (left : Int) : Prop where
  fl : Flow H f c
  bt : But f H0 H
  hsl : H sl = some (.lst (ss.map V.str))
  hhh : H hh = some (.lst vs)
  al : All2 (HandAt H) vs hs
  len : hs.length = i
  good : ∀ h ∈ hs, GoodHand h
  lf : (cnt (ss.drop i) : Int) ≤ left
  sum : (hs.map fun h => needs h.wd).sum + left = 20
  nz : ∀ h ∈ hs, 0 ≤ needs h.wd
  one : ("hand" : Str) ∈ ss.take i → ∃ h ∈ hs, h.wd ≠ "out" ∧ h.wd ≠ "in"
  n1 : sl ≠ f
  n2 : sl ≠ hh
  n3 : hh ≠ f
  n4 : hh ≠ c
  n5 : H0 hh = none
section
variable {f c sl hh : Addr} {ss : List Str} {H0 H H' : Hp} {i : Nat} {vs : List V} {hs : List HR} {left : Int}
theorem HInv.but (s : HInv f c sl hh ss H0 H i vs hs left) (F : Flow H' f c) (b : But f H H') : HInv f c sl hh ss H0 H' i vs hs left :=
  { s with fl := F, bt := s.bt.trans b, hsl := b _ _ s.hsl s.n1, hhh := b _ _ s.hhh s.n3, al := s.al.imp fun _ _ k => k.keep (TK.but s.fl b) }
theorem HInv.new {p : Addr} {o : HO} (s : HInv f c sl hh ss H0 H i vs hs left) (n : H p = none) : HInv f c sl hh ss H0 (upd H p o) i vs hs left :=
  { s with fl := s.fl.new n, bt := s.bt.new n, hsl := same_new n _ _ s.hsl, hhh := same_new n _ _ s.hhh, al := s.al.imp fun _ _ k => k.keep (TK.new n) }
theorem HInv.same (s : HInv f c sl hh ss H0 H i vs hs left) (k : Same H H') : HInv f c sl hh ss H0 H' i vs hs left :=
  { s with fl := s.fl.same k, bt := s.bt.same k, hsl := k _ _ s.hsl, hhh := k _ _ s.hhh, al := s.al.imp fun _ _ z => z.keep (TK.same k) }
theorem HInv.step {x : V} {h : HR} {sd : Str} (s : HInv f c sl hh ss H0 H i vs hs left) (hx : HandAt H x h) (g : GoodHand h) (z : 0 ≤ needs h.wd) (k : needs h.wd + (cnt (ss.drop (i + 1)) : Int) ≤ left) (e : ss[i]? = some sd) (o : sd = "hand" → h.wd ≠ "out" ∧ h.wd ≠ "in") :
    HInv f c sl hh ss H0 (upd H hh (.lst (vs ++ [x]))) (i + 1) (vs ++ [x]) (hs ++ [h]) (left - needs h.wd) := by
  refine { s with fl := s.fl.lst s.n3 s.n4, bt := s.bt.own s.n5, hsl := by rw [upd_ne s.n2]; exact s.hsl, hhh := upd_same, al := (s.al.snoc hx).imp fun _ _ z => z.keep (TK.lst s.hhh), len := by rw [List.length_append, s.len]; rfl, good := ?_, lf := by omega, sum := ?_, nz := ?_, one := ?_ }
  · intro y hy
    rcases List.mem_append.mp hy with hy | hy
    · exact s.good y hy
    · obtain rfl : y = h := by simpa using hy
      exact g
  · have := s.sum
    rw [List.map_append, List.sum_append]
    simp only [List.map_cons, List.map_nil, List.sum_cons, List.sum_nil]
    omega
  · intro y hy
    rcases List.mem_append.mp hy with hy | hy
    · exact s.nz y hy
    · obtain rfl : y = h := by simpa using hy
      exact z
  · intro hm
    rw [List.take_add_one, e] at hm
    rcases List.mem_append.mp hm with hm | hm
    · obtain ⟨y, h1, h2⟩ := s.one hm
      exact ⟨y, List.mem_append_left _ h1, h2⟩
    · have e2 : ("hand" : Str) = sd := by simpa using hm
      exact ⟨h, List.mem_append_right _ (by simp), o e2.symm⟩
end
theorem cnt_cons {ss : List Str} {i : Nat} {sd : Str} (e : ss[i]? = some sd) : cnt (ss.drop i) = (if sd = "in" then 0 else 1) + cnt (ss.drop (i + 1)) := by
  have hi := (List.getElem?_eq_some_iff.mp e).1
  have e2 : ss.drop i = sd :: ss.drop (i + 1) := by
    rw [List.drop_eq_getElem_cons hi, (List.getElem?_eq_some_iff.mp e).2]
  rw [e2]
  unfold cnt
  rw [List.filter_cons]
  by_cases k : sd = "in"
  · rw [if_pos k, decide_eq_true k]
    simp
  · rw [if_neg k, decide_eq_false k]
    simp only [Bool.not_false, if_true, List.length_cons]
    omega
section
variable {P : Program} {w : World} {K : PySem.W.Frag} {mg : Str → Option Value} {base : Heap}
structure HandsOk (hs : List HR) : Prop where
  len : hs.length ≤ 12
  good : ∀ h ∈ hs, GoodHand h
  sum : (hs.map fun h => needs h.wd).sum ≤ 20
  nz : ∀ h ∈ hs, 0 ≤ needs h.wd
  one : ∃ h ∈ hs, h.wd ≠ "out" ∧ h.wd ≠ "in"
def sp_law_hands (K : PySem.W.Frag) : Sp := fun vs H Q _ => ∃ (f c : Addr) (m : Int), vs = [.ref f, .int m] ∧ 1 ≤ m ∧ m ≤ 8 ∧ Flow H f c ∧
  ∀ (p : Addr) (xs : List V) (hs : List HR) (H' : Hp), H p = none → H' p = some (.lst xs) → All2 (HandAt H') xs hs → HandsOk hs → Flow H' f c → But f H H' → Q (.ref p) H'
theorem ok_law_hands {f : Addr} {fd : FuncData} (F : Fun K "_law_hands" "_law_hands" s_law_hands f fd) (T : Top K mg) : FnOk P w K mg base CX0 4 f fd ["_law_flow_here", "_law_many"] (sp_law_hands K) := by
  obtain ⟨f_law_shuffled, fd_law_shuffled, F_law_shuffled, b_law_shuffled, m_law_shuffled⟩ := T.d_law_shuffled
  have G_law_shuffled := ok_law_shuffled (P := P) (w := w) (base := base) F_law_shuffled T
  obtain ⟨f_law_rule, fd_law_rule, F_law_rule, b_law_rule, m_law_rule⟩ := T.d_law_rule
  have G_law_rule := ok_law_rule (P := P) (w := w) (base := base) F_law_rule T
  obtain ⟨f_law_needs, fd_law_needs, F_law_needs, b_law_needs, m_law_needs⟩ := T.d_law_needs
  have G_law_needs := ok_law_needs (P := P) (w := w) (base := base) F_law_needs T
  obtain ⟨f_law_pick, fd_law_pick, F_law_pick, b_law_pick, m_law_pick⟩ := T.d_law_pick
  have G_law_pick := ok_law_pick (P := P) (w := w) (base := base) F_law_pick T
  refine F.ok sc_law_hands (fun vs H Q E h => ?_) (fun cdv A outer s H vs Q E hr h => ?_)
  · obtain ⟨f, c, m, rfl, _⟩ := h
    rfl
  obtain ⟨f, c, m, rfl, m1, m8, hF, q⟩ := h
  let R1 : TS := fun D' σ' H' => D'.rt = Q ∧ ∃ (x : Int) (sl : Addr) (ss : List Str), σ' = [some (.ref f), some (.int m), some (.int (3 + x)), some (.ref sl), none, none, none, none, none, none, none] ∧ H' sl = some (.lst (ss.map V.str)) ∧ sl ≠ f ∧ ss.length ≤ 12 ∧ ("hand" : Str) ∈ ss ∧ (∀ s ∈ ss, s = "in" ∨ s = "out" ∨ s = "hand") ∧ Flow H' f c ∧ But f H H'
  refine ⟨_, (pss_cons (ps_set (i := 2) sc_law_hands.nd rfl (Or.inl rfl) (pe_op op_add pe_int (pe_callTy call_int1 (by rfl) T.m_int (by decide +kernel) (pa_cons (pe_cmpR op_lt (pv 1) pe_int (nomark _)) pa_nil))))
      (pss_cons (ps_set (i := 3) sc_law_hands.nd rfl (Or.inl rfl) (pe_op op_cat (pe_op op_cat (pe_op op_rep (pe_lst (pa_cons pe_str pa_nil)) (pe_call G_law_pick (hr.mono (by decide)) (by rfl) m_law_pick F_law_pick.kp b_law_pick .nil pass0 (pa_cons (pv 0) (pa_cons (pv 2) pa_nil)))) (pe_op op_rep (pe_lst (pa_cons pe_str pa_nil)) (pe_call G_law_pick (hr.mono (by decide)) (by rfl) m_law_pick F_law_pick.kp b_law_pick .nil pass0 (pa_cons (pv 0) (pa_cons (pv 2) pa_nil))))) (pe_op op_rep (pe_lst (pa_cons pe_str pa_nil)) (pv 1))))
      (pss_cons (ps_set (i := 3) sc_law_hands.nd rfl (Or.inl rfl) (pe_call G_law_shuffled (hr.mono (by decide)) (by rfl) m_law_shuffled F_law_shuffled.kp b_law_shuffled .nil pass0 (pa_cons (pv 0) (pa_cons (pv 3) pa_nil))))
      (PSs.to (pss_cons (ps_set (i := 4) sc_law_hands.nd rfl (Or.inl rfl) pe_int)
      (pss_cons (ps_set (i := 5) sc_law_hands.nd rfl (Or.inl rfl) (pe_lst pa_nil))
      (pss_cons (ps_for PassesOwn.never rfl (pi_enum (by rfl) T.m_enumerate (pa_cons (pv 3) pa_nil)) (pg_tupK K rfl rfl (pgs_cons (pg_name (i := 6) sc_law_hands.nd rfl (Or.inl rfl)) (pgs_cons (pg_name (i := 7) sc_law_hands.nd rfl (Or.inl rfl)) pgs_nil)))
        (pss_cons (ps_if (pt_cmpR op_eq (pv 7) pe_str (nomark _)) (pss_cons (ps_set (i := 8) sc_law_hands.nd rfl (Or.inl rfl) (pe_callB (call_len_seqK K rfl) (by rfl) T.m_len (by decide +kernel) (pa_cons (pe_lc (own := [("_law_other", 9)]) (g := gName 9) (by rfl) sc_law_hands.nd (pi_listK K rfl (pe_slice (sl_listK K rfl) (pv 3) (po_some (pe_op op_add (pv 6) pe_int)) po_none)) (blkOk_by (own := [("_law_other", 9)]) (N := N_law_hands) (sc := defScope s_law_hands) (by decide +kernel)) (fun _ _ _ _ _ => (pg_name (i := 9) sc_law_hands.nd rfl (Or.inl rfl))) (fun _ _ _ _ _ => pts_one (pt_cmpR op_ne (pv 9) pe_str (nomark _))) (fun _ _ _ _ _ => (pv 9))) pa_nil)))
      (pss_cons (ps_set (i := 10) sc_law_hands.nd rfl (Or.inl rfl) (pe_call G_law_rule (hr.mono (by decide)) (by rfl) m_law_rule F_law_rule.kp b_law_rule .nil pass0 (pa_cons (pv 0) (pa_cons (pe_op op_sub (pv 4) (pv 8)) pa_nil))))
      (pss_one (ps_expr (pe_bmK K rfl PySem.F.plainAttrs_list PySem.F.slot_list_append PySem.F.type_list_append mt_append (pv 5) (pa_cons (pe_tup (pa_cons (pv 10) (pa_cons (pe_call G_law_pick (hr.mono (by decide)) (by rfl) m_law_pick F_law_pick.kp b_law_pick .nil pass0 (pa_cons (pv 0) (pa_cons (pe_ix (ix_listK K rfl) (pe_lst (pa_cons pe_int (pa_cons pe_int (pa_cons pe_int pa_nil)))) (pe_call G_law_pick (hr.mono (by decide)) (by rfl) m_law_pick F_law_pick.kp b_law_pick .nil pass0 (pa_cons (pv 0) (pa_cons pe_int pa_nil))) (fun _ _ => rfl)) pa_nil))) pa_nil))) pa_nil)))))) (pss_one (ps_expr (pe_bmK K rfl PySem.F.plainAttrs_list PySem.F.slot_list_append PySem.F.type_list_append mt_append (pv 5) (pa_cons (pe_tup (pa_cons (pe_tup (pa_cons (pv 7) pa_nil)) (pa_cons pe_int pa_nil))) pa_nil)))))
      (pss_one (ps_set (i := 4) sc_law_hands.nd rfl (Or.inl rfl) (pe_op op_sub (pv 4) (pe_call G_law_needs (hr.mono (by decide)) (by rfl) m_law_needs F_law_needs.kp b_law_needs .nil pass0 (pa_cons (pe_ix (ix_tupK K rfl) (pe_ix (ix_listK K rfl) (pv 5) (pe_un un_neg pe_int) (fun _ _ => rfl)) pe_int (fun _ _ => rfl)) pa_nil)))))))
      (pss_one (ps_ret (pv 5)))))) R1 ?tail1)))), ?_⟩
  case tail1 =>
    rintro D' σ' H1 ⟨eD, x, sl, ss, rfl, hsl, nsl, hlen, hhand, hall, F1, B1⟩
    refine ⟨(by show 0 ≤ sizeLine; decide), fun hh nhh => ?_⟩
    have I0 : HInv f c sl hh ss H (upd H1 hh (.lst [])) 0 [] [] 20 :=
      { fl := F1.new nhh, bt := B1.new nhh, hsl := same_new nhh _ _ hsl, hhh := upd_same, al := .nil, len := rfl, good := (fun _ h => nomatch h), lf := by have := cnt_le (ss.drop 0); rw [List.length_drop] at this; omega, sum := rfl, nz := (fun _ h => nomatch h), one := (fun h => nomatch h), n1 := nsl, n2 := ne_of_none hsl nhh, n3 := F1.ne nhh, n4 := F1.nec nhh, n5 := B1.none nhh (F1.ne nhh) }
    refine ⟨_, rfl, sl, _, rfl, SqL.of I0.hsl, for_it (n := ss.length) (fun i σ H2 => ∃ (vs : List V) (hs : List HR) (left : Int) (v5 v6 v7 v8 v9 : Option V), σ = [some (.ref f), some (.int m), some (.int (3 + x)), some (.ref sl), some (.int left), some (.ref hh), v5, v6, v7, v8, v9] ∧ HInv f c sl hh ss H H2 i vs hs left)
      ⟨[], [], 20, none, none, none, none, none, rfl, I0⟩ ?_ ?_ ?_ ?_⟩
    · rintro i σ H2 hi ⟨vs, hs, left, v5, v6, v7, v8, v9, rfl, I⟩
      exact ⟨_, _, SqL.of I.hsl, by rw [List.getElem?_map, List.getElem?_eq_getElem hi]; rfl⟩
    · rintro σ H2 ⟨vs, hs, left, v5, v6, v7, v8, v9, rfl, I⟩
      exact ⟨_, SqL.of I.hsl, by rw [List.length_map]; exact Nat.le_refl _⟩
    · rintro i x σ H2 H3 hi ⟨vs, hs, left, v5, v6, v7, v8, v9, rfl, I⟩ ⟨t, y, rfl, nt, rfl, fy⟩
      have ei : ss[i]? = some ss[i] := List.getElem?_eq_getElem hi
      obtain ⟨sd, hsd⟩ : ∃ sd, sd = ss[i] := ⟨_, rfl⟩
      rw [← hsd] at ei
      have ey : y = V.str sd := by
        have := fy _ (SqL.of I.hsl)
        rw [List.getElem?_map, ei] at this
        exact (Option.some.inj this).symm
      subst ey
      have I1 := I.new (o := .tup [V.int ((i : Nat) : Int), V.str sd]) nt
      have hc1 := cnt_cons ei
      have hl := I.lf
      have sz : vs.length < sizeLine := small1000 (by rw [I.al.length, I.len]; omega)
      refine ⟨t, _, rfl, SqT.of upd_same, rfl, _, _, rfl, _, _, rfl, rfl, ?_⟩
      refine ⟨_, rfl, rfl, _, rfl, if_str (fun e => ?_) (fun e => ?_)⟩
      · -- a hand
        refine ⟨_, rfl, _, rfl, _, _, rfl, rfl, _, rfl, sl, _, rfl, SqL.of I1.hsl, fun cp ncp => ?_⟩
        have I2 := I1.new (o := .lst (cutV (ss.map V.str) (some (((i : Nat) : Int) + 1)) none)) ncp
        have ecut : cutV (ss.map V.str) (some (((i : Nat) : Int) + 1)) none = (ss.drop (i + 1)).map V.str := by
          rw [show ((i : Nat) : Int) + 1 = ((i + 1 : Nat) : Int) by omega, cut_drop, List.map_drop]
        refine ⟨cp, rfl, ⟨_, SqL.of upd_same⟩, fun D nD => lc_list (K := K) (a := cp) (xs := cutV (ss.map V.str) (some (((i : Nat) : Int) + 1)) none) (fun j H5 => ∃ acc : List V, H5 D = some (.lst acc) ∧ acc.length = cnt ((ss.drop (i + 1)).take j) ∧ H5 cp = some (.lst (cutV (ss.map V.str) (some (((i : Nat) : Int) + 1)) none)) ∧ HInv f c sl hh ss H H5 i vs hs left ∧ D ≠ cp ∧ D ≠ f ∧ D ≠ c ∧ D ≠ sl ∧ D ≠ hh ∧ H D = Option.none)
          ⟨[], upd_same, rfl, same_new nD _ _ upd_same, I2.new nD, (ne_of_none upd_same nD).symm, I2.fl.ne nD, I2.fl.nec nD, (ne_of_none I2.hsl nD).symm, (ne_of_none I2.hhh nD).symm, I2.bt.none nD (I2.fl.ne nD)⟩ (fun j H5 _ ⟨_, _, _, h, _⟩ => SqL.of h) ?_ ?_⟩
        · rintro j z H5 hz ⟨acc, hD, hacc, hcp, I5, d1, d2, d3, d4, d5, d6⟩
          rw [ecut, List.getElem?_map] at hz
          cases ez : (ss.drop (i + 1))[j]? with
          | none => rw [ez] at hz; cases hz
          | some so =>
            rw [ez] at hz
            obtain rfl : V.str so = z := Option.some.inj hz
            refine ⟨rfl, _, rfl, rfl, _, rfl, if_bl (fun k => ?_) (fun k => ?_)⟩
            · have k2 : ¬ so = "in" := fun y => by
                rw [y] at k
                exact absurd k (by decide +kernel)
              refine ⟨_, rfl, acc, hD, ?_, acc ++ [V.str so], upd_same, ?_, by rw [upd_ne d1.symm]; exact hcp, ?_, d1, d2, d3, d4, d5, d6⟩
              · rw [hacc]
                have := cnt_le ((ss.drop (i + 1)).take j)
                rw [List.length_take, List.length_drop] at this
                exact small1000 (by omega)
              · rw [List.length_append, hacc, List.take_add_one, ez]
                unfold cnt
                rw [List.filter_append, List.length_append]
                simp [k2]
              · exact { I5 with fl := I5.fl.lst d2 d3, bt := I5.bt.own d6, hsl := by rw [upd_ne d4.symm]; exact I5.hsl, hhh := by rw [upd_ne d5.symm]; exact I5.hhh, al := I5.al.imp fun _ _ y => y.keep (TK.lst hD) }
            · have k2 : so = "in" := by
                by_cases y : so = "in"
                · exact y
                · have k3 : (!decide (V.str so = V.str "in")) = false := k
                  rw [decide_eq_false (fun y2 => y (V.str.inj y2))] at k3
                  cases k3
              refine ⟨acc, hD, ?_, hcp, I5, d1, d2, d3, d4, d5, d6⟩
              rw [hacc, List.take_add_one, ez]
              unfold cnt
              rw [List.filter_append, List.length_append]
              simp [k2]
        · rintro H5 ⟨acc, hD, hacc, hcp, I5, d1, d2, d3, d4, d5, d6⟩
          have hacc2 : acc.length = cnt (ss.drop (i + 1)) := by
            rw [hacc, List.take_of_length_le]
            rw [ecut, List.length_map]
            exact Nat.le_refl _
          have hm0 : 0 ≤ left - ((acc.length : Nat) : Int) := by
            have hne : ¬ sd = "in" := by rw [e]; decide +kernel
            rw [hacc2]
            rw [hc1, if_neg hne] at hl
            omega
          refine ⟨D, _, rfl, .inl (SqL.of hD), ?_⟩
          refine ⟨_, rfl, _, rfl, _, rfl, _, _, rfl, rfl, f, c, _, rfl, hm0, I5.fl, fun r hR H6 hr6 gR n1 n0 mo F6 B6 => ?_⟩
          have I6 := I5.but F6 B6
          refine ⟨_, rfl, .inl ⟨rfl, _, SqL.of I6.hhh⟩, _, rfl, _, rfl, (by show 3 ≤ sizeLine; decide), fun ml nml => ?_⟩
          have I7 := I6.new (o := .lst [V.int 5, V.int 5, V.int 31]) nml
          refine ⟨_, rfl, f, c, 3, rfl, by decide, by decide +kernel, I7.fl, fun z H8 z0 z3 F8 B8 => ?_⟩
          have I8 := I7.but F8 B8
          have hml := B8 _ _ upd_same (I6.fl.ne nml)
          obtain ⟨mm, hmm, mk⟩ : ∃ mm : Int, atI [V.int 5, V.int 5, V.int 31] z = some (.int mm) ∧ (mm = 5 ∨ mm = 31) := by
            have : z = 0 ∨ z = 1 ∨ z = 2 := by omega
            rcases this with rfl | rfl | rfl
            · exact ⟨5, rfl, .inl rfl⟩
            · exact ⟨5, rfl, .inl rfl⟩
            · exact ⟨31, rfl, .inr rfl⟩
          refine ⟨ml, _, _, _, rfl, rfl, SqL.of hml, hmm, f, c, mm, rfl, by omega, (by rcases mk with rfl | rfl <;> decide +kernel), I8.fl, fun mo2 H9 o0 o1 F9 B9 => ?_⟩
          have I9 := I8.but F9 B9
          refine ⟨(by show 2 ≤ sizeLine; decide), fun t2 nt2 => ?_⟩
          have I10 := I9.new (o := .tup [V.ref r, V.int mo2]) nt2
          have sz10 : vs.length < sizeLine := sz
          refine ⟨hh, _, _, rfl, rfl, I10.hhh, sz10, ?_⟩
          have k9 : TK H6 H9 := ((TK.new nml).trans (TK.but I7.fl B8)).trans (TK.but I8.fl B9)
          have hx : HandAt (upd H9 t2 (.tup [V.ref r, V.int mo2])) (V.ref t2) ⟨hR.wd, hR.no, mo2⟩ := ⟨t2, r, rfl, upd_same, TK.new nt2 _ _ (k9 _ _ hr6)⟩
          have gd : GoodHand ⟨hR.wd, hR.no, mo2⟩ := ⟨.inl ⟨gR.wd, gR.no, gR.big⟩, o0, (show mo2 ≤ 30 by omega)⟩
          have nout : hR.wd ≠ "out" ∧ hR.wd ≠ "in" := ⟨fun y => by
            have := gR.wd
            rw [y] at this
            exact absurd this (by decide +kernel), fun y => by
            have := gR.wd
            rw [y] at this
            exact absurd this (by decide +kernel)⟩
          have I11 := I10.step (h := ⟨hR.wd, hR.no, mo2⟩) hx gd n0 (by show needs hR.wd + _ ≤ left; rw [hacc2] at n1; omega) ei (fun _ => nout)
          refine ⟨_, rfl, _, rfl, 1, rfl, hh, _, -1, _, rfl, rfl, SqL.of I11.hhh, atI_last _ _, t2, _, _, _, rfl, rfl, SqT.of (TK.lst I10.hhh _ _ upd_same), atI_nat (j := 0) rfl, r, hR.wd, _, rfl, SqT.of (TK.lst I10.hhh _ _ (TK.new nt2 _ _ (k9 _ _ hr6))), fun H12 s12 => ⟨_, _, rfl, rfl, ?_⟩⟩
          exact ⟨_, _, _, _, _, _, _, _, rfl, I11.same s12⟩
      · -- a door
        refine ⟨_, rfl, .inl ⟨rfl, _, SqL.of I1.hhh⟩, _, rfl, (by show 1 ≤ sizeLine; decide), fun r nr => ⟨(by show 2 ≤ sizeLine; decide), fun t2 nt2 => ?_⟩⟩
        have I2 := (I1.new (o := .tup [V.str sd]) nr).new (o := .tup [V.ref r, V.int 0]) nt2
        refine ⟨hh, _, _, rfl, rfl, I2.hhh, sz, ?_⟩
        have hsd2 : sd = "in" ∨ sd = "out" := by
          rcases hall sd (List.mem_of_getElem? ei) with y | y | y
          · exact .inl y
          · exact .inr y
          · exact absurd y e
        have hn : needs sd = (if sd = "in" then 0 else 1) := by
          rcases hsd2 with y | y <;> rw [y] <;> decide +kernel
        have hx : HandAt (upd (upd (upd H2 t (.tup [V.int ((i : Nat) : Int), V.str sd])) r (.tup [V.str sd])) t2 (.tup [V.ref r, V.int 0])) (V.ref t2) ⟨sd, none, 0⟩ := ⟨t2, r, rfl, upd_same, same_new nt2 _ _ upd_same⟩
        have I3 := I2.step (h := ⟨sd, none, 0⟩) hx ⟨.inr ⟨hsd2, rfl⟩, (show (0 : Int) ≤ 0 by decide), (show (0 : Int) ≤ 30 by decide)⟩ (by show 0 ≤ needs sd; rw [hn]; split <;> decide) (by
          show needs sd + _ ≤ left
          rw [hn]
          rw [hc1] at hl
          by_cases y : sd = "in"
          · rw [if_pos y] at hl ⊢; omega
          · rw [if_neg y] at hl ⊢; omega) ei (fun y => absurd y e)
        refine ⟨_, rfl, _, rfl, 1, rfl, hh, _, -1, _, rfl, rfl, SqL.of I3.hhh, atI_last _ _, t2, _, _, _, rfl, rfl, SqT.of (TK.lst I2.hhh _ _ upd_same), atI_nat (j := 0) rfl, r, sd, _, rfl, SqT.of (TK.lst I2.hhh _ _ (same_new nt2 _ _ upd_same)), fun H12 s12 => ⟨_, _, rfl, rfl, ?_⟩⟩
        exact ⟨_, _, _, _, _, _, _, _, rfl, I3.same s12⟩
    · rintro σ H2 ⟨vs, hs, left, v5, v6, v7, v8, v9, rfl, I⟩
      refine ⟨_, rfl, ?_⟩
      rw [eD]
      refine q hh vs hs H2 I.n5 I.hhh I.al ⟨by rw [I.len]; exact hlen, I.good, ?_, I.nz, I.one (by rw [List.take_length]; exact hhand)⟩ I.fl I.bt
      have := I.sum
      have := I.lf
      omega
  obtain ⟨x, ex⟩ : ∃ x : Int, (if decide (m < 7) = true then (1 : Int) else 0) = x := ⟨_, rfl⟩
  have xb : x = 0 ∨ (x = 1 ∧ m < 7) := by
    by_cases h7 : m < 7
    · rw [decide_eq_true h7] at ex
      exact .inr ⟨ex.symm, h7⟩
    · rw [decide_eq_false h7] at ex
      exact .inl ex.symm
  have lx : (3 + x).natAbs.log2 < 9000 := by
    rcases xb with rfl | ⟨rfl, _⟩ <;> decide +kernel
  refine ⟨_, rfl, _, _, rfl, rfl, .inr ⟨_, rfl, 3, x, rfl, congrArg V.int ex, ?_⟩⟩
  refine ⟨(by show 1 ≤ sizeLine; decide), fun l1 nl1 => ?_⟩
  refine ⟨_, rfl, _, rfl, f, c, 3 + x, rfl, by omega, lx, hF.new nl1, fun v1 H1 a1 b1 F1 B1 => ?_⟩
  have g1 := B1 _ _ upd_same (hF.ne nl1)
  have small : ∀ v : Int, 0 ≤ v → v ≤ 8 → [V.str "in"].length * v.toNat ≤ sizeLine := fun v v0 v8 => little (by show 1 * v.toNat ≤ 1000; omega)
  refine ⟨l1, v1, _, rfl, rfl, g1, by omega, by omega, small v1 a1 (by omega), fun p1 np1 => ?_⟩
  rw [flat_rep]
  have F2 := F1.new (o := .lst (List.replicate v1.toNat (V.str "in"))) np1
  refine ⟨(by show 1 ≤ sizeLine; decide), fun l2 nl2 => ?_⟩
  refine ⟨_, rfl, _, rfl, f, c, 3 + x, rfl, by omega, lx, F2.new nl2, fun v2 H3 a2 b2 F3 B3 => ?_⟩
  have g2 := B3 _ _ upd_same (F2.ne nl2)
  have h1 := B3 _ _ (same_new nl2 _ _ upd_same) (F1.ne np1)
  refine ⟨l2, v2, _, rfl, rfl, g2, by omega, by omega, small v2 a2 (by omega), fun p2 np2 => ?_⟩
  rw [flat_rep]
  have F4 := F3.new (o := .lst (List.replicate v2.toNat (V.str "out"))) np2
  refine ⟨p1, p2, _, _, rfl, rfl, same_new np2 _ _ h1, upd_same, ?_, fun p3 np3 => ?_⟩
  · rw [List.length_replicate, List.length_replicate]; exact little (by omega)
  have F5 := F4.new (o := .lst (List.replicate v1.toNat (V.str "in") ++ List.replicate v2.toNat (V.str "out"))) np3
  refine ⟨(by show 1 ≤ sizeLine; decide), fun l4 nl4 => ⟨_, rfl, l4, m, _, rfl, rfl, upd_same, by omega, by omega, small m (by omega) m8, fun p5 np5 => ?_⟩⟩
  rw [flat_rep]
  have F6 := F5.new (o := .lst [V.str "hand"]) nl4
  have F7 := F6.new (o := .lst (List.replicate m.toNat (V.str "hand"))) np5
  refine ⟨p3, p5, _, _, rfl, rfl, same_new np5 _ _ (same_new nl4 _ _ upd_same), upd_same, ?_, fun p6 np6 => ?_⟩
  · rw [List.length_append, List.length_replicate, List.length_replicate, List.length_replicate]; exact little (by omega)
  refine ⟨_, rfl, _, rfl, f, c, p6, _, rfl, SqL.of upd_same, F7.ne np6, ?_, F7.new np6, fun p ys H8 hp np hy F8 B8 => ?_⟩
  · rw [List.length_append, List.length_append, List.length_replicate, List.length_replicate, List.length_replicate]; omega
  have ez : (List.replicate v1.toNat (V.str "in") ++ List.replicate v2.toNat (V.str "out")) ++ List.replicate m.toNat (V.str "hand") = ((List.replicate v1.toNat ("in" : Str) ++ List.replicate v2.toNat ("out" : Str)) ++ List.replicate m.toNat ("hand" : Str)).map V.str := by
    rw [List.map_append, List.map_append, List.map_replicate, List.map_replicate, List.map_replicate]
  rw [ez] at hp
  obtain ⟨ss, rfl, hss⟩ := perm_strs hp
  have pf : p ≠ f := fun y => by
    rw [y] at np
    obtain ⟨_, _, _, _, _, e1, _⟩ := F7.new (o := .lst ((List.replicate v1.toNat (V.str "in") ++ List.replicate v2.toNat (V.str "out")) ++ List.replicate m.toNat (V.str "hand"))) np6
    rw [e1] at np
    cases np
  refine ⟨rfl, x, p, ss, rfl, hy, pf, ?_, ?_, ?_, F8, But.trans ((((((((((But.refl.new nl1).trans B1).new np1).new nl2).trans B3).new np2).new np3).new nl4).new np5).new np6) B8⟩
  · rw [hss.length_eq, List.length_append, List.length_append, List.length_replicate, List.length_replicate, List.length_replicate]; omega
  · refine hss.mem_iff.mpr (List.mem_append_right _ (List.mem_replicate.mpr ⟨by omega, rfl⟩))
  · intro s hs
    rcases List.mem_append.mp (hss.mem_iff.mp hs) with hs | hs
    · rcases List.mem_append.mp hs with hs | hs
      · exact .inl (List.mem_replicate.mp hs).2
      · exact .inr (.inl (List.mem_replicate.mp hs).2)
    · exact .inr (.inr (List.mem_replicate.mp hs).2)
end
/-! ### rules as data -/
abbrev ruleD (h : HR) : List PyData := .str h.wd :: (match h.no with | none => [] | some n => [.int n])
theorem rule_dp {K : PySem.W.Frag} {H : Hp} {r : Addr} {h : HR} (e : H r = some (.tup (ruleL h))) : Dp K H (.ref r) (.tuple (ruleD h)) := by
  obtain ⟨wd, no, mom⟩ := h
  cases no with
  | none => exact .tup (SqT.of e) (.cons (.str _) .nil)
  | some n => exact .tup (SqT.of e) (.cons (.str _) (.cons (.int _) .nil))
theorem rule_shaped {h : HR} (k : PyData.canLay0 (.str h.wd) = true) : SeqAt.shaped (.tuple (ruleD h)) = true := by
  obtain ⟨wd, no, mom⟩ := h
  have k : PyData.canLay0 (.str wd) = true := k
  cases no <;> simp [SeqAt.shaped, PyData.canLay0, PyData.canLayAll0, PyData.depth, PyData.depthAll] <;> simpa [PyData.canLay0] using k
theorem GoodHand.lay {h : HR} (g : GoodHand h) : PyData.canLay0 (.str h.wd) = true := by
  have : h.wd ∈ nine ∨ h.wd = "in" ∨ h.wd = "out" := g.1.elim (fun k => .inl k.wd) (fun k => .inr k.1)
  rcases this with k | k | k
  · unfold nine at k
    simp only [List.mem_cons, List.not_mem_nil, or_false] at k
    rcases k with k | k | k | k | k | k | k | k | k <;> rw [k] <;> decide +kernel
  · rw [k]; decide +kernel
  · rw [k]; decide +kernel
theorem one_shaped {z : Str} (k : PyData.canLay0 (.str z) = true) : SeqAt.shaped (.tuple [.str z]) = true := rule_shaped (h := ⟨z, none, 0⟩) k
theorem at0 {xs : List V} {i : Nat} {v : V} (h : xs[i]? = some v) : atI xs (0 + ((i : Nat) : Int)) = some v := by
  rw [Int.zero_add]
  exact atI_nat h
theorem rule_eqv (h : HR) (z : Str) : PyData.eqv (.tuple (ruleD h)) (.tuple [.str z]) = (decide (h.wd = z) && h.no.isNone) := by
  obtain ⟨wd, no, mom⟩ := h
  have e : (wd == z) = decide (wd = z) := by
    by_cases k : wd = z
    · rw [k, decide_eq_true rfl]; exact beq_self_eq_true z
    · rw [decide_eq_false k]; exact beq_eq_false_iff_ne.mpr k
  cases no with
  | none =>
    show (wd == z && true) = (decide (wd = z) && true)
    rw [e]
  | some n =>
    show (wd == z && false) = (decide (wd = z) && false)
    rw [Bool.and_false, Bool.and_false]
theorem GoodHand.door {h : HR} (g : GoodHand h) (z : Str) (hz : z = "in" ∨ z = "out") : (decide (h.wd = z) && h.no.isNone) = decide (h.wd = z) := by
  by_cases k : h.wd = z
  · rw [decide_eq_true k, Bool.true_and]
    rcases g.1 with g | g
    · have := g.wd
      rw [k] at this
      rcases hz with rfl | rfl <;> exact absurd this (by decide +kernel)
    · rw [g.2]; rfl
  · rw [decide_eq_false k]; rfl
/-! ### numbers in lists -/
abbrev nV (n : Nat) : V := .int (n : Nat)
def unN : V → Nat
  | .int i => i.toNat
  | _ => 0
def unI : V → Int
  | .int i => i
  | _ => 0
theorem perm_inv {α : Type} {f : α → V} {g : V → α} (k : ∀ a, g (f a) = a) {ys : List V} {zs : List α} (h : ys.Perm (zs.map f)) : ∃ ss : List α, ys = ss.map f ∧ ss.Perm zs := by
  refine ⟨ys.map g, ?_, ?_⟩
  · rw [List.map_map]
    symm
    refine (List.map_congr_left (g := id) fun y hy => ?_).trans (List.map_id _)
    obtain ⟨z, _, e⟩ := List.mem_map.mp (h.mem_iff.mp hy)
    subst e
    show f (g (f z)) = f z
    rw [k]
  · have q := h.map g
    rw [List.map_map] at q
    have e : zs.map (g ∘ f) = zs := (List.map_congr_left (g := id) fun z _ => k z).trans (List.map_id _)
    rw [e] at q
    exact q
def nd (hs : List HR) (j : Nat) : Nat := match hs[j]? with | some h => (needs h.wd).toNat | none => 0
def tkTo (hs : List HR) : Nat → List Nat
  | 0 => []
  | n + 1 => tkTo hs n ++ List.replicate (nd hs n) n
theorem tk_count (hs : List HR) (k : Nat) : ∀ n, (tkTo hs n).count k = if k < n then nd hs k else 0
  | 0 => by simp [tkTo]
  | n + 1 => by
    unfold tkTo
    rw [List.count_append, tk_count hs k n, List.count_replicate]
    by_cases h1 : k < n
    · have h2 : ¬ (n == k) = true := by simp; omega
      rw [if_pos h1, if_neg h2, if_pos (show k < n + 1 by omega), Nat.add_zero]
    · by_cases h2 : n = k
      · subst h2
        rw [if_neg h1, if_pos (beq_self_eq_true n), if_pos (show n < n + 1 by omega), Nat.zero_add]
      · have h3 : ¬ (n == k) = true := by simpa using h2
        rw [if_neg h1, if_neg h3, if_neg (show ¬ k < n + 1 by omega)]
theorem tk_mem (hs : List HR) : ∀ n k, k ∈ tkTo hs n → k < n
  | 0, k, h => nomatch h
  | n + 1, k, h => by
    rcases List.mem_append.mp h with h | h
    · exact Nat.lt_succ_of_lt (tk_mem hs n k h)
    · rw [(List.mem_replicate.mp h).2]; exact Nat.lt_succ_self n
theorem tk_len (hs : List HR) (z : ∀ h ∈ hs, 0 ≤ needs h.wd) : ∀ n, n ≤ hs.length → ((tkTo hs n).length : Int) = ((hs.take n).map fun h => needs h.wd).sum
  | 0, _ => rfl
  | n + 1, hn => by
    have e : hs[n]? = some hs[n] := List.getElem?_eq_getElem (by omega)
    unfold tkTo
    rw [List.length_append, List.length_replicate, List.take_add_one, e, List.map_append, List.sum_append, Int.natCast_add, tk_len hs z n (by omega)]
    unfold nd
    rw [e]
    have := z hs[n] (List.getElem_mem _)
    simp only [Option.toList, List.map_cons, List.map_nil, List.sum_cons, List.sum_nil]
    omega
structure RoomOk (hs : List HR) (bs : List BR) : Prop where
  hands : hs.length ≤ 12
  good : ∀ h ∈ hs, GoodHand h
  ends : ∀ b ∈ bs, b.one < hs.length ∧ b.to < hs.length
  out : ∀ b ∈ bs, ∀ h, hs[b.one]? = some h → h.wd ≠ "out"
  th : ∀ b ∈ bs, b.th.length ≤ 300 ∧ True
  rank : ∃ rk : Nat → Int, ∀ b ∈ bs, b.th = [] → rk b.one < rk b.to
  count : ∀ k h, hs[k]? = some h → (((bs.map BR.to).count k : Nat) : Int) = needs h.wd
  many : bs.length ≤ 20
structure RoomAt (H : Hp) (r : Addr) (hs : List HR) (bs : List BR) : Prop where
  ex : ∃ (ha ba : Addr) (hv bv : List V), H r = some (.tup [.ref ha, .ref ba]) ∧ H ha = some (.tup hv) ∧ H ba = some (.tup bv) ∧ All2 (HandAt H) hv hs ∧ All2 (BeltAt H) bv bs
theorem RoomAt.keep {H H' : Hp} {r : Addr} {hs : List HR} {bs : List BR} (a : RoomAt H r hs bs) (k : TK H H') : RoomAt H' r hs bs := by
  obtain ⟨ha, ba, hv, bv, e1, e2, e3, a1, a2⟩ := a.ex
  exact ⟨ha, ba, hv, bv, k _ _ e1, k _ _ e2, k _ _ e3, a1.imp fun _ _ z => z.keep k, a2.imp fun _ _ z => z.keep k⟩
section
variable {P : Program} {w : World} {K : PySem.W.Frag} {mg : Str → Option Value} {base : Heap}
def sp_law_room (K : PySem.W.Frag) : Sp := fun vs H Q _ => ∃ (f c : Addr) (m : Int), vs = [.ref f, .int m] ∧ 1 ≤ m ∧ m ≤ 8 ∧ Flow H f c ∧
  ∀ (r : Addr) (hs : List HR) (bs : List BR) (H' : Hp), RoomAt H' r hs bs → RoomOk hs bs → (∃ h ∈ hs, h.wd ≠ "out" ∧ h.wd ≠ "in") → (∀ b ∈ bs, b.th.length ≤ 6) → Flow H' f c → But f H H' → Q (.ref r) H'
/-- what stands while a room is drawn: the draws, the list of its hands -/
structure RI (f c hh : Addr) (H0 H : Hp) (xs : List V) (hs : List HR) : Prop where
  fl : Flow H f c
  bt : But f H0 H
  lh : H hh = some (.lst xs)
  al : All2 (HandAt H) xs hs
  n1 : hh ≠ f
  n2 : H0 hh = none
section
variable {f c hh : Addr} {H0 H H' : Hp} {xs : List V} {hs : List HR}
theorem RI.but (s : RI f c hh H0 H xs hs) (F : Flow H' f c) (b : But f H H') : RI f c hh H0 H' xs hs :=
  { s with fl := F, bt := s.bt.trans b, lh := b _ _ s.lh s.n1, al := s.al.imp fun _ _ k => k.keep (TK.but s.fl b) }
theorem RI.new {p : Addr} {o : HO} (s : RI f c hh H0 H xs hs) (n : H p = none) : RI f c hh H0 (upd H p o) xs hs :=
  { s with fl := s.fl.new n, bt := s.bt.new n, lh := same_new n _ _ s.lh, al := s.al.imp fun _ _ k => k.keep (TK.new n) }
theorem RI.same (s : RI f c hh H0 H xs hs) (k : Same H H') : RI f c hh H0 H' xs hs :=
  { s with fl := s.fl.same k, bt := s.bt.same k, lh := k _ _ s.lh, al := s.al.imp fun _ _ z => z.keep (TK.same k) }
theorem RI.lst {D : Addr} {as bs : List V} (s : RI f c hh H0 H xs hs) (h : H D = some (.lst as)) (d1 : D ≠ f) (d2 : D ≠ c) (d3 : D ≠ hh) (d4 : H0 D = none) : RI f c hh H0 (upd H D (.lst bs)) xs hs :=
  { s with fl := s.fl.lst d1 d2, bt := s.bt.own d4, lh := by rw [upd_ne d3.symm]; exact s.lh, al := s.al.imp fun _ _ z => z.keep (TK.lst h) }
end
theorem ok_law_room {f : Addr} {fd : FuncData} (F : Fun K "_law_room" "_law_room" s_law_room f fd) (T : Top K mg) : FnOk P w K mg base CX0 5 f fd ["_law_flow_here", "_law_most"] (sp_law_room K) := by
  obtain ⟨f_law_hands, fd_law_hands, F_law_hands, b_law_hands, m_law_hands⟩ := T.d_law_hands
  have G_law_hands := ok_law_hands (P := P) (w := w) (base := base) F_law_hands T
  obtain ⟨f_law_shuffled, fd_law_shuffled, F_law_shuffled, b_law_shuffled, m_law_shuffled⟩ := T.d_law_shuffled
  have G_law_shuffled := ok_law_shuffled (P := P) (w := w) (base := base) F_law_shuffled T
  obtain ⟨f_law_pick, fd_law_pick, F_law_pick, b_law_pick, m_law_pick⟩ := T.d_law_pick
  have G_law_pick := ok_law_pick (P := P) (w := w) (base := base) F_law_pick T
  obtain ⟨f_law_needs, fd_law_needs, F_law_needs, b_law_needs, m_law_needs⟩ := T.d_law_needs
  have G_law_needs := ok_law_needs (P := P) (w := w) (base := base) F_law_needs T
  obtain ⟨f_law_thing, fd_law_thing, F_law_thing, b_law_thing, m_law_thing⟩ := T.d_law_thing
  have G_law_thing := ok_law_thing (P := P) (w := w) (base := base) F_law_thing T
  refine F.ok sc_law_room (fun vs H Q E h => ?_) (fun cdv A outer s H vs Q E hr h => ?_)
  · obtain ⟨f, c, m, rfl, _⟩ := h
    rfl
  obtain ⟨f, c, m, rfl, m1, m8, hF, q⟩ := h
  have hm9 : m.natAbs.log2 < 9000 := by
    obtain ⟨j, rfl⟩ : ∃ j : Nat, m = (j : Int) := ⟨m.toNat, by omega⟩
    exact log_small (by omega)
  let R1 : TS := fun D' σ' H' => D'.rt = Q ∧ ∃ (hh rk gv : Addr) (xs : List V) (hs : List HR) (is : List Int) (gs : List Nat), σ' = [some (.ref f), some (.int m), some (.ref hh), some (.ref rk), some (.ref gv), none, none, none, none, none, none] ∧ RI f c hh H H' xs hs ∧ HandsOk hs ∧ H' rk = some (.lst (is.map V.int)) ∧ is.length = hs.length ∧ H' gv = some (.lst (gs.map nV)) ∧ gs ≠ [] ∧ gs.length ≤ 12 ∧ (∀ k ∈ gs, ∃ h, hs[k]? = some h ∧ h.wd ≠ "out") ∧ rk ≠ f ∧ gv ≠ f
  let R2 : TS := fun D' σ' H' => D'.rt = Q ∧ ∃ (hh rk gv tk : Addr) (xs : List V) (hs : List HR) (is : List Int) (gs ts : List Nat) (v5 : Option V), σ' = [some (.ref f), some (.int m), some (.ref hh), some (.ref rk), some (.ref gv), v5, some (.ref tk), none, none, none, none] ∧ RI f c hh H H' xs hs ∧ HandsOk hs ∧ H' rk = some (.lst (is.map V.int)) ∧ is.length = hs.length ∧ H' gv = some (.lst (gs.map nV)) ∧ gs ≠ [] ∧ gs.length ≤ 12 ∧ (∀ k ∈ gs, ∃ h, hs[k]? = some h ∧ h.wd ≠ "out") ∧ rk ≠ f ∧ gv ≠ f ∧ tk ≠ f ∧ H' tk = some (.lst (ts.map nV)) ∧ ts = tkTo hs hs.length
  refine ⟨_, (pss_cons (ps_set (i := 2) sc_law_room.nd rfl (Or.inr rfl) (pe_call G_law_hands (hr.mono (by decide)) (by rfl) m_law_hands F_law_hands.kp b_law_hands .nil pass0 (pa_cons (pv 0) (pa_cons (pe_op op_add pe_int (pe_call G_law_pick (hr.mono (by decide)) (by rfl) m_law_pick F_law_pick.kp b_law_pick .nil pass0 (pa_cons (pv 0) (pa_cons (pv 1) pa_nil)))) pa_nil))))
      (pss_cons (ps_set (i := 3) sc_law_room.nd rfl (Or.inl rfl) (pe_call G_law_shuffled (hr.mono (by decide)) (by rfl) m_law_shuffled F_law_shuffled.kp b_law_shuffled .nil pass0 (pa_cons (pv 0) (pa_cons (pe_listRg rfl (by rfl) T.m_list (prg_1 (by rfl) T.m_range (pe_callB (call_len_seqK K rfl) (by rfl) T.m_len (by decide +kernel) (pa_cons (pv 2) pa_nil)))) pa_nil))))
      (pss_cons (ps_setLc (i := 4) (own := [("_law_k", 5)]) (g := gName 5) (by rfl) sc_law_room.nd rfl rfl (sw_true rfl rfl rfl (by decide +kernel)) (pi_range1 (by rfl) T.m_range (pa_cons (pe_callB (call_len_seqK K rfl) (by rfl) T.m_len (by decide +kernel) (pa_cons (pv 2) pa_nil)) pa_nil)) (blkOk_by (own := [("_law_k", 5)]) (N := N_law_room) (sc := defScope s_law_room) (by decide +kernel)) (fun _ _ _ _ _ => (pg_name (i := 5) sc_law_room.nd rfl (Or.inl rfl))) (fun _ _ _ _ _ => pts_one (pt_cmpR (op_neDK K rfl hr.units) (pe_ix (ix_tupK K rfl) (pe_ix (ix_listK K rfl) (pv 2) (pv 5) (fun _ _ => rfl)) pe_int (fun _ _ => rfl)) (pe_tup (pa_cons pe_str pa_nil)) (nomark _))) (fun _ _ _ _ _ => (pv 5)))
      (PSs.to (pss_cons (ps_set (i := 6) sc_law_room.nd rfl (Or.inl rfl) (pe_lst pa_nil))
      (pss_cons (ps_for PassesOwn.never rfl (pi_range1 (by rfl) T.m_range (pa_cons (pe_callB (call_len_seqK K rfl) (by rfl) T.m_len (by decide +kernel) (pa_cons (pv 2) pa_nil)) pa_nil)) (pg_name (i := 5) sc_law_room.nd rfl (Or.inl rfl))
        (pss_one (ps_set (i := 6) sc_law_room.nd rfl (Or.inl rfl) (pe_op op_cat (pv 6) (pe_op op_rep (pe_lst (pa_cons (pv 5) pa_nil)) (pe_call G_law_needs (hr.mono (by decide)) (by rfl) m_law_needs F_law_needs.kp b_law_needs .nil pass0 (pa_cons (pe_ix (ix_tupK K rfl) (pe_ix (ix_listK K rfl) (pv 2) (pv 5) (fun _ _ => rfl)) pe_int (fun _ _ => rfl)) pa_nil)))))))
      (PSs.to (pss_cons (ps_set (i := 7) sc_law_room.nd rfl (Or.inl rfl) (pe_lst pa_nil))
      (pss_cons (ps_for PassesOwn.never rfl (pi_listK K rfl (pe_call G_law_shuffled (hr.mono (by decide)) (by rfl) m_law_shuffled F_law_shuffled.kp b_law_shuffled .nil pass0 (pa_cons (pv 0) (pa_cons (pv 6) pa_nil)))) (pg_name (i := 8) sc_law_room.nd rfl (Or.inl rfl))
        (pss_cons (ps_set (i := 9) sc_law_room.nd rfl (Or.inl rfl) (pe_ix (ix_listK K rfl) (pv 4) (pe_call G_law_pick (hr.mono (by decide)) (by rfl) m_law_pick F_law_pick.kp b_law_pick .nil pass0 (pa_cons (pv 0) (pa_cons (pe_callB (call_len_seqK K rfl) (by rfl) T.m_len (by decide +kernel) (pa_cons (pv 4) pa_nil)) pa_nil))) (fun _ _ => rfl)))
      (pss_cons (ps_set (i := 10) sc_law_room.nd rfl (Or.inl rfl) (pe_ix (ix_listK K rfl) (pe_lst (pa_cons pe_int (pa_cons pe_int (pa_cons pe_int (pa_cons pe_int (pa_cons pe_int (pa_cons pe_int (pa_cons pe_int (pa_cons pe_int pa_nil))))))))) (pe_call G_law_pick (hr.mono (by decide)) (by rfl) m_law_pick F_law_pick.kp b_law_pick .nil pass0 (pa_cons (pv 0) (pa_cons pe_int pa_nil))) (fun _ _ => rfl)))
      (pss_cons (ps_if (pt_cmpR op_ge (pe_ix (ix_listK K rfl) (pv 3) (pv 9) (fun _ _ => rfl)) (pe_ix (ix_listK K rfl) (pv 3) (pv 8) (fun _ _ => rfl)) (nomark _)) (pss_one (ps_set (i := 10) sc_law_room.nd rfl (Or.inl rfl) (pe_callB (call_max2 rfl) (by rfl) T.m_max (by decide +kernel) (pa_cons pe_int (pa_cons (pv 10) pa_nil))))) pss_nil)
      (pss_one (ps_expr (pe_bmK K rfl PySem.F.plainAttrs_list PySem.F.slot_list_append PySem.F.type_list_append mt_append (pv 7) (pa_cons (pe_tup (pa_cons (pv 9) (pa_cons (pv 8) (pa_cons (pe_callTy (call_tuple_ofK K rfl) (by rfl) T.m_tuple (by decide +kernel) (pa_cons (pe_lc (own := [("_law_k", 5)]) (g := gName 5) (tt := tYes) (by rfl) sc_law_room.nd (pi_range1 (by rfl) T.m_range (pa_cons (pv 10) pa_nil)) (blkOk_by (own := [("_law_k", 5)]) (N := N_law_room) (sc := defScope s_law_room) (by decide +kernel)) (fun _ _ _ _ _ => (pg_name (i := 5) sc_law_room.nd rfl (Or.inl rfl))) (fun _ _ _ _ _ => pts_nil) (fun _ _ _ _ _ => (pe_call G_law_thing (hr.mono (by decide)) (by rfl) m_law_thing F_law_thing.kp b_law_thing .nil pass0 (pa_cons (pv 0) pa_nil)))) pa_nil)) pa_nil)))) pa_nil))))))))
      (pss_one (ps_ret (pe_tup (pa_cons (pe_callTy (call_tuple_ofK K rfl) (by rfl) T.m_tuple (by decide +kernel) (pa_cons (pv 2) pa_nil)) (pa_cons (pe_callTy (call_tuple_ofK K rfl) (by rfl) T.m_tuple (by decide +kernel) (pa_cons (pv 7) pa_nil)) pa_nil))))))) R2 ?tail2))) R1 ?tail1)))), ?_⟩
  case tail2 =>
    rintro D' σ' H1 ⟨eD, hh, rk, gv, tk, xs, hs, is, gs, ts, v5, rfl, I1, ok, hrk, lis, hgv, gne, glen, gok, nrk, ngv, ntk, htk, ets⟩
    have hx : xs.length = hs.length := I1.al.length
    have len12 := ok.len
    have lts : ts.length ≤ 20 := by
      have a := tk_len hs ok.nz hs.length (Nat.le_refl _)
      rw [List.take_length, ← ets] at a
      have := ok.sum
      omega
    refine ⟨(by show 0 ≤ sizeLine; decide), fun bl nbl => ?_⟩
    have I2 := I1.new (o := .lst []) nbl
    refine ⟨_, rfl, _, rfl, f, c, tk, _, rfl, SqL.of (same_new nbl _ _ htk), ntk, by rw [List.length_map]; omega, I2.fl, fun sh ys H3 hp nsh hsh F3 B3 => ?_⟩
    obtain ⟨tt, rfl, htt⟩ := perm_inv (f := nV) (g := unN) (fun n => by show ((n : Nat) : Int).toNat = n; omega) hp
    have I3 := I2.but F3 B3
    have bf : bl ≠ f := I1.fl.ne nbl
    have bc : bl ≠ c := I1.fl.nec nbl
    have hbl3 := B3 _ _ upd_same bf
    have bsh : bl ≠ sh := fun e => by rw [← e, upd_same] at nsh; cases nsh
    have bnone : H bl = Option.none := I1.bt.none nbl bf
    have rank : Nat → Int := fun k => is.getD k 0
    refine ⟨sh, rfl, ⟨_, SqL.of hsh⟩, for_list (K := K) (a := sh) (xs := tt.map nV) (fun i σ H4 => ∃ (bv : List V) (bs : List BR) (v5 v8 v9 v10 : Option V), σ = [some (.ref f), some (.int m), some (.ref hh), some (.ref rk), some (.ref gv), v5, some (.ref tk), some (.ref bl), v8, v9, v10] ∧ RI f c hh H H4 xs hs ∧ H4 rk = some (.lst (is.map V.int)) ∧ H4 gv = some (.lst (gs.map nV)) ∧ H4 sh = some (.lst (tt.map nV)) ∧ H4 bl = some (.lst bv) ∧ All2 (BeltAt H4) bv bs ∧ bs.map BR.to = tt.take i ∧
        (∀ b ∈ bs, b.one < hs.length ∧ (∀ h, hs[b.one]? = some h → h.wd ≠ "out") ∧ b.th.length ≤ 6 ∧ (∀ x ∈ b.th, Small x) ∧ (b.th = [] → is.getD b.one 0 < is.getD b.to 0)))
      ⟨[], [], v5, none, none, none, rfl, I3, B3 _ _ (same_new nbl _ _ hrk) nrk, B3 _ _ (same_new nbl _ _ hgv) ngv, hsh, hbl3, .nil, rfl, (fun _ h => nomatch h)⟩ (fun i σ H4 _ ⟨_, _, _, _, _, _, _, _, _, _, h, _⟩ => SqL.of h) ?_ ?_⟩
    · rintro i y σ H4 hi ⟨bv, bs, v5, v8, v9, v10, rfl, I4, hrk4, hgv4, hsh4, hbl4, al, em, hb⟩
      rw [List.getElem?_map] at hi
      cases et : tt[i]? with
      | none => rw [et] at hi; cases hi
      | some to =>
      rw [et] at hi
      obtain rfl : nV to = y := Option.some.inj hi
      have toL : to < hs.length := tk_mem hs _ _ (by rw [← ets]; exact htt.mem_iff.mp (List.mem_of_getElem? et))
      have il : i < 20 := by have := (List.getElem?_eq_some_iff.mp et).1; rw [htt.length_eq] at this; omega
      have lb : bs.length = i := by
        have := congrArg List.length em
        rw [List.length_map, List.length_take, Nat.min_eq_left (Nat.le_of_lt (List.getElem?_eq_some_iff.mp et).1)] at this
        exact this
      have g0 : 0 < gs.length := List.length_pos_iff.mpr gne
      refine ⟨_, rfl, _, rfl, _, rfl, gv, _, rfl, .inl (SqL.of hgv4), f, c, _, rfl, (by rw [List.length_map]; omega), (by rw [List.length_map]; exact log_small (by omega)), I4.fl, fun z H5 z0 z1 F5 B5 => ?_⟩
      rw [List.length_map] at z1
      have I5 := I4.but F5 B5
      have hgv5 := B5 _ _ hgv4 ngv
      obtain ⟨one, eo, ho⟩ : ∃ one, atI (gs.map nV) z = some (nV one) ∧ one ∈ gs := by
        have hk : z.toNat < gs.length := by omega
        have ek : z = ((z.toNat : Nat) : Int) := by omega
        refine ⟨gs[z.toNat], ?_, List.getElem_mem _⟩
        have q2 : atI (gs.map nV) ((z.toNat : Nat) : Int) = some (nV gs[z.toNat]) := atI_nat (by rw [List.getElem?_map, List.getElem?_eq_getElem hk]; rfl)
        rw [← ek] at q2
        exact q2
      obtain ⟨ho1, eh1, hout⟩ := gok one ho
      have oneL : one < hs.length := (List.getElem?_eq_some_iff.mp eh1).1
      refine ⟨gv, _, _, _, rfl, rfl, SqL.of hgv5, eo, ?_⟩
      refine ⟨(by show 8 ≤ sizeLine; decide), fun tl ntl => ?_⟩
      have I6 := I5.new (o := .lst [V.int 0, V.int 0, V.int 0, V.int 1, V.int 1, V.int 2, V.int 3, V.int 6]) ntl
      refine ⟨_, rfl, f, c, 8, rfl, by decide, by decide +kernel, I6.fl, fun y2 H7 y0 y8 F7 B7 => ?_⟩
      have I7 := I6.but F7 B7
      have htl := B7 _ _ upd_same (I5.fl.ne ntl)
      obtain ⟨tr, htr, tr0, tr6⟩ : ∃ tr : Int, atI [V.int 0, V.int 0, V.int 0, V.int 1, V.int 1, V.int 2, V.int 3, V.int 6] y2 = some (.int tr) ∧ 0 ≤ tr ∧ tr ≤ 6 := by
        have : y2 = 0 ∨ y2 = 1 ∨ y2 = 2 ∨ y2 = 3 ∨ y2 = 4 ∨ y2 = 5 ∨ y2 = 6 ∨ y2 = 7 := by omega
        rcases this with rfl | rfl | rfl | rfl | rfl | rfl | rfl | rfl
        · exact ⟨0, rfl, by decide, by decide⟩
        · exact ⟨0, rfl, by decide, by decide⟩
        · exact ⟨0, rfl, by decide, by decide⟩
        · exact ⟨1, rfl, by decide, by decide⟩
        · exact ⟨1, rfl, by decide, by decide⟩
        · exact ⟨2, rfl, by decide, by decide⟩
        · exact ⟨3, rfl, by decide, by decide⟩
        · exact ⟨6, rfl, by decide, by decide⟩
      refine ⟨tl, _, _, _, rfl, rfl, SqL.of htl, htr, ?_⟩
      have k7 : But f H4 H7 := (B5.new ntl).trans B7
      have hrk7 := k7 _ _ hrk4 nrk
      have hgv7 := k7 _ _ hgv4 ngv
      have shf : sh ≠ f := fun e => by rw [e] at nsh; obtain ⟨_, _, _, _, _, e1, _⟩ := I2.fl; rw [e1] at nsh; cases nsh
      have hsh7 := k7 _ _ hsh4 shf
      have hbl7 := k7 _ _ hbl4 bf
      have tk7 : TK H4 H7 := (TK.but I4.fl B5).trans ((TK.new ntl).trans (TK.but I6.fl B7))
      have al7 : All2 (BeltAt H7) bv bs := al.imp fun _ _ z => z.keep tk7
      have r1 : (is.map V.int)[one]? = some (.int (is.getD one 0)) := by
        rw [List.getElem?_map, List.getD_eq_getElem?_getD, List.getElem?_eq_getElem (by omega)]; rfl
      have r2 : (is.map V.int)[to]? = some (.int (is.getD to 0)) := by
        rw [List.getElem?_map, List.getD_eq_getElem?_getD, List.getElem?_eq_getElem (by omega)]; rfl
      have bvl : bv.length = i := by rw [al.length, lb]
      -- the end of a turn, with so many trays
      refine ⟨_, rfl, _, rfl, rk, _, _, _, rfl, rfl, SqL.of hrk7, atI_nat r1, _, rfl, _, rfl, rk, _, _, _, rfl, rfl, SqL.of hrk7, atI_nat r2, _, _, rfl, rfl, _, rfl, if_bl (fun kk => ?_) (fun kk => ?_)⟩
      · refine ⟨_, rfl, _, _, rfl, ?_⟩
        generalize ht : (if tr > 1 then tr else 1) = tn
        have tn0 : 0 ≤ tn := by rw [← ht]; split <;> omega
        have tn6 : tn ≤ 6 := by rw [← ht]; split <;> omega
        have ttt : tn.toNat = 0 → is.getD one 0 < is.getD to 0 := fun e => by
          exfalso
          have : 1 ≤ tn := by rw [← ht]; split <;> omega
          omega
        refine ⟨_, rfl, .inl ⟨rfl, _, SqL.of hbl7⟩, _, rfl, _, rfl, _, rfl, _, rfl, by omega, by omega, fun D nD => lc_range (lo := 0) (n := tn.toNat) (fun j H8 => ∃ vs : List Int, vs.length = j ∧ H8 D = some (.lst (vs.map V.int)) ∧ (∀ x ∈ vs, Small x) ∧ RI f c hh H H8 xs hs ∧ But f H7 H8 ∧ TK H7 H8 ∧ D ≠ f ∧ D ≠ c ∧ D ≠ hh ∧ H D = Option.none ∧ H7 D = Option.none)
          ⟨[], rfl, upd_same, (fun _ h => nomatch h), I7.new nD, But.refl.new nD, TK.new nD, I7.fl.ne nD, I7.fl.nec nD, (ne_of_none I7.lh nD).symm, I7.bt.none nD (I7.fl.ne nD), nD⟩ ?_ ?_⟩
        · rintro j H8 hj ⟨vs, lv, hD, sm, I8, b8, t8, d1, d2, d3, d4, d5⟩
          refine ⟨rfl, yes_in ⟨_, rfl, f, c, rfl, I8.fl, fun x H9 sx F9 B9 => ⟨_, B9 _ _ hD d1, ?_, vs ++ [x], by rw [List.length_append, lv]; rfl, ?_, ?_, (I8.but F9 B9).lst (B9 _ _ hD d1) d1 d2 d3 d4, (b8.trans B9).own d5, (t8.trans (TK.but I8.fl B9)).trans (TK.lst (B9 _ _ hD d1)), d1, d2, d3, d4, d5⟩⟩⟩
          · rw [List.length_map, lv]; exact small1000 (by omega)
          · rw [upd_same, List.map_append]; rfl
          · intro y hy
            rcases List.mem_append.mp hy with hy | hy
            · exact sm y hy
            · obtain rfl : y = x := by simpa using hy
              exact sx
        · rintro H8 ⟨vs, lv, hD, sm, I8, b8, t8, d1, d2, d3, d4, d5⟩
          refine ⟨D, _, rfl, .inl ⟨SqL.of hD, fun g ng => ⟨(by show 3 ≤ sizeLine; decide), fun t nt => ?_⟩⟩⟩
          have I9 := (I8.new (o := .tup (vs.map V.int)) ng).new (o := .tup [nV one, nV to, V.ref g]) nt
          have hbl8 := same_new (o := .tup [nV one, nV to, V.ref g]) nt _ _ (same_new (o := .tup (vs.map V.int)) ng _ _ (b8 _ _ hbl7 bf))
          have t9 : TK H7 (upd (upd H8 g (.tup (vs.map V.int))) t (.tup [nV one, nV to, V.ref g])) := (t8.trans (TK.new ng)).trans (TK.new nt)
          have s9 : ∀ b o, H7 b = some o → b ≠ f → (upd (upd H8 g (.tup (vs.map V.int))) t (.tup [nV one, nV to, V.ref g])) b = some o := fun b o e n => same_new nt _ _ (same_new ng _ _ (b8 _ _ e n))
          have bh : bl ≠ hh := fun e => by
            have h1 := I1.lh
            rw [← e, nbl] at h1
            cases h1
          have brk : bl ≠ rk := fun e => by
            have h1 := hrk
            rw [← e, nbl] at h1
            cases h1
          have bgv : bl ≠ gv := fun e => by
            have h1 := hgv
            rw [← e, nbl] at h1
            cases h1
          refine ⟨bl, _, _, rfl, rfl, hbl8, small1000 (by rw [bvl]; omega), ?_⟩
          refine ⟨bv ++ [V.ref t], bs ++ [⟨one, to, vs⟩], _, _, _, _, rfl, I9.lst hbl8 bf bc bh bnone, ?_, ?_, ?_, upd_same, ?_, ?_, ?_⟩
          · rw [upd_ne brk.symm]; exact s9 _ _ hrk7 nrk
          · rw [upd_ne bgv.symm]; exact s9 _ _ hgv7 ngv
          · rw [upd_ne bsh.symm]; exact s9 _ _ hsh7 shf
          · exact ((al7.imp fun _ _ z => z.keep t9).snoc ⟨t, g, rfl, upd_same, same_new nt _ _ upd_same⟩).imp fun _ _ z => z.keep (TK.lst hbl8)
          · rw [List.map_append, em, List.take_add_one, et]; rfl
          · intro b hb2
            rcases List.mem_append.mp hb2 with hb2 | hb2
            · exact hb b hb2
            · obtain rfl : b = ⟨one, to, vs⟩ := by simpa using hb2
              refine ⟨oneL, fun h e => ?_, by show vs.length ≤ 6; omega, sm, fun e => ?_⟩
              · have e : hs[one]? = some h := e
                rw [eh1] at e
                cases e
                exact hout
              · have e : vs = [] := e
                rw [e] at lv
                exact ttt (by simpa using lv.symm)
      · obtain ⟨tn, ht⟩ : ∃ tn, tn = tr := ⟨_, rfl⟩
        rw [← ht]
        have tn0 : 0 ≤ tn := by omega
        have tn6 : tn ≤ 6 := by omega
        have ttt : tn.toNat = 0 → is.getD one 0 < is.getD to 0 := fun _ => by
          have : ¬ is.getD to 0 ≤ is.getD one 0 := of_decide_eq_false kk
          omega
        refine ⟨_, rfl, .inl ⟨rfl, _, SqL.of hbl7⟩, _, rfl, _, rfl, _, rfl, _, rfl, by omega, by omega, fun D nD => lc_range (lo := 0) (n := tn.toNat) (fun j H8 => ∃ vs : List Int, vs.length = j ∧ H8 D = some (.lst (vs.map V.int)) ∧ (∀ x ∈ vs, Small x) ∧ RI f c hh H H8 xs hs ∧ But f H7 H8 ∧ TK H7 H8 ∧ D ≠ f ∧ D ≠ c ∧ D ≠ hh ∧ H D = Option.none ∧ H7 D = Option.none)
          ⟨[], rfl, upd_same, (fun _ h => nomatch h), I7.new nD, But.refl.new nD, TK.new nD, I7.fl.ne nD, I7.fl.nec nD, (ne_of_none I7.lh nD).symm, I7.bt.none nD (I7.fl.ne nD), nD⟩ ?_ ?_⟩
        · rintro j H8 hj ⟨vs, lv, hD, sm, I8, b8, t8, d1, d2, d3, d4, d5⟩
          refine ⟨rfl, yes_in ⟨_, rfl, f, c, rfl, I8.fl, fun x H9 sx F9 B9 => ⟨_, B9 _ _ hD d1, ?_, vs ++ [x], by rw [List.length_append, lv]; rfl, ?_, ?_, (I8.but F9 B9).lst (B9 _ _ hD d1) d1 d2 d3 d4, (b8.trans B9).own d5, (t8.trans (TK.but I8.fl B9)).trans (TK.lst (B9 _ _ hD d1)), d1, d2, d3, d4, d5⟩⟩⟩
          · rw [List.length_map, lv]; exact small1000 (by omega)
          · rw [upd_same, List.map_append]; rfl
          · intro y hy
            rcases List.mem_append.mp hy with hy | hy
            · exact sm y hy
            · obtain rfl : y = x := by simpa using hy
              exact sx
        · rintro H8 ⟨vs, lv, hD, sm, I8, b8, t8, d1, d2, d3, d4, d5⟩
          refine ⟨D, _, rfl, .inl ⟨SqL.of hD, fun g ng => ⟨(by show 3 ≤ sizeLine; decide), fun t nt => ?_⟩⟩⟩
          have I9 := (I8.new (o := .tup (vs.map V.int)) ng).new (o := .tup [nV one, nV to, V.ref g]) nt
          have hbl8 := same_new (o := .tup [nV one, nV to, V.ref g]) nt _ _ (same_new (o := .tup (vs.map V.int)) ng _ _ (b8 _ _ hbl7 bf))
          have t9 : TK H7 (upd (upd H8 g (.tup (vs.map V.int))) t (.tup [nV one, nV to, V.ref g])) := (t8.trans (TK.new ng)).trans (TK.new nt)
          have s9 : ∀ b o, H7 b = some o → b ≠ f → (upd (upd H8 g (.tup (vs.map V.int))) t (.tup [nV one, nV to, V.ref g])) b = some o := fun b o e n => same_new nt _ _ (same_new ng _ _ (b8 _ _ e n))
          have bh : bl ≠ hh := fun e => by
            have h1 := I1.lh
            rw [← e, nbl] at h1
            cases h1
          have brk : bl ≠ rk := fun e => by
            have h1 := hrk
            rw [← e, nbl] at h1
            cases h1
          have bgv : bl ≠ gv := fun e => by
            have h1 := hgv
            rw [← e, nbl] at h1
            cases h1
          refine ⟨bl, _, _, rfl, rfl, hbl8, small1000 (by rw [bvl]; omega), ?_⟩
          refine ⟨bv ++ [V.ref t], bs ++ [⟨one, to, vs⟩], _, _, _, _, rfl, I9.lst hbl8 bf bc bh bnone, ?_, ?_, ?_, upd_same, ?_, ?_, ?_⟩
          · rw [upd_ne brk.symm]; exact s9 _ _ hrk7 nrk
          · rw [upd_ne bgv.symm]; exact s9 _ _ hgv7 ngv
          · rw [upd_ne bsh.symm]; exact s9 _ _ hsh7 shf
          · exact ((al7.imp fun _ _ z => z.keep t9).snoc ⟨t, g, rfl, upd_same, same_new nt _ _ upd_same⟩).imp fun _ _ z => z.keep (TK.lst hbl8)
          · rw [List.map_append, em, List.take_add_one, et]; rfl
          · intro b hb2
            rcases List.mem_append.mp hb2 with hb2 | hb2
            · exact hb b hb2
            · obtain rfl : b = ⟨one, to, vs⟩ := by simpa using hb2
              refine ⟨oneL, fun h e => ?_, by show vs.length ≤ 6; omega, sm, fun e => ?_⟩
              · have e : hs[one]? = some h := e
                rw [eh1] at e
                cases e
                exact hout
              · have e : vs = [] := e
                rw [e] at lv
                exact ttt (by simpa using lv.symm)
    · rintro σ H4 ⟨bv, bs, v5, v8, v9, v10, rfl, I4, hrk4, hgv4, hsh4, hbl4, al, em, hb⟩
      rw [List.length_map, List.take_length] at em
      have lb : bs.length = ts.length := by
        have := congrArg List.length em
        rw [List.length_map] at this
        rw [this, htt.length_eq]
      refine ⟨_, rfl, hh, _, rfl, .inl ⟨SqL.of I4.lh, fun a1 na1 => ⟨_, rfl, bl, _, rfl, .inl ⟨SqL.of (same_new na1 _ _ hbl4), fun a2 na2 => ⟨(by show 2 ≤ sizeLine; decide), fun a3 na3 => ?_⟩⟩⟩⟩⟩
      rw [eD]
      have k1 : TK H4 (upd (upd (upd H4 a1 (.tup xs)) a2 (.tup bv)) a3 (.tup [V.ref a1, V.ref a2])) := ((TK.new na1).trans (TK.new na2)).trans (TK.new na3)
      refine q a3 hs bs _ ⟨a1, a2, xs, bv, upd_same, same_new na3 _ _ (same_new na2 _ _ upd_same), same_new na3 _ _ upd_same, I4.al.imp fun _ _ z => z.keep k1, al.imp fun _ _ z => z.keep k1⟩ ⟨ok.len, ok.good, fun b hb2 => ⟨(hb b hb2).1, ?_⟩, fun b hb2 => (hb b hb2).2.1, fun b hb2 => ⟨Nat.le_trans (hb b hb2).2.2.1 (by decide), trivial⟩, ⟨fun k => is.getD k 0, fun b hb2 => (hb b hb2).2.2.2.2⟩, fun k h hk => ?_, by omega⟩ ok.one (fun b hb2 => (hb b hb2).2.2.1) (((I4.fl.new na1).new na2).new na3) (((I4.bt.new na1).new na2).new na3)
      · have : b.to ∈ bs.map BR.to := List.mem_map.mpr ⟨b, hb2, rfl⟩
        rw [em] at this
        exact tk_mem hs _ _ (by rw [← ets]; exact htt.mem_iff.mp this)
      · rw [em, htt.count_eq, ets, tk_count, if_pos (List.getElem?_eq_some_iff.mp hk).1]
        unfold nd
        rw [hk]
        have := ok.nz h (List.mem_of_getElem? hk)
        show (((needs h.wd).toNat : Nat) : Int) = needs h.wd
        omega
  case tail1 =>
    rintro D' σ' H1 ⟨eD, hh, rk, gv, xs, hs, is, gs, rfl, I1, ok, hrk, lis, hgv, gne, glen, gok, nrk, ngv⟩
    refine ⟨(by show 0 ≤ sizeLine; decide), fun tk ntk => ?_⟩
    have I2 := I1.new (o := .lst []) ntk
    have hx : xs.length = hs.length := I1.al.length
    refine ⟨_, rfl, hh, _, rfl, .inl (SqL.of I2.lh), _, rfl, by omega, (by rw [hx]; have := ok.len; omega), for_range (lo := 0) (n := xs.length) (fun i σ H2 => ∃ (tk : Addr) (v5 : Option V), σ = [some (.ref f), some (.int m), some (.ref hh), some (.ref rk), some (.ref gv), v5, some (.ref tk), none, none, none, none] ∧ RI f c hh H H2 xs hs ∧ H2 rk = some (.lst (is.map V.int)) ∧ H2 gv = some (.lst (gs.map nV)) ∧ tk ≠ f ∧ H2 tk = some (.lst ((tkTo hs i).map nV)))
      ⟨tk, none, rfl, I2, same_new ntk _ _ hrk, same_new ntk _ _ hgv, I1.fl.ne ntk, upd_same⟩ ?_ ?_⟩
    · rintro i σ H2 hi ⟨tk, v5, rfl, I3, hrk3, hgv3, tf, htk⟩
      have eh : hs[i]? = some hs[i] := List.getElem?_eq_getElem (by omega)
      obtain ⟨x, ex, ⟨t, r, rfl, e1, e2⟩⟩ := I3.al.get eh
      have z0 := ok.nz _ (List.mem_of_getElem? eh)
      have zs : needs hs[i].wd ≤ 3 := by
        unfold needs
        split
        · decide
        · split
          · decide
          · split <;> decide
      have sz : (tkTo hs i).length ≤ 20 := by
        have a := tk_len hs ok.nz i (by omega)
        have b : ((hs.take i).map fun h => needs h.wd).sum ≤ (hs.map fun h => needs h.wd).sum := by
          have e : hs.map (fun h => needs h.wd) = (hs.take i).map (fun h => needs h.wd) ++ (hs.drop i).map (fun h => needs h.wd) := by rw [← List.map_append, List.take_append_drop]
          rw [e, List.sum_append]
          have : 0 ≤ ((hs.drop i).map fun h => needs h.wd).sum := by
            have hz : ∀ h ∈ hs.drop i, 0 ≤ needs h.wd := fun h hh => ok.nz h (List.mem_of_mem_drop hh)
            revert hz
            generalize hs.drop i = l
            intro hz
            induction l with
            | nil => decide
            | cons a l ih =>
              have := hz a (List.mem_cons_self ..)
              have := ih fun h hh => hz h (List.mem_cons_of_mem _ hh)
              rw [List.map_cons, List.sum_cons]
              omega
          omega
        have := ok.sum
        omega
      refine ⟨_, rfl, _, rfl, (by show 1 ≤ sizeLine; decide), fun l1 nl1 => ?_⟩
      have I4 := I3.new (o := .lst [V.int (0 + ((i : Nat) : Int))]) nl1
      refine ⟨_, rfl, _, rfl, hh, _, _, _, rfl, rfl, SqL.of I4.lh, at0 ex, t, _, _, _, rfl, rfl, SqT.of (same_new nl1 _ _ e1), atI_nat (j := 0) rfl, r, hs[i].wd, _, rfl, SqT.of (same_new nl1 _ _ e2), fun H5 s5 => ?_⟩
      have I5 := I4.same s5
      have g1 := s5 _ _ upd_same
      have g2 := s5 _ _ (same_new nl1 _ _ htk)
      refine ⟨l1, _, _, rfl, rfl, g1, by omega, by omega, little (by show 1 * (needs hs[i].wd).toNat ≤ 1000; omega), fun l2 nl2 => ?_⟩
      rw [flat_rep]
      have I6 := I5.new (o := .lst (List.replicate (needs hs[i].wd).toNat (V.int (0 + ((i : Nat) : Int))))) nl2
      refine ⟨tk, l2, _, _, rfl, rfl, same_new nl2 _ _ g2, upd_same, ?_, fun l3 nl3 => ?_⟩
      · rw [List.length_map, List.length_replicate]; exact little (by omega)
      refine ⟨l3, _, rfl, I6.new nl3, same_new nl3 _ _ (same_new nl2 _ _ (s5 _ _ (same_new nl1 _ _ hrk3))), same_new nl3 _ _ (same_new nl2 _ _ (s5 _ _ (same_new nl1 _ _ hgv3))), I6.fl.ne nl3, ?_⟩
      rw [upd_same]
      have e : nd hs i = (needs hs[i].wd).toNat := by unfold nd; rw [eh]
      rw [show tkTo hs (i + 1) = tkTo hs i ++ List.replicate (nd hs i) i from rfl, List.map_append, List.map_replicate, e, Int.zero_add]
    · rintro σ H2 ⟨tk, v5, rfl, I3, hrk3, hgv3, tf, htk⟩
      exact ⟨eD, hh, rk, gv, tk, xs, hs, is, gs, _, v5, rfl, I3, ok, hrk3, lis, hgv3, gne, glen, gok, nrk, ngv, tf, htk, by rw [hx]⟩
  refine ⟨_, rfl, _, rfl, _, rfl, f, c, m, rfl, by omega, hm9, hF, fun v1 H1 a1 b1 F1 B1 => ?_⟩
  refine ⟨_, _, rfl, rfl, f, c, _, rfl, by omega, by omega, F1, fun hh xs hs H2 nhh hhh al ok F2 B2 => ?_⟩
  have hx : xs.length = hs.length := al.length
  have len12 := ok.len
  have nf : hh ≠ f := F1.ne nhh
  have I2 : RI f c hh H H2 xs hs := ⟨F2, B1.trans B2, hhh, al, nf, B1.none nhh nf⟩
  -- ranks
  refine ⟨_, rfl, _, rfl, hh, _, rfl, .inl (SqL.of I2.lh), _, rfl, ⟨by omega, by omega, by omega, by omega, by omega⟩, fun rg nrg => ?_⟩
  have I3 := I2.new (o := .lst (rgV 0 ((xs.length : Nat) : Int))) nrg
  refine ⟨f, c, rg, _, rfl, SqL.of upd_same, I2.fl.ne nrg, ?_, I3.fl, fun rk ys H4 hp nrk hrk F4 B4 => ?_⟩
  · rw [rgV_length]; omega
  have erg : rgV 0 ((xs.length : Nat) : Int) = ((List.range xs.length).map fun i => ((i : Nat) : Int)).map V.int := by
    unfold rgV
    rw [List.map_map, show (((xs.length : Nat) : Int) - 0).toNat = xs.length by omega]
    refine List.map_congr_left fun i _ => ?_
    show V.int (0 + ((i : Nat) : Int)) = V.int ((i : Nat) : Int)
    rw [Int.zero_add]
  rw [erg] at hp
  obtain ⟨is, rfl, his⟩ := perm_inv (f := V.int) (g := unI) (fun _ => rfl) hp
  have lis : is.length = hs.length := by rw [his.length_eq, List.length_map, List.length_range, hx]
  have I4 := I3.but F4 B4
  have rkf : rk ≠ f := I3.fl.ne nrk
  -- givers
  refine ⟨_, rfl, hh, _, rfl, .inl (SqL.of I4.lh), _, rfl, by omega, by omega, fun D nD => lc_range (lo := 0) (n := xs.length) (fun i H5 => ∃ gs : List Nat, H5 D = some (.lst (gs.map nV)) ∧ gs.length ≤ i ∧ RI f c hh H H5 xs hs ∧ H5 rk = some (.lst (is.map V.int)) ∧ (∀ k ∈ gs, ∃ h, hs[k]? = some h ∧ h.wd ≠ "out") ∧ (∀ k h, k < i → hs[k]? = some h → h.wd ≠ "out" → gs ≠ []) ∧ D ≠ f ∧ D ≠ c ∧ D ≠ hh ∧ D ≠ rk ∧ H D = Option.none)
    ⟨[], upd_same, Nat.le_refl _, I4.new nD, same_new nD _ _ hrk, (fun _ h => nomatch h), (fun k h hk => absurd hk (Nat.not_lt_zero _)), I4.fl.ne nD, I4.fl.nec nD, (ne_of_none I4.lh nD).symm, (ne_of_none hrk nD).symm, I4.bt.none nD (I4.fl.ne nD)⟩ ?_ ?_⟩
  · rintro i H5 hi ⟨gs, hD, lg, I5, hrk5, g1, g2, d1, d2, d3, d4, d5⟩
    have eh : hs[i]? = some hs[i] := List.getElem?_eq_getElem (by omega)
    obtain ⟨x, ex, ⟨t, r, rfl, e1, e2⟩⟩ := I5.al.get eh
    have gh := ok.good _ (List.mem_of_getElem? eh)
    refine ⟨rfl, _, rfl, _, rfl, hh, _, _, _, rfl, rfl, SqL.of I5.lh, at0 ex, t, _, _, _, rfl, rfl, SqT.of e1, atI_nat (j := 0) rfl, (by show 1 ≤ sizeLine; decide), fun o1 no1 => ?_⟩
    have I6 := I5.new (o := .tup [V.str "out"]) no1
    have hD6 : (upd H5 o1 (.tup [V.str "out"])) D = some (.lst (gs.map nV)) := same_new no1 _ _ hD
    refine ⟨_, _, rule_dp (same_new no1 _ _ e2), .tup (SqT.of upd_same) (.cons (.str _) .nil), rule_shaped gh.lay, one_shaped (by decide +kernel), _, rfl, ?_⟩
    rw [rule_eqv, gh.door "out" (.inr rfl)]
    by_cases k : hs[i].wd = "out"
    · rw [decide_eq_true k]
      refine if_bl (fun z => absurd z (by decide)) (fun _ => ⟨gs, hD6, by omega, I6, same_new no1 _ _ hrk5, g1, fun k' h' hk hk2 hk3 => ?_, d1, d2, d3, d4, d5⟩)
      by_cases y : k' = i
      · subst y
        rw [eh] at hk2
        cases hk2
        exact absurd k hk3
      · exact g2 k' h' (by omega) hk2 hk3
    · rw [decide_eq_false k]
      refine if_bl (fun _ => ⟨_, rfl, _, hD6, ?_, gs ++ [i], ?_, ?_, I6.lst hD6 d1 d2 d3 d5, ?_, ?_, fun _ _ _ _ _ z => by simp at z, d1, d2, d3, d4, d5⟩) (fun z => absurd z (by decide))
      · rw [List.length_map]; exact small1000 (by omega)
      · rw [upd_same, List.map_append, Int.zero_add]; rfl
      · rw [List.length_append]; show gs.length + 1 ≤ i + 1; omega
      · rw [upd_ne d4.symm]; exact same_new no1 _ _ hrk5
      · intro k' hk
        rcases List.mem_append.mp hk with hk | hk
        · exact g1 k' hk
        · obtain rfl : k' = i := by simpa using hk
          exact ⟨_, eh, k⟩
  · rintro H5 ⟨gs, hD, lg, I5, hrk5, g1, g2, d1, d2, d3, d4, d5⟩
    obtain ⟨h1, hm1, hm2, _⟩ := ok.one
    obtain ⟨k1, hk1⟩ := List.getElem?_of_mem hm1
    have k1l := (List.getElem?_eq_some_iff.mp hk1).1
    exact ⟨rfl, hh, rk, D, xs, hs, is, gs, rfl, I5, ok, hrk5, lis, hD, g2 k1 h1 (by omega) hk1 hm2, by omega, g1, rkf, d1⟩
end
/-! ### the order of work -/
/-- the belts without trays, their ends -/
def looseOf (bs : List BR) : List (Nat × Nat) := (bs.filter fun b => b.th.isEmpty).map fun b => (b.one, b.to)
def free (ls : List (Nat × Nat)) (left : List Nat) (k : Nat) : Prop := ∀ p ∈ ls, p.2 = k → p.1 ∉ left
/-- each stands as soon as it can -/
inductive Soon (ls : List (Nat × Nat)) : List Nat → List Nat → Prop
  | nil : Soon ls [] []
  | cons {left ord : List Nat} {k : Nat} : k ∈ left → free ls left k → (∀ j ∈ left, free ls left j → k ≤ j) → Soon ls (left.erase k) ord → Soon ls left (k :: ord)
def cN (p : Nat × Nat → Bool) (l : List (Nat × Nat)) : Int := ((l.filter p).length : Nat)
theorem cN_snoc (p : Nat × Nat → Bool) (l : List (Nat × Nat)) (x : Nat × Nat) : cN p (l ++ [x]) = cN p l + (if p x = true then 1 else 0) := by
  unfold cN
  rw [List.filter_append, List.length_append]
  cases h : p x <;> simp [h]
theorem cN_zero {p : Nat × Nat → Bool} {l : List (Nat × Nat)} : cN p l = 0 ↔ ∀ x ∈ l, p x = false := by
  unfold cN
  constructor
  · intro h x hx
    have e : (l.filter p).length = 0 := by omega
    have e2 := List.eq_nil_of_length_eq_zero e
    cases k : p x with
    | false => rfl
    | true =>
      have : x ∈ l.filter p := List.mem_filter.mpr ⟨hx, k⟩
      rw [e2] at this
      cases this
  · intro h
    have e : l.filter p = [] := List.filter_eq_nil_iff.mpr fun x hx => by rw [h x hx]; decide
    rw [e]
    rfl
abbrev owing (left : List Nat) (k : Nat) : Nat × Nat → Bool := fun p => decide (p.2 = k) && decide (p.1 ∈ left)
theorem owing_free {ls : List (Nat × Nat)} {left : List Nat} {k : Nat} : cN (owing left k) ls = 0 ↔ free ls left k := by
  rw [cN_zero]
  constructor
  · intro h p hp e1 e2
    have := h p hp
    have this : (decide (p.2 = k) && decide (p.1 ∈ left)) = false := this
    rw [decide_eq_true e1, decide_eq_true e2] at this
    cases this
  · intro h p hp
    show (decide (p.2 = k) && decide (p.1 ∈ left)) = false
    by_cases e1 : p.2 = k
    · rw [decide_eq_false (h p hp e1), Bool.and_false]
    · rw [decide_eq_false e1, Bool.false_and]
theorem cN_erase {ls : List (Nat × Nat)} {left : List Nat} {k r : Nat} (nd : left.Nodup) (hr : r ∈ left) : cN (owing left k) ls - cN (fun p => decide (p.1 = r) && decide (p.2 = k)) ls = cN (owing (left.erase r) k) ls := by
  induction ls with
  | nil => rfl
  | cons x l ih =>
    have e : ∀ q : Nat × Nat → Bool, cN q (x :: l) = (if q x = true then 1 else 0) + cN q l := fun q => by
      unfold cN
      rw [List.filter_cons]
      cases h : q x <;> simp [h] <;> omega
    have h1 : x.1 ∈ left.erase r ↔ x.1 ≠ r ∧ x.1 ∈ left := nd.mem_erase_iff
    have key : (if owing left k x = true then (1 : Int) else 0) - (if (decide (x.1 = r) && decide (x.2 = k)) = true then 1 else 0) = (if owing (left.erase r) k x = true then 1 else 0) := by
      by_cases a : x.2 = k
      · by_cases b : x.1 = r
        · have d : ¬ r ∈ left.erase r := fun z => (nd.mem_erase_iff.mp z).1 rfl
          simp [owing, a, b, hr, d]
        · by_cases c : x.1 ∈ left
          · have d : x.1 ∈ left.erase r := h1.mpr ⟨b, c⟩
            simp [owing, a, b, c, d]
          · have d : ¬ x.1 ∈ left.erase r := fun z => c (h1.mp z).2
            simp [owing, a, b, c, d]
      · simp [owing, a]
    rw [e, e, e, ← ih]
    omega
/-- some hand is free, where the belts without trays go up -/
theorem some_free {ls : List (Nat × Nat)} {rk : Nat → Int} (hr : ∀ p ∈ ls, rk p.1 < rk p.2) : ∀ {left : List Nat}, left ≠ [] → ∃ k ∈ left, free ls left k := by
  have low : ∀ left : List Nat, left ≠ [] → ∃ k ∈ left, ∀ j ∈ left, rk k ≤ rk j := by
    intro left
    induction left with
    | nil => intro h; exact absurd rfl h
    | cons a l ih =>
      intro _
      cases l with
      | nil => exact ⟨a, by simp, fun j hj => by have : j = a := by simpa using hj
                                                 rw [this]; exact Int.le_refl _⟩
      | cons b l =>
        obtain ⟨k, hk, h⟩ := ih (by simp)
        by_cases c : rk a ≤ rk k
        · exact ⟨a, by simp, fun j hj => by
            rcases List.mem_cons.mp hj with e | e
            · rw [e]; exact Int.le_refl _
            · exact Int.le_trans c (h j e)⟩
        · exact ⟨k, List.mem_cons_of_mem _ hk, fun j hj => by
            rcases List.mem_cons.mp hj with e | e
            · rw [e]; omega
            · exact h j e⟩
  intro left hl
  obtain ⟨k, hk, h⟩ := low left hl
  refine ⟨k, hk, fun p hp e hm => ?_⟩
  have h1 := h _ hm
  have h2 := hr p hp
  rw [e] at h2
  omega
theorem erase_map {α β : Type} (f : α → β) : ∀ (l : List α) (j : Nat), (l.map f).eraseIdx j = (l.eraseIdx j).map f
  | [], _ => rfl
  | _ :: _, 0 => rfl
  | a :: l, j + 1 => congrArg (f a :: ·) (erase_map f l j)
abbrev fL (n : Nat) (F : Nat → Int) : List V := (List.range n).map fun k => V.int (F k)
theorem fL_get {n k : Nat} {F : Nat → Int} (h : k < n) : (fL n F)[k]? = some (.int (F k)) := by
  rw [List.getElem?_map, List.getElem?_range h]; rfl
theorem fL_set {n k : Nat} {F : Nat → Int} {z : Int} : (fL n F).set k (.int z) = fL n fun j => if j = k then z else F j := by
  apply List.ext_getElem?
  intro i
  rw [List.getElem?_set]
  by_cases h : i < n
  · rw [fL_get h, fL_get h]
    by_cases e : k = i
    · subst e
      rw [if_pos rfl, if_pos rfl, if_pos (by rw [List.length_map, List.length_range]; exact h)]
    · rw [if_neg e, if_neg (fun z => e z.symm)]
  · have h1 : (fL n F)[i]? = none := List.getElem?_eq_none (by rw [List.length_map, List.length_range]; omega)
    have h2 : (fL n fun j => if j = k then z else F j)[i]? = none := List.getElem?_eq_none (by rw [List.length_map, List.length_range]; omega)
    rw [h1, h2]
    by_cases e : k = i
    · rw [if_pos e, if_neg (by rw [List.length_map, List.length_range]; omega)]
    · rw [if_neg e]
def PairAt (H : Hp) (v : V) (p : Nat × Nat) : Prop := ∃ t : Addr, v = .ref t ∧ H t = some (.tup [nV p.1, nV p.2])
theorem PairAt.keep {H H' : Hp} {v : V} {p : Nat × Nat} (a : PairAt H v p) (k : TK H H') : PairAt H' v p := by
  obtain ⟨t, e, h⟩ := a
  exact ⟨t, e, k _ _ h⟩
section
variable {P : Program} {w : World} {K : PySem.W.Frag} {mg : Str → Option Value} {base : Heap}
def sp_work_order (K : PySem.W.Frag) : Sp := fun vs H Q _ => ∃ (r : Addr) (hs : List HR) (bs : List BR) (rk : Nat → Int), vs = [.ref r] ∧ RoomAt H r hs bs ∧ hs.length ≤ 400 ∧ bs.length ≤ 400 ∧ (∀ b ∈ bs, b.one < hs.length ∧ b.to < hs.length) ∧ (∀ p ∈ looseOf bs, rk p.1 < rk p.2) ∧
  ∀ (p : Addr) (ord : List Nat) (H' : Hp), H p = none → H' p = some (.lst (ord.map nV)) → Same H H' → Soon (looseOf bs) (List.range hs.length) ord → Q (.ref p) H'
theorem ok_work_order {f : Addr} {fd : FuncData} (F : Fun K "work_order" "work_order" s_work_order f fd) (T : Top K mg) : FnOk P w K mg base CX0 1 f fd ["room"] (sp_work_order K) := by
  refine F.ok sc_work_order (fun vs H Q E h => ?_) (fun cdv A outer s H vs Q E hr h => ?_)
  · obtain ⟨r, hs, bs, rk, rfl, _⟩ := h
    rfl
  obtain ⟨r, hs, bs, rk, rfl, hR, lh, lb, ends, hrk, q⟩ := h
  obtain ⟨ha, ba, hv, bv, er, eh, eb, alh, alb⟩ := hR.ex
  have lhv := alh.length
  have lbv := alb.length
  have lls : (looseOf bs).length ≤ 400 := by
    unfold looseOf
    rw [List.length_map]
    exact Nat.le_trans (List.length_filter_le ..) lb
  have pls : ∀ p ∈ looseOf bs, p.1 < hs.length ∧ p.2 < hs.length := by
    intro p hp
    obtain ⟨b, hb, e⟩ := List.mem_map.mp hp
    have := ends b (List.mem_filter.mp hb).1
    rw [← e]
    exact this
  let R1 : TS := fun D' σ' H' => D'.rt = Q ∧ ∃ (lo : Addr) (lv : List V), σ' = [some (.ref r), some (.ref ha), some (.ref ba), some (.ref lo), none, none, none, none, none, none, none, none] ∧ H' lo = some (.lst lv) ∧ All2 (PairAt H') lv (looseOf bs) ∧ Same H H' ∧ H lo = none
  let R2 : TS := fun D' σ' H' => D'.rt = Q ∧ ∃ (lo ow : Addr) (lv : List V) (v4 v5 : Option V), σ' = [some (.ref r), some (.ref ha), some (.ref ba), some (.ref lo), v4, v5, none, some (.ref ow), none, none, none, none] ∧ H' lo = some (.lst lv) ∧ All2 (PairAt H') lv (looseOf bs) ∧ Same H H' ∧ H lo = none ∧ H ow = none ∧ lo ≠ ow ∧ H' ow = some (.lst (fL hs.length fun k => cN (owing (List.range hs.length) k) (looseOf bs)))
  refine ⟨_, (pss_cons (ps_asg (pv 0) (pg_tupK K rfl rfl (pgs_cons (pg_name (i := 1) sc_work_order.nd rfl (Or.inl rfl)) (pgs_cons (pg_name (i := 2) sc_work_order.nd rfl (Or.inl rfl)) pgs_nil))))
      (pss_cons (ps_setLc (i := 3) (own := [("giver", 4), ("taker", 5), ("things", 6)]) (g := gTup K 3 (gCons (gName 4) (gCons (gName 5) (gCons (gName 6) gNil)))) (by rfl) sc_work_order.nd rfl rfl (sw_true rfl rfl rfl (by decide +kernel)) (pi_tupK K rfl (pv 2)) (blkOk_by (own := [("giver", 4), ("taker", 5), ("things", 6)]) (N := N_work_order) (sc := defScope s_work_order) (by decide +kernel)) (fun _ _ _ _ _ => (pg_tupK K rfl rfl (pgs_cons (pg_name (i := 4) sc_work_order.nd rfl (Or.inl rfl)) (pgs_cons (pg_name (i := 5) sc_work_order.nd rfl (Or.inl rfl)) (pgs_cons (pg_name (i := 6) sc_work_order.nd rfl (Or.inl rfl)) pgs_nil))))) (fun _ _ _ _ _ => pts_one (pt_not (pt_truthK K rfl (pv 6) (by intro _; rfl)))) (fun _ _ _ _ _ => (pe_tup (pa_cons (pv 4) (pa_cons (pv 5) pa_nil)))))
      (PSs.to (pss_cons (ps_set (i := 7) sc_work_order.nd rfl (Or.inr rfl) (pe_op op_rep (pe_lst (pa_cons pe_int pa_nil)) (pe_callB (call_len_seqK K rfl) (by rfl) T.m_len (by decide +kernel) (pa_cons (pv 1) pa_nil))))
      (pss_cons (ps_for PassesOwn.never rfl (pi_listK K rfl (pv 3)) (pg_tupK K rfl rfl (pgs_cons (pg_name (i := 4) sc_work_order.nd rfl (Or.inl rfl)) (pgs_cons (pg_name (i := 5) sc_work_order.nd rfl (Or.inl rfl)) pgs_nil)))
        (pss_one (ps_augS (pv 7) (pv 5) (get_listK K rfl) pe_int ip_add set_list)))
      (PSs.to (pss_cons (ps_set (i := 8) sc_work_order.nd rfl (Or.inl rfl) (pe_listRg rfl (by rfl) T.m_list (prg_1 (by rfl) T.m_range (pe_callB (call_len_seqK K rfl) (by rfl) T.m_len (by decide +kernel) (pa_cons (pv 1) pa_nil)))))
      (pss_cons (ps_set (i := 9) sc_work_order.nd rfl (Or.inl rfl) (pe_lst pa_nil))
      (pss_cons (ps_while PassesOwn.never (pt_truthK K rfl (pv 8) (by intro _; rfl))
        (pss_cons (ps_set (i := 10) sc_work_order.nd rfl (Or.inl rfl) (pe_callB (cr_minKK K rfl rfl) (by rfl) T.m_min (by decide +kernel) (pa_cons (pe_lc (own := [("hand", 11)]) (g := gName 11) (by rfl) sc_work_order.nd (pi_listK K rfl (pv 8)) (blkOk_by (own := [("hand", 11)]) (N := N_work_order) (sc := defScope s_work_order) (by decide +kernel)) (fun _ _ _ _ _ => (pg_name (i := 11) sc_work_order.nd rfl (Or.inl rfl))) (fun _ _ _ _ _ => pts_one (pt_cmpR op_eq (pe_ix (ix_listK K rfl) (pv 7) (pv 11) (fun _ _ => rfl)) pe_int (nomark _))) (fun _ _ _ _ _ => (pv 11))) pa_nil)))
      (pss_cons (ps_expr (pe_bmK K rfl PySem.F.plainAttrs_list PySem.F.slot_list_remove PySem.F.type_list_remove mt_remove (pv 8) (pa_cons (pv 10) pa_nil)))
      (pss_cons (ps_expr (pe_bmK K rfl PySem.F.plainAttrs_list PySem.F.slot_list_append PySem.F.type_list_append mt_append (pv 9) (pa_cons (pv 10) pa_nil)))
      (pss_one (ps_for PassesOwn.never rfl (pi_listK K rfl (pv 3)) (pg_tupK K rfl rfl (pgs_cons (pg_name (i := 4) sc_work_order.nd rfl (Or.inl rfl)) (pgs_cons (pg_name (i := 5) sc_work_order.nd rfl (Or.inl rfl)) pgs_nil)))
        (pss_one (ps_if (pt_cmpR op_eq (pv 4) (pv 10) (nomark _)) (pss_one (ps_augS (pv 7) (pv 5) (get_listK K rfl) pe_int ip_sub set_list)) pss_nil))))))))
      (pss_one (ps_ret (pv 9)))))) R2 ?tail2))) R1 ?tail1))), ?_⟩
  case tail2 =>
    rintro D' σ' H1 ⟨eD, lo, ow, lv, v4, v5, rfl, hlo, al, s1, nlo, now, low, how⟩
    refine ⟨_, rfl, ha, _, rfl, .inr (SqT.of (s1 _ _ eh)), _, rfl, ⟨by omega, by omega, by omega, by omega, by omega⟩, fun lf nlf => ?_⟩
    refine ⟨(by show 0 ≤ sizeLine; decide), fun od nod => ?_⟩
    have erg : rgV 0 ((hv.length : Nat) : Int) = (List.range hs.length).map nV := by
      unfold rgV
      rw [show (((hv.length : Nat) : Int) - 0).toNat = hs.length by omega]
      refine List.map_congr_left fun i _ => ?_
      show V.int (0 + ((i : Nat) : Int)) = V.int ((i : Nat) : Int)
      rw [Int.zero_add]
    rw [erg] at nod ⊢
    have lf0 : H lf = none := same_none s1 nlf
    have od0 : H od = none := same_none (s1.trans (same_new nlf)) nod
    have lfod : lf ≠ od := ne_of_none upd_same nod
    have lflo : lo ≠ lf := ne_of_none hlo nlf
    have lfow : ow ≠ lf := ne_of_none how nlf
    have odlo : lo ≠ od := ne_of_none (same_new nlf _ _ hlo) nod
    have odow : ow ≠ od := ne_of_none (same_new nlf _ _ how) nod
    have tk2 : TK H1 (upd (upd H1 lf (.lst ((List.range hs.length).map nV))) od (.lst [])) := (TK.new nlf).trans (TK.new nod)
    let W : Nat → L2.St → Hp → Prop := fun mm σ H2 => ∃ (left ord : List Nat) (v4 v5 v10 v11 : Option V), σ = [some (.ref r), some (.ref ha), some (.ref ba), some (.ref lo), v4, v5, none, some (.ref ow), some (.ref lf), some (.ref od), v10, v11] ∧ mm = left.length ∧ left.Nodup ∧ (∀ k ∈ left, k < hs.length) ∧ H2 lo = some (.lst lv) ∧ All2 (PairAt H2) lv (looseOf bs) ∧ Same H H2 ∧ H2 lf = some (.lst (left.map nV)) ∧ H2 od = some (.lst (ord.map nV)) ∧ ord.length + left.length = hs.length ∧ H2 ow = some (.lst (fL hs.length fun k => cN (owing left k) (looseOf bs))) ∧ (∀ rest, Soon (looseOf bs) left rest → Soon (looseOf bs) (List.range hs.length) (ord ++ rest))
    refine ⟨W, ⟨_, List.range hs.length, [], v4, v5, none, none, rfl, rfl, List.nodup_range, fun k hk => List.mem_range.mp hk, same_new nod _ _ (same_new nlf _ _ hlo), al.imp fun _ _ z => z.keep tk2, (s1.trans (same_new nlf)).trans (same_new nod), same_new nod _ _ upd_same, upd_same, by rw [List.length_range]; exact Nat.zero_add _, same_new nod _ _ (same_new nlf _ _ how), fun rest h => h⟩, ?_⟩
    rintro mm σ H2 ⟨left, ord, w4, w5, w10, w11, rfl, rfl, ndl, hll, hlo2, al2, s2, hlf, hod, lol, how2, soon⟩
    refine ⟨_, rfl, _, .inl ⟨_, SqL.of hlf, rfl⟩, ?_⟩
    by_cases ne : left = []
    · subst ne
      refine if_bl (fun z => nomatch z) (fun _ => ⟨_, rfl, ?_⟩)
      rw [eD]
      have := soon [] .nil
      rw [List.append_nil] at this
      exact q od ord H2 od0 hod s2 this
    · have nb : (!(left.map nV).isEmpty) = true := by
        cases left with
        | nil => exact absurd rfl ne
        | cons a l => rfl
      refine if_bl (fun _ => ⟨W (left.length - 1), fun σ' H' hW => ⟨left.length - 1, by have := List.length_pos_iff.mpr ne; omega, hW⟩, ?_⟩) (fun z => by rw [nb] at z; cases z)
      obtain ⟨k0, hk0, fk0⟩ := some_free hrk ne
      -- the free ones
      refine ⟨_, rfl, lf, rfl, ⟨_, SqL.of hlf⟩, fun D nD => lc_list (K := K) (a := lf) (xs := left.map nV) (fun i H5 => ∃ fs : List Nat, H5 D = some (.lst (fs.map nV)) ∧ H5 lf = some (.lst (left.map nV)) ∧ H5 ow = some (.lst (fL hs.length fun k => cN (owing left k) (looseOf bs))) ∧ Same H2 H5 ∧ fs.length ≤ i ∧ (∀ k, k ∈ fs ↔ k ∈ left.take i ∧ free (looseOf bs) left k)) ⟨[], upd_same, same_new nD _ _ hlf, same_new nD _ _ how2, same_new nD, Nat.le_refl _, fun k => ⟨(fun z => nomatch z), (fun z => nomatch z.1)⟩⟩ (fun i H5 _ ⟨_, _, h, _⟩ => SqL.of h) ?_ ?_⟩
      · rintro i x H5 hx ⟨fs, hD, hlf5, how5, s5, lf5, mem⟩
        rw [List.getElem?_map] at hx
        cases ek : left[i]? with
        | none => rw [ek] at hx; cases hx
        | some k =>
        rw [ek] at hx
        obtain rfl : nV k = x := Option.some.inj hx
        have kl := hll k (List.mem_of_getElem? ek)
        refine ⟨rfl, _, rfl, _, rfl, ow, _, _, _, rfl, rfl, SqL.of how5, atI_nat (fL_get kl), rfl, _, rfl, if_bl (fun kk => ?_) (fun kk => ?_)⟩
        · have fk : free (looseOf bs) left k := owing_free.mp (V.int.inj (of_decide_eq_true kk))
          refine ⟨_, rfl, _, hD, ?_, fs ++ [k], ?_, ?_, ?_, Same.own s5 nD, by rw [List.length_append]; show fs.length + 1 ≤ i + 1; omega, fun j => ?_⟩
          · rw [List.length_map]
            have := (List.getElem?_eq_some_iff.mp ek).1
            exact small1000 (by omega)
          · rw [upd_same, List.map_append]; rfl
          · rw [upd_ne (ne_of_none hlf nD)]; exact hlf5
          · rw [upd_ne (ne_of_none how2 nD)]; exact how5
          · rw [List.mem_append, mem, List.take_add_one, ek, List.mem_append]
            constructor
            · rintro (h | h)
              · exact ⟨.inl h.1, h.2⟩
              · obtain rfl : j = k := by simpa using h
                exact ⟨.inr (by simp), fk⟩
            · rintro ⟨h | h, f⟩
              · exact .inl ⟨h, f⟩
              · obtain rfl : j = k := by simpa using h
                exact .inr (by simp)
        · have fk : ¬ free (looseOf bs) left k := fun z => of_decide_eq_false kk (congrArg V.int (owing_free.mpr z))
          refine ⟨fs, hD, hlf5, how5, s5, by omega, fun j => ?_⟩
          rw [mem, List.take_add_one, ek, List.mem_append]
          constructor
          · rintro ⟨h, f⟩
            exact ⟨.inl h, f⟩
          · rintro ⟨h | h, f⟩
            · exact ⟨h, f⟩
            · obtain rfl : j = k := by simpa using h
              exact absurd f fk
      · rintro H5 ⟨fs, hD, hlf5, how5, s5, lf5, mem⟩
        rw [List.length_map, List.take_length] at mem
        have hk0f : k0 ∈ fs := (mem k0).mpr ⟨hk0, fk0⟩
        refine ⟨D, fs.map fun k => ((k : Nat) : Int), rfl, SqL.of (by rw [hD, List.map_map]; rfl), by rw [List.length_map]; exact List.length_pos_of_mem hk0f, fun m hm hmin => ?_⟩
        obtain ⟨k, hk, rfl⟩ := List.mem_map.mp hm
        obtain ⟨hkl, fk⟩ := (mem k).mp hk
        have least : ∀ j ∈ left, free (looseOf bs) left j → k ≤ j := fun j h1 h2 => by
          have := hmin ((j : Nat) : Int) (List.mem_map.mpr ⟨j, (mem j).mpr ⟨h1, h2⟩, rfl⟩)
          omega
        have kl := hll k hkl
        obtain ⟨j, hj, hfirst, ees⟩ : ∃ j : Nat, left[j]? = some k ∧ (∀ m : Nat, m < j → left[m]? ≠ some k) ∧ left.eraseIdx j = left.erase k := by
          refine ⟨left.idxOf k, ?_, fun m hm => ?_, (List.erase_eq_eraseIdx_of_idxOf (rfl : left.idxOf k = left.idxOf k)).symm⟩
          · rw [List.getElem?_eq_getElem (List.idxOf_lt_length_of_mem hkl), List.getElem_idxOf]
          · intro e
            have := List.idxOf_lt_length_of_mem hkl
            have e1 : left[m] = k := (List.getElem?_eq_some_iff.mp e).2
            have e2 : left[left.idxOf k] = k := List.getElem_idxOf this
            have := (List.getElem_inj ndl (h₀ := by omega) (h₁ := this)).mp (e1.trans e2.symm)
            omega
        have elf : left.map nV = (left.map fun k => ((k : Nat) : Int)).map V.int := by rw [List.map_map]; rfl
        refine ⟨_, rfl, .inl ⟨rfl, _, SqL.of hlf5⟩, _, rfl, lf, left.map (fun k => ((k : Nat) : Int)), ((k : Nat) : Int), j, rfl, rfl, by rw [hlf5, elf], by rw [List.getElem?_map, hj]; rfl, fun m hm => ?_, ?_⟩
        · rw [List.getElem?_map]
          intro e
          cases em : left[m]? with
          | none => rw [em] at e; cases e
          | some y =>
            rw [em] at e
            have e : ((y : Nat) : Int) = ((k : Nat) : Int) := Option.some.inj e
            exact hfirst m hm (by rw [em]; congr 1; omega)
        have eer : ((left.map fun k => ((k : Nat) : Int)).eraseIdx j).map V.int = (left.erase k).map nV := by
          rw [← ees, erase_map, List.map_map]; rfl
        rw [eer]
        have hod5 := s5 _ _ hod
        have tk5 := TK.same s5
        have hlo5 := s5 _ _ hlo2
        have s6 : Same H (upd H5 lf (.lst ((left.erase k).map nV))) := Same.own (s2.trans s5) lf0
        have hod6 : (upd H5 lf (.lst ((left.erase k).map nV))) od = some (.lst (ord.map nV)) := by rw [upd_ne lfod.symm]; exact hod5
        have ll := lol
        have hlp := List.length_pos_of_mem hkl
        refine ⟨_, rfl, .inl ⟨rfl, _, SqL.of hod6⟩, _, rfl, od, _, _, rfl, rfl, hod6, by rw [List.length_map]; exact small1000 (by omega), ?_⟩
        have tk7 : TK H2 (upd (upd H5 lf (.lst ((left.erase k).map nV))) od (.lst (ord.map nV ++ [nV k]))) := (tk5.trans (TK.lst hlf5)).trans (TK.lst hod6)
        have hlo7 : (upd (upd H5 lf (.lst ((left.erase k).map nV))) od (.lst (ord.map nV ++ [nV k]))) lo = some (.lst lv) := by
          rw [upd_ne odlo, upd_ne lflo]; exact hlo5
        refine ⟨_, rfl, lo, rfl, ⟨_, SqL.of hlo7⟩, for_list (K := K) (a := lo) (xs := lv) (fun i σ H3 => ∃ v4 v5 : Option V, σ = [some (.ref r), some (.ref ha), some (.ref ba), some (.ref lo), v4, v5, none, some (.ref ow), some (.ref lf), some (.ref od), some (nV k), w11] ∧ H3 lo = some (.lst lv) ∧ All2 (PairAt H3) lv (looseOf bs) ∧ Same H H3 ∧ H3 lf = some (.lst ((left.erase k).map nV)) ∧ H3 od = some (.lst ((ord ++ [k]).map nV)) ∧ H3 ow = some (.lst (fL hs.length fun z => cN (owing left z) (looseOf bs) - cN (fun p => decide (p.1 = k) && decide (p.2 = z)) ((looseOf bs).take i))))
          ⟨w4, w5, rfl, hlo7, al2.imp fun _ _ z => z.keep tk7, Same.own s6 od0, by rw [upd_ne lfod, upd_same], by rw [upd_same, List.map_append]; rfl, ?_⟩ (fun i σ H3 _ ⟨_, _, _, h, _⟩ => SqL.of h) ?_ ?_⟩
        · rw [upd_ne odow, upd_ne lfow, how5]
          congr 2
        · rintro i x σ H3 hx ⟨u4, u5, rfl, hlo3, al3, s3, hlf3, hod3, how3⟩
          obtain ⟨p, ep, ⟨t, rfl, e1⟩⟩ := al3.getL hx
          have hp := pls p (List.mem_of_getElem? ep)
          have etk : (looseOf bs).take (i + 1) = (looseOf bs).take i ++ [p] := by rw [List.take_add_one, ep]; rfl
          refine ⟨t, _, rfl, SqT.of e1, rfl, _, _, rfl, _, _, rfl, rfl, ?_⟩
          refine ⟨_, rfl, _, rfl, rfl, _, rfl, if_bl (fun kk => ?_) (fun kk => ?_)⟩
          · have pk : p.1 = k := by have := V.int.inj (of_decide_eq_true kk); omega
            refine ⟨_, rfl, _, rfl, ow, _, p.2, _, rfl, rfl, SqL.of how3, fL_get hp.2, _, _, rfl, rfl, ow, _, _, p.2, rfl, rfl, how3, ?_, ?_⟩
            · unfold ixN
              rw [if_pos (by omega), if_pos (by rw [List.length_map, List.length_range]; omega), Int.toNat_natCast]
            · refine ⟨_, _, rfl, ?_, al3.imp fun _ _ z => z.keep (TK.lst how3), Same.own s3 now, ?_, ?_, ?_⟩
              · rw [upd_ne low]; exact hlo3
              · rw [upd_ne lfow.symm]; exact hlf3
              · rw [upd_ne odow.symm]; exact hod3
              · rw [upd_same, fL_set]
                congr 2
                refine List.map_congr_left fun z _ => ?_
                show V.int (if z = p.2 then (cN (owing left p.2) (looseOf bs) - cN (fun q => decide (q.1 = k) && decide (q.2 = p.2)) ((looseOf bs).take i)) - 1 else cN (owing left z) (looseOf bs) - cN (fun q => decide (q.1 = k) && decide (q.2 = z)) ((looseOf bs).take i)) = V.int (cN (owing left z) (looseOf bs) - cN (fun q => decide (q.1 = k) && decide (q.2 = z)) ((looseOf bs).take (i + 1)))
                rw [etk, cN_snoc]
                by_cases e : z = p.2
                · subst e
                  simp [pk]
                  omega
                · have : ¬ p.2 = z := fun y => e y.symm
                  simp [e, this]
          · have pk : ¬ p.1 = k := fun e => of_decide_eq_false kk (by rw [e])
            refine ⟨_, _, rfl, hlo3, al3, s3, hlf3, hod3, ?_⟩
            rw [how3]
            congr 2
            refine List.map_congr_left fun z _ => ?_
            show V.int (_ - cN _ _) = V.int (_ - cN _ _)
            rw [etk, cN_snoc]
            simp [pk]
        · rintro σ H3 ⟨u4, u5, rfl, hlo3, al3, s3, hlf3, hod3, how3⟩
          have le : (left.erase k).length = left.length - 1 := List.length_erase_of_mem hkl
          refine ⟨left.erase k, ord ++ [k], u4, u5, _, _, rfl, le.symm, ndl.erase k, fun y hy => hll y (List.mem_of_mem_erase hy), hlo3, al3, s3, hlf3, hod3, by rw [List.length_append, le]; show ord.length + 1 + (left.length - 1) = hs.length; omega, ?_, fun rest h => ?_⟩
          · rw [how3, List.take_of_length_le (by rw [← al3.length]; exact Nat.le_refl _)]
            congr 2
            refine List.map_congr_left fun z _ => ?_
            show V.int (_ - cN _ _) = V.int (cN _ _)
            rw [cN_erase ndl hkl]
          · have := soon (k :: rest) (.cons hkl fk least h)
            rw [List.append_assoc]
            exact this
  case tail1 =>
    rintro D' σ' H1 ⟨eD, lo, lv, rfl, hlo, al, s1, nlo⟩
    refine ⟨(by show 1 ≤ sizeLine; decide), fun l1 nl1 => ⟨_, rfl, ha, _, rfl, .inr (SqT.of (same_new nl1 _ _ (s1 _ _ eh))), l1, _, _, rfl, rfl, upd_same, by omega, by omega, little (by show 1 * _ ≤ 1000; omega), fun ow now => ?_⟩⟩
    have s2 : Same H _ := (s1.trans (same_new (o := .lst [V.int 0]) nl1)).trans (same_new (o := .lst (fL hs.length fun _ => 0)) now)
    have now0 : H ow = none := same_none (s1.trans (same_new nl1)) now
    have hlo2 := same_new (o := .lst (fL hs.length fun _ => 0)) now _ _ (same_new (o := .lst [V.int 0]) nl1 _ _ hlo)
    have low : lo ≠ ow := ne_of_none (same_new nl1 _ _ hlo) now
    have e0 : (List.replicate ((hv.length : Nat) : Int).toNat [V.int 0]).flatten = fL hs.length fun _ => 0 := by
      rw [flat_rep, Int.toNat_natCast, lhv]
      symm
      show (List.range hs.length).map (fun _ => V.int 0) = _
      rw [List.map_const', List.length_range]
    rw [e0]
    refine ⟨_, rfl, lo, rfl, ⟨_, SqL.of hlo2⟩, for_list (K := K) (a := lo) (xs := lv) (fun i σ H3 => ∃ v4 v5 : Option V, σ = [some (.ref r), some (.ref ha), some (.ref ba), some (.ref lo), v4, v5, none, some (.ref ow), none, none, none, none] ∧ H3 lo = some (.lst lv) ∧ All2 (PairAt H3) lv (looseOf bs) ∧ Same H H3 ∧ H3 ow = some (.lst (fL hs.length fun k => cN (fun p => decide (p.2 = k)) ((looseOf bs).take i))))
      ⟨none, none, rfl, hlo2, al.imp fun _ _ z => z.keep ((TK.new nl1).trans (TK.new now)), s2, upd_same⟩ (fun i σ H3 _ ⟨_, _, _, h, _⟩ => SqL.of h) ?_ ?_⟩
    · rintro i x σ H3 hx ⟨v4, v5, rfl, hlo3, al3, s3, how⟩
      obtain ⟨p, ep, ⟨t, rfl, e1⟩⟩ := al3.getL hx
      have hp := pls p (List.mem_of_getElem? ep)
      refine ⟨t, _, rfl, SqT.of e1, rfl, _, _, rfl, _, _, rfl, rfl, ?_⟩
      refine ⟨_, rfl, _, rfl, ow, _, p.2, _, rfl, rfl, SqL.of how, fL_get hp.2, _, _, rfl, rfl, ow, _, _, p.2, rfl, rfl, how, ?_, ?_⟩
      · unfold ixN
        rw [if_pos (by omega), if_pos (by rw [List.length_map, List.length_range]; omega), Int.toNat_natCast]
      · refine ⟨_, _, rfl, ?_, al3.imp fun _ _ z => z.keep (TK.lst how), Same.own s3 now0, ?_⟩
        · rw [upd_ne low]; exact hlo3
        · rw [upd_same, fL_set]
          congr 2
          refine List.map_congr_left fun k _ => ?_
          show V.int (if k = p.2 then cN (fun q => decide (q.2 = p.2)) ((looseOf bs).take i) + 1 else cN (fun q => decide (q.2 = k)) ((looseOf bs).take i)) = V.int (cN (fun q => decide (q.2 = k)) ((looseOf bs).take (i + 1)))
          rw [List.take_add_one, ep, show (some p).toList = [p] from rfl, cN_snoc]
          by_cases e : k = p.2
          · subst e
            simp
          · have : ¬ p.2 = k := fun z => e z.symm
            simp [e, this]
    · rintro σ H3 ⟨v4, v5, rfl, hlo3, al3, s3, how⟩
      refine ⟨eD, lo, ow, lv, v4, v5, rfl, hlo3, al3, s3, nlo, now0, low, ?_⟩
      rw [how, List.take_of_length_le (by rw [← al3.length]; exact Nat.le_refl _)]
      congr 2
      refine List.map_congr_left fun k _ => ?_
      show V.int (cN (fun q => decide (q.2 = k)) (looseOf bs)) = V.int (cN (owing (List.range hs.length) k) (looseOf bs))
      have e : (looseOf bs).filter (fun q => decide (q.2 = k)) = (looseOf bs).filter (owing (List.range hs.length) k) := List.filter_congr fun p hp => by
        have := (pls p hp).1
        show decide (p.2 = k) = (decide (p.2 = k) && decide (p.1 ∈ List.range hs.length))
        rw [decide_eq_true (List.mem_range.mpr this), Bool.and_true]
      unfold cN
      rw [e]
  refine ⟨_, rfl, r, _, rfl, SqT.of er, rfl, _, _, rfl, _, _, rfl, rfl, ?_⟩
  refine ⟨_, rfl, ba, rfl, ⟨_, SqT.of eb⟩, fun D nD => lc_tup (K := K) (a := ba) (xs := bv) (fun i H5 => ∃ lv : List V, H5 D = some (.lst lv) ∧ All2 (PairAt H5) lv (looseOf (bs.take i)) ∧ Same H H5) ⟨[], upd_same, .nil, same_new nD⟩ (fun i H5 _ ⟨_, _, _, s5⟩ => SqT.of (s5 _ _ eb)) ?_ ?_⟩
  · rintro i x H5 hx ⟨lv, hD, al, s5⟩
    obtain ⟨b, eb2, ⟨t, g, rfl, e1, e2⟩⟩ := alb.getL hx
    have il : i < bs.length := (List.getElem?_eq_some_iff.mp eb2).1
    have elo : looseOf (bs.take (i + 1)) = looseOf (bs.take i) ++ (if b.th.isEmpty = true then [(b.one, b.to)] else []) := by
      unfold looseOf
      rw [List.take_add_one, eb2, List.filter_append, List.map_append]
      congr 1
      cases h : b.th.isEmpty <;> simp [h]
    refine ⟨t, _, rfl, SqT.of (s5 _ _ e1), rfl, _, _, rfl, _, _, rfl, _, _, rfl, rfl, rfl, _, rfl, _, .inr (.inl ⟨_, SqT.of (s5 _ _ e2), rfl⟩), ?_⟩
    have lvl : lv.length ≤ 400 := by
      rw [al.length]
      unfold looseOf
      rw [List.length_map]
      refine Nat.le_trans (List.length_filter_le ..) ?_
      rw [List.length_take]
      omega
    refine if_bl (fun kk => ?_) (fun kk => ?_)
    · have ke : b.th.isEmpty = true := by
        cases h : b.th with
        | nil => rfl
        | cons a l => rw [h] at kk; cases kk
      refine ⟨_, rfl, _, rfl, (by show 2 ≤ sizeLine; decide), fun u nu => ⟨lv, same_new nu _ _ hD, small1000 (by omega), lv ++ [V.ref u], upd_same, ?_, ?_⟩⟩
      · rw [elo, if_pos ke]
        exact ((al.imp fun _ _ z => z.keep (TK.new nu)).snoc ⟨u, rfl, upd_same⟩).imp fun _ _ z => z.keep (TK.lst (same_new nu _ _ hD))
      · exact Same.own (s5.trans (same_new nu)) nD
    · have ke : ¬ b.th.isEmpty = true := by
        cases h : b.th with
        | nil => rw [h] at kk; cases kk
        | cons a l => intro z; cases z
      refine ⟨lv, hD, ?_, s5⟩
      rw [elo, if_neg ke, List.append_nil]
      exact al
  · rintro H5 ⟨lv, hD, al, s5⟩
    rw [List.take_of_length_le (by omega)] at al
    exact ⟨rfl, D, lv, rfl, hD, al, s5, nD⟩
end
/-! ### what rules make, bells -/
def mk2 (wd : Str) (a b : Int) : Int :=
  if wd = "sum" then a + b else if wd = "gap" then a - b else if wd = "below" then (if a < b then 1 else 0) else if wd = "most" then (if b > a then b else a) else (if b < a then b else a)
def mk (wd : Str) (n a b c : Int) : Int :=
  if wd = "always" then n else if wd = "times" then n * a else if wd = "pick" then (if a = 0 then c else b) else if wd = "same" ∨ wd = "out" then a else mk2 wd a b
def mkR (h : HR) (xs : List Int) : Int := mk h.wd (h.no.getD 0) (xs.getD 0 0) (xs.getD 1 0) (xs.getD 2 0)
/-- the hands whose rule is this door's -/
def doorsOf (z : Str) (hs : List HR) : List Nat := (List.range hs.length).filter fun i => decide (hs[i]?.map HR.wd = some z)
theorem mem_doors {z : Str} {hs : List HR} {k : Nat} : k ∈ doorsOf z hs ↔ ∃ h, hs[k]? = some h ∧ h.wd = z := by
  unfold doorsOf
  rw [List.mem_filter, List.mem_range, decide_eq_true_eq]
  constructor
  · rintro ⟨a, b⟩
    rw [List.getElem?_eq_getElem a] at b
    exact ⟨_, List.getElem?_eq_getElem a, Option.some.inj b⟩
  · rintro ⟨h, a, b⟩
    refine ⟨(List.getElem?_eq_some_iff.mp a).1, ?_⟩
    rw [a, ← b]
    rfl
theorem doors_nodup {z : Str} {hs : List HR} : (doorsOf z hs).Nodup := List.nodup_range.filter _
theorem doors_len {z : Str} {hs : List HR} : (doorsOf z hs).length ≤ hs.length := by
  refine Nat.le_trans (List.length_filter_le ..) ?_
  rw [List.length_range]
  exact Nat.le_refl _
abbrev gD (m : List Int) (k : Nat) : Int := m.getD k 0
def valB (f : Nat → Int) (b : BR) : Int := match b.th with | [] => f b.one | x :: _ => x
def takes (cur : List BR) (f : Nat → Int) (k : Nat) : List Int := (cur.filter fun b => decide (b.to = k)).map (valB f)
theorem valB_nil {f : Nat → Int} {b : BR} (h : b.th = []) : valB f b = f b.one := by unfold valB; rw [h]
theorem takes_ext {cur : List BR} {f g : Nat → Int} {k : Nat} (h : ∀ b ∈ cur, b.to = k → b.th = [] → f b.one = g b.one) : takes cur f k = takes cur g k := by
  unfold takes
  refine List.map_congr_left fun b hb => ?_
  have hb := List.mem_filter.mp hb
  cases e : b.th with
  | nil => rw [valB_nil e, valB_nil e]; exact h b hb.1 (of_decide_eq_true hb.2) e
  | cons x l => unfold valB; rw [e]
structure IsBell (hs : List HR) (cur : List BR) (ins m : List Int) : Prop where
  len : m.length = hs.length
  door : ∀ j k : Nat, (doorsOf "in" hs)[j]? = some k → m[k]? = ins[j]?
  hand : ∀ (k : Nat) (h : HR), hs[k]? = some h → h.wd ≠ "in" → m[k]? = some (mkR h (takes cur (gD m) k))
theorem mem_loose {cur : List BR} {b : BR} (h : b ∈ cur) (e : b.th = []) : (b.one, b.to) ∈ looseOf cur := List.mem_map.mpr ⟨b, List.mem_filter.mpr ⟨h, by rw [e]; rfl⟩, rfl⟩
theorem bell_one {hs : List HR} {cur : List BR} {ins m m' : List Int} {rk : Nat → Int} (hr : ∀ p ∈ looseOf cur, rk p.1 < rk p.2) (a : IsBell hs cur ins m) (b : IsBell hs cur ins m') : m = m' := by
  have off : ∀ k, ¬ k < hs.length → m[k]? = m'[k]? := fun k hk => by
    rw [List.getElem?_eq_none (by have := a.len; omega), List.getElem?_eq_none (by have := b.len; omega)]
  obtain ⟨D, hD⟩ : ∃ D, D = (List.range hs.length).filter fun k => decide (m[k]? ≠ m'[k]?) := ⟨_, rfl⟩
  have mD : ∀ k, k ∉ D → m[k]? = m'[k]? := fun k hk => by
    by_cases l : k < hs.length
    · by_cases e : m[k]? = m'[k]?
      · exact e
      · refine absurd ?_ hk
        rw [hD, List.mem_filter]
        exact ⟨List.mem_range.mpr l, decide_eq_true e⟩
    · exact off k l
  by_cases e : D = []
  · refine List.ext_getElem? fun k => mD k ?_
    rw [e]
    exact fun z => nomatch z
  · exfalso
    obtain ⟨k, hk, fr⟩ := some_free hr e
    have hk2 := hk
    rw [hD, List.mem_filter] at hk2
    have kl := List.mem_range.mp hk2.1
    have ne : m[k]? ≠ m'[k]? := of_decide_eq_true hk2.2
    have eh : hs[k]? = some hs[k] := List.getElem?_eq_getElem kl
    by_cases w : hs[k].wd = "in"
    · obtain ⟨j, hj⟩ := List.getElem?_of_mem (mem_doors.mpr ⟨_, eh, w⟩)
      exact ne ((a.door j k hj).trans (b.door j k hj).symm)
    · refine ne ((a.hand k _ eh w).trans ((b.hand k _ eh w).trans ?_).symm)
      rw [takes_ext (g := gD m) fun c hc et en => ?_]
      have := mD c.one (fr _ (mem_loose hc en) et)
      show m'.getD c.one 0 = m.getD c.one 0
      rw [List.getD_eq_getElem?_getD, List.getD_eq_getElem?_getD, this]
/-- what some hands have made already -/
structure Part (hs : List HR) (cur : List BR) (ins : List Int) (pm : Nat → Option Int) : Prop where
  dom : ∀ k v, pm k = some v → k < hs.length
  door : ∀ j k : Nat, (doorsOf "in" hs)[j]? = some k → pm k = ins[j]?
  hand : ∀ (k : Nat) (h : HR) (v : Int), hs[k]? = some h → h.wd ≠ "in" → pm k = some v → v = mkR h (takes cur (fun j => (pm j).getD 0) k) ∧ ∀ b ∈ cur, b.to = k → b.th = [] → (pm b.one).isSome = true
abbrev putM (pm : Nat → Option Int) (k : Nat) (v : Int) : Nat → Option Int := fun j => if j = k then some v else pm j
theorem Part.put {hs : List HR} {cur : List BR} {ins : List Int} {pm : Nat → Option Int} (p : Part hs cur ins pm) {k : Nat} {h : HR} (eh : hs[k]? = some h) (w : h.wd ≠ "in") (new : pm k = none)
    (there : ∀ b ∈ cur, b.to = k → b.th = [] → (pm b.one).isSome = true) : Part hs cur ins (putM pm k (mkR h (takes cur (fun j => (pm j).getD 0) k))) := by
  have old : ∀ j, (pm j).isSome = true → ∀ v, putM pm k v j = pm j := fun j hj v => if_neg fun e => by rw [e, new] at hj; cases hj
  have same : ∀ j v, (∀ b ∈ cur, b.to = j → b.th = [] → (pm b.one).isSome = true) → takes cur (fun i => (pm i).getD 0) j = takes cur (fun i => (putM pm k v i).getD 0) j := fun j v hb => takes_ext fun b b1 b2 b3 => by
    show (pm b.one).getD 0 = (putM pm k v b.one).getD 0
    rw [old _ (hb b b1 b2 b3)]
  refine ⟨fun j v e => ?_, fun i j e => ?_, fun j h' v e1 e2 e3 => ?_⟩
  · by_cases z : j = k
    · rw [z]; exact (List.getElem?_eq_some_iff.mp eh).1
    · exact p.dom j v ((if_neg z).symm.trans e)
  · have z : j ≠ k := fun z => by
      obtain ⟨h2, q1, q2⟩ := mem_doors.mp (List.mem_of_getElem? e)
      rw [z, eh] at q1
      cases q1
      exact w q2
    exact (if_neg z).trans (p.door i j e)
  · by_cases z : j = k
    · subst z
      rw [eh] at e1
      cases e1
      have e4 := Option.some.inj ((if_pos rfl).symm.trans e3)
      refine ⟨?_, fun b b1 b2 b3 => ?_⟩
      · exact e4.symm.trans (congrArg (mkR h) (same _ _ there))
      · rw [old _ (there b b1 b2 b3)]
        exact there b b1 b2 b3
    · have e4 : pm j = some v := (if_neg z).symm.trans e3
      obtain ⟨q1, q2⟩ := p.hand j h' v e1 e2 e4
      refine ⟨?_, fun b b1 b2 b3 => ?_⟩
      · exact q1.trans (congrArg (mkR h') (same _ _ q2))
      · rw [old _ (q2 b b1 b2 b3)]
        exact q2 b b1 b2 b3
abbrev fullM (n : Nat) (pm : Nat → Option Int) : List Int := (List.range n).map fun k => (pm k).getD 0
theorem fullM_get {n k : Nat} {pm : Nat → Option Int} (h : k < n) : (fullM n pm)[k]? = some ((pm k).getD 0) := by
  rw [List.getElem?_map, List.getElem?_range h]; rfl
theorem Part.full {hs : List HR} {cur : List BR} {ins : List Int} {pm : Nat → Option Int} (p : Part hs cur ins pm) (all : ∀ k, k < hs.length → (pm k).isSome = true) : IsBell hs cur ins (fullM hs.length pm) := by
  have at_ : ∀ k, k < hs.length → ∃ v, pm k = some v ∧ (fullM hs.length pm)[k]? = some v := fun k hk => by
    obtain ⟨v, hv⟩ := Option.isSome_iff_exists.mp (all k hk)
    exact ⟨v, hv, by rw [fullM_get hk, hv]; rfl⟩
  refine ⟨by rw [List.length_map, List.length_range], fun j k e => ?_, fun k h e w => ?_⟩
  · obtain ⟨h, q, _⟩ := mem_doors.mp (List.mem_of_getElem? e)
    obtain ⟨v, e1, e2⟩ := at_ k (List.getElem?_eq_some_iff.mp q).1
    rw [e2, ← e1]
    exact p.door j k e
  · obtain ⟨v, e1, e2⟩ := at_ k (List.getElem?_eq_some_iff.mp e).1
    obtain ⟨q1, q2⟩ := p.hand k h v e w e1
    rw [e2, q1]
    congr 2
    refine takes_ext fun b b1 b2 b3 => ?_
    obtain ⟨x, hx⟩ := Option.isSome_iff_exists.mp (q2 b b1 b2 b3)
    obtain ⟨y, e3, e4⟩ := at_ b.one (p.dom _ _ hx)
    show (pm b.one).getD 0 = (fullM hs.length pm).getD b.one 0
    rw [List.getD_eq_getElem?_getD, e4, e3]
/-! ### the dict of what was made -/
abbrev kN (k : Nat) : Key := .inl ((k : Nat) : Int)
def DM (kvs : List (Key × V)) (pm : Nat → Option Int) : Prop := ∀ k : Nat, valV kvs (kN k) = (pm k).map V.int
theorem kN_inj {a b : Nat} (h : kN a = kN b) : a = b := by
  have : ((a : Nat) : Int) = ((b : Nat) : Int) := Sum.inl.inj h
  omega
theorem DM.put {kvs : List (Key × V)} {pm : Nat → Option Int} (d : DM kvs pm) (k : Nat) (v : Int) : DM (putK kvs (kN k) (.int v)) (putM pm k v) := fun j => by
  rw [valV_put]
  by_cases e : j = k
  · subst e
    rw [if_pos rfl, show putM pm j v j = some v from if_pos rfl]
    rfl
  · rw [if_neg fun z => e (kN_inj z), show putM pm k v j = pm j from if_neg e]
    exact d j
theorem merge_off {k : Nat} : ∀ (ks : List Nat) (xs : List Int) (acc : List (Key × V)), k ∉ ks → valV (mergeK acc ((ks.map kN).zip (xs.map V.int))) (kN k) = valV acc (kN k)
  | [], _, _, _ => rfl
  | _ :: _, [], _, _ => rfl
  | a :: ks, x :: xs, acc, h => by
    have h1 : k ≠ a := fun e => h (by rw [e]; exact List.mem_cons_self ..)
    have h2 : k ∉ ks := fun e => h (List.mem_cons_of_mem _ e)
    show valV (mergeK (putK acc (kN a) (V.int x)) ((ks.map kN).zip (xs.map V.int))) (kN k) = _
    rw [merge_off ks xs _ h2, valV_put, if_neg fun z => h1 (kN_inj z)]
theorem merge_on {k : Nat} {v : Int} : ∀ (ks : List Nat) (xs : List Int) (acc : List (Key × V)) (j : Nat), ks.Nodup → ks[j]? = some k → xs[j]? = some v → valV (mergeK acc ((ks.map kN).zip (xs.map V.int))) (kN k) = some (.int v)
  | [], _, _, _, _, h, _ => nomatch h
  | _ :: _, [], _, _, _, _, h => nomatch h
  | a :: ks, x :: xs, acc, 0, nd, h1, h2 => by
    cases h1
    cases h2
    show valV (mergeK (putK acc (kN k) (V.int v)) ((ks.map kN).zip (xs.map V.int))) (kN k) = _
    rw [merge_off ks xs _ (List.nodup_cons.mp nd).1, valV_put, if_pos rfl]
  | a :: ks, x :: xs, acc, j + 1, nd, h1, h2 => merge_on ks xs _ j (List.nodup_cons.mp nd).2 h1 h2
/-- what the in doors have made -/
def doorM (hs : List HR) (ins : List Int) : Nat → Option Int := fun k => if k ∈ doorsOf "in" hs then ins[(doorsOf "in" hs).idxOf k]? else none
theorem idx_at {l : List Nat} (nd : l.Nodup) {j k : Nat} (h : l[j]? = some k) : l.idxOf k = j := by
  have jl := (List.getElem?_eq_some_iff.mp h).1
  have m := List.mem_of_getElem? h
  have il := List.idxOf_lt_length_of_mem m
  exact (List.getElem_inj nd (h₀ := il) (h₁ := jl)).mp ((List.getElem_idxOf il).trans (List.getElem?_eq_some_iff.mp h).2.symm)
theorem doorM_dm {hs : List HR} {ins : List Int} (hl : ins.length = (doorsOf "in" hs).length) : DM (mergeK [] (((doorsOf "in" hs).map kN).zip (ins.map V.int))) (doorM hs ins) := fun k => by
  unfold doorM
  by_cases e : k ∈ doorsOf "in" hs
  · rw [if_pos e]
    have il := List.idxOf_lt_length_of_mem e
    have e1 : (doorsOf "in" hs)[(doorsOf "in" hs).idxOf k]? = some k := by rw [List.getElem?_eq_getElem il, List.getElem_idxOf]
    have e2 : ins[(doorsOf "in" hs).idxOf k]? = some ins[(doorsOf "in" hs).idxOf k] := List.getElem?_eq_getElem (by omega)
    rw [merge_on _ _ _ _ doors_nodup e1 e2, e2]
    rfl
  · rw [if_neg e, merge_off _ _ _ e]
    rfl
theorem doorM_part {hs : List HR} {cur : List BR} {ins : List Int} : Part hs cur ins (doorM hs ins) := by
  refine ⟨fun k v e => ?_, fun j k e => ?_, fun k h v e w e2 => ?_⟩
  · unfold doorM at e
    by_cases m : k ∈ doorsOf "in" hs
    · obtain ⟨h, q, _⟩ := mem_doors.mp m
      exact (List.getElem?_eq_some_iff.mp q).1
    · rw [if_neg m] at e
      cases e
  · unfold doorM
    rw [if_pos (List.mem_of_getElem? e), idx_at doors_nodup e]
  · unfold doorM at e2
    rw [if_neg fun m => by
      obtain ⟨h2, q1, q2⟩ := mem_doors.mp m
      rw [e] at q1
      cases q1
      exact w q2] at e2
    cases e2
theorem doorM_all {hs : List HR} {ins : List Int} (hl : ins.length = (doorsOf "in" hs).length) {k : Nat} {h : HR} (e : hs[k]? = some h) (w : h.wd = "in") : (doorM hs ins k).isSome = true := by
  have m := mem_doors.mpr ⟨h, e, w⟩
  unfold doorM
  rw [if_pos m]
  have il := List.idxOf_lt_length_of_mem m
  rw [List.getElem?_eq_getElem (by omega)]
  rfl
/-! ### belts as they stand behind some bells -/
def nextB (m : List Int) (b : BR) : BR := if b.th = [] then b else ⟨b.one, b.to, b.th.drop 1 ++ [gD m b.one]⟩
def standB (ms : List (List Int)) (b : BR) : BR := if b.th = [] then b else ⟨b.one, b.to, (b.th ++ ms.map fun m => gD m b.one).drop ms.length⟩
abbrev stand (bs : List BR) (ms : List (List Int)) : List BR := bs.map (standB ms)
theorem stand_one (ms : List (List Int)) (b : BR) : (standB ms b).one = b.one := by unfold standB; split <;> rfl
theorem stand_to (ms : List (List Int)) (b : BR) : (standB ms b).to = b.to := by unfold standB; split <;> rfl
theorem stand_len (ms : List (List Int)) (b : BR) : (standB ms b).th.length = b.th.length := by
  unfold standB
  split
  · rfl
  · rw [List.length_drop, List.length_append, List.length_map]; omega
theorem nil_len {l l' : List Int} (h : l.length = l'.length) : l = [] ↔ l' = [] := by
  cases l <;> cases l' <;> simp at h ⊢
theorem stand_th (ms : List (List Int)) (b : BR) : (standB ms b).th = [] ↔ b.th = [] := nil_len (stand_len ms b)
theorem stand_zero (bs : List BR) : stand bs [] = bs := by
  refine (List.map_congr_left (g := id) fun b _ => ?_).trans (List.map_id _)
  unfold standB
  split
  · rfl
  · show (⟨b.one, b.to, (b.th ++ []).drop 0⟩ : BR) = b
    rw [List.append_nil]
    rfl
theorem stand_next (bs : List BR) (ms : List (List Int)) (m : List Int) : (stand bs ms).map (nextB m) = stand bs (ms ++ [m]) := by
  rw [List.map_map]
  refine List.map_congr_left fun b _ => ?_
  show nextB m (standB ms b) = standB (ms ++ [m]) b
  have hn := stand_th ms b
  by_cases e : b.th = []
  · rw [show nextB m (standB ms b) = standB ms b from if_pos (hn.mpr e)]
    rw [show standB ms b = b from if_pos e, show standB (ms ++ [m]) b = b from if_pos e]
  · rw [show nextB m (standB ms b) = ⟨(standB ms b).one, (standB ms b).to, (standB ms b).th.drop 1 ++ [gD m (standB ms b).one]⟩ from if_neg fun z => e (hn.mp z)]
    rw [stand_one, stand_to, show standB ms b = ⟨b.one, b.to, (b.th ++ ms.map fun m => gD m b.one).drop ms.length⟩ from if_neg e,
      show standB (ms ++ [m]) b = ⟨b.one, b.to, (b.th ++ (ms ++ [m]).map fun m => gD m b.one).drop (ms ++ [m]).length⟩ from if_neg e]
    show (⟨b.one, b.to, ((b.th ++ ms.map fun m => gD m b.one).drop ms.length).drop 1 ++ [gD m b.one]⟩ : BR) = _
    rw [List.drop_drop, List.map_append, ← List.append_assoc, List.length_append]
    congr 1
    refine (List.drop_append_of_le_length ?_).symm
    have := List.length_pos_iff.mpr e
    rw [List.length_append, List.length_map]
    show ms.length + 1 ≤ _
    omega
theorem loose_stand (bs : List BR) (ms : List (List Int)) : looseOf (stand bs ms) = looseOf bs := by
  unfold looseOf
  induction bs with
  | nil => rfl
  | cons b bs ih =>
    have e : (standB ms b).th.isEmpty = b.th.isEmpty := by
      have h := stand_th ms b
      cases h1 : (standB ms b).th <;> cases h2 : b.th <;> simp [h1, h2] at h ⊢
    show List.map _ (List.filter _ (standB ms b :: stand bs ms)) = _
    rw [List.filter_cons, List.filter_cons, e]
    cases b.th.isEmpty
    · exact ih
    · show ((standB ms b).one, (standB ms b).to) :: _ = (b.one, b.to) :: _
      rw [ih, stand_one, stand_to]
/-- what is taken from a belt with trays -/
theorem stand_head {ms : List (List Int)} {b : BR} (f : Nat → Int) (e : b.th ≠ []) : valB f (standB ms b) = (b.th ++ ms.map fun m => gD m b.one).getD ms.length 0 := by
  have hl := stand_len ms b
  have pos := List.length_pos_iff.mpr e
  have et : (standB ms b).th = (b.th ++ ms.map fun m => gD m b.one).drop ms.length := by unfold standB; rw [if_neg e]
  unfold valB
  cases q : (standB ms b).th with
  | nil => rw [q] at hl; simp at hl; omega
  | cons x l =>
    rw [q] at et
    have : ((b.th ++ ms.map fun m => gD m b.one).drop ms.length)[0]? = some x := by rw [← et]; rfl
    rw [List.getElem?_drop, Nat.add_zero] at this
    rw [List.getD_eq_getElem?_getD, this]
    rfl
/-! ### many bells -/
structure WS (hs : List HR) (bs : List BR) (rows ms : List (List Int)) : Prop where
  len : ms.length = rows.length
  at_ : ∀ (t : Nat) (r m : List Int), rows[t]? = some r → ms[t]? = some m → IsBell hs (stand bs (ms.take t)) r m
theorem WS.nil {hs : List HR} {bs : List BR} : WS hs bs [] [] := ⟨rfl, fun t r m e => nomatch e⟩
theorem WS.snoc {hs : List HR} {bs : List BR} {rows ms : List (List Int)} {r m : List Int} (h : WS hs bs rows ms) (b : IsBell hs (stand bs ms) r m) : WS hs bs (rows ++ [r]) (ms ++ [m]) := by
  refine ⟨by rw [List.length_append, List.length_append, h.len]; rfl, fun t r' m' e1 e2 => ?_⟩
  by_cases l : t < ms.length
  · have l2 : t < rows.length := by rw [← h.len]; exact l
    rw [List.getElem?_append_left l2] at e1
    rw [List.getElem?_append_left l] at e2
    rw [List.take_append_of_le_length (Nat.le_of_lt l)]
    exact h.at_ t r' m' e1 e2
  · have tl := (List.getElem?_eq_some_iff.mp e2).1
    rw [List.length_append] at tl
    have et : t = ms.length := by simp at tl; omega
    subst et
    rw [List.getElem?_append_right (Nat.le_refl _), Nat.sub_self] at e2
    rw [h.len, List.getElem?_append_right (Nat.le_refl _), Nat.sub_self] at e1
    cases e1
    cases e2
    rw [List.take_append_of_le_length (Nat.le_refl _), List.take_length]
    exact b
theorem WS.one {hs : List HR} {bs : List BR} {rows ms ms' : List (List Int)} {rk : Nat → Int} (hr : ∀ p ∈ looseOf bs, rk p.1 < rk p.2) (a : WS hs bs rows ms) (b : WS hs bs rows ms') : ms = ms' := by
  have key : ∀ t, ms.take t = ms'.take t := by
    intro t
    induction t with
    | zero => rfl
    | succ t ih =>
      rw [List.take_add_one, List.take_add_one, ih]
      by_cases l : t < rows.length
      · have l1 : t < ms.length := by have := a.len; omega
        have l2 : t < ms'.length := by have := b.len; omega
        have e1 : ms[t]? = some ms[t] := List.getElem?_eq_getElem l1
        have e2 : ms'[t]? = some ms'[t] := List.getElem?_eq_getElem l2
        have e3 : rows[t]? = some rows[t] := List.getElem?_eq_getElem l
        have q1 := a.at_ t _ _ e3 e1
        have q2 := b.at_ t _ _ e3 e2
        rw [ih] at q1
        have := bell_one (rk := rk) (by rw [loose_stand]; exact hr) q1 q2
        rw [e1, e2, this]
      · rw [List.getElem?_eq_none (by have := a.len; omega), List.getElem?_eq_none (by have := b.len; omega)]
  have h1 := key rows.length
  rw [List.take_of_length_le (by rw [a.len]; exact Nat.le_refl _), List.take_of_length_le (by rw [b.len]; exact Nat.le_refl _)] at h1
  exact h1
theorem WS.row {hs : List HR} {bs : List BR} {rows ms : List (List Int)} (h : WS hs bs rows ms) : ∀ m ∈ ms, m.length = hs.length := fun m hm => by
  obtain ⟨t, e⟩ := List.getElem?_of_mem hm
  have tl := (List.getElem?_eq_some_iff.mp e).1
  have e3 : rows[t]? = some (rows[t]'(by rw [← h.len]; exact tl)) := List.getElem?_eq_getElem _
  exact (h.at_ t _ _ e3 e).len
/-- the belts that come to a hand -/
def comingN (bs : List BR) (k : Nat) : List Nat := (List.range bs.length).filter fun i => decide (bs[i]?.map BR.to = some k)
def outsOf (hs : List HR) (m : List Int) : List Int := (doorsOf "out" hs).map (gD m)
/-! ### max, min of a list with a default -/
def rMaxDf (K : PySem.W.Frag) : List V → List V → Hp → VK → Prop := fun xs zs H Q => ∃ (a : Addr) (ns : List Int) (d : V), xs = [.ref a] ∧ zs = [d] ∧ SqL K H a (ns.map V.int) ∧ (ns = [] → Q d H) ∧ ∀ m, m ∈ ns → (∀ y ∈ ns, y ≤ m) → Q (.int m) H
def rMinDf (K : PySem.W.Frag) : List V → List V → Hp → VK → Prop := fun xs zs H Q => ∃ (a : Addr) (ns : List Int) (d : V), xs = [.ref a] ∧ zs = [d] ∧ SqL K H a (ns.map V.int) ∧ (ns = [] → Q d H) ∧ ∀ m, m ∈ ns → (∀ y ∈ ns, m ≤ y) → Q (.int m) H
theorem ints_val {ns : List Int} {its : List Value} (rv : Vals (ns.map V.int) its) : ∀ i v, its.toArray[i]? = some v → ∃ t, v = Value.int (ns.getD i 0) t := fun i v e => by
  rw [List.getElem?_toArray] at e
  have il : i < ns.length := by
    have h1 := (List.getElem?_eq_some_iff.mp e).1
    have h2 := rv.length
    rw [List.length_map] at h2
    omega
  obtain ⟨u, eu, t, ru⟩ := rv.get (i := i) (x := .int ns[i]) (by rw [List.getElem?_map, List.getElem?_eq_getElem il]; rfl)
  rw [e] at eu
  cases eu
  exact ⟨t, by rw [ru, List.getD_eq_getElem?_getD, List.getElem?_eq_getElem il]; rfl⟩
section
variable {X : Cx}
theorem cr_maxDf (K : PySem.W.Frag) (hk : X.K = K) (hc : X.calm = true) : CallRK X (.builtin "max") ["default"] (rMaxDf K) := by
  subst hk
  intro pins s σ H xs zs us ws Q I r r2 h
  obtain ⟨a, ns, d, rfl, rfl, hs, q0, q1⟩ := h
  obtain ⟨its, rv, hl, _⟩ := I.list hs
  rw [Vals.ref1 r]
  obtain ⟨dv, rfl, rd⟩ := vals1 r2
  have hh := I.ok.hd hc
  have ln : its.length = ns.length := by rw [← rv.length, List.length_map]
  show wpAny _ _ (call (.builtin "max") [.ref a] [(Str.ofString "default", dv)]) _ _ s
  refine PySem.call_max_walkD (PySem.W.iter_listW (A := X.A.in1) hh hl.isList fun s₂ e W st hfp hw hk => ?_)
  refine ⟨_, _, _, _, _, _, _, s.heap, (fun i j => decide (ns.getD i 0 > ns.getD j 0)), rfl, W, st, hfp, hw, hk, fun hz s' m => ?_, fun hp => ⟨fun i j vi vj s3 Q3 E3 _ p1 p2 q3 => ?_, fun v s' hP m => ?_⟩⟩
  · obtain ⟨h', tk, rfl, hk'⟩ := PySem.W.moved_old e rfl m
    refine ⟨d, H, I.kept hk', rd, q0 ?_⟩
    exact List.eq_nil_of_length_eq_zero (by have : its.toArray.size = 0 := hz; rw [List.size_toArray] at this; omega)
  · exact (CmpOf.ints_gt (fun i => ns.getD i 0) (ints_val rv)) i j vi vj s3 Q3 E3 p1 p2 q3
  · obtain ⟨h', tk, rfl, hk'⟩ := PySem.W.moved_old e rfl m
    have hp : 0 < its.length := by have : 0 < its.toArray.size := hp; rw [List.size_toArray] at this; exact this
    have hsz : its.toArray.size = its.length := List.size_toArray
    obtain ⟨t, rfl⟩ := ints_val rv _ v hP
    obtain ⟨h1, h2⟩ := argBest_gt (fun i => ns.getD i 0) (its.toArray.size - 1)
    refine ⟨.int _, H, I.kept hk', ⟨_, rfl⟩, q1 _ ?_ fun y hy => ?_⟩
    · have il : argBest (fun i j => decide (ns.getD i 0 > ns.getD j 0)) (its.toArray.size - 1) < ns.length := by omega
      rw [List.getD_eq_getElem?_getD, List.getElem?_eq_getElem il]
      exact List.getElem_mem _
    · obtain ⟨j, hj⟩ := List.getElem?_of_mem hy
      have jl := (List.getElem?_eq_some_iff.mp hj).1
      have := h2 j (by omega)
      rw [show ns.getD j 0 = y by rw [List.getD_eq_getElem?_getD, hj]; rfl] at this
      exact this
theorem cr_minDf (K : PySem.W.Frag) (hk : X.K = K) (hc : X.calm = true) : CallRK X (.builtin "min") ["default"] (rMinDf K) := by
  subst hk
  intro pins s σ H xs zs us ws Q I r r2 h
  obtain ⟨a, ns, d, rfl, rfl, hs, q0, q1⟩ := h
  obtain ⟨its, rv, hl, _⟩ := I.list hs
  rw [Vals.ref1 r]
  obtain ⟨dv, rfl, rd⟩ := vals1 r2
  have hh := I.ok.hd hc
  have ln : its.length = ns.length := by rw [← rv.length, List.length_map]
  show wpAny _ _ (call (.builtin "min") [.ref a] [(Str.ofString "default", dv)]) _ _ s
  refine PySem.call_min_walkD (PySem.W.iter_listW (A := X.A.in1) hh hl.isList fun s₂ e W st hfp hw hk => ?_)
  refine ⟨_, _, _, _, _, _, _, s.heap, (fun i j => decide (ns.getD i 0 < ns.getD j 0)), rfl, W, st, hfp, hw, hk, fun hz s' m => ?_, fun hp => ⟨fun i j vi vj s3 Q3 E3 _ p1 p2 q3 => ?_, fun v s' hP m => ?_⟩⟩
  · obtain ⟨h', tk, rfl, hk'⟩ := PySem.W.moved_old e rfl m
    refine ⟨d, H, I.kept hk', rd, q0 ?_⟩
    exact List.eq_nil_of_length_eq_zero (by have : its.toArray.size = 0 := hz; rw [List.size_toArray] at this; omega)
  · exact (CmpOf.ints_lt (fun i => ns.getD i 0) (ints_val rv)) i j vi vj s3 Q3 E3 p1 p2 q3
  · obtain ⟨h', tk, rfl, hk'⟩ := PySem.W.moved_old e rfl m
    have hp : 0 < its.length := by have : 0 < its.toArray.size := hp; rw [List.size_toArray] at this; exact this
    have hsz : its.toArray.size = its.length := List.size_toArray
    obtain ⟨t, rfl⟩ := ints_val rv _ v hP
    obtain ⟨h1, h2⟩ := argBest_lt (fun i => ns.getD i 0) (its.toArray.size - 1)
    refine ⟨.int _, H, I.kept hk', ⟨_, rfl⟩, q1 _ ?_ fun y hy => ?_⟩
    · have il : argBest (fun i j => decide (ns.getD i 0 < ns.getD j 0)) (its.toArray.size - 1) < ns.length := by omega
      rw [List.getD_eq_getElem?_getD, List.getElem?_eq_getElem il]
      exact List.getElem_mem _
    · obtain ⟨j, hj⟩ := List.getElem?_of_mem hy
      have jl := (List.getElem?_eq_some_iff.mp hj).1
      have := h2 j (by omega)
      rw [show ns.getD j 0 = y by rw [List.getD_eq_getElem?_getD, hj]; rfl] at this
      exact this
end
section
variable {P : Program} {w : World} {K : PySem.W.Frag} {mg : Str → Option Value} {base : Heap}
def sp_made_of_two (K : PySem.W.Frag) : Sp := fun vs H Q _ => ∃ (wd : Str) (a b : Int), vs = [.str wd, .int a, .int b] ∧ Q (.int (mk2 wd a b)) H
theorem ok_made_of_two {f : Addr} {fd : FuncData} (F : Fun K "made_of_two" "made_of_two" s_made_of_two f fd) (T : Top K mg) : FnOk P w K mg base CX0 1 f fd ["word", "one", "other"] (sp_made_of_two K) := by
  refine F.ok sc_made_of_two (fun vs H Q E h => ?_) (fun cdv A outer s H vs Q E hr h => ?_)
  · obtain ⟨wd, a, b, rfl, _⟩ := h
    rfl
  obtain ⟨wd, a, b, rfl, q⟩ := h
  unfold mk2 at q
  refine ⟨_, (pss_cons (ps_if (pt_cmpR op_eq (pv 0) pe_str (nomark _)) (pss_one (ps_ret (pe_op op_add (pv 1) (pv 2)))) pss_nil)
      (pss_cons (ps_if (pt_cmpR op_eq (pv 0) pe_str (nomark _)) (pss_one (ps_ret (pe_op op_sub (pv 1) (pv 2)))) pss_nil)
      (pss_cons (ps_if (pt_cmpR op_eq (pv 0) pe_str (nomark _)) (pss_one (ps_ret (pe_ifExp (pt_cmpR op_lt (pv 1) (pv 2) (nomark _)) pe_int pe_int))) pss_nil)
      (pss_cons (ps_if (pt_cmpR op_eq (pv 0) pe_str (nomark _)) (pss_one (ps_ret (pe_callB (call_max2 rfl) (by rfl) T.m_max (by decide +kernel) (pa_cons (pv 1) (pa_cons (pv 2) pa_nil))))) pss_nil)
      (pss_one (ps_ret (pe_callB (call_min2 rfl) (by rfl) T.m_min (by decide +kernel) (pa_cons (pv 1) (pa_cons (pv 2) pa_nil))))))))), ?_⟩
  refine ⟨_, rfl, rfl, _, rfl, if_str (fun e => ?_) (fun e => ?_)⟩
  · rw [if_pos e] at q
    exact ⟨_, rfl, _, rfl, _, _, rfl, rfl, q⟩
  rw [if_neg e] at q
  refine ⟨_, rfl, rfl, _, rfl, if_str (fun e => ?_) (fun e => ?_)⟩
  · rw [if_pos e] at q
    exact ⟨_, rfl, _, rfl, _, _, rfl, rfl, q⟩
  rw [if_neg e] at q
  refine ⟨_, rfl, rfl, _, rfl, if_str (fun e => ?_) (fun e => ?_)⟩
  · rw [if_pos e] at q
    refine ⟨_, rfl, _, rfl, _, _, rfl, rfl, _, rfl, if_bl (fun c => ?_) (fun c => ?_)⟩
    · rw [if_pos (of_decide_eq_true c)] at q
      exact q
    · rw [if_neg (of_decide_eq_false c)] at q
      exact q
  rw [if_neg e] at q
  refine ⟨_, rfl, rfl, _, rfl, if_str (fun e => ?_) (fun e => ?_)⟩
  · rw [if_pos e] at q
    exact ⟨_, rfl, _, rfl, _, _, rfl, q⟩
  rw [if_neg e] at q
  exact ⟨_, rfl, _, rfl, _, _, rfl, q⟩
theorem inV_two {x y z : Str} : inV (.str x) [.str y, .str z] = true ↔ x = y ∨ x = z := by
  unfold inV
  simp only [List.any_cons, List.any_nil, Bool.or_false, Bool.or_eq_true, eqV, beq_iff_eq]
  constructor
  · rintro (h | h)
    · exact .inl h.symm
    · exact .inr h.symm
  · rintro (h | h)
    · exact .inl h.symm
    · exact .inr h.symm
theorem if_in2 {x y z : Str} {A B : Prop} (h1 : x = y ∨ x = z → A) (h2 : ¬ (x = y ∨ x = z) → B) : if (if false = true then !inV (.str x) [.str y, .str z] else inV (.str x) [.str y, .str z]) = true then A else B := by
  have e : (if false = true then !inV (.str x) [.str y, .str z] else inV (.str x) [.str y, .str z]) = inV (.str x) [.str y, .str z] := if_neg Bool.false_ne_true
  rw [e]
  exact if_bl (fun c => h1 (inV_two.mp c)) (fun c => h2 (fun k => by rw [inV_two.mpr k] at c; cases c))
def sp_made_by (K : PySem.W.Frag) : Sp := fun vs H Q _ => ∃ (r t : Addr) (rl ts : List V) (wd : Str) (n a b c : Int), vs = [.ref r, .ref t] ∧ SqT K H r rl ∧ SqT K H t ts ∧ rl[0]? = some (.str wd) ∧
  (wd = "always" ∨ wd = "times" → rl[1]? = some (.int n)) ∧ (wd ≠ "always" → ts[0]? = some (.int a)) ∧ (wd = "pick" ∨ (wd ≠ "always" ∧ wd ≠ "times" ∧ wd ≠ "same" ∧ wd ≠ "out") → ts[1]? = some (.int b)) ∧ (wd = "pick" → ts[2]? = some (.int c)) ∧
  (-(2 ^ 64) < n ∧ n < 2 ^ 64) ∧ ∀ H', Same H H' → Q (.int (mk wd n a b c)) H'
theorem ok_made_by {f : Addr} {fd : FuncData} (F : Fun K "made_by" "made_by" s_made_by f fd) (T : Top K mg) : FnOk P w K mg base CX0 2 f fd ["rule", "things"] (sp_made_by K) := by
  obtain ⟨f_made_of_two, fd_made_of_two, F_made_of_two, b_made_of_two, m_made_of_two⟩ := T.d_made_of_two
  have G_made_of_two := ok_made_of_two (P := P) (w := w) (base := base) F_made_of_two T
  refine F.ok sc_made_by (fun vs H Q E h => ?_) (fun cdv A outer s H vs Q E hr h => ?_)
  · obtain ⟨r, t, rl, ts, wd, n, a, b, c, rfl, _⟩ := h
    rfl
  obtain ⟨r, t, rl, ts, wd, n, a, b, c, rfl, hR, hT, r0, r1, t0, t1, t2, hn, q⟩ := h
  unfold mk at q
  refine ⟨_, (pss_cons (ps_set (i := 2) sc_made_by.nd rfl (Or.inl rfl) (pe_ix (ix_tupK K rfl) (pv 0) pe_int (fun _ _ => rfl)))
      (pss_cons (ps_if (pt_cmpR op_eq (pv 2) pe_str (nomark _)) (pss_one (ps_ret (pe_ix (ix_tupK K rfl) (pv 0) pe_int (fun _ _ => rfl)))) pss_nil)
      (pss_cons (ps_if (pt_cmpR op_eq (pv 2) pe_str (nomark _)) (pss_one (ps_ret (pe_op op_mul (pe_ix (ix_tupK K rfl) (pv 0) pe_int (fun _ _ => rfl)) (pe_ix (ix_tupK K rfl) (pv 1) pe_int (fun _ _ => rfl))))) pss_nil)
      (pss_cons (ps_if (pt_cmpR op_eq (pv 2) pe_str (nomark _)) (pss_one (ps_ret (pe_ifExp (pt_cmpR op_ne (pe_ix (ix_tupK K rfl) (pv 1) pe_int (fun _ _ => rfl)) pe_int (nomark _)) (pe_ix (ix_tupK K rfl) (pv 1) pe_int (fun _ _ => rfl)) (pe_ix (ix_tupK K rfl) (pv 1) pe_int (fun _ _ => rfl))))) pss_nil)
      (pss_cons (ps_if (pt_cmpR (op_in_seqK K rfl) (pv 2) (pe_tup (pa_cons pe_str (pa_cons pe_str pa_nil))) (by with_unfolding_all rfl)) (pss_one (ps_ret (pe_ix (ix_tupK K rfl) (pv 1) pe_int (fun _ _ => rfl)))) pss_nil)
      (pss_one (ps_ret (pe_call G_made_of_two (hr.mono (by decide)) (by rfl) m_made_of_two F_made_of_two.kp b_made_of_two .nil pass0 (pa_cons (pv 2) (pa_cons (pe_ix (ix_tupK K rfl) (pv 1) pe_int (fun _ _ => rfl)) (pa_cons (pe_ix (ix_tupK K rfl) (pv 1) pe_int (fun _ _ => rfl)) pa_nil))))))))))), ?_⟩
  refine ⟨_, rfl, r, _, _, _, rfl, rfl, hR, atI_nat (j := 0) r0, ?_⟩
  refine ⟨_, rfl, rfl, _, rfl, if_str (fun e1 => ?_) (fun e1 => ?_)⟩
  · have q := q H (fun _ _ e => e)
    rw [if_pos e1] at q
    exact ⟨_, rfl, r, _, _, _, rfl, rfl, hR, atI_nat (j := 1) (r1 (.inl e1)), q⟩
  refine ⟨_, rfl, rfl, _, rfl, if_str (fun e2 => ?_) (fun e2 => ?_)⟩
  · have q := q H (fun _ _ e => e)
    rw [if_neg e1, if_pos e2] at q
    exact ⟨_, rfl, r, _, _, _, rfl, rfl, hR, atI_nat (j := 1) (r1 (.inr e2)), _, rfl, t, _, _, _, rfl, rfl, hT, atI_nat (j := 0) (t0 e1), _, _, rfl, rfl, .inl hn, q⟩
  refine ⟨_, rfl, rfl, _, rfl, if_str (fun e3 => ?_) (fun e3 => ?_)⟩
  · have q := q H (fun _ _ e => e)
    rw [if_neg e1, if_neg e2, if_pos e3] at q
    refine ⟨_, rfl, t, _, _, _, rfl, rfl, hT, atI_nat (j := 0) (t0 e1), rfl, _, rfl, if_bl (fun k => ?_) (fun k => ?_)⟩
    · have k2 : ¬ a = 0 := fun z => by
        rw [z] at k
        exact absurd k (by decide)
      rw [if_neg k2] at q
      exact ⟨_, rfl, t, _, _, _, rfl, rfl, hT, atI_nat (j := 1) (t1 (.inl e3)), q⟩
    · have k2 : a = 0 := by
        by_cases z : a = 0
        · exact z
        · have k3 : (!decide (V.int a = V.int 0)) = false := k
          rw [decide_eq_false (fun y => z (V.int.inj y))] at k3
          cases k3
      rw [if_pos k2] at q
      exact ⟨_, rfl, t, _, _, _, rfl, rfl, hT, atI_nat (j := 2) (t2 e3), q⟩
  refine ⟨_, rfl, (by show 2 ≤ sizeLine; decide), fun p np => ?_⟩
  have s1 := same_new (o := .tup [V.str "same", V.str "out"]) np
  have q := q _ s1
  rw [if_neg e1, if_neg e2, if_neg e3] at q
  refine ⟨p, _, rfl, .inr (SqT.of upd_same), rfl, rfl, _, rfl, if_in2 (fun e4 => ?_) (fun e4 => ?_)⟩
  · rw [if_pos e4] at q
    exact ⟨_, rfl, t, _, _, _, rfl, rfl, same_seqT s1 hT, atI_nat (j := 0) (t0 e1), q⟩
  · rw [if_neg e4] at q
    exact ⟨_, rfl, _, rfl, t, _, _, _, rfl, rfl, same_seqT s1 hT, atI_nat (j := 0) (t0 e1), _, rfl, t, _, _, _, rfl, rfl, same_seqT s1 hT, atI_nat (j := 1) (t1 (.inr ⟨e1, e2, fun z => e4 (.inl z), fun z => e4 (.inr z)⟩)), wd, a, b, rfl, q⟩
end
section
variable {P : Program} {w : World} {K : PySem.W.Frag} {mg : Str → Option Value} {base : Heap}
theorem filt_succ {p : Nat → Bool} (i : Nat) : (List.range (i + 1)).filter p = (List.range i).filter p ++ (if p i = true then [i] else []) := by
  rw [List.range_succ, List.filter_append]
  cases h : p i <;> simp [h]
theorem filt_len {p : Nat → Bool} (i : Nat) : ((List.range i).filter p).length ≤ i := by
  refine Nat.le_trans (List.length_filter_le ..) ?_
  rw [List.length_range]
  exact Nat.le_refl _
def sp_comings (K : PySem.W.Frag) : Sp := fun vs H Q _ => ∃ (r : Addr) (hs : List HR) (bs : List BR) (k : Nat), vs = [.ref r, nV k] ∧ RoomAt H r hs bs ∧ bs.length ≤ 400 ∧ ∀ (p : Addr) (H' : Hp), H p = none → H' p = some (.lst ((comingN bs k).map nV)) → Same H H' → Q (.ref p) H'
theorem ok_comings {f : Addr} {fd : FuncData} (F : Fun K "comings" "comings" s_comings f fd) (T : Top K mg) : FnOk P w K mg base CX0 1 f fd ["room", "hand"] (sp_comings K) := by
  refine F.ok sc_comings (fun vs H Q E h => ?_) (fun cdv A outer s H vs Q E hr h => ?_)
  · obtain ⟨r, hs, bs, k, rfl, _⟩ := h
    rfl
  obtain ⟨r, hs, bs, k, rfl, hR, lb, q⟩ := h
  obtain ⟨ha, ba, hv, bv, er, eh, eb, alh, alb⟩ := hR.ex
  have lbv := alb.length
  refine ⟨_, (pss_one (ps_ret (pe_lc (own := [("number", 2), ("belt", 3)]) (g := gTup K 2 (gCons (gName 2) (gCons (gName 3) gNil))) (by rfl) sc_comings.nd (pi_enumT K rfl (by rfl) T.m_enumerate (pa_cons (pe_ix (ix_tupK K rfl) (pv 0) pe_int (fun _ _ => rfl)) pa_nil)) (blkOk_by (own := [("number", 2), ("belt", 3)]) (N := N_comings) (sc := defScope s_comings) (by decide +kernel)) (fun _ _ _ _ _ => (pg_tupK K rfl rfl (pgs_cons (pg_name (i := 2) sc_comings.nd rfl (Or.inl rfl)) (pgs_cons (pg_name (i := 3) sc_comings.nd rfl (Or.inl rfl)) pgs_nil)))) (fun _ _ _ _ _ => pts_one (pt_cmpR op_eq (pe_ix (ix_tupK K rfl) (pv 3) pe_int (fun _ _ => rfl)) (pv 1) (nomark _))) (fun _ _ _ _ _ => (pv 2))))), ?_⟩
  refine ⟨_, rfl, r, _, _, _, rfl, rfl, SqT.of er, atI_nat (j := 1) rfl, ba, bv, rfl, SqT.of eb, fun D nD => lc_it (J := IteT K ba bv) (n := bv.length) (fun i H5 => H5 D = some (.lst (((List.range i).filter fun j => decide (bs[j]?.map BR.to = some k)).map nV)) ∧ Same H H5) ⟨upd_same, same_new nD⟩ ?_ ?_ ?_ ?_⟩
  · rintro i H5 hi ⟨hD, s5⟩
    exact ⟨SqT.of (s5 _ _ eb), hi⟩
  · rintro H5 ⟨hD, s5⟩
    exact ⟨SqT.of (s5 _ _ eb), rfl⟩
  · rintro i x H5 H6 hi ⟨hD, s5⟩ ⟨t, y, rfl, nt, rfl, ey⟩
    obtain ⟨b, eb2, ⟨t2, g, rfl, e1, e2⟩⟩ := alb.getL ey
    have s6 := s5.trans (same_new (o := .tup [V.int ((i : Nat) : Int), V.ref t2]) nt)
    have hD6 := same_new (o := .tup [V.int ((i : Nat) : Int), V.ref t2]) nt _ _ hD
    have few := filt_len (p := fun j => decide (bs[j]?.map BR.to = some k)) i
    refine ⟨t, _, rfl, SqT.of upd_same, rfl, _, _, rfl, _, _, rfl, rfl, rfl, _, rfl, t2, _, _, _, rfl, rfl, SqT.of (s6 _ _ e1), atI_nat (j := 1) rfl, _, rfl, rfl, _, rfl, if_bl (fun c => ?_) (fun c => ?_)⟩
    · have c : b.to = k := by have := V.int.inj (of_decide_eq_true c); omega
      refine ⟨_, rfl, _, hD6, by rw [List.length_map]; exact small1000 (by omega), ?_, Same.own s6 nD⟩
      rw [upd_same, filt_succ, if_pos (decide_eq_true (by rw [eb2, ← c]; rfl)), List.map_append]
      rfl
    · have c : ¬ b.to = k := fun z => of_decide_eq_false c (by rw [z])
      refine ⟨?_, s6⟩
      rw [filt_succ, if_neg fun z => c (by have := of_decide_eq_true z; rw [eb2] at this; exact Option.some.inj this), List.append_nil]
      exact hD6
  · rintro H5 ⟨hD, s5⟩
    refine q D H5 nD ?_ s5
    rw [hD, lbv]
    rfl
def sp_doors (z : Str) : Sp := fun vs H Q _ => ∃ (r : Addr) (hs : List HR) (bs : List BR), vs = [.ref r] ∧ RoomAt H r hs bs ∧ hs.length ≤ 400 ∧ (∀ h ∈ hs, GoodHand h) ∧ ∀ (p : Addr) (H' : Hp), H p = none → H' p = some (.lst ((doorsOf z hs).map nV)) → Same H H' → Q (.ref p) H'
abbrev sp_doors_in (K : PySem.W.Frag) : Sp := sp_doors "in"
abbrev sp_doors_out (K : PySem.W.Frag) : Sp := sp_doors "out"
theorem ok_doors_in {f : Addr} {fd : FuncData} (F : Fun K "doors_in" "doors_in" s_doors_in f fd) (T : Top K mg) : FnOk P w K mg base CX0 1 f fd ["room"] (sp_doors_in K) := by
  refine F.ok sc_doors_in (fun vs H Q E h => ?_) (fun cdv A outer s H vs Q E hr h => ?_)
  · obtain ⟨r, hs, bs, rfl, _⟩ := h
    rfl
  obtain ⟨aI, mI, hI⟩ := T.x_in
  obtain ⟨r, hs, bs, rfl, hR, lb, good, q⟩ := h
  obtain ⟨ha, ba, hv, bv, er, eh, eb, alh, alb⟩ := hR.ex
  have lhv := alh.length
  refine ⟨_, (pss_one (ps_ret (pe_lc (own := [("number", 1), ("hand", 2)]) (g := gTup K 2 (gCons (gName 1) (gCons (gName 2) gNil))) (by rfl) sc_doors_in.nd (pi_enumT K rfl (by rfl) T.m_enumerate (pa_cons (pe_ix (ix_tupK K rfl) (pv 0) pe_int (fun _ _ => rfl)) pa_nil)) (blkOk_by (own := [("number", 1), ("hand", 2)]) (N := N_doors_in) (sc := defScope s_doors_in) (by decide +kernel)) (fun _ _ _ _ _ => (pg_tupK K rfl rfl (pgs_cons (pg_name (i := 1) sc_doors_in.nd rfl (Or.inl rfl)) (pgs_cons (pg_name (i := 2) sc_doors_in.nd rfl (Or.inl rfl)) pgs_nil)))) (fun _ _ _ _ _ => pts_one (pt_cmpR (op_eqDK K rfl hr.units) (pe_ix (ix_tupK K rfl) (pv 2) pe_int (fun _ _ => rfl)) (pe_glob (v := .ref aI) (by rfl) mI rfl) (nomark _))) (fun _ _ _ _ _ => (pv 1))))), ?_⟩
  refine ⟨_, rfl, r, _, _, _, rfl, rfl, SqT.of er, atI_nat (j := 0) rfl, ha, hv, rfl, SqT.of eh, fun D nD => lc_it (J := IteT K ha hv) (n := hv.length) (fun i H5 => H5 D = some (.lst (((List.range i).filter fun j => decide (hs[j]?.map HR.wd = some ("in" : Str))).map nV)) ∧ Same H H5) ⟨upd_same, same_new nD⟩ ?_ ?_ ?_ ?_⟩
  · rintro i H5 hi ⟨hD, s5⟩
    exact ⟨SqT.of (s5 _ _ eh), hi⟩
  · rintro H5 ⟨hD, s5⟩
    exact ⟨SqT.of (s5 _ _ eh), rfl⟩
  · rintro i x H5 H6 hi ⟨hD, s5⟩ ⟨t, y, rfl, nt, rfl, ey⟩
    obtain ⟨hh, eb2, ⟨t2, g, rfl, e1, e2⟩⟩ := alh.getL ey
    have gh := good _ (List.mem_of_getElem? eb2)
    have s6 := s5.trans (same_new (o := .tup [V.int ((i : Nat) : Int), V.ref t2]) nt)
    have hD6 := same_new (o := .tup [V.int ((i : Nat) : Int), V.ref t2]) nt _ _ hD
    have few := filt_len (p := fun j => decide (hs[j]?.map HR.wd = some ("in" : Str))) i
    refine ⟨t, _, rfl, SqT.of upd_same, rfl, _, _, rfl, _, _, rfl, rfl, rfl, _, rfl, t2, _, _, _, rfl, rfl, SqT.of (s6 _ _ e1), atI_nat (j := 0) rfl, ?_⟩
    refine ⟨_, _, rule_dp (s6 _ _ e2), .tup (hI _) (.cons (.str _) .nil), rule_shaped gh.lay, one_shaped (by decide +kernel), _, rfl, ?_⟩
    rw [rule_eqv, gh.door "in" (.inl rfl)]
    by_cases c : hh.wd = "in"
    · rw [decide_eq_true c]
      refine if_bl (fun _ => ⟨_, rfl, _, hD6, by rw [List.length_map]; exact small1000 (by omega), ?_, Same.own s6 nD⟩) (fun z => nomatch z)
      rw [upd_same, filt_succ, if_pos (decide_eq_true (by rw [eb2, ← c]; rfl)), List.map_append]
      rfl
    · rw [decide_eq_false c]
      refine if_bl (fun z => nomatch z) (fun _ => ⟨?_, s6⟩)
      rw [filt_succ, if_neg fun z => c (by have := of_decide_eq_true z; rw [eb2] at this; exact Option.some.inj this), List.append_nil]
      exact hD6
  · rintro H5 ⟨hD, s5⟩
    refine q D H5 nD ?_ s5
    rw [hD, lhv]
    rfl
end
/-- a tuple of whole numbers -/
def RowAt (H : Hp) (v : V) (m : List Int) : Prop := ∃ t : Addr, v = .ref t ∧ H t = some (.tup (m.map V.int))
theorem RowAt.keep {H H' : Hp} {v : V} {m : List Int} (a : RowAt H v m) (k : TK H H') : RowAt H' v m := by
  obtain ⟨t, e, h⟩ := a
  exact ⟨t, e, k _ _ h⟩
theorem gD_get {m : List Int} {k : Nat} (h : k < m.length) : m[k]? = some (gD m k) := by
  show _ = some (m.getD k 0)
  rw [List.getD_eq_getElem?_getD, List.getElem?_eq_getElem h]; rfl
theorem at_row {m : List Int} {k : Nat} (h : k < m.length) : atI (m.map V.int) ((k : Nat) : Int) = some (.int (gD m k)) := atI_nat (by rw [List.getElem?_map, gD_get h]; rfl)
theorem soon_one {ls : List (Nat × Nat)} : ∀ {left o1 o2 : List Nat}, Soon ls left o1 → Soon ls left o2 → o1 = o2 := by
  intro left o1 o2 h
  induction h generalizing o2 with
  | nil =>
    intro h2
    cases h2 with
    | nil => rfl
    | cons a => cases a
  | cons a b c d ih =>
    intro h2
    cases h2 with
    | nil => cases a
    | @cons _ ord k2 a2 b2 c2 d2 =>
      have e := Nat.le_antisymm (c _ a2 b2) (c2 _ a b)
      subst e
      rw [ih d2]
theorem soon_len {ls : List (Nat × Nat)} {left ord : List Nat} (h : Soon ls left ord) : ord.length = left.length := by
  induction h with
  | nil => rfl
  | cons a b c d ih =>
    rw [List.length_cons, ih, List.length_erase_of_mem a]
    have := List.length_pos_of_mem a
    omega
theorem soon_mem {ls : List (Nat × Nat)} {left ord : List Nat} (h : Soon ls left ord) : ∀ x ∈ ord, x ∈ left := by
  induction h with
  | nil => exact fun _ z => nomatch z
  | cons a b c d ih =>
    intro x hx
    rcases List.mem_cons.mp hx with e | e
    · rw [e]; exact a
    · exact List.mem_of_mem_erase (ih x e)
section
variable {P : Program} {w : World} {K : PySem.W.Frag} {mg : Str → Option Value} {base : Heap}
/-- a hand and the belts that come to it -/
def PlanAt (Z : Hp) (D : Addr) (bs : List BR) (H : Hp) (v : V) (k : Nat) : Prop := ∃ t l : Addr, v = .ref t ∧ H t = some (.tup [nV k, .ref l]) ∧ H l = some (.lst ((comingN bs k).map nV)) ∧ l ≠ D ∧ Z t = none ∧ Z l = none
theorem PlanAt.same {Z : Hp} {D : Addr} {bs : List BR} {H H' : Hp} {v : V} {k : Nat} (a : PlanAt Z D bs H v k) (s : Same H H') : PlanAt Z D bs H' v k := by
  obtain ⟨t, l, e, h1, h2, n⟩ := a
  exact ⟨t, l, e, s _ _ h1, s _ _ h2, n⟩
theorem PlanAt.own {Z : Hp} {D : Addr} {bs : List BR} {H : Hp} {v : V} {k : Nat} {xs ys : List V} (a : PlanAt Z D bs H v k) (h : H D = some (.lst xs)) : PlanAt Z D bs (upd H D (.lst ys)) v k := by
  obtain ⟨t, l, e, h1, h2, n⟩ := a
  exact ⟨t, l, e, TK.lst h _ _ h1, by rw [upd_ne n.1]; exact h2, n⟩
def sp_work_plan (K : PySem.W.Frag) : Sp := fun vs H Q _ => ∃ (r : Addr) (hs : List HR) (bs : List BR) (rk : Nat → Int), vs = [.ref r] ∧ RoomAt H r hs bs ∧ hs.length ≤ 400 ∧ bs.length ≤ 400 ∧ (∀ b ∈ bs, b.one < hs.length ∧ b.to < hs.length) ∧ (∀ p ∈ looseOf bs, rk p.1 < rk p.2) ∧
  ∀ (p D : Addr) (ord : List Nat) (pv : List V) (H' : Hp), H p = none → H' p = some (.lst pv) → All2 (PlanAt H D bs H') pv ord → Soon (looseOf bs) (List.range hs.length) ord → Same H H' → Q (.ref p) H'
theorem ok_work_plan {f : Addr} {fd : FuncData} (F : Fun K "work_plan" "work_plan" s_work_plan f fd) (T : Top K mg) : FnOk P w K mg base CX0 2 f fd ["room"] (sp_work_plan K) := by
  obtain ⟨f_comings, fd_comings, F_comings, b_comings, m_comings⟩ := T.d_comings
  have G_comings := ok_comings (P := P) (w := w) (base := base) F_comings T
  obtain ⟨f_work_order, fd_work_order, F_work_order, b_work_order, m_work_order⟩ := T.d_work_order
  have G_work_order := ok_work_order (P := P) (w := w) (base := base) F_work_order T
  refine F.ok sc_work_plan (fun vs H Q E h => ?_) (fun cdv A outer s H vs Q E hr h => ?_)
  · obtain ⟨r, hs, bs, rk, rfl, _⟩ := h
    rfl
  obtain ⟨r, hs, bs, rk, rfl, hR, lh, lb, ends, hrk, q⟩ := h
  refine ⟨_, (pss_one (ps_ret (pe_lc (own := [("hand", 1)]) (g := gName 1) (tt := tYes) (by rfl) sc_work_plan.nd (pi_listK K rfl (pe_call G_work_order (hr.mono (by decide)) (by rfl) m_work_order F_work_order.kp b_work_order .nil pass0 (pa_cons (pv 0) pa_nil))) (blkOk_by (own := [("hand", 1)]) (N := N_work_plan) (sc := defScope s_work_plan) (by decide +kernel)) (fun _ _ _ _ _ => (pg_name (i := 1) sc_work_plan.nd rfl (Or.inl rfl))) (fun _ _ _ _ _ => pts_nil) (fun _ _ _ _ _ => (pe_tup (pa_cons (pv 1) (pa_cons (pe_call G_comings (hr.mono (by decide)) (by rfl) m_comings F_comings.kp b_comings .nil pass0 (pa_cons (pv 0) (pa_cons (pv 1) pa_nil))) pa_nil))))))), ?_⟩
  refine ⟨_, rfl, r, hs, bs, rk, rfl, hR, lh, lb, ends, hrk, fun od ord H1 nod hod s1 soon => ?_⟩
  have lo := soon_len soon
  rw [List.length_range] at lo
  refine ⟨od, rfl, ⟨_, SqL.of hod⟩, fun D nD => lc_list (K := K) (a := od) (xs := ord.map nV) (fun i H5 => ∃ pv : List V, H5 D = some (.lst pv) ∧ All2 (PlanAt H D bs H5) pv (ord.take i) ∧ Same H1 H5) ⟨[], upd_same, .nil, same_new nD⟩ (fun i H5 _ ⟨_, _, _, s5⟩ => SqL.of (s5 _ _ hod)) ?_ ?_⟩
  · rintro i x H5 hx ⟨pv, hD, al, s5⟩
    rw [List.getElem?_map] at hx
    cases ek : ord[i]? with
    | none => rw [ek] at hx; cases hx
    | some k =>
    rw [ek] at hx
    obtain rfl : nV k = x := Option.some.inj hx
    have il := (List.getElem?_eq_some_iff.mp ek).1
    refine ⟨rfl, yes_in ⟨_, rfl, _, rfl, _, rfl, r, hs, bs, k, rfl, hR.keep (TK.same (s1.trans s5)), lb, fun l H6 nl hl s6 => ⟨(by show 2 ≤ sizeLine; decide), fun t nt => ⟨pv, same_new nt _ _ (s6 _ _ hD), ?_, pv ++ [V.ref t], upd_same, ?_, Same.own ((s5.trans s6).trans (same_new nt)) nD⟩⟩⟩⟩
    · have := al.length
      rw [List.length_take] at this
      exact small1000 (by omega)
    · rw [List.take_add_one, ek]
      have h6 : All2 (PlanAt H D bs (upd H6 t (.tup [nV k, V.ref l]))) (pv ++ [V.ref t]) (ord.take i ++ [k]) := (al.imp fun _ _ z => z.same (s6.trans (same_new nt))).snoc ⟨t, l, rfl, upd_same, same_new nt _ _ hl, (ne_of_none hD nl).symm, same_none ((s1.trans s5).trans s6) nt, same_none (s1.trans s5) nl⟩
      exact h6.imp fun _ _ z => z.own (same_new nt _ _ (s6 _ _ hD))
  · rintro H5 ⟨pv, hD, al, s5⟩
    rw [List.length_map, List.take_length] at al
    exact q D D ord pv H5 (same_none s1 nD) hD al soon (s1.trans s5)
theorem dget_of {H : Hp} {a : Addr} {kvs : List (Key × V)} {k : Nat} {o : Option V} (e : H a = some (.dK kvs)) (h : valV kvs (kN k) = o) : DGet H a (nV k) o := h ▸ DGet.k (k := kN k) e
def sp_thing_taken (K : PySem.W.Frag) : Sp := fun vs H Q _ => ∃ (v : V) (b : BR) (d : Addr) (kvs : List (Key × V)) (pm : Nat → Option Int), vs = [v, .ref d] ∧ BeltAt H v b ∧ H d = some (.dK kvs) ∧ DM kvs pm ∧ (b.th = [] → (pm b.one).isSome = true) ∧ Q (.int (valB (fun j => (pm j).getD 0) b)) H
theorem ok_thing_taken {f : Addr} {fd : FuncData} (F : Fun K "thing_taken" "thing_taken" s_thing_taken f fd) (T : Top K mg) : FnOk P w K mg base CX0 1 f fd ["belt", "made"] (sp_thing_taken K) := by
  refine F.ok sc_thing_taken (fun vs H Q E h => ?_) (fun cdv A outer s H vs Q E hr h => ?_)
  · obtain ⟨v, b, d, kvs, pm, rfl, _⟩ := h
    rfl
  obtain ⟨v, b, d, kvs, pm, rfl, ⟨t, g, rfl, e1, e2⟩, hd, dm, av, q⟩ := h
  refine ⟨_, (pss_cons (ps_asg (pv 0) (pg_tupK K rfl rfl (pgs_cons (pg_name (i := 2) sc_thing_taken.nd rfl (Or.inl rfl)) (pgs_cons (pg_name (i := 3) sc_thing_taken.nd rfl (Or.inl rfl)) (pgs_cons (pg_name (i := 4) sc_thing_taken.nd rfl (Or.inl rfl)) pgs_nil)))))
      (pss_one (ps_ret (pe_ifExp (pt_truthK K rfl (pv 4) (by intro _; rfl)) (pe_ix (ix_tupK K rfl) (pv 4) pe_int (fun _ _ => rfl)) (pe_dget (hu_of hr) (pv 1) (pv 2) (fun _ _ => rfl)))))), ?_⟩
  refine ⟨_, rfl, t, _, rfl, SqT.of e1, rfl, _, _, rfl, _, _, rfl, _, _, rfl, rfl, ?_⟩
  refine ⟨_, rfl, _, .inr (.inl ⟨_, SqT.of e2, rfl⟩), ?_⟩
  cases eb : b.th with
  | nil =>
    rw [valB_nil eb] at q
    obtain ⟨x, hx⟩ := Option.isSome_iff_exists.mp (av eb)
    rw [hx] at q
    refine if_bl (fun z => nomatch z) (fun _ => ⟨_, rfl, _, rfl, d, .int x, rfl, dget_of hd ?_, q⟩)
    rw [dm, hx]
    rfl
  | cons x l =>
    have ev : valB (fun j => (pm j).getD 0) b = x := by unfold valB; rw [eb]
    rw [ev] at q
    rw [eb] at e2
    exact if_bl (fun _ => ⟨_, rfl, g, _, _, _, rfl, rfl, SqT.of e2, atI_nat (j := 0) rfl, q⟩) (fun z => nomatch z)
def sp_belt_behind_bell (K : PySem.W.Frag) : Sp := fun vs H Q _ => ∃ (v : V) (b : BR) (t : Addr) (m : List Int), vs = [v, .ref t] ∧ BeltAt H v b ∧ H t = some (.tup (m.map V.int)) ∧ b.one < m.length ∧ b.th.length ≤ 400 ∧ ∀ (u : V) (H' : Hp), BeltAt H' u (nextB m b) → Same H H' → Q u H'
theorem ok_belt_behind_bell {f : Addr} {fd : FuncData} (F : Fun K "belt_behind_bell" "belt_behind_bell" s_belt_behind_bell f fd) (T : Top K mg) : FnOk P w K mg base CX0 1 f fd ["belt", "made"] (sp_belt_behind_bell K) := by
  refine F.ok sc_belt_behind_bell (fun vs H Q E h => ?_) (fun cdv A outer s H vs Q E hr h => ?_)
  · obtain ⟨v, b, t, m, rfl, _⟩ := h
    rfl
  obtain ⟨v, b, tm, m, rfl, hb, htm, om, lt, q⟩ := h
  obtain ⟨t, g, rfl, e1, e2⟩ := id hb
  refine ⟨_, (pss_cons (ps_asg (pv 0) (pg_tupK K rfl rfl (pgs_cons (pg_name (i := 2) sc_belt_behind_bell.nd rfl (Or.inl rfl)) (pgs_cons (pg_name (i := 3) sc_belt_behind_bell.nd rfl (Or.inl rfl)) (pgs_cons (pg_name (i := 4) sc_belt_behind_bell.nd rfl (Or.inl rfl)) pgs_nil)))))
      (pss_one (ps_ret (pe_ifExp (pt_truthK K rfl (pv 4) (by intro _; rfl)) (pe_tup (pa_cons (pv 2) (pa_cons (pv 3) (pa_cons (pe_op (op_catAK K rfl) (pe_slice (sl_tupAK K rfl) (pv 4) (po_some pe_int) po_none) (pe_tup (pa_cons (pe_ix (ix_tupK K rfl) (pv 1) (pv 2) (fun _ _ => rfl)) pa_nil))) pa_nil)))) (pv 0))))), ?_⟩
  refine ⟨_, rfl, t, _, rfl, SqT.of e1, rfl, _, _, rfl, _, _, rfl, _, _, rfl, rfl, ?_⟩
  refine ⟨_, rfl, _, .inr (.inl ⟨_, SqT.of e2, rfl⟩), ?_⟩
  unfold nextB at q
  cases eb : b.th with
  | nil =>
    rw [if_pos eb] at q
    exact if_bl (fun z => nomatch z) (fun _ => ⟨_, rfl, q _ _ hb (fun _ _ e => e)⟩)
  | cons x l =>
    rw [if_neg (by rw [eb]; exact fun z => nomatch z), eb] at q
    rw [eb] at e2 lt
    have lt : l.length + 1 ≤ 400 := lt
    have ec : cutV ((x :: l).map V.int) (some 1) none = l.map V.int := by
      have := cut_drop ((x :: l).map V.int) 1
      exact this
    refine if_bl (fun _ => ⟨_, rfl, _, rfl, _, rfl, _, rfl, g, _, rfl, SqT.of e2, (fun z => ?_), fun _ p np => ?_⟩) (fun z => nomatch z)
    · exact absurd z.1 (by rw [show (1 : Int) = ((1 : Nat) : Int) from rfl, HT.sIx_nat]; simp)
    rw [ec]
    refine ⟨_, rfl, _, rfl, tm, _, _, _, rfl, rfl, SqT.of (same_new np _ _ htm), at_row om, (by show 1 ≤ sizeLine; decide), fun p2 np2 => ?_⟩
    have s2 := (same_new (o := .tup (l.map V.int)) np).trans (same_new (o := .tup [V.int (gD m b.one)]) np2)
    have hp2 := same_new (o := .tup [V.int (gD m b.one)]) np2 _ _ (upd_same (H := H) (a := p) (o := .tup (l.map V.int)))
    refine ⟨p, p2, _, _, rfl, rfl, SqT.of hp2, SqT.of upd_same, ?_, fun z => ?_, (fun z y => nomatch y), fun z _ p3 np3 => ?_⟩
    · rw [List.length_map]; exact little (by show l.length + 1 ≤ 1000; omega)
    · have zl : l = [] := by cases l with | nil => rfl | cons a b => cases z
      subst zl
      refine ⟨(by show 3 ≤ sizeLine; decide), fun p4 np4 => q (.ref p4) _ ⟨p4, p2, rfl, upd_same, ?_⟩ (s2.trans (same_new np4))⟩
      exact same_new np4 _ _ upd_same
    · refine ⟨(by show 3 ≤ sizeLine; decide), fun p4 np4 => q (.ref p4) _ ⟨p4, p3, rfl, upd_same, ?_⟩ ((s2.trans (same_new np3)).trans (same_new np4))⟩
      have := same_new (o := .tup [nV b.one, nV b.to, V.ref p3]) np4 _ _ (upd_same (H := upd (upd H p (.tup (l.map V.int))) p2 (.tup [V.int (gD m b.one)])) (a := p3) (o := .tup (l.map V.int ++ [V.int (gD m b.one)])))
      rw [this]
      show _ = some (HO.tup ((l ++ [gD m b.one]).map V.int))
      rw [List.map_append]
      rfl
def sp_behind_bell (K : PySem.W.Frag) : Sp := fun vs H Q _ => ∃ (r t : Addr) (hs : List HR) (cur : List BR) (m : List Int), vs = [.ref r, .ref t] ∧ RoomAt H r hs cur ∧ H t = some (.tup (m.map V.int)) ∧ (∀ b ∈ cur, b.one < m.length ∧ b.th.length ≤ 400) ∧ cur.length ≤ 400 ∧ ∀ (p : Addr) (H' : Hp), RoomAt H' p hs (cur.map (nextB m)) → Same H H' → Q (.ref p) H'
theorem ok_behind_bell {f : Addr} {fd : FuncData} (F : Fun K "behind_bell" "behind_bell" s_behind_bell f fd) (T : Top K mg) : FnOk P w K mg base CX0 2 f fd ["room", "made"] (sp_behind_bell K) := by
  obtain ⟨f_belt_behind_bell, fd_belt_behind_bell, F_belt_behind_bell, b_belt_behind_bell, m_belt_behind_bell⟩ := T.d_belt_behind_bell
  have G_belt_behind_bell := ok_belt_behind_bell (P := P) (w := w) (base := base) F_belt_behind_bell T
  refine F.ok sc_behind_bell (fun vs H Q E h => ?_) (fun cdv A outer s H vs Q E hr h => ?_)
  · obtain ⟨r, t, hs, cur, m, rfl, _⟩ := h
    rfl
  obtain ⟨r, t, hs, cur, m, rfl, hR, ht, hb, lc, q⟩ := h
  obtain ⟨ha, ba, hv, bv, er, eh, eb, alh, alb⟩ := hR.ex
  have lbv := alb.length
  refine ⟨_, (pss_cons (ps_asg (pv 0) (pg_tupK K rfl rfl (pgs_cons (pg_name (i := 2) sc_behind_bell.nd rfl (Or.inl rfl)) (pgs_cons (pg_name (i := 3) sc_behind_bell.nd rfl (Or.inl rfl)) pgs_nil))))
      (pss_one (ps_ret (pe_tup (pa_cons (pv 2) (pa_cons (pe_callTy (call_tuple_ofK K rfl) (by rfl) T.m_tuple (by decide +kernel) (pa_cons (pe_lc (own := [("belt", 4)]) (g := gName 4) (tt := tYes) (by rfl) sc_behind_bell.nd (pi_tupK K rfl (pv 3)) (blkOk_by (own := [("belt", 4)]) (N := N_behind_bell) (sc := defScope s_behind_bell) (by decide +kernel)) (fun _ _ _ _ _ => (pg_name (i := 4) sc_behind_bell.nd rfl (Or.inl rfl))) (fun _ _ _ _ _ => pts_nil) (fun _ _ _ _ _ => (pe_call G_belt_behind_bell (hr.mono (by decide)) (by rfl) m_belt_behind_bell F_belt_behind_bell.kp b_belt_behind_bell .nil pass0 (pa_cons (pv 4) (pa_cons (pv 1) pa_nil))))) pa_nil)) pa_nil)))))), ?_⟩
  refine ⟨_, rfl, r, _, rfl, SqT.of er, rfl, _, _, rfl, _, _, rfl, rfl, ?_⟩
  refine ⟨_, rfl, _, rfl, ba, rfl, ⟨_, SqT.of eb⟩, fun D nD => lc_tup (K := K) (a := ba) (xs := bv) (fun i H5 => ∃ lv : List V, H5 D = some (.lst lv) ∧ All2 (BeltAt H5) lv ((cur.take i).map (nextB m)) ∧ Same H H5) ⟨[], upd_same, .nil, same_new nD⟩ (fun i H5 _ ⟨_, _, _, s5⟩ => SqT.of (s5 _ _ eb)) ?_ ?_⟩
  · rintro i x H5 hx ⟨lv, hD, al, s5⟩
    obtain ⟨b, eb2, hB⟩ := alb.getL hx
    have il := (List.getElem?_eq_some_iff.mp eb2).1
    obtain ⟨b1, b2⟩ := hb b (List.mem_of_getElem? eb2)
    refine ⟨rfl, yes_in ⟨_, rfl, _, rfl, x, b, t, m, rfl, hB.keep (TK.same s5), s5 _ _ ht, b1, b2, fun u H6 hu s6 => ⟨lv, s6 _ _ hD, ?_, lv ++ [u], upd_same, ?_, Same.own (s5.trans s6) nD⟩⟩⟩
    · have := al.length
      rw [List.length_map, List.length_take] at this
      exact small1000 (by omega)
    · rw [List.take_add_one, eb2, List.map_append]
      exact ((al.imp fun _ _ z => z.keep (TK.same s6)).snoc hu).imp fun _ _ z => z.keep (TK.lst (s6 _ _ hD))
  · rintro H5 ⟨lv, hD, al, s5⟩
    rw [lbv, List.take_length] at al
    refine ⟨D, _, rfl, .inl ⟨SqL.of hD, fun p np => ⟨(by show 2 ≤ sizeLine; decide), fun p2 np2 => ?_⟩⟩⟩
    have s6 : Same H (upd (upd H5 p (.tup lv)) p2 (.tup [V.ref ha, V.ref p])) := (s5.trans (same_new np)).trans (same_new np2)
    exact q p2 _ ⟨ha, p, hv, lv, upd_same, s6 _ _ eh, same_new np2 _ _ upd_same, alh.imp fun _ _ z => z.keep (TK.same s6), al.imp fun _ _ z => z.keep ((TK.new np).trans (TK.new np2))⟩ s6
end
theorem filt_map {α β : Type} (p : Option α → Bool) (g : Option α → β) (l : List α) : ∀ n, n ≤ l.length → ((List.range n).filter fun i => p l[i]?).map (fun i => g l[i]?) = ((l.take n).filter fun b => p (some b)).map fun b => g (some b)
  | 0, _ => rfl
  | n + 1, h => by
    have e : l[n]? = some l[n] := List.getElem?_eq_getElem (by omega)
    rw [filt_succ, List.map_append, filt_map p g l n (by omega), List.take_add_one, e, List.filter_append, List.map_append]
    congr 1
    cases k : p (some l[n])
    · rw [if_neg Bool.false_ne_true]
      simp [k]
    · rw [if_pos rfl]
      simp [k, e]
def valI (cur : List BR) (f : Nat → Int) (i : Nat) : Int := match cur[i]? with | some b => valB f b | none => 0
theorem coming_takes (cur : List BR) (f : Nat → Int) (k : Nat) : (comingN cur k).map (valI cur f) = takes cur f k := by
  have := filt_map (fun o => decide (o.map BR.to = some k)) (fun o : Option BR => match o with | some b => valB f b | none => 0) cur cur.length (Nat.le_refl _)
  rw [List.take_length] at this
  refine this.trans ?_
  unfold takes
  congr 1
  refine List.filter_congr fun b _ => ?_
  simp
theorem takes_len {cur : List BR} {f : Nat → Int} {k : Nat} : (takes cur f k).length = (cur.map BR.to).count k := by
  unfold takes
  rw [List.length_map, List.count_eq_countP, List.countP_map, List.countP_eq_length_filter]
  congr 1
theorem coming_mem {cur : List BR} {k i : Nat} (h : i ∈ comingN cur k) : ∃ b, cur[i]? = some b ∧ b.to = k := by
  unfold comingN at h
  have h := (List.mem_filter.mp h).2
  have h := of_decide_eq_true h
  cases e : cur[i]? with
  | none => rw [e] at h; cases h
  | some b => rw [e] at h; exact ⟨b, rfl, Option.some.inj h⟩
theorem coming_len {cur : List BR} {k : Nat} : (comingN cur k).length ≤ cur.length := filt_len _
/-- what made_by asks of a good hand and what it takes -/
theorem getD_map {xs : List Int} {j : Nat} (h : j < xs.length) : (xs.map V.int)[j]? = some (.int (xs.getD j 0)) := by
  rw [List.getElem?_map, List.getElem?_eq_getElem h, List.getD_eq_getElem?_getD, List.getElem?_eq_getElem h]; rfl
theorem needs_some {wd : Str} (h1 : wd ≠ "in") (h2 : wd ≠ "always") : 1 ≤ needs wd := by
  unfold needs
  rw [if_neg (by simp [h1, h2])]
  split
  · exact Int.le_refl _
  · split <;> decide
theorem needs_two {wd : Str} (h1 : wd ≠ "in") (h2 : wd ≠ "always") (h3 : wd ≠ "times") (h4 : wd ≠ "same") (h5 : wd ≠ "out") : 2 ≤ needs wd := by
  unfold needs
  rw [if_neg (by simp [h1, h2]), if_neg (by simp [h3, h4, h5])]
  split <;> decide
theorem needs_pick : needs "pick" = 3 := by decide +kernel
structure Args (h : HR) (rl ts : List V) (n a b c : Int) : Prop where
  r0 : rl[0]? = some (.str h.wd)
  r1 : h.wd = "always" ∨ h.wd = "times" → rl[1]? = some (.int n)
  t0 : h.wd ≠ "always" → ts[0]? = some (.int a)
  t1 : h.wd = "pick" ∨ (h.wd ≠ "always" ∧ h.wd ≠ "times" ∧ h.wd ≠ "same" ∧ h.wd ≠ "out") → ts[1]? = some (.int b)
  t2 : h.wd = "pick" → ts[2]? = some (.int c)
  big : -(2 ^ 64) < n ∧ n < 2 ^ 64
theorem args_of {h : HR} (g : GoodHand h) (w : h.wd ≠ "in") {xs : List Int} (hl : ((xs.length : Nat) : Int) = needs h.wd) : Args h (ruleL h) (xs.map V.int) (h.no.getD 0) (xs.getD 0 0) (xs.getD 1 0) (xs.getD 2 0) := by
  refine ⟨rfl, fun e => ?_, fun e => getD_map ?_, fun e => getD_map ?_, fun e => getD_map ?_, ?_⟩
  · have k : h.no.isSome = true := by
      rcases g.1 with k | k
      · exact k.no.mpr e.symm
      · exfalso
        rcases k.1 with z | z <;> rcases e with e | e <;> rw [z] at e <;> exact absurd e (by decide +kernel)
    obtain ⟨n, hn⟩ := Option.isSome_iff_exists.mp k
    show (V.str h.wd :: (match h.no with | none => [] | some n => [.int n]))[1]? = _
    rw [hn]
    rfl
  · have := needs_some w e
    omega
  · rcases e with e | ⟨e1, e2, e3, e4⟩
    · rw [e, needs_pick] at hl
      omega
    · have := needs_two w e1 e2 e3 e4
      omega
  · rw [e, needs_pick] at hl
    omega
  · cases e : h.no with
    | none => decide
    | some n =>
      rcases g.1 with k | k
      · have := k.big n e
        show -(2 ^ 64) < n ∧ n < 2 ^ 64
        omega
      · rw [k.2] at e
        cases e
section
variable {P : Program} {w : World} {K : PySem.W.Frag} {mg : Str → Option Value} {base : Heap}
structure BellOk (hs : List HR) (cur : List BR) : Prop where
  hands : hs.length ≤ 12
  belts : cur.length ≤ 20
  good : ∀ h ∈ hs, GoodHand h
  ends : ∀ b ∈ cur, b.one < hs.length ∧ b.to < hs.length
  count : ∀ k h, hs[k]? = some h → (((cur.map BR.to).count k : Nat) : Int) = needs h.wd
theorem dget0 {H : Hp} {a : Addr} {kvs : List (Key × V)} {k : Nat} {o : Option V} (e : H a = some (.dK kvs)) (h : valV kvs (kN k) = o) : DGet H a (.int (0 + ((k : Nat) : Int))) o := by
  rw [Int.zero_add]
  exact dget_of e h
def sp_made_at_bell (K : PySem.W.Frag) : Sp := fun vs H Q _ => ∃ (r pl t D : Addr) (Z : Hp) (hs : List HR) (cur : List BR) (pv : List V) (ord : List Nat) (ins : List Int), vs = [.ref r, .ref pl, .ref t] ∧ RoomAt H r hs cur ∧ H pl = some (.lst pv) ∧ All2 (PlanAt Z D cur H) pv ord ∧ H t = some (.tup (ins.map V.int)) ∧
  BellOk hs cur ∧ Soon (looseOf cur) (List.range hs.length) ord ∧ ins.length = (doorsOf "in" hs).length ∧ ∀ (p : Addr) (m : List Int) (H' : Hp), H p = none → H' p = some (.tup (m.map V.int)) → IsBell hs cur ins m → Same H H' → Q (.ref p) H'
theorem ok_made_at_bell {f : Addr} {fd : FuncData} (F : Fun K "made_at_bell" "made_at_bell" s_made_at_bell f fd) (T : Top K mg) : FnOk P w K mg base CX0 3 f fd ["room", "plan", "things"] (sp_made_at_bell K) := by
  obtain ⟨f_doors_in, fd_doors_in, F_doors_in, b_doors_in, m_doors_in⟩ := T.d_doors_in
  have G_doors_in := ok_doors_in (P := P) (w := w) (base := base) F_doors_in T
  obtain ⟨f_made_by, fd_made_by, F_made_by, b_made_by, m_made_by⟩ := T.d_made_by
  have G_made_by := ok_made_by (P := P) (w := w) (base := base) F_made_by T
  obtain ⟨f_thing_taken, fd_thing_taken, F_thing_taken, b_thing_taken, m_thing_taken⟩ := T.d_thing_taken
  have G_thing_taken := ok_thing_taken (P := P) (w := w) (base := base) F_thing_taken T
  refine F.ok sc_made_at_bell (fun vs H Q E h => ?_) (fun cdv A outer s H vs Q E hr h => ?_)
  · obtain ⟨r, pl, t, D, Z, hs, cur, pls, ord, ins, rfl, _⟩ := h
    rfl
  obtain ⟨r, pl, t, D0, Z0, hs, cur, pls, ord, ins, rfl, hR, hpl, alp, ht, ok, soon, hi, q⟩ := h
  obtain ⟨ha, ba, hv, bv, er, eh, eb, alh, alb⟩ := hR.ex
  have lh := ok.hands
  have lbb := ok.belts
  have lhv := alh.length
  have lo := soon_len soon
  rw [List.length_range] at lo
  have lpv := alp.length
  have ld := doors_len (z := "in") (hs := hs)
  refine ⟨_, (pss_cons (ps_asg (pv 0) (pg_tupK K rfl rfl (pgs_cons (pg_name (i := 3) sc_made_at_bell.nd rfl (Or.inl rfl)) (pgs_cons (pg_name (i := 4) sc_made_at_bell.nd rfl (Or.inr rfl)) pgs_nil))))
      (pss_cons (ps_set (i := 5) sc_made_at_bell.nd rfl (Or.inr rfl) (pe_dictZip K rfl rfl (by rfl) T.m_dict (by rfl) T.m_zip (pa_cons (pe_call G_doors_in (hr.mono (by decide)) (by rfl) m_doors_in F_doors_in.kp b_doors_in .nil pass0 (pa_cons (pv 0) pa_nil)) (pa_cons (pv 2) pa_nil))))
      (pss_cons (ps_for PassesOwn.never rfl (pi_listK K rfl (pv 1)) (pg_tupK K rfl rfl (pgs_cons (pg_name (i := 6) sc_made_at_bell.nd rfl (Or.inl rfl)) (pgs_cons (pg_name (i := 7) sc_made_at_bell.nd rfl (Or.inl rfl)) pgs_nil)))
        (pss_one (ps_if (pt_cmp (pc_dnotin (hu_of hr) (pv 6) (pv 5)) (by with_unfolding_all rfl)) (pss_cons (ps_setLc (i := 8) (own := [("number", 9)]) (g := gName 9) (tt := tYes) (by rfl) sc_made_at_bell.nd rfl rfl (sw_true rfl rfl rfl (by decide +kernel)) (pi_listK K rfl (pv 7)) (blkOk_by (own := [("number", 9)]) (N := N_made_at_bell) (sc := defScope s_made_at_bell) (by decide +kernel)) (fun _ _ _ _ _ => (pg_name (i := 9) sc_made_at_bell.nd rfl (Or.inl rfl))) (fun _ _ _ _ _ => pts_nil) (fun _ _ _ _ _ => (pe_call G_thing_taken (hr.mono (by decide)) (by rfl) m_thing_taken F_thing_taken.kp b_thing_taken .nil pass0 (pa_cons (pe_ix (ix_tupK K rfl) (pv 4) (pv 9) (fun _ _ => rfl)) (pa_cons (pv 5) pa_nil)))))
      (pss_one (ps_dput (hu_of hr) (pv 5) (pv 6) (pe_call G_made_by (hr.mono (by decide)) (by rfl) m_made_by F_made_by.kp b_made_by .nil pass0 (pa_cons (pe_ix (ix_tupK K rfl) (pe_ix (ix_tupK K rfl) (pv 3) (pv 6) (fun _ _ => rfl)) pe_int (fun _ _ => rfl)) (pa_cons (pe_callTy (call_tuple_ofK K rfl) (by rfl) T.m_tuple (by decide +kernel) (pa_cons (pv 8) pa_nil)) pa_nil))) (by rfl)))) pss_nil)))
      (pss_one (ps_ret (pe_callTy (call_tuple_ofK K rfl) (by rfl) T.m_tuple (by decide +kernel) (pa_cons (pe_lc (own := [("hand", 6)]) (g := gName 6) (tt := tYes) (by rfl) sc_made_at_bell.nd (pi_range1 (by rfl) T.m_range (pa_cons (pe_callB (call_len_seqK K rfl) (by rfl) T.m_len (by decide +kernel) (pa_cons (pv 3) pa_nil)) pa_nil)) (blkOk_by (own := [("hand", 6)]) (N := N_made_at_bell) (sc := defScope s_made_at_bell) (by decide +kernel)) (fun _ _ _ _ _ => (pg_name (i := 6) sc_made_at_bell.nd rfl (Or.inl rfl))) (fun _ _ _ _ _ => pts_nil) (fun _ _ _ _ _ => (pe_dget (hu_of hr) (pv 5) (pv 6) (fun _ _ => rfl)))) pa_nil))))))), ?_⟩
  refine ⟨_, rfl, r, _, rfl, SqT.of er, rfl, _, _, rfl, _, _, rfl, rfl, ?_⟩
  refine ⟨_, rfl, r, hs, cur, rfl, hR, by omega, ok.good, fun dd H1 ndd hdd s1 => ⟨_, rfl, dd, t, (doorsOf "in" hs).map kN, ins.map V.int, rfl, SqL.of (by rw [hdd, List.map_map]; rfl), SqT.of (s1 _ _ ht), fun d nd => ?_⟩⟩
  have nd0 : H d = none := same_none s1 nd
  have s2 : Same H (upd H1 d (.dK (mergeK [] (((doorsOf "in" hs).map kN).zip (ins.map V.int))))) := s1.trans (same_new nd)
  have len0 : (mergeK [] (((doorsOf "in" hs).map kN).zip (ins.map V.int))).length ≤ 12 := by
    refine Nat.le_trans (length_mergeK _ []) ?_
    rw [List.length_zip, List.length_map, List.length_map, List.length_nil]
    omega
  refine ⟨_, rfl, pl, rfl, ⟨_, SqL.of (s2 _ _ hpl)⟩, for_list (K := K) (a := pl) (xs := pls) (fun i σ H2 => ∃ (v6 v7 v8 v9 : Option V) (kvs : List (Key × V)) (pm : Nat → Option Int) (left : List Nat), σ = [some (.ref r), some (.ref pl), some (.ref t), some (.ref ha), some (.ref ba), some (.ref d), v6, v7, v8, v9] ∧ H2 d = some (.dK kvs) ∧ DM kvs pm ∧ Part hs cur ins pm ∧ kvs.length ≤ 12 + i ∧ Same H H2 ∧ Soon (looseOf cur) left (ord.drop i) ∧ (∀ k, k < hs.length → k ∉ left → (pm k).isSome = true) ∧ (∀ (k : Nat) (h : HR), hs[k]? = some h → h.wd = "in" → (pm k).isSome = true))
    ⟨none, none, none, none, _, doorM hs ins, List.range hs.length, rfl, upd_same, doorM_dm hi, doorM_part, len0, s2, soon, fun k hk n => absurd (List.mem_range.mpr hk) n, fun k h e w => doorM_all hi e w⟩ (fun i σ H2 _ ⟨_, _, _, _, _, _, _, _, _, _, _, _, s, _⟩ => SqL.of (s _ _ hpl)) ?_ ?_⟩
  · rintro i x σ H2 hx ⟨v6, v7, v8, v9, kvs, pm, left, rfl, hd, dm, part, lk, s3, so, all, doors⟩
    obtain ⟨k, ek, ⟨t2, l, rfl, p1, p2, _⟩⟩ := alp.getL hx
    have il := (List.getElem?_eq_some_iff.mp ek).1
    have ed : ord.drop i = k :: ord.drop (i + 1) := by
      rw [List.drop_eq_getElem_cons il, (List.getElem?_eq_some_iff.mp ek).2]
    rw [ed] at so
    obtain ⟨kl, fr, so2⟩ : k ∈ left ∧ free (looseOf cur) left k ∧ Soon (looseOf cur) (left.erase k) (ord.drop (i + 1)) := by
      cases so with
      | cons a b c d => exact ⟨a, b, d⟩
    have kn : k < hs.length := by
      have e := soon_mem soon k (List.mem_of_getElem? ek)
      exact List.mem_range.mp e
    have eh2 : hs[k]? = some hs[k] := List.getElem?_eq_getElem kn
    refine ⟨t2, _, rfl, SqT.of (s3 _ _ p1), rfl, _, _, rfl, _, _, rfl, rfl, ?_⟩
    refine ⟨_, rfl, _, rfl, d, _, rfl, dget_of hd (dm k), _, rfl, if_bl (fun c => ?_) (fun c => ?_)⟩
    · have new : pm k = none := by
        cases e : pm k with
        | none => rfl
        | some v => rw [e] at c; cases c
      have win : hs[k].wd ≠ "in" := fun z => by
        have := doors k _ eh2 z
        rw [new] at this
        cases this
      have there : ∀ b ∈ cur, b.to = k → b.th = [] → (pm b.one).isSome = true := fun b b1 b2 b3 => all b.one (ok.ends b b1).1 (fr _ (mem_loose b1 b3) b2)
      have hl2 := s3 _ _ p2
      refine ⟨_, rfl, l, rfl, ⟨_, SqL.of hl2⟩, fun D nD => lc_list (K := K) (a := l) (xs := (comingN cur k).map nV) (fun j H5 => H5 D = some (.lst ((((comingN cur k).take j).map (valI cur fun j => (pm j).getD 0)).map V.int)) ∧ H5 d = some (.dK kvs) ∧ Same H2 H5) ⟨upd_same, same_new nD _ _ hd, same_new nD⟩ (fun j H5 _ ⟨_, _, s5⟩ => SqL.of (s5 _ _ hl2)) ?_ ?_⟩
      · rintro j x H5 hx ⟨hD, hd5, s5⟩
        rw [List.getElem?_map] at hx
        cases ej : (comingN cur k)[j]? with
        | none => rw [ej] at hx; cases hx
        | some n =>
        rw [ej] at hx
        obtain rfl : nV n = x := Option.some.inj hx
        have jl := (List.getElem?_eq_some_iff.mp ej).1
        have cl := coming_len (cur := cur) (k := k)
        obtain ⟨b, e1, e2⟩ := coming_mem (List.mem_of_getElem? ej)
        obtain ⟨v, ev, hB⟩ := alb.get e1
        have evi : valI cur (fun j => (pm j).getD 0) n = valB (fun j => (pm j).getD 0) b := by unfold valI; rw [e1]
        refine ⟨rfl, yes_in ⟨_, rfl, _, rfl, ba, _, _, _, rfl, rfl, SqT.of (s5 _ _ (s3 _ _ eb)), atI_nat ev, _, rfl, v, b, d, kvs, pm, rfl, hB.keep (TK.same (s3.trans s5)), hd5, dm, fun z => there b (List.mem_of_getElem? e1) e2 z, _, hD, ?_, ?_, ?_, Same.own s5 nD⟩⟩
        · rw [List.length_map, List.length_map, List.length_take]; exact small1000 (by omega)
        · rw [upd_same, List.take_add_one, ej, List.map_append, List.map_append, ← evi]; rfl
        · rw [upd_ne (ne_of_none hd nD)]; exact hd5
      · rintro H5 ⟨hD, hd5, s5⟩
        rw [List.length_map, List.take_length, coming_takes] at hD
        obtain ⟨xs, hxs⟩ : ∃ xs, xs = takes cur (fun j => (pm j).getD 0) k := ⟨_, rfl⟩
        rw [← hxs] at hD
        have lx : ((xs.length : Nat) : Int) = needs hs[k].wd := by rw [hxs, takes_len]; exact ok.count k _ eh2
        obtain ⟨v, ev, ⟨tk, rk2, rfl, h1, h2⟩⟩ := alh.get eh2
        have s4 := s3.trans s5
        have A := args_of (ok.good _ (List.mem_of_getElem? eh2)) win lx
        refine ⟨_, rfl, _, rfl, ha, _, _, _, rfl, rfl, SqT.of (s4 _ _ eh), atI_nat ev, tk, _, _, _, rfl, rfl, SqT.of (s4 _ _ h1), atI_nat (j := 0) rfl, _, rfl, D, _, rfl, .inl ⟨SqL.of hD, fun tt ntt => ?_⟩⟩
        have s5b := s4.trans (same_new (o := .tup (xs.map V.int)) ntt)
        refine ⟨rk2, tt, _, _, hs[k].wd, _, _, _, _, rfl, SqT.of (s5b _ _ h2), SqT.of upd_same, A.r0, A.r1, A.t0, A.t1, A.t2, A.big, fun H6 s6 => ?_⟩
        have hd6 := s6 _ _ (same_new ntt _ _ hd5)
        refine ⟨_, rfl, _, rfl, d, _, rfl, DPut.k (k := kN k) hd6 (small1000 (by omega)), ?_⟩
        refine ⟨_, _, _, _, _, putM pm k (mkR hs[k] xs), left.erase k, rfl, upd_same, dm.put k _, by rw [hxs]; exact part.put eh2 win new there, ?_, Same.own (s5b.trans s6) nd0, so2, fun j hj n => ?_, fun j h e w => ?_⟩
        · have := length_putK kvs (kN k) (V.int (mkR hs[k] xs))
          exact Nat.le_trans this (by omega)
        · by_cases e : j = k
          · rw [show putM pm k (mkR hs[k] xs) j = some _ from if_pos e]; rfl
          · rw [show putM pm k (mkR hs[k] xs) j = pm j from if_neg e]
            exact all j hj fun z => n ((List.mem_erase_of_ne e).mpr z)
        · by_cases e' : j = k
          · rw [show putM pm k (mkR hs[k] xs) j = some _ from if_pos e']; rfl
          · rw [show putM pm k (mkR hs[k] xs) j = pm j from if_neg e']
            exact doors j h e w
    · have old : (pm k).isSome = true := by
        cases e : pm k with
        | none => rw [e] at c; cases c
        | some v => rfl
      refine ⟨_, _, _, _, kvs, pm, left.erase k, rfl, hd, dm, part, by omega, s3, so2, fun j hj n => ?_, doors⟩
      by_cases e : j = k
      · rw [e]; exact old
      · exact all j hj fun z => n ((List.mem_erase_of_ne e).mpr z)
  · rintro σ H2 ⟨v6, v7, v8, v9, kvs, pm, left, rfl, hd, dm, part, lk, s3, so, all, doors⟩
    rw [List.drop_eq_nil_of_le (by omega)] at so
    have el : left = [] := by
      cases so
      rfl
    subst el
    have full : ∀ k, k < hs.length → (pm k).isSome = true := fun k hk => all k hk (fun z => nomatch z)
    refine ⟨_, rfl, ha, _, rfl, .inr (SqT.of (s3 _ _ eh)), _, rfl, by omega, by omega, fun D nD => lc_range (lo := 0) (n := hv.length) (fun j H5 => H5 D = some (.lst ((fullM j pm).map V.int)) ∧ H5 d = some (.dK kvs) ∧ Same H2 H5) ⟨upd_same, same_new nD _ _ hd, same_new nD⟩ ?_ ?_⟩
    · rintro j H5 hj ⟨hD, hd5, s5⟩
      obtain ⟨v, ev⟩ := Option.isSome_iff_exists.mp (full j (by omega))
      refine ⟨rfl, yes_in ⟨_, rfl, _, rfl, d, .int v, rfl, dget0 hd5 (by rw [dm, ev]; rfl), _, hD, ?_, ?_, ?_, Same.own s5 nD⟩⟩
      · rw [List.length_map, List.length_map, List.length_range]; exact small1000 (by omega)
      · rw [upd_same]
        unfold fullM
        rw [List.range_succ, List.map_append, List.map_append]
        simp [ev]
      · rw [upd_ne (ne_of_none hd nD)]; exact hd5
    · rintro H5 ⟨hD, hd5, s5⟩
      rw [lhv] at hD
      exact ⟨D, _, rfl, .inl ⟨SqL.of hD, fun p np => q p _ _ (same_none (s3.trans s5) np) upd_same (part.full full) ((s3.trans s5).trans (same_new np))⟩⟩
end
/-- a list or a tuple of rows -/
def RowsAt (H : Hp) (a : Addr) (rows : List (List Int)) : Prop := ∃ rv : List V, (H a = some (.lst rv) ∨ H a = some (.tup rv)) ∧ All2 (RowAt H) rv rows
theorem RowsAt.same {H H' : Hp} {a : Addr} {rows : List (List Int)} (h : RowsAt H a rows) (s : Same H H') : RowsAt H' a rows := by
  obtain ⟨rv, e, al⟩ := h
  exact ⟨rv, e.imp (s _ _) (s _ _), al.imp fun _ _ z => z.keep (TK.same s)⟩
theorem either_stays {H H' : Hp} {a : Addr} {xs : List V} (s : Same H H') (h : H a = some (.lst xs) ∨ H a = some (.tup xs)) : H' a = H a := by
  rcases h with e | e <;> rw [s _ _ e, e]
theorem or_seq {K : PySem.W.Frag} {te : TE} {σ : L2.St} {H : Hp} {R : It → Hp → Prop} {a : Addr} {xs : List V} (ht : ∀ Q : VK, Q (.ref a) H → te σ H Q) (h : H a = some (.lst xs) ∨ H a = some (.tup xs))
    (k : ∀ J : It, (∀ i H', H' a = H a → i < xs.length → J.go i H') → (∀ H', H' a = H a → J.stop xs.length H') → (∀ i H' x H'', H' a = H a → J.yld i H' x H'' → xs[i]? = some x ∧ H'' = H') → R J H) :
    iList K te σ H R ∨ iTup K te σ H R := by
  rcases h with e | e
  · refine .inl (ht _ ⟨a, rfl, ⟨_, SqL.of e⟩, k _ (fun i H' q hi => ?_) (fun H' q => ?_) fun i H' x H'' q y => ?_⟩)
    · exact ⟨xs, _, SqL.of (q.trans e), List.getElem?_eq_getElem hi⟩
    · exact ⟨xs, SqL.of (q.trans e), Nat.le_refl _⟩
    · exact ⟨y.2 _ (SqL.of (q.trans e)), y.1⟩
  · refine .inr (ht _ ⟨a, rfl, ⟨_, SqT.of e⟩, k _ (fun i H' q hi => ?_) (fun H' q => ?_) fun i H' x H'' q y => ?_⟩)
    · exact ⟨xs, _, SqT.of (q.trans e), List.getElem?_eq_getElem hi⟩
    · exact ⟨xs, SqT.of (q.trans e), Nat.le_refl _⟩
    · exact ⟨y.2 _ (SqT.of (q.trans e)), y.1⟩
theorem map_to (bs : List BR) (ms : List (List Int)) : (stand bs ms).map BR.to = bs.map BR.to := by
  rw [List.map_map]
  exact List.map_congr_left fun b _ => stand_to ms b
theorem coming_stand (bs : List BR) (ms : List (List Int)) (k : Nat) : comingN (stand bs ms) k = comingN bs k := by
  unfold comingN
  rw [List.length_map]
  refine List.filter_congr fun i _ => ?_
  rw [List.getElem?_map]
  cases bs[i]? with
  | none => rfl
  | some b =>
    show decide (some (standB ms b).to = some k) = decide (some b.to = some k)
    rw [stand_to]
theorem RoomOk.bell {hs : List HR} {bs : List BR} (ok : RoomOk hs bs) (ms : List (List Int)) : BellOk hs (stand bs ms) := by
  refine ⟨ok.hands, by rw [List.length_map]; exact ok.many, ok.good, fun b hb => ?_, fun k h e => by rw [map_to]; exact ok.count k h e⟩
  obtain ⟨c, hc, rfl⟩ := List.mem_map.mp hb
  rw [stand_one, stand_to]
  exact ok.ends c hc
theorem RoomOk.rk {hs : List HR} {bs : List BR} (ok : RoomOk hs bs) : ∃ rk : Nat → Int, ∀ p ∈ looseOf bs, rk p.1 < rk p.2 := by
  obtain ⟨rk, h⟩ := ok.rank
  refine ⟨rk, fun p hp => ?_⟩
  obtain ⟨b, hb, rfl⟩ := List.mem_map.mp hp
  obtain ⟨h1, h2⟩ := List.mem_filter.mp hb
  exact h b h1 (List.isEmpty_iff.mp h2)
theorem out_lt {hs : List HR} {m : List Int} (hl : m.length = hs.length) : ∀ k ∈ doorsOf "out" hs, k < m.length := fun k hk => by
  obtain ⟨h, e, _⟩ := mem_doors.mp hk
  have := (List.getElem?_eq_some_iff.mp e).1
  omega
section
variable {P : Program} {w : World} {K : PySem.W.Frag} {mg : Str → Option Value} {base : Heap}
def sp_worked (K : PySem.W.Frag) : Sp := fun vs H Q _ => ∃ (r a : Addr) (hs : List HR) (bs : List BR) (rows : List (List Int)), vs = [.ref r, .ref a] ∧ RoomAt H r hs bs ∧ RoomOk hs bs ∧ RowsAt H a rows ∧ (∀ x ∈ rows, x.length = (doorsOf "in" hs).length) ∧ rows.length ≤ 100 ∧
  ∀ (p : Addr) (ov : List V) (ms : List (List Int)) (H' : Hp), H p = none → H' p = some (.lst ov) → All2 (RowAt H') ov ms → WS hs bs rows ms → Same H H' → Q (.ref p) H'
theorem ok_worked {f : Addr} {fd : FuncData} (F : Fun K "worked" "worked" s_worked f fd) (T : Top K mg) : FnOk P w K mg base CX0 4 f fd ["room", "rows"] (sp_worked K) := by
  obtain ⟨f_work_plan, fd_work_plan, F_work_plan, b_work_plan, m_work_plan⟩ := T.d_work_plan
  have G_work_plan := ok_work_plan (P := P) (w := w) (base := base) F_work_plan T
  obtain ⟨f_made_at_bell, fd_made_at_bell, F_made_at_bell, b_made_at_bell, m_made_at_bell⟩ := T.d_made_at_bell
  have G_made_at_bell := ok_made_at_bell (P := P) (w := w) (base := base) F_made_at_bell T
  obtain ⟨f_behind_bell, fd_behind_bell, F_behind_bell, b_behind_bell, m_behind_bell⟩ := T.d_behind_bell
  have G_behind_bell := ok_behind_bell (P := P) (w := w) (base := base) F_behind_bell T
  refine F.ok sc_worked (fun vs H Q E h => ?_) (fun cdv A outer s H vs Q E hr h => ?_)
  · obtain ⟨r, a, hs, bs, rows, rfl, _⟩ := h
    rfl
  obtain ⟨r, a, hs, bs, rows, rfl, hR, ok, ⟨rv, hrv, alr⟩, hw, lr, q⟩ := h
  have lh := ok.hands
  have lb := ok.many
  have lrv := alr.length
  obtain ⟨rk, hrk⟩ := ok.rk
  refine ⟨_, (pss_cons (ps_set (i := 2) sc_worked.nd rfl (Or.inl rfl) (pe_call G_work_plan (hr.mono (by decide)) (by rfl) m_work_plan F_work_plan.kp b_work_plan .nil pass0 (pa_cons (pv 0) pa_nil)))
      (pss_cons (ps_set (i := 3) sc_worked.nd rfl (Or.inl rfl) (pv 0))
      (pss_cons (ps_set (i := 4) sc_worked.nd rfl (Or.inl rfl) (pe_lst pa_nil))
      (pss_cons (ps_for PassesOwn.never rfl (pi_or (pi_listK K rfl (pv 1)) (pi_tupK K rfl (pv 1))) (pg_name (i := 5) sc_worked.nd rfl (Or.inl rfl))
        (pss_cons (ps_set (i := 6) sc_worked.nd rfl (Or.inl rfl) (pe_call G_made_at_bell (hr.mono (by decide)) (by rfl) m_made_at_bell F_made_at_bell.kp b_made_at_bell .nil pass0 (pa_cons (pv 3) (pa_cons (pv 2) (pa_cons (pv 5) pa_nil)))))
      (pss_cons (ps_set (i := 3) sc_worked.nd rfl (Or.inl rfl) (pe_call G_behind_bell (hr.mono (by decide)) (by rfl) m_behind_bell F_behind_bell.kp b_behind_bell .nil pass0 (pa_cons (pv 3) (pa_cons (pv 6) pa_nil))))
      (pss_one (ps_expr (pe_bmK K rfl PySem.F.plainAttrs_list PySem.F.slot_list_append PySem.F.type_list_append mt_append (pv 4) (pa_cons (pv 6) pa_nil)))))))
      (pss_one (ps_ret (pv 4))))))), ?_⟩
  refine ⟨_, rfl, r, hs, bs, rk, rfl, hR, by omega, by omega, ok.ends, hrk, fun pl D ord pls H1 npl hpl alp soon s1 => ?_⟩
  refine ⟨_, rfl, (by show 0 ≤ sizeLine; decide), fun tl ntl => ?_⟩
  have s2 : Same H (upd H1 tl (.lst [])) := s1.trans (same_new ntl)
  have tl0 : H tl = none := same_none s1 ntl
  refine or_seq (a := a) (xs := rv) (fun Q q => ⟨_, rfl, q⟩) (hrv.imp (s2 _ _) (s2 _ _)) (fun J gj sj yj => for_it (J := J) (n := rv.length) (fun i σ H2 => ∃ (st : Addr) (ms : List (List Int)) (tv : List V) (v5 v6 : Option V), σ = [some (.ref r), some (.ref a), some (.ref pl), some (.ref st), some (.ref tl), v5, v6] ∧ RoomAt H2 st hs (stand bs ms) ∧ H2 tl = some (.lst tv) ∧ All2 (RowAt H2) tv ms ∧ WS hs bs (rows.take i) ms ∧ Same H1 H2)
    ⟨r, [], [], none, none, rfl, by rw [stand_zero]; exact hR.keep (TK.same s2), upd_same, .nil, WS.nil, same_new ntl⟩ ?_ ?_ ?_ ?_)
  · rintro i σ H2 hi ⟨st, ms, tv, v5, v6, rfl, hst, htl, alt, ws, s3⟩
    exact gj i H2 ((either_stays (s1.trans s3) hrv).trans (either_stays s2 hrv).symm) hi
  · rintro σ H2 ⟨st, ms, tv, v5, v6, rfl, hst, htl, alt, ws, s3⟩
    exact sj H2 ((either_stays (s1.trans s3) hrv).trans (either_stays s2 hrv).symm)
  · rintro i x σ H2 H3 hi ⟨st, ms, tv, v5, v6, rfl, hst, htl, alt, ws, s3⟩ y
    obtain ⟨ex, rfl⟩ := yj i H2 x H3 ((either_stays (s1.trans s3) hrv).trans (either_stays s2 hrv).symm) y
    obtain ⟨row, er, ⟨t, rfl, ht⟩⟩ := alr.getL ex
    have ht2 := s3 _ _ (s1 _ _ ht)
    have lms : ms.length = i := by
      have := ws.len
      rw [List.length_take] at this
      omega
    refine ⟨_, rfl, _, rfl, _, rfl, st, pl, t, D, H, hs, stand bs ms, pls, ord, row, rfl, hst, s3 _ _ hpl, alp.imp fun v k z => ?_, ht2, ok.bell ms, by rw [loose_stand]; exact soon, hw row (List.mem_of_getElem? er), fun p m H4 np hp bell s4 => ?_⟩
    · obtain ⟨t', l, e1, e2, e3, e4⟩ := z.same s3
      exact ⟨t', l, e1, e2, by rw [coming_stand]; exact e3, e4⟩
    have lm := bell.len
    refine ⟨_, rfl, _, rfl, st, p, hs, stand bs ms, m, rfl, hst.keep (TK.same s4), hp, fun b hb => ?_, by rw [List.length_map]; omega, fun st2 H5 hst2 s5 => ?_⟩
    · have e1 := ((ok.bell ms).ends b hb).1
      obtain ⟨c, hc, rfl⟩ := List.mem_map.mp hb
      have e2 := stand_len ms c
      have e3 := (ok.th c hc).1
      exact ⟨by omega, by omega⟩
    rw [stand_next] at hst2
    have htl5 := s5 _ _ (s4 _ _ htl)
    refine ⟨_, rfl, .inl ⟨rfl, _, SqL.of htl5⟩, _, rfl, tl, _, _, rfl, rfl, htl5, by rw [alt.length, lms]; exact small1000 (by omega), ?_⟩
    refine ⟨st2, ms ++ [m], tv ++ [V.ref p], _, _, rfl, hst2.keep (TK.lst htl5), upd_same, ?_, ?_, Same.own ((s3.trans s4).trans s5) ntl⟩
    · exact ((alt.imp fun _ _ z => z.keep (TK.same (s4.trans s5))).snoc ⟨p, rfl, s5 _ _ hp⟩).imp fun _ _ z => z.keep (TK.lst htl5)
    · rw [List.take_add_one, er]
      exact ws.snoc bell
  · rintro σ H2 ⟨st, ms, tv, v5, v6, rfl, hst, htl, alt, ws, s3⟩
    rw [lrv, List.take_length] at ws
    exact ⟨_, rfl, q tl tv ms H2 tl0 htl alt ws (s1.trans s3)⟩
end
/-! ### slices and sums of tuples, whatever they are -/
theorem slA_of {K : PySem.W.Frag} {H : Hp} {a : Addr} {xs : List V} {lo hi : Option Int} {Q : VK} (h : H a = some (.tup xs)) (k : ∀ (p : Addr) (H' : Hp), H' p = some (.tup (cutV xs lo hi)) → Same H H' → Q (.ref p) H') : rSlA K (.ref a) lo hi H Q := by
  refine ⟨a, xs, rfl, SqT.of h, fun z => k a H ?_ (Same.refl _), fun _ p np => k p _ upd_same (same_new np)⟩
  unfold cutV
  rw [z.1, z.2, List.drop_zero, Nat.sub_zero, List.take_length]
  exact h
theorem catA_of {K : PySem.W.Frag} {H : Hp} {a b : Addr} {xs ys : List V} {Q : VK} (h : H a = some (.tup xs)) (g : H b = some (.tup ys)) (l : xs.length + ys.length ≤ 1000) (k : ∀ (p : Addr) (H' : Hp), H' p = some (.tup (xs ++ ys)) → Same H H' → Q (.ref p) H') : rCatA K (.ref a) (.ref b) H Q := by
  refine ⟨a, b, xs, ys, rfl, rfl, SqT.of h, SqT.of g, little l, fun e => k b H ?_ (Same.refl _), fun _ e => k a H ?_ (Same.refl _), fun _ _ p np => k p _ upd_same (same_new np)⟩
  · rw [e]; exact g
  · rw [e, List.append_nil]; exact h
theorem cut_take (xs : List V) (k : Nat) : cutV xs none (some ((k : Nat) : Int)) = xs.take k := by
  unfold cutV
  rw [HT.sIx_nat, HT.sIx_none, List.drop_zero, Nat.sub_zero]
  by_cases h : k ≤ xs.length
  · rw [Nat.min_eq_left h]
  · rw [Nat.min_eq_right (by omega), List.take_length, List.take_of_length_le (by omega)]
theorem cut_part {xs : List V} {lo hi : Option Int} : ∀ x ∈ cutV xs lo hi, x ∈ xs := fun x hx => List.mem_of_mem_drop (List.mem_of_mem_take hx)
theorem cut_nats {ns : List Nat} {lo hi : Option Int} : ∃ ms : List Nat, cutV (ns.map nV) lo hi = ms.map nV ∧ ms.length ≤ ns.length ∧ ∀ x ∈ ms, x ∈ ns := by
  refine ⟨(ns.drop (HT.sIx (ns.map nV).length 0 lo)).take (HT.sIx (ns.map nV).length (ns.map nV).length hi - HT.sIx (ns.map nV).length 0 lo), ?_, ?_, fun x hx => List.mem_of_mem_drop (List.mem_of_mem_take hx)⟩
  · unfold cutV
    rw [List.map_take, List.map_drop]
  · rw [List.length_take, List.length_drop]
    omega
/-! ### ways -/
def WayAt (H : Hp) (t : Addr) (k : Nat) (ns : List Nat) : Prop := ∃ g : Addr, H t = some (.tup [nV k, .ref g]) ∧ H g = some (.tup (ns.map nV))
theorem WayAt.keep {H H' : Hp} {t : Addr} {k : Nat} {ns : List Nat} (h : WayAt H t k ns) (s : TK H H') : WayAt H' t k ns := by
  obtain ⟨g, e1, e2⟩ := h
  exact ⟨g, s _ _ e1, s _ _ e2⟩
def momH (hs : List HR) (k : Nat) : Int := match hs[k]? with | some h => h.mom | none => 0
def trB (bs : List BR) (n : Nat) : Int := match bs[n]? with | some b => (b.th.length : Int) | none => 0
def toB (bs : List BR) (n : Nat) : Nat := match bs[n]? with | some b => b.to | none => 0
def wayEnd (bs : List BR) : Nat → List Nat → Option Nat
  | k, [] => some k
  | k, n :: ns => match bs[n]? with | some b => if b.one = k then wayEnd bs b.to ns else none | none => none
theorem wayEnd_cons {bs : List BR} {n k : Nat} {b : BR} {ns : List Nat} (e : bs[n]? = some b) : wayEnd bs k (n :: ns) = if b.one = k then wayEnd bs b.to ns else none := by
  show (match bs[n]? with | some b => if b.one = k then wayEnd bs b.to ns else none | none => none) = _
  rw [e]
theorem drop_at {α : Type} {ns : List α} {i : Nat} {n : α} (e : ns[i]? = some n) : ns.drop i = n :: ns.drop (i + 1) := by
  obtain ⟨h, z⟩ := List.getElem?_eq_some_iff.mp e
  rw [List.drop_eq_getElem_cons h, z]
def onV : Option Nat → V
  | none => .non
  | some k => nV k
theorem nats_at {ns : List Nat} {i : Nat} {x : V} (h : (ns.map nV)[i]? = some x) : ∃ n : Nat, ns[i]? = some n ∧ x = nV n := by
  rw [List.getElem?_map] at h
  cases e : ns[i]? with
  | none => rw [e] at h; cases h
  | some n => rw [e] at h; exact ⟨n, rfl, (Option.some.inj h).symm⟩
def momW (hs : List HR) (bs : List BR) (k : Nat) (ns : List Nat) : Int := momH hs k + (ns.map fun n => momH hs (toB bs n)).sum
/-! ### the least ways: mathematics -/
abbrev Co := Int × Int
def coLe (a b : Co) : Prop := a.1 < b.1 ∨ (a.1 = b.1 ∧ b.2 ≤ a.2)
def coLt (a b : Co) : Prop := a.1 < b.1 ∨ (a.1 = b.1 ∧ b.2 < a.2)
instance {a b : Co} : Decidable (coLt a b) := by unfold coLt; infer_instance
theorem coLe.refl (a : Co) : coLe a a := .inr ⟨rfl, Int.le_refl _⟩
theorem coLe.trans {a b c : Co} (h : coLe a b) (g : coLe b c) : coLe a c := by
  unfold coLe at *
  omega
theorem coLe.antisymm {a b : Co} (h : coLe a b) (g : coLe b a) : a = b := by
  unfold coLe at *
  have : a.1 = b.1 ∧ a.2 = b.2 := by omega
  exact Prod.ext this.1 this.2
theorem coLe_of_not {a b : Co} (h : ¬ coLt a b) : coLe b a := by
  unfold coLe coLt at *
  omega
theorem coLt.le {a b : Co} (h : coLt a b) : coLe a b := by
  unfold coLe coLt at *
  omega
theorem coLt.not_le {a b : Co} (h : coLt a b) : ¬ coLe b a := by
  unfold coLe coLt at *
  omega
def coAdd (hs : List HR) (c : Co) (b : BR) : Co := (c.1 + (b.th.length : Int), c.2 + momH hs b.to)
theorem coAdd_mono {hs : List HR} {c d : Co} {b : BR} (h : coLe c d) : coLe (coAdd hs c b) (coAdd hs d b) := by
  unfold coLe coAdd at *
  dsimp only
  omega
def wayCo (hs : List HR) (bs : List BR) (k : Nat) (ns : List Nat) : Co := ((ns.map (trB bs)).sum, momW hs bs k ns)
theorem wayEnd_append {bs : List BR} : ∀ {k : Nat} {ns ms : List Nat}, wayEnd bs k (ns ++ ms) = (wayEnd bs k ns).bind fun e => wayEnd bs e ms
  | k, [], ms => rfl
  | k, n :: ns, ms => by
    show (match bs[n]? with | some b => if b.one = k then wayEnd bs b.to (ns ++ ms) else none | none => none) = Option.bind (match bs[n]? with | some b => if b.one = k then wayEnd bs b.to ns else none | none => none) _
    cases bs[n]? with
    | none => rfl
    | some b =>
      dsimp only
      by_cases h : b.one = k
      · rw [if_pos h, if_pos h, wayEnd_append]
      · rw [if_neg h, if_neg h]; rfl
theorem wayEnd_snoc {bs : List BR} {k e n : Nat} {ns : List Nat} {b : BR} (h : wayEnd bs k ns = some e) (eb : bs[n]? = some b) (ho : b.one = e) : wayEnd bs k (ns ++ [n]) = some b.to := by
  rw [wayEnd_append, h]
  show wayEnd bs e [n] = _
  rw [wayEnd_cons eb, if_pos ho]
  rfl
theorem wayEnd_unsnoc {bs : List BR} {k e n : Nat} {ns : List Nat} (h : wayEnd bs k (ns ++ [n]) = some e) : ∃ b, bs[n]? = some b ∧ wayEnd bs k ns = some b.one ∧ b.to = e := by
  rw [wayEnd_append] at h
  cases hk : wayEnd bs k ns with
  | none => rw [hk] at h; cases h
  | some d =>
    rw [hk] at h
    have h : wayEnd bs d [n] = some e := h
    cases eb : bs[n]? with
    | none =>
      have : wayEnd bs d [n] = none := by
        show (match bs[n]? with | some b => if b.one = d then wayEnd bs b.to [] else none | none => none) = none
        rw [eb]
      rw [this] at h; cases h
    | some b =>
      rw [wayEnd_cons eb] at h
      by_cases z : b.one = d
      · rw [if_pos z] at h
        exact ⟨b, rfl, by rw [z], Option.some.inj h⟩
      · rw [if_neg z] at h; cases h
theorem wayCo_snoc {hs : List HR} {bs : List BR} {k n : Nat} {ns : List Nat} {b : BR} (eb : bs[n]? = some b) : wayCo hs bs k (ns ++ [n]) = coAdd hs (wayCo hs bs k ns) b := by
  unfold wayCo coAdd momW
  rw [List.map_append, List.map_append, List.sum_append, List.sum_append]
  have h1 : trB bs n = (b.th.length : Int) := by unfold trB; rw [eb]
  have h2 : toB bs n = b.to := by unfold toB; rw [eb]
  simp only [List.map_cons, List.map_nil, List.sum_cons, List.sum_nil]
  rw [h1, h2]
  refine Prod.ext ?_ ?_
  · show _ + (_ + 0) = _ + _
    omega
  · show _ + (_ + (_ + 0)) = _ + _ + _
    omega
/-- a way without trays goes up in rank -/
theorem way_rank {bs : List BR} {rk : Nat → Int} (hrk : ∀ b ∈ bs, b.th = [] → rk b.one < rk b.to) : ∀ {ns : List Nat} {k e : Nat}, wayEnd bs k ns = some e → 0 ≤ (ns.map (trB bs)).sum ∧ ((ns.map (trB bs)).sum = 0 → (ns = [] ∧ e = k) ∨ rk k < rk e)
  | [], k, e, h => ⟨Int.le_refl _, fun _ => .inl ⟨rfl, (Option.some.inj h).symm⟩⟩
  | n :: ns, k, e, h => by
    cases eb : bs[n]? with
    | none =>
      have : wayEnd bs k (n :: ns) = none := by
        show (match bs[n]? with | some b => if b.one = k then wayEnd bs b.to ns else none | none => none) = none
        rw [eb]
      rw [this] at h; cases h
    | some b =>
      rw [wayEnd_cons eb] at h
      by_cases z : b.one = k
      · rw [if_pos z] at h
        have ih := way_rank hrk h
        have h1 : trB bs n = (b.th.length : Int) := by unfold trB; rw [eb]
        rw [List.map_cons, List.sum_cons, h1]
        refine ⟨by omega, fun t => .inr ?_⟩
        have bt : b.th = [] := List.length_eq_zero_iff.mp (by omega)
        have r1 := hrk b (List.mem_of_getElem? eb) bt
        rw [z] at r1
        rcases ih.2 (by omega) with ⟨_, r2⟩ | r2
        · rw [r2]; exact r1
        · omega
      · rw [if_neg z] at h; cases h
theorem way_closed {bs : List BR} {rk : Nat → Int} (hrk : ∀ b ∈ bs, b.th = [] → rk b.one < rk b.to) {ns : List Nat} {k : Nat} (h : wayEnd bs k ns = some k) (hn : ns ≠ []) : 1 ≤ (ns.map (trB bs)).sum := by
  obtain ⟨h0, h1⟩ := way_rank hrk h
  by_cases z : (ns.map (trB bs)).sum = 0
  · rcases h1 z with ⟨e, _⟩ | e
    · exact absurd e hn
    · omega
  · omega
theorem nodup_len : ∀ (n : Nat) (l : List Nat), l.Nodup → (∀ x ∈ l, x < n) → l.length ≤ n
  | 0, l, _, h => by
    cases l with
    | nil => exact Nat.le_refl _
    | cons a l => exact absurd (h a (List.mem_cons_self ..)) (Nat.not_lt_zero _)
  | n + 1, l, nd, h => by
    by_cases m : n ∈ l
    · have ih := nodup_len n (l.erase n) (nd.erase n) fun x hx => by
        have hx := (List.Nodup.mem_erase_iff nd).mp hx
        have := h x hx.2
        have := hx.1
        omega
      rw [List.length_erase_of_mem m] at ih
      omega
    · have ih := nodup_len n l nd fun x hx => by
        have h1 := h x hx
        have : x ≠ n := fun z => m (z ▸ hx)
        omega
      omega
theorem pigeon {n : Nat} {g : Nat → Nat} {m : Nat} (h : ∀ i, i < m → g i < n) (hm : n < m) : ∃ i j, i < j ∧ j < m ∧ g i = g j := by
  refine Classical.byContradiction fun no => ?_
  have nd : ((List.range m).map g).Nodup := by
    unfold List.Nodup
    rw [List.pairwise_map]
    exact List.Pairwise.imp_of_mem (fun ha hb lt e => no ⟨_, _, lt, List.mem_range.mp hb, e⟩) List.pairwise_lt_range
  have := nodup_len n _ nd fun x hx => by
    obtain ⟨i, hi, rfl⟩ := List.mem_map.mp hx
    exact h i (List.mem_range.mp hi)
  rw [List.length_map, List.length_range] at this
  omega
theorem way_lt {bs : List BR} {n : Nat} (hto : ∀ b ∈ bs, b.to < n) : ∀ {ns : List Nat} {k e : Nat}, k < n → wayEnd bs k ns = some e → e < n
  | [], k, e, hk, h => by cases h; exact hk
  | m :: ns, k, e, hk, h => by
    cases eb : bs[m]? with
    | none =>
      have : wayEnd bs k (m :: ns) = none := by
        show (match bs[m]? with | some b => if b.one = k then wayEnd bs b.to ns else none | none => none) = none
        rw [eb]
      rw [this] at h; cases h
    | some b =>
      rw [wayEnd_cons eb] at h
      by_cases z : b.one = k
      · rw [if_pos z] at h; exact way_lt hto (hto b (List.mem_of_getElem? eb)) h
      · rw [if_neg z] at h; cases h
/-- each way has one with few belts that is no worse -/
theorem way_short {hs : List HR} {bs : List BR} {rk : Nat → Int} {n one : Nat} (hrk : ∀ b ∈ bs, b.th = [] → rk b.one < rk b.to) (hto : ∀ b ∈ bs, b.to < n) (ho : one < n) : ∀ (m : Nat) (ns : List Nat) (k : Nat), ns.length ≤ m → wayEnd bs one ns = some k → ∃ ms : List Nat, ms.length ≤ n ∧ wayEnd bs one ms = some k ∧ coLe (wayCo hs bs one ms) (wayCo hs bs one ns)
  | 0, ns, k, hm, h => ⟨ns, by omega, h, coLe.refl _⟩
  | m + 1, ns, k, hm, h => by
    by_cases short : ns.length ≤ n
    · exact ⟨ns, short, h, coLe.refl _⟩
    have ends : ∀ i, ∃ e, wayEnd bs one (ns.take i) = some e ∧ wayEnd bs e (ns.drop i) = some k := fun i => by
      have := h
      rw [← List.take_append_drop i ns, wayEnd_append] at this
      cases z : wayEnd bs one (ns.take i) with
      | none => rw [z] at this; cases this
      | some e => rw [z] at this; exact ⟨e, rfl, this⟩
    obtain ⟨i, j, ij, jl, e⟩ := pigeon (n := n) (g := fun i => (wayEnd bs one (ns.take i)).getD 0) (m := ns.length) (fun i _ => by
      obtain ⟨e, h1, _⟩ := ends i
      rw [h1]
      exact way_lt hto ho h1) (by omega)
    obtain ⟨e1, a1, a2⟩ := ends i
    obtain ⟨e2, b1, b2⟩ := ends j
    rw [a1, b1] at e
    have e : e1 = e2 := e
    subst e
    -- the ring between
    have part : ns.take j = ns.take i ++ (ns.drop i).take (j - i) := by
      rw [show j = i + (j - i) by omega, List.take_add, show i + (j - i) - i = j - i by omega]
    have ring : wayEnd bs e1 ((ns.drop i).take (j - i)) = some e1 := by
      rw [part, wayEnd_append, a1] at b1
      exact b1
    have rne : (ns.drop i).take (j - i) ≠ [] := fun z => by
      have := congrArg List.length z
      rw [List.length_take, List.length_drop] at this
      have : min (j - i) (ns.length - i) = 0 := this
      omega
    have r1 := way_closed hrk ring rne
    have new : wayEnd bs one (ns.take i ++ ns.drop j) = some k := by
      rw [wayEnd_append, a1]
      exact b2
    obtain ⟨ms, l1, l2, l3⟩ := way_short hrk hto ho m (ns.take i ++ ns.drop j) k (by rw [List.length_append, List.length_take, List.length_drop]; omega) new
    refine ⟨ms, l1, l2, l3.trans (.inl ?_)⟩
    show ((ns.take i ++ ns.drop j).map (trB bs)).sum < (ns.map (trB bs)).sum
    have : (ns.map (trB bs)).sum = ((ns.take i).map (trB bs)).sum + (((ns.drop i).take (j - i)).map (trB bs)).sum + ((ns.drop j).map (trB bs)).sum := by
      rw [← List.sum_append, ← List.map_append, ← part, ← List.sum_append, ← List.map_append, List.take_append_drop]
    rw [this, List.map_append, List.sum_append]
    omega
/-- one belt looked at -/
def relax (hs : List HR) (cf : Nat → Option Co) (b : BR) : Nat → Option Co := match cf b.one with
  | none => cf
  | some c => match cf b.to with
    | none => fun k => if k = b.to then some (coAdd hs c b) else cf k
    | some d => if coLt (coAdd hs c b) d then fun k => if k = b.to then some (coAdd hs c b) else cf k else cf
theorem relax_none {hs : List HR} {cf : Nat → Option Co} {b : BR} (h : cf b.one = none) : relax hs cf b = cf := by unfold relax; rw [h]
theorem relax_new {hs : List HR} {cf : Nat → Option Co} {b : BR} {c : Co} (h : cf b.one = some c) (g : cf b.to = none) : relax hs cf b = fun k => if k = b.to then some (coAdd hs c b) else cf k := by unfold relax; rw [h]; dsimp only; rw [g]
theorem relax_lt {hs : List HR} {cf : Nat → Option Co} {b : BR} {c d : Co} (h : cf b.one = some c) (g : cf b.to = some d) (l : coLt (coAdd hs c b) d) : relax hs cf b = fun k => if k = b.to then some (coAdd hs c b) else cf k := by unfold relax; rw [h]; dsimp only; rw [g]; dsimp only; rw [if_pos l]
theorem relax_ge {hs : List HR} {cf : Nat → Option Co} {b : BR} {c d : Co} (h : cf b.one = some c) (g : cf b.to = some d) (l : ¬ coLt (coAdd hs c b) d) : relax hs cf b = cf := by unfold relax; rw [h]; dsimp only; rw [g]; dsimp only; rw [if_neg l]
/-- what is set, or nothing -/
theorem relax_cases (hs : List HR) (cf : Nat → Option Co) (b : BR) : (relax hs cf b = cf ∧ ∀ c, cf b.one = some c → ∃ d, cf b.to = some d ∧ coLe d (coAdd hs c b)) ∨
    ∃ c, cf b.one = some c ∧ (relax hs cf b = fun k => if k = b.to then some (coAdd hs c b) else cf k) ∧ ∀ d, cf b.to = some d → coLt (coAdd hs c b) d := by
  cases h : cf b.one with
  | none => exact .inl ⟨relax_none h, fun c z => nomatch z⟩
  | some c =>
    cases g : cf b.to with
    | none => exact .inr ⟨c, rfl, relax_new h g, fun d z => nomatch z⟩
    | some d =>
      by_cases l : coLt (coAdd hs c b) d
      · exact .inr ⟨c, rfl, relax_lt h g l, fun d' z => by cases z; exact l⟩
      · exact .inl ⟨relax_ge h g l, fun c' z => ⟨d, rfl, by cases z; exact coLe_of_not l⟩⟩
theorem relax_mono {hs : List HR} {cf : Nat → Option Co} {b : BR} {k : Nat} {c : Co} (h : cf k = some c) : ∃ d, relax hs cf b k = some d ∧ coLe d c := by
  rcases relax_cases hs cf b with ⟨e, _⟩ | ⟨c', h1, e, l⟩
  · rw [e]; exact ⟨c, h, coLe.refl _⟩
  · rw [e]
    by_cases z : k = b.to
    · exact ⟨_, if_pos z, (l c (z ▸ h)).le⟩
    · exact ⟨c, (if_neg z).trans h, coLe.refl _⟩
theorem relax_done {hs : List HR} {cf : Nat → Option Co} {b : BR} {c : Co} (h : cf b.one = some c) : ∃ d, relax hs cf b b.to = some d ∧ coLe d (coAdd hs c b) := by
  rcases relax_cases hs cf b with ⟨e, g⟩ | ⟨c', h1, e, l⟩
  · rw [e]; exact g c h
  · rw [h] at h1
    cases h1
    rw [e]
    exact ⟨_, if_pos rfl, coLe.refl _⟩
abbrev roundF (hs : List HR) (bs : List BR) (cf : Nat → Option Co) : Nat → Option Co := bs.foldl (relax hs) cf
theorem fold_mono {hs : List HR} {k : Nat} : ∀ {l : List BR} {cf : Nat → Option Co} {c : Co}, cf k = some c → ∃ d, l.foldl (relax hs) cf k = some d ∧ coLe d c
  | [], cf, c, h => ⟨c, h, coLe.refl _⟩
  | b :: l, cf, c, h => by
    obtain ⟨d, h1, h2⟩ := relax_mono (hs := hs) (b := b) h
    obtain ⟨e, h3, h4⟩ := fold_mono (l := l) h1
    exact ⟨e, h3, h4.trans h2⟩
theorem fold_done {hs : List HR} {b : BR} : ∀ {l : List BR} {cf : Nat → Option Co} {c : Co}, b ∈ l → cf b.one = some c → ∃ d, l.foldl (relax hs) cf b.to = some d ∧ coLe d (coAdd hs c b)
  | a :: l, cf, c, hb, h => by
    rcases List.mem_cons.mp hb with rfl | hb
    · obtain ⟨d, h1, h2⟩ := relax_done (hs := hs) h
      obtain ⟨e, h3, h4⟩ := fold_mono (l := l) h1
      exact ⟨e, h3, h4.trans h2⟩
    · obtain ⟨d, h1, h2⟩ := relax_mono (hs := hs) (b := a) h
      obtain ⟨e, h3, h4⟩ := fold_done hb h1
      exact ⟨e, h3, h4.trans (coAdd_mono h2)⟩
def Snd (hs : List HR) (bs : List BR) (one : Nat) (cf : Nat → Option Co) : Prop := ∀ k c, cf k = some c → ∃ ns, wayEnd bs one ns = some k ∧ wayCo hs bs one ns = c
def Cpl (hs : List HR) (bs : List BR) (one : Nat) (cf : Nat → Option Co) (i : Nat) : Prop := ∀ ns k, ns.length ≤ i → wayEnd bs one ns = some k → ∃ c, cf k = some c ∧ coLe c (wayCo hs bs one ns)
def Stab (hs : List HR) (bs : List BR) (cf : Nat → Option Co) : Prop := ∀ b ∈ bs, ∀ c, cf b.one = some c → ∃ d, cf b.to = some d ∧ coLe d (coAdd hs c b)
theorem Snd.relax {hs : List HR} {bs : List BR} {one : Nat} {cf : Nat → Option Co} {b : BR} (s : Snd hs bs one cf) (hb : b ∈ bs) : Snd hs bs one (Mine.relax hs cf b) := fun k c h => by
  rcases relax_cases hs cf b with ⟨e, _⟩ | ⟨c', h1, e, l⟩
  · rw [e] at h; exact s k c h
  · rw [e] at h
    by_cases z : k = b.to
    · have h : some (coAdd hs c' b) = some c := by rw [← h]; exact (if_pos z).symm
      cases h
      obtain ⟨ns, w1, w2⟩ := s b.one c' h1
      obtain ⟨n, hn⟩ := List.getElem?_of_mem hb
      exact ⟨ns ++ [n], by rw [z]; exact wayEnd_snoc w1 hn rfl, by rw [wayCo_snoc hn, w2]⟩
    · exact s k c (by rw [← h]; exact (if_neg z).symm)
theorem Snd.fold {hs : List HR} {bs : List BR} {one : Nat} : ∀ {l : List BR} {cf : Nat → Option Co}, (∀ b ∈ l, b ∈ bs) → Snd hs bs one cf → Snd hs bs one (l.foldl (Mine.relax hs) cf)
  | [], _, _, s => s
  | b :: l, _, h, s => Snd.fold (l := l) (fun x hx => h x (List.mem_cons_of_mem _ hx)) (s.relax (h b (List.mem_cons_self ..)))
theorem Cpl.round {hs : List HR} {bs : List BR} {one : Nat} {cf : Nat → Option Co} {i : Nat} (c : Cpl hs bs one cf i) : Cpl hs bs one (roundF hs bs cf) (i + 1) := fun ns k hl h => by
  rcases List.eq_nil_or_concat ns with rfl | ⟨ms, n, rfl⟩
  · obtain ⟨d, h1, h2⟩ := c [] k (Nat.zero_le _) h
    obtain ⟨e, h3, h4⟩ := fold_mono (hs := hs) (l := bs) h1
    exact ⟨e, h3, h4.trans h2⟩
  · rw [List.concat_eq_append] at h hl ⊢
    obtain ⟨b, eb, h1, rfl⟩ := wayEnd_unsnoc h
    rw [List.length_append] at hl
    obtain ⟨d, h2, h3⟩ := c ms b.one (by have : ms.length + 1 ≤ i + 1 := hl; omega) h1
    obtain ⟨e, h4, h5⟩ := fold_done (hs := hs) (List.mem_of_getElem? eb) h2
    exact ⟨e, h4, by rw [wayCo_snoc eb]; exact h5.trans (coAdd_mono h3)⟩
def cf0 (hs : List HR) (one : Nat) : Nat → Option Co := fun k => if k = one then some (0, momH hs one) else none
def cfI (hs : List HR) (bs : List BR) (one : Nat) : Nat → (Nat → Option Co)
  | 0 => cf0 hs one
  | i + 1 => roundF hs bs (cfI hs bs one i)
theorem wayCo_nil {hs : List HR} {bs : List BR} {one : Nat} : wayCo hs bs one [] = (0, momH hs one) := by
  refine Prod.ext rfl ?_
  show momH hs one + 0 = momH hs one
  omega
theorem cfI_snd {hs : List HR} {bs : List BR} {one : Nat} : ∀ i, Snd hs bs one (cfI hs bs one i)
  | 0 => fun k c h => by
    by_cases z : k = one
    · have h : some ((0 : Int), momH hs one) = some c := by rw [← h]; exact (if_pos z).symm
      exact ⟨[], by rw [z]; rfl, by rw [wayCo_nil]; exact Option.some.inj h⟩
    · have h : none = some c := by rw [← h]; exact (if_neg z).symm
      cases h
  | i + 1 => Snd.fold (fun _ h => h) (cfI_snd i)
theorem cfI_cpl {hs : List HR} {bs : List BR} {one : Nat} : ∀ i, Cpl hs bs one (cfI hs bs one i) i
  | 0 => fun ns k hl h => by
    obtain rfl : ns = [] := List.length_eq_zero_iff.mp (by omega)
    obtain rfl : one = k := Option.some.inj h
    exact ⟨(0, momH hs one), if_pos rfl, by rw [wayCo_nil]; exact coLe.refl _⟩
  | i + 1 => (cfI_cpl i).round
theorem stab_relax {hs : List HR} {bs : List BR} {cf : Nat → Option Co} {b : BR} (s : Stab hs bs cf) (hb : b ∈ bs) : relax hs cf b = cf := by
  rcases relax_cases hs cf b with ⟨e, _⟩ | ⟨c', h1, e, l⟩
  · exact e
  · obtain ⟨d, h2, h3⟩ := s b hb c' h1
    exact absurd h3 (l d h2).not_le
theorem stab_fold {hs : List HR} {bs : List BR} {cf : Nat → Option Co} (s : Stab hs bs cf) : ∀ {l : List BR}, (∀ b ∈ l, b ∈ bs) → l.foldl (relax hs) cf = cf
  | [], _ => rfl
  | b :: l, h => by
    rw [List.foldl_cons, stab_relax s (h b (List.mem_cons_self ..))]
    exact stab_fold s fun x hx => h x (List.mem_cons_of_mem _ hx)
theorem stab_at {hs : List HR} {bs : List BR} {rk : Nat → Int} {n one : Nat} (hrk : ∀ b ∈ bs, b.th = [] → rk b.one < rk b.to) (hto : ∀ b ∈ bs, b.to < n) (ho : one < n) {i : Nat} (hi : n ≤ i) : Stab hs bs (cfI hs bs one i) := fun b hb c h => by
  obtain ⟨ns, w1, w2⟩ := cfI_snd i b.one c h
  obtain ⟨m, hm⟩ := List.getElem?_of_mem hb
  obtain ⟨ms, l1, l2, l3⟩ := way_short (hs := hs) hrk hto ho _ (ns ++ [m]) b.to (Nat.le_refl _) (wayEnd_snoc w1 hm rfl)
  obtain ⟨d, h1, h2⟩ := cfI_cpl (hs := hs) i ms b.to (by omega) l2
  refine ⟨d, h1, h2.trans ?_⟩
  rw [wayCo_snoc hm, w2] at l3
  exact l3
theorem cfI_stay {hs : List HR} {bs : List BR} {one i : Nat} (s : Stab hs bs (cfI hs bs one i)) : ∀ j, cfI hs bs one (i + j) = cfI hs bs one i
  | 0 => rfl
  | j + 1 => by
    show roundF hs bs (cfI hs bs one (i + j)) = _
    rw [cfI_stay s j]
    exact stab_fold s fun _ h => h
/-- the least ways of all, by rounds -/
abbrev best (hs : List HR) (bs : List BR) (one : Nat) : Nat → Option Co := cfI hs bs one hs.length
theorem cfI_best {hs : List HR} {bs : List BR} {rk : Nat → Int} {one i : Nat} (hrk : ∀ b ∈ bs, b.th = [] → rk b.one < rk b.to) (hto : ∀ b ∈ bs, b.to < hs.length) (ho : one < hs.length) (s : Stab hs bs (cfI hs bs one i)) : cfI hs bs one i = best hs bs one := by
  by_cases h : i ≤ hs.length
  · show cfI hs bs one i = cfI hs bs one hs.length
    have := cfI_stay s (hs.length - i)
    rw [show i + (hs.length - i) = hs.length by omega] at this
    exact this.symm
  · have := cfI_stay (hs := hs) (stab_at (hs := hs) (n := hs.length) hrk hto ho (Nat.le_refl _)) (i - hs.length)
    rw [show hs.length + (i - hs.length) = i by omega] at this
    exact this
/-- the last belts: from each hand that is come to one leads on to it -/
structure LaOk (hs : List HR) (bs : List BR) (one : Nat) (cf : Nat → Option Co) (la : Nat → Option Nat) : Prop where
  go : ∀ k n, la k = some n → ∃ b c d, bs[n]? = some b ∧ b.to = k ∧ cf b.one = some c ∧ cf k = some d ∧ coLe (coAdd hs c b) d
  fst : la one = none
  has : ∀ k c, cf k = some c → k = one ∨ (la k).isSome = true
theorem cf_one {hs : List HR} {bs : List BR} {rk : Nat → Int} {one : Nat} {cf : Nat → Option Co} (hrk : ∀ b ∈ bs, b.th = [] → rk b.one < rk b.to) (s : Snd hs bs one cf) (h1 : cf one = some (0, momH hs one)) {b : BR} (hb : b ∈ bs) {c : Co} (h : cf b.one = some c) (e : b.to = one) : ¬ coLt (coAdd hs c b) (0, momH hs one) := by
  obtain ⟨ns, w1, w2⟩ := s _ _ h
  obtain ⟨m, hm⟩ := List.getElem?_of_mem hb
  have w := wayEnd_snoc w1 hm rfl
  rw [e] at w
  have t := way_closed hrk w (by simp)
  have e2 := wayCo_snoc (hs := hs) (k := one) (ns := ns) hm
  rw [w2] at e2
  have e3 : (coAdd hs c b).1 = ((ns ++ [m]).map (trB bs)).sum := by rw [← e2]; rfl
  unfold coLt
  rw [e3]
  show ¬ (_ < (0 : Int) ∨ (_ = (0 : Int) ∧ _))
  omega
/-- along the last belts something falls -/
def redLt (rk : Nat → Int) (cf : Nat → Option Co) (j k : Nat) : Prop := ∃ c d, cf j = some c ∧ cf k = some d ∧ (c.1 < d.1 ∨ (c.1 = d.1 ∧ -c.2 + 31 * rk j < -d.2 + 31 * rk k))
theorem redLt_irr {rk : Nat → Int} {cf : Nat → Option Co} {k : Nat} : ¬ redLt rk cf k k := fun ⟨c, d, h1, h2, h3⟩ => by
  rw [h1] at h2
  cases h2
  omega
theorem redLt_tr {rk : Nat → Int} {cf : Nat → Option Co} {i j k : Nat} (a : redLt rk cf i j) (b : redLt rk cf j k) : redLt rk cf i k := by
  obtain ⟨c, d, h1, h2, h3⟩ := a
  obtain ⟨d', e, h4, h5, h6⟩ := b
  rw [h2] at h4
  cases h4
  exact ⟨c, e, h1, h5, by omega⟩
open Classical in
noncomputable def meas (rk : Nat → Int) (cf : Nat → Option Co) (n k : Nat) : Nat := ((List.range n).filter fun j => decide (redLt rk cf j k)).length
theorem filter_lt {α : Type} {p q : α → Bool} (h : ∀ x, p x = true → q x = true) {x : α} (qx : q x = true) (px : p x = false) : ∀ {l : List α}, x ∈ l → (l.filter p).length < (l.filter q).length
  | a :: l, hx => by
    have le : ∀ l : List α, (l.filter p).length ≤ (l.filter q).length := fun l => by
      induction l with
      | nil => exact Nat.le_refl _
      | cons a l ih =>
        rw [List.filter_cons, List.filter_cons]
        by_cases pa : p a = true
        · rw [if_pos pa, if_pos (h a pa), List.length_cons, List.length_cons]; omega
        · rw [if_neg pa]
          by_cases qa : q a = true
          · rw [if_pos qa, List.length_cons]; omega
          · rw [if_neg qa]; exact ih
    rw [List.filter_cons, List.filter_cons]
    rcases List.mem_cons.mp hx with e | hx
    · subst e
      rw [if_neg (by rw [px]; exact Bool.false_ne_true), if_pos qx, List.length_cons]
      have := le l
      omega
    · have ih := filter_lt h qx px hx
      by_cases pa : p a = true
      · rw [if_pos pa, if_pos (h a pa), List.length_cons, List.length_cons]; omega
      · rw [if_neg pa]
        by_cases qa : q a = true
        · rw [if_pos qa, List.length_cons]; omega
        · rw [if_neg qa]; exact ih
open Classical in
theorem meas_lt {rk : Nat → Int} {cf : Nat → Option Co} {n j k : Nat} (hj : j < n) (h : redLt rk cf j k) : meas rk cf n j < meas rk cf n k := by
  unfold meas
  exact filter_lt (p := fun x => decide (redLt rk cf x j)) (q := fun x => decide (redLt rk cf x k)) (fun x hx => decide_eq_true (redLt_tr (of_decide_eq_true hx) h)) (decide_eq_true h) (decide_eq_false redLt_irr) (List.mem_range.mpr hj)
theorem meas_le {rk : Nat → Int} {cf : Nat → Option Co} {n k : Nat} : meas rk cf n k ≤ n := by
  unfold meas
  refine Nat.le_trans (List.length_filter_le ..) ?_
  rw [List.length_range]
  exact Nat.le_refl _
theorem last_lt {hs : List HR} {bs : List BR} {rk : Nat → Int} {cf : Nat → Option Co} {b : BR} {k : Nat} {c d : Co} (hrk : ∀ b ∈ bs, b.th = [] → rk b.one < rk b.to) (mom : ∀ k, momH hs k ≤ 30) (hb : b ∈ bs) (e : b.to = k) (h1 : cf b.one = some c) (h2 : cf k = some d) (l : coLe (coAdd hs c b) d) : redLt rk cf b.one k := by
  refine ⟨c, d, h1, h2, ?_⟩
  have m := mom b.to
  unfold coLe coAdd at l
  dsimp only at l
  by_cases z : b.th = []
  · have r := hrk b hb z
    rw [z] at l
    rw [e] at r l m
    have l : c.1 + (0 : Int) < d.1 ∨ c.1 + (0 : Int) = d.1 ∧ d.2 ≤ c.2 + momH hs k := l
    omega
  · have : 0 < b.th.length := List.length_pos_iff.mpr z
    omega
/-! ### levels: mathematics -/
structure St3 where
  u : Nat
  v : Nat
  w : Int
def Feas (st : List St3) : Prop := ∃ lv : Nat → Int, ∀ s ∈ st, lv s.u + s.w ≤ lv s.v
structure Lv (st : List St3) (i j : Nat) (lv : Nat → Int) (la : Nat → Option Nat) (r t : Nat → Nat) (now : Nat) : Prop where
  bk : ∀ p k, la p = some k → ∃ s, st[k]? = some s ∧ s.v = p ∧ lv p ≤ lv s.u + s.w ∧ (t p ≤ t s.u → lv p < lv s.u + s.w) ∧ r p ≤ r s.u + 1
  has : ∀ p, 1 ≤ r p → ∃ k, la p = some k
  tn : ∀ p, t p ≤ now
  rl : ∀ p, r p ≤ i
  sat : ∀ k s, st[k]? = some s → lv s.u + s.w ≤ lv s.v ∨ (if k < j then i else i - 1) ≤ r s.u
def put {α : Type} (f : Nat → α) (p : Nat) (x : α) : Nat → α := fun q => if q = p then x else f q
theorem put_at {α : Type} {f : Nat → α} {p : Nat} {x : α} : put f p x p = x := if_pos rfl
theorem put_ne {α : Type} {f : Nat → α} {p q : Nat} {x : α} (h : q ≠ p) : put f p x q = f q := if_neg h
theorem Lv.start {st : List St3} : Lv st 1 0 (fun _ => 0) (fun _ => none) (fun _ => 0) (fun _ => 0) 0 :=
  ⟨(fun _ _ z => nomatch z), fun p z => absurd z (by decide), fun _ => Nat.le_refl _, fun _ => Nat.zero_le _, fun k s _ => .inr (by rw [if_neg (Nat.not_lt_zero _)]; exact Nat.le_refl _)⟩
theorem Lv.idle {st : List St3} {i j : Nat} {lv : Nat → Int} {la : Nat → Option Nat} {r t : Nat → Nat} {now : Nat} (L : Lv st i j lv la r t now) {s : St3} (es : st[j]? = some s) (h : ¬ lv s.u + s.w > lv s.v) : Lv st i (j + 1) lv la r t now := by
  refine { L with sat := fun k s2 e => ?_ }
  by_cases z : k = j
  · subst z
    rw [es] at e
    cases e
    exact .inl (by omega)
  · rcases L.sat k s2 e with y | y
    · exact .inl y
    · refine .inr ?_
      by_cases x : k < j
      · rw [if_pos x] at y; rw [if_pos (by omega)]; exact y
      · rw [if_neg x] at y; rw [if_neg (by omega)]; exact y
theorem Lv.lift {st : List St3} {i j : Nat} {lv : Nat → Int} {la : Nat → Option Nat} {r t : Nat → Nat} {now : Nat} (L : Lv st i j lv la r t now) {s : St3} (es : st[j]? = some s) (h : lv s.u + s.w > lv s.v) :
    Lv st i (j + 1) (put lv s.v (lv s.u + s.w)) (put la s.v (some j)) (put r s.v i) (put t s.v (now + 1)) (now + 1) := by
  have ru : i ≤ r s.u + 1 := by
    rcases L.sat j s es with y | y
    · omega
    · rw [if_neg (Nat.lt_irrefl _)] at y; omega
  have rge : ∀ p, r p ≤ put r s.v i p := fun p => by
    by_cases z : p = s.v
    · rw [z, put_at]; exact L.rl _
    · rw [put_ne z]; exact Nat.le_refl _
  have lge : ∀ p, lv p ≤ put lv s.v (lv s.u + s.w) p := fun p => by
    by_cases z : p = s.v
    · rw [z, put_at]; omega
    · rw [put_ne z]; exact Int.le_refl _
  refine ⟨fun p k e => ?_, fun p z => ?_, fun p => ?_, fun p => ?_, fun k s2 e => ?_⟩
  · by_cases z : p = s.v
    · subst z
      rw [put_at] at e
      cases e
      refine ⟨s, es, rfl, ?_, fun y => ?_, ?_⟩
      · rw [put_at]
        have := lge s.u
        omega
      · rw [put_at] at y ⊢
        by_cases x : s.u = s.v
        · rw [x, put_at]
          rw [x] at h
          omega
        · rw [put_ne x] at y
          have := L.tn s.u
          omega
      · rw [put_at]
        have := rge s.u
        omega
    · rw [put_ne z] at e
      obtain ⟨s2, e1, e2, e3, e4, e5⟩ := L.bk p k e
      refine ⟨s2, e1, e2, ?_, fun y => ?_, ?_⟩
      · rw [put_ne z]
        have := lge s2.u
        omega
      · rw [put_ne z]
        by_cases x : s2.u = s.v
        · rw [x, put_at]
          rw [x] at e3
          omega
        · rw [put_ne x]
          rw [put_ne x, put_ne z] at y
          exact e4 y
      · rw [put_ne z]
        have := rge s2.u
        omega
  · by_cases y : p = s.v
    · exact ⟨j, by rw [y, put_at]⟩
    · rw [put_ne y] at z ⊢
      exact L.has p z
  · by_cases y : p = s.v
    · rw [y, put_at]; exact Nat.le_refl _
    · rw [put_ne y]; exact Nat.le_succ_of_le (L.tn p)
  · by_cases y : p = s.v
    · rw [y, put_at]; exact Nat.le_refl _
    · rw [put_ne y]; exact L.rl p
  · by_cases x : s2.u = s.v
    · refine .inr ?_
      rw [x, put_at]
      split <;> omega
    · rw [put_ne x, put_ne x]
      by_cases z : k = j
      · subst z
        rw [es] at e
        cases e
        exact .inl (by rw [put_at]; exact Int.le_refl _)
      · rcases L.sat k s2 e with y | y
        · exact .inl (Int.le_trans y (lge _))
        · refine .inr ?_
          by_cases q : k < j
          · rw [if_pos q] at y; rw [if_pos (by omega)]; exact y
          · rw [if_neg q] at y; rw [if_neg (by omega)]; exact y
theorem Lv.next {st : List St3} {i : Nat} {lv : Nat → Int} {la : Nat → Option Nat} {r t : Nat → Nat} {now : Nat} (L : Lv st i st.length lv la r t now) : Lv st (i + 1) 0 lv la r t now := by
  refine { L with rl := fun p => Nat.le_succ_of_le (L.rl p), sat := fun k s e => ?_ }
  rcases L.sat k s e with y | y
  · exact .inl y
  · refine .inr ?_
    rw [if_pos (List.getElem?_eq_some_iff.mp e).1] at y
    rw [if_neg (Nat.not_lt_zero _)]
    exact y
theorem Lv.feas {st : List St3} {i : Nat} {lv : Nat → Int} {la : Nat → Option Nat} {r t : Nat → Nat} {now : Nat} (L : Lv st i st.length lv la r t now) (h : ∀ p, r p < i) : ∀ s ∈ st, lv s.u + s.w ≤ lv s.v := fun s hs => by
  obtain ⟨k, e⟩ := List.getElem?_of_mem hs
  rcases L.sat k s e with y | y
  · exact y
  · rw [if_pos (List.getElem?_eq_some_iff.mp e).1] at y
    have := h s.u
    omega
/-- one step back -/
def back (st : List St3) (la : Nat → Option Nat) (p : Nat) : Nat := match la p with
  | none => p
  | some k => match st[k]? with
    | none => p
    | some s => s.u
def backs (st : List St3) (la : Nat → Option Nat) (p : Nat) : Nat → Nat
  | 0 => p
  | k + 1 => back st la (backs st la p k)
theorem backs_add {st : List St3} {la : Nat → Option Nat} {p : Nat} : ∀ {a b k : Nat}, backs st la p a = backs st la p b → backs st la p (a + k) = backs st la p (b + k)
  | _, _, 0, h => h
  | a, b, k + 1, h => by
    show back st la (backs st la p (a + k)) = back st la (backs st la p (b + k))
    rw [backs_add h]
theorem Lv.back_r {st : List St3} {i j : Nat} {lv : Nat → Int} {la : Nat → Option Nat} {r t : Nat → Nat} {now : Nat} (L : Lv st i j lv la r t now) (p : Nat) : r p ≤ r (back st la p) + 1 := by
  unfold back
  cases e : la p with
  | none => dsimp only; omega
  | some k =>
    obtain ⟨s, e1, _, _, _, e5⟩ := L.bk p k e
    dsimp only
    rw [e1]
    exact e5
theorem Lv.backs_r {st : List St3} {i j : Nat} {lv : Nat → Int} {la : Nat → Option Nat} {r t : Nat → Nat} {now : Nat} (L : Lv st i j lv la r t now) (p : Nat) : ∀ k, r p ≤ r (backs st la p k) + k
  | 0 => Nat.le_refl _
  | k + 1 => by
    have := L.backs_r p k
    have := L.back_r (backs st la p k)
    show r p ≤ r (back st la (backs st la p k)) + (k + 1)
    omega
/-- from a place that was raised in the last of as many rounds as there are places the steps back lead onto a ring -/
theorem Lv.ring {st : List St3} {n : Nat} {lv : Nat → Int} {la : Nat → Option Nat} {r t : Nat → Nat} {now : Nat} (L : Lv st n st.length lv la r t now) (hu : ∀ s ∈ st, s.u < n) {p : Nat} (hp : p < n) (hr : r p = n) :
    ∃ c, 1 ≤ c ∧ c ≤ n ∧ backs st la p (n + c) = backs st la p n ∧ (∀ k, n ≤ k → ∃ m, la (backs st la p k) = some m) ∧ (∀ k, backs st la p k < n) ∧ ∀ k, k < n → ∃ m, la (backs st la p k) = some m := by
  have lt : ∀ k, backs st la p k < n := fun k => by
    induction k with
    | zero => exact hp
    | succ k ih =>
      show back st la (backs st la p k) < n
      unfold back
      cases e : la (backs st la p k) with
      | none => exact ih
      | some m =>
        obtain ⟨s, e1, _⟩ := L.bk _ m e
        dsimp only
        rw [e1]
        exact hu s (List.mem_of_getElem? e1)
  have some_ : ∀ k, k < n → ∃ m, la (backs st la p k) = some m := fun k hk => by
    have := L.backs_r p k
    exact L.has _ (by omega)
  obtain ⟨a, b, ab, bn, e⟩ := pigeon (n := n) (g := backs st la p) (m := n + 1) (fun i _ => lt i) (by omega)
  have per : ∀ k, a ≤ k → backs st la p (k + (b - a)) = backs st la p k := fun k hk => by
    have := backs_add (k := k - a) e
    rw [show a + (k - a) = k by omega, show b + (k - a) = k + (b - a) by omega] at this
    exact this.symm
  refine ⟨b - a, by omega, by omega, per n (by omega), fun k hk => ?_, lt, some_⟩
  have low : ∀ d k, k ≤ d → a ≤ k → ∃ j, j < n ∧ backs st la p k = backs st la p j := fun d => by
    induction d with
    | zero => exact fun k h1 h2 => ⟨k, by omega, rfl⟩
    | succ d ih =>
      intro k h1 h2
      by_cases z : k < n
      · exact ⟨k, z, rfl⟩
      · obtain ⟨j, j1, j2⟩ := ih (k - (b - a)) (by omega) (by omega)
        have := per (k - (b - a)) (by omega)
        rw [show k - (b - a) + (b - a) = k by omega] at this
        exact ⟨j, j1, by rw [this, j2]⟩
  obtain ⟨j, j1, j2⟩ := low k k (Nat.le_refl _) (by omega)
  rw [j2]
  exact some_ j j1
/-- the need of the step back from a place -/
def need (st : List St3) (la : Nat → Option Nat) (p : Nat) : Int := match la p with
  | none => 0
  | some k => match st[k]? with
    | none => 0
    | some s => s.w
def needs3 (st : List St3) (la : Nat → Option Nat) (p : Nat) (a : Nat) : Nat → Int
  | 0 => 0
  | k + 1 => needs3 st la p a k + need st la (backs st la p (a + k))
theorem Lv.sum_pos {st : List St3} {i j : Nat} {lv : Nat → Int} {la : Nat → Option Nat} {r t : Nat → Nat} {now : Nat} (L : Lv st i j lv la r t now) {p a c : Nat} (hc : 1 ≤ c) (e : backs st la p (a + c) = backs st la p a) (hs : ∀ k, a ≤ k → ∃ m, la (backs st la p k) = some m) : 0 < needs3 st la p a c := by
  have go : ∀ k, lv (backs st la p a) ≤ lv (backs st la p (a + k)) + needs3 st la p a k ∧ (lv (backs st la p a) < lv (backs st la p (a + k)) + needs3 st la p a k ∨ t (backs st la p (a + k)) + k ≤ t (backs st la p a)) := fun k => by
    induction k with
    | zero => exact ⟨by show lv (backs st la p a) ≤ lv (backs st la p a) + 0; omega, .inr (Nat.le_refl _)⟩
    | succ k ih =>
      obtain ⟨m, em⟩ := hs (a + k) (by omega)
      obtain ⟨s, e1, e2, e3, e4, e5⟩ := L.bk _ m em
      have eb : backs st la p (a + (k + 1)) = s.u := by
        show back st la (backs st la p (a + k)) = s.u
        unfold back
        rw [em]
        dsimp only
        rw [e1]
      have en : needs3 st la p a (k + 1) = needs3 st la p a k + s.w := by
        show needs3 st la p a k + need st la (backs st la p (a + k)) = _
        unfold need
        rw [em]
        dsimp only
        rw [e1]
      rw [eb, en]
      refine ⟨by omega, ?_⟩
      rcases ih.2 with y | y
      · exact .inl (by omega)
      · by_cases z : t (backs st la p (a + k)) ≤ t s.u
        · exact .inl (by have := e4 z; omega)
        · exact .inr (by omega)
  obtain ⟨g1, g2⟩ := go c
  rw [e] at g1 g2
  rcases g2 with y | y
  · omega
  · omega
theorem needs3_le {st : List St3} {la : Nat → Option Nat} {p a : Nat} {lv : Nat → Int} (f : ∀ s ∈ st, lv s.u + s.w ≤ lv s.v) (bk : ∀ p k, la p = some k → ∃ s, st[k]? = some s ∧ s.v = p) (hs : ∀ k, a ≤ k → ∃ m, la (backs st la p k) = some m) : ∀ k, needs3 st la p a k ≤ lv (backs st la p a) - lv (backs st la p (a + k))
  | 0 => by show (0 : Int) ≤ lv (backs st la p a) - lv (backs st la p a); omega
  | k + 1 => by
    have ih := needs3_le f bk hs k
    obtain ⟨m, em⟩ := hs (a + k) (by omega)
    obtain ⟨s, e1, e2⟩ := bk _ m em
    have eb : backs st la p (a + (k + 1)) = s.u := by
      show back st la (backs st la p (a + k)) = s.u
      unfold back
      rw [em]
      dsimp only
      rw [e1]
    have en : needs3 st la p a (k + 1) = needs3 st la p a k + s.w := by
      show needs3 st la p a k + need st la (backs st la p (a + k)) = _
      unfold need
      rw [em]
      dsimp only
      rw [e1]
    have := f s (List.mem_of_getElem? e1)
    rw [eb, en]
    rw [e2] at this
    omega
theorem Lv.not_feas {st : List St3} {n : Nat} {lv : Nat → Int} {la : Nat → Option Nat} {r t : Nat → Nat} {now : Nat} (L : Lv st n st.length lv la r t now) (hu : ∀ s ∈ st, s.u < n) {p : Nat} (hp : p < n) (hr : r p = n) : ¬ Feas st := fun ⟨lv0, f⟩ => by
  obtain ⟨c, c1, c2, e, hs, _⟩ := L.ring hu hp hr
  have h1 := L.sum_pos c1 e hs
  have h2 := needs3_le f (fun p k z => by obtain ⟨s, e1, e2, _⟩ := L.bk p k z; exact ⟨s, e1, e2⟩) hs c
  rw [e] at h2
  omega
theorem ixN_nat {n k : Nat} (h : k < n) : ixN n ((k : Nat) : Int) = some k := by
  unfold ixN
  rw [if_pos (by omega), if_pos (by omega)]
  simp
/-! ### levels: the program -/
def oV : Option Nat → V
  | none => .non
  | some k => nV k
abbrev levL (n : Nat) (lv : Nat → Int) : List V := (List.range n).map fun p => V.int (lv p)
abbrev lasL (n : Nat) (la : Nat → Option Nat) : List V := (List.range n).map fun p => oV (la p)
theorem rg_at {n p : Nat} {f : Nat → V} (h : p < n) : ((List.range n).map f)[p]? = some (f p) := by
  rw [List.getElem?_map, List.getElem?_range h]; rfl
theorem rg_set {n p : Nat} {α : Type} {f : Nat → α} {g : α → V} {x : α} : ((List.range n).map fun q => g (f q)).set p (g x) = (List.range n).map fun q => g (put f p x q) := by
  refine List.ext_getElem? fun i => ?_
  by_cases e : i = p
  · subst e
    by_cases l : i < n
    · rw [List.getElem?_set_self (by rw [List.length_map, List.length_range]; exact l), rg_at l, put_at]
    · rw [List.getElem?_eq_none (by rw [List.length_set, List.length_map, List.length_range]; omega), List.getElem?_eq_none (by rw [List.length_map, List.length_range]; omega)]
  · rw [List.getElem?_set_ne (fun z => e z.symm)]
    by_cases l : i < n
    · rw [rg_at l, rg_at (f := fun q => g (put f p x q)) l, put_ne e]
    · rw [List.getElem?_eq_none (by rw [List.length_map, List.length_range]; omega), List.getElem?_eq_none (by rw [List.length_map, List.length_range]; omega)]
def StepAt (H : Hp) (v : V) (s : St3) : Prop := ∃ t : Addr, v = .ref t ∧ H t = some (.tup [nV s.u, nV s.v, .int s.w])
theorem StepAt.keep {H H' : Hp} {v : V} {s : St3} (h : StepAt H v s) (k : TK H H') : StepAt H' v s := by
  obtain ⟨t, e, h⟩ := h
  exact ⟨t, e, k _ _ h⟩
def StepsAt (H : Hp) (sl : Addr) (st : List St3) : Prop := ∃ sv : List V, H sl = some (.lst sv) ∧ All2 (StepAt H) sv st
def stepEnd (st : List St3) : Nat → List Nat → Option Nat
  | p, [] => some p
  | p, k :: ks => match st[k]? with | some s => if s.u = p then stepEnd st s.v ks else none | none => none
theorem stepEnd_cons {st : List St3} {k p : Nat} {s : St3} {ks : List Nat} (e : st[k]? = some s) : stepEnd st p (k :: ks) = if s.u = p then stepEnd st s.v ks else none := by
  show (match st[k]? with | some s => if s.u = p then stepEnd st s.v ks else none | none => none) = _
  rw [e]
def wS (st : List St3) (k : Nat) : Int := match st[k]? with | some s => s.w | none => 0
def toS (st : List St3) (k : Nat) : Nat := match st[k]? with | some s => s.v | none => 0
theorem toS_some {st : List St3} {k : Nat} {s : St3} (e : st[k]? = some s) : toS st k = s.v := by unfold toS; rw [e]
/-- a ring of steps that needs more than nothing, and comes to no place twice -/
structure RingOk (st : List St3) (ks : List Nat) : Prop where
  ne : ks ≠ []
  lt : ∀ k ∈ ks, k < st.length
  cl : ∃ p, stepEnd st p ks = some p
  pos : 0 < (ks.map (wS st)).sum
  nd : (ks.map (toS st)).Nodup
theorem step_sum {st : List St3} {lv : Nat → Int} (f : ∀ s ∈ st, lv s.u + s.w ≤ lv s.v) : ∀ {ks : List Nat} {p q : Nat}, stepEnd st p ks = some q → lv p + (ks.map (wS st)).sum ≤ lv q
  | [], p, q, h => by cases h; show lv p + 0 ≤ lv p; omega
  | k :: ks, p, q, h => by
    cases e : st[k]? with
    | none =>
      have : stepEnd st p (k :: ks) = none := by
        show (match st[k]? with | some s => if s.u = p then stepEnd st s.v ks else none | none => none) = none
        rw [e]
      rw [this] at h; cases h
    | some s =>
      rw [stepEnd_cons e] at h
      by_cases z : s.u = p
      · rw [if_pos z] at h
        have ih := step_sum f h
        have := f s (List.mem_of_getElem? e)
        rw [List.map_cons, List.sum_cons, show wS st k = s.w by unfold wS; rw [e]]
        rw [z] at this
        omega
      · rw [if_neg z] at h; cases h
theorem RingOk.not_feas {st : List St3} {ks : List Nat} (r : RingOk st ks) : ¬ Feas st := fun ⟨lv, f⟩ => by
  obtain ⟨p, e⟩ := r.cl
  have := step_sum f e
  have := r.pos
  omega
section
variable {P : Program} {w : World} {K : PySem.W.Frag} {mg : Str → Option Value} {base : Heap}
def sp_raise_levels (K : PySem.W.Frag) : Sp := fun vs H Q _ => ∃ (ll lb sl : Addr) (n i : Nat) (st : List St3) (lv : Nat → Int) (la : Nat → Option Nat) (r t : Nat → Nat) (now : Nat), vs = [.ref ll, .ref lb, .ref sl] ∧ H ll = some (.lst (levL n lv)) ∧ H lb = some (.lst (lasL n la)) ∧ StepsAt H sl st ∧ ll ≠ lb ∧ sl ≠ ll ∧ sl ≠ lb ∧ (∀ s ∈ st, s.u < n ∧ s.v < n) ∧ st.length ≤ 400 ∧ Lv st i 0 lv la r t now ∧ (∀ p, r p < i) ∧
  ∀ (lv' : Nat → Int) (la' : Nat → Option Nat) (r' t' : Nat → Nat) (now' : Nat) (v : Option Nat) (H' : Hp), H' ll = some (.lst (levL n lv')) → H' lb = some (.lst (lasL n la')) → Lv st i st.length lv' la' r' t' now' → (v = none → ∀ p, r' p < i) → (∀ x, v = some x → x < n ∧ r' x = i) → (∀ p, lv p ≤ lv' p) → (∀ b o, H b = some o → b ≠ ll → b ≠ lb → H' b = some o) → Q (oV v) H'
theorem ok_raise_levels {f : Addr} {fd : FuncData} (F : Fun K "raise_levels" "raise_levels" s_raise_levels f fd) (T : Top K mg) : FnOk P w K mg base CX0 1 f fd ["levels", "last", "steps"] (sp_raise_levels K) := by
  refine F.ok sc_raise_levels (fun vs H Q E h => ?_) (fun cdv A outer s H vs Q E hr h => ?_)
  · obtain ⟨ll, lb, sl, n, i, st, lv, la, r, t, now, rfl, _⟩ := h
    rfl
  obtain ⟨ll, lb, sl, n, i, st, lv, la, r, t, now, rfl, hll, hlb, ⟨sv, hsl, als⟩, llb, sll, slb, bd, few, L, rlt, q⟩ := h
  have lsv := als.length
  refine ⟨_, (pss_cons (ps_set (i := 3) sc_raise_levels.nd rfl (Or.inl rfl) pe_non)
      (pss_cons (ps_for PassesOwn.never rfl (pi_enum (by rfl) T.m_enumerate (pa_cons (pv 2) pa_nil)) (pg_tupK K rfl rfl (pgs_cons (pg_name (i := 4) sc_raise_levels.nd rfl (Or.inl rfl)) (pgs_cons (pg_tupK K rfl rfl (pgs_cons (pg_name (i := 5) sc_raise_levels.nd rfl (Or.inl rfl)) (pgs_cons (pg_name (i := 6) sc_raise_levels.nd rfl (Or.inl rfl)) (pgs_cons (pg_name (i := 7) sc_raise_levels.nd rfl (Or.inl rfl)) pgs_nil)))) pgs_nil)))
        (pss_one (ps_if (pt_cmpR op_gt (pe_op op_add (pe_ix (ix_listK K rfl) (pv 0) (pv 5) (fun _ _ => rfl)) (pv 7)) (pe_ix (ix_listK K rfl) (pv 0) (pv 6) (fun _ _ => rfl)) (nomark _)) (pss_cons (ps_asg (pe_op op_add (pe_ix (ix_listK K rfl) (pv 0) (pv 5) (fun _ _ => rfl)) (pv 7)) (pg_sub (pv 0) (pv 6) set_list))
      (pss_cons (ps_asg (pv 4) (pg_sub (pv 1) (pv 6) set_list))
      (pss_one (ps_set (i := 3) sc_raise_levels.nd rfl (Or.inl rfl) (pv 6))))) pss_nil)))
      (pss_one (ps_ret (pv 3))))), ?_⟩
  refine ⟨_, rfl, sl, _, rfl, SqL.of hsl, for_it (n := sv.length) (fun j σ H2 => ∃ (lv' : Nat → Int) (la' : Nat → Option Nat) (r' t' : Nat → Nat) (now' : Nat) (v : Option Nat) (v4 v5 v6 v7 : Option V), σ = [some (.ref ll), some (.ref lb), some (.ref sl), some (oV v), v4, v5, v6, v7] ∧ H2 ll = some (.lst (levL n lv')) ∧ H2 lb = some (.lst (lasL n la')) ∧ Lv st i j lv' la' r' t' now' ∧ (v = none → ∀ p, r' p < i) ∧ (∀ x, v = some x → x < n ∧ r' x = i) ∧ (∀ p, lv p ≤ lv' p) ∧ (∀ b o, H b = some o → b ≠ ll → b ≠ lb → H2 b = some o))
    ⟨lv, la, r, t, now, none, none, none, none, none, rfl, hll, hlb, L, (fun _ => rlt), (fun _ z => nomatch z), (fun _ => Int.le_refl _), (fun _ _ e _ _ => e)⟩ ?_ ?_ ?_ ?_⟩
  · rintro j σ H2 hj ⟨lv', la', r', t', now', v, v4, v5, v6, v7, rfl, h1, h2, L, f1, f2, f3, fr⟩
    exact ⟨_, _, SqL.of (fr _ _ hsl sll slb), List.getElem?_eq_getElem hj⟩
  · rintro σ H2 ⟨lv', la', r', t', now', v, v4, v5, v6, v7, rfl, h1, h2, L, f1, f2, f3, fr⟩
    exact ⟨_, SqL.of (fr _ _ hsl sll slb), Nat.le_refl _⟩
  · rintro j x σ H2 H3 hj ⟨lv', la', r', t', now', v, v4, v5, v6, v7, rfl, h1, h2, L, f1, f2, f3, fr⟩ ⟨tt, y, rfl, ntt, rfl, fy⟩
    have ey := fy _ (SqL.of (fr _ _ hsl sll slb))
    obtain ⟨s, es, ⟨t2, rfl, e1⟩⟩ := als.getL ey
    obtain ⟨ul, vl⟩ := bd s (List.mem_of_getElem? es)
    have t2l : t2 ≠ ll := ne_of e1 hll (fun z => nomatch z)
    have t2b : t2 ≠ lb := ne_of e1 hlb (fun z => nomatch z)
    have e13 := same_new (o := .tup [V.int ((j : Nat) : Int), V.ref t2]) ntt _ _ (fr _ _ e1 t2l t2b)
    have h13 := same_new (o := .tup [V.int ((j : Nat) : Int), V.ref t2]) ntt _ _ h1
    have h23 := same_new (o := .tup [V.int ((j : Nat) : Int), V.ref t2]) ntt _ _ h2
    refine ⟨tt, _, rfl, SqT.of upd_same, rfl, _, _, rfl, _, _, rfl, t2, _, rfl, SqT.of e13, rfl, _, _, rfl, _, _, rfl, _, _, rfl, rfl, rfl, ?_⟩
    refine ⟨_, rfl, _, rfl, ll, _, _, _, rfl, rfl, SqL.of h13, atI_nat (rg_at ul), _, rfl, _, _, rfl, rfl, _, rfl, _, rfl, ll, _, _, _, rfl, rfl, SqL.of h13, atI_nat (rg_at vl), _, _, rfl, rfl, _, rfl, if_bl (fun c => ?_) (fun c => ?_)⟩
    · have c : lv' s.v < lv' s.u + s.w := of_decide_eq_true c
      refine ⟨_, rfl, _, rfl, ll, _, _, _, rfl, rfl, SqL.of h13, atI_nat (rg_at ul), _, rfl, _, _, rfl, rfl, _, rfl, _, rfl, ll, _, _, s.v, rfl, rfl, h13, ixN_nat (by rw [List.length_map, List.length_range]; exact vl), ?_⟩
      refine ⟨_, rfl, _, rfl, _, rfl, lb, _, _, s.v, rfl, rfl, (by rw [upd_ne llb.symm]; exact h23), ixN_nat (by rw [List.length_map, List.length_range]; exact vl), ?_⟩
      refine ⟨_, rfl, ?_⟩
      refine ⟨put lv' s.v (lv' s.u + s.w), put la' s.v (some j), put r' s.v i, put t' s.v (now' + 1), now' + 1, some s.v, _, _, _, _, rfl, ?_, ?_, L.lift es c, (fun z => nomatch z), (fun x z => ?_), fun p => ?_, fun b o e n1 n2 => ?_⟩
      · rw [upd_ne llb, upd_same]
        exact congrArg (fun l => some (HO.lst l)) (rg_set (g := V.int))
      · rw [upd_same]
        exact congrArg (fun l => some (HO.lst l)) (rg_set (g := oV) (x := some j))
      · cases z
        exact ⟨vl, put_at⟩
      · have := f3 p
        by_cases z : p = s.v
        · rw [z, put_at]; rw [z] at this; omega
        · rw [put_ne z]; exact this
      · rw [upd_ne n2, upd_ne n1]
        exact same_new ntt _ _ (fr b o e n1 n2)
    · have c : ¬ lv' s.v < lv' s.u + s.w := of_decide_eq_false c
      exact ⟨lv', la', r', t', now', v, _, _, _, _, rfl, h13, h23, L.idle es c, f1, f2, f3, fun b o e n1 n2 => same_new ntt _ _ (fr b o e n1 n2)⟩
  · rintro σ H2 ⟨lv', la', r', t', now', v, v4, v5, v6, v7, rfl, h1, h2, L, f1, f2, f3, fr⟩
    rw [lsv] at L
    exact ⟨_, rfl, q lv' la' r' t' now' v H2 h1 h2 L f1 f2 f3 fr⟩
def sp_ring_behind (K : PySem.W.Frag) : Sp := fun vs H Q _ => ∃ (lb sl : Addr) (n p : Nat) (st : List St3) (lv : Nat → Int) (la : Nat → Option Nat) (r t : Nat → Nat) (now : Nat), vs = [nV p, .ref lb, .ref sl] ∧ H lb = some (.lst (lasL n la)) ∧ StepsAt H sl st ∧ (∀ s ∈ st, s.u < n ∧ s.v < n) ∧ st.length ≤ 400 ∧ n ≤ 100 ∧ Lv st n st.length lv la r t now ∧ p < n ∧ r p = n ∧
  ∀ (pr : Addr) (ks : List Nat) (H' : Hp), H' pr = some (.lst (ks.map nV)) → RingOk st ks → ks.length ≤ n → Same H H' → Q (.ref pr) H'
theorem ok_ring_behind {f : Addr} {fd : FuncData} (F : Fun K "ring_behind" "ring_behind" s_ring_behind f fd) (T : Top K mg) : FnOk P w K mg base CX0 1 f fd ["place", "last", "steps"] (sp_ring_behind K) := by
  refine F.ok sc_ring_behind (fun vs H Q E h => ?_) (fun cdv A outer s H vs Q E hr h => ?_)
  · obtain ⟨lb, sl, n, p, st, lv, la, r, t, now, rfl, _⟩ := h
    rfl
  obtain ⟨lb, sl, n, p, st, lv, la, r, t, now, rfl, hlb, ⟨sv, hsl, als⟩, bd, few, n100, L, hp, hrp, q⟩ := h
  obtain ⟨c, c1, cn, cyc, least, hs, lt, hs0⟩ : ∃ c, 1 ≤ c ∧ c ≤ n ∧ backs st la p (n + c) = backs st la p n ∧ (∀ d, 1 ≤ d → d < c → backs st la p (n + d) ≠ backs st la p n) ∧ (∀ k, n ≤ k → ∃ m, la (backs st la p k) = some m) ∧ (∀ k, backs st la p k < n) ∧ ∀ k, k < n → ∃ m, la (backs st la p k) = some m := by
    obtain ⟨c, c1, cn, cyc, hs, lt, hs0⟩ := L.ring (fun s z => (bd s z).1) hp hrp
    have low : ∀ m c, c ≤ m → 1 ≤ c → backs st la p (n + c) = backs st la p n → ∃ d, 1 ≤ d ∧ d ≤ c ∧ backs st la p (n + d) = backs st la p n ∧ ∀ e, 1 ≤ e → e < d → backs st la p (n + e) ≠ backs st la p n := by
      intro m
      induction m with
      | zero => intro c h1 h2; omega
      | succ m ih =>
        intro c h1 h2 h3
        by_cases z : ∃ e, 1 ≤ e ∧ e < c ∧ backs st la p (n + e) = backs st la p n
        · obtain ⟨e, e1, e2, e3⟩ := z
          obtain ⟨d, d1, d2, d3, d4⟩ := ih e (by omega) e1 e3
          exact ⟨d, d1, by omega, d3, d4⟩
        · exact ⟨c, h2, Nat.le_refl _, h3, fun e e1 e2 e3 => z ⟨e, e1, e2, e3⟩⟩
    obtain ⟨d, d1, d2, d3, d4⟩ := low c c (Nat.le_refl _) c1 cyc
    exact ⟨d, d1, by omega, d3, d4, hs, lt, hs0⟩
  -- no place twice
  have apart : ∀ a b, a < b → b < c → backs st la p (n + a) ≠ backs st la p (n + b) := fun a b ab bc e => by
    have := backs_add (k := c - b) e
    rw [show n + a + (c - b) = n + (a + (c - b)) by omega, show n + b + (c - b) = n + c by omega, cyc] at this
    exact least (a + (c - b)) (by omega) (by omega) this
  have lsv := als.length
  -- one step back, in the program
  have step : ∀ (k m : Nat), la (backs st la p k) = some m → ∃ s x t2, st[m]? = some s ∧ s.v = backs st la p k ∧ backs st la p (k + 1) = s.u ∧ sv[m]? = some x ∧ x = V.ref t2 ∧ H t2 = some (.tup [nV s.u, nV s.v, .int s.w]) := fun k m e => by
    obtain ⟨s, e1, e2, _⟩ := L.bk _ m e
    obtain ⟨x, ex, t2, rfl, h2⟩ := als.get e1
    refine ⟨s, _, t2, e1, e2, ?_, ex, rfl, h2⟩
    show back st la (backs st la p k) = s.u
    unfold back
    rw [e]
    dsimp only
    rw [e1]
  refine ⟨_, (pss_cons (ps_for PassesOwn.never rfl (pi_range1 (by rfl) T.m_range (pa_cons (pe_callB (call_len_seqK K rfl) (by rfl) T.m_len (by decide +kernel) (pa_cons (pv 1) pa_nil)) pa_nil)) (pg_name (i := 3) sc_ring_behind.nd rfl (Or.inl rfl))
        (pss_one (ps_set (i := 0) sc_ring_behind.nd rfl (Or.inl rfl) (pe_ix (ix_tupK K rfl) (pe_ix (ix_listK K rfl) (pv 2) (pe_ix (ix_listK K rfl) (pv 1) (pv 0) (fun _ _ => rfl)) (fun _ _ => rfl)) pe_int (fun _ _ => rfl)))))
      (pss_cons (ps_set (i := 4) sc_ring_behind.nd rfl (Or.inl rfl) (pe_lst (pa_cons (pe_ix (ix_listK K rfl) (pv 1) (pv 0) (fun _ _ => rfl)) pa_nil)))
      (pss_cons (ps_set (i := 5) sc_ring_behind.nd rfl (Or.inl rfl) (pe_ix (ix_tupK K rfl) (pe_ix (ix_listK K rfl) (pv 2) (pe_ix (ix_listK K rfl) (pv 1) (pv 0) (fun _ _ => rfl)) (fun _ _ => rfl)) pe_int (fun _ _ => rfl)))
      (pss_cons (ps_while PassesOwn.never (pt_cmpR op_ne (pv 5) (pv 0) (nomark _))
        (pss_cons (ps_expr (pe_bmK K rfl PySem.F.plainAttrs_list PySem.F.slot_list_append PySem.F.type_list_append mt_append (pv 4) (pa_cons (pe_ix (ix_listK K rfl) (pv 1) (pv 5) (fun _ _ => rfl)) pa_nil)))
      (pss_one (ps_set (i := 5) sc_ring_behind.nd rfl (Or.inl rfl) (pe_ix (ix_tupK K rfl) (pe_ix (ix_listK K rfl) (pv 2) (pe_ix (ix_listK K rfl) (pv 1) (pv 5) (fun _ _ => rfl)) (fun _ _ => rfl)) pe_int (fun _ _ => rfl))))))
      (pss_one (ps_ret (pe_revLK K rfl (pv 4)))))))), ?_⟩
  refine ⟨_, rfl, lb, _, rfl, .inl (SqL.of hlb), _, rfl, by rw [List.length_map, List.length_range]; omega, by rw [List.length_map, List.length_range]; omega, for_range (lo := 0) (n := (lasL n la).length) (fun k σ H2 => ∃ v3 v4 v5 : Option V, σ = [some (nV (backs st la p k)), some (.ref lb), some (.ref sl), v3, v4, v5] ∧ Same H H2) ⟨none, none, none, rfl, Same.refl _⟩ ?_ ?_⟩
  · rintro k σ H2 hk ⟨v3, v4, v5, rfl, s2⟩
    rw [List.length_map, List.length_range] at hk
    obtain ⟨m, em⟩ := hs0 k hk
    obtain ⟨s, x, t2, e1, e2, e3, ex, rfl, h2⟩ := step k m em
    have al : (lasL n la)[backs st la p k]? = some (nV m) := by rw [rg_at (lt k), em]; rfl
    refine ⟨_, rfl, _, rfl, _, rfl, lb, _, _, _, rfl, rfl, SqL.of (s2 _ _ hlb), atI_nat al, sl, _, _, _, rfl, rfl, SqL.of (s2 _ _ hsl), atI_nat ex, t2, _, _, _, rfl, rfl, SqT.of (s2 _ _ h2), atI_nat (j := 0) rfl, ?_⟩
    exact ⟨_, _, _, by rw [e3]; rfl, s2⟩
  rintro σ H2 ⟨v3, v4, v5, rfl, s2⟩
  have ln : (lasL n la).length = n := by rw [List.length_map, List.length_range]
  rw [ln]
  obtain ⟨m, em⟩ := hs n (Nat.le_refl _)
  obtain ⟨s, x, t2, e1, e2, e3, ex, rfl, h2⟩ := step n m em
  have al : (lasL n la)[backs st la p n]? = some (nV m) := by rw [rg_at (lt n), em]; rfl
  refine ⟨_, rfl, _, rfl, lb, _, _, _, rfl, rfl, SqL.of (s2 _ _ hlb), atI_nat al, (by show 1 ≤ sizeLine; decide), fun rl nrl => ?_⟩
  have s3 := s2.trans (same_new (o := .lst [nV m]) nrl)
  refine ⟨_, rfl, _, rfl, _, rfl, lb, _, _, _, rfl, rfl, SqL.of (s3 _ _ hlb), atI_nat al, sl, _, _, _, rfl, rfl, SqL.of (s3 _ _ hsl), atI_nat ex, t2, _, _, _, rfl, rfl, SqT.of (s3 _ _ h2), atI_nat (j := 0) rfl, ?_⟩
  refine ⟨fun z σ H4 => ∃ (j : Nat) (ks : List Nat), σ = [some (nV (backs st la p n)), some (.ref lb), some (.ref sl), v3, some (.ref rl), some (nV (backs st la p (n + 1 + j)))] ∧ H4 rl = some (.lst (ks.reverse.map nV)) ∧ ks.length = j + 1 ∧ (∀ k ∈ ks, k < st.length) ∧ stepEnd st (backs st la p (n + 1 + j)) ks = some (backs st la p n) ∧ (ks.map (wS st)).sum = needs3 st la p n (j + 1) ∧ ks.map (toS st) = ((List.range (j + 1)).map fun i => backs st la p (n + i)).reverse ∧ j + 1 ≤ c ∧ z = c - (j + 1) ∧ Same H H4,
    ⟨_, 0, [m], ?_, upd_same, rfl, fun k hk => ?_, ?_, ?_, ?_, c1, rfl, s3⟩, ?_⟩
  · rw [show n + 1 + 0 = n + 1 by omega, e3]; rfl
  · obtain rfl : k = m := by simpa using hk
    exact (List.getElem?_eq_some_iff.mp e1).1
  · rw [show n + 1 + 0 = n + 1 by omega, e3, stepEnd_cons e1, if_pos rfl, e2]; rfl
  · show wS st m + 0 = 0 + need st la (backs st la p (n + 0))
    have hw : wS st m = s.w := by unfold wS; rw [e1]
    have hn : need st la (backs st la p n) = s.w := by unfold need; rw [em]; dsimp only; rw [e1]
    rw [show n + 0 = n by omega, hw, hn]
    omega
  · show [toS st m] = [backs st la p (n + 0)]
    rw [toS_some e1, e2]; rfl
  rintro z σ H4 ⟨j, ks, rfl, hrl, lk, kl, se, sm, en, jc, rfl, s4⟩
  refine ⟨_, rfl, _, rfl, rfl, _, rfl, ?_⟩
  by_cases cl : backs st la p (n + 1 + j) = backs st la p n
  · rw [decide_eq_true (show nV (backs st la p (n + 1 + j)) = nV (backs st la p n) by rw [cl])]
    refine if_bl (fun z => nomatch z) (fun _ => ?_)
    refine ⟨_, rfl, rl, _, rfl, SqL.of hrl, fun r2 nr2 => ?_⟩
    refine q r2 ks _ ?_ ⟨fun z => ?_, kl, ⟨backs st la p n, by rw [cl] at se; exact se⟩, ?_, ?_⟩ (by omega) (s4.trans (same_new nr2))
    · rw [upd_same, ← List.map_reverse, List.reverse_reverse]
    · rw [z] at lk; cases lk
    · rw [sm]
      exact L.sum_pos (by omega) (by rw [show n + (j + 1) = n + 1 + j by omega]; exact cl) hs
    · rw [en, List.nodup_iff_pairwise_ne, List.pairwise_reverse, List.pairwise_map]
      have pr : (List.range (j + 1)).Pairwise fun a b => a < b := List.pairwise_lt_range
      refine pr.imp_of_mem fun {a b} ha hb ab e => ?_
      have := List.mem_range.mp hb
      exact apart a b ab (by omega) e.symm
  · rw [decide_eq_false (show ¬ nV (backs st la p (n + 1 + j)) = nV (backs st la p n) from fun y => cl (by have := V.int.inj y; omega))]
    refine if_bl (fun _ => ?_) (fun z => nomatch z)
    have jlt : j + 1 < c := by
      refine Nat.lt_of_le_of_ne jc fun y => cl ?_
      rw [show n + 1 + j = n + (j + 1) by omega, y]
      exact cyc
    refine ⟨_, fun σ' H' h => h, ?_⟩
    obtain ⟨m, em⟩ := hs (n + 1 + j) (by omega)
    obtain ⟨s, x, t2, e1, e2, e3, ex, rfl, h2⟩ := step (n + 1 + j) m em
    have al : (lasL n la)[backs st la p (n + 1 + j)]? = some (nV m) := by rw [rg_at (lt _), em]; rfl
    refine ⟨_, rfl, .inl ⟨rfl, _, SqL.of hrl⟩, _, rfl, _, rfl, lb, _, _, _, rfl, rfl, SqL.of (s4 _ _ hlb), atI_nat al, rl, _, _, rfl, rfl, hrl, by rw [List.length_map, List.length_reverse]; exact small1000 (by omega), ?_⟩
    have rl0 : H rl = none := same_none s2 nrl
    have s5 : Same H (upd H4 rl (.lst (ks.reverse.map nV ++ [nV m]))) := Same.own s4 rl0
    refine ⟨_, rfl, _, rfl, _, rfl, lb, _, _, _, rfl, rfl, SqL.of (s5 _ _ hlb), atI_nat al, sl, _, _, _, rfl, rfl, SqL.of (s5 _ _ hsl), atI_nat ex, t2, _, _, _, rfl, rfl, SqT.of (s5 _ _ h2), atI_nat (j := 0) rfl, ?_⟩
    refine ⟨c - (j + 1 + 1), by omega, j + 1, m :: ks, ?_, ?_, by rw [List.length_cons, lk], fun k hk => ?_, ?_, ?_, ?_, by omega, rfl, s5⟩
    · rw [show n + 1 + (j + 1) = n + 1 + j + 1 by omega, e3]; rfl
    · rw [upd_same, List.reverse_cons, List.map_append]; rfl
    · rcases List.mem_cons.mp hk with rfl | hk
      · exact (List.getElem?_eq_some_iff.mp e1).1
      · exact kl k hk
    · rw [show n + 1 + (j + 1) = n + 1 + j + 1 by omega, e3, stepEnd_cons e1, if_pos rfl, e2]; exact se
    · show wS st m + (ks.map (wS st)).sum = needs3 st la p n (j + 1) + need st la (backs st la p (n + (j + 1)))
      have hw : wS st m = s.w := by unfold wS; rw [e1]
      have hn : need st la (backs st la p (n + 1 + j)) = s.w := by unfold need; rw [em]; dsimp only; rw [e1]
      rw [sm, show n + (j + 1) = n + 1 + j by omega, hw, hn]
      omega
    · show toS st m :: ks.map (toS st) = _
      rw [toS_some e1, e2, en, List.range_succ (n := j + 1), List.map_append, List.reverse_append, show n + 1 + j = n + (j + 1) by omega]
      rfl
def sp_levels_or_ring (K : PySem.W.Frag) : Sp := fun vs H Q _ => ∃ (sl : Addr) (n : Nat) (st : List St3), vs = [nV n, .ref sl] ∧ StepsAt H sl st ∧ (∀ s ∈ st, s.u < n ∧ s.v < n) ∧ st.length ≤ 400 ∧ n ≤ 100 ∧
  (∀ (p ll : Addr) (lv : Nat → Int) (H' : Hp), H' p = some (.tup [.ref ll, .non]) → H' ll = some (.lst (levL n lv)) → (∀ s ∈ st, lv s.u + s.w ≤ lv s.v) → (∀ q, 0 ≤ lv q) → Same H H' → Q (.ref p) H') ∧
  ∀ (p rl : Addr) (ks : List Nat) (H' : Hp), H' p = some (.tup [.non, .ref rl]) → H' rl = some (.lst (ks.map nV)) → RingOk st ks → ks.length ≤ n → Same H H' → Q (.ref p) H'
theorem ok_levels_or_ring {f : Addr} {fd : FuncData} (F : Fun K "levels_or_ring" "levels_or_ring" s_levels_or_ring f fd) (T : Top K mg) : FnOk P w K mg base CX0 2 f fd ["many", "steps"] (sp_levels_or_ring K) := by
  obtain ⟨f_raise_levels, fd_raise_levels, F_raise_levels, b_raise_levels, m_raise_levels⟩ := T.d_raise_levels
  have G_raise_levels := ok_raise_levels (P := P) (w := w) (base := base) F_raise_levels T
  obtain ⟨f_ring_behind, fd_ring_behind, F_ring_behind, b_ring_behind, m_ring_behind⟩ := T.d_ring_behind
  have G_ring_behind := ok_ring_behind (P := P) (w := w) (base := base) F_ring_behind T
  refine F.ok sc_levels_or_ring (fun vs H Q E h => ?_) (fun cdv A outer s H vs Q E hr h => ?_)
  · obtain ⟨sl, n, st, rfl, _⟩ := h
    rfl
  obtain ⟨sl, n, st, rfl, ⟨sv, hsl, als⟩, bd, few, n100, q1, q2⟩ := h
  let R1 : TS := fun D' σ' H' => D'.rt = Q ∧ ∃ (ll lb : Addr) (lv : Nat → Int) (la : Nat → Option Nat) (r t : Nat → Nat) (now : Nat) (v : Option Nat) (v5 : Option V), σ' = [some (nV n), some (.ref sl), some (.ref ll), some (.ref lb), some (oV v), v5] ∧ H' ll = some (.lst (levL n lv)) ∧ H' lb = some (.lst (lasL n la)) ∧ Same H H' ∧ (∀ p, 0 ≤ lv p) ∧ (v = none → ∀ s ∈ st, lv s.u + s.w ≤ lv s.v) ∧ ∀ x, v = some x → x < n ∧ r x = n ∧ Lv st n st.length lv la r t now
  refine ⟨_, (pss_cons (ps_set (i := 2) sc_levels_or_ring.nd rfl (Or.inl rfl) (pe_op op_rep (pe_lst (pa_cons pe_int pa_nil)) (pv 0)))
      (pss_cons (ps_set (i := 3) sc_levels_or_ring.nd rfl (Or.inl rfl) (pe_op op_rep (pe_lst (pa_cons pe_non pa_nil)) (pv 0)))
      (pss_cons (ps_set (i := 4) sc_levels_or_ring.nd rfl (Or.inl rfl) pe_non)
      (pss_cons (ps_for PassesOwn.never rfl (pi_range1 (by rfl) T.m_range (pa_cons (pv 0) pa_nil)) (pg_name (i := 5) sc_levels_or_ring.nd rfl (Or.inl rfl))
        (pss_cons (ps_set (i := 4) sc_levels_or_ring.nd rfl (Or.inl rfl) (pe_call G_raise_levels (hr.mono (by decide)) (by rfl) m_raise_levels F_raise_levels.kp b_raise_levels .nil pass0 (pa_cons (pv 2) (pa_cons (pv 3) (pa_cons (pv 1) pa_nil)))))
      (pss_one (ps_if (pt_cmpR op_isN (pv 4) pe_non (nomark _)) (pss_one ps_break) pss_nil))))
      (PSs.to (pss_cons (ps_if (pt_cmpR op_isN (pv 4) pe_non (nomark _)) (pss_one (ps_ret (pe_tup (pa_cons (pv 2) (pa_cons pe_non pa_nil))))) pss_nil)
      (pss_one (ps_ret (pe_tup (pa_cons pe_non (pa_cons (pe_call G_ring_behind (hr.mono (by decide)) (by rfl) m_ring_behind F_ring_behind.kp b_ring_behind .nil pass0 (pa_cons (pv 4) (pa_cons (pv 3) (pa_cons (pv 1) pa_nil)))) pa_nil)))))) R1 ?tail1))))), ?_⟩
  case tail1 =>
    rintro D' σ' H1 ⟨eD, ll, lb, lv, la, r, t, now, v, v5, rfl, hll, hlb, s1, nn, f1, f2⟩
    cases v with
    | none =>
      refine ⟨_, rfl, rfl, _, rfl, if_bl (fun _ => ?_) (fun z => absurd rfl (of_decide_eq_false z))⟩
      refine ⟨_, rfl, (by show 2 ≤ sizeLine; decide), fun p np => ?_⟩
      rw [eD]
      exact q1 p ll lv _ upd_same (same_new np _ _ hll) (f1 rfl) nn (s1.trans (same_new np))
    | some x =>
      obtain ⟨xl, rx, L⟩ := f2 x rfl
      refine ⟨_, rfl, rfl, _, rfl, if_bl (fun z => absurd (of_decide_eq_true z) (fun y => nomatch y)) (fun _ => ?_)⟩
      refine ⟨_, rfl, _, rfl, _, rfl, lb, sl, n, x, st, lv, la, r, t, now, rfl, hlb, ⟨sv, s1 _ _ hsl, als.imp fun _ _ z => z.keep (TK.same s1)⟩, bd, few, n100, L, xl, rx, fun pr ks H2 hpr ring lk s2 => ⟨(by show 2 ≤ sizeLine; decide), fun p np => ?_⟩⟩
      rw [eD]
      exact q2 p pr ks _ upd_same (same_new np _ _ hpr) ring lk ((s1.trans s2).trans (same_new np))
  refine ⟨(by show 1 ≤ sizeLine; decide), fun z1 nz1 => ⟨_, rfl, z1, ((n : Nat) : Int), _, rfl, rfl, upd_same, by omega, by omega, (by show 1 * ((n : Nat) : Int).toNat ≤ sizeLine; exact little (by omega)), fun ll nll => ?_⟩⟩
  have eL : (List.replicate ((n : Nat) : Int).toNat [V.int 0]).flatten = levL n (fun _ => 0) := by
    rw [flat_rep, Int.toNat_natCast]
    exact (List.map_const' .. ▸ by rw [List.length_range] : List.replicate n (V.int 0) = (List.range n).map fun _ => V.int 0)
  rw [eL]
  refine ⟨(by show 1 ≤ sizeLine; decide), fun z2 nz2 => ⟨_, rfl, z2, ((n : Nat) : Int), _, rfl, rfl, upd_same, by omega, by omega, (by show 1 * ((n : Nat) : Int).toNat ≤ sizeLine; exact little (by omega)), fun lb nlb => ?_⟩⟩
  have eB : (List.replicate ((n : Nat) : Int).toNat [V.non]).flatten = lasL n (fun _ => none) := by
    rw [flat_rep, Int.toNat_natCast]
    exact (List.map_const' .. ▸ by rw [List.length_range] : List.replicate n V.non = (List.range n).map fun _ => V.non)
  rw [eB]
  have sA := ((same_new (o := .lst [V.int 0]) nz1).trans (same_new (o := .lst (levL n (fun _ => 0))) nll))
  have s0 : Same H _ := (sA.trans (same_new (o := .lst [V.non]) nz2)).trans (same_new (o := .lst (lasL n (fun _ => none))) nlb)
  have ll0 : H ll = none := same_none (same_new nz1) nll
  have lb0 : H lb = none := same_none (sA.trans (same_new nz2)) nlb
  have hll0 := same_new (o := .lst (lasL n (fun _ => none))) nlb _ _ (same_new (o := .lst [V.non]) nz2 _ _ (upd_same (H := upd H z1 (.lst [V.int 0])) (a := ll) (o := .lst (levL n (fun _ => 0)))))
  have llb : ll ≠ lb := ne_of_none (same_new (o := .lst [V.non]) nz2 _ _ (upd_same (H := upd H z1 (.lst [V.int 0])) (a := ll) (o := .lst (levL n (fun _ => 0))))) nlb
  have sll : sl ≠ ll := ne_of_none hsl ll0
  have slb : sl ≠ lb := ne_of_none hsl lb0
  refine ⟨_, rfl, _, rfl, by omega, by omega, for_range (lo := 0) (n := ((n : Nat) : Int).toNat) (fun i σ H2 => ∃ (lv : Nat → Int) (la : Nat → Option Nat) (r t : Nat → Nat) (now : Nat) (v : Option Nat) (v5 : Option V), σ = [some (nV n), some (.ref sl), some (.ref ll), some (.ref lb), some (oV v), v5] ∧ H2 ll = some (.lst (levL n lv)) ∧ H2 lb = some (.lst (lasL n la)) ∧ Same H H2 ∧ (∀ p, 0 ≤ lv p) ∧ Lv st (i + 1) 0 lv la r t now ∧ (∀ p, r p < i + 1) ∧ ((i = 0 ∧ v = none) ∨ ∃ x, v = some x ∧ x < n ∧ r x = i ∧ Lv st i st.length lv la r t now))
    ⟨fun _ => 0, fun _ => none, fun _ => 0, fun _ => 0, 0, none, none, rfl, hll0, upd_same, s0, (fun _ => Int.le_refl _), Lv.start, (fun _ => Nat.zero_lt_one), .inl ⟨rfl, rfl⟩⟩ ?_ ?_⟩
  · rintro i σ H2 hi ⟨lv, la, r, t, now, v, v5, rfl, hll, hlb, s, nn, L, rl, _⟩
    have hsl2 := s _ _ hsl
    refine ⟨_, rfl, _, rfl, _, rfl, ll, lb, sl, n, i + 1, st, lv, la, r, t, now, rfl, hll, hlb, ⟨sv, hsl2, als.imp fun _ _ z => z.keep (TK.same s)⟩, llb, sll, slb, bd, few, L, rl, fun lv' la' r' t' now' v' H3 h1 h2 L' f1 f2 f3 fr => ?_⟩
    have s3 : Same H H3 := fun b o e => fr b o (s _ _ e) (ne_of_none e ll0) (ne_of_none e lb0)
    have nn' : ∀ p, 0 ≤ lv' p := fun p => Int.le_trans (nn p) (f3 p)
    cases v' with
    | none =>
      refine ⟨_, rfl, rfl, _, rfl, if_bl (fun _ => ?_) (fun z => absurd rfl (of_decide_eq_false z))⟩
      exact ⟨rfl, ll, lb, lv', la', r', t', now', none, _, rfl, h1, h2, s3, nn', (fun _ => L'.feas (f1 rfl)), (fun _ z => nomatch z)⟩
    | some x =>
      obtain ⟨xl, rx⟩ := f2 x rfl
      refine ⟨_, rfl, rfl, _, rfl, if_bl (fun z => absurd (of_decide_eq_true z) (fun y => nomatch y)) (fun _ => ?_)⟩
      exact ⟨lv', la', r', t', now', some x, _, rfl, h1, h2, s3, nn', L'.next, fun p => Nat.lt_succ_of_le (L'.rl p), .inr ⟨x, rfl, xl, rx, L'⟩⟩
  · rintro σ H2 ⟨lv, la, r, t, now, v, v5, rfl, hll, hlb, s, nn, L, rl, fl⟩
    rw [Int.toNat_natCast] at fl
    rcases fl with ⟨z, rfl⟩ | ⟨x, rfl, xl, rx, L'⟩
    · exact ⟨rfl, ll, lb, lv, la, r, t, now, none, _, rfl, hll, hlb, s, nn, (fun _ s hs => absurd (bd s hs).1 (by omega)), (fun _ z => nomatch z)⟩
    · exact ⟨rfl, ll, lb, lv, la, r, t, now, some x, _, rfl, hll, hlb, s, nn, (fun z => nomatch z), fun y z => by cases z; exact ⟨xl, rx, L'⟩⟩
end
def CoAt (H : Hp) (v : V) (c : Co) : Prop := ∃ t : Addr, v = .ref t ∧ H t = some (.tup [.int c.1, .int (-c.2)])
def DC (H : Hp) (kvs : List (Key × V)) (cf : Nat → Option Co) : Prop := (∀ k : Nat, (cf k = none ∧ valV kvs (kN k) = none) ∨ ∃ c v, cf k = some c ∧ valV kvs (kN k) = some v ∧ CoAt H v c) ∧ ∃ ks : List Nat, kvs.map Prod.fst = ks.map kN ∧ ks.Nodup
theorem DC.keep {H H' : Hp} {kvs : List (Key × V)} {cf : Nat → Option Co} (d : DC H kvs cf) (s : TK H H') : DC H' kvs cf := ⟨fun k => by
  rcases d.1 k with h | ⟨c, v, h1, h2, t, h3, h4⟩
  · exact .inl h
  · exact .inr ⟨c, v, h1, h2, t, h3, s _ _ h4⟩, d.2⟩
theorem keys_put {kvs : List (Key × V)} {k : Nat} {v : V} (h : ∃ ks : List Nat, kvs.map Prod.fst = ks.map kN ∧ ks.Nodup) : ∃ ks : List Nat, (putK kvs (kN k) v).map Prod.fst = ks.map kN ∧ ks.Nodup := by
  obtain ⟨ks, e, nd⟩ := h
  unfold putK
  by_cases a : (kvs.any fun kv => decide (kv.1 = kN k)) = true
  · rw [if_pos a]
    refine ⟨ks, ?_, nd⟩
    rw [List.map_map, ← e]
    refine List.map_congr_left fun kv _ => ?_
    show (if kv.1 = kN k then (kv.1, v) else kv).1 = kv.1
    split <;> rfl
  · rw [if_neg a]
    refine ⟨ks ++ [k], by rw [List.map_append, List.map_append, e]; rfl, ?_⟩
    rw [List.nodup_append]
    refine ⟨nd, by simp, fun x hx y hy z => ?_⟩
    obtain rfl : y = k := by simpa using hy
    subst z
    have : kN x ∈ kvs.map Prod.fst := by rw [e]; exact List.mem_map.mpr ⟨x, hx, rfl⟩
    obtain ⟨kv, h1, h2⟩ := List.mem_map.mp this
    exact a (List.any_eq_true.mpr ⟨kv, h1, decide_eq_true h2⟩)
theorem DC.put {H : Hp} {kvs : List (Key × V)} {cf : Nat → Option Co} (d : DC H kvs cf) {k : Nat} {v : V} {c : Co} (h : CoAt H v c) : DC H (putK kvs (kN k) v) (fun j => if j = k then some c else cf j) := ⟨fun j => by
  rw [valV_put]
  show ((if j = k then some c else cf j) = none ∧ _) ∨ ∃ c' v', (if j = k then some c else cf j) = some c' ∧ _
  by_cases e : j = k
  · rw [if_pos e, if_pos (show kN j = kN k by rw [e])]
    exact .inr ⟨c, v, rfl, rfl, h⟩
  · rw [if_neg e, if_neg (show ¬ kN j = kN k from fun z => e (kN_inj z))]
    exact d.1 j, keys_put d.2⟩
theorem DL.put {lvs : List (Key × V)} {la : Nat → Option Nat} (d : ∀ k, valV lvs (kN k) = (la k).map nV) (k n : Nat) : ∀ j, valV (putK lvs (kN k) (nV n)) (kN j) = ((fun j => if j = k then some n else la j) j).map nV := fun j => by
  rw [valV_put]
  by_cases e : j = k
  · rw [if_pos (by rw [e])]
    show _ = Option.map nV (if j = k then some n else la j)
    rw [if_pos e]; rfl
  · rw [if_neg (fun z => e (kN_inj z))]
    show _ = Option.map nV (if j = k then some n else la j)
    rw [if_neg e]; exact d j
theorem putK_le (c : List (Key × V)) (k : Key) (x : V) : (putK c k x).length ≤ c.length + 1 := by
  unfold putK
  split
  · rw [List.length_map]; omega
  · rw [List.length_append]; exact Nat.le_refl _
theorem lex_co (c d : Co) : HT.lexLt [c.1, -c.2] [d.1, -d.2] = decide (coLt c d) := by
  rw [HT.lexLt_cons, HT.lexLt_cons, HT.lexLt_nil_nil]
  unfold coLt
  by_cases e : c.1 = d.1
  · rw [if_pos e]
    by_cases e2 : -c.2 = -d.2
    · rw [if_pos e2]
      exact (decide_eq_false (by omega)).symm
    · rw [if_neg e2]
      by_cases e3 : -c.2 < -d.2
      · rw [decide_eq_true e3]; exact (decide_eq_true (by omega)).symm
      · rw [decide_eq_false e3]; exact (decide_eq_false (by omega)).symm
  · rw [if_neg e]
    by_cases e3 : c.1 < d.1
    · rw [decide_eq_true e3]; exact (decide_eq_true (by omega)).symm
    · rw [decide_eq_false e3]; exact (decide_eq_false (by omega)).symm
theorem LaOk.put {hs : List HR} {bs : List BR} {rk : Nat → Int} {one : Nat} {cf : Nat → Option Co} {la : Nat → Option Nat} (L : LaOk hs bs one cf la) (hrk : ∀ b ∈ bs, b.th = [] → rk b.one < rk b.to) (s : Snd hs bs one cf) (h1 : cf one = some (0, momH hs one)) {j : Nat} {b : BR} {c : Co} (eb : bs[j]? = some b) (h : cf b.one = some c) (l : ∀ d, cf b.to = some d → coLt (coAdd hs c b) d) :
    LaOk hs bs one (fun k => if k = b.to then some (coAdd hs c b) else cf k) (fun k => if k = b.to then some j else la k) ∧ b.to ≠ one := by
  have hb := List.mem_of_getElem? eb
  have ne1 : b.to ≠ one := fun z => cf_one hrk s h1 hb h z (l _ (by rw [z]; exact h1))
  have ne2 : b.one ≠ b.to := fun z => by
    have := l c (by rw [← z]; exact h)
    unfold coLt coAdd at this
    dsimp only at this
    by_cases y : b.th = []
    · have := hrk b hb y
      rw [z] at this
      omega
    · have : 0 < b.th.length := List.length_pos_iff.mpr y
      omega
  have newc : ∀ k c2, cf k = some c2 → ∃ c3, (fun k => if k = b.to then some (coAdd hs c b) else cf k) k = some c3 ∧ coLe c3 c2 := fun k c2 e => by
    by_cases z : k = b.to
    · exact ⟨_, if_pos z, (l c2 (z ▸ e)).le⟩
    · exact ⟨c2, (if_neg z).trans e, coLe.refl _⟩
  refine ⟨⟨fun k n e => ?_, ?_, fun k d e => ?_⟩, ne1⟩
  · by_cases z : k = b.to
    · have e : some j = some n := by rw [← e]; exact (if_pos z).symm
      cases e
      exact ⟨b, c, coAdd hs c b, eb, z.symm, (if_neg ne2).trans h, if_pos z, coLe.refl _⟩
    · have e : la k = some n := by rw [← e]; exact (if_neg z).symm
      obtain ⟨b2, c2, d2, g1, g2, g3, g4, g5⟩ := L.go k n e
      obtain ⟨c3, g6, g7⟩ := newc _ _ g3
      exact ⟨b2, c3, d2, g1, g2, g6, (if_neg z).trans g4, (coAdd_mono g7).trans g5⟩
  · exact (if_neg ne1.symm).trans L.fst
  · by_cases z : k = b.to
    · exact .inr (by show (if k = b.to then some j else la k).isSome = true; rw [if_pos z]; rfl)
    · have e : cf k = some d := by rw [← e]; exact (if_neg z).symm
      rcases L.has k d e with y | y
      · exact .inl y
      · exact .inr (by show (if k = b.to then some j else la k).isSome = true; rw [if_neg z]; exact y)
theorem TK.dic {H : Hp} {p : Addr} {kvs lvs : List (Key × V)} (h : H p = some (.dK kvs)) : TK H (upd H p (.dK lvs)) := fun x zs e => by
  rw [upd_ne (ne_of e h (fun z => nomatch z))]
  exact e
section
variable {P : Program} {w : World} {K : PySem.W.Frag} {mg : Str → Option Value} {base : Heap}
def sp_least_costs (K : PySem.W.Frag) : Sp := fun vs H Q _ => ∃ (r : Addr) (hs : List HR) (bs : List BR) (one : Nat), vs = [.ref r, nV one] ∧ RoomAt H r hs bs ∧ RoomOk hs bs ∧ one < hs.length ∧
  ∀ (p cd ld : Addr) (kvs lvs : List (Key × V)) (la : Nat → Option Nat) (H' : Hp), H' p = some (.tup [.ref cd, .ref ld]) → cd ≠ ld → H' cd = some (.dK kvs) → DC H' kvs (best hs bs one) → H' ld = some (.dK lvs) → (∀ k, valV lvs (kN k) = (la k).map nV) → LaOk hs bs one (best hs bs one) la → Same H H' → Q (.ref p) H'
theorem ok_least_costs {f : Addr} {fd : FuncData} (F : Fun K "least_costs" "least_costs" s_least_costs f fd) (T : Top K mg) : FnOk P w K mg base CX0 1 f fd ["room", "one"] (sp_least_costs K) := by
  refine F.ok sc_least_costs (fun vs H Q E h => ?_) (fun cdv A outer s H vs Q E hr h => ?_)
  · obtain ⟨r, hs, bs, one, rfl, _⟩ := h
    rfl
  obtain ⟨r, hs, bs, one, rfl, hR, ok, ho, q⟩ := h
  obtain ⟨ha, ba, hv, bv, er, eh, eb, alh, alb⟩ := hR.ex
  have lhv := alh.length
  have lbv := alb.length
  have lh := ok.hands
  have lb := ok.many
  obtain ⟨rk, hrk⟩ := ok.rank
  have hto : ∀ b ∈ bs, b.to < hs.length := fun b hb => (ok.ends b hb).2
  have ehk : hs[one]? = some hs[one] := List.getElem?_eq_getElem ho
  have mom1 : momH hs one = hs[one].mom := by unfold momH; rw [ehk]
  obtain ⟨x0, ex0, ⟨t0, r0, rfl, e01, e02⟩⟩ := alh.get ehk
  refine ⟨_, (pss_cons (ps_asg (pv 0) (pg_tupK K rfl rfl (pgs_cons (pg_name (i := 2) sc_least_costs.nd rfl (Or.inl rfl)) (pgs_cons (pg_name (i := 3) sc_least_costs.nd rfl (Or.inl rfl)) pgs_nil))))
      (pss_cons (ps_set (i := 4) sc_least_costs.nd rfl (Or.inl rfl) (pe_disp (pps_cons (pv 1) (pe_tup (pa_cons pe_int (pa_cons (pe_un un_neg (pe_ix (ix_tupK K rfl) (pe_ix (ix_tupK K rfl) (pv 2) (pv 1) (fun _ _ => rfl)) pe_int (fun _ _ => rfl))) pa_nil))) pps_nil) (by rfl) (by rfl) (fun z => by cases z) (by decide)))
      (pss_cons (ps_set (i := 5) sc_least_costs.nd rfl (Or.inl rfl) pe_dnewK)
      (pss_cons (ps_set (i := 6) sc_least_costs.nd rfl (Or.inl rfl) pe_bl)
      (pss_cons (ps_while PassesOwn.never (pt_val (pv 6))
        (pss_cons (ps_set (i := 6) sc_least_costs.nd rfl (Or.inl rfl) pe_bl)
      (pss_one (ps_for PassesOwn.never rfl (pi_enumT K rfl (by rfl) T.m_enumerate (pa_cons (pv 3) pa_nil)) (pg_tupK K rfl rfl (pgs_cons (pg_name (i := 7) sc_least_costs.nd rfl (Or.inl rfl)) (pgs_cons (pg_tupK K rfl rfl (pgs_cons (pg_name (i := 8) sc_least_costs.nd rfl (Or.inl rfl)) (pgs_cons (pg_name (i := 9) sc_least_costs.nd rfl (Or.inl rfl)) (pgs_cons (pg_name (i := 10) sc_least_costs.nd rfl (Or.inl rfl)) pgs_nil)))) pgs_nil)))
        (pss_one (ps_if (pt_cmp (pc_din (hu_of hr) (pv 8) (pv 4)) (by with_unfolding_all rfl)) (pss_cons (ps_asg (pe_dget (hu_of hr) (pv 4) (pv 8) (fun _ _ => rfl)) (pg_tupK K rfl rfl (pgs_cons (pg_name (i := 11) sc_least_costs.nd rfl (Or.inl rfl)) (pgs_cons (pg_name (i := 12) sc_least_costs.nd rfl (Or.inl rfl)) pgs_nil))))
      (pss_cons (ps_set (i := 13) sc_least_costs.nd rfl (Or.inl rfl) (pe_tup (pa_cons (pe_op op_add (pv 11) (pe_callB (call_len_seqK K rfl) (by rfl) T.m_len (by decide +kernel) (pa_cons (pv 10) pa_nil))) (pa_cons (pe_op op_sub (pv 12) (pe_ix (ix_tupK K rfl) (pe_ix (ix_tupK K rfl) (pv 2) (pv 9) (fun _ _ => rfl)) pe_int (fun _ _ => rfl))) pa_nil))))
      (pss_one (ps_if (PW.pt (pw_or (pt_cmp (pc_dnotin (hu_of hr) (pv 9) (pv 4)) (by with_unfolding_all rfl)) (pw_or1 (pt_cmpR (op_ltTK K rfl (Nat.lt_of_succ_lt (hu_of hr))) (pv 13) (pe_dget (hu_of hr) (pv 4) (pv 9) (fun _ _ => rfl)) (nomark _))))) (pss_cons (ps_dput (hu_of hr) (pv 4) (pv 9) (pv 13) (by rfl))
      (pss_cons (ps_dput (hu_of hr) (pv 5) (pv 9) (pv 7) (by rfl))
      (pss_one (ps_set (i := 6) sc_least_costs.nd rfl (Or.inl rfl) pe_bl)))) pss_nil)))) pss_nil))))))
      (pss_one (ps_ret (pe_tup (pa_cons (pv 4) (pa_cons (pv 5) pa_nil)))))))))), ?_⟩
  refine ⟨_, rfl, r, _, rfl, SqT.of er, rfl, _, _, rfl, _, _, rfl, rfl, ?_⟩
  refine fun cd ncd => ?_
  have s1 := same_new (o := .dK []) ncd
  refine ⟨_, rfl, _, rfl, _, rfl, ha, _, _, _, rfl, rfl, SqT.of (s1 _ _ eh), atI_nat ex0, t0, _, _, _, rfl, rfl, SqT.of (s1 _ _ e01), atI_nat (j := 1) rfl, _, rfl, (by show 2 ≤ sizeLine; decide), fun t nt => ?_⟩
  have hcd1 := same_new (o := .tup [V.int 0, V.int (-hs[one].mom)]) nt _ _ (upd_same (H := H) (a := cd) (o := .dK []))
  refine ⟨hcd1, [(kN one, V.ref t)], rfl, (by show 1 ≤ 15; decide), ?_⟩
  have k1 := TK.dic (lvs := mergeK [] [(kN one, V.ref t)]) hcd1
  have ht : upd (upd (upd H cd (.dK [])) t (.tup [V.int 0, V.int (-hs[one].mom)])) cd (.dK (mergeK [] [(kN one, V.ref t)])) t = some (.tup [V.int 0, V.int (-hs[one].mom)]) := k1 _ _ upd_same
  have s2 : Same H (upd (upd (upd H cd (.dK [])) t (.tup [V.int 0, V.int (-hs[one].mom)])) cd (.dK (mergeK [] [(kN one, V.ref t)]))) := Same.own (s1.trans (same_new nt)) ncd
  refine fun ld nld => ?_
  have s3 := s2.trans (same_new (o := .dK []) nld)
  have cdld : cd ≠ ld := fun z => by rw [← z, upd_same] at nld; cases nld
  have ld0 : H ld = none := same_none s2 nld
  have L0 : LaOk hs bs one (cfI hs bs one 0) (fun _ => none) := ⟨(fun _ _ z => nomatch z), rfl, fun k c e => by
    by_cases z : k = one
    · exact .inl z
    · have e : none = some c := by rw [← e]; exact (if_neg z).symm
      cases e⟩
  have D0 : DC (upd (upd (upd (upd H cd (.dK [])) t (.tup [V.int 0, V.int (-hs[one].mom)])) cd (.dK (mergeK [] [(kN one, V.ref t)]))) ld (.dK [])) (mergeK [] [(kN one, V.ref t)]) (cfI hs bs one 0) := by
    have : DC (upd (upd (upd (upd H cd (.dK [])) t (.tup [V.int 0, V.int (-hs[one].mom)])) cd (.dK (mergeK [] [(kN one, V.ref t)]))) ld (.dK [])) [] (fun _ => none) := ⟨fun k => .inl ⟨rfl, rfl⟩, [], rfl, List.nodup_nil⟩
    exact this.put (k := one) (v := V.ref t) (c := (0, momH hs one)) ⟨t, rfl, by rw [mom1]; exact same_new nld _ _ ht⟩
  refine ⟨fun m σ H2 => ∃ (i : Nat) (ch : Bool) (kvs lvs : List (Key × V)) (la : Nat → Option Nat) (v7 v8 v9 v10 v11 v12 v13 : Option V), σ = [some (.ref r), some (nV one), some (.ref ha), some (.ref ba), some (.ref cd), some (.ref ld), some (.bl ch), v7, v8, v9, v10, v11, v12, v13] ∧ H2 cd = some (.dK kvs) ∧ DC H2 kvs (cfI hs bs one i) ∧ kvs.length ≤ 1 + 20 * i ∧ H2 ld = some (.dK lvs) ∧ lvs.length ≤ 20 * i ∧ (∀ k, valV lvs (kN k) = (la k).map nV) ∧ LaOk hs bs one (cfI hs bs one i) la ∧ cfI hs bs one i one = some (0, momH hs one) ∧ Same H H2 ∧ ((ch = true ∧ i ≤ hs.length ∧ m = hs.length + 1 - i) ∨ (ch = false ∧ Stab hs bs (cfI hs bs one i) ∧ m = 0)),
    ⟨_, 0, true, _, _, fun _ => none, _, _, _, _, _, _, _, rfl, same_new nld _ _ upd_same, D0, (by show 1 ≤ 1; decide), upd_same, (by show 0 ≤ 0; decide), (fun _ => rfl), L0, if_pos rfl, s3, .inl ⟨rfl, Nat.zero_le _, rfl⟩⟩, ?_⟩
  rintro m σ H2 ⟨i, ch, kvs, lvs, la, v7, v8, v9, v10, v11, v12, v13, rfl, hcd, dc, lk, hld, ll, dl, L, c1, s, flag⟩
  refine ⟨_, rfl, _, rfl, ?_⟩
  rcases flag with ⟨rfl, hi, rfl⟩ | ⟨rfl, st, rfl⟩
  · refine if_bl (fun _ => ?_) (fun z => nomatch z)
    refine ⟨_, fun σ' H' h => h, ?_⟩
    refine ⟨_, rfl, ba, bv, rfl, SqT.of (s _ _ eb), for_it (J := IteT K ba bv) (n := bv.length) (fun j σ H3 => ∃ (ch : Bool) (kvs lvs : List (Key × V)) (la : Nat → Option Nat) (v7 v8 v9 v10 v11 v12 v13 : Option V), σ = [some (.ref r), some (nV one), some (.ref ha), some (.ref ba), some (.ref cd), some (.ref ld), some (.bl ch), v7, v8, v9, v10, v11, v12, v13] ∧ H3 cd = some (.dK kvs) ∧ DC H3 kvs ((bs.take j).foldl (relax hs) (cfI hs bs one i)) ∧ kvs.length ≤ 1 + 20 * i + j ∧ H3 ld = some (.dK lvs) ∧ lvs.length ≤ 20 * i + j ∧ (∀ k, valV lvs (kN k) = (la k).map nV) ∧ LaOk hs bs one ((bs.take j).foldl (relax hs) (cfI hs bs one i)) la ∧ (bs.take j).foldl (relax hs) (cfI hs bs one i) one = some (0, momH hs one) ∧ Same H H3 ∧ (ch = false → (bs.take j).foldl (relax hs) (cfI hs bs one i) = cfI hs bs one i ∧ ∀ b ∈ bs.take j, ∀ c, cfI hs bs one i b.one = some c → ∃ d, cfI hs bs one i b.to = some d ∧ coLe d (coAdd hs c b)) ∧ (ch = true → ¬ Stab hs bs (cfI hs bs one i)))
      ⟨false, kvs, lvs, la, _, _, _, _, _, _, _, rfl, hcd, dc, by omega, hld, by omega, dl, L, c1, s, (fun _ => ⟨rfl, (fun _ z => nomatch z)⟩), (fun z => nomatch z)⟩ ?_ ?_ ?_ ?_⟩
    · rintro j σ H3 hj ⟨ch, kvs, lvs, la, v7, v8, v9, v10, v11, v12, v13, rfl, hcd, dc, lk, hld, ll, dl, L, c1, s, f1, f2⟩
      exact ⟨SqT.of (s _ _ eb), hj⟩
    · rintro σ H3 ⟨ch, kvs, lvs, la, v7, v8, v9, v10, v11, v12, v13, rfl, hcd, dc, lk, hld, ll, dl, L, c1, s, f1, f2⟩
      exact ⟨SqT.of (s _ _ eb), rfl⟩
    · rintro j x σ H3 H4 hj ⟨ch, kvs, lvs, la, v7, v8, v9, v10, v11, v12, v13, rfl, hcd, dc, lk, hld, ll, dl, L, c1, s, f1, f2⟩ ⟨tt, y, rfl, ntt, rfl, ey⟩
      obtain ⟨b, ebj, ⟨t2, g, rfl, e1, e2⟩⟩ := alb.getL ey
      have hb := List.mem_of_getElem? ebj
      have nx : (bs.take (j + 1)).foldl (relax hs) (cfI hs bs one i) = relax hs ((bs.take j).foldl (relax hs) (cfI hs bs one i)) b := by
        rw [List.take_add_one, ebj, List.foldl_append]; rfl
      have sound : Snd hs bs one ((bs.take j).foldl (relax hs) (cfI hs bs one i)) := Snd.fold (fun _ h => List.mem_of_mem_take h) (cfI_snd i)
      obtain ⟨cf, ecf⟩ : ∃ cf, cf = (bs.take j).foldl (relax hs) (cfI hs bs one i) := ⟨_, rfl⟩
      rw [← ecf] at dc L c1 f1 nx sound
      have s4 := s.trans (same_new (o := .tup [V.int ((j : Nat) : Int), V.ref t2]) ntt)
      have hcd4 := same_new (o := .tup [V.int ((j : Nat) : Int), V.ref t2]) ntt _ _ hcd
      have hld4 := same_new (o := .tup [V.int ((j : Nat) : Int), V.ref t2]) ntt _ _ hld
      have dc4 := dc.keep (TK.new (o := .tup [V.int ((j : Nat) : Int), V.ref t2]) ntt)
      refine ⟨tt, _, rfl, SqT.of upd_same, rfl, _, _, rfl, _, _, rfl, t2, _, rfl, SqT.of (s4 _ _ e1), rfl, _, _, rfl, _, _, rfl, _, _, rfl, rfl, rfl, ?_⟩
      -- nothing changes
      have idle : ∀ (v11 v12 v13 : Option V) (H5 : Hp), relax hs cf b = cf → (∀ c, cf b.one = some c → ∃ d, cf b.to = some d ∧ coLe d (coAdd hs c b)) → Same (upd H3 tt (.tup [V.int ((j : Nat) : Int), V.ref t2])) H5 → ∃ (ch' : Bool) (kvs' lvs' : List (Key × V)) (la' : Nat → Option Nat) (w7 w8 w9 w10 w11 w12 w13 : Option V), [some (.ref r), some (nV one), some (.ref ha), some (.ref ba), some (.ref cd), some (.ref ld), some (.bl ch), some (V.int ((j : Nat) : Int)), some (nV b.one), some (nV b.to), some (.ref g), v11, v12, v13] = [some (.ref r), some (nV one), some (.ref ha), some (.ref ba), some (.ref cd), some (.ref ld), some (.bl ch'), w7, w8, w9, w10, w11, w12, w13] ∧ H5 cd = some (.dK kvs') ∧ DC H5 kvs' ((bs.take (j + 1)).foldl (relax hs) (cfI hs bs one i)) ∧ kvs'.length ≤ 1 + 20 * i + (j + 1) ∧ H5 ld = some (.dK lvs') ∧ lvs'.length ≤ 20 * i + (j + 1) ∧ (∀ k, valV lvs' (kN k) = (la' k).map nV) ∧ LaOk hs bs one ((bs.take (j + 1)).foldl (relax hs) (cfI hs bs one i)) la' ∧ (bs.take (j + 1)).foldl (relax hs) (cfI hs bs one i) one = some (0, momH hs one) ∧ Same H H5 ∧ (ch' = false → (bs.take (j + 1)).foldl (relax hs) (cfI hs bs one i) = cfI hs bs one i ∧ ∀ b ∈ bs.take (j + 1), ∀ c, cfI hs bs one i b.one = some c → ∃ d, cfI hs bs one i b.to = some d ∧ coLe d (coAdd hs c b)) ∧ (ch' = true → ¬ Stab hs bs (cfI hs bs one i)) := fun v11 v12 v13 H5 er1 er2 s5 => by
        rw [er1] at nx
        rw [nx]
        refine ⟨ch, kvs, lvs, la, _, _, _, _, _, _, _, rfl, s5 _ _ hcd4, dc4.keep (TK.same s5), by omega, s5 _ _ hld4, by omega, dl, L, c1, s4.trans s5, fun z => ?_, f2⟩
        obtain ⟨g1, g2⟩ := f1 z
        refine ⟨g1, fun b' hb' => ?_⟩
        rw [List.take_add_one, ebj] at hb'
        rcases List.mem_append.mp hb' with hb' | hb'
        · exact g2 b' hb'
        · obtain rfl : b' = b := by simpa using hb'
          rw [← g1]
          exact er2
      rcases dc4.1 b.one with ⟨d1, d2⟩ | ⟨c, v, d1, d2, tc, rfl, htc⟩
      · refine ⟨_, rfl, _, rfl, cd, _, rfl, dget_of hcd4 d2, _, rfl, if_bl (fun z => nomatch z) (fun _ => ?_)⟩
        exact idle _ _ _ _ (relax_none d1) (fun c z => by rw [d1] at z; cases z) (Same.refl _)
      refine ⟨_, rfl, _, rfl, cd, _, rfl, dget_of hcd4 d2, _, rfl, if_bl (fun _ => ?_) (fun z => nomatch z)⟩
      have tb := hto b hb
      have eht : hs[b.to]? = some hs[b.to] := List.getElem?_eq_getElem tb
      have mom2 : momH hs b.to = hs[b.to].mom := by unfold momH; rw [eht]
      obtain ⟨x3, ex3, ⟨t3, r3, rfl, e31, e32⟩⟩ := alh.get eht
      refine ⟨_, rfl, _, rfl, cd, _, rfl, dget_of hcd4 d2, tc, _, rfl, SqT.of htc, rfl, _, _, rfl, _, _, rfl, rfl, ?_⟩
      refine ⟨_, rfl, _, rfl, g, _, rfl, .inr (SqT.of (s4 _ _ e2)), _, _, rfl, rfl, _, rfl, _, rfl, _, rfl, ha, _, _, _, rfl, rfl, SqT.of (s4 _ _ eh), atI_nat ex3, t3, _, _, _, rfl, rfl, SqT.of (s4 _ _ e31), atI_nat (j := 1) rfl, _, _, rfl, rfl, (by show 2 ≤ sizeLine; decide), fun tn ntn => ?_⟩
      have enew : [V.int (c.1 + (((b.th.map V.int).length : Nat) : Int)), V.int (-c.2 - hs[b.to].mom)] = [V.int (coAdd hs c b).1, V.int (-(coAdd hs c b).2)] := by
        unfold coAdd
        dsimp only
        rw [List.length_map, mom2, show -c.2 - hs[b.to].mom = -(c.2 + hs[b.to].mom) by omega]
      rw [enew]
      have s5 := same_new (o := .tup [V.int (coAdd hs c b).1, V.int (-(coAdd hs c b).2)]) ntn
      have hcd5 := s5 _ _ hcd4
      have hld5 := s5 _ _ hld4
      have dc5 := dc4.keep (TK.same s5)
      -- something changes
      have put : (∀ d, cf b.to = some d → coLt (coAdd hs c b) d) → (relax hs cf b = fun k => if k = b.to then some (coAdd hs c b) else cf k) → ∃ (ch' : Bool) (kvs' lvs' : List (Key × V)) (la' : Nat → Option Nat) (w7 w8 w9 w10 w11 w12 w13 : Option V), [some (.ref r), some (nV one), some (.ref ha), some (.ref ba), some (.ref cd), some (.ref ld), some (.bl true), some (V.int ((j : Nat) : Int)), some (nV b.one), some (nV b.to), some (.ref g), some (V.int c.1), some (V.int (-c.2)), some (.ref tn)] = [some (.ref r), some (nV one), some (.ref ha), some (.ref ba), some (.ref cd), some (.ref ld), some (.bl ch'), w7, w8, w9, w10, w11, w12, w13] ∧ (upd (upd (upd (upd H3 tt (.tup [V.int ((j : Nat) : Int), V.ref t2])) tn (.tup [V.int (coAdd hs c b).1, V.int (-(coAdd hs c b).2)])) cd (.dK (putK kvs (kN b.to) (V.ref tn)))) ld (.dK (putK lvs (kN b.to) (nV j)))) cd = some (.dK kvs') ∧ DC (upd (upd (upd (upd H3 tt (.tup [V.int ((j : Nat) : Int), V.ref t2])) tn (.tup [V.int (coAdd hs c b).1, V.int (-(coAdd hs c b).2)])) cd (.dK (putK kvs (kN b.to) (V.ref tn)))) ld (.dK (putK lvs (kN b.to) (nV j)))) kvs' ((bs.take (j + 1)).foldl (relax hs) (cfI hs bs one i)) ∧ kvs'.length ≤ 1 + 20 * i + (j + 1) ∧ (upd (upd (upd (upd H3 tt (.tup [V.int ((j : Nat) : Int), V.ref t2])) tn (.tup [V.int (coAdd hs c b).1, V.int (-(coAdd hs c b).2)])) cd (.dK (putK kvs (kN b.to) (V.ref tn)))) ld (.dK (putK lvs (kN b.to) (nV j)))) ld = some (.dK lvs') ∧ lvs'.length ≤ 20 * i + (j + 1) ∧ (∀ k, valV lvs' (kN k) = (la' k).map nV) ∧ LaOk hs bs one ((bs.take (j + 1)).foldl (relax hs) (cfI hs bs one i)) la' ∧ (bs.take (j + 1)).foldl (relax hs) (cfI hs bs one i) one = some (0, momH hs one) ∧ Same H (upd (upd (upd (upd H3 tt (.tup [V.int ((j : Nat) : Int), V.ref t2])) tn (.tup [V.int (coAdd hs c b).1, V.int (-(coAdd hs c b).2)])) cd (.dK (putK kvs (kN b.to) (V.ref tn)))) ld (.dK (putK lvs (kN b.to) (nV j)))) ∧ (ch' = false → (bs.take (j + 1)).foldl (relax hs) (cfI hs bs one i) = cfI hs bs one i ∧ ∀ b ∈ bs.take (j + 1), ∀ c, cfI hs bs one i b.one = some c → ∃ d, cfI hs bs one i b.to = some d ∧ coLe d (coAdd hs c b)) ∧ (ch' = true → ¬ Stab hs bs (cfI hs bs one i)) := fun l er1 => by
        rw [er1] at nx
        obtain ⟨L', ne1⟩ := L.put hrk sound c1 ebj d1 l
        rw [nx]
        have pl := putK_le kvs (kN b.to) (V.ref tn)
        have pl2 := putK_le lvs (kN b.to) (nV j)
        have hld6 : upd (upd (upd H3 tt (.tup [V.int ((j : Nat) : Int), V.ref t2])) tn (.tup [V.int (coAdd hs c b).1, V.int (-(coAdd hs c b).2)])) cd (.dK (putK kvs (kN b.to) (V.ref tn))) ld = some (.dK lvs) := by rw [upd_ne cdld.symm]; exact hld5
        refine ⟨true, putK kvs (kN b.to) (V.ref tn), putK lvs (kN b.to) (nV j), fun k => if k = b.to then some j else la k, _, _, _, _, _, _, _, rfl, by rw [upd_ne cdld, upd_same], ?_, by omega, upd_same, by omega, DL.put dl b.to j, L', (if_neg ne1.symm).trans c1, Same.own (Same.own (s4.trans s5) ncd) ld0, (fun z => nomatch z), fun _ stb => ?_⟩
        · exact ((dc5.put (k := b.to) ⟨tn, rfl, upd_same⟩).keep (TK.dic hcd5)).keep (TK.dic hld6)
        · -- the state ahead was not at rest
          have rest := stab_fold stb (l := bs.take j) fun x hx => List.mem_of_mem_take hx
          rw [rest] at ecf
          obtain ⟨d, y1, y2⟩ := stb b hb c (by rw [← ecf]; exact d1)
          exact absurd y2 (l d (by rw [ecf]; exact y1)).not_le
      rcases dc5.1 b.to with ⟨f3, f4⟩ | ⟨d, v, f3, f4, td, rfl, htd⟩
      · refine ⟨_, rfl, _, rfl, cd, _, rfl, dget_of hcd5 f4, _, rfl, if_bl (fun _ => if_bl (fun _ => ?_) (fun z => nomatch z)) (fun z => nomatch z)⟩
        refine ⟨_, rfl, _, rfl, _, rfl, cd, _, rfl, DPut.k (k := kN b.to) hcd5 (small1000 (by omega)), ?_⟩
        refine ⟨_, rfl, _, rfl, _, rfl, ld, _, rfl, DPut.k (k := kN b.to) (by rw [upd_ne cdld.symm]; exact hld5) (small1000 (by omega)), ?_⟩
        exact put (fun d z => by rw [f3] at z; cases z) (relax_new d1 f3)
      · refine ⟨_, rfl, _, rfl, cd, _, rfl, dget_of hcd5 f4, _, rfl, if_bl (fun z => nomatch z) (fun _ => ?_)⟩
        refine ⟨_, rfl, _, rfl, _, rfl, cd, _, rfl, dget_of hcd5 f4, tn, td, [(coAdd hs c b).1, -(coAdd hs c b).2], [d.1, -d.2], rfl, rfl, SqT.of upd_same, SqT.of htd, _, rfl, ?_⟩
        rw [lex_co]
        by_cases l : coLt (coAdd hs c b) d
        · rw [decide_eq_true l]
          refine if_bl (fun _ => ?_) (fun z => nomatch z)
          refine ⟨_, rfl, _, rfl, _, rfl, cd, _, rfl, DPut.k (k := kN b.to) hcd5 (small1000 (by omega)), ?_⟩
          refine ⟨_, rfl, _, rfl, _, rfl, ld, _, rfl, DPut.k (k := kN b.to) (by rw [upd_ne cdld.symm]; exact hld5) (small1000 (by omega)), ?_⟩
          exact put (fun d' z => by rw [f3] at z; cases z; exact l) (relax_lt d1 f3 l)
        · rw [decide_eq_false l]
          refine if_bl (fun z => nomatch z) (fun _ => ?_)
          exact idle _ _ _ _ (relax_ge d1 f3 l) (fun c' z => ⟨d, f3, by rw [d1] at z; cases z; exact coLe_of_not l⟩) s5
    · rintro σ H3 ⟨ch, kvs, lvs, la, v7, v8, v9, v10, v11, v12, v13, rfl, hcd, dc, lk, hld, ll, dl, L, c1, s, f1, f2⟩
      rw [lbv, List.take_length] at dc L c1 f1
      cases ch with
      | false =>
        obtain ⟨g1, g2⟩ := f1 rfl
        refine ⟨0, by omega, i + 1, false, kvs, lvs, la, _, _, _, _, _, _, _, rfl, hcd, dc, by omega, hld, by omega, dl, L, c1, s, .inr ⟨rfl, ?_, rfl⟩⟩
        show Stab hs bs (bs.foldl (relax hs) (cfI hs bs one i))
        rw [g1]
        exact g2
      | true =>
        have := f2 rfl
        have il : i < hs.length := by
          refine Nat.lt_of_not_le fun z => this (stab_at hrk hto ho z)
        exact ⟨hs.length + 1 - (i + 1), by omega, i + 1, true, kvs, lvs, la, _, _, _, _, _, _, _, rfl, hcd, dc, by omega, hld, by omega, dl, L, c1, s, .inl ⟨rfl, by omega, rfl⟩⟩
  · refine if_bl (fun z => nomatch z) (fun _ => ?_)
    have eb2 := cfI_best hrk hto ho st
    rw [eb2] at dc L
    refine ⟨_, rfl, _, rfl, (by show 2 ≤ sizeLine; decide), fun p np => ?_⟩
    exact q p cd ld kvs lvs la _ upd_same cdld (same_new np _ _ hcd) (dc.keep (TK.new np)) (same_new np _ _ hld) dl L (s.trans (same_new np))
end
theorem wayCo_cons {hs : List HR} {bs : List BR} {k n : Nat} {ns : List Nat} {b : BR} (eb : bs[n]? = some b) : ((n :: ns).map (trB bs)).sum = (b.th.length : Int) + (ns.map (trB bs)).sum ∧ ((n :: ns).map fun n => momH hs (toB bs n)).sum = momH hs b.to + (ns.map fun n => momH hs (toB bs n)).sum := by
  have h1 : trB bs n = (b.th.length : Int) := by unfold trB; rw [eb]
  have h2 : toB bs n = b.to := by unfold toB; rw [eb]
  rw [List.map_cons, List.map_cons, List.sum_cons, List.sum_cons, h1, h2]
  exact ⟨rfl, rfl⟩
/-- what least_costs tells -/
structure Told (hs : List HR) (bs : List BR) (one : Nat) (H : Hp) (ld : Addr) (lvs : List (Key × V)) (la : Nat → Option Nat) : Prop where
  dic : H ld = some (.dK lvs)
  dl : ∀ k, valV lvs (kN k) = (la k).map nV
  la : LaOk hs bs one (best hs bs one) la
theorem best_lt {hs : List HR} {bs : List BR} {one k : Nat} {c : Co} (hto : ∀ b ∈ bs, b.to < hs.length) (ho : one < hs.length) (h : best hs bs one k = some c) : k < hs.length := by
  obtain ⟨ns, w1, _⟩ := cfI_snd _ k c h
  exact way_lt hto ho w1
theorem best_one {hs : List HR} {bs : List BR} {rk : Nat → Int} {one : Nat} (hrk : ∀ b ∈ bs, b.th = [] → rk b.one < rk b.to) : best hs bs one one = some (0, momH hs one) := by
  obtain ⟨c, h1, h2⟩ := cfI_cpl (hs := hs) (bs := bs) hs.length [] one (Nat.zero_le _) rfl
  obtain ⟨ns, w1, w2⟩ := cfI_snd _ one c h1
  rw [wayCo_nil] at h2
  have : c = (0, momH hs one) := by
    by_cases e : ns = []
    · rw [← w2, e, wayCo_nil]
    · have t := way_closed hrk w1 e
      have t2 : c.1 = (ns.map (trB bs)).sum := by rw [← w2]; rfl
      unfold coLe at h2
      dsimp only at h2
      omega
  show cfI hs bs one hs.length one = _
  rw [h1, this]
theorem mom_le {hs : List HR} (good : ∀ h ∈ hs, GoodHand h) (k : Nat) : momH hs k ≤ 30 := by
  unfold momH
  cases e : hs[k]? with
  | none => exact (by decide)
  | some h => exact (good h (List.mem_of_getElem? e)).2.2
section
variable {P : Program} {w : World} {K : PySem.W.Frag} {mg : Str → Option Value} {base : Heap}
def sp_way_back (K : PySem.W.Frag) : Sp := fun vs H Q _ => ∃ (r ld : Addr) (hs : List HR) (bs : List BR) (one e : Nat) (c : Co) (lvs : List (Key × V)) (la : Nat → Option Nat), vs = [.ref r, nV e, .ref ld] ∧ RoomAt H r hs bs ∧ RoomOk hs bs ∧ one < hs.length ∧ Told hs bs one H ld lvs la ∧ best hs bs one e = some c ∧
  ∀ (p : Addr) (ns : List Nat) (H' : Hp), WayAt H' p one ns → wayEnd bs one ns = some e → wayCo hs bs one ns = c → ns.length ≤ hs.length → Same H H' → Q (.ref p) H'
theorem ok_way_back {f : Addr} {fd : FuncData} (F : Fun K "way_back" "way_back" s_way_back f fd) (T : Top K mg) : FnOk P w K mg base CX0 1 f fd ["room", "end", "last"] (sp_way_back K) := by
  refine F.ok sc_way_back (fun vs H Q E h => ?_) (fun cdv A outer s H vs Q E hr h => ?_)
  · obtain ⟨r, ld, hs, bs, one, e, c, lvs, la, rfl, _⟩ := h
    rfl
  obtain ⟨r, ld, hs, bs, one, e, ce, lvs, la, rfl, hR, ok, ho, ⟨hld, dl, L⟩, he, q⟩ := h
  obtain ⟨ha, ba, hv, bv, er, eh, eb, alh, alb⟩ := hR.ex
  have lh := ok.hands
  obtain ⟨rk, hrk⟩ := ok.rank
  have hto : ∀ b ∈ bs, b.to < hs.length := fun b hb => (ok.ends b hb).2
  have stb := stab_at (hs := hs) hrk hto ho (Nat.le_refl _)
  refine ⟨_, (pss_cons (ps_set (i := 3) sc_way_back.nd rfl (Or.inl rfl) (pe_lst pa_nil))
      (pss_cons (ps_set (i := 4) sc_way_back.nd rfl (Or.inl rfl) (pv 1))
      (pss_cons (ps_while PassesOwn.never (pt_cmp (pc_din (hu_of hr) (pv 4) (pv 2)) (by with_unfolding_all rfl))
        (pss_cons (ps_expr (pe_bmK K rfl PySem.F.plainAttrs_list PySem.F.slot_list_append PySem.F.type_list_append mt_append (pv 3) (pa_cons (pe_dget (hu_of hr) (pv 2) (pv 4) (fun _ _ => rfl)) pa_nil)))
      (pss_one (ps_set (i := 4) sc_way_back.nd rfl (Or.inl rfl) (pe_ix (ix_tupK K rfl) (pe_ix (ix_tupK K rfl) (pe_ix (ix_tupK K rfl) (pv 0) pe_int (fun _ _ => rfl)) (pe_dget (hu_of hr) (pv 2) (pv 4) (fun _ _ => rfl)) (fun _ _ => rfl)) pe_int (fun _ _ => rfl))))))
      (pss_one (ps_ret (pe_tup (pa_cons (pv 4) (pa_cons (pe_callTy (call_tuple_ofK K rfl) (by rfl) T.m_tuple (by decide +kernel) (pa_cons (pe_revLK K rfl (pv 3)) pa_nil)) pa_nil)))))))), ?_⟩
  refine ⟨(by show 0 ≤ sizeLine; decide), fun nl nnl => ?_⟩
  refine ⟨_, rfl, ?_⟩
  refine ⟨fun m σ H2 => ∃ (k : Nat) (ns : List Nat) (c : Co), σ = [some (.ref r), some (nV e), some (.ref ld), some (.ref nl), some (nV k)] ∧ H2 nl = some (.lst (ns.reverse.map nV)) ∧ wayEnd bs k ns = some e ∧ best hs bs one k = some c ∧ c.1 + (ns.map (trB bs)).sum = ce.1 ∧ c.2 + (ns.map fun n => momH hs (toB bs n)).sum = ce.2 ∧ ns.length + m ≤ hs.length ∧ m = meas rk (best hs bs one) hs.length k ∧ Same H H2,
    ⟨_, e, [], ce, rfl, upd_same, rfl, he, by show ce.1 + 0 = ce.1; omega, by show ce.2 + 0 = ce.2; omega, by show 0 + _ ≤ _; have := meas_le (rk := rk) (cf := best hs bs one) (n := hs.length) (k := e); omega, rfl, same_new nnl⟩, ?_⟩
  rintro m σ H2 ⟨k, ns, c, rfl, hnl, we, hk, t1, t2, ln, rfl, s2⟩
  refine ⟨_, rfl, _, rfl, ld, _, rfl, dget_of (s2 _ _ hld) (dl k), _, rfl, ?_⟩
  cases elk : la k with
  | none =>
    refine if_bl (fun z => nomatch z) (fun _ => ?_)
    have k1 : k = one := by
      rcases L.has k c hk with z | z
      · exact z
      · rw [elk] at z; cases z
    subst k1
    rw [best_one hrk] at hk
    cases hk
    refine ⟨_, rfl, _, rfl, nl, _, rfl, SqL.of hnl, fun l2 nl2 => ⟨l2, _, rfl, .inl ⟨SqL.of upd_same, fun p np => ⟨(by show 2 ≤ sizeLine; decide), fun p2 np2 => ?_⟩⟩⟩⟩
    refine q p2 ns _ ⟨p, upd_same, ?_⟩ we ?_ (by omega) (((s2.trans (same_new nl2)).trans (same_new np)).trans (same_new np2))
    · rw [same_new np2 _ _ upd_same, ← List.map_reverse, List.reverse_reverse]
    · refine Prod.ext ?_ ?_
      · show (ns.map (trB bs)).sum = ce.1
        omega
      · show momH hs k + _ = ce.2
        omega
  | some n =>
    refine if_bl (fun _ => ?_) (fun z => nomatch z)
    obtain ⟨b, c', d, ebn, ebt, h1, h2, h3⟩ := L.go k n elk
    have hb := List.mem_of_getElem? ebn
    rw [hk] at h2
    cases h2
    obtain ⟨d', h4, h5⟩ := stb b hb c' h1
    rw [ebt] at h4
    have h4 : best hs bs one k = some d' := h4
    rw [hk] at h4
    cases h4
    have ec := h5.antisymm h3
    have dn : valV lvs (kN k) = some (nV n) := by rw [dl k, elk]; rfl
    have lt := meas_lt (n := hs.length) (best_lt hto ho h1) (last_lt hrk (mom_le ok.good) hb ebt h1 hk h3)
    refine ⟨_, fun σ' H' h => h, ?_⟩
    refine ⟨_, rfl, .inl ⟨rfl, _, SqL.of hnl⟩, _, rfl, _, rfl, ld, _, rfl, dget_of (s2 _ _ hld) dn, nl, _, _, rfl, rfl, hnl, by rw [List.length_map, List.length_reverse]; exact small1000 (by omega), ?_⟩
    have s3 : Same H (upd H2 nl (.lst (ns.reverse.map nV ++ [nV n]))) := Same.own s2 nnl
    obtain ⟨x, ex, ⟨t2', g2, rfl, e1, e2⟩⟩ := alb.get ebn
    refine ⟨_, rfl, r, _, _, _, rfl, rfl, SqT.of (s3 _ _ er), atI_nat (j := 1) rfl, _, rfl, _, rfl, ld, _, rfl, dget_of (s3 _ _ hld) dn, ba, _, _, _, rfl, rfl, SqT.of (s3 _ _ eb), atI_nat ex, t2', _, _, _, rfl, rfl, SqT.of (s3 _ _ e1), atI_nat (j := 0) rfl, ?_⟩
    obtain ⟨w1, w2⟩ := wayCo_cons (hs := hs) (k := k) (ns := ns) ebn
    have ec1 : c.1 = c'.1 + (b.th.length : Int) := by rw [ec]; rfl
    have ec2 : c.2 = c'.2 + momH hs b.to := by rw [ec]; rfl
    refine ⟨_, lt, b.one, n :: ns, c', rfl, ?_, ?_, h1, by rw [w1]; omega, by rw [w2]; omega, by rw [List.length_cons]; omega, rfl, s3⟩
    · rw [upd_same, List.reverse_cons, List.map_append]; rfl
    · rw [wayEnd_cons ebn, if_pos rfl, ebt]; exact we
end
section
variable {P : Program} {w : World} {K : PySem.W.Frag} {mg : Str → Option Value} {base : Heap}
theorem ok_doors_out {f : Addr} {fd : FuncData} (F : Fun K "doors_out" "doors_out" s_doors_out f fd) (T : Top K mg) : FnOk P w K mg base CX0 1 f fd ["room"] (sp_doors_out K) := by
  refine F.ok sc_doors_out (fun vs H Q E h => ?_) (fun cdv A outer s H vs Q E hr h => ?_)
  · obtain ⟨r, hs, bs, rfl, _⟩ := h
    rfl
  obtain ⟨aO, mO, hI⟩ := T.x_out
  obtain ⟨r, hs, bs, rfl, hR, lb, good, q⟩ := h
  obtain ⟨ha, ba, hv, bv, er, eh, eb, alh, alb⟩ := hR.ex
  have lhv := alh.length
  refine ⟨_, (pss_one (ps_ret (pe_lc (own := [("number", 1), ("hand", 2)]) (g := gTup K 2 (gCons (gName 1) (gCons (gName 2) gNil))) (by rfl) sc_doors_out.nd (pi_enumT K rfl (by rfl) T.m_enumerate (pa_cons (pe_ix (ix_tupK K rfl) (pv 0) pe_int (fun _ _ => rfl)) pa_nil)) (blkOk_by (own := [("number", 1), ("hand", 2)]) (N := N_doors_out) (sc := defScope s_doors_out) (by decide +kernel)) (fun _ _ _ _ _ => (pg_tupK K rfl rfl (pgs_cons (pg_name (i := 1) sc_doors_out.nd rfl (Or.inl rfl)) (pgs_cons (pg_name (i := 2) sc_doors_out.nd rfl (Or.inl rfl)) pgs_nil)))) (fun _ _ _ _ _ => pts_one (pt_cmpR (op_eqDK K rfl hr.units) (pe_ix (ix_tupK K rfl) (pv 2) pe_int (fun _ _ => rfl)) (pe_glob (v := .ref aO) (by rfl) mO rfl) (nomark _))) (fun _ _ _ _ _ => (pv 1))))), ?_⟩
  refine ⟨_, rfl, r, _, _, _, rfl, rfl, SqT.of er, atI_nat (j := 0) rfl, ha, hv, rfl, SqT.of eh, fun D nD => lc_it (J := IteT K ha hv) (n := hv.length) (fun i H5 => H5 D = some (.lst (((List.range i).filter fun j => decide (hs[j]?.map HR.wd = some ("out" : Str))).map nV)) ∧ Same H H5) ⟨upd_same, same_new nD⟩ ?_ ?_ ?_ ?_⟩
  · rintro i H5 hi ⟨hD, s5⟩
    exact ⟨SqT.of (s5 _ _ eh), hi⟩
  · rintro H5 ⟨hD, s5⟩
    exact ⟨SqT.of (s5 _ _ eh), rfl⟩
  · rintro i x H5 H6 hi ⟨hD, s5⟩ ⟨t, y, rfl, nt, rfl, ey⟩
    obtain ⟨hh, eb2, ⟨t2, g, rfl, e1, e2⟩⟩ := alh.getL ey
    have gh := good _ (List.mem_of_getElem? eb2)
    have s6 := s5.trans (same_new (o := .tup [V.int ((i : Nat) : Int), V.ref t2]) nt)
    have hD6 := same_new (o := .tup [V.int ((i : Nat) : Int), V.ref t2]) nt _ _ hD
    have few := filt_len (p := fun j => decide (hs[j]?.map HR.wd = some ("out" : Str))) i
    refine ⟨t, _, rfl, SqT.of upd_same, rfl, _, _, rfl, _, _, rfl, rfl, rfl, _, rfl, t2, _, _, _, rfl, rfl, SqT.of (s6 _ _ e1), atI_nat (j := 0) rfl, ?_⟩
    refine ⟨_, _, rule_dp (s6 _ _ e2), .tup (hI _) (.cons (.str _) .nil), rule_shaped gh.lay, one_shaped (by decide +kernel), _, rfl, ?_⟩
    rw [rule_eqv, gh.door "out" (.inr rfl)]
    by_cases c : hh.wd = "out"
    · rw [decide_eq_true c]
      refine if_bl (fun _ => ⟨_, rfl, _, hD6, by rw [List.length_map]; exact small1000 (by omega), ?_, Same.own s6 nD⟩) (fun z => nomatch z)
      rw [upd_same, filt_succ, if_pos (decide_eq_true (by rw [eb2, ← c]; rfl)), List.map_append]
      rfl
    · rw [decide_eq_false c]
      refine if_bl (fun z => nomatch z) (fun _ => ⟨?_, s6⟩)
      rw [filt_succ, if_neg fun z => c (by have := of_decide_eq_true z; rw [eb2] at this; exact Option.some.inj this), List.append_nil]
      exact hD6
  · rintro H5 ⟨hD, s5⟩
    refine q D H5 nD ?_ s5
    rw [hD, lhv]
    rfl
end
structure Wy where
  one : Nat
  c : Co
  ns : List Nat
  e : Nat
def WyAt (H : Hp) (v : V) (y : Wy) : Prop := ∃ t p : Addr, v = .ref t ∧ H t = some (.tup [.int y.c.1, .int y.c.2, .ref p, nV y.e]) ∧ WayAt H p y.one y.ns
theorem WyAt.keep {H H' : Hp} {v : V} {y : Wy} (h : WyAt H v y) (k : TK H H') : WyAt H' v y := by
  obtain ⟨t, p, e, h1, h2⟩ := h
  exact ⟨t, p, e, k _ _ h1, h2.keep k⟩
structure WyOk (hs : List HR) (bs : List BR) (y : Wy) : Prop where
  lt : y.one < hs.length
  b : best hs bs y.one y.e = some y.c
  we : wayEnd bs y.one y.ns = some y.e
  wc : wayCo hs bs y.one y.ns = y.c
  ln : y.ns.length ≤ hs.length
structure AllWays (hs : List HR) (bs : List BR) (ys : List Wy) : Prop where
  ok : ∀ y ∈ ys, WyOk hs bs y
  all : ∀ one e c, one < hs.length → best hs bs one e = some c → ∃ y ∈ ys, y.one = one ∧ y.e = e
  few : ys.length ≤ 144
theorem TK.frz {H : Hp} {p : Addr} {o : Obj} {kvs : List (Key × V)} (h : H p = some (.dK kvs)) : TK H (upd H p (.frz o (.dK kvs))) := fun x zs e => by
  rw [upd_ne (ne_of e h (fun z => nomatch z))]
  exact e
theorem TK.unfrz {H : Hp} {p : Addr} {o : Obj} {kvs : List (Key × V)} (h : H p = some (.frz o (.dK kvs))) : TK H (upd H p (.dK kvs)) := fun x zs e => by
  rw [upd_ne (ne_of e h (fun z => nomatch z))]
  exact e
section
variable {P : Program} {w : World} {K : PySem.W.Frag} {mg : Str → Option Value} {base : Heap}
def sp_least_ways (K : PySem.W.Frag) : Sp := fun vs H Q _ => ∃ (r : Addr) (hs : List HR) (bs : List BR), vs = [.ref r] ∧ RoomAt H r hs bs ∧ RoomOk hs bs ∧
  ∀ (p : Addr) (yv : List V) (ys : List Wy) (H' : Hp), H p = none → H' p = some (.lst yv) → All2 (WyAt H') yv ys → AllWays hs bs ys → Same H H' → Q (.ref p) H'
theorem ok_least_ways {f : Addr} {fd : FuncData} (F : Fun K "least_ways" "least_ways" s_least_ways f fd) (T : Top K mg) : FnOk P w K mg base CX0 2 f fd ["room"] (sp_least_ways K) := by
  obtain ⟨f_least_costs, fd_least_costs, F_least_costs, b_least_costs, m_least_costs⟩ := T.d_least_costs
  have G_least_costs := ok_least_costs (P := P) (w := w) (base := base) F_least_costs T
  obtain ⟨f_way_back, fd_way_back, F_way_back, b_way_back, m_way_back⟩ := T.d_way_back
  have G_way_back := ok_way_back (P := P) (w := w) (base := base) F_way_back T
  refine F.ok sc_least_ways (fun vs H Q E h => ?_) (fun cdv A outer s H vs Q E hr h => ?_)
  · obtain ⟨r, hs, bs, rfl, _⟩ := h
    rfl
  obtain ⟨r, hs, bs, rfl, hR, ok, q⟩ := h
  obtain ⟨ha, ba, hv, bv, er, eh, eb, alh, alb⟩ := hR.ex
  have lhv := alh.length
  have lh := ok.hands
  have hto : ∀ b ∈ bs, b.to < hs.length := fun b hb => (ok.ends b hb).2
  refine ⟨_, (pss_cons (ps_set (i := 1) sc_least_ways.nd rfl (Or.inl rfl) (pe_lst pa_nil))
      (pss_cons (ps_for PassesOwn.never rfl (pi_range1 (by rfl) T.m_range (pa_cons (pe_callB (call_len_seqK K rfl) (by rfl) T.m_len (by decide +kernel) (pa_cons (pe_ix (ix_tupK K rfl) (pv 0) pe_int (fun _ _ => rfl)) pa_nil)) pa_nil)) (pg_name (i := 2) sc_least_ways.nd rfl (Or.inl rfl))
        (pss_cons (ps_asg (pe_call G_least_costs (hr.mono (by decide)) (by rfl) m_least_costs F_least_costs.kp b_least_costs .nil pass0 (pa_cons (pv 0) (pa_cons (pv 2) pa_nil))) (pg_tupK K rfl rfl (pgs_cons (pg_name (i := 3) sc_least_ways.nd rfl (Or.inl rfl)) (pgs_cons (pg_name (i := 4) sc_least_ways.nd rfl (Or.inl rfl)) pgs_nil))))
      (pss_one (ps_lock (ps_for PassesOwn.never rfl (pi_keys (pv 3)) (pg_name (i := 5) sc_least_ways.nd rfl (Or.inl rfl))
        (pss_cons (ps_asg (pe_dget (hu_of hr) (pv 3) (pv 5) (fun _ _ => rfl)) (pg_tupK K rfl rfl (pgs_cons (pg_name (i := 6) sc_least_ways.nd rfl (Or.inl rfl)) (pgs_cons (pg_name (i := 7) sc_least_ways.nd rfl (Or.inl rfl)) pgs_nil))))
      (pss_one (ps_expr (pe_bmK K rfl PySem.F.plainAttrs_list PySem.F.slot_list_append PySem.F.type_list_append mt_append (pv 1) (pa_cons (pe_tup (pa_cons (pv 6) (pa_cons (pe_un un_neg (pv 7)) (pa_cons (pe_call G_way_back (hr.mono (by decide)) (by rfl) m_way_back F_way_back.kp b_way_back .nil pass0 (pa_cons (pv 0) (pa_cons (pv 5) (pa_cons (pv 4) pa_nil)))) (pa_cons (pv 5) pa_nil))))) pa_nil))))))))))
      (pss_one (ps_ret (pv 1))))), ?_⟩
  refine ⟨(by show 0 ≤ sizeLine; decide), fun fl nfl => ?_⟩
  have s0 := same_new (o := .lst []) nfl
  refine ⟨_, rfl, r, _, _, _, rfl, rfl, SqT.of (s0 _ _ er), atI_nat (j := 0) rfl, ha, _, rfl, .inr (SqT.of (s0 _ _ eh)), _, rfl, by omega, by omega, for_range (lo := 0) (n := hv.length) (fun i σ H2 => ∃ (yv : List V) (ys : List Wy) (v2 v3 v4 v5 v6 v7 : Option V), σ = [some (.ref r), some (.ref fl), v2, v3, v4, v5, v6, v7] ∧ H2 fl = some (.lst yv) ∧ All2 (WyAt H2) yv ys ∧ (∀ y ∈ ys, WyOk hs bs y) ∧ (∀ one e c, one < i → best hs bs one e = some c → ∃ y ∈ ys, y.one = one ∧ y.e = e) ∧ ys.length ≤ 12 * i ∧ Same H H2)
    ⟨[], [], _, _, _, _, _, _, rfl, upd_same, .nil, (fun _ z => nomatch z), (fun _ _ _ z => absurd z (Nat.not_lt_zero _)), Nat.le_refl _, s0⟩ ?_ ?_⟩
  · rintro i σ H2 hi ⟨yv, ys, v2, v3, v4, v5, v6, v7, rfl, hfl, aly, oky, ally, lys, s2⟩
    have ho : i < hs.length := by omega
    refine ⟨_, rfl, _, rfl, r, hs, bs, i, (by show [V.ref r, V.int (0 + ((i : Nat) : Int))] = _; rw [Int.zero_add]), hR.keep (TK.same s2), ok, ho, fun p cd ld kvs lvs la H3 hp cdld hcd dc hld dl L s3 => ?_⟩
    refine ⟨p, _, rfl, SqT.of hp, rfl, _, _, rfl, _, _, rfl, rfl, ?_⟩
    have s03 := s2.trans s3
    have hfl3 := s3 _ _ hfl
    have flcd : fl ≠ cd := ne_of hfl3 hcd (fun z => nomatch z)
    obtain ⟨ks, eks, ndk⟩ := dc.2
    have lkv : kvs.length = ks.length := by
      have := congrArg List.length eks
      rw [List.length_map, List.length_map] at this
      exact this
    -- each key is a hand that is come to
    have keyv : ∀ (j : Nat) (kv : Key × V), kvs[j]? = some kv → ∃ (e : Nat) (c : Co) (t : Addr), kv.1 = kN e ∧ ks[j]? = some e ∧ best hs bs i e = some c ∧ valV kvs (kN e) = some (V.ref t) ∧ H3 t = some (.tup [.int c.1, .int (-c.2)]) := fun j kv ej => by
      have e1 : (kvs.map Prod.fst)[j]? = some kv.1 := by rw [List.getElem?_map, ej]; rfl
      rw [eks, List.getElem?_map] at e1
      cases ek : ks[j]? with
      | none => rw [ek] at e1; cases e1
      | some e =>
        rw [ek] at e1
        have e1 : kN e = kv.1 := Option.some.inj e1
        have isS : (valV kvs (kN e)).isSome = true := by
          rw [← valV_any (kN e) kvs]
          exact List.any_eq_true.mpr ⟨kv, List.mem_of_getElem? ej, decide_eq_true e1.symm⟩
        rcases dc.1 e with ⟨_, d2⟩ | ⟨c, v, d1, d2, t, rfl, ht⟩
        · rw [d2] at isS; cases isS
        · exact ⟨e, c, t, e1.symm, rfl, d1, d2, ht⟩
    have few : kvs.length ≤ 12 := by
      have : ks.length ≤ hs.length := nodup_len _ ks ndk fun x hx => by
        obtain ⟨j, hj⟩ := List.getElem?_of_mem hx
        have jl := (List.getElem?_eq_some_iff.mp hj).1
        obtain ⟨e, c, t, _, e2, e3, _⟩ := keyv j kvs[j] (List.getElem?_eq_getElem (by omega))
        rw [hj] at e2
        cases e2
        exact best_lt hto ho e3
      omega
    refine ⟨cd, .dK kvs, hcd, trivial, fun od => ?_⟩
    have k4 : TK H3 (upd H3 cd (.frz od (.dK kvs))) := TK.frz hcd
    have b4 : But cd H3 (upd H3 cd (.frz od (.dK kvs))) := But.refl.upd
    refine ⟨_, rfl, cd, od, rfl, .inl ⟨kvs, upd_same, for_it (J := Itk cd od kvs) (n := kvs.length) (fun j σ H5 => ∃ (yv : List V) (ys : List Wy) (v5 v6 v7 : Option V), σ = [some (.ref r), some (.ref fl), some (V.int (0 + ((i : Nat) : Int))), some (.ref cd), some (.ref ld), v5, v6, v7] ∧ H5 fl = some (.lst yv) ∧ All2 (WyAt H5) yv ys ∧ (∀ y ∈ ys, WyOk hs bs y) ∧ (∀ one e c, one < i → best hs bs one e = some c → ∃ y ∈ ys, y.one = one ∧ y.e = e) ∧ (∀ j' e, j' < j → ks[j']? = some e → ∃ y ∈ ys, y.one = i ∧ y.e = e) ∧ ys.length ≤ 12 * i + j ∧ H5 cd = some (.frz od (.dK kvs)) ∧ (∀ b o, H3 b = some o → b ≠ cd → b ≠ fl → H5 b = some o) ∧ TK H3 H5)
      ⟨yv, ys, _, _, _, rfl, b4 _ _ hfl3 flcd, aly.imp fun _ _ z => z.keep ((TK.same s3).trans k4), oky, ally, (fun _ _ z => absurd z (Nat.not_lt_zero _)), by omega, upd_same, (fun b o e n1 _ => b4 b o e n1), k4⟩ ?_ ?_ ?_ ?_⟩⟩
    · rintro j σ H5 hj ⟨yv, ys, v5, v6, v7, rfl, hfl5, aly5, oky5, ally5, new5, l5, hcd5, fr5, k5⟩
      exact ⟨hcd5, hj⟩
    · rintro σ H5 ⟨yv, ys, v5, v6, v7, rfl, hfl5, aly5, oky5, ally5, new5, l5, hcd5, fr5, k5⟩
      exact ⟨hcd5, Nat.le_refl _⟩
    · rintro j x σ H5 H6 hj ⟨yv, ys, v5, v6, v7, rfl, hfl5, aly5, oky5, ally5, new5, l5, hcd5, fr5, k5⟩ ⟨rfl, k, v, ek, rfl⟩
      obtain ⟨e, c, t, rfl, ekj, bc, vv, ht⟩ := keyv j (k, v) ek
      refine ⟨_, rfl, _, rfl, cd, _, rfl, .inl ⟨kvs, kN e, .inr ⟨od, hcd5⟩, rfl, vv.symm⟩, t, _, rfl, SqT.of (k5 _ _ ht), rfl, _, _, rfl, _, _, rfl, rfl, ?_⟩
      have R5 := (hR.keep (TK.same s03)).keep k5
      have ldfl : ld ≠ fl := ne_of hld hfl3 (fun z => nomatch z)
      have hld5 : H6 ld = some (.dK lvs) := fr5 _ _ hld cdld.symm ldfl
      refine ⟨_, rfl, .inl ⟨rfl, _, SqL.of hfl5⟩, _, rfl, _, rfl, _, rfl, _, rfl, _, rfl, _, rfl, r, ld, hs, bs, i, e, c, lvs, la, rfl, R5, ok, ho, ⟨hld5, dl, L⟩, bc, fun p2 ns H7 hP we wc lns s7 => ?_⟩
      refine ⟨_, rfl, (by show 4 ≤ sizeLine; decide), fun t4 nt4 => ?_⟩
      have s8 := s7.trans (same_new (o := .tup [V.int c.1, V.int (- -c.2), V.ref p2, nV e]) nt4)
      have hfl8 := s8 _ _ hfl5
      refine ⟨fl, _, _, rfl, rfl, hfl8, by rw [aly5.length]; exact small1000 (by omega), ?_⟩
      have k8 := TK.lst (ys := yv ++ [V.ref t4]) hfl8
      refine ⟨yv ++ [V.ref t4], ys ++ [⟨i, c, ns, e⟩], _, _, _, rfl, upd_same, ?_, fun y hy => ?_, fun one e' c' h1 h2 => ?_, fun j' e' h1 h2 => ?_, by rw [List.length_append]; show ys.length + 1 ≤ _; omega, by rw [upd_ne flcd.symm]; exact s8 _ _ hcd5, fun b o eb n1 n2 => by rw [upd_ne n2]; exact s8 _ _ (fr5 b o eb n1 n2), (k5.trans (TK.same s8)).trans k8⟩
      · refine ((aly5.imp fun _ _ z => z.keep (TK.same s8)).snoc ⟨t4, p2, rfl, ?_, hP.keep (TK.new nt4)⟩).imp fun _ _ z => z.keep k8
        show upd H7 t4 _ t4 = some (HO.tup [V.int c.1, V.int c.2, V.ref p2, nV e])
        rw [upd_same, Int.neg_neg]
      · rcases List.mem_append.mp hy with hy | hy
        · exact oky5 y hy
        · obtain rfl : y = ⟨i, c, ns, e⟩ := by simpa using hy
          exact ⟨ho, bc, we, wc, lns⟩
      · obtain ⟨y, y1, y2⟩ := ally5 one e' c' h1 h2
        exact ⟨y, List.mem_append_left _ y1, y2⟩
      · by_cases z : j' = j
        · subst z
          rw [ekj] at h2
          cases h2
          exact ⟨⟨i, c, ns, e⟩, List.mem_append_right _ (List.mem_singleton.mpr rfl), rfl, rfl⟩
        · obtain ⟨y, y1, y2⟩ := new5 j' e' (by omega) h2
          exact ⟨y, List.mem_append_left _ y1, y2⟩
    · rintro σ H5 ⟨yv, ys, v5, v6, v7, rfl, hfl5, aly5, oky5, ally5, new5, l5, hcd5, fr5, k5⟩
      have s56 : Same H (upd H5 cd (.dK kvs)) := fun b o e => by
        by_cases z : b = cd
        · subst z
          have := s03 _ _ e
          rw [hcd] at this
          rw [upd_same, ← this]
        · rw [upd_ne z]
          exact fr5 _ _ (s03 _ _ e) z (ne_of_none e nfl)
      refine ⟨hcd5, yv, ys, _, _, _, _, _, _, rfl, by rw [upd_ne flcd]; exact hfl5, aly5.imp fun _ _ z => z.keep (TK.unfrz hcd5), oky5, fun one e c h1 h2 => ?_, by omega, s56⟩
      by_cases z : one = i
      · subst z
        rcases dc.1 e with ⟨d1, _⟩ | ⟨c', v, d1, d2, _⟩
        · rw [d1] at h2; cases h2
        · -- the key is among the keys
          have isS : (valV kvs (kN e)).isSome = true := by rw [d2]; rfl
          rw [← valV_any (kN e) kvs] at isS
          obtain ⟨kv, m1, m2⟩ := List.any_eq_true.mp isS
          have : kN e ∈ ks.map kN := by rw [← eks]; exact List.mem_map.mpr ⟨kv, m1, of_decide_eq_true m2⟩
          obtain ⟨e', m3, m4⟩ := List.mem_map.mp this
          obtain rfl := kN_inj m4
          obtain ⟨j, hj⟩ := List.getElem?_of_mem m3
          have jl := (List.getElem?_eq_some_iff.mp hj).1
          exact new5 j _ (by omega) hj
      · exact ally5 one e c (by omega) h2
  · rintro σ H2 ⟨yv, ys, v2, v3, v4, v5, v6, v7, rfl, hfl, aly, oky, ally, lys, s2⟩
    exact ⟨_, rfl, q fl yv ys H2 nfl hfl aly ⟨oky, fun one e c h1 h2 => ally one e c (by omega) h2, by omega⟩ s2⟩
end
def ndd (m T : Int) : Int := if m > T then 1 else 0
def lateV : Option Nat → V
  | none => .non
  | some l => nV l
def jumpsOf (hs : List HR) : Option Nat → List St3
  | none => []
  | some l => (doorsOf "out" hs).flatMap fun d => (doorsOf "in" hs).map fun o => ⟨d, o, -((l : Nat) : Int)⟩
def wStep (T : Int) (y : Wy) : St3 := ⟨y.one, y.e, ndd y.c.2 T - y.c.1⟩
def stepsOf (hs : List HR) (ys : List Wy) (late : Option Nat) (T : Int) : List St3 := ys.map (wStep T) ++ jumpsOf hs late
/-- some shifts reach the time -/
def FA (hs : List HR) (bs : List BR) (late : Option Nat) (T : Int) : Prop := ∃ lv : Nat → Int, (∀ one e c, one < hs.length → best hs bs one e = some c → lv one + (ndd c.2 T - c.1) ≤ lv e) ∧ ∀ l, late = some l → ∀ d ∈ doorsOf "out" hs, ∀ o ∈ doorsOf "in" hs, lv d - ((l : Nat) : Int) ≤ lv o
theorem feas_iff {hs : List HR} {bs : List BR} {ys : List Wy} {late : Option Nat} {T : Int} (aw : AllWays hs bs ys) : Feas (stepsOf hs ys late T) ↔ FA hs bs late T := by
  constructor
  · rintro ⟨lv, f⟩
    refine ⟨lv, fun one e c h1 h2 => ?_, fun l el d hd o ho => ?_⟩
    · obtain ⟨y, y1, rfl, rfl⟩ := aw.all one e c h1 h2
      have := (aw.ok y y1).b
      rw [h2] at this
      cases this
      exact f (wStep T y) (List.mem_append_left _ (List.mem_map.mpr ⟨y, y1, rfl⟩))
    · subst el
      have := f ⟨d, o, -((l : Nat) : Int)⟩ (List.mem_append_right _ (List.mem_flatMap.mpr ⟨d, hd, List.mem_map.mpr ⟨o, ho, rfl⟩⟩))
      have : lv d + -((l : Nat) : Int) ≤ lv o := this
      omega
  · rintro ⟨lv, f, g⟩
    refine ⟨lv, fun s hs' => ?_⟩
    rcases List.mem_append.mp hs' with h | h
    · obtain ⟨y, y1, rfl⟩ := List.mem_map.mp h
      exact f y.one y.e y.c (aw.ok y y1).lt (aw.ok y y1).b
    · cases late with
      | none => exact nomatch h
      | some l =>
        obtain ⟨d, hd, h2⟩ := List.mem_flatMap.mp h
        obtain ⟨o, ho, rfl⟩ := List.mem_map.mp h2
        have := g l rfl d hd o ho
        show lv d + -((l : Nat) : Int) ≤ lv o
        omega
theorem door_lt {z : Str} {hs : List HR} {k : Nat} (h : k ∈ doorsOf z hs) : k < hs.length := by
  obtain ⟨x, e, _⟩ := mem_doors.mp h
  exact (List.getElem?_eq_some_iff.mp e).1
theorem jumps_bd {hs : List HR} {late : Option Nat} : ∀ s ∈ jumpsOf hs late, s.u < hs.length ∧ s.v < hs.length := fun s h => by
  cases late with
  | none => exact nomatch h
  | some l =>
    obtain ⟨d, hd, h2⟩ := List.mem_flatMap.mp h
    obtain ⟨o, ho, rfl⟩ := List.mem_map.mp h2
    exact ⟨door_lt hd, door_lt ho⟩
theorem jumps_len {hs : List HR} {late : Option Nat} (h : hs.length ≤ 12) : (jumpsOf hs late).length ≤ 144 := by
  cases late with
  | none => exact Nat.zero_le _
  | some l =>
    have d1 := doors_len (z := "out") (hs := hs)
    have d2 := doors_len (z := "in") (hs := hs)
    have key : ∀ ds : List Nat, (ds.flatMap fun d => (doorsOf "in" hs).map fun o => (⟨d, o, -((l : Nat) : Int)⟩ : St3)).length = ds.length * (doorsOf "in" hs).length := fun ds => by
      induction ds with
      | nil => exact (Nat.zero_mul _).symm
      | cons d ds ih => rw [List.flatMap_cons, List.length_append, List.length_map, ih, List.length_cons, Nat.succ_mul]; omega
    show ((doorsOf "out" hs).flatMap _).length ≤ 144
    rw [key]
    exact Nat.le_trans (Nat.mul_le_mul (show _ ≤ 12 by omega) (show _ ≤ 12 by omega)) (by decide)
section
variable {P : Program} {w : World} {K : PySem.W.Frag} {mg : Str → Option Value} {base : Heap}
def sp_needed (K : PySem.W.Frag) : Sp := fun vs H Q _ => ∃ m T : Int, vs = [.int m, .int T] ∧ Q (.int (ndd m T)) H
theorem ok_needed {f : Addr} {fd : FuncData} (F : Fun K "needed" "needed" s_needed f fd) (T : Top K mg) : FnOk P w K mg base CX0 1 f fd ["moments", "time"] (sp_needed K) := by
  refine F.ok sc_needed (fun vs H Q E h => ?_) (fun cdv A outer s H vs Q E hr h => ?_)
  · obtain ⟨m, T, rfl, _⟩ := h
    rfl
  obtain ⟨m, T', rfl, q⟩ := h
  refine ⟨_, (pss_one (ps_ret (pe_ifExp (pt_cmpR op_gt (pv 0) (pv 1) (nomark _)) pe_int pe_int))), ?_⟩
  unfold ndd at q
  refine ⟨_, rfl, _, rfl, _, _, rfl, rfl, _, rfl, if_bl (fun z => ?_) (fun z => ?_)⟩
  · rw [if_pos (show m > T' from of_decide_eq_true z)] at q; exact q
  · rw [if_neg (show ¬ m > T' from of_decide_eq_false z)] at q; exact q
def sp_jumps (K : PySem.W.Frag) : Sp := fun vs H Q _ => ∃ (r : Addr) (hs : List HR) (bs : List BR) (late : Option Nat), vs = [.ref r, lateV late] ∧ RoomAt H r hs bs ∧ RoomOk hs bs ∧
  ∀ (p : Addr) (sv : List V) (H' : Hp), H' p = some (.lst sv) → All2 (StepAt H') sv (jumpsOf hs late) → Same H H' → Q (.ref p) H'
theorem ok_jumps {f : Addr} {fd : FuncData} (F : Fun K "jumps" "jumps" s_jumps f fd) (T : Top K mg) : FnOk P w K mg base CX0 2 f fd ["room", "late"] (sp_jumps K) := by
  obtain ⟨f_doors_out, fd_doors_out, F_doors_out, b_doors_out, m_doors_out⟩ := T.d_doors_out
  have G_doors_out := ok_doors_out (P := P) (w := w) (base := base) F_doors_out T
  obtain ⟨f_doors_in, fd_doors_in, F_doors_in, b_doors_in, m_doors_in⟩ := T.d_doors_in
  have G_doors_in := ok_doors_in (P := P) (w := w) (base := base) F_doors_in T
  refine F.ok sc_jumps (fun vs H Q E h => ?_) (fun cdv A outer s H vs Q E hr h => ?_)
  · obtain ⟨r, hs, bs, late, rfl, _⟩ := h
    rfl
  obtain ⟨r, hs, bs, late, rfl, hR, ok, q⟩ := h
  have lh := ok.hands
  refine ⟨_, (pss_cons (ps_if (pt_cmpR op_isN (pv 1) pe_non (nomark _)) (pss_one (ps_ret (pe_lst pa_nil))) pss_nil)
      (pss_one (ps_ret (pe_lc2 (own := [("door", 2), ("other", 3)]) (vs1 := [3]) (g := gName 2) (g1 := gName 3) (tt := tYes) (tt1 := tYes) (by rfl) sc_jumps.nd (pi_listK K rfl (pe_call G_doors_out (hr.mono (by decide)) (by rfl) m_doors_out F_doors_out.kp b_doors_out .nil pass0 (pa_cons (pv 0) pa_nil))) (blkOk_by (own := [("door", 2), ("other", 3)]) (N := N_jumps) (sc := defScope s_jumps) (by decide +kernel)) (by decide) (fun _ _ _ _ _ => (pg_name (i := 2) sc_jumps.nd rfl (Or.inl rfl))) (fun _ _ _ _ _ => pts_nil) (fun _ _ _ _ _ => (pi_listK K rfl (pe_call G_doors_in (hr.mono (by decide)) (by rfl) m_doors_in F_doors_in.kp b_doors_in .nil pass0 (pa_cons (pv 0) pa_nil)))) (fun _ _ _ _ _ => (pg_name (i := 3) sc_jumps.nd rfl (Or.inl rfl))) (fun _ _ _ _ _ => pts_nil) (fun _ _ _ _ _ => (pe_tup (pa_cons (pv 2) (pa_cons (pv 3) (pa_cons (pe_un un_neg (pv 1)) pa_nil))))))))), ?_⟩
  cases late with
  | none =>
    refine ⟨_, rfl, rfl, _, rfl, if_bl (fun _ => ?_) (fun z => absurd rfl (of_decide_eq_false z))⟩
    exact ⟨(by show 0 ≤ sizeLine; decide), fun p np => q p [] _ upd_same .nil (same_new np)⟩
  | some l =>
  refine ⟨_, rfl, rfl, _, rfl, if_bl (fun z => absurd (of_decide_eq_true z) (fun y => nomatch y)) (fun _ => ?_)⟩
  refine ⟨_, rfl, r, hs, bs, rfl, hR, by omega, ok.good, fun ol H1 nol hol s1 => ?_⟩
  have d1 := doors_len (z := "out") (hs := hs)
  have d2 := doors_len (z := "in") (hs := hs)
  refine ⟨ol, rfl, ⟨_, SqL.of hol⟩, fun D nD => ⟨fun i m H5 => m = (doorsOf "out" hs).length - i ∧ i ≤ (doorsOf "out" hs).length ∧ ∃ sv, H5 D = some (.lst sv) ∧ All2 (StepAt H5) sv (((doorsOf "out" hs).take i).flatMap fun d => (doorsOf "in" hs).map fun o => ⟨d, o, -((l : Nat) : Int)⟩) ∧ sv.length ≤ 12 * i ∧ Same H1 H5, ⟨_, rfl, Nat.zero_le _, [], upd_same, .nil, Nat.le_refl _, same_new nD⟩, ?_⟩⟩
  rintro i m H5 ⟨rfl, hi, sv, hD, al, lsv, s5⟩
  have hol5 := s5 _ _ hol
  by_cases hlt : i < (doorsOf "out" hs).length
  · have ed : (doorsOf "out" hs)[i]? = some (doorsOf "out" hs)[i] := List.getElem?_eq_getElem hlt
    refine .inr ⟨⟨_, _, SqL.of hol5, by rw [List.getElem?_map, ed]; rfl⟩, fun H' => ∃ m', m' < (doorsOf "out" hs).length - i ∧ m' = (doorsOf "out" hs).length - (i + 1) ∧ i + 1 ≤ (doorsOf "out" hs).length ∧ ∃ sv, H' D = some (.lst sv) ∧ All2 (StepAt H') sv (((doorsOf "out" hs).take (i + 1)).flatMap fun d => (doorsOf "in" hs).map fun o => ⟨d, o, -((l : Nat) : Int)⟩) ∧ sv.length ≤ 12 * (i + 1) ∧ Same H1 H', fun H' h => h, ?_⟩
    rintro x H6 ⟨rfl, ey⟩
    have ex : x = nV (doorsOf "out" hs)[i] := by
      have := ey _ (SqL.of hol5)
      rw [List.getElem?_map, ed] at this
      exact (Option.some.inj this).symm
    subst ex
    refine ⟨rfl, yes_in ⟨_, rfl, r, hs, bs, rfl, (hR.keep (TK.same s1)).keep (TK.same s5), by omega, ok.good, fun il H7 nil_ hil s7 => ?_⟩⟩
    have hD7 := s7 _ _ hD
    refine ⟨il, rfl, ⟨_, SqL.of hil⟩, fun j k H8 => k = (doorsOf "in" hs).length - j ∧ j ≤ (doorsOf "in" hs).length ∧ ∃ sv', H8 D = some (.lst sv') ∧ All2 (StepAt H8) sv' ((((doorsOf "out" hs).take i).flatMap fun d => (doorsOf "in" hs).map fun o => ⟨d, o, -((l : Nat) : Int)⟩) ++ ((doorsOf "in" hs).take j).map fun o => ⟨(doorsOf "out" hs)[i], o, -((l : Nat) : Int)⟩) ∧ sv'.length ≤ 12 * i + j ∧ Same H1 H8 ∧ H8 il = some (.lst ((doorsOf "in" hs).map nV)), ⟨_, rfl, Nat.zero_le _, sv, hD7, by rw [List.take_zero, List.map_nil, List.append_nil]; exact al.imp fun _ _ z => z.keep (TK.same s7), by omega, s5.trans s7, hil⟩, ?_⟩
    rintro j k H8 ⟨rfl, hj, sv', hD8, al8, l8, s8, hil8⟩
    have ilD : il ≠ D := (ne_of_none hD nil_).symm
    by_cases jlt : j < (doorsOf "in" hs).length
    · have eo : (doorsOf "in" hs)[j]? = some (doorsOf "in" hs)[j] := List.getElem?_eq_getElem jlt
      refine .inr ⟨⟨_, _, SqL.of hil8, by rw [List.getElem?_map, eo]; rfl⟩, fun H' => ∃ k', k' < (doorsOf "in" hs).length - j ∧ k' = (doorsOf "in" hs).length - (j + 1) ∧ j + 1 ≤ (doorsOf "in" hs).length ∧ ∃ sv', H' D = some (.lst sv') ∧ All2 (StepAt H') sv' ((((doorsOf "out" hs).take i).flatMap fun d => (doorsOf "in" hs).map fun o => ⟨d, o, -((l : Nat) : Int)⟩) ++ ((doorsOf "in" hs).take (j + 1)).map fun o => ⟨(doorsOf "out" hs)[i], o, -((l : Nat) : Int)⟩) ∧ sv'.length ≤ 12 * i + (j + 1) ∧ Same H1 H' ∧ H' il = some (.lst ((doorsOf "in" hs).map nV)), fun H' h => h, ?_⟩
      rintro x H9 ⟨rfl, ey⟩
      have ex : x = nV (doorsOf "in" hs)[j] := by
        have := ey _ (SqL.of hil8)
        rw [List.getElem?_map, eo] at this
        exact (Option.some.inj this).symm
      subst ex
      refine ⟨rfl, yes_in ⟨_, rfl, _, rfl, _, rfl, _, rfl, (by show 3 ≤ sizeLine; decide), fun t nt => ?_⟩⟩
      have hD9 := same_new (o := .tup [nV (doorsOf "out" hs)[i], nV (doorsOf "in" hs)[j], V.int (-((l : Nat) : Int))]) nt _ _ hD8
      refine ⟨sv', hD9, small1000 (by omega), _, by omega, rfl, by omega, sv' ++ [V.ref t], upd_same, ?_, by rw [List.length_append]; show sv'.length + 1 ≤ _; omega, Same.own (s8.trans (same_new nt)) nD, by rw [upd_ne ilD]; exact same_new nt _ _ hil8⟩
      rw [show ((doorsOf "in" hs).take (j + 1)).map (fun o => (⟨(doorsOf "out" hs)[i], o, -((l : Nat) : Int)⟩ : St3)) = ((doorsOf "in" hs).take j).map (fun o => (⟨(doorsOf "out" hs)[i], o, -((l : Nat) : Int)⟩ : St3)) ++ [⟨(doorsOf "out" hs)[i], (doorsOf "in" hs)[j], -((l : Nat) : Int)⟩] by rw [List.take_add_one, eo, List.map_append]; rfl, ← List.append_assoc]
      exact ((al8.imp fun _ _ z => z.keep (TK.new nt)).snoc ⟨t, rfl, upd_same⟩).imp fun _ _ z => z.keep (TK.lst hD9)
    · have e : j = (doorsOf "in" hs).length := by omega
      subst e
      refine .inl ⟨⟨_, SqL.of hil8, by rw [List.length_map]; exact Nat.le_refl _⟩, _, by omega, rfl, by omega, sv', hD8, ?_, by omega, s8⟩
      rw [List.take_length] at al8
      rw [show ((doorsOf "out" hs).take (i + 1)).flatMap (fun d => (doorsOf "in" hs).map fun o => (⟨d, o, -((l : Nat) : Int)⟩ : St3)) = (((doorsOf "out" hs).take i).flatMap fun d => (doorsOf "in" hs).map fun o => (⟨d, o, -((l : Nat) : Int)⟩ : St3)) ++ (doorsOf "in" hs).map fun o => (⟨(doorsOf "out" hs)[i], o, -((l : Nat) : Int)⟩ : St3) by rw [List.take_add_one, ed, List.flatMap_append]; simp]
      exact al8
  · have e : i = (doorsOf "out" hs).length := by omega
    subst e
    refine .inl ⟨⟨_, SqL.of hol5, by rw [List.length_map]; exact Nat.le_refl _⟩, q D sv H5 hD ?_ (s1.trans s5)⟩
    rw [List.take_length] at al
    exact al
end
theorem lev_set {n : Nat} {f : Nat → Int} {j : Nat} {z : Int} (hj : j < n) : (levL n f).set j (V.int z) = levL n fun k => if k = j then z else f k := by
  refine List.ext_getElem? fun m => ?_
  by_cases e : m = j
  · subst e
    rw [List.getElem?_set_self (by rw [List.length_map, List.length_range]; exact hj), rg_at hj]
    show _ = some (V.int (if m = m then z else f m))
    rw [if_pos rfl]
  · rw [List.getElem?_set_ne (fun z => e z.symm)]
    by_cases l : m < n
    · rw [rg_at l, rg_at l]
      show _ = some (V.int (if m = j then z else f m))
      rw [if_neg e]
    · rw [List.getElem?_eq_none (by rw [List.length_map, List.length_range]; omega), List.getElem?_eq_none (by rw [List.length_map, List.length_range]; omega)]
theorem take_if {l : List Nat} {i j : Nat} {z : Int} {f : Nat → Int} (e : l[i]? = some j) : (fun k => if k = j then z else if k ∈ l.take i then z else f k) = fun k => if k ∈ l.take (i + 1) then z else f k := by
  funext k
  rw [List.take_add_one, e]
  show _ = if k ∈ l.take i ++ [j] then z else f k
  by_cases a : k = j
  · rw [if_pos a, if_pos (by rw [a]; exact List.mem_append_right _ (List.mem_singleton.mpr rfl))]
  · rw [if_neg a]
    by_cases b : k ∈ l.take i
    · rw [if_pos b, if_pos (List.mem_append_left _ b)]
    · rw [if_neg b, if_neg fun c => (List.mem_append.mp c).elim b fun d => a (List.mem_singleton.mp d)]
/-- what the shifts are, by levels -/
def ShOf (hs : List HR) (late : Option Nat) (lv sh : Nat → Int) : Prop := ∃ gr to : Int, (∀ k ∈ doorsOf "in" hs, sh k = 0 ∧ gr ≤ lv k) ∧ (∀ k ∈ doorsOf "out" hs, sh k = to) ∧ (∀ k, k ∉ doorsOf "in" hs → k ∉ doorsOf "out" hs → sh k = lv k - gr) ∧
  (∀ l : Nat, late = some l → to = ((l : Nat) : Int) ∧ ((∃ o ∈ doorsOf "in" hs, gr = lv o) ∨ (doorsOf "in" hs = [] ∧ ∀ d ∈ doorsOf "out" hs, lv d - ((l : Nat) : Int) ≤ gr))) ∧ (late = none → (∀ d ∈ doorsOf "out" hs, lv d ≤ to) ∧ ((∃ o ∈ doorsOf "in" hs, gr = lv o) ∨ gr = 0))
theorem door_one {hs : List HR} {k : Nat} (a : k ∈ doorsOf "in" hs) (b : k ∈ doorsOf "out" hs) : False := by
  obtain ⟨h, e1, e2⟩ := mem_doors.mp a
  obtain ⟨h', e3, e4⟩ := mem_doors.mp b
  rw [e1] at e3
  cases e3
  rw [e2] at e4
  exact absurd e4 (by decide +kernel)
section
variable {P : Program} {w : World} {K : PySem.W.Frag} {mg : Str → Option Value} {base : Heap}
def sp_shifts_by (K : PySem.W.Frag) : Sp := fun vs H Q _ => ∃ (r ll : Addr) (hs : List HR) (bs : List BR) (late : Option Nat) (lv : Nat → Int), vs = [.ref r, lateV late, .ref ll] ∧ RoomAt H r hs bs ∧ RoomOk hs bs ∧ H ll = some (.lst (levL hs.length lv)) ∧
  ∀ (p : Addr) (sh : Nat → Int) (H' : Hp), H' p = some (.tup (levL hs.length sh)) → ShOf hs late lv sh → Same H H' → Q (.ref p) H'
theorem ok_shifts_by {f : Addr} {fd : FuncData} (F : Fun K "shifts_by" "shifts_by" s_shifts_by f fd) (T : Top K mg) : FnOk P w K mg base CX0 2 f fd ["room", "late", "levels"] (sp_shifts_by K) := by
  obtain ⟨f_doors_in, fd_doors_in, F_doors_in, b_doors_in, m_doors_in⟩ := T.d_doors_in
  have G_doors_in := ok_doors_in (P := P) (w := w) (base := base) F_doors_in T
  obtain ⟨f_doors_out, fd_doors_out, F_doors_out, b_doors_out, m_doors_out⟩ := T.d_doors_out
  have G_doors_out := ok_doors_out (P := P) (w := w) (base := base) F_doors_out T
  refine F.ok sc_shifts_by (fun vs H Q E h => ?_) (fun cdv A outer s H vs Q E hr h => ?_)
  · obtain ⟨r, ll, hs, bs, late, lv, rfl, _⟩ := h
    rfl
  obtain ⟨r, ll, hs, bs, late, lv, rfl, hR, ok, hll, q⟩ := h
  have lh := ok.hands
  have d1 := doors_len (z := "out") (hs := hs)
  have d2 := doors_len (z := "in") (hs := hs)
  let R1 : TS := fun D' σ' H' => D'.rt = Q ∧ ∃ (il ol : Addr) (hi : Int), σ' = [some (.ref r), some (lateV late), some (.ref ll), some (.ref il), some (.ref ol), some (.int hi), none, none, none, none, none, none] ∧ H' il = some (.lst ((doorsOf "in" hs).map nV)) ∧ H' ol = some (.lst ((doorsOf "out" hs).map nV)) ∧ (∀ d ∈ doorsOf "out" hs, lv d ≤ hi) ∧ Same H H'
  let R2 : TS := fun D' σ' H' => D'.rt = Q ∧ ∃ (il ol : Addr) (hi to : Int), σ' = [some (.ref r), some (lateV late), some (.ref ll), some (.ref il), some (.ref ol), some (.int hi), none, some (.int to), none, none, none, none] ∧ H' il = some (.lst ((doorsOf "in" hs).map nV)) ∧ H' ol = some (.lst ((doorsOf "out" hs).map nV)) ∧ (∀ d ∈ doorsOf "out" hs, lv d ≤ hi) ∧ (late = none → to = hi) ∧ ((∀ l : Nat, late = some l → to = ((l : Nat) : Int)) ∧ (late = none → ∀ d ∈ doorsOf "out" hs, lv d ≤ to)) ∧ Same H H'
  let R3 : TS := fun D' σ' H' => D'.rt = Q ∧ ∃ (il ol : Addr) (hi to fr : Int), σ' = [some (.ref r), some (lateV late), some (.ref ll), some (.ref il), some (.ref ol), some (.int hi), none, some (.int to), some (.int fr), none, none, none] ∧ H' il = some (.lst ((doorsOf "in" hs).map nV)) ∧ H' ol = some (.lst ((doorsOf "out" hs).map nV)) ∧ ((∀ l : Nat, late = some l → to = ((l : Nat) : Int)) ∧ (late = none → ∀ d ∈ doorsOf "out" hs, lv d ≤ to)) ∧ ((∀ l : Nat, late = some l → ∀ d ∈ doorsOf "out" hs, lv d - ((l : Nat) : Int) ≤ fr) ∧ (late = none → fr = 0)) ∧ Same H H'
  let R4 : TS := fun D' σ' H' => D'.rt = Q ∧ ∃ (il ol : Addr) (hi to fr gr : Int), σ' = [some (.ref r), some (lateV late), some (.ref ll), some (.ref il), some (.ref ol), some (.int hi), none, some (.int to), some (.int fr), some (.int gr), none, none] ∧ H' il = some (.lst ((doorsOf "in" hs).map nV)) ∧ H' ol = some (.lst ((doorsOf "out" hs).map nV)) ∧ ((∀ l : Nat, late = some l → to = ((l : Nat) : Int)) ∧ (late = none → ∀ d ∈ doorsOf "out" hs, lv d ≤ to)) ∧ ((∀ l : Nat, late = some l → ∀ d ∈ doorsOf "out" hs, lv d - ((l : Nat) : Int) ≤ fr) ∧ (late = none → fr = 0)) ∧ (∀ k ∈ doorsOf "in" hs, gr ≤ lv k) ∧ ((∃ o ∈ doorsOf "in" hs, gr = lv o) ∨ (doorsOf "in" hs = [] ∧ gr = fr)) ∧ Same H H'
  refine ⟨_, (pss_cons (ps_set (i := 3) sc_shifts_by.nd rfl (Or.inl rfl) (pe_call G_doors_in (hr.mono (by decide)) (by rfl) m_doors_in F_doors_in.kp b_doors_in .nil pass0 (pa_cons (pv 0) pa_nil)))
      (pss_cons (ps_set (i := 4) sc_shifts_by.nd rfl (Or.inl rfl) (pe_call G_doors_out (hr.mono (by decide)) (by rfl) m_doors_out F_doors_out.kp b_doors_out .nil pass0 (pa_cons (pv 0) pa_nil)))
      (pss_cons (ps_set (i := 5) sc_shifts_by.nd rfl (Or.inl rfl) (pe_callBK (cr_maxDf K rfl rfl) (by rfl) T.m_max (by decide +kernel) (pa_cons (pe_lc (own := [("door", 6)]) (g := gName 6) (tt := tYes) (by rfl) sc_shifts_by.nd (pi_listK K rfl (pv 4)) (blkOk_by (own := [("door", 6)]) (N := N_shifts_by) (sc := defScope s_shifts_by) (by decide +kernel)) (fun _ _ _ _ _ => (pg_name (i := 6) sc_shifts_by.nd rfl (Or.inl rfl))) (fun _ _ _ _ _ => pts_nil) (fun _ _ _ _ _ => (pe_ix (ix_listK K rfl) (pv 2) (pv 6) (fun _ _ => rfl)))) pa_nil) (pk_cons pe_int pk_nil)))
      (PSs.to (pss_cons (ps_set (i := 7) sc_shifts_by.nd rfl (Or.inl rfl) (pe_ifExp (pt_cmpR op_isN (pv 1) pe_non (nomark _)) (pv 5) (pv 1)))
      (PSs.to (pss_cons (ps_set (i := 8) sc_shifts_by.nd rfl (Or.inl rfl) (pe_ifExp (pt_truthK K rfl (pv 4) (by intro _; rfl)) (pe_op op_sub (pv 5) (pv 7)) pe_int))
      (PSs.to (pss_cons (ps_set (i := 9) sc_shifts_by.nd rfl (Or.inr rfl) (pe_callBK (cr_minDf K rfl rfl) (by rfl) T.m_min (by decide +kernel) (pa_cons (pe_lc (own := [("door", 6)]) (g := gName 6) (tt := tYes) (by rfl) sc_shifts_by.nd (pi_listK K rfl (pv 3)) (blkOk_by (own := [("door", 6)]) (N := N_shifts_by) (sc := defScope s_shifts_by) (by decide +kernel)) (fun _ _ _ _ _ => (pg_name (i := 6) sc_shifts_by.nd rfl (Or.inl rfl))) (fun _ _ _ _ _ => pts_nil) (fun _ _ _ _ _ => (pe_ix (ix_listK K rfl) (pv 2) (pv 6) (fun _ _ => rfl)))) pa_nil) (pk_cons (pv 8) pk_nil)))
      (PSs.to (pss_cons (ps_setLc (i := 10) (own := [("level", 11)]) (g := gName 11) (tt := tYes) (by rfl) sc_shifts_by.nd rfl rfl (sw_true rfl rfl rfl (by decide +kernel)) (pi_listK K rfl (pv 2)) (blkOk_by (own := [("level", 11)]) (N := N_shifts_by) (sc := defScope s_shifts_by) (by decide +kernel)) (fun _ _ _ _ _ => (pg_name (i := 11) sc_shifts_by.nd rfl (Or.inl rfl))) (fun _ _ _ _ _ => pts_nil) (fun _ _ _ _ _ => (pe_op op_sub (pv 11) (pv 9))))
      (pss_cons (ps_for PassesOwn.never rfl (pi_listK K rfl (pv 3)) (pg_name (i := 6) sc_shifts_by.nd rfl (Or.inl rfl))
        (pss_one (ps_asg pe_int (pg_sub (pv 10) (pv 6) set_list))))
      (pss_cons (ps_for PassesOwn.never rfl (pi_listK K rfl (pv 4)) (pg_name (i := 6) sc_shifts_by.nd rfl (Or.inl rfl))
        (pss_one (ps_asg (pv 7) (pg_sub (pv 10) (pv 6) set_list))))
      (pss_one (ps_ret (pe_callTy (call_tuple_ofK K rfl) (by rfl) T.m_tuple (by decide +kernel) (pa_cons (pv 10) pa_nil))))))) R4 ?tail4)) R3 ?tail3)) R2 ?tail2)) R1 ?tail1)))), ?_⟩
  case tail4 =>
    rintro D' σ' H1 ⟨eD, il, ol, hi, to, fr, gr, rfl, hil, hol, P2, P3, P4, P5, s1⟩
    refine ⟨_, rfl, ll, rfl, ⟨_, SqL.of (s1 _ _ hll)⟩, fun D nD => lc_list (K := K) (a := ll) (xs := levL hs.length lv) (fun i H5 => H5 D = some (.lst (levL i fun k => lv k - gr)) ∧ Same H1 H5) ⟨upd_same, same_new nD⟩ (fun i H5 _ ⟨_, s5⟩ => SqL.of (s5 _ _ (s1 _ _ hll))) ?_ ?_⟩
    · rintro i x H5 hx ⟨hD, s5⟩
      have il2 := (List.getElem?_eq_some_iff.mp hx).1
      rw [List.length_map, List.length_range] at il2
      rw [rg_at il2] at hx
      obtain rfl : V.int (lv i) = x := Option.some.inj hx
      refine ⟨rfl, yes_in ⟨_, rfl, _, rfl, _, _, rfl, rfl, _, hD, by rw [List.length_map, List.length_range]; exact small1000 (by omega), ?_, Same.own s5 nD⟩⟩
      rw [upd_same]
      show _ = some (HO.lst ((List.range (i + 1)).map fun p => V.int (lv p - gr)))
      rw [List.range_succ, List.map_append]; rfl
    · rintro H2 ⟨hD, s2⟩
      rw [List.length_map, List.length_range] at hD
      have ilD : il ≠ D := ne_of_none hil nD
      have olD : ol ≠ D := ne_of_none hol nD
      refine ⟨_, rfl, il, rfl, ⟨_, SqL.of (s2 _ _ hil)⟩, for_list (K := K) (a := il) (xs := (doorsOf "in" hs).map nV) (fun i σ H3 => ∃ (v6 : Option V), σ = [some (.ref r), some (lateV late), some (.ref ll), some (.ref il), some (.ref ol), some (.int hi), v6, some (.int to), some (.int fr), some (.int gr), some (.ref D), none] ∧ H3 D = some (.lst (levL hs.length fun k => if k ∈ (doorsOf "in" hs).take i then 0 else lv k - gr)) ∧ Same H1 H3)
        ⟨none, rfl, hD, s2⟩ (fun i σ H3 _ ⟨_, _, _, s3⟩ => SqL.of (s3 _ _ hil)) ?_ ?_⟩
      · rintro i x σ H3 hx ⟨v6, rfl, hD3, s3⟩
        obtain ⟨k, ek, rfl⟩ := nats_at hx
        have kl := door_lt (List.mem_of_getElem? ek)
        refine ⟨_, rfl, _, rfl, D, _, _, k, rfl, rfl, hD3, ixN_nat (by rw [List.length_map, List.length_range]; exact kl), _, rfl, ?_, Same.own s3 nD⟩
        rw [upd_same, lev_set kl, take_if ek]
      · rintro σ H3 ⟨v6, rfl, hD3, s3⟩
        rw [List.length_map, List.take_length] at hD3
        refine ⟨_, rfl, ol, rfl, ⟨_, SqL.of (s3 _ _ hol)⟩, for_list (K := K) (a := ol) (xs := (doorsOf "out" hs).map nV) (fun i σ H3 => ∃ (v6 : Option V), σ = [some (.ref r), some (lateV late), some (.ref ll), some (.ref il), some (.ref ol), some (.int hi), v6, some (.int to), some (.int fr), some (.int gr), some (.ref D), none] ∧ H3 D = some (.lst (levL hs.length fun k => if k ∈ (doorsOf "out" hs).take i then to else if k ∈ doorsOf "in" hs then 0 else lv k - gr)) ∧ Same H1 H3)
          ⟨v6, rfl, hD3, s3⟩ (fun i σ H3 _ ⟨_, _, _, s3⟩ => SqL.of (s3 _ _ hol)) ?_ ?_⟩
        · rintro i x σ H3 hx ⟨v6, rfl, hD3, s3⟩
          obtain ⟨k, ek, rfl⟩ := nats_at hx
          have kl := door_lt (List.mem_of_getElem? ek)
          refine ⟨_, rfl, _, rfl, _, rfl, D, _, _, k, rfl, rfl, hD3, ixN_nat (by rw [List.length_map, List.length_range]; exact kl), _, rfl, ?_, Same.own s3 nD⟩
          rw [upd_same, lev_set kl, take_if ek]
        · rintro σ H3 ⟨v6, rfl, hD3, s3⟩
          rw [List.length_map, List.take_length] at hD3
          refine ⟨_, rfl, D, _, rfl, .inl ⟨SqL.of hD3, fun p np => ?_⟩⟩
          rw [eD]
          refine q p _ _ upd_same ⟨gr, to, fun k hk => ⟨?_, P4 k hk⟩, fun k hk => ?_, fun k k1 k2 => ?_, fun l el => ⟨P2.1 l el, ?_⟩, fun ln => ⟨P2.2 ln, ?_⟩⟩ ((s1.trans s3).trans (same_new np))
          · show (if k ∈ doorsOf "out" hs then to else if k ∈ doorsOf "in" hs then 0 else lv k - gr) = 0
            rw [if_neg fun z => door_one hk z, if_pos hk]
          · show (if k ∈ doorsOf "out" hs then to else if k ∈ doorsOf "in" hs then 0 else lv k - gr) = _
            rw [if_pos hk]
          · show (if k ∈ doorsOf "out" hs then to else if k ∈ doorsOf "in" hs then 0 else lv k - gr) = _
            rw [if_neg k2, if_neg k1]
          · rcases P5 with z | ⟨z, e⟩
            · exact .inl z
            · exact .inr ⟨z, fun d hd => by rw [e]; exact P3.1 l el d hd⟩
          · rcases P5 with z | ⟨z, e⟩
            · exact .inl z
            · exact .inr (by rw [e]; exact P3.2 ln)
  case tail3 =>
    rintro D' σ' H1 ⟨eD, il, ol, hi, to, fr, rfl, hil, hol, P2, P3, s1⟩
    refine ⟨_, rfl, il, rfl, ⟨_, SqL.of hil⟩, fun D nD => lc_list (K := K) (a := il) (xs := (doorsOf "in" hs).map nV) (fun i H5 => H5 D = some (.lst ((((doorsOf "in" hs).take i).map lv).map V.int)) ∧ Same H1 H5) ⟨upd_same, same_new nD⟩ (fun i H5 _ ⟨_, s5⟩ => SqL.of (s5 _ _ hil)) ?_ ?_⟩
    · rintro i x H5 hx ⟨hD, s5⟩
      obtain ⟨k, ek, rfl⟩ := nats_at hx
      have kl := door_lt (List.mem_of_getElem? ek)
      have il2 := (List.getElem?_eq_some_iff.mp ek).1
      refine ⟨rfl, yes_in ⟨_, rfl, _, rfl, ll, _, _, _, rfl, rfl, SqL.of (s5 _ _ (s1 _ _ hll)), atI_nat (rg_at kl), _, hD, by rw [List.length_map, List.length_map, List.length_take]; exact small1000 (by omega), ?_, Same.own s5 nD⟩⟩
      rw [upd_same, List.take_add_one, ek, List.map_append, List.map_append]; rfl
    · rintro H5 ⟨hD, s5⟩
      rw [List.length_map, List.take_length] at hD
      refine ⟨_, rfl, D, _, V.int fr, rfl, rfl, SqL.of hD, fun e => ?_, fun m hm hle => ?_⟩
      · have e : doorsOf "in" hs = [] := List.map_eq_nil_iff.mp e
        exact ⟨eD, il, ol, hi, to, fr, fr, rfl, s5 _ _ hil, s5 _ _ hol, P2, P3, (fun k hk => by rw [e] at hk; cases hk), .inr ⟨e, rfl⟩, s1.trans s5⟩
      · obtain ⟨o, ho, eo⟩ := List.mem_map.mp hm
        exact ⟨eD, il, ol, hi, to, fr, m, rfl, s5 _ _ hil, s5 _ _ hol, P2, P3, (fun k hk => hle _ (List.mem_map.mpr ⟨k, hk, rfl⟩)), .inl ⟨o, ho, eo.symm⟩, s1.trans s5⟩
  case tail2 =>
    rintro D' σ' H1 ⟨eD, il, ol, hi, to, rfl, hil, hol, P1, P0, P2, s1⟩
    refine ⟨_, rfl, _, .inl ⟨_, SqL.of hol, rfl⟩, if_bl (fun _ => ?_) (fun c => ?_)⟩
    · refine ⟨_, rfl, _, rfl, _, _, rfl, rfl, eD, il, ol, hi, to, hi - to, rfl, hil, hol, P2, ⟨fun l el d hd => ?_, fun ln => ?_⟩, s1⟩
      · have := P1 d hd
        have := P2.1 l el
        omega
      · have := P0 ln
        omega
    · have e : doorsOf "out" hs = [] := by
        cases e : doorsOf "out" hs with
        | nil => rfl
        | cons x l => rw [e] at c; exact absurd c (by simp)
      exact ⟨eD, il, ol, hi, to, 0, rfl, hil, hol, P2, ⟨(fun l el d hd => by rw [e] at hd; cases hd), fun _ => rfl⟩, s1⟩
  case tail1 =>
    rintro D' σ' H1 ⟨eD, il, ol, hi, rfl, hil, hol, P1, s1⟩
    cases late with
    | none => exact ⟨_, rfl, rfl, _, rfl, if_bl (fun _ => ⟨_, rfl, eD, il, ol, hi, hi, rfl, hil, hol, P1, fun _ => rfl, ⟨(fun l el => nomatch el), fun _ => P1⟩, s1⟩) (fun z => absurd rfl (of_decide_eq_false z))⟩
    | some l => exact ⟨_, rfl, rfl, _, rfl, if_bl (fun z => absurd (of_decide_eq_true z) (fun y => nomatch y)) (fun _ => ⟨_, rfl, eD, il, ol, hi, _, rfl, hil, hol, P1, (fun z => nomatch z), ⟨(fun l' el => by cases el; rfl), fun z => nomatch z⟩, s1⟩)⟩
  refine ⟨_, rfl, r, hs, bs, rfl, hR, by omega, ok.good, fun il H1 nil_ hil s1 => ?_⟩
  refine ⟨_, rfl, r, hs, bs, rfl, hR.keep (TK.same s1), by omega, ok.good, fun ol H2 nol hol s2 => ?_⟩
  have s12 := s1.trans s2
  refine ⟨_, rfl, ol, rfl, ⟨_, SqL.of hol⟩, fun D nD => lc_list (K := K) (a := ol) (xs := (doorsOf "out" hs).map nV) (fun i H5 => H5 D = some (.lst ((((doorsOf "out" hs).take i).map lv).map V.int)) ∧ Same H2 H5) ⟨upd_same, same_new nD⟩ (fun i H5 _ ⟨_, s5⟩ => SqL.of (s5 _ _ hol)) ?_ ?_⟩
  · rintro i x H5 hx ⟨hD, s5⟩
    obtain ⟨k, ek, rfl⟩ := nats_at hx
    have kl := door_lt (List.mem_of_getElem? ek)
    have il2 := (List.getElem?_eq_some_iff.mp ek).1
    refine ⟨rfl, yes_in ⟨_, rfl, _, rfl, ll, _, _, _, rfl, rfl, SqL.of (s5 _ _ (s12 _ _ hll)), atI_nat (rg_at kl), _, hD, by rw [List.length_map, List.length_map, List.length_take]; exact small1000 (by omega), ?_, Same.own s5 nD⟩⟩
    rw [upd_same, List.take_add_one, ek, List.map_append, List.map_append]; rfl
  · rintro H5 ⟨hD, s5⟩
    rw [List.length_map, List.take_length] at hD
    refine ⟨D, _, V.int 0, rfl, rfl, SqL.of hD, fun e => ?_, fun m hm hle => ?_⟩
    · have e : doorsOf "out" hs = [] := List.map_eq_nil_iff.mp e
      exact ⟨rfl, il, ol, 0, rfl, s5 _ _ (s2 _ _ hil), s5 _ _ hol, (fun d hd => by rw [e] at hd; cases hd), s12.trans s5⟩
    · exact ⟨rfl, il, ol, m, rfl, s5 _ _ (s2 _ _ hil), s5 _ _ hol, (fun d hd => hle _ (List.mem_map.mpr ⟨d, hd, rfl⟩)), s12.trans s5⟩
end
/-! ### bars -/
def ndS (T : Int) (ws : List Wy) : Int := (ws.map fun y => ndd y.c.2 T).sum
def jmpN (late : Option Nat) (e o : Nat) : Int := if e = o then 0 else match late with
  | some l => ((l : Nat) : Int)
  | none => 0
theorem jmpN_self {late : Option Nat} {e : Nat} : jmpN late e e = 0 := if_pos rfl
def costW (late : Option Nat) : Nat → List Wy → Int
  | _, [] => 0
  | e, y :: ws => jmpN late e y.one + y.c.1 + costW late y.e ws
def lastE : Nat → List Wy → Nat
  | e, [] => e
  | _, y :: ws => lastE y.e ws
theorem lastE_any : ∀ {ws : List Wy} {e e' : Nat}, ws ≠ [] → lastE e ws = lastE e' ws
  | [], _, _, h => absurd rfl h
  | y :: ws, _, _, _ => rfl
/-- a step from e to o is none, or a jump -/
def Jmp (hs : List HR) (late : Option Nat) (e o : Nat) : Prop := e = o ∨ (late.isSome = true ∧ e ∈ doorsOf "out" hs ∧ o ∈ doorsOf "in" hs)
def okW (hs : List HR) (late : Option Nat) : Nat → List Wy → Prop
  | _, [] => True
  | e, y :: ws => Jmp hs late e y.one ∧ okW hs late y.e ws
structure Bar (hs : List HR) (bs : List BR) (late : Option Nat) (T : Int) (ws : List Wy) : Prop where
  ne : ws ≠ []
  ok : ∀ y ∈ ws, WyOk hs bs y
  go : okW hs late (lastE 0 ws) ws
  hv : costW late (lastE 0 ws) ws < ndS T ws
def waysOf (ys : List Wy) (ks : List Nat) : List Wy := ks.filterMap fun k => ys[k]?
theorem waysOf_some {ys : List Wy} {k : Nat} {ks : List Nat} {y : Wy} (e : ys[k]? = some y) : waysOf ys (k :: ks) = y :: waysOf ys ks := by
  unfold waysOf
  rw [List.filterMap_cons, e]
theorem waysOf_none {ys : List Wy} {k : Nat} {ks : List Nat} (e : ys[k]? = none) : waysOf ys (k :: ks) = waysOf ys ks := by
  unfold waysOf
  rw [List.filterMap_cons, e]
theorem wS_some {st : List St3} {k : Nat} {s : St3} (e : st[k]? = some s) : wS st k = s.w := by
  unfold wS
  rw [e]
theorem door_one' {hs : List HR} {k : Nat} (a : k ∈ doorsOf "in" hs) (b : k ∈ doorsOf "out" hs) : False := by
  obtain ⟨h, e1, e2⟩ := mem_doors.mp a
  obtain ⟨h', e3, e4⟩ := mem_doors.mp b
  rw [e1] at e3
  cases e3
  rw [e2] at e4
  exact absurd e4 (by decide +kernel)
theorem scan {hs : List HR} {ys : List Wy} {late : Option Nat} {T : Int} : ∀ (ks : List Nat) (p q e : Nat), stepEnd (stepsOf hs ys late T) p ks = some q → Jmp hs late e p →
    Jmp hs late (lastE e (waysOf ys ks)) q ∧ okW hs late e (waysOf ys ks) ∧ costW late e (waysOf ys ks) + jmpN late (lastE e (waysOf ys ks)) q + (ks.map (wS (stepsOf hs ys late T))).sum = ndS T (waysOf ys ks) + jmpN late e p
  | [], p, q, e, h, j => by
    cases h
    refine ⟨j, trivial, ?_⟩
    show (0 : Int) + jmpN late e p + 0 = 0 + jmpN late e p
    omega
  | k :: ks, p, q, e, h, j => by
    cases es : (stepsOf hs ys late T)[k]? with
    | none =>
      have : stepEnd (stepsOf hs ys late T) p (k :: ks) = none := by
        show (match (stepsOf hs ys late T)[k]? with | some s => if s.u = p then stepEnd (stepsOf hs ys late T) s.v ks else none | none => none) = none
        rw [es]
      rw [this] at h; cases h
    | some s =>
    rw [stepEnd_cons es] at h
    by_cases z : s.u = p
    · rw [if_pos z] at h
      rw [List.map_cons, List.sum_cons, wS_some es]
      cases ey : ys[k]? with
      | some y =>
        have kl := (List.getElem?_eq_some_iff.mp ey).1
        have e1 : (stepsOf hs ys late T)[k]? = some (wStep T y) := by
          unfold stepsOf
          rw [List.getElem?_append_left (by rw [List.length_map]; exact kl), List.getElem?_map, ey]
          rfl
        rw [e1] at es
        cases es
        have z : y.one = p := z
        obtain ⟨i1, i2, i3⟩ := scan ks y.e q y.e h (.inl rfl)
        rw [waysOf_some ey]
        refine ⟨i1, ⟨by rw [z]; exact j, i2⟩, ?_⟩
        rw [jmpN_self] at i3
        show jmpN late e y.one + y.c.1 + costW late y.e (waysOf ys ks) + jmpN late (lastE y.e (waysOf ys ks)) q + ((ndd y.c.2 T - y.c.1) + (ks.map (wS (stepsOf hs ys late T))).sum) = ((y :: waysOf ys ks).map fun y => ndd y.c.2 T).sum + jmpN late e p
        rw [List.map_cons, List.sum_cons, z]
        have i3' : costW late y.e (waysOf ys ks) + jmpN late (lastE y.e (waysOf ys ks)) q + (ks.map (wS (stepsOf hs ys late T))).sum = ((waysOf ys ks).map fun y => ndd y.c.2 T).sum + 0 := i3
        omega
      | none =>
        have kl : ys.length ≤ k := List.getElem?_eq_none_iff.mp ey
        have e1 : (jumpsOf hs late)[k - ys.length]? = some s := by
          unfold stepsOf at es
          rw [List.getElem?_append_right (by rw [List.length_map]; exact kl), List.length_map] at es
          exact es
        have m := List.mem_of_getElem? e1
        cases late with
        | none => exact nomatch m
        | some l =>
        obtain ⟨d, hd, h2⟩ := List.mem_flatMap.mp m
        obtain ⟨o, ho, rfl⟩ := List.mem_map.mp h2
        have z : d = p := z
        subst z
        have ed : e = d := by
          rcases j with j | ⟨_, _, j⟩
          · exact j
          · exact (door_one' j hd).elim
        subst ed
        have ne : e ≠ o := fun c => door_one' ho (c ▸ hd)
        obtain ⟨i1, i2, i3⟩ := scan ks o q e h (.inr ⟨rfl, hd, ho⟩)
        rw [waysOf_none ey]
        refine ⟨i1, i2, ?_⟩
        have e2 : jmpN (some l) e o = ((l : Nat) : Int) := if_neg ne
        rw [e2] at i3
        rw [jmpN_self]
        show costW (some l) e (waysOf ys ks) + jmpN (some l) (lastE e (waysOf ys ks)) q + (-((l : Nat) : Int) + _) = _
        omega
    · rw [if_neg z] at h; cases h
theorem RingOk.bar {hs : List HR} {bs : List BR} {ys : List Wy} {late : Option Nat} {T : Int} {ks : List Nat} (aw : AllWays hs bs ys) (r : RingOk (stepsOf hs ys late T) ks) : Bar hs bs late T (waysOf ys ks) := by
  obtain ⟨p, hp⟩ := r.cl
  have pos := r.pos
  obtain ⟨a1, a2, a3⟩ := scan ks p p p hp (.inl rfl)
  have ne : waysOf ys ks ≠ [] := fun z => by
    rw [z] at a3
    have a3 : (0 : Int) + jmpN late p p + _ = 0 + jmpN late p p := a3
    rw [jmpN_self] at a3
    omega
  rw [lastE_any ne (e' := 0)] at a1
  obtain ⟨b1, b2, b3⟩ := scan ks p p (lastE 0 (waysOf ys ks)) hp a1
  rw [lastE_any (e := lastE 0 (waysOf ys ks)) (e' := 0) ne] at b3
  refine ⟨ne, fun y hy => ?_, b2, by omega⟩
  obtain ⟨k, _, hk⟩ := List.mem_filterMap.mp hy
  exact aw.ok y (List.mem_of_getElem? hk)
def FAl (hs : List HR) (bs : List BR) (late : Option Nat) (T : Int) (lv : Nat → Int) : Prop := (∀ one e c, one < hs.length → best hs bs one e = some c → lv one + (ndd c.2 T - c.1) ≤ lv e) ∧ ∀ l, late = some l → ∀ d ∈ doorsOf "out" hs, ∀ o ∈ doorsOf "in" hs, lv d - ((l : Nat) : Int) ≤ lv o
theorem feas_lv {hs : List HR} {bs : List BR} {ys : List Wy} {late : Option Nat} {T : Int} {lv : Nat → Int} (aw : AllWays hs bs ys) (f : ∀ s ∈ stepsOf hs ys late T, lv s.u + s.w ≤ lv s.v) : FAl hs bs late T lv := by
  refine ⟨fun one e c h1 h2 => ?_, fun l el d hd o ho => ?_⟩
  · obtain ⟨y, y1, rfl, rfl⟩ := aw.all one e c h1 h2
    have := (aw.ok y y1).b
    rw [h2] at this
    cases this
    exact f (wStep T y) (List.mem_append_left _ (List.mem_map.mpr ⟨y, y1, rfl⟩))
  · subst el
    have := f ⟨d, o, -((l : Nat) : Int)⟩ (List.mem_append_right _ (List.mem_flatMap.mpr ⟨d, hd, List.mem_map.mpr ⟨o, ho, rfl⟩⟩))
    have : lv d + -((l : Nat) : Int) ≤ lv o := this
    omega
/-- shifts that come of levels -/
def Shf (hs : List HR) (bs : List BR) (late : Option Nat) (T : Int) (sh : Nat → Int) : Prop := ∃ lv : Nat → Int, FAl hs bs late T lv ∧ ShOf hs late lv sh ∧ ∀ q, 0 ≤ lv q
theorem Shf.fa {hs : List HR} {bs : List BR} {late : Option Nat} {T : Int} {sh : Nat → Int} (h : Shf hs bs late T sh) : FA hs bs late T := by
  obtain ⟨lv, f, _⟩ := h
  exact ⟨lv, f⟩
theorem ndd_le {m T T' : Int} (h : T ≤ T') : ndd m T' ≤ ndd m T := by
  unfold ndd
  split <;> split <;> omega
theorem FA.mono {hs : List HR} {bs : List BR} {late : Option Nat} {T T' : Int} (h : T ≤ T') (f : FA hs bs late T) : FA hs bs late T' := by
  obtain ⟨lv, f, g⟩ := f
  refine ⟨lv, fun one e c h1 h2 => ?_, g⟩
  have := f one e c h1 h2
  have := ndd_le (m := c.2) h
  omega
theorem best_tr {hs : List HR} {bs : List BR} {rk : Nat → Int} {one e : Nat} {c : Co} (hrk : ∀ b ∈ bs, b.th = [] → rk b.one < rk b.to) (h : best hs bs one e = some c) : 0 ≤ c.1 := by
  obtain ⟨ns, w1, w2⟩ := cfI_snd _ e c h
  have := (way_rank hrk w1).1
  rw [← w2]
  exact this
theorem FA.high {hs : List HR} {bs : List BR} {rk : Nat → Int} {late : Option Nat} {T : Int} (hrk : ∀ b ∈ bs, b.th = [] → rk b.one < rk b.to) (h : ∀ one e c, one < hs.length → best hs bs one e = some c → c.1 = 0 → c.2 ≤ T) : FA hs bs late T := by
  refine ⟨fun _ => 0, fun one e c h1 h2 => ?_, fun l _ d _ o _ => by show (0 : Int) - ((l : Nat) : Int) ≤ 0; omega⟩
  have t := best_tr hrk h2
  have := h one e c h1 h2
  show (0 : Int) + (ndd c.2 T - c.1) ≤ 0
  unfold ndd
  split <;> omega
/-- a way at its place -/
def PrAt (H : Hp) (v : V) (y : Wy) : Prop := ∃ p : Addr, v = .ref p ∧ WayAt H p y.one y.ns
theorem PrAt.keep {H H' : Hp} {v : V} {y : Wy} (h : PrAt H v y) (k : TK H H') : PrAt H' v y := by
  obtain ⟨p, e, h2⟩ := h
  exact ⟨p, e, h2.keep k⟩
theorem waysOf_take {ys : List Wy} {ks : List Nat} {i k : Nat} (e : ks[i]? = some k) : waysOf ys (ks.take (i + 1)) = waysOf ys (ks.take i) ++ (ys[k]?).toList := by
  unfold waysOf
  rw [List.take_add_one, e, List.filterMap_append]
  cases h : ys[k]? <;> simp [h]
theorem waysOf_len {ys : List Wy} {ks : List Nat} : (waysOf ys ks).length ≤ ks.length := List.length_filterMap_le ..
section
variable {P : Program} {w : World} {K : PySem.W.Frag} {mg : Str → Option Value} {base : Heap}
def sp_paper_by (K : PySem.W.Frag) : Sp := fun vs H Q _ => ∃ (r wl : Addr) (hs : List HR) (bs : List BR) (late : Option Nat) (T : Int) (yv : List V) (ys : List Wy), vs = [.ref r, lateV late, .int T, .ref wl] ∧ RoomAt H r hs bs ∧ RoomOk hs bs ∧ H wl = some (.lst yv) ∧ All2 (WyAt H) yv ys ∧ AllWays hs bs ys ∧
  (∀ (p p' : Addr) (sh : Nat → Int) (H' : Hp), H' p = some (.tup [.str "shifts", .ref p']) → H' p' = some (.tup (levL hs.length sh)) → Shf hs bs late T sh → Same H H' → Q (.ref p) H') ∧ ∀ (p p' : Addr) (pv : List V) (ws : List Wy) (H' : Hp), H' p = some (.tup [.str "bar", .ref p']) → H' p' = some (.tup pv) → All2 (PrAt H') pv ws → ws.length ≤ hs.length → Bar hs bs late T ws → ¬ FA hs bs late T → Same H H' → Q (.ref p) H'
theorem ok_paper_by {f : Addr} {fd : FuncData} (F : Fun K "paper_by" "paper_by" s_paper_by f fd) (T : Top K mg) : FnOk P w K mg base CX0 3 f fd ["room", "late", "time", "ways"] (sp_paper_by K) := by
  obtain ⟨f_levels_or_ring, fd_levels_or_ring, F_levels_or_ring, b_levels_or_ring, m_levels_or_ring⟩ := T.d_levels_or_ring
  have G_levels_or_ring := ok_levels_or_ring (P := P) (w := w) (base := base) F_levels_or_ring T
  obtain ⟨f_jumps, fd_jumps, F_jumps, b_jumps, m_jumps⟩ := T.d_jumps
  have G_jumps := ok_jumps (P := P) (w := w) (base := base) F_jumps T
  obtain ⟨f_shifts_by, fd_shifts_by, F_shifts_by, b_shifts_by, m_shifts_by⟩ := T.d_shifts_by
  have G_shifts_by := ok_shifts_by (P := P) (w := w) (base := base) F_shifts_by T
  obtain ⟨f_needed, fd_needed, F_needed, b_needed, m_needed⟩ := T.d_needed
  have G_needed := ok_needed (P := P) (w := w) (base := base) F_needed T
  refine F.ok sc_paper_by (fun vs H Q E h => ?_) (fun cdv A outer s H vs Q E hr h => ?_)
  · obtain ⟨r, wl, hs, bs, late, T', yv, ys, rfl, _⟩ := h
    rfl
  obtain ⟨r, wl, hs, bs, late, T', yv, ys, rfl, hR, ok, hwl, aly, aw, q1, q2⟩ := h
  obtain ⟨ha, ba, hv, bv, er, eh, eb, alh, alb⟩ := hR.ex
  have lhv := alh.length
  have lh := ok.hands
  have lys := aly.length
  have few := aw.few
  have hto : ∀ b ∈ bs, b.to < hs.length := fun b hb => (ok.ends b hb).2
  let R1 : TS := fun D' σ' H' => D'.rt = Q ∧ σ' = [some (.ref r), some (lateV late), some (.int T'), some (.ref wl), none, none, none, none, none, none, none, none] ∧ H' = H
  refine ⟨_, (PSs.to (pss_cons (ps_setLc (i := 4) (own := [("trays", 5), ("moments", 6), ("way", 7), ("end", 8)]) (g := gTup K 4 (gCons (gName 5) (gCons (gName 6) (gCons (gName 7) (gCons (gName 8) gNil))))) (tt := tYes) (by rfl) sc_paper_by.nd rfl rfl (sw_true rfl rfl rfl (by decide +kernel)) (pi_listK K rfl (pv 3)) (blkOk_by (own := [("trays", 5), ("moments", 6), ("way", 7), ("end", 8)]) (N := N_paper_by) (sc := defScope s_paper_by) (by decide +kernel)) (fun _ _ _ _ _ => (pg_tupK K rfl rfl (pgs_cons (pg_name (i := 5) sc_paper_by.nd rfl (Or.inl rfl)) (pgs_cons (pg_name (i := 6) sc_paper_by.nd rfl (Or.inl rfl)) (pgs_cons (pg_name (i := 7) sc_paper_by.nd rfl (Or.inl rfl)) (pgs_cons (pg_name (i := 8) sc_paper_by.nd rfl (Or.inl rfl)) pgs_nil)))))) (fun _ _ _ _ _ => pts_nil) (fun _ _ _ _ _ => (pe_tup (pa_cons (pe_ix (ix_tupK K rfl) (pv 7) pe_int (fun _ _ => rfl)) (pa_cons (pv 8) (pa_cons (pe_op op_sub (pe_call G_needed (hr.mono (by decide)) (by rfl) m_needed F_needed.kp b_needed .nil pass0 (pa_cons (pv 6) (pa_cons (pv 2) pa_nil))) (pv 5)) pa_nil))))))
      (pss_cons (ps_expr (pe_bmK K rfl PySem.F.plainAttrs_list PySem.F.slot_list_extend PySem.F.type_list_extend mt_extend (pv 4) (pa_cons (pe_call G_jumps (hr.mono (by decide)) (by rfl) m_jumps F_jumps.kp b_jumps .nil pass0 (pa_cons (pv 0) (pa_cons (pv 1) pa_nil))) pa_nil)))
      (pss_cons (ps_asg (pe_call G_levels_or_ring (hr.mono (by decide)) (by rfl) m_levels_or_ring F_levels_or_ring.kp b_levels_or_ring .nil pass0 (pa_cons (pe_callB (call_len_seqK K rfl) (by rfl) T.m_len (by decide +kernel) (pa_cons (pe_ix (ix_tupK K rfl) (pv 0) pe_int (fun _ _ => rfl)) pa_nil)) (pa_cons (pv 4) pa_nil))) (pg_tupK K rfl rfl (pgs_cons (pg_name (i := 9) sc_paper_by.nd rfl (Or.inl rfl)) (pgs_cons (pg_name (i := 10) sc_paper_by.nd rfl (Or.inl rfl)) pgs_nil))))
      (pss_cons (ps_if (pt_cmpR op_isN (pv 10) pe_non (nomark _)) (pss_one (ps_ret (pe_tup (pa_cons pe_str (pa_cons (pe_call G_shifts_by (hr.mono (by decide)) (by rfl) m_shifts_by F_shifts_by.kp b_shifts_by .nil pass0 (pa_cons (pv 0) (pa_cons (pv 1) (pa_cons (pv 9) pa_nil)))) pa_nil))))) pss_nil)
      (pss_one (ps_ret (pe_tup (pa_cons pe_str (pa_cons (pe_callTy (call_tuple_ofK K rfl) (by rfl) T.m_tuple (by decide +kernel) (pa_cons (pe_lc (own := [("number", 11)]) (g := gName 11) (by rfl) sc_paper_by.nd (pi_listK K rfl (pv 10)) (blkOk_by (own := [("number", 11)]) (N := N_paper_by) (sc := defScope s_paper_by) (by decide +kernel)) (fun _ _ _ _ _ => (pg_name (i := 11) sc_paper_by.nd rfl (Or.inl rfl))) (fun _ _ _ _ _ => pts_one (pt_cmpR op_lt (pv 11) (pe_callB (call_len_seqK K rfl) (by rfl) T.m_len (by decide +kernel) (pa_cons (pv 3) pa_nil)) (nomark _))) (fun _ _ _ _ _ => (pe_ix (ix_tupK K rfl) (pe_ix (ix_listK K rfl) (pv 3) (pv 11) (fun _ _ => rfl)) pe_int (fun _ _ => rfl)))) pa_nil)) pa_nil))))))))) R1 ?tail1), ⟨rfl, rfl, rfl⟩⟩
  rintro D' σ' H0 ⟨eD, rfl, rfl⟩
  refine ⟨_, rfl, wl, rfl, ⟨_, SqL.of hwl⟩, fun D nD => lc_list (K := K) (a := wl) (xs := yv) (fun i H5 => ∃ sv : List V, H5 D = some (.lst sv) ∧ All2 (StepAt H5) sv ((ys.take i).map (wStep T')) ∧ Same H0 H5) ⟨[], upd_same, .nil, same_new nD⟩ (fun i H5 _ ⟨_, _, _, s5⟩ => SqL.of (s5 _ _ hwl)) ?_ ?_⟩
  · rintro i x H5 hx ⟨sv, hD, al, s5⟩
    obtain ⟨y, ey, ⟨t, p, rfl, ht, ⟨g, ep, eg⟩⟩⟩ := aly.getL hx
    have il := (List.getElem?_eq_some_iff.mp ey).1
    refine ⟨t, _, rfl, SqT.of (s5 _ _ ht), rfl, ?_⟩
    refine ⟨_, _, rfl, ?_⟩
    refine ⟨_, _, rfl, ?_⟩
    refine ⟨_, _, rfl, ?_⟩
    refine ⟨_, _, rfl, rfl, ?_⟩
    refine ⟨rfl, ?_⟩
    refine yes_in ?_
    refine ⟨_, rfl, p, _, _, _, rfl, rfl, SqT.of (s5 _ _ ep), atI_nat (j := 0) rfl, _, rfl, _, rfl, _, rfl, y.c.2, T', rfl, _, rfl, _, _, rfl, rfl, (by show 3 ≤ sizeLine; decide), fun t3 nt3 => ?_⟩
    have hD6 := same_new (o := .tup [nV y.one, nV y.e, V.int (ndd y.c.2 T' - y.c.1)]) nt3 _ _ hD
    refine ⟨sv, hD6, ?_, sv ++ [V.ref t3], upd_same, ?_, Same.own (s5.trans (same_new nt3)) nD⟩
    · have := al.length
      rw [List.length_map, List.length_take] at this
      exact small1000 (by omega)
    · rw [show (ys.take (i + 1)).map (wStep T') = (ys.take i).map (wStep T') ++ [wStep T' y] by rw [List.take_add_one, ey, List.map_append]; rfl]
      exact ((al.imp fun _ _ z => z.keep (TK.new nt3)).snoc ⟨t3, rfl, upd_same⟩).imp fun _ _ z => z.keep (TK.lst hD6)
  rintro H1 ⟨sv, hD, al, s1⟩
  rw [lys, List.take_length] at al
  have lsv := al.length
  rw [List.length_map] at lsv
  refine ⟨_, rfl, .inl ⟨rfl, _, SqL.of hD⟩, _, rfl, _, rfl, r, hs, bs, late, rfl, hR.keep (TK.same s1), ok, fun jl sv2 H2 hjl al2 s2 => ?_⟩
  have jn := jumps_len (late := late) lh
  have lsv2 := al2.length
  have hD2 := s2 _ _ hD
  refine ⟨D, jl, sv, sv2, rfl, rfl, hD2, hjl, little (by omega), ?_⟩
  have s3 : Same H0 (upd H2 D (.lst (sv ++ sv2))) := Same.own (s1.trans s2) nD
  have k3 : TK H2 (upd H2 D (.lst (sv ++ sv2))) := TK.lst hD2
  have All2.app : ∀ {R : V → St3 → Prop} {as cs : List V} {bs ds : List St3}, All2 R as bs → All2 R cs ds → All2 R (as ++ cs) (bs ++ ds) := fun {R as cs bs ds} a b => by
    induction a with
    | nil => exact b
    | cons h t ih => exact .cons h ih
  have st3 : StepsAt (upd H2 D (.lst (sv ++ sv2))) D (stepsOf hs ys late T') := ⟨_, upd_same, All2.app (al.imp fun _ _ z => z.keep ((TK.same s2).trans k3)) (al2.imp fun _ _ z => z.keep k3)⟩
  have bd : ∀ s ∈ stepsOf hs ys late T', s.u < hv.length ∧ s.v < hv.length := fun s hs' => by
    rw [lhv]
    rcases List.mem_append.mp hs' with h | h
    · obtain ⟨y, y1, rfl⟩ := List.mem_map.mp h
      have o := aw.ok y y1
      exact ⟨o.lt, best_lt hto o.lt o.b⟩
    · exact jumps_bd s h
  have ls : (stepsOf hs ys late T').length ≤ 400 := by
    unfold stepsOf
    rw [List.length_append, List.length_map]
    omega
  refine ⟨_, rfl, r, _, _, _, rfl, rfl, SqT.of (s3 _ _ er), atI_nat (j := 0) rfl, ha, _, rfl, .inr (SqT.of (s3 _ _ eh)), _, rfl, D, hv.length, stepsOf hs ys late T', rfl, st3, bd, ls, by omega, fun p ll lv H4 hp hll fe nn s4 => ?_, fun p rl ks H4 hp hrl ring lk s4 => ?_⟩
  · refine ⟨p, _, rfl, SqT.of hp, rfl, _, _, rfl, _, _, rfl, rfl, ?_⟩
    refine ⟨_, rfl, rfl, _, rfl, if_bl (fun _ => ?_) (fun z => absurd rfl (of_decide_eq_false z))⟩
    have s04 := s3.trans s4
    rw [lhv] at hll
    refine ⟨_, rfl, _, rfl, _, rfl, r, ll, hs, bs, late, lv, rfl, hR.keep (TK.same s04), ok, hll, fun p3 sh H5 hp3 so s5 => ⟨(by show 2 ≤ sizeLine; decide), fun p4 np4 => ?_⟩⟩
    rw [eD]; exact q1 p4 p3 sh _ upd_same (same_new np4 _ _ hp3) ⟨lv, feas_lv aw fe, so, nn⟩ ((s04.trans s5).trans (same_new np4))
  · refine ⟨p, _, rfl, SqT.of hp, rfl, _, _, rfl, _, _, rfl, rfl, ?_⟩
    refine ⟨_, rfl, rfl, _, rfl, if_bl (fun z => absurd (of_decide_eq_true z) (fun y => nomatch y)) (fun _ => ?_)⟩
    have s04 := s3.trans s4
    refine ⟨_, rfl, rl, rfl, ⟨_, SqL.of hrl⟩, fun D2 nD2 => lc_list (K := K) (a := rl) (xs := ks.map nV) (fun i H5 => ∃ bv : List V, H5 D2 = some (.lst bv) ∧ All2 (PrAt H5) bv (waysOf ys (ks.take i)) ∧ Same H4 H5) ⟨[], upd_same, .nil, same_new nD2⟩ (fun i H5 _ ⟨_, _, _, s5⟩ => SqL.of (s5 _ _ hrl)) ?_ ?_⟩
    · rintro i x H5 hx ⟨bv', hD2, lb, s5⟩
      obtain ⟨k, ek, rfl⟩ := nats_at hx
      have il := (List.getElem?_eq_some_iff.mp ek).1
      have s05 := s04.trans s5
      have hwl5 := s05 _ _ hwl
      have lbv := lb.length
      have lw := waysOf_len (ys := ys) (ks := ks.take i)
      rw [List.length_take] at lw
      refine ⟨rfl, _, rfl, _, rfl, wl, _, rfl, .inl (SqL.of hwl5), _, _, rfl, rfl, _, rfl, if_bl (fun c => ?_) (fun c => ⟨bv', hD2, ?_, s5⟩)⟩
      · have c : ((k : Nat) : Int) < ((yv.length : Nat) : Int) := of_decide_eq_true c
        have ekv : yv[k]? = some yv[k] := List.getElem?_eq_getElem (by omega)
        obtain ⟨y, ey, ⟨t, p', e1, ht, hP⟩⟩ := aly.getL ekv
        rw [e1] at ekv
        refine ⟨_, rfl, _, rfl, wl, _, _, _, rfl, rfl, SqL.of hwl5, atI_nat ekv, t, _, _, _, rfl, rfl, SqT.of (s05 _ _ ht), atI_nat (j := 2) rfl, bv', hD2, small1000 (by omega), bv' ++ [V.ref p'], upd_same, ?_, Same.own s5 nD2⟩
        rw [waysOf_take ek, ey]
        exact (lb.snoc ⟨p', rfl, hP.keep (TK.same s05)⟩).imp fun _ _ z => z.keep (TK.lst hD2)
      · have c : ¬ ((k : Nat) : Int) < ((yv.length : Nat) : Int) := of_decide_eq_false c
        have : ys[k]? = none := List.getElem?_eq_none_iff.mpr (by omega)
        rw [waysOf_take ek, this]
        show All2 (PrAt H5) bv' (waysOf ys (ks.take i) ++ [])
        rw [List.append_nil]
        exact lb
    · rintro H5 ⟨bv', hD2, lb, s5⟩
      rw [List.length_map, List.take_length] at lb
      refine ⟨D2, _, rfl, .inl ⟨SqL.of hD2, fun p3 np3 => ⟨(by show 2 ≤ sizeLine; decide), fun p4 np4 => ?_⟩⟩⟩
      have lw := waysOf_len (ys := ys) (ks := ks)
      rw [eD]; exact q2 p4 p3 _ (waysOf ys ks) _ upd_same (same_new np4 _ _ upd_same) (lb.imp fun _ _ z => z.keep ((TK.new np3).trans (TK.new np4))) (by omega) (ring.bar aw) (fun f => ring.not_feas ((feas_iff aw).mpr f)) (((s04.trans s5).trans (same_new np3)).trans (same_new np4))
end
/-! ### ways and levels -/
theorem best_way {hs : List HR} {bs : List BR} (ok : RoomOk hs bs) {one e : Nat} {ns : List Nat} (ho : one < hs.length) (h : wayEnd bs one ns = some e) : ∃ c, best hs bs one e = some c ∧ coLe c (wayCo hs bs one ns) := by
  obtain ⟨rk, hrk⟩ := ok.rank
  obtain ⟨ms, l, h1, h2⟩ := way_short (hs := hs) hrk (fun b hb => (ok.ends b hb).2) ho ns.length ns e (Nat.le_refl _) h
  obtain ⟨c, h3, h4⟩ := cfI_cpl (hs := hs) (bs := bs) (one := one) hs.length ms e l h1
  exact ⟨c, h3, h4.trans h2⟩
def Wl (hs : List HR) (bs : List BR) (T : Int) (lv : Nat → Int) : Prop := ∀ one ns e, one < hs.length → wayEnd bs one ns = some e → lv one + (ndd (wayCo hs bs one ns).2 T - (wayCo hs bs one ns).1) ≤ lv e
def Dl (hs : List HR) (late : Option Nat) (lv : Nat → Int) : Prop := ∀ l, late = some l → ∀ d ∈ doorsOf "out" hs, ∀ o ∈ doorsOf "in" hs, lv d - ((l : Nat) : Int) ≤ lv o
theorem fal_iff {hs : List HR} {bs : List BR} {late : Option Nat} {T : Int} {lv : Nat → Int} (ok : RoomOk hs bs) : FAl hs bs late T lv ↔ Wl hs bs T lv ∧ Dl hs late lv := by
  constructor
  · rintro ⟨f, g⟩
    refine ⟨fun one ns e ho h => ?_, g⟩
    obtain ⟨c, h1, h2⟩ := best_way ok ho h
    have := f one e c ho h1
    unfold ndd at *
    unfold coLe at h2
    split at this <;> split <;> omega
  · rintro ⟨f, g⟩
    refine ⟨fun one e c ho h => ?_, g⟩
    obtain ⟨ns, w1, w2⟩ := cfI_snd _ e c h
    have := f one ns e ho w1
    rw [w2] at this
    exact this
theorem wayEnd_none {bs : List BR} {n k : Nat} {ns : List Nat} (e : bs[n]? = none) : wayEnd bs k (n :: ns) = none := by
  show (match bs[n]? with | some b => if b.one = k then wayEnd bs b.to ns else none | none => none) = none
  rw [e]
theorem to_in {hs : List HR} {bs : List BR} (ok : RoomOk hs bs) {b : BR} (hb : b ∈ bs) : b.to ∉ doorsOf "in" hs := fun z => by
  obtain ⟨h, e1, e2⟩ := mem_doors.mp z
  have c := ok.count b.to h e1
  have p := List.count_pos_iff.mpr (List.mem_map.mpr ⟨b, hb, rfl⟩ : b.to ∈ bs.map BR.to)
  rw [e2, show needs "in" = 0 by decide +kernel] at c
  omega
theorem one_out {hs : List HR} {bs : List BR} (ok : RoomOk hs bs) {b : BR} (hb : b ∈ bs) : b.one ∉ doorsOf "out" hs := fun z => by
  obtain ⟨h, e1, e2⟩ := mem_doors.mp z
  exact ok.out b hb h e1 e2
/-- shifts that reach a time by a lateness, or any -/
structure Rch (hs : List HR) (bs : List BR) (late : Option Nat) (T : Int) (sh : Nat → Int) : Prop where
  ins : ∀ k ∈ doorsOf "in" hs, sh k = 0
  outs : ∃ to : Int, (∀ k ∈ doorsOf "out" hs, sh k = to) ∧ (∀ l : Nat, late = some l → to = ((l : Nat) : Int)) ∧ (late = none → doorsOf "out" hs ≠ [] → 0 ≤ to)
  ways : Wl hs bs T sh
theorem Shf.rch {hs : List HR} {bs : List BR} {late : Option Nat} {T : Int} {sh : Nat → Int} (ok : RoomOk hs bs) (s : Shf hs bs late T sh) : Rch hs bs late T sh := by
  obtain ⟨lv, f, ⟨gr, to, g1, g2, g3, g4, g5⟩, nn⟩ := s
  have f := (fal_iff ok).mp f
  -- out doors lie no lower than their levels
  have low : ∀ d ∈ doorsOf "out" hs, lv d - gr ≤ to := fun d hd => by
    cases late with
    | some l =>
      obtain ⟨e, z⟩ := g4 l rfl
      rcases z with ⟨o, ho, eo⟩ | ⟨_, g6⟩
      · have := f.2 l rfl d hd o ho; omega
      · have := g6 d hd; omega
    | none =>
      obtain ⟨e, z⟩ := g5 rfl
      have := e d hd
      rcases z with ⟨o, ho, eo⟩ | z
      · have := nn o; omega
      · omega
  refine ⟨fun k hk => (g1 k hk).1, ⟨to, g2, fun l el => (g4 l el).1, fun ln ne => ?_⟩, fun one ns e ho h => ?_⟩
  · obtain ⟨d, hd⟩ := List.exists_mem_of_ne_nil _ ne
    have := (g5 ln).1 d hd
    have := nn d
    omega
  have st := f.1 one ns e ho h
  rcases ns with _ | ⟨n, ns⟩
  · cases h
    omega
  · have no1 : one ∉ doorsOf "out" hs := by
      cases eb : bs[n]? with
      | none =>
        rw [wayEnd_none eb] at h; cases h
      | some b =>
        rw [wayEnd_cons eb] at h
        by_cases z : b.one = one
        · rw [← z]; exact one_out ok (List.mem_of_getElem? eb)
        · rw [if_neg z] at h; cases h
    have no2 : e ∉ doorsOf "in" hs := by
      rcases List.eq_nil_or_concat (n :: ns) with z | ⟨ms, n', z⟩
      · cases z
      · rw [z, List.concat_eq_append] at h
        obtain ⟨b, eb, _, h2⟩ := wayEnd_unsnoc h
        rw [← h2]; exact to_in ok (List.mem_of_getElem? eb)
    have a1 : sh one ≤ lv one - gr := by
      by_cases z : one ∈ doorsOf "in" hs
      · have := g1 one z; omega
      · rw [g3 one z no1]; omega
    have a2 : lv e - gr ≤ sh e := by
      by_cases z : e ∈ doorsOf "out" hs
      · rw [g2 e z]; exact low e z
      · rw [g3 e no2 z]; omega
    omega
def trS (sh : Nat → Int) (b : BR) : Int := (b.th.length : Int) + sh b.to - sh b.one
theorem Rch.trays {hs : List HR} {bs : List BR} {l : Option Nat} {T : Int} {sh : Nat → Int} (ok : RoomOk hs bs) (r : Rch hs bs l T sh) {b : BR} (hb : b ∈ bs) : 0 ≤ trS sh b := by
  obtain ⟨n, hn⟩ := List.getElem?_of_mem hb
  have := r.ways b.one [n] b.to (ok.ends b hb).1 (by rw [wayEnd_cons hn, if_pos rfl]; rfl)
  have e : (wayCo hs bs b.one [n]).1 = (b.th.length : Int) := by
    show ([n].map (trB bs)).sum = _
    have h1 : trB bs n = (b.th.length : Int) := by unfold trB; rw [hn]
    simp [h1]
  rw [e] at this
  unfold trS
  unfold ndd at this
  split at this <;> omega
/-- what a hand may come to: moments of a way whose trays are gone -/
def Vl (hs : List HR) (bs : List BR) (sh : Nat → Int) (k : Nat) (x : Int) : Prop := ∃ one ns, one < hs.length ∧ wayEnd bs one ns = some k ∧ (wayCo hs bs one ns).1 + sh k - sh one = 0 ∧ (wayCo hs bs one ns).2 = x
theorem Vl.nil {hs : List HR} {bs : List BR} {sh : Nat → Int} {k : Nat} (h : k < hs.length) : Vl hs bs sh k (momH hs k) := by
  refine ⟨k, [], h, rfl, ?_, ?_⟩ <;> rw [wayCo_nil]
  show (0 : Int) + sh k - sh k = 0
  omega
theorem Vl.go {hs : List HR} {bs : List BR} {sh : Nat → Int} {b : BR} {x : Int} (hb : b ∈ bs) (z : trS sh b = 0) (v : Vl hs bs sh b.one x) : Vl hs bs sh b.to (x + momH hs b.to) := by
  obtain ⟨n, hn⟩ := List.getElem?_of_mem hb
  obtain ⟨one, ns, h1, h2, h3, h4⟩ := v
  refine ⟨one, ns ++ [n], h1, wayEnd_snoc h2 hn rfl, ?_, ?_⟩ <;> rw [wayCo_snoc hn]
  · show (wayCo hs bs one ns).1 + (b.th.length : Int) + sh b.to - sh one = 0
    unfold trS at z
    omega
  · show (wayCo hs bs one ns).2 + momH hs b.to = _
    rw [h4]
theorem Rch.vl {hs : List HR} {bs : List BR} {l : Option Nat} {T : Int} {sh : Nat → Int} (r : Rch hs bs l T sh) {k : Nat} {x : Int} (v : Vl hs bs sh k x) : x ≤ T := by
  obtain ⟨one, ns, h1, h2, h3, h4⟩ := v
  have := r.ways one ns k h1 h2
  rw [h4] at this
  unfold ndd at this
  split at this <;> omega
section
variable {P : Program} {w : World} {K : PySem.W.Frag} {mg : Str → Option Value} {base : Heap}
/-- what is told: shifts, or a bar -/
def Tld (hs : List HR) (bs : List BR) (late : Option Nat) (T : Int) (H : Hp) (p : Addr) : Prop :=
  (∃ (p' : Addr) (sh : Nat → Int), H p = some (.tup [.str "shifts", .ref p']) ∧ H p' = some (.tup (levL hs.length sh)) ∧ Shf hs bs late T sh) ∨
  ∃ (p' : Addr) (pv : List V) (ws : List Wy), H p = some (.tup [.str "bar", .ref p']) ∧ H p' = some (.tup pv) ∧ All2 (PrAt H) pv ws ∧ ws.length ≤ hs.length ∧ Bar hs bs late T ws ∧ ¬ FA hs bs late T
theorem Tld.keep {hs : List HR} {bs : List BR} {late : Option Nat} {T : Int} {H H' : Hp} {p : Addr} (h : Tld hs bs late T H p) (k : TK H H') : Tld hs bs late T H' p := by
  rcases h with ⟨p', sh, h1, h2, h3⟩ | ⟨p', pv, ws, h1, h2, h3, h4⟩
  · exact .inl ⟨p', sh, k _ _ h1, k _ _ h2, h3⟩
  · exact .inr ⟨p', pv, ws, k _ _ h1, k _ _ h2, h3.imp fun _ _ z => z.keep k, h4⟩
def sp_shifts_or_bar (K : PySem.W.Frag) : Sp := fun vs H Q _ => ∃ (r : Addr) (hs : List HR) (bs : List BR) (late : Option Nat) (T : Int), vs = [.ref r, lateV late, .int T] ∧ RoomAt H r hs bs ∧ RoomOk hs bs ∧ 0 < hs.length ∧
  ∀ (p : Addr) (H' : Hp), Tld hs bs late T H' p → Same H H' → Q (.ref p) H'
theorem ok_shifts_or_bar {f : Addr} {fd : FuncData} (F : Fun K "shifts_or_bar" "shifts_or_bar" s_shifts_or_bar f fd) (T : Top K mg) : FnOk P w K mg base CX0 4 f fd ["room", "late", "time"] (sp_shifts_or_bar K) := by
  obtain ⟨f_paper_by, fd_paper_by, F_paper_by, b_paper_by, m_paper_by⟩ := T.d_paper_by
  have G_paper_by := ok_paper_by (P := P) (w := w) (base := base) F_paper_by T
  obtain ⟨f_least_ways, fd_least_ways, F_least_ways, b_least_ways, m_least_ways⟩ := T.d_least_ways
  have G_least_ways := ok_least_ways (P := P) (w := w) (base := base) F_least_ways T
  refine F.ok sc_shifts_or_bar (fun vs H Q E h => ?_) (fun cdv A outer s H vs Q E hr h => ?_)
  · obtain ⟨r, hs, bs, late, T', rfl, _⟩ := h
    rfl
  obtain ⟨r, hs, bs, late, T', rfl, hR, ok, pos, q⟩ := h
  refine ⟨_, (pss_one (ps_ret (pe_call G_paper_by (hr.mono (by decide)) (by rfl) m_paper_by F_paper_by.kp b_paper_by .nil pass0 (pa_cons (pv 0) (pa_cons (pv 1) (pa_cons (pv 2) (pa_cons (pe_call G_least_ways (hr.mono (by decide)) (by rfl) m_least_ways F_least_ways.kp b_least_ways .nil pass0 (pa_cons (pv 0) pa_nil)) pa_nil))))))), ?_⟩
  refine ⟨_, rfl, _, rfl, _, rfl, _, rfl, r, hs, bs, rfl, hR, ok, fun wl yv ys H1 nwl hwl aly aw s1 => ?_⟩
  refine ⟨r, wl, hs, bs, late, T', yv, ys, rfl, hR.keep (TK.same s1), ok, hwl, aly, aw, fun p p' sh H2 h1 h2 h3 s2 => ?_, fun p p' pv ws H2 h1 h2 h3 h4 h5 h6 s2 => ?_⟩
  · exact q p H2 (.inl ⟨p', sh, h1, h2, h3⟩) (s1.trans s2)
  · exact q p H2 (.inr ⟨p', pv, ws, h1, h2, h3, h4, h5, h6⟩) (s1.trans s2)
end
section
variable {P : Program} {w : World} {K : PySem.W.Frag} {mg : Str → Option Value} {base : Heap}
/-- the least time -/
structure Least (hs : List HR) (bs : List BR) (late : Option Nat) (T : Int) : Prop where
  fa : FA hs bs late T
  nn : 0 ≤ T
  no : ∀ T', 0 ≤ T' → T' < T → ¬ FA hs bs late T'
/-- the paper beside: none at 0, else a bar of one moment less -/
def BarV (hs : List HR) (bs : List BR) (late : Option Nat) (T : Int) (H : Hp) (y : V) : Prop := (T = 0 ∧ y = .non) ∨ (0 < T ∧ ∃ (p' : Addr) (qv : List V) (ws : List Wy), y = .ref p' ∧ H p' = some (.tup qv) ∧ All2 (PrAt H) qv ws ∧ ws.length ≤ hs.length ∧ Bar hs bs late (T - 1) ws)
theorem BarV.keep {hs : List HR} {bs : List BR} {late : Option Nat} {T : Int} {H H' : Hp} {y : V} (h : BarV hs bs late T H y) (k : TK H H') : BarV hs bs late T H' y := by
  rcases h with h | ⟨h0, p', qv, ws, h1, h2, h3, h4⟩
  · exact .inl h
  · exact .inr ⟨h0, p', qv, ws, h1, k _ _ h2, h3.imp fun _ _ z => z.keep k, h4⟩
def sp_least_time (K : PySem.W.Frag) : Sp := fun vs H Q _ => ∃ (r : Addr) (hs : List HR) (bs : List BR) (late : Option Nat), vs = [.ref r, lateV late] ∧ RoomAt H r hs bs ∧ RoomOk hs bs ∧
  ∀ (p p' : Addr) (T : Int) (sh : Nat → Int) (y : V) (H' : Hp), H' p = some (.tup [.int T, .ref p', y]) → H' p' = some (.tup (levL hs.length sh)) → Shf hs bs late T sh → Least hs bs late T → BarV hs bs late T H' y → Same H H' → Q (.ref p) H'
theorem ok_least_time {f : Addr} {fd : FuncData} (F : Fun K "least_time" "least_time" s_least_time f fd) (T : Top K mg) : FnOk P w K mg base CX0 4 f fd ["room", "late"] (sp_least_time K) := by
  obtain ⟨f_least_ways, fd_least_ways, F_least_ways, b_least_ways, m_least_ways⟩ := T.d_least_ways
  have G_least_ways := ok_least_ways (P := P) (w := w) (base := base) F_least_ways T
  obtain ⟨f_paper_by, fd_paper_by, F_paper_by, b_paper_by, m_paper_by⟩ := T.d_paper_by
  have G_paper_by := ok_paper_by (P := P) (w := w) (base := base) F_paper_by T
  refine F.ok sc_least_time (fun vs H Q E h => ?_) (fun cdv A outer s H vs Q E hr h => ?_)
  · obtain ⟨r, hs, bs, late, rfl, _⟩ := h
    rfl
  obtain ⟨r, hs, bs, late, rfl, hR, ok, q⟩ := h
  obtain ⟨rk, hrk⟩ := ok.rank
  let R2 : TS := fun D' σ' H' => D'.rt = Q ∧ ∃ (wl : Addr) (yv : List V) (ys : List Wy) (hi : Int), σ' = [some (.ref r), some (lateV late), some (.ref wl), some (.int 0), some (.int hi), none, none, none, none, none, none, none, none, none] ∧ H' wl = some (.lst yv) ∧ All2 (WyAt H') yv ys ∧ AllWays hs bs ys ∧ 0 ≤ hi ∧ FA hs bs late hi ∧ Same H H'
  let R1 : TS := fun D' σ' H' => D'.rt = Q ∧ ∃ (wl : Addr) (yv : List V) (ys : List Wy), σ' = [some (.ref r), some (lateV late), some (.ref wl), some (.int 0), none, none, none, none, none, none, none, none, none, none] ∧ H' wl = some (.lst yv) ∧ All2 (WyAt H') yv ys ∧ AllWays hs bs ys ∧ Same H H'
  refine ⟨_, (pss_cons (ps_set (i := 2) sc_least_time.nd rfl (Or.inl rfl) (pe_call G_least_ways (hr.mono (by decide)) (by rfl) m_least_ways F_least_ways.kp b_least_ways .nil pass0 (pa_cons (pv 0) pa_nil)))
      (pss_cons (ps_set (i := 3) sc_least_time.nd rfl (Or.inl rfl) pe_int)
      (PSs.to (pss_cons (ps_set (i := 4) sc_least_time.nd rfl (Or.inl rfl) (pe_callBK (cr_maxDf K rfl rfl) (by rfl) T.m_max (by decide +kernel) (pa_cons (pe_lc (own := [("trays", 5), ("moments", 6), ("way", 7), ("end", 8)]) (g := gTup K 4 (gCons (gName 5) (gCons (gName 6) (gCons (gName 7) (gCons (gName 8) gNil))))) (tt := tYes) (by rfl) sc_least_time.nd (pi_listK K rfl (pv 2)) (blkOk_by (own := [("trays", 5), ("moments", 6), ("way", 7), ("end", 8)]) (N := N_least_time) (sc := defScope s_least_time) (by decide +kernel)) (fun _ _ _ _ _ => (pg_tupK K rfl rfl (pgs_cons (pg_name (i := 5) sc_least_time.nd rfl (Or.inl rfl)) (pgs_cons (pg_name (i := 6) sc_least_time.nd rfl (Or.inl rfl)) (pgs_cons (pg_name (i := 7) sc_least_time.nd rfl (Or.inl rfl)) (pgs_cons (pg_name (i := 8) sc_least_time.nd rfl (Or.inl rfl)) pgs_nil)))))) (fun _ _ _ _ _ => pts_nil) (fun _ _ _ _ _ => (pv 6))) pa_nil) (pk_cons pe_int pk_nil)))
      (PSs.to (pss_cons (ps_asg (pe_call G_paper_by (hr.mono (by decide)) (by rfl) m_paper_by F_paper_by.kp b_paper_by .nil pass0 (pa_cons (pv 0) (pa_cons (pv 1) (pa_cons (pv 4) (pa_cons (pv 2) pa_nil))))) (pg_tupK K rfl rfl (pgs_cons (pg_name (i := 9) sc_least_time.nd rfl (Or.inl rfl)) (pgs_cons (pg_name (i := 10) sc_least_time.nd rfl (Or.inl rfl)) pgs_nil))))
      (pss_cons (ps_set (i := 11) sc_least_time.nd rfl (Or.inl rfl) pe_non)
      (pss_cons (ps_while PassesOwn.never (pt_cmpR op_lt (pv 3) (pv 4) (nomark _))
        (pss_cons (ps_set (i := 12) sc_least_time.nd rfl (Or.inl rfl) (pe_op op_fdiv (pe_op op_add (pv 3) (pv 4)) pe_int))
      (pss_cons (ps_asg (pe_call G_paper_by (hr.mono (by decide)) (by rfl) m_paper_by F_paper_by.kp b_paper_by .nil pass0 (pa_cons (pv 0) (pa_cons (pv 1) (pa_cons (pv 12) (pa_cons (pv 2) pa_nil))))) (pg_tupK K rfl rfl (pgs_cons (pg_name (i := 9) sc_least_time.nd rfl (Or.inl rfl)) (pgs_cons (pg_name (i := 13) sc_least_time.nd rfl (Or.inl rfl)) pgs_nil))))
      (pss_one (ps_if (pt_cmpR op_eq (pv 9) pe_str (nomark _)) (pss_cons (ps_set (i := 4) sc_least_time.nd rfl (Or.inl rfl) (pv 12))
      (pss_one (ps_set (i := 10) sc_least_time.nd rfl (Or.inl rfl) (pv 13)))) (pss_cons (ps_set (i := 3) sc_least_time.nd rfl (Or.inl rfl) (pe_op op_add (pv 12) pe_int))
      (pss_one (ps_set (i := 11) sc_least_time.nd rfl (Or.inl rfl) (pv 13)))))))))
      (pss_one (ps_ret (pe_tup (pa_cons (pv 4) (pa_cons (pv 10) (pa_cons (pv 11) pa_nil))))))))) R2 ?tail2)) R1 ?tail1))), ?_⟩
  case tail2 =>
    rintro D' σ' H1 ⟨eD, wl, yv, ys, hi, rfl, hwl, aly, aw, hi0, fhi, s1⟩
    refine ⟨_, rfl, _, rfl, _, rfl, _, rfl, r, wl, hs, bs, late, hi, yv, ys, rfl, hR.keep (TK.same s1), ok, hwl, aly, aw, fun p0 q0 sh0 H2 hp0 hq0 so0 s2 => ?_, fun p0 x0 _ _ H2 _ _ _ _ _ nf _ => absurd fhi nf⟩
    refine ⟨p0, _, rfl, SqT.of hp0, rfl, _, _, rfl, _, _, rfl, rfl, ?_⟩
    refine ⟨fun m σ H3 => ∃ (lo hi : Int) (w9 y : V) (qa : Addr) (sh : Nat → Int) (v12 v13 : Option V), σ = [some (.ref r), some (lateV late), some (.ref wl), some (.int lo), some (.int hi), none, none, none, none, some w9, some (.ref qa), some y, v12, v13] ∧ H3 qa = some (.tup (levL hs.length sh)) ∧ 0 ≤ lo ∧ lo ≤ hi ∧ Shf hs bs late hi sh ∧ (∀ T', 0 ≤ T' → T' < lo → ¬ FA hs bs late T') ∧ BarV hs bs late lo H3 y ∧ m = (hi - lo).toNat ∧ Same H1 H3, ⟨_, 0, hi, _, _, q0, sh0, _, _, rfl, hq0, Int.le_refl _, hi0, so0, (fun T' a b => by omega), .inl ⟨rfl, rfl⟩, rfl, s2⟩, ?_⟩
    rintro m σ H3 ⟨lo, hi, w9, y, qa, sh, v12, v13, rfl, hqa, lo0, lohi, fhi, no, bV, rfl, s3⟩
    refine ⟨_, rfl, _, rfl, _, _, rfl, rfl, _, rfl, if_bl (fun c => ?_) (fun c => ?_)⟩
    · have c : lo < hi := of_decide_eq_true c
      refine ⟨_, fun σ' H' h => h, ?_⟩
      refine ⟨_, rfl, _, rfl, _, _, rfl, rfl, _, _, rfl, rfl, ⟨by decide, by decide⟩, ?_⟩
      have mid0 : lo ≤ (lo + hi) / 2 := by omega
      have mid1 : (lo + hi) / 2 < hi := by omega
      refine ⟨_, rfl, _, rfl, _, rfl, _, rfl, r, wl, hs, bs, late, (lo + hi) / 2, yv, ys, rfl, hR.keep (TK.same (s1.trans s3)), ok, s3 _ _ hwl, aly.imp fun _ _ z => z.keep (TK.same s3), aw, fun p1 q1 sh1 H4 hp1 hq1 fa s4 => ?_, fun p1 x1 qv ws H4 hp1 hx1 alw lw br nf s4 => ?_⟩
      · refine ⟨p1, _, rfl, SqT.of hp1, rfl, _, _, rfl, _, _, rfl, rfl, ?_⟩
        refine ⟨_, rfl, rfl, _, rfl, if_bl (fun _ => ?_) (fun z => absurd rfl (of_decide_eq_false z))⟩
        exact ⟨_, rfl, _, rfl, _, by omega, lo, (lo + hi) / 2, _, _, q1, sh1, _, _, rfl, hq1, lo0, mid0, fa, no, bV.keep (TK.same s4), rfl, s3.trans s4⟩
      · refine ⟨p1, _, rfl, SqT.of hp1, rfl, _, _, rfl, _, _, rfl, rfl, ?_⟩
        refine ⟨_, rfl, rfl, _, rfl, if_bl (fun z => ?_) (fun _ => ?_)⟩
        · have := V.str.inj (of_decide_eq_true z)
          exact absurd this (by decide +kernel)
        exact ⟨_, rfl, _, _, rfl, rfl, _, rfl, _, by omega, (lo + hi) / 2 + 1, hi, _, _, qa, sh, _, _, rfl, s4 _ _ hqa, by omega, by omega, fhi, (fun T' a b f => nf (f.mono (by omega))), .inr ⟨by omega, x1, qv, ws, rfl, hx1, alw, lw, by rw [Int.add_sub_cancel]; exact br⟩, rfl, s3.trans s4⟩
    · have c : ¬ lo < hi := of_decide_eq_false c
      refine ⟨_, rfl, _, rfl, _, rfl, (by show 3 ≤ sizeLine; decide), fun p np => ?_⟩
      rw [eD]
      exact q p qa hi sh _ _ upd_same (same_new np _ _ hqa) fhi ⟨fhi.fa, by omega, fun T' a b => no T' a (by omega)⟩ ((show lo = hi by omega) ▸ bV.keep (TK.new np)) ((s1.trans s3).trans (same_new np))
  case tail1 =>
    rintro D' σ' H1 ⟨eD, wl, yv, ys, rfl, hwl, aly, aw, s1⟩
    have lys := aly.length
    have few := aw.few
    refine ⟨_, rfl, wl, rfl, ⟨_, SqL.of hwl⟩, fun D nD => lc_list (K := K) (a := wl) (xs := yv) (fun i H5 => H5 D = some (.lst (((ys.take i).map fun y => y.c.2).map V.int)) ∧ Same H1 H5) ⟨upd_same, same_new nD⟩ (fun i H5 _ ⟨_, s5⟩ => SqL.of (s5 _ _ hwl)) ?_ ?_⟩
    · rintro i x H5 hx ⟨hD, s5⟩
      obtain ⟨y, ey, ⟨t, p, rfl, ht, _⟩⟩ := aly.getL hx
      have il := (List.getElem?_eq_some_iff.mp ey).1
      refine ⟨t, _, rfl, SqT.of (s5 _ _ ht), rfl, ?_⟩
      refine ⟨_, _, rfl, ?_⟩
      refine ⟨_, _, rfl, ?_⟩
      refine ⟨_, _, rfl, ?_⟩
      refine ⟨_, _, rfl, rfl, ?_⟩
      refine ⟨rfl, ?_⟩
      refine yes_in ?_
      refine ⟨_, rfl, _, hD, by rw [List.length_map, List.length_map, List.length_take]; exact small1000 (by omega), ?_, Same.own s5 nD⟩
      rw [upd_same, List.take_add_one, ey, List.map_append, List.map_append]; rfl
    · rintro H5 ⟨hD, s5⟩
      rw [lys, List.take_length] at hD
      have go : ∀ hi : Int, 0 ≤ hi → (∀ y ∈ ys, y.c.2 ≤ hi) → FA hs bs late hi := fun hi _ h => FA.high hrk fun one e c h1 h2 _ => by
        obtain ⟨y, y1, rfl, rfl⟩ := aw.all one e c h1 h2
        have := (aw.ok y y1).b
        rw [h2] at this
        cases this
        exact h y y1
      refine ⟨D, _, V.int 0, rfl, rfl, SqL.of hD, fun e => ?_, fun m hm hle => ?_⟩
      · refine ⟨eD, wl, yv, ys, 0, rfl, s5 _ _ hwl, aly.imp fun _ _ z => z.keep (TK.same s5), aw, Int.le_refl _, go 0 (Int.le_refl _) fun y hy => ?_, s1.trans s5⟩
        have : y.c.2 ∈ ys.map fun y => y.c.2 := List.mem_map.mpr ⟨y, hy, rfl⟩
        rw [e] at this
        cases this
      · have pos : 0 < hs.length := by
          obtain ⟨y, y1, _⟩ := List.mem_map.mp hm
          exact Nat.lt_of_le_of_lt (Nat.zero_le _) (aw.ok y y1).lt
        have m0 : 0 ≤ m := by
          obtain ⟨y, y1, y2⟩ := aw.all 0 0 (0, momH hs 0) pos (best_one hrk)
          have := hle y.c.2 (List.mem_map.mpr ⟨y, y1, rfl⟩)
          have b := (aw.ok y y1).b
          rw [y2.1, y2.2, best_one hrk] at b
          have : (0, momH hs 0) = y.c := Option.some.inj b
          have e2 : y.c.2 = momH hs 0 := by rw [← this]
          have g0 : 0 ≤ momH hs 0 := by
            unfold momH
            rw [List.getElem?_eq_getElem pos]
            exact (ok.good _ (List.getElem_mem _)).2.1
          omega
        exact ⟨eD, wl, yv, ys, m, rfl, s5 _ _ hwl, aly.imp fun _ _ z => z.keep (TK.same s5), aw, m0, go m m0 fun y hy => hle _ (List.mem_map.mpr ⟨y, hy, rfl⟩), s1.trans s5⟩

  refine ⟨_, rfl, r, hs, bs, rfl, hR, ok, fun wl yv ys H1 nwl hwl aly aw s1 => ⟨rfl, wl, yv, ys, rfl, hwl, aly, aw, s1⟩⟩
end
/-! ### all(is_whole(x) for x in a tuple) -/
section
open PySem.Spec GxR
/-- isinstance(x, T), x a local name, wherever it stands -/
theorem isi_local {prog : Program} {w : World} {A : Around} {E : Value → Shared → Prop} {Q : Value → Shared → Prop} {env : Env} {K : PySem.W.Frag} {mg mb m : Str → Option Value} {s : Shared} {x T : Str} {Tn : String} {v t : Value} {b : Bool} {Hx : Heap → Prop} {p1 p2 p3 p4 : Pos}
    (kind : env.scope.kind = .function) (ki : env.kindOf "isinstance" = some .globalImplicit) (kT : env.kindOf T = some .globalImplicit) (kx : env.scope.names.lookup x = some .local) (dT : (T == ("__debug__" : Str)) = false) (dx : (x == ("__debug__" : Str)) = false)
    (g : s.heap.Ns env.globals mg) (bl : s.heap.Ns env.builtins mb) (mi : mg "isinstance" = none) (bi : mb "isinstance" = some (.builtin "isinstance")) (mT : mg T = none) (bT : mb T = some (.type Tn)) (ns : s.heap.Ns env.locals m) (mx : m x = some v)
    (kin : K.In s.heap) (Z : PySem.W.KitX K v t Hx) (p : Hx s.heap) (e : PySem.W.kitOne K t (.type Tn) = some b) (no : v ≠ .builtin "__main__.__loader__#opaque") (hQ : ∀ tk, Q (.bool b) { s with toks := tk }) :
    wpAny (model prog w) A (eval (.Call (.Name "isinstance" p1) [.Name x p2, .Name T p3] [] p4) env) Q E s := by
  refine wpAny_Call_Name_kw (Calls.Name_function_global kind ki (Calls.loadGlobal_builtin g mi bl bi ?_))
  refine PyProof.Rows.callWith_builtin1 ?_ (by rfl) (by rfl)
  show wpAny _ _ (spliced ((false, eval (.Name x p2) env) :: backTo p4 (starEach [.Name T p3] env))) _ _ s
  refine Calls.spliced_cons (wpAny_Name (wpAny_loadName_local kind kx ns mx ?_) dx)
  show wpAny _ _ (spliced ((false, eval (.Name T p3) env) :: backTo p4 (starEach [] env))) _ _ s
  refine Calls.spliced_cons (Calls.Name_function_global kind kT (Calls.loadGlobal_builtin g mT bl bT ?_) dT)
  refine Calls.spliced_nil ?_
  exact PySem.W.kia_one Z kin p e no hQ
/-- a def whose body is: return isinstance(x, int) and not isinstance(x, bool) -/
structure IsWholeDef (body : List Stmt) (scope : Scope) (x : Str) : Prop where
  body : ∃ p0 p1 p2 p3 p4 p5 p6 p7 p8 p9 p10 : Pos, body = [.Return (some (.BoolOp .And [.Call (.Name "isinstance" p1) [.Name x p2, .Name "int" p3] [] p4, .UnaryOp .Not (.Call (.Name "isinstance" p5) [.Name x p6, .Name "bool" p7] [] p8) p9] p10)) p0]
  kind : scope.kind = .function
  co : scope.isCoroutine = false
  gen : scope.isGenerator = false
  ki : scope.names.lookup ("isinstance" : Str) = some NameKind.globalImplicit
  kt : scope.names.lookup ("int" : Str) = some NameKind.globalImplicit
  kb : scope.names.lookup ("bool" : Str) = some NameKind.globalImplicit
  kx : scope.names.lookup x = some NameKind.local
  dx : (x == ("__debug__" : Str)) = false
theorem whole_call {prog : Program} {w : World} {A : Around} {E : Value → Shared → Prop} {K : PySem.W.Frag} {mg : Str → Option Value} {base : Heap} {s : Shared} {f : Addr} {fd : FuncData} {x nm : Str} {st : Stmt} {v t : Value} {a b : Bool} {Hx : Heap → Prop}
    (F : Fun K nm nm st f fd) (W : IsWholeDef (defBody st) (defScope st) x) (bnd : BindsTo s fd ⟨[v], []⟩ [(x, v)]) (Z : PySem.W.KitX K v t Hx) (hx : ∀ h', (∀ b o, s.heap.get? b = some o → h'.get? b = some o) → Hx h') (ea : PySem.W.kitOne K t (.type "int") = some a) (eb : PySem.W.kitOne K t (.type "bool") = some b) (no : v ≠ .builtin "__main__.__loader__#opaque") (M : Mod K mg base) (bk : ∀ b o, base.get? b = some o → s.heap.get? b = some o)
    (mi : mg "isinstance" = none) (mt : mg "int" = none) (mb : mg "bool" = none) (depth : A.depth + 2 < recursionLimit) :
    wpAny (model prog w) A (call (.ref f) [v]) (fun y s' => y = .bool (a && !b) ∧ Keeps s s') E s := by
  obtain ⟨kl, kd, kV, dc, pm, an, cv, ct, ks, rfl, look, cin⟩ := F.ex
  have kin : K.In s.heap := M.kin.keeps bk
  have lim : s.heap.NoLimit := M.nolimit.keeps bk
  refine wpAny_call (codeAny_call_function (by omega) (kin _ _ look) rfl W.co W.gen rfl (PySem.W.codeRec_of kin cin) (bnd _ _ _ _ ?_))
  refine wpAny_newFunctionEnv_cells W.kind (fun y hy => ?_) fun env he s1 ic => ?_
  · rw [List.mem_singleton.mp hy]
    exact .inl W.kx
  subst he
  refine ⟨lim.keeps ic.toInCall.keep, codeAny_func ?_⟩
  have nsx := ic.toInCall.ns
  have kp := ic.toInCall.keep
  have dn := ic.done
  generalize eenv : newEnv (PySem.W.fnOf nm nm (defArgs st) (defBody st) (defScope st) Value.none kV dc pm an cv ct).scope s.heap.objs.size _ _ _ _ _ _ _ = env at nsx ⊢
  have sc : env.scope = defScope st := by rw [← eenv]; rfl
  have gl : env.globals = mainGlobals := by rw [← eenv]; rfl
  have bl : env.builtins = builtinsNs := by rw [← eenv]; rfl
  have ko : ∀ y, env.kindOf y = (defScope st).names.lookup y := fun y => by rw [← eenv]; rfl
  have bk1 : ∀ b o, base.get? b = some o → s1.heap.get? b = some o := fun b o e => kp b o (bk b o e)
  obtain ⟨mbs, hb1, hb2⟩ := M.blt
  obtain ⟨p0, p1, p2, p3, p4, p5, p6, p7, p8, p9, p10, hbody⟩ := W.body
  show wpAny _ _ (execs (defBody st) env) _ _ s1
  rw [hbody]
  refine wpAny_execs_cons ?_
  refine wpAny_Return_some ?_
  have kindf : env.scope.kind = .function := by rw [sc]; exact W.kind
  have nsl := nsx
  have g1 : s1.heap.Ns env.globals mg := by rw [gl]; exact M.glob.keeps bk1
  have b1 : s1.heap.Ns env.builtins mbs := by rw [bl]; exact hb1.keeps bk1
  have kx1 : env.scope.names.lookup x = some .local := by rw [sc]; exact W.kx
  have mx : bindL env.kindOf [(x, v)] (fun _ => none) x = some v := by
    show (if env.kindOf x = some .local then fun y => if y = x then some v else none else fun _ => none) x = _
    rw [if_pos ((ko x).trans W.kx)]
    exact if_pos rfl
  refine wpAny_And2 (isi_local (K := K) kindf ((ko _).trans W.ki) ((ko _).trans W.kt) kx1 (by decide) W.dx g1 b1 mi (hb2 _ (by decide) |>.trans boot_isinstance) mt (hb2 _ (by decide) |>.trans boot_int) nsl mx (kin.keeps kp) Z (hx _ kp) ea no fun tk1 => ?_)
  refine wpAny_truthy_bool ?_
  obtain ⟨h', tk', e1, k1⟩ := dn
  cases a with
  | false => exact ⟨rfl, h', tk1, by rw [e1], k1⟩
  | true =>
    refine wpAny_UnaryOp (isi_local (K := K) kindf ((ko _).trans W.ki) ((ko _).trans W.kb) kx1 (by decide) W.dx g1 b1 mi (hb2 _ (by decide) |>.trans boot_isinstance) mb (hb2 _ (by decide) |>.trans boot_bool) nsl mx (kin.keeps kp) Z (hx _ kp) eb no fun tk2 => ?_)
    refine not_value (wpAny_truthy_bool ?_)
    exact ⟨rfl, h', tk2, by rw [e1], k1⟩
/-- one item looked at, in the generator's own surroundings -/
def LooksAt (X : Cx) (scope : Scope) (x : Str) (elt : Expr) (its : List Value) (pb : Nat → Bool) : Prop :=
  ∀ (cenv : Env) (A' : Around) (E' : Value → Shared → Prop) (i : Nat) (v : Value) (z : Shared) (mz : Str → Option Value), A'.depth ≤ X.A.depth + 1 → cenv.scope = scope → cenv.globals = mainGlobals →
    (∀ b o, X.base.get? b = some o → z.heap.get? b = some o) → z.heap.Ns cenv.locals mz → mz x = some v → its[i]? = some v →
    wpAny (model X.prog X.w) A' (eval elt cenv) (fun y z' => y = .bool (pb i) ∧ Keeps z z') E' z
/-- the state when the generator's code object was got: the table at P may be longer -/
structure Got (P : Addr) (ps : Array Value) (z z' : Shared) : Prop where
  same : z' = { z with heap := z'.heap, toks := z'.toks }
  ext : Heap.ExtBut P z.heap z'.heap
  size : z.heap.objs.size ≤ z'.heap.objs.size
  tab : ∃ more, z'.heap.get? P = some { cls := .none, data := .fields (ps ++ more) } ∧ TriplesOk (ps ++ more).toList
theorem code_got {prog : Program} {w : World} {A : Around} {E : Value → Shared → Prop} {env : Env} {gpos : Pos} {nm : Str} {scope : Scope} {c P : Addr} {ps : Array Value} {z : Shared}
    (hcode : env.code = .ref c) (cd : PySem.W.CodeHd z.heap c P) (hP : z.heap.get? P = some { cls := .none, data := .fields ps }) (ht : TriplesOk ps.toList) :
    wpAny (model prog w) A (genexprCode env gpos nm scope) (fun _ z' => Got P ps z z') E z := by
  cases among : codeAmong gpos ps.toList with
  | some cv => exact wpAny_genexprCode_hit hcode (cd.code hP ht) among ⟨rfl, .refl _ _, Nat.le_refl _, #[], by simpa using hP, by simpa using ht⟩
  | none =>
    refine wpAny_genexprCodeX hcode (cd.code hP ht) (cd.tab hP) among fun c' h' tk ext ge lt co _ tab _ => ?_
    obtain ⟨_, _, _, _, _, _, _, _, _, _, _, _, _, _, _, _, _, _, _, tr, _⟩ := co
    exact ⟨rfl, ext, Nat.le_trans ge (Nat.le_of_lt lt), _, tab.2, tr⟩
/-- a generator g of n truths pb, about to be walked; however far it is walked, H1 stands but for the table -/
def Poised (X : Cx) (pins : List (Addr × Obj)) (σ : L2.St) (H1 : Hp) (P : Addr) (n : Nat) (pb : Nat → Bool) (g : Addr) (z : Shared) : Prop :=
  ∃ (foot own : List Addr) (Gn : Array GenState → Array GenState → Prop) (Fn : Nat → Value → Prop) (Sn : Nat → Shared → Prop),
    WalksS X.prog X.w X.A.in1 g foot own Gn n Fn Sn ∧ Sn 0 z ∧ TruthOf X.prog X.w X.A.in1 Fn pb ∧ ∀ z', Moved own Gn z z' → ∃ H2, Tabbed P H1 H2 ∧ Inv X pins σ H2 z'
theorem gen_items {X : Cx} {pins : List (Addr × Obj)} {σ : L2.St} {H : Hp} {s : Shared} {c P : Addr} {elt iter : Expr} {x : Str} {px gpos : Pos} {scope : Scope} {te : TE} {k : Nat} {Qg : Value → Shared → Prop}
    (hr : Room k X.A) (TB : TabB X.base X.mg c P) (hcode : X.env.code = .ref c) (S : GenS X.env scope x) (hi : PE X iter te) (hs : ∀ v, genFold iter X.env v = pure v) (I : Inv X pins σ H s)
    {R : VK} (h : te σ H R) (hR : ∀ v H1, R v H1 → ∃ (a : Addr) (xs : List V) (pb : Nat → Bool), v = .ref a ∧ SqT X.K H1 a xs ∧ TabG H1 P ∧ (∀ its, Vals xs its → LooksAt X scope x elt its pb) ∧ ∀ g z, Poised X pins σ H1 P xs.length pb g z → Qg (.ref g) z) :
    wpAny (model X.prog X.w) X.A (eval (.GeneratorExp elt [⟨.Name x px, iter, [], 0⟩] scope gpos) X.env) Qg X.xe s := by
  refine wpAny_GeneratorExp_walksQD hr.hd S.co (closure_ok S.free) S.cell S.dot S.loc S.kind (by have := hr.dp; omega) ?_ hs
  refine thn (hi.run pins s σ H _ I h) fun u s1 ⟨v, H1, I1, rel, now⟩ => ?_
  obtain ⟨a, xs, pb, ev, hq, ⟨ps, hP, tri⟩, look, fin⟩ := hR v H1 now
  subst ev
  obtain rfl : u = Value.ref a := rel
  obtain ⟨its, rv, tup, _⟩ := I1.tuple hq
  refine wpAny_pyIter_tuple tup ?_
  have tabP : s1.heap.get? P = some { cls := .none, data := .fields ps } := I1.hok P _ hP
  have pushed : ∀ b o, s1.heap.get? b = some o → (s1.heap.push { cls := .type "tuple_iterator", data := .fields #[.ref a, .int 0 0] }).get? b = some o := fun b o e => Heap.get?_push_of_some _ e
  have born : Heap.IsTupleIter (s1.heap.push { cls := .type "tuple_iterator", data := .fields #[.ref a, .int 0 0] }) s1.heap.objs.size a 0 := ⟨_, Heap.get?_push_size _ rfl, rfl, rfl⟩
  have wider : (s1.heap.push { cls := .type "tuple_iterator", data := .fields #[.ref a, .int 0 0] }).objs.size = s1.heap.objs.size + 1 := Heap.size_push ..
  generalize s1.heap.push { cls := .type "tuple_iterator", data := .fields #[.ref a, .int 0 0] } = h2 at pushed born wider ⊢
  have al : a < s1.heap.objs.size := by obtain ⟨o, ho, _⟩ := tup; exact Heap.lt_size ho
  have pl : P < s1.heap.objs.size := Heap.lt_size tabP
  have cl : cStatics < s1.heap.objs.size := let ⟨_, hn, _⟩ := I1.nolimit; hn.lt
  have cP : cStatics ≠ P := fun e => by
    obtain ⟨_, ⟨o, es, ep, ho, hd, _⟩, _⟩ := I1.nolimit
    rw [e, tabP] at ho
    cases ho
    cases hd
  have aP : a ≠ P := fun e => by
    obtain ⟨o, ho, hc, _⟩ := tup
    rw [e, tabP] at ho
    cases ho
    cases hc
  have lim2 : h2.NoLimit := I1.nolimit.keeps pushed
  refine ⟨lim2, thn (code_got (ps := ps) hcode (TB.code.keeps fun b o e => pushed b o (I1.bk b o e)) (pushed _ _ tabP) tri) fun code s3 got => ?_⟩
  obtain ⟨eq3, ext, wide, more, hP3, tri3⟩ := got
  obtain ⟨h3, g3, d3, t3, o3⟩ := s3
  obtain ⟨rfl, rfl, rfl⟩ : g3 = s1.gens ∧ d3 = s1.drawn ∧ o3 = s1.os := by
    have := eq3
    simp only [Shared.mk.injEq] at this
    exact ⟨this.2.1, this.2.2.1, this.2.2.2.2⟩
  replace ext : Heap.ExtBut P h2 h3 := ext
  replace wide : h2.objs.size ≤ h3.objs.size := wide
  have kept : ∀ b o, b ≠ P → s1.heap.get? b = some o → h3.get? b = some o := fun b o nb e => ext b o nb (pushed b o e)
  obtain ⟨bm, ob, b1, b2, b3, b4, b5, b6, b7, b8⟩ := TB.bm
  refine wpAny_builtinsFor (m := X.mg) (by rw [I1.ok.glob]; exact (I1.mod.glob.keeps fun b o e => pushed b o (I1.bk b o e)).extBut ext TB.gP) b1 b2 (kept _ _ b4 (I1.bk _ _ b5)) b6 b7 b8 ?_
  refine ⟨s1.heap.objs.size, [s1.heap.objs.size, a], [s1.heap.objs.size], its.toArray.size, (fun i v => its.toArray[i]? = some v), _, (fun _ => true), (fun i y => i < its.length ∧ y = .bool (pb i)), rfl, fun A' hA => Walks.tuple hA s1.heap.objs.size a (Nat.ne_of_lt al) its.toArray, ⟨?_, ?_⟩, ?_, lim2.extBut ext cP, ?_, ?_, ?_⟩
  · exact born.at fun o e => ext _ o (Nat.ne_of_gt pl) e
  · exact (show Heap.IsTuple s1.heap a its.toArray from tup).at fun o e => kept a o aP e
  · intro b hb
    have either : b = s1.heap.objs.size ∨ b = a := by simpa using hb
    show b < h3.objs.size
    have past : s1.heap.objs.size < h3.objs.size := by omega
    rcases either with z | z
    · rw [z]; exact past
    · rw [z]; exact Nat.lt_trans al past
  · intro z
    exact Nat.ne_of_lt cl (List.mem_singleton.mp z)
  · intro href above
    refine ⟨fun A' E' i v z mz _ _ _ _ _ _ _ => ?_, fun A' E' i v z mz _ dep _ pv _ nz mx up => ?_⟩
    · rw [List.forIn_nil]
      exact wpAny_pure ⟨rfl, GxR.keeps_refl z⟩
    · have at_ : its[i]? = some v := by
        have pv : its.toArray[i]? = some v := pv
        rwa [List.getElem?_toArray] at pv
      refine wpAny_mono (look its rv _ A' E' i v z mz dep rfl I1.ok.glob (fun b o e => ?_) nz mx at_) (fun y z' r => ⟨⟨(List.getElem?_eq_some_iff.mp at_).1, r.1⟩, r.2⟩) fun _ _ e => e
      have nb : b ≠ P := fun q => by
        have := (I1.bs b o e).2
        rw [q, hP] at this
        cases this
      have e1 := kept b o nb (I1.bk b o e)
      have bl := Heap.lt_size (I1.bk b o e)
      exact up b (List.mem_range.mpr (Heap.lt_size e1)) (fun q => Nat.ne_of_lt bl (List.mem_singleton.mp q)) o (above b o e1)
  · intro g h5 tk5 gs bare gt size5 kept5 W st0
    have many : (passing (fun _ => true) its.toArray.size 0).length = xs.length := by rw [GxR.passing_true, List.length_range, List.size_toArray, rv.length]
    rw [many] at W
    refine fin g _ ⟨_, _, _, _, _, W.in4_1, st0, fun j y z Qj Ej hy now => ?_, fun z' mv => ?_⟩
    · obtain ⟨i, hij, hil, rfl⟩ := hy
      rw [GxR.passing_true] at hij
      obtain ⟨lt, ij⟩ := List.getElem?_eq_some_iff.mp hij
      rw [List.getElem_range] at ij
      subst ij
      exact wpAny_truthy_bool now
    · have un : ∀ b o, s1.heap.get? b = some o → b ∉ h3.objs.size :: [s1.heap.objs.size] := fun b o e q => by
        have bl := Heap.lt_size e
        have past : s1.heap.objs.size < h3.objs.size := by omega
        have either : b = h3.objs.size ∨ b = s1.heap.objs.size := by simpa using q
        rcases either with q | q
        · exact Nat.ne_of_lt (Nat.lt_trans bl past) q
        · exact Nat.ne_of_lt bl q
      have J := inv_tab (more := more) (h' := z'.heap) (g' := z'.gens) (d' := z'.drawn) (t' := z'.toks) I1 hP (fun b o nb e => mv.heap b o (un b o e) (kept5 b o (kept b o nb e))) (mv.heap P _ (un P _ tabP) (kept5 P _ hP3)) (AllBare.movedS (I1.bare.push bare) mv)
      rw [sh_eta s1 z' mv.os] at J
      exact ⟨_, ⟨⟨_, upd_same, tri3⟩, fun b nb => upd_ne nb⟩, J⟩
/-- is_whole's answer for a thing that is no object -/
def wholeV : V → Option Bool
  | .int _ => some true
  | .bl _ => some false
  | .non => some false
  | .str _ => some false
  | _ => none
/-- is_whole(x) for x in ..: the generator's element -/
structure WholeElt (X : Cx) (scope : Scope) (x nm : Str) (f : Addr) (fd : FuncData) (st : Stmt) (y : Str) : Prop where
  fn : Fun X.K nm nm st f fd
  df : IsWholeDef (defBody st) (defScope st) y
  bn : Binds X.K fd [y] []
  mg : X.mg nm = some (.ref f)
  mi : X.mg "isinstance" = none
  mt : X.mg "int" = none
  mb : X.mg "bool" = none
  kind : scope.kind = .function
  kf : scope.names.lookup nm = some NameKind.globalImplicit
  kx : scope.names.lookup x = some NameKind.local
  dx : (x == ("__debug__" : Str)) = false
  df2 : (nm == ("__debug__" : Str)) = false
theorem whole_elt {X : Cx} {scope : Scope} {x nm : Str} {f : Addr} {fd : FuncData} {st : Stmt} {y : Str} {k : Nat} {xs : List V} {p1 p2 p3 : Pos} (W : WholeElt X scope x nm f fd st y) (M : L2.Mod X.K X.mg X.base) (hr : Room k X.A) (hk : 1 ≤ k)
    (hv : ∀ v ∈ xs, ∃ b, wholeV v = some b) :
    ∀ its, Vals xs its → LooksAt X scope x (.Call (.Name nm p1) [.Name x p2] [] p3) its (fun i => (xs[i]?.bind wholeV).getD false) := by
  intro its rv cenv A' E' i v z mz dep sc gl up nz mx at_
  have kc : cenv.scope.kind = .function := by rw [sc]; exact W.kind
  have hd := hr.dp
  refine wpAny_Call_Name_kw (Calls.Name_function_global kc (show cenv.scope.names.lookup nm = _ by rw [sc]; exact W.kf) (Calls.loadGlobal_global (by rw [gl]; exact M.glob.keeps up) W.mg ?_) W.df2)
  have at2 := at_
  obtain ⟨v0, hv0⟩ : ∃ v0, xs[i]? = some v0 := ⟨_, List.getElem?_eq_getElem (by rw [rv.length]; exact (List.getElem?_eq_some_iff.mp at_).1)⟩
  obtain ⟨u, hu, rel⟩ := rv.get hv0
  rw [at_] at hu
  cases hu
  obtain ⟨b, hb⟩ := hv v0 (List.mem_of_getElem? hv0)
  have ans : (fun i => (xs[i]?.bind wholeV).getD false) i = b := by
    show (xs[i]?.bind wholeV).getD false = b
    rw [hv0]
    show (wholeV v0).getD false = b
    rw [hb]
    rfl
  rw [ans]
  have kin : X.K.In z.heap := M.kin.keeps up
  obtain ⟨oc, od, kV, doc, pm, an, cdv, ct, osl, efd, lk, hcd⟩ := W.fn.ex
  refine callWith_meth (h₀ := z.heap) (first := []) rfl (kin _ _ lk) ?_
  show wpAny _ _ (spliced ((false, eval (.Name x p2) cenv) :: backTo p3 (starEach [] cenv))) _ _ z
  refine Calls.spliced_cons (wpAny_Name (wpAny_loadName_local kc (show cenv.scope.names.lookup x = _ by rw [sc]; exact W.kx) nz mx ?_) W.dx)
  refine Calls.spliced_nil ⟨fun _ _ e => e, ?_⟩
  have go : ∀ {t : Value} {a c : Bool}, PySem.W.KitX X.K v t (fun _ => True) → PySem.W.kitOne X.K t (.type "int") = some a → PySem.W.kitOne X.K t (.type "bool") = some c → v ≠ .builtin "__main__.__loader__#opaque" → b = (a && !c) →
      wpAny (model X.prog X.w) A' (call (.ref f) [v]) (fun y z' => y = .bool b ∧ Keeps z z') E' z := fun {t a c} Z ea eb no eq => by
    rw [eq]
    exact whole_call W.fn W.df (W.bn z [v] kin rfl) Z (fun _ _ => trivial) ea eb no M up W.mi W.mt W.mb (by omega)
  cases v0 with
  | int n =>
    obtain ⟨t, rfl⟩ := rel
    cases hb
    exact go PySem.W.kitx_int (kit_ty rfl) (kit_ty rfl) (fun z => nomatch z) rfl
  | bl n =>
    obtain rfl : v = .bool n := rel
    cases hb
    exact go PySem.W.kitx_bool (kit_ty rfl) (kit_ty rfl) (fun z => nomatch z) rfl
  | non =>
    obtain rfl : v = .none := rel
    cases hb
    exact go PySem.W.kitx_none (kit_ty rfl) (kit_ty rfl) (fun z => nomatch z) rfl
  | str n =>
    obtain ⟨t, rfl⟩ := rel
    cases hb
    exact go PySem.W.kitx_str (kit_ty rfl) (kit_ty rfl) (fun z => nomatch z) rfl
  | byt n => cases hb
  | flt n => cases hb
  | ref n => cases hb
  | ty n => cases hb
/-- all(is_whole(x) for x in e), e a tuple -/
def tAllW (K : PySem.W.Frag) (P : Addr) (te : TE) : TE := fun σ H Q => te σ H fun v H1 => ∃ (a : Addr) (xs : List V), v = .ref a ∧ SqT K H1 a xs ∧ TabG H1 P ∧ (∀ y ∈ xs, ∃ b, wholeV y = some b) ∧ ∀ H2, Tabbed P H1 H2 → Q (.bl (xs.all fun y => (wholeV y).getD false)) H2
theorem all_at {α : Type} (xs : List α) (g : α → Option Bool) : ((List.range xs.length).all fun i => (xs[i]?.bind g).getD false) = xs.all fun y => (g y).getD false := by
  induction xs with
  | nil => rfl
  | cons y r ih =>
    rw [List.length_cons, List.range_succ_eq_map, List.all_cons, List.all_map, List.all_cons, ← ih]
    rfl
theorem pe_allW {X : Cx} (K : PySem.W.Frag) (hK : X.K = K) {c P : Addr} {iter : Expr} {x nm y : Str} {px p pos gpos p1 p2 p3 : Pos} {scope : Scope} {te : TE} {k : Nat} {f : Addr} {fd : FuncData} {st : Stmt}
    (hr : Room k X.A) (hk : 1 ≤ k) (hg : Gl X "all") (hm : X.mg "all" = none) (hb : bootBuiltins "all" = some (.builtin "all")) (TB : TabB X.base X.mg c P) (hcode : X.env.code = .ref c) (S : GenS X.env scope x) (hi : PE X iter te) (W : WholeElt X scope x nm f fd st y)
    (hs : ∀ v, genFold iter X.env v = pure v) :
    PE X (.Call (.Name "all" p) [.GeneratorExp (.Call (.Name nm p1) [.Name x p2] [] p3) [⟨.Name x px, iter, [], 0⟩] scope gpos] [] pos) (tAllW K P te) := by
  subst hK
  refine ⟨fun pins s σ H Q I h => ?_⟩
  refine wpAny_Call_Name_kw (ld_blt I hg hm hb (PyProof.Rows.callWith_builtin1 ?_ rfl rfl))
  show wpAny _ _ (spliced ((false, eval (.GeneratorExp (.Call (.Name nm p1) [.Name x p2] [] p3) [⟨.Name x px, iter, [], 0⟩] scope gpos) X.env) :: backTo pos (starEach [] X.env))) _ _ s
  refine Calls.spliced_cons (gen_items hr TB hcode S hi hs I h fun v H1 now => ?_)
  obtain ⟨a, xs, rfl, hq, tab, scal, fin⟩ := now
  refine ⟨a, xs, _, rfl, hq, tab, whole_elt W I.mod hr hk scal, fun g z poised => Calls.spliced_nil ?_⟩
  obtain ⟨fp, wr, G, F, St, walks, st0, truth, after⟩ := poised
  refine call_all_walkS (walks.self 0 _ _ _ st0 ⟨g, fp, wr, G, _, F, St, _, rfl, walks, st0, truth, fun z' mv => ?_⟩)
  obtain ⟨H2, tb, J⟩ := after z' mv
  refine ⟨.bl _, H2, J, rfl, ?_⟩
  rw [all_at xs wholeV]
  exact fin H2 tb
/-- a def of which the code object is known -/
theorem ok_code {P : Program} {w : World} {K : PySem.W.Frag} {mg : Str → Option Value} {base : Heap} {x qual : Str} {st : Stmt} {f c : Addr} {fd : FuncData} {N ps : List Str} {k : Nat} {sp : Sp} (F : Fun K x qual st f fd) (hc : fd.code = .ref c) (S : FnScope N ps (defScope st)) (len : ∀ vs H Q E, sp vs H Q E → vs.length = ps.length)
    (hbody : ∀ (A : Around) (outer : List Env) (s : Shared) (H : Hp) (vs : List V) (Q : VK) (E : XK), Room k (A.deeper (envOfC qual (defScope st) s.heap.objs.size f (.ref c))) → sp vs H Q E →
      ∃ t, PSs (cxOf CX0 P w K mg base N qual (defScope st) f (.ref c) A outer s H E).nox (defBody st) t ∧ t { nx := fun _ H' => Q .non H', rt := Q } (start N vs) H) : FnOk P w K mg base CX0 (k + 1) f fd ps sp := by
  obtain ⟨kl, kd, kV, dc, pm, an, cv, ct, ks, rfl, look, cin⟩ := F.ex
  obtain rfl : cv = .ref c := hc
  refine fn_of look cin S len fun A outer s H vs Q E hr now => ?_
  obtain ⟨t, h, q⟩ := hbody A outer s H vs Q E hr now
  exact ⟨t, h.nox, q⟩
/-- a statement that is never come to -/
theorem ps_dead {X : Cx} {st : Stmt} : PS X st (fun _ _ _ => False) := ⟨fun _ _ _ _ _ _ h => h.elim⟩
end
/-! ### max of a tuple of numbers -/
def rMaxT (K : PySem.W.Frag) : List V → Hp → VK → Prop := fun xs H Q => ∃ (a : Addr) (ns : List Int), xs = [.ref a] ∧ SqT K H a (ns.map V.int) ∧ ns ≠ [] ∧ ∀ m, m ∈ ns → (∀ y ∈ ns, y ≤ m) → Q (.int m) H
theorem cr_maxT {X : Cx} (K : PySem.W.Frag) (hk : X.K = K) (hc : X.calm = true) : CallR X (.builtin "max") (rMaxT K) := by
  subst hk
  intro pins s σ H xs us Q I r h
  obtain ⟨a, ns, rfl, hs, ne, q⟩ := h
  obtain ⟨its, rv, hl, _⟩ := I.tuple hs
  rw [Vals.ref1 r]
  have ln : its.length = ns.length := by rw [← rv.length, List.length_map]
  have pos : 0 < ns.length := List.length_pos_iff.mpr ne
  have size : its.toArray.size = ns.length := by rw [List.size_toArray, ln]
  refine PySem.call_max_walkH (PySem.W.iter_tupleW (A := X.A.in1) (I.ok.hd hc) hl fun z e W st low out up => ?_)
  refine ⟨_, _, _, _, _, _, _, s.heap, (fun i j => decide (ns.getD i 0 > ns.getD j 0)), rfl, W, st, low, by rw [size]; exact pos, out, up, fun i j vi vj s3 Q3 E3 _ p1 p2 q3 => ?_, fun v s' hP m => ?_⟩
  · exact (CmpOf.ints_gt (fun i => ns.getD i 0) (ints_val rv)) i j vi vj s3 Q3 E3 p1 p2 q3
  · obtain ⟨h', tk, rfl, old⟩ := PySem.W.moved_old e rfl m
    obtain ⟨t, rfl⟩ := ints_val rv _ v hP
    obtain ⟨h1, h2⟩ := argBest_gt (fun i => ns.getD i 0) (its.toArray.size - 1)
    have get : ∀ j, j < ns.length → ns.getD j 0 ∈ ns := fun j jl => by
      rw [List.getD_eq_getElem?_getD, List.getElem?_eq_getElem jl]
      exact List.getElem_mem _
    refine ⟨.int _, H, I.kept old, ⟨_, rfl⟩, q _ (get _ (by omega)) fun y hy => ?_⟩
    obtain ⟨j, hj⟩ := List.getElem?_of_mem hy
    have jl := (List.getElem?_eq_some_iff.mp hj).1
    have := h2 j (by omega)
    rwa [show ns.getD j 0 = y by rw [List.getD_eq_getElem?_getD, hj]; rfl] at this
/-! ### min of a tuple of numbers -/
def rMinT (K : PySem.W.Frag) : List V → Hp → VK → Prop := fun xs H Q => ∃ (a : Addr) (ns : List Int), xs = [.ref a] ∧ SqT K H a (ns.map V.int) ∧ ns ≠ [] ∧ ∀ m, m ∈ ns → (∀ y ∈ ns, m ≤ y) → Q (.int m) H
theorem cr_minT {X : Cx} (K : PySem.W.Frag) (hk : X.K = K) (hc : X.calm = true) : CallR X (.builtin "min") (rMinT K) := by
  subst hk
  intro pins s σ H xs us Q I r h
  obtain ⟨a, ns, rfl, hs, ne, q⟩ := h
  obtain ⟨its, rv, hl, _⟩ := I.tuple hs
  rw [Vals.ref1 r]
  have ln : its.length = ns.length := by rw [← rv.length, List.length_map]
  have pos : 0 < ns.length := List.length_pos_iff.mpr ne
  have size : its.toArray.size = ns.length := by rw [List.size_toArray, ln]
  refine PySem.call_min_walkH (PySem.W.iter_tupleW (A := X.A.in1) (I.ok.hd hc) hl fun z e W st low out up => ?_)
  refine ⟨_, _, _, _, _, _, _, s.heap, (fun i j => decide (ns.getD i 0 < ns.getD j 0)), rfl, W, st, low, by rw [size]; exact pos, out, up, fun i j vi vj s3 Q3 E3 _ p1 p2 q3 => ?_, fun v s' hP m => ?_⟩
  · exact (CmpOf.ints_lt (fun i => ns.getD i 0) (ints_val rv)) i j vi vj s3 Q3 E3 p1 p2 q3
  · obtain ⟨h', tk, rfl, old⟩ := PySem.W.moved_old e rfl m
    obtain ⟨t, rfl⟩ := ints_val rv _ v hP
    obtain ⟨h1, h2⟩ := argBest_lt (fun i => ns.getD i 0) (its.toArray.size - 1)
    have get : ∀ j, j < ns.length → ns.getD j 0 ∈ ns := fun j jl => by
      rw [List.getD_eq_getElem?_getD, List.getElem?_eq_getElem jl]
      exact List.getElem_mem _
    refine ⟨.int _, H, I.kept old, ⟨_, rfl⟩, q _ (get _ (by omega)) fun y hy => ?_⟩
    obtain ⟨j, hj⟩ := List.getElem?_of_mem hy
    have jl := (List.getElem?_eq_some_iff.mp hj).1
    have := h2 j (by omega)
    rwa [show ns.getD j 0 = y by rw [List.getD_eq_getElem?_getD, hj]; rfl] at this
/-- shifts that are let by -/
structure Good33 (hs : List HR) (bs : List BR) (late : Int) (sh : Nat → Int) : Prop where
  ins : ∀ k ∈ doorsOf "in" hs, sh k = 0
  outs : ∀ k ∈ doorsOf "out" hs, sh k = late
  tr : ∀ b ∈ bs, 0 ≤ trS sh b
theorem tab_tk {PT : Addr} {H H' : Hp} (g : GxR.TabG H PT) (b : But PT H H') : TK H H' := fun a xs e => b a _ e fun z => by
  obtain ⟨ps, e1, _⟩ := g
  rw [z, e1] at e
  cases e
theorem tabbed_but {PT : Addr} {H H' : Hp} (t : GxR.Tabbed PT H H') : But PT H H' := fun b o e n => (t.2 b n).trans e
theorem same_tab {PT : Addr} {H H' : Hp} (g : GxR.TabG H PT) (s : Same H H') : GxR.TabG H' PT := by
  obtain ⟨ps, e, t⟩ := g
  exact ⟨ps, s _ _ e, t⟩
/-- the table of is_shifts' code object -/
class TabI (K : PySem.W.Frag) (mg : Str → Option Value) (base : Heap) (cT PT : outParam Addr) : Prop where
  tb : GxR.TabB base mg cT PT
  cd : ∀ (f : Addr) (fd : FuncData), Fun K "is_shifts" "is_shifts" s_is_shifts f fd → mg "is_shifts" = some (.ref f) → fd.code = .ref cT
section
variable {P : Program} {w : World} {K : PySem.W.Frag} {mg : Str → Option Value} {base : Heap}
def sp_is_whole (K : PySem.W.Frag) : Sp := fun vs H Q _ => ∃ n : Int, vs = [.int n] ∧ Q (.bl true) H
theorem ok_is_whole {f : Addr} {fd : FuncData} (F : Fun K "is_whole" "is_whole" s_is_whole f fd) (T : Top K mg) : FnOk P w K mg base CX0 1 f fd ["thing"] (sp_is_whole K) := by
  refine F.ok sc_is_whole (fun vs H Q E h => ?_) (fun cdv A outer s H vs Q E hr h => ?_)
  · obtain ⟨n, rfl, _⟩ := h
    rfl
  obtain ⟨n, rfl, q⟩ := h
  refine ⟨_, (pss_one (ps_ret (pe_and (pe_callB (call_isiKK K rfl) (by rfl) T.m_isinstance (by decide +kernel) (pa_cons (pv 0) (pa_cons (pe_bltn (v := .ty "int") (by rfl) T.m_int (by decide +kernel) rfl) pa_nil))) (pe_one (pe_not (pe_callB (call_isiKK K rfl) (by rfl) T.m_isinstance (by decide +kernel) (pa_cons (pv 0) (pa_cons (pe_bltn (v := .ty "bool") (by rfl) T.m_bool (by decide +kernel) rfl) pa_nil)))))))), ?_⟩
  refine ⟨_, rfl, _, _, _, _, true, rfl, .ty "int", .base (.int _), kit_ty (by decide +kernel), _, rfl, if_bl (fun _ => ?_) (fun z => nomatch z)⟩
  exact ⟨_, rfl, _, _, _, _, false, rfl, .ty "bool", .base (.int _), kit_ty (by decide +kernel), _, rfl, q⟩
theorem genS_of {env : Env} {scope : Scope} {x : Str} (h1 : scope.kind = .function) (h2 : scope.isCoroutine = false) (h3 : ∀ y ∈ scope.names, y.2 ≠ .cell) (h4 : scope.names.lookup (".0" : Str) = some NameKind.local) (h5 : scope.names.lookup x = some .local) (h6 : ∀ y ∈ scope.names, y.2 ≠ .free) : GxR.GenS env scope x :=
  ⟨h1, h2, h3, h4, h5, fun y hy z => absurd z (h6 y hy)⟩
theorem iw_def : IsWholeDef (defBody s_is_whole) (defScope s_is_whole) "thing" := ⟨⟨_, _, _, _, _, _, _, _, _, _, _, rfl⟩, rfl, rfl, rfl, rfl, rfl, rfl, rfl, by decide⟩
section
variable {cT PT : Addr} [TI : TabI K mg base cT PT]
include TI
def sp_is_shifts (K : PySem.W.Frag) (PT : Addr) : Sp := fun vs H Q _ => ∃ (r sl : Addr) (hs : List HR) (bs : List BR) (sh : Nat → Int), vs = [.ref r, .ref sl] ∧ RoomAt H r hs bs ∧ RoomOk hs bs ∧ H sl = some (.tup (levL hs.length sh)) ∧ GxR.TabG H PT ∧ ∀ H', GxR.Tabbed PT H H' → Q (.bl true) H'
theorem ok_is_shifts {f : Addr} {fd : FuncData} (F : Fun K "is_shifts" "is_shifts" s_is_shifts f fd) (hcd : fd.code = .ref cT) (T : Top K mg) : FnOk P w K mg base CX0 2 f fd ["room", "thing"] (sp_is_shifts K PT) := by
  obtain ⟨f_is_whole, fd_is_whole, F_is_whole, b_is_whole, m_is_whole⟩ := T.d_is_whole
  have G_is_whole := ok_is_whole (P := P) (w := w) (base := base) F_is_whole T
  refine ok_code F hcd sc_is_shifts (fun vs H Q E h => ?_) (fun A outer s H vs Q E hr h => ?_)
  · obtain ⟨r, sl, hs, bs, sh, rfl, _⟩ := h
    rfl
  obtain ⟨r, sl, hs, bs, sh, rfl, hR, ok, hsl, tg, q⟩ := h
  obtain ⟨ha, ba, hv, bv, er, eh, eb, alh, alb⟩ := hR.ex
  have lhv := alh.length
  have lh := ok.hands
  have lsl : (levL hs.length sh).length = hs.length := by rw [List.length_map, List.length_range]
  refine ⟨_, (pss_cons (ps_if (PW.pt (pw_or (pt_not (pt_val (pe_callB (call_isiKK K rfl) (by rfl) T.m_isinstance (by decide +kernel) (pa_cons (pv 1) (pa_cons (pe_bltn (v := .ty "tuple") (by rfl) T.m_tuple (by decide +kernel) rfl) pa_nil))))) (pw_or1 (pt_cmpR op_ne (pe_callB (call_len_seqK K rfl) (by rfl) T.m_len (by decide +kernel) (pa_cons (pv 1) pa_nil)) (pe_callB (call_len_seqK K rfl) (by rfl) T.m_len (by decide +kernel) (pa_cons (pe_ix (ix_tupK K rfl) (pv 0) pe_int (fun _ _ => rfl)) pa_nil)) (nomark _))))) (pss_one (ps_ret pe_bl)) pss_nil)
      (pss_one (ps_ret (pe_allW K rfl hr (by decide) (by rfl) T.m_all (by decide +kernel) TI.tb rfl (genS_of rfl rfl (by decide +kernel) rfl rfl (by decide +kernel)) (pv 1) ⟨F_is_whole, iw_def, b_is_whole, m_is_whole, T.m_isinstance, T.m_int, T.m_bool, rfl, rfl, rfl, by decide, by decide⟩ (fun _ => rfl))))), ?_⟩
  refine ⟨_, rfl, _, _, _, _, true, rfl, .ty "tuple", .base (.tup hsl), kit_ty (by decide +kernel), _, rfl, if_bl (fun z => nomatch z) (fun _ => ?_)⟩
  refine ⟨_, rfl, sl, _, rfl, .inr (SqT.of hsl), _, rfl, r, _, _, _, rfl, rfl, SqT.of er, atI_nat (j := 0) rfl, ha, _, rfl, .inr (SqT.of eh), rfl, _, rfl, ?_⟩
  have elen : V.int (((levL hs.length sh).length : Nat) : Int) = V.int ((hv.length : Nat) : Int) := by rw [lsl, lhv]
  refine if_bl (fun z => ?_) (fun _ => ?_)
  · have z : (!decide (V.int (((levL hs.length sh).length : Nat) : Int) = V.int ((hv.length : Nat) : Int))) = true := z
    rw [decide_eq_true elen] at z
    cases z
  refine ⟨_, rfl, sl, _, rfl, SqT.of hsl, tg, fun y hy => ?_, fun H2 tb => ?_⟩
  · obtain ⟨p, _, rfl⟩ := List.mem_map.mp hy
    exact ⟨true, rfl⟩
  · have each : ((levL hs.length sh).all fun y => (wholeV y).getD false) = true := List.all_eq_true.mpr fun y hy => by
      obtain ⟨p, _, rfl⟩ := List.mem_map.mp hy
      rfl
    rw [each]
    exact q H2 tb
end
def sp_trays_moved (K : PySem.W.Frag) : Sp := fun vs H Q _ => ∃ (r sl : Addr) (hs : List HR) (bs : List BR) (sh : Nat → Int), vs = [.ref r, .ref sl] ∧ RoomAt H r hs bs ∧ RoomOk hs bs ∧ H sl = some (.tup (levL hs.length sh)) ∧
  ∀ (p : Addr) (H' : Hp), H p = none → H' p = some (.lst (bs.map fun b => V.int (trS sh b))) → Same H H' → Q (.ref p) H'
theorem ok_trays_moved {f : Addr} {fd : FuncData} (F : Fun K "trays_moved" "trays_moved" s_trays_moved f fd) (T : Top K mg) : FnOk P w K mg base CX0 1 f fd ["room", "shifts"] (sp_trays_moved K) := by
  refine F.ok sc_trays_moved (fun vs H Q E h => ?_) (fun cdv A outer s H vs Q E hr h => ?_)
  · obtain ⟨r, sl, hs, bs, sh, rfl, _⟩ := h
    rfl
  obtain ⟨r, sl, hs, bs, sh, rfl, hR, ok, hsl, q⟩ := h
  obtain ⟨ha, ba, hv, bv, er, eh, eb, alh, alb⟩ := hR.ex
  have lbv := alb.length
  have lb := ok.many
  refine ⟨_, (pss_one (ps_ret (pe_lc (own := [("giver", 2), ("taker", 3), ("things", 4)]) (g := gTup K 3 (gCons (gName 2) (gCons (gName 3) (gCons (gName 4) gNil)))) (tt := tYes) (by rfl) sc_trays_moved.nd (pi_tupK K rfl (pe_ix (ix_tupK K rfl) (pv 0) pe_int (fun _ _ => rfl))) (blkOk_by (own := [("giver", 2), ("taker", 3), ("things", 4)]) (N := N_trays_moved) (sc := defScope s_trays_moved) (by decide +kernel)) (fun _ _ _ _ _ => (pg_tupK K rfl rfl (pgs_cons (pg_name (i := 2) sc_trays_moved.nd rfl (Or.inl rfl)) (pgs_cons (pg_name (i := 3) sc_trays_moved.nd rfl (Or.inl rfl)) (pgs_cons (pg_name (i := 4) sc_trays_moved.nd rfl (Or.inl rfl)) pgs_nil))))) (fun _ _ _ _ _ => pts_nil) (fun _ _ _ _ _ => (pe_op op_sub (pe_op op_add (pe_callB (call_len_seqK K rfl) (by rfl) T.m_len (by decide +kernel) (pa_cons (pv 4) pa_nil)) (pe_ix (ix_tupK K rfl) (pv 1) (pv 3) (fun _ _ => rfl))) (pe_ix (ix_tupK K rfl) (pv 1) (pv 2) (fun _ _ => rfl))))))), ?_⟩
  refine ⟨_, rfl, r, _, _, _, rfl, rfl, SqT.of er, atI_nat (j := 1) rfl, ba, rfl, ⟨_, SqT.of eb⟩, fun D nD => lc_tup (K := K) (a := ba) (xs := bv) (fun i H5 => H5 D = some (.lst ((bs.take i).map fun b => V.int (trS sh b))) ∧ Same H H5) ⟨upd_same, same_new nD⟩ (fun i H5 _ ⟨_, s5⟩ => SqT.of (s5 _ _ eb)) ?_ ?_⟩
  · rintro i x H5 hx ⟨hD, s5⟩
    obtain ⟨b, ebi, ⟨t, g, rfl, e1, e2⟩⟩ := alb.getL hx
    have il := (List.getElem?_eq_some_iff.mp ebi).1
    obtain ⟨l1, l2⟩ := ok.ends b (List.mem_of_getElem? ebi)
    refine ⟨t, _, rfl, SqT.of (s5 _ _ e1), rfl, ?_⟩
    refine ⟨_, _, rfl, ?_⟩
    refine ⟨_, _, rfl, ?_⟩
    refine ⟨_, _, rfl, rfl, ?_⟩
    refine ⟨rfl, ?_⟩
    refine yes_in ?_
    refine ⟨_, rfl, g, _, rfl, .inr (SqT.of (s5 _ _ e2)), _, rfl, _, rfl, sl, _, _, _, rfl, rfl, SqT.of (s5 _ _ hsl), atI_nat (rg_at l2), _, _, rfl, rfl, _, rfl, _, rfl, sl, _, _, _, rfl, rfl, SqT.of (s5 _ _ hsl), atI_nat (rg_at l1), _, _, rfl, rfl, _, hD, by rw [List.length_map, List.length_take]; exact small1000 (by omega), ?_, Same.own s5 nD⟩
    rw [upd_same, List.take_add_one, ebi, List.map_append, List.length_map]
    rfl
  · rintro H5 ⟨hD, s5⟩
    rw [lbv, List.take_length] at hD
    exact q D H5 nD hD s5
def sp_waits (K : PySem.W.Frag) : Sp := fun vs H Q _ => ∃ (sl : Addr) (ns : List Int), vs = [.ref sl] ∧ H sl = some (.tup (ns.map V.int)) ∧ ns.length ≤ 100 ∧ ∀ (m : Int) (H' : Hp), m ∈ 0 :: ns → (∀ y ∈ 0 :: ns, y ≤ m) → Same H H' → Q (.int m) H'
theorem ok_waits {f : Addr} {fd : FuncData} (F : Fun K "waits" "waits" s_waits f fd) (T : Top K mg) : FnOk P w K mg base CX0 1 f fd ["shifts"] (sp_waits K) := by
  refine F.ok sc_waits (fun vs H Q E h => ?_) (fun cdv A outer s H vs Q E hr h => ?_)
  · obtain ⟨sl, ns, rfl, _⟩ := h
    rfl
  obtain ⟨sl, ns, rfl, hsl, ln, q⟩ := h
  refine ⟨_, (pss_one (ps_ret (pe_callB (cr_maxT K rfl rfl) (by rfl) T.m_max (by decide +kernel) (pa_cons (pe_op (op_catAK K rfl) (pe_tup (pa_cons pe_int pa_nil)) (pv 0)) pa_nil)))), ?_⟩
  refine ⟨(by show 1 ≤ sizeLine; decide), fun z0 nz => ?_⟩
  have s1 := same_new (o := .tup [V.int 0]) nz
  refine ⟨_, rfl, z0, sl, _, _, rfl, rfl, SqT.of upd_same, SqT.of (s1 _ _ hsl), by rw [List.length_map]; exact little (by show 1 + _ ≤ 1000; omega), fun z => (nomatch z), fun _ em => ?_, fun _ _ p np => ?_⟩
  · have em : ns = [] := List.map_eq_nil_iff.mp em
    subst em
    exact ⟨z0, [0], rfl, SqT.of upd_same, by simp, fun m hm hle => q m _ hm hle s1⟩
  · exact ⟨p, 0 :: ns, rfl, SqT.of upd_same, by simp, fun m hm hle => q m _ hm hle (s1.trans (same_new np))⟩
def sp_refuse_shifts (K : PySem.W.Frag) : Sp := fun vs H Q _ => ∃ x : V, vs = [x, .non] ∧ Q .non H
theorem ok_refuse_shifts {f : Addr} {fd : FuncData} (F : Fun K "refuse_shifts" "refuse_shifts" s_refuse_shifts f fd) (T : Top K mg) : FnOk P w K mg base CX0 1 f fd ["word", "at"] (sp_refuse_shifts K) := by
  refine F.ok sc_refuse_shifts (fun vs H Q E h => ?_) (fun cdv A outer s H vs Q E hr h => ?_)
  · obtain ⟨x, rfl, _⟩ := h
    rfl
  obtain ⟨x, rfl, q⟩ := h
  refine ⟨_, (pss_one (ps_if (pt_cmpR op_notN (pv 1) pe_non (nomark _)) (pss_one ps_dead) pss_nil)), ?_⟩
  exact ⟨_, rfl, rfl, _, rfl, if_bl (fun z => absurd (show (!decide (V.non = V.non)) = true from z) (by decide)) (fun _ => q)⟩
def sp_wrong_door (K : PySem.W.Frag) : Sp := fun vs H Q _ => ∃ (r sl : Addr) (hs : List HR) (bs : List BR) (late : Int) (sh : Nat → Int), vs = [.ref r, .int late, .ref sl] ∧ RoomAt H r hs bs ∧ RoomOk hs bs ∧ H sl = some (.tup (levL hs.length sh)) ∧ Good33 hs bs late sh ∧ ∀ H', Same H H' → Q .non H'
theorem ok_wrong_door {f : Addr} {fd : FuncData} (F : Fun K "wrong_door" "wrong_door" s_wrong_door f fd) (T : Top K mg) : FnOk P w K mg base CX0 2 f fd ["room", "late", "shifts"] (sp_wrong_door K) := by
  obtain ⟨f_doors_in, fd_doors_in, F_doors_in, b_doors_in, m_doors_in⟩ := T.d_doors_in
  have G_doors_in := ok_doors_in (P := P) (w := w) (base := base) F_doors_in T
  obtain ⟨f_doors_out, fd_doors_out, F_doors_out, b_doors_out, m_doors_out⟩ := T.d_doors_out
  have G_doors_out := ok_doors_out (P := P) (w := w) (base := base) F_doors_out T
  refine F.ok sc_wrong_door (fun vs H Q E h => ?_) (fun cdv A outer s H vs Q E hr h => ?_)
  · obtain ⟨r, sl, hs, bs, late, sh, rfl, _⟩ := h
    rfl
  obtain ⟨r, sl, hs, bs, late, sh, rfl, hR, ok, hsl, gd, q⟩ := h
  have lh := ok.hands
  let R1 : TS := fun D' σ' H' => D'.rt = Q ∧ ∃ (wl : Addr), σ' = [some (.ref r), some (.int late), some (.ref sl), some (.ref wl), none] ∧ H' wl = some (.lst []) ∧ H wl = none ∧ Same H H'
  let R2 : TS := fun D' σ' H' => D'.rt = Q ∧ ∃ (wl : Addr), σ' = [some (.ref r), some (.int late), some (.ref sl), some (.ref wl), none] ∧ H' wl = some (.lst []) ∧ Same H H'
  refine ⟨_, (pss_cons (ps_setLc (i := 3) (own := [("door", 4)]) (g := gName 4) (by rfl) sc_wrong_door.nd rfl rfl (sw_true rfl rfl rfl (by decide +kernel)) (pi_listK K rfl (pe_call G_doors_in (hr.mono (by decide)) (by rfl) m_doors_in F_doors_in.kp b_doors_in .nil pass0 (pa_cons (pv 0) pa_nil))) (blkOk_by (own := [("door", 4)]) (N := N_wrong_door) (sc := defScope s_wrong_door) (by decide +kernel)) (fun _ _ _ _ _ => (pg_name (i := 4) sc_wrong_door.nd rfl (Or.inl rfl))) (fun _ _ _ _ _ => pts_one (pt_cmpR op_ne (pe_ix (ix_tupK K rfl) (pv 2) (pv 4) (fun _ _ => rfl)) pe_int (nomark _))) (fun _ _ _ _ _ => (pv 4)))
      (PSs.to (pss_cons (ps_expr (pe_bmK K rfl PySem.F.plainAttrs_list PySem.F.slot_list_extend PySem.F.type_list_extend mt_extend (pv 3) (pa_cons (pe_lc (own := [("door", 4)]) (g := gName 4) (by rfl) sc_wrong_door.nd (pi_listK K rfl (pe_call G_doors_out (hr.mono (by decide)) (by rfl) m_doors_out F_doors_out.kp b_doors_out .nil pass0 (pa_cons (pv 0) pa_nil))) (blkOk_by (own := [("door", 4)]) (N := N_wrong_door) (sc := defScope s_wrong_door) (by decide +kernel)) (fun _ _ _ _ _ => (pg_name (i := 4) sc_wrong_door.nd rfl (Or.inl rfl))) (fun _ _ _ _ _ => pts_one (pt_cmpR op_ne (pe_ix (ix_tupK K rfl) (pv 2) (pv 4) (fun _ _ => rfl)) (pv 1) (nomark _))) (fun _ _ _ _ _ => (pv 4))) pa_nil)))
      (PSs.to (pss_one (ps_ret (pe_callBK (cr_minDf K rfl rfl) (by rfl) T.m_min (by decide +kernel) (pa_cons (pv 3) pa_nil) (pk_cons pe_non pk_nil)))) R2 ?tail2)) R1 ?tail1)), ?_⟩
  case tail2 =>
    rintro D' σ' H1 ⟨eD, wl, rfl, hw, s1⟩
    refine ⟨_, rfl, wl, [], _, rfl, rfl, SqL.of hw, fun _ => ?_, fun m hm => nomatch hm⟩
    rw [eD]
    exact q H1 s1
  case tail1 =>
    rintro D' σ' H1 ⟨eD, wl, rfl, hw, nw, s1⟩
    refine ⟨_, rfl, .inl ⟨rfl, _, SqL.of hw⟩, ?_⟩
    refine ⟨_, rfl, r, hs, bs, rfl, hR.keep (TK.same s1), by omega, ok.good, fun p H2 np hp s2 => ⟨p, rfl, ⟨_, SqL.of hp⟩, fun D nD => lc_list (K := K) (a := p) (xs := (doorsOf "out" hs).map nV) (fun i H5 => H5 D = some (.lst []) ∧ Same H2 H5) ⟨upd_same, same_new nD⟩ (fun i H5 _ ⟨_, s5⟩ => SqL.of (s5 _ _ hp)) ?_ ?_⟩⟩
    · rintro i x H5 hx ⟨hD, s5⟩
      obtain ⟨k, ek, rfl⟩ := nats_at hx
      have km := List.mem_of_getElem? ek
      refine ⟨rfl, _, rfl, _, rfl, sl, _, _, _, rfl, rfl, SqT.of (((s1.trans s2).trans s5) _ _ hsl), atI_nat (rg_at (door_lt km)), _, rfl, rfl, _, rfl, if_bl (fun z => ?_) (fun _ => ⟨hD, s5⟩)⟩
      have z : (!decide (V.int (sh k) = V.int late)) = true := z
      rw [gd.outs k km, decide_eq_true rfl] at z
      cases z
    · rintro H5 ⟨hD, s5⟩
      have hw5 := (s2.trans s5) _ _ hw
      refine ⟨wl, D, _, _, rfl, rfl, hw5, hD, Nat.zero_le _, ?_⟩
      exact ⟨eD, wl, rfl, upd_same, Same.own ((s1.trans s2).trans s5) nw⟩
  refine ⟨_, rfl, r, hs, bs, rfl, hR, by omega, ok.good, fun p H1 np hp s1 => ⟨p, rfl, ⟨_, SqL.of hp⟩, fun D nD => lc_list (K := K) (a := p) (xs := (doorsOf "in" hs).map nV) (fun i H5 => H5 D = some (.lst []) ∧ Same H1 H5) ⟨upd_same, same_new nD⟩ (fun i H5 _ ⟨_, s5⟩ => SqL.of (s5 _ _ hp)) ?_ ?_⟩⟩
  · rintro i x H5 hx ⟨hD, s5⟩
    obtain ⟨k, ek, rfl⟩ := nats_at hx
    have km := List.mem_of_getElem? ek
    refine ⟨rfl, _, rfl, _, rfl, sl, _, _, _, rfl, rfl, SqT.of ((s1.trans s5) _ _ hsl), atI_nat (rg_at (door_lt km)), rfl, _, rfl, if_bl (fun z => ?_) (fun _ => ⟨hD, s5⟩)⟩
    have z : (!decide (V.int (sh k) = V.int 0)) = true := z
    rw [gd.ins k km] at z
    exact absurd z (by decide)
  · rintro H5 ⟨hD, s5⟩
    refine ⟨rfl, D, rfl, hD, ?_, s1.trans s5⟩
    cases e : H D with
    | none => rfl
    | some u => rw [s1 _ _ e] at nD; cases nD
def sp_short_belt (K : PySem.W.Frag) : Sp := fun vs H Q _ => ∃ (r sl : Addr) (hs : List HR) (bs : List BR) (late : Int) (sh : Nat → Int), vs = [.ref r, .ref sl] ∧ RoomAt H r hs bs ∧ RoomOk hs bs ∧ H sl = some (.tup (levL hs.length sh)) ∧ Good33 hs bs late sh ∧ ∀ H', Same H H' → Q .non H'
theorem ok_short_belt {f : Addr} {fd : FuncData} (F : Fun K "short_belt" "short_belt" s_short_belt f fd) (T : Top K mg) : FnOk P w K mg base CX0 2 f fd ["room", "shifts"] (sp_short_belt K) := by
  obtain ⟨f_trays_moved, fd_trays_moved, F_trays_moved, b_trays_moved, m_trays_moved⟩ := T.d_trays_moved
  have G_trays_moved := ok_trays_moved (P := P) (w := w) (base := base) F_trays_moved T
  refine F.ok sc_short_belt (fun vs H Q E h => ?_) (fun cdv A outer s H vs Q E hr h => ?_)
  · obtain ⟨r, sl, hs, bs, late, sh, rfl, _⟩ := h
    rfl
  obtain ⟨r, sl, hs, bs, late, sh, rfl, hR, ok, hsl, gd, q⟩ := h
  refine ⟨_, (pss_cons (ps_for PassesOwn.never rfl (pi_enum (by rfl) T.m_enumerate (pa_cons (pe_call G_trays_moved (hr.mono (by decide)) (by rfl) m_trays_moved F_trays_moved.kp b_trays_moved .nil pass0 (pa_cons (pv 0) (pa_cons (pv 1) pa_nil))) pa_nil)) (pg_tupK K rfl rfl (pgs_cons (pg_name (i := 2) sc_short_belt.nd rfl (Or.inl rfl)) (pgs_cons (pg_name (i := 3) sc_short_belt.nd rfl (Or.inl rfl)) pgs_nil)))
        (pss_one (ps_if (pt_cmpR op_lt (pv 3) pe_int (nomark _)) (pss_one (ps_ret (pv 2))) pss_nil)))
      (pss_one (ps_ret pe_non))), ?_⟩
  refine ⟨_, rfl, _, rfl, r, sl, hs, bs, sh, rfl, hR, ok, hsl, fun p H1 np hp s1 => ?_⟩
  refine ⟨p, _, rfl, SqL.of hp, for_it (J := Ite K p) (n := bs.length) (fun i σ H5 => ∃ v2 v3 : Option V, σ = [some (.ref r), some (.ref sl), v2, v3] ∧ Same H1 H5) ⟨none, none, rfl, fun _ _ e => e⟩ (fun i σ H5 hi ⟨_, _, _, s5⟩ => ⟨_, _, SqL.of (s5 _ _ hp), by rw [List.getElem?_map, List.getElem?_eq_getElem hi]; rfl⟩) (fun σ H5 ⟨_, _, _, s5⟩ => ⟨_, SqL.of (s5 _ _ hp), by rw [List.length_map]; exact Nat.le_refl _⟩) ?_ ?_⟩
  · rintro i x σ H5 H6 hi ⟨v2, v3, rfl, s5⟩ ⟨t, y, rfl, nt, rfl, ey⟩
    have ey := ey _ (SqL.of (s5 _ _ hp))
    rw [List.getElem?_map, List.getElem?_eq_getElem hi] at ey
    obtain rfl : V.int (trS sh bs[i]) = y := Option.some.inj ey
    have g0 := gd.tr _ (List.getElem_mem hi)
    refine ⟨t, _, rfl, SqT.of upd_same, rfl, _, _, rfl, _, _, rfl, rfl, _, rfl, _, _, rfl, rfl, _, rfl, if_bl (fun z => ?_) (fun _ => ⟨_, _, rfl, s5.trans (same_new nt)⟩)⟩
    have z : decide (trS sh bs[i] < 0) = true := z
    have := of_decide_eq_true z
    omega
  · rintro σ H5 ⟨v2, v3, rfl, s5⟩
    exact q H5 (s1.trans s5)
end
section
variable {P : Program} {w : World} {K : PySem.W.Frag} {mg : Str → Option Value} {base : Heap} {cT PT : Addr} [TI : TabI K mg base cT PT]
include TI
def sp_look_shifts (K : PySem.W.Frag) (PT : Addr) : Sp := fun vs H Q _ => ∃ (r sl : Addr) (hs : List HR) (bs : List BR) (late : Int) (sh : Nat → Int), vs = [.ref r, .int late, .ref sl] ∧ RoomAt H r hs bs ∧ RoomOk hs bs ∧ H sl = some (.tup (levL hs.length sh)) ∧ Good33 hs bs late sh ∧ GxR.TabG H PT ∧ ∀ H', GxR.TabG H' PT → But PT H H' → Q (.bl true) H'
theorem ok_look_shifts {f : Addr} {fd : FuncData} (F : Fun K "look_shifts" "look_shifts" s_look_shifts f fd) (T : Top K mg) : FnOk P w K mg base CX0 3 f fd ["room", "late", "shifts"] (sp_look_shifts K PT) := by
  obtain ⟨f_refuse_shifts, fd_refuse_shifts, F_refuse_shifts, b_refuse_shifts, m_refuse_shifts⟩ := T.d_refuse_shifts
  have G_refuse_shifts := ok_refuse_shifts (P := P) (w := w) (base := base) F_refuse_shifts T
  obtain ⟨f_is_shifts, fd_is_shifts, F_is_shifts, b_is_shifts, m_is_shifts⟩ := T.d_is_shifts
  have G_is_shifts := ok_is_shifts (P := P) (w := w) (base := base) F_is_shifts (TI.cd _ _ F_is_shifts m_is_shifts) T
  obtain ⟨f_wrong_door, fd_wrong_door, F_wrong_door, b_wrong_door, m_wrong_door⟩ := T.d_wrong_door
  have G_wrong_door := ok_wrong_door (P := P) (w := w) (base := base) F_wrong_door T
  obtain ⟨f_short_belt, fd_short_belt, F_short_belt, b_short_belt, m_short_belt⟩ := T.d_short_belt
  have G_short_belt := ok_short_belt (P := P) (w := w) (base := base) F_short_belt T
  refine F.ok sc_look_shifts (fun vs H Q E h => ?_) (fun cdv A outer s H vs Q E hr h => ?_)
  · obtain ⟨r, sl, hs, bs, late, sh, rfl, _⟩ := h
    rfl
  obtain ⟨r, sl, hs, bs, late, sh, rfl, hR, ok, hsl, gd, tg, q⟩ := h
  refine ⟨_, (pss_cons (ps_if (pt_not (pt_val (pe_call G_is_shifts (hr.mono (by decide)) (by rfl) m_is_shifts F_is_shifts.kp b_is_shifts .nil pass0 (pa_cons (pv 0) (pa_cons (pv 2) pa_nil))))) (pss_one ps_dead) pss_nil)
      (pss_cons (ps_expr (pe_call G_refuse_shifts (hr.mono (by decide)) (by rfl) m_refuse_shifts F_refuse_shifts.kp b_refuse_shifts .nil pass0 (pa_cons pe_str (pa_cons (pe_call G_wrong_door (hr.mono (by decide)) (by rfl) m_wrong_door F_wrong_door.kp b_wrong_door .nil pass0 (pa_cons (pv 0) (pa_cons (pv 1) (pa_cons (pv 2) pa_nil)))) pa_nil))))
      (pss_cons (ps_expr (pe_call G_refuse_shifts (hr.mono (by decide)) (by rfl) m_refuse_shifts F_refuse_shifts.kp b_refuse_shifts .nil pass0 (pa_cons pe_str (pa_cons (pe_call G_short_belt (hr.mono (by decide)) (by rfl) m_short_belt F_short_belt.kp b_short_belt .nil pass0 (pa_cons (pv 0) (pa_cons (pv 2) pa_nil))) pa_nil))))
      (pss_one (ps_ret pe_bl))))), ?_⟩
  refine ⟨_, rfl, _, rfl, r, sl, hs, bs, sh, rfl, hR, ok, hsl, tg, fun H1 tb => ?_⟩
  have b1 := tabbed_but tb
  have k1 := tab_tk tg b1
  have hsl1 := k1 _ _ hsl
  have hR1 := hR.keep k1
  refine ⟨_, rfl, if_bl (fun z => nomatch z) (fun _ => ?_)⟩
  refine ⟨_, rfl, _, rfl, _, rfl, r, sl, hs, bs, late, sh, rfl, hR1, ok, hsl1, gd, fun H2 s2 => ⟨_, rfl, ?_⟩⟩
  refine ⟨_, rfl, _, rfl, r, sl, hs, bs, late, sh, rfl, hR1.keep (TK.same s2), ok, s2 _ _ hsl1, gd, fun H3 s3 => ⟨_, rfl, ?_⟩⟩
  exact q H3 (same_tab tb.1 (s2.trans s3)) (b1.same (s2.trans s3))
end
theorem log_sm {n : Nat} (h : n ≤ 1000) : ((n : Nat) : Int).natAbs.log2 < 9000 := by
  rw [Int.natAbs_natCast]
  exact Nat.lt_of_le_of_lt (Nat.log2_le_self n) (by omega)
theorem lev_len {n : Nat} {sh : Nat → Int} : (levL n sh).length = n := by rw [List.length_map, List.length_range]
theorem lev_set33 {n k : Nat} {sh : Nat → Int} {v : Int} (h : k < n) : ((levL n sh).take k ++ [V.int v]) ++ (levL n sh).drop (k + 1) = levL n (fun p => if p = k then v else sh p) := by
  have lt : ((levL n sh).take k).length = k := by rw [List.length_take, lev_len]; omega
  refine List.ext_getElem? fun i => ?_
  by_cases il : i < n
  · rw [rg_at (f := fun p => V.int (if p = k then v else sh p)) il]
    by_cases c1 : i < k
    · rw [List.append_assoc, List.getElem?_append_left (by omega), List.getElem?_take_of_lt c1, rg_at il, if_neg (by omega)]
    · by_cases c2 : i = k
      · subst c2
        rw [List.append_assoc, List.getElem?_append_right (by omega), lt, Nat.sub_self, if_pos rfl]
        rfl
      · rw [List.getElem?_append_right (by rw [List.length_append, lt]; show k + 1 ≤ i; omega), List.length_append, lt, List.getElem?_drop]
        show (levL n sh)[k + 1 + (i - (k + 1))]? = _
        rw [show k + 1 + (i - (k + 1)) = i by omega, rg_at il, if_neg c2]
  · rw [List.getElem?_eq_none (by rw [List.length_append, List.length_append, lt, List.length_drop, lev_len]; show k + 1 + (n - (k + 1)) ≤ i; omega), List.getElem?_eq_none (by rw [lev_len]; omega)]
theorem abs20 {a : Int} (h : decide ((if a < 0 then -a else a) ≤ 20) = true) : -20 ≤ a ∧ a ≤ 20 := by
  have := of_decide_eq_true h
  split at this <;> omega
def Bd (n : Int) (sh : Nat → Int) : Prop := ∀ k, -n ≤ sh k ∧ sh k ≤ n
theorem one_eqv (h : HR) (z : Str) : PyData.eqv (.tuple [.str z]) (.tuple (ruleD h)) = (decide (h.wd = z) && h.no.isNone) := by
  obtain ⟨wd, no, mom⟩ := h
  have e : (z == wd) = decide (wd = z) := by
    by_cases k : wd = z
    · rw [k, decide_eq_true rfl]; exact beq_self_eq_true z
    · rw [decide_eq_false k]; exact beq_eq_false_iff_ne.mpr fun y => k y.symm
  cases no with
  | none => show (z == wd && true) = (decide (wd = z) && true); rw [e]
  | some n => show (z == wd && false) = (decide (wd = z) && false); rw [Bool.and_false, Bool.and_false]
/-! ### rooms moved -/
/-- what is taken from a belt at a bell -/
def takenAt (b : BR) (ms : List (List Int)) (t : Nat) : Int := if t < b.th.length then gD b.th t else gD (ms.getD (t - b.th.length) []) b.one
/-- a belt moved -/
def movB (sh : Nat → Int) (w : Int) (ms : List (List Int)) (b : BR) : BR := ⟨b.one, b.to, (List.range (trS sh b).toNat).map fun i => takenAt b ms ((w - sh b.to).toNat + i)⟩
section
variable {P : Program} {w : World} {K : PySem.W.Frag} {mg : Str → Option Value} {base : Heap}
def sp_taken_at (K : PySem.W.Frag) : Sp := fun vs H Q _ => ∃ (v : V) (b : BR) (ml : Addr) (mv : List V) (ms : List (List Int)) (n : Nat), vs = [v, .ref ml, .int ((n : Nat) : Int)] ∧ BeltAt H v b ∧ H ml = some (.lst mv) ∧ All2 (RowAt H) mv ms ∧ (∀ m ∈ ms, b.one < m.length) ∧ n < b.th.length + ms.length ∧ Q (.int (takenAt b ms n)) H
theorem ok_taken_at {f : Addr} {fd : FuncData} (F : Fun K "taken_at" "taken_at" s_taken_at f fd) (T : Top K mg) : FnOk P w K mg base CX0 1 f fd ["belt", "made", "bell"] (sp_taken_at K) := by
  refine F.ok sc_taken_at (fun vs H Q E h => ?_) (fun cdv A outer s H vs Q E hr h => ?_)
  · obtain ⟨v, b, ml, mv, ms, n, rfl, _⟩ := h
    rfl
  obtain ⟨v, b, ml, mv, ms, n, rfl, ⟨t, g, rfl, e1, e2⟩, hml, al, om, nl, q⟩ := h
  refine ⟨_, (pss_cons (ps_asg (pv 0) (pg_tupK K rfl rfl (pgs_cons (pg_name (i := 3) sc_taken_at.nd rfl (Or.inl rfl)) (pgs_cons (pg_name (i := 4) sc_taken_at.nd rfl (Or.inl rfl)) (pgs_cons (pg_name (i := 5) sc_taken_at.nd rfl (Or.inl rfl)) pgs_nil)))))
      (pss_one (ps_ret (pe_ifExp (pt_cmpR op_lt (pv 2) (pe_callB (call_len_seqK K rfl) (by rfl) T.m_len (by decide +kernel) (pa_cons (pv 5) pa_nil)) (nomark _)) (pe_ix (ix_tupK K rfl) (pv 5) (pv 2) (fun _ _ => rfl)) (pe_ix (ix_tupK K rfl) (pe_ix (ix_listK K rfl) (pv 1) (pe_op op_sub (pv 2) (pe_callB (call_len_seqK K rfl) (by rfl) T.m_len (by decide +kernel) (pa_cons (pv 5) pa_nil))) (fun _ _ => rfl)) (pv 3) (fun _ _ => rfl)))))), ?_⟩
  refine ⟨_, rfl, t, _, rfl, SqT.of e1, rfl, _, _, rfl, _, _, rfl, _, _, rfl, rfl, ?_⟩
  refine ⟨_, rfl, _, rfl, g, _, rfl, .inr (SqT.of e2), _, _, rfl, rfl, _, rfl, ?_⟩
  unfold takenAt at q
  rw [List.length_map]
  by_cases c : n < b.th.length
  · rw [if_pos c] at q
    rw [decide_eq_true (show ((n : Nat) : Int) < ((b.th.length : Nat) : Int) by omega)]
    exact if_bl (fun _ => ⟨_, rfl, _, rfl, g, _, _, _, rfl, rfl, SqT.of e2, at_row c, q⟩) (fun z => nomatch z)
  · rw [if_neg c] at q
    rw [decide_eq_false (show ¬ ((n : Nat) : Int) < ((b.th.length : Nat) : Int) by omega)]
    have jl : n - b.th.length < ms.length := by omega
    obtain ⟨x, ex, ⟨tr, rfl, hr⟩⟩ := al.get (List.getElem?_eq_getElem jl)
    have em : ms.getD (n - b.th.length) [] = ms[n - b.th.length] := by rw [List.getD_eq_getElem?_getD, List.getElem?_eq_getElem jl]; rfl
    rw [em] at q
    have oml := om _ (List.getElem_mem jl)
    have ix : (fun i j => V.int (i - j)) ((n : Nat) : Int) ((b.th.length : Nat) : Int) = V.int (((n - b.th.length : Nat)) : Int) := by
      show V.int _ = V.int _
      congr 1
      omega
    refine if_bl (fun z => nomatch z) (fun _ => ⟨_, rfl, _, rfl, _, rfl, g, _, rfl, .inr (SqT.of e2), ?_⟩)
    rw [List.length_map]
    refine ⟨_, _, rfl, rfl, ?_⟩
    rw [ix]
    exact ⟨ml, _, _, _, rfl, rfl, SqL.of hml, atI_nat ex, _, rfl, tr, _, _, _, rfl, rfl, SqT.of hr, at_row oml, q⟩
abbrev noughts (hs : List HR) : List Int := (doorsOf "in" hs).map fun _ => 0
def sp_rows_on (K : PySem.W.Frag) : Sp := fun vs H Q _ => ∃ (r sl a : Addr) (hs : List HR) (bs : List BR) (rv : List V) (rows : List (List Int)) (ns : List Int), vs = [.ref r, .ref sl, .ref a] ∧ RoomAt H r hs bs ∧ RoomOk hs bs ∧ H sl = some (.tup (ns.map V.int)) ∧ ns.length ≤ 100 ∧ (∀ x ∈ ns, -100 ≤ x) ∧ (H a = some (.lst rv) ∨ H a = some (.tup rv)) ∧ All2 (RowAt H) rv rows ∧ rows.length ≤ 200 ∧
  ∀ (p : Addr) (ov : List V) (d : Nat) (H' : Hp), H' p = some (.lst ov) → All2 (RowAt H') ov (rows ++ List.replicate d (noughts hs)) → (∀ x ∈ ns, -((d : Nat) : Int) ≤ x) → (d = 0 ∨ -((d : Nat) : Int) ∈ ns) → Same H H' → Q (.ref p) H'
theorem all2_rep {α β : Type} {R : α → β → Prop} {x : α} {y : β} (h : R x y) : ∀ n : Nat, All2 R (List.replicate n x) (List.replicate n y)
  | 0 => .nil
  | n + 1 => .cons h (all2_rep h n)
theorem All2.app {α β : Type} {R : α → β → Prop} {as : List α} {bs : List β} (h : All2 R as bs) {cs : List α} {ds : List β} (g : All2 R cs ds) : All2 R (as ++ cs) (bs ++ ds) := by
  induction h with
  | nil => exact g
  | cons a _ ih => exact .cons a ih
theorem rep_one {α : Type} (x : α) : ∀ n : Nat, (List.replicate n [x]).flatten = List.replicate n x
  | 0 => rfl
  | n + 1 => by rw [List.replicate_succ, List.flatten_cons, rep_one x n]; rfl
theorem ok_rows_on {f : Addr} {fd : FuncData} (F : Fun K "rows_on" "rows_on" s_rows_on f fd) (T : Top K mg) : FnOk P w K mg base CX0 2 f fd ["room", "shifts", "rows"] (sp_rows_on K) := by
  obtain ⟨f_doors_in, fd_doors_in, F_doors_in, b_doors_in, m_doors_in⟩ := T.d_doors_in
  have G_doors_in := ok_doors_in (P := P) (w := w) (base := base) F_doors_in T
  refine F.ok sc_rows_on (fun vs H Q E h => ?_) (fun cdv A outer s H vs Q E hr h => ?_)
  · obtain ⟨r, sl, a, hs, bs, rv, rows, ns, rfl, _⟩ := h
    rfl
  obtain ⟨r, sl, a, hs, bs, rv, rows, ns, rfl, hR, ok, hsl, ln, lo, ha, al, lr, q⟩ := h
  have lh := ok.hands
  have lrv := al.length
  have ld := doors_len (z := "in") (hs := hs)
  refine ⟨_, (pss_cons (ps_set (i := 3) sc_rows_on.nd rfl (Or.inl rfl) (pe_callTy (call_tuple_ofK K rfl) (by rfl) T.m_tuple (by decide +kernel) (pa_cons (pe_lc (own := [("door", 4)]) (g := gName 4) (tt := tYes) (by rfl) sc_rows_on.nd (pi_listK K rfl (pe_call G_doors_in (hr.mono (by decide)) (by rfl) m_doors_in F_doors_in.kp b_doors_in .nil pass0 (pa_cons (pv 0) pa_nil))) (blkOk_by (own := [("door", 4)]) (N := N_rows_on) (sc := defScope s_rows_on) (by decide +kernel)) (fun _ _ _ _ _ => (pg_name (i := 4) sc_rows_on.nd rfl (Or.inl rfl))) (fun _ _ _ _ _ => pts_nil) (fun _ _ _ _ _ => pe_int)) pa_nil)))
      (pss_one (ps_ret (pe_op op_cat (pe_callTy (call_list_ofK K rfl) (by rfl) T.m_list (by decide +kernel) (pa_cons (pv 2) pa_nil)) (pe_op op_rep (pe_lst (pa_cons (pv 3) pa_nil)) (pe_un un_neg (pe_callB (cr_minT K rfl rfl) (by rfl) T.m_min (by decide +kernel) (pa_cons (pe_op (op_catAK K rfl) (pe_tup (pa_cons pe_int pa_nil)) (pv 1)) pa_nil)))))))), ?_⟩
  refine ⟨_, rfl, r, hs, bs, rfl, hR, by omega, ok.good, fun p0 H1 np0 hp0 s1 => ⟨p0, rfl, ⟨_, SqL.of hp0⟩, fun D nD => lc_list (K := K) (a := p0) (xs := (doorsOf "in" hs).map nV) (fun i H5 => H5 D = some (.lst (List.replicate i (V.int 0))) ∧ Same H1 H5) ⟨upd_same, same_new nD⟩ (fun i H5 _ ⟨_, s5⟩ => SqL.of (s5 _ _ hp0)) ?_ ?_⟩⟩
  · rintro i x H5 hx ⟨hD, s5⟩
    have il := (List.getElem?_eq_some_iff.mp hx).1
    rw [List.length_map] at il
    refine ⟨rfl, yes_in ⟨_, hD, by rw [List.length_replicate]; exact small1000 (by omega), ?_, Same.own s5 nD⟩⟩
    rw [upd_same, List.replicate_succ']
  rintro H2 ⟨hD, s2⟩
  have s02 := s1.trans s2
  refine ⟨D, _, rfl, .inl ⟨SqL.of hD, fun p1 np1 => ?_⟩⟩
  rw [List.length_map]
  obtain ⟨o1, eo1⟩ : ∃ o1, o1 = HO.tup (List.replicate (doorsOf "in" hs).length (V.int 0)) := ⟨_, rfl⟩
  have s3 := s02.trans (same_new (o := o1) np1)
  have hp1 : (upd H2 p1 o1) p1 = some (.tup ((noughts hs).map V.int)) := by
    rw [upd_same, eo1]
    congr 2
    rw [List.map_map]
    refine List.ext_getElem? fun i => ?_
    rw [List.getElem?_replicate, List.getElem?_map]
    by_cases c : i < (doorsOf "in" hs).length
    · rw [if_pos c, List.getElem?_eq_getElem c]; rfl
    · rw [if_neg c, List.getElem?_eq_none (by omega)]; rfl
  rw [← eo1]
  generalize upd H2 p1 o1 = H3 at s3 hp1 ⊢
  have ha3 : H3 a = some (.lst rv) ∨ H3 a = some (.tup rv) := ha.imp (s3 _ _) (s3 _ _)
  have fin : ∀ (p2 : Addr) (H4 H5 : Hp) (m : Int), H4 p2 = some (.lst rv) → Same H3 H4 → Same H4 H5 → m ∈ 0 :: ns → (∀ y ∈ 0 :: ns, m ≤ y) → ∃ d : Nat, m = -((d : Nat) : Int) ∧ d ≤ 100 ∧ ∀ p5 H6, H5 p5 = none → H6 = upd H5 p5 (.lst (rv ++ List.replicate d (.ref p1))) → Q (.ref p5) H6 := fun p2 H4 H5 m hp2 s4 s5 hm hle => by
    obtain ⟨d, ed⟩ : ∃ d : Nat, m = -((d : Nat) : Int) := ⟨(-m).toNat, by have := hle 0 (List.mem_cons_self ..); omega⟩
    subst ed
    have d100 : d ≤ 100 := by
      rcases List.mem_cons.mp hm with z | z
      · omega
      · have := lo _ z; omega
    refine ⟨d, rfl, d100, fun p5 H6 np5 e6 => ?_⟩
    have s6 : Same H3 H6 := (s4.trans s5).trans (by rw [e6]; exact same_new np5)
    refine q p5 _ d H6 (by rw [e6]; exact upd_same) ?_ (fun x hx => hle x (List.mem_cons_of_mem _ hx)) ?_ (s3.trans s6)
    · exact (al.imp fun _ _ z => z.keep (TK.same (s3.trans s6))).app (all2_rep ⟨p1, rfl, s6 _ _ hp1⟩ d)
    · rcases List.mem_cons.mp hm with z | z
      · exact .inl (by omega)
      · exact .inr z
  have hA : SqL K H3 a rv ∨ SqT K H3 a rv := ha3.imp SqL.of SqT.of
  refine ⟨_, rfl, a, rv, rfl, hA, fun p2 np2 => ?_⟩
  have t1 := same_new (o := .lst rv) np2
  have hp2 : (upd H3 p2 (.lst rv)) p2 = some (.lst rv) := upd_same
  generalize upd H3 p2 (.lst rv) = H4 at t1 hp2 ⊢
  refine ⟨_, rfl, (by show 1 ≤ sizeLine; decide), fun p3 np3 => ?_⟩
  have t2 := same_new (o := .lst [V.ref p1]) np3
  have hp3 : (upd H4 p3 (.lst [V.ref p1])) p3 = some (.lst [V.ref p1]) := upd_same
  generalize upd H4 p3 (.lst [V.ref p1]) = H5 at t2 hp3 ⊢
  have tail : ∀ (m : Int) (H6 : Hp), m ∈ 0 :: ns → (∀ y ∈ 0 :: ns, m ≤ y) → Same H5 H6 → ∃ i : Int, V.int m = V.int i ∧ (∃ (l : Addr) (k : Int) (xs : List V), V.ref p3 = .ref l ∧ V.int (-i) = .int k ∧ H6 l = some (.lst xs) ∧ -(2 ^ 63) ≤ k ∧ k < 2 ^ 63 ∧ xs.length * k.toNat ≤ sizeLine ∧ ∀ p, H6 p = none → (∃ (l b : Addr) (xs' zs : List V), V.ref p2 = .ref l ∧ V.ref p = .ref b ∧ (upd H6 p (.lst (List.replicate k.toNat xs).flatten)) l = some (.lst xs') ∧ (upd H6 p (.lst (List.replicate k.toNat xs).flatten)) b = some (.lst zs) ∧ xs'.length + zs.length ≤ sizeLine ∧ ∀ p', (upd H6 p (.lst (List.replicate k.toNat xs).flatten)) p' = none → Q (.ref p') (upd (upd H6 p (.lst (List.replicate k.toNat xs).flatten)) p' (.lst (xs' ++ zs))))) := fun m H6 hm hle s6 => by
    have t12 := t2.trans s6
    refine ⟨m, rfl, p3, _, _, rfl, rfl, s6 _ _ hp3, ?_⟩
    obtain ⟨d, em⟩ : ∃ d : Nat, m = -((d : Nat) : Int) := ⟨(-m).toNat, by have := hle 0 (List.mem_cons_self ..); omega⟩
    have d100 : d ≤ 100 := by
      rcases List.mem_cons.mp hm with z | z
      · omega
      · have := lo _ z; omega
    have ek : (-m).toNat = d := by omega
    rw [ek, rep_one]
    refine ⟨by omega, by omega, by show 1 * d ≤ _; rw [Nat.one_mul]; exact little (by omega), fun p4 np4 => ?_⟩
    have t5 := same_new (o := .lst (List.replicate d (V.ref p1))) np4
    refine ⟨p2, p4, _, _, rfl, rfl, t5 _ _ (t12 _ _ hp2), upd_same, by rw [List.length_replicate, lrv]; exact little (by omega), fun p5 np5 => ?_⟩
    obtain ⟨d', e1, _, f⟩ := fin p2 H4 _ m hp2 t1 (t12.trans t5) hm hle
    obtain rfl : d' = d := by omega
    exact f p5 _ np5 rfl
  refine ⟨(by show 1 ≤ sizeLine; decide), fun z0 nz => ?_⟩
  have t3 := same_new (o := .tup [V.int 0]) nz
  refine ⟨_, rfl, z0, sl, _, _, rfl, rfl, SqT.of upd_same, SqT.of ((((s3.trans t1).trans t2).trans t3) _ _ hsl), by rw [List.length_map]; exact little (by show 1 + _ ≤ 1000; omega), fun z => (nomatch z), fun _ em => ?_, fun _ _ p np => ?_⟩
  · have em : ns = [] := List.map_eq_nil_iff.mp em
    subst em
    refine ⟨z0, [0], rfl, SqT.of upd_same, by simp, fun m hm hle => ?_⟩
    exact tail m _ hm hle t3
  · refine ⟨p, 0 :: ns, rfl, SqT.of upd_same, by simp, fun m hm hle => ?_⟩
    exact tail m _ hm hle (t3.trans (same_new np))
end
section
variable {P : Program} {w : World} {K : PySem.W.Frag} {mg : Str → Option Value} {base : Heap} {cT PT : Addr} [TI : TabI K mg base cT PT]
include TI
/-- how many bells shifts wait -/
structure Wait (n : Nat) (sh : Nat → Int) (w : Int) : Prop where
  nn : 0 ≤ w
  le : ∀ k, k < n → sh k ≤ w
  at_ : w = 0 ∨ ∃ k, k < n ∧ sh k = w
/-- how many bells hands are ahead -/
structure Ahead (n : Nat) (sh : Nat → Int) (d : Nat) : Prop where
  le : ∀ k, k < n → -((d : Nat) : Int) ≤ sh k
  at_ : d = 0 ∨ ∃ k, k < n ∧ sh k = -((d : Nat) : Int)
def sp_moved (K : PySem.W.Frag) (PT : Addr) : Sp := fun vs H Q _ => ∃ (r sl a : Addr) (hs : List HR) (bs : List BR) (late : Int) (sh : Nat → Int) (rv : List V) (rows : List (List Int)), vs = [.ref r, .int late, .ref sl, .ref a] ∧ RoomAt H r hs bs ∧ RoomOk hs bs ∧ H sl = some (.tup (levL hs.length sh)) ∧ Good33 hs bs late sh ∧ Bd 50 sh ∧ (H a = some (.lst rv) ∨ H a = some (.tup rv)) ∧ All2 (RowAt H) rv rows ∧ (∀ x ∈ rows, x.length = (doorsOf "in" hs).length) ∧ rows.length ≤ 50 ∧ (∀ k, k < hs.length → sh k ≤ (rows.length : Int)) ∧ GxR.TabG H PT ∧
  ∀ (p : Addr) (w : Int) (d : Nat) (ms : List (List Int)) (H' : Hp), RoomAt H' p hs (bs.map (movB sh w ms)) → Wait hs.length sh w → Ahead hs.length sh d → WS hs bs (rows ++ List.replicate d (noughts hs)) ms → GxR.TabG H' PT → But PT H H' → Q (.ref p) H'
theorem ok_moved {f : Addr} {fd : FuncData} (F : Fun K "moved" "moved" s_moved f fd) (T : Top K mg) : FnOk P w K mg base CX0 5 f fd ["room", "late", "shifts", "rows"] (sp_moved K PT) := by
  obtain ⟨f_look_shifts, fd_look_shifts, F_look_shifts, b_look_shifts, m_look_shifts⟩ := T.d_look_shifts
  have G_look_shifts := ok_look_shifts (P := P) (w := w) (base := base) F_look_shifts T
  obtain ⟨f_waits, fd_waits, F_waits, b_waits, m_waits⟩ := T.d_waits
  have G_waits := ok_waits (P := P) (w := w) (base := base) F_waits T
  obtain ⟨f_worked, fd_worked, F_worked, b_worked, m_worked⟩ := T.d_worked
  have G_worked := ok_worked (P := P) (w := w) (base := base) F_worked T
  obtain ⟨f_rows_on, fd_rows_on, F_rows_on, b_rows_on, m_rows_on⟩ := T.d_rows_on
  have G_rows_on := ok_rows_on (P := P) (w := w) (base := base) F_rows_on T
  obtain ⟨f_trays_moved, fd_trays_moved, F_trays_moved, b_trays_moved, m_trays_moved⟩ := T.d_trays_moved
  have G_trays_moved := ok_trays_moved (P := P) (w := w) (base := base) F_trays_moved T
  obtain ⟨f_taken_at, fd_taken_at, F_taken_at, b_taken_at, m_taken_at⟩ := T.d_taken_at
  have G_taken_at := ok_taken_at (P := P) (w := w) (base := base) F_taken_at T
  refine F.ok sc_moved (fun vs H Q E h => ?_) (fun cdv A outer s H vs Q E hr h => ?_)
  · obtain ⟨r, sl, a, hs, bs, late, sh, rv, rows, rfl, _⟩ := h
    rfl
  obtain ⟨r, sl, a, hs, bs, late, sh, rv, rows, rfl, hR, ok, hsl, gd, bd, ha, al, lrow, lr, lsh, tg, q⟩ := h
  have lh := ok.hands
  have lbs := ok.many
  have esl : levL hs.length sh = ((List.range hs.length).map sh).map V.int := by rw [List.map_map]; rfl
  have off : ∀ {b : Addr} {xs : List V}, H b = some (.lst xs) → b ≠ PT := fun e z => by
    obtain ⟨ps0, ePT, _⟩ := tg
    rw [z, ePT] at e; cases e
  obtain ⟨ha', ba, hv, bv, er, eh, eb, alh, alb⟩ := id hR.ex
  let R1 : TS := fun D' σ' H' => D'.rt = Q ∧ ∃ (w : Int) (d : Nat) (ms : List (List Int)) (mv : List V) (ml : Addr), σ' = [some (.ref r), some (.int late), some (.ref sl), some (.ref a), some (.ref ha'), some (.ref ba), some (.int w), some (.ref ml), none, none, none, none, none, none, none, none] ∧ H' ml = some (.lst mv) ∧ All2 (RowAt H') mv ms ∧ Wait hs.length sh w ∧ Ahead hs.length sh d ∧ WS hs bs (rows ++ List.replicate d (noughts hs)) ms ∧ GxR.TabG H' PT ∧ But PT H H'
  refine ⟨_, (pss_cons (ps_expr (pe_call G_look_shifts (hr.mono (by decide)) (by rfl) m_look_shifts F_look_shifts.kp b_look_shifts .nil pass0 (pa_cons (pv 0) (pa_cons (pv 1) (pa_cons (pv 2) pa_nil)))))
      (pss_cons (ps_asg (pv 0) (pg_tupK K rfl rfl (pgs_cons (pg_name (i := 4) sc_moved.nd rfl (Or.inl rfl)) (pgs_cons (pg_name (i := 5) sc_moved.nd rfl (Or.inl rfl)) pgs_nil))))
      (pss_cons (ps_set (i := 6) sc_moved.nd rfl (Or.inl rfl) (pe_call G_waits (hr.mono (by decide)) (by rfl) m_waits F_waits.kp b_waits .nil pass0 (pa_cons (pv 2) pa_nil)))
      (pss_cons (ps_set (i := 7) sc_moved.nd rfl (Or.inr rfl) (pe_call G_worked (hr.mono (by decide)) (by rfl) m_worked F_worked.kp b_worked .nil pass0 (pa_cons (pv 0) (pa_cons (pe_call G_rows_on (hr.mono (by decide)) (by rfl) m_rows_on F_rows_on.kp b_rows_on .nil pass0 (pa_cons (pv 0) (pa_cons (pv 2) (pa_cons (pv 3) pa_nil)))) pa_nil))))
      (PSs.to (pss_cons (ps_set (i := 8) sc_moved.nd rfl (Or.inl rfl) (pe_lst pa_nil))
      (pss_cons (ps_for PassesOwn.never rfl (pi_zipTL K rfl (by rfl) T.m_zip (pa_cons (pv 5) (pa_cons (pe_call G_trays_moved (hr.mono (by decide)) (by rfl) m_trays_moved F_trays_moved.kp b_trays_moved .nil pass0 (pa_cons (pv 0) (pa_cons (pv 2) pa_nil))) pa_nil))) (pg_tupK K rfl rfl (pgs_cons (pg_tupK K rfl rfl (pgs_cons (pg_name (i := 9) sc_moved.nd rfl (Or.inr rfl)) (pgs_cons (pg_name (i := 10) sc_moved.nd rfl (Or.inr rfl)) (pgs_cons (pg_name (i := 11) sc_moved.nd rfl (Or.inr rfl)) pgs_nil)))) (pgs_cons (pg_name (i := 12) sc_moved.nd rfl (Or.inl rfl)) pgs_nil)))
        (pss_cons (ps_set (i := 13) sc_moved.nd rfl (Or.inl rfl) (pe_op op_sub (pv 6) (pe_ix (ix_tupK K rfl) (pv 2) (pv 10) (fun _ _ => rfl))))
      (pss_cons (ps_setLc (i := 14) (own := [("bell", 15)]) (g := gName 15) (tt := tYes) (by rfl) sc_moved.nd rfl rfl (sw_true rfl rfl rfl (by decide +kernel)) (pi_range2 (by rfl) T.m_range (pa_cons (pv 13) (pa_cons (pe_op op_add (pv 13) (pv 12)) pa_nil))) (blkOk_by (own := [("bell", 15)]) (N := N_moved) (sc := defScope s_moved) (by decide +kernel)) (fun _ _ _ _ _ => (pg_name (i := 15) sc_moved.nd rfl (Or.inl rfl))) (fun _ _ _ _ _ => pts_nil) (fun _ _ _ _ _ => (pe_call G_taken_at (hr.mono (by decide)) (by rfl) m_taken_at F_taken_at.kp b_taken_at .nil pass0 (pa_cons (pe_tup (pa_cons (pv 9) (pa_cons (pv 10) (pa_cons (pv 11) pa_nil)))) (pa_cons (pv 7) (pa_cons (pv 15) pa_nil))))))
      (pss_one (ps_expr (pe_bmK K rfl PySem.F.plainAttrs_list PySem.F.slot_list_append PySem.F.type_list_append mt_append (pv 8) (pa_cons (pe_tup (pa_cons (pv 9) (pa_cons (pv 10) (pa_cons (pe_callTy (call_tuple_ofK K rfl) (by rfl) T.m_tuple (by decide +kernel) (pa_cons (pv 14) pa_nil)) pa_nil)))) pa_nil)))))))
      (pss_one (ps_ret (pe_tup (pa_cons (pv 4) (pa_cons (pe_callTy (call_tuple_ofK K rfl) (by rfl) T.m_tuple (by decide +kernel) (pa_cons (pv 8) pa_nil)) pa_nil))))))) R1 ?tail1))))), ?_⟩
  case tail1 =>
    rintro D' σ' H1 ⟨eD, w, d, ms, mv, ml, rfl, hml, alm, wt, ahd, ws, tg1, b1⟩
    have k1 := tab_tk tg b1
    have lms : ms.length = rows.length + d := by
      have := ws.len
      rw [List.length_append, List.length_replicate] at this
      omega
    refine ⟨(by show 0 ≤ sizeLine; decide), fun af naf => ?_⟩
    have s2 := same_new (o := .lst []) naf
    have haf : (upd H1 af (.lst [])) af = some (.lst []) := upd_same
    generalize upd H1 af (.lst []) = H2 at s2 haf ⊢
    have k2 := k1.trans (TK.same s2)
    refine ⟨_, rfl, _, rfl, _, rfl, r, sl, hs, bs, sh, rfl, hR.keep k2, ok, k2 _ _ hsl, fun tl H3 ntl htl s3 => ?_⟩
    have k3 := k2.trans (TK.same s3)
    have haf3 := s3 _ _ haf
    have eb3 := k3 _ _ eb
    have nba : ba ≠ af := ne_of eb3 haf3 (fun z => nomatch z)
    have tlaf : tl ≠ af := fun z => by rw [z, haf] at ntl; cases ntl
    have tpl : ∀ {b : Addr} {xs : List V}, H b = some (.tup xs) → H3 b = some (.tup xs) ∧ b ≠ af := fun e => ⟨k3 _ _ e, ne_of (k3 _ _ e) haf3 (fun z => nomatch z)⟩
    have lbv := alb.length
    refine ⟨ba, tl, bv, _, rfl, SqT.of (k3 _ _ eb), SqL.of htl, for_it (n := bs.length) (fun i σ H5 => ∃ (av : List V) (v9 v10 v11 v12 v13 v14 : Option V), σ = [some (.ref r), some (.int late), some (.ref sl), some (.ref a), some (.ref ha'), some (.ref ba), some (.int w), some (.ref ml), some (.ref af), v9, v10, v11, v12, v13, v14, none] ∧ H5 af = some (.lst av) ∧ All2 (BeltAt H5) av ((bs.take i).map (movB sh w ms)) ∧ (∀ b o, H3 b = some o → b ≠ af → H5 b = some o))
      ⟨[], none, none, none, none, none, none, rfl, haf3, .nil, fun _ _ e _ => e⟩ ?_ ?_ ?_ ?_⟩
    · rintro i σ H5 hi ⟨av, v9, v10, v11, v12, v13, v14, rfl, hav, ala, f5⟩
      exact ⟨SqT.of (f5 _ _ eb3 nba), SqL.of (f5 _ _ htl tlaf), by omega, by rw [List.length_map]; exact hi⟩
    · rintro σ H5 ⟨av, v9, v10, v11, v12, v13, v14, rfl, hav, ala, f5⟩
      exact ⟨SqT.of (f5 _ _ eb3 nba), SqL.of (f5 _ _ htl tlaf), by omega, by rw [List.length_map]; exact Nat.le_refl _, .inl (by omega)⟩
    · rintro i x σ H5 H6 hi ⟨av, v9, v10, v11, v12, v13, v14, rfl, hav, ala, f5⟩ ⟨T', x1, y1, rfl, nT, rfl, hx1, hy1⟩
      obtain ⟨b, ebj, ⟨t2, g, rfl, e1, e2⟩⟩ := alb.getL hx1
      have hb := List.mem_of_getElem? ebj
      obtain ⟨ob, tb⟩ := ok.ends b hb
      obtain rfl : y1 = V.int (trS sh b) := by
        rw [List.getElem?_map, ebj] at hy1
        exact (Option.some.inj hy1).symm
      have s6 := same_new (o := .tup [V.ref t2, V.int (trS sh b)]) nT
      have hT' : (upd H5 T' (.tup [V.ref t2, V.int (trS sh b)])) T' = some (.tup [V.ref t2, V.int (trS sh b)]) := upd_same
      generalize upd H5 T' (.tup [V.ref t2, V.int (trS sh b)]) = H6 at s6 hT' ⊢
      have f6 : ∀ {c : Addr} {xs : List V}, H c = some (.tup xs) → H6 c = some (.tup xs) := fun e => s6 _ _ (f5 _ _ (tpl e).1 (tpl e).2)
      have t0 := gd.tr b hb
      have sto := wt.le b.to tb
      have son := ahd.le b.one ob
      have btw := bd b.to
      have b1w := bd b.one
      have thl := (ok.th b hb).1
      have w50 : w ≤ 50 := by
        rcases wt.at_ with z | ⟨k, _, z⟩
        · omega
        · have := bd k; omega
      refine ⟨T', _, rfl, SqT.of hT', rfl, _, _, rfl, ?_⟩
      refine ⟨t2, _, rfl, SqT.of (f6 e1), rfl, _, _, rfl, _, _, rfl, _, _, rfl, rfl, _, _, rfl, rfl, ?_⟩
      refine ⟨_, rfl, _, rfl, _, rfl, sl, _, _, _, rfl, rfl, SqT.of (f6 hsl), atI_nat (rg_at tb), _, _, rfl, rfl, ?_⟩
      obtain ⟨f0, ef0⟩ : ∃ f0 : Nat, w - sh b.to = ((f0 : Nat) : Int) := ⟨(w - sh b.to).toNat, by omega⟩
      obtain ⟨n0, en0⟩ : ∃ n0 : Nat, trS sh b = ((n0 : Nat) : Int) := ⟨(trS sh b).toNat, by omega⟩
      have trd : trS sh b = (b.th.length : Int) + sh b.to - sh b.one := rfl
      have fl : f0 + n0 ≤ b.th.length + ms.length := by
        have := lsh b.to tb
        rcases wt.at_ with z | ⟨k, kl, z⟩
        · omega
        · have := lsh k kl; omega
      have nl : n0 ≤ 500 := by omega
      show tSeq _ _ _ [some (.ref r), some (.int late), some (.ref sl), some (.ref a), some (.ref ha'), some (.ref ba), some (.int w), some (.ref ml), some (.ref af), some (.int ((b.one : Nat) : Int)), some (.int ((b.to : Nat) : Int)), some (.ref g), some (.int (trS sh b)), some (.int (w - sh b.to)), v14, none] H6
      rw [ef0, en0]
      have mlaf : ml ≠ af := fun z => by rw [z, naf] at hml; cases hml
      have hml6 : H6 ml = some (.lst mv) := s6 _ _ (f5 _ _ (s3 _ _ (s2 _ _ hml)) mlaf)
      have kk : TK H1 H6 := fun c xs e => s6 _ _ (f5 _ _ (s3 _ _ (s2 _ _ e)) (fun z => by rw [z, naf] at e; cases e))
      have alm6 := alm.imp fun _ _ z => z.keep kk
      have haf6 := s6 _ _ hav
      refine ⟨_, rfl, _, rfl, _, rfl, _, _, rfl, rfl, _, _, rfl, ⟨by omega, by omega, by omega, by omega⟩, fun D nD => lc_range (lo := ((f0 : Nat) : Int)) (n := (((f0 : Nat) : Int) + ((n0 : Nat) : Int) - ((f0 : Nat) : Int)).toNat) (fun i H7 => H7 D = some (.lst (((List.range i).map fun j => takenAt b ms (f0 + j)).map V.int)) ∧ Same H6 H7) ⟨upd_same, same_new nD⟩ ?_ ?_⟩
      · rintro j H7 hj ⟨hD, s7⟩
        have hj : j < n0 := by omega
        refine ⟨rfl, yes_in ?_⟩
        refine ⟨_, rfl, _, rfl, _, rfl, (by show 3 ≤ sizeLine; decide), fun tt ntt => ?_⟩
        have s8 := same_new (o := .tup [V.int ((b.one : Nat) : Int), V.int ((b.to : Nat) : Int), V.ref g]) ntt
        have s68 := s7.trans s8
        refine ⟨_, rfl, _, rfl, .ref tt, b, ml, mv, ms, f0 + j, by rw [Int.natCast_add]; rfl, ⟨tt, g, rfl, upd_same, s68 _ _ (f6 e2)⟩, s68 _ _ hml6, alm6.imp fun _ _ z => z.keep (TK.same s68), fun m hm => ?_, by omega, ?_⟩
        · obtain ⟨tt', ett⟩ := List.getElem?_of_mem hm
          have lt' := (List.getElem?_eq_some_iff.mp ett).1
          have := (ws.at_ tt' _ m (List.getElem?_eq_getElem (by rw [← ws.len]; exact lt')) ett).len
          omega
        · refine ⟨_, s8 _ _ hD, by rw [List.length_map, List.length_map, List.length_range]; exact small1000 (by omega), ?_, Same.own s68 nD⟩
          rw [upd_same, List.range_succ, List.map_append, List.map_append]
          rfl
      rintro H7 ⟨hD, s7⟩
      rw [show (((f0 : Nat) : Int) + ((n0 : Nat) : Int) - ((f0 : Nat) : Int)).toNat = n0 by omega] at hD
      have Daf : af ≠ D := fun z => by rw [← z, haf6] at nD; cases nD
      refine ⟨_, rfl, .inl ⟨rfl, _, SqL.of (s7 _ _ haf6)⟩, _, rfl, _, rfl, _, rfl, D, _, rfl, .inl ⟨SqL.of hD, fun pt npt => ?_⟩⟩
      have s8 := s7.trans (same_new (o := .tup (((List.range n0).map fun j => takenAt b ms (f0 + j)).map V.int)) npt)
      have hpt : (upd H7 pt (.tup (((List.range n0).map fun j => takenAt b ms (f0 + j)).map V.int))) pt = some (.tup (((List.range n0).map fun j => takenAt b ms (f0 + j)).map V.int)) := upd_same
      generalize upd H7 pt _ = H8 at s8 hpt ⊢
      refine ⟨(by show 3 ≤ sizeLine; decide), fun p3 np3 => ?_⟩
      have s9 := same_new (o := .tup [V.int ((b.one : Nat) : Int), V.int ((b.to : Nat) : Int), V.ref pt]) np3
      have hp3 : (upd H8 p3 (.tup [V.int ((b.one : Nat) : Int), V.int ((b.to : Nat) : Int), V.ref pt])) p3 = some (.tup [V.int ((b.one : Nat) : Int), V.int ((b.to : Nat) : Int), V.ref pt]) := upd_same
      generalize upd H8 p3 _ = H9 at s9 hp3 ⊢
      have s69 := s8.trans s9
      have haf9 := s69 _ _ haf6
      have lav := ala.length
      rw [List.length_map, List.length_take] at lav
      refine ⟨af, _, _, rfl, rfl, haf9, small1000 (by omega), ?_⟩
      have kL : TK H9 (upd H9 af (.lst (av ++ [V.ref p3]))) := TK.lst haf9
      refine ⟨av ++ [V.ref p3], _, _, _, _, _, _, rfl, upd_same, ?_, fun c o e n => ?_⟩
      · rw [List.take_add_one, ebj, List.map_append]
        refine ((ala.imp fun _ _ z => z.keep (TK.same (s6.trans s69))).snoc ⟨p3, pt, rfl, hp3, ?_⟩).imp fun _ _ z => z.keep kL
        rw [s9 _ _ hpt]
        unfold movB
        rw [ef0, en0]
        rfl
      · rw [upd_ne n]
        exact s69 _ _ (s6 _ _ (f5 _ _ e n))
    · rintro σ H5 ⟨av, v9, v10, v11, v12, v13, v14, rfl, hav, ala, f5⟩
      rw [List.take_length] at ala
      refine ⟨_, rfl, _, rfl, af, _, rfl, .inl ⟨SqL.of hav, fun pt npt => ?_⟩⟩
      have s6 := same_new (o := .tup av) npt
      have hpt : (upd H5 pt (.tup av)) pt = some (.tup av) := upd_same
      generalize upd H5 pt (.tup av) = H6 at s6 hpt ⊢
      refine ⟨(by show 2 ≤ sizeLine; decide), fun p np => ?_⟩
      have s7 := same_new (o := .tup [V.ref ha', V.ref pt]) np
      have hp : (upd H6 p (.tup [V.ref ha', V.ref pt])) p = some (.tup [V.ref ha', V.ref pt]) := upd_same
      generalize upd H6 p (.tup [V.ref ha', V.ref pt]) = H7 at s7 hp ⊢
      have s57 := s6.trans s7
      have k7 : TK H H7 := fun c xs e => s57 _ _ (f5 _ _ (tpl e).1 (tpl e).2)
      have b7 : But PT H H7 := fun c o e n => by
        have e3 := s3 _ _ (s2 _ _ (b1 _ _ e n))
        exact s57 _ _ (f5 _ _ e3 (fun z => by have e1 := b1 _ _ e n; rw [z, naf] at e1; cases e1))
      have tg7 : GxR.TabG H7 PT := by
        obtain ⟨ps, e, tt⟩ := tg1
        exact ⟨ps, s57 _ _ (f5 _ _ (s3 _ _ (s2 _ _ e)) (fun z => by rw [z, naf] at e; cases e)), tt⟩
      rw [eD]
      exact q p w d ms H7 ⟨ha', pt, hv, av, hp, k7 _ _ eh, s7 _ _ hpt, alh.imp fun _ _ z => z.keep k7, ala.imp fun _ _ z => z.keep (TK.same s57)⟩ wt ahd ws tg7 b7
  refine ⟨_, rfl, _, rfl, _, rfl, r, sl, hs, bs, late, sh, rfl, hR, ok, hsl, gd, tg, fun H1 tg1 b1 => ?_⟩
  have k1 := tab_tk tg b1
  refine ⟨_, rfl, r, _, rfl, SqT.of (k1 _ _ er), rfl, _, _, rfl, _, _, rfl, rfl, ?_⟩
  refine ⟨_, rfl, sl, (List.range hs.length).map sh, rfl, by rw [← esl]; exact k1 _ _ hsl, by rw [List.length_map, List.length_range]; omega, fun w H2 hm hle s2 => ?_⟩
  have k2 := k1.trans (TK.same s2)
  have ha1 : H1 a = some (.lst rv) ∨ H1 a = some (.tup rv) := ha.imp (fun e => b1 _ _ e (off e)) (k1 _ _)
  have ha2 : H2 a = some (.lst rv) ∨ H2 a = some (.tup rv) := ha1.imp (s2 _ _) (s2 _ _)
  refine ⟨_, rfl, _, rfl, _, rfl, _, rfl, r, sl, a, hs, bs, rv, rows, (List.range hs.length).map sh, rfl, hR.keep k2, ok, by rw [← esl]; exact k2 _ _ hsl, by rw [List.length_map, List.length_range]; omega, fun x hx => ?_, ha2, al.imp fun _ _ z => z.keep k2, by omega, fun p3 ov d H3 hp3 alo dle dat s3 => ?_⟩
  · obtain ⟨k, _, rfl⟩ := List.mem_map.mp hx
    have := bd k
    omega
  have k3 := k2.trans (TK.same s3)
  have ahd : Ahead hs.length sh d := ⟨fun k hk => dle _ (List.mem_map.mpr ⟨k, List.mem_range.mpr hk, rfl⟩), dat.imp id fun z => by
    obtain ⟨k, h1, h2⟩ := List.mem_map.mp z
    exact ⟨k, List.mem_range.mp h1, h2⟩⟩
  have d50 : d ≤ 50 := by
    rcases ahd.at_ with z | ⟨k, _, z⟩
    · omega
    · have := bd k; omega
  have wt : Wait hs.length sh w := ⟨hle 0 (List.mem_cons_self ..), fun k hk => hle _ (List.mem_cons_of_mem _ (List.mem_map.mpr ⟨k, List.mem_range.mpr hk, rfl⟩)), by
    rcases List.mem_cons.mp hm with z | z
    · exact .inl z
    · obtain ⟨k, h1, h2⟩ := List.mem_map.mp z
      exact .inr ⟨k, List.mem_range.mp h1, h2⟩⟩
  refine ⟨r, p3, hs, bs, _, rfl, hR.keep k3, ok, ⟨ov, .inl hp3, alo⟩, fun x hx => ?_, by rw [List.length_append, List.length_replicate]; omega, fun ml mv ms H4 nml hml alm ws s4 => ?_⟩
  · rcases List.mem_append.mp hx with z | z
    · exact lrow x z
    · rw [List.eq_of_mem_replicate z, List.length_map]
  exact ⟨rfl, w, d, ms, mv, ml, rfl, hml, alm, wt, ahd, ws, same_tab tg1 ((s2.trans s3).trans s4), b1.same ((s2.trans s3).trans s4)⟩
end
/-! ### the ground: steps between places -/
def plH (hs : List HR) (k : Nat) : Nat := if k ∈ doorsOf "in" hs ∨ k ∈ doorsOf "out" hs then hs.length else k
def abH (hs : List HR) (l : Nat) (k : Nat) : Int := if k ∈ doorsOf "out" hs then ((l : Nat) : Int) else 0
abbrev gYs (hs : List HR) (ys : List Wy) : List Wy := ys.filter fun y => decide (plH hs y.one ≠ plH hs y.e)
def gStep (hs : List HR) (l : Nat) (T : Int) (y : Wy) : St3 := ⟨plH hs y.one, plH hs y.e, ndd y.c.2 T - y.c.1 - abH hs l y.e⟩
abbrev gSt (hs : List HR) (ys : List Wy) (l : Nat) (T : Int) : List St3 := (gYs hs ys).map (gStep hs l T)
def capsOf (n : Nat) (M : Int) : List St3 := (List.range n).map fun k => ⟨k, n, -M⟩
theorem pl_in {hs : List HR} {k : Nat} (h : k ∈ doorsOf "in" hs) : plH hs k = hs.length := if_pos (.inl h)
theorem pl_out {hs : List HR} {k : Nat} (h : k ∈ doorsOf "out" hs) : plH hs k = hs.length := if_pos (.inr h)
theorem pl_hand {hs : List HR} {k : Nat} (h1 : k ∉ doorsOf "in" hs) (h2 : k ∉ doorsOf "out" hs) : plH hs k = k := if_neg fun z => z.elim h1 h2
theorem pl_le {hs : List HR} {k : Nat} (h : k < hs.length) : plH hs k ≤ hs.length := by unfold plH; split <;> omega
theorem pl_lt {hs : List HR} {k : Nat} (h : plH hs k < hs.length) : k ∉ doorsOf "in" hs ∧ k ∉ doorsOf "out" hs ∧ plH hs k = k := by
  by_cases a : k ∈ doorsOf "in" hs
  · rw [pl_in a] at h; omega
  · by_cases b : k ∈ doorsOf "out" hs
    · rw [pl_out b] at h; omega
    · exact ⟨a, b, pl_hand a b⟩
theorem pl_top {hs : List HR} {k : Nat} (kl : k < hs.length) (h : plH hs k = hs.length) : k ∈ doorsOf "in" hs ∨ k ∈ doorsOf "out" hs := by
  by_cases z : k ∈ doorsOf "in" hs ∨ k ∈ doorsOf "out" hs
  · exact z
  · unfold plH at h; rw [if_neg z] at h; omega
theorem ab_in {hs : List HR} {l k : Nat} (h : k ∈ doorsOf "in" hs) : abH hs l k = 0 := if_neg fun z => door_one h z
theorem ab_out {hs : List HR} {l k : Nat} (h : k ∈ doorsOf "out" hs) : abH hs l k = ((l : Nat) : Int) := if_pos h
theorem ab_no {hs : List HR} {l k : Nat} (h : k ∉ doorsOf "out" hs) : abH hs l k = 0 := if_neg h
theorem best_end {hs : List HR} {bs : List BR} (ok : RoomOk hs bs) {y : Wy} (o : WyOk hs bs y) : y.e < hs.length := way_lt (fun b hb => (ok.ends b hb).2) o.lt o.we
/-- no way but the one without belts begins at an out door, or ends at an in door -/
theorem way_out {hs : List HR} {bs : List BR} (ok : RoomOk hs bs) {one e : Nat} {ns : List Nat} (h : wayEnd bs one ns = some e) (z : one ∈ doorsOf "out" hs) : ns = [] ∧ e = one := by
  cases ns with
  | nil => cases h; exact ⟨rfl, rfl⟩
  | cons n ns =>
    cases eb : bs[n]? with
    | none => rw [wayEnd_none eb] at h; cases h
    | some b =>
      rw [wayEnd_cons eb] at h
      by_cases y : b.one = one
      · exact absurd (y ▸ z) (one_out ok (List.mem_of_getElem? eb))
      · rw [if_neg y] at h; cases h
theorem way_in {hs : List HR} {bs : List BR} (ok : RoomOk hs bs) {one e : Nat} {ns : List Nat} (h : wayEnd bs one ns = some e) (z : e ∈ doorsOf "in" hs) : ns = [] ∧ e = one := by
  rcases List.eq_nil_or_concat ns with rfl | ⟨ms, n, rfl⟩
  · cases h; exact ⟨rfl, rfl⟩
  · rw [List.concat_eq_append] at h
    obtain ⟨b, eb, _, h2⟩ := wayEnd_unsnoc h
    exact absurd (h2 ▸ z) (to_in ok (List.mem_of_getElem? eb))
/-- levels of the ground from shifts -/
def lvS (hs : List HR) (sh : Nat → Int) (k : Nat) : Int := if k ∈ doorsOf "in" hs ∨ k ∈ doorsOf "out" hs ∨ k = hs.length then 0 else sh k
theorem sh_pl {hs : List HR} {bs : List BR} {l : Nat} {T : Int} {sh : Nat → Int} (r : Rch hs bs (some l) T sh) {k : Nat} (kl : k < hs.length) : sh k = lvS hs sh (plH hs k) + abH hs l k := by
  have top : lvS hs sh hs.length = 0 := if_pos (.inr (.inr rfl))
  by_cases a : k ∈ doorsOf "in" hs
  · rw [pl_in a, ab_in a, top, r.ins k a]; rfl
  · by_cases b : k ∈ doorsOf "out" hs
    · obtain ⟨to, o1, o2, _⟩ := r.outs
      rw [pl_out b, ab_out b, top, o1 k b, o2 l rfl]; omega
    · rw [pl_hand a b, ab_no b]
      unfold lvS
      rw [if_neg fun z => z.elim a fun z => z.elim b fun z => by omega]
      omega
theorem gy_mem {hs : List HR} {ys : List Wy} {y : Wy} (h : y ∈ gYs hs ys) : y ∈ ys ∧ plH hs y.one ≠ plH hs y.e := by
  obtain ⟨h1, h2⟩ := List.mem_filter.mp h
  exact ⟨h1, of_decide_eq_true h2⟩
theorem gy_one {hs : List HR} {bs : List BR} {ys : List Wy} (ok : RoomOk hs bs) (aw : AllWays hs bs ys) {y : Wy} (h : y ∈ gYs hs ys) : y.one ∉ doorsOf "out" hs ∧ y.e ∉ doorsOf "in" hs := by
  obtain ⟨h1, h2⟩ := gy_mem h
  have o := aw.ok y h1
  exact ⟨fun z => h2 (by rw [(way_out ok o.we z).2]), fun z => h2 (by rw [(way_in ok o.we z).2])⟩
theorem ground_fits {hs : List HR} {bs : List BR} {ys : List Wy} {l : Nat} {T : Int} {sh : Nat → Int} (ok : RoomOk hs bs) (aw : AllWays hs bs ys) (r : Rch hs bs (some l) T sh) : ∀ s ∈ gSt hs ys l T, lvS hs sh s.u + s.w ≤ lvS hs sh s.v := fun s h => by
  obtain ⟨y, hy, rfl⟩ := List.mem_map.mp h
  obtain ⟨h1, h2⟩ := gy_mem hy
  have o := aw.ok y h1
  have q := r.ways y.one y.ns y.e o.lt o.we
  rw [o.wc, sh_pl r o.lt, sh_pl r (best_end ok o), ab_no (gy_one ok aw hy).1] at q
  show lvS hs sh (plH hs y.one) + (ndd y.c.2 T - y.c.1 - abH hs l y.e) ≤ lvS hs sh (plH hs y.e)
  omega
/-- shifts from levels of the ground -/
def shL (hs : List HR) (l : Nat) (lv : Nat → Int) (k : Nat) : Int := lv (plH hs k) + abH hs l k - lv hs.length
theorem ground_rch {hs : List HR} {bs : List BR} {ys : List Wy} {l : Nat} {T : Int} {s0 lv : Nat → Int} (ok : RoomOk hs bs) (aw : AllWays hs bs ys) (r : Rch hs bs (some l) T s0) (f : ∀ s ∈ gSt hs ys l T, lv s.u + s.w ≤ lv s.v) : Rch hs bs (some l) T (shL hs l lv) := by
  refine ⟨fun k hk => by unfold shL; rw [pl_in hk, ab_in hk]; omega, ⟨((l : Nat) : Int), fun k hk => by unfold shL; rw [pl_out hk, ab_out hk]; omega, fun _ e => by cases e; rfl, fun z => nomatch z⟩, fun one ns e ho h => ?_⟩
  obtain ⟨c, b1, b2⟩ := best_way ok ho h
  obtain ⟨y, hy, rfl, rfl⟩ := aw.all one e c ho b1
  have o := aw.ok y hy
  have ec : y.c = c := Option.some.inj (o.b.symm.trans b1)
  subst ec
  have q0 := r.ways y.one y.ns y.e o.lt o.we
  rw [o.wc] at q0
  have main : shL hs l lv y.one + (ndd y.c.2 T - y.c.1) ≤ shL hs l lv y.e := by
    by_cases z : plH hs y.one = plH hs y.e
    · rw [sh_pl r o.lt, sh_pl r (best_end ok o), z] at q0
      unfold shL
      rw [z]
      omega
    · have m : y ∈ gYs hs ys := List.mem_filter.mpr ⟨hy, decide_eq_true z⟩
      have q := f _ (List.mem_map.mpr ⟨y, m, rfl⟩)
      have q : lv (plH hs y.one) + (ndd y.c.2 T - y.c.1 - abH hs l y.e) ≤ lv (plH hs y.e) := q
      unfold shL
      rw [ab_no (gy_one ok aw m).1]
      omega
  unfold ndd at *
  unfold coLe at b2
  split at main <;> split <;> omega
/-! ### a ring with a cap, and the path that is left -/
theorem stepEnd_app {st : List St3} : ∀ {ks ms : List Nat} {p q : Nat}, stepEnd st p ks = some q → stepEnd st p (ks ++ ms) = stepEnd st q ms
  | [], ms, p, q, h => by cases h; rfl
  | k :: ks, ms, p, q, h => by
    cases e : st[k]? with
    | none =>
      have : stepEnd st p (k :: ks) = none := by
        show (match st[k]? with | some s => if s.u = p then stepEnd st s.v ks else none | none => none) = none
        rw [e]
      rw [this] at h; cases h
    | some s =>
      rw [stepEnd_cons e] at h
      rw [List.cons_append, stepEnd_cons e]
      by_cases z : s.u = p
      · rw [if_pos z] at h ⊢
        exact stepEnd_app h
      · rw [if_neg z] at h; cases h
theorem stepEnd_split {st : List St3} : ∀ {ks ms : List Nat} {p q : Nat}, stepEnd st p (ks ++ ms) = some q → ∃ m, stepEnd st p ks = some m ∧ stepEnd st m ms = some q
  | [], ms, p, q, h => ⟨p, rfl, h⟩
  | k :: ks, ms, p, q, h => by
    cases e : st[k]? with
    | none =>
      have : stepEnd st p (k :: ks ++ ms) = none := by
        show (match st[k]? with | some s => if s.u = p then stepEnd st s.v (ks ++ ms) else none | none => none) = none
        rw [e]
      rw [this] at h; cases h
    | some s =>
      rw [List.cons_append, stepEnd_cons e] at h
      rw [stepEnd_cons e]
      by_cases z : s.u = p
      · rw [if_pos z] at h ⊢
        exact stepEnd_split h
      · rw [if_neg z] at h; cases h
theorem stepEnd_left {st cs : List St3} : ∀ {ks : List Nat} {p q : Nat}, (∀ k ∈ ks, k < st.length) → stepEnd (st ++ cs) p ks = some q → stepEnd st p ks = some q
  | [], p, q, _, h => h
  | k :: ks, p, q, l, h => by
    have kl := l k (List.mem_cons_self ..)
    have e : st[k]? = some st[k] := List.getElem?_eq_getElem kl
    have e2 : (st ++ cs)[k]? = some st[k] := by rw [List.getElem?_append_left kl]; exact e
    rw [stepEnd_cons e2] at h
    rw [stepEnd_cons e]
    by_cases z : st[k].u = p
    · rw [if_pos z] at h ⊢
      exact stepEnd_left (fun j hj => l j (List.mem_cons_of_mem _ hj)) h
    · rw [if_neg z] at h; cases h
theorem wS_left {st cs : List St3} {ks : List Nat} (l : ∀ k ∈ ks, k < st.length) : ks.map (wS (st ++ cs)) = ks.map (wS st) := List.map_congr_left fun k hk => by
  unfold wS
  rw [List.getElem?_append_left (l k hk)]
/-- a path from the ground to a hand, of more than many -/
structure PathOk (n : Nat) (st : List St3) (M : Int) (ks : List Nat) : Prop where
  lt : ∀ k ∈ ks, k < st.length
  ln : ks.length ≤ n
  go : ∃ h, h < n ∧ stepEnd st n ks = some h
  gt : M < (ks.map (wS st)).sum
theorem cap_path {n : Nat} {st : List St3} {M : Int} {A B : List Nat} {c : Nat} (fs : Feas st) (r : RingOk (st ++ capsOf n M) (A ++ c :: B)) (big : ∀ k ∈ A ++ c :: B, k ≤ c) (ln : (A ++ c :: B).length ≤ n + 1) : PathOk n st M (B ++ A) ∧ st.length ≤ c := by
  have lc : (capsOf n M).length = n := by unfold capsOf; rw [List.length_map, List.length_range]
  have capat : ∀ k, st.length ≤ k → k < (st ++ capsOf n M).length → (st ++ capsOf n M)[k]? = some ⟨k - st.length, n, -M⟩ := fun k h1 h2 => by
    rw [List.length_append, lc] at h2
    rw [List.getElem?_append_right h1]
    unfold capsOf
    rw [List.getElem?_map, List.getElem?_range (by omega)]
    rfl
  have cl : st.length ≤ c := by
    refine Nat.le_of_not_lt fun z => ?_
    have all : ∀ k ∈ A ++ c :: B, k < st.length := fun k hk => by have := big k hk; omega
    obtain ⟨p, hp⟩ := r.cl
    refine RingOk.not_feas (st := st) (ks := A ++ c :: B) ⟨r.ne, all, ⟨p, stepEnd_left all hp⟩, ?_, ?_⟩ fs
    · have := r.pos
      rw [wS_left all] at this
      exact this
    · have := r.nd
      rw [show (A ++ c :: B).map (toS (st ++ capsOf n M)) = (A ++ c :: B).map (toS st) from List.map_congr_left fun k hk => by unfold toS; rw [List.getElem?_append_left (all k hk)]] at this
      exact this
  have cm : c ∈ A ++ c :: B := List.mem_append_right _ (List.mem_cons_self ..)
  have ec := capat c cl (r.lt c cm)
  have only : ∀ k ∈ B ++ A, k < st.length := fun k hk => by
    refine Nat.lt_of_not_le fun z => ?_
    have km : k ∈ A ++ c :: B := by
      rcases List.mem_append.mp hk with y | y
      · exact List.mem_append_right _ (List.mem_cons_of_mem _ y)
      · exact List.mem_append_left _ y
    have ek := capat k z (r.lt k km)
    have nd := r.nd
    rw [List.map_append, List.map_cons, toS_some ec] at nd
    obtain ⟨n1, n2, n3⟩ := List.nodup_append.mp nd
    have vk : toS (st ++ capsOf n M) k = n := toS_some ek
    rcases List.mem_append.mp hk with y | y
    · exact (List.nodup_cons.mp n2).1 (List.mem_map.mpr ⟨k, y, vk⟩)
    · exact n3 n (List.mem_map.mpr ⟨k, y, vk⟩) n (List.mem_cons_self ..) rfl
  obtain ⟨p, hp⟩ := r.cl
  obtain ⟨m, h1, h2⟩ := stepEnd_split hp
  rw [stepEnd_cons ec] at h2
  by_cases z : c - st.length = m
  · rw [if_pos z] at h2
    have cb := r.lt c cm
    rw [List.length_append, lc] at cb
    refine ⟨⟨only, by rw [List.length_append] at ln ⊢; rw [List.length_cons] at ln; omega, ⟨m, by omega, stepEnd_left only ((stepEnd_app h2).trans h1)⟩, ?_⟩, cl⟩
    have pos := r.pos
    rw [List.map_append, List.map_cons, List.sum_append, List.sum_cons, wS_some ec] at pos
    rw [← wS_left (cs := capsOf n M) only, List.map_append, List.sum_append]
    have pos : 0 < (A.map (wS (st ++ capsOf n M))).sum + (-M + (B.map (wS (st ++ capsOf n M))).sum) := pos
    omega
  · rw [if_neg z] at h2; cases h2
/-- a walk from an in door, of just so many more than its trays -/
structure Wk (hs : List HR) (bs : List BR) (l : Nat) (T : Int) (M : Int) (y : Wy) (ws : List Wy) : Prop where
  ok : ∀ x ∈ y :: ws, WyOk hs bs x
  in_ : y.one ∈ doorsOf "in" hs
  go : okW hs (some l) y.one (y :: ws)
  num : ndS T (y :: ws) - costW (some l) y.one (y :: ws) = M
theorem path_scan {hs : List HR} {bs : List BR} {ys : List Wy} {l : Nat} {T : Int} (ok : RoomOk hs bs) (aw : AllWays hs bs ys) : ∀ (ks : List Nat) (p q e : Nat), (∀ k ∈ ks, k < (gSt hs ys l T).length) → stepEnd (gSt hs ys l T) p ks = some q → e < hs.length → e ∉ doorsOf "in" hs → plH hs e = p → q < hs.length →
    okW hs (some l) e (waysOf (gYs hs ys) ks) ∧ (ks.map (wS (gSt hs ys l T))).sum = ndS T (waysOf (gYs hs ys) ks) - costW (some l) e (waysOf (gYs hs ys) ks) + abH hs l e
  | [], p, q, e, _, h, el, ei, ep, ql => by
    cases h
    refine ⟨trivial, ?_⟩
    rw [← ep] at ql
    rw [ab_no (pl_lt ql).2.1]
    show (0 : Int) = 0 - 0 + 0
    omega
  | k :: ks, p, q, e, lt, h, el, ei, ep, ql => by
    have kl := lt k (List.mem_cons_self ..)
    rw [List.length_map] at kl
    have ey : (gYs hs ys)[k]? = some (gYs hs ys)[k] := List.getElem?_eq_getElem kl
    generalize (gYs hs ys)[k] = y at ey
    have ym := List.mem_of_getElem? ey
    have o := aw.ok y (gy_mem ym).1
    have es : (gSt hs ys l T)[k]? = some (gStep hs l T y) := by rw [List.getElem?_map, ey]; rfl
    rw [stepEnd_cons es] at h
    have h : (if plH hs y.one = p then stepEnd (gSt hs ys l T) (plH hs y.e) ks else none) = some q := h
    by_cases z : plH hs y.one = p
    · rw [if_pos z] at h
      obtain ⟨no, ne⟩ := gy_one ok aw ym
      obtain ⟨i1, i2⟩ := path_scan ok aw ks _ q y.e (fun j hj => lt j (List.mem_cons_of_mem _ hj)) h (best_end ok o) ne rfl ql
      rw [waysOf_some ey, List.map_cons, List.sum_cons, wS_some es, i2]
      have z2 : plH hs y.one = plH hs e := z.trans ep.symm
      have jm : Jmp hs (some l) e y.one ∧ jmpN (some l) e y.one = abH hs l e := by
        by_cases t : plH hs e = hs.length
        · have eo : e ∈ doorsOf "out" hs := (pl_top el t).elim (fun w => absurd w ei) id
          have yi : y.one ∈ doorsOf "in" hs := (pl_top o.lt (z2.trans t)).elim id (fun w => absurd w no)
          have dif : e ≠ y.one := fun w => no (w ▸ eo)
          exact ⟨.inr ⟨rfl, eo, yi⟩, by unfold jmpN; rw [if_neg dif, ab_out eo]⟩
        · have l1 : plH hs e < hs.length := by have := pl_le el; omega
          obtain ⟨_, b2, b3⟩ := pl_lt l1
          obtain ⟨_, _, c3⟩ := pl_lt (z2 ▸ l1 : plH hs y.one < hs.length)
          have e1 : e = y.one := by rw [← b3, ← c3, z2]
          exact ⟨.inl e1, by rw [e1, jmpN_self, ab_no (e1 ▸ b2)]⟩
      refine ⟨⟨jm.1, i1⟩, ?_⟩
      show ndd y.c.2 T - y.c.1 - abH hs l y.e + (ndS T (waysOf (gYs hs ys) ks) - costW (some l) y.e (waysOf (gYs hs ys) ks) + abH hs l y.e) = ((y :: waysOf (gYs hs ys) ks).map fun y => ndd y.c.2 T).sum - (jmpN (some l) e y.one + y.c.1 + costW (some l) y.e (waysOf (gYs hs ys) ks)) + abH hs l e
      rw [List.map_cons, List.sum_cons, jm.2]
      unfold ndS
      omega
    · rw [if_neg z] at h; cases h
theorem path_walk {hs : List HR} {bs : List BR} {ys : List Wy} {l : Nat} {T M : Int} {ks : List Nat} (ok : RoomOk hs bs) (aw : AllWays hs bs ys) (p : PathOk hs.length (gSt hs ys l T) M ks) : ∃ y ws, waysOf (gYs hs ys) ks = y :: ws ∧ Wk hs bs l T (ks.map (wS (gSt hs ys l T))).sum y ws := by
  obtain ⟨h, hl, he⟩ := p.go
  cases ks with
  | nil => cases he; omega
  | cons k ks =>
    have kl := p.lt k (List.mem_cons_self ..)
    rw [List.length_map] at kl
    have ey : (gYs hs ys)[k]? = some (gYs hs ys)[k] := List.getElem?_eq_getElem kl
    generalize (gYs hs ys)[k] = y at ey
    have ym := List.mem_of_getElem? ey
    have o := aw.ok y (gy_mem ym).1
    have es : (gSt hs ys l T)[k]? = some (gStep hs l T y) := by rw [List.getElem?_map, ey]; rfl
    rw [stepEnd_cons es] at he
    have he : (if plH hs y.one = hs.length then stepEnd (gSt hs ys l T) (plH hs y.e) ks else none) = some h := he
    by_cases z : plH hs y.one = hs.length
    · rw [if_pos z] at he
      obtain ⟨no, ne⟩ := gy_one ok aw ym
      have yi : y.one ∈ doorsOf "in" hs := (pl_top o.lt z).elim id (fun w => absurd w no)
      obtain ⟨i1, i2⟩ := path_scan ok aw ks _ h y.e (fun j hj => p.lt j (List.mem_cons_of_mem _ hj)) he (best_end ok o) ne rfl hl
      refine ⟨y, waysOf (gYs hs ys) ks, waysOf_some ey, fun x hx => ?_, yi, ⟨.inl rfl, i1⟩, ?_⟩
      · rw [← waysOf_some ey] at hx
        obtain ⟨j, _, hj⟩ := List.mem_filterMap.mp hx
        exact aw.ok x (gy_mem (List.mem_of_getElem? hj)).1
      · rw [List.map_cons, List.sum_cons, wS_some es, i2]
        show ((y :: waysOf (gYs hs ys) ks).map fun y => ndd y.c.2 T).sum - (jmpN (some l) y.one y.one + y.c.1 + costW (some l) y.e (waysOf (gYs hs ys) ks)) = ndd y.c.2 T - y.c.1 - abH hs l y.e + (ndS T (waysOf (gYs hs ys) ks) - costW (some l) y.e (waysOf (gYs hs ys) ks) + abH hs l y.e)
        rw [List.map_cons, List.sum_cons, jmpN_self]
        unfold ndS
        omega
    · rw [if_neg z] at he; cases he
/-- no shifts that reach the time wait for less than a path asks -/
theorem path_low {hs : List HR} {bs : List BR} {ys : List Wy} {l : Nat} {T M : Int} {ks : List Nat} {sh : Nat → Int} {W : Int} (ok : RoomOk hs bs) (aw : AllWays hs bs ys) (p : PathOk hs.length (gSt hs ys l T) M ks) (r : Rch hs bs (some l) T sh) (w0 : 0 ≤ W) (wle : ∀ k, k < hs.length → sh k ≤ W) : (ks.map (wS (gSt hs ys l T))).sum ≤ W := by
  obtain ⟨h, hl, he⟩ := p.go
  have q := step_sum (ground_fits ok aw r) he
  have top : lvS hs sh hs.length = 0 := if_pos (.inr (.inr rfl))
  have le : lvS hs sh h ≤ W := by
    unfold lvS
    split
    · exact w0
    · exact wle h hl
  omega
theorem Wait.ex (sh : Nat → Int) : ∀ n : Nat, ∃ w, Wait n sh w
  | 0 => ⟨0, ⟨Int.le_refl _, fun k h => absurd h (Nat.not_lt_zero _), .inl rfl⟩⟩
  | n + 1 => by
    obtain ⟨w, a, b, c⟩ := Wait.ex sh n
    by_cases z : sh n ≤ w
    · refine ⟨w, a, fun k hk => ?_, c.imp id fun ⟨k, h1, h2⟩ => ⟨k, by omega, h2⟩⟩
      by_cases y : k = n
      · rw [y]; exact z
      · exact b k (by omega)
    · refine ⟨sh n, by omega, fun k hk => ?_, .inr ⟨n, by omega, rfl⟩⟩
      by_cases y : k = n
      · rw [y]; exact Int.le_refl _
      · have := b k (by omega); omega
def baseW (hs : List HR) (l : Nat) : Int := if doorsOf "out" hs = [] then 0 else ((l : Nat) : Int)
theorem base_nn {hs : List HR} {l : Nat} : 0 ≤ baseW hs l := by unfold baseW; split <;> omega
theorem base_le {hs : List HR} {bs : List BR} {l : Nat} {T W : Int} {sh : Nat → Int} (r : Rch hs bs (some l) T sh) (w : Wait hs.length sh W) : baseW hs l ≤ W := by
  unfold baseW
  split
  · exact w.nn
  · rename_i ne
    obtain ⟨d, hd⟩ := List.exists_mem_of_ne_nil _ ne
    obtain ⟨to, o1, o2, _⟩ := r.outs
    have := w.le d (door_lt hd)
    rw [o1 d hd, o2 l rfl] at this
    exact this
/-- the told walk: none where nothing bars fewer than the doors do -/
def WkV (hs : List HR) (bs : List BR) (l : Nat) (T M : Int) (H : Hp) (y : V) : Prop := (M = baseW hs l ∧ y = .non) ∨ (baseW hs l < M ∧ ∃ (p : Addr) (qv : List V) (x : Wy) (ws : List Wy), y = .ref p ∧ H p = some (.tup qv) ∧ All2 (PrAt H) qv (x :: ws) ∧ ws.length < hs.length ∧ Wk hs bs l T M x ws)
theorem WkV.keep {hs : List HR} {bs : List BR} {l : Nat} {T M : Int} {H H' : Hp} {y : V} (h : WkV hs bs l T M H y) (k : TK H H') : WkV hs bs l T M H' y := by
  rcases h with h | ⟨h0, p, qv, x, ws, h1, h2, h3, h4⟩
  · exact .inl h
  · exact .inr ⟨h0, p, qv, x, ws, h1, k _ _ h2, h3.imp fun _ _ z => z.keep k, h4⟩
def PlAt (H : Hp) (v : V) (p : Nat × Int) : Prop := ∃ t : Addr, v = .ref t ∧ H t = some (.tup [nV p.1, .int p.2])
theorem PlAt.keep {H H' : Hp} {v : V} {p : Nat × Int} (h : PlAt H v p) (k : TK H H') : PlAt H' v p := by
  obtain ⟨t, e, h⟩ := h
  exact ⟨t, e, k _ _ h⟩
abbrev plL (hs : List HR) (l : Nat) : List (Nat × Int) := (List.range hs.length).map fun k => (plH hs k, abH hs l k)
theorem pl_at {hs : List HR} {l k : Nat} (h : k < hs.length) : (plL hs l)[k]? = some (plH hs k, abH hs l k) := by
  rw [List.getElem?_map, List.getElem?_range h]; rfl
section
variable {P : Program} {w : World} {K : PySem.W.Frag} {mg : Str → Option Value} {base : Heap}
def sp_hand_places (K : PySem.W.Frag) : Sp := fun vs H Q _ => ∃ (r : Addr) (hs : List HR) (bs : List BR) (l : Nat), vs = [.ref r, nV l] ∧ RoomAt H r hs bs ∧ RoomOk hs bs ∧
  ∀ (p : Addr) (pv : List V) (H' : Hp), H p = none → H' p = some (.lst pv) → All2 (PlAt H') pv (plL hs l) → Same H H' → Q (.ref p) H'
theorem ok_hand_places {f : Addr} {fd : FuncData} (F : Fun K "hand_places" "hand_places" s_hand_places f fd) (T : Top K mg) : FnOk P w K mg base CX0 1 f fd ["room", "late"] (sp_hand_places K) := by
  refine F.ok sc_hand_places (fun vs H Q E h => ?_) (fun cdv A outer s H vs Q E hr h => ?_)
  · obtain ⟨r, hs, bs, l, rfl, _⟩ := h
    rfl
  obtain ⟨aI, mI, hI⟩ := T.x_in
  obtain ⟨aO, mO, hO⟩ := T.x_out
  obtain ⟨r, hs, bs, l, rfl, hR, ok, q⟩ := h
  obtain ⟨ha, ba, hv, bv, er, eh, eb, alh, alb⟩ := hR.ex
  have lhv := alh.length
  have lh := ok.hands
  refine ⟨_, (pss_cons (ps_set (i := 2) sc_hand_places.nd rfl (Or.inl rfl) (pe_callB (call_len_seqK K rfl) (by rfl) T.m_len (by decide +kernel) (pa_cons (pe_ix (ix_tupK K rfl) (pv 0) pe_int (fun _ _ => rfl)) pa_nil)))
      (pss_cons (ps_set (i := 3) sc_hand_places.nd rfl (Or.inl rfl) (pe_lst pa_nil))
      (pss_cons (ps_for PassesOwn.never rfl (pi_enumT K rfl (by rfl) T.m_enumerate (pa_cons (pe_ix (ix_tupK K rfl) (pv 0) pe_int (fun _ _ => rfl)) pa_nil)) (pg_tupK K rfl rfl (pgs_cons (pg_name (i := 4) sc_hand_places.nd rfl (Or.inl rfl)) (pgs_cons (pg_tupK K rfl rfl (pgs_cons (pg_name (i := 5) sc_hand_places.nd rfl (Or.inl rfl)) (pgs_cons (pg_name (i := 6) sc_hand_places.nd rfl (Or.inl rfl)) pgs_nil))) pgs_nil)))
        (pss_one (ps_if (pt_cmpR (op_eqDK K rfl hr.units) (pv 5) (pe_glob (v := .ref aI) (by rfl) mI rfl) (nomark _)) (pss_one (ps_expr (pe_bmK K rfl PySem.F.plainAttrs_list PySem.F.slot_list_append PySem.F.type_list_append mt_append (pv 3) (pa_cons (pe_tup (pa_cons (pv 2) (pa_cons pe_int pa_nil))) pa_nil)))) (pss_one (ps_if (pt_cmpR (op_eqDK K rfl hr.units) (pv 5) (pe_glob (v := .ref aO) (by rfl) mO rfl) (nomark _)) (pss_one (ps_expr (pe_bmK K rfl PySem.F.plainAttrs_list PySem.F.slot_list_append PySem.F.type_list_append mt_append (pv 3) (pa_cons (pe_tup (pa_cons (pv 2) (pa_cons (pv 1) pa_nil))) pa_nil)))) (pss_one (ps_expr (pe_bmK K rfl PySem.F.plainAttrs_list PySem.F.slot_list_append PySem.F.type_list_append mt_append (pv 3) (pa_cons (pe_tup (pa_cons (pv 4) (pa_cons pe_int pa_nil))) pa_nil)))))))))
      (pss_one (ps_ret (pv 3)))))), ?_⟩
  refine ⟨_, rfl, r, _, _, _, rfl, rfl, SqT.of er, atI_nat (j := 0) rfl, ha, _, rfl, .inr (SqT.of eh), ?_⟩
  refine ⟨(by show 0 ≤ sizeLine; decide), fun pl npl => ?_⟩
  have s1 := same_new (o := .lst []) npl
  have hpl : (upd H pl (.lst [])) pl = some (.lst []) := upd_same
  generalize upd H pl (.lst []) = H1 at s1 hpl ⊢
  refine ⟨_, rfl, r, _, _, _, rfl, rfl, SqT.of (s1 _ _ er), atI_nat (j := 0) rfl, ha, hv, rfl, SqT.of (s1 _ _ eh), for_it (J := IteT K ha hv) (n := hv.length) (fun i σ H5 => ∃ (pv : List V) (v4 v5 v6 : Option V), σ = [some (.ref r), some (nV l), some (.int ((hv.length : Nat) : Int)), some (.ref pl), v4, v5, v6] ∧ H5 pl = some (.lst pv) ∧ All2 (PlAt H5) pv ((List.range i).map fun k => (plH hs k, abH hs l k)) ∧ (∀ b o, H b = some o → H5 b = some o)) ⟨[], none, none, none, rfl, hpl, .nil, fun b o e => s1 _ _ e⟩ ?_ ?_ ?_ ?_⟩
  · rintro i σ H5 hi ⟨pv, v4, v5, v6, rfl, h5, al, s5⟩
    exact ⟨SqT.of (s5 _ _ eh), hi⟩
  · rintro σ H5 ⟨pv, v4, v5, v6, rfl, h5, al, s5⟩
    exact ⟨SqT.of (s5 _ _ eh), rfl⟩
  · rintro i x σ H5 H6 hi ⟨pv, v4, v5, v6, rfl, h5, al, s5⟩ ⟨t, y, rfl, nt, rfl, ey⟩
    obtain ⟨hh, eb2, ⟨t2, g, rfl, e1, e2⟩⟩ := alh.getL ey
    have gh := ok.good _ (List.mem_of_getElem? eb2)
    have il := (List.getElem?_eq_some_iff.mp eb2).1
    have s56 := same_new (o := .tup [V.int ((i : Nat) : Int), V.ref t2]) nt
    have s6 : Same H _ := Same.trans s5 s56
    have h6 := s56 _ _ h5
    have lpv := al.length
    rw [List.length_map, List.length_range] at lpv
    have inn : i ∈ doorsOf "in" hs ↔ hh.wd = "in" := ⟨fun z => by obtain ⟨h', q1, q2⟩ := mem_doors.mp z; rw [eb2] at q1; cases q1; exact q2, fun z => mem_doors.mpr ⟨hh, eb2, z⟩⟩
    have out : i ∈ doorsOf "out" hs ↔ hh.wd = "out" := ⟨fun z => by obtain ⟨h', q1, q2⟩ := mem_doors.mp z; rw [eb2] at q1; cases q1; exact q2, fun z => mem_doors.mpr ⟨hh, eb2, z⟩⟩
    refine ⟨t, _, rfl, SqT.of upd_same, rfl, _, _, rfl, _, _, rfl, t2, _, rfl, SqT.of (s6 _ _ e1), rfl, _, _, rfl, _, _, rfl, rfl, rfl, ?_⟩
    generalize upd H5 t (.tup [V.int ((i : Nat) : Int), V.ref t2]) = H6 at s56 s6 h6 ⊢
    -- what is appended
    have fin : ∀ (tt : Addr) (H7 : Hp) (p : Nat × Int), Same H6 H7 → H7 tt = some (.tup [nV p.1, .int p.2]) → p = (plH hs i, abH hs l i) → ∃ pv', upd H7 pl (.lst (pv ++ [V.ref tt])) pl = some (.lst pv') ∧ All2 (PlAt (upd H7 pl (.lst (pv ++ [V.ref tt])))) pv' ((List.range (i + 1)).map fun k => (plH hs k, abH hs l k)) ∧ (∀ b o, H b = some o → upd H7 pl (.lst (pv ++ [V.ref tt])) b = some o) := fun tt H7 p s7 ht ep => by
      have kk : TK H7 (upd H7 pl (.lst (pv ++ [V.ref tt]))) := TK.lst (s7 _ _ h6)
      refine ⟨_, upd_same, ?_, fun b o e => ?_⟩
      · rw [List.range_succ, List.map_append]
        exact ((al.imp fun _ _ z => z.keep (TK.same (s56.trans s7))).snoc ⟨tt, rfl, by rw [ht, ep]⟩).imp fun _ _ z => z.keep kk
      · rw [upd_ne (ne_of_none e npl)]
        exact s7 _ _ (s6 _ _ e)
    refine ⟨_, rfl, _, _, rule_dp (s6 _ _ e2), .tup (hI _) (.cons (.str _) .nil), rule_shaped gh.lay, one_shaped (by decide +kernel), _, rfl, ?_⟩
    rw [rule_eqv, gh.door "in" (.inl rfl)]
    by_cases c : hh.wd = "in"
    · rw [decide_eq_true c]
      refine if_bl (fun _ => ?_) (fun z => nomatch z)
      refine ⟨_, rfl, .inl ⟨rfl, _, SqL.of h6⟩, _, rfl, (by show 2 ≤ sizeLine; decide), fun tt ntt => ⟨pl, _, _, rfl, rfl, same_new ntt _ _ h6, small1000 (by omega), ?_⟩⟩
      obtain ⟨pv', q1, q2, q3⟩ := fin tt _ (hs.length, 0) (same_new (o := .tup [nV hv.length, V.int 0]) ntt) (by rw [upd_same, lhv]) (by rw [pl_in (inn.mpr c), ab_in (inn.mpr c)])
      exact ⟨pv', _, _, _, rfl, q1, q2, q3⟩
    · rw [decide_eq_false c]
      refine if_bl (fun z => nomatch z) (fun _ => ?_)
      refine ⟨_, rfl, _, _, rule_dp (s6 _ _ e2), .tup (hO _) (.cons (.str _) .nil), rule_shaped gh.lay, one_shaped (by decide +kernel), _, rfl, ?_⟩
      rw [rule_eqv, gh.door "out" (.inr rfl)]
      by_cases c2 : hh.wd = "out"
      · rw [decide_eq_true c2]
        refine if_bl (fun _ => ?_) (fun z => nomatch z)
        refine ⟨_, rfl, .inl ⟨rfl, _, SqL.of h6⟩, _, rfl, _, rfl, (by show 2 ≤ sizeLine; decide), fun tt ntt => ⟨pl, _, _, rfl, rfl, same_new ntt _ _ h6, small1000 (by omega), ?_⟩⟩
        obtain ⟨pv', q1, q2, q3⟩ := fin tt _ (hs.length, ((l : Nat) : Int)) (same_new (o := .tup [nV hv.length, nV l]) ntt) (by rw [upd_same, lhv]) (by rw [pl_out (out.mpr c2), ab_out (out.mpr c2)])
        exact ⟨pv', _, _, _, rfl, q1, q2, q3⟩
      · rw [decide_eq_false c2]
        refine if_bl (fun z => nomatch z) (fun _ => ?_)
        refine ⟨_, rfl, .inl ⟨rfl, _, SqL.of h6⟩, _, rfl, (by show 2 ≤ sizeLine; decide), fun tt ntt => ⟨pl, _, _, rfl, rfl, same_new ntt _ _ h6, small1000 (by omega), ?_⟩⟩
        obtain ⟨pv', q1, q2, q3⟩ := fin tt _ (i, 0) (same_new (o := .tup [nV i, V.int 0]) ntt) upd_same (by rw [pl_hand (fun z => c (inn.mp z)) (fun z => c2 (out.mp z)), ab_no fun z => c2 (out.mp z)])
        exact ⟨pv', _, _, _, rfl, q1, q2, q3⟩
  · rintro σ H5 ⟨pv, v4, v5, v6, rfl, h5, al, s5⟩
    rw [lhv] at al
    exact ⟨_, rfl, q pl pv H5 npl h5 al s5⟩
def sp_ground_steps (K : PySem.W.Frag) : Sp := fun vs H Q _ => ∃ (r : Addr) (hs : List HR) (bs : List BR) (l : Nat) (T : Int), vs = [.ref r, nV l, .int T] ∧ RoomAt H r hs bs ∧ RoomOk hs bs ∧
  ∀ (p wl sl : Addr) (wv sv : List V) (ys : List Wy) (H' : Hp), H' p = some (.tup [.ref wl, .ref sl]) → H' wl = some (.lst wv) → All2 (PrAt H') wv (gYs hs ys) → H' sl = some (.lst sv) → All2 (StepAt H') sv (gSt hs ys l T) → AllWays hs bs ys → Same H H' → Q (.ref p) H'
theorem ok_ground_steps {f : Addr} {fd : FuncData} (F : Fun K "ground_steps" "ground_steps" s_ground_steps f fd) (T : Top K mg) : FnOk P w K mg base CX0 3 f fd ["room", "late", "time"] (sp_ground_steps K) := by
  obtain ⟨f_hand_places, fd_hand_places, F_hand_places, b_hand_places, m_hand_places⟩ := T.d_hand_places
  have G_hand_places := ok_hand_places (P := P) (w := w) (base := base) F_hand_places T
  obtain ⟨f_least_ways, fd_least_ways, F_least_ways, b_least_ways, m_least_ways⟩ := T.d_least_ways
  have G_least_ways := ok_least_ways (P := P) (w := w) (base := base) F_least_ways T
  obtain ⟨f_needed, fd_needed, F_needed, b_needed, m_needed⟩ := T.d_needed
  have G_needed := ok_needed (P := P) (w := w) (base := base) F_needed T
  refine F.ok sc_ground_steps (fun vs H Q E h => ?_) (fun cdv A outer s H vs Q E hr h => ?_)
  · obtain ⟨r, hs, bs, l, T', rfl, _⟩ := h
    rfl
  obtain ⟨r, hs, bs, l, T', rfl, hR, ok, q⟩ := h
  have lh := ok.hands
  refine ⟨_, (pss_cons (ps_set (i := 3) sc_ground_steps.nd rfl (Or.inl rfl) (pe_call G_hand_places (hr.mono (by decide)) (by rfl) m_hand_places F_hand_places.kp b_hand_places .nil pass0 (pa_cons (pv 0) (pa_cons (pv 1) pa_nil))))
      (pss_cons (ps_set (i := 4) sc_ground_steps.nd rfl (Or.inl rfl) (pe_lst pa_nil))
      (pss_cons (ps_set (i := 5) sc_ground_steps.nd rfl (Or.inl rfl) (pe_lst pa_nil))
      (pss_cons (ps_for PassesOwn.never rfl (pi_listK K rfl (pe_call G_least_ways (hr.mono (by decide)) (by rfl) m_least_ways F_least_ways.kp b_least_ways .nil pass0 (pa_cons (pv 0) pa_nil))) (pg_tupK K rfl rfl (pgs_cons (pg_name (i := 6) sc_ground_steps.nd rfl (Or.inl rfl)) (pgs_cons (pg_name (i := 7) sc_ground_steps.nd rfl (Or.inl rfl)) (pgs_cons (pg_name (i := 8) sc_ground_steps.nd rfl (Or.inl rfl)) (pgs_cons (pg_name (i := 9) sc_ground_steps.nd rfl (Or.inl rfl)) pgs_nil)))))
        (pss_cons (ps_set (i := 10) sc_ground_steps.nd rfl (Or.inl rfl) (pe_ix (ix_tupK K rfl) (pe_ix (ix_listK K rfl) (pv 3) (pe_ix (ix_tupK K rfl) (pv 8) pe_int (fun _ _ => rfl)) (fun _ _ => rfl)) pe_int (fun _ _ => rfl)))
      (pss_cons (ps_asg (pe_ix (ix_listK K rfl) (pv 3) (pv 9) (fun _ _ => rfl)) (pg_tupK K rfl rfl (pgs_cons (pg_name (i := 11) sc_ground_steps.nd rfl (Or.inl rfl)) (pgs_cons (pg_name (i := 12) sc_ground_steps.nd rfl (Or.inl rfl)) pgs_nil))))
      (pss_one (ps_if (pt_cmpR op_ne (pv 10) (pv 11) (nomark _)) (pss_cons (ps_expr (pe_bmK K rfl PySem.F.plainAttrs_list PySem.F.slot_list_append PySem.F.type_list_append mt_append (pv 4) (pa_cons (pv 8) pa_nil)))
      (pss_one (ps_expr (pe_bmK K rfl PySem.F.plainAttrs_list PySem.F.slot_list_append PySem.F.type_list_append mt_append (pv 5) (pa_cons (pe_tup (pa_cons (pv 10) (pa_cons (pv 11) (pa_cons (pe_op op_sub (pe_op op_sub (pe_call G_needed (hr.mono (by decide)) (by rfl) m_needed F_needed.kp b_needed .nil pass0 (pa_cons (pv 7) (pa_cons (pv 2) pa_nil))) (pv 6)) (pv 12)) pa_nil)))) pa_nil))))) pss_nil)))))
      (pss_one (ps_ret (pe_tup (pa_cons (pv 4) (pa_cons (pv 5) pa_nil))))))))), ?_⟩
  refine ⟨_, rfl, _, rfl, r, hs, bs, l, rfl, hR, ok, fun pl pv H1 npl hpl alp s1 => ?_⟩
  refine ⟨(by show 0 ≤ sizeLine; decide), fun wl nwl => ?_⟩
  have s12 := same_new (o := .lst []) nwl
  have hwl : (upd H1 wl (.lst [])) wl = some (.lst []) := upd_same
  generalize upd H1 wl (.lst []) = H2 at s12 hwl ⊢
  refine ⟨(by show 0 ≤ sizeLine; decide), fun sl nsl => ?_⟩
  have s23 := same_new (o := .lst []) nsl
  have hsl : (upd H2 sl (.lst [])) sl = some (.lst []) := upd_same
  have hwl3 := s23 _ _ hwl
  generalize upd H2 sl (.lst []) = H3 at s23 hsl hwl3 ⊢
  have s3 := (s1.trans s12).trans s23
  have wsl : wl ≠ sl := ne_of_none hwl nsl
  have plw : pl ≠ wl := ne_of_none hpl nwl
  have pls : pl ≠ sl := ne_of_none (s12 _ _ hpl) nsl
  refine ⟨_, rfl, r, hs, bs, rfl, hR.keep (TK.same s3), ok, fun yl yv ys H4 nyl hyl aly aw s4 => ?_⟩
  have lys := aly.length
  have few := aw.few
  have hsl4 := s4 _ _ hsl
  have hwl4 := s4 _ _ hwl3
  have yls : yl ≠ sl := fun z => by rw [z, hsl] at nyl; cases nyl
  have ylw : yl ≠ wl := fun z => by rw [z, hwl3] at nyl; cases nyl
  have hpl4 := s4 _ _ (s23 _ _ (s12 _ _ hpl))
  have alp4 := alp.imp fun _ _ z => z.keep (TK.same ((s12.trans s23).trans s4))
  have s04 := s3.trans s4
  refine ⟨yl, rfl, ⟨_, SqL.of hyl⟩, for_list (K := K) (a := yl) (xs := yv) (fun i σ H5 => ∃ (wv sv : List V) (v6 v7 v8 v9 v10 v11 v12 : Option V), σ = [some (.ref r), some (nV l), some (.int T'), some (.ref pl), some (.ref wl), some (.ref sl), v6, v7, v8, v9, v10, v11, v12] ∧ H5 wl = some (.lst wv) ∧ All2 (PrAt H5) wv (gYs hs (ys.take i)) ∧ H5 sl = some (.lst sv) ∧ All2 (StepAt H5) sv (gSt hs (ys.take i) l T') ∧ (∀ b o, H4 b = some o → b ≠ wl → b ≠ sl → H5 b = some o)) ⟨[], [], none, none, none, none, none, none, none, rfl, hwl4, .nil, hsl4, .nil, fun b o e _ _ => e⟩ (fun i σ H5 _ ⟨_, _, _, _, _, _, _, _, _, _, _, _, _, _, f5⟩ => SqL.of (f5 _ _ hyl ylw yls)) ?_ ?_⟩
  · rintro i x σ H5 hx ⟨wv, sv, v6, v7, v8, v9, v10, v11, v12, rfl, hw5, alw, hs5, als, f5⟩
    obtain ⟨y, ey, ⟨t, p, rfl, ht, g, hp, hg⟩⟩ := aly.getL hx
    have il := (List.getElem?_eq_some_iff.mp ey).1
    have o := aw.ok y (List.mem_of_getElem? ey)
    have el := best_end ok o
    have tpl : ∀ {b : Addr} {xs : List V}, H4 b = some (.tup xs) → H5 b = some (.tup xs) := fun e => f5 _ _ e (ne_of e hwl4 (fun z => nomatch z)) (ne_of e hsl4 (fun z => nomatch z))
    have hpl5 := f5 _ _ hpl4 plw pls
    obtain ⟨x1, ex1, ⟨t1, rfl, h1⟩⟩ := alp4.get (pl_at (l := l) o.lt)
    obtain ⟨x2, ex2, ⟨t2, rfl, h2⟩⟩ := alp4.get (pl_at (l := l) el)
    have lwv := alw.length
    have lsv := als.length
    rw [List.length_map] at lsv
    have lg : (gYs hs (ys.take i)).length ≤ 144 := Nat.le_trans (List.length_filter_le ..) (by rw [List.length_take]; omega)
    have tke : gYs hs (ys.take (i + 1)) = gYs hs (ys.take i) ++ if plH hs y.one ≠ plH hs y.e then [y] else [] := by
      show (ys.take (i + 1)).filter _ = (ys.take i).filter _ ++ _
      rw [List.take_add_one, ey, List.filter_append]
      congr 1
      show [y].filter _ = _
      rw [List.filter_cons]
      by_cases z : plH hs y.one ≠ plH hs y.e
      · rw [if_pos (decide_eq_true z), if_pos z]; rfl
      · rw [if_neg (by rw [decide_eq_false z]; exact Bool.false_ne_true), if_neg z]; rfl
    refine ⟨t, _, rfl, SqT.of (tpl ht), rfl, _, _, rfl, _, _, rfl, _, _, rfl, _, _, rfl, rfl, ?_⟩
    refine ⟨_, rfl, _, rfl, p, _, _, _, rfl, rfl, SqT.of (tpl hp), atI_nat (j := 0) rfl, pl, _, _, _, rfl, rfl, SqL.of hpl5, atI_nat ex1, t1, _, _, _, rfl, rfl, SqT.of (tpl h1), atI_nat (j := 0) rfl, ?_⟩
    refine ⟨_, rfl, _, rfl, pl, _, _, _, rfl, rfl, SqL.of hpl5, atI_nat ex2, t2, _, rfl, SqT.of (tpl h2), rfl, _, _, rfl, _, _, rfl, rfl, ?_⟩
    refine ⟨_, rfl, _, rfl, rfl, _, rfl, if_bl (fun z => ?_) (fun z => ?_)⟩
    · have ne : plH hs y.one ≠ plH hs y.e := fun c => by
        have z : (!decide (nV (plH hs y.one) = nV (plH hs y.e))) = true := z
        rw [c, decide_eq_true rfl] at z
        cases z
      rw [if_pos ne] at tke
      refine ⟨_, rfl, .inl ⟨rfl, _, SqL.of hw5⟩, _, rfl, wl, _, _, rfl, rfl, hw5, small1000 (by omega), ?_⟩
      have k6 : TK H5 (upd H5 wl (.lst (wv ++ [V.ref p]))) := TK.lst hw5
      have hs6 : (upd H5 wl (.lst (wv ++ [V.ref p]))) sl = some (.lst sv) := by rw [upd_ne wsl.symm]; exact hs5
      have hw6 : (upd H5 wl (.lst (wv ++ [V.ref p]))) wl = some (.lst (wv ++ [V.ref p])) := upd_same
      have f6 : ∀ b o, H4 b = some o → b ≠ wl → b ≠ sl → (upd H5 wl (.lst (wv ++ [V.ref p]))) b = some o := fun b o e n1 n2 => by rw [upd_ne n1]; exact f5 b o e n1 n2
      generalize upd H5 wl (.lst (wv ++ [V.ref p])) = H6 at k6 hs6 hw6 f6 ⊢
      refine ⟨_, rfl, .inl ⟨rfl, _, SqL.of hs6⟩, _, rfl, _, rfl, _, rfl, _, rfl, y.c.2, T', rfl, _, rfl, _, _, rfl, rfl, _, rfl, _, _, rfl, rfl, (by show 3 ≤ sizeLine; decide), fun tt ntt => ?_⟩
      have s7 := same_new (o := .tup [nV (plH hs y.one), nV (plH hs y.e), V.int (ndd y.c.2 T' - y.c.1 - abH hs l y.e)]) ntt
      have htt : (upd H6 tt (.tup [nV (plH hs y.one), nV (plH hs y.e), V.int (ndd y.c.2 T' - y.c.1 - abH hs l y.e)])) tt = some (.tup [nV (plH hs y.one), nV (plH hs y.e), V.int (ndd y.c.2 T' - y.c.1 - abH hs l y.e)]) := upd_same
      refine ⟨sl, _, _, rfl, rfl, s7 _ _ hs6, small1000 (by omega), ?_⟩
      generalize upd H6 tt _ = H7 at s7 htt ⊢
      have k8 : TK H7 (upd H7 sl (.lst (sv ++ [V.ref tt]))) := TK.lst (s7 _ _ hs6)
      have k58 := (k6.trans (TK.same s7)).trans k8
      refine ⟨wv ++ [V.ref p], sv ++ [V.ref tt], _, _, _, _, _, _, _, rfl, by rw [upd_ne wsl]; exact s7 _ _ hw6, ?_, upd_same, ?_, fun b o e n1 n2 => by rw [upd_ne n2]; exact s7 _ _ (f6 b o e n1 n2)⟩
      · rw [tke]
        exact (alw.imp fun _ _ z => z.keep k58).snoc ⟨p, rfl, g, k58 _ _ (tpl hp), k58 _ _ (tpl hg)⟩
      · show All2 _ _ ((gYs hs (ys.take (i + 1))).map (gStep hs l T'))
        rw [tke, List.map_append]
        exact (als.imp fun _ _ z => z.keep k58).snoc ⟨tt, rfl, k8 _ _ htt⟩
    · have eq : ¬ plH hs y.one ≠ plH hs y.e := fun c => by
        have z : (!decide (nV (plH hs y.one) = nV (plH hs y.e))) = false := z
        rw [decide_eq_false (fun y => c (by have := V.int.inj y; omega))] at z
        cases z
      rw [if_neg eq, List.append_nil] at tke
      exact ⟨wv, sv, _, _, _, _, _, _, _, rfl, hw5, by rw [tke]; exact alw, hs5, by show All2 _ _ ((gYs hs (ys.take (i + 1))).map (gStep hs l T')); rw [tke]; exact als, f5⟩
  · rintro σ H5 ⟨wv, sv, v6, v7, v8, v9, v10, v11, v12, rfl, hw5, alw, hs5, als, f5⟩
    rw [lys, List.take_length] at alw als
    refine ⟨_, rfl, _, rfl, (by show 2 ≤ sizeLine; decide), fun p np => ?_⟩
    have s6 := same_new (o := .tup [V.ref wl, V.ref sl]) np
    have wl0 : H wl = none := same_none s1 nwl
    have sl0 : H sl = none := same_none (s1.trans s12) nsl
    exact q p wl sl wv sv ys _ upd_same (s6 _ _ hw5) (alw.imp fun _ _ z => z.keep (TK.same s6)) (s6 _ _ hs5) (als.imp fun _ _ z => z.keep (TK.same s6)) aw (fun b o e => s6 _ _ (f5 _ _ (s04 _ _ e) (ne_of_none e wl0) (ne_of_none e sl0)))
def sp_ground_shifts (K : PySem.W.Frag) : Sp := fun vs H Q _ => ∃ (r ll : Addr) (hs : List HR) (bs : List BR) (l : Nat) (lv : Nat → Int), vs = [.ref r, nV l, .ref ll] ∧ RoomAt H r hs bs ∧ RoomOk hs bs ∧ H ll = some (.lst (levL (hs.length + 1) lv)) ∧
  ∀ (p : Addr) (H' : Hp), H' p = some (.tup (levL hs.length (shL hs l lv))) → Same H H' → Q (.ref p) H'
theorem ok_ground_shifts {f : Addr} {fd : FuncData} (F : Fun K "ground_shifts" "ground_shifts" s_ground_shifts f fd) (T : Top K mg) : FnOk P w K mg base CX0 2 f fd ["room", "late", "levels"] (sp_ground_shifts K) := by
  obtain ⟨f_hand_places, fd_hand_places, F_hand_places, b_hand_places, m_hand_places⟩ := T.d_hand_places
  have G_hand_places := ok_hand_places (P := P) (w := w) (base := base) F_hand_places T
  refine F.ok sc_ground_shifts (fun vs H Q E h => ?_) (fun cdv A outer s H vs Q E hr h => ?_)
  · obtain ⟨r, ll, hs, bs, l, lv, rfl, _⟩ := h
    rfl
  obtain ⟨r, ll, hs, bs, l, lv, rfl, hR, ok, hll, q⟩ := h
  obtain ⟨ha, ba, hv, bv, er, eh, eb, alh, alb⟩ := id hR.ex
  have lhv := alh.length
  have lh := ok.hands
  refine ⟨_, (pss_cons (ps_set (i := 3) sc_ground_shifts.nd rfl (Or.inr rfl) (pe_ix (ix_listK K rfl) (pv 2) (pe_callB (call_len_seqK K rfl) (by rfl) T.m_len (by decide +kernel) (pa_cons (pe_ix (ix_tupK K rfl) (pv 0) pe_int (fun _ _ => rfl)) pa_nil)) (fun _ _ => rfl)))
      (pss_one (ps_ret (pe_callTy (call_tuple_ofK K rfl) (by rfl) T.m_tuple (by decide +kernel) (pa_cons (pe_lc (own := [("place", 4), ("above", 5)]) (g := gTup K 2 (gCons (gName 4) (gCons (gName 5) gNil))) (tt := tYes) (by rfl) sc_ground_shifts.nd (pi_listK K rfl (pe_call G_hand_places (hr.mono (by decide)) (by rfl) m_hand_places F_hand_places.kp b_hand_places .nil pass0 (pa_cons (pv 0) (pa_cons (pv 1) pa_nil)))) (blkOk_by (own := [("place", 4), ("above", 5)]) (N := N_ground_shifts) (sc := defScope s_ground_shifts) (by decide +kernel)) (fun _ _ _ _ _ => (pg_tupK K rfl rfl (pgs_cons (pg_name (i := 4) sc_ground_shifts.nd rfl (Or.inl rfl)) (pgs_cons (pg_name (i := 5) sc_ground_shifts.nd rfl (Or.inl rfl)) pgs_nil)))) (fun _ _ _ _ _ => pts_nil) (fun _ _ _ _ _ => (pe_op op_sub (pe_op op_add (pe_ix (ix_listK K rfl) (pv 2) (pv 4) (fun _ _ => rfl)) (pv 5)) (pv 3)))) pa_nil))))), ?_⟩
  refine ⟨_, rfl, _, rfl, r, _, _, _, rfl, rfl, SqT.of er, atI_nat (j := 0) rfl, ha, _, rfl, .inr (SqT.of eh), ll, _, _, _, rfl, rfl, SqL.of hll, by rw [lhv]; exact atI_nat (rg_at (by omega)), ?_⟩
  refine ⟨_, rfl, _, rfl, r, hs, bs, l, rfl, hR, ok, fun pl pv H1 npl hpl alp s1 => ?_⟩
  have lpv := alp.length
  rw [List.length_map, List.length_range] at lpv
  refine ⟨pl, rfl, ⟨_, SqL.of hpl⟩, fun D nD => lc_list (K := K) (a := pl) (xs := pv) (fun i H5 => H5 D = some (.lst ((List.range i).map fun k => V.int (shL hs l lv k))) ∧ Same H1 H5) ⟨upd_same, same_new nD⟩ (fun i H5 _ ⟨_, s5⟩ => SqL.of (s5 _ _ hpl)) ?_ ?_⟩
  · rintro i x H5 hx ⟨hD, s5⟩
    obtain ⟨pa, epa, ⟨t, rfl, ht⟩⟩ := alp.getL hx
    have il := (List.getElem?_eq_some_iff.mp epa).1
    rw [List.length_map, List.length_range] at il
    rw [pl_at il] at epa
    cases epa
    have pll := pl_le il
    refine ⟨t, _, rfl, SqT.of (s5 _ _ ht), rfl, _, _, rfl, _, _, rfl, rfl, rfl, yes_in ?_⟩
    refine ⟨_, rfl, _, rfl, ll, _, _, _, rfl, rfl, SqL.of (s5 _ _ (s1 _ _ hll)), atI_nat (rg_at (by omega)), _, rfl, _, _, rfl, rfl, _, rfl, _, _, rfl, rfl, _, hD, by rw [List.length_map, List.length_range]; exact small1000 (by omega), ?_, Same.own s5 nD⟩
    rw [upd_same, List.range_succ, List.map_append]
    rfl
  rintro H5 ⟨hD, s5⟩
  rw [lpv] at hD
  refine ⟨D, _, rfl, .inl ⟨SqL.of hD, fun p np => ?_⟩⟩
  exact q p _ upd_same ((s1.trans s5).trans (same_new np))
theorem index_nat {K : PySem.W.Frag} {H : Hp} {od : Addr} {ord : List Nat} {k : Nat} {Q : VK} (h : H od = some (.lst (ord.map nV))) (m : k ∈ ord) (q : Q (nV (ord.idxOf k)) H) : rIndex K (.ref od) [nV k] H Q := by
  have il := List.idxOf_lt_length_of_mem m
  refine ⟨od, _, nV k, ord.idxOf k, nV k, rfl, rfl, SqL.of h, rfl, ?_, ?_, ?_, fun i z hi hz => ?_, q⟩
  · rw [List.all_map]
    exact List.all_eq_true.mpr fun _ _ => rfl
  · rw [List.getElem?_map, List.getElem?_eq_getElem il, List.getElem_idxOf]; rfl
  · show (((k : Nat) : Int) == ((k : Nat) : Int)) = true
    exact beq_self_eq_true _
  · have il' : i < ord.length := by omega
    rw [List.getElem?_map, List.getElem?_eq_getElem il'] at hz
    obtain rfl : nV ord[i] = z := Option.some.inj hz
    show (((ord[i] : Nat) : Int) == ((k : Nat) : Int)) = false
    have ne : ord[i] ≠ k := by
      have := List.not_of_lt_findIdx (p := (· == k)) (xs := ord) (i := i) (by exact hi)
      simpa using this
    exact beq_eq_false_iff_ne.mpr fun z => ne (by omega)
theorem mt_indexK {X : Cx} (K : PySem.W.Frag) (h : X.K = K) : MtR X "list.index" (rIndex K) := by subst h; exact mt_index
theorem idx_cut {l : List Nat} {c : Nat} (m : c ∈ l) : l = l.take (l.idxOf c) ++ c :: l.drop (l.idxOf c + 1) := by
  have il := List.idxOf_lt_length_of_mem m
  have := List.take_append_drop (l.idxOf c) l
  rw [List.drop_eq_getElem_cons il, List.getElem_idxOf] at this
  exact this.symm
def sp_levels_or_path (K : PySem.W.Frag) : Sp := fun vs H Q _ => ∃ (r sl : Addr) (hs : List HR) (bs : List BR) (st : List St3) (M : Int), vs = [.ref r, .ref sl, .int M] ∧ RoomAt H r hs bs ∧ RoomOk hs bs ∧ StepsAt H sl st ∧ (∀ s ∈ st, s.u < hs.length + 1 ∧ s.v < hs.length + 1) ∧ st.length ≤ 144 ∧ Feas st ∧
  (∀ (p ll : Addr) (lv : Nat → Int) (H' : Hp), H' p = some (.tup [.ref ll, .non]) → H' ll = some (.lst (levL (hs.length + 1) lv)) → (∀ s ∈ st, lv s.u + s.w ≤ lv s.v) → (∀ k, k < hs.length → lv k - M ≤ lv hs.length) → Same H H' → Q (.ref p) H') ∧
  ∀ (p rl : Addr) (ks : List Nat) (H' : Hp), H' p = some (.tup [.non, .ref rl]) → H' rl = some (.lst (ks.map nV)) → PathOk hs.length st M ks → Same H H' → Q (.ref p) H'
theorem ok_levels_or_path {f : Addr} {fd : FuncData} (F : Fun K "levels_or_path" "levels_or_path" s_levels_or_path f fd) (T : Top K mg) : FnOk P w K mg base CX0 3 f fd ["room", "steps", "many"] (sp_levels_or_path K) := by
  obtain ⟨f_levels_or_ring, fd_levels_or_ring, F_levels_or_ring, b_levels_or_ring, m_levels_or_ring⟩ := T.d_levels_or_ring
  have G_levels_or_ring := ok_levels_or_ring (P := P) (w := w) (base := base) F_levels_or_ring T
  refine F.ok sc_levels_or_path (fun vs H Q E h => ?_) (fun cdv A outer s H vs Q E hr h => ?_)
  · obtain ⟨r, sl, hs, bs, st, M, rfl, _⟩ := h
    rfl
  obtain ⟨r, sl, hs, bs, st, M, rfl, hR, ok, ⟨sv, hsl, als⟩, bd, few, fs, q1, q2⟩ := h
  obtain ⟨ha, ba, hv, bv, er, eh, eb, alh, alb⟩ := id hR.ex
  have lhv := alh.length
  have lh := ok.hands
  have lsv := als.length
  refine ⟨_, (pss_cons (ps_set (i := 3) sc_levels_or_path.nd rfl (Or.inr rfl) (pe_callB (call_len_seqK K rfl) (by rfl) T.m_len (by decide +kernel) (pa_cons (pe_ix (ix_tupK K rfl) (pv 0) pe_int (fun _ _ => rfl)) pa_nil)))
      (pss_cons (ps_setLc (i := 4) (own := [("hand", 5)]) (g := gName 5) (tt := tYes) (by rfl) sc_levels_or_path.nd rfl rfl (sw_true rfl rfl rfl (by decide +kernel)) (pi_range1 (by rfl) T.m_range (pa_cons (pv 3) pa_nil)) (blkOk_by (own := [("hand", 5)]) (N := N_levels_or_path) (sc := defScope s_levels_or_path) (by decide +kernel)) (fun _ _ _ _ _ => (pg_name (i := 5) sc_levels_or_path.nd rfl (Or.inl rfl))) (fun _ _ _ _ _ => pts_nil) (fun _ _ _ _ _ => (pe_tup (pa_cons (pv 5) (pa_cons (pv 3) (pa_cons (pe_un un_neg (pv 2)) pa_nil))))))
      (pss_cons (ps_asg (pe_call G_levels_or_ring (hr.mono (by decide)) (by rfl) m_levels_or_ring F_levels_or_ring.kp b_levels_or_ring .nil pass0 (pa_cons (pe_op op_add (pv 3) pe_int) (pa_cons (pe_op op_cat (pv 1) (pv 4)) pa_nil))) (pg_tupK K rfl rfl (pgs_cons (pg_name (i := 6) sc_levels_or_path.nd rfl (Or.inl rfl)) (pgs_cons (pg_name (i := 7) sc_levels_or_path.nd rfl (Or.inl rfl)) pgs_nil))))
      (pss_cons (ps_if (pt_cmpR op_isN (pv 7) pe_non (nomark _)) (pss_one (ps_ret (pe_tup (pa_cons (pv 6) (pa_cons pe_non pa_nil))))) pss_nil)
      (pss_cons (ps_set (i := 8) sc_levels_or_path.nd rfl (Or.inl rfl) (pe_callB (cr_maxKK K rfl rfl) (by rfl) T.m_max (by decide +kernel) (pa_cons (pv 7) pa_nil)))
      (pss_cons (ps_set (i := 9) sc_levels_or_path.nd rfl (Or.inl rfl) (pe_op op_add (pe_bmK K rfl PySem.F.plainAttrs_list PySem.F.slot_list_index PySem.F.type_list_index (mt_indexK K rfl) (pv 7) (pa_cons (pv 8) pa_nil)) pe_int))
      (pss_one (ps_ret (pe_tup (pa_cons pe_non (pa_cons (pe_op op_cat (pe_slice (sl_listK K rfl) (pv 7) (po_some (pv 9)) po_none) (pe_slice (sl_listK K rfl) (pv 7) po_none (po_some (pe_op op_sub (pv 9) pe_int)))) pa_nil))))))))))), ?_⟩
  refine ⟨_, rfl, r, _, _, _, rfl, rfl, SqT.of er, atI_nat (j := 0) rfl, ha, _, rfl, .inr (SqT.of eh), ?_⟩
  refine ⟨_, rfl, _, rfl, by omega, by omega, fun D nD => lc_range (lo := 0) (n := ((hv.length : Nat) : Int).toNat) (fun i H5 => ∃ cv : List V, H5 D = some (.lst cv) ∧ All2 (StepAt H5) cv ((List.range i).map fun k => ⟨k, hs.length, -M⟩) ∧ Same H H5) ⟨[], upd_same, .nil, same_new nD⟩ ?_ ?_⟩
  · rintro i H5 hi ⟨cv, hD, al, s5⟩
    have lcv := al.length
    rw [List.length_map, List.length_range] at lcv
    refine ⟨rfl, yes_in ⟨_, rfl, _, rfl, _, rfl, _, rfl, (by show 3 ≤ sizeLine; decide), fun t nt => ?_⟩⟩
    have s6 := same_new (o := .tup [V.int (0 + ((i : Nat) : Int)), V.int ((hv.length : Nat) : Int), V.int (-M)]) nt
    have hD6 := s6 _ _ hD
    refine ⟨cv, hD6, small1000 (by omega), cv ++ [V.ref t], upd_same, ?_, Same.own (s5.trans s6) nD⟩
    rw [List.range_succ, List.map_append]
    exact ((al.imp fun _ _ z => z.keep (TK.same s6)).snoc ⟨t, rfl, by rw [upd_same, Int.zero_add, lhv]⟩).imp fun _ _ z => z.keep (TK.lst hD6)
  rintro H1 ⟨cv, hD, alc, s1⟩
  rw [Int.toNat_natCast, lhv] at alc
  have lcv := alc.length
  rw [List.length_map, List.length_range] at lcv
  refine ⟨_, rfl, _, _, rfl, rfl, _, rfl, _, rfl, sl, D, _, _, rfl, rfl, s1 _ _ hsl, hD, little (by omega), fun cl ncl => ?_⟩
  have s2 := same_new (o := .lst (sv ++ cv)) ncl
  have hcl : (upd H1 cl (.lst (sv ++ cv))) cl = some (.lst (sv ++ cv)) := upd_same
  generalize upd H1 cl (.lst (sv ++ cv)) = H2 at s2 hcl ⊢
  have All2.app : ∀ {R : V → St3 → Prop} {as cs : List V} {bs ds : List St3}, All2 R as bs → All2 R cs ds → All2 R (as ++ cs) (bs ++ ds) := fun {R as cs bs ds} a b => by
    induction a with
    | nil => exact b
    | cons h t ih => exact .cons h ih
  have st2 : StepsAt H2 cl (st ++ capsOf hs.length M) := ⟨_, hcl, All2.app (als.imp fun _ _ z => z.keep (TK.same (s1.trans s2))) (alc.imp fun _ _ z => z.keep (TK.same s2))⟩
  have bd2 : ∀ s ∈ st ++ capsOf hs.length M, s.u < hs.length + 1 ∧ s.v < hs.length + 1 := fun s hs' => by
    rcases List.mem_append.mp hs' with h | h
    · exact bd s h
    · obtain ⟨k, hk, rfl⟩ := List.mem_map.mp h
      have := List.mem_range.mp hk
      exact ⟨by show k < _; omega, by show hs.length < _; omega⟩
  have lc : (capsOf hs.length M).length = hs.length := by unfold capsOf; rw [List.length_map, List.length_range]
  have s02 := s1.trans s2
  refine ⟨cl, hs.length + 1, st ++ capsOf hs.length M, by rw [lhv]; rfl, st2, bd2, by rw [List.length_append, lc]; omega, by omega, fun p ll lv H3 hp hll fe nn s3 => ?_, fun p rl ks H3 hp hrl ring lk s3 => ?_⟩
  · refine ⟨p, _, rfl, SqT.of hp, rfl, _, _, rfl, _, _, rfl, rfl, ?_⟩
    refine ⟨_, rfl, rfl, _, rfl, if_bl (fun _ => ?_) (fun z => absurd rfl (of_decide_eq_false z))⟩
    refine ⟨_, rfl, (by show 2 ≤ sizeLine; decide), fun p2 np2 => ?_⟩
    have s4 := same_new (o := .tup [V.ref ll, V.non]) np2
    exact q1 p2 ll lv _ upd_same (s4 _ _ hll) (fun s h => fe s (List.mem_append_left _ h)) (fun k hk => by
      have := fe _ (List.mem_append_right _ (List.mem_map.mpr ⟨k, List.mem_range.mpr hk, rfl⟩ : (⟨k, hs.length, -M⟩ : St3) ∈ capsOf hs.length M))
      have this : lv k + -M ≤ lv hs.length := this
      omega) ((s02.trans s3).trans s4)
  · refine ⟨p, _, rfl, SqT.of hp, rfl, _, _, rfl, _, _, rfl, rfl, ?_⟩
    refine ⟨_, rfl, rfl, _, rfl, if_bl (fun z => absurd (of_decide_eq_true z) (fun y => nomatch y)) (fun _ => ?_)⟩
    have en : ks.map nV = (ks.map fun k => ((k : Nat) : Int)).map V.int := by rw [List.map_map]; rfl
    refine ⟨_, rfl, rl, ks.map fun k => ((k : Nat) : Int), rfl, SqL.of (by rw [← en]; exact hrl), by rw [List.length_map]; exact List.length_pos_iff.mpr ring.ne, fun m hm hle => ?_⟩
    obtain ⟨c, cm, rfl⟩ := List.mem_map.mp hm
    have big : ∀ k ∈ ks, k ≤ c := fun k hk => by have := hle _ (List.mem_map.mpr ⟨k, hk, rfl⟩); omega
    refine ⟨_, rfl, .inl ⟨rfl, _, SqL.of hrl⟩, _, rfl, ?_⟩
    dsimp only [tNil]
    refine index_nat hrl cm ?_
    have il := List.idxOf_lt_length_of_mem cm
    have cut := idx_cut cm
    generalize ks.idxOf c = j at il cut
    refine ⟨_, _, rfl, rfl, ?_⟩
    refine ⟨_, rfl, _, rfl, _, rfl, ?_⟩
    dsimp only [tNoPart]
    refine ⟨rl, _, rfl, SqL.of hrl, fun x1 nx1 => ?_⟩
    rw [show cutV (ks.map nV) (some (((j : Nat) : Int) + 1)) none = (ks.drop (j + 1)).map nV by rw [show ((j : Nat) : Int) + 1 = ((j + 1 : Nat) : Int) from rfl, cut_drop, List.map_drop]]
    have s4 := same_new (o := .lst ((ks.drop (j + 1)).map nV)) nx1
    have hx1 : (upd H3 x1 (.lst ((ks.drop (j + 1)).map nV))) x1 = some (.lst ((ks.drop (j + 1)).map nV)) := upd_same
    generalize upd H3 x1 _ = H4 at s4 hx1 ⊢
    refine ⟨_, rfl, ?_⟩
    dsimp only [tNoPart]
    refine ⟨_, rfl, _, _, rfl, rfl, _, rfl, rl, _, rfl, SqL.of (s4 _ _ hrl), fun x2 nx2 => ?_⟩
    rw [show cutV (ks.map nV) none (some (((j : Nat) : Int) + 1 - 1)) = (ks.take j).map nV by rw [show ((j : Nat) : Int) + 1 - 1 = ((j : Nat) : Int) by omega, cut_take, List.map_take]]
    have s5 := same_new (o := .lst ((ks.take j).map nV)) nx2
    have hx2 : (upd H4 x2 (.lst ((ks.take j).map nV))) x2 = some (.lst ((ks.take j).map nV)) := upd_same
    have hx15 := s5 _ _ hx1
    generalize upd H4 x2 _ = H5 at s5 hx2 hx15 ⊢
    refine ⟨x1, x2, _, _, rfl, rfl, hx15, hx2, by rw [List.length_map, List.length_map, List.length_drop, List.length_take]; exact little (by omega), fun x3 nx3 => ?_⟩
    have s6 := same_new (o := .lst ((ks.drop (j + 1)).map nV ++ (ks.take j).map nV)) nx3
    have hx3 : (upd H5 x3 (.lst ((ks.drop (j + 1)).map nV ++ (ks.take j).map nV))) x3 = some (.lst ((ks.drop (j + 1) ++ ks.take j).map nV)) := by rw [upd_same, List.map_append]
    generalize upd H5 x3 _ = H6 at s6 hx3 ⊢
    refine ⟨(by show 2 ≤ sizeLine; decide), fun p2 np2 => ?_⟩
    have s7 := same_new (o := .tup [V.non, V.ref x3]) np2
    rw [cut] at ring big lk
    exact q2 p2 x3 (ks.drop (j + 1) ++ ks.take j) _ upd_same (s7 _ _ hx3) (cap_path fs ring big lk).1 ((((s02.trans s3).trans s4).trans s5).trans (s6.trans s7))
end
section
variable {P : Program} {w : World} {K : PySem.W.Frag} {mg : Str → Option Value} {base : Heap}
/-- levels that fit the ground's steps with no hand more than many above, or a path that asks for more -/
def LpV (n : Nat) (st : List St3) (M : Int) (H : Hp) (x y : V) : Prop := (∃ (ll : Addr) (lv : Nat → Int), x = .ref ll ∧ y = .non ∧ H ll = some (.lst (levL (n + 1) lv)) ∧ (∀ s ∈ st, lv s.u + s.w ≤ lv s.v) ∧ ∀ k, k < n → lv k - M ≤ lv n) ∨
  ∃ (rl : Addr) (ks : List Nat), x = .non ∧ y = .ref rl ∧ H rl = some (.lst (ks.map nV)) ∧ PathOk n st M ks
def sp_soonest (K : PySem.W.Frag) : Sp := fun vs H Q _ => ∃ (r : Addr) (hs : List HR) (bs : List BR) (l : Nat) (T : Int), vs = [.ref r, nV l, .int T] ∧ RoomAt H r hs bs ∧ RoomOk hs bs ∧ 0 < hs.length ∧
  (∀ H', ¬ FA hs bs (some l) T → Same H H' → Q .non H') ∧
  ∀ (p p' : Addr) (sh : Nat → Int) (M : Int) (y : V) (H' : Hp), H' p = some (.tup [.int M, .ref p', y]) → H' p' = some (.tup (levL hs.length sh)) → FA hs bs (some l) T → Rch hs bs (some l) T sh → Wait hs.length sh M → (∀ sh' W, Rch hs bs (some l) T sh' → Wait hs.length sh' W → M ≤ W) → WkV hs bs l T M H' y → Same H H' → Q (.ref p) H'
theorem ok_soonest {f : Addr} {fd : FuncData} (F : Fun K "soonest" "soonest" s_soonest f fd) (T : Top K mg) : FnOk P w K mg base CX0 5 f fd ["room", "late", "time"] (sp_soonest K) := by
  obtain ⟨f_ground_steps, fd_ground_steps, F_ground_steps, b_ground_steps, m_ground_steps⟩ := T.d_ground_steps
  have G_ground_steps := ok_ground_steps (P := P) (w := w) (base := base) F_ground_steps T
  obtain ⟨f_levels_or_path, fd_levels_or_path, F_levels_or_path, b_levels_or_path, m_levels_or_path⟩ := T.d_levels_or_path
  have G_levels_or_path := ok_levels_or_path (P := P) (w := w) (base := base) F_levels_or_path T
  obtain ⟨f_doors_out, fd_doors_out, F_doors_out, b_doors_out, m_doors_out⟩ := T.d_doors_out
  have G_doors_out := ok_doors_out (P := P) (w := w) (base := base) F_doors_out T
  obtain ⟨f_ground_shifts, fd_ground_shifts, F_ground_shifts, b_ground_shifts, m_ground_shifts⟩ := T.d_ground_shifts
  have G_ground_shifts := ok_ground_shifts (P := P) (w := w) (base := base) F_ground_shifts T
  obtain ⟨f_shifts_or_bar, fd_shifts_or_bar, F_shifts_or_bar, b_shifts_or_bar, m_shifts_or_bar⟩ := T.d_shifts_or_bar
  have G_shifts_or_bar := ok_shifts_or_bar (P := P) (w := w) (base := base) F_shifts_or_bar T
  refine F.ok sc_soonest (fun vs H Q E h => ?_) (fun cdv A outer s H vs Q E hr h => ?_)
  · obtain ⟨r, hs, bs, l, T', rfl, _⟩ := h
    rfl
  obtain ⟨r, hs, bs, l, T', rfl, hR, ok, pos, q1, q2⟩ := h
  have lh := ok.hands
  let sg : Addr → Addr → Int → V → Option V → Option V → L2.St := fun wl sl M y v7 v8 => [some (.ref r), some (nV l), some (.int T'), some (.ref wl), some (.ref sl), some (.int M), some y, v7, v8, none]
  let R1 : TS := fun D' σ' H' => D'.rt = Q ∧ ∃ (wl sl : Addr) (wv sv : List V) (ys : List Wy) (s0 : Nat → Int), σ' = [some (.ref r), some (nV l), some (.int T'), some (.ref wl), some (.ref sl), none, none, none, none, none] ∧ H' wl = some (.lst wv) ∧ All2 (PrAt H') wv (gYs hs ys) ∧ H' sl = some (.lst sv) ∧ All2 (StepAt H') sv (gSt hs ys l T') ∧ AllWays hs bs ys ∧ FA hs bs (some l) T' ∧ Rch hs bs (some l) T' s0 ∧ Same H H'
  let R2 : TS := fun D' σ' H' => D'.rt = Q ∧ ∃ (wl sl : Addr) (wv sv : List V) (ys : List Wy) (s0 : Nat → Int), σ' = [some (.ref r), some (nV l), some (.int T'), some (.ref wl), some (.ref sl), some (.int (baseW hs l)), none, none, none, none] ∧ H' wl = some (.lst wv) ∧ All2 (PrAt H') wv (gYs hs ys) ∧ H' sl = some (.lst sv) ∧ All2 (StepAt H') sv (gSt hs ys l T') ∧ AllWays hs bs ys ∧ FA hs bs (some l) T' ∧ Rch hs bs (some l) T' s0 ∧ Same H H'
  refine ⟨_, (pss_cons (ps_if (pt_cmpR op_eq (pe_ix (ix_tupK K rfl) (pe_call G_shifts_or_bar (hr.mono (by decide)) (by rfl) m_shifts_or_bar F_shifts_or_bar.kp b_shifts_or_bar .nil pass0 (pa_cons (pv 0) (pa_cons (pv 1) (pa_cons (pv 2) pa_nil)))) pe_int (fun _ _ => rfl)) pe_str (nomark _)) (pss_one (ps_ret pe_non)) pss_nil)
      (pss_cons (ps_asg (pe_call G_ground_steps (hr.mono (by decide)) (by rfl) m_ground_steps F_ground_steps.kp b_ground_steps .nil pass0 (pa_cons (pv 0) (pa_cons (pv 1) (pa_cons (pv 2) pa_nil)))) (pg_tupK K rfl rfl (pgs_cons (pg_name (i := 3) sc_soonest.nd rfl (Or.inr rfl)) (pgs_cons (pg_name (i := 4) sc_soonest.nd rfl (Or.inr rfl)) pgs_nil))))
      (PSs.to (pss_cons (ps_set (i := 5) sc_soonest.nd rfl (Or.inl rfl) (pe_ifExp (pt_truthK K rfl (pe_call G_doors_out (hr.mono (by decide)) (by rfl) m_doors_out F_doors_out.kp b_doors_out .nil pass0 (pa_cons (pv 0) pa_nil)) (by intro _; rfl)) (pv 1) pe_int))
      (PSs.to (pss_cons (ps_set (i := 6) sc_soonest.nd rfl (Or.inl rfl) pe_non)
      (pss_cons (ps_asg (pe_call G_levels_or_path (hr.mono (by decide)) (by rfl) m_levels_or_path F_levels_or_path.kp b_levels_or_path .nil pass0 (pa_cons (pv 0) (pa_cons (pv 4) (pa_cons (pv 5) pa_nil)))) (pg_tupK K rfl rfl (pgs_cons (pg_name (i := 7) sc_soonest.nd rfl (Or.inl rfl)) (pgs_cons (pg_name (i := 8) sc_soonest.nd rfl (Or.inl rfl)) pgs_nil))))
      (pss_cons (ps_while PassesOwn.never (pt_cmpR op_notN (pv 8) pe_non (nomark _))
        (pss_cons (ps_set (i := 6) sc_soonest.nd rfl (Or.inl rfl) (pe_callTy (call_tuple_ofK K rfl) (by rfl) T.m_tuple (by decide +kernel) (pa_cons (pe_lc (own := [("number", 9)]) (g := gName 9) (tt := tYes) (by rfl) sc_soonest.nd (pi_listK K rfl (pv 8)) (blkOk_by (own := [("number", 9)]) (N := N_soonest) (sc := defScope s_soonest) (by decide +kernel)) (fun _ _ _ _ _ => (pg_name (i := 9) sc_soonest.nd rfl (Or.inl rfl))) (fun _ _ _ _ _ => pts_nil) (fun _ _ _ _ _ => (pe_ix (ix_listK K rfl) (pv 3) (pv 9) (fun _ _ => rfl)))) pa_nil)))
      (pss_cons (ps_set (i := 5) sc_soonest.nd rfl (Or.inl rfl) (pe_callB (cr_sumK K rfl rfl) (by rfl) T.m_sum (by decide +kernel) (pa_cons (pe_lc (own := [("number", 9)]) (g := gName 9) (tt := tYes) (by rfl) sc_soonest.nd (pi_listK K rfl (pv 8)) (blkOk_by (own := [("number", 9)]) (N := N_soonest) (sc := defScope s_soonest) (by decide +kernel)) (fun _ _ _ _ _ => (pg_name (i := 9) sc_soonest.nd rfl (Or.inl rfl))) (fun _ _ _ _ _ => pts_nil) (fun _ _ _ _ _ => (pe_ix (ix_tupK K rfl) (pe_ix (ix_listK K rfl) (pv 4) (pv 9) (fun _ _ => rfl)) pe_int (fun _ _ => rfl)))) pa_nil)))
      (pss_one (ps_asg (pe_call G_levels_or_path (hr.mono (by decide)) (by rfl) m_levels_or_path F_levels_or_path.kp b_levels_or_path .nil pass0 (pa_cons (pv 0) (pa_cons (pv 4) (pa_cons (pv 5) pa_nil)))) (pg_tupK K rfl rfl (pgs_cons (pg_name (i := 7) sc_soonest.nd rfl (Or.inl rfl)) (pgs_cons (pg_name (i := 8) sc_soonest.nd rfl (Or.inl rfl)) pgs_nil))))))))
      (pss_one (ps_ret (pe_tup (pa_cons (pv 5) (pa_cons (pe_call G_ground_shifts (hr.mono (by decide)) (by rfl) m_ground_shifts F_ground_shifts.kp b_ground_shifts .nil pass0 (pa_cons (pv 0) (pa_cons (pv 1) (pa_cons (pv 7) pa_nil)))) (pa_cons (pv 6) pa_nil))))))))) R2 ?tail2)) R1 ?tail1))), ?_⟩
  case tail1 =>
    rintro D' σ' H1 ⟨eD, wl, sl, wv, sv, ys, s0, rfl, hwl, alw, hsl, als, aw, fa, rc, s1⟩
    refine ⟨_, rfl, r, hs, bs, rfl, hR.keep (TK.same s1), by omega, ok.good, fun ol H2 nol hol s2 => ?_⟩
    have k2 := TK.same s2
    have rest : ∀ x, baseW hs l = x → R2 D' [some (.ref r), some (nV l), some (.int T'), some (.ref wl), some (.ref sl), some (.int x), none, none, none, none] H2 := fun x e => by
      subst e
      exact ⟨eD, wl, sl, wv, sv, ys, s0, rfl, s2 _ _ hwl, alw.imp fun _ _ z => z.keep k2, s2 _ _ hsl, als.imp fun _ _ z => z.keep k2, aw, fa, rc, s1.trans s2⟩
    refine ⟨_, .inl ⟨_, SqL.of hol, rfl⟩, if_bl (fun c => ?_) (fun c => ?_)⟩
    · refine ⟨_, rfl, rest _ ?_⟩
      unfold baseW
      rw [if_neg fun z => by rw [z] at c; cases c]
    · refine rest _ ?_
      have e : doorsOf "out" hs = [] := by
        cases e : doorsOf "out" hs with
        | nil => rfl
        | cons a b => rw [e] at c; cases c
      unfold baseW
      rw [if_pos e]
  case tail2 =>
    rintro D' σ' H1 ⟨eD, wl, sl, wv, sv, ys, s0, rfl, hwl, alw, hsl, als, aw, fa, rc, s1⟩
    obtain ⟨W0, w0⟩ := Wait.ex s0 hs.length
    have lwv := alw.length
    have lsv := als.length
    have lst : (gSt hs ys l T').length ≤ 144 := by rw [List.length_map]; exact Nat.le_trans (List.length_filter_le ..) aw.few
    have fs : Feas (gSt hs ys l T') := ⟨_, ground_fits ok aw rc⟩
    have bd : ∀ s ∈ gSt hs ys l T', s.u < hs.length + 1 ∧ s.v < hs.length + 1 := fun s hs' => by
      obtain ⟨y, hy, rfl⟩ := List.mem_map.mp hs'
      have o := aw.ok y (gy_mem hy).1
      exact ⟨Nat.lt_succ_of_le (pl_le o.lt), Nat.lt_succ_of_le (pl_le (best_end ok o))⟩
    -- levels or a path, asked
    have ask : ∀ (M : Int) (H2 : Hp) (Q2 : VK), Same H1 H2 → (∀ (p : Addr) (x y : V) (H3 : Hp), H3 p = some (.tup [x, y]) → LpV hs.length (gSt hs ys l T') M H3 x y → Same H2 H3 → Q2 (.ref p) H3) → sp_levels_or_path K [.ref r, .ref sl, .int M] H2 Q2 E0 := fun M H2 Q2 s2 q => by
      refine ⟨r, sl, hs, bs, gSt hs ys l T', M, rfl, hR.keep (TK.same (s1.trans s2)), ok, ⟨_, s2 _ _ hsl, als.imp fun _ _ z => z.keep (TK.same s2)⟩, bd, lst, fs, fun p ll lv H3 hp hll f cp s3 => ?_, fun p rl ks H3 hp hrl po s3 => ?_⟩
      · exact q p _ _ H3 hp (.inl ⟨ll, lv, rfl, rfl, hll, f, cp⟩) s3
      · exact q p _ _ H3 hp (.inr ⟨rl, ks, rfl, rfl, hrl, po⟩) s3
    refine ⟨_, rfl, _, rfl, _, rfl, ?_⟩
    dsimp only [tNil]
    refine ask _ _ _ (fun _ _ e => e) fun p x y H2 hp lp s2 => ?_
    refine ⟨p, _, rfl, SqT.of hp, rfl, _, _, rfl, _, _, rfl, rfl, ?_⟩
    refine ⟨fun m σ H3 => ∃ (M : Int) (wk x y : V), σ = sg wl sl M wk (some x) (some y) ∧ LpV hs.length (gSt hs ys l T') M H3 x y ∧ WkV hs bs l T' M H3 wk ∧ baseW hs l ≤ M ∧ (∀ sh' W, Rch hs bs (some l) T' sh' → Wait hs.length sh' W → M ≤ W) ∧ m = (W0 - M).toNat ∧ Same H1 H3, ⟨_, baseW hs l, .non, x, y, rfl, lp, .inl ⟨rfl, rfl⟩, Int.le_refl _, fun sh' W r' w' => base_le r' w', rfl, s2⟩, ?_⟩
    rintro m σ H3 ⟨M, wk, x, y, rfl, lp, wv1, bM, low, rfl, s3⟩
    have s13 := s1.trans s3
    rcases lp with ⟨ll, lv, rfl, rfl, hll, f, cp⟩ | ⟨rl, ks, rfl, rfl, hrl, po⟩
    · refine ⟨_, rfl, rfl, _, rfl, if_bl (fun z => nomatch z) (fun _ => ?_)⟩
      refine ⟨_, rfl, _, rfl, _, rfl, _, rfl, r, ll, hs, bs, l, lv, rfl, hR.keep (TK.same s13), ok, hll, fun p2 H4 hp2 s4 => ?_⟩
      refine ⟨_, rfl, (by show 3 ≤ sizeLine; decide), fun p3 np3 => ?_⟩
      have s5 := same_new (o := .tup [V.int M, V.ref p2, wk]) np3
      have rs := ground_rch ok aw rc f
      have le : ∀ k, k < hs.length → shL hs l lv k ≤ M := fun k hk => by
        have nn := base_nn (hs := hs) (l := l)
        by_cases a : k ∈ doorsOf "in" hs
        · rw [rs.ins k a]; omega
        · by_cases b : k ∈ doorsOf "out" hs
          · obtain ⟨to, o1, o2, _⟩ := rs.outs
            rw [o1 k b, o2 l rfl]
            have : baseW hs l = ((l : Nat) : Int) := by unfold baseW; rw [if_neg fun z => by rw [z] at b; cases b]
            omega
          · unfold shL
            rw [pl_hand a b, ab_no b]
            have := cp k hk
            omega
      have wt : Wait hs.length (shL hs l lv) M := by
        obtain ⟨W', w'⟩ := Wait.ex (shL hs l lv) hs.length
        have h1 := low _ _ rs w'
        have h2 : W' ≤ M := by
          rcases w'.at_ with z | ⟨k, kl, z⟩
          · have := base_nn (hs := hs) (l := l); omega
          · rw [← z]; exact le k kl
        have : M = W' := Int.le_antisymm h1 h2
        rw [this]
        exact w'
      rw [eD]
      exact q2 p3 p2 _ M wk _ upd_same (s5 _ _ hp2) fa rs wt low (wv1.keep ((TK.same s4).trans (TK.same s5))) ((s13.trans s4).trans s5)
    · refine ⟨_, rfl, rfl, _, rfl, if_bl (fun _ => ?_) (fun z => nomatch z)⟩
      refine ⟨_, fun σ' H' h => h, ?_⟩
      obtain ⟨fy, fw, efw, walk⟩ := path_walk ok aw po
      have lks : ks.length ≤ 12 := Nat.le_trans po.ln lh
      refine ⟨_, rfl, rl, rfl, ⟨_, SqL.of hrl⟩, fun D nD => lc_list (K := K) (a := rl) (xs := ks.map nV) (fun i H5 => ∃ qv : List V, H5 D = some (.lst qv) ∧ All2 (PrAt H5) qv (waysOf (gYs hs ys) (ks.take i)) ∧ Same H3 H5) ⟨[], upd_same, .nil, same_new nD⟩ (fun i H5 _ ⟨_, _, _, s5⟩ => SqL.of (s5 _ _ hrl)) ?_ ?_⟩
      · rintro i v H5 hx ⟨qv, hD, al, s5⟩
        obtain ⟨k, ek, rfl⟩ := nats_at hx
        have il := (List.getElem?_eq_some_iff.mp ek).1
        have kl := po.lt k (List.mem_of_getElem? ek)
        rw [List.length_map] at kl
        have ey : (gYs hs ys)[k]? = some (gYs hs ys)[k] := List.getElem?_eq_getElem kl
        obtain ⟨x, ex, px⟩ := alw.get ey
        have lqv := al.length
        have lw := waysOf_len (ys := gYs hs ys) (ks := ks.take i)
        rw [List.length_take] at lw
        refine ⟨rfl, yes_in ⟨_, rfl, _, rfl, wl, _, _, _, rfl, rfl, SqL.of (s5 _ _ (s3 _ _ hwl)), atI_nat ex, _, hD, small1000 (by omega), qv ++ [x], upd_same, ?_, Same.own s5 nD⟩⟩
        rw [waysOf_take ek, ey]
        exact (al.snoc (px.keep (TK.same (s3.trans s5)))).imp fun _ _ z => z.keep (TK.lst hD)
      rintro H4 ⟨qv, hD, al, s4⟩
      rw [List.length_map, List.take_length] at al
      refine ⟨D, _, rfl, .inl ⟨SqL.of hD, fun wk2 nwk2 => ?_⟩⟩
      have s5 := s4.trans (same_new (o := .tup qv) nwk2)
      have hwk2 : (upd H4 wk2 (.tup qv)) wk2 = some (.tup qv) := upd_same
      have al5 := al.imp fun _ _ z => z.keep (TK.same (same_new (o := .tup qv) nwk2))
      generalize upd H4 wk2 (.tup qv) = H5 at s5 hwk2 al5 ⊢
      refine ⟨_, rfl, rl, rfl, ⟨_, SqL.of (s5 _ _ hrl)⟩, fun D2 nD2 => lc_list (K := K) (a := rl) (xs := ks.map nV) (fun i H6 => H6 D2 = some (.lst (((ks.take i).map (wS (gSt hs ys l T'))).map V.int)) ∧ Same H5 H6) ⟨upd_same, same_new nD2⟩ (fun i H6 _ ⟨_, s6⟩ => SqL.of (s6 _ _ (s5 _ _ hrl))) ?_ ?_⟩
      · rintro i v H6 hx ⟨hD2, s6⟩
        obtain ⟨k, ek, rfl⟩ := nats_at hx
        have il := (List.getElem?_eq_some_iff.mp ek).1
        have kl := po.lt k (List.mem_of_getElem? ek)
        have es : (gSt hs ys l T')[k]? = some (gSt hs ys l T')[k] := List.getElem?_eq_getElem kl
        obtain ⟨x, ex, ⟨t, rfl, ht⟩⟩ := als.get es
        have s16 := (s3.trans s5).trans s6
        refine ⟨rfl, yes_in ⟨_, rfl, _, rfl, sl, _, _, _, rfl, rfl, SqL.of (s16 _ _ hsl), atI_nat ex, t, _, _, _, rfl, rfl, SqT.of (s16 _ _ ht), atI_nat (j := 2) rfl, _, hD2, by rw [List.length_map, List.length_map, List.length_take]; exact small1000 (by omega), ?_, Same.own s6 nD2⟩⟩
        rw [upd_same, List.take_add_one, ek, List.map_append, List.map_append]
        show _ = some (HO.lst (_ ++ [V.int (wS (gSt hs ys l T') k)]))
        rw [wS_some es]
      rintro H6 ⟨hD2, s6⟩
      rw [List.length_map, List.take_length] at hD2
      refine ⟨D2, _, rfl, SqL.of hD2, ?_⟩
      have s36 := s5.trans s6
      have sum_gt := po.gt
      have lowN : ∀ sh' W, Rch hs bs (some l) T' sh' → Wait hs.length sh' W → (ks.map (wS (gSt hs ys l T'))).sum ≤ W := fun sh' W r' w' => path_low ok aw po r' w'.nn w'.le
      generalize (ks.map (wS (gSt hs ys l T'))).sum = M' at sum_gt lowN walk
      refine ⟨_, rfl, _, rfl, _, rfl, ?_⟩
      dsimp only [tNil]
      refine ask _ _ _ (s3.trans s36) fun p x y H7 hp lp s7 => ?_
      refine ⟨p, _, rfl, SqT.of hp, rfl, _, _, rfl, _, _, rfl, rfl, ?_⟩
      have M0 := lowN _ _ rc w0
      refine ⟨_, ?_, M', .ref wk2, x, y, rfl, lp, .inr ⟨by omega, wk2, qv, fy, fw, rfl, s7 _ _ (s6 _ _ hwk2), ?_, ?_, walk⟩, by omega, lowN, rfl, (s3.trans s36).trans s7⟩
      · omega
      · rw [← efw]
        exact al5.imp fun _ _ z => z.keep (TK.same (s6.trans s7))
      · have := waysOf_len (ys := gYs hs ys) (ks := ks)
        rw [efw] at this
        have := po.ln
        simp only [List.length_cons] at *
        omega
  refine ⟨_, rfl, _, rfl, _, rfl, r, hs, bs, some l, T', rfl, hR, ok, pos, fun p H1 tl s1 => ?_⟩
  rcases tl with ⟨p', sh, h1, h2, sf⟩ | ⟨p', pv, ws, h1, h2, h3, h4, h5, nf⟩
  · refine ⟨p, _, _, _, rfl, rfl, SqT.of h1, atI_nat (j := 0) rfl, rfl, _, rfl, if_bl (fun z => ?_) (fun _ => ?_)⟩
    · exact absurd (V.str.inj (of_decide_eq_true z)) (by decide +kernel)
    refine ⟨_, rfl, _, rfl, _, rfl, r, hs, bs, l, T', rfl, hR.keep (TK.same s1), ok, fun p2 wl sl wv sv ys H2 hp2 hwl alw hsl als aw s2 => ?_⟩
    refine ⟨p2, _, rfl, SqT.of hp2, rfl, _, _, rfl, _, _, rfl, rfl, ?_⟩
    exact ⟨rfl, wl, sl, wv, sv, ys, sh, rfl, hwl, alw, hsl, als, aw, sf.fa, sf.rch ok, s1.trans s2⟩
  · refine ⟨p, _, _, _, rfl, rfl, SqT.of h1, atI_nat (j := 0) rfl, rfl, _, rfl, if_bl (fun _ => ?_) (fun z => ?_)⟩
    · exact q1 H1 nf s1
    · exact absurd rfl (of_decide_eq_false z)
end
section
variable {P : Program} {w : World} {K : PySem.W.Frag} {mg : Str → Option Value} {base : Heap}
def sp_law_time_of (K : PySem.W.Frag) : Sp := fun vs H Q _ => ∃ (r tl : Addr) (hs : List HR) (bs : List BR) (sh : Nat → Int), vs = [.ref r, .ref tl] ∧ RoomAt H r hs bs ∧ RoomOk hs bs ∧ H tl = some (.lst (bs.map fun b => V.int (trS sh b))) ∧
  ∀ (T : Int) (H' : Hp), 0 ≤ T → (∀ T', 0 ≤ T' → (∀ k x, Vl hs bs sh k x → x ≤ T') → T ≤ T') → T ≤ 7230 → Same H H' → Q (.int T) H'
theorem ok_law_time_of {f : Addr} {fd : FuncData} (F : Fun K "_law_time_of" "_law_time_of" s_law_time_of f fd) (T : Top K mg) : FnOk P w K mg base CX0 1 f fd ["_law_room_here", "_law_trays"] (sp_law_time_of K) := by
  refine F.ok sc_law_time_of (fun vs H Q E h => ?_) (fun cdv A outer s H vs Q E hr h => ?_)
  · obtain ⟨r, tl, hs, bs, sh, rfl, _⟩ := h
    rfl
  obtain ⟨r, tl, hs, bs, sh, rfl, hR, ok, htl, q⟩ := h
  obtain ⟨ha, ba, hv, bv, er, eh, eb, alh, alb⟩ := hR.ex
  have lhv := alh.length
  have lbv := alb.length
  have lh := ok.hands
  have lbm := ok.many
  have mom30 : ∀ k, momH hs k ≤ 30 := fun k => by
    unfold momH
    cases e : hs[k]? with
    | none => decide
    | some h => exact (ok.good h (List.mem_of_getElem? e)).2.2
  refine ⟨_, (pss_cons (ps_asg (pv 0) (pg_tupK K rfl rfl (pgs_cons (pg_name (i := 2) sc_law_time_of.nd rfl (Or.inl rfl)) (pgs_cons (pg_name (i := 3) sc_law_time_of.nd rfl (Or.inl rfl)) pgs_nil))))
      (pss_cons (ps_setLc (i := 4) (own := [("_law_hand", 5)]) (g := gName 5) (tt := tYes) (by rfl) sc_law_time_of.nd rfl rfl (sw_true rfl rfl rfl (by decide +kernel)) (pi_tupK K rfl (pv 2)) (blkOk_by (own := [("_law_hand", 5)]) (N := N_law_time_of) (sc := defScope s_law_time_of) (by decide +kernel)) (fun _ _ _ _ _ => (pg_name (i := 5) sc_law_time_of.nd rfl (Or.inl rfl))) (fun _ _ _ _ _ => pts_nil) (fun _ _ _ _ _ => (pe_ix (ix_tupK K rfl) (pv 5) pe_int (fun _ _ => rfl))))
      (pss_cons (ps_for PassesOwn.never rfl (pi_range1 (by rfl) T.m_range (pa_cons (pe_callB (call_len_seqK K rfl) (by rfl) T.m_len (by decide +kernel) (pa_cons (pv 2) pa_nil)) pa_nil)) (pg_name (i := 6) sc_law_time_of.nd rfl (Or.inl rfl))
        (pss_one (ps_for PassesOwn.never rfl (pi_zipTL K rfl (by rfl) T.m_zip (pa_cons (pv 3) (pa_cons (pv 1) pa_nil))) (pg_tupK K rfl rfl (pgs_cons (pg_name (i := 7) sc_law_time_of.nd rfl (Or.inl rfl)) (pgs_cons (pg_name (i := 8) sc_law_time_of.nd rfl (Or.inl rfl)) pgs_nil)))
        (pss_one (ps_if (pt_cmpR op_eq (pv 8) pe_int (nomark _)) (pss_one (ps_asg (pe_callB (call_max2 rfl) (by rfl) T.m_max (by decide +kernel) (pa_cons (pe_ix (ix_listK K rfl) (pv 4) (pe_ix (ix_tupK K rfl) (pv 7) pe_int (fun _ _ => rfl)) (fun _ _ => rfl)) (pa_cons (pe_op op_add (pe_ix (ix_listK K rfl) (pv 4) (pe_ix (ix_tupK K rfl) (pv 7) pe_int (fun _ _ => rfl)) (fun _ _ => rfl)) (pe_ix (ix_tupK K rfl) (pe_ix (ix_tupK K rfl) (pv 2) (pe_ix (ix_tupK K rfl) (pv 7) pe_int (fun _ _ => rfl)) (fun _ _ => rfl)) pe_int (fun _ _ => rfl))) pa_nil))) (pg_sub (pv 4) (pe_ix (ix_tupK K rfl) (pv 7) pe_int (fun _ _ => rfl)) set_list))) pss_nil)))))
      (pss_one (ps_ret (pe_callB (cr_maxKK K rfl rfl) (by rfl) T.m_max (by decide +kernel) (pa_cons (pe_op op_cat (pe_lst (pa_cons pe_int pa_nil)) (pv 4)) pa_nil))))))), ?_⟩
  refine ⟨_, rfl, r, _, rfl, SqT.of er, rfl, _, _, rfl, _, _, rfl, rfl, ?_⟩
  refine ⟨_, rfl, ha, rfl, ⟨_, SqT.of eh⟩, fun D nD => lc_tup (K := K) (a := ha) (xs := hv) (fun i H5 => H5 D = some (.lst ((List.range i).map fun k => V.int (momH hs k))) ∧ Same H H5) ⟨upd_same, same_new nD⟩ (fun i H5 _ ⟨_, s5⟩ => SqT.of (s5 _ _ eh)) ?_ ?_⟩
  · rintro i x H5 hx ⟨hD, s5⟩
    obtain ⟨h, ehi, ⟨t, rr, rfl, e1, e2⟩⟩ := alh.getL hx
    have il := (List.getElem?_eq_some_iff.mp ehi).1
    have mom : momH hs i = h.mom := by unfold momH; rw [ehi]
    refine ⟨rfl, yes_in ⟨_, rfl, t, _, _, _, rfl, rfl, SqT.of (s5 _ _ e1), atI_nat (j := 1) rfl, _, hD, by rw [List.length_map, List.length_range]; exact small1000 (by omega), ?_, Same.own s5 nD⟩⟩
    rw [upd_same, List.range_succ, List.map_append, List.map_cons, List.map_nil, mom]
  rintro H1 ⟨hD, s1⟩
  have AT : ∀ (tf : Nat → Int) (j : Nat), j < hs.length → ((List.range hs.length).map fun k => V.int (tf k))[j]? = some (V.int (tf j)) := fun tf j hj => by
    rw [List.getElem?_map, List.getElem?_range hj]; rfl
  have tlD : tl ≠ D := ne_of_none htl nD
  rw [lhv] at hD
  refine ⟨_, rfl, ha, _, rfl, .inr (SqT.of (s1 _ _ eh)), _, rfl, by omega, by omega, for_range (lo := 0) (n := hv.length) (fun i σ H2 => ∃ (v5 v6 v7 v8 : Option V) (tf : Nat → Int), σ = [some (.ref r), some (.ref tl), some (.ref ha), some (.ref ba), some (.ref D), v5, v6, v7, v8] ∧ H2 D = some (.lst (levL hs.length tf)) ∧ (∀ k, k < hs.length → Vl hs bs sh k (tf k) ∧ tf k ≤ 30 * (1 + 20 * ((i : Nat) : Int))) ∧ Same H H2)
    ⟨_, _, _, _, _, rfl, hD, fun k hk => ⟨Vl.nil hk, by have := mom30 k; omega⟩, s1⟩ ?_ ?_⟩
  · rintro i σ H2 hi ⟨v5, v6, v7, v8, tf, rfl, hD, hv0, s⟩
    refine ⟨_, rfl, _, rfl, ba, tl, bv, _, rfl, SqT.of (s _ _ eb), SqL.of (s _ _ htl), for_it (n := bs.length) (fun j σ H3 => ∃ (v5 v6 v7 v8 : Option V) (tf : Nat → Int), σ = [some (.ref r), some (.ref tl), some (.ref ha), some (.ref ba), some (.ref D), v5, v6, v7, v8] ∧ H3 D = some (.lst (levL hs.length tf)) ∧ (∀ k, k < hs.length → Vl hs bs sh k (tf k) ∧ tf k ≤ 30 * (1 + 20 * ((i : Nat) : Int) + ((j : Nat) : Int))) ∧ Same H H3)
      ⟨_, _, _, _, tf, rfl, hD, fun k hk => ⟨(hv0 k hk).1, by have := (hv0 k hk).2; omega⟩, s⟩ (fun j σ H3 hj ⟨_, _, _, _, _, _, _, _, s⟩ => ⟨SqT.of (s _ _ eb), SqL.of (s _ _ htl), by omega, by rw [List.length_map]; exact hj⟩) (fun σ H3 ⟨_, _, _, _, _, _, _, _, s⟩ => ⟨SqT.of (s _ _ eb), SqL.of (s _ _ htl), by omega, by rw [List.length_map]; exact Nat.le_refl _, .inl (by omega)⟩) ?_ ?_⟩
    · rintro j x σ H3 H4 hj ⟨v5, v6, v7, v8, tf, rfl, hD, hv1, s⟩ ⟨T, x1, y1, rfl, nT, rfl, hx1, hy1⟩
      obtain ⟨b, ebj, ⟨t2, g, rfl, e1, e2⟩⟩ := alb.getL hx1
      have hb := List.mem_of_getElem? ebj
      have ob := (ok.ends b hb).1
      have tb := (ok.ends b hb).2
      obtain rfl : y1 = V.int (trS sh b) := by
        rw [List.getElem?_map, ebj] at hy1
        exact (Option.some.inj hy1).symm
      have s4 := s.trans (same_new (o := .tup [V.ref t2, V.int (trS sh b)]) nT)
      have hD4 := same_new (o := .tup [V.ref t2, V.int (trS sh b)]) nT _ _ hD
      refine ⟨T, _, rfl, SqT.of upd_same, rfl, _, _, rfl, _, _, rfl, rfl, _, rfl, rfl, _, rfl, if_bl (fun c => ?_) (fun c => ?_)⟩
      · have c : trS sh b = 0 := V.int.inj (of_decide_eq_true c)
        have eht : hs[b.to]? = some hs[b.to] := List.getElem?_eq_getElem tb
        have mom2 : momH hs b.to = hs[b.to].mom := by unfold momH; rw [eht]
        obtain ⟨x3, ex3, ⟨t3, r3, rfl, e31, e32⟩⟩ := alh.get eht
        refine ⟨_, rfl, _, rfl, t2, _, _, _, rfl, rfl, SqT.of (s4 _ _ e1), atI_nat (j := 1) rfl, D, _, _, _, rfl, rfl, SqL.of hD4, atI_nat (AT tf b.to tb), ?_⟩
        refine ⟨_, rfl, _, rfl, t2, _, _, _, rfl, rfl, SqT.of (s4 _ _ e1), atI_nat (j := 0) rfl, D, _, _, _, rfl, rfl, SqL.of hD4, atI_nat (AT tf b.one ob), ?_⟩
        refine ⟨_, rfl, _, rfl, t2, _, _, _, rfl, rfl, SqT.of (s4 _ _ e1), atI_nat (j := 1) rfl, ha, _, _, _, rfl, rfl, SqT.of (s4 _ _ eh), atI_nat ex3, t3, _, _, _, rfl, rfl, SqT.of (s4 _ _ e31), atI_nat (j := 1) rfl, _, _, rfl, rfl, ?_⟩
        refine ⟨_, _, rfl, ?_⟩
        refine ⟨_, rfl, _, rfl, t2, _, _, _, rfl, rfl, SqT.of (s4 _ _ e1), atI_nat (j := 1) rfl, D, _, _, b.to, rfl, rfl, hD4, ixN_nat (by rw [List.length_map, List.length_range]; exact tb), ?_⟩
        refine ⟨_, _, _, _, _, rfl, by rw [upd_same, lev_set tb], fun k hk => ?_, Same.own s4 nD⟩
        by_cases e : k = b.to
        · rw [if_pos e, e]
          have g1 := hv1 _ tb
          have g2 := Vl.go hb c (hv1 _ ob).1
          have g3 := (hv1 _ ob).2
          have g4 := mom30 b.to
          rw [mom2] at g2 g4
          show Vl hs bs sh b.to (if _ then _ else _) ∧ (if _ then _ else _) ≤ _
          split
          · exact ⟨g2, Int.le_trans (Int.add_le_add g3 g4) (by omega)⟩
          · exact ⟨g1.1, by have := g1.2; omega⟩
        · rw [if_neg e]
          exact ⟨(hv1 k hk).1, by have := (hv1 k hk).2; omega⟩
      · exact ⟨_, _, _, _, tf, rfl, hD4, fun k hk => ⟨(hv1 k hk).1, by have := (hv1 k hk).2; omega⟩, s4⟩
    · rintro σ H3 ⟨v5, v6, v7, v8, tf, rfl, hD, hv1, s⟩
      exact ⟨_, _, _, _, tf, rfl, hD, fun k hk => ⟨(hv1 k hk).1, by have := (hv1 k hk).2; omega⟩, s⟩
  · rintro σ H2 ⟨v5, v6, v7, v8, tf, rfl, hD, hv1, s⟩
    refine ⟨(by show 1 ≤ sizeLine; decide), fun l nl => ?_⟩
    have s3 := s.trans (same_new (o := .lst [V.int 0]) nl)
    have hD3 := same_new (o := .lst [V.int 0]) nl _ _ hD
    refine ⟨_, rfl, l, D, _, _, rfl, rfl, upd_same, hD3, by show 1 + ((List.range hs.length).map fun k => V.int (tf k)).length ≤ sizeLine; rw [List.length_map, List.length_range]; exact little (by omega), fun p np => ?_⟩
    refine ⟨p, 0 :: (List.range hs.length).map tf, rfl, SqL.of ?_, by simp, fun m hm hle => ?_⟩
    · rw [upd_same, List.map_cons, List.map_map]
      rfl
    · refine q m _ (hle 0 (List.mem_cons_self ..)) ?_ ?_ (s3.trans (same_new np))
      · intro T' T0 vl
        rcases List.mem_cons.mp hm with rfl | hm
        · exact T0
        · obtain ⟨k, hk, rfl⟩ := List.mem_map.mp hm
          exact vl k _ (hv1 k (List.mem_range.mp hk)).1
      · rcases List.mem_cons.mp hm with rfl | hm
        · decide
        · obtain ⟨k, hk, rfl⟩ := List.mem_map.mp hm
          have := (hv1 k (List.mem_range.mp hk)).2
          omega
end
/-- a room with other trays: each way has as many more as its ends tell -/
structure Other (bs gs : List BR) (M : Nat → Int) : Prop where
  len : gs.length = bs.length
  one : ∀ (n : Nat) (b : BR), bs[n]? = some b → ∃ g : BR, gs[n]? = some g ∧ g.one = b.one ∧ g.to = b.to ∧ (g.th.length : Int) = (b.th.length : Int) + (M b.to - M b.one)
theorem Other.miss {bs gs : List BR} {M : Nat → Int} (o : Other bs gs M) {n : Nat} (h : bs[n]? = none) : gs[n]? = none := by
  rw [List.getElem?_eq_none_iff] at *
  have := o.len
  omega
theorem Other.end {bs gs : List BR} {M : Nat → Int} (o : Other bs gs M) : ∀ {ns : List Nat} {k : Nat}, wayEnd gs k ns = wayEnd bs k ns
  | [], k => rfl
  | n :: ns, k => by
    cases e : bs[n]? with
    | none =>
      rw [wayEnd_none e, wayEnd_none (o.miss e)]
    | some b =>
      obtain ⟨g, e1, e2, e3, _⟩ := o.one n b e
      rw [wayEnd_cons e, wayEnd_cons e1, e2, e3, o.end]
theorem Other.trays {bs gs : List BR} {M : Nat → Int} (o : Other bs gs M) : ∀ {ns : List Nat} {k e : Nat}, wayEnd bs k ns = some e → (ns.map (trB gs)).sum = (ns.map (trB bs)).sum + (M e - M k)
  | [], k, e, h => by
    cases h
    show (0 : Int) = 0 + (M k - M k)
    omega
  | n :: ns, k, e, h => by
    cases eb : bs[n]? with
    | none =>
      rw [wayEnd_none eb] at h; cases h
    | some b =>
      obtain ⟨g, e1, e2, e3, e4⟩ := o.one n b eb
      rw [wayEnd_cons eb] at h
      by_cases z : b.one = k
      · rw [if_pos z] at h
        have ih := o.trays h
        have h1 : trB bs n = (b.th.length : Int) := by unfold trB; rw [eb]
        have h2 : trB gs n = (g.th.length : Int) := by unfold trB; rw [e1]
        rw [List.map_cons, List.sum_cons, List.map_cons, List.sum_cons, ih, h1, h2, e4, ← z]
        omega
      · rw [if_neg z] at h; cases h
theorem Other.moms {hs : List HR} {bs gs : List BR} {M : Nat → Int} (o : Other bs gs M) {k : Nat} {ns : List Nat} : momW hs gs k ns = momW hs bs k ns := by
  unfold momW
  refine congrArg (fun z => momH hs k + z) (congrArg List.sum (List.map_congr_left fun n _ => ?_))
  unfold toB
  cases e : bs[n]? with
  | none => rw [o.miss e]
  | some b =>
    obtain ⟨g, e1, e2, e3, e4⟩ := o.one n b e
    rw [e1]
    show momH hs g.to = momH hs b.to
    rw [e3]
theorem Other.wl {hs : List HR} {bs gs : List BR} {M : Nat → Int} {T : Int} {lv lv' : Nat → Int} (o : Other bs gs M) (e : ∀ k, lv' k = lv k + M k) : Wl hs gs T lv ↔ Wl hs bs T lv' := by
  have key : ∀ one ns d, wayEnd bs one ns = some d → (lv one + (ndd (wayCo hs gs one ns).2 T - (wayCo hs gs one ns).1) ≤ lv d ↔ lv' one + (ndd (wayCo hs bs one ns).2 T - (wayCo hs bs one ns).1) ≤ lv' d) := fun one ns d h => by
    show lv one + (ndd (momW hs gs one ns) T - (ns.map (trB gs)).sum) ≤ lv d ↔ lv' one + (ndd (momW hs bs one ns) T - (ns.map (trB bs)).sum) ≤ lv' d
    rw [o.trays h, o.moms, e, e]
    omega
  constructor
  · intro f one ns d ho h
    exact (key one ns d h).mp (f one ns d ho (by rw [o.end]; exact h))
  · intro f one ns d ho h
    rw [o.end] at h
    exact (key one ns d h).mpr (f one ns d ho h)
structure Doors (hs : List HR) (M : Nat → Int) (m : Nat) : Prop where
  ins : ∀ k ∈ doorsOf "in" hs, M k = 0
  outs : ∀ k ∈ doorsOf "out" hs, M k = ((m : Nat) : Int)
theorem Doors.dl {hs : List HR} {M : Nat → Int} {m : Nat} {late : Option Nat} {lv lv' : Nat → Int} (D : Doors hs M m) (e : ∀ k, lv' k = lv k + M k) : Dl hs late lv ↔ Dl hs (late.map (· + m)) lv' := by
  constructor
  · intro f l el d hd o ho
    cases late with
    | none => cases el
    | some l0 =>
      obtain rfl : l0 + m = l := Option.some.inj el
      have := f l0 rfl d hd o ho
      have := D.ins o ho
      have := D.outs d hd
      rw [e, e]
      omega
  · intro f l el d hd o ho
    subst el
    have := D.ins o ho
    have := D.outs d hd
    have := f (l + m) rfl d hd o ho
    rw [e, e] at this
    omega
theorem fa_other {hs : List HR} {bs gs : List BR} {M : Nat → Int} {m : Nat} {late : Option Nat} {T : Int} (ok : RoomOk hs bs) (okg : RoomOk hs gs) (o : Other bs gs M) (D : Doors hs M m) : FA hs gs late T ↔ FA hs bs (late.map (· + m)) T := by
  constructor
  · rintro ⟨lv, f⟩
    have f := (fal_iff okg).mp f
    exact ⟨fun k => lv k + M k, (fal_iff ok).mpr ⟨(o.wl fun _ => rfl).mp f.1, (D.dl fun _ => rfl).mp f.2⟩⟩
  · rintro ⟨lv, f⟩
    have f := (fal_iff ok).mp f
    exact ⟨fun k => lv k - M k, (fal_iff okg).mpr ⟨(o.wl fun k => by show lv k = lv k - M k + M k; omega).mpr f.1, (D.dl fun k => by show lv k = lv k - M k + M k; omega).mpr f.2⟩⟩
theorem Least.one {hs : List HR} {bs gs : List BR} {a b : Option Nat} {T T' : Int} (x : Least hs bs a T) (y : Least hs gs b T') (h : ∀ t, FA hs bs a t ↔ FA hs gs b t) : T = T' := by
  have h1 : ¬ T < T' := fun l => y.no T x.nn l ((h T).mp x.fa)
  have h2 : ¬ T' < T := fun l => x.no T' y.nn l ((h T').mpr y.fa)
  omega
theorem Rch.other {hs : List HR} {bs gs : List BR} {M : Nat → Int} {m l : Nat} {T : Int} {sh sh' : Nat → Int} (o : Other bs gs M) (D : Doors hs M m) (r : Rch hs gs (some l) T sh) (e : ∀ k, sh' k = sh k + M k) : Rch hs bs (some (l + m)) T sh' := by
  obtain ⟨to, o1, o2, _⟩ := r.outs
  refine ⟨fun k hk => by rw [e, r.ins k hk, D.ins k hk]; rfl, ⟨((l + m : Nat) : Int), fun k hk => by rw [e, o1 k hk, o2 l rfl, D.outs k hk]; omega, fun l' el => by cases el; rfl, fun z => nomatch z⟩, (o.wl e).mp r.ways⟩
/-! ### the moved room -/
theorem mov_th {sh : Nat → Int} {w : Int} {ms : List (List Int)} {b : BR} : (movB sh w ms b).th.length = (trS sh b).toNat := by
  unfold movB
  rw [List.length_map, List.length_range]
theorem mov_other {bs : List BR} {sh : Nat → Int} {w : Int} {ms : List (List Int)} (tr : ∀ b ∈ bs, 0 ≤ trS sh b) : Other bs (bs.map (movB sh w ms)) sh := by
  refine ⟨List.length_map _, fun n b e => ⟨movB sh w ms b, by rw [List.getElem?_map, e]; rfl, rfl, rfl, ?_⟩⟩
  rw [mov_th]
  have := tr b (List.mem_of_getElem? e)
  have d : trS sh b = (b.th.length : Int) + sh b.to - sh b.one := rfl
  omega
theorem rk_bound (rk : Nat → Int) : ∀ n : Nat, ∃ B : Int, 0 ≤ B ∧ ∀ i, i < n → -B ≤ rk i ∧ rk i ≤ B
  | 0 => ⟨0, by omega, fun i h => by omega⟩
  | n + 1 => by
    obtain ⟨B, b0, h⟩ := rk_bound rk n
    refine ⟨B + (if rk n < 0 then -rk n else rk n), by split <;> omega, fun i hi => ?_⟩
    by_cases e : i = n
    · rw [e]; split <;> omega
    · have := h i (by omega)
      split <;> omega
theorem mov_ok {hs : List HR} {bs : List BR} {sh : Nat → Int} {w : Int} {ms : List (List Int)} {N : Int} (ok : RoomOk hs bs) (tr : ∀ b ∈ bs, 0 ≤ trS sh b) (bd : Bd N sh) (n6 : ∀ b ∈ bs, (b.th.length : Int) + 2 * N ≤ 300) : RoomOk hs (bs.map (movB sh w ms)) := by
  have mem : ∀ {c : BR}, c ∈ bs.map (movB sh w ms) → ∃ b ∈ bs, c.one = b.one ∧ c.to = b.to ∧ c.th.length = (trS sh b).toNat := fun hc => by
    obtain ⟨b, hb, rfl⟩ := List.mem_map.mp hc
    exact ⟨b, hb, rfl, rfl, mov_th⟩
  refine ⟨ok.hands, ok.good, fun c hc => ?_, fun c hc h e => ?_, fun c hc => ?_, ?_, fun k h e => ?_, by rw [List.length_map]; exact ok.many⟩
  · obtain ⟨b, hb, e1, e2, _⟩ := mem hc
    rw [e1, e2]; exact ok.ends b hb
  · obtain ⟨b, hb, e1, e2, _⟩ := mem hc
    exact ok.out b hb h (by rw [← e1]; exact e)
  · obtain ⟨b, hb, e1, e2, e3⟩ := mem hc
    refine ⟨?_, trivial⟩
    have d : trS sh b = (b.th.length : Int) + sh b.to - sh b.one := rfl
    have := bd b.to
    have := bd b.one
    have := n6 b hb
    omega
  · obtain ⟨rk, hrk⟩ := ok.rank
    obtain ⟨B, b0, hB⟩ := rk_bound rk hs.length
    refine ⟨fun k => rk k - sh k * (2 * B + 1), fun c hc en => ?_⟩
    obtain ⟨b, hb, e1, e2, e3⟩ := mem hc
    rw [en] at e3
    have e3 : (trS sh b).toNat = 0 := e3.symm
    have t0 := tr b hb
    have d : trS sh b = (b.th.length : Int) + sh b.to - sh b.one := rfl
    obtain ⟨l1, l2⟩ := ok.ends b hb
    have h1 := hB _ l1
    have h2 := hB _ l2
    rw [e1, e2]
    show rk b.one - sh b.one * (2 * B + 1) < rk b.to - sh b.to * (2 * B + 1)
    have es : sh b.one = sh b.to + (b.th.length : Int) := by omega
    rw [es, Int.add_mul]
    cases eth : b.th with
    | nil =>
      have := hrk b hb eth
      show rk b.one - (sh b.to * (2 * B + 1) + (0 : Int) * (2 * B + 1)) < _
      rw [Int.zero_mul]
      omega
    | cons x l =>
      have hm : 2 * B + 1 ≤ ((x :: l).length : Int) * (2 * B + 1) := by
        have := Int.mul_le_mul_of_nonneg_right (a := 1) (b := ((x :: l).length : Int)) (c := 2 * B + 1) (by simp only [List.length_cons]; omega) (by omega)
        rwa [Int.one_mul] at this
      omega
  · rw [show (bs.map (movB sh w ms)).map BR.to = bs.map BR.to by rw [List.map_map]; rfl]
    exact ok.count k h e
/-! ### what hands make, by bells; rooms moved go on -/
/-- what a hand makes at a bell -/
def Vm (ms : List (List Int)) (s k : Nat) : Int := gD (ms.getD s []) k
theorem getD_at {ms : List (List Int)} {s : Nat} {m : List Int} (h : ms[s]? = some m) : ms.getD s [] = m := by
  rw [List.getD_eq_getElem?_getD, h]; rfl
theorem taken_at_eq {b : BR} {ms : List (List Int)} {s : Nat} (h : s ≤ ms.length) (m : List Int) (hm : ms[s]? = some m) : valB (gD m) (standB (ms.take s) b) = takenAt b ms s := by
  have ls : (ms.take s).length = s := by rw [List.length_take]; omega
  unfold takenAt
  by_cases e : b.th = []
  · rw [valB_nil ((stand_th _ b).mpr e), stand_one, e]
    rw [if_neg (by show ¬ s < 0; omega)]
    show gD m b.one = gD (ms.getD (s - 0) []) b.one
    rw [Nat.sub_zero, getD_at hm]
  · rw [stand_head _ e, ls]
    by_cases c : s < b.th.length
    · rw [if_pos c, List.getD_eq_getElem?_getD, List.getElem?_append_left c]
      show _ = b.th.getD s 0
      rw [List.getD_eq_getElem?_getD]
    · rw [if_neg c, List.getD_eq_getElem?_getD, List.getElem?_append_right (by omega), List.getElem?_map]
      have pos := List.length_pos_iff.mpr e
      rw [List.getElem?_take_of_lt (by omega)]
      have l : s - b.th.length < ms.length := by
        have := (List.getElem?_eq_some_iff.mp hm).1
        omega
      rw [List.getElem?_eq_getElem l, List.getD_eq_getElem?_getD, List.getElem?_eq_getElem l]
      rfl
theorem takes_stand {bs : List BR} {ms : List (List Int)} {s k : Nat} {m : List Int} (hm : ms[s]? = some m) : takes (stand bs (ms.take s)) (gD m) k = (bs.filter fun b => decide (b.to = k)).map fun b => takenAt b ms s := by
  have hl : s ≤ ms.length := Nat.le_of_lt (List.getElem?_eq_some_iff.mp hm).1
  unfold takes
  induction bs with
  | nil => rfl
  | cons b bs ih =>
    rw [show stand (b :: bs) (ms.take s) = standB (ms.take s) b :: stand bs (ms.take s) from rfl, List.filter_cons, List.filter_cons, stand_to]
    by_cases c : b.to = k
    · rw [if_pos (decide_eq_true c), if_pos (decide_eq_true c), List.map_cons, List.map_cons, ih, taken_at_eq hl m hm]
    · rw [if_neg (by rw [decide_eq_false c]; exact Bool.false_ne_true), if_neg (by rw [decide_eq_false c]; exact Bool.false_ne_true)]
      exact ih
theorem WS.hand {hs : List HR} {bs : List BR} {rows ms : List (List Int)} (a : WS hs bs rows ms) {s k : Nat} {h : HR} (sl : s < ms.length) (eh : hs[k]? = some h) (w : h.wd ≠ "in") : Vm ms s k = mkR h ((bs.filter fun b => decide (b.to = k)).map fun b => takenAt b ms s) := by
  have em : ms[s]? = some ms[s] := List.getElem?_eq_getElem sl
  have er : rows[s]? = some (rows[s]'(by rw [← a.len]; exact sl)) := List.getElem?_eq_getElem _
  have B := a.at_ s _ _ er em
  have q := B.hand k h eh w
  rw [takes_stand em] at q
  unfold Vm
  rw [getD_at em]
  show ms[s].getD k 0 = _
  rw [List.getD_eq_getElem?_getD, q]
  rfl
theorem WS.door {hs : List HR} {bs : List BR} {rows ms : List (List Int)} (a : WS hs bs rows ms) {s k j : Nat} (sl : s < ms.length) (ed : (doorsOf "in" hs)[j]? = some k) : Vm ms s k = gD (rows.getD s []) j := by
  have em : ms[s]? = some ms[s] := List.getElem?_eq_getElem sl
  have er : rows[s]? = some (rows[s]'(by rw [← a.len]; exact sl)) := List.getElem?_eq_getElem _
  have B := a.at_ s _ _ er em
  unfold Vm
  rw [getD_at em, getD_at er]
  show ms[s].getD k 0 = (rows[s]'_).getD j 0
  rw [List.getD_eq_getElem?_getD, List.getD_eq_getElem?_getD, B.door j k ed]
theorem rank_ind {n : Nat} {rk : Nat → Int} {P : Nat → Prop} (step : ∀ k, k < n → (∀ j, j < n → rk j < rk k → P j) → P k) : ∀ k, k < n → P k := by
  obtain ⟨B, b0, hB⟩ := rk_bound rk n
  have key : ∀ (m : Nat) (k : Nat), k < n → rk k + B < (m : Int) → P k := by
    intro m
    induction m with
    | zero => intro k hk h; have := hB k hk; omega
    | succ m ih =>
      intro k hk h
      refine step k hk fun j hj l => ih j hj ?_
      omega
  intro k hk
  exact key (rk k + B + 1).toNat k hk (by have := hB k hk; omega)
theorem map_cong {α β : Type} {l : List α} {f g : α → β} (h : ∀ x ∈ l, f x = g x) : l.map f = l.map g := List.map_congr_left h
/-- shifts that leave no belt below none, nought at in doors -/
structure Lets (hs : List HR) (bs : List BR) (sh : Nat → Int) : Prop where
  ins : ∀ k ∈ doorsOf "in" hs, sh k = 0
  tr : ∀ b ∈ bs, 0 ≤ trS sh b
/-- what a hand makes leans on no rows beyond its bell and its shift -/
theorem rows_agree {hs : List HR} {bs : List BR} {sh : Nat → Int} {R R' ms ms' : List (List Int)} (ok : RoomOk hs bs) (le : Lets hs bs sh) (a : WS hs bs R ms) (a' : WS hs bs R' ms') {N : Int} (ag : ∀ u : Nat, (u : Int) ≤ N → R.getD u [] = R'.getD u []) :
    ∀ s k, k < hs.length → s < ms.length → s < ms'.length → (s : Int) + sh k ≤ N → Vm ms s k = Vm ms' s k := by
  obtain ⟨rk, hrk⟩ := ok.rank
  intro s
  induction s using Nat.strongRecOn with
  | _ s ih =>
    refine rank_ind (rk := rk) fun k kn ihk s1 s2 hN => ?_
    have eh : hs[k]? = some hs[k] := List.getElem?_eq_getElem kn
    by_cases w : hs[k].wd = "in"
    · have km := mem_doors.mpr ⟨_, eh, w⟩
      obtain ⟨j, hj⟩ := List.getElem?_of_mem km
      rw [a.door s1 hj, a'.door s2 hj, ag s (by have := le.ins k km; omega)]
    · rw [a.hand s1 eh w, a'.hand s2 eh w]
      refine congrArg _ (map_cong fun b hb => ?_)
      obtain ⟨hb, hk⟩ := List.mem_filter.mp hb
      have hk : b.to = k := of_decide_eq_true hk
      have t0 := le.tr b hb
      have d : trS sh b = (b.th.length : Int) + sh b.to - sh b.one := rfl
      obtain ⟨l1, l2⟩ := ok.ends b hb
      unfold takenAt
      by_cases c : s < b.th.length
      · rw [if_pos c, if_pos c]
      · rw [if_neg c, if_neg c]
        show Vm ms (s - b.th.length) b.one = Vm ms' (s - b.th.length) b.one
        rw [hk] at d
        by_cases e : b.th = []
        · have e0 : b.th.length = 0 := by rw [e]; rfl
          rw [e0, Nat.sub_zero]
          exact ihk b.one l1 (by rw [← hk]; exact hrk b hb e) s1 s2 (by omega)
        · have pos := List.length_pos_iff.mpr e
          exact ih (s - b.th.length) (by omega) b.one l1 (by omega) (by omega) (by omega)
theorem mov_filter {bs : List BR} {sh : Nat → Int} {w : Int} {ms : List (List Int)} {k : Nat} : (bs.map (movB sh w ms)).filter (fun b => decide (b.to = k)) = (bs.filter fun b => decide (b.to = k)).map (movB sh w ms) := by
  rw [List.filter_map]
  rfl
/-- the moved room makes what the first one makes, later by what it waits, less the shift -/
theorem moved_on {hs : List HR} {bs : List BR} {sh : Nat → Int} {w : Nat} {R0 R1 T0 T ms0 ms ms1 : List (List Int)} (ok : RoomOk hs bs) (okg : RoomOk hs (bs.map (movB sh ((w : Nat) : Int) ms0))) (le : Lets hs bs sh) (lw : R0.length = w) (wt : ∀ k, k < hs.length → sh k ≤ ((w : Nat) : Int))
    (a0 : WS hs bs (R0 ++ T0) ms0) (l0 : ∀ k, k < hs.length → ((w : Nat) : Int) - sh k ≤ (ms0.length : Int)) (a : WS hs bs ((R0 ++ R1) ++ T) ms) (a1 : WS hs (bs.map (movB sh ((w : Nat) : Int) ms0)) R1 ms1) :
    ∀ t k, k < hs.length → t < ms1.length → (t : Int) + w - sh k < (ms.length : Int) → Vm ms1 t k = Vm ms ((t : Int) + w - sh k).toNat k := by
  obtain ⟨rk, hrk⟩ := okg.rank
  intro t
  induction t using Nat.strongRecOn with
  | _ t ih =>
    refine rank_ind (rk := rk) fun k kn ihk t1 t2 => ?_
    have eh : hs[k]? = some hs[k] := List.getElem?_eq_getElem kn
    have wk := wt k kn
    obtain ⟨s, es⟩ : ∃ s : Nat, (t : Int) + w - sh k = (s : Int) := ⟨((t : Int) + w - sh k).toNat, by omega⟩
    rw [es, Int.toNat_natCast]
    have sl : s < ms.length := by omega
    have l1 := a1.len
    by_cases wd : hs[k].wd = "in"
    · have km := mem_doors.mpr ⟨_, eh, wd⟩
      obtain ⟨j, hj⟩ := List.getElem?_of_mem km
      have z := le.ins k km
      rw [a1.door t1 hj, a.door sl hj]
      have e1 : s = R0.length + t := by omega
      rw [e1, List.getD_eq_getElem?_getD, List.getD_eq_getElem?_getD, List.getElem?_append_left (by rw [List.length_append]; omega), List.getElem?_append_right (by omega), Nat.add_sub_cancel_left]
    · rw [a1.hand t1 eh wd, a.hand sl eh wd, mov_filter, List.map_map]
      refine congrArg _ (map_cong fun b hb => ?_)
      obtain ⟨hb, hk⟩ := List.mem_filter.mp hb
      have hk : b.to = k := of_decide_eq_true hk
      have t0 := le.tr b hb
      have d : trS sh b = (b.th.length : Int) + sh b.to - sh b.one := rfl
      obtain ⟨l1, l2⟩ := ok.ends b hb
      have wo := wt b.one l1
      have lo := l0 b.one l1
      show takenAt (movB sh w ms0 b) ms1 t = takenAt b ms s
      obtain ⟨n0, en0⟩ : ∃ n0 : Nat, trS sh b = ((n0 : Nat) : Int) := ⟨(trS sh b).toNat, by omega⟩
      have lth : (movB sh w ms0 b).th.length = n0 := by rw [mov_th, en0, Int.toNat_natCast]
      rw [hk] at d
      unfold takenAt
      rw [lth]
      by_cases c : t < n0
      · rw [if_pos c]
        have ei : gD (movB sh w ms0 b).th t = takenAt b ms0 s := by
          show ((List.range (trS sh b).toNat).map fun i => takenAt b ms0 ((((w : Nat) : Int) - sh b.to).toNat + i)).getD t 0 = _
          rw [List.getD_eq_getElem?_getD, List.getElem?_map, en0, Int.toNat_natCast, List.getElem?_range c, hk]
          show takenAt b ms0 _ = _
          congr 1
          omega
        rw [ei]
        unfold takenAt
        by_cases c2 : s < b.th.length
        · rw [if_pos c2, if_pos c2]
        · rw [if_neg c2, if_neg c2]
          refine rows_agree ok le a0 a (N := (w : Int) - 1) (fun u hu => ?_) (s - b.th.length) b.one l1 (by omega) (by omega) (by omega)
          rw [List.getD_eq_getElem?_getD, List.getD_eq_getElem?_getD, List.append_assoc, List.getElem?_append_left (by omega), List.getElem?_append_left (by omega)]
      · rw [if_neg c, if_neg (by omega)]
        show Vm ms1 (t - n0) b.one = Vm ms (s - b.th.length) b.one
        have ev : ((t - n0 : Nat) : Int) + w - sh b.one = ((s - b.th.length : Nat) : Int) := by omega
        have fin : Vm ms1 (t - n0) b.one = Vm ms (((t - n0 : Nat) : Int) + w - sh b.one).toNat b.one := by
          by_cases e : n0 = 0
          · subst e
            rw [Nat.sub_zero] at *
            refine ihk b.one l1 ?_ t1 (by omega)
            have := hrk (movB sh w ms0 b) (List.mem_map.mpr ⟨b, hb, rfl⟩) (List.length_eq_zero_iff.mp lth)
            rw [← hk]
            exact this
          · exact ih (t - n0) (by omega) b.one l1 (by omega) (by omega)
        rw [fin, ev, Int.toNat_natCast]
section
variable {P : Program} {w : World} {K : PySem.W.Frag} {mg : Str → Option Value} {base : Heap}
def sp_law_rows (K : PySem.W.Frag) : Sp := fun vs H Q _ => ∃ (f c r : Addr) (hs : List HR) (bs : List BR) (m : Int), vs = [.ref f, .ref r, .int m] ∧ 0 ≤ m ∧ m ≤ 100 ∧ Flow H f c ∧ RoomAt H r hs bs ∧ hs.length ≤ 12 ∧ (∀ h ∈ hs, GoodHand h) ∧
  ∀ (p : Addr) (rv : List V) (rows : List (List Int)) (H' : Hp), H p = none → H' p = some (.lst rv) → All2 (RowAt H') rv rows → rows.length = m.toNat → (∀ x ∈ rows, x.length = (doorsOf "in" hs).length ∧ ∀ y ∈ x, Small y) → Flow H' f c → But f H H' → Q (.ref p) H'
theorem ok_law_rows {f : Addr} {fd : FuncData} (F : Fun K "_law_rows" "_law_rows" s_law_rows f fd) (T : Top K mg) : FnOk P w K mg base CX0 3 f fd ["_law_flow_here", "_law_room_here", "_law_many"] (sp_law_rows K) := by
  obtain ⟨f_law_thing, fd_law_thing, F_law_thing, b_law_thing, m_law_thing⟩ := T.d_law_thing
  have G_law_thing := ok_law_thing (P := P) (w := w) (base := base) F_law_thing T
  refine F.ok sc_law_rows (fun vs H Q E h => ?_) (fun cdv A outer s H vs Q E hr h => ?_)
  · obtain ⟨f, c, r, hs, bs, m, rfl, _⟩ := h
    rfl
  obtain ⟨f, c, r, hs, bs, m, rfl, m0, m1, hF, hR, lh, good, q⟩ := h
  obtain ⟨ha, ba, hv, bv, er, eh, eb, alh, alb⟩ := hR.ex
  have lhv := alh.length
  refine ⟨_, (pss_cons (ps_set (i := 3) sc_law_rows.nd rfl (Or.inr rfl) (pe_lc (own := [("_law_hand", 4)]) (g := gName 4) (by rfl) sc_law_rows.nd (pi_tupK K rfl (pe_ix (ix_tupK K rfl) (pv 1) pe_int (fun _ _ => rfl))) (blkOk_by (own := [("_law_hand", 4)]) (N := N_law_rows) (sc := defScope s_law_rows) (by decide +kernel)) (fun _ _ _ _ _ => (pg_name (i := 4) sc_law_rows.nd rfl (Or.inl rfl))) (fun _ _ _ _ _ => pts_one (pt_cmpR (op_eqDK K rfl hr.units) (pe_ix (ix_tupK K rfl) (pv 4) pe_int (fun _ _ => rfl)) (pe_tup (pa_cons pe_str pa_nil)) (nomark _))) (fun _ _ _ _ _ => (pv 4))))
      (pss_one (ps_ret (pe_lc (own := [("_law_k", 6)]) (g := gName 6) (tt := tYes) (by rfl) sc_law_rows.nd (pi_range1 (by rfl) T.m_range (pa_cons (pv 2) pa_nil)) (blkOk_by (own := [("_law_k", 6)]) (N := N_law_rows) (sc := defScope s_law_rows) (by decide +kernel)) (fun _ _ _ _ _ => (pg_name (i := 6) sc_law_rows.nd rfl (Or.inl rfl))) (fun _ _ _ _ _ => pts_nil) (fun _ _ _ _ _ => (pe_callTy (call_tuple_ofK K rfl) (by rfl) T.m_tuple (by decide +kernel) (pa_cons (pe_lc (own := [("_law_door", 5)]) (g := gName 5) (tt := tYes) (by rfl) sc_law_rows.nd (pi_listK K rfl (pv 3)) (blkOk_by (own := [("_law_door", 5)]) (N := N_law_rows) (sc := { kind := .function, names := [(".0", .local), ("_law_k", .local), ("tuple", .globalImplicit), ("_law_doors", .cell), ("_law_flow_here", .cell)], isGenerator := false, isCoroutine := false }) (by decide +kernel)) (fun _ _ _ _ _ => (pg_name (i := 5) sc_law_rows.nd rfl (Or.inl rfl))) (fun _ _ _ _ _ => pts_nil) (fun _ _ _ _ _ => (pe_call G_law_thing (hr.mono (by decide)) (by rfl) m_law_thing F_law_thing.kp b_law_thing .nil pass0 (pa_cons (pv 0) pa_nil)))) pa_nil))))))), ?_⟩
  refine ⟨_, rfl, r, _, _, _, rfl, rfl, SqT.of er, atI_nat (j := 0) rfl, ha, rfl, ⟨_, SqT.of eh⟩, fun D nD => lc_tup (K := K) (a := ha) (xs := hv) (fun i H5 => ∃ dv : List V, H5 D = some (.lst dv) ∧ dv.length = ((List.range i).filter fun j => decide (hs[j]?.map HR.wd = some ("in" : Str))).length ∧ Same H H5) ⟨[], upd_same, rfl, same_new nD⟩ (fun i H5 _ ⟨_, _, _, s5⟩ => SqT.of (s5 _ _ eh)) ?_ ?_⟩
  · rintro i x H5 hx ⟨dv, hD, ld, s5⟩
    obtain ⟨hh, eb2, ⟨t2, g, rfl, e1, e2⟩⟩ := alh.getL hx
    have il := (List.getElem?_eq_some_iff.mp eb2).1
    have gh := good _ (List.mem_of_getElem? eb2)
    have few := filt_len (p := fun j => decide (hs[j]?.map HR.wd = some ("in" : Str))) i
    refine ⟨rfl, _, rfl, t2, _, _, _, rfl, rfl, SqT.of (s5 _ _ e1), atI_nat (j := 0) rfl, (by show 1 ≤ sizeLine; decide), fun o1 no1 => ?_⟩
    have s6 := s5.trans (same_new (o := .tup [V.str "in"]) no1)
    have hD6 := same_new (o := .tup [V.str "in"]) no1 _ _ hD
    refine ⟨_, _, rule_dp (s6 _ _ e2), .tup (SqT.of upd_same) (.cons (.str _) .nil), rule_shaped gh.lay, one_shaped (by decide +kernel), _, rfl, ?_⟩
    rw [rule_eqv, gh.door "in" (.inl rfl)]
    by_cases cc : hh.wd = "in"
    · rw [decide_eq_true cc]
      refine if_bl (fun _ => ⟨_, rfl, dv, hD6, small1000 (by omega), _, upd_same, ?_, Same.own s6 nD⟩) (fun z => nomatch z)
      rw [filt_succ, if_pos (decide_eq_true (by rw [eb2, ← cc]; rfl)), List.length_append, List.length_append, ld]
      rfl
    · rw [decide_eq_false cc]
      refine if_bl (fun z => nomatch z) (fun _ => ⟨dv, hD6, ?_, s6⟩)
      rw [filt_succ, if_neg fun z => cc (by have := of_decide_eq_true z; rw [eb2] at this; exact Option.some.inj this), List.append_nil]
      exact ld
  · rintro H5 ⟨dv, hD, ld, s5⟩
    rw [lhv] at ld
    have ld : dv.length = (doorsOf "in" hs).length := ld
    have ldl := doors_len (z := "in") (hs := hs)
    have F5 := hF.same s5
    have df : D ≠ f := hF.ne nD
    refine ⟨_, rfl, _, rfl, by omega, by omega, fun L nL => lc_range (lo := 0) (n := m.toNat) (fun i H6 => ∃ (rv : List V) (rows : List (List Int)), H6 L = some (.lst rv) ∧ H6 D = some (.lst dv) ∧ All2 (RowAt H6) rv rows ∧ rows.length = i ∧ (∀ x ∈ rows, x.length = (doorsOf "in" hs).length ∧ ∀ y ∈ x, Small y) ∧ Flow H6 f c ∧ But f H5 H6) ⟨[], [], upd_same, same_new nL _ _ hD, .nil, rfl, (fun _ z => nomatch z), F5.new nL, But.refl.new nL⟩ ?_ ?_⟩
    · rintro i H6 hi ⟨rv, rows, hL, hD6, al, lr, ok, F6, B6⟩
      refine ⟨rfl, yes_in ⟨_, rfl, D, rfl, ⟨_, SqL.of hD6⟩, fun M nM => lc_list (K := K) (a := D) (xs := dv) (fun j H7 => ∃ vs : List Int, vs.length = j ∧ H7 M = some (.lst (vs.map V.int)) ∧ (∀ y ∈ vs, Small y) ∧ H7 D = some (.lst dv) ∧ Flow H7 f c ∧ But f H6 H7) ⟨[], rfl, upd_same, (fun _ z => nomatch z), same_new nM _ _ hD6, F6.new nM, But.refl.new nM⟩ (fun j H7 _ ⟨_, _, _, _, h, _⟩ => SqL.of h) ?_ ?_⟩⟩
      · rintro j x H7 hx ⟨vs, lv, hM, sm, hD7, F7, B7⟩
        have jl := (List.getElem?_eq_some_iff.mp hx).1
        have mf : M ≠ f := F6.ne nM
        have mc : M ≠ c := F6.nec nM
        have md : D ≠ M := ne_of_none hD6 nM
        refine ⟨rfl, yes_in ⟨_, rfl, f, c, rfl, F7, fun y H8 sy F8 B8 => ⟨_, B8 _ _ hM mf, ?_, vs ++ [y], by rw [List.length_append, lv]; rfl, ?_, ?_, ?_, F8.lst mf mc, (B7.trans B8).own nM⟩⟩⟩
        · rw [List.length_map, lv]; exact small1000 (by omega)
        · rw [upd_same, List.map_append]; rfl
        · intro z hz
          rcases List.mem_append.mp hz with hz | hz
          · exact sm z hz
          · obtain rfl : z = y := by simpa using hz
            exact sy
        · rw [upd_ne md]; exact B8 _ _ hD7 df
      · rintro H7 ⟨vs, lv, hM, sm, hD7, F7, B7⟩
        have lf : L ≠ f := F5.ne nL
        have lc : L ≠ c := F5.nec nL
        refine ⟨M, _, rfl, .inl ⟨SqL.of hM, fun p np => ?_⟩⟩
        have hL7 := same_new (o := .tup (vs.map V.int)) np _ _ (B7 _ _ hL lf)
        refine ⟨rv, hL7, by rw [al.length, lr]; exact small1000 (by omega), rv ++ [V.ref p], rows ++ [vs], upd_same, ?_, ?_, by rw [List.length_append, lr]; rfl, ?_, (F7.new np).lst lf lc, ?_⟩
        · rw [upd_ne (ne_of_none hD nL)]; exact same_new np _ _ hD7
        · exact ((al.imp fun _ _ z => z.keep ((TK.but F6 B7).trans (TK.new np))).snoc ⟨p, rfl, upd_same⟩).imp fun _ _ z => z.keep (TK.lst hL7)
        · intro x hx
          rcases List.mem_append.mp hx with hx | hx
          · exact ok x hx
          · obtain rfl : x = vs := by simpa using hx
            exact ⟨by rw [lv, ld], sm⟩
        · exact ((B6.trans B7).new np).own nL
    · rintro H6 ⟨rv, rows, hL, hD6, al, lr, ok, F6, B6⟩
      exact q L rv rows H6 (same_none s5 nL) hL al lr ok F6 ((But.of s5).trans B6)
end
section
variable {P : Program} {w : World} {K : PySem.W.Frag} {mg : Str → Option Value} {base : Heap}
/-! ### what the law reckons a hand makes -/
theorem five_of {h : HR} (g : GoodHand h) (n0 : h.wd ≠ "in") (n1 : h.wd ≠ "always") (n2 : h.wd ≠ "times") (n3 : h.wd ≠ "pick") (n4 : needs h.wd ≠ 1) : h.wd = "sum" ∨ h.wd = "gap" ∨ h.wd = "below" ∨ h.wd = "most" ∨ h.wd = "least" := by
  have o : h.wd ≠ "out" := fun z => by rw [z] at n4; exact n4 (by decide +kernel)
  have s : h.wd ≠ "same" := fun z => by rw [z] at n4; exact n4 (by decide +kernel)
  rcases g.1 with k | k
  · have := k.wd
    unfold nine at this
    simp only [List.mem_cons, List.not_mem_nil, or_false] at this
    rcases this with z | z | z | z | z | z | z | z | z
    · exact absurd z n1
    · exact absurd z s
    · exact absurd z n2
    · exact .inl z
    · exact .inr (.inl z)
    · exact .inr (.inr (.inl z))
    · exact .inr (.inr (.inr (.inl z)))
    · exact .inr (.inr (.inr (.inr z)))
    · exact absurd z n3
  · exact absurd k.1 (fun z => z.elim n0 o)
theorem one_of {h : HR} (g : GoodHand h) (n1 : h.wd ≠ "always") (n2 : h.wd ≠ "times") (n4 : needs h.wd = 1) : h.wd = "same" ∨ h.wd = "out" := by
  have n4' := n4
  unfold needs at n4
  by_cases a : h.wd ∈ (["in", "always"] : List Str)
  · rw [if_pos a] at n4; cases n4
  · rw [if_neg a] at n4
    by_cases b : h.wd ∈ (["out", "same", "times"] : List Str)
    · simp only [List.mem_cons, List.not_mem_nil, or_false] at b
      rcases b with b | b | b
      · exact .inr b
      · exact .inl b
      · exact absurd b n2
    · rw [if_neg b] at n4
      split at n4 <;> exact absurd n4 (by decide)
abbrev kv5 (a b : Int) : List (Key × V) := [(.inr "sum", .int (a + b)), (.inr "gap", .int (a - b)), (.inr "below", .int (if a < b then 1 else 0)), (.inr "most", .int (if b > a then b else a)), (.inr "least", .int (if b < a then b else a))]
theorem five_val {wd : Str} (h : wd = "sum" ∨ wd = "gap" ∨ wd = "below" ∨ wd = "most" ∨ wd = "least") (n a b c : Int) : valV (mergeK [] (kv5 a b)) (.inr wd) = some (.int (mk wd n a b c)) := by
  rcases h with e | e | e | e | e <;> subst e <;> rfl
def sp_law_made_by (K : PySem.W.Frag) : Sp := fun vs H Q _ => ∃ (r t : Addr) (h : HR) (xs : List Int), vs = [.ref r, .ref t] ∧ H r = some (.tup (ruleL h)) ∧ H t = some (.lst (xs.map V.int)) ∧ GoodHand h ∧ h.wd ≠ "in" ∧ ((xs.length : Nat) : Int) = needs h.wd ∧ ∀ H', Same H H' → Q (.int (mkR h xs)) H'
theorem ok_law_made_by {f : Addr} {fd : FuncData} (F : Fun K "_law_made_by" "_law_made_by" s_law_made_by f fd) (T : Top K mg) : FnOk P w K mg base CX0 1 f fd ["_law_rule_here", "_law_things"] (sp_law_made_by K) := by
  refine F.ok sc_law_made_by (fun vs H Q E h => ?_) (fun cdv A outer s H vs Q E hr h => ?_)
  · obtain ⟨r, t, h, xs, rfl, _⟩ := h
    rfl
  obtain ⟨r, t, h, xs, rfl, hr1, ht, g, win, hl, q⟩ := h
  have A := args_of g win hl
  unfold mkR at q
  obtain ⟨n, hn⟩ : ∃ n, n = h.no.getD 0 := ⟨_, rfl⟩
  obtain ⟨a, ha⟩ : ∃ a, a = xs.getD 0 0 := ⟨_, rfl⟩
  obtain ⟨b, hb⟩ : ∃ b, b = xs.getD 1 0 := ⟨_, rfl⟩
  obtain ⟨c, hc⟩ : ∃ c, c = xs.getD 2 0 := ⟨_, rfl⟩
  rw [← hn, ← ha, ← hb, ← hc] at q A
  have q1 := fun H' (s' : Same H H') => q H' s'
  refine ⟨_, (pss_cons (ps_if (pt_cmpR op_eq (pe_ix (ix_tupK K rfl) (pv 0) pe_int (fun _ _ => rfl)) pe_str (nomark _)) (pss_one (ps_ret (pe_ix (ix_tupK K rfl) (pv 0) pe_int (fun _ _ => rfl)))) pss_nil)
      (pss_cons (ps_set (i := 2) sc_law_made_by.nd rfl (Or.inl rfl) (pe_ix (ix_listK K rfl) (pv 1) pe_int (fun _ _ => rfl)))
      (pss_cons (ps_if (pt_cmpR op_eq (pe_ix (ix_tupK K rfl) (pv 0) pe_int (fun _ _ => rfl)) pe_str (nomark _)) (pss_one (ps_ret (pe_op op_mul (pe_ix (ix_tupK K rfl) (pv 0) pe_int (fun _ _ => rfl)) (pv 2)))) pss_nil)
      (pss_cons (ps_if (pt_cmpR op_eq (pe_ix (ix_tupK K rfl) (pv 0) pe_int (fun _ _ => rfl)) pe_str (nomark _)) (pss_one (ps_ret (pe_ix (ix_listK K rfl) (pe_lst (pa_cons (pe_ix (ix_listK K rfl) (pv 1) pe_int (fun _ _ => rfl)) (pa_cons (pe_ix (ix_listK K rfl) (pv 1) pe_int (fun _ _ => rfl)) pa_nil))) (pe_callTy call_int1 (by rfl) T.m_int (by decide +kernel) (pa_cons (pe_cmpR op_ne (pv 2) pe_int (nomark _)) pa_nil)) (fun _ _ => rfl)))) pss_nil)
      (pss_cons (ps_if (pt_cmpR op_eq (pe_callB (call_len_seqK K rfl) (by rfl) T.m_len (by decide +kernel) (pa_cons (pv 1) pa_nil)) pe_int (nomark _)) (pss_one (ps_ret (pv 2))) pss_nil)
      (pss_cons (ps_set (i := 3) sc_law_made_by.nd rfl (Or.inl rfl) (pe_ix (ix_listK K rfl) (pv 1) pe_int (fun _ _ => rfl)))
      (pss_cons (ps_set (i := 4) sc_law_made_by.nd rfl (Or.inl rfl) (pe_disp (pps_cons pe_str (pe_op op_add (pv 2) (pv 3)) (pps_cons pe_str (pe_op op_sub (pv 2) (pv 3)) (pps_cons pe_str (pe_callTy call_int1 (by rfl) T.m_int (by decide +kernel) (pa_cons (pe_cmpR op_lt (pv 2) (pv 3) (nomark _)) pa_nil)) (pps_cons pe_str (pe_callB (call_max2 rfl) (by rfl) T.m_max (by decide +kernel) (pa_cons (pv 2) (pa_cons (pv 3) pa_nil))) (pps_cons pe_str (pe_callB (call_min2 rfl) (by rfl) T.m_min (by decide +kernel) (pa_cons (pv 2) (pa_cons (pv 3) pa_nil))) pps_nil))))) (by rfl) (by rfl) (fun z => by cases z) (by decide)))
      (pss_one (ps_ret (pe_dget (hu_of hr) (pv 4) (pe_ix (ix_tupK K rfl) (pv 0) pe_int (fun _ _ => rfl)) (fun _ _ => rfl))))))))))), ?_⟩
  refine ⟨_, rfl, r, _, _, _, rfl, rfl, SqT.of hr1, atI_nat (j := 0) rfl, rfl, _, rfl, if_str (fun e1 => ?_) (fun e1 => ?_)⟩
  · have q := q1 H (fun _ _ e => e)
    unfold mk at q
    rw [if_pos e1] at q
    exact ⟨_, rfl, r, _, _, _, rfl, rfl, SqT.of hr1, atI_nat (j := 1) (A.r1 (.inl e1)), q⟩
  refine ⟨_, rfl, t, _, _, _, rfl, rfl, SqL.of ht, atI_nat (j := 0) (A.t0 e1), ?_⟩
  refine ⟨_, rfl, r, _, _, _, rfl, rfl, SqT.of hr1, atI_nat (j := 0) rfl, rfl, _, rfl, if_str (fun e2 => ?_) (fun e2 => ?_)⟩
  · have q := q1 H (fun _ _ e => e)
    unfold mk at q
    rw [if_neg e1, if_pos e2] at q
    exact ⟨_, rfl, r, _, _, _, rfl, rfl, SqT.of hr1, atI_nat (j := 1) (A.r1 (.inr e2)), _, rfl, _, _, rfl, rfl, .inl A.big, q⟩
  refine ⟨_, rfl, r, _, _, _, rfl, rfl, SqT.of hr1, atI_nat (j := 0) rfl, rfl, _, rfl, if_str (fun e3 => ?_) (fun e3 => ?_)⟩
  · refine ⟨_, rfl, t, _, _, _, rfl, rfl, SqL.of ht, atI_nat (j := 2) (A.t2 e3), _, rfl, t, _, _, _, rfl, rfl, SqL.of ht, atI_nat (j := 1) (A.t1 (.inl e3)), (by show 2 ≤ sizeLine; decide), fun p np => ?_⟩
    have q := q1 _ (same_new (o := .lst [V.int c, V.int b]) np)
    unfold mk at q
    rw [if_neg e1, if_neg e2, if_pos e3] at q
    by_cases z : a = 0
    · rw [if_pos z] at q
      refine ⟨_, rfl, rfl, .inr ⟨_, rfl, p, _, _, .int c, rfl, rfl, SqL.of upd_same, ?_, q⟩⟩
      rw [z]
      rfl
    · rw [if_neg z] at q
      refine ⟨_, rfl, rfl, .inr ⟨_, rfl, p, _, _, .int b, rfl, rfl, SqL.of upd_same, ?_, q⟩⟩
      rw [show (!decide (V.int a = V.int 0)) = true by rw [decide_eq_false fun y => z (V.int.inj y)]; rfl]
      rfl
  refine ⟨_, rfl, t, _, rfl, .inl (SqL.of ht), rfl, _, rfl, if_bl (fun e4 => ?_) (fun e4 => ?_)⟩
  · have e5 : needs h.wd = 1 := by
      have := V.int.inj (of_decide_eq_true e4)
      rw [List.length_map] at this
      omega
    have q := q1 H (fun _ _ e => e)
    unfold mk at q
    rw [if_neg e1, if_neg e2, if_neg e3, if_pos (one_of g e1 e2 e5)] at q
    exact ⟨_, rfl, q⟩
  have e5 : needs h.wd ≠ 1 := fun z => of_decide_eq_false e4 (by rw [List.length_map, hl, z])
  have f5 := five_of g win e1 e2 e3 e5
  have n1 : h.wd ≠ "same" := fun z => by rw [z] at f5; exact absurd f5 (by decide +kernel)
  have n2 : h.wd ≠ "out" := fun z => by rw [z] at f5; exact absurd f5 (by decide +kernel)
  refine ⟨_, rfl, t, _, _, _, rfl, rfl, SqL.of ht, atI_nat (j := 1) (A.t1 (.inr ⟨e1, e2, n1, n2⟩)), ?_⟩
  refine fun d nd => ⟨_, rfl, _, rfl, _, _, rfl, rfl, _, rfl, _, rfl, _, _, rfl, rfl, _, rfl, _, rfl, _, _, rfl, rfl, .inr ⟨_, rfl, _, rfl, _, rfl, _, _, rfl, _, rfl, _, rfl, _, _, rfl, upd_same, kv5 a b, ?_, (by show 5 ≤ 15; decide), ?_⟩⟩
  · by_cases z : a < b
    · simp [z, kV]
    · simp [z, kV]
  have s1 : Same H (upd (upd H d (.dK [])) d (.dK (mergeK [] (kv5 a b)))) := by rw [upd_upd]; exact same_new nd
  refine ⟨_, rfl, _, rfl, r, _, _, _, rfl, rfl, SqT.of (s1 _ _ hr1), atI_nat (j := 0) rfl, d, .int (mk h.wd n a b c), rfl, ?_, q1 _ s1⟩
  have := DGet.k (k := Sum.inr h.wd) (upd_same (H := upd H d (.dK [])) (a := d) (o := .dK (mergeK [] (kv5 a b))))
  rw [five_val f5 n a b c] at this
  exact this
end
theorem or_enum {K : PySem.W.Frag} {ta : TA} {σ : L2.St} {H : Hp} {R : It → Hp → Prop} {a : Addr} {xs : List V} (ht : ∀ Q : List V → Hp → Prop, Q [.ref a] H → ta σ H Q) (h : H a = some (.lst xs) ∨ H a = some (.tup xs))
    (k : ∀ J : It, (∀ i H', H' a = H a → i < xs.length → J.go i H') → (∀ H', H' a = H a → J.stop xs.length H') → (∀ i H' v H'', H' a = H a → J.yld i H' v H'' → ∃ T x, v = .ref T ∧ H' T = none ∧ H'' = upd H' T (.tup [nV i, x]) ∧ xs[i]? = some x) → R J H) :
    iEnum K ta σ H R ∨ iEnumT K ta σ H R := by
  rcases h with e | e
  · refine .inl (ht _ ⟨a, xs, rfl, SqL.of e, k _ (fun i H' q hi => ?_) (fun H' q => ?_) fun i H' x H'' q y => ?_⟩)
    · exact ⟨xs, _, SqL.of (q.trans e), List.getElem?_eq_getElem hi⟩
    · exact ⟨xs, SqL.of (q.trans e), Nat.le_refl _⟩
    · obtain ⟨T, x, q1, q2, q3, q4⟩ := y
      exact ⟨T, x, q1, q2, q3, q4 _ (SqL.of (q.trans e))⟩
  · refine .inr (ht _ ⟨a, xs, rfl, SqT.of e, k _ (fun i H' q hi => ?_) (fun H' q => ?_) fun i H' x H'' q y => ?_⟩)
    · exact ⟨SqT.of (q.trans e), hi⟩
    · exact ⟨SqT.of (q.trans e), rfl⟩
    · exact y
theorem filt_le {α : Type} {p q : α → Bool} (h : ∀ x, p x = true → q x = true) : ∀ l : List α, (l.filter p).length ≤ (l.filter q).length
  | [] => Nat.le_refl _
  | a :: l => by
    have ih := filt_le h l
    rw [List.filter_cons, List.filter_cons]
    cases ep : p a with
    | true => rw [h a ep, if_pos rfl, if_pos rfl, List.length_cons, List.length_cons]; omega
    | false =>
      cases eq : q a with
      | true => rw [if_neg Bool.false_ne_true, if_pos rfl, List.length_cons]; omega
      | false => rw [if_neg Bool.false_ne_true, if_neg Bool.false_ne_true]; exact ih
theorem filt_eq {α : Type} {p q : α → Bool} (h : ∀ x, p x = true → q x = true) : ∀ l : List α, (l.filter p).length = (l.filter q).length → ∀ x ∈ l, q x = true → p x = true
  | [], _, _, hx, _ => nomatch hx
  | a :: l, e, x, hx, qx => by
    have ih := filt_eq h l
    have le := filt_le h l
    rw [List.filter_cons, List.filter_cons] at e
    cases ep : p a with
    | true =>
      rw [ep, h a ep, if_pos rfl, if_pos rfl, List.length_cons, List.length_cons] at e
      rcases List.mem_cons.mp hx with z | z
      · rw [z]; exact ep
      · exact ih (by omega) x z qx
    | false =>
      cases eq : q a with
      | true => rw [ep, eq, if_neg Bool.false_ne_true, if_pos rfl, List.length_cons] at e; omega
      | false =>
        rw [ep, eq, if_neg Bool.false_ne_true, if_neg Bool.false_ne_true] at e
        rcases List.mem_cons.mp hx with z | z
        · rw [z, eq] at qx; cases qx
        · exact ih e x z qx
theorem filt_lt {α : Type} {p q : α → Bool} (h : ∀ x, p x = true → q x = true) {l : List α} {x : α} (hx : x ∈ l) (h1 : q x = true) (h2 : p x = false) : (l.filter p).length < (l.filter q).length := by
  have le := filt_le h l
  have ne : (l.filter p).length ≠ (l.filter q).length := fun e => by
    have := filt_eq h l e x hx h1
    rw [h2] at this
    cases this
  omega
def missing (n : Nat) (pm : Nat → Option Int) : List Nat := (List.range n).filter fun k => !(pm k).isSome
theorem mem_missing {n k : Nat} {pm : Nat → Option Int} : k ∈ missing n pm ↔ k < n ∧ pm k = none := by
  unfold missing
  rw [List.mem_filter, List.mem_range]
  cases pm k <;> simp
def av (pm : Nat → Option Int) (k : Nat) (b : BR) : Bool := decide (b.to = k) && (!b.th.isEmpty || (pm b.one).isSome)
theorem av_to {pm : Nat → Option Int} {k : Nat} (b : BR) (h : av pm k b = true) : decide (b.to = k) = true := by
  unfold av at h
  rw [Bool.and_eq_true] at h
  exact h.1
theorem av_all {cur : List BR} {pm : Nat → Option Int} {k : Nat} (h : ∀ b ∈ cur, b.to = k → b.th = [] → (pm b.one).isSome = true) : cur.filter (av pm k) = cur.filter fun b => decide (b.to = k) := by
  refine List.filter_congr fun b hb => ?_
  unfold av
  by_cases e : b.to = k
  · rw [decide_eq_true e, Bool.true_and]
    cases z : b.th with
    | nil => rw [h b hb e z]; rfl
    | cons x l => rfl
  · rw [decide_eq_false e, Bool.false_and]
theorem av_len {cur : List BR} {pm : Nat → Option Int} {k : Nat} (h : (cur.filter (av pm k)).length = (cur.filter fun b => decide (b.to = k)).length) : ∀ b ∈ cur, b.to = k → b.th = [] → (pm b.one).isSome = true := fun b hb e z => by
  have := filt_eq av_to cur h b hb (decide_eq_true e)
  unfold av at this
  rw [z, Bool.and_eq_true] at this
  simpa using this.2
theorem filt_to {cur : List BR} {k : Nat} : (cur.filter fun b => decide (b.to = k)).length = (cur.map BR.to).count k := by
  rw [← takes_len (f := fun _ => 0)]
  unfold takes
  rw [List.length_map]
theorem head_first {ms : List (List Int)} {b : BR} (f : Nat → Int) (h : ms.length < b.th.length) : b.th[ms.length]? = some (valB f (standB ms b)) := by
  rw [stand_head f (fun z => by rw [z] at h; exact absurd h (Nat.not_lt_zero _)), List.getD_eq_getElem?_getD, List.getElem?_append_left h, List.getElem?_eq_getElem h]
  rfl
theorem head_later {ms : List (List Int)} {b : BR} (f : Nat → Int) {m : List Int} (h1 : b.th ≠ []) (h2 : b.th.length ≤ ms.length) (hm : ms[ms.length - b.th.length]? = some m) : valB f (standB ms b) = gD m b.one := by
  rw [stand_head f h1, List.getD_eq_getElem?_getD, List.getElem?_append_right h2, List.getElem?_map, hm]
  rfl
abbrev sgW (r a ha ba fo : Addr) (v5 v6 v7 v8 v9 v10 v11 v12 v13 v14 : Option V) : L2.St := [some (.ref r), some (.ref a), some (.ref ha), some (.ref ba), some (.ref fo), v5, v6, v7, v8, v9, v10, v11, v12, v13, v14]
/-- what stands within one bell of the law's reckoning -/
structure LW (hs : List HR) (cur : List BR) (ins : List Int) (d : Addr) (H0 H : Hp) (kvs : List (Key × V)) (pm : Nat → Option Int) : Prop where
  at_ : H d = some (.dK kvs)
  dm : DM kvs pm
  part : Part hs cur ins pm
  door : ∀ (k : Nat) (h : HR), hs[k]? = some h → h.wd = "in" → (pm k).isSome = true
  same : Same H0 H
theorem LW.go {hs : List HR} {cur : List BR} {ins : List Int} {d : Addr} {H0 H H' : Hp} {kvs : List (Key × V)} {pm : Nat → Option Int} (l : LW hs cur ins d H0 H kvs pm) (s : Same H H') : LW hs cur ins d H0 H' kvs pm := { l with at_ := s _ _ l.at_, same := l.same.trans s }
section
variable {P : Program} {w : World} {K : PySem.W.Frag} {mg : Str → Option Value} {base : Heap}
def sp_law_worked (K : PySem.W.Frag) : Sp := fun vs H Q _ => ∃ (r a : Addr) (hs : List HR) (bs : List BR) (rows : List (List Int)), vs = [.ref r, .ref a] ∧ RoomAt H r hs bs ∧ RoomOk hs bs ∧ RowsAt H a rows ∧ (∀ x ∈ rows, x.length = (doorsOf "in" hs).length) ∧ rows.length ≤ 100 ∧
  ∀ (p : Addr) (ov : List V) (ms : List (List Int)) (H' : Hp), H p = none → H' p = some (.lst ov) → All2 (RowAt H') ov ms → WS hs bs rows ms → Same H H' → Q (.ref p) H'
theorem ok_law_worked {f : Addr} {fd : FuncData} (F : Fun K "_law_worked" "_law_worked" s_law_worked f fd) (T : Top K mg) : FnOk P w K mg base CX0 2 f fd ["_law_room_here", "_law_rows_here"] (sp_law_worked K) := by
  obtain ⟨f_law_needs, fd_law_needs, F_law_needs, b_law_needs, m_law_needs⟩ := T.d_law_needs
  have G_law_needs := ok_law_needs (P := P) (w := w) (base := base) F_law_needs T
  obtain ⟨f_law_made_by, fd_law_made_by, F_law_made_by, b_law_made_by, m_law_made_by⟩ := T.d_law_made_by
  have G_law_made_by := ok_law_made_by (P := P) (w := w) (base := base) F_law_made_by T
  refine F.ok sc_law_worked (fun vs H Q E h => ?_) (fun cdv A outer s H vs Q E hr h => ?_)
  · obtain ⟨r, a, hs, bs, rows, rfl, _⟩ := h
    rfl
  obtain ⟨r, a, hs, bs, rows, rfl, hR, ok, ⟨rv, hrv, alr⟩, hw, lr, q⟩ := h
  obtain ⟨ha, ba, hv, bv, er, eh, eb, alh, alb⟩ := hR.ex
  have lh := ok.hands
  have lb := ok.many
  have lrv := alr.length
  have lhv := alh.length
  have lbv := alb.length
  have ldl := doors_len (z := "in") (hs := hs)
  obtain ⟨rk, hrk⟩ := ok.rk
  refine ⟨_, (pss_cons (ps_asg (pv 0) (pg_tupK K rfl rfl (pgs_cons (pg_name (i := 2) sc_law_worked.nd rfl (Or.inr rfl)) (pgs_cons (pg_name (i := 3) sc_law_worked.nd rfl (Or.inl rfl)) pgs_nil))))
      (pss_cons (ps_set (i := 4) sc_law_worked.nd rfl (Or.inl rfl) (pe_lst pa_nil))
      (pss_cons (ps_for PassesOwn.never rfl (pi_or (pi_enum (by rfl) T.m_enumerate (pa_cons (pv 1) pa_nil)) (pi_enumT K rfl (by rfl) T.m_enumerate (pa_cons (pv 1) pa_nil))) (pg_tupK K rfl rfl (pgs_cons (pg_name (i := 5) sc_law_worked.nd rfl (Or.inl rfl)) (pgs_cons (pg_name (i := 6) sc_law_worked.nd rfl (Or.inl rfl)) pgs_nil)))
        (pss_cons (ps_setLc (i := 7) (own := [("_law_k", 8)]) (g := gName 8) (by rfl) sc_law_worked.nd rfl rfl (sw_true rfl rfl rfl (by decide +kernel)) (pi_range1 (by rfl) T.m_range (pa_cons (pe_callB (call_len_seqK K rfl) (by rfl) T.m_len (by decide +kernel) (pa_cons (pv 2) pa_nil)) pa_nil)) (blkOk_by (own := [("_law_k", 8)]) (N := N_law_worked) (sc := defScope s_law_worked) (by decide +kernel)) (fun _ _ _ _ _ => (pg_name (i := 8) sc_law_worked.nd rfl (Or.inl rfl))) (fun _ _ _ _ _ => pts_one (pt_cmpR (op_eqDK K rfl hr.units) (pe_ix (ix_tupK K rfl) (pe_ix (ix_tupK K rfl) (pv 2) (pv 8) (fun _ _ => rfl)) pe_int (fun _ _ => rfl)) (pe_tup (pa_cons pe_str pa_nil)) (nomark _))) (fun _ _ _ _ _ => (pv 8)))
      (pss_cons (ps_set (i := 9) sc_law_worked.nd rfl (Or.inr rfl) (pe_dictZip K rfl rfl (by rfl) T.m_dict (by rfl) T.m_zip (pa_cons (pv 7) (pa_cons (pv 6) pa_nil))))
      (pss_cons (ps_for PassesOwn.never rfl (pi_range1 (by rfl) T.m_range (pa_cons (pe_callB (call_len_seqK K rfl) (by rfl) T.m_len (by decide +kernel) (pa_cons (pv 2) pa_nil)) pa_nil)) (pg_name (i := 10) sc_law_worked.nd rfl (Or.inl rfl))
        (pss_one (ps_for PassesOwn.never rfl (pi_range1 (by rfl) T.m_range (pa_cons (pe_callB (call_len_seqK K rfl) (by rfl) T.m_len (by decide +kernel) (pa_cons (pv 2) pa_nil)) pa_nil)) (pg_name (i := 8) sc_law_worked.nd rfl (Or.inl rfl))
        (pss_cons (ps_if (pt_cmp (pc_din (hu_of hr) (pv 8) (pv 9)) (by with_unfolding_all rfl)) (pss_one ps_continue) pss_nil)
      (pss_cons (ps_set (i := 11) sc_law_worked.nd rfl (Or.inl rfl) (pe_lst pa_nil))
      (pss_cons (ps_for PassesOwn.never rfl (pi_tupK K rfl (pv 3)) (pg_tupK K rfl rfl (pgs_cons (pg_name (i := 12) sc_law_worked.nd rfl (Or.inl rfl)) (pgs_cons (pg_name (i := 13) sc_law_worked.nd rfl (Or.inl rfl)) (pgs_cons (pg_name (i := 14) sc_law_worked.nd rfl (Or.inl rfl)) pgs_nil))))
        (pss_one (ps_if (PW.pt (pw_and (pt_cmpR op_eq (pv 13) (pv 8) (nomark _)) (pw_and1 (pt_cmpR op_lt (pv 5) (pe_callB (call_len_seqK K rfl) (by rfl) T.m_len (by decide +kernel) (pa_cons (pv 14) pa_nil)) (nomark _))))) (pss_one (ps_expr (pe_bmK K rfl PySem.F.plainAttrs_list PySem.F.slot_list_append PySem.F.type_list_append mt_append (pv 11) (pa_cons (pe_ix (ix_tupK K rfl) (pv 14) (pv 5) (fun _ _ => rfl)) pa_nil)))) (pss_one (ps_if (PW.pt (pw_and (pt_cmpR op_eq (pv 13) (pv 8) (nomark _)) (pw_and1 (pt_cmpR op_gt (pe_callB (call_len_seqK K rfl) (by rfl) T.m_len (by decide +kernel) (pa_cons (pv 14) pa_nil)) pe_int (nomark _))))) (pss_one (ps_expr (pe_bmK K rfl PySem.F.plainAttrs_list PySem.F.slot_list_append PySem.F.type_list_append mt_append (pv 11) (pa_cons (pe_ix (ix_tupK K rfl) (pe_ix (ix_listK K rfl) (pv 4) (pe_op op_sub (pv 5) (pe_callB (call_len_seqK K rfl) (by rfl) T.m_len (by decide +kernel) (pa_cons (pv 14) pa_nil))) (fun _ _ => rfl)) (pv 12) (fun _ _ => rfl)) pa_nil)))) (pss_one (ps_if (PW.pt (pw_and (pt_cmpR op_eq (pv 13) (pv 8) (nomark _)) (pw_and1 (pt_cmp (pc_din (hu_of hr) (pv 12) (pv 9)) (by with_unfolding_all rfl))))) (pss_one (ps_expr (pe_bmK K rfl PySem.F.plainAttrs_list PySem.F.slot_list_append PySem.F.type_list_append mt_append (pv 11) (pa_cons (pe_dget (hu_of hr) (pv 9) (pv 12) (fun _ _ => rfl)) pa_nil)))) pss_nil)))))))
      (pss_one (ps_if (pt_cmpR op_eq (pe_callB (call_len_seqK K rfl) (by rfl) T.m_len (by decide +kernel) (pa_cons (pv 11) pa_nil)) (pe_call G_law_needs (hr.mono (by decide)) (by rfl) m_law_needs F_law_needs.kp b_law_needs .nil pass0 (pa_cons (pe_ix (ix_tupK K rfl) (pe_ix (ix_tupK K rfl) (pv 2) (pv 8) (fun _ _ => rfl)) pe_int (fun _ _ => rfl)) pa_nil)) (nomark _)) (pss_one (ps_dput (hu_of hr) (pv 9) (pv 8) (pe_call G_law_made_by (hr.mono (by decide)) (by rfl) m_law_made_by F_law_made_by.kp b_law_made_by .nil pass0 (pa_cons (pe_ix (ix_tupK K rfl) (pe_ix (ix_tupK K rfl) (pv 2) (pv 8) (fun _ _ => rfl)) pe_int (fun _ _ => rfl)) (pa_cons (pv 11) pa_nil))) (by rfl))) pss_nil))))))))
      (pss_one (ps_expr (pe_bmK K rfl PySem.F.plainAttrs_list PySem.F.slot_list_append PySem.F.type_list_append mt_append (pv 4) (pa_cons (pe_callTy (call_tuple_ofK K rfl) (by rfl) T.m_tuple (by decide +kernel) (pa_cons (pe_lc (own := [("_law_k", 8)]) (g := gName 8) (tt := tYes) (by rfl) sc_law_worked.nd (pi_range1 (by rfl) T.m_range (pa_cons (pe_callB (call_len_seqK K rfl) (by rfl) T.m_len (by decide +kernel) (pa_cons (pv 2) pa_nil)) pa_nil)) (blkOk_by (own := [("_law_k", 8)]) (N := N_law_worked) (sc := defScope s_law_worked) (by decide +kernel)) (fun _ _ _ _ _ => (pg_name (i := 8) sc_law_worked.nd rfl (Or.inl rfl))) (fun _ _ _ _ _ => pts_nil) (fun _ _ _ _ _ => (pe_dget (hu_of hr) (pv 9) (pv 8) (fun _ _ => rfl)))) pa_nil)) pa_nil))))))))
      (pss_one (ps_ret (pv 4)))))), ?_⟩
  refine ⟨_, rfl, r, _, rfl, SqT.of er, rfl, _, _, rfl, _, _, rfl, rfl, (by show 0 ≤ sizeLine; decide), fun fo nfo => ?_⟩
  have s1 : Same H (upd H fo (.lst [])) := same_new nfo
  refine or_enum (a := a) (xs := rv) (fun Q q => ⟨_, rfl, q⟩) (hrv.imp (s1 _ _) (s1 _ _)) (fun J gj sj yj => for_it (J := J) (n := rv.length) (fun t σ H2 => ∃ (fv : List V) (ms : List (List Int)) (v5 v6 v7 v8 v9 v10 v11 v12 v13 v14 : Option V), σ = sgW r a ha ba fo v5 v6 v7 v8 v9 v10 v11 v12 v13 v14 ∧ H2 fo = some (.lst fv) ∧ All2 (RowAt H2) fv ms ∧ WS hs bs (rows.take t) ms ∧ Same H H2)
    ⟨[], [], none, none, none, none, none, none, none, none, none, none, rfl, upd_same, .nil, WS.nil, s1⟩ ?_ ?_ ?_ ?_)
  · rintro t σ H2 ht ⟨fv, ms, v5, v6, v7, v8, v9, v10, v11, v12, v13, v14, rfl, hfo, alf, ws, s2⟩
    exact gj t H2 ((either_stays s2 hrv).trans (either_stays s1 hrv).symm) ht
  · rintro σ H2 ⟨fv, ms, v5, v6, v7, v8, v9, v10, v11, v12, v13, v14, rfl, hfo, alf, ws, s2⟩
    exact sj H2 ((either_stays s2 hrv).trans (either_stays s1 hrv).symm)
  · rintro t x σ H2 H3 htl ⟨fv, ms, v5, v6, v7, v8, v9, v10, v11, v12, v13, v14, rfl, hfo, alf, ws, s2⟩ y
    obtain ⟨tt, x, rfl, ntt, rfl, ex⟩ := yj t H2 x H3 ((either_stays s2 hrv).trans (either_stays s1 hrv).symm) y
    obtain ⟨row, er2, ⟨tr, rfl, htr⟩⟩ := alr.getL ex
    have lms : ms.length = t := by
      have := ws.len
      rw [List.length_take] at this
      omega
    have lrow := hw row (List.mem_of_getElem? er2)
    have mrow := ws.row
    have s3 := s2.trans (same_new (o := .tup [nV t, V.ref tr]) ntt)
    have hfo3 := same_new (o := .tup [nV t, V.ref tr]) ntt _ _ hfo
    refine ⟨tt, _, rfl, SqT.of upd_same, rfl, _, _, rfl, _, _, rfl, rfl, ?_⟩
    -- the in doors
    refine ⟨_, rfl, ha, _, rfl, .inr (SqT.of (s3 _ _ eh)), _, rfl, by omega, by omega, fun D nD => lc_range (lo := 0) (n := hv.length) (fun i H5 => H5 D = some (.lst (((List.range i).filter fun j => decide (hs[j]?.map HR.wd = some ("in" : Str))).map nV)) ∧ Same (upd H2 tt (.tup [nV t, V.ref tr])) H5) ⟨upd_same, same_new nD⟩ ?_ ?_⟩
    · rintro i H5 hi ⟨hD, s5⟩
      have eh1 : hs[i]? = some hs[i] := List.getElem?_eq_getElem (by omega)
      obtain ⟨x, ex, ⟨t1, g, rfl, e1, e2⟩⟩ := alh.get eh1
      have gh := ok.good _ (List.mem_of_getElem? eh1)
      have few := filt_len (p := fun j => decide (hs[j]?.map HR.wd = some ("in" : Str))) i
      have s4 := s3.trans s5
      refine ⟨rfl, _, rfl, _, rfl, ha, _, _, _, rfl, rfl, SqT.of (s4 _ _ eh), at0 ex, t1, _, _, _, rfl, rfl, SqT.of (s4 _ _ e1), atI_nat (j := 0) rfl, (by show 1 ≤ sizeLine; decide), fun o1 no1 => ?_⟩
      have s6 := s5.trans (same_new (o := .tup [V.str "in"]) no1)
      have hD6 := same_new (o := .tup [V.str "in"]) no1 _ _ hD
      refine ⟨_, _, rule_dp ((s3.trans s6) _ _ e2), .tup (SqT.of upd_same) (.cons (.str _) .nil), rule_shaped gh.lay, one_shaped (by decide +kernel), _, rfl, ?_⟩
      rw [rule_eqv, gh.door "in" (.inl rfl)]
      by_cases c : hs[i].wd = "in"
      · rw [decide_eq_true c]
        refine if_bl (fun _ => ⟨_, rfl, _, hD6, by rw [List.length_map]; exact small1000 (by omega), ?_, Same.own s6 nD⟩) (fun z => nomatch z)
        rw [upd_same, filt_succ, if_pos (decide_eq_true (by rw [eh1, ← c]; rfl)), List.map_append, Int.zero_add]
        rfl
      · rw [decide_eq_false c]
        refine if_bl (fun z => nomatch z) (fun _ => ⟨?_, s6⟩)
        rw [filt_succ, if_neg fun z => c (by have := of_decide_eq_true z; rw [eh1] at this; exact Option.some.inj this), List.append_nil]
        exact hD6
    · rintro H4 ⟨hD, s4⟩
      have hD : H4 D = some (.lst ((doorsOf "in" hs).map nV)) := by rw [hD, lhv]; rfl
      have s5 := s3.trans s4
      refine ⟨_, rfl, _, rfl, D, tr, (doorsOf "in" hs).map kN, row.map V.int, rfl, SqL.of (by rw [hD, List.map_map]; rfl), SqT.of (s5 _ _ htr), fun d nd => ?_⟩
      obtain ⟨cur, hcur⟩ : ∃ cur, cur = stand bs ms := ⟨_, rfl⟩
      have bok : BellOk hs cur := by rw [hcur]; exact ok.bell ms
      have crk : ∀ p ∈ looseOf cur, rk p.1 < rk p.2 := by rw [hcur, loose_stand]; exact hrk
      have len0 : (mergeK [] (((doorsOf "in" hs).map kN).zip (row.map V.int))).length ≤ 12 := by
        refine Nat.le_trans (length_mergeK _ []) ?_
        rw [List.length_zip, List.length_map, List.length_map, List.length_nil]
        omega
      have miss0 : ∀ pm, (missing hs.length pm).length ≤ hs.length := fun pm => filt_len _
      have lw0 : LW hs cur row d H4 (upd H4 d (.dK (mergeK [] (((doorsOf "in" hs).map kN).zip (row.map V.int))))) _ (doorM hs row) := ⟨upd_same, doorM_dm lrow, doorM_part, fun k h e w => doorM_all lrow e w, same_new nd⟩
      -- the rounds
      refine ⟨_, rfl, ha, _, rfl, .inr (SqT.of (lw0.same _ _ (s5 _ _ eh))), _, rfl, by omega, by omega, for_range (lo := 0) (n := hv.length) (fun i σ H5 => ∃ (w8 w10 w11 w12 w13 w14 : Option V) (kvs : List (Key × V)) (pm : Nat → Option Int), σ = sgW r a ha ba fo (some (nV t)) (some (.ref tr)) (some (.ref D)) w8 (some (.ref d)) w10 w11 w12 w13 w14 ∧ LW hs cur row d H4 H5 kvs pm ∧ kvs.length ≤ 12 + 12 * i ∧ (missing hs.length pm).length + i ≤ hs.length)
        ⟨_, _, _, _, _, _, _, _, rfl, lw0, len0, by have := miss0 (doorM hs row); omega⟩ ?_ ?_⟩
      · rintro i σ H5 hi ⟨w8, w10, w11, w12, w13, w14, kvs, pm, rfl, lw, lk, lm⟩
        have lw6 := lw
        obtain ⟨ll, hll⟩ : ∃ ll, ll = missing hs.length pm := ⟨_, rfl⟩
        have lll : ll.length ≤ 12 := by rw [hll]; have := miss0 pm; omega
        have ndl : ll.Nodup := by rw [hll]; exact List.nodup_range.filter _
        have mll : ∀ k ∈ ll, k < hs.length ∧ pm k = none := fun k hk => mem_missing.mp (by rw [← hll]; exact hk)
        have nll : ∀ k, k < hs.length → k ∉ ll → (pm k).isSome = true := fun k hk hn => by
          cases e : pm k with
          | none => exact absurd (by rw [hll]; exact mem_missing.mpr ⟨hk, e⟩) hn
          | some v => rfl
        -- each of them
        refine ⟨_, rfl, ha, _, rfl, .inr (SqT.of (lw.same _ _ (s5 _ _ eh))), _, rfl, by omega, by omega, for_range (lo := 0) (n := hv.length) (fun j σ H7 => ∃ (w8 w11 w12 w13 w14 : Option V) (kvs' : List (Key × V)) (pm' : Nat → Option Int), σ = sgW r a ha ba fo (some (nV t)) (some (.ref tr)) (some (.ref D)) w8 (some (.ref d)) (some (.int (0 + ((i : Nat) : Int)))) w11 w12 w13 w14 ∧ LW hs cur row d H4 H7 kvs' pm' ∧ kvs'.length ≤ 12 + 12 * i + j ∧ (∀ k, (pm k).isSome = true → pm' k = pm k) ∧ (∀ k, j ≤ k → pm' k = pm k) ∧ (∀ k ∈ ll, k < j → free (looseOf cur) ll k → (pm' k).isSome = true))
          ⟨_, _, _, _, _, kvs, pm, rfl, lw6, by omega, fun _ _ => rfl, fun k hk => rfl, fun k hk hj => absurd hj (Nat.not_lt_zero _)⟩ ?_ ?_⟩
        · rintro k σ H7 kv ⟨u8, u11, u12, u13, u14, kvs', pm', rfl, lw7, lk7, ext, rest, done⟩
          show tIfS _ _ _ _ (sgW r a ha ba fo (some (nV t)) (some (.ref tr)) (some (.ref D)) (some (.int (0 + ((k : Nat) : Int)))) (some (.ref d)) (some (.int (0 + ((i : Nat) : Int)))) u11 u12 u13 u14) H7
          rw [Int.zero_add (k : Int)]
          have kn : k < hs.length := by omega
          refine ⟨_, rfl, _, rfl, d, _, rfl, dget_of lw7.at_ (lw7.dm k), _, rfl, if_bl (fun c => ?_) (fun c => ?_)⟩
          · rw [Option.isSome_map] at c
            refine ⟨_, _, _, _, _, kvs', pm', rfl, lw7, by omega, ext, fun j hj => rest j (by omega), fun j hj jk fr => ?_⟩
            by_cases e : j = k
            · rw [e]; exact c
            · exact done j hj (by omega) fr
          rw [Option.isSome_map] at c
          have new : pm' k = none := by
            cases e : pm' k with
            | none => rfl
            | some v => rw [e] at c; cases c
          have kz : pm k = none := by rw [← rest k (Nat.le_refl _)]; exact new
          have eh2 : hs[k]? = some hs[k] := List.getElem?_eq_getElem kn
          have win : hs[k].wd ≠ "in" := fun z => by
            have := lw7.door k _ eh2 z
            rw [new] at this
            cases this
          have gk := ok.good _ (List.mem_of_getElem? eh2)
          have isfree : free (looseOf cur) ll k → ∀ b ∈ cur, b.to = k → b.th = [] → (pm' b.one).isSome = true := fun fr b b1 b2 b3 => by
            have e := nll b.one (bok.ends b b1).1 (fr _ (mem_loose b1 b3) b2)
            rw [ext _ e]
            exact e
          refine ⟨(by show 0 ≤ sizeLine; decide), fun tl ntl => ?_⟩
          have lw8 := lw7.go (same_new (o := .lst []) ntl)
          have hba := s5 _ _ eb
          obtain ⟨f, hf⟩ : ∃ f : Nat → Int, f = fun j => (pm' j).getD 0 := ⟨_, rfl⟩
          -- what is there for it
          refine ⟨_, rfl, ba, rfl, ⟨_, SqT.of (lw8.same _ _ hba)⟩, for_tup (K := K) (a := ba) (xs := bv) (fun m σ H8 => ∃ (z11 z13 z14 : Option V), σ = sgW r a ha ba fo (some (nV t)) (some (.ref tr)) (some (.ref D)) (some (nV k)) (some (.ref d)) (some (.int (0 + ((i : Nat) : Int)))) (some (.ref tl)) z11 z13 z14 ∧ H8 tl = some (.lst ((((cur.take m).filter (av pm' k)).map (valB f)).map V.int)) ∧ Same H7 H8)
            ⟨_, _, _, rfl, upd_same, same_new ntl⟩ (fun m σ H8 _ ⟨_, _, _, _, _, s8⟩ => SqT.of (s8 _ _ (lw7.same _ _ hba))) ?_ ?_⟩
          · rintro m x σ H8 hx ⟨z11, z13, z14, rfl, hth, s8⟩
            obtain ⟨b, eb2, ⟨t1, g1, rfl, e1, e2⟩⟩ := alb.getL hx
            have ml := (List.getElem?_eq_some_iff.mp eb2).1
            have ec : cur[m]? = some (standB ms b) := by rw [hcur, List.getElem?_map, eb2]; rfl
            have s9 := (s5.trans lw7.same).trans s8
            have few : (((cur.take m).filter (av pm' k)).map (valB f)).length ≤ 20 := by
              rw [List.length_map]
              refine Nat.le_trans (List.length_filter_le ..) ?_
              rw [List.length_take]
              have := bok.belts
              omega
            have step : ∀ v : Int, av pm' k (standB ms b) = true → v = valB f (standB ms b) → (upd H8 tl (.lst ((((cur.take m).filter (av pm' k)).map (valB f)).map V.int ++ [V.int v]))) tl = some (.lst ((((cur.take (m + 1)).filter (av pm' k)).map (valB f)).map V.int)) := fun v h1 h2 => by
              rw [upd_same, List.take_add_one, ec, List.filter_append, List.map_append, List.map_append, h2]
              simp [h1]
            have stay : av pm' k (standB ms b) = false → H8 tl = some (.lst ((((cur.take (m + 1)).filter (av pm' k)).map (valB f)).map V.int)) := fun h1 => by
              rw [hth, List.take_add_one, ec, List.filter_append, List.map_append, List.map_append]
              simp [h1]
            have avto : b.to ≠ k → av pm' k (standB ms b) = false := fun z => by
              unfold av
              rw [stand_to, decide_eq_false z, Bool.false_and]
            have avth : b.to = k → b.th ≠ [] → av pm' k (standB ms b) = true := fun z1 z2 => by
              unfold av
              rw [stand_to, decide_eq_true z1, Bool.true_and]
              have : (standB ms b).th ≠ [] := fun z => z2 ((stand_th ms b).mp z)
              cases e : (standB ms b).th with
              | nil => exact absurd e this
              | cons x l => rfl
            have avno : b.to = k → b.th = [] → av pm' k (standB ms b) = (pm' b.one).isSome := fun z1 z2 => by
              unfold av
              rw [stand_to, decide_eq_true z1, Bool.true_and, (stand_th ms b).mpr z2, stand_one]
              rfl
            have own : ∀ {ys : List V}, Same H7 (upd H8 tl (.lst ys)) := Same.own s8 ntl
            refine ⟨t1, _, rfl, SqT.of (s9 _ _ e1), rfl, _, _, rfl, _, _, rfl, _, _, rfl, rfl, ?_⟩
            have sz : ((((cur.take m).filter (av pm' k)).map (valB f)).map V.int).length < sizeLine := by rw [List.length_map]; exact small1000 (by omega)
            refine ⟨_, rfl, _, rfl, rfl, _, rfl, if_bl (fun c => ?_) (fun c => ?_)⟩
            · have c : b.to = k := by have := V.int.inj (of_decide_eq_true c); omega
              refine ⟨_, rfl, _, rfl, g1, _, rfl, .inr (SqT.of (s9 _ _ e2)), _, _, rfl, rfl, _, rfl, if_bl (fun c2 => ?_) (fun c2 => ?_)⟩
              · have c2 : ms.length < b.th.length := by
                  have := of_decide_eq_true c2
                  rw [List.length_map] at this
                  omega
                refine ⟨_, rfl, .inl ⟨rfl, _, SqL.of hth⟩, _, rfl, _, rfl, g1, _, _, _, rfl, rfl, SqT.of (s9 _ _ e2), atI_nat (j := t) (by rw [← lms, List.getElem?_map, head_first f c2]; rfl), tl, _, _, rfl, rfl, hth, sz, ?_⟩
                exact ⟨_, _, _, rfl, step _ (avth c fun z => by rw [z] at c2; exact absurd c2 (Nat.not_lt_zero _)) rfl, own⟩
              have c2 : b.th.length ≤ ms.length := by
                have := of_decide_eq_false c2
                rw [List.length_map] at this
                omega
              refine ⟨_, rfl, _, rfl, rfl, _, rfl, if_bl (fun _ => ?_) (fun z => absurd (show V.int ((b.to : Nat) : Int) = V.int ((k : Nat) : Int) by rw [c]) (of_decide_eq_false z))⟩
              refine ⟨_, rfl, g1, _, rfl, .inr (SqT.of (s9 _ _ e2)), _, _, rfl, rfl, _, rfl, if_bl (fun c3 => ?_) (fun c3 => ?_)⟩
              · have c3 : b.th ≠ [] := fun z => by
                  have := of_decide_eq_true c3
                  rw [z] at this
                  exact absurd this (by decide)
                have pos := List.length_pos_iff.mpr c3
                have em : ms[ms.length - b.th.length]? = some (ms[ms.length - b.th.length]'(by omega)) := List.getElem?_eq_getElem _
                obtain ⟨mm, hmm⟩ : ∃ mm, mm = ms[ms.length - b.th.length]'(by omega) := ⟨_, rfl⟩
                rw [← hmm] at em
                obtain ⟨vm, evm, ⟨tm, rfl, htm⟩⟩ := alf.get em
                have lmm := mrow mm (List.mem_of_getElem? em)
                have s10 := ((same_new (o := .tup [nV t, V.ref tr]) ntt).trans (s4.trans lw7.same)).trans s8
                refine ⟨_, rfl, .inl ⟨rfl, _, SqL.of hth⟩, _, rfl, _, rfl, _, rfl, g1, _, rfl, .inr (SqT.of (s9 _ _ e2)), _, _, rfl, rfl, fo, fv, _, _, rfl, rfl, SqL.of (s10 _ _ hfo), ?_, _, rfl, tm, _, _, _, rfl, rfl, SqT.of (s10 _ _ htm), at_row (k := b.one) (by have := (ok.ends b (List.mem_of_getElem? eb2)).1; omega), tl, _, _, rfl, rfl, hth, sz, ?_⟩
                · rw [List.length_map, show ((t : Nat) : Int) - ((b.th.length : Nat) : Int) = ((ms.length - b.th.length : Nat) : Int) by omega]
                  exact atI_nat evm
                · exact ⟨_, _, _, rfl, step _ (avth c c3) (head_later f c3 c2 em).symm, own⟩
              have c3 : b.th = [] := by
                cases e : b.th with
                | nil => rfl
                | cons x l =>
                  have := of_decide_eq_false c3
                  rw [e] at this
                  exact absurd (by show (0 : Int) < (((x :: l).map V.int).length : Nat); simp) this
              have an := avno c c3
              refine ⟨_, rfl, _, rfl, rfl, _, rfl, if_bl (fun _ => ?_) (fun z => absurd (show V.int ((b.to : Nat) : Int) = V.int ((k : Nat) : Int) by rw [c]) (of_decide_eq_false z))⟩
              have lw9 := lw7.go s8
              refine ⟨_, rfl, _, rfl, d, _, rfl, dget_of lw9.at_ (lw9.dm b.one), _, rfl, if_bl (fun c4 => ?_) (fun c4 => ?_)⟩
              · rw [Option.isSome_map] at c4
                obtain ⟨v, hv2⟩ := Option.isSome_iff_exists.mp c4
                refine ⟨_, rfl, .inl ⟨rfl, _, SqL.of hth⟩, _, rfl, _, rfl, d, .int v, rfl, dget_of lw9.at_ (by rw [lw9.dm, hv2]; rfl), tl, _, _, rfl, rfl, hth, sz, ?_⟩
                refine ⟨_, _, _, rfl, step _ (by rw [an]; exact c4) ?_, own⟩
                rw [valB_nil ((stand_th ms b).mpr c3), stand_one, hf]
                show v = (pm' b.one).getD 0
                rw [hv2]
                rfl
              · rw [Option.isSome_map] at c4
                exact ⟨_, _, _, rfl, stay (by rw [an]; exact c4), s8⟩
            · have c : b.to ≠ k := fun z => of_decide_eq_false c (by rw [z])
              have cf : ¬ (V.int ((b.to : Nat) : Int) = V.int ((k : Nat) : Int)) := fun z => c (by have := V.int.inj z; omega)
              refine ⟨_, rfl, _, rfl, rfl, _, rfl, if_bl (fun z => absurd (of_decide_eq_true z) cf) (fun _ => ?_)⟩
              refine ⟨_, rfl, _, rfl, rfl, _, rfl, if_bl (fun z => absurd (of_decide_eq_true z) cf) (fun _ => ?_)⟩
              exact ⟨_, _, _, rfl, stay (avto c), s8⟩
          · rintro σ H8 ⟨z11, z13, z14, rfl, hth, s8⟩
            rw [lbv, List.take_of_length_le (by rw [hcur, List.length_map]; exact Nat.le_refl _)] at hth
            have lw8 := lw7.go s8
            have s9 := s5.trans lw8.same
            obtain ⟨xs, hxs⟩ : ∃ xs, xs = (cur.filter (av pm' k)).map (valB f) := ⟨_, rfl⟩
            rw [← hxs] at hth
            obtain ⟨v, ev, ⟨tk, rk2, rfl, h1, h2⟩⟩ := alh.get eh2
            have lxs : xs.length = (cur.filter (av pm' k)).length := by rw [hxs, List.length_map]
            have cnt := bok.count k _ eh2
            rw [← filt_to] at cnt
            refine ⟨_, rfl, tl, _, rfl, .inl (SqL.of hth), _, rfl, _, rfl, ha, _, _, _, rfl, rfl, SqT.of (s9 _ _ eh), atI_nat ev, tk, _, _, _, rfl, rfl, SqT.of (s9 _ _ h1), atI_nat (j := 0) rfl, rk2, hs[k].wd, _, rfl, SqT.of (s9 _ _ h2), fun H9 s10 => ⟨rfl, _, rfl, if_bl (fun c => ?_) (fun c => ?_)⟩⟩
            · have c : ((xs.length : Nat) : Int) = needs hs[k].wd := by
                have := V.int.inj (of_decide_eq_true c)
                rw [List.length_map] at this
                exact this
              have there := av_len (cur := cur) (pm := pm') (k := k) (by omega)
              have ex2 : xs = takes cur f k := by
                rw [hxs, av_all there]
                rfl
              have s11 := s9.trans s10
              refine ⟨_, rfl, _, rfl, ha, _, _, _, rfl, rfl, SqT.of (s11 _ _ eh), atI_nat ev, tk, _, _, _, rfl, rfl, SqT.of (s11 _ _ h1), atI_nat (j := 0) rfl, _, rfl, rk2, tl, hs[k], xs, rfl, s11 _ _ h2, s10 _ _ hth, gk, win, c, fun H10 s12 => ?_⟩
              have lw10 := lw8.go (s10.trans s12)
              refine ⟨_, rfl, _, rfl, d, _, rfl, DPut.k (k := kN k) lw10.at_ (small1000 (by omega)), ?_⟩
              refine ⟨_, _, _, _, _, _, putM pm' k (mkR hs[k] xs), rfl, ⟨upd_same, lw10.dm.put k _, ?_, fun j h e w => ?_, Same.own lw10.same nd⟩, ?_, fun j hj => ?_, fun j hj => ?_, fun j hj jk fr => ?_⟩
              · rw [ex2, hf]
                exact lw10.part.put eh2 win new there
              · by_cases e' : j = k
                · rw [show putM pm' k (mkR hs[k] xs) j = some _ from if_pos e']; rfl
                · rw [show putM pm' k (mkR hs[k] xs) j = pm' j from if_neg e']
                  exact lw10.door j h e w
              · have := length_putK kvs' (kN k) (V.int (mkR hs[k] xs))
                exact Nat.le_trans this (by omega)
              · have e' : j ≠ k := fun z => by rw [z, kz] at hj; cases hj
                rw [show putM pm' k (mkR hs[k] xs) j = pm' j from if_neg e']
                exact ext j hj
              · have e' : j ≠ k := by omega
                rw [show putM pm' k (mkR hs[k] xs) j = pm' j from if_neg e']
                exact rest j (by omega)
              · by_cases e' : j = k
                · rw [show putM pm' k (mkR hs[k] xs) j = some _ from if_pos e']; rfl
                · rw [show putM pm' k (mkR hs[k] xs) j = pm' j from if_neg e']
                  exact done j hj (by omega) fr
            · have c : ¬ ((xs.length : Nat) : Int) = needs hs[k].wd := fun z => of_decide_eq_false c (by rw [List.length_map, z])
              have nofree : ¬ free (looseOf cur) ll k := fun fr => c (by
                have := av_all (isfree fr)
                rw [lxs, this]
                exact cnt)
              refine ⟨_, _, _, _, _, kvs', pm', rfl, lw8.go s10, by omega, ext, fun j hj => rest j (by omega), fun j hj jk fr => ?_⟩
              by_cases e : j = k
              · rw [e] at fr; exact absurd fr nofree
              · exact done j hj (by omega) fr
        · rintro σ H7 ⟨u8, u11, u12, u13, u14, kvs', pm', rfl, lw7, lk7, ext, rest, done⟩
          refine ⟨_, _, _, _, _, _, kvs', pm', rfl, lw7, by omega, ?_⟩
          have mono : ∀ k, (!(pm' k).isSome) = true → (!(pm k).isSome) = true := fun k hk => by
            cases e : (pm k).isSome with
            | false => rfl
            | true => rw [ext k e, e] at hk; cases hk
          by_cases e : ll = []
          · have le : (missing hs.length pm').length ≤ ll.length := by rw [hll]; exact filt_le mono _
            rw [e] at le
            have : (missing hs.length pm').length = 0 := Nat.le_zero.mp le
            omega
          · obtain ⟨k, hk, fr⟩ := some_free crk e
            obtain ⟨kn, kz⟩ := mll k hk
            have dk := done k hk (by omega) fr
            have : (missing hs.length pm').length < (missing hs.length pm).length := filt_lt mono (List.mem_range.mpr kn) (by rw [kz]; rfl) (by rw [dk]; rfl)
            omega
      · rintro σ H5 ⟨w8, w10, w11, w12, w13, w14, kvs, pm, rfl, lw, lk, lm⟩
        have m0 : missing hs.length pm = [] := List.eq_nil_of_length_eq_zero (by omega)
        have full : ∀ k, k < hs.length → (pm k).isSome = true := fun k hk => by
          cases e : pm k with
          | none =>
            have := mem_missing.mpr ⟨hk, e⟩
            rw [m0] at this
            cases this
          | some v => rfl
        have s6 := s5.trans lw.same
        have s7 := (same_new (o := .tup [nV t, V.ref tr]) ntt).trans (s4.trans lw.same)
        refine ⟨_, rfl, .inl ⟨rfl, _, SqL.of (s7 _ _ hfo)⟩, _, rfl, ha, _, rfl, .inr (SqT.of (s6 _ _ eh)), _, rfl, by omega, by omega, fun M nM => lc_range (lo := 0) (n := hv.length) (fun j H6 => H6 M = some (.lst ((fullM j pm).map V.int)) ∧ H6 d = some (.dK kvs) ∧ Same H5 H6) ⟨upd_same, same_new nM _ _ lw.at_, same_new nM⟩ ?_ ?_⟩
        · rintro j H6 hj ⟨hM, hd6, s8⟩
          obtain ⟨v, ev⟩ := Option.isSome_iff_exists.mp (full j (by omega))
          refine ⟨rfl, yes_in ⟨_, rfl, _, rfl, d, .int v, rfl, dget0 hd6 (by rw [lw.dm, ev]; rfl), _, hM, ?_, ?_, ?_, Same.own s8 nM⟩⟩
          · rw [List.length_map, List.length_map, List.length_range]; exact small1000 (by omega)
          · rw [upd_same]
            unfold fullM
            rw [List.range_succ, List.map_append, List.map_append]
            simp [ev]
          · rw [upd_ne (ne_of_none lw.at_ nM)]; exact hd6
        · rintro H6 ⟨hM, hd6, s8⟩
          rw [lhv] at hM
          refine ⟨M, _, rfl, .inl ⟨SqL.of hM, fun p np => ?_⟩⟩
          have s9 := (s7.trans s8).trans (same_new (o := .tup ((fullM hs.length pm).map V.int)) np)
          have hfo9 := s9 _ _ hfo
          refine ⟨fo, _, _, rfl, rfl, hfo9, by rw [alf.length, lms]; exact small1000 (by omega), ?_⟩
          refine ⟨fv ++ [V.ref p], ms ++ [fullM hs.length pm], _, _, _, _, _, _, _, _, _, _, rfl, upd_same, ?_, ?_, Same.own (s2.trans s9) nfo⟩
          · exact ((alf.imp fun _ _ z => z.keep (TK.same s9)).snoc ⟨p, rfl, upd_same⟩).imp fun _ _ z => z.keep (TK.lst hfo9)
          · rw [List.take_add_one, er2]
            have := lw.part.full full
            rw [hcur] at this
            exact ws.snoc this
  · rintro σ H2 ⟨fv, ms, v5, v6, v7, v8, v9, v10, v11, v12, v13, v14, rfl, hfo, alf, ws, s2⟩
    rw [lrv, List.take_length] at ws
    exact ⟨_, rfl, q fo fv ms H2 nfo hfo alf ws s2⟩
end
/-! ### data of known size -/
structure Neat (d : PyData) (dp wt : Nat) : Prop where
  lay : d.canLay0 = true
  dep : d.depth ≤ dp
  wei : d.weight ≤ wt
  sho : d.intsShort 13 = true
  say : d.showable = true
  nod : d.hasDict = false
structure NeatAll (ds : List PyData) (dp wt : Nat) : Prop where
  lay : PyData.canLayAll0 ds = true
  dep : PyData.depthAll ds ≤ dp
  wei : PyData.weightAll ds ≤ wt
  sho : PyData.intsShortAll 13 ds = true
  say : PyData.showableAll ds = true
  nod : PyData.hasDictAll ds = false
theorem Neat.non {dp : Nat} : Neat .none dp 0 := ⟨rfl, Nat.zero_le _, Nat.le_refl _, by simp [PyData.intsShort], by simp [PyData.showable], by simp [PyData.hasDict]⟩
theorem Neat.bool {b : Bool} {dp : Nat} : Neat (.bool b) dp 0 := ⟨rfl, Nat.zero_le _, Nat.le_refl _, by simp [PyData.intsShort], by simp [PyData.showable], by simp [PyData.hasDict]⟩
theorem Neat.int {i : Int} {dp : Nat} (h : i.natAbs < 10 ^ 12) : Neat (.int i) dp 41 := by
  have l : i.natAbs.log2 < 40 := by
    by_cases z : i.natAbs = 0
    · rw [z]; decide
    · exact (Nat.log2_lt z).mpr (Nat.lt_trans h (by decide))
  refine ⟨rfl, Nat.zero_le _, ?_, ?_, ?_, by simp [PyData.hasDict]⟩
  · simp only [PyData.weight]
    split <;> omega
  · simp only [PyData.intsShort, decide_eq_true_eq]
    exact PyData.shown_int_le h
  · simp only [PyData.showable, decide_eq_true_eq]
    omega
theorem Neat.str {x : Str} {n dp : Nat} (h : PyData.canLay0 (.str x) = true) (hn : x.cps.size ≤ n) : Neat (.str x) dp n := ⟨h, Nat.zero_le _, hn, by simp [PyData.intsShort], by simp [PyData.showable], by simp [PyData.hasDict]⟩
theorem NeatAll.nil {dp : Nat} : NeatAll [] dp 0 := ⟨rfl, Nat.zero_le _, Nat.le_refl _, by simp [PyData.intsShortAll], by simp [PyData.showableAll], by simp [PyData.hasDictAll]⟩
theorem NeatAll.cons {d : PyData} {ds : List PyData} {dp a b : Nat} (h : Neat d dp a) (t : NeatAll ds dp b) : NeatAll (d :: ds) dp (a + 1 + b) := by
  refine ⟨?_, ?_, ?_, ?_, ?_, ?_⟩
  · simp only [PyData.canLayAll0, h.lay, t.lay, Bool.and_self]
  · simp only [PyData.depthAll]
    exact Nat.max_le.mpr ⟨h.dep, t.dep⟩
  · simp only [PyData.weightAll]
    have := h.wei
    have := t.wei
    omega
  · simp only [PyData.intsShortAll, h.sho, t.sho, Bool.and_self]
  · simp only [PyData.showableAll, h.say, t.say, Bool.and_self]
  · simp only [PyData.hasDictAll, h.nod, t.nod, Bool.or_self]
theorem Neat.mono {d : PyData} {a b c e : Nat} (h : Neat d a b) (x : a ≤ c) (y : b ≤ e) : Neat d c e := ⟨h.lay, Nat.le_trans h.dep x, Nat.le_trans h.wei y, h.sho, h.say, h.nod⟩
theorem NeatAll.mono {d : List PyData} {a b c e : Nat} (h : NeatAll d a b) (x : a ≤ c) (y : b ≤ e) : NeatAll d c e := ⟨h.lay, Nat.le_trans h.dep x, Nat.le_trans h.wei y, h.sho, h.say, h.nod⟩
theorem Neat.tup {ds : List PyData} {dp n : Nat} (h : NeatAll ds dp n) : Neat (.tuple ds) (dp + 1) n := by
  refine ⟨?_, ?_, ?_, ?_, ?_, ?_⟩
  · simp only [PyData.canLay0, h.lay]
  · simp only [PyData.depth]
    have := h.dep
    omega
  · simp only [PyData.weight]
    exact h.wei
  · simp only [PyData.intsShort, h.sho]
  · simp only [PyData.showable, h.say]
  · simp only [PyData.hasDict, h.nod]
theorem Neat.lst {ds : List PyData} {dp n : Nat} (h : NeatAll ds dp n) : Neat (.list ds) (dp + 1) n := by
  refine ⟨?_, ?_, ?_, ?_, ?_, ?_⟩
  · simp only [PyData.canLay0, h.lay]
  · simp only [PyData.depth]
    have := h.dep
    omega
  · simp only [PyData.weight]
    exact h.wei
  · simp only [PyData.intsShort, h.sho]
  · simp only [PyData.showable, h.say]
  · simp only [PyData.hasDict, h.nod]
theorem NeatAll.map {α : Type} {f : α → PyData} {dp n : Nat} : ∀ {l : List α}, (∀ x ∈ l, Neat (f x) dp n) → NeatAll (l.map f) dp (l.length * (n + 1))
  | [], _ => by rw [List.length_nil, Nat.zero_mul]; exact .nil
  | x :: l, h => by
    have t : NeatAll (l.map f) dp (l.length * (n + 1)) := NeatAll.map fun y hy => h y (List.mem_cons_of_mem _ hy)
    have := NeatAll.cons (h x (List.mem_cons_self ..)) t
    refine NeatAll.mono this (Nat.le_refl _) ?_
    rw [List.length_cons, Nat.add_mul]
    omega
theorem Neat.shaped {d : PyData} {dp n : Nat} (h : Neat d dp n) (k : dp ≤ 60) : SeqAt.shaped d = true := by
  unfold SeqAt.shaped
  rw [h.lay, Bool.true_and]
  exact decide_eq_true (by have := h.dep; omega)
theorem Neat.fits {d : PyData} {dp n : Nat} (h : Neat d dp n) (k : dp ≤ 60) (m : n ≤ 1000000) : d.shown.length ≤ sizeLine := by
  refine PyData.shown_fits_of_layable0 (B := 13) (by decide) (by decide) ?_ h.sho
  have a : d.canLay0 = true := h.lay
  have b : decide (d.depth ≤ 64) = true := decide_eq_true (by have := h.dep; omega)
  have c : decide (d.weight ≤ 2 ^ 20) = true := decide_eq_true (by have := h.wei; omega)
  unfold PyData.layable0
  rw [a, b, c]
  rfl
theorem dp_ints {K : PySem.W.Frag} {H : Hp} : ∀ ns : List Int, DpAll K H (ns.map V.int) (ns.map PyData.int)
  | [] => .nil
  | n :: ns => .cons (.int n) (dp_ints ns)
theorem dp_nats {K : PySem.W.Frag} {H : Hp} : ∀ ns : List Nat, DpAll K H (ns.map nV) (ns.map fun n => PyData.int ((n : Nat) : Int))
  | [] => .nil
  | n :: ns => .cons (.int _) (dp_nats ns)
theorem eqv_nil {ds : List PyData} : PyData.eqvAll ds [] = ds.isEmpty := by cases ds <;> rfl
/-! ### a room as data -/
abbrev handD (h : HR) : PyData := .tuple [.tuple (ruleD h), .int h.mom]
abbrev beltD (b : BR) : PyData := .tuple [.int ((b.one : Nat) : Int), .int ((b.to : Nat) : Int), .tuple (b.th.map PyData.int)]
abbrev roomD (hs : List HR) (bs : List BR) : PyData := .tuple [.tuple (hs.map handD), .tuple (bs.map beltD)]
theorem hands_dp {K : PySem.W.Frag} {H : Hp} {vs : List V} {hs : List HR} (a : All2 (HandAt H) vs hs) : DpAll K H vs (hs.map handD) := by
  induction a with
  | nil => exact .nil
  | cons h t ih =>
    obtain ⟨t, r, rfl, e1, e2⟩ := h
    exact .cons (.tup (SqT.of e1) (.cons (rule_dp e2) (.cons (.int _) .nil))) ih
theorem belts_dp {K : PySem.W.Frag} {H : Hp} {vs : List V} {bs : List BR} (a : All2 (BeltAt H) vs bs) : DpAll K H vs (bs.map beltD) := by
  induction a with
  | nil => exact .nil
  | cons h t ih =>
    obtain ⟨t, r, rfl, e1, e2⟩ := h
    exact .cons (.tup (SqT.of e1) (.cons (.int _) (.cons (.int _) (.cons (.tup (SqT.of e2) (dp_ints _)) .nil)))) ih
theorem RoomAt.dp {K : PySem.W.Frag} {H : Hp} {r : Addr} {hs : List HR} {bs : List BR} (a : RoomAt H r hs bs) : Dp K H (.ref r) (roomD hs bs) := by
  obtain ⟨ha, ba, hv, bv, e1, e2, e3, a1, a2⟩ := a.ex
  exact .tup (SqT.of e1) (.cons (.tup (SqT.of e2) (hands_dp a1)) (.cons (.tup (SqT.of e3) (belts_dp a2)) .nil))
theorem GoodHand.size {h : HR} (g : GoodHand h) : h.wd.cps.size ≤ 10 := by
  have : h.wd ∈ nine ∨ h.wd = "in" ∨ h.wd = "out" := g.1.elim (fun k => .inl k.wd) (fun k => .inr k.1)
  rcases this with k | k | k
  · unfold nine at k
    simp only [List.mem_cons, List.not_mem_nil, or_false] at k
    rcases k with k | k | k | k | k | k | k | k | k <;> rw [k] <;> decide +kernel
  · rw [k]; decide +kernel
  · rw [k]; decide +kernel
theorem GoodHand.neat {h : HR} (g : GoodHand h) : Neat (handD h) 2 200 := by
  obtain ⟨wd, no, mom⟩ := h
  have r : NeatAll (ruleD ⟨wd, no, mom⟩) 0 60 := by
    cases no with
    | none => exact (NeatAll.cons (Neat.str g.lay g.size) .nil).mono (Nat.le_refl _) (by decide)
    | some n =>
      have : -1000000 ≤ n ∧ n ≤ 1000000 := by
        rcases g.1 with k | k
        · exact k.big n rfl
        · exact nomatch k.2
      exact (NeatAll.cons (Neat.str g.lay g.size) (.cons (Neat.int (by omega)) .nil)).mono (Nat.le_refl _) (by decide)
  have m : Neat (.int mom) 1 41 := Neat.int (by have := g.2.1; have := g.2.2; simp only at *; omega)
  exact (Neat.tup (.cons (Neat.tup r) (.cons m .nil))).mono (Nat.le_refl _) (by decide)
abbrev rowD (m : List Int) : PyData := .tuple (m.map PyData.int)
theorem rows_dp {K : PySem.W.Frag} {H : Hp} {vs : List V} {ms : List (List Int)} (a : All2 (RowAt H) vs ms) : DpAll K H vs (ms.map rowD) := by
  induction a with
  | nil => exact .nil
  | cons h t ih =>
    obtain ⟨t, rfl, e1⟩ := h
    exact .cons (.tup (SqT.of e1) (dp_ints _)) ih
theorem lay_ints : ∀ m : List Int, PyData.canLayAll0 (m.map PyData.int) = true
  | [] => rfl
  | x :: m => by
    rw [List.map_cons]
    simp only [PyData.canLayAll0, PyData.canLay0, lay_ints m, Bool.and_self]
theorem lay_rows : ∀ m : List (List Int), PyData.canLayAll0 (m.map rowD) = true
  | [] => rfl
  | x :: m => by
    rw [List.map_cons]
    simp only [PyData.canLayAll0, PyData.canLay0, lay_rows m, lay_ints, Bool.and_self]
theorem dep_ints : ∀ m : List Int, PyData.depthAll (m.map PyData.int) ≤ 0
  | [] => Nat.le_refl _
  | x :: m => by
    rw [List.map_cons]
    simp only [PyData.depthAll, PyData.depth]
    have := dep_ints m
    omega
theorem dep_rows : ∀ m : List (List Int), PyData.depthAll (m.map rowD) ≤ 1
  | [] => Nat.zero_le _
  | x :: m => by
    rw [List.map_cons]
    simp only [PyData.depthAll, PyData.depth]
    have := dep_ints x
    have := dep_rows m
    omega
theorem rows_lay (m : List (List Int)) : PyData.canLay0 (.list (m.map rowD)) = true := by
  simp only [PyData.canLay0, lay_rows]
theorem rows_shaped (m : List (List Int)) : SeqAt.shaped (.list (m.map rowD)) = true := by
  unfold SeqAt.shaped
  rw [rows_lay, Bool.true_and]
  refine decide_eq_true ?_
  simp only [PyData.depth]
  have := dep_rows m
  omega
theorem belt_lay (b : BR) : PyData.canLay0 (beltD b) = true := by
  simp only [PyData.canLay0, PyData.canLayAll0, lay_ints, Bool.and_self]
theorem belt_shaped (b : BR) : SeqAt.shaped (beltD b) = true := by
  unfold SeqAt.shaped
  rw [belt_lay, Bool.true_and]
  refine decide_eq_true ?_
  simp only [PyData.depth, PyData.depthAll]
  have := dep_ints b.th
  omega
theorem hands_neat {hs : List HR} (g : ∀ h ∈ hs, GoodHand h) : Neat (.tuple (hs.map handD)) 3 (hs.length * 201) := Neat.tup (NeatAll.map fun h hh => (g h hh).neat)
theorem stand_app (bs : List BR) (m1 m2 : List (List Int)) : stand (stand bs m1) m2 = stand bs (m1 ++ m2) := by
  have key : ∀ t, stand (stand bs m1) (m2.take t) = stand bs (m1 ++ m2.take t) := by
    intro t
    induction t with
    | zero => rw [List.take_zero, stand_zero, List.append_nil]
    | succ t ih =>
      rw [List.take_add_one]
      cases e : m2[t]? with
      | none => rw [Option.toList, List.append_nil]; exact ih
      | some m =>
        rw [Option.toList, ← stand_next, ih, stand_next, List.append_assoc]
  have := key m2.length
  rw [List.take_length] at this
  exact this
theorem WS.app {hs : List HR} {bs : List BR} {r1 r2 m1 m2 : List (List Int)} (a : WS hs bs r1 m1) (b : WS hs (stand bs m1) r2 m2) : WS hs bs (r1 ++ r2) (m1 ++ m2) := by
  have key : ∀ t, WS hs bs (r1 ++ r2.take t) (m1 ++ m2.take t) := by
    intro t
    induction t with
    | zero => rw [List.take_zero, List.take_zero, List.append_nil, List.append_nil]; exact a
    | succ t ih =>
      rw [List.take_add_one, List.take_add_one]
      by_cases l : t < r2.length
      · have l2 : t < m2.length := by have := b.len; omega
        have e1 : r2[t]? = some r2[t] := List.getElem?_eq_getElem l
        have e2 : m2[t]? = some m2[t] := List.getElem?_eq_getElem l2
        have q := b.at_ t _ _ e1 e2
        rw [stand_app] at q
        rw [e1, e2, Option.toList, Option.toList, ← List.append_assoc, ← List.append_assoc]
        exact ih.snoc q
      · rw [List.getElem?_eq_none (by omega), List.getElem?_eq_none (by have := b.len; omega), Option.toList, List.append_nil, List.append_nil]
        exact ih
  have := key r2.length
  rw [List.take_length, List.take_of_length_le (by rw [b.len]; exact Nat.le_refl _)] at this
  exact this
theorem RoomOk.standing {hs : List HR} {bs : List BR} (ok : RoomOk hs bs) (ms : List (List Int)) : RoomOk hs (stand bs ms) := by
  obtain ⟨rk, hrk⟩ := ok.rank
  refine ⟨ok.hands, ok.good, (ok.bell ms).ends, fun b hb h e => ?_, fun b hb => ?_, ⟨rk, fun b hb e => ?_⟩, (ok.bell ms).count, (ok.bell ms).belts⟩
  all_goals obtain ⟨c, hc, rfl⟩ := List.mem_map.mp hb
  · rw [stand_one] at e
    exact ok.out c hc h e
  · rw [stand_len]
    exact ok.th c hc
  · rw [stand_one, stand_to]
    exact hrk c hc ((stand_th ms c).mp e)
theorem belts_lay : ∀ bs : List BR, PyData.canLayAll0 (bs.map beltD) = true
  | [] => rfl
  | b :: bs => by
    rw [List.map_cons]
    simp only [PyData.canLayAll0]
    rw [belt_lay, belts_lay bs]
    rfl
theorem belts_dep : ∀ bs : List BR, PyData.depthAll (bs.map beltD) ≤ 2
  | [] => Nat.zero_le _
  | b :: bs => by
    rw [List.map_cons]
    have h1 := belts_dep bs
    have h2 := dep_ints b.th
    simp only [PyData.depthAll, PyData.depth] at h1 h2 ⊢
    omega
theorem room_lay {hs : List HR} {bs : List BR} (g : ∀ h ∈ hs, GoodHand h) : PyData.canLay0 (roomD hs bs) = true := by
  have h1 := (hands_neat g).lay
  have h2 := belts_lay bs
  simp only [PyData.canLay0, PyData.canLayAll0] at h1 h2 ⊢
  rw [h1, h2]
  rfl
theorem room_shaped {hs : List HR} {bs : List BR} (g : ∀ h ∈ hs, GoodHand h) : SeqAt.shaped (roomD hs bs) = true := by
  unfold SeqAt.shaped
  rw [room_lay g, Bool.true_and]
  refine decide_eq_true ?_
  have h1 := (hands_neat g).dep
  have h2 := belts_dep bs
  simp only [PyData.depth, PyData.depthAll] at h1 h2 ⊢
  omega
theorem row_lay (m : List Int) : PyData.canLay0 (rowD m) = true := by
  simp only [PyData.canLay0, lay_ints]
theorem row_shaped (m : List Int) : SeqAt.shaped (rowD m) = true := by
  unfold SeqAt.shaped
  rw [row_lay, Bool.true_and]
  refine decide_eq_true ?_
  simp only [PyData.depth]
  have := dep_ints m
  omega
theorem ints_lay : ∀ l : List Int, PyData.canLayAll0 (l.map PyData.int) = true ∧ PyData.depthAll (l.map PyData.int) ≤ 1
  | [] => by simp [PyData.canLayAll0, PyData.depthAll]
  | x :: l => by
    have := ints_lay l
    simp [PyData.canLayAll0, PyData.depthAll, PyData.canLay0, PyData.depth, this.1, this.2]
theorem eqv_ints (l : List Int) : PyData.eqvAll (l.map PyData.int) (l.map PyData.int) = true := by
  induction l with
  | nil => rfl
  | cons x l ih =>
    show (x == x && PyData.eqvAll (l.map PyData.int) (l.map PyData.int)) = true
    rw [ih, beq_self_eq_true]
    rfl
theorem ints_shaped (l : List Int) : SeqAt.shaped (.list (l.map PyData.int)) = true := by
  have h := ints_lay l
  unfold SeqAt.shaped
  rw [Bool.and_eq_true]
  refine ⟨by simp only [PyData.canLay0]; exact h.1, decide_eq_true ?_⟩
  simp only [PyData.depth]
  have := h.2
  omega
theorem ints_same (l : List Int) : PyData.eqv (.list (l.map PyData.int)) (.list (l.map PyData.int)) = true := by
  have := eqv_ints l
  simp [PyData.eqv, this]
theorem All2.take {α β : Type} {R : α → β → Prop} : ∀ {as : List α} {bs : List β}, All2 R as bs → ∀ n, All2 R (as.take n) (bs.take n)
  | _, _, .nil, n => by rw [List.take_nil, List.take_nil]; exact .nil
  | _, _, .cons h t, 0 => .nil
  | _, _, .cons h t, n + 1 => .cons h (t.take n)
theorem All2.drop {α β : Type} {R : α → β → Prop} : ∀ {as : List α} {bs : List β}, All2 R as bs → ∀ n, All2 R (as.drop n) (bs.drop n)
  | _, _, .nil, n => by rw [List.drop_nil, List.drop_nil]; exact .nil
  | _, _, .cons h t, 0 => .cons h t
  | _, _, .cons h t, n + 1 => t.drop n
/-! ### a belt's ends -/
abbrev endsD (b : BR) : PyData := .tuple [.int ((b.one : Nat) : Int), .int ((b.to : Nat) : Int)]
def EndsAt (H : Hp) (v : V) (b : BR) : Prop := ∃ t : Addr, v = .ref t ∧ H t = some (.tup [.int ((b.one : Nat) : Int), .int ((b.to : Nat) : Int)])
theorem EndsAt.keep {H H' : Hp} {v : V} {b : BR} (h : EndsAt H v b) (k : TK H H') : EndsAt H' v b := by
  obtain ⟨t, e, h⟩ := h
  exact ⟨t, e, k _ _ h⟩
theorem ends_dp {K : PySem.W.Frag} {H : Hp} {vs : List V} {bs : List BR} (a : All2 (EndsAt H) vs bs) : DpAll K H vs (bs.map endsD) := by
  induction a with
  | nil => exact .nil
  | cons h t ih =>
    obtain ⟨t, rfl, e1⟩ := h
    exact .cons (.tup (SqT.of e1) (.cons (.int _) (.cons (.int _) .nil))) ih
theorem ends_lay : ∀ bs : List BR, PyData.canLayAll0 (bs.map endsD) = true
  | [] => rfl
  | b :: bs => by
    rw [List.map_cons]
    simp only [PyData.canLayAll0, PyData.canLay0, ends_lay bs, Bool.and_self]
theorem ends_dep : ∀ bs : List BR, PyData.depthAll (bs.map endsD) ≤ 1
  | [] => Nat.zero_le _
  | b :: bs => by
    rw [List.map_cons]
    simp only [PyData.depthAll, PyData.depth]
    have := ends_dep bs
    omega
theorem ends_lay1 (bs : List BR) : PyData.canLay0 (.list (bs.map endsD)) = true := by simp only [PyData.canLay0, ends_lay]
theorem ends_shaped (bs : List BR) : SeqAt.shaped (.list (bs.map endsD)) = true := by
  unfold SeqAt.shaped
  rw [ends_lay1, Bool.true_and]
  refine decide_eq_true ?_
  simp only [PyData.depth]
  have := ends_dep bs
  omega
theorem ends_mov (bs : List BR) (sh : Nat → Int) (w : Int) (ms : List (List Int)) : (bs.map (movB sh w ms)).map endsD = bs.map endsD := by
  rw [List.map_map]
  rfl
theorem hands_lay1 {hs : List HR} (g : ∀ h ∈ hs, GoodHand h) : PyData.canLay0 (.tuple (hs.map handD)) = true := (hands_neat g).lay
theorem hands_shaped {hs : List HR} (g : ∀ h ∈ hs, GoodHand h) : SeqAt.shaped (.tuple (hs.map handD)) = true := (hands_neat g).shaped (by decide)
theorem levL_ints {n : Nat} {sh : Nat → Int} : levL n sh = ((List.range n).map sh).map V.int := by rw [List.map_map]; rfl
theorem levL_len {n : Nat} {sh : Nat → Int} : (levL n sh).length = n := by rw [List.length_map, List.length_range]
theorem Wait.of {n : Nat} {sh : Nat → Int} {m : Int} (hm : m ∈ 0 :: (List.range n).map sh) (hle : ∀ y ∈ 0 :: (List.range n).map sh, y ≤ m) : Wait n sh m :=
  ⟨hle 0 (List.mem_cons_self ..), fun k hk => hle _ (List.mem_cons_of_mem _ (List.mem_map.mpr ⟨k, List.mem_range.mpr hk, rfl⟩)), by
    rcases List.mem_cons.mp hm with z | z
    · exact .inl z
    · obtain ⟨k, h1, h2⟩ := List.mem_map.mp z
      exact .inr ⟨k, List.mem_range.mp h1, h2⟩⟩
theorem Wait.uniq {n : Nat} {sh : Nat → Int} {a b : Int} (x : Wait n sh a) (y : Wait n sh b) : a = b := by
  refine Int.le_antisymm ?_ ?_
  · rcases x.at_ with z | ⟨k, kl, z⟩
    · have := y.nn; omega
    · rw [← z]; exact y.le k kl
  · rcases y.at_ with z | ⟨k, kl, z⟩
    · have := x.nn; omega
    · rw [← z]; exact x.le k kl
theorem Flow.tab {H H' : Hp} {f c PT : Addr} (F : Flow H f c) (tg : GxR.TabG H PT) (b : But PT H H') : Flow H' f c := by
  obtain ⟨ns, i, p, q, r, h1, h2, h3⟩ := F
  have off : ∀ {b : Addr} {xs : List V}, H b = some (.lst xs) → b ≠ PT := fun e z => by
    obtain ⟨ps0, ePT, _⟩ := tg
    rw [z, ePT] at e; cases e
  exact ⟨ns, i, p, q, r, b _ _ h1 (off h1), b _ _ h2 (off h2), h3⟩
section
variable {P : Program} {w : World} {K : PySem.W.Frag} {mg : Str → Option Value} {base : Heap} {cT PT : Addr} [TI : TabI K mg base cT PT]
include TI
omit TI in
theorem tab_but {f PT : Addr} {H H' : Hp} (g : GxR.TabG H PT) (n : f ≠ PT) (b : But f H H') : GxR.TabG H' PT := by
  obtain ⟨ps, e, t⟩ := g
  exact ⟨ps, b _ _ e (Ne.symm n), t⟩
omit TI in
theorem tab_off {b PT : Addr} {H : Hp} {xs : List V} (g : GxR.TabG H PT) (e : H b = some (.lst xs)) : b ≠ PT := fun z => by
  obtain ⟨ps0, ePT, _⟩ := g
  rw [z, ePT] at e; cases e
/-- what is known of the rows and the moved room -/
structure Gx (hs : List HR) (bs gs : List BR) (m w d : Nat) (T : Int) (sh : Nat → Int) (R ms0 : List (List Int)) : Prop where
  ok : RoomOk hs bs
  eg : gs = bs.map (movB sh ((w : Nat) : Int) ms0)
  okg : RoomOk hs gs
  gd : Good33 hs bs ((m : Nat) : Int) sh
  rc : Rch hs bs (some m) T sh
  T0 : 0 ≤ T
  bd : Bd 20 sh
  wt : Wait hs.length sh ((w : Nat) : Int)
  ah : Ahead hs.length sh d
  r0 : w + 1 ≤ R.length
  r1 : R.length ≤ w + 5
  row : ∀ x ∈ R, x.length = (doorsOf "in" hs).length
  ws0 : WS hs bs (R.take w ++ List.replicate d (noughts hs)) ms0
omit TI in
theorem Gx.w20 {hs : List HR} {bs gs : List BR} {m w d : Nat} {T : Int} {sh : Nat → Int} {R ms0 : List (List Int)} (x : Gx hs bs gs m w d T sh R ms0) : w ≤ 20 := by
  rcases x.wt.at_ with z | ⟨k, _, z⟩
  · omega
  · have := x.bd k; omega
def sp_law_goes_on (K : PySem.W.Frag) (PT : Addr) : Sp := fun vs H Q _ => ∃ (f c r sl : Addr) (hs : List HR) (bs : List BR) (m : Nat) (T : Int) (sh : Nat → Int), vs = [.ref f, .ref r, .int ((m : Nat) : Int), .int T, .ref sl] ∧ Flow H f c ∧ f ≠ PT ∧ RoomAt H r hs bs ∧ RoomOk hs bs ∧ (∀ b ∈ bs, b.th.length ≤ 6) ∧ H sl = some (.tup (levL hs.length sh)) ∧ Rch hs bs (some m) T sh ∧ 0 ≤ T ∧ Bd 20 sh ∧ GxR.TabG H PT ∧ ∀ H', TK H H' → Flow H' f c → GxR.TabG H' PT → Q (.bl true) H'
theorem ok_law_goes_on {f : Addr} {fd : FuncData} (F : Fun K "_law_goes_on" "_law_goes_on" s_law_goes_on f fd) (T : Top K mg) : FnOk P w K mg base CX0 6 f fd ["_law_flow_here", "_law_room_here", "_law_late", "_law_time", "_law_shifts"] (sp_law_goes_on K PT) := by
  obtain ⟨f_law_rows, fd_law_rows, F_law_rows, b_law_rows, m_law_rows⟩ := T.d_law_rows
  have G_law_rows := ok_law_rows (P := P) (w := w) (base := base) F_law_rows T
  obtain ⟨f_moved, fd_moved, F_moved, b_moved, m_moved⟩ := T.d_moved
  have G_moved := ok_moved (P := P) (w := w) (base := base) F_moved T
  obtain ⟨f_law_worked, fd_law_worked, F_law_worked, b_law_worked, m_law_worked⟩ := T.d_law_worked
  have G_law_worked := ok_law_worked (P := P) (w := w) (base := base) F_law_worked T
  obtain ⟨f_law_pick, fd_law_pick, F_law_pick, b_law_pick, m_law_pick⟩ := T.d_law_pick
  have G_law_pick := ok_law_pick (P := P) (w := w) (base := base) F_law_pick T
  obtain ⟨f_law_time_of, fd_law_time_of, F_law_time_of, b_law_time_of, m_law_time_of⟩ := T.d_law_time_of
  have G_law_time_of := ok_law_time_of (P := P) (w := w) (base := base) F_law_time_of T
  refine F.ok sc_law_goes_on (fun vs H Q E h => ?_) (fun cdv A outer s H vs Q E hr h => ?_)
  · obtain ⟨f, c, r, sl, hs, bs, m, T', sh, rfl, _⟩ := h
    rfl
  obtain ⟨f, c, r, sl, hs, bs, m, T', sh, rfl, F0, fP, hR, ok, l6, hsl, rc, T0, bd, tg, q⟩ := h
  have lh := ok.hands
  have lbs := ok.many
  let sg : Nat → Addr → Addr → Option V → Option V → Option V → Option V → Option V → L2.St := fun w rl fo v9 v10 v11 v13 v14 => [some (.ref f), some (.ref r), some (.int ((m : Nat) : Int)), some (.int T'), some (.ref sl), some (.int ((w : Nat) : Int)), some (.ref rl), some (.ref fo), none, v9, v10, v11, none, v13, v14]
  let KP : Hp → Prop := fun H' => TK H H' ∧ Flow H' f c ∧ GxR.TabG H' PT
  have kps : ∀ {H1 H2 : Hp}, KP H1 → Same H1 H2 → KP H2 := fun k s => ⟨k.1.trans (TK.same s), k.2.1.same s, same_tab k.2.2 s⟩
  let R1 : TS := fun D' σ' H' => D'.rt = Q ∧ ∃ (rl fo : Addr) (gs : List BR) (w d : Nat) (R ms0 : List (List Int)) (rv : List V), σ' = sg w rl fo none none none none none ∧ Gx hs bs gs m w d T' sh R ms0 ∧ KP H' ∧ RoomAt H' fo hs gs ∧ H' rl = some (.lst rv) ∧ All2 (RowAt H') rv R
  let R2 : TS := R1
  let R3 : TS := R1
  let R4 : TS := fun D' σ' H' => D'.rt = Q ∧ ∃ (rl fo fi lt : Addr) (gs : List BR) (w d : Nat) (R ms0 ms ms1 : List (List Int)) (fv lv : List V), σ' = sg w rl fo (some (.ref fi)) (some (.ref lt)) none none none ∧ Gx hs bs gs m w d T' sh R ms0 ∧ KP H' ∧ H' fi = some (.lst fv) ∧ All2 (RowAt H') fv ms ∧ H' lt = some (.lst lv) ∧ All2 (RowAt H') lv ms1 ∧ WS hs bs R ms ∧ WS hs gs (R.drop w) ms1
  let R5 : TS := fun D' σ' H' => D'.rt = Q ∧ ∃ (rl fo fi lt ol : Addr) (gs : List BR) (w d : Nat) (R ms0 ms ms1 : List (List Int)) (fv lv : List V), σ' = sg w rl fo (some (.ref fi)) (some (.ref lt)) (some (.ref ol)) none none ∧ Gx hs bs gs m w d T' sh R ms0 ∧ KP H' ∧ H' fi = some (.lst fv) ∧ All2 (RowAt H') fv ms ∧ H' lt = some (.lst lv) ∧ All2 (RowAt H') lv ms1 ∧ WS hs bs R ms ∧ WS hs gs (R.drop w) ms1 ∧ H' ol = some (.lst ((doorsOf "out" hs).map nV))
  refine ⟨_, (pss_cons (ps_set (i := 5) sc_law_goes_on.nd rfl (Or.inr rfl) (pe_callB (cr_maxKK K rfl rfl) (by rfl) T.m_max (by decide +kernel) (pa_cons (pe_op op_cat (pe_lst (pa_cons pe_int pa_nil)) (pe_callTy (call_list_ofK K rfl) (by rfl) T.m_list (by decide +kernel) (pa_cons (pv 4) pa_nil))) pa_nil)))
      (pss_cons (ps_set (i := 6) sc_law_goes_on.nd rfl (Or.inl rfl) (pe_call G_law_rows (hr.mono (by decide)) (by rfl) m_law_rows F_law_rows.kp b_law_rows .nil pass0 (pa_cons (pv 0) (pa_cons (pv 1) (pa_cons (pe_op op_add (pe_op op_add (pv 5) pe_int) (pe_call G_law_pick (hr.mono (by decide)) (by rfl) m_law_pick F_law_pick.kp b_law_pick .nil pass0 (pa_cons (pv 0) (pa_cons pe_int pa_nil)))) pa_nil)))))
      (pss_cons (ps_set (i := 7) sc_law_goes_on.nd rfl (Or.inl rfl) (pe_call G_moved (hr.mono (by decide)) (by rfl) m_moved F_moved.kp b_moved .nil pass0 (pa_cons (pv 1) (pa_cons (pv 2) (pa_cons (pv 4) (pa_cons (pe_slice (sl_listK K rfl) (pv 6) po_none (po_some (pv 5))) pa_nil))))))
      (PSs.to (pss_cons (ps_if (PW.pt (pw_or (pt_cmpR op_gt (pe_call G_law_time_of (hr.mono (by decide)) (by rfl) m_law_time_of F_law_time_of.kp b_law_time_of .nil pass0 (pa_cons (pv 1) (pa_cons (pe_lc (own := [("_law_belt", 8)]) (g := gName 8) (tt := tYes) (by rfl) sc_law_goes_on.nd (pi_tupK K rfl (pe_ix (ix_tupK K rfl) (pv 7) pe_int (fun _ _ => rfl))) (blkOk_by (own := [("_law_belt", 8)]) (N := N_law_goes_on) (sc := defScope s_law_goes_on) (by decide +kernel)) (fun _ _ _ _ _ => (pg_name (i := 8) sc_law_goes_on.nd rfl (Or.inl rfl))) (fun _ _ _ _ _ => pts_nil) (fun _ _ _ _ _ => (pe_callB (call_len_seqK K rfl) (by rfl) T.m_len (by decide +kernel) (pa_cons (pe_ix (ix_tupK K rfl) (pv 8) pe_int (fun _ _ => rfl)) pa_nil)))) pa_nil))) (pv 3) (nomark _)) (pw_or1 (pt_cmpR (op_neDK K rfl hr.units) (pe_ix (ix_tupK K rfl) (pv 7) pe_int (fun _ _ => rfl)) (pe_ix (ix_tupK K rfl) (pv 1) pe_int (fun _ _ => rfl)) (nomark _))))) (pss_one (ps_ret pe_bl)) pss_nil)
      (PSs.to (pss_cons (ps_if (pt_cmpR (op_neDK K rfl hr.units) (pe_lc (own := [("_law_belt", 8)]) (g := gName 8) (tt := tYes) (by rfl) sc_law_goes_on.nd (pi_tupK K rfl (pe_ix (ix_tupK K rfl) (pv 7) pe_int (fun _ _ => rfl))) (blkOk_by (own := [("_law_belt", 8)]) (N := N_law_goes_on) (sc := defScope s_law_goes_on) (by decide +kernel)) (fun _ _ _ _ _ => (pg_name (i := 8) sc_law_goes_on.nd rfl (Or.inl rfl))) (fun _ _ _ _ _ => pts_nil) (fun _ _ _ _ _ => (pe_slice (sl_tupAK K rfl) (pv 8) po_none (po_some pe_int)))) (pe_lc (own := [("_law_belt", 8)]) (g := gName 8) (tt := tYes) (by rfl) sc_law_goes_on.nd (pi_tupK K rfl (pe_ix (ix_tupK K rfl) (pv 1) pe_int (fun _ _ => rfl))) (blkOk_by (own := [("_law_belt", 8)]) (N := N_law_goes_on) (sc := defScope s_law_goes_on) (by decide +kernel)) (fun _ _ _ _ _ => (pg_name (i := 8) sc_law_goes_on.nd rfl (Or.inl rfl))) (fun _ _ _ _ _ => pts_nil) (fun _ _ _ _ _ => (pe_slice (sl_tupAK K rfl) (pv 8) po_none (po_some pe_int)))) (nomark _)) (pss_one (ps_ret pe_bl)) pss_nil)
      (PSs.to (pss_cons (ps_set (i := 9) sc_law_goes_on.nd rfl (Or.inr rfl) (pe_call G_law_worked (hr.mono (by decide)) (by rfl) m_law_worked F_law_worked.kp b_law_worked .nil pass0 (pa_cons (pv 1) (pa_cons (pv 6) pa_nil))))
      (pss_cons (ps_set (i := 10) sc_law_goes_on.nd rfl (Or.inl rfl) (pe_call G_law_worked (hr.mono (by decide)) (by rfl) m_law_worked F_law_worked.kp b_law_worked .nil pass0 (pa_cons (pv 7) (pa_cons (pe_slice (sl_listK K rfl) (pv 6) (po_some (pv 5)) po_none) pa_nil))))
      (PSs.to (pss_cons (ps_setLc (i := 11) (own := [("_law_k", 12)]) (g := gName 12) (by rfl) sc_law_goes_on.nd rfl rfl (sw_true rfl rfl rfl (by decide +kernel)) (pi_range1 (by rfl) T.m_range (pa_cons (pe_callB (call_len_seqK K rfl) (by rfl) T.m_len (by decide +kernel) (pa_cons (pe_ix (ix_tupK K rfl) (pv 1) pe_int (fun _ _ => rfl)) pa_nil)) pa_nil)) (blkOk_by (own := [("_law_k", 12)]) (N := N_law_goes_on) (sc := defScope s_law_goes_on) (by decide +kernel)) (fun _ _ _ _ _ => (pg_name (i := 12) sc_law_goes_on.nd rfl (Or.inl rfl))) (fun _ _ _ _ _ => pts_one (pt_cmpR (op_eqDK K rfl hr.units) (pe_ix (ix_tupK K rfl) (pe_ix (ix_tupK K rfl) (pe_ix (ix_tupK K rfl) (pv 1) pe_int (fun _ _ => rfl)) (pv 12) (fun _ _ => rfl)) pe_int (fun _ _ => rfl)) (pe_tup (pa_cons pe_str pa_nil)) (nomark _))) (fun _ _ _ _ _ => (pv 12)))
      (PSs.to (pss_cons (ps_for PassesOwn.never rfl (pi_enum (by rfl) T.m_enumerate (pa_cons (pv 10) pa_nil)) (pg_tupK K rfl rfl (pgs_cons (pg_name (i := 13) sc_law_goes_on.nd rfl (Or.inr rfl)) (pgs_cons (pg_name (i := 14) sc_law_goes_on.nd rfl (Or.inr rfl)) pgs_nil)))
        (pss_one (ps_if (pt_cmpR (op_neDK K rfl hr.units) (pe_lc (own := [("_law_k", 12)]) (g := gName 12) (tt := tYes) (by rfl) sc_law_goes_on.nd (pi_listK K rfl (pv 11)) (blkOk_by (own := [("_law_k", 12)]) (N := N_law_goes_on) (sc := defScope s_law_goes_on) (by decide +kernel)) (fun _ _ _ _ _ => (pg_name (i := 12) sc_law_goes_on.nd rfl (Or.inl rfl))) (fun _ _ _ _ _ => pts_nil) (fun _ _ _ _ _ => (pe_ix (ix_tupK K rfl) (pv 14) (pv 12) (fun _ _ => rfl)))) (pe_lc (own := [("_law_k", 12)]) (g := gName 12) (tt := tYes) (by rfl) sc_law_goes_on.nd (pi_listK K rfl (pv 11)) (blkOk_by (own := [("_law_k", 12)]) (N := N_law_goes_on) (sc := defScope s_law_goes_on) (by decide +kernel)) (fun _ _ _ _ _ => (pg_name (i := 12) sc_law_goes_on.nd rfl (Or.inl rfl))) (fun _ _ _ _ _ => pts_nil) (fun _ _ _ _ _ => (pe_ix (ix_tupK K rfl) (pe_ix (ix_listK K rfl) (pv 9) (pe_op op_sub (pe_op op_add (pv 13) (pv 5)) (pv 2)) (fun _ _ => rfl)) (pv 12) (fun _ _ => rfl)))) (nomark _)) (pss_one (ps_ret pe_bl)) pss_nil)))
      (pss_one (ps_ret pe_bl))) R5 ?tail5)) R4 ?tail4))) R3 ?tail3)) R2 ?tail2)) R1 ?tail1)))), ?_⟩
  case tail1 =>
    rintro D' σ' H1 ⟨eD, rl, fo, gs, w, d, R, ms0, rv, rfl, fx, kp, hF, hrl, alr⟩
    have hR1 := hR.keep kp.1
    obtain ⟨ha, ba, hv, bv, er, eh, eb, alh, alb⟩ := id hR1.ex
    obtain ⟨ha', ba', hv', bv', er', eh', eb', alh', alb'⟩ := id hF.ex
    have lgs := fx.okg.many
    have lb' := alb'.length
    refine ⟨_, rfl, _, rfl, fo, _, _, _, rfl, rfl, SqT.of er', atI_nat (j := 1) rfl, ba', rfl, ⟨_, SqT.of eb'⟩, fun D nD => lc_tup (K := K) (a := ba') (xs := bv') (fun i H5 => H5 D = some (.lst (((gs.take i).map fun g => ((g.th.length : Nat) : Int)).map V.int)) ∧ Same H1 H5) ⟨upd_same, same_new nD⟩ (fun i H5 _ ⟨_, s5⟩ => SqT.of (s5 _ _ eb')) ?_ ?_⟩
    · rintro i x H5 hx ⟨hD, s5⟩
      obtain ⟨b, ebi, ⟨t, g, rfl, e1, e2⟩⟩ := alb'.getL hx
      have il := (List.getElem?_eq_some_iff.mp ebi).1
      refine ⟨rfl, yes_in ⟨_, rfl, t, _, _, _, rfl, rfl, SqT.of (s5 _ _ e1), atI_nat (j := 2) rfl, g, _, rfl, .inr (SqT.of (s5 _ _ e2)), _, hD, by rw [List.length_map, List.length_map, List.length_take]; exact small1000 (by omega), ?_, Same.own s5 nD⟩⟩
      rw [upd_same, List.take_add_one, ebi, List.map_append, List.map_append, List.length_map]
      rfl
    rintro H2 ⟨hD, s2⟩
    rw [lb', List.take_length] at hD
    have eqt : (bs.map fun b => V.int (trS sh b)) = (gs.map fun g => ((g.th.length : Nat) : Int)).map V.int := by
      rw [fx.eg, List.map_map, List.map_map]
      refine List.map_congr_left fun b hb => ?_
      show V.int (trS sh b) = V.int (((movB sh ((w : Nat) : Int) ms0 b).th.length : Nat) : Int)
      rw [mov_th]
      have := fx.gd.tr b hb
      congr 1
      omega
    refine ⟨r, D, hs, bs, sh, rfl, hR1.keep (TK.same s2), ok, by rw [eqt]; exact hD, fun T1 H3 _ up _ s3 => ?_⟩
    have le1 : T1 ≤ T' := up T' T0 fun k x v => fx.rc.vl v
    refine ⟨_, rfl, _, _, rfl, rfl, _, rfl, if_bl (fun z => absurd (of_decide_eq_true z) (by omega)) (fun _ => ?_)⟩
    have s13 := s2.trans s3
    refine ⟨_, rfl, fo, _, _, _, rfl, rfl, SqT.of (s13 _ _ er'), atI_nat (j := 0) rfl, _, rfl, r, _, _, _, rfl, rfl, SqT.of (s13 _ _ er), atI_nat (j := 0) rfl, _, _, .tup (SqT.of (s13 _ _ eh')) (hands_dp (alh'.imp fun _ _ z => z.keep (TK.same s13))), .tup (SqT.of (s13 _ _ eh)) (hands_dp (alh.imp fun _ _ z => z.keep (TK.same s13))), hands_shaped fx.ok.good, hands_shaped fx.ok.good, _, rfl, ?_⟩
    rw [SeqAt.eqv_refl _ (hands_lay1 fx.ok.good)]
    refine if_bl (fun z => nomatch z) (fun _ => ?_)
    exact ⟨eD, rl, fo, gs, w, d, R, ms0, rv, rfl, fx, kps kp s13, hF.keep (TK.same s13), s13 _ _ hrl, alr.imp fun _ _ z => z.keep (TK.same s13)⟩
  case tail2 =>
    rintro D' σ' H1 ⟨eD, rl, fo, gs, w, d, R, ms0, rv, rfl, fx, kp, hF, hrl, alr⟩
    have hR1 := hR.keep kp.1
    obtain ⟨ha, ba, hv, bv, er, eh, eb, alh, alb⟩ := id hR1.ex
    obtain ⟨ha', ba', hv', bv', er', eh', eb', alh', alb'⟩ := id hF.ex
    have lgs := fx.okg.many
    have lb' := alb'.length
    have lb := alb.length
    refine ⟨_, rfl, fo, _, _, _, rfl, rfl, SqT.of er', atI_nat (j := 1) rfl, ba', rfl, ⟨_, SqT.of eb'⟩, fun D1 nD1 => lc_tup (K := K) (a := ba') (xs := bv') (fun i H5 => ∃ ev : List V, H5 D1 = some (.lst ev) ∧ All2 (EndsAt H5) ev (gs.take i) ∧ Same H1 H5) ⟨[], upd_same, .nil, same_new nD1⟩ (fun i H5 _ ⟨_, _, _, s5⟩ => SqT.of (s5 _ _ eb')) ?_ ?_⟩
    · rintro i x H5 hx ⟨ev, hD, ale, s5⟩
      obtain ⟨b, ebi, ⟨t, g, rfl, e1, e2⟩⟩ := alb'.getL hx
      have il := (List.getElem?_eq_some_iff.mp ebi).1
      have lev := ale.length
      rw [List.length_take] at lev
      refine ⟨rfl, yes_in ⟨_, rfl, ?_⟩⟩
      dsimp only [tNoPart]
      refine ⟨_, rfl, slA_of (s5 _ _ e1) fun p1 H6 h1 s6 => ?_⟩
      have hD6 := s6 _ _ hD
      refine ⟨_, hD6, small1000 (by omega), ev ++ [V.ref p1], upd_same, ?_, Same.own (s5.trans s6) nD1⟩
      rw [List.take_add_one, ebi]
      refine ((ale.imp fun _ _ z => z.keep (TK.same s6)).snoc ⟨p1, rfl, ?_⟩).imp fun _ _ z => z.keep (TK.lst hD6)
      rw [h1]
      rfl
    rintro H2 ⟨ev1, hD1, alD1, sD1⟩
    rw [alb'.length, List.take_length] at alD1
    refine ⟨_, rfl, r, _, _, _, rfl, rfl, SqT.of (sD1 _ _ er), atI_nat (j := 1) rfl, ba, rfl, ⟨_, SqT.of (sD1 _ _ eb)⟩, fun D2 nD2 => lc_tup (K := K) (a := ba) (xs := bv) (fun i H5 => ∃ ev : List V, H5 D2 = some (.lst ev) ∧ All2 (EndsAt H5) ev (bs.take i) ∧ Same H2 H5) ⟨[], upd_same, .nil, same_new nD2⟩ (fun i H5 _ ⟨_, _, _, s5⟩ => SqT.of (s5 _ _ (sD1 _ _ eb))) ?_ ?_⟩
    · rintro i x H5 hx ⟨ev, hD, ale, s5⟩
      obtain ⟨b, ebi, ⟨t, g, rfl, e1, e2⟩⟩ := (alb.imp fun _ _ z => z.keep (TK.same sD1)).getL hx
      have il := (List.getElem?_eq_some_iff.mp ebi).1
      have lev := ale.length
      rw [List.length_take] at lev
      refine ⟨rfl, yes_in ⟨_, rfl, ?_⟩⟩
      dsimp only [tNoPart]
      refine ⟨_, rfl, slA_of (s5 _ _ e1) fun p1 H6 h1 s6 => ?_⟩
      have hD6 := s6 _ _ hD
      refine ⟨_, hD6, small1000 (by omega), ev ++ [V.ref p1], upd_same, ?_, Same.own (s5.trans s6) nD2⟩
      rw [List.take_add_one, ebi]
      refine ((ale.imp fun _ _ z => z.keep (TK.same s6)).snoc ⟨p1, rfl, ?_⟩).imp fun _ _ z => z.keep (TK.lst hD6)
      rw [h1]
      rfl
    rintro H3 ⟨ev2, hD2, alD2, sD2⟩
    rw [(alb.imp fun _ _ z => z.keep (TK.same sD1)).length, List.take_length] at alD2
    have eqe : gs.map endsD = bs.map endsD := by rw [fx.eg]; exact ends_mov ..
    refine ⟨_, _, .lst (SqL.of (sD2 _ _ hD1)) (ends_dp (alD1.imp fun _ _ z => z.keep (TK.same sD2))), .lst (SqL.of hD2) (ends_dp alD2), ends_shaped _, ends_shaped _, _, rfl, ?_⟩
    rw [eqe, SeqAt.eqv_refl _ (ends_lay1 _)]
    refine if_bl (fun z => nomatch z) (fun _ => ?_)
    have s13 := sD1.trans sD2
    exact ⟨eD, rl, fo, gs, w, d, R, ms0, rv, rfl, fx, kps kp s13, hF.keep (TK.same s13), s13 _ _ hrl, alr.imp fun _ _ z => z.keep (TK.same s13)⟩
  case tail3 =>
    rintro D' σ' H1 ⟨eD, rl, fo, gs, w, d, R, ms0, rv, rfl, fx, kp, hF, hrl, alr⟩
    have hR1 := hR.keep kp.1
    have w20 := fx.w20
    have r1 := fx.r1
    refine ⟨_, rfl, _, rfl, r, rl, hs, bs, R, rfl, hR1, fx.ok, ⟨_, .inl hrl, alr⟩, fx.row, by omega, fun fi fv ms H3 nfi hfi alf ws s3 => ?_⟩
    refine ⟨_, rfl, _, rfl, _, rfl, _, rfl, ?_⟩
    dsimp only [tNoPart]
    refine ⟨rl, _, rfl, SqL.of (s3 _ _ hrl), fun p3 np3 => ?_⟩
    rw [cut_drop]
    have s4 := same_new (o := .lst (rv.drop w)) np3
    have hp3 : (upd H3 p3 (.lst (rv.drop w))) p3 = some (.lst (rv.drop w)) := upd_same
    generalize upd H3 p3 (.lst (rv.drop w)) = H4 at s4 hp3 ⊢
    have s14 := s3.trans s4
    refine ⟨fo, p3, hs, gs, R.drop w, rfl, hF.keep (TK.same s14), fx.okg, ⟨_, .inl hp3, (alr.drop w).imp fun _ _ z => z.keep (TK.same s14)⟩, fun x hx => fx.row x (List.mem_of_mem_drop hx), by rw [List.length_drop]; omega, fun lt lv ms1 H5 nlt hlt all ws1 s5 => ?_⟩
    have s35 := s4.trans s5
    exact ⟨eD, rl, fo, fi, lt, gs, w, d, R, ms0, ms, ms1, fv, lv, rfl, fx, kps kp (s14.trans s5), s35 _ _ hfi, alf.imp fun _ _ z => z.keep (TK.same s35), hlt, all, ws, ws1⟩
  case tail4 =>
    rintro D' σ' H1 ⟨eD, rl, fo, fi, lt, gs, w, d, R, ms0, ms, ms1, fv, lv, rfl, fx, kp, hfi, alf, hlt, all, ws, ws1⟩
    have hR1 := hR.keep kp.1
    obtain ⟨ha, ba, hv, bv, er, eh, eb, alh, alb⟩ := id hR1.ex
    have lhv := alh.length
    refine ⟨_, rfl, r, _, _, _, rfl, rfl, SqT.of er, atI_nat (j := 0) rfl, ha, _, rfl, .inr (SqT.of eh), _, rfl, by omega, by omega, fun D nD => lc_range (lo := 0) (n := hv.length) (fun i H5 => H5 D = some (.lst (((List.range i).filter fun j => decide (hs[j]?.map HR.wd = some ("out" : Str))).map nV)) ∧ Same H1 H5) ⟨upd_same, same_new nD⟩ ?_ ?_⟩
    · rintro i H5 hi ⟨hD, s5⟩
      have eh1 : hs[i]? = some hs[i] := List.getElem?_eq_getElem (by omega)
      obtain ⟨x, ex, ⟨t1, g, rfl, e1, e2⟩⟩ := alh.get eh1
      have gh := fx.ok.good _ (List.mem_of_getElem? eh1)
      have few := filt_len (p := fun j => decide (hs[j]?.map HR.wd = some ("out" : Str))) i
      refine ⟨rfl, _, rfl, r, _, _, _, rfl, rfl, SqT.of (s5 _ _ er), atI_nat (j := 0) rfl, _, rfl, ha, _, _, _, rfl, rfl, SqT.of (s5 _ _ eh), at0 ex, t1, _, _, _, rfl, rfl, SqT.of (s5 _ _ e1), atI_nat (j := 0) rfl, (by show 1 ≤ sizeLine; decide), fun o1 no1 => ?_⟩
      have s6 := s5.trans (same_new (o := .tup [V.str "out"]) no1)
      have hD6 := same_new (o := .tup [V.str "out"]) no1 _ _ hD
      refine ⟨_, _, rule_dp (s6 _ _ e2), .tup (SqT.of upd_same) (.cons (.str _) .nil), rule_shaped gh.lay, one_shaped (by decide +kernel), _, rfl, ?_⟩
      rw [rule_eqv, gh.door "out" (.inr rfl)]
      by_cases c : hs[i].wd = "out"
      · rw [decide_eq_true c]
        refine if_bl (fun _ => ⟨_, rfl, _, hD6, by rw [List.length_map]; exact small1000 (by omega), ?_, Same.own s6 nD⟩) (fun z => nomatch z)
        rw [upd_same, filt_succ, if_pos (decide_eq_true (by rw [eh1, ← c]; rfl)), List.map_append, Int.zero_add]
        rfl
      · rw [decide_eq_false c]
        refine if_bl (fun z => nomatch z) (fun _ => ⟨?_, s6⟩)
        rw [filt_succ, if_neg fun z => c (by have := of_decide_eq_true z; rw [eh1] at this; exact Option.some.inj this), List.append_nil]
        exact hD6
    rintro H2 ⟨hD, s2⟩
    have hD : H2 D = some (.lst ((doorsOf "out" hs).map nV)) := by rw [hD, lhv]; rfl
    exact ⟨eD, rl, fo, fi, lt, D, gs, w, d, R, ms0, ms, ms1, fv, lv, rfl, fx, kps kp s2, s2 _ _ hfi, alf.imp fun _ _ z => z.keep (TK.same s2), s2 _ _ hlt, all.imp fun _ _ z => z.keep (TK.same s2), ws, ws1, hD⟩
  case tail5 =>
    rintro D' σ' H1 ⟨eD, rl, fo, fi, lt, ol, gs, w, d, R, ms0, ms, ms1, fv, lv, rfl, fx, kp, hfi, alf, hlt, all, ws, ws1, hol⟩
    have w20 := fx.w20
    have r0 := fx.r0
    have r1 := fx.r1
    have lms : ms.length = R.length := ws.len
    have lms1 : ms1.length = R.length - w := by rw [ws1.len, List.length_drop]
    have llv := all.length
    have ldo := doors_len (z := "out") (hs := hs)
    refine ⟨_, rfl, lt, _, rfl, SqL.of hlt, for_it (J := Ite K lt) (n := lv.length) (fun i σ H5 => ∃ v13 v14 : Option V, σ = sg w rl fo (some (.ref fi)) (some (.ref lt)) (some (.ref ol)) v13 v14 ∧ Same H1 H5) ⟨_, _, rfl, fun _ _ e => e⟩ (fun i σ H5 hi ⟨_, _, _, s5⟩ => ⟨_, _, SqL.of (s5 _ _ hlt), List.getElem?_eq_getElem hi⟩) (fun σ H5 ⟨_, _, _, s5⟩ => ⟨_, SqL.of (s5 _ _ hlt), Nat.le_refl _⟩) ?_ ?_⟩
    · rintro i x σ H5 H6 hi ⟨v13, v14, rfl, s5⟩ ⟨tt, y, rfl, ntt, rfl, ey⟩
      have ey := ey _ (SqL.of (s5 _ _ hlt))
      obtain ⟨m1, em1, ⟨t1, rfl, ht1⟩⟩ := all.getL ey
      have s6 := s5.trans (same_new (o := .tup [V.int ((i : Nat) : Int), V.ref t1]) ntt)
      have il : i < ms1.length := (List.getElem?_eq_some_iff.mp em1).1
      have l1 := ws1.row _ (List.mem_of_getElem? em1)
      refine ⟨tt, _, rfl, SqT.of upd_same, rfl, _, _, rfl, _, _, rfl, rfl, ?_⟩
      generalize upd H5 tt _ = H6 at s6 ⊢
      refine ⟨_, rfl, ol, rfl, ⟨_, SqL.of (s6 _ _ hol)⟩, fun D nD => lc_list (K := K) (a := ol) (xs := (doorsOf "out" hs).map nV) (fun j H7 => H7 D = some (.lst ((((doorsOf "out" hs).take j).map fun k => gD m1 k).map V.int)) ∧ Same H6 H7) ⟨upd_same, same_new nD⟩ (fun j H7 _ ⟨_, s7⟩ => SqL.of (s7 _ _ (s6 _ _ hol))) ?_ ?_⟩
      · rintro j x H7 hx ⟨hD, s7⟩
        obtain ⟨k, ek, rfl⟩ := nats_at hx
        have jl := (List.getElem?_eq_some_iff.mp ek).1
        have kl := door_lt (List.mem_of_getElem? ek)
        refine ⟨rfl, yes_in ⟨_, rfl, _, rfl, t1, _, _, _, rfl, rfl, SqT.of (s7 _ _ (s6 _ _ ht1)), at_row (by omega), _, hD, by rw [List.length_map, List.length_map, List.length_take]; exact small1000 (by omega), ?_, Same.own s7 nD⟩⟩
        rw [upd_same, List.take_add_one, ek, List.map_append, List.map_append]
        rfl
      rintro H7 ⟨hD, s7⟩
      rw [List.length_map, List.take_length] at hD
      have s17 := s6.trans s7
      refine ⟨_, rfl, ol, rfl, ⟨_, SqL.of (s17 _ _ hol)⟩, fun D2 nD2 => lc_list (K := K) (a := ol) (xs := (doorsOf "out" hs).map nV) (fun j H8 => H8 D2 = some (.lst ((((doorsOf "out" hs).take j).map fun k => gD m1 k).map V.int)) ∧ Same H7 H8) ⟨upd_same, same_new nD2⟩ (fun j H8 _ ⟨_, s8⟩ => SqL.of (s8 _ _ (s17 _ _ hol))) ?_ ?_⟩
      · rintro j x H8 hx ⟨hD2, s8⟩
        obtain ⟨k, ek, rfl⟩ := nats_at hx
        have jl := (List.getElem?_eq_some_iff.mp ek).1
        have km := List.mem_of_getElem? ek
        have kl := door_lt km
        have wk := fx.wt.le k kl
        have sk := fx.gd.outs k km
        have s18 := s17.trans s8
        obtain ⟨s, es⟩ : ∃ s : Nat, ((i : Nat) : Int) + ((w : Nat) : Int) - ((m : Nat) : Int) = ((s : Nat) : Int) := ⟨(((i : Nat) : Int) + ((w : Nat) : Int) - ((m : Nat) : Int)).toNat, by omega⟩
        have sl2 : s < ms.length := by omega
        have em : ms[s]? = some ms[s] := List.getElem?_eq_getElem sl2
        obtain ⟨x2, ex2, ⟨t2, rfl, ht2⟩⟩ := alf.get em
        have l2 := ws.row _ (List.mem_of_getElem? em)
        have eqv : gD m1 k = gD ms[s] k := by
          have wsx : WS hs bs ((R.take w ++ R.drop w) ++ []) ms := by rw [List.append_nil, List.take_append_drop]; exact ws
          have key := moved_on fx.ok (fx.eg ▸ fx.okg) ⟨fx.gd.ins, fx.gd.tr⟩ (by rw [List.length_take]; omega) fx.wt.le fx.ws0 (fun j hj => by rw [fx.ws0.len, List.length_append, List.length_take, List.length_replicate]; have := fx.ah.le j hj; omega) wsx (fx.eg ▸ ws1) i k kl il (by omega)
          rw [sk, es, Int.toNat_natCast] at key
          unfold Vm at key
          rw [getD_at em1, getD_at em] at key
          exact key
        refine ⟨rfl, yes_in ⟨_, rfl, _, rfl, _, rfl, _, _, rfl, rfl, _, rfl, _, _, rfl, rfl, fi, _, _, _, rfl, rfl, SqL.of (s18 _ _ hfi), by rw [es]; exact atI_nat ex2, _, rfl, t2, _, _, _, rfl, rfl, SqT.of (s18 _ _ ht2), at_row (by omega), _, hD2, by rw [List.length_map, List.length_map, List.length_take]; exact small1000 (by omega), ?_, Same.own s8 nD2⟩⟩
        rw [upd_same, List.take_add_one, ek, List.map_append, List.map_append, ← eqv]
        rfl
      rintro H8 ⟨hD2, s8⟩
      rw [List.length_map, List.take_length] at hD2
      refine ⟨_, _, .lst (SqL.of (s8 _ _ hD)) (dp_ints _), .lst (SqL.of hD2) (dp_ints _), ints_shaped _, ints_shaped _, _, rfl, ?_⟩
      rw [ints_same]
      exact if_bl (fun z => nomatch z) (fun _ => ⟨_, _, rfl, s17.trans s8⟩)
    · rintro σ H5 ⟨v13, v14, rfl, s5⟩
      show D'.rt _ _
      rw [eD]
      have k5 := kps kp s5
      exact q H5 k5.1 k5.2.1 k5.2.2
  refine ⟨(by show 1 ≤ sizeLine; decide), fun z0 nz => ?_⟩
  have u1 := same_new (o := .lst [V.int 0]) nz
  refine ⟨_, rfl, sl, _, rfl, .inr (SqT.of (u1 _ _ hsl)), fun l nl => ?_⟩
  have u2 := same_new (o := .lst (levL hs.length sh)) nl
  refine ⟨z0, l, _, _, rfl, rfl, u2 _ _ upd_same, upd_same, by rw [levL_len]; exact little (by show 1 + _ ≤ 1000; omega), fun p np => ?_⟩
  have u3 := same_new (o := .lst ([V.int 0] ++ levL hs.length sh)) np
  refine ⟨p, 0 :: (List.range hs.length).map sh, rfl, SqL.of (by rw [upd_same, List.map_cons, ← levL_ints]; rfl), by simp, fun m0 hm hle => ?_⟩
  have u := (u1.trans u2).trans u3
  have wt : Wait hs.length sh m0 := Wait.of hm hle
  generalize upd _ p _ = H6 at u
  have F6 := F0.same u
  have tg6 := same_tab tg u
  have hR6 := hR.keep (TK.same u)
  have hsl6 := u _ _ hsl
  obtain ⟨w, rfl⟩ : ∃ w : Nat, m0 = ((w : Nat) : Int) := ⟨m0.toNat, by have := wt.nn; omega⟩
  have w20 : w ≤ 20 := by
    rcases wt.at_ with z | ⟨k, _, z⟩
    · omega
    · have := bd k; omega
  refine ⟨_, rfl, _, rfl, _, rfl, _, _, rfl, rfl, _, rfl, f, c, 5, rfl, by decide, by decide +kernel, F6, fun v3 H7 y0 y1 F7 B7 => ?_⟩
  have tg7 := tab_but tg6 fP B7
  have k7 := TK.but F6 B7
  refine ⟨_, _, rfl, rfl, f, c, r, hs, bs, ((w : Nat) : Int) + 1 + v3, rfl, by omega, by omega, F7, hR6.keep k7, lh, ok.good, fun rp rv rows H8 nrp hrp alr lr rok F8 B8 => ?_⟩
  have tg8 := tab_but tg7 fP B8
  have k8 := k7.trans (TK.but F7 B8)
  refine ⟨_, rfl, _, rfl, _, rfl, _, rfl, ?_⟩
  dsimp only [tNoPart]
  refine ⟨_, rfl, _, rfl, rp, _, rfl, SqL.of hrp, fun p9 np9 => ?_⟩
  rw [cut_take]
  have s9 := same_new (o := .lst (rv.take w)) np9
  have hp9 : (upd H8 p9 (.lst (rv.take w))) p9 = some (.lst (rv.take w)) := upd_same
  generalize upd H8 p9 (.lst (rv.take w)) = H9 at s9 hp9 ⊢
  have tg9 := same_tab tg8 s9
  have k9 := k8.trans (TK.same s9)
  have rpP : rp ≠ PT := tab_off tg8 hrp
  have lrow : ∀ x ∈ rows.take w, x.length = (doorsOf "in" hs).length := fun x hx => (rok x (List.mem_of_mem_take hx)).1
  have lrt : (rows.take w).length = w := by rw [List.length_take]; omega
  have gd : Good33 hs bs ((m : Nat) : Int) sh := ⟨rc.ins, fun k hk => by obtain ⟨to, o1, o2, _⟩ := rc.outs; rw [o1 k hk, o2 m rfl], fun b hb => rc.trays ok hb⟩
  refine ⟨r, sl, p9, hs, bs, ((m : Nat) : Int), sh, rv.take w, rows.take w, rfl, hR6.keep k9, ok, k9 _ _ hsl6, gd, fun k => by have := bd k; omega, .inl hp9, (alr.take w).imp fun _ _ z => z.keep (TK.same s9), lrow, by omega, fun k hk => by rw [lrt]; exact wt.le k hk, tg9, fun fo w' d ms0 H10 hfo wt' ahd ws0 tg10 b10 => ?_⟩
  obtain rfl := wt'.uniq wt
  have k10 := k9.trans (tab_tk tg9 b10)
  have gx : Gx hs bs (bs.map (movB sh ((w : Nat) : Int) ms0)) m w d T' sh rows ms0 := ⟨ok, rfl, mov_ok ok gd.tr bd (fun b hb => by have := l6 b hb; omega), gd, rc, T0, bd, wt, ahd, by omega, by omega, fun x hx => (rok x hx).1, ws0⟩
  exact ⟨rfl, rp, fo, _, w, d, rows, ms0, rv, rfl, gx, ⟨(TK.same u).trans k10, (F8.same s9).tab tg9 b10, tg10⟩, hfo, b10 _ _ (s9 _ _ hrp) rpP, alr.imp fun _ _ z => z.keep ((TK.same s9).trans (tab_tk tg9 b10))⟩
end
theorem Rch.cong {hs : List HR} {bs : List BR} {late : Option Nat} {T : Int} {sh sh' : Nat → Int} (ok : RoomOk hs bs) (r : Rch hs bs late T sh) (e : ∀ k, k < hs.length → sh k = sh' k) : Rch hs bs late T sh' := by
  refine ⟨fun k hk => by rw [← e k (door_lt hk)]; exact r.ins k hk, ?_, fun one ns d ho w => ?_⟩
  · obtain ⟨to, o1, o2, o3⟩ := r.outs
    exact ⟨to, fun k hk => by rw [← e k (door_lt hk)]; exact o1 k hk, o2, o3⟩
  · rw [← e one ho, ← e d (way_lt (fun b hb => (ok.ends b hb).2) ho w)]
    exact r.ways one ns d ho w
theorem levL_cong {n : Nat} {sh sh' : Nat → Int} (e : ∀ k, k < n → sh k = sh' k) : levL n sh = levL n sh' := List.map_congr_left fun k hk => by rw [e k (List.mem_range.mp hk)]
def absI (i : Int) : Int := if i < 0 then -i else i
section
variable {P : Program} {w : World} {K : PySem.W.Frag} {mg : Str → Option Value} {base : Heap} {cT PT : Addr} [TI : TabI K mg base cT PT]
include TI
omit TI in
theorem rch_fa {hs : List HR} {bs : List BR} {m : Nat} {T : Int} {sh : Nat → Int} (ok : RoomOk hs bs) (r : Rch hs bs (some m) T sh) : FA hs bs (some m) T := by
  refine ⟨sh, (fal_iff ok).mpr ⟨r.ways, fun l el d hd o ho => ?_⟩⟩
  cases el
  obtain ⟨to, o1, o2, _⟩ := r.outs
  rw [o1 d hd, o2 m rfl, r.ins o ho]
  omega
omit TI in
theorem cut_bd {hs : List HR} {sh : Nat → Int} {mx : Int} (hle : ∀ y ∈ 0 :: (List.range hs.length).map fun k => absI (sh k), y ≤ mx) (le : mx ≤ 20) : Bd 20 (fun k => if k < hs.length then sh k else 0) := fun k => by
  show _ ≤ (if _ then _ else _) ∧ (if _ then _ else _) ≤ _
  split
  · rename_i kl
    have := hle _ (List.mem_cons_of_mem _ (List.mem_map.mpr ⟨k, List.mem_range.mpr kl, rfl⟩))
    unfold absI at this
    split at this <;> omega
  · omega
def sp_law (K : PySem.W.Frag) (PT : Addr) : Sp := fun vs H Q _ => ∃ (a : Addr) (ns : List Int), vs = [.ref a] ∧ SqL K H a (ns.map V.int) ∧ ns.length ≤ 63 ∧ GxR.TabG H PT ∧ ∀ H', Q (.bl true) H'
theorem ok_law {f : Addr} {fd : FuncData} (F : Fun K "law" "law" s_law f fd) (T : Top K mg) : FnOk P w K mg base CX0 7 f fd ["_law_script"] (sp_law K PT) := by
  obtain ⟨f_law_flow, fd_law_flow, F_law_flow, b_law_flow, m_law_flow⟩ := T.d_law_flow
  have G_law_flow := ok_law_flow (P := P) (w := w) (base := base) F_law_flow T
  obtain ⟨f_law_room, fd_law_room, F_law_room, b_law_room, m_law_room⟩ := T.d_law_room
  have G_law_room := ok_law_room (P := P) (w := w) (base := base) F_law_room T
  obtain ⟨f_least_time, fd_least_time, F_least_time, b_least_time, m_least_time⟩ := T.d_least_time
  have G_least_time := ok_least_time (P := P) (w := w) (base := base) F_least_time T
  obtain ⟨f_soonest, fd_soonest, F_soonest, b_soonest, m_soonest⟩ := T.d_soonest
  have G_soonest := ok_soonest (P := P) (w := w) (base := base) F_soonest T
  obtain ⟨f_law_pick, fd_law_pick, F_law_pick, b_law_pick, m_law_pick⟩ := T.d_law_pick
  have G_law_pick := ok_law_pick (P := P) (w := w) (base := base) F_law_pick T
  obtain ⟨f_law_goes_on, fd_law_goes_on, F_law_goes_on, b_law_goes_on, m_law_goes_on⟩ := T.d_law_goes_on
  have G_law_goes_on := ok_law_goes_on (P := P) (w := w) (base := base) F_law_goes_on T
  refine F.ok sc_law (fun vs H Q E h => ?_) (fun cdv A outer s H vs Q E hr h => ?_)
  · obtain ⟨a, ns, rfl, _⟩ := h
    rfl
  obtain ⟨a, ns, rfl, hS, hlen, tg, q⟩ := h
  let sg : Addr → Addr → V → Int → Addr → V → Addr → Option V → Option V → L2.St := fun f r la T sl bar ol v9 v11 => [some (.ref a), some (.ref f), some (.ref r), some la, some (.int T), some (.ref sl), some bar, some (.ref ol), none, v9, none, v11]
  let R2 : TS := fun D' σ' H' => D'.rt = Q ∧ ∃ (f c r sl ol : Addr) (la bar : V) (T : Int) (m : Nat) (hs : List HR) (bs : List BR) (sh : Nat → Int), σ' = sg f r la T sl bar ol (some (.int ((m : Nat) : Int))) none ∧ Flow H' f c ∧ f ≠ PT ∧ RoomAt H' r hs bs ∧ RoomOk hs bs ∧ (∀ b ∈ bs, b.th.length ≤ 6) ∧ 0 < hs.length ∧ H' sl = some (.tup (levL hs.length sh)) ∧ Rch hs bs (some m) T sh ∧ 0 ≤ T ∧ GxR.TabG H' PT
  let R1 : TS := fun D' σ' H' => D'.rt = Q ∧ ∃ (f c r sl ol : Addr) (la bar : V) (T : Int) (late : Option Nat) (hs : List HR) (bs : List BR) (sh : Nat → Int), la = lateV late ∧ σ' = [some (.ref a), some (.ref f), some (.ref r), some la, some (.int T), some (.ref sl), some bar, some (.ref ol), none, none, none, none] ∧ H' ol = some (.lst (((doorsOf "out" hs).map sh).map V.int)) ∧ Flow H' f c ∧ f ≠ PT ∧ RoomAt H' r hs bs ∧ RoomOk hs bs ∧ (∀ b ∈ bs, b.th.length ≤ 6) ∧ 0 < hs.length ∧ H' sl = some (.tup (levL hs.length sh)) ∧ Rch hs bs late T sh ∧ 0 ≤ T ∧ GxR.TabG H' PT
  refine ⟨_, (pss_cons (ps_set (i := 1) sc_law.nd rfl (Or.inl rfl) (pe_call G_law_flow (hr.mono (by decide)) (by rfl) m_law_flow F_law_flow.kp b_law_flow .nil pass0 (pa_cons (pv 0) pa_nil)))
      (pss_cons (ps_set (i := 2) sc_law.nd rfl (Or.inr rfl) (pe_call G_law_room (hr.mono (by decide)) (by rfl) m_law_room F_law_room.kp b_law_room .nil pass0 (pa_cons (pv 1) (pa_cons pe_int pa_nil))))
      (pss_cons (ps_set (i := 3) sc_law.nd rfl (Or.inl rfl) (pe_ix (ix_listK K rfl) (pe_lst (pa_cons pe_int (pa_cons pe_int (pa_cons pe_int (pa_cons pe_int (pa_cons pe_non pa_nil)))))) (pe_call G_law_pick (hr.mono (by decide)) (by rfl) m_law_pick F_law_pick.kp b_law_pick .nil pass0 (pa_cons (pv 1) (pa_cons pe_int pa_nil))) (fun _ _ => rfl)))
      (pss_cons (ps_asg (pe_call G_least_time (hr.mono (by decide)) (by rfl) m_least_time F_least_time.kp b_least_time .nil pass0 (pa_cons (pv 2) (pa_cons (pv 3) pa_nil))) (pg_tupK K rfl rfl (pgs_cons (pg_name (i := 4) sc_law.nd rfl (Or.inl rfl)) (pgs_cons (pg_name (i := 5) sc_law.nd rfl (Or.inr rfl)) (pgs_cons (pg_name (i := 6) sc_law.nd rfl (Or.inl rfl)) pgs_nil)))))
      (pss_cons (ps_setLc (i := 7) (own := [("_law_k", 8)]) (g := gName 8) (by rfl) sc_law.nd rfl rfl (sw_true rfl rfl rfl (by decide +kernel)) (pi_range1 (by rfl) T.m_range (pa_cons (pe_callB (call_len_seqK K rfl) (by rfl) T.m_len (by decide +kernel) (pa_cons (pv 5) pa_nil)) pa_nil)) (blkOk_by (own := [("_law_k", 8)]) (N := N_law) (sc := defScope s_law) (by decide +kernel)) (fun _ _ _ _ _ => (pg_name (i := 8) sc_law.nd rfl (Or.inl rfl))) (fun _ _ _ _ _ => pts_one (pt_cmpR (op_eqDK K rfl hr.units) (pe_ix (ix_tupK K rfl) (pe_ix (ix_tupK K rfl) (pe_ix (ix_tupK K rfl) (pv 2) pe_int (fun _ _ => rfl)) (pv 8) (fun _ _ => rfl)) pe_int (fun _ _ => rfl)) (pe_tup (pa_cons pe_str pa_nil)) (nomark _))) (fun _ _ _ _ _ => (pe_ix (ix_tupK K rfl) (pv 5) (pv 8) (fun _ _ => rfl))))
      (PSs.to (pss_cons (ps_set (i := 9) sc_law.nd rfl (Or.inl rfl) (pv 3))
      (pss_cons (ps_if (pt_cmpR op_isN (pv 3) pe_non (nomark _)) (pss_one (ps_set (i := 9) sc_law.nd rfl (Or.inl rfl) (pe_callB (cr_maxKK K rfl rfl) (by rfl) T.m_max (by decide +kernel) (pa_cons (pe_op op_cat (pv 7) (pe_lst (pa_cons pe_int pa_nil))) pa_nil)))) pss_nil)
      (PSs.to (pss_cons (ps_if (PW.pt (pw_or (pt_cmpR op_gt (pv 9) pe_int (nomark _)) (pw_or1 (pt_cmpR op_gt (pe_callB (cr_maxKK K rfl rfl) (by rfl) T.m_max (by decide +kernel) (pa_cons (pe_op op_cat (pe_lst (pa_cons pe_int pa_nil)) (pe_lc (own := [("_law_one", 10)]) (g := gName 10) (tt := tYes) (by rfl) sc_law.nd (pi_tupK K rfl (pv 5)) (blkOk_by (own := [("_law_one", 10)]) (N := N_law) (sc := defScope s_law) (by decide +kernel)) (fun _ _ _ _ _ => (pg_name (i := 10) sc_law.nd rfl (Or.inl rfl))) (fun _ _ _ _ _ => pts_nil) (fun _ _ _ _ _ => (pe_callB call_abs (by rfl) T.m_abs (by decide +kernel) (pa_cons (pv 10) pa_nil))))) pa_nil)) pe_int (nomark _))))) (pss_one (ps_ret pe_bl)) pss_nil)
      (pss_cons (ps_if (pt_not (pt_val (pe_call G_law_goes_on (hr.mono (by decide)) (by rfl) m_law_goes_on F_law_goes_on.kp b_law_goes_on .nil pass0 (pa_cons (pv 1) (pa_cons (pv 2) (pa_cons (pv 9) (pa_cons (pv 4) (pa_cons (pv 5) pa_nil)))))))) (pss_one (ps_ret pe_bl)) pss_nil)
      (pss_cons (ps_set (i := 11) sc_law.nd rfl (Or.inl rfl) (pe_call G_soonest (hr.mono (by decide)) (by rfl) m_soonest F_soonest.kp b_soonest .nil pass0 (pa_cons (pv 2) (pa_cons (pv 9) (pa_cons (pv 4) pa_nil)))))
      (pss_cons (ps_if (pt_cmpR op_isN (pv 11) pe_non (nomark _)) (pss_one (ps_ret pe_bl)) pss_nil)
      (pss_one (ps_ret (pe_or (pe_cmpR op_gt (pe_callB (cr_maxKK K rfl rfl) (by rfl) T.m_max (by decide +kernel) (pa_cons (pe_op op_cat (pe_lst (pa_cons pe_int pa_nil)) (pe_lc (own := [("_law_one", 10)]) (g := gName 10) (tt := tYes) (by rfl) sc_law.nd (pi_tupK K rfl (pe_ix (ix_tupK K rfl) (pv 11) pe_int (fun _ _ => rfl))) (blkOk_by (own := [("_law_one", 10)]) (N := N_law) (sc := defScope s_law) (by decide +kernel)) (fun _ _ _ _ _ => (pg_name (i := 10) sc_law.nd rfl (Or.inl rfl))) (fun _ _ _ _ _ => pts_nil) (fun _ _ _ _ _ => (pe_callB call_abs (by rfl) T.m_abs (by decide +kernel) (pa_cons (pv 10) pa_nil))))) pa_nil)) pe_int (nomark _)) (pe_one (pe_call G_law_goes_on (hr.mono (by decide)) (by rfl) m_law_goes_on F_law_goes_on.kp b_law_goes_on .nil pass0 (pa_cons (pv 1) (pa_cons (pv 2) (pa_cons (pv 9) (pa_cons (pv 4) (pa_cons (pe_ix (ix_tupK K rfl) (pv 11) pe_int (fun _ _ => rfl)) pa_nil)))))))))))))) R2 ?tail2))) R1 ?tail1)))))), ?_⟩
  case tail2 =>
    rintro D' σ' H1 ⟨eD, f, c, r, sl, ol, la, bar, T', m, hs, bs, sh, rfl, F1, fP, hR, ok, l6, pos, hsl, rc, T0, tg1⟩
    have lh := ok.hands
    have yes : ∀ H2, D'.rt (.bl true) H2 := fun H2 => by rw [eD]; exact q H2
    refine ⟨_, rfl, _, _, rfl, rfl, _, rfl, if_bl (fun _ => yes H1) (fun _ => ?_)⟩
    refine ⟨(by show 1 ≤ sizeLine; decide), fun z0 nz => ?_⟩
    have u1 := same_new (o := .lst [V.int 0]) nz
    refine ⟨_, rfl, sl, rfl, ⟨_, SqT.of (u1 _ _ hsl)⟩, fun D nD => lc_tup (K := K) (a := sl) (xs := levL hs.length sh) (fun i H5 => H5 D = some (.lst (((List.range i).map fun k => absI (sh k)).map V.int)) ∧ Same (upd H1 z0 (.lst [V.int 0])) H5) ⟨upd_same, same_new nD⟩ (fun i H5 _ ⟨_, s5⟩ => SqT.of (s5 _ _ (u1 _ _ hsl))) ?_ ?_⟩
    · rintro i x H5 hx ⟨hD, s5⟩
      have il := (List.getElem?_eq_some_iff.mp hx).1
      rw [levL_len] at il
      rw [rg_at il] at hx
      obtain rfl := (Option.some.inj hx).symm
      refine ⟨rfl, yes_in ⟨_, rfl, _, rfl, _, hD, by rw [List.length_map, List.length_map, List.length_range]; exact small1000 (by omega), ?_, Same.own s5 nD⟩⟩
      rw [upd_same, List.range_succ, List.map_append, List.map_append]
      rfl
    rintro H2 ⟨hD, s2⟩
    rw [levL_len] at hD
    have hz0 := s2 _ _ (upd_same (H := H1) (a := z0) (o := .lst [V.int 0]))
    refine ⟨z0, D, _, _, rfl, rfl, hz0, hD, by rw [List.length_map, List.length_map, List.length_range]; exact little (by show 1 + _ ≤ 1000; omega), fun p np => ?_⟩
    have u3 := same_new (o := .lst ([V.int 0] ++ ((List.range hs.length).map fun k => absI (sh k)).map V.int)) np
    refine ⟨p, 0 :: (List.range hs.length).map (fun k => absI (sh k)), rfl, SqL.of (by rw [upd_same, List.map_cons]; rfl), by simp, fun mx hm hle => ?_⟩
    have s3 := (u1.trans s2).trans u3
    generalize upd H2 p _ = H3 at s3
    refine ⟨_, _, rfl, rfl, _, rfl, if_bl (fun _ => yes H3) (fun c0 => ?_)⟩
    have mx20 : mx ≤ 20 := by have := of_decide_eq_false c0; omega
    have ec : ∀ k, k < hs.length → sh k = (fun k => if k < hs.length then sh k else 0) k := fun k hk => (if_pos hk).symm
    have k3 := TK.same s3
    have F3 := F1.same s3
    have tg3 := same_tab tg1 s3
    refine ⟨_, rfl, _, rfl, _, rfl, _, rfl, _, rfl, f, c, r, sl, hs, bs, m, T', _, rfl, F3, fP, hR.keep k3, ok, l6, by rw [← levL_cong ec]; exact k3 _ _ hsl, rc.cong ok ec, T0, cut_bd hle mx20, tg3, fun H4 k4 F4 tg4 => ⟨_, rfl, if_bl (fun z => nomatch z) (fun _ => ?_)⟩⟩
    have k14 := k3.trans k4
    refine ⟨_, rfl, _, rfl, _, rfl, r, hs, bs, m, T', rfl, hR.keep k14, ok, pos, fun H5 nf _ => absurd (rch_fa ok rc) nf, fun p5 p6 sh2 M y H5 hp5 hp6 fa rc2 wt2 low2 wk2 s5 => ?_⟩
    refine ⟨_, rfl, rfl, _, rfl, if_bl (fun z => nomatch z) (fun _ => ?_)⟩
    have k15 := k14.trans (TK.same s5)
    refine ⟨(by show 1 ≤ sizeLine; decide), fun z0 nz => ?_⟩
    have u1 := same_new (o := .lst [V.int 0]) nz
    refine ⟨_, rfl, p5, _, _, _, rfl, rfl, SqT.of (u1 _ _ hp5), atI_nat (j := 1) rfl, p6, rfl, ⟨_, SqT.of (u1 _ _ hp6)⟩, fun D nD => lc_tup (K := K) (a := p6) (xs := levL hs.length sh2) (fun i H6 => H6 D = some (.lst (((List.range i).map fun k => absI (sh2 k)).map V.int)) ∧ Same (upd H5 z0 (.lst [V.int 0])) H6) ⟨upd_same, same_new nD⟩ (fun i H6 _ ⟨_, s6⟩ => SqT.of (s6 _ _ (u1 _ _ hp6))) ?_ ?_⟩
    · rintro i x H6 hx ⟨hD, s6⟩
      have il := (List.getElem?_eq_some_iff.mp hx).1
      rw [levL_len] at il
      rw [rg_at il] at hx
      obtain rfl := (Option.some.inj hx).symm
      refine ⟨rfl, yes_in ⟨_, rfl, _, rfl, _, hD, by rw [List.length_map, List.length_map, List.length_range]; exact small1000 (by omega), ?_, Same.own s6 nD⟩⟩
      rw [upd_same, List.range_succ, List.map_append, List.map_append]
      rfl
    rintro H6 ⟨hD, s6⟩
    rw [levL_len] at hD
    have hz0 := s6 _ _ (upd_same (H := H5) (a := z0) (o := .lst [V.int 0]))
    refine ⟨z0, D, _, _, rfl, rfl, hz0, hD, by rw [List.length_map, List.length_map, List.length_range]; exact little (by show 1 + _ ≤ 1000; omega), fun p np => ?_⟩
    have u3 := same_new (o := .lst ([V.int 0] ++ ((List.range hs.length).map fun k => absI (sh2 k)).map V.int)) np
    refine ⟨p, 0 :: (List.range hs.length).map (fun k => absI (sh2 k)), rfl, SqL.of (by rw [upd_same, List.map_cons]; rfl), by simp, fun mx2 hm2 hle2 => ?_⟩
    have s7 := (u1.trans s6).trans u3
    generalize upd H6 p _ = H7 at s7
    refine ⟨_, _, rfl, rfl, _, rfl, if_bl (fun _ => yes H7) (fun c2 => ?_)⟩
    have mx20 : mx2 ≤ 20 := by have := of_decide_eq_false c2; omega
    have ec : ∀ k, k < hs.length → sh2 k = (fun k => if k < hs.length then sh2 k else 0) k := fun k hk => (if_pos hk).symm
    have s57 := s5.trans s7
    refine ⟨_, rfl, _, rfl, _, rfl, _, rfl, _, rfl, p5, _, _, _, rfl, rfl, SqT.of (s7 _ _ hp5), atI_nat (j := 1) rfl, f, c, r, p6, hs, bs, m, T', _, rfl, F4.same s57, fP, hR.keep (k15.trans (TK.same s7)), ok, l6, by rw [← levL_cong ec]; exact s7 _ _ hp6, rc2.cong ok ec, T0, cut_bd hle2 mx20, same_tab tg4 s57, fun H8 _ _ _ => yes H8⟩
  case tail1 =>
    rintro D' σ' H1 ⟨eD, f, c, r, sl, ol, la, bar, T', late, hs, bs, sh, rfl, rfl, hol, F1, fP, hR, ok, l6, pos, hsl, rc, T0, tg1⟩
    have lh := ok.hands
    have d1 := doors_len (z := "out") (hs := hs)
    obtain ⟨to, o1, o2, o3⟩ := rc.outs
    refine ⟨_, rfl, ?_⟩
    cases late with
    | some l => exact ⟨_, rfl, rfl, _, rfl, if_bl (fun z => absurd (of_decide_eq_true z) (fun y => nomatch y)) (fun _ => ⟨eD, f, c, r, sl, ol, _, bar, T', l, hs, bs, sh, rfl, F1, fP, hR, ok, l6, pos, hsl, rc, T0, tg1⟩)⟩
    | none =>
      refine ⟨_, rfl, rfl, _, rfl, if_bl (fun _ => ?_) (fun z => absurd rfl (of_decide_eq_false z))⟩
      refine ⟨_, rfl, (by show 1 ≤ sizeLine; decide), fun l0 nl0 => ?_⟩
      have s2 := same_new (o := .lst [V.int 0]) nl0
      refine ⟨ol, l0, _, _, rfl, rfl, s2 _ _ hol, upd_same, by rw [List.length_map, List.length_map]; exact little (by show _ + 1 ≤ 1000; omega), fun p np => ?_⟩
      refine ⟨p, (doorsOf "out" hs).map sh ++ [0], rfl, SqL.of (by rw [upd_same, List.map_append]; rfl), by simp, fun m hm hle => ?_⟩
      have s3 := s2.trans (same_new (o := .lst (((doorsOf "out" hs).map sh).map V.int ++ [V.int 0])) np)
      generalize upd _ p _ = H3 at s3 ⊢
      have m0 := hle 0 (List.mem_append_right _ (List.mem_singleton.mpr rfl))
      obtain ⟨mn, rfl⟩ : ∃ n : Nat, m = ((n : Nat) : Int) := ⟨m.toNat, by omega⟩
      have outs : ∀ k ∈ doorsOf "out" hs, sh k = ((mn : Nat) : Int) := fun k hk => by
        have h0 := o3 rfl (List.ne_nil_of_mem hk)
        have h1 := hle _ (List.mem_append_left _ (List.mem_map.mpr ⟨k, hk, rfl⟩))
        rw [o1 k hk] at h1 ⊢
        rcases List.mem_append.mp hm with z | z
        · obtain ⟨k', hk', e⟩ := List.mem_map.mp z
          rw [← e, o1 k' hk']
        · have := List.mem_singleton.mp z
          omega
      have rc' : Rch hs bs (some mn) T' sh := ⟨rc.ins, ⟨((mn : Nat) : Int), outs, fun l e => by cases e; rfl, fun z => nomatch z⟩, rc.ways⟩
      exact ⟨eD, f, c, r, sl, ol, _, bar, T', mn, hs, bs, sh, rfl, F1.same s3, fP, hR.keep (TK.same s3), ok, l6, pos, s3 _ _ hsl, rc', T0, same_tab tg1 s3⟩
  refine ⟨_, rfl, a, ns, rfl, hS, fun f c H1 nf nc F1 s1 => ?_⟩
  have tg1 := same_tab tg s1
  have fP : f ≠ PT := fun z => by obtain ⟨ps, e, _⟩ := tg; rw [z, e] at nf; cases nf
  refine ⟨_, rfl, f, c, 3, rfl, by decide, by decide, F1, fun r hs bs H2 hR ok some1 l6 F2 B2 => ?_⟩
  have lh := ok.hands
  have pos : 0 < hs.length := by
    obtain ⟨h, hm, _⟩ := some1
    exact List.length_pos_of_mem hm
  have tg2 := tab_but tg1 fP B2
  refine ⟨(by show 5 ≤ sizeLine; decide), fun ml nml => ?_⟩
  have s23 := same_new (o := .lst [V.int 0, V.int 1, V.int 2, V.int 4, V.non]) nml
  have F3 := F2.same s23
  have hml : (upd H2 ml (.lst [V.int 0, V.int 1, V.int 2, V.int 4, V.non])) ml = some (.lst [V.int 0, V.int 1, V.int 2, V.int 4, V.non]) := upd_same
  have mlf : ml ≠ f := F2.ne nml
  have tg3 := same_tab tg2 s23
  generalize upd H2 ml _ = H3 at s23 F3 hml tg3 ⊢
  refine ⟨_, rfl, f, c, 5, rfl, by decide, by decide +kernel, F3, fun v H4 v0 v1 F4 B4 => ?_⟩
  have tg4 := tab_but tg3 fP B4
  obtain ⟨late, hlv⟩ : ∃ late : Option Nat, atI [V.int 0, V.int 1, V.int 2, V.int 4, V.non] v = some (lateV late) := by
    have : v = 0 ∨ v = 1 ∨ v = 2 ∨ v = 3 ∨ v = 4 := by omega
    rcases this with rfl | rfl | rfl | rfl | rfl
    · exact ⟨some 0, rfl⟩
    · exact ⟨some 1, rfl⟩
    · exact ⟨some 2, rfl⟩
    · exact ⟨some 4, rfl⟩
    · exact ⟨none, rfl⟩
  have k24 : TK H2 H4 := (TK.same s23).trans (TK.but F3 B4)
  have hR4 := hR.keep k24
  refine ⟨ml, _, _, _, rfl, rfl, SqL.of (B4 _ _ hml mlf), hlv, ?_⟩
  refine ⟨_, rfl, _, rfl, r, hs, bs, late, rfl, hR4, ok, fun p p' T' sh y H5 hp hp' shf lst bV s5 => ?_⟩
  have rc := shf.rch ok
  have hR5 := hR4.keep (TK.same s5)
  obtain ⟨ha, ba, hv, bv, er, eh, eb, alh, alb⟩ := id hR5.ex
  have lhv := alh.length
  refine ⟨p, _, rfl, SqT.of hp, rfl, _, _, rfl, _, _, rfl, _, _, rfl, rfl, ?_⟩
  refine ⟨_, rfl, p', _, rfl, .inr (SqT.of hp'), _, rfl, by rw [levL_len]; omega, by rw [levL_len]; omega, fun D nD => lc_range (lo := 0) (n := (levL hs.length sh).length) (fun i H6 => H6 D = some (.lst ((((List.range i).filter fun j => decide (hs[j]?.map HR.wd = some ("out" : Str))).map sh).map V.int)) ∧ Same H5 H6) ⟨upd_same, same_new nD⟩ ?_ ?_⟩
  · rintro i H6 hi ⟨hD, s6⟩
    rw [levL_len] at hi
    have eh1 : hs[i]? = some hs[i] := List.getElem?_eq_getElem (by omega)
    obtain ⟨x, ex, ⟨t, g, rfl, e1, e2⟩⟩ := alh.get eh1
    have gh := ok.good _ (List.mem_of_getElem? eh1)
    have few := filt_len (p := fun j => decide (hs[j]?.map HR.wd = some ("out" : Str))) i
    refine ⟨rfl, _, rfl, r, _, _, _, rfl, rfl, SqT.of (s6 _ _ er), atI_nat (j := 0) rfl, _, rfl, ha, _, _, _, rfl, rfl, SqT.of (s6 _ _ eh), at0 ex, t, _, _, _, rfl, rfl, SqT.of (s6 _ _ e1), atI_nat (j := 0) rfl, (by show 1 ≤ sizeLine; decide), fun o1 no1 => ?_⟩
    have s7 := s6.trans (same_new (o := .tup [V.str "out"]) no1)
    have hD6 := same_new (o := .tup [V.str "out"]) no1 _ _ hD
    refine ⟨_, _, rule_dp (s7 _ _ e2), .tup (SqT.of upd_same) (.cons (.str _) .nil), rule_shaped gh.lay, one_shaped (by decide +kernel), _, rfl, ?_⟩
    rw [rule_eqv, gh.door "out" (.inr rfl)]
    by_cases c : hs[i].wd = "out"
    · rw [decide_eq_true c]
      refine if_bl (fun _ => ⟨_, rfl, _, rfl, p', _, _, _, rfl, rfl, SqT.of (s7 _ _ hp'), at0 (rg_at hi), _, hD6, by rw [List.length_map, List.length_map]; exact small1000 (by omega), ?_, Same.own s7 nD⟩) (fun z => nomatch z)
      rw [upd_same, filt_succ, if_pos (decide_eq_true (by rw [eh1, ← c]; rfl)), List.map_append, List.map_append]
      rfl
    · rw [decide_eq_false c]
      refine if_bl (fun z => nomatch z) (fun _ => ⟨?_, s7⟩)
      rw [filt_succ, if_neg fun z => c (by have := of_decide_eq_true z; rw [eh1] at this; exact Option.some.inj this), List.append_nil]
      exact hD6
  rintro H6 ⟨hD, s6⟩
  rw [levL_len] at hD
  have s56 := s5.trans s6
  exact ⟨rfl, f, c, r, p', D, _, y, T', late, hs, bs, sh, rfl, rfl, hD, F4.same s56, fP, hR4.keep (TK.same s56), ok, l6, pos, s6 _ _ hp', rc, lst.nn, same_tab tg4 s56⟩
end
theorem fun_of_D {K : PySem.W.Frag} {x q : Str} {st : Stmt} {f : Addr} {fd : FuncData} (D : FunD K x q (defArgs st) (defBody st) (defScope st) [] [] f fd) : Fun K x q st f fd := by
  obtain ⟨⟨oc, od, dV, kV, doc, pm, an, cdv, ct, osl, e, lk, ci, dfl, _⟩, kp⟩ := D
  have z : dV = .none := by
    rcases dfl with ⟨_, h⟩ | ⟨h, _⟩
    · exact h
    · exact absurd rfl h
  subst z
  exact ⟨⟨oc, od, kV, doc, pm, an, cdv, ct, osl, e, lk, ci⟩, kp⟩
def hd_levels_or_ring : He.DefD := ⟨("levels_or_ring", none), "levels_or_ring", "levels_or_ring", defArgs s_levels_or_ring, defBody s_levels_or_ring, defScope s_levels_or_ring, [], []⟩
def hd_raise_levels : He.DefD := ⟨("raise_levels", none), "raise_levels", "raise_levels", defArgs s_raise_levels, defBody s_raise_levels, defScope s_raise_levels, [], []⟩
def hd_ring_behind : He.DefD := ⟨("ring_behind", none), "ring_behind", "ring_behind", defArgs s_ring_behind, defBody s_ring_behind, defScope s_ring_behind, [], []⟩
def hd_is_whole : He.DefD := ⟨("is_whole", none), "is_whole", "is_whole", defArgs s_is_whole, defBody s_is_whole, defScope s_is_whole, [], []⟩
def hd_made_by : He.DefD := ⟨("made_by", none), "made_by", "made_by", defArgs s_made_by, defBody s_made_by, defScope s_made_by, [], []⟩
def hd_made_of_two : He.DefD := ⟨("made_of_two", none), "made_of_two", "made_of_two", defArgs s_made_of_two, defBody s_made_of_two, defScope s_made_of_two, [], []⟩
def hd_comings : He.DefD := ⟨("comings", none), "comings", "comings", defArgs s_comings, defBody s_comings, defScope s_comings, [], []⟩
def hd_doors_in : He.DefD := ⟨("doors_in", none), "doors_in", "doors_in", defArgs s_doors_in, defBody s_doors_in, defScope s_doors_in, [], []⟩
def hd_doors_out : He.DefD := ⟨("doors_out", none), "doors_out", "doors_out", defArgs s_doors_out, defBody s_doors_out, defScope s_doors_out, [], []⟩
def hd_work_order : He.DefD := ⟨("work_order", none), "work_order", "work_order", defArgs s_work_order, defBody s_work_order, defScope s_work_order, [], []⟩
def hd_way_back : He.DefD := ⟨("way_back", none), "way_back", "way_back", defArgs s_way_back, defBody s_way_back, defScope s_way_back, [], []⟩
def hd_least_costs : He.DefD := ⟨("least_costs", none), "least_costs", "least_costs", defArgs s_least_costs, defBody s_least_costs, defScope s_least_costs, [], []⟩
def hd_shifts_or_bar : He.DefD := ⟨("shifts_or_bar", none), "shifts_or_bar", "shifts_or_bar", defArgs s_shifts_or_bar, defBody s_shifts_or_bar, defScope s_shifts_or_bar, [], []⟩
def hd_least_time : He.DefD := ⟨("least_time", none), "least_time", "least_time", defArgs s_least_time, defBody s_least_time, defScope s_least_time, [], []⟩
def hd_least_ways : He.DefD := ⟨("least_ways", none), "least_ways", "least_ways", defArgs s_least_ways, defBody s_least_ways, defScope s_least_ways, [], []⟩
def hd_paper_by : He.DefD := ⟨("paper_by", none), "paper_by", "paper_by", defArgs s_paper_by, defBody s_paper_by, defScope s_paper_by, [], []⟩
def hd_needed : He.DefD := ⟨("needed", none), "needed", "needed", defArgs s_needed, defBody s_needed, defScope s_needed, [], []⟩
def hd_jumps : He.DefD := ⟨("jumps", none), "jumps", "jumps", defArgs s_jumps, defBody s_jumps, defScope s_jumps, [], []⟩
def hd_shifts_by : He.DefD := ⟨("shifts_by", none), "shifts_by", "shifts_by", defArgs s_shifts_by, defBody s_shifts_by, defScope s_shifts_by, [], []⟩
def hd_worked : He.DefD := ⟨("worked", none), "worked", "worked", defArgs s_worked, defBody s_worked, defScope s_worked, [], []⟩
def hd_work_plan : He.DefD := ⟨("work_plan", none), "work_plan", "work_plan", defArgs s_work_plan, defBody s_work_plan, defScope s_work_plan, [], []⟩
def hd_made_at_bell : He.DefD := ⟨("made_at_bell", none), "made_at_bell", "made_at_bell", defArgs s_made_at_bell, defBody s_made_at_bell, defScope s_made_at_bell, [], []⟩
def hd_thing_taken : He.DefD := ⟨("thing_taken", none), "thing_taken", "thing_taken", defArgs s_thing_taken, defBody s_thing_taken, defScope s_thing_taken, [], []⟩
def hd_behind_bell : He.DefD := ⟨("behind_bell", none), "behind_bell", "behind_bell", defArgs s_behind_bell, defBody s_behind_bell, defScope s_behind_bell, [], []⟩
def hd_belt_behind_bell : He.DefD := ⟨("belt_behind_bell", none), "belt_behind_bell", "belt_behind_bell", defArgs s_belt_behind_bell, defBody s_belt_behind_bell, defScope s_belt_behind_bell, [], []⟩
def hd_look_shifts : He.DefD := ⟨("look_shifts", none), "look_shifts", "look_shifts", defArgs s_look_shifts, defBody s_look_shifts, defScope s_look_shifts, [], []⟩
def hd_refuse_shifts : He.DefD := ⟨("refuse_shifts", none), "refuse_shifts", "refuse_shifts", defArgs s_refuse_shifts, defBody s_refuse_shifts, defScope s_refuse_shifts, [], []⟩
def hd_is_shifts : He.DefD := ⟨("is_shifts", none), "is_shifts", "is_shifts", defArgs s_is_shifts, defBody s_is_shifts, defScope s_is_shifts, [], []⟩
def hd_wrong_door : He.DefD := ⟨("wrong_door", none), "wrong_door", "wrong_door", defArgs s_wrong_door, defBody s_wrong_door, defScope s_wrong_door, [], []⟩
def hd_short_belt : He.DefD := ⟨("short_belt", none), "short_belt", "short_belt", defArgs s_short_belt, defBody s_short_belt, defScope s_short_belt, [], []⟩
def hd_waits : He.DefD := ⟨("waits", none), "waits", "waits", defArgs s_waits, defBody s_waits, defScope s_waits, [], []⟩
def hd_trays_moved : He.DefD := ⟨("trays_moved", none), "trays_moved", "trays_moved", defArgs s_trays_moved, defBody s_trays_moved, defScope s_trays_moved, [], []⟩
def hd_moved : He.DefD := ⟨("moved", none), "moved", "moved", defArgs s_moved, defBody s_moved, defScope s_moved, [], []⟩
def hd_rows_on : He.DefD := ⟨("rows_on", none), "rows_on", "rows_on", defArgs s_rows_on, defBody s_rows_on, defScope s_rows_on, [], []⟩
def hd_taken_at : He.DefD := ⟨("taken_at", none), "taken_at", "taken_at", defArgs s_taken_at, defBody s_taken_at, defScope s_taken_at, [], []⟩
def hd_hand_places : He.DefD := ⟨("hand_places", none), "hand_places", "hand_places", defArgs s_hand_places, defBody s_hand_places, defScope s_hand_places, [], []⟩
def hd_ground_steps : He.DefD := ⟨("ground_steps", none), "ground_steps", "ground_steps", defArgs s_ground_steps, defBody s_ground_steps, defScope s_ground_steps, [], []⟩
def hd_ground_shifts : He.DefD := ⟨("ground_shifts", none), "ground_shifts", "ground_shifts", defArgs s_ground_shifts, defBody s_ground_shifts, defScope s_ground_shifts, [], []⟩
def hd_soonest : He.DefD := ⟨("soonest", none), "soonest", "soonest", defArgs s_soonest, defBody s_soonest, defScope s_soonest, [], []⟩
def hd_levels_or_path : He.DefD := ⟨("levels_or_path", none), "levels_or_path", "levels_or_path", defArgs s_levels_or_path, defBody s_levels_or_path, defScope s_levels_or_path, [], []⟩
def hd_law_flow : He.DefD := ⟨("_law_flow", none), "_law_flow", "_law_flow", defArgs s_law_flow, defBody s_law_flow, defScope s_law_flow, [], []⟩
def hd_law_pick : He.DefD := ⟨("_law_pick", none), "_law_pick", "_law_pick", defArgs s_law_pick, defBody s_law_pick, defScope s_law_pick, [], []⟩
def hd_law_thing : He.DefD := ⟨("_law_thing", none), "_law_thing", "_law_thing", defArgs s_law_thing, defBody s_law_thing, defScope s_law_thing, [], []⟩
def hd_law_needs : He.DefD := ⟨("_law_needs", none), "_law_needs", "_law_needs", defArgs s_law_needs, defBody s_law_needs, defScope s_law_needs, [], []⟩
def hd_law_rule : He.DefD := ⟨("_law_rule", none), "_law_rule", "_law_rule", defArgs s_law_rule, defBody s_law_rule, defScope s_law_rule, [], []⟩
def hd_law_shuffled : He.DefD := ⟨("_law_shuffled", none), "_law_shuffled", "_law_shuffled", defArgs s_law_shuffled, defBody s_law_shuffled, defScope s_law_shuffled, [], []⟩
def hd_law_hands : He.DefD := ⟨("_law_hands", none), "_law_hands", "_law_hands", defArgs s_law_hands, defBody s_law_hands, defScope s_law_hands, [], []⟩
def hd_law_room : He.DefD := ⟨("_law_room", none), "_law_room", "_law_room", defArgs s_law_room, defBody s_law_room, defScope s_law_room, [], []⟩
def hd_law_rows : He.DefD := ⟨("_law_rows", none), "_law_rows", "_law_rows", defArgs s_law_rows, defBody s_law_rows, defScope s_law_rows, [], []⟩
def hd_law_made_by : He.DefD := ⟨("_law_made_by", none), "_law_made_by", "_law_made_by", defArgs s_law_made_by, defBody s_law_made_by, defScope s_law_made_by, [], []⟩
def hd_law_worked : He.DefD := ⟨("_law_worked", none), "_law_worked", "_law_worked", defArgs s_law_worked, defBody s_law_worked, defScope s_law_worked, [], []⟩
def hd_law_time_of : He.DefD := ⟨("_law_time_of", none), "_law_time_of", "_law_time_of", defArgs s_law_time_of, defBody s_law_time_of, defScope s_law_time_of, [], []⟩
def hd_law_goes_on : He.DefD := ⟨("_law_goes_on", none), "_law_goes_on", "_law_goes_on", defArgs s_law_goes_on, defBody s_law_goes_on, defScope s_law_goes_on, [], []⟩
def hd_law : He.DefD := ⟨("law", none), "law", "law", defArgs s_law, defBody s_law, defScope s_law, [], []⟩
def hFn : List He.DefD := [hd_levels_or_ring, hd_raise_levels, hd_ring_behind, hd_is_whole, hd_made_by, hd_made_of_two, hd_comings, hd_doors_in, hd_doors_out, hd_work_order, hd_way_back, hd_least_costs, hd_shifts_or_bar, hd_least_time, hd_least_ways, hd_paper_by, hd_needed, hd_jumps, hd_shifts_by, hd_worked, hd_work_plan, hd_made_at_bell, hd_thing_taken, hd_behind_bell, hd_belt_behind_bell, hd_look_shifts, hd_refuse_shifts, hd_is_shifts, hd_wrong_door, hd_short_belt, hd_waits, hd_trays_moved, hd_moved, hd_rows_on, hd_taken_at, hd_hand_places, hd_ground_steps, hd_ground_shifts, hd_soonest, hd_levels_or_path, hd_law_flow, hd_law_pick, hd_law_thing, hd_law_needs, hd_law_rule, hd_law_shuffled, hd_law_hands, hd_law_room, hd_law_rows, hd_law_made_by, hd_law_worked, hd_law_time_of, hd_law_goes_on, hd_law]
def hFa : List He.Fa := [.glo "levels_or_ring", .glo "raise_levels", .glo "ring_behind", .glo "is_whole", .glo "made_by", .glo "made_of_two", .glo "comings", .glo "doors_in", .glo "doors_out", .glo "work_order", .glo "way_back", .glo "least_costs", .glo "shifts_or_bar", .glo "least_time", .glo "least_ways", .glo "paper_by", .glo "needed", .glo "jumps", .glo "shifts_by", .glo "worked", .glo "work_plan", .glo "made_at_bell", .glo "thing_taken", .glo "behind_bell", .glo "belt_behind_bell", .glo "look_shifts", .glo "refuse_shifts", .glo "is_shifts", .glo "wrong_door", .glo "short_belt", .glo "waits", .glo "trays_moved", .glo "moved", .glo "rows_on", .glo "taken_at", .glo "hand_places", .glo "ground_steps", .glo "ground_shifts", .glo "soonest", .glo "levels_or_path", .glo "_law_flow", .glo "_law_pick", .glo "_law_thing", .glo "_law_needs", .glo "_law_rule", .glo "_law_shuffled", .glo "_law_hands", .glo "_law_room", .glo "_law_rows", .glo "_law_made_by", .glo "_law_worked", .glo "_law_time_of", .glo "_law_goes_on", .glo "law", .free "abs", .free "all", .free "bool", .free "dict", .free "enumerate", .free "int", .free "isinstance", .free "len", .free "list", .free "max", .free "min", .free "range", .free "sum", .free "tuple", .free "zip", .glo "IN_RULE", .glo "OUT_RULE"]
def hEx (K : PySem.W.Frag) : Bool := He.tupB K "IN_RULE" [.str "in"] && He.tupB K "OUT_RULE" [.str "out"]
def hTf : List (Str × Option Str) := [("is_shifts", none)]
abbrev hR : PySem.W.OpenRow := PySem.W.OpenLaw.row PySem.Challenge.rw_beltshift_k46_whole_least_and_goes_on
abbrev hk : PySem.W.Hook := He.hookX 4 hFa hFn [] hTf hEx
def hOb (s : PySem.W.SharedT) : He.AlX := He.obsX 4 hFa hFn [] hTf hEx (HandSHeadRun.getT s)
theorem hOb_eq (s : PySem.W.SharedT) : hOb s = hk.obs s.abs := He.obsX_eq (HandSHeadRun.getT_eq s)
def hN0 : List Str := ["levels_or_ring", "raise_levels", "ring_behind", "BeltError", "NoShift", "is_whole", "made_by", "made_of_two", "IN_RULE", "OUT_RULE", "comings", "doors_in", "doors_out", "work_order", "way_back", "least_costs", "shifts_or_bar", "least_time", "least_ways", "paper_by", "needed", "jumps", "shifts_by", "worked", "work_plan", "made_at_bell", "thing_taken", "behind_bell", "belt_behind_bell", "look_shifts"]
def hN1 : List Str := ["refuse_shifts", "is_shifts", "wrong_door", "short_belt", "waits", "trays_moved", "moved", "rows_on", "taken_at", "hand_places", "ground_steps", "ground_shifts", "soonest", "levels_or_path", "_law_flow", "_law_pick", "_law_thing", "_law_needs", "_law_rule", "_law_shuffled", "_law_hands", "_law_room", "_law_rows", "_law_made_by", "_law_worked", "_law_time_of", "_law_goes_on"]
def hNames : List Str := hN0 ++ hN1
set_option maxHeartbeats 0 in
theorem hRun (w : World) : HandSHeadRun.RunEq hR (PySem.W.view hR.prog [71]) hk hOb 40000 hNames w := by
  intro os
  kernel_rfl
set_option maxHeartbeats 0 in
theorem all_mkX {w : World} {K : PySem.W.Frag} {h : Heap} {mg : Str → Option Value} {fa : Addr} (X : K.In h) (G : h.Ns mainGlobals mg) (hfa : mg "law" = some (.ref fa)) (c : He.SaysX hFa hFn [] hTf hEx w h K) : LamX.LawAtS PySem.Challenge.rw_beltshift_k46_whole_least_and_goes_on w K CX0 7 63 "_law_script" mg fa h := by
  have cd := c.t.d
  obtain ⟨fd0, D0⟩ := cd.def_ 0 (d := hd_levels_or_ring) rfl
  have F0 : Fun K "levels_or_ring" "levels_or_ring" s_levels_or_ring (He.ga K "levels_or_ring") fd0 := fun_of_D D0
  have g0 : mg "levels_or_ring" = some (.ref (He.ga K "levels_or_ring")) := He.glo_ok X G (cd.fact 0 (f := .glo "levels_or_ring") rfl)
  have b0 := F0.binds (ps := ["many", "steps"]) fun _ _ _ _ _ _ us hl => match us, hl with | [_, _], _ => rfl
  obtain ⟨fd1, D1⟩ := cd.def_ 1 (d := hd_raise_levels) rfl
  have F1 : Fun K "raise_levels" "raise_levels" s_raise_levels (He.ga K "raise_levels") fd1 := fun_of_D D1
  have g1 : mg "raise_levels" = some (.ref (He.ga K "raise_levels")) := He.glo_ok X G (cd.fact 1 (f := .glo "raise_levels") rfl)
  have b1 := F1.binds (ps := ["levels", "last", "steps"]) fun _ _ _ _ _ _ us hl => match us, hl with | [_, _, _], _ => rfl
  obtain ⟨fd2, D2⟩ := cd.def_ 2 (d := hd_ring_behind) rfl
  have F2 : Fun K "ring_behind" "ring_behind" s_ring_behind (He.ga K "ring_behind") fd2 := fun_of_D D2
  have g2 : mg "ring_behind" = some (.ref (He.ga K "ring_behind")) := He.glo_ok X G (cd.fact 2 (f := .glo "ring_behind") rfl)
  have b2 := F2.binds (ps := ["place", "last", "steps"]) fun _ _ _ _ _ _ us hl => match us, hl with | [_, _, _], _ => rfl
  obtain ⟨fd3, D3⟩ := cd.def_ 3 (d := hd_is_whole) rfl
  have F3 : Fun K "is_whole" "is_whole" s_is_whole (He.ga K "is_whole") fd3 := fun_of_D D3
  have g3 : mg "is_whole" = some (.ref (He.ga K "is_whole")) := He.glo_ok X G (cd.fact 3 (f := .glo "is_whole") rfl)
  have b3 := F3.binds (ps := ["thing"]) fun _ _ _ _ _ _ us hl => match us, hl with | [_], _ => rfl
  obtain ⟨fd4, D4⟩ := cd.def_ 4 (d := hd_made_by) rfl
  have F4 : Fun K "made_by" "made_by" s_made_by (He.ga K "made_by") fd4 := fun_of_D D4
  have g4 : mg "made_by" = some (.ref (He.ga K "made_by")) := He.glo_ok X G (cd.fact 4 (f := .glo "made_by") rfl)
  have b4 := F4.binds (ps := ["rule", "things"]) fun _ _ _ _ _ _ us hl => match us, hl with | [_, _], _ => rfl
  obtain ⟨fd5, D5⟩ := cd.def_ 5 (d := hd_made_of_two) rfl
  have F5 : Fun K "made_of_two" "made_of_two" s_made_of_two (He.ga K "made_of_two") fd5 := fun_of_D D5
  have g5 : mg "made_of_two" = some (.ref (He.ga K "made_of_two")) := He.glo_ok X G (cd.fact 5 (f := .glo "made_of_two") rfl)
  have b5 := F5.binds (ps := ["word", "one", "other"]) fun _ _ _ _ _ _ us hl => match us, hl with | [_, _, _], _ => rfl
  obtain ⟨fd6, D6⟩ := cd.def_ 6 (d := hd_comings) rfl
  have F6 : Fun K "comings" "comings" s_comings (He.ga K "comings") fd6 := fun_of_D D6
  have g6 : mg "comings" = some (.ref (He.ga K "comings")) := He.glo_ok X G (cd.fact 6 (f := .glo "comings") rfl)
  have b6 := F6.binds (ps := ["room", "hand"]) fun _ _ _ _ _ _ us hl => match us, hl with | [_, _], _ => rfl
  obtain ⟨fd7, D7⟩ := cd.def_ 7 (d := hd_doors_in) rfl
  have F7 : Fun K "doors_in" "doors_in" s_doors_in (He.ga K "doors_in") fd7 := fun_of_D D7
  have g7 : mg "doors_in" = some (.ref (He.ga K "doors_in")) := He.glo_ok X G (cd.fact 7 (f := .glo "doors_in") rfl)
  have b7 := F7.binds (ps := ["room"]) fun _ _ _ _ _ _ us hl => match us, hl with | [_], _ => rfl
  obtain ⟨fd8, D8⟩ := cd.def_ 8 (d := hd_doors_out) rfl
  have F8 : Fun K "doors_out" "doors_out" s_doors_out (He.ga K "doors_out") fd8 := fun_of_D D8
  have g8 : mg "doors_out" = some (.ref (He.ga K "doors_out")) := He.glo_ok X G (cd.fact 8 (f := .glo "doors_out") rfl)
  have b8 := F8.binds (ps := ["room"]) fun _ _ _ _ _ _ us hl => match us, hl with | [_], _ => rfl
  obtain ⟨fd9, D9⟩ := cd.def_ 9 (d := hd_work_order) rfl
  have F9 : Fun K "work_order" "work_order" s_work_order (He.ga K "work_order") fd9 := fun_of_D D9
  have g9 : mg "work_order" = some (.ref (He.ga K "work_order")) := He.glo_ok X G (cd.fact 9 (f := .glo "work_order") rfl)
  have b9 := F9.binds (ps := ["room"]) fun _ _ _ _ _ _ us hl => match us, hl with | [_], _ => rfl
  obtain ⟨fd10, D10⟩ := cd.def_ 10 (d := hd_way_back) rfl
  have F10 : Fun K "way_back" "way_back" s_way_back (He.ga K "way_back") fd10 := fun_of_D D10
  have g10 : mg "way_back" = some (.ref (He.ga K "way_back")) := He.glo_ok X G (cd.fact 10 (f := .glo "way_back") rfl)
  have b10 := F10.binds (ps := ["room", "end", "last"]) fun _ _ _ _ _ _ us hl => match us, hl with | [_, _, _], _ => rfl
  obtain ⟨fd11, D11⟩ := cd.def_ 11 (d := hd_least_costs) rfl
  have F11 : Fun K "least_costs" "least_costs" s_least_costs (He.ga K "least_costs") fd11 := fun_of_D D11
  have g11 : mg "least_costs" = some (.ref (He.ga K "least_costs")) := He.glo_ok X G (cd.fact 11 (f := .glo "least_costs") rfl)
  have b11 := F11.binds (ps := ["room", "one"]) fun _ _ _ _ _ _ us hl => match us, hl with | [_, _], _ => rfl
  obtain ⟨fd12, D12⟩ := cd.def_ 12 (d := hd_shifts_or_bar) rfl
  have F12 : Fun K "shifts_or_bar" "shifts_or_bar" s_shifts_or_bar (He.ga K "shifts_or_bar") fd12 := fun_of_D D12
  have g12 : mg "shifts_or_bar" = some (.ref (He.ga K "shifts_or_bar")) := He.glo_ok X G (cd.fact 12 (f := .glo "shifts_or_bar") rfl)
  have b12 := F12.binds (ps := ["room", "late", "time"]) fun _ _ _ _ _ _ us hl => match us, hl with | [_, _, _], _ => rfl
  obtain ⟨fd13, D13⟩ := cd.def_ 13 (d := hd_least_time) rfl
  have F13 : Fun K "least_time" "least_time" s_least_time (He.ga K "least_time") fd13 := fun_of_D D13
  have g13 : mg "least_time" = some (.ref (He.ga K "least_time")) := He.glo_ok X G (cd.fact 13 (f := .glo "least_time") rfl)
  have b13 := F13.binds (ps := ["room", "late"]) fun _ _ _ _ _ _ us hl => match us, hl with | [_, _], _ => rfl
  obtain ⟨fd14, D14⟩ := cd.def_ 14 (d := hd_least_ways) rfl
  have F14 : Fun K "least_ways" "least_ways" s_least_ways (He.ga K "least_ways") fd14 := fun_of_D D14
  have g14 : mg "least_ways" = some (.ref (He.ga K "least_ways")) := He.glo_ok X G (cd.fact 14 (f := .glo "least_ways") rfl)
  have b14 := F14.binds (ps := ["room"]) fun _ _ _ _ _ _ us hl => match us, hl with | [_], _ => rfl
  obtain ⟨fd15, D15⟩ := cd.def_ 15 (d := hd_paper_by) rfl
  have F15 : Fun K "paper_by" "paper_by" s_paper_by (He.ga K "paper_by") fd15 := fun_of_D D15
  have g15 : mg "paper_by" = some (.ref (He.ga K "paper_by")) := He.glo_ok X G (cd.fact 15 (f := .glo "paper_by") rfl)
  have b15 := F15.binds (ps := ["room", "late", "time", "ways"]) fun _ _ _ _ _ _ us hl => match us, hl with | [_, _, _, _], _ => rfl
  obtain ⟨fd16, D16⟩ := cd.def_ 16 (d := hd_needed) rfl
  have F16 : Fun K "needed" "needed" s_needed (He.ga K "needed") fd16 := fun_of_D D16
  have g16 : mg "needed" = some (.ref (He.ga K "needed")) := He.glo_ok X G (cd.fact 16 (f := .glo "needed") rfl)
  have b16 := F16.binds (ps := ["moments", "time"]) fun _ _ _ _ _ _ us hl => match us, hl with | [_, _], _ => rfl
  obtain ⟨fd17, D17⟩ := cd.def_ 17 (d := hd_jumps) rfl
  have F17 : Fun K "jumps" "jumps" s_jumps (He.ga K "jumps") fd17 := fun_of_D D17
  have g17 : mg "jumps" = some (.ref (He.ga K "jumps")) := He.glo_ok X G (cd.fact 17 (f := .glo "jumps") rfl)
  have b17 := F17.binds (ps := ["room", "late"]) fun _ _ _ _ _ _ us hl => match us, hl with | [_, _], _ => rfl
  obtain ⟨fd18, D18⟩ := cd.def_ 18 (d := hd_shifts_by) rfl
  have F18 : Fun K "shifts_by" "shifts_by" s_shifts_by (He.ga K "shifts_by") fd18 := fun_of_D D18
  have g18 : mg "shifts_by" = some (.ref (He.ga K "shifts_by")) := He.glo_ok X G (cd.fact 18 (f := .glo "shifts_by") rfl)
  have b18 := F18.binds (ps := ["room", "late", "levels"]) fun _ _ _ _ _ _ us hl => match us, hl with | [_, _, _], _ => rfl
  obtain ⟨fd19, D19⟩ := cd.def_ 19 (d := hd_worked) rfl
  have F19 : Fun K "worked" "worked" s_worked (He.ga K "worked") fd19 := fun_of_D D19
  have g19 : mg "worked" = some (.ref (He.ga K "worked")) := He.glo_ok X G (cd.fact 19 (f := .glo "worked") rfl)
  have b19 := F19.binds (ps := ["room", "rows"]) fun _ _ _ _ _ _ us hl => match us, hl with | [_, _], _ => rfl
  obtain ⟨fd20, D20⟩ := cd.def_ 20 (d := hd_work_plan) rfl
  have F20 : Fun K "work_plan" "work_plan" s_work_plan (He.ga K "work_plan") fd20 := fun_of_D D20
  have g20 : mg "work_plan" = some (.ref (He.ga K "work_plan")) := He.glo_ok X G (cd.fact 20 (f := .glo "work_plan") rfl)
  have b20 := F20.binds (ps := ["room"]) fun _ _ _ _ _ _ us hl => match us, hl with | [_], _ => rfl
  obtain ⟨fd21, D21⟩ := cd.def_ 21 (d := hd_made_at_bell) rfl
  have F21 : Fun K "made_at_bell" "made_at_bell" s_made_at_bell (He.ga K "made_at_bell") fd21 := fun_of_D D21
  have g21 : mg "made_at_bell" = some (.ref (He.ga K "made_at_bell")) := He.glo_ok X G (cd.fact 21 (f := .glo "made_at_bell") rfl)
  have b21 := F21.binds (ps := ["room", "plan", "things"]) fun _ _ _ _ _ _ us hl => match us, hl with | [_, _, _], _ => rfl
  obtain ⟨fd22, D22⟩ := cd.def_ 22 (d := hd_thing_taken) rfl
  have F22 : Fun K "thing_taken" "thing_taken" s_thing_taken (He.ga K "thing_taken") fd22 := fun_of_D D22
  have g22 : mg "thing_taken" = some (.ref (He.ga K "thing_taken")) := He.glo_ok X G (cd.fact 22 (f := .glo "thing_taken") rfl)
  have b22 := F22.binds (ps := ["belt", "made"]) fun _ _ _ _ _ _ us hl => match us, hl with | [_, _], _ => rfl
  obtain ⟨fd23, D23⟩ := cd.def_ 23 (d := hd_behind_bell) rfl
  have F23 : Fun K "behind_bell" "behind_bell" s_behind_bell (He.ga K "behind_bell") fd23 := fun_of_D D23
  have g23 : mg "behind_bell" = some (.ref (He.ga K "behind_bell")) := He.glo_ok X G (cd.fact 23 (f := .glo "behind_bell") rfl)
  have b23 := F23.binds (ps := ["room", "made"]) fun _ _ _ _ _ _ us hl => match us, hl with | [_, _], _ => rfl
  obtain ⟨fd24, D24⟩ := cd.def_ 24 (d := hd_belt_behind_bell) rfl
  have F24 : Fun K "belt_behind_bell" "belt_behind_bell" s_belt_behind_bell (He.ga K "belt_behind_bell") fd24 := fun_of_D D24
  have g24 : mg "belt_behind_bell" = some (.ref (He.ga K "belt_behind_bell")) := He.glo_ok X G (cd.fact 24 (f := .glo "belt_behind_bell") rfl)
  have b24 := F24.binds (ps := ["belt", "made"]) fun _ _ _ _ _ _ us hl => match us, hl with | [_, _], _ => rfl
  obtain ⟨fd25, D25⟩ := cd.def_ 25 (d := hd_look_shifts) rfl
  have F25 : Fun K "look_shifts" "look_shifts" s_look_shifts (He.ga K "look_shifts") fd25 := fun_of_D D25
  have g25 : mg "look_shifts" = some (.ref (He.ga K "look_shifts")) := He.glo_ok X G (cd.fact 25 (f := .glo "look_shifts") rfl)
  have b25 := F25.binds (ps := ["room", "late", "shifts"]) fun _ _ _ _ _ _ us hl => match us, hl with | [_, _, _], _ => rfl
  obtain ⟨fd26, D26⟩ := cd.def_ 26 (d := hd_refuse_shifts) rfl
  have F26 : Fun K "refuse_shifts" "refuse_shifts" s_refuse_shifts (He.ga K "refuse_shifts") fd26 := fun_of_D D26
  have g26 : mg "refuse_shifts" = some (.ref (He.ga K "refuse_shifts")) := He.glo_ok X G (cd.fact 26 (f := .glo "refuse_shifts") rfl)
  have b26 := F26.binds (ps := ["word", "at"]) fun _ _ _ _ _ _ us hl => match us, hl with | [_, _], _ => rfl
  obtain ⟨fd27, D27⟩ := cd.def_ 27 (d := hd_is_shifts) rfl
  have F27 : Fun K "is_shifts" "is_shifts" s_is_shifts (He.ga K "is_shifts") fd27 := fun_of_D D27
  have g27 : mg "is_shifts" = some (.ref (He.ga K "is_shifts")) := He.glo_ok X G (cd.fact 27 (f := .glo "is_shifts") rfl)
  have b27 := F27.binds (ps := ["room", "thing"]) fun _ _ _ _ _ _ us hl => match us, hl with | [_, _], _ => rfl
  obtain ⟨fd28, D28⟩ := cd.def_ 28 (d := hd_wrong_door) rfl
  have F28 : Fun K "wrong_door" "wrong_door" s_wrong_door (He.ga K "wrong_door") fd28 := fun_of_D D28
  have g28 : mg "wrong_door" = some (.ref (He.ga K "wrong_door")) := He.glo_ok X G (cd.fact 28 (f := .glo "wrong_door") rfl)
  have b28 := F28.binds (ps := ["room", "late", "shifts"]) fun _ _ _ _ _ _ us hl => match us, hl with | [_, _, _], _ => rfl
  obtain ⟨fd29, D29⟩ := cd.def_ 29 (d := hd_short_belt) rfl
  have F29 : Fun K "short_belt" "short_belt" s_short_belt (He.ga K "short_belt") fd29 := fun_of_D D29
  have g29 : mg "short_belt" = some (.ref (He.ga K "short_belt")) := He.glo_ok X G (cd.fact 29 (f := .glo "short_belt") rfl)
  have b29 := F29.binds (ps := ["room", "shifts"]) fun _ _ _ _ _ _ us hl => match us, hl with | [_, _], _ => rfl
  obtain ⟨fd30, D30⟩ := cd.def_ 30 (d := hd_waits) rfl
  have F30 : Fun K "waits" "waits" s_waits (He.ga K "waits") fd30 := fun_of_D D30
  have g30 : mg "waits" = some (.ref (He.ga K "waits")) := He.glo_ok X G (cd.fact 30 (f := .glo "waits") rfl)
  have b30 := F30.binds (ps := ["shifts"]) fun _ _ _ _ _ _ us hl => match us, hl with | [_], _ => rfl
  obtain ⟨fd31, D31⟩ := cd.def_ 31 (d := hd_trays_moved) rfl
  have F31 : Fun K "trays_moved" "trays_moved" s_trays_moved (He.ga K "trays_moved") fd31 := fun_of_D D31
  have g31 : mg "trays_moved" = some (.ref (He.ga K "trays_moved")) := He.glo_ok X G (cd.fact 31 (f := .glo "trays_moved") rfl)
  have b31 := F31.binds (ps := ["room", "shifts"]) fun _ _ _ _ _ _ us hl => match us, hl with | [_, _], _ => rfl
  obtain ⟨fd32, D32⟩ := cd.def_ 32 (d := hd_moved) rfl
  have F32 : Fun K "moved" "moved" s_moved (He.ga K "moved") fd32 := fun_of_D D32
  have g32 : mg "moved" = some (.ref (He.ga K "moved")) := He.glo_ok X G (cd.fact 32 (f := .glo "moved") rfl)
  have b32 := F32.binds (ps := ["room", "late", "shifts", "rows"]) fun _ _ _ _ _ _ us hl => match us, hl with | [_, _, _, _], _ => rfl
  obtain ⟨fd33, D33⟩ := cd.def_ 33 (d := hd_rows_on) rfl
  have F33 : Fun K "rows_on" "rows_on" s_rows_on (He.ga K "rows_on") fd33 := fun_of_D D33
  have g33 : mg "rows_on" = some (.ref (He.ga K "rows_on")) := He.glo_ok X G (cd.fact 33 (f := .glo "rows_on") rfl)
  have b33 := F33.binds (ps := ["room", "shifts", "rows"]) fun _ _ _ _ _ _ us hl => match us, hl with | [_, _, _], _ => rfl
  obtain ⟨fd34, D34⟩ := cd.def_ 34 (d := hd_taken_at) rfl
  have F34 : Fun K "taken_at" "taken_at" s_taken_at (He.ga K "taken_at") fd34 := fun_of_D D34
  have g34 : mg "taken_at" = some (.ref (He.ga K "taken_at")) := He.glo_ok X G (cd.fact 34 (f := .glo "taken_at") rfl)
  have b34 := F34.binds (ps := ["belt", "made", "bell"]) fun _ _ _ _ _ _ us hl => match us, hl with | [_, _, _], _ => rfl
  obtain ⟨fd35, D35⟩ := cd.def_ 35 (d := hd_hand_places) rfl
  have F35 : Fun K "hand_places" "hand_places" s_hand_places (He.ga K "hand_places") fd35 := fun_of_D D35
  have g35 : mg "hand_places" = some (.ref (He.ga K "hand_places")) := He.glo_ok X G (cd.fact 35 (f := .glo "hand_places") rfl)
  have b35 := F35.binds (ps := ["room", "late"]) fun _ _ _ _ _ _ us hl => match us, hl with | [_, _], _ => rfl
  obtain ⟨fd36, D36⟩ := cd.def_ 36 (d := hd_ground_steps) rfl
  have F36 : Fun K "ground_steps" "ground_steps" s_ground_steps (He.ga K "ground_steps") fd36 := fun_of_D D36
  have g36 : mg "ground_steps" = some (.ref (He.ga K "ground_steps")) := He.glo_ok X G (cd.fact 36 (f := .glo "ground_steps") rfl)
  have b36 := F36.binds (ps := ["room", "late", "time"]) fun _ _ _ _ _ _ us hl => match us, hl with | [_, _, _], _ => rfl
  obtain ⟨fd37, D37⟩ := cd.def_ 37 (d := hd_ground_shifts) rfl
  have F37 : Fun K "ground_shifts" "ground_shifts" s_ground_shifts (He.ga K "ground_shifts") fd37 := fun_of_D D37
  have g37 : mg "ground_shifts" = some (.ref (He.ga K "ground_shifts")) := He.glo_ok X G (cd.fact 37 (f := .glo "ground_shifts") rfl)
  have b37 := F37.binds (ps := ["room", "late", "levels"]) fun _ _ _ _ _ _ us hl => match us, hl with | [_, _, _], _ => rfl
  obtain ⟨fd38, D38⟩ := cd.def_ 38 (d := hd_soonest) rfl
  have F38 : Fun K "soonest" "soonest" s_soonest (He.ga K "soonest") fd38 := fun_of_D D38
  have g38 : mg "soonest" = some (.ref (He.ga K "soonest")) := He.glo_ok X G (cd.fact 38 (f := .glo "soonest") rfl)
  have b38 := F38.binds (ps := ["room", "late", "time"]) fun _ _ _ _ _ _ us hl => match us, hl with | [_, _, _], _ => rfl
  obtain ⟨fd39, D39⟩ := cd.def_ 39 (d := hd_levels_or_path) rfl
  have F39 : Fun K "levels_or_path" "levels_or_path" s_levels_or_path (He.ga K "levels_or_path") fd39 := fun_of_D D39
  have g39 : mg "levels_or_path" = some (.ref (He.ga K "levels_or_path")) := He.glo_ok X G (cd.fact 39 (f := .glo "levels_or_path") rfl)
  have b39 := F39.binds (ps := ["room", "steps", "many"]) fun _ _ _ _ _ _ us hl => match us, hl with | [_, _, _], _ => rfl
  obtain ⟨fd40, D40⟩ := cd.def_ 40 (d := hd_law_flow) rfl
  have F40 : Fun K "_law_flow" "_law_flow" s_law_flow (He.ga K "_law_flow") fd40 := fun_of_D D40
  have g40 : mg "_law_flow" = some (.ref (He.ga K "_law_flow")) := He.glo_ok X G (cd.fact 40 (f := .glo "_law_flow") rfl)
  have b40 := F40.binds (ps := ["_law_script"]) fun _ _ _ _ _ _ us hl => match us, hl with | [_], _ => rfl
  obtain ⟨fd41, D41⟩ := cd.def_ 41 (d := hd_law_pick) rfl
  have F41 : Fun K "_law_pick" "_law_pick" s_law_pick (He.ga K "_law_pick") fd41 := fun_of_D D41
  have g41 : mg "_law_pick" = some (.ref (He.ga K "_law_pick")) := He.glo_ok X G (cd.fact 41 (f := .glo "_law_pick") rfl)
  have b41 := F41.binds (ps := ["_law_flow_here", "_law_many"]) fun _ _ _ _ _ _ us hl => match us, hl with | [_, _], _ => rfl
  obtain ⟨fd42, D42⟩ := cd.def_ 42 (d := hd_law_thing) rfl
  have F42 : Fun K "_law_thing" "_law_thing" s_law_thing (He.ga K "_law_thing") fd42 := fun_of_D D42
  have g42 : mg "_law_thing" = some (.ref (He.ga K "_law_thing")) := He.glo_ok X G (cd.fact 42 (f := .glo "_law_thing") rfl)
  have b42 := F42.binds (ps := ["_law_flow_here"]) fun _ _ _ _ _ _ us hl => match us, hl with | [_], _ => rfl
  obtain ⟨fd43, D43⟩ := cd.def_ 43 (d := hd_law_needs) rfl
  have F43 : Fun K "_law_needs" "_law_needs" s_law_needs (He.ga K "_law_needs") fd43 := fun_of_D D43
  have g43 : mg "_law_needs" = some (.ref (He.ga K "_law_needs")) := He.glo_ok X G (cd.fact 43 (f := .glo "_law_needs") rfl)
  have b43 := F43.binds (ps := ["_law_rule_here"]) fun _ _ _ _ _ _ us hl => match us, hl with | [_], _ => rfl
  obtain ⟨fd44, D44⟩ := cd.def_ 44 (d := hd_law_rule) rfl
  have F44 : Fun K "_law_rule" "_law_rule" s_law_rule (He.ga K "_law_rule") fd44 := fun_of_D D44
  have g44 : mg "_law_rule" = some (.ref (He.ga K "_law_rule")) := He.glo_ok X G (cd.fact 44 (f := .glo "_law_rule") rfl)
  have b44 := F44.binds (ps := ["_law_flow_here", "_law_most"]) fun _ _ _ _ _ _ us hl => match us, hl with | [_, _], _ => rfl
  obtain ⟨fd45, D45⟩ := cd.def_ 45 (d := hd_law_shuffled) rfl
  have F45 : Fun K "_law_shuffled" "_law_shuffled" s_law_shuffled (He.ga K "_law_shuffled") fd45 := fun_of_D D45
  have g45 : mg "_law_shuffled" = some (.ref (He.ga K "_law_shuffled")) := He.glo_ok X G (cd.fact 45 (f := .glo "_law_shuffled") rfl)
  have b45 := F45.binds (ps := ["_law_flow_here", "_law_some"]) fun _ _ _ _ _ _ us hl => match us, hl with | [_, _], _ => rfl
  obtain ⟨fd46, D46⟩ := cd.def_ 46 (d := hd_law_hands) rfl
  have F46 : Fun K "_law_hands" "_law_hands" s_law_hands (He.ga K "_law_hands") fd46 := fun_of_D D46
  have g46 : mg "_law_hands" = some (.ref (He.ga K "_law_hands")) := He.glo_ok X G (cd.fact 46 (f := .glo "_law_hands") rfl)
  have b46 := F46.binds (ps := ["_law_flow_here", "_law_many"]) fun _ _ _ _ _ _ us hl => match us, hl with | [_, _], _ => rfl
  obtain ⟨fd47, D47⟩ := cd.def_ 47 (d := hd_law_room) rfl
  have F47 : Fun K "_law_room" "_law_room" s_law_room (He.ga K "_law_room") fd47 := fun_of_D D47
  have g47 : mg "_law_room" = some (.ref (He.ga K "_law_room")) := He.glo_ok X G (cd.fact 47 (f := .glo "_law_room") rfl)
  have b47 := F47.binds (ps := ["_law_flow_here", "_law_most"]) fun _ _ _ _ _ _ us hl => match us, hl with | [_, _], _ => rfl
  obtain ⟨fd48, D48⟩ := cd.def_ 48 (d := hd_law_rows) rfl
  have F48 : Fun K "_law_rows" "_law_rows" s_law_rows (He.ga K "_law_rows") fd48 := fun_of_D D48
  have g48 : mg "_law_rows" = some (.ref (He.ga K "_law_rows")) := He.glo_ok X G (cd.fact 48 (f := .glo "_law_rows") rfl)
  have b48 := F48.binds (ps := ["_law_flow_here", "_law_room_here", "_law_many"]) fun _ _ _ _ _ _ us hl => match us, hl with | [_, _, _], _ => rfl
  obtain ⟨fd49, D49⟩ := cd.def_ 49 (d := hd_law_made_by) rfl
  have F49 : Fun K "_law_made_by" "_law_made_by" s_law_made_by (He.ga K "_law_made_by") fd49 := fun_of_D D49
  have g49 : mg "_law_made_by" = some (.ref (He.ga K "_law_made_by")) := He.glo_ok X G (cd.fact 49 (f := .glo "_law_made_by") rfl)
  have b49 := F49.binds (ps := ["_law_rule_here", "_law_things"]) fun _ _ _ _ _ _ us hl => match us, hl with | [_, _], _ => rfl
  obtain ⟨fd50, D50⟩ := cd.def_ 50 (d := hd_law_worked) rfl
  have F50 : Fun K "_law_worked" "_law_worked" s_law_worked (He.ga K "_law_worked") fd50 := fun_of_D D50
  have g50 : mg "_law_worked" = some (.ref (He.ga K "_law_worked")) := He.glo_ok X G (cd.fact 50 (f := .glo "_law_worked") rfl)
  have b50 := F50.binds (ps := ["_law_room_here", "_law_rows_here"]) fun _ _ _ _ _ _ us hl => match us, hl with | [_, _], _ => rfl
  obtain ⟨fd51, D51⟩ := cd.def_ 51 (d := hd_law_time_of) rfl
  have F51 : Fun K "_law_time_of" "_law_time_of" s_law_time_of (He.ga K "_law_time_of") fd51 := fun_of_D D51
  have g51 : mg "_law_time_of" = some (.ref (He.ga K "_law_time_of")) := He.glo_ok X G (cd.fact 51 (f := .glo "_law_time_of") rfl)
  have b51 := F51.binds (ps := ["_law_room_here", "_law_trays"]) fun _ _ _ _ _ _ us hl => match us, hl with | [_, _], _ => rfl
  obtain ⟨fd52, D52⟩ := cd.def_ 52 (d := hd_law_goes_on) rfl
  have F52 : Fun K "_law_goes_on" "_law_goes_on" s_law_goes_on (He.ga K "_law_goes_on") fd52 := fun_of_D D52
  have g52 : mg "_law_goes_on" = some (.ref (He.ga K "_law_goes_on")) := He.glo_ok X G (cd.fact 52 (f := .glo "_law_goes_on") rfl)
  have b52 := F52.binds (ps := ["_law_flow_here", "_law_room_here", "_law_late", "_law_time", "_law_shifts"]) fun _ _ _ _ _ _ us hl => match us, hl with | [_, _, _, _, _], _ => rfl
  obtain ⟨fd53, D53⟩ := cd.def_ 53 (d := hd_law) rfl
  have F53 : Fun K "law" "law" s_law (He.ga K "law") fd53 := fun_of_D D53
  have g53 : mg "law" = some (.ref (He.ga K "law")) := He.glo_ok X G (cd.fact 53 (f := .glo "law") rfl)
  have ex := c.more
  unfold hEx at ex
  simp only [Bool.and_eq_true] at ex
  obtain ⟨ex0, ex1⟩ := ex
  have T : Top K mg := ⟨⟨_, fd0, F0, b0, g0⟩, ⟨_, fd1, F1, b1, g1⟩, ⟨_, fd2, F2, b2, g2⟩, ⟨_, fd3, F3, b3, g3⟩, ⟨_, fd4, F4, b4, g4⟩, ⟨_, fd5, F5, b5, g5⟩, ⟨_, fd6, F6, b6, g6⟩, ⟨_, fd7, F7, b7, g7⟩, ⟨_, fd8, F8, b8, g8⟩, ⟨_, fd9, F9, b9, g9⟩, ⟨_, fd10, F10, b10, g10⟩, ⟨_, fd11, F11, b11, g11⟩, ⟨_, fd12, F12, b12, g12⟩, ⟨_, fd13, F13, b13, g13⟩, ⟨_, fd14, F14, b14, g14⟩, ⟨_, fd15, F15, b15, g15⟩, ⟨_, fd16, F16, b16, g16⟩, ⟨_, fd17, F17, b17, g17⟩, ⟨_, fd18, F18, b18, g18⟩, ⟨_, fd19, F19, b19, g19⟩, ⟨_, fd20, F20, b20, g20⟩, ⟨_, fd21, F21, b21, g21⟩, ⟨_, fd22, F22, b22, g22⟩, ⟨_, fd23, F23, b23, g23⟩, ⟨_, fd24, F24, b24, g24⟩, ⟨_, fd25, F25, b25, g25⟩, ⟨_, fd26, F26, b26, g26⟩, ⟨_, fd27, F27, b27, g27⟩, ⟨_, fd28, F28, b28, g28⟩, ⟨_, fd29, F29, b29, g29⟩, ⟨_, fd30, F30, b30, g30⟩, ⟨_, fd31, F31, b31, g31⟩, ⟨_, fd32, F32, b32, g32⟩, ⟨_, fd33, F33, b33, g33⟩, ⟨_, fd34, F34, b34, g34⟩, ⟨_, fd35, F35, b35, g35⟩, ⟨_, fd36, F36, b36, g36⟩, ⟨_, fd37, F37, b37, g37⟩, ⟨_, fd38, F38, b38, g38⟩, ⟨_, fd39, F39, b39, g39⟩, ⟨_, fd40, F40, b40, g40⟩, ⟨_, fd41, F41, b41, g41⟩, ⟨_, fd42, F42, b42, g42⟩, ⟨_, fd43, F43, b43, g43⟩, ⟨_, fd44, F44, b44, g44⟩, ⟨_, fd45, F45, b45, g45⟩, ⟨_, fd46, F46, b46, g46⟩, ⟨_, fd47, F47, b47, g47⟩, ⟨_, fd48, F48, b48, g48⟩, ⟨_, fd49, F49, b49, g49⟩, ⟨_, fd50, F50, b50, g50⟩, ⟨_, fd51, F51, b51, g51⟩, ⟨_, fd52, F52, b52, g52⟩, He.free_ok X G (cd.fact 54 (f := .free "abs") rfl), He.free_ok X G (cd.fact 55 (f := .free "all") rfl), He.free_ok X G (cd.fact 56 (f := .free "bool") rfl), He.free_ok X G (cd.fact 57 (f := .free "dict") rfl), He.free_ok X G (cd.fact 58 (f := .free "enumerate") rfl), He.free_ok X G (cd.fact 59 (f := .free "int") rfl), He.free_ok X G (cd.fact 60 (f := .free "isinstance") rfl), He.free_ok X G (cd.fact 61 (f := .free "len") rfl), He.free_ok X G (cd.fact 62 (f := .free "list") rfl), He.free_ok X G (cd.fact 63 (f := .free "max") rfl), He.free_ok X G (cd.fact 64 (f := .free "min") rfl), He.free_ok X G (cd.fact 65 (f := .free "range") rfl), He.free_ok X G (cd.fact 66 (f := .free "sum") rfl), He.free_ok X G (cd.fact 67 (f := .free "tuple") rfl), He.free_ok X G (cd.fact 68 (f := .free "zip") rfl), ⟨_, He.glo_ok X G (cd.fact 69 (f := .glo "IN_RULE") rfl), fun H => He.tupB_ok ex0 H⟩, ⟨_, He.glo_ok X G (cd.fact 70 (f := .glo "OUT_RULE") rfl), fun H => He.tupB_ok ex1 H⟩⟩
  have e := hfa.symm.trans g53
  cases e
  have law_b : ∀ (s : Shared) (v : Value), BindsTo s fd53 ⟨[v], []⟩ [("_law_script", v)] := fun s v => by
    obtain ⟨_, _, _, _, _, _, _, _, _, rfl, _, _⟩ := F53.ex
    exact .of_eq rfl
  refine ⟨fd53, [He.cT K ("is_shifts", none)], sp_law K (He.cT K ("is_shifts", none)).2, fun p hp => ?_, fun p hp => ?_, fun p hp => ?_, law_b, fun H a ns hl _ hT hS => ⟨a, ns, rfl, hS, hl, ⟨#[], hT _ (List.mem_cons_self ..), trivial⟩, fun _ => rfl⟩, fun base _ _ TB => ?_⟩
  · have hin : ∀ p ∈ [He.cT K ("is_shifts", none)], ∃ q ∈ hTf, p = He.cT K q := fun p hp => by
      rcases List.mem_cons.mp hp with rfl | hp
      · exact ⟨_, List.mem_cons_self .., rfl⟩
      cases hp
    obtain ⟨q, hq, rfl⟩ := hin p hp
    exact c.empty _ hq
  · have hin : ∀ p ∈ [He.cT K ("is_shifts", none)], ∃ q ∈ hTf, p = He.cT K q := fun p hp => by
      rcases List.mem_cons.mp hp with rfl | hp
      · exact ⟨_, List.mem_cons_self .., rfl⟩
      cases hp
    obtain ⟨q, hq, rfl⟩ := hin p hp
    exact c.out _ hq
  · have hin : ∀ p ∈ [He.cT K ("is_shifts", none)], ∃ q ∈ hTf, p = He.cT K q := fun p hp => by
      rcases List.mem_cons.mp hp with rfl | hp
      · exact ⟨_, List.mem_cons_self .., rfl⟩
      cases hp
    obtain ⟨q, hq, rfl⟩ := hin p hp
    exact PySem.W.codeHd_of_K X (c.hd _ hq)
  have TB0 := TB _ (List.mem_cons_self ..)
  have TC0 : GxR.TabB base mg (He.codeOf K ("is_shifts", none)) (He.tabOf K (He.codeOf K ("is_shifts", none))) := ⟨TB0.code, TB0.bm, TB0.gP⟩
  haveI : TabI K mg base _ _ := ⟨TC0, fun f fd F m => by
    have e := m.symm.trans g27
    cases e
    obtain ⟨_, _, _, _, _, _, cdv, _, _, rfl, lk, ci⟩ := F.ex
    obtain ⟨c0, rfl⟩ := He.codeIn_ref ci
    exact congrArg Value.ref (He.codeOf_eq (p := ("is_shifts", none)) lk rfl).symm⟩
  exact ok_law F53 T
end Mine
open PySem PySem.W PySem.Calls PyProof.Rows
set_option maxRecDepth 100000 in
set_option maxHeartbeats 0 in
theorem PySem.Challenge.cw_beltshift_k46_whole_least_and_goes_on_holds : PySem.Challenge.rw_beltshift_k46_whole_least_and_goes_on.Holds := by
  w_on; o_law
  refine HandSHeadRun.head_any (r := Mine.hR) (q := view Mine.hR.prog [71]) (H := Mine.hk) (ob := Mine.hOb) (M := 40000) (loose := Mine.hNames) (d := HandSHeadRun.topDef Mine.hR.prog 71) (kwd := []) Mine.hOb_eq (by kernel_rfl) (fun s => by kernel_rfl) Mine.hRun (by kernel_rfl) (by kernel_rfl) (by kernel_rfl) (by rfl) (by first | assumption | decide +kernel) (by decide +kernel) ⟨rfl, rfl, rfl, rfl, rfl, by decide +kernel⟩ ?hw ?hc
  case hw => w_witness2
  case hc =>
    refine LamX.walk_ofTsE (l := PySem.Challenge.rw_beltshift_k46_whole_least_and_goes_on) (n := 63) (k := 7) (x := "_law_script") (CX := fun _ => L2.CX0) rfl (by decide) (by kernel_rfl) ⟨rfl, by decide, by decide⟩ ?F (fun _ _ _ _ _ z => z)
    intro w mg fa h Y G hmg0
    obtain ⟨K, KX, c⟩ := Y
    have hmg : mg ("law" : PySem.Str) = some (.ref fa) := by
      have e : (HandSHeadRun.topDef Mine.hR.prog 71).name = ("law" : PySem.Str) := by kernel_rfl
      rw [← e]
      exact hmg0
    exact ⟨K, KX, Mine.all_mkX KX G hmg c⟩
