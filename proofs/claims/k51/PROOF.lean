import PyProof.Rows.All
import Wide.All
import OpenK.AllK
import Wide.FinOn
import HandS.ForMost
import HandS.Wide
import HandS.Style
import HandS.IsInst
import HandS.TupAny
import HandS.NoneIn
import HandS.SetFor
import HandS.Conv
import HandS.Zip
import HandS.SortKw
import HandS.Deep
import KE.DataMinMax
import KE.GoesMore
import KE.KDictZip
import KE.GoesZip
import KE.GoesEnum
import PySem.Challenge.RW_beltshift_k51_whole_prices_whoever_wrote
import KE.DataFind
import HandS.AnyAll
import HandS.Words
import HandS.GenOver
import KE.KIsAll
import PyProof.GenCompD
import PyProof.WalksMore
import HandS.DictComp
import HandS.Strs
import HandS.TupLen
import KE.KeyNested
import PyProof.Rows.TupTab
import HandS.TupMul
import HandS.EndTab
import HandS.HeadWalk
import HandS.Defaults
import HandS.Head0
import HandS.Head1
import HandS.Head2
import HandS.HeadEnd
import HandS.HeadHook1
import HandS.HeadHook2
import HandS.HeadHook3
import HandS.HeadHook4
import KE.KStateDown
import KE.KNestM
import HandS.Lambda
import KE.KLam
import KE.DataMinKey
import HandS.TryOnly
import HandS.ExcInit
import HandS.WordsExc
import HandS.ExcIs
import HandS.ExcField
import HandS.ExcOwn
set_option Elab.async false
set_option linter.all false
set_option maxRecDepth 100000
namespace Mine
open PySem PyProof.Rows L2
def topS (i : Nat) : Stmt := PySem.Challenge.pw_beltshift_k51_whole_prices_whoever_wrote.main.body.getD i (.Pass ⟨0, 0, 0, 0⟩)
abbrev s_comings : Stmt := topS 3
abbrev N_comings : List Str := ["room", "hand", "number", "belt"]
theorem sc_comings : FnScope N_comings ["room", "hand"] (defScope s_comings) := ⟨rfl, rfl, rfl, by decide +kernel, rfl, by decide +kernel, by decide +kernel⟩
abbrev s_goings : Stmt := topS 4
abbrev N_goings : List Str := ["room", "hand", "number", "belt"]
theorem sc_goings : FnScope N_goings ["room", "hand"] (defScope s_goings) := ⟨rfl, rfl, rfl, by decide +kernel, rfl, by decide +kernel, by decide +kernel⟩
abbrev s_doors_in : Stmt := topS 5
abbrev N_doors_in : List Str := ["room", "number", "hand"]
theorem sc_doors_in : FnScope N_doors_in ["room"] (defScope s_doors_in) := ⟨rfl, rfl, rfl, by decide +kernel, rfl, by decide +kernel, by decide +kernel⟩
abbrev s_doors_out : Stmt := topS 6
abbrev N_doors_out : List Str := ["room", "number", "hand"]
theorem sc_doors_out : FnScope N_doors_out ["room"] (defScope s_doors_out) := ⟨rfl, rfl, rfl, by decide +kernel, rfl, by decide +kernel, by decide +kernel⟩
abbrev s_trays_on : Stmt := topS 8
abbrev N_trays_on : List Str := ["room", "way", "number"]
theorem sc_trays_on : FnScope N_trays_on ["room", "way"] (defScope s_trays_on) := ⟨rfl, rfl, rfl, by decide +kernel, rfl, by decide +kernel, by decide +kernel⟩
abbrev s_moments_on : Stmt := topS 9
abbrev N_moments_on : List Str := ["room", "way", "hands", "belts", "first", "numbers", "number"]
theorem sc_moments_on : FnScope N_moments_on ["room", "way"] (defScope s_moments_on) := ⟨rfl, rfl, rfl, by decide +kernel, rfl, by decide +kernel, by decide +kernel⟩
abbrev s_way_end : Stmt := topS 10
abbrev N_way_end : List Str := ["room", "pair", "hands", "belts", "end", "numbers", "number"]
theorem sc_way_end : FnScope N_way_end ["room", "pair"] (defScope s_way_end) := ⟨rfl, rfl, rfl, by decide +kernel, rfl, by decide +kernel, by decide +kernel⟩
abbrev s_way_back : Stmt := topS 11
abbrev N_way_back : List Str := ["room", "end", "last", "numbers", "hand"]
theorem sc_way_back : FnScope N_way_back ["room", "end", "last"] (defScope s_way_back) := ⟨rfl, rfl, rfl, by decide +kernel, rfl, by decide +kernel, by decide +kernel⟩
abbrev s_least_costs : Stmt := topS 12
abbrev N_least_costs : List Str := ["room", "one", "hands", "belts", "costs", "last", "changed", "number", "giver", "taker", "things", "trays", "less", "cost"]
theorem sc_least_costs : FnScope N_least_costs ["room", "one"] (defScope s_least_costs) := ⟨rfl, rfl, rfl, by decide +kernel, rfl, by decide +kernel, by decide +kernel⟩
abbrev s_prices_hold : Stmt := topS 14
abbrev N_prices_hold : List Str := ["room", "late", "time", "count", "prices"]
theorem sc_prices_hold : FnScope N_prices_hold ["room", "late", "time", "count", "prices"] (defScope s_prices_hold) := ⟨rfl, rfl, rfl, by decide +kernel, rfl, by decide +kernel, by decide +kernel⟩
abbrev s_is_price : Stmt := topS 15
abbrev N_is_price : List Str := ["room", "pair", "many"]
theorem sc_is_price : FnScope N_is_price ["room", "pair", "many"] (defScope s_is_price) := ⟨rfl, rfl, rfl, by decide +kernel, rfl, by decide +kernel, by decide +kernel⟩
abbrev s_they_bind : Stmt := topS 16
abbrev N_they_bind : List Str := ["room", "prices", "leaving", "way", "many", "hand", "rule", "moments", "owed"]
theorem sc_they_bind : FnScope N_they_bind ["room", "prices"] (defScope s_they_bind) := ⟨rfl, rfl, rfl, by decide +kernel, rfl, by decide +kernel, by decide +kernel⟩
abbrev s_held_count : Stmt := topS 17
abbrev N_held_count : List Str := ["room", "late", "time", "prices", "hands", "belts", "count", "giver", "taker", "things", "rule", "moments", "way", "many", "trays"]
theorem sc_held_count : FnScope N_held_count ["room", "late", "time", "prices"] (defScope s_held_count) := ⟨rfl, rfl, rfl, by decide +kernel, rfl, by decide +kernel, by decide +kernel⟩
abbrev s_levels_or_ring : Stmt := topS 19
abbrev N_levels_or_ring : List Str := ["many", "steps", "levels", "last", "raised", "turn"]
theorem sc_levels_or_ring : FnScope N_levels_or_ring ["many", "steps"] (defScope s_levels_or_ring) := ⟨rfl, rfl, rfl, by decide +kernel, rfl, by decide +kernel, by decide +kernel⟩
abbrev s_raise_levels : Stmt := topS 20
abbrev N_raise_levels : List Str := ["levels", "last", "steps", "raised", "number", "begin", "end", "need"]
theorem sc_raise_levels : FnScope N_raise_levels ["levels", "last", "steps"] (defScope s_raise_levels) := ⟨rfl, rfl, rfl, by decide +kernel, rfl, by decide +kernel, by decide +kernel⟩
abbrev s_ring_behind : Stmt := topS 21
abbrev N_ring_behind : List Str := ["place", "last", "steps", "turn", "ring", "here"]
theorem sc_ring_behind : FnScope N_ring_behind ["place", "last", "steps"] (defScope s_ring_behind) := ⟨rfl, rfl, rfl, by decide +kernel, rfl, by decide +kernel, by decide +kernel⟩
abbrev s_shifts_or_bar : Stmt := topS 23
abbrev N_shifts_or_bar : List Str := ["room", "late", "time"]
theorem sc_shifts_or_bar : FnScope N_shifts_or_bar ["room", "late", "time"] (defScope s_shifts_or_bar) := ⟨rfl, rfl, rfl, by decide +kernel, rfl, by decide +kernel, by decide +kernel⟩
abbrev s_least_time : Stmt := topS 24
abbrev N_least_time : List Str := ["room", "late", "ways", "low", "high", "trays", "moments", "way", "end", "word", "shifts", "bar", "middle", "paper"]
theorem sc_least_time : FnScope N_least_time ["room", "late"] (defScope s_least_time) := ⟨rfl, rfl, rfl, by decide +kernel, rfl, by decide +kernel, by decide +kernel⟩
abbrev s_least_ways : Stmt := topS 25
abbrev N_least_ways : List Str := ["room", "found", "one", "costs", "last", "end", "trays", "less"]
theorem sc_least_ways : FnScope N_least_ways ["room"] (defScope s_least_ways) := ⟨rfl, rfl, rfl, by decide +kernel, rfl, by decide +kernel, by decide +kernel⟩
abbrev s_paper_by : Stmt := topS 26
abbrev N_paper_by : List Str := ["room", "late", "time", "ways", "steps", "trays", "moments", "way", "end", "levels", "ring", "number"]
theorem sc_paper_by : FnScope N_paper_by ["room", "late", "time", "ways"] (defScope s_paper_by) := ⟨rfl, rfl, rfl, by decide +kernel, rfl, by decide +kernel, by decide +kernel⟩
abbrev s_needed : Stmt := topS 27
abbrev N_needed : List Str := ["moments", "time"]
theorem sc_needed : FnScope N_needed ["moments", "time"] (defScope s_needed) := ⟨rfl, rfl, rfl, by decide +kernel, rfl, by decide +kernel, by decide +kernel⟩
abbrev s_jumps : Stmt := topS 28
abbrev N_jumps : List Str := ["room", "late", "door", "other"]
theorem sc_jumps : FnScope N_jumps ["room", "late"] (defScope s_jumps) := ⟨rfl, rfl, rfl, by decide +kernel, rfl, by decide +kernel, by decide +kernel⟩
abbrev s_shifts_by : Stmt := topS 29
abbrev N_shifts_by : List Str := ["room", "late", "levels", "ins", "outs", "highest", "door", "told", "free", "ground", "shifts", "level"]
theorem sc_shifts_by : FnScope N_shifts_by ["room", "late", "levels"] (defScope s_shifts_by) := ⟨rfl, rfl, rfl, by decide +kernel, rfl, by decide +kernel, by decide +kernel⟩
abbrev s_hand_places : Stmt := topS 31
abbrev N_hand_places : List Str := ["room", "late", "ground", "places", "hand", "rule", "moments"]
theorem sc_hand_places : FnScope N_hand_places ["room", "late"] (defScope s_hand_places) := ⟨rfl, rfl, rfl, by decide +kernel, rfl, by decide +kernel, by decide +kernel⟩
abbrev s_ground_steps : Stmt := topS 32
abbrev N_ground_steps : List Str := ["room", "late", "time", "places", "ways", "steps", "trays", "moments", "way", "end", "begins", "ends", "above"]
theorem sc_ground_steps : FnScope N_ground_steps ["room", "late", "time"] (defScope s_ground_steps) := ⟨rfl, rfl, rfl, by decide +kernel, rfl, by decide +kernel, by decide +kernel⟩
abbrev s_ground_shifts : Stmt := topS 33
abbrev N_ground_shifts : List Str := ["room", "late", "levels", "ground", "place", "above"]
theorem sc_ground_shifts : FnScope N_ground_shifts ["room", "late", "levels"] (defScope s_ground_shifts) := ⟨rfl, rfl, rfl, by decide +kernel, rfl, by decide +kernel, by decide +kernel⟩
abbrev s_trays_moved : Stmt := topS 35
abbrev N_trays_moved : List Str := ["room", "shifts", "giver", "taker", "things"]
theorem sc_trays_moved : FnScope N_trays_moved ["room", "shifts"] (defScope s_trays_moved) := ⟨rfl, rfl, rfl, by decide +kernel, rfl, by decide +kernel, by decide +kernel⟩
abbrev s_fewest_trays : Stmt := topS 37
abbrev N_fewest_trays : List Str := ["room", "late", "time", "ways", "steps", "prices", "levels", "turn", "shifts", "told", "way", "many"]
theorem sc_fewest_trays : FnScope N_fewest_trays ["room", "late", "time"] (defScope s_fewest_trays) := ⟨rfl, rfl, rfl, by decide +kernel, rfl, by decide +kernel, by decide +kernel⟩
abbrev s_belt_prices : Stmt := topS 38
abbrev N_belt_prices : List Str := ["room", "ways", "hands", "belts", "ends", "way", "leads", "giver", "taker", "things", "pair"]
theorem sc_belt_prices : FnScope N_belt_prices ["room", "ways"] (defScope s_belt_prices) := ⟨rfl, rfl, rfl, by decide +kernel, rfl, by decide +kernel, by decide +kernel⟩
abbrev s_levels_or_turn : Stmt := topS 39
abbrev N_levels_or_turn : List Str := ["room", "steps", "prices", "priced", "number", "many", "backs", "levels", "ring", "first", "turn"]
theorem sc_levels_or_turn : FnScope N_levels_or_turn ["room", "steps", "prices"] (defScope s_levels_or_turn) := ⟨rfl, rfl, rfl, by decide +kernel, rfl, by decide +kernel, by decide +kernel⟩
abbrev s_turn_prices : Stmt := topS 40
abbrev N_turn_prices : List Str := ["prices", "turn", "far", "number", "change"]
theorem sc_turn_prices : FnScope N_turn_prices ["prices", "turn"] (defScope s_turn_prices) := ⟨rfl, rfl, rfl, by decide +kernel, rfl, by decide +kernel, by decide +kernel⟩
abbrev s_law_flow : Stmt := topS 42
abbrev N_law_flow : List Str := ["_law_script"]
theorem sc_law_flow : FnScope N_law_flow ["_law_script"] (defScope s_law_flow) := ⟨rfl, rfl, rfl, by decide +kernel, rfl, by decide +kernel, by decide +kernel⟩
abbrev s_law_pick : Stmt := topS 43
abbrev N_law_pick : List Str := ["_law_flow_here", "_law_many", "_law_cell", "_law_digit"]
theorem sc_law_pick : FnScope N_law_pick ["_law_flow_here", "_law_many"] (defScope s_law_pick) := ⟨rfl, rfl, rfl, by decide +kernel, rfl, by decide +kernel, by decide +kernel⟩
abbrev s_law_thing : Stmt := topS 44
abbrev N_law_thing : List Str := ["_law_flow_here"]
theorem sc_law_thing : FnScope N_law_thing ["_law_flow_here"] (defScope s_law_thing) := ⟨rfl, rfl, rfl, by decide +kernel, rfl, by decide +kernel, by decide +kernel⟩
abbrev s_law_needs : Stmt := topS 45
abbrev N_law_needs : List Str := ["_law_rule_here"]
theorem sc_law_needs : FnScope N_law_needs ["_law_rule_here"] (defScope s_law_needs) := ⟨rfl, rfl, rfl, by decide +kernel, rfl, by decide +kernel, by decide +kernel⟩
abbrev s_law_rule : Stmt := topS 46
abbrev N_law_rule : List Str := ["_law_flow_here", "_law_most", "_law_words", "_law_word"]
theorem sc_law_rule : FnScope N_law_rule ["_law_flow_here", "_law_most"] (defScope s_law_rule) := ⟨rfl, rfl, rfl, by decide +kernel, rfl, by decide +kernel, by decide +kernel⟩
abbrev s_law_shuffled : Stmt := topS 47
abbrev N_law_shuffled : List Str := ["_law_flow_here", "_law_some", "_law_left", "_law_k"]
theorem sc_law_shuffled : FnScope N_law_shuffled ["_law_flow_here", "_law_some"] (defScope s_law_shuffled) := ⟨rfl, rfl, rfl, by decide +kernel, rfl, by decide +kernel, by decide +kernel⟩
abbrev s_law_hands : Stmt := topS 48
abbrev N_law_hands : List Str := ["_law_flow_here", "_law_many", "_law_sorts", "_law_left", "_law_hands_here", "_law_k", "_law_sort", "_law_behind", "_law_other", "_law_rule_here"]
theorem sc_law_hands : FnScope N_law_hands ["_law_flow_here", "_law_many"] (defScope s_law_hands) := ⟨rfl, rfl, rfl, by decide +kernel, rfl, by decide +kernel, by decide +kernel⟩
abbrev s_law_room : Stmt := topS 49
abbrev N_law_room : List Str := ["_law_flow_here", "_law_most", "_law_hands_here", "_law_ranks", "_law_givers", "_law_k", "_law_takers", "_law_belts_here", "_law_to", "_law_one", "_law_trays_here"]
theorem sc_law_room : FnScope N_law_room ["_law_flow_here", "_law_most"] (defScope s_law_room) := ⟨rfl, rfl, rfl, by decide +kernel, rfl, by decide +kernel, by decide +kernel⟩
abbrev s_law_alike : Stmt := topS 50
abbrev N_law_alike : List Str := ["_law_found", "_law_due", "_law_one", "_law_other"]
theorem sc_law_alike : FnScope N_law_alike ["_law_found", "_law_due"] (defScope s_law_alike) := ⟨rfl, rfl, rfl, by decide +kernel, rfl, by decide +kernel, by decide +kernel⟩
abbrev s_law_doors_room : Stmt := topS 51
abbrev N_law_doors_room : List Str := ["_law_flow_here", "_law_ins", "_law_outs", "_law_sorts", "_law_givers", "_law_k", "_law_sort", "_law_belts_here", "_law_things", "_law_j"]
theorem sc_law_doors_room : FnScope N_law_doors_room ["_law_flow_here"] (defScope s_law_doors_room) := ⟨rfl, rfl, rfl, by decide +kernel, rfl, by decide +kernel, by decide +kernel⟩
abbrev s_law_any_room : Stmt := topS 52
abbrev N_law_any_room : List Str := ["_law_flow_here", "_law_form", "_law_found"]
theorem sc_law_any_room : FnScope N_law_any_room ["_law_flow_here"] (defScope s_law_any_room) := ⟨rfl, rfl, rfl, by decide +kernel, rfl, by decide +kernel, by decide +kernel⟩
abbrev s_law_doors : Stmt := topS 53
abbrev N_law_doors : List Str := ["_law_room_here", "_law_word", "_law_k", "_law_hand"]
theorem sc_law_doors : FnScope N_law_doors ["_law_room_here", "_law_word"] (defScope s_law_doors) := ⟨rfl, rfl, rfl, by decide +kernel, rfl, by decide +kernel, by decide +kernel⟩
abbrev s_law_end : Stmt := topS 54
abbrev N_law_end : List Str := ["_law_room_here", "_law_pair", "_law_here", "_law_b"]
theorem sc_law_end : FnScope N_law_end ["_law_room_here", "_law_pair"] (defScope s_law_end) := ⟨rfl, rfl, rfl, by decide +kernel, rfl, by decide +kernel, by decide +kernel⟩
abbrev s_law_trays : Stmt := topS 55
abbrev N_law_trays : List Str := ["_law_room_here", "_law_way", "_law_b"]
theorem sc_law_trays : FnScope N_law_trays ["_law_room_here", "_law_way"] (defScope s_law_trays) := ⟨rfl, rfl, rfl, by decide +kernel, rfl, by decide +kernel, by decide +kernel⟩
abbrev s_law_moments : Stmt := topS 56
abbrev N_law_moments : List Str := ["_law_room_here", "_law_way", "_law_b"]
theorem sc_law_moments : FnScope N_law_moments ["_law_room_here", "_law_way"] (defScope s_law_moments) := ⟨rfl, rfl, rfl, by decide +kernel, rfl, by decide +kernel, by decide +kernel⟩
abbrev s_law_belts : Stmt := topS 57
abbrev N_law_belts : List Str := ["_law_walk", "_law_way"]
theorem sc_law_belts : FnScope N_law_belts ["_law_walk"] (defScope s_law_belts) := ⟨rfl, rfl, rfl, by decide +kernel, rfl, by decide +kernel, by decide +kernel⟩
abbrev s_law_moved : Stmt := topS 58
abbrev N_law_moved : List Str := ["_law_room_here", "_law_shifts", "_law_one", "_law_to", "_law_things"]
theorem sc_law_moved : FnScope N_law_moved ["_law_room_here", "_law_shifts"] (defScope s_law_moved) := ⟨rfl, rfl, rfl, by decide +kernel, rfl, by decide +kernel, by decide +kernel⟩
abbrev s_law_is_small : Stmt := topS 59
abbrev N_law_is_small : List Str := ["_law_walk"]
theorem sc_law_is_small : FnScope N_law_is_small ["_law_walk"] (defScope s_law_is_small) := ⟨rfl, rfl, rfl, by decide +kernel, rfl, by decide +kernel, by decide +kernel⟩
abbrev s_law_rings : Stmt := topS 60
abbrev N_law_rings : List Str := ["_law_room_here", "_law_found", "_law_start", "_law_here", "_law_turn", "_law_longer", "_law_hand", "_law_belts_here", "_law_met", "_law_b", "_law_belt"]
theorem sc_law_rings : FnScope N_law_rings ["_law_room_here"] (defScope s_law_rings) := ⟨rfl, rfl, rfl, by decide +kernel, rfl, by decide +kernel, by decide +kernel⟩
abbrev s_law_held : Stmt := topS 61
abbrev N_law_held : List Str := ["_law_room_here", "_law_late", "_law_time", "_law_prices", "_law_outs", "_law_found", "_law_one", "_law_to", "_law_things", "_law_way", "_law_many", "_law_end_here"]
theorem sc_law_held : FnScope N_law_held ["_law_room_here", "_law_late", "_law_time", "_law_prices"] (defScope s_law_held) := ⟨rfl, rfl, rfl, by decide +kernel, rfl, by decide +kernel, by decide +kernel⟩
abbrev s_law_are_small : Stmt := topS 62
abbrev N_law_are_small : List Str := ["_law_prices", "_law_way", "_law_many"]
theorem sc_law_are_small : FnScope N_law_are_small ["_law_prices"] (defScope s_law_are_small) := ⟨rfl, rfl, rfl, by decide +kernel, rfl, by decide +kernel, by decide +kernel⟩
abbrev s_law_parted : Stmt := topS 63
abbrev N_law_parted : List Str := ["_law_flow_here", "_law_room_here", "_law_prices", "_law_some", "_law_k", "_law_way", "_law_many", "_law_at", "_law_left", "_law_right"]
theorem sc_law_parted : FnScope N_law_parted ["_law_flow_here", "_law_room_here", "_law_prices"] (defScope s_law_parted) := ⟨rfl, rfl, rfl, by decide +kernel, rfl, by decide +kernel, by decide +kernel⟩
abbrev s_law_joined : Stmt := topS 64
abbrev N_law_joined : List Str := ["_law_flow_here", "_law_room_here", "_law_prices", "_law_some", "_law_j", "_law_end_here", "_law_k", "_law_found", "_law_at", "_law_way", "_law_many"]
theorem sc_law_joined : FnScope N_law_joined ["_law_flow_here", "_law_room_here", "_law_prices"] (defScope s_law_joined) := ⟨rfl, rfl, rfl, by decide +kernel, rfl, by decide +kernel, by decide +kernel⟩
abbrev s_law_with_ring : Stmt := topS 65
abbrev N_law_with_ring : List Str := ["_law_flow_here", "_law_room_here", "_law_prices", "_law_rings_here", "_law_at", "_law_ring"]
theorem sc_law_with_ring : FnScope N_law_with_ring ["_law_flow_here", "_law_room_here", "_law_prices"] (defScope s_law_with_ring) := ⟨rfl, rfl, rfl, by decide +kernel, rfl, by decide +kernel, by decide +kernel⟩
abbrev s_law : Stmt := topS 66
abbrev N_law : List Str := ["_law_script", "_law_flow_here", "_law_room_here", "_law_late", "_law_least", "_law_shifts", "_law_bar", "_law_time", "_law_count", "_law_told", "_law_prices", "_law_turn", "_law_form", "_law_held_here", "_law_due", "_law_k"]
theorem sc_law : FnScope N_law ["_law_script"] (defScope s_law) := ⟨rfl, rfl, rfl, by decide +kernel, rfl, by decide +kernel, by decide +kernel⟩

/-- a def of the text stands, binds and is bound -/
def Dd (K : PySem.W.Frag) (mg : Str → Option Value) (name : Str) (st : Stmt) (ps : List Str) : Prop :=
  ∃ (f : Addr) (fd : FuncData), Fun K name name st f fd ∧ Binds K fd ps [] ∧ mg name = some (.ref f)
structure Top (K : PySem.W.Frag) (mg : Str → Option Value) : Prop where
  d_comings : Dd K mg "comings" s_comings ["room", "hand"]
  d_goings : Dd K mg "goings" s_goings ["room", "hand"]
  d_doors_in : Dd K mg "doors_in" s_doors_in ["room"]
  d_doors_out : Dd K mg "doors_out" s_doors_out ["room"]
  d_trays_on : Dd K mg "trays_on" s_trays_on ["room", "way"]
  d_moments_on : Dd K mg "moments_on" s_moments_on ["room", "way"]
  d_way_end : Dd K mg "way_end" s_way_end ["room", "pair"]
  d_way_back : Dd K mg "way_back" s_way_back ["room", "end", "last"]
  d_least_costs : Dd K mg "least_costs" s_least_costs ["room", "one"]
  d_prices_hold : Dd K mg "prices_hold" s_prices_hold ["room", "late", "time", "count", "prices"]
  d_is_price : Dd K mg "is_price" s_is_price ["room", "pair", "many"]
  d_they_bind : Dd K mg "they_bind" s_they_bind ["room", "prices"]
  d_held_count : Dd K mg "held_count" s_held_count ["room", "late", "time", "prices"]
  d_levels_or_ring : Dd K mg "levels_or_ring" s_levels_or_ring ["many", "steps"]
  d_raise_levels : Dd K mg "raise_levels" s_raise_levels ["levels", "last", "steps"]
  d_ring_behind : Dd K mg "ring_behind" s_ring_behind ["place", "last", "steps"]
  d_shifts_or_bar : Dd K mg "shifts_or_bar" s_shifts_or_bar ["room", "late", "time"]
  d_least_time : Dd K mg "least_time" s_least_time ["room", "late"]
  d_least_ways : Dd K mg "least_ways" s_least_ways ["room"]
  d_paper_by : Dd K mg "paper_by" s_paper_by ["room", "late", "time", "ways"]
  d_needed : Dd K mg "needed" s_needed ["moments", "time"]
  d_jumps : Dd K mg "jumps" s_jumps ["room", "late"]
  d_shifts_by : Dd K mg "shifts_by" s_shifts_by ["room", "late", "levels"]
  d_hand_places : Dd K mg "hand_places" s_hand_places ["room", "late"]
  d_ground_steps : Dd K mg "ground_steps" s_ground_steps ["room", "late", "time"]
  d_ground_shifts : Dd K mg "ground_shifts" s_ground_shifts ["room", "late", "levels"]
  d_trays_moved : Dd K mg "trays_moved" s_trays_moved ["room", "shifts"]
  d_fewest_trays : Dd K mg "fewest_trays" s_fewest_trays ["room", "late", "time"]
  d_belt_prices : Dd K mg "belt_prices" s_belt_prices ["room", "ways"]
  d_levels_or_turn : Dd K mg "levels_or_turn" s_levels_or_turn ["room", "steps", "prices"]
  d_turn_prices : Dd K mg "turn_prices" s_turn_prices ["prices", "turn"]
  d_law_flow : Dd K mg "_law_flow" s_law_flow ["_law_script"]
  d_law_pick : Dd K mg "_law_pick" s_law_pick ["_law_flow_here", "_law_many"]
  d_law_thing : Dd K mg "_law_thing" s_law_thing ["_law_flow_here"]
  d_law_needs : Dd K mg "_law_needs" s_law_needs ["_law_rule_here"]
  d_law_rule : Dd K mg "_law_rule" s_law_rule ["_law_flow_here", "_law_most"]
  d_law_shuffled : Dd K mg "_law_shuffled" s_law_shuffled ["_law_flow_here", "_law_some"]
  d_law_hands : Dd K mg "_law_hands" s_law_hands ["_law_flow_here", "_law_many"]
  d_law_room : Dd K mg "_law_room" s_law_room ["_law_flow_here", "_law_most"]
  d_law_alike : Dd K mg "_law_alike" s_law_alike ["_law_found", "_law_due"]
  d_law_doors_room : Dd K mg "_law_doors_room" s_law_doors_room ["_law_flow_here"]
  d_law_any_room : Dd K mg "_law_any_room" s_law_any_room ["_law_flow_here"]
  d_law_doors : Dd K mg "_law_doors" s_law_doors ["_law_room_here", "_law_word"]
  d_law_end : Dd K mg "_law_end" s_law_end ["_law_room_here", "_law_pair"]
  d_law_trays : Dd K mg "_law_trays" s_law_trays ["_law_room_here", "_law_way"]
  d_law_moments : Dd K mg "_law_moments" s_law_moments ["_law_room_here", "_law_way"]
  d_law_belts : Dd K mg "_law_belts" s_law_belts ["_law_walk"]
  d_law_moved : Dd K mg "_law_moved" s_law_moved ["_law_room_here", "_law_shifts"]
  d_law_is_small : Dd K mg "_law_is_small" s_law_is_small ["_law_walk"]
  d_law_rings : Dd K mg "_law_rings" s_law_rings ["_law_room_here"]
  d_law_held : Dd K mg "_law_held" s_law_held ["_law_room_here", "_law_late", "_law_time", "_law_prices"]
  d_law_are_small : Dd K mg "_law_are_small" s_law_are_small ["_law_prices"]
  d_law_parted : Dd K mg "_law_parted" s_law_parted ["_law_flow_here", "_law_room_here", "_law_prices"]
  d_law_joined : Dd K mg "_law_joined" s_law_joined ["_law_flow_here", "_law_room_here", "_law_prices"]
  d_law_with_ring : Dd K mg "_law_with_ring" s_law_with_ring ["_law_flow_here", "_law_room_here", "_law_prices"]
  m_all : mg "all" = none
  m_bool : mg "bool" = none
  m_enumerate : mg "enumerate" = none
  m_int : mg "int" = none
  m_isinstance : mg "isinstance" = none
  m_len : mg "len" = none
  m_list : mg "list" = none
  m_max : mg "max" = none
  m_min : mg "min" = none
  m_range : mg "range" = none
  m_sum : mg "sum" = none
  m_tuple : mg "tuple" = none
  m_zip : mg "zip" = none
  x_in : ∃ aI : Addr, mg "IN_RULE" = some (.ref aI) ∧ ∀ H : Hp, SqT K H aI [.str "in"]
  x_out : ∃ aO : Addr, mg "OUT_RULE" = some (.ref aO) ∧ ∀ H : Hp, SqT K H aO [.str "out"]

/-! ### heaps -/
def But (f : Addr) (H H' : Hp) : Prop := ∀ b o, H b = some o → b ≠ f → H' b = some o
theorem But.refl {f : Addr} {H : Hp} : But f H H := fun _ _ e _ => e
theorem But.trans {f : Addr} {H H1 H2 : Hp} (a : But f H H1) (b : But f H1 H2) : But f H H2 := fun x o e n => b x o (a x o e n) n
theorem But.upd {f : Addr} {H H1 : Hp} {o : HO} (a : But f H H1) : But f H (upd H1 f o) := fun x u e n => by rw [upd_ne n]; exact a x u e n
theorem But.new {f p : Addr} {H H1 : Hp} {o : HO} (a : But f H H1) (h : H1 p = none) : But f H (L2.upd H1 p o) := fun x u e n => by
  have e1 := a x u e n
  rw [upd_ne (ne_of_none e1 h)]
  exact e1
theorem same_new {H : Hp} {p : Addr} {o : HO} (h : H p = none) : Same H (upd H p o) := fun b u q => by rw [upd_ne (ne_of_none q h)]; exact q
theorem But.same {f : Addr} {H H1 H2 : Hp} (a : But f H H1) (b : Same H1 H2) : But f H H2 := fun x o e n => b x o (a x o e n)
theorem But.seqT {K : PySem.W.Frag} {f a : Addr} {H H1 : Hp} {xs : List V} (b : But f H H1) (h : SqT K H a xs) (n : a ≠ f) : SqT K H1 a xs := by
  rcases h with h | h
  · left
    rcases h with h | ⟨o, h⟩
    · exact .inl (b _ _ h n)
    · exact .inr ⟨o, b _ _ h n⟩
  · exact .inr h
/-- a comprehension without a test -/
theorem yes_in {σ : L2.St} {H : Hp} {A B : Hp → Prop} (h : A H) : tYes σ H (fun b H3 => if b = true then A H3 else B H3) := by
  show (if true = true then A H else B H)
  rw [if_pos rfl]
  exact h
/-! ### the draw -/
/-- the list of the law's draws at f, the script's copy at c -/
def Flow (H : Hp) (f c : Addr) : Prop := ∃ (ns : List Int) (i p q r : Int), H f = some (.lst [.ref c, .int i, .int p, .int q, .int r]) ∧ H c = some (.lst (ns.map V.int)) ∧ 0 ≤ i ∧ 0 ≤ p ∧ 0 ≤ q ∧ q < 2147483647
theorem Flow.new {H : Hp} {f c p : Addr} {o : HO} (h : Flow H f c) (n : H p = none) : Flow (upd H p o) f c := by
  obtain ⟨ns, i, a, q, r, e1, e2, e⟩ := h
  exact ⟨ns, i, a, q, r, same_new n _ _ e1, same_new n _ _ e2, e⟩
theorem Flow.ne {H : Hp} {f c p : Addr} (h : Flow H f c) (n : H p = none) : p ≠ f := by
  obtain ⟨ns, i, a, q, r, e1, _⟩ := h
  exact fun e => by rw [e, e1] at n; cases n
theorem Flow.nec {H : Hp} {f c p : Addr} (h : Flow H f c) (n : H p = none) : p ≠ c := by
  obtain ⟨ns, i, a, q, r, _, e1, _⟩ := h
  exact fun e => by rw [e, e1] at n; cases n
theorem Flow.lst {H : Hp} {f c p : Addr} {o : HO} (h : Flow H f c) (n1 : p ≠ f) (n2 : p ≠ c) : Flow (upd H p o) f c := by
  obtain ⟨ns, i, a, q, r, e1, e2, e⟩ := h
  exact ⟨ns, i, a, q, r, by rw [upd_ne n1.symm]; exact e1, by rw [upd_ne n2.symm]; exact e2, e⟩
theorem Flow.same {H H' : Hp} {f c : Addr} (h : Flow H f c) (s : Same H H') : Flow H' f c := by
  obtain ⟨ns, i, a, q, r, e1, e2, e⟩ := h
  exact ⟨ns, i, a, q, r, s _ _ e1, s _ _ e2, e⟩
theorem Flow.tup {H : Hp} {f c p : Addr} {xs : List V} (h : Flow H f c) (e : H p = some (.tup xs)) : p ≠ f := by
  obtain ⟨ns, i, a, q, r, e1, _⟩ := h
  exact ne_of e e1 (by intro z; cases z)
theorem at_ints {ns : List Int} {i : Int} (h0 : 0 ≤ i) (h1 : i < (ns.length : Int)) : ∃ v : Int, atI (ns.map V.int) i = some (.int v) := by
  have hk : i.toNat < ns.length := by omega
  have ek : i = ((i.toNat : Nat) : Int) := by omega
  have q : atI (ns.map V.int) ((i.toNat : Nat) : Int) = some (.int ns[i.toNat]) := atI_nat (by rw [List.getElem?_map, List.getElem?_eq_getElem hk]; rfl)
  rw [← ek] at q
  exact ⟨_, q⟩
/-- a block by less than it asks -/
theorem PSs.to {X : Cx} {ss : List Stmt} {t : TS} (h : PSs X ss t) (u : TS) (k : ∀ D σ H, u D σ H → t D σ H) : PSs X ss u := ⟨fun pins s σ H D I q => h.run pins s σ H D I (k D σ H q)⟩
theorem if_bl {b : Bool} {A B : Prop} (h1 : b = true → A) (h2 : b = false → B) : if b = true then A else B := by
  cases b
  · rw [if_neg Bool.false_ne_true]; exact h2 rfl
  · rw [if_pos rfl]; exact h1 rfl
/-! ### lists, two by two -/
inductive All2 {α β : Type} (R : α → β → Prop) : List α → List β → Prop
  | nil : All2 R [] []
  | cons {a b as bs} : R a b → All2 R as bs → All2 R (a :: as) (b :: bs)
theorem All2.imp {α β : Type} {R S : α → β → Prop} (h : ∀ a b, R a b → S a b) : ∀ {as bs}, All2 R as bs → All2 S as bs
  | _, _, .nil => .nil
  | _, _, .cons a b => .cons (h _ _ a) (All2.imp h b)
theorem All2.length {α β : Type} {R : α → β → Prop} : ∀ {as bs}, All2 R as bs → as.length = bs.length
  | _, _, .nil => rfl
  | _, _, .cons _ b => congrArg (· + 1) (All2.length b)
theorem All2.snoc {α β : Type} {R : α → β → Prop} {a b} (r : R a b) : ∀ {as bs}, All2 R as bs → All2 R (as ++ [a]) (bs ++ [b])
  | _, _, .nil => .cons r .nil
  | _, _, .cons h t => .cons h (All2.snoc r t)
theorem All2.get {α β : Type} {R : α → β → Prop} {as : List α} {bs : List β} (h : All2 R as bs) : ∀ {i : Nat} {b : β}, bs[i]? = some b → ∃ a, as[i]? = some a ∧ R a b := by
  induction h with
  | nil => intro i b e; cases e
  | cons r t ih =>
    intro i b e
    cases i with
    | zero => cases e; exact ⟨_, rfl, r⟩
    | succ i => exact ih e
theorem All2.getL {α β : Type} {R : α → β → Prop} {as : List α} {bs : List β} (h : All2 R as bs) : ∀ {i : Nat} {a : α}, as[i]? = some a → ∃ b, bs[i]? = some b ∧ R a b := by
  induction h with
  | nil => intro i b e; cases e
  | cons r t ih =>
    intro i b e
    cases i with
    | zero => cases e; exact ⟨_, rfl, r⟩
    | succ i => exact ih e
/-! ### tuples stay -/
def TK (H H' : Hp) : Prop := ∀ b xs, H b = some (.tup xs) → H' b = some (.tup xs)
theorem TK.refl {H : Hp} : TK H H := fun _ _ e => e
theorem TK.trans {H H1 H2 : Hp} (a : TK H H1) (b : TK H1 H2) : TK H H2 := fun x xs e => b x xs (a x xs e)
theorem TK.same {H H' : Hp} (s : Same H H') : TK H H' := fun x xs e => s _ _ e
theorem TK.new {H : Hp} {p : Addr} {o : HO} (n : H p = none) : TK H (upd H p o) := fun x xs e => same_new n _ _ e
theorem TK.lst {H : Hp} {p : Addr} {xs ys : List V} (h : H p = some (.lst xs)) : TK H (upd H p (.lst ys)) := fun x zs e => by
  rw [upd_ne (ne_of e h (by intro z; cases z))]
  exact e
theorem TK.but {H H' : Hp} {f c : Addr} (F : Flow H f c) (b : But f H H') : TK H H' := fun x xs e => b _ _ e (F.tup e)
theorem same_none {H H' : Hp} {p : Addr} (s : Same H H') (n : H' p = none) : H p = none := by
  cases e : H p with
  | none => rfl
  | some o => rw [s _ _ e] at n; cases n
theorem But.none {f p : Addr} {H H' : Hp} (b : But f H H') (n : H' p = Option.none) (h : p ≠ f) : H p = Option.none := by
  cases e : H p with
  | none => rfl
  | some o => rw [b _ _ e h] at n; cases n
theorem But.of {f : Addr} {H H' : Hp} (s : Same H H') : But f H H' := fun _ _ e _ => s _ _ e
/-- a list that was not there is written: what was stays -/
theorem But.own {f p : Addr} {H H1 : Hp} {o : HO} (a : But f H H1) (h : H p = Option.none) : But f H (L2.upd H1 p o) := fun x u e n => by
  rw [upd_ne (ne_of_none e h)]
  exact a x u e n
theorem Same.own {p : Addr} {H H1 : Hp} {o : HO} (a : Same H H1) (h : H p = Option.none) : Same H (L2.upd H1 p o) := fun x u e => by
  rw [upd_ne (ne_of_none e h)]
  exact a x u e
/-! ### loops over any iterator -/
theorem for_it {J : It} {n : Nat} {g : TG} {tb : TS} {D : Ends} {σ : L2.St} {H : Hp} (Pv : Nat → L2.St → Hp → Prop) (h0 : Pv 0 σ H) (go : ∀ i σ H, i < n → Pv i σ H → J.go i H) (st : ∀ σ H, Pv n σ H → J.stop n H)
    (hs : ∀ i x σ H H', i < n → Pv i σ H → J.yld i H x H' → g x σ H' fun σ2 H2 => tb { D with nx := Pv (i + 1), ct := Pv (i + 1), bk := D.nx } σ2 H2) (hd : ∀ σ H, Pv n σ H → D.nx σ H) :
    ∃ W : Nat → Nat → L2.St → Hp → Prop, (∃ m, W 0 m σ H) ∧ ∀ i m σ H, W i m σ H →
      (J.stop i H ∧ D.nx σ H) ∨ (J.go i H ∧ ∃ N : L2.St → Hp → Prop, (∀ σ' H', N σ' H' → ∃ m', m' < m ∧ W (i + 1) m' σ' H') ∧ ∀ x H', J.yld i H x H' → g x σ H' fun σ2 H2 => tb { D with nx := N, ct := N, bk := D.nx } σ2 H2) := by
  refine ⟨fun i m σ H => i + m = n ∧ Pv i σ H, ⟨n, by omega, h0⟩, fun i m σ H ⟨e, p⟩ => ?_⟩
  by_cases k : i < n
  · exact .inr ⟨go i σ H k p, Pv (i + 1), fun σ' H' p' => ⟨m - 1, by omega, by omega, p'⟩, fun x H' y => hs i x σ H H' k p y⟩
  · have z : i = n := by omega
    subst z
    exact .inl ⟨st σ H p, hd σ H p⟩
theorem lc_it {J : It} {n : Nat} {g : TG} {tt : TT} {te : TE} {vs : List Nat} {σ : L2.St} {H1 : Hp} {D : Addr} {Qd : Hp → Prop} (Pv : Nat → Hp → Prop) (h0 : Pv 0 (upd H1 D (.lst []))) (go : ∀ i H, i < n → Pv i H → J.go i H) (st : ∀ H, Pv n H → J.stop n H)
    (hs : ∀ i x H H', i < n → Pv i H → J.yld i H x H' → g x (wipe σ vs) H' fun σ2 H2 => wipe σ2 vs = wipe σ vs ∧ tt σ2 H2 fun b H3 =>
      if b = true then te σ2 H3 fun y H4 => ∃ acc, H4 D = some (.lst acc) ∧ acc.length < sizeLine ∧ Pv (i + 1) (upd H4 D (.lst (acc ++ [y]))) else Pv (i + 1) H3) (hd : ∀ H, Pv n H → Qd H) :
    ∃ W : Nat → Nat → Hp → Prop, (∃ m, W 0 m (upd H1 D (.lst []))) ∧ ∀ i m H, W i m H →
      (J.stop i H ∧ Qd H) ∨ (J.go i H ∧ ∃ Nx : Hp → Prop, (∀ H', Nx H' → ∃ m', m' < m ∧ W (i + 1) m' H') ∧ ∀ x H', J.yld i H x H' → g x (wipe σ vs) H' fun σ2 H2 => wipe σ2 vs = wipe σ vs ∧ tt σ2 H2 fun b H3 =>
        if b = true then te σ2 H3 fun y H4 => ∃ acc, H4 D = some (.lst acc) ∧ acc.length < sizeLine ∧ Nx (upd H4 D (.lst (acc ++ [y]))) else Nx H3) := by
  refine ⟨fun i m H => i + m = n ∧ Pv i H, ⟨n, by omega, h0⟩, fun i m H ⟨e, p⟩ => ?_⟩
  by_cases k : i < n
  · exact .inr ⟨go i H k p, Pv (i + 1), fun H' p' => ⟨m - 1, by omega, by omega, p'⟩, fun x H' y => hs i x H H' k p y⟩
  · have z : i = n := by omega
    subst z
    exact .inl ⟨st H p, hd H p⟩
/-! ### tests -/
theorem if_str {x z : Str} {A B : Prop} (h1 : x = z → A) (h2 : x ≠ z → B) : if decide (V.str x = V.str z) = true then A else B :=
  if_bl (fun e => h1 (V.str.inj (of_decide_eq_true e))) (fun e => h2 (fun q => of_decide_eq_false e (congrArg V.str q)))
theorem inV_strs {x : Str} {zs : List Str} : inV (.str x) (zs.map V.str) = true ↔ x ∈ zs := by
  unfold inV
  induction zs with
  | nil => simp
  | cons z zs ih =>
    rw [List.map_cons, List.any_cons, Bool.or_eq_true, ih, List.mem_cons]
    constructor
    · rintro (h | h)
      · exact .inl (by simpa [eqV] using (show (z == x) = true from h) |> fun k => (eq_of_beq k).symm)
      · exact .inr h
    · rintro (h | h)
      · exact .inl (show (z == x) = true by rw [h]; exact beq_self_eq_true z)
      · exact .inr h
theorem if_in {x : Str} {zs : List Str} {A B : Prop} (h1 : x ∈ zs → A) (h2 : x ∉ zs → B) : if (if false = true then !inV (.str x) (zs.map V.str) else inV (.str x) (zs.map V.str)) = true then A else B := by
  have e : (if false = true then !inV (.str x) (zs.map V.str) else inV (.str x) (zs.map V.str)) = inV (.str x) (zs.map V.str) := if_neg Bool.false_ne_true
  rw [e]
  exact if_bl (fun c => h1 (inV_strs.mp c)) (fun c => h2 (fun k => by rw [inV_strs.mpr k] at c; cases c))
theorem same_seqT {K : PySem.W.Frag} {a : Addr} {H H1 : Hp} {xs : List V} (b : Same H H1) (h : SqT K H a xs) : SqT K H1 a xs := by
  rcases h with h | h
  · left
    rcases h with h | ⟨o, h⟩
    · exact .inl (b _ _ h)
    · exact .inr ⟨o, b _ _ h⟩
  · exact .inr h
theorem little {n : Nat} (h : n ≤ 1000) : n ≤ sizeLine := Nat.le_of_lt (small1000 h)
/-! ### xs[i] op= e -/
def rGetL (K : PySem.W.Frag) : V → V → Hp → VK → Prop := fun o i H Q => ∃ (p : Addr) (xs : List V) (j : Nat) (v : V), o = .ref p ∧ i = .int (j : Nat) ∧ SqL K H p xs ∧ xs[j]? = some v ∧ Q v H
theorem get_list {X : Cx} : PGet X (rGetL X.K) := by
  intro pins st σ H o i ov iv Q J ro ri asked
  obtain ⟨p, xs, j, v, rfl, rfl, hq, hj, now⟩ := asked
  cases ro
  obtain ⟨t, rfl⟩ := ri
  obtain ⟨its, r, pl, hz⟩ := J.list hq
  obtain ⟨u, eu, ru⟩ := r.get hj
  have n1 := (List.getElem?_eq_some_iff.mp hj).1
  have n2 := line63
  exact wpAny_getItem_list pl.isList (by omega) (by omega) (by simpa using eu) ⟨v, H, J, ru, now⟩
/-! ### the same rules, the written part named (so that they fit within comprehensions) -/
section
variable {X : Cx}
theorem ix_listK (K : PySem.W.Frag) (h : X.K = K) : IxR X (rIxL K) := by subst h; exact ix_list
theorem ix_tupK (K : PySem.W.Frag) (h : X.K = K) : IxR X (rIxT K) := by subst h; exact ix_tup
def rLenK (K : PySem.W.Frag) : List V → Hp → VK → Prop := fun xs H Q => ∃ (p : Addr) (ys : List V), xs = [.ref p] ∧ (SqL K H p ys ∨ SqT K H p ys) ∧ Q (.int (ys.length : Nat)) H
theorem call_len_seqK (K : PySem.W.Frag) (h : X.K = K) : CallR X (.builtin "len") (rLenK K) := by subst h; exact call_len_seq
def rListOfK (K : PySem.W.Frag) : List V → Hp → VK → Prop := fun xs H Q => ∃ (p : Addr) (ys : List V), xs = [.ref p] ∧ (SqL K H p ys ∨ SqT K H p ys) ∧ ∀ l, H l = none → Q (.ref l) (upd H l (.lst ys))
theorem call_list_ofK (K : PySem.W.Frag) (h : X.K = K) : CallR X (.type "list") (rListOfK K) := by subst h; exact call_list_of
def rTupOfK (K : PySem.W.Frag) : List V → Hp → VK → Prop := fun xs H Q => ∃ (p : Addr) (ys : List V), xs = [.ref p] ∧ ((SqL K H p ys ∧ ∀ l, H l = none → Q (.ref l) (upd H l (.tup ys))) ∨ (SqT K H p ys ∧ Q (.ref p) H))
theorem call_tuple_ofK (K : PySem.W.Frag) (h : X.K = K) : CallR X (.type "tuple") (rTupOfK K) := by subst h; exact call_tuple_of
theorem op_in_seqK (K : PySem.W.Frag) (h : X.K = K) : OpR X (compareOp .In) (rIn K false) := by subst h; exact op_in_seq
theorem op_notIn_seqK (K : PySem.W.Frag) (h : X.K = K) : OpR X (compareOp .NotIn) (rIn K true) := by subst h; exact op_notIn_seq
theorem sl_listK (K : PySem.W.Frag) (h : X.K = K) : SlR X (rSlL K) := by subst h; exact sl_list
theorem sl_tupAK (K : PySem.W.Frag) (h : X.K = K) : SlR X (rSlA K) := by subst h; exact sl_tupA
theorem op_eqDK (K : PySem.W.Frag) (h : X.K = K) (hu : X.A.units + 64 < cLine) : OpR X (compareOp .Eq) (rEqD K) := by subst h; exact op_eqD hu
theorem op_neDK (K : PySem.W.Frag) (h : X.K = K) (hu : X.A.units + 64 < cLine) : OpR X (compareOp .NotEq) (rNeD K) := by subst h; exact op_neD hu
theorem call_isiKK (K : PySem.W.Frag) (h : X.K = K) : CallR X (.builtin "isinstance") (rIsi K) := by subst h; exact call_isi
theorem cr_allK (K : PySem.W.Frag) (h : X.K = K) (hc : X.calm = true) : CallR X (.builtin "all") (rAll K) := by subst h; exact cr_all hc
theorem cr_anyK (K : PySem.W.Frag) (h : X.K = K) (hc : X.calm = true) : CallR X (.builtin "any") (rAny K) := by subst h; exact cr_any hc
theorem cr_minKK (K : PySem.W.Frag) (h : X.K = K) (hc : X.calm = true) : CallR X (.builtin "min") (rMin K) := by subst h; exact cr_min hc
theorem cr_maxKK (K : PySem.W.Frag) (h : X.K = K) (hc : X.calm = true) : CallR X (.builtin "max") (rMax K) := by subst h; exact cr_max hc
def tTruK (K : PySem.W.Frag) (ta : TE) : TT := fun σ H Q => ta σ H fun x H' => ∃ k, TruV K x H' k ∧ Q k H'
theorem pt_truthK (K : PySem.W.Frag) (h : X.K = K) {a : Expr} {ta : TE} (ha : PE X a ta) (he : ∀ whole, isTrue a X.env whole = (do let v ← whole; standAt a.pos; holding [v] (truthy v))) : PT X a (tTruK K ta) := by subst h; exact pt_truth ha he
theorem get_listK (K : PySem.W.Frag) (h : X.K = K) : PGet X (rGetL K) := by subst h; exact get_list
theorem pg_tupK (K : PySem.W.Frag) (h : X.K = K) {es : List Expr} {k n : Nat} {t : TGs} {pos : Pos} (hc : X.calm = true) (g : PGs X es t)
    (hn : (assignEach es X.env).length = n := by rfl) (hst : (assignEach es X.env).findIdx? (·.1) = none := by rfl) : PG X (.Tuple es k pos) (gTup K n t) := by subst h; exact pg_tup hc g hn hst
theorem pg_unlK (K : PySem.W.Frag) (h : X.K = K) {es : List Expr} {k n : Nat} {t : TGs} {pos : Pos} (hc : X.calm = true) (g : PGs X es t)
    (hn : (assignEach es X.env).length = n := by rfl) (hst : (assignEach es X.env).findIdx? (·.1) = none := by rfl) : PG X (.Tuple es k pos) (gUnl K n t) := by subst h; exact pg_unl hc g hn hst
theorem pi_listK (K : PySem.W.Frag) (h : X.K = K) {tg e : Expr} {te : TE} (he : PE X e te) : PI X tg e (iList K te) := by subst h; exact pi_list he
theorem pi_tupK (K : PySem.W.Frag) (h : X.K = K) {tg e : Expr} {te : TE} (he : PE X e te) : PI X tg e (iTup K te) := by subst h; exact pi_tup he
theorem pe_revLK (K : PySem.W.Frag) (h : X.K = K) {e : Expr} {te : TE} {k : Nat} {p1 p2 p3 pos : Pos} (he : PE X e te) : PE X (.Subscript e (.Slice none none (some (.UnaryOp .USub (.Constant (.int 1) k p1) p2)) p3) pos) (tRevL K te) := by subst h; exact pe_revL he
theorem pe_bmK (K : PySem.W.Frag) (h : X.K = K) {o e : Expr} {es : List Expr} {to : TE} {t : TA} {name : Str} {apos cpos : Pos} {T id : String} {r : V → List V → Hp → VK → Prop}
    (pa : PlainAttrs T) (slot : Slot T name id) (hty : typeOf (.builtin id) = pure (.type "method_descriptor")) (hm : MtR X id r) (ho : PE X o to) (ha : PA X (e :: es) t)
    (n1 : attributeBase o name X.env (eval o X.env) = eval o X.env := by rfl)
    (n2 : ((backTo cpos (starEach (e :: es) X.env)).all (fun x => !x.1) && (backToKw cpos (keywordEach [] X.env)).all (fun x => x.1.isSome) && decide ((e :: es).length + ([] : List Keyword).length + (if ([] : List Keyword).isEmpty then 0 else 1) < 30)) = true := by rfl)
    (n3 : (apos.endLine == cpos.line) = true := by rfl) (n4 : starEach (e :: es) X.env = (false, eval e X.env) :: starEach es X.env := by rfl) (n5 : (backTo cpos (starEach es X.env)).any (·.1) = false := by rfl) :
    PE X (.Call (.Attribute o name apos) (e :: es) [] cpos) (tBM K T r to t) := by subst h; exact pe_bm pa slot hty hm ho ha n1 n2 n3 n4 n5
theorem pe_bm0K (K : PySem.W.Frag) (h : X.K = K) {o : Expr} {to : TE} {name : Str} {apos cpos : Pos} {T id : String} {r : V → List V → Hp → VK → Prop}
    (pa : PlainAttrs T) (slot : Slot T name id) (hty : typeOf (.builtin id) = pure (.type "method_descriptor")) (hm : MtR X id r) (ho : PE X o to)
    (n1 : attributeBase o name X.env (eval o X.env) = eval o X.env := by rfl) (n3 : (apos.endLine == cpos.line) = true := by rfl) : PE X (.Call (.Attribute o name apos) [] [] cpos) (tBM0 K T r to) := by subst h; exact pe_bm0 pa slot hty hm ho n1 n3
theorem op_catAK (K : PySem.W.Frag) (h : X.K = K) : OpR X (binaryOp .Add) (rCatA K) := by subst h; exact op_catA
theorem call_isiTK (K : PySem.W.Frag) (h : X.K = K) : CallR X (.builtin "isinstance") (rIsiT K) := by subst h; exact call_isiT
theorem pi_zipAK (K : PySem.W.Frag) (h : X.K = K) {e e2 : Expr} {ta : TA} {p pos tpos : Pos} {elts : List Expr} {kk : Nat} (hg : Gl X "zip") (hm : X.mg "zip" = none) (ha : PA X [e, e2] ta)
    (hs : starEach [e, e2] X.env = (false, eval e X.env) :: starEach [e2] X.env := by rfl) (hpl : (backTo pos (starEach [e2] X.env)).any (·.1) = false := by rfl) :
    PI X (.Tuple elts kk tpos) (.Call (.Name "zip" p) [e, e2] [] pos) (RZ.iZipA K ta) := by subst h; exact RZ.pi_zipA hg hm ha hs hpl
theorem pi_or {tg e : Expr} {t1 t2 : TI} (h1 : PI X tg e t1) (h2 : PI X tg e t2) : PI X tg e (fun σ H R => t1 σ H R ∨ t2 σ H R) := ⟨fun pins s σ H R I h => h.elim (h1.run pins s σ H R I) (h2.run pins s σ H R I)⟩
end
section
variable {X : Cx}
theorem cr_sumK (K : PySem.W.Frag) (h : X.K = K) (hc : X.calm = true) : CallR X (.builtin "sum") (rSum K) := by subst h; exact cr_sum hc
end
section
variable {X : Cx}
theorem op_ltTK (K : PySem.W.Frag) (h : X.K = K) (hu : X.A.units < cLine) : OpR X (compareOp .Lt) (rLtT K) := by subst h; exact op_ltT hu
end
section
variable {X : Cx}
theorem cr_sortedRevK (K : PySem.W.Frag) (h : X.K = K) {b : Bool} : CallRK X (.builtin "sorted") [Str.ofString "reverse"] (rSortedKw K b [.bl b]) := by subst h; exact cr_sortedRev
theorem op_inDK (K : PySem.W.Frag) (h : X.K = K) (hu : X.A.units + 65 < cLine) : OpR X (compareOp .In) (rInD K) := by subst h; exact op_inD hu
end
theorem hu65 {A : Around} {k : Nat} (hr : Room k A) : A.units + 65 < cLine := by have := hr.un; omega
section
variable {X : Cx}
/-- x not in t, t a tuple of data of any depth -/
def rNotInDT (K : PySem.W.Frag) : R2 := fun x y H Q => ∃ d ds, Dp K H x d ∧ Dp K H y (.tuple ds) ∧ SeqAt.shaped d = true ∧ SeqAt.shaped (.tuple ds) = true ∧ Q (.bl (!ds.any fun z => PyData.eqv z d)) H
theorem op_notInDTK (K : PySem.W.Frag) (same : X.K = K) (room : X.A.units + 65 < cLine) : OpR X (compareOp .NotIn) (rNotInDT K) := by
  subst same
  intro pins st σ H one many ov mv Q J ro rm asked
  have ⟨d, ds, dpO, dpM, shO, shM, done⟩ := asked
  have ⟨_, readO⟩ := Dp.reads J d one ov dpO ro
  have ⟨_, readM⟩ := Dp.reads J (.tuple ds) many mv dpM rm
  exact SeqAt.notIn_tuple_reads readM readO (SeqAt.canLay_of_shaped shM) (SeqAt.canLay_of_shaped shO) (room_in_shaped shO room) ⟨.bl _, H, J, rfl, done⟩
end
/-! ### for x, y in zip(t, l), t a tuple, l a list -/
def IzTL (K : PySem.W.Frag) (a b : Addr) (xs ys : List V) : It :=
  ⟨fun i H => SqT K H a xs ∧ SqL K H b ys ∧ i < xs.length ∧ i < ys.length, fun i H v H' => ∃ T x y, v = .ref T ∧ H T = none ∧ H' = upd H T (.tup [x, y]) ∧ xs[i]? = some x ∧ ys[i]? = some y, fun i H => SqT K H a xs ∧ SqL K H b ys ∧ i ≤ xs.length ∧ i ≤ ys.length ∧ (i = xs.length ∨ i = ys.length)⟩
theorem turn_zipTL {P : Program} {w : World} {K : PySem.W.Frag} {elts : List Expr} {kk : Nat} {tpos : Pos} {a b z TI TO i1 i2 : Addr} (S : ZipSep2 z TI TO i1 i2 [i1, a] [i2, b]) (na : a ≠ i1) (nb : b ≠ i2) (xs ys : List V) :
    Turn P w K (.Tuple elts kk tpos) (IzTL K a b xs ys) [z, TI, TO, i1, i2] z (fun i h => IsZip h z TI TO .none ∧ IsTupOf2 h TI (.ref i1) (.ref i2) ∧ (∃ x y, IsTupOf2 h TO x y) ∧ h.IsTupleIter i1 a i ∧ h.IsListIter i2 b i) where
  mem := by simp
  obj := fun i h stt c hc => by
    obtain ⟨hz, hI, ⟨x, y, hO⟩, ⟨o1, e1, _, d1⟩, ⟨o2, e2, _, d2⟩⟩ := stt
    have any : c = z ∨ c = TI ∨ c = TO ∨ c = i1 ∨ c = i2 := by simpa using hc
    rcases any with q | q | q | q | q <;> subst q
    · exact ⟨_, hz, fun v q => nomatch q⟩
    · exact ⟨_, hI, fun v q => nomatch q⟩
    · exact ⟨_, hO, fun v q => nomatch q⟩
    · exact ⟨o1, e1, fun v q => by rw [d1] at q; cases q⟩
    · exact ⟨o2, e2, fun v q => by rw [d2] at q; cases q⟩
  keep := fun i h h' stt k => by
    obtain ⟨hz, hI, ⟨x, y, hO⟩, k1, k2⟩ := stt
    exact ⟨k z (by simp) _ hz, k TI (by simp) _ hI, ⟨x, y, k TO (by simp) _ hO⟩, k1.at fun o q => k i1 (by simp) o q, k2.at fun o q => k i2 (by simp) o q⟩
  item := by
    intro X hP hw hK hc i pins st σ H E J hf stt going
    subst hP hw hK
    obtain ⟨hz, hI, ⟨x0, y0, hO⟩, k1, k2⟩ := stt
    obtain ⟨hq1, hq2, l1, l2⟩ := going
    obtain ⟨its, rv, tup, _⟩ := J.tuple hq1
    obtain ⟨its2, rv2, lst, _⟩ := J.list hq2
    have len1 := rv.length
    have len2 := rv2.length
    have zl : z < st.heap.objs.size := Heap.lt_size hz
    have D1 := Draws.tuple (prog := X.prog) (w := X.w) (A := X.A.in1) (J.ok.hd hc) i1 a na its.toArray
    have D2 := Draws.list (prog := X.prog) (w := X.w) (A := X.A.in1) (J.ok.hd hc) i2 b nb its2.toArray
    refine wpAny_pyNext_zipD2_item S D1 D2 hz hI hO ⟨k1, tup⟩ ⟨k2, lst.isList⟩ (by rw [List.size_toArray]; omega) (by rw [List.size_toArray]; omega) fun u1 u2 h' tk p1 p2 out hO' s1 s2 new size kp => ?_
    refine ⟨_, rfl, wpAny_letOwnedTupleGo_zip (s := { st with heap := h', toks := tk }) out fun h'' out' sb => ?_⟩
    obtain ⟨x, hx⟩ : ∃ x, xs[i]? = some x := ⟨_, List.getElem?_eq_getElem l1⟩
    obtain ⟨y, hy⟩ : ∃ y, ys[i]? = some y := ⟨_, List.getElem?_eq_getElem l2⟩
    obtain ⟨w1, hw1, r1⟩ := rv.get hx
    obtain ⟨w2, hw2, r2⟩ := rv2.get hy
    have e1 : w1 = u1 := by
      have p1 : its.toArray[i]? = some u1 := p1
      rw [List.getElem?_toArray, hw1] at p1
      exact Option.some.inj p1
    have e2 : w2 = u2 := by
      have p2 : its2.toArray[i]? = some u2 := p2
      rw [List.getElem?_toArray, hw2] at p2
      exact Option.some.inj p2
    subst e1 e2
    have there : h''.get? st.heap.objs.size = some { cls := .type "tuple", data := .seq #[w1, w2] } := (sb.2 _ (Nat.ne_of_gt zl)).trans new
    have good : ObjOk X.prog X.w (upd H st.heap.objs.size (.tup [x, y])) h'' st.heap.objs.size (.tup [x, y]) :=
      ⟨by show 2 ≤ sizeLine; decide, [w1, w2], .cons r1 (.cons r2 .nil), ⟨_, there, rfl, _, rfl⟩⟩
    have J1 : Inv X pins σ (upd H st.heap.objs.size (.tup [x, y])) { st with heap := h'', toks := tk } :=
      J.turnedNew (ch := [z, TI, TO, i1, i2]) (fun c o hb q => (sb.2 c (fun q' => hb (by simp [q']))).trans (kp c o (fun q' => hb (by simp [q'])) (fun q' => hb (by simp [q'])) (fun q' => hb (by simp [q'])) (fun q' => hb (by simp [q'])) q)) hf (Nat.le_refl _) good
    have i1z : i1 ≠ z := fun q => S.zf1 (by simp [q])
    have i2z : i2 ≠ z := fun q => S.zf2 (by simp [q])
    refine ⟨.ref st.heap.objs.size, _, J1, rfl, ⟨_, x, y, rfl, J.hok.fresh (Nat.le_refl _), rfl, hx, hy⟩, ⟨out', ?_, ⟨w1, w2, ?_⟩, ?_, ?_⟩, fun c hcm => ?_⟩
    · exact (sb.2 _ S.TIz).trans (kp _ _ S.TIz S.TITO S.TIi1 S.TIi2 hI)
    · exact (sb.2 _ S.TOz).trans hO'
    · exact s1.1.at fun o q => (sb.2 _ i1z).trans q
    · exact s2.1.at fun o q => (sb.2 _ i2z).trans q
    · have low : c < st.heap.objs.size := by
        have any : c = z ∨ c = TI ∨ c = TO ∨ c = i1 ∨ c = i2 := by simpa using hcm
        rcases any with q | q | q | q | q
        · rw [q]; exact zl
        · rw [q]; exact Heap.lt_size hI
        · rw [q]; exact Heap.lt_size hO
        · rw [q]; obtain ⟨_, q1, _⟩ := k1; exact Heap.lt_size q1
        · rw [q]; obtain ⟨_, q2, _⟩ := k2; exact Heap.lt_size q2
      rw [upd_ne (Nat.ne_of_lt low)]
      exact (hf c hcm).1
  done := by
    intro X hP hw hK hc i pins st σ H E J hf stt over
    subst hP hw hK
    obtain ⟨hz, hI, ⟨x0, y0, hO⟩, k1, k2⟩ := stt
    obtain ⟨hq1, hq2, l1, l2, fin⟩ := over
    obtain ⟨its, rv, tup, _⟩ := J.tuple hq1
    obtain ⟨its2, rv2, lst, _⟩ := J.list hq2
    have len1 := rv.length
    have len2 := rv2.length
    have D1 := Draws.tuple (prog := X.prog) (w := X.w) (A := X.A.in1) (J.ok.hd hc) i1 a na its.toArray
    have D2 := Draws.list (prog := X.prog) (w := X.w) (A := X.A.in1) (J.ok.hd hc) i2 b nb its2.toArray
    refine wpAny_pyNext_zipD2_end S D1 D2 hz hI hO ⟨k1, tup⟩ ⟨k2, lst.isList⟩ (by rw [List.size_toArray]; omega) (by rw [List.size_toArray]; omega) (by rw [List.size_toArray, List.size_toArray]; omega) fun h' tk kp => ⟨rfl, ?_⟩
    exact J.turnedL (t' := tk) (ch := [z, TI, TO, i1, i2]) (fun c o hb q => kp c o (fun q' => hb (by simp [q'])) (fun q' => hb (by simp [q'])) (fun q' => hb (by simp [q'])) (fun q' => hb (by simp [q'])) q) hf
  self := fun A i st Q E stt now => wpAny_pyIter_zip stt.1 now
def iZipTL (K : PySem.W.Frag) (ta : TA) : TI := fun σ H R => ta σ H fun vs H1 => ∃ a b xs ys, vs = [.ref a, .ref b] ∧ SqT K H1 a xs ∧ SqL K H1 b ys ∧ R (IzTL K a b xs ys) H1
theorem pi_zipTL (K : PySem.W.Frag) {X : Cx} (hk : X.K = K) {e e2 : Expr} {ta : TA} {p pos tpos : Pos} {elts : List Expr} {kk : Nat} (hg : Gl X "zip") (hm : X.mg "zip" = none) (ha : PA X [e, e2] ta)
    (hs : starEach [e, e2] X.env = (false, eval e X.env) :: starEach [e2] X.env := by rfl) (hpl : (backTo pos (starEach [e2] X.env)).any (·.1) = false := by rfl) : PI X (.Tuple elts kk tpos) (.Call (.Name "zip" p) [e, e2] [] pos) (iZipTL K ta) := by
  subst hk
  refine ⟨fun pins st σ H R J asked => ?_⟩
  refine Call_ (ld_blt J hg hm PyProof.Rows.boot_zip (PyProof.Rows.callWith_type1 (thn (ha.run pos pins st σ H _ J asked) fun us st1 ⟨vs, H1, J1, rel, now⟩ => ?_) hs hpl))
  obtain ⟨a, b, xs, ys, ex, hq1, hq2, now⟩ := now
  subst ex
  obtain ⟨u1, u2, rfl, r1, r2⟩ := vals2 rel
  obtain rfl : u1 = Value.ref a := r1
  obtain rfl : u2 = Value.ref b := r2
  obtain ⟨its, rv, tup, _⟩ := J1.tuple hq1
  obtain ⟨its2, rv2, lst, _⟩ := J1.list hq2
  have al : a < st1.heap.objs.size := by obtain ⟨o, ho, _⟩ := id tup; exact Heap.lt_size ho
  have bl : b < st1.heap.objs.size := by obtain ⟨o, ho, _⟩ := id lst.isList; exact Heap.lt_size ho
  refine zip_begins2 (begins_tuple a its.toArray) (begins_list b its2.toArray) tup lst.isList fun h' hz hI hO g1 g2 size kp => wpAny_pyIter_zip hz ?_
  have J2 : Inv X pins σ H1 { st1 with heap := h' } := J1.kept (t' := st1.toks) kp
  generalize hn : st1.heap.objs.size = n at *
  have S : ZipSep2 (n + 4) (n + 2) (n + 3) n (n + 1) [n, a] [n + 1, b] :=
    zip_sep2 (fun c hc => by rw [List.mem_singleton.mp hc]; exact al) (fun c hc => by rw [List.mem_singleton.mp hc]; exact bl)
  refine ⟨n + 4, [n + 4, n + 2, n + 3, n, n + 1], _, _, H1, rfl, J2, turn_zipTL S (Nat.ne_of_lt al) (Nat.ne_of_lt (Nat.lt_succ_of_lt bl)) xs ys, ⟨hz, hI, ⟨_, _, hO⟩, ⟨_, g1, rfl, rfl⟩, ⟨_, g2, rfl, rfl⟩⟩, fun c hcm => ?_, now⟩
  have low : n ≤ c := by
    have any : c = n + 4 ∨ c = n + 2 ∨ c = n + 3 ∨ c = n ∨ c = n + 1 := by simpa using hcm
    rcases any with q | q | q | q | q <;> rw [q]
    · exact Nat.le_add_right ..
    · exact Nat.le_add_right ..
    · exact Nat.le_add_right ..
    · exact Nat.le_refl _
    · exact Nat.le_add_right ..
  rw [← hn] at low
  exact J1.fpOk low (J1.hok.fresh low)
/-! ### for x, y in zip(l, t), l a list, t a tuple -/
def IzLT (K : PySem.W.Frag) (a b : Addr) (xs ys : List V) : It :=
  ⟨fun i H => SqL K H a xs ∧ SqT K H b ys ∧ i < xs.length ∧ i < ys.length, fun i H v H' => ∃ T x y, v = .ref T ∧ H T = none ∧ H' = upd H T (.tup [x, y]) ∧ xs[i]? = some x ∧ ys[i]? = some y, fun i H => SqL K H a xs ∧ SqT K H b ys ∧ i ≤ xs.length ∧ i ≤ ys.length ∧ (i = xs.length ∨ i = ys.length)⟩
theorem turn_zipLT {P : Program} {w : World} {K : PySem.W.Frag} {elts : List Expr} {kk : Nat} {tpos : Pos} {a b z TI TO i1 i2 : Addr} (S : ZipSep2 z TI TO i1 i2 [i1, a] [i2, b]) (na : a ≠ i1) (nb : b ≠ i2) (xs ys : List V) :
    Turn P w K (.Tuple elts kk tpos) (IzLT K a b xs ys) [z, TI, TO, i1, i2] z (fun i h => IsZip h z TI TO .none ∧ IsTupOf2 h TI (.ref i1) (.ref i2) ∧ (∃ x y, IsTupOf2 h TO x y) ∧ h.IsListIter i1 a i ∧ h.IsTupleIter i2 b i) where
  mem := by simp
  obj := fun i h stt c hc => by
    obtain ⟨hz, hI, ⟨x, y, hO⟩, ⟨o1, e1, _, d1⟩, ⟨o2, e2, _, d2⟩⟩ := stt
    have any : c = z ∨ c = TI ∨ c = TO ∨ c = i1 ∨ c = i2 := by simpa using hc
    rcases any with q | q | q | q | q <;> subst q
    · exact ⟨_, hz, fun v q => nomatch q⟩
    · exact ⟨_, hI, fun v q => nomatch q⟩
    · exact ⟨_, hO, fun v q => nomatch q⟩
    · exact ⟨o1, e1, fun v q => by rw [d1] at q; cases q⟩
    · exact ⟨o2, e2, fun v q => by rw [d2] at q; cases q⟩
  keep := fun i h h' stt k => by
    obtain ⟨hz, hI, ⟨x, y, hO⟩, k1, k2⟩ := stt
    exact ⟨k z (by simp) _ hz, k TI (by simp) _ hI, ⟨x, y, k TO (by simp) _ hO⟩, k1.at fun o q => k i1 (by simp) o q, k2.at fun o q => k i2 (by simp) o q⟩
  item := by
    intro X hP hw hK hc i pins st σ H E J hf stt going
    subst hP hw hK
    obtain ⟨hz, hI, ⟨x0, y0, hO⟩, k1, k2⟩ := stt
    obtain ⟨hq1, hq2, l1, l2⟩ := going
    obtain ⟨its, rv, lst, _⟩ := J.list hq1
    obtain ⟨its2, rv2, tup, _⟩ := J.tuple hq2
    have len1 := rv.length
    have len2 := rv2.length
    have zl : z < st.heap.objs.size := Heap.lt_size hz
    have D1 := Draws.list (prog := X.prog) (w := X.w) (A := X.A.in1) (J.ok.hd hc) i1 a na its.toArray
    have D2 := Draws.tuple (prog := X.prog) (w := X.w) (A := X.A.in1) (J.ok.hd hc) i2 b nb its2.toArray
    refine wpAny_pyNext_zipD2_item S D1 D2 hz hI hO ⟨k1, lst.isList⟩ ⟨k2, tup⟩ (by rw [List.size_toArray]; omega) (by rw [List.size_toArray]; omega) fun u1 u2 h' tk p1 p2 out hO' s1 s2 new size kp => ?_
    refine ⟨_, rfl, wpAny_letOwnedTupleGo_zip (s := { st with heap := h', toks := tk }) out fun h'' out' sb => ?_⟩
    obtain ⟨x, hx⟩ : ∃ x, xs[i]? = some x := ⟨_, List.getElem?_eq_getElem l1⟩
    obtain ⟨y, hy⟩ : ∃ y, ys[i]? = some y := ⟨_, List.getElem?_eq_getElem l2⟩
    obtain ⟨w1, hw1, r1⟩ := rv.get hx
    obtain ⟨w2, hw2, r2⟩ := rv2.get hy
    have e1 : w1 = u1 := by
      have p1 : its.toArray[i]? = some u1 := p1
      rw [List.getElem?_toArray, hw1] at p1
      exact Option.some.inj p1
    have e2 : w2 = u2 := by
      have p2 : its2.toArray[i]? = some u2 := p2
      rw [List.getElem?_toArray, hw2] at p2
      exact Option.some.inj p2
    subst e1 e2
    have there : h''.get? st.heap.objs.size = some { cls := .type "tuple", data := .seq #[w1, w2] } := (sb.2 _ (Nat.ne_of_gt zl)).trans new
    have good : ObjOk X.prog X.w (upd H st.heap.objs.size (.tup [x, y])) h'' st.heap.objs.size (.tup [x, y]) :=
      ⟨by show 2 ≤ sizeLine; decide, [w1, w2], .cons r1 (.cons r2 .nil), ⟨_, there, rfl, _, rfl⟩⟩
    have J1 : Inv X pins σ (upd H st.heap.objs.size (.tup [x, y])) { st with heap := h'', toks := tk } :=
      J.turnedNew (ch := [z, TI, TO, i1, i2]) (fun c o hb q => (sb.2 c (fun q' => hb (by simp [q']))).trans (kp c o (fun q' => hb (by simp [q'])) (fun q' => hb (by simp [q'])) (fun q' => hb (by simp [q'])) (fun q' => hb (by simp [q'])) q)) hf (Nat.le_refl _) good
    have i1z : i1 ≠ z := fun q => S.zf1 (by simp [q])
    have i2z : i2 ≠ z := fun q => S.zf2 (by simp [q])
    refine ⟨.ref st.heap.objs.size, _, J1, rfl, ⟨_, x, y, rfl, J.hok.fresh (Nat.le_refl _), rfl, hx, hy⟩, ⟨out', ?_, ⟨w1, w2, ?_⟩, ?_, ?_⟩, fun c hcm => ?_⟩
    · exact (sb.2 _ S.TIz).trans (kp _ _ S.TIz S.TITO S.TIi1 S.TIi2 hI)
    · exact (sb.2 _ S.TOz).trans hO'
    · exact s1.1.at fun o q => (sb.2 _ i1z).trans q
    · exact s2.1.at fun o q => (sb.2 _ i2z).trans q
    · have low : c < st.heap.objs.size := by
        have any : c = z ∨ c = TI ∨ c = TO ∨ c = i1 ∨ c = i2 := by simpa using hcm
        rcases any with q | q | q | q | q
        · rw [q]; exact zl
        · rw [q]; exact Heap.lt_size hI
        · rw [q]; exact Heap.lt_size hO
        · rw [q]; obtain ⟨_, q1, _⟩ := k1; exact Heap.lt_size q1
        · rw [q]; obtain ⟨_, q2, _⟩ := k2; exact Heap.lt_size q2
      rw [upd_ne (Nat.ne_of_lt low)]
      exact (hf c hcm).1
  done := by
    intro X hP hw hK hc i pins st σ H E J hf stt over
    subst hP hw hK
    obtain ⟨hz, hI, ⟨x0, y0, hO⟩, k1, k2⟩ := stt
    obtain ⟨hq1, hq2, l1, l2, fin⟩ := over
    obtain ⟨its, rv, lst, _⟩ := J.list hq1
    obtain ⟨its2, rv2, tup, _⟩ := J.tuple hq2
    have len1 := rv.length
    have len2 := rv2.length
    have D1 := Draws.list (prog := X.prog) (w := X.w) (A := X.A.in1) (J.ok.hd hc) i1 a na its.toArray
    have D2 := Draws.tuple (prog := X.prog) (w := X.w) (A := X.A.in1) (J.ok.hd hc) i2 b nb its2.toArray
    refine wpAny_pyNext_zipD2_end S D1 D2 hz hI hO ⟨k1, lst.isList⟩ ⟨k2, tup⟩ (by rw [List.size_toArray]; omega) (by rw [List.size_toArray]; omega) (by rw [List.size_toArray, List.size_toArray]; omega) fun h' tk kp => ⟨rfl, ?_⟩
    exact J.turnedL (t' := tk) (ch := [z, TI, TO, i1, i2]) (fun c o hb q => kp c o (fun q' => hb (by simp [q'])) (fun q' => hb (by simp [q'])) (fun q' => hb (by simp [q'])) (fun q' => hb (by simp [q'])) q) hf
  self := fun A i st Q E stt now => wpAny_pyIter_zip stt.1 now
def iZipLT (K : PySem.W.Frag) (ta : TA) : TI := fun σ H R => ta σ H fun vs H1 => ∃ a b xs ys, vs = [.ref a, .ref b] ∧ SqL K H1 a xs ∧ SqT K H1 b ys ∧ R (IzLT K a b xs ys) H1
theorem pi_zipLT (K : PySem.W.Frag) {X : Cx} (hk : X.K = K) {e e2 : Expr} {ta : TA} {p pos tpos : Pos} {elts : List Expr} {kk : Nat} (hg : Gl X "zip") (hm : X.mg "zip" = none) (ha : PA X [e, e2] ta)
    (hs : starEach [e, e2] X.env = (false, eval e X.env) :: starEach [e2] X.env := by rfl) (hpl : (backTo pos (starEach [e2] X.env)).any (·.1) = false := by rfl) : PI X (.Tuple elts kk tpos) (.Call (.Name "zip" p) [e, e2] [] pos) (iZipLT K ta) := by
  subst hk
  refine ⟨fun pins st σ H R J asked => ?_⟩
  refine Call_ (ld_blt J hg hm PyProof.Rows.boot_zip (PyProof.Rows.callWith_type1 (thn (ha.run pos pins st σ H _ J asked) fun us st1 ⟨vs, H1, J1, rel, now⟩ => ?_) hs hpl))
  obtain ⟨a, b, xs, ys, ex, hq1, hq2, now⟩ := now
  subst ex
  obtain ⟨u1, u2, rfl, r1, r2⟩ := vals2 rel
  obtain rfl : u1 = Value.ref a := r1
  obtain rfl : u2 = Value.ref b := r2
  obtain ⟨its, rv, lst, _⟩ := J1.list hq1
  obtain ⟨its2, rv2, tup, _⟩ := J1.tuple hq2
  have al : a < st1.heap.objs.size := by obtain ⟨o, ho, _⟩ := id lst.isList; exact Heap.lt_size ho
  have bl : b < st1.heap.objs.size := by obtain ⟨o, ho, _⟩ := id tup; exact Heap.lt_size ho
  refine zip_begins2 (begins_list a its.toArray) (begins_tuple b its2.toArray) lst.isList tup fun h' hz hI hO g1 g2 size kp => wpAny_pyIter_zip hz ?_
  have J2 : Inv X pins σ H1 { st1 with heap := h' } := J1.kept (t' := st1.toks) kp
  generalize hn : st1.heap.objs.size = n at *
  have S : ZipSep2 (n + 4) (n + 2) (n + 3) n (n + 1) [n, a] [n + 1, b] :=
    zip_sep2 (fun c hc => by rw [List.mem_singleton.mp hc]; exact al) (fun c hc => by rw [List.mem_singleton.mp hc]; exact bl)
  refine ⟨n + 4, [n + 4, n + 2, n + 3, n, n + 1], _, _, H1, rfl, J2, turn_zipLT S (Nat.ne_of_lt al) (Nat.ne_of_lt (Nat.lt_succ_of_lt bl)) xs ys, ⟨hz, hI, ⟨_, _, hO⟩, ⟨_, g1, rfl, rfl⟩, ⟨_, g2, rfl, rfl⟩⟩, fun c hcm => ?_, now⟩
  have low : n ≤ c := by
    have any : c = n + 4 ∨ c = n + 2 ∨ c = n + 3 ∨ c = n ∨ c = n + 1 := by simpa using hcm
    rcases any with q | q | q | q | q <;> rw [q]
    · exact Nat.le_add_right ..
    · exact Nat.le_add_right ..
    · exact Nat.le_add_right ..
    · exact Nat.le_refl _
    · exact Nat.le_add_right ..
  rw [← hn] at low
  exact J1.fpOk low (J1.hok.fresh low)
/-! ### for i, x in enumerate(t), t a tuple -/
section
open Sem (wp)
open AutoSeq1 (wpAny_loadPart')
theorem enum_of_tup (t : Addr) (its : Array Value) (n : Nat) (dct : Option Addr) (sl : Array (Option Value)) :
    Meets (Builtin.«enumerate.__new__» ⟨[.type "enumerate", .ref t], []⟩) (fun _ R st => st.heap.get? t = some { cls := .type "tuple", dict := dct, data := .seq its n, slots := sl } ∧
      R (.ok (.ret (.ref (st.heap.push { cls := .type "tuple_iterator", data := .fields #[.ref t, .int 0 0] }).objs.size)))
        { st with heap := (st.heap.push { cls := .type "tuple_iterator", data := .fields #[.ref t, .int 0 0] }).push { cls := .type "enumerate", data := .fields #[.none, .bool false, .ref st.heap.objs.size, rawInt 0, .none, .none] } }) :=
  .of_wp fun prog w A R st asked => by
    obtain ⟨hp, g, d, tk, os⟩ := st; obtain ⟨at_, asked⟩ := asked
    have sub := sub_enumerate
    have hT : Heap.IsTuple (Shared.heap ⟨hp, g, d, tk, os⟩) t its := ⟨_, at_, rfl, n, rfl⟩
    wp_walk using wpAny_loadPart' at_
    refine wpAny_stack_any fun stk => wpAny_pure ?_
    split
    · rename_i c _ _ _ _ _
      cases (c == Value.type "enumerate")
      · wp_walk using wpAny_loadPart' at_, wpAny_pyIter_tuple hT
        exact ⟨_, rfl, asked⟩
      · wp_walk using wpAny_loadPart' at_, wpAny_pyIter_tuple hT
        exact ⟨_, rfl, asked⟩
    · wp_walk using wpAny_loadPart' at_, wpAny_pyIter_tuple hT
      exact ⟨_, rfl, asked⟩
theorem call_enum_tup {prog : Program} {w : World} {A : Around} {E : Value → Shared → Prop} {st : Shared} {t : Addr} {its : Array Value} {Q : Value → Shared → Prop} (hT : st.heap.IsTuple t its)
    (now : ∀ h', IsEnum h' (st.heap.objs.size + 1) st.heap.objs.size 0 .none → h'.IsTupleIter st.heap.objs.size t 0 → h'.objs.size = st.heap.objs.size + 2 →
      (∀ b o, st.heap.get? b = some o → h'.get? b = some o) → Q (.ref (st.heap.objs.size + 1)) { st with heap := h' }) :
    wpAny (model prog w) A (call (.type "enumerate") [.ref t]) Q E st := by
  obtain ⟨⟨c, dct, dt, sl⟩, at_, hc, n, hd⟩ := hT
  replace hc : c = .type "tuple" := hc
  replace hd : dt = .seq its n := hd
  subst hc hd
  refine callType_new F.called_enumerate (by decide) (F.typeCall_enumerate_1 _) (F.newCall_enumerate_1 _) (fun obj => F.args_object_init_2 obj _) F.entry_enumerate_new (enum_of_tup t its n dct sl) ⟨at_, ?_⟩
  have size1 : (st.heap.push { cls := .type "tuple_iterator", data := .fields #[.ref t, .int 0 0] }).objs.size = st.heap.objs.size + 1 := Heap.size_push ..
  show _ ∧ _
  rw [size1]
  have made := Heap.get?_push_size (st.heap.push { cls := .type "tuple_iterator", data := .fields #[.ref t, .int 0 0] }) (o := { cls := .type "enumerate", data := .fields #[.none, .bool false, .ref st.heap.objs.size, rawInt 0, .none, .none] }) rfl
  rw [size1] at made
  exact ⟨⟨_, made, rfl⟩, now _ made ⟨_, Heap.get?_push_of_some _ (Heap.get?_push_size _ rfl), rfl, rfl⟩ (by rw [Heap.size_push, size1]) fun b o e => Heap.get?_push_of_some _ (Heap.get?_push_of_some _ e)⟩
end
/-- the tuple at a, each item in a new pair -/
def IteT (K : PySem.W.Frag) (a : Addr) (xs : List V) : It :=
  ⟨fun i H => SqT K H a xs ∧ i < xs.length, fun i H v H' => ∃ T x, v = .ref T ∧ H T = none ∧ H' = upd H T (.tup [.int (i : Nat), x]) ∧ xs[i]? = some x, fun i H => SqT K H a xs ∧ i = xs.length⟩
theorem turn_enumT {P : Program} {w : World} {K : PySem.W.Frag} {elts : List Expr} {kk : Nat} {tpos : Pos} (a e it : Addr) (xs : List V) :
    Turn P w K (.Tuple elts kk tpos) (IteT K a xs) [e, it] e (fun i h => (∃ old, IsEnum h e it ((i : Nat) : Int) old) ∧ h.IsTupleIter it a i ∧ e ≠ it ∧ a ≠ it ∧ a ≠ e) where
  mem := by simp
  obj := fun i h st b hb => by
    obtain ⟨⟨old, he⟩, ⟨o, ho, hc, hd⟩, _⟩ := st
    have either : b = e ∨ b = it := by simpa using hb
    rcases either with z | z
    · rw [z]; exact ⟨_, he, fun v q => nomatch q⟩
    · rw [z]; exact ⟨o, ho, fun v q => by rw [hd] at q; cases q⟩
  keep := fun i h h' st k => let ⟨⟨old, he⟩, hi, apart⟩ := st; ⟨⟨old, k e (by simp) _ he⟩, hi.at fun o q => k it (by simp) o q, apart⟩
  item := by
    intro X hP hw hK hc i pins st σ H E J hf stt going
    subst hP hw hK
    obtain ⟨⟨old, he⟩, hit, n1, n2, n3⟩ := stt
    obtain ⟨hq, hi⟩ := going
    obtain ⟨its, rv, tup, hz⟩ := J.tuple hq
    have len := rv.length
    have el : e < st.heap.objs.size := Heap.lt_size he
    have il : it < st.heap.objs.size := by obtain ⟨_, q, _⟩ := hit; exact Heap.lt_size q
    have D := Draws.tuple (prog := X.prog) (w := X.w) (A := X.A.in1) (J.ok.hd hc) it a n2 its.toArray
    refine wpAny_pyNext_enum_itemD D he ⟨hit, tup⟩ (by rw [List.size_toArray]; omega) n1 (by simp [n1, n3.symm]) fun u h' tk px out stt' new size kp => ?_
    refine ⟨_, rfl, wpAny_letOwnedTupleGo_enum (s := { st with heap := h', toks := tk + 1 }) out fun h'' he' sb => ?_⟩
    obtain ⟨x, hx⟩ : ∃ x, xs[i]? = some x := ⟨_, List.getElem?_eq_getElem hi⟩
    obtain ⟨u', hu', ru⟩ := rv.get hx
    have eu : u' = u := by
      have px : its.toArray[i]? = some u := px
      rw [List.getElem?_toArray, hu'] at px
      exact Option.some.inj px
    subst eu
    have there : h''.get? st.heap.objs.size = some { cls := .type "tuple", data := .seq #[.int i tk, u'] } := (sb.2 _ (Nat.ne_of_gt el)).trans new
    have ok2 : ObjOk X.prog X.w (upd H st.heap.objs.size (.tup [.int (i : Nat), x])) h'' st.heap.objs.size (.tup [.int (i : Nat), x]) :=
      ⟨by show 2 ≤ sizeLine; decide, [.int i tk, u'], .cons ⟨_, rfl⟩ (.cons ru .nil), ⟨_, there, rfl, _, rfl⟩⟩
    have J1 : Inv X pins σ (upd H st.heap.objs.size (.tup [.int (i : Nat), x])) { st with heap := h'', toks := tk + 1 } :=
      J.turnedNew (ch := [e, it]) (fun b ob hb q => (sb.2 b (fun z => hb (by simp [z]))).trans (kp b ob (fun z => hb (by simp [z])) (fun z => hb (by simp [z])) q)) hf (Nat.le_refl _) ok2
    refine ⟨.ref st.heap.objs.size, _, J1, rfl, ⟨_, x, rfl, J.hok.fresh (Nat.le_refl _), rfl, hx⟩, ⟨⟨u', ?_⟩, stt'.1.at fun o q => (sb.2 it (Ne.symm n1)).trans q, n1, n2, n3⟩, fun b hb => ?_⟩
    · rw [show ((i + 1 : Nat) : Int) = (i : Int) + 1 by omega]
      exact he'
    · have bl : b < st.heap.objs.size := by
        have either : b = e ∨ b = it := by simpa using hb
        rcases either with z | z
        · rw [z]; exact el
        · rw [z]; exact il
      rw [upd_ne (Nat.ne_of_lt bl)]
      exact (hf b hb).1
  done := by
    intro X hP hw hK hc i pins st σ H E J hf stt over
    subst hP hw hK
    obtain ⟨⟨old, he⟩, hit, n1, n2, n3⟩ := stt
    obtain ⟨hq, hi⟩ := over
    obtain ⟨its, rv, tup, hz⟩ := J.tuple hq
    obtain ⟨f0, f1, f2, f3, f4, f5⟩ := hf it (by simp)
    have len := rv.length
    have D := Draws.tuple (prog := X.prog) (w := X.w) (A := X.A.in1) (J.ok.hd hc) it a n2 its.toArray
    have ei : its.toArray.size = i := by rw [List.size_toArray]; omega
    exact wpAny_pyNext_enum_endD D he ⟨by rw [ei]; exact hit, tup⟩ fun h' eb => ⟨rfl, J.turned (t' := st.toks) (fun b o hb q => eb b o hb q) f0 f1 f3 f4 f5⟩
  self := fun A i st Q E stt now => let ⟨⟨_, he⟩, _⟩ := stt; wpAny_pyIter_enum he now
def iEnumT (K : PySem.W.Frag) (ta : TA) : TI := fun σ H R => ta σ H fun vs H1 => ∃ a xs, vs = [.ref a] ∧ SqT K H1 a xs ∧ R (IteT K a xs) H1
theorem pi_enumT (K : PySem.W.Frag) {X : Cx} (hk : X.K = K) {e : Expr} {ta : TA} {p pos tpos : Pos} {elts : List Expr} {kk : Nat} (hg : Gl X "enumerate") (hm : X.mg "enumerate" = none) (ha : PA X [e] ta) (hs : starEach [e] X.env = [(false, eval e X.env)] := by rfl) :
    PI X (.Tuple elts kk tpos) (.Call (.Name "enumerate" p) [e] [] pos) (iEnumT K ta) := by
  subst hk
  refine ⟨fun pins st σ H R J asked => ?_⟩
  refine Call_ (ld_blt J hg hm boot_enumerate (PyProof.Rows.callWith_type1 (thn (ha.run pos pins st σ H _ J asked) fun us st1 ⟨vs, H1, J1, rel, now⟩ => ?_) hs rfl))
  obtain ⟨a, xs, ex, hq, now⟩ := now
  subst ex
  obtain ⟨u, rfl, ru⟩ := vals1 rel
  obtain rfl : u = Value.ref a := ru
  obtain ⟨its, rv, tup, hz⟩ := J1.tuple hq
  have al : a < st1.heap.objs.size := by obtain ⟨o, ho, _⟩ := tup; exact Heap.lt_size ho
  refine call_enum_tup tup fun h' he hit size kp => wpAny_pyIter_enum he ?_
  have J2 : Inv X pins σ H1 { st1 with heap := h' } := J1.kept (t' := st1.toks) kp
  refine ⟨st1.heap.objs.size + 1, [st1.heap.objs.size + 1, st1.heap.objs.size], _, _, H1, rfl, J2, turn_enumT a (st1.heap.objs.size + 1) st1.heap.objs.size xs, ⟨⟨.none, he⟩, hit, Nat.succ_ne_self _, Nat.ne_of_lt al, Nat.ne_of_lt (Nat.lt_succ_of_lt al)⟩, fun b hb => ?_, now⟩
  have either : b = st1.heap.objs.size + 1 ∨ b = st1.heap.objs.size := by simpa using hb
  have low : st1.heap.objs.size ≤ b := by
    rcases either with z | z
    · rw [z]; exact Nat.le_add_right _ _
    · rw [z]; exact Nat.le_refl _
  exact J1.fpOk low (J1.hok.fresh low)
section
variable {X : Cx}
theorem pi_enumK (K : PySem.W.Frag) (h : X.K = K) {e : Expr} {ta : TA} {p pos tpos : Pos} {elts : List Expr} {kk : Nat} (hg : Gl X "enumerate") (hm : X.mg "enumerate" = none) (ha : PA X [e] ta) (hs : starEach [e] X.env = [(false, eval e X.env)] := by rfl) :
    PI X (.Tuple elts kk tpos) (.Call (.Name "enumerate" p) [e] [] pos) (iEnum K ta) := by subst h; exact pi_enum hg hm ha hs
/-- how often the data stands in the list -/
def rCountD (K : PySem.W.Frag) : V → List V → Hp → VK → Prop := fun x xs H Q => ∃ (l : Addr) (y : V) (vs : List V) (d : PyData) (ds : List PyData), x = .ref l ∧ xs = [y] ∧ SqL K H l vs ∧ DpAll K H vs ds ∧ Dp K H y d ∧
  PyData.plainAll ds = true ∧ d.plain = true ∧ d.depth ≤ 60 ∧ Q (.int ((ds.countP fun z => PyData.eqv z d : Nat) : Int)) H
theorem mt_countDK (K : PySem.W.Frag) (same : X.K = K) (room : X.A.units + 65 < cLine) : MtR X "list.count" (rCountD K) := by
  subst same
  intro pins st σ H o given ov gv Q J ro rg asked
  obtain ⟨l, y, vs, d, ds, rfl, rfl, onL, dpL, dpY, plL, plY, deep, done⟩ := asked
  cases ro
  obtain ⟨yv, rfl, ry⟩ := rg.one
  have ⟨ys, readY⟩ := Dp.reads J d y yv dpY ry
  have ⟨its, rels, isL, _⟩ := J.list onL
  have ⟨as, readL⟩ := Dp.readsAll J ds vs its dpL rels
  have few := Nat.min_le_right (PyData.depthAll ds) d.depth
  exact SeqAt.count_list_data (vs := its.toArray) isL.isList (show ReadsAll st.heap its.toArray.toList ds as from readL) readY plL plY (by omega) ⟨.int (ds.countP fun z => PyData.eqv z d : Nat), H, J.tok _, ⟨st.toks, rfl⟩, done⟩
end
theorem one_at {K : PySem.W.Frag} {a : Addr} {od : Option Addr} {z : Str} {t1 : Tok} {n : Nat} {sl : Array (Option Value)} (l : K.lookup a = some ⟨.type "tuple", od, .seq #[.str z t1] n, sl⟩) (H : Hp) : SqT K H a [.str z] :=
  .inr ⟨_, _, _, l, rfl, rfl, (show 1 ≤ sizeLine by decide), .cons ⟨_, rfl⟩ .nil⟩
/-! ### how many things a set of equal numbers has -/
theorem firstMet_rep (c : Int) (n : Nat) : ∀ i, i ≤ n → PyProof.Rows.firstMet (fun j => (List.replicate n c).getD j 0) i = List.replicate (min 1 i) c
  | 0, _ => rfl
  | i + 1, h => by
    have e : (List.replicate n c).getD i 0 = c := by
      rw [List.getD_eq_getElem?_getD, List.getElem?_replicate, if_pos (by omega)]
      rfl
    have ih := firstMet_rep c n i (by omega)
    rw [PyProof.Rows.firstMet_succ, ih]
    show PyProof.Rows.step_dedup _ ((List.replicate n c).getD i 0) = _
    rw [e]
    unfold PyProof.Rows.step_dedup
    cases i with
    | zero => rfl
    | succ j =>
      rw [show min 1 (j + 1) = 1 by omega, show min 1 (j + 1 + 1) = 1 by omega]
      simp
theorem ints_of_vals {c : Int} : ∀ {n : Nat} {us : List Value}, Vals (List.replicate n (V.int c)) us → PyProof.Rows.IntsAre us (List.replicate n c)
  | 0, _, .nil => .nil
  | n + 1, _, .cons r t => by
    obtain ⟨k, rfl⟩ := r
    exact .cons c k (ints_of_vals t)
def tLenSetE (K : PySem.W.Frag) (ta : TE) : TE := fun σ H Q => ta σ H fun x H1 => ∃ (l : Addr) (c : Int) (n : Nat), x = .ref l ∧ SqL K H1 l (List.replicate n (V.int c)) ∧ n ≤ 100 ∧ Q (.int ((min 1 n : Nat) : Int)) H1
theorem pe_lenSetE (K : PySem.W.Frag) {X : Cx} (same : X.K = K) {a : Expr} {ta : TE} {p p2 q pos : Pos} (hg : Gl X "len") (hm : X.mg "len" = none) (hg2 : Gl X "set") (hm2 : X.mg "set" = none) (ha : PE X a ta) (hc : X.calm = true := by rfl)
    (na : starEach [a] X.env = (false, eval a X.env) :: starEach [] X.env := by rfl) : PE X (.Call (.Name "len" p) [.Call (.Name "set" p2) [a] [] q] [] pos) (tLenSetE K ta) := by
  subst same
  constructor
  intro pins s σ H Q I h
  refine Call_
    (ld_blt I hg hm boot_len ?_)
  refine PyProof.Rows.callWith_builtin1
    (PyProof.Rows.args_cons ?_ rfl) rfl rfl
  refine Call_
    (ld_blt I hg2 hm2 boot_set ?_)
  refine PyProof.Rows.callWith_type1
    (PyProof.Rows.args_cons (thn (ha.run pins s σ H _ I h) ?_) na) na rfl
  rintro v s1 ⟨x, H1, I1, r1, l, c, n, rfl, hq, hl, q1⟩
  refine PyProof.Rows.args_nil ?_
  cases r1
  have ⟨its, r, pl, _⟩ := I1.list hq
  have big : its.toArray.size = n := by rw [List.size_toArray, ← r.length, List.length_replicate]
  refine call_set_list (ns := List.replicate n c) (I1.ok.hd hc) pl.isList (by simpa using ints_of_vals r) (by unfold scanBound; omega) ?_
  intro h' tk hS hk
  refine PyProof.Rows.args_nil ?_
  rw [big, firstMet_rep c n n (Nat.le_refl n)] at hS
  have ⟨o, es, ep, t, ho, hex, hd, _, _, _, hf, hn⟩ := hS
  have I2 : Inv X pins σ H1 { s1 with heap := h', toks := tk } := I1.kept fun b o e => hk b o (Heap.lt_size e) e
  rw [List.length_replicate] at hn
  refine call_len_set ho hex hd hf (by rw [hn]; omega) ?_
  exact ⟨.int ((min 1 n : Nat) : Int), H1, I2.tok _, ⟨_, by rw [hn]⟩, q1⟩
section
variable {P : Program} {w : World} {K : PySem.W.Frag} {mg : Str → Option Value} {base : Heap}
def sp_law_flow (K : PySem.W.Frag) : Sp := fun vs H Q _ => ∃ (a : Addr) (ns : List Int), vs = [.ref a] ∧ SqL K H a (ns.map V.int) ∧ ∀ (f c : Addr) (H' : Hp), H f = none → H c = none → Flow H' f c → Same H H' → Q (.ref f) H'
theorem ok_law_flow {f : Addr} {fd : FuncData} (F : Fun K "_law_flow" "_law_flow" s_law_flow f fd) (T : Top K mg) : FnOk P w K mg base CX0 1 f fd ["_law_script"] (sp_law_flow K) := by
  refine F.ok sc_law_flow (fun vs H Q E h => ?_) (fun cdv A outer s H vs Q E hr h => ?_)
  · obtain ⟨a, ns, rfl, _⟩ := h
    rfl
  obtain ⟨a, ns, rfl, hS, q⟩ := h
  refine ⟨_, (pss_one (ps_ret (pe_lst (pa_cons (pe_callTy (call_list_ofK K rfl) (by rfl) T.m_list (by decide +kernel) (pa_cons (pv 0) pa_nil)) (pa_cons pe_int (pa_cons pe_int (pa_cons pe_int (pa_cons pe_int pa_nil)))))))), ?_⟩
  refine ⟨_, rfl, a, _, rfl, .inl hS, fun c hc => ?_⟩
  refine ⟨(by show 5 ≤ sizeLine; decide), fun f hf => ?_⟩
  have nf : H f = none := by
    cases e : H f with
    | none => rfl
    | some o => rw [same_new hc _ _ e] at hf; cases hf
  have s1 := same_new (o := .lst (ns.map V.int)) hc
  refine q f c _ nf hc ⟨ns, 0, 0, 1, 0, upd_same, same_new hf _ _ upd_same, by decide, by decide, by decide, by decide⟩ fun b o e => same_new hf _ _ (s1 _ _ e)
def sp_law_pick (K : PySem.W.Frag) : Sp := fun vs H Q _ => ∃ (f c : Addr) (m : Int), vs = [.ref f, .int m] ∧ 0 < m ∧ m.natAbs.log2 < 9000 ∧ Flow H f c ∧
  ∀ (v : Int) (H' : Hp), 0 ≤ v → v < m → Flow H' f c → But f H H' → Q (.int v) H'
theorem ok_law_pick {f : Addr} {fd : FuncData} (F : Fun K "_law_pick" "_law_pick" s_law_pick f fd) (T : Top K mg) : FnOk P w K mg base CX0 1 f fd ["_law_flow_here", "_law_many"] (sp_law_pick K) := by
  refine F.ok sc_law_pick (fun vs H Q E h => ?_) (fun cdv A outer s H vs Q E hr h => ?_)
  · obtain ⟨f, c, m, rfl, _⟩ := h
    rfl
  obtain ⟨f, c, m, rfl, m0, m9, hF, q⟩ := h
  obtain ⟨ns, i, p, z, r, hf, hc, hi, hp, hz, hz2⟩ := hF
  have ncf : c ≠ f := ne_of hc hf (by intro e; injection e with e; cases ns with | nil => cases e | cons x l => cases e)
  let R1 : TS := fun D' σ' H' => D'.rt = Q ∧ ∃ x2 : Option V, σ' = [some (.ref f), some (.int m), x2, none] ∧ (∃ (i p z r : Int), H' f = some (.lst [.ref c, .int i, .int p, .int z, .int r]) ∧ H' c = some (.lst (ns.map V.int)) ∧ 0 ≤ i ∧ 0 ≤ p ∧ 0 ≤ z ∧ z < 2147483647) ∧ But f H H'
  refine ⟨_, (pss_cons (ps_if (PW.pt (pw_and (pt_cmpR op_eq (pe_ix (ix_listK K rfl) (pv 0) pe_int (fun _ _ => rfl)) pe_int (nomark _)) (pw_and1 (pt_cmpR op_lt (pe_ix (ix_listK K rfl) (pv 0) pe_int (fun _ _ => rfl)) (pe_callB (call_len_seqK K rfl) (by rfl) T.m_len (by decide +kernel) (pa_cons (pe_ix (ix_listK K rfl) (pv 0) pe_int (fun _ _ => rfl)) pa_nil)) (nomark _))))) (pss_cons (ps_set (i := 2) sc_law_pick.nd rfl (Or.inl rfl) (pe_ix (ix_listK K rfl) (pe_ix (ix_listK K rfl) (pv 0) pe_int (fun _ _ => rfl)) (pe_ix (ix_listK K rfl) (pv 0) pe_int (fun _ _ => rfl)) (fun _ _ => rfl)))
      (pss_cons (ps_asg (pe_op op_add (pe_ix (ix_listK K rfl) (pv 0) pe_int (fun _ _ => rfl)) pe_int) (pg_sub (pv 0) pe_int set_list))
      (pss_one (ps_if (pt_cmpR op_ge (pv 2) (pe_op op_pow pe_int pe_int) (nomark _)) (pss_one (ps_asg (pv 2) (pg_sub (pv 0) pe_int set_list))) (pss_one (ps_asg (pe_op op_mod (pe_op op_add (pe_op op_add (pe_op op_mul (pe_ix (ix_listK K rfl) (pv 0) pe_int (fun _ _ => rfl)) pe_int) (pe_op op_mod (pv 2) pe_int)) pe_int) pe_int) (pg_sub (pv 0) pe_int set_list))))))) pss_nil)
      (PSs.to (pss_cons (ps_if (pt_cmpR op_gt (pe_ix (ix_listK K rfl) (pv 0) pe_int (fun _ _ => rfl)) pe_int (nomark _)) (pss_cons (ps_set (i := 3) sc_law_pick.nd rfl (Or.inl rfl) (pe_op op_mod (pe_ix (ix_listK K rfl) (pv 0) pe_int (fun _ _ => rfl)) (pv 1)))
      (pss_cons (ps_asg (pe_op op_fdivW (pe_ix (ix_listK K rfl) (pv 0) pe_int (fun _ _ => rfl)) (pv 1)) (pg_sub (pv 0) pe_int set_list))
      (pss_one (ps_ret (pv 3))))) pss_nil)
      (pss_cons (ps_asg (pe_op op_add (pe_ix (ix_listK K rfl) (pv 0) pe_int (fun _ _ => rfl)) pe_int) (pg_sub (pv 0) pe_int set_list))
      (pss_cons (ps_asg (pe_op op_mod (pe_op op_add (pe_op op_add (pe_op op_mul (pe_ix (ix_listK K rfl) (pv 0) pe_int (fun _ _ => rfl)) pe_int) pe_int) (pe_ix (ix_listK K rfl) (pv 0) pe_int (fun _ _ => rfl))) pe_int) (pg_sub (pv 0) pe_int set_list))
      (pss_one (ps_ret (pe_op op_mod (pe_op op_fdiv (pe_op op_mod (pe_op op_mul (pe_op op_add (pe_op op_mod (pe_ix (ix_listK K rfl) (pv 0) pe_int (fun _ _ => rfl)) pe_int) pe_int) (pe_op op_add (pe_op op_fdiv (pe_ix (ix_listK K rfl) (pv 0) pe_int (fun _ _ => rfl)) pe_int) pe_int)) pe_int) pe_int) (pv 1))))))) R1 ?tail1)), ?_⟩
  case tail1 =>
    rintro D' σ' H1 ⟨eD, x2, rfl, ⟨i, p, z, r, hf, hc, hi, hp, hz, hz2⟩, bt⟩
    refine ⟨_, rfl, f, _, _, _, rfl, rfl, SqL.of hf, atI_nat (j := 2) rfl, _, _, rfl, rfl, _, rfl, if_bl (fun c1 => ?_) (fun c1 => ?_)⟩
    · refine ⟨_, rfl, f, _, _, _, rfl, rfl, SqL.of hf, atI_nat (j := 2) rfl, _, rfl, _, _, rfl, rfl, m0, ?_⟩
      refine ⟨_, rfl, f, _, _, _, rfl, rfl, SqL.of hf, atI_nat (j := 2) rfl, _, rfl, _, _, rfl, rfl, ⟨m0, m9⟩, _, rfl, f, _, _, 2, rfl, rfl, hf, rfl, ?_⟩
      refine ⟨_, rfl, ?_⟩
      rw [eD]
      exact q _ _ (Int.emod_nonneg _ (by omega)) (Int.emod_lt_of_pos _ m0) ⟨ns, i, p / m, z, r, upd_same, (by rw [upd_ne ncf]; exact hc), hi, Int.ediv_nonneg hp (by omega), hz, hz2⟩ bt.upd
    · refine ⟨_, rfl, f, _, _, _, rfl, rfl, SqL.of hf, atI_nat (j := 4) rfl, _, _, rfl, rfl, _, rfl, f, _, _, 4, rfl, rfl, hf, rfl, ?_⟩
      have hf2 : upd H1 f (.lst ([V.ref c, V.int i, V.int p, V.int z, V.int r].set 4 (V.int (r + 1)))) f = some (.lst [.ref c, .int i, .int p, .int z, .int (r + 1)]) := upd_same
      refine ⟨_, rfl, f, _, _, _, rfl, rfl, SqL.of hf2, atI_nat (j := 3) rfl, _, _, rfl, rfl, .inl ⟨by omega, by omega⟩, _, _, rfl, rfl, _, rfl, f, _, _, _, rfl, rfl, SqL.of hf2, atI_nat (j := 4) rfl, _, _, rfl, rfl, _, _, rfl, rfl, (by show (0 : Int) < 2147483647; decide), _, rfl, f, _, _, 3, rfl, rfl, hf2, rfl, ?_⟩
      have z0 : 0 ≤ (z * 48271 + 12820163 + (r + 1)) % 2147483647 := Int.emod_nonneg _ (by decide)
      have z1 : (z * 48271 + 12820163 + (r + 1)) % 2147483647 < 2147483647 := Int.emod_lt_of_pos _ (by decide)
      have hf3 : upd (upd H1 f (.lst ([V.ref c, V.int i, V.int p, V.int z, V.int r].set 4 (V.int (r + 1))))) f (.lst ([V.ref c, V.int i, V.int p, V.int z, V.int (r + 1)].set 3 (V.int ((z * 48271 + 12820163 + (r + 1)) % 2147483647)))) f =
        some (.lst [.ref c, .int i, .int p, .int ((z * 48271 + 12820163 + (r + 1)) % 2147483647), .int (r + 1)]) := upd_same
      have hc3 : upd (upd H1 f (.lst ([V.ref c, V.int i, V.int p, V.int z, V.int r].set 4 (V.int (r + 1))))) f (.lst ([V.ref c, V.int i, V.int p, V.int z, V.int (r + 1)].set 3 (V.int ((z * 48271 + 12820163 + (r + 1)) % 2147483647)))) c = some (.lst (ns.map V.int)) := by
        rw [upd_ne ncf, upd_ne ncf]
        exact hc
      refine ⟨_, rfl, f, _, _, _, rfl, rfl, SqL.of hf3, atI_nat (j := 3) rfl, _, _, rfl, rfl, (by show (0 : Int) < 65521; decide), _, _, rfl, rfl, _, rfl, f, _, _, _, rfl, rfl, SqL.of hf3, atI_nat (j := 3) rfl, _, _, rfl, rfl, ⟨by decide, by decide⟩, _, _, rfl, rfl, _, _, rfl, rfl, .inl ⟨?_, ?_⟩, _, _, rfl, rfl, (by show (0 : Int) < 1000003; decide), _, _, rfl, rfl, ⟨by decide, by decide⟩, _, rfl, _, _, rfl, rfl, m0, ?_⟩
      · omega
      · omega
      · rw [eD]
        exact q _ _ (Int.emod_nonneg _ (by omega)) (Int.emod_lt_of_pos _ m0) ⟨ns, i, p, _, r + 1, hf3, hc3, hi, hp, z0, z1⟩ bt.upd.upd
  refine ⟨_, rfl, f, _, _, _, rfl, rfl, SqL.of hf, atI_nat (j := 2) rfl, rfl, _, rfl, if_bl (fun c1 => ?_) (fun c1 => ?_)⟩
  · refine ⟨_, rfl, f, _, _, _, rfl, rfl, SqL.of hf, atI_nat (j := 1) rfl, _, rfl, f, _, _, _, rfl, rfl, SqL.of hf, atI_nat (j := 0) rfl, c, _, rfl, .inl (SqL.of hc), _, _, rfl, rfl, _, rfl, if_bl (fun c2 => ?_) (fun c2 => ?_)⟩
    · have c3 : i < ((ns.map V.int).length : Int) := of_decide_eq_true c2
      rw [List.length_map] at c3
      obtain ⟨v, hv⟩ := at_ints hi c3
      refine ⟨_, rfl, f, _, _, _, rfl, rfl, SqL.of hf, atI_nat (j := 0) rfl, _, rfl, f, _, _, _, rfl, rfl, SqL.of hf, atI_nat (j := 1) rfl, c, _, i, _, rfl, rfl, SqL.of hc, hv, ?_⟩
      refine ⟨_, rfl, f, _, _, _, rfl, rfl, SqL.of hf, atI_nat (j := 1) rfl, _, _, rfl, rfl, _, rfl, f, _, _, 1, rfl, rfl, hf, rfl, ?_⟩
      have hf2 : upd H f (.lst ([V.ref c, V.int i, V.int p, V.int z, V.int r].set 1 (V.int (i + 1)))) f = some (.lst [.ref c, .int (i + 1), .int p, .int z, .int r]) := upd_same
      refine ⟨_, rfl, _, _, rfl, rfl, ⟨by decide, by decide, by decide⟩, _, _, rfl, rfl, _, rfl, if_bl (fun c4 => ?_) (fun c4 => ?_)⟩
      · have c5 : (10 : Int) ^ (18 : Int).toNat ≤ v := of_decide_eq_true c4
        have c6 : (0 : Int) ≤ (10 : Int) ^ (18 : Int).toNat := by decide
        refine ⟨_, rfl, _, rfl, f, _, _, 2, rfl, rfl, hf2, rfl, rfl, _, rfl, ⟨i + 1, v, z, r, upd_same, ?_, by omega, by omega, hz, hz2⟩, But.refl.upd.upd⟩
        rw [upd_ne ncf, upd_ne ncf]
        exact hc
      · refine ⟨_, rfl, f, _, _, _, rfl, rfl, SqL.of hf2, atI_nat (j := 3) rfl, _, _, rfl, rfl, .inl ⟨by omega, by omega⟩, _, rfl, _, _, rfl, rfl, (by show (0 : Int) < 1000003; decide), _, _, rfl, rfl, _, _, rfl, rfl, _, _, rfl, rfl, (by show (0 : Int) < 2147483647; decide), _, rfl, f, _, _, 3, rfl, rfl, hf2, rfl, rfl, _, rfl, ⟨i + 1, p, _, r, upd_same, ?_, by omega, hp, Int.emod_nonneg _ (by decide), Int.emod_lt_of_pos _ (by decide)⟩, But.refl.upd.upd⟩
        rw [upd_ne ncf, upd_ne ncf]
        exact hc
    · exact ⟨rfl, _, rfl, ⟨i, p, z, r, hf, hc, hi, hp, hz, hz2⟩, But.refl⟩
  · exact ⟨rfl, _, rfl, ⟨i, p, z, r, hf, hc, hi, hp, hz, hz2⟩, But.refl⟩
end
/-! ### rooms: what they are -/
/-- a hand: its rule's word, its number if it has one, its moments -/
structure HR where
  wd : Str
  no : Option Int
  mom : Int
/-- a belt -/
structure BR where
  one : Nat
  to : Nat
  th : List Int
abbrev ruleL (h : HR) : List V := .str h.wd :: (match h.no with | none => [] | some n => [.int n])
def HandAt (H : Hp) (v : V) (h : HR) : Prop := ∃ t r : Addr, v = .ref t ∧ H t = some (.tup [.ref r, .int h.mom]) ∧ H r = some (.tup (ruleL h))
def BeltAt (H : Hp) (v : V) (b : BR) : Prop := ∃ t g : Addr, v = .ref t ∧ H t = some (.tup [.int (b.one : Nat), .int (b.to : Nat), .ref g]) ∧ H g = some (.tup (b.th.map V.int))
theorem HandAt.keep {H H' : Hp} {v : V} {h : HR} (a : HandAt H v h) (k : TK H H') : HandAt H' v h := by
  obtain ⟨t, r, e, e1, e2⟩ := a
  exact ⟨t, r, e, k _ _ e1, k _ _ e2⟩
theorem BeltAt.keep {H H' : Hp} {v : V} {b : BR} (a : BeltAt H v b) (k : TK H H') : BeltAt H' v b := by
  obtain ⟨t, r, e, e1, e2⟩ := a
  exact ⟨t, r, e, k _ _ e1, k _ _ e2⟩
def nine : List Str := ["always", "same", "times", "sum", "gap", "below", "most", "least", "pick"]
def needs (wd : Str) : Int := if wd ∈ (["in", "always"] : List Str) then 0 else if wd ∈ (["out", "same", "times"] : List Str) then 1 else 2 + (if wd = "pick" then 1 else 0)
/-- a rule of one of the nine words -/
structure GoodRule (h : HR) : Prop where
  wd : h.wd ∈ nine
  no : h.no.isSome = true ↔ h.wd = "times" ∨ h.wd = "always"
  big : ∀ n, h.no = some n → -1000000 ≤ n ∧ n ≤ 1000000
def GoodHand (h : HR) : Prop := (GoodRule h ∨ ((h.wd = "in" ∨ h.wd = "out") ∧ h.no = none)) ∧ 0 ≤ h.mom ∧ h.mom ≤ 30
def Small (v : Int) : Prop := -1000000 ≤ v ∧ v ≤ 1000000
section
variable {P : Program} {w : World} {K : PySem.W.Frag} {mg : Str → Option Value} {base : Heap}
def sp_law_thing (K : PySem.W.Frag) : Sp := fun vs H Q _ => ∃ f c : Addr, vs = [.ref f] ∧ Flow H f c ∧ ∀ (v : Int) (H' : Hp), Small v → Flow H' f c → But f H H' → Q (.int v) H'
theorem ok_law_thing {f : Addr} {fd : FuncData} (F : Fun K "_law_thing" "_law_thing" s_law_thing f fd) (T : Top K mg) : FnOk P w K mg base CX0 2 f fd ["_law_flow_here"] (sp_law_thing K) := by
  obtain ⟨f_law_pick, fd_law_pick, F_law_pick, b_law_pick, m_law_pick⟩ := T.d_law_pick
  have G_law_pick := ok_law_pick (P := P) (w := w) (base := base) F_law_pick T
  refine F.ok sc_law_thing (fun vs H Q E h => ?_) (fun cdv A outer s H vs Q E hr h => ?_)
  · obtain ⟨f, c, rfl, _⟩ := h
    rfl
  obtain ⟨f, c, rfl, hF, q⟩ := h
  refine ⟨_, (pss_cons (ps_if (pt_cmpR op_gt (pe_call G_law_pick (hr.mono (by decide)) (by rfl) m_law_pick F_law_pick.kp b_law_pick .nil pass0 (pa_cons (pv 0) (pa_cons pe_int pa_nil))) pe_int (nomark _)) (pss_one (ps_ret (pe_op op_sub (pe_call G_law_pick (hr.mono (by decide)) (by rfl) m_law_pick F_law_pick.kp b_law_pick .nil pass0 (pa_cons (pv 0) (pa_cons pe_int pa_nil))) pe_int))) pss_nil)
      (pss_one (ps_ret (pe_op op_sub (pe_call G_law_pick (hr.mono (by decide)) (by rfl) m_law_pick F_law_pick.kp b_law_pick .nil pass0 (pa_cons (pv 0) (pa_cons pe_int pa_nil))) pe_int)))), ?_⟩
  refine ⟨_, rfl, f, c, 3, rfl, by decide, by decide +kernel, hF, fun v1 H1 a1 b1 F1 B1 => ⟨_, _, rfl, rfl, _, rfl, if_bl (fun _ => ?_) (fun _ => ?_)⟩⟩
  · exact ⟨_, rfl, f, c, 7, rfl, by decide, by decide +kernel, F1, fun v2 H2 a2 b2 F2 B2 => ⟨_, _, rfl, rfl, q _ _ ⟨by omega, by omega⟩ F2 (B1.trans B2)⟩⟩
  · exact ⟨_, rfl, f, c, 2000001, rfl, by decide, by decide +kernel, F1, fun v2 H2 a2 b2 F2 B2 => ⟨_, _, rfl, rfl, q _ _ ⟨by omega, by omega⟩ F2 (B1.trans B2)⟩⟩
def sp_law_needs (K : PySem.W.Frag) : Sp := fun vs H Q _ => ∃ (r : Addr) (wd : Str) (l : List V), vs = [.ref r] ∧ SqT K H r (.str wd :: l) ∧ ∀ H', Same H H' → Q (.int (needs wd)) H'
theorem ok_law_needs {f : Addr} {fd : FuncData} (F : Fun K "_law_needs" "_law_needs" s_law_needs f fd) (T : Top K mg) : FnOk P w K mg base CX0 1 f fd ["_law_rule_here"] (sp_law_needs K) := by
  refine F.ok sc_law_needs (fun vs H Q E h => ?_) (fun cdv A outer s H vs Q E hr h => ?_)
  · obtain ⟨r, wd, l, rfl, _⟩ := h
    rfl
  obtain ⟨r, wd, l, rfl, hR, q⟩ := h
  unfold needs at q
  refine ⟨_, (pss_cons (ps_if (pt_cmpR (op_in_seqK K rfl) (pe_ix (ix_tupK K rfl) (pv 0) pe_int (fun _ _ => rfl)) (pe_tup (pa_cons pe_str (pa_cons pe_str pa_nil))) (by with_unfolding_all rfl)) (pss_one (ps_ret pe_int)) pss_nil)
      (pss_cons (ps_if (pt_cmpR (op_in_seqK K rfl) (pe_ix (ix_tupK K rfl) (pv 0) pe_int (fun _ _ => rfl)) (pe_tup (pa_cons pe_str (pa_cons pe_str (pa_cons pe_str pa_nil)))) (by with_unfolding_all rfl)) (pss_one (ps_ret pe_int)) pss_nil)
      (pss_one (ps_ret (pe_op op_add pe_int (pe_callTy call_int1 (by rfl) T.m_int (by decide +kernel) (pa_cons (pe_cmpR op_eq (pe_ix (ix_tupK K rfl) (pv 0) pe_int (fun _ _ => rfl)) pe_str (nomark _)) pa_nil))))))), ?_⟩
  refine ⟨_, rfl, r, _, _, _, rfl, rfl, hR, atI_nat (j := 0) rfl, (by show 2 ≤ sizeLine; decide), fun p np => ⟨p, _, rfl, .inr (SqT.of upd_same), rfl, rfl, _, rfl, if_in (zs := ["in", "always"]) (fun e => ?_) (fun e => ?_)⟩⟩
  · have q := q _ (same_new (o := .tup [V.str "in", V.str "always"]) np)
    rw [if_pos e] at q
    exact q
  have s1 := same_new (o := .tup [V.str "in", V.str "always"]) np
  refine ⟨_, rfl, r, _, _, _, rfl, rfl, same_seqT s1 hR, atI_nat (j := 0) rfl, (by show 3 ≤ sizeLine; decide), fun p2 np2 => ⟨p2, _, rfl, .inr (SqT.of upd_same), rfl, rfl, _, rfl, if_in (zs := ["out", "same", "times"]) (fun e2 => ?_) (fun e2 => ?_)⟩⟩
  · have q := q _ (s1.trans (same_new (o := .tup [V.str "out", V.str "same", V.str "times"]) np2))
    rw [if_neg e, if_pos e2] at q
    exact q
  have s2 := s1.trans (same_new (o := .tup [V.str "out", V.str "same", V.str "times"]) np2)
  have q := q _ s2
  rw [if_neg e, if_neg e2] at q
  refine ⟨_, rfl, r, _, _, _, rfl, rfl, same_seqT s2 hR, atI_nat (j := 0) rfl, rfl, .inr ⟨_, rfl, _, _, rfl, rfl, ?_⟩⟩
  by_cases k : wd = "pick"
  · rw [if_pos k] at q
    rw [decide_eq_true (show V.str wd = V.str "pick" by rw [k])]
    exact q
  · rw [if_neg k] at q
    rw [decide_eq_false (show ¬ V.str wd = V.str "pick" from fun z => k (V.str.inj z))]
    exact q
theorem nine_at {m : Int} (h0 : 0 ≤ m) (h9 : m < 9) : ∃ wd : Str, wd ∈ nine ∧ atI (nine.map V.str) m = some (.str wd) ∧ (m < 1 → needs wd ≤ 0) ∧ (m < 3 → needs wd ≤ 1) ∧ (m < 8 → needs wd ≤ 2) ∧ needs wd ≤ 3 ∧ 0 ≤ needs wd := by
  have : m = 0 ∨ m = 1 ∨ m = 2 ∨ m = 3 ∨ m = 4 ∨ m = 5 ∨ m = 6 ∨ m = 7 ∨ m = 8 := by omega
  rcases this with rfl | rfl | rfl | rfl | rfl | rfl | rfl | rfl | rfl
  · exact ⟨"always", by decide +kernel, rfl, by decide +kernel, by decide +kernel, by decide +kernel, by decide +kernel, by decide +kernel⟩
  · exact ⟨"same", by decide +kernel, rfl, by decide +kernel, by decide +kernel, by decide +kernel, by decide +kernel, by decide +kernel⟩
  · exact ⟨"times", by decide +kernel, rfl, by decide +kernel, by decide +kernel, by decide +kernel, by decide +kernel, by decide +kernel⟩
  · exact ⟨"sum", by decide +kernel, rfl, by decide +kernel, by decide +kernel, by decide +kernel, by decide +kernel, by decide +kernel⟩
  · exact ⟨"gap", by decide +kernel, rfl, by decide +kernel, by decide +kernel, by decide +kernel, by decide +kernel, by decide +kernel⟩
  · exact ⟨"below", by decide +kernel, rfl, by decide +kernel, by decide +kernel, by decide +kernel, by decide +kernel, by decide +kernel⟩
  · exact ⟨"most", by decide +kernel, rfl, by decide +kernel, by decide +kernel, by decide +kernel, by decide +kernel, by decide +kernel⟩
  · exact ⟨"least", by decide +kernel, rfl, by decide +kernel, by decide +kernel, by decide +kernel, by decide +kernel, by decide +kernel⟩
  · exact ⟨"pick", by decide +kernel, rfl, by decide +kernel, by decide +kernel, by decide +kernel, by decide +kernel, by decide +kernel⟩
def sp_law_rule (K : PySem.W.Frag) : Sp := fun vs H Q _ => ∃ (f c : Addr) (m : Int), vs = [.ref f, .int m] ∧ 0 ≤ m ∧ Flow H f c ∧
  ∀ (r : Addr) (h : HR) (H' : Hp), H' r = some (.tup (ruleL h)) → GoodRule h → needs h.wd ≤ m → 0 ≤ needs h.wd → h.mom = 0 → Flow H' f c → But f H H' → Q (.ref r) H'
theorem ok_law_rule {f : Addr} {fd : FuncData} (F : Fun K "_law_rule" "_law_rule" s_law_rule f fd) (T : Top K mg) : FnOk P w K mg base CX0 3 f fd ["_law_flow_here", "_law_most"] (sp_law_rule K) := by
  obtain ⟨f_law_pick, fd_law_pick, F_law_pick, b_law_pick, m_law_pick⟩ := T.d_law_pick
  have G_law_pick := ok_law_pick (P := P) (w := w) (base := base) F_law_pick T
  obtain ⟨f_law_thing, fd_law_thing, F_law_thing, b_law_thing, m_law_thing⟩ := T.d_law_thing
  have G_law_thing := ok_law_thing (P := P) (w := w) (base := base) F_law_thing T
  refine F.ok sc_law_rule (fun vs H Q E h => ?_) (fun cdv A outer s H vs Q E hr h => ?_)
  · obtain ⟨f, c, m, rfl, _⟩ := h
    rfl
  obtain ⟨f, c, m, rfl, m0, hF, q⟩ := h
  refine ⟨_, (pss_cons (ps_set (i := 2) sc_law_rule.nd rfl (Or.inl rfl) (pe_lst (pa_cons pe_str (pa_cons pe_str (pa_cons pe_str (pa_cons pe_str (pa_cons pe_str (pa_cons pe_str (pa_cons pe_str (pa_cons pe_str (pa_cons pe_str pa_nil)))))))))))
      (pss_cons (ps_set (i := 3) sc_law_rule.nd rfl (Or.inl rfl) (pe_ix (ix_listK K rfl) (pv 2) (pe_call G_law_pick (hr.mono (by decide)) (by rfl) m_law_pick F_law_pick.kp b_law_pick .nil pass0 (pa_cons (pv 0) (pa_cons (pe_ix (ix_listK K rfl) (pe_lst (pa_cons pe_int (pa_cons pe_int (pa_cons pe_int (pa_cons pe_int pa_nil))))) (pe_callB (call_min2 rfl) (by rfl) T.m_min (by decide +kernel) (pa_cons pe_int (pa_cons (pv 1) pa_nil))) (fun _ _ => rfl)) pa_nil))) (fun _ _ => rfl)))
      (pss_cons (ps_if (pt_cmpR op_eq (pv 3) pe_str (nomark _)) (pss_one (ps_ret (pe_tup (pa_cons (pv 3) (pa_cons (pe_op op_sub (pe_call G_law_pick (hr.mono (by decide)) (by rfl) m_law_pick F_law_pick.kp b_law_pick .nil pass0 (pa_cons (pv 0) (pa_cons pe_int pa_nil))) pe_int) pa_nil))))) pss_nil)
      (pss_cons (ps_if (pt_cmpR op_eq (pv 3) pe_str (nomark _)) (pss_one (ps_ret (pe_tup (pa_cons (pv 3) (pa_cons (pe_call G_law_thing (hr.mono (by decide)) (by rfl) m_law_thing F_law_thing.kp b_law_thing .nil pass0 (pa_cons (pv 0) pa_nil)) pa_nil))))) pss_nil)
      (pss_one (ps_ret (pe_tup (pa_cons (pv 3) pa_nil)))))))), ?_⟩
  refine ⟨(by show 9 ≤ sizeLine; decide), fun wl nwl => ?_⟩
  have F1 : Flow (upd H wl (.lst (nine.map V.str))) f c := hF.new nwl
  refine ⟨_, rfl, _, rfl, (by show 4 ≤ sizeLine; decide), fun cl ncl => ?_⟩
  have F2 : Flow (upd (upd H wl (.lst (nine.map V.str))) cl (.lst [V.int 1, V.int 3, V.int 8, V.int 9])) f c := F1.new ncl
  have B2 : But f H (upd (upd H wl (.lst (nine.map V.str))) cl (.lst [V.int 1, V.int 3, V.int 8, V.int 9])) := (But.refl.new nwl).new ncl
  obtain ⟨j, hj, j1, j9, jn⟩ : ∃ j : Int, atI [V.int 1, V.int 3, V.int 8, V.int 9] (if m < 3 then m else 3) = some (.int j) ∧ 1 ≤ j ∧ j ≤ 9 ∧ ((j = 1 ∧ m = 0) ∨ (j = 3 ∧ m = 1) ∨ (j = 8 ∧ m = 2) ∨ (j = 9 ∧ 3 ≤ m)) := by
    by_cases k : m < 3
    · rw [if_pos k]
      have : m = 0 ∨ m = 1 ∨ m = 2 := by omega
      rcases this with rfl | rfl | rfl
      · exact ⟨1, rfl, by decide, by decide, by decide⟩
      · exact ⟨3, rfl, by decide, by decide, by decide⟩
      · exact ⟨8, rfl, by decide, by decide, by decide⟩
    · rw [if_neg k]
      exact ⟨9, rfl, by decide, by decide, by omega⟩
  refine ⟨_, rfl, _, _, rfl, cl, _, _, _, rfl, rfl, SqL.of upd_same, hj, f, c, j, rfl, by omega, ?_, F2, fun v H1 v0 v1 F3 B3 => ?_⟩
  · have : j = 1 ∨ j = 3 ∨ j = 8 ∨ j = 9 := by omega
    rcases this with rfl | rfl | rfl | rfl <;> decide +kernel
  obtain ⟨wd, hw, hat, n1, n3, n8, n9, n0⟩ := nine_at v0 (by omega)
  have hn : needs wd ≤ m := by
    rcases jn with ⟨rfl, rfl⟩ | ⟨rfl, rfl⟩ | ⟨rfl, rfl⟩ | ⟨rfl, k⟩
    · exact n1 v1
    · exact n3 v1
    · exact n8 v1
    · omega
  have hwl : H1 wl = some (.lst (nine.map V.str)) := B3 _ _ (same_new ncl _ _ upd_same) (hF.ne nwl)
  refine ⟨wl, _, _, _, rfl, rfl, SqL.of hwl, hat, ?_⟩
  have BB := B2.trans B3
  refine ⟨_, rfl, rfl, _, rfl, if_str (fun e => ?_) (fun e => ?_)⟩
  · refine ⟨_, rfl, _, rfl, f, c, 19, rfl, by decide, by decide +kernel, F3, fun v2 H2 a2 b2 F4 B4 => ⟨_, _, rfl, rfl, (by show 2 ≤ sizeLine; decide), fun r nr => ?_⟩⟩
    exact q r ⟨wd, some (v2 - 9), 0⟩ _ upd_same ⟨hw, ⟨fun _ => .inl e, fun _ => rfl⟩, fun n en => by cases en; exact ⟨by omega, by omega⟩⟩ hn n0 rfl (F4.new nr) ((BB.trans B4).new nr)
  refine ⟨_, rfl, rfl, _, rfl, if_str (fun e2 => ?_) (fun e2 => ?_)⟩
  · refine ⟨_, rfl, _, rfl, f, c, rfl, F3, fun v2 H2 s2 F4 B4 => ⟨(by show 2 ≤ sizeLine; decide), fun r nr => ?_⟩⟩
    exact q r ⟨wd, some v2, 0⟩ _ upd_same ⟨hw, ⟨fun _ => .inr e2, fun _ => rfl⟩, fun n en => by cases en; exact s2⟩ hn n0 rfl (F4.new nr) ((BB.trans B4).new nr)
  · refine ⟨_, rfl, (by show 1 ≤ sizeLine; decide), fun r nr => ?_⟩
    exact q r ⟨wd, none, 0⟩ _ upd_same ⟨hw, ⟨(fun z => nomatch z), fun z => absurd z (fun z => z.elim e e2)⟩, (fun n en => nomatch en)⟩ hn n0 rfl (F3.new nr) (BB.new nr)
def sp_law_shuffled (K : PySem.W.Frag) : Sp := fun vs H Q _ => ∃ (f c l : Addr) (xs : List V), vs = [.ref f, .ref l] ∧ SqL K H l xs ∧ l ≠ f ∧ xs.length ≤ 500 ∧ Flow H f c ∧
  ∀ (p : Addr) (ys : List V) (H' : Hp), ys.Perm xs → H p = none → H' p = some (.lst ys) → Flow H' f c → But f H H' → Q (.ref p) H'
theorem But.seqL {K : PySem.W.Frag} {f a : Addr} {H H1 : Hp} {xs : List V} (b : But f H H1) (h : SqL K H a xs) (n : a ≠ f) : SqL K H1 a xs := by
  rcases h with h | h
  · left
    rcases h with h | ⟨o, h⟩
    · exact .inl (b _ _ h n)
    · exact .inr ⟨o, b _ _ h n⟩
  · exact .inr h
theorem same_seqL {K : PySem.W.Frag} {a : Addr} {H H1 : Hp} {xs : List V} (b : Same H H1) (h : SqL K H a xs) : SqL K H1 a xs := by
  rcases h with h | h
  · left
    rcases h with h | ⟨o, h⟩
    · exact .inl (b _ _ h)
    · exact .inr ⟨o, b _ _ h⟩
  · exact .inr h
theorem log_small {m : Nat} (h : m ≤ 500) : ((m : Int)).natAbs.log2 < 9000 := by
  rw [Int.natAbs_natCast]
  exact Nat.lt_of_le_of_lt (Nat.log2_le_self m) (by omega)
theorem perm_erase {α : Type} : ∀ {l : List α} {j : Nat} {y : α}, l[j]? = some y → (y :: l.eraseIdx j).Perm l
  | [], _, _, h => nomatch h
  | a :: l, 0, y, h => by
    cases h
    exact List.Perm.refl _
  | a :: l, j + 1, y, h => by
    have ih : (y :: l.eraseIdx j).Perm l := perm_erase h
    exact (List.Perm.swap a y _).trans (ih.cons a)
theorem ok_law_shuffled {f : Addr} {fd : FuncData} (F : Fun K "_law_shuffled" "_law_shuffled" s_law_shuffled f fd) (T : Top K mg) : FnOk P w K mg base CX0 2 f fd ["_law_flow_here", "_law_some"] (sp_law_shuffled K) := by
  obtain ⟨f_law_pick, fd_law_pick, F_law_pick, b_law_pick, m_law_pick⟩ := T.d_law_pick
  have G_law_pick := ok_law_pick (P := P) (w := w) (base := base) F_law_pick T
  refine F.ok sc_law_shuffled (fun vs H Q E h => ?_) (fun cdv A outer s H vs Q E hr h => ?_)
  · obtain ⟨f, c, l, xs, rfl, _⟩ := h
    rfl
  obtain ⟨f, c, l, xs, rfl, hL, nl, hlen, hF, q⟩ := h
  refine ⟨_, (pss_cons (ps_set (i := 2) sc_law_shuffled.nd rfl (Or.inr rfl) (pe_callTy (call_list_ofK K rfl) (by rfl) T.m_list (by decide +kernel) (pa_cons (pv 1) pa_nil)))
      (pss_one (ps_ret (pe_lc (own := [("_law_k", 3)]) (g := gName 3) (tt := tYes) (by rfl) sc_law_shuffled.nd (pi_range1 (by rfl) T.m_range (pa_cons (pe_callB (call_len_seqK K rfl) (by rfl) T.m_len (by decide +kernel) (pa_cons (pv 1) pa_nil)) pa_nil)) (blkOk_by (own := [("_law_k", 3)]) (N := N_law_shuffled) (sc := defScope s_law_shuffled) (by decide +kernel)) (fun _ _ _ _ _ => (pg_name (i := 3) sc_law_shuffled.nd rfl (Or.inl rfl))) (fun _ _ _ _ _ => pts_nil) (fun _ _ _ _ _ => (pe_bmK K rfl PySem.F.plainAttrs_list PySem.F.slot_list_pop PySem.F.type_list_pop mt_popAt (pv 2) (pa_cons (pe_call G_law_pick (hr.mono (by decide)) (by rfl) m_law_pick F_law_pick.kp b_law_pick .nil pass0 (pa_cons (pv 0) (pa_cons (pe_callB (call_len_seqK K rfl) (by rfl) T.m_len (by decide +kernel) (pa_cons (pv 2) pa_nil)) pa_nil))) pa_nil))))))), ?_⟩
  refine ⟨_, rfl, l, _, rfl, .inl hL, fun lf nlf => ?_⟩
  refine ⟨_, rfl, l, _, rfl, .inl (same_seqL (same_new nlf) hL), _, rfl, by omega, (by omega), fun D nD => ?_⟩
  have F1 : Flow (upd H lf (.lst xs)) f c := hF.new nlf
  have dl : D ≠ lf := (ne_of_none upd_same nD).symm
  refine lc_range (lo := 0) (n := xs.length) (fun i H5 => ∃ acc rest : List V, H5 D = some (.lst acc) ∧ H5 lf = some (.lst rest) ∧ acc.length = i ∧ rest.length + i = xs.length ∧ (acc ++ rest).Perm xs ∧ Flow H5 f c ∧ But f H H5)
    ⟨[], xs, upd_same, by rw [upd_ne dl.symm]; exact upd_same, rfl, by omega, List.Perm.refl _, F1.new nD, (But.refl.new nlf).new nD⟩ ?_ ?_
  · rintro i H5 hi ⟨acc, rest, hD, hl, ha, hr2, hp, F5, B5⟩
    refine ⟨rfl, yes_in ?_⟩
    refine ⟨_, rfl, .inl ⟨rfl, _, SqL.of hl⟩, _, rfl, _, rfl, lf, _, rfl, .inl (SqL.of hl), f, c, ((rest.length : Nat) : Int), rfl, by omega, log_small (by omega), F5, fun v H6 v0 v1 F6 B6 => ?_⟩
    have hl6 := B6 _ _ hl (hF.ne nlf)
    have hv : v.toNat < rest.length := by omega
    have e1 : seqIndex? v rest.length = some v.toNat := by
      rw [seqIndex_of v0 (by omega)]
    refine ⟨lf, rest, v, v.toNat, rest[v.toNat], rfl, rfl, hl6, by omega, by omega, e1, List.getElem?_eq_getElem hv, ?_⟩
    have hD6 := B6 _ _ hD (fun e => by rw [e] at nD; rw [show upd H lf (.lst xs) f = H f from upd_ne (hF.ne nlf).symm] at nD; obtain ⟨_, _, _, _, _, e1, _⟩ := hF; rw [e1] at nD; cases nD)
    refine ⟨acc, by rw [upd_ne dl]; exact hD6, small1000 (by omega), acc ++ [rest[v.toNat]], rest.eraseIdx v.toNat, upd_same, by rw [upd_ne dl.symm]; exact upd_same, by rw [List.length_append, ha]; rfl, ?_, ?_, ?_, ?_⟩
    · rw [List.length_eraseIdx, if_pos hv]
      omega
    · refine List.Perm.trans ?_ hp
      rw [List.append_assoc]
      exact List.Perm.append_left acc (perm_erase (List.getElem?_eq_getElem hv))
    · have dc : D ≠ c := fun e => by
        rw [e] at nD
        obtain ⟨_, _, _, _, _, _, e1, _⟩ := F1
        rw [e1] at nD
        cases nD
      exact (F6.lst (hF.ne nlf) (hF.nec nlf)).lst (F1.ne nD) dc
    · exact ((B5.trans B6).own nlf).own (same_none (same_new nlf) nD)
  · rintro H5 ⟨acc, rest, hD, hl, ha, hr2, hp, F5, B5⟩
    have er : rest = [] := by
      cases rest with
      | nil => rfl
      | cons a l => simp at hr2
    subst er
    rw [List.append_nil] at hp
    exact q D acc H5 hp (same_none (same_new nlf) nD) hD F5 B5
end
/-! ### the hands of a drawn room -/
def unS : V → Str
  | .str s => s
  | _ => ""
theorem perm_strs {ys : List V} {zs : List Str} (h : ys.Perm (zs.map V.str)) : ∃ ss : List Str, ys = ss.map V.str ∧ ss.Perm zs := by
  refine ⟨ys.map unS, ?_, ?_⟩
  · rw [List.map_map]
    symm
    refine (List.map_congr_left (g := id) fun y hy => ?_).trans (List.map_id _)
    obtain ⟨z, _, e⟩ := List.mem_map.mp (h.mem_iff.mp hy)
    subst e
    rfl
  · have q := h.map unS
    rw [List.map_map] at q
    have e : zs.map (unS ∘ V.str) = zs := (List.map_congr_left (g := id) fun z _ => rfl).trans (List.map_id _)
    rw [e] at q
    exact q
theorem flat_rep {α : Type} (x : α) : ∀ n : Nat, (List.replicate n [x]).flatten = List.replicate n x
  | 0 => rfl
  | n + 1 => by
    rw [List.replicate_succ, List.flatten_cons, flat_rep x n]
    rfl
def cnt (ss : List Str) : Nat := (ss.filter fun s => !decide (s = ("in" : Str))).length
theorem cnt_le (ss : List Str) : cnt ss ≤ ss.length := List.length_filter_le ..
theorem cut_drop (xs : List V) (k : Nat) : cutV xs (some ((k : Nat) : Int)) none = xs.drop k := by
  unfold cutV
  rw [HT.sIx_nat, HT.sIx_none]
  by_cases h : k ≤ xs.length
  · rw [Nat.min_eq_left h]
    exact List.take_of_length_le (by rw [List.length_drop]; exact Nat.le_refl _)
  · rw [Nat.min_eq_right (by omega), Nat.sub_self, List.take_zero, List.drop_eq_nil_of_le (by omega)]
structure HInv (f c sl hh : Addr) (ss : List Str) (H0 H : Hp) (i : Nat) (vs : List V) (hs : List HR) (left : Int) : Prop where
  fl : Flow H f c
  bt : But f H0 H
  hsl : H sl = some (.lst (ss.map V.str))
  hhh : H hh = some (.lst vs)
  al : All2 (HandAt H) vs hs
  len : hs.length = i
  good : ∀ h ∈ hs, GoodHand h
  lf : (cnt (ss.drop i) : Int) ≤ left
  sum : (hs.map fun h => needs h.wd).sum + left = 20
  nz : ∀ h ∈ hs, 0 ≤ needs h.wd
  one : ("hand" : Str) ∈ ss.take i → ∃ h ∈ hs, h.wd ≠ "out"
  n1 : sl ≠ f
  n2 : sl ≠ hh
  n3 : hh ≠ f
  n4 : hh ≠ c
  n5 : H0 hh = none
section
variable {f c sl hh : Addr} {ss : List Str} {H0 H H' : Hp} {i : Nat} {vs : List V} {hs : List HR} {left : Int}
theorem HInv.but (s : HInv f c sl hh ss H0 H i vs hs left) (F : Flow H' f c) (b : But f H H') : HInv f c sl hh ss H0 H' i vs hs left :=
  { s with fl := F, bt := s.bt.trans b, hsl := b _ _ s.hsl s.n1, hhh := b _ _ s.hhh s.n3, al := s.al.imp fun _ _ k => k.keep (TK.but s.fl b) }
theorem HInv.new {p : Addr} {o : HO} (s : HInv f c sl hh ss H0 H i vs hs left) (n : H p = none) : HInv f c sl hh ss H0 (upd H p o) i vs hs left :=
  { s with fl := s.fl.new n, bt := s.bt.new n, hsl := same_new n _ _ s.hsl, hhh := same_new n _ _ s.hhh, al := s.al.imp fun _ _ k => k.keep (TK.new n) }
theorem HInv.same (s : HInv f c sl hh ss H0 H i vs hs left) (k : Same H H') : HInv f c sl hh ss H0 H' i vs hs left :=
  { s with fl := s.fl.same k, bt := s.bt.same k, hsl := k _ _ s.hsl, hhh := k _ _ s.hhh, al := s.al.imp fun _ _ z => z.keep (TK.same k) }
theorem HInv.step {x : V} {h : HR} {sd : Str} (s : HInv f c sl hh ss H0 H i vs hs left) (hx : HandAt H x h) (g : GoodHand h) (z : 0 ≤ needs h.wd) (k : needs h.wd + (cnt (ss.drop (i + 1)) : Int) ≤ left) (e : ss[i]? = some sd) (o : sd = "hand" → h.wd ≠ "out") :
    HInv f c sl hh ss H0 (upd H hh (.lst (vs ++ [x]))) (i + 1) (vs ++ [x]) (hs ++ [h]) (left - needs h.wd) := by
  refine { s with fl := s.fl.lst s.n3 s.n4, bt := s.bt.own s.n5, hsl := by rw [upd_ne s.n2]; exact s.hsl, hhh := upd_same, al := (s.al.snoc hx).imp fun _ _ z => z.keep (TK.lst s.hhh), len := by rw [List.length_append, s.len]; rfl, good := ?_, lf := by omega, sum := ?_, nz := ?_, one := ?_ }
  · intro y hy
    rcases List.mem_append.mp hy with hy | hy
    · exact s.good y hy
    · obtain rfl : y = h := by simpa using hy
      exact g
  · have := s.sum
    rw [List.map_append, List.sum_append]
    simp only [List.map_cons, List.map_nil, List.sum_cons, List.sum_nil]
    omega
  · intro y hy
    rcases List.mem_append.mp hy with hy | hy
    · exact s.nz y hy
    · obtain rfl : y = h := by simpa using hy
      exact z
  · intro hm
    rw [List.take_add_one, e] at hm
    rcases List.mem_append.mp hm with hm | hm
    · obtain ⟨y, h1, h2⟩ := s.one hm
      exact ⟨y, List.mem_append_left _ h1, h2⟩
    · have e2 : ("hand" : Str) = sd := by simpa using hm
      exact ⟨h, List.mem_append_right _ (by simp), o e2.symm⟩
end
theorem cnt_cons {ss : List Str} {i : Nat} {sd : Str} (e : ss[i]? = some sd) : cnt (ss.drop i) = (if sd = "in" then 0 else 1) + cnt (ss.drop (i + 1)) := by
  have hi := (List.getElem?_eq_some_iff.mp e).1
  have e2 : ss.drop i = sd :: ss.drop (i + 1) := by
    rw [List.drop_eq_getElem_cons hi, (List.getElem?_eq_some_iff.mp e).2]
  rw [e2]
  unfold cnt
  rw [List.filter_cons]
  by_cases k : sd = "in"
  · rw [if_pos k, decide_eq_true k]
    simp
  · rw [if_neg k, decide_eq_false k]
    simp only [Bool.not_false, if_true, List.length_cons]
    omega
section
variable {P : Program} {w : World} {K : PySem.W.Frag} {mg : Str → Option Value} {base : Heap}
structure HandsOk (hs : List HR) : Prop where
  len : hs.length ≤ 12
  good : ∀ h ∈ hs, GoodHand h
  sum : (hs.map fun h => needs h.wd).sum ≤ 20
  nz : ∀ h ∈ hs, 0 ≤ needs h.wd
  one : ∃ h ∈ hs, h.wd ≠ "out"
def sp_law_hands (K : PySem.W.Frag) : Sp := fun vs H Q _ => ∃ (f c : Addr) (m : Int), vs = [.ref f, .int m] ∧ 1 ≤ m ∧ m ≤ 8 ∧ Flow H f c ∧
  ∀ (p : Addr) (xs : List V) (hs : List HR) (H' : Hp), H p = none → H' p = some (.lst xs) → All2 (HandAt H') xs hs → HandsOk hs → Flow H' f c → But f H H' → Q (.ref p) H'
theorem ok_law_hands {f : Addr} {fd : FuncData} (F : Fun K "_law_hands" "_law_hands" s_law_hands f fd) (T : Top K mg) : FnOk P w K mg base CX0 4 f fd ["_law_flow_here", "_law_many"] (sp_law_hands K) := by
  obtain ⟨f_law_shuffled, fd_law_shuffled, F_law_shuffled, b_law_shuffled, m_law_shuffled⟩ := T.d_law_shuffled
  have G_law_shuffled := ok_law_shuffled (P := P) (w := w) (base := base) F_law_shuffled T
  obtain ⟨f_law_rule, fd_law_rule, F_law_rule, b_law_rule, m_law_rule⟩ := T.d_law_rule
  have G_law_rule := ok_law_rule (P := P) (w := w) (base := base) F_law_rule T
  obtain ⟨f_law_needs, fd_law_needs, F_law_needs, b_law_needs, m_law_needs⟩ := T.d_law_needs
  have G_law_needs := ok_law_needs (P := P) (w := w) (base := base) F_law_needs T
  obtain ⟨f_law_pick, fd_law_pick, F_law_pick, b_law_pick, m_law_pick⟩ := T.d_law_pick
  have G_law_pick := ok_law_pick (P := P) (w := w) (base := base) F_law_pick T
  refine F.ok sc_law_hands (fun vs H Q E h => ?_) (fun cdv A outer s H vs Q E hr h => ?_)
  · obtain ⟨f, c, m, rfl, _⟩ := h
    rfl
  obtain ⟨f, c, m, rfl, m1, m8, hF, q⟩ := h
  let R1 : TS := fun D' σ' H' => D'.rt = Q ∧ ∃ (sl : Addr) (ss : List Str), σ' = [some (.ref f), some (.int m), some (.ref sl), none, none, none, none, none, none, none] ∧ H' sl = some (.lst (ss.map V.str)) ∧ sl ≠ f ∧ ss.length ≤ 12 ∧ ("hand" : Str) ∈ ss ∧ (∀ s ∈ ss, s = "in" ∨ s = "out" ∨ s = "hand") ∧ Flow H' f c ∧ But f H H'
  refine ⟨_, (pss_cons (ps_set (i := 2) sc_law_hands.nd rfl (Or.inl rfl) (pe_op op_cat (pe_op op_cat (pe_op op_rep (pe_lst (pa_cons pe_str pa_nil)) (pe_call G_law_pick (hr.mono (by decide)) (by rfl) m_law_pick F_law_pick.kp b_law_pick .nil pass0 (pa_cons (pv 0) (pa_cons pe_int pa_nil)))) (pe_op op_rep (pe_lst (pa_cons pe_str pa_nil)) (pe_call G_law_pick (hr.mono (by decide)) (by rfl) m_law_pick F_law_pick.kp b_law_pick .nil pass0 (pa_cons (pv 0) (pa_cons pe_int pa_nil))))) (pe_op op_rep (pe_lst (pa_cons pe_str pa_nil)) (pv 1))))
      (pss_cons (ps_set (i := 2) sc_law_hands.nd rfl (Or.inl rfl) (pe_call G_law_shuffled (hr.mono (by decide)) (by rfl) m_law_shuffled F_law_shuffled.kp b_law_shuffled .nil pass0 (pa_cons (pv 0) (pa_cons (pv 2) pa_nil))))
      (PSs.to (pss_cons (ps_set (i := 3) sc_law_hands.nd rfl (Or.inl rfl) pe_int)
      (pss_cons (ps_set (i := 4) sc_law_hands.nd rfl (Or.inl rfl) (pe_lst pa_nil))
      (pss_cons (ps_for PassesOwn.never rfl (pi_enumK K rfl (by rfl) T.m_enumerate (pa_cons (pv 2) pa_nil)) (pg_tupK K rfl rfl (pgs_cons (pg_name (i := 5) sc_law_hands.nd rfl (Or.inl rfl)) (pgs_cons (pg_name (i := 6) sc_law_hands.nd rfl (Or.inl rfl)) pgs_nil)))
        (pss_cons (ps_if (pt_cmpR op_eq (pv 6) pe_str (nomark _)) (pss_cons (ps_set (i := 7) sc_law_hands.nd rfl (Or.inl rfl) (pe_callB (call_len_seqK K rfl) (by rfl) T.m_len (by decide +kernel) (pa_cons (pe_lc (own := [("_law_other", 8)]) (g := gName 8) (by rfl) sc_law_hands.nd (pi_listK K rfl (pe_slice (sl_listK K rfl) (pv 2) (po_some (pe_op op_add (pv 5) pe_int)) po_none)) (blkOk_by (own := [("_law_other", 8)]) (N := N_law_hands) (sc := defScope s_law_hands) (by decide +kernel)) (fun _ _ _ _ _ => (pg_name (i := 8) sc_law_hands.nd rfl (Or.inl rfl))) (fun _ _ _ _ _ => pts_one (pt_cmpR op_ne (pv 8) pe_str (nomark _))) (fun _ _ _ _ _ => (pv 8))) pa_nil)))
      (pss_cons (ps_set (i := 9) sc_law_hands.nd rfl (Or.inl rfl) (pe_call G_law_rule (hr.mono (by decide)) (by rfl) m_law_rule F_law_rule.kp b_law_rule .nil pass0 (pa_cons (pv 0) (pa_cons (pe_op op_sub (pv 3) (pv 7)) pa_nil))))
      (pss_one (ps_expr (pe_bmK K rfl PySem.F.plainAttrs_list PySem.F.slot_list_append PySem.F.type_list_append mt_append (pv 4) (pa_cons (pe_tup (pa_cons (pv 9) (pa_cons (pe_call G_law_pick (hr.mono (by decide)) (by rfl) m_law_pick F_law_pick.kp b_law_pick .nil pass0 (pa_cons (pv 0) (pa_cons (pe_ix (ix_listK K rfl) (pe_lst (pa_cons pe_int (pa_cons pe_int (pa_cons pe_int pa_nil)))) (pe_call G_law_pick (hr.mono (by decide)) (by rfl) m_law_pick F_law_pick.kp b_law_pick .nil pass0 (pa_cons (pv 0) (pa_cons pe_int pa_nil))) (fun _ _ => rfl)) pa_nil))) pa_nil))) pa_nil)))))) (pss_one (ps_expr (pe_bmK K rfl PySem.F.plainAttrs_list PySem.F.slot_list_append PySem.F.type_list_append mt_append (pv 4) (pa_cons (pe_tup (pa_cons (pe_tup (pa_cons (pv 6) pa_nil)) (pa_cons pe_int pa_nil))) pa_nil)))))
      (pss_one (ps_set (i := 3) sc_law_hands.nd rfl (Or.inl rfl) (pe_op op_sub (pv 3) (pe_call G_law_needs (hr.mono (by decide)) (by rfl) m_law_needs F_law_needs.kp b_law_needs .nil pass0 (pa_cons (pe_ix (ix_tupK K rfl) (pe_ix (ix_listK K rfl) (pv 4) (pe_un un_neg pe_int) (fun _ _ => rfl)) pe_int (fun _ _ => rfl)) pa_nil)))))))
      (pss_one (ps_ret (pv 4)))))) R1 ?tail1))), ?_⟩
  case tail1 =>
    rintro D' σ' H1 ⟨eD, sl, ss, rfl, hsl, nsl, hlen, hhand, hall, F1, B1⟩
    refine ⟨(by show 0 ≤ sizeLine; decide), fun hh nhh => ?_⟩
    have I0 : HInv f c sl hh ss H (upd H1 hh (.lst [])) 0 [] [] 20 :=
      { fl := F1.new nhh, bt := B1.new nhh, hsl := same_new nhh _ _ hsl, hhh := upd_same, al := .nil, len := rfl, good := (fun _ h => nomatch h), lf := by have := cnt_le (ss.drop 0); rw [List.length_drop] at this; omega, sum := rfl, nz := (fun _ h => nomatch h), one := (fun h => nomatch h), n1 := nsl, n2 := ne_of_none hsl nhh, n3 := F1.ne nhh, n4 := F1.nec nhh, n5 := B1.none nhh (F1.ne nhh) }
    refine ⟨_, rfl, sl, _, rfl, SqL.of I0.hsl, for_it (n := ss.length) (fun i σ H2 => ∃ (vs : List V) (hs : List HR) (left : Int) (v5 v6 v7 v8 v9 : Option V), σ = [some (.ref f), some (.int m), some (.ref sl), some (.int left), some (.ref hh), v5, v6, v7, v8, v9] ∧ HInv f c sl hh ss H H2 i vs hs left)
      ⟨[], [], 20, none, none, none, none, none, rfl, I0⟩ ?_ ?_ ?_ ?_⟩
    · rintro i σ H2 hi ⟨vs, hs, left, v5, v6, v7, v8, v9, rfl, I⟩
      exact ⟨_, _, SqL.of I.hsl, by rw [List.getElem?_map, List.getElem?_eq_getElem hi]; rfl⟩
    · rintro σ H2 ⟨vs, hs, left, v5, v6, v7, v8, v9, rfl, I⟩
      exact ⟨_, SqL.of I.hsl, by rw [List.length_map]; exact Nat.le_refl _⟩
    · rintro i x σ H2 H3 hi ⟨vs, hs, left, v5, v6, v7, v8, v9, rfl, I⟩ ⟨t, y, rfl, nt, rfl, fy⟩
      have ei : ss[i]? = some ss[i] := List.getElem?_eq_getElem hi
      obtain ⟨sd, hsd⟩ : ∃ sd, sd = ss[i] := ⟨_, rfl⟩
      rw [← hsd] at ei
      have ey : y = V.str sd := by
        have := fy _ (SqL.of I.hsl)
        rw [List.getElem?_map, ei] at this
        exact (Option.some.inj this).symm
      subst ey
      have I1 := I.new (o := .tup [V.int ((i : Nat) : Int), V.str sd]) nt
      have hc1 := cnt_cons ei
      have hl := I.lf
      have sz : vs.length < sizeLine := small1000 (by rw [I.al.length, I.len]; omega)
      refine ⟨t, _, rfl, SqT.of upd_same, rfl, _, _, rfl, _, _, rfl, rfl, ?_⟩
      refine ⟨_, rfl, rfl, _, rfl, if_str (fun e => ?_) (fun e => ?_)⟩
      · -- a hand
        refine ⟨_, rfl, _, rfl, _, _, rfl, rfl, _, rfl, sl, _, rfl, SqL.of I1.hsl, fun cp ncp => ?_⟩
        have I2 := I1.new (o := .lst (cutV (ss.map V.str) (some (((i : Nat) : Int) + 1)) none)) ncp
        have ecut : cutV (ss.map V.str) (some (((i : Nat) : Int) + 1)) none = (ss.drop (i + 1)).map V.str := by
          rw [show ((i : Nat) : Int) + 1 = ((i + 1 : Nat) : Int) by omega, cut_drop, List.map_drop]
        refine ⟨cp, rfl, ⟨_, SqL.of upd_same⟩, fun D nD => lc_list (K := K) (a := cp) (xs := cutV (ss.map V.str) (some (((i : Nat) : Int) + 1)) none) (fun j H5 => ∃ acc : List V, H5 D = some (.lst acc) ∧ acc.length = cnt ((ss.drop (i + 1)).take j) ∧ H5 cp = some (.lst (cutV (ss.map V.str) (some (((i : Nat) : Int) + 1)) none)) ∧ HInv f c sl hh ss H H5 i vs hs left ∧ D ≠ cp ∧ D ≠ f ∧ D ≠ c ∧ D ≠ sl ∧ D ≠ hh ∧ H D = Option.none)
          ⟨[], upd_same, rfl, same_new nD _ _ upd_same, I2.new nD, (ne_of_none upd_same nD).symm, I2.fl.ne nD, I2.fl.nec nD, (ne_of_none I2.hsl nD).symm, (ne_of_none I2.hhh nD).symm, I2.bt.none nD (I2.fl.ne nD)⟩ (fun j H5 _ ⟨_, _, _, h, _⟩ => SqL.of h) ?_ ?_⟩
        · rintro j z H5 hz ⟨acc, hD, hacc, hcp, I5, d1, d2, d3, d4, d5, d6⟩
          rw [ecut, List.getElem?_map] at hz
          cases ez : (ss.drop (i + 1))[j]? with
          | none => rw [ez] at hz; cases hz
          | some so =>
            rw [ez] at hz
            obtain rfl : V.str so = z := Option.some.inj hz
            refine ⟨rfl, _, rfl, rfl, _, rfl, if_bl (fun k => ?_) (fun k => ?_)⟩
            · have k2 : ¬ so = "in" := fun y => by
                rw [y] at k
                exact absurd k (by decide +kernel)
              refine ⟨_, rfl, acc, hD, ?_, acc ++ [V.str so], upd_same, ?_, by rw [upd_ne d1.symm]; exact hcp, ?_, d1, d2, d3, d4, d5, d6⟩
              · rw [hacc]
                have := cnt_le ((ss.drop (i + 1)).take j)
                rw [List.length_take, List.length_drop] at this
                exact small1000 (by omega)
              · rw [List.length_append, hacc, List.take_add_one, ez]
                unfold cnt
                rw [List.filter_append, List.length_append]
                simp [k2]
              · exact { I5 with fl := I5.fl.lst d2 d3, bt := I5.bt.own d6, hsl := by rw [upd_ne d4.symm]; exact I5.hsl, hhh := by rw [upd_ne d5.symm]; exact I5.hhh, al := I5.al.imp fun _ _ y => y.keep (TK.lst hD) }
            · have k2 : so = "in" := by
                by_cases y : so = "in"
                · exact y
                · have k3 : (!decide (V.str so = V.str "in")) = false := k
                  rw [decide_eq_false (fun y2 => y (V.str.inj y2))] at k3
                  cases k3
              refine ⟨acc, hD, ?_, hcp, I5, d1, d2, d3, d4, d5, d6⟩
              rw [hacc, List.take_add_one, ez]
              unfold cnt
              rw [List.filter_append, List.length_append]
              simp [k2]
        · rintro H5 ⟨acc, hD, hacc, hcp, I5, d1, d2, d3, d4, d5, d6⟩
          have hacc2 : acc.length = cnt (ss.drop (i + 1)) := by
            rw [hacc, List.take_of_length_le]
            rw [ecut, List.length_map]
            exact Nat.le_refl _
          have hm0 : 0 ≤ left - ((acc.length : Nat) : Int) := by
            have hne : ¬ sd = "in" := by rw [e]; decide +kernel
            rw [hacc2]
            rw [hc1, if_neg hne] at hl
            omega
          refine ⟨D, _, rfl, .inl (SqL.of hD), ?_⟩
          refine ⟨_, rfl, _, rfl, _, rfl, _, _, rfl, rfl, f, c, _, rfl, hm0, I5.fl, fun r hR H6 hr6 gR n1 n0 mo F6 B6 => ?_⟩
          have I6 := I5.but F6 B6
          refine ⟨_, rfl, .inl ⟨rfl, _, SqL.of I6.hhh⟩, _, rfl, _, rfl, (by show 3 ≤ sizeLine; decide), fun ml nml => ?_⟩
          have I7 := I6.new (o := .lst [V.int 5, V.int 5, V.int 31]) nml
          refine ⟨_, rfl, f, c, 3, rfl, by decide, by decide +kernel, I7.fl, fun z H8 z0 z3 F8 B8 => ?_⟩
          have I8 := I7.but F8 B8
          have hml := B8 _ _ upd_same (I6.fl.ne nml)
          obtain ⟨mm, hmm, mk⟩ : ∃ mm : Int, atI [V.int 5, V.int 5, V.int 31] z = some (.int mm) ∧ (mm = 5 ∨ mm = 31) := by
            have : z = 0 ∨ z = 1 ∨ z = 2 := by omega
            rcases this with rfl | rfl | rfl
            · exact ⟨5, rfl, .inl rfl⟩
            · exact ⟨5, rfl, .inl rfl⟩
            · exact ⟨31, rfl, .inr rfl⟩
          refine ⟨ml, _, _, _, rfl, rfl, SqL.of hml, hmm, f, c, mm, rfl, by omega, (by rcases mk with rfl | rfl <;> decide +kernel), I8.fl, fun mo2 H9 o0 o1 F9 B9 => ?_⟩
          have I9 := I8.but F9 B9
          refine ⟨(by show 2 ≤ sizeLine; decide), fun t2 nt2 => ?_⟩
          have I10 := I9.new (o := .tup [V.ref r, V.int mo2]) nt2
          have sz10 : vs.length < sizeLine := sz
          refine ⟨hh, _, _, rfl, rfl, I10.hhh, sz10, ?_⟩
          have k9 : TK H6 H9 := ((TK.new nml).trans (TK.but I7.fl B8)).trans (TK.but I8.fl B9)
          have hx : HandAt (upd H9 t2 (.tup [V.ref r, V.int mo2])) (V.ref t2) ⟨hR.wd, hR.no, mo2⟩ := ⟨t2, r, rfl, upd_same, TK.new nt2 _ _ (k9 _ _ hr6)⟩
          have gd : GoodHand ⟨hR.wd, hR.no, mo2⟩ := ⟨.inl ⟨gR.wd, gR.no, gR.big⟩, o0, (show mo2 ≤ 30 by omega)⟩
          have nout : hR.wd ≠ "out" := fun y => by
            have := gR.wd
            rw [y] at this
            exact absurd this (by decide +kernel)
          have I11 := I10.step (h := ⟨hR.wd, hR.no, mo2⟩) hx gd n0 (by show needs hR.wd + _ ≤ left; rw [hacc2] at n1; omega) ei (fun _ => nout)
          refine ⟨_, rfl, _, rfl, 1, rfl, hh, _, -1, _, rfl, rfl, SqL.of I11.hhh, atI_last _ _, t2, _, _, _, rfl, rfl, SqT.of (TK.lst I10.hhh _ _ upd_same), atI_nat (j := 0) rfl, r, hR.wd, _, rfl, SqT.of (TK.lst I10.hhh _ _ (TK.new nt2 _ _ (k9 _ _ hr6))), fun H12 s12 => ⟨_, _, rfl, rfl, ?_⟩⟩
          exact ⟨_, _, _, _, _, _, _, _, rfl, I11.same s12⟩
      · -- a door
        refine ⟨_, rfl, .inl ⟨rfl, _, SqL.of I1.hhh⟩, _, rfl, (by show 1 ≤ sizeLine; decide), fun r nr => ⟨(by show 2 ≤ sizeLine; decide), fun t2 nt2 => ?_⟩⟩
        have I2 := (I1.new (o := .tup [V.str sd]) nr).new (o := .tup [V.ref r, V.int 0]) nt2
        refine ⟨hh, _, _, rfl, rfl, I2.hhh, sz, ?_⟩
        have hsd2 : sd = "in" ∨ sd = "out" := by
          rcases hall sd (List.mem_of_getElem? ei) with y | y | y
          · exact .inl y
          · exact .inr y
          · exact absurd y e
        have hn : needs sd = (if sd = "in" then 0 else 1) := by
          rcases hsd2 with y | y <;> rw [y] <;> decide +kernel
        have hx : HandAt (upd (upd (upd H2 t (.tup [V.int ((i : Nat) : Int), V.str sd])) r (.tup [V.str sd])) t2 (.tup [V.ref r, V.int 0])) (V.ref t2) ⟨sd, none, 0⟩ := ⟨t2, r, rfl, upd_same, same_new nt2 _ _ upd_same⟩
        have I3 := I2.step (h := ⟨sd, none, 0⟩) hx ⟨.inr ⟨hsd2, rfl⟩, (show (0 : Int) ≤ 0 by decide), (show (0 : Int) ≤ 30 by decide)⟩ (by show 0 ≤ needs sd; rw [hn]; split <;> decide) (by
          show needs sd + _ ≤ left
          rw [hn]
          rw [hc1] at hl
          by_cases y : sd = "in"
          · rw [if_pos y] at hl ⊢; omega
          · rw [if_neg y] at hl ⊢; omega) ei (fun y => absurd y e)
        refine ⟨_, rfl, _, rfl, 1, rfl, hh, _, -1, _, rfl, rfl, SqL.of I3.hhh, atI_last _ _, t2, _, _, _, rfl, rfl, SqT.of (TK.lst I2.hhh _ _ upd_same), atI_nat (j := 0) rfl, r, sd, _, rfl, SqT.of (TK.lst I2.hhh _ _ (same_new nt2 _ _ upd_same)), fun H12 s12 => ⟨_, _, rfl, rfl, ?_⟩⟩
        exact ⟨_, _, _, _, _, _, _, _, rfl, I3.same s12⟩
    · rintro σ H2 ⟨vs, hs, left, v5, v6, v7, v8, v9, rfl, I⟩
      refine ⟨_, rfl, ?_⟩
      rw [eD]
      refine q hh vs hs H2 I.n5 I.hhh I.al ⟨by rw [I.len]; exact hlen, I.good, ?_, I.nz, I.one (by rw [List.take_length]; exact hhand)⟩ I.fl I.bt
      have := I.sum
      have := I.lf
      omega
  refine ⟨(by show 1 ≤ sizeLine; decide), fun l1 nl1 => ?_⟩
  refine ⟨_, rfl, f, c, 3, rfl, by decide, by decide +kernel, hF.new nl1, fun v1 H1 a1 b1 F1 B1 => ?_⟩
  have g1 := B1 _ _ upd_same (hF.ne nl1)
  have small : ∀ v : Int, 0 ≤ v → v ≤ 8 → [V.str "in"].length * v.toNat ≤ sizeLine := fun v v0 v8 => little (by show 1 * v.toNat ≤ 1000; omega)
  refine ⟨l1, v1, _, rfl, rfl, g1, by omega, by omega, small v1 a1 (by omega), fun p1 np1 => ?_⟩
  rw [flat_rep]
  have F2 := F1.new (o := .lst (List.replicate v1.toNat (V.str "in"))) np1
  refine ⟨(by show 1 ≤ sizeLine; decide), fun l2 nl2 => ?_⟩
  refine ⟨_, rfl, f, c, 3, rfl, by decide, by decide +kernel, F2.new nl2, fun v2 H3 a2 b2 F3 B3 => ?_⟩
  have g2 := B3 _ _ upd_same (F2.ne nl2)
  have h1 := B3 _ _ (same_new nl2 _ _ upd_same) (F1.ne np1)
  refine ⟨l2, v2, _, rfl, rfl, g2, by omega, by omega, small v2 a2 (by omega), fun p2 np2 => ?_⟩
  rw [flat_rep]
  have F4 := F3.new (o := .lst (List.replicate v2.toNat (V.str "out"))) np2
  refine ⟨p1, p2, _, _, rfl, rfl, same_new np2 _ _ h1, upd_same, ?_, fun p3 np3 => ?_⟩
  · rw [List.length_replicate, List.length_replicate]; exact little (by omega)
  have F5 := F4.new (o := .lst (List.replicate v1.toNat (V.str "in") ++ List.replicate v2.toNat (V.str "out"))) np3
  refine ⟨(by show 1 ≤ sizeLine; decide), fun l4 nl4 => ⟨_, rfl, l4, m, _, rfl, rfl, upd_same, by omega, by omega, small m (by omega) m8, fun p5 np5 => ?_⟩⟩
  rw [flat_rep]
  have F6 := F5.new (o := .lst [V.str "hand"]) nl4
  have F7 := F6.new (o := .lst (List.replicate m.toNat (V.str "hand"))) np5
  refine ⟨p3, p5, _, _, rfl, rfl, same_new np5 _ _ (same_new nl4 _ _ upd_same), upd_same, ?_, fun p6 np6 => ?_⟩
  · rw [List.length_append, List.length_replicate, List.length_replicate, List.length_replicate]; exact little (by omega)
  refine ⟨_, rfl, _, rfl, f, c, p6, _, rfl, SqL.of upd_same, F7.ne np6, ?_, F7.new np6, fun p ys H8 hp np hy F8 B8 => ?_⟩
  · rw [List.length_append, List.length_append, List.length_replicate, List.length_replicate, List.length_replicate]; omega
  have ez : (List.replicate v1.toNat (V.str "in") ++ List.replicate v2.toNat (V.str "out")) ++ List.replicate m.toNat (V.str "hand") = ((List.replicate v1.toNat ("in" : Str) ++ List.replicate v2.toNat ("out" : Str)) ++ List.replicate m.toNat ("hand" : Str)).map V.str := by
    rw [List.map_append, List.map_append, List.map_replicate, List.map_replicate, List.map_replicate]
  rw [ez] at hp
  obtain ⟨ss, rfl, hss⟩ := perm_strs hp
  have pf : p ≠ f := fun y => by
    rw [y] at np
    obtain ⟨_, _, _, _, _, e1, _⟩ := F7.new (o := .lst ((List.replicate v1.toNat (V.str "in") ++ List.replicate v2.toNat (V.str "out")) ++ List.replicate m.toNat (V.str "hand"))) np6
    rw [e1] at np
    cases np
  refine ⟨rfl, p, ss, rfl, hy, pf, ?_, ?_, ?_, F8, But.trans ((((((((((But.refl.new nl1).trans B1).new np1).new nl2).trans B3).new np2).new np3).new nl4).new np5).new np6) B8⟩
  · rw [hss.length_eq, List.length_append, List.length_append, List.length_replicate, List.length_replicate, List.length_replicate]; omega
  · refine hss.mem_iff.mpr (List.mem_append_right _ (List.mem_replicate.mpr ⟨by omega, rfl⟩))
  · intro s hs
    rcases List.mem_append.mp (hss.mem_iff.mp hs) with hs | hs
    · rcases List.mem_append.mp hs with hs | hs
      · exact .inl (List.mem_replicate.mp hs).2
      · exact .inr (.inl (List.mem_replicate.mp hs).2)
    · exact .inr (.inr (List.mem_replicate.mp hs).2)
end
/-! ### rules as data -/
abbrev ruleD (h : HR) : List PyData := .str h.wd :: (match h.no with | none => [] | some n => [.int n])
theorem rule_dp {K : PySem.W.Frag} {H : Hp} {r : Addr} {h : HR} (e : H r = some (.tup (ruleL h))) : Dp K H (.ref r) (.tuple (ruleD h)) := by
  obtain ⟨wd, no, mom⟩ := h
  cases no with
  | none => exact .tup (SqT.of e) (.cons (.str _) .nil)
  | some n => exact .tup (SqT.of e) (.cons (.str _) (.cons (.int _) .nil))
theorem rule_shaped {h : HR} (k : PyData.canLay0 (.str h.wd) = true) : SeqAt.shaped (.tuple (ruleD h)) = true := by
  obtain ⟨wd, no, mom⟩ := h
  have k : PyData.canLay0 (.str wd) = true := k
  cases no <;> simp [SeqAt.shaped, PyData.canLay0, PyData.canLayAll0, PyData.depth, PyData.depthAll] <;> simpa [PyData.canLay0] using k
theorem GoodHand.lay {h : HR} (g : GoodHand h) : PyData.canLay0 (.str h.wd) = true := by
  have : h.wd ∈ nine ∨ h.wd = "in" ∨ h.wd = "out" := g.1.elim (fun k => .inl k.wd) (fun k => .inr k.1)
  rcases this with k | k | k
  · unfold nine at k
    simp only [List.mem_cons, List.not_mem_nil, or_false] at k
    rcases k with k | k | k | k | k | k | k | k | k <;> rw [k] <;> decide +kernel
  · rw [k]; decide +kernel
  · rw [k]; decide +kernel
theorem one_shaped {z : Str} (k : PyData.canLay0 (.str z) = true) : SeqAt.shaped (.tuple [.str z]) = true := rule_shaped (h := ⟨z, none, 0⟩) k
theorem at0 {xs : List V} {i : Nat} {v : V} (h : xs[i]? = some v) : atI xs (0 + ((i : Nat) : Int)) = some v := by
  rw [Int.zero_add]
  exact atI_nat h
theorem rule_eqv (h : HR) (z : Str) : PyData.eqv (.tuple (ruleD h)) (.tuple [.str z]) = (decide (h.wd = z) && h.no.isNone) := by
  obtain ⟨wd, no, mom⟩ := h
  have e : (wd == z) = decide (wd = z) := by
    by_cases k : wd = z
    · rw [k, decide_eq_true rfl]; exact beq_self_eq_true z
    · rw [decide_eq_false k]; exact beq_eq_false_iff_ne.mpr k
  cases no with
  | none =>
    show (wd == z && true) = (decide (wd = z) && true)
    rw [e]
  | some n =>
    show (wd == z && false) = (decide (wd = z) && false)
    rw [Bool.and_false, Bool.and_false]
theorem GoodHand.door {h : HR} (g : GoodHand h) (z : Str) (hz : z = "in" ∨ z = "out") : (decide (h.wd = z) && h.no.isNone) = decide (h.wd = z) := by
  by_cases k : h.wd = z
  · rw [decide_eq_true k, Bool.true_and]
    rcases g.1 with g | g
    · have := g.wd
      rw [k] at this
      rcases hz with rfl | rfl <;> exact absurd this (by decide +kernel)
    · rw [g.2]; rfl
  · rw [decide_eq_false k]; rfl
/-! ### numbers in lists -/
abbrev nV (n : Nat) : V := .int (n : Nat)
def unN : V → Nat
  | .int i => i.toNat
  | _ => 0
def unI : V → Int
  | .int i => i
  | _ => 0
theorem perm_inv {α : Type} {f : α → V} {g : V → α} (k : ∀ a, g (f a) = a) {ys : List V} {zs : List α} (h : ys.Perm (zs.map f)) : ∃ ss : List α, ys = ss.map f ∧ ss.Perm zs := by
  refine ⟨ys.map g, ?_, ?_⟩
  · rw [List.map_map]
    symm
    refine (List.map_congr_left (g := id) fun y hy => ?_).trans (List.map_id _)
    obtain ⟨z, _, e⟩ := List.mem_map.mp (h.mem_iff.mp hy)
    subst e
    show f (g (f z)) = f z
    rw [k]
  · have q := h.map g
    rw [List.map_map] at q
    have e : zs.map (g ∘ f) = zs := (List.map_congr_left (g := id) fun z _ => k z).trans (List.map_id _)
    rw [e] at q
    exact q
def nd (hs : List HR) (j : Nat) : Nat := match hs[j]? with | some h => (needs h.wd).toNat | none => 0
def tkTo (hs : List HR) : Nat → List Nat
  | 0 => []
  | n + 1 => tkTo hs n ++ List.replicate (nd hs n) n
theorem tk_count (hs : List HR) (k : Nat) : ∀ n, (tkTo hs n).count k = if k < n then nd hs k else 0
  | 0 => by simp [tkTo]
  | n + 1 => by
    unfold tkTo
    rw [List.count_append, tk_count hs k n, List.count_replicate]
    by_cases h1 : k < n
    · have h2 : ¬ (n == k) = true := by simp; omega
      rw [if_pos h1, if_neg h2, if_pos (show k < n + 1 by omega), Nat.add_zero]
    · by_cases h2 : n = k
      · subst h2
        rw [if_neg h1, if_pos (beq_self_eq_true n), if_pos (show n < n + 1 by omega), Nat.zero_add]
      · have h3 : ¬ (n == k) = true := by simpa using h2
        rw [if_neg h1, if_neg h3, if_neg (show ¬ k < n + 1 by omega)]
theorem tk_mem (hs : List HR) : ∀ n k, k ∈ tkTo hs n → k < n
  | 0, k, h => nomatch h
  | n + 1, k, h => by
    rcases List.mem_append.mp h with h | h
    · exact Nat.lt_succ_of_lt (tk_mem hs n k h)
    · rw [(List.mem_replicate.mp h).2]; exact Nat.lt_succ_self n
theorem tk_len (hs : List HR) (z : ∀ h ∈ hs, 0 ≤ needs h.wd) : ∀ n, n ≤ hs.length → ((tkTo hs n).length : Int) = ((hs.take n).map fun h => needs h.wd).sum
  | 0, _ => rfl
  | n + 1, hn => by
    have e : hs[n]? = some hs[n] := List.getElem?_eq_getElem (by omega)
    unfold tkTo
    rw [List.length_append, List.length_replicate, List.take_add_one, e, List.map_append, List.sum_append, Int.natCast_add, tk_len hs z n (by omega)]
    unfold nd
    rw [e]
    have := z hs[n] (List.getElem_mem _)
    simp only [Option.toList, List.map_cons, List.map_nil, List.sum_cons, List.sum_nil]
    omega
structure RoomOk (hs : List HR) (bs : List BR) : Prop where
  hands : hs.length ≤ 12
  good : ∀ h ∈ hs, GoodHand h
  ends : ∀ b ∈ bs, b.one < hs.length ∧ b.to < hs.length
  out : ∀ b ∈ bs, ∀ h, hs[b.one]? = some h → h.wd ≠ "out"
  th : ∀ b ∈ bs, b.th.length ≤ 6 ∧ ∀ x ∈ b.th, Small x
  rank : ∃ rk : Nat → Int, ∀ b ∈ bs, b.th = [] → rk b.one < rk b.to
  count : ∀ k h, hs[k]? = some h → (((bs.map BR.to).count k : Nat) : Int) = needs h.wd
  many : bs.length ≤ 20
structure RoomAt (H : Hp) (r : Addr) (hs : List HR) (bs : List BR) : Prop where
  ex : ∃ (ha ba : Addr) (hv bv : List V), H r = some (.tup [.ref ha, .ref ba]) ∧ H ha = some (.tup hv) ∧ H ba = some (.tup bv) ∧ All2 (HandAt H) hv hs ∧ All2 (BeltAt H) bv bs
theorem RoomAt.keep {H H' : Hp} {r : Addr} {hs : List HR} {bs : List BR} (a : RoomAt H r hs bs) (k : TK H H') : RoomAt H' r hs bs := by
  obtain ⟨ha, ba, hv, bv, e1, e2, e3, a1, a2⟩ := a.ex
  exact ⟨ha, ba, hv, bv, k _ _ e1, k _ _ e2, k _ _ e3, a1.imp fun _ _ z => z.keep k, a2.imp fun _ _ z => z.keep k⟩
section
variable {P : Program} {w : World} {K : PySem.W.Frag} {mg : Str → Option Value} {base : Heap}
def sp_law_room (K : PySem.W.Frag) : Sp := fun vs H Q _ => ∃ (f c : Addr) (m : Int), vs = [.ref f, .int m] ∧ 1 ≤ m ∧ m ≤ 8 ∧ Flow H f c ∧
  ∀ (r : Addr) (hs : List HR) (bs : List BR) (H' : Hp), RoomAt H' r hs bs → RoomOk hs bs → 0 < hs.length → Flow H' f c → But f H H' → Q (.ref r) H'
/-- what stands while a room is drawn: the draws, the list of its hands -/
structure RI (f c hh : Addr) (H0 H : Hp) (xs : List V) (hs : List HR) : Prop where
  fl : Flow H f c
  bt : But f H0 H
  lh : H hh = some (.lst xs)
  al : All2 (HandAt H) xs hs
  n1 : hh ≠ f
  n2 : H0 hh = none
section
variable {f c hh : Addr} {H0 H H' : Hp} {xs : List V} {hs : List HR}
theorem RI.but (s : RI f c hh H0 H xs hs) (F : Flow H' f c) (b : But f H H') : RI f c hh H0 H' xs hs :=
  { s with fl := F, bt := s.bt.trans b, lh := b _ _ s.lh s.n1, al := s.al.imp fun _ _ k => k.keep (TK.but s.fl b) }
theorem RI.new {p : Addr} {o : HO} (s : RI f c hh H0 H xs hs) (n : H p = none) : RI f c hh H0 (upd H p o) xs hs :=
  { s with fl := s.fl.new n, bt := s.bt.new n, lh := same_new n _ _ s.lh, al := s.al.imp fun _ _ k => k.keep (TK.new n) }
theorem RI.same (s : RI f c hh H0 H xs hs) (k : Same H H') : RI f c hh H0 H' xs hs :=
  { s with fl := s.fl.same k, bt := s.bt.same k, lh := k _ _ s.lh, al := s.al.imp fun _ _ z => z.keep (TK.same k) }
theorem RI.lst {D : Addr} {as bs : List V} (s : RI f c hh H0 H xs hs) (h : H D = some (.lst as)) (d1 : D ≠ f) (d2 : D ≠ c) (d3 : D ≠ hh) (d4 : H0 D = none) : RI f c hh H0 (upd H D (.lst bs)) xs hs :=
  { s with fl := s.fl.lst d1 d2, bt := s.bt.own d4, lh := by rw [upd_ne d3.symm]; exact s.lh, al := s.al.imp fun _ _ z => z.keep (TK.lst h) }
end
theorem ok_law_room {f : Addr} {fd : FuncData} (F : Fun K "_law_room" "_law_room" s_law_room f fd) (T : Top K mg) : FnOk P w K mg base CX0 5 f fd ["_law_flow_here", "_law_most"] (sp_law_room K) := by
  obtain ⟨f_law_hands, fd_law_hands, F_law_hands, b_law_hands, m_law_hands⟩ := T.d_law_hands
  have G_law_hands := ok_law_hands (P := P) (w := w) (base := base) F_law_hands T
  obtain ⟨f_law_shuffled, fd_law_shuffled, F_law_shuffled, b_law_shuffled, m_law_shuffled⟩ := T.d_law_shuffled
  have G_law_shuffled := ok_law_shuffled (P := P) (w := w) (base := base) F_law_shuffled T
  obtain ⟨f_law_pick, fd_law_pick, F_law_pick, b_law_pick, m_law_pick⟩ := T.d_law_pick
  have G_law_pick := ok_law_pick (P := P) (w := w) (base := base) F_law_pick T
  obtain ⟨f_law_needs, fd_law_needs, F_law_needs, b_law_needs, m_law_needs⟩ := T.d_law_needs
  have G_law_needs := ok_law_needs (P := P) (w := w) (base := base) F_law_needs T
  obtain ⟨f_law_thing, fd_law_thing, F_law_thing, b_law_thing, m_law_thing⟩ := T.d_law_thing
  have G_law_thing := ok_law_thing (P := P) (w := w) (base := base) F_law_thing T
  refine F.ok sc_law_room (fun vs H Q E h => ?_) (fun cdv A outer s H vs Q E hr h => ?_)
  · obtain ⟨f, c, m, rfl, _⟩ := h
    rfl
  obtain ⟨f, c, m, rfl, m1, m8, hF, q⟩ := h
  have hm9 : m.natAbs.log2 < 9000 := by
    obtain ⟨j, rfl⟩ : ∃ j : Nat, m = (j : Int) := ⟨m.toNat, by omega⟩
    exact log_small (by omega)
  let R1 : TS := fun D' σ' H' => D'.rt = Q ∧ ∃ (hh rk gv : Addr) (xs : List V) (hs : List HR) (is : List Int) (gs : List Nat), σ' = [some (.ref f), some (.int m), some (.ref hh), some (.ref rk), some (.ref gv), none, none, none, none, none, none] ∧ RI f c hh H H' xs hs ∧ HandsOk hs ∧ H' rk = some (.lst (is.map V.int)) ∧ is.length = hs.length ∧ H' gv = some (.lst (gs.map nV)) ∧ gs ≠ [] ∧ gs.length ≤ 12 ∧ (∀ k ∈ gs, ∃ h, hs[k]? = some h ∧ h.wd ≠ "out") ∧ rk ≠ f ∧ gv ≠ f
  let R2 : TS := fun D' σ' H' => D'.rt = Q ∧ ∃ (hh rk gv tk : Addr) (xs : List V) (hs : List HR) (is : List Int) (gs ts : List Nat) (v5 : Option V), σ' = [some (.ref f), some (.int m), some (.ref hh), some (.ref rk), some (.ref gv), v5, some (.ref tk), none, none, none, none] ∧ RI f c hh H H' xs hs ∧ HandsOk hs ∧ H' rk = some (.lst (is.map V.int)) ∧ is.length = hs.length ∧ H' gv = some (.lst (gs.map nV)) ∧ gs ≠ [] ∧ gs.length ≤ 12 ∧ (∀ k ∈ gs, ∃ h, hs[k]? = some h ∧ h.wd ≠ "out") ∧ rk ≠ f ∧ gv ≠ f ∧ tk ≠ f ∧ H' tk = some (.lst (ts.map nV)) ∧ ts = tkTo hs hs.length
  refine ⟨_, (pss_cons (ps_set (i := 2) sc_law_room.nd rfl (Or.inr rfl) (pe_call G_law_hands (hr.mono (by decide)) (by rfl) m_law_hands F_law_hands.kp b_law_hands .nil pass0 (pa_cons (pv 0) (pa_cons (pe_op op_add pe_int (pe_call G_law_pick (hr.mono (by decide)) (by rfl) m_law_pick F_law_pick.kp b_law_pick .nil pass0 (pa_cons (pv 0) (pa_cons (pv 1) pa_nil)))) pa_nil))))
      (pss_cons (ps_set (i := 3) sc_law_room.nd rfl (Or.inl rfl) (pe_call G_law_shuffled (hr.mono (by decide)) (by rfl) m_law_shuffled F_law_shuffled.kp b_law_shuffled .nil pass0 (pa_cons (pv 0) (pa_cons (pe_listRg rfl (by rfl) T.m_list (prg_1 (by rfl) T.m_range (pe_callB (call_len_seqK K rfl) (by rfl) T.m_len (by decide +kernel) (pa_cons (pv 2) pa_nil)))) pa_nil))))
      (pss_cons (ps_setLc (i := 4) (own := [("_law_k", 5)]) (g := gName 5) (by rfl) sc_law_room.nd rfl rfl (sw_true rfl rfl rfl (by decide +kernel)) (pi_range1 (by rfl) T.m_range (pa_cons (pe_callB (call_len_seqK K rfl) (by rfl) T.m_len (by decide +kernel) (pa_cons (pv 2) pa_nil)) pa_nil)) (blkOk_by (own := [("_law_k", 5)]) (N := N_law_room) (sc := defScope s_law_room) (by decide +kernel)) (fun _ _ _ _ _ => (pg_name (i := 5) sc_law_room.nd rfl (Or.inl rfl))) (fun _ _ _ _ _ => pts_one (pt_cmpR (op_neDK K rfl hr.units) (pe_ix (ix_tupK K rfl) (pe_ix (ix_listK K rfl) (pv 2) (pv 5) (fun _ _ => rfl)) pe_int (fun _ _ => rfl)) (pe_tup (pa_cons pe_str pa_nil)) (nomark _))) (fun _ _ _ _ _ => (pv 5)))
      (PSs.to (pss_cons (ps_set (i := 6) sc_law_room.nd rfl (Or.inl rfl) (pe_lst pa_nil))
      (pss_cons (ps_for PassesOwn.never rfl (pi_range1 (by rfl) T.m_range (pa_cons (pe_callB (call_len_seqK K rfl) (by rfl) T.m_len (by decide +kernel) (pa_cons (pv 2) pa_nil)) pa_nil)) (pg_name (i := 5) sc_law_room.nd rfl (Or.inl rfl))
        (pss_one (ps_set (i := 6) sc_law_room.nd rfl (Or.inl rfl) (pe_op op_cat (pv 6) (pe_op op_rep (pe_lst (pa_cons (pv 5) pa_nil)) (pe_call G_law_needs (hr.mono (by decide)) (by rfl) m_law_needs F_law_needs.kp b_law_needs .nil pass0 (pa_cons (pe_ix (ix_tupK K rfl) (pe_ix (ix_listK K rfl) (pv 2) (pv 5) (fun _ _ => rfl)) pe_int (fun _ _ => rfl)) pa_nil)))))))
      (PSs.to (pss_cons (ps_set (i := 7) sc_law_room.nd rfl (Or.inl rfl) (pe_lst pa_nil))
      (pss_cons (ps_for PassesOwn.never rfl (pi_listK K rfl (pe_call G_law_shuffled (hr.mono (by decide)) (by rfl) m_law_shuffled F_law_shuffled.kp b_law_shuffled .nil pass0 (pa_cons (pv 0) (pa_cons (pv 6) pa_nil)))) (pg_name (i := 8) sc_law_room.nd rfl (Or.inl rfl))
        (pss_cons (ps_set (i := 9) sc_law_room.nd rfl (Or.inl rfl) (pe_ix (ix_listK K rfl) (pv 4) (pe_call G_law_pick (hr.mono (by decide)) (by rfl) m_law_pick F_law_pick.kp b_law_pick .nil pass0 (pa_cons (pv 0) (pa_cons (pe_callB (call_len_seqK K rfl) (by rfl) T.m_len (by decide +kernel) (pa_cons (pv 4) pa_nil)) pa_nil))) (fun _ _ => rfl)))
      (pss_cons (ps_set (i := 10) sc_law_room.nd rfl (Or.inl rfl) (pe_ix (ix_listK K rfl) (pe_lst (pa_cons pe_int (pa_cons pe_int (pa_cons pe_int (pa_cons pe_int (pa_cons pe_int (pa_cons pe_int (pa_cons pe_int (pa_cons pe_int pa_nil))))))))) (pe_call G_law_pick (hr.mono (by decide)) (by rfl) m_law_pick F_law_pick.kp b_law_pick .nil pass0 (pa_cons (pv 0) (pa_cons pe_int pa_nil))) (fun _ _ => rfl)))
      (pss_cons (ps_if (pt_cmpR op_ge (pe_ix (ix_listK K rfl) (pv 3) (pv 9) (fun _ _ => rfl)) (pe_ix (ix_listK K rfl) (pv 3) (pv 8) (fun _ _ => rfl)) (nomark _)) (pss_one (ps_set (i := 10) sc_law_room.nd rfl (Or.inl rfl) (pe_callB (call_max2 rfl) (by rfl) T.m_max (by decide +kernel) (pa_cons pe_int (pa_cons (pv 10) pa_nil))))) pss_nil)
      (pss_one (ps_expr (pe_bmK K rfl PySem.F.plainAttrs_list PySem.F.slot_list_append PySem.F.type_list_append mt_append (pv 7) (pa_cons (pe_tup (pa_cons (pv 9) (pa_cons (pv 8) (pa_cons (pe_callTy (call_tuple_ofK K rfl) (by rfl) T.m_tuple (by decide +kernel) (pa_cons (pe_lc (own := [("_law_k", 5)]) (g := gName 5) (tt := tYes) (by rfl) sc_law_room.nd (pi_range1 (by rfl) T.m_range (pa_cons (pv 10) pa_nil)) (blkOk_by (own := [("_law_k", 5)]) (N := N_law_room) (sc := defScope s_law_room) (by decide +kernel)) (fun _ _ _ _ _ => (pg_name (i := 5) sc_law_room.nd rfl (Or.inl rfl))) (fun _ _ _ _ _ => pts_nil) (fun _ _ _ _ _ => (pe_call G_law_thing (hr.mono (by decide)) (by rfl) m_law_thing F_law_thing.kp b_law_thing .nil pass0 (pa_cons (pv 0) pa_nil)))) pa_nil)) pa_nil)))) pa_nil))))))))
      (pss_one (ps_ret (pe_tup (pa_cons (pe_callTy (call_tuple_ofK K rfl) (by rfl) T.m_tuple (by decide +kernel) (pa_cons (pv 2) pa_nil)) (pa_cons (pe_callTy (call_tuple_ofK K rfl) (by rfl) T.m_tuple (by decide +kernel) (pa_cons (pv 7) pa_nil)) pa_nil))))))) R2 ?tail2))) R1 ?tail1)))), ?_⟩
  case tail2 =>
    rintro D' σ' H1 ⟨eD, hh, rk, gv, tk, xs, hs, is, gs, ts, v5, rfl, I1, ok, hrk, lis, hgv, gne, glen, gok, nrk, ngv, ntk, htk, ets⟩
    have hx : xs.length = hs.length := I1.al.length
    have len12 := ok.len
    have lts : ts.length ≤ 20 := by
      have a := tk_len hs ok.nz hs.length (Nat.le_refl _)
      rw [List.take_length, ← ets] at a
      have := ok.sum
      omega
    refine ⟨(by show 0 ≤ sizeLine; decide), fun bl nbl => ?_⟩
    have I2 := I1.new (o := .lst []) nbl
    refine ⟨_, rfl, _, rfl, f, c, tk, _, rfl, SqL.of (same_new nbl _ _ htk), ntk, by rw [List.length_map]; omega, I2.fl, fun sh ys H3 hp nsh hsh F3 B3 => ?_⟩
    obtain ⟨tt, rfl, htt⟩ := perm_inv (f := nV) (g := unN) (fun n => by show ((n : Nat) : Int).toNat = n; omega) hp
    have I3 := I2.but F3 B3
    have bf : bl ≠ f := I1.fl.ne nbl
    have bc : bl ≠ c := I1.fl.nec nbl
    have hbl3 := B3 _ _ upd_same bf
    have bsh : bl ≠ sh := fun e => by rw [← e, upd_same] at nsh; cases nsh
    have bnone : H bl = Option.none := I1.bt.none nbl bf
    have rank : Nat → Int := fun k => is.getD k 0
    refine ⟨sh, rfl, ⟨_, SqL.of hsh⟩, for_list (K := K) (a := sh) (xs := tt.map nV) (fun i σ H4 => ∃ (bv : List V) (bs : List BR) (v5 v8 v9 v10 : Option V), σ = [some (.ref f), some (.int m), some (.ref hh), some (.ref rk), some (.ref gv), v5, some (.ref tk), some (.ref bl), v8, v9, v10] ∧ RI f c hh H H4 xs hs ∧ H4 rk = some (.lst (is.map V.int)) ∧ H4 gv = some (.lst (gs.map nV)) ∧ H4 sh = some (.lst (tt.map nV)) ∧ H4 bl = some (.lst bv) ∧ All2 (BeltAt H4) bv bs ∧ bs.map BR.to = tt.take i ∧
        (∀ b ∈ bs, b.one < hs.length ∧ (∀ h, hs[b.one]? = some h → h.wd ≠ "out") ∧ b.th.length ≤ 6 ∧ (∀ x ∈ b.th, Small x) ∧ (b.th = [] → is.getD b.one 0 < is.getD b.to 0)))
      ⟨[], [], v5, none, none, none, rfl, I3, B3 _ _ (same_new nbl _ _ hrk) nrk, B3 _ _ (same_new nbl _ _ hgv) ngv, hsh, hbl3, .nil, rfl, (fun _ h => nomatch h)⟩ (fun i σ H4 _ ⟨_, _, _, _, _, _, _, _, _, _, h, _⟩ => SqL.of h) ?_ ?_⟩
    · rintro i y σ H4 hi ⟨bv, bs, v5, v8, v9, v10, rfl, I4, hrk4, hgv4, hsh4, hbl4, al, em, hb⟩
      rw [List.getElem?_map] at hi
      cases et : tt[i]? with
      | none => rw [et] at hi; cases hi
      | some to =>
      rw [et] at hi
      obtain rfl : nV to = y := Option.some.inj hi
      have toL : to < hs.length := tk_mem hs _ _ (by rw [← ets]; exact htt.mem_iff.mp (List.mem_of_getElem? et))
      have il : i < 20 := by have := (List.getElem?_eq_some_iff.mp et).1; rw [htt.length_eq] at this; omega
      have lb : bs.length = i := by
        have := congrArg List.length em
        rw [List.length_map, List.length_take, Nat.min_eq_left (Nat.le_of_lt (List.getElem?_eq_some_iff.mp et).1)] at this
        exact this
      have g0 : 0 < gs.length := List.length_pos_iff.mpr gne
      refine ⟨_, rfl, _, rfl, _, rfl, gv, _, rfl, .inl (SqL.of hgv4), f, c, _, rfl, (by rw [List.length_map]; omega), (by rw [List.length_map]; exact log_small (by omega)), I4.fl, fun z H5 z0 z1 F5 B5 => ?_⟩
      rw [List.length_map] at z1
      have I5 := I4.but F5 B5
      have hgv5 := B5 _ _ hgv4 ngv
      obtain ⟨one, eo, ho⟩ : ∃ one, atI (gs.map nV) z = some (nV one) ∧ one ∈ gs := by
        have hk : z.toNat < gs.length := by omega
        have ek : z = ((z.toNat : Nat) : Int) := by omega
        refine ⟨gs[z.toNat], ?_, List.getElem_mem _⟩
        have q2 : atI (gs.map nV) ((z.toNat : Nat) : Int) = some (nV gs[z.toNat]) := atI_nat (by rw [List.getElem?_map, List.getElem?_eq_getElem hk]; rfl)
        rw [← ek] at q2
        exact q2
      obtain ⟨ho1, eh1, hout⟩ := gok one ho
      have oneL : one < hs.length := (List.getElem?_eq_some_iff.mp eh1).1
      refine ⟨gv, _, _, _, rfl, rfl, SqL.of hgv5, eo, ?_⟩
      refine ⟨(by show 8 ≤ sizeLine; decide), fun tl ntl => ?_⟩
      have I6 := I5.new (o := .lst [V.int 0, V.int 0, V.int 0, V.int 1, V.int 1, V.int 2, V.int 3, V.int 6]) ntl
      refine ⟨_, rfl, f, c, 8, rfl, by decide, by decide +kernel, I6.fl, fun y2 H7 y0 y8 F7 B7 => ?_⟩
      have I7 := I6.but F7 B7
      have htl := B7 _ _ upd_same (I5.fl.ne ntl)
      obtain ⟨tr, htr, tr0, tr6⟩ : ∃ tr : Int, atI [V.int 0, V.int 0, V.int 0, V.int 1, V.int 1, V.int 2, V.int 3, V.int 6] y2 = some (.int tr) ∧ 0 ≤ tr ∧ tr ≤ 6 := by
        have : y2 = 0 ∨ y2 = 1 ∨ y2 = 2 ∨ y2 = 3 ∨ y2 = 4 ∨ y2 = 5 ∨ y2 = 6 ∨ y2 = 7 := by omega
        rcases this with rfl | rfl | rfl | rfl | rfl | rfl | rfl | rfl
        · exact ⟨0, rfl, by decide, by decide⟩
        · exact ⟨0, rfl, by decide, by decide⟩
        · exact ⟨0, rfl, by decide, by decide⟩
        · exact ⟨1, rfl, by decide, by decide⟩
        · exact ⟨1, rfl, by decide, by decide⟩
        · exact ⟨2, rfl, by decide, by decide⟩
        · exact ⟨3, rfl, by decide, by decide⟩
        · exact ⟨6, rfl, by decide, by decide⟩
      refine ⟨tl, _, _, _, rfl, rfl, SqL.of htl, htr, ?_⟩
      have k7 : But f H4 H7 := (B5.new ntl).trans B7
      have hrk7 := k7 _ _ hrk4 nrk
      have hgv7 := k7 _ _ hgv4 ngv
      have shf : sh ≠ f := fun e => by rw [e] at nsh; obtain ⟨_, _, _, _, _, e1, _⟩ := I2.fl; rw [e1] at nsh; cases nsh
      have hsh7 := k7 _ _ hsh4 shf
      have hbl7 := k7 _ _ hbl4 bf
      have tk7 : TK H4 H7 := (TK.but I4.fl B5).trans ((TK.new ntl).trans (TK.but I6.fl B7))
      have al7 : All2 (BeltAt H7) bv bs := al.imp fun _ _ z => z.keep tk7
      have r1 : (is.map V.int)[one]? = some (.int (is.getD one 0)) := by
        rw [List.getElem?_map, List.getD_eq_getElem?_getD, List.getElem?_eq_getElem (by omega)]; rfl
      have r2 : (is.map V.int)[to]? = some (.int (is.getD to 0)) := by
        rw [List.getElem?_map, List.getD_eq_getElem?_getD, List.getElem?_eq_getElem (by omega)]; rfl
      have bvl : bv.length = i := by rw [al.length, lb]
      -- the end of a turn, with so many trays
      refine ⟨_, rfl, _, rfl, rk, _, _, _, rfl, rfl, SqL.of hrk7, atI_nat r1, _, rfl, _, rfl, rk, _, _, _, rfl, rfl, SqL.of hrk7, atI_nat r2, _, _, rfl, rfl, _, rfl, if_bl (fun kk => ?_) (fun kk => ?_)⟩
      · refine ⟨_, rfl, _, _, rfl, ?_⟩
        generalize ht : (if tr > 1 then tr else 1) = tn
        have tn0 : 0 ≤ tn := by rw [← ht]; split <;> omega
        have tn6 : tn ≤ 6 := by rw [← ht]; split <;> omega
        have ttt : tn.toNat = 0 → is.getD one 0 < is.getD to 0 := fun e => by
          exfalso
          have : 1 ≤ tn := by rw [← ht]; split <;> omega
          omega
        refine ⟨_, rfl, .inl ⟨rfl, _, SqL.of hbl7⟩, _, rfl, _, rfl, _, rfl, _, rfl, by omega, by omega, fun D nD => lc_range (lo := 0) (n := tn.toNat) (fun j H8 => ∃ vs : List Int, vs.length = j ∧ H8 D = some (.lst (vs.map V.int)) ∧ (∀ x ∈ vs, Small x) ∧ RI f c hh H H8 xs hs ∧ But f H7 H8 ∧ TK H7 H8 ∧ D ≠ f ∧ D ≠ c ∧ D ≠ hh ∧ H D = Option.none ∧ H7 D = Option.none)
          ⟨[], rfl, upd_same, (fun _ h => nomatch h), I7.new nD, But.refl.new nD, TK.new nD, I7.fl.ne nD, I7.fl.nec nD, (ne_of_none I7.lh nD).symm, I7.bt.none nD (I7.fl.ne nD), nD⟩ ?_ ?_⟩
        · rintro j H8 hj ⟨vs, lv, hD, sm, I8, b8, t8, d1, d2, d3, d4, d5⟩
          refine ⟨rfl, yes_in ⟨_, rfl, f, c, rfl, I8.fl, fun x H9 sx F9 B9 => ⟨_, B9 _ _ hD d1, ?_, vs ++ [x], by rw [List.length_append, lv]; rfl, ?_, ?_, (I8.but F9 B9).lst (B9 _ _ hD d1) d1 d2 d3 d4, (b8.trans B9).own d5, (t8.trans (TK.but I8.fl B9)).trans (TK.lst (B9 _ _ hD d1)), d1, d2, d3, d4, d5⟩⟩⟩
          · rw [List.length_map, lv]; exact small1000 (by omega)
          · rw [upd_same, List.map_append]; rfl
          · intro y hy
            rcases List.mem_append.mp hy with hy | hy
            · exact sm y hy
            · obtain rfl : y = x := by simpa using hy
              exact sx
        · rintro H8 ⟨vs, lv, hD, sm, I8, b8, t8, d1, d2, d3, d4, d5⟩
          refine ⟨D, _, rfl, .inl ⟨SqL.of hD, fun g ng => ⟨(by show 3 ≤ sizeLine; decide), fun t nt => ?_⟩⟩⟩
          have I9 := (I8.new (o := .tup (vs.map V.int)) ng).new (o := .tup [nV one, nV to, V.ref g]) nt
          have hbl8 := same_new (o := .tup [nV one, nV to, V.ref g]) nt _ _ (same_new (o := .tup (vs.map V.int)) ng _ _ (b8 _ _ hbl7 bf))
          have t9 : TK H7 (upd (upd H8 g (.tup (vs.map V.int))) t (.tup [nV one, nV to, V.ref g])) := (t8.trans (TK.new ng)).trans (TK.new nt)
          have s9 : ∀ b o, H7 b = some o → b ≠ f → (upd (upd H8 g (.tup (vs.map V.int))) t (.tup [nV one, nV to, V.ref g])) b = some o := fun b o e n => same_new nt _ _ (same_new ng _ _ (b8 _ _ e n))
          have bh : bl ≠ hh := fun e => by
            have h1 := I1.lh
            rw [← e, nbl] at h1
            cases h1
          have brk : bl ≠ rk := fun e => by
            have h1 := hrk
            rw [← e, nbl] at h1
            cases h1
          have bgv : bl ≠ gv := fun e => by
            have h1 := hgv
            rw [← e, nbl] at h1
            cases h1
          refine ⟨bl, _, _, rfl, rfl, hbl8, small1000 (by rw [bvl]; omega), ?_⟩
          refine ⟨bv ++ [V.ref t], bs ++ [⟨one, to, vs⟩], _, _, _, _, rfl, I9.lst hbl8 bf bc bh bnone, ?_, ?_, ?_, upd_same, ?_, ?_, ?_⟩
          · rw [upd_ne brk.symm]; exact s9 _ _ hrk7 nrk
          · rw [upd_ne bgv.symm]; exact s9 _ _ hgv7 ngv
          · rw [upd_ne bsh.symm]; exact s9 _ _ hsh7 shf
          · exact ((al7.imp fun _ _ z => z.keep t9).snoc ⟨t, g, rfl, upd_same, same_new nt _ _ upd_same⟩).imp fun _ _ z => z.keep (TK.lst hbl8)
          · rw [List.map_append, em, List.take_add_one, et]; rfl
          · intro b hb2
            rcases List.mem_append.mp hb2 with hb2 | hb2
            · exact hb b hb2
            · obtain rfl : b = ⟨one, to, vs⟩ := by simpa using hb2
              refine ⟨oneL, fun h e => ?_, by show vs.length ≤ 6; omega, sm, fun e => ?_⟩
              · have e : hs[one]? = some h := e
                rw [eh1] at e
                cases e
                exact hout
              · have e : vs = [] := e
                rw [e] at lv
                exact ttt (by simpa using lv.symm)
      · obtain ⟨tn, ht⟩ : ∃ tn, tn = tr := ⟨_, rfl⟩
        rw [← ht]
        have tn0 : 0 ≤ tn := by omega
        have tn6 : tn ≤ 6 := by omega
        have ttt : tn.toNat = 0 → is.getD one 0 < is.getD to 0 := fun _ => by
          have : ¬ is.getD to 0 ≤ is.getD one 0 := of_decide_eq_false kk
          omega
        refine ⟨_, rfl, .inl ⟨rfl, _, SqL.of hbl7⟩, _, rfl, _, rfl, _, rfl, _, rfl, by omega, by omega, fun D nD => lc_range (lo := 0) (n := tn.toNat) (fun j H8 => ∃ vs : List Int, vs.length = j ∧ H8 D = some (.lst (vs.map V.int)) ∧ (∀ x ∈ vs, Small x) ∧ RI f c hh H H8 xs hs ∧ But f H7 H8 ∧ TK H7 H8 ∧ D ≠ f ∧ D ≠ c ∧ D ≠ hh ∧ H D = Option.none ∧ H7 D = Option.none)
          ⟨[], rfl, upd_same, (fun _ h => nomatch h), I7.new nD, But.refl.new nD, TK.new nD, I7.fl.ne nD, I7.fl.nec nD, (ne_of_none I7.lh nD).symm, I7.bt.none nD (I7.fl.ne nD), nD⟩ ?_ ?_⟩
        · rintro j H8 hj ⟨vs, lv, hD, sm, I8, b8, t8, d1, d2, d3, d4, d5⟩
          refine ⟨rfl, yes_in ⟨_, rfl, f, c, rfl, I8.fl, fun x H9 sx F9 B9 => ⟨_, B9 _ _ hD d1, ?_, vs ++ [x], by rw [List.length_append, lv]; rfl, ?_, ?_, (I8.but F9 B9).lst (B9 _ _ hD d1) d1 d2 d3 d4, (b8.trans B9).own d5, (t8.trans (TK.but I8.fl B9)).trans (TK.lst (B9 _ _ hD d1)), d1, d2, d3, d4, d5⟩⟩⟩
          · rw [List.length_map, lv]; exact small1000 (by omega)
          · rw [upd_same, List.map_append]; rfl
          · intro y hy
            rcases List.mem_append.mp hy with hy | hy
            · exact sm y hy
            · obtain rfl : y = x := by simpa using hy
              exact sx
        · rintro H8 ⟨vs, lv, hD, sm, I8, b8, t8, d1, d2, d3, d4, d5⟩
          refine ⟨D, _, rfl, .inl ⟨SqL.of hD, fun g ng => ⟨(by show 3 ≤ sizeLine; decide), fun t nt => ?_⟩⟩⟩
          have I9 := (I8.new (o := .tup (vs.map V.int)) ng).new (o := .tup [nV one, nV to, V.ref g]) nt
          have hbl8 := same_new (o := .tup [nV one, nV to, V.ref g]) nt _ _ (same_new (o := .tup (vs.map V.int)) ng _ _ (b8 _ _ hbl7 bf))
          have t9 : TK H7 (upd (upd H8 g (.tup (vs.map V.int))) t (.tup [nV one, nV to, V.ref g])) := (t8.trans (TK.new ng)).trans (TK.new nt)
          have s9 : ∀ b o, H7 b = some o → b ≠ f → (upd (upd H8 g (.tup (vs.map V.int))) t (.tup [nV one, nV to, V.ref g])) b = some o := fun b o e n => same_new nt _ _ (same_new ng _ _ (b8 _ _ e n))
          have bh : bl ≠ hh := fun e => by
            have h1 := I1.lh
            rw [← e, nbl] at h1
            cases h1
          have brk : bl ≠ rk := fun e => by
            have h1 := hrk
            rw [← e, nbl] at h1
            cases h1
          have bgv : bl ≠ gv := fun e => by
            have h1 := hgv
            rw [← e, nbl] at h1
            cases h1
          refine ⟨bl, _, _, rfl, rfl, hbl8, small1000 (by rw [bvl]; omega), ?_⟩
          refine ⟨bv ++ [V.ref t], bs ++ [⟨one, to, vs⟩], _, _, _, _, rfl, I9.lst hbl8 bf bc bh bnone, ?_, ?_, ?_, upd_same, ?_, ?_, ?_⟩
          · rw [upd_ne brk.symm]; exact s9 _ _ hrk7 nrk
          · rw [upd_ne bgv.symm]; exact s9 _ _ hgv7 ngv
          · rw [upd_ne bsh.symm]; exact s9 _ _ hsh7 shf
          · exact ((al7.imp fun _ _ z => z.keep t9).snoc ⟨t, g, rfl, upd_same, same_new nt _ _ upd_same⟩).imp fun _ _ z => z.keep (TK.lst hbl8)
          · rw [List.map_append, em, List.take_add_one, et]; rfl
          · intro b hb2
            rcases List.mem_append.mp hb2 with hb2 | hb2
            · exact hb b hb2
            · obtain rfl : b = ⟨one, to, vs⟩ := by simpa using hb2
              refine ⟨oneL, fun h e => ?_, by show vs.length ≤ 6; omega, sm, fun e => ?_⟩
              · have e : hs[one]? = some h := e
                rw [eh1] at e
                cases e
                exact hout
              · have e : vs = [] := e
                rw [e] at lv
                exact ttt (by simpa using lv.symm)
    · rintro σ H4 ⟨bv, bs, v5, v8, v9, v10, rfl, I4, hrk4, hgv4, hsh4, hbl4, al, em, hb⟩
      rw [List.length_map, List.take_length] at em
      have lb : bs.length = ts.length := by
        have := congrArg List.length em
        rw [List.length_map] at this
        rw [this, htt.length_eq]
      refine ⟨_, rfl, hh, _, rfl, .inl ⟨SqL.of I4.lh, fun a1 na1 => ⟨_, rfl, bl, _, rfl, .inl ⟨SqL.of (same_new na1 _ _ hbl4), fun a2 na2 => ⟨(by show 2 ≤ sizeLine; decide), fun a3 na3 => ?_⟩⟩⟩⟩⟩
      rw [eD]
      have k1 : TK H4 (upd (upd (upd H4 a1 (.tup xs)) a2 (.tup bv)) a3 (.tup [V.ref a1, V.ref a2])) := ((TK.new na1).trans (TK.new na2)).trans (TK.new na3)
      refine q a3 hs bs _ ⟨a1, a2, xs, bv, upd_same, same_new na3 _ _ (same_new na2 _ _ upd_same), same_new na3 _ _ upd_same, I4.al.imp fun _ _ z => z.keep k1, al.imp fun _ _ z => z.keep k1⟩ ⟨ok.len, ok.good, fun b hb2 => ⟨(hb b hb2).1, ?_⟩, fun b hb2 => (hb b hb2).2.1, fun b hb2 => ⟨(hb b hb2).2.2.1, (hb b hb2).2.2.2.1⟩, ⟨fun k => is.getD k 0, fun b hb2 => (hb b hb2).2.2.2.2⟩, fun k h hk => ?_, by omega⟩ (by obtain ⟨h1, hm1, _⟩ := ok.one; exact List.length_pos_of_mem hm1) (((I4.fl.new na1).new na2).new na3) (((I4.bt.new na1).new na2).new na3)
      · have : b.to ∈ bs.map BR.to := List.mem_map.mpr ⟨b, hb2, rfl⟩
        rw [em] at this
        exact tk_mem hs _ _ (by rw [← ets]; exact htt.mem_iff.mp this)
      · rw [em, htt.count_eq, ets, tk_count, if_pos (List.getElem?_eq_some_iff.mp hk).1]
        unfold nd
        rw [hk]
        have := ok.nz h (List.mem_of_getElem? hk)
        show (((needs h.wd).toNat : Nat) : Int) = needs h.wd
        omega
  case tail1 =>
    rintro D' σ' H1 ⟨eD, hh, rk, gv, xs, hs, is, gs, rfl, I1, ok, hrk, lis, hgv, gne, glen, gok, nrk, ngv⟩
    refine ⟨(by show 0 ≤ sizeLine; decide), fun tk ntk => ?_⟩
    have I2 := I1.new (o := .lst []) ntk
    have hx : xs.length = hs.length := I1.al.length
    refine ⟨_, rfl, hh, _, rfl, .inl (SqL.of I2.lh), _, rfl, by omega, (by rw [hx]; have := ok.len; omega), for_range (lo := 0) (n := xs.length) (fun i σ H2 => ∃ (tk : Addr) (v5 : Option V), σ = [some (.ref f), some (.int m), some (.ref hh), some (.ref rk), some (.ref gv), v5, some (.ref tk), none, none, none, none] ∧ RI f c hh H H2 xs hs ∧ H2 rk = some (.lst (is.map V.int)) ∧ H2 gv = some (.lst (gs.map nV)) ∧ tk ≠ f ∧ H2 tk = some (.lst ((tkTo hs i).map nV)))
      ⟨tk, none, rfl, I2, same_new ntk _ _ hrk, same_new ntk _ _ hgv, I1.fl.ne ntk, upd_same⟩ ?_ ?_⟩
    · rintro i σ H2 hi ⟨tk, v5, rfl, I3, hrk3, hgv3, tf, htk⟩
      have eh : hs[i]? = some hs[i] := List.getElem?_eq_getElem (by omega)
      obtain ⟨x, ex, ⟨t, r, rfl, e1, e2⟩⟩ := I3.al.get eh
      have z0 := ok.nz _ (List.mem_of_getElem? eh)
      have zs : needs hs[i].wd ≤ 3 := by
        unfold needs
        split
        · decide
        · split
          · decide
          · split <;> decide
      have sz : (tkTo hs i).length ≤ 20 := by
        have a := tk_len hs ok.nz i (by omega)
        have b : ((hs.take i).map fun h => needs h.wd).sum ≤ (hs.map fun h => needs h.wd).sum := by
          have e : hs.map (fun h => needs h.wd) = (hs.take i).map (fun h => needs h.wd) ++ (hs.drop i).map (fun h => needs h.wd) := by rw [← List.map_append, List.take_append_drop]
          rw [e, List.sum_append]
          have : 0 ≤ ((hs.drop i).map fun h => needs h.wd).sum := by
            have hz : ∀ h ∈ hs.drop i, 0 ≤ needs h.wd := fun h hh => ok.nz h (List.mem_of_mem_drop hh)
            revert hz
            generalize hs.drop i = l
            intro hz
            induction l with
            | nil => decide
            | cons a l ih =>
              have := hz a (List.mem_cons_self ..)
              have := ih fun h hh => hz h (List.mem_cons_of_mem _ hh)
              rw [List.map_cons, List.sum_cons]
              omega
          omega
        have := ok.sum
        omega
      refine ⟨_, rfl, _, rfl, (by show 1 ≤ sizeLine; decide), fun l1 nl1 => ?_⟩
      have I4 := I3.new (o := .lst [V.int (0 + ((i : Nat) : Int))]) nl1
      refine ⟨_, rfl, _, rfl, hh, _, _, _, rfl, rfl, SqL.of I4.lh, at0 ex, t, _, _, _, rfl, rfl, SqT.of (same_new nl1 _ _ e1), atI_nat (j := 0) rfl, r, hs[i].wd, _, rfl, SqT.of (same_new nl1 _ _ e2), fun H5 s5 => ?_⟩
      have I5 := I4.same s5
      have g1 := s5 _ _ upd_same
      have g2 := s5 _ _ (same_new nl1 _ _ htk)
      refine ⟨l1, _, _, rfl, rfl, g1, by omega, by omega, little (by show 1 * (needs hs[i].wd).toNat ≤ 1000; omega), fun l2 nl2 => ?_⟩
      rw [flat_rep]
      have I6 := I5.new (o := .lst (List.replicate (needs hs[i].wd).toNat (V.int (0 + ((i : Nat) : Int))))) nl2
      refine ⟨tk, l2, _, _, rfl, rfl, same_new nl2 _ _ g2, upd_same, ?_, fun l3 nl3 => ?_⟩
      · rw [List.length_map, List.length_replicate]; exact little (by omega)
      refine ⟨l3, _, rfl, I6.new nl3, same_new nl3 _ _ (same_new nl2 _ _ (s5 _ _ (same_new nl1 _ _ hrk3))), same_new nl3 _ _ (same_new nl2 _ _ (s5 _ _ (same_new nl1 _ _ hgv3))), I6.fl.ne nl3, ?_⟩
      rw [upd_same]
      have e : nd hs i = (needs hs[i].wd).toNat := by unfold nd; rw [eh]
      rw [show tkTo hs (i + 1) = tkTo hs i ++ List.replicate (nd hs i) i from rfl, List.map_append, List.map_replicate, e, Int.zero_add]
    · rintro σ H2 ⟨tk, v5, rfl, I3, hrk3, hgv3, tf, htk⟩
      exact ⟨eD, hh, rk, gv, tk, xs, hs, is, gs, _, v5, rfl, I3, ok, hrk3, lis, hgv3, gne, glen, gok, nrk, ngv, tf, htk, by rw [hx]⟩
  refine ⟨_, rfl, _, rfl, _, rfl, f, c, m, rfl, by omega, hm9, hF, fun v1 H1 a1 b1 F1 B1 => ?_⟩
  refine ⟨_, _, rfl, rfl, f, c, _, rfl, by omega, by omega, F1, fun hh xs hs H2 nhh hhh al ok F2 B2 => ?_⟩
  have hx : xs.length = hs.length := al.length
  have len12 := ok.len
  have nf : hh ≠ f := F1.ne nhh
  have I2 : RI f c hh H H2 xs hs := ⟨F2, B1.trans B2, hhh, al, nf, B1.none nhh nf⟩
  -- ranks
  refine ⟨_, rfl, _, rfl, hh, _, rfl, .inl (SqL.of I2.lh), _, rfl, ⟨by omega, by omega, by omega, by omega, by omega⟩, fun rg nrg => ?_⟩
  have I3 := I2.new (o := .lst (rgV 0 ((xs.length : Nat) : Int))) nrg
  refine ⟨f, c, rg, _, rfl, SqL.of upd_same, I2.fl.ne nrg, ?_, I3.fl, fun rk ys H4 hp nrk hrk F4 B4 => ?_⟩
  · rw [rgV_length]; omega
  have erg : rgV 0 ((xs.length : Nat) : Int) = ((List.range xs.length).map fun i => ((i : Nat) : Int)).map V.int := by
    unfold rgV
    rw [List.map_map, show (((xs.length : Nat) : Int) - 0).toNat = xs.length by omega]
    refine List.map_congr_left fun i _ => ?_
    show V.int (0 + ((i : Nat) : Int)) = V.int ((i : Nat) : Int)
    rw [Int.zero_add]
  rw [erg] at hp
  obtain ⟨is, rfl, his⟩ := perm_inv (f := V.int) (g := unI) (fun _ => rfl) hp
  have lis : is.length = hs.length := by rw [his.length_eq, List.length_map, List.length_range, hx]
  have I4 := I3.but F4 B4
  have rkf : rk ≠ f := I3.fl.ne nrk
  -- givers
  refine ⟨_, rfl, hh, _, rfl, .inl (SqL.of I4.lh), _, rfl, by omega, by omega, fun D nD => lc_range (lo := 0) (n := xs.length) (fun i H5 => ∃ gs : List Nat, H5 D = some (.lst (gs.map nV)) ∧ gs.length ≤ i ∧ RI f c hh H H5 xs hs ∧ H5 rk = some (.lst (is.map V.int)) ∧ (∀ k ∈ gs, ∃ h, hs[k]? = some h ∧ h.wd ≠ "out") ∧ (∀ k h, k < i → hs[k]? = some h → h.wd ≠ "out" → gs ≠ []) ∧ D ≠ f ∧ D ≠ c ∧ D ≠ hh ∧ D ≠ rk ∧ H D = Option.none)
    ⟨[], upd_same, Nat.le_refl _, I4.new nD, same_new nD _ _ hrk, (fun _ h => nomatch h), (fun k h hk => absurd hk (Nat.not_lt_zero _)), I4.fl.ne nD, I4.fl.nec nD, (ne_of_none I4.lh nD).symm, (ne_of_none hrk nD).symm, I4.bt.none nD (I4.fl.ne nD)⟩ ?_ ?_⟩
  · rintro i H5 hi ⟨gs, hD, lg, I5, hrk5, g1, g2, d1, d2, d3, d4, d5⟩
    have eh : hs[i]? = some hs[i] := List.getElem?_eq_getElem (by omega)
    obtain ⟨x, ex, ⟨t, r, rfl, e1, e2⟩⟩ := I5.al.get eh
    have gh := ok.good _ (List.mem_of_getElem? eh)
    refine ⟨rfl, _, rfl, _, rfl, hh, _, _, _, rfl, rfl, SqL.of I5.lh, at0 ex, t, _, _, _, rfl, rfl, SqT.of e1, atI_nat (j := 0) rfl, (by show 1 ≤ sizeLine; decide), fun o1 no1 => ?_⟩
    have I6 := I5.new (o := .tup [V.str "out"]) no1
    have hD6 : (upd H5 o1 (.tup [V.str "out"])) D = some (.lst (gs.map nV)) := same_new no1 _ _ hD
    refine ⟨_, _, rule_dp (same_new no1 _ _ e2), .tup (SqT.of upd_same) (.cons (.str _) .nil), rule_shaped gh.lay, one_shaped (by decide +kernel), _, rfl, ?_⟩
    rw [rule_eqv, gh.door "out" (.inr rfl)]
    by_cases k : hs[i].wd = "out"
    · rw [decide_eq_true k]
      refine if_bl (fun z => absurd z (by decide)) (fun _ => ⟨gs, hD6, by omega, I6, same_new no1 _ _ hrk5, g1, fun k' h' hk hk2 hk3 => ?_, d1, d2, d3, d4, d5⟩)
      by_cases y : k' = i
      · subst y
        rw [eh] at hk2
        cases hk2
        exact absurd k hk3
      · exact g2 k' h' (by omega) hk2 hk3
    · rw [decide_eq_false k]
      refine if_bl (fun _ => ⟨_, rfl, _, hD6, ?_, gs ++ [i], ?_, ?_, I6.lst hD6 d1 d2 d3 d5, ?_, ?_, fun _ _ _ _ _ z => by simp at z, d1, d2, d3, d4, d5⟩) (fun z => absurd z (by decide))
      · rw [List.length_map]; exact small1000 (by omega)
      · rw [upd_same, List.map_append, Int.zero_add]; rfl
      · rw [List.length_append]; show gs.length + 1 ≤ i + 1; omega
      · rw [upd_ne d4.symm]; exact same_new no1 _ _ hrk5
      · intro k' hk
        rcases List.mem_append.mp hk with hk | hk
        · exact g1 k' hk
        · obtain rfl : k' = i := by simpa using hk
          exact ⟨_, eh, k⟩
  · rintro H5 ⟨gs, hD, lg, I5, hrk5, g1, g2, d1, d2, d3, d4, d5⟩
    obtain ⟨h1, hm1, hm2⟩ := ok.one
    obtain ⟨k1, hk1⟩ := List.getElem?_of_mem hm1
    have k1l := (List.getElem?_eq_some_iff.mp hk1).1
    exact ⟨rfl, hh, rk, D, xs, hs, is, gs, rfl, I5, ok, hrk5, lis, hD, g2 k1 h1 (by omega) hk1 hm2, by omega, g1, rkf, d1⟩
end
/-! ### max, min of a list with a default -/
def rMaxDf (K : PySem.W.Frag) : List V → List V → Hp → VK → Prop := fun xs zs H Q => ∃ (a : Addr) (ns : List Int) (d : V), xs = [.ref a] ∧ zs = [d] ∧ SqL K H a (ns.map V.int) ∧ (ns = [] → Q d H) ∧ ∀ m, m ∈ ns → (∀ y ∈ ns, y ≤ m) → Q (.int m) H
def rMinDf (K : PySem.W.Frag) : List V → List V → Hp → VK → Prop := fun xs zs H Q => ∃ (a : Addr) (ns : List Int) (d : V), xs = [.ref a] ∧ zs = [d] ∧ SqL K H a (ns.map V.int) ∧ (ns = [] → Q d H) ∧ ∀ m, m ∈ ns → (∀ y ∈ ns, m ≤ y) → Q (.int m) H
theorem ints_val {ns : List Int} {its : List Value} (rv : Vals (ns.map V.int) its) : ∀ i v, its.toArray[i]? = some v → ∃ t, v = Value.int (ns.getD i 0) t := fun i v e => by
  rw [List.getElem?_toArray] at e
  have il : i < ns.length := by
    have h1 := (List.getElem?_eq_some_iff.mp e).1
    have h2 := rv.length
    rw [List.length_map] at h2
    omega
  obtain ⟨u, eu, t, ru⟩ := rv.get (i := i) (x := .int ns[i]) (by rw [List.getElem?_map, List.getElem?_eq_getElem il]; rfl)
  rw [e] at eu
  cases eu
  exact ⟨t, by rw [ru, List.getD_eq_getElem?_getD, List.getElem?_eq_getElem il]; rfl⟩
section
variable {X : Cx}
theorem cr_maxDf (K : PySem.W.Frag) (hk : X.K = K) (hc : X.calm = true) : CallRK X (.builtin "max") ["default"] (rMaxDf K) := by
  subst hk
  intro pins s σ H xs zs us ws Q I r r2 h
  obtain ⟨a, ns, d, rfl, rfl, hs, q0, q1⟩ := h
  obtain ⟨its, rv, hl, _⟩ := I.list hs
  rw [Vals.ref1 r]
  obtain ⟨dv, rfl, rd⟩ := vals1 r2
  have hh := I.ok.hd hc
  have ln : its.length = ns.length := by rw [← rv.length, List.length_map]
  show wpAny _ _ (call (.builtin "max") [.ref a] [(Str.ofString "default", dv)]) _ _ s
  refine PySem.call_max_walkD (PySem.W.iter_listW (A := X.A.in1) hh hl.isList fun s₂ e W st hfp hw hk => ?_)
  refine ⟨_, _, _, _, _, _, _, s.heap, (fun i j => decide (ns.getD i 0 > ns.getD j 0)), rfl, W, st, hfp, hw, hk, fun hz s' m => ?_, fun hp => ⟨fun i j vi vj s3 Q3 E3 _ p1 p2 q3 => ?_, fun v s' hP m => ?_⟩⟩
  · obtain ⟨h', tk, rfl, hk'⟩ := PySem.W.moved_old e rfl m
    refine ⟨d, H, I.kept hk', rd, q0 ?_⟩
    exact List.eq_nil_of_length_eq_zero (by have : its.toArray.size = 0 := hz; rw [List.size_toArray] at this; omega)
  · exact (CmpOf.ints_gt (fun i => ns.getD i 0) (ints_val rv)) i j vi vj s3 Q3 E3 p1 p2 q3
  · obtain ⟨h', tk, rfl, hk'⟩ := PySem.W.moved_old e rfl m
    have hp : 0 < its.length := by have : 0 < its.toArray.size := hp; rw [List.size_toArray] at this; exact this
    have hsz : its.toArray.size = its.length := List.size_toArray
    obtain ⟨t, rfl⟩ := ints_val rv _ v hP
    obtain ⟨h1, h2⟩ := argBest_gt (fun i => ns.getD i 0) (its.toArray.size - 1)
    refine ⟨.int _, H, I.kept hk', ⟨_, rfl⟩, q1 _ ?_ fun y hy => ?_⟩
    · have il : argBest (fun i j => decide (ns.getD i 0 > ns.getD j 0)) (its.toArray.size - 1) < ns.length := by omega
      rw [List.getD_eq_getElem?_getD, List.getElem?_eq_getElem il]
      exact List.getElem_mem _
    · obtain ⟨j, hj⟩ := List.getElem?_of_mem hy
      have jl := (List.getElem?_eq_some_iff.mp hj).1
      have := h2 j (by omega)
      rw [show ns.getD j 0 = y by rw [List.getD_eq_getElem?_getD, hj]; rfl] at this
      exact this
theorem cr_minDf (K : PySem.W.Frag) (hk : X.K = K) (hc : X.calm = true) : CallRK X (.builtin "min") ["default"] (rMinDf K) := by
  subst hk
  intro pins s σ H xs zs us ws Q I r r2 h
  obtain ⟨a, ns, d, rfl, rfl, hs, q0, q1⟩ := h
  obtain ⟨its, rv, hl, _⟩ := I.list hs
  rw [Vals.ref1 r]
  obtain ⟨dv, rfl, rd⟩ := vals1 r2
  have hh := I.ok.hd hc
  have ln : its.length = ns.length := by rw [← rv.length, List.length_map]
  show wpAny _ _ (call (.builtin "min") [.ref a] [(Str.ofString "default", dv)]) _ _ s
  refine PySem.call_min_walkD (PySem.W.iter_listW (A := X.A.in1) hh hl.isList fun s₂ e W st hfp hw hk => ?_)
  refine ⟨_, _, _, _, _, _, _, s.heap, (fun i j => decide (ns.getD i 0 < ns.getD j 0)), rfl, W, st, hfp, hw, hk, fun hz s' m => ?_, fun hp => ⟨fun i j vi vj s3 Q3 E3 _ p1 p2 q3 => ?_, fun v s' hP m => ?_⟩⟩
  · obtain ⟨h', tk, rfl, hk'⟩ := PySem.W.moved_old e rfl m
    refine ⟨d, H, I.kept hk', rd, q0 ?_⟩
    exact List.eq_nil_of_length_eq_zero (by have : its.toArray.size = 0 := hz; rw [List.size_toArray] at this; omega)
  · exact (CmpOf.ints_lt (fun i => ns.getD i 0) (ints_val rv)) i j vi vj s3 Q3 E3 p1 p2 q3
  · obtain ⟨h', tk, rfl, hk'⟩ := PySem.W.moved_old e rfl m
    have hp : 0 < its.length := by have : 0 < its.toArray.size := hp; rw [List.size_toArray] at this; exact this
    have hsz : its.toArray.size = its.length := List.size_toArray
    obtain ⟨t, rfl⟩ := ints_val rv _ v hP
    obtain ⟨h1, h2⟩ := argBest_lt (fun i => ns.getD i 0) (its.toArray.size - 1)
    refine ⟨.int _, H, I.kept hk', ⟨_, rfl⟩, q1 _ ?_ fun y hy => ?_⟩
    · have il : argBest (fun i j => decide (ns.getD i 0 < ns.getD j 0)) (its.toArray.size - 1) < ns.length := by omega
      rw [List.getD_eq_getElem?_getD, List.getElem?_eq_getElem il]
      exact List.getElem_mem _
    · obtain ⟨j, hj⟩ := List.getElem?_of_mem hy
      have jl := (List.getElem?_eq_some_iff.mp hj).1
      have := h2 j (by omega)
      rw [show ns.getD j 0 = y by rw [List.getD_eq_getElem?_getD, hj]; rfl] at this
      exact this
end
theorem filt_succ {p : Nat → Bool} (i : Nat) : (List.range (i + 1)).filter p = (List.range i).filter p ++ (if p i = true then [i] else []) := by
  rw [List.range_succ, List.filter_append]
  cases h : p i <;> simp [h]
theorem filt_len {p : Nat → Bool} (i : Nat) : ((List.range i).filter p).length ≤ i := by
  refine Nat.le_trans (List.length_filter_le ..) ?_
  rw [List.length_range]
  exact Nat.le_refl _
/-! ### slices and sums of tuples, whatever they are -/
theorem slA_of {K : PySem.W.Frag} {H : Hp} {a : Addr} {xs : List V} {lo hi : Option Int} {Q : VK} (h : H a = some (.tup xs)) (k : ∀ (p : Addr) (H' : Hp), H' p = some (.tup (cutV xs lo hi)) → Same H H' → Q (.ref p) H') : rSlA K (.ref a) lo hi H Q := by
  refine ⟨a, xs, rfl, SqT.of h, fun z => k a H ?_ (Same.refl _), fun _ p np => k p _ upd_same (same_new np)⟩
  unfold cutV
  rw [z.1, z.2, List.drop_zero, Nat.sub_zero, List.take_length]
  exact h
theorem catA_of {K : PySem.W.Frag} {H : Hp} {a b : Addr} {xs ys : List V} {Q : VK} (h : H a = some (.tup xs)) (g : H b = some (.tup ys)) (l : xs.length + ys.length ≤ 1000) (k : ∀ (p : Addr) (H' : Hp), H' p = some (.tup (xs ++ ys)) → Same H H' → Q (.ref p) H') : rCatA K (.ref a) (.ref b) H Q := by
  refine ⟨a, b, xs, ys, rfl, rfl, SqT.of h, SqT.of g, little l, fun e => k b H ?_ (Same.refl _), fun _ e => k a H ?_ (Same.refl _), fun _ _ p np => k p _ upd_same (same_new np)⟩
  · rw [e]; exact g
  · rw [e, List.append_nil]; exact h
theorem cut_take (xs : List V) (k : Nat) : cutV xs none (some ((k : Nat) : Int)) = xs.take k := by
  unfold cutV
  rw [HT.sIx_nat, HT.sIx_none, List.drop_zero, Nat.sub_zero]
  by_cases h : k ≤ xs.length
  · rw [Nat.min_eq_left h]
  · rw [Nat.min_eq_right (by omega), List.take_length, List.take_of_length_le (by omega)]
theorem cut_part {xs : List V} {lo hi : Option Int} : ∀ x ∈ cutV xs lo hi, x ∈ xs := fun x hx => List.mem_of_mem_drop (List.mem_of_mem_take hx)
theorem cut_nats {ns : List Nat} {lo hi : Option Int} : ∃ ms : List Nat, cutV (ns.map nV) lo hi = ms.map nV ∧ ms.length ≤ ns.length ∧ ∀ x ∈ ms, x ∈ ns := by
  refine ⟨(ns.drop (HT.sIx (ns.map nV).length 0 lo)).take (HT.sIx (ns.map nV).length (ns.map nV).length hi - HT.sIx (ns.map nV).length 0 lo), ?_, ?_, fun x hx => List.mem_of_mem_drop (List.mem_of_mem_take hx)⟩
  · unfold cutV
    rw [List.map_take, List.map_drop]
  · rw [List.length_take, List.length_drop]
    omega
/-! ### ways -/
def PairAt (H : Hp) (t : Addr) (k : Nat) (ns : List Nat) : Prop := ∃ g : Addr, H t = some (.tup [nV k, .ref g]) ∧ H g = some (.tup (ns.map nV))
theorem PairAt.keep {H H' : Hp} {t : Addr} {k : Nat} {ns : List Nat} (h : PairAt H t k ns) (s : TK H H') : PairAt H' t k ns := by
  obtain ⟨g, e1, e2⟩ := h
  exact ⟨g, s _ _ e1, s _ _ e2⟩
def momH (hs : List HR) (k : Nat) : Int := match hs[k]? with | some h => h.mom | none => 0
def trB (bs : List BR) (n : Nat) : Int := match bs[n]? with | some b => (b.th.length : Int) | none => 0
def toB (bs : List BR) (n : Nat) : Nat := match bs[n]? with | some b => b.to | none => 0
def wayEnd (bs : List BR) : Nat → List Nat → Option Nat
  | k, [] => some k
  | k, n :: ns => match bs[n]? with | some b => if b.one = k then wayEnd bs b.to ns else none | none => none
theorem wayEnd_cons {bs : List BR} {n k : Nat} {b : BR} {ns : List Nat} (e : bs[n]? = some b) : wayEnd bs k (n :: ns) = if b.one = k then wayEnd bs b.to ns else none := by
  show (match bs[n]? with | some b => if b.one = k then wayEnd bs b.to ns else none | none => none) = _
  rw [e]
theorem drop_at {α : Type} {ns : List α} {i : Nat} {n : α} (e : ns[i]? = some n) : ns.drop i = n :: ns.drop (i + 1) := by
  obtain ⟨h, z⟩ := List.getElem?_eq_some_iff.mp e
  rw [List.drop_eq_getElem_cons h, z]
def onV : Option Nat → V
  | none => .non
  | some k => nV k
theorem nats_at {ns : List Nat} {i : Nat} {x : V} (h : (ns.map nV)[i]? = some x) : ∃ n : Nat, ns[i]? = some n ∧ x = nV n := by
  rw [List.getElem?_map] at h
  cases e : ns[i]? with
  | none => rw [e] at h; cases h
  | some n => rw [e] at h; exact ⟨n, rfl, (Option.some.inj h).symm⟩
def momW (hs : List HR) (bs : List BR) (k : Nat) (ns : List Nat) : Int := momH hs k + (ns.map fun n => momH hs (toB bs n)).sum
/-! ### the least ways: mathematics -/
abbrev Co := Int × Int
def coLe (a b : Co) : Prop := a.1 < b.1 ∨ (a.1 = b.1 ∧ b.2 ≤ a.2)
def coLt (a b : Co) : Prop := a.1 < b.1 ∨ (a.1 = b.1 ∧ b.2 < a.2)
instance {a b : Co} : Decidable (coLt a b) := by unfold coLt; infer_instance
theorem coLe.refl (a : Co) : coLe a a := .inr ⟨rfl, Int.le_refl _⟩
theorem coLe.trans {a b c : Co} (h : coLe a b) (g : coLe b c) : coLe a c := by
  unfold coLe at *
  omega
theorem coLe.antisymm {a b : Co} (h : coLe a b) (g : coLe b a) : a = b := by
  unfold coLe at *
  have : a.1 = b.1 ∧ a.2 = b.2 := by omega
  exact Prod.ext this.1 this.2
theorem coLe_of_not {a b : Co} (h : ¬ coLt a b) : coLe b a := by
  unfold coLe coLt at *
  omega
theorem coLt.le {a b : Co} (h : coLt a b) : coLe a b := by
  unfold coLe coLt at *
  omega
theorem coLt.not_le {a b : Co} (h : coLt a b) : ¬ coLe b a := by
  unfold coLe coLt at *
  omega
def coAdd (hs : List HR) (c : Co) (b : BR) : Co := (c.1 + (b.th.length : Int), c.2 + momH hs b.to)
theorem coAdd_mono {hs : List HR} {c d : Co} {b : BR} (h : coLe c d) : coLe (coAdd hs c b) (coAdd hs d b) := by
  unfold coLe coAdd at *
  dsimp only
  omega
def wayCo (hs : List HR) (bs : List BR) (k : Nat) (ns : List Nat) : Co := ((ns.map (trB bs)).sum, momW hs bs k ns)
theorem wayEnd_append {bs : List BR} : ∀ {k : Nat} {ns ms : List Nat}, wayEnd bs k (ns ++ ms) = (wayEnd bs k ns).bind fun e => wayEnd bs e ms
  | k, [], ms => rfl
  | k, n :: ns, ms => by
    show (match bs[n]? with | some b => if b.one = k then wayEnd bs b.to (ns ++ ms) else none | none => none) = Option.bind (match bs[n]? with | some b => if b.one = k then wayEnd bs b.to ns else none | none => none) _
    cases bs[n]? with
    | none => rfl
    | some b =>
      dsimp only
      by_cases h : b.one = k
      · rw [if_pos h, if_pos h, wayEnd_append]
      · rw [if_neg h, if_neg h]; rfl
theorem wayEnd_snoc {bs : List BR} {k e n : Nat} {ns : List Nat} {b : BR} (h : wayEnd bs k ns = some e) (eb : bs[n]? = some b) (ho : b.one = e) : wayEnd bs k (ns ++ [n]) = some b.to := by
  rw [wayEnd_append, h]
  show wayEnd bs e [n] = _
  rw [wayEnd_cons eb, if_pos ho]
  rfl
theorem wayEnd_unsnoc {bs : List BR} {k e n : Nat} {ns : List Nat} (h : wayEnd bs k (ns ++ [n]) = some e) : ∃ b, bs[n]? = some b ∧ wayEnd bs k ns = some b.one ∧ b.to = e := by
  rw [wayEnd_append] at h
  cases hk : wayEnd bs k ns with
  | none => rw [hk] at h; cases h
  | some d =>
    rw [hk] at h
    have h : wayEnd bs d [n] = some e := h
    cases eb : bs[n]? with
    | none =>
      have : wayEnd bs d [n] = none := by
        show (match bs[n]? with | some b => if b.one = d then wayEnd bs b.to [] else none | none => none) = none
        rw [eb]
      rw [this] at h; cases h
    | some b =>
      rw [wayEnd_cons eb] at h
      by_cases z : b.one = d
      · rw [if_pos z] at h
        exact ⟨b, rfl, by rw [z], Option.some.inj h⟩
      · rw [if_neg z] at h; cases h
theorem wayCo_snoc {hs : List HR} {bs : List BR} {k n : Nat} {ns : List Nat} {b : BR} (eb : bs[n]? = some b) : wayCo hs bs k (ns ++ [n]) = coAdd hs (wayCo hs bs k ns) b := by
  unfold wayCo coAdd momW
  rw [List.map_append, List.map_append, List.sum_append, List.sum_append]
  have h1 : trB bs n = (b.th.length : Int) := by unfold trB; rw [eb]
  have h2 : toB bs n = b.to := by unfold toB; rw [eb]
  simp only [List.map_cons, List.map_nil, List.sum_cons, List.sum_nil]
  rw [h1, h2]
  refine Prod.ext ?_ ?_
  · show _ + (_ + 0) = _ + _
    omega
  · show _ + (_ + (_ + 0)) = _ + _ + _
    omega
/-- a way without trays goes up in rank -/
theorem way_rank {bs : List BR} {rk : Nat → Int} (hrk : ∀ b ∈ bs, b.th = [] → rk b.one < rk b.to) : ∀ {ns : List Nat} {k e : Nat}, wayEnd bs k ns = some e → 0 ≤ (ns.map (trB bs)).sum ∧ ((ns.map (trB bs)).sum = 0 → (ns = [] ∧ e = k) ∨ rk k < rk e)
  | [], k, e, h => ⟨Int.le_refl _, fun _ => .inl ⟨rfl, (Option.some.inj h).symm⟩⟩
  | n :: ns, k, e, h => by
    cases eb : bs[n]? with
    | none =>
      have : wayEnd bs k (n :: ns) = none := by
        show (match bs[n]? with | some b => if b.one = k then wayEnd bs b.to ns else none | none => none) = none
        rw [eb]
      rw [this] at h; cases h
    | some b =>
      rw [wayEnd_cons eb] at h
      by_cases z : b.one = k
      · rw [if_pos z] at h
        have ih := way_rank hrk h
        have h1 : trB bs n = (b.th.length : Int) := by unfold trB; rw [eb]
        rw [List.map_cons, List.sum_cons, h1]
        refine ⟨by omega, fun t => .inr ?_⟩
        have bt : b.th = [] := List.length_eq_zero_iff.mp (by omega)
        have r1 := hrk b (List.mem_of_getElem? eb) bt
        rw [z] at r1
        rcases ih.2 (by omega) with ⟨_, r2⟩ | r2
        · rw [r2]; exact r1
        · omega
      · rw [if_neg z] at h; cases h
theorem way_closed {bs : List BR} {rk : Nat → Int} (hrk : ∀ b ∈ bs, b.th = [] → rk b.one < rk b.to) {ns : List Nat} {k : Nat} (h : wayEnd bs k ns = some k) (hn : ns ≠ []) : 1 ≤ (ns.map (trB bs)).sum := by
  obtain ⟨h0, h1⟩ := way_rank hrk h
  by_cases z : (ns.map (trB bs)).sum = 0
  · rcases h1 z with ⟨e, _⟩ | e
    · exact absurd e hn
    · omega
  · omega
theorem nodup_len : ∀ (n : Nat) (l : List Nat), l.Nodup → (∀ x ∈ l, x < n) → l.length ≤ n
  | 0, l, _, h => by
    cases l with
    | nil => exact Nat.le_refl _
    | cons a l => exact absurd (h a (List.mem_cons_self ..)) (Nat.not_lt_zero _)
  | n + 1, l, nd, h => by
    by_cases m : n ∈ l
    · have ih := nodup_len n (l.erase n) (nd.erase n) fun x hx => by
        have hx := (List.Nodup.mem_erase_iff nd).mp hx
        have := h x hx.2
        have := hx.1
        omega
      rw [List.length_erase_of_mem m] at ih
      omega
    · have ih := nodup_len n l nd fun x hx => by
        have h1 := h x hx
        have : x ≠ n := fun z => m (z ▸ hx)
        omega
      omega
theorem pigeon {n : Nat} {g : Nat → Nat} {m : Nat} (h : ∀ i, i < m → g i < n) (hm : n < m) : ∃ i j, i < j ∧ j < m ∧ g i = g j := by
  refine Classical.byContradiction fun no => ?_
  have nd : ((List.range m).map g).Nodup := by
    unfold List.Nodup
    rw [List.pairwise_map]
    exact List.Pairwise.imp_of_mem (fun ha hb lt e => no ⟨_, _, lt, List.mem_range.mp hb, e⟩) List.pairwise_lt_range
  have := nodup_len n _ nd fun x hx => by
    obtain ⟨i, hi, rfl⟩ := List.mem_map.mp hx
    exact h i (List.mem_range.mp hi)
  rw [List.length_map, List.length_range] at this
  omega
theorem way_lt {bs : List BR} {n : Nat} (hto : ∀ b ∈ bs, b.to < n) : ∀ {ns : List Nat} {k e : Nat}, k < n → wayEnd bs k ns = some e → e < n
  | [], k, e, hk, h => by cases h; exact hk
  | m :: ns, k, e, hk, h => by
    cases eb : bs[m]? with
    | none =>
      have : wayEnd bs k (m :: ns) = none := by
        show (match bs[m]? with | some b => if b.one = k then wayEnd bs b.to ns else none | none => none) = none
        rw [eb]
      rw [this] at h; cases h
    | some b =>
      rw [wayEnd_cons eb] at h
      by_cases z : b.one = k
      · rw [if_pos z] at h; exact way_lt hto (hto b (List.mem_of_getElem? eb)) h
      · rw [if_neg z] at h; cases h
/-- each way has one with few belts that is no worse -/
theorem way_short {hs : List HR} {bs : List BR} {rk : Nat → Int} {n one : Nat} (hrk : ∀ b ∈ bs, b.th = [] → rk b.one < rk b.to) (hto : ∀ b ∈ bs, b.to < n) (ho : one < n) : ∀ (m : Nat) (ns : List Nat) (k : Nat), ns.length ≤ m → wayEnd bs one ns = some k → ∃ ms : List Nat, ms.length ≤ n ∧ wayEnd bs one ms = some k ∧ coLe (wayCo hs bs one ms) (wayCo hs bs one ns)
  | 0, ns, k, hm, h => ⟨ns, by omega, h, coLe.refl _⟩
  | m + 1, ns, k, hm, h => by
    by_cases short : ns.length ≤ n
    · exact ⟨ns, short, h, coLe.refl _⟩
    have ends : ∀ i, ∃ e, wayEnd bs one (ns.take i) = some e ∧ wayEnd bs e (ns.drop i) = some k := fun i => by
      have := h
      rw [← List.take_append_drop i ns, wayEnd_append] at this
      cases z : wayEnd bs one (ns.take i) with
      | none => rw [z] at this; cases this
      | some e => rw [z] at this; exact ⟨e, rfl, this⟩
    obtain ⟨i, j, ij, jl, e⟩ := pigeon (n := n) (g := fun i => (wayEnd bs one (ns.take i)).getD 0) (m := ns.length) (fun i _ => by
      obtain ⟨e, h1, _⟩ := ends i
      rw [h1]
      exact way_lt hto ho h1) (by omega)
    obtain ⟨e1, a1, a2⟩ := ends i
    obtain ⟨e2, b1, b2⟩ := ends j
    rw [a1, b1] at e
    have e : e1 = e2 := e
    subst e
    -- the ring between
    have part : ns.take j = ns.take i ++ (ns.drop i).take (j - i) := by
      rw [show j = i + (j - i) by omega, List.take_add, show i + (j - i) - i = j - i by omega]
    have ring : wayEnd bs e1 ((ns.drop i).take (j - i)) = some e1 := by
      rw [part, wayEnd_append, a1] at b1
      exact b1
    have rne : (ns.drop i).take (j - i) ≠ [] := fun z => by
      have := congrArg List.length z
      rw [List.length_take, List.length_drop] at this
      have : min (j - i) (ns.length - i) = 0 := this
      omega
    have r1 := way_closed hrk ring rne
    have new : wayEnd bs one (ns.take i ++ ns.drop j) = some k := by
      rw [wayEnd_append, a1]
      exact b2
    obtain ⟨ms, l1, l2, l3⟩ := way_short hrk hto ho m (ns.take i ++ ns.drop j) k (by rw [List.length_append, List.length_take, List.length_drop]; omega) new
    refine ⟨ms, l1, l2, l3.trans (.inl ?_)⟩
    show ((ns.take i ++ ns.drop j).map (trB bs)).sum < (ns.map (trB bs)).sum
    have : (ns.map (trB bs)).sum = ((ns.take i).map (trB bs)).sum + (((ns.drop i).take (j - i)).map (trB bs)).sum + ((ns.drop j).map (trB bs)).sum := by
      rw [← List.sum_append, ← List.map_append, ← part, ← List.sum_append, ← List.map_append, List.take_append_drop]
    rw [this, List.map_append, List.sum_append]
    omega
/-- one belt looked at -/
def relax (hs : List HR) (cf : Nat → Option Co) (b : BR) : Nat → Option Co := match cf b.one with
  | none => cf
  | some c => match cf b.to with
    | none => fun k => if k = b.to then some (coAdd hs c b) else cf k
    | some d => if coLt (coAdd hs c b) d then fun k => if k = b.to then some (coAdd hs c b) else cf k else cf
theorem relax_none {hs : List HR} {cf : Nat → Option Co} {b : BR} (h : cf b.one = none) : relax hs cf b = cf := by unfold relax; rw [h]
theorem relax_new {hs : List HR} {cf : Nat → Option Co} {b : BR} {c : Co} (h : cf b.one = some c) (g : cf b.to = none) : relax hs cf b = fun k => if k = b.to then some (coAdd hs c b) else cf k := by unfold relax; rw [h]; dsimp only; rw [g]
theorem relax_lt {hs : List HR} {cf : Nat → Option Co} {b : BR} {c d : Co} (h : cf b.one = some c) (g : cf b.to = some d) (l : coLt (coAdd hs c b) d) : relax hs cf b = fun k => if k = b.to then some (coAdd hs c b) else cf k := by unfold relax; rw [h]; dsimp only; rw [g]; dsimp only; rw [if_pos l]
theorem relax_ge {hs : List HR} {cf : Nat → Option Co} {b : BR} {c d : Co} (h : cf b.one = some c) (g : cf b.to = some d) (l : ¬ coLt (coAdd hs c b) d) : relax hs cf b = cf := by unfold relax; rw [h]; dsimp only; rw [g]; dsimp only; rw [if_neg l]
/-- what is set, or nothing -/
theorem relax_cases (hs : List HR) (cf : Nat → Option Co) (b : BR) : (relax hs cf b = cf ∧ ∀ c, cf b.one = some c → ∃ d, cf b.to = some d ∧ coLe d (coAdd hs c b)) ∨
    ∃ c, cf b.one = some c ∧ (relax hs cf b = fun k => if k = b.to then some (coAdd hs c b) else cf k) ∧ ∀ d, cf b.to = some d → coLt (coAdd hs c b) d := by
  cases h : cf b.one with
  | none => exact .inl ⟨relax_none h, fun c z => nomatch z⟩
  | some c =>
    cases g : cf b.to with
    | none => exact .inr ⟨c, rfl, relax_new h g, fun d z => nomatch z⟩
    | some d =>
      by_cases l : coLt (coAdd hs c b) d
      · exact .inr ⟨c, rfl, relax_lt h g l, fun d' z => by cases z; exact l⟩
      · exact .inl ⟨relax_ge h g l, fun c' z => ⟨d, rfl, by cases z; exact coLe_of_not l⟩⟩
theorem relax_mono {hs : List HR} {cf : Nat → Option Co} {b : BR} {k : Nat} {c : Co} (h : cf k = some c) : ∃ d, relax hs cf b k = some d ∧ coLe d c := by
  rcases relax_cases hs cf b with ⟨e, _⟩ | ⟨c', h1, e, l⟩
  · rw [e]; exact ⟨c, h, coLe.refl _⟩
  · rw [e]
    by_cases z : k = b.to
    · exact ⟨_, if_pos z, (l c (z ▸ h)).le⟩
    · exact ⟨c, (if_neg z).trans h, coLe.refl _⟩
theorem relax_done {hs : List HR} {cf : Nat → Option Co} {b : BR} {c : Co} (h : cf b.one = some c) : ∃ d, relax hs cf b b.to = some d ∧ coLe d (coAdd hs c b) := by
  rcases relax_cases hs cf b with ⟨e, g⟩ | ⟨c', h1, e, l⟩
  · rw [e]; exact g c h
  · rw [h] at h1
    cases h1
    rw [e]
    exact ⟨_, if_pos rfl, coLe.refl _⟩
abbrev roundF (hs : List HR) (bs : List BR) (cf : Nat → Option Co) : Nat → Option Co := bs.foldl (relax hs) cf
theorem fold_mono {hs : List HR} {k : Nat} : ∀ {l : List BR} {cf : Nat → Option Co} {c : Co}, cf k = some c → ∃ d, l.foldl (relax hs) cf k = some d ∧ coLe d c
  | [], cf, c, h => ⟨c, h, coLe.refl _⟩
  | b :: l, cf, c, h => by
    obtain ⟨d, h1, h2⟩ := relax_mono (hs := hs) (b := b) h
    obtain ⟨e, h3, h4⟩ := fold_mono (l := l) h1
    exact ⟨e, h3, h4.trans h2⟩
theorem fold_done {hs : List HR} {b : BR} : ∀ {l : List BR} {cf : Nat → Option Co} {c : Co}, b ∈ l → cf b.one = some c → ∃ d, l.foldl (relax hs) cf b.to = some d ∧ coLe d (coAdd hs c b)
  | a :: l, cf, c, hb, h => by
    rcases List.mem_cons.mp hb with rfl | hb
    · obtain ⟨d, h1, h2⟩ := relax_done (hs := hs) h
      obtain ⟨e, h3, h4⟩ := fold_mono (l := l) h1
      exact ⟨e, h3, h4.trans h2⟩
    · obtain ⟨d, h1, h2⟩ := relax_mono (hs := hs) (b := a) h
      obtain ⟨e, h3, h4⟩ := fold_done hb h1
      exact ⟨e, h3, h4.trans (coAdd_mono h2)⟩
def Snd (hs : List HR) (bs : List BR) (one : Nat) (cf : Nat → Option Co) : Prop := ∀ k c, cf k = some c → ∃ ns, wayEnd bs one ns = some k ∧ wayCo hs bs one ns = c
def Cpl (hs : List HR) (bs : List BR) (one : Nat) (cf : Nat → Option Co) (i : Nat) : Prop := ∀ ns k, ns.length ≤ i → wayEnd bs one ns = some k → ∃ c, cf k = some c ∧ coLe c (wayCo hs bs one ns)
def Stab (hs : List HR) (bs : List BR) (cf : Nat → Option Co) : Prop := ∀ b ∈ bs, ∀ c, cf b.one = some c → ∃ d, cf b.to = some d ∧ coLe d (coAdd hs c b)
theorem Snd.relax {hs : List HR} {bs : List BR} {one : Nat} {cf : Nat → Option Co} {b : BR} (s : Snd hs bs one cf) (hb : b ∈ bs) : Snd hs bs one (Mine.relax hs cf b) := fun k c h => by
  rcases relax_cases hs cf b with ⟨e, _⟩ | ⟨c', h1, e, l⟩
  · rw [e] at h; exact s k c h
  · rw [e] at h
    by_cases z : k = b.to
    · have h : some (coAdd hs c' b) = some c := by rw [← h]; exact (if_pos z).symm
      cases h
      obtain ⟨ns, w1, w2⟩ := s b.one c' h1
      obtain ⟨n, hn⟩ := List.getElem?_of_mem hb
      exact ⟨ns ++ [n], by rw [z]; exact wayEnd_snoc w1 hn rfl, by rw [wayCo_snoc hn, w2]⟩
    · exact s k c (by rw [← h]; exact (if_neg z).symm)
theorem Snd.fold {hs : List HR} {bs : List BR} {one : Nat} : ∀ {l : List BR} {cf : Nat → Option Co}, (∀ b ∈ l, b ∈ bs) → Snd hs bs one cf → Snd hs bs one (l.foldl (Mine.relax hs) cf)
  | [], _, _, s => s
  | b :: l, _, h, s => Snd.fold (l := l) (fun x hx => h x (List.mem_cons_of_mem _ hx)) (s.relax (h b (List.mem_cons_self ..)))
theorem Cpl.round {hs : List HR} {bs : List BR} {one : Nat} {cf : Nat → Option Co} {i : Nat} (c : Cpl hs bs one cf i) : Cpl hs bs one (roundF hs bs cf) (i + 1) := fun ns k hl h => by
  rcases List.eq_nil_or_concat ns with rfl | ⟨ms, n, rfl⟩
  · obtain ⟨d, h1, h2⟩ := c [] k (Nat.zero_le _) h
    obtain ⟨e, h3, h4⟩ := fold_mono (hs := hs) (l := bs) h1
    exact ⟨e, h3, h4.trans h2⟩
  · rw [List.concat_eq_append] at h hl ⊢
    obtain ⟨b, eb, h1, rfl⟩ := wayEnd_unsnoc h
    rw [List.length_append] at hl
    obtain ⟨d, h2, h3⟩ := c ms b.one (by have : ms.length + 1 ≤ i + 1 := hl; omega) h1
    obtain ⟨e, h4, h5⟩ := fold_done (hs := hs) (List.mem_of_getElem? eb) h2
    exact ⟨e, h4, by rw [wayCo_snoc eb]; exact h5.trans (coAdd_mono h3)⟩
def cf0 (hs : List HR) (one : Nat) : Nat → Option Co := fun k => if k = one then some (0, momH hs one) else none
def cfI (hs : List HR) (bs : List BR) (one : Nat) : Nat → (Nat → Option Co)
  | 0 => cf0 hs one
  | i + 1 => roundF hs bs (cfI hs bs one i)
theorem wayCo_nil {hs : List HR} {bs : List BR} {one : Nat} : wayCo hs bs one [] = (0, momH hs one) := by
  refine Prod.ext rfl ?_
  show momH hs one + 0 = momH hs one
  omega
theorem cfI_snd {hs : List HR} {bs : List BR} {one : Nat} : ∀ i, Snd hs bs one (cfI hs bs one i)
  | 0 => fun k c h => by
    by_cases z : k = one
    · have h : some ((0 : Int), momH hs one) = some c := by rw [← h]; exact (if_pos z).symm
      exact ⟨[], by rw [z]; rfl, by rw [wayCo_nil]; exact Option.some.inj h⟩
    · have h : none = some c := by rw [← h]; exact (if_neg z).symm
      cases h
  | i + 1 => Snd.fold (fun _ h => h) (cfI_snd i)
theorem cfI_cpl {hs : List HR} {bs : List BR} {one : Nat} : ∀ i, Cpl hs bs one (cfI hs bs one i) i
  | 0 => fun ns k hl h => by
    obtain rfl : ns = [] := List.length_eq_zero_iff.mp (by omega)
    obtain rfl : one = k := Option.some.inj h
    exact ⟨(0, momH hs one), if_pos rfl, by rw [wayCo_nil]; exact coLe.refl _⟩
  | i + 1 => (cfI_cpl i).round
theorem stab_relax {hs : List HR} {bs : List BR} {cf : Nat → Option Co} {b : BR} (s : Stab hs bs cf) (hb : b ∈ bs) : relax hs cf b = cf := by
  rcases relax_cases hs cf b with ⟨e, _⟩ | ⟨c', h1, e, l⟩
  · exact e
  · obtain ⟨d, h2, h3⟩ := s b hb c' h1
    exact absurd h3 (l d h2).not_le
theorem stab_fold {hs : List HR} {bs : List BR} {cf : Nat → Option Co} (s : Stab hs bs cf) : ∀ {l : List BR}, (∀ b ∈ l, b ∈ bs) → l.foldl (relax hs) cf = cf
  | [], _ => rfl
  | b :: l, h => by
    rw [List.foldl_cons, stab_relax s (h b (List.mem_cons_self ..))]
    exact stab_fold s fun x hx => h x (List.mem_cons_of_mem _ hx)
theorem stab_at {hs : List HR} {bs : List BR} {rk : Nat → Int} {n one : Nat} (hrk : ∀ b ∈ bs, b.th = [] → rk b.one < rk b.to) (hto : ∀ b ∈ bs, b.to < n) (ho : one < n) {i : Nat} (hi : n ≤ i) : Stab hs bs (cfI hs bs one i) := fun b hb c h => by
  obtain ⟨ns, w1, w2⟩ := cfI_snd i b.one c h
  obtain ⟨m, hm⟩ := List.getElem?_of_mem hb
  obtain ⟨ms, l1, l2, l3⟩ := way_short (hs := hs) hrk hto ho _ (ns ++ [m]) b.to (Nat.le_refl _) (wayEnd_snoc w1 hm rfl)
  obtain ⟨d, h1, h2⟩ := cfI_cpl (hs := hs) i ms b.to (by omega) l2
  refine ⟨d, h1, h2.trans ?_⟩
  rw [wayCo_snoc hm, w2] at l3
  exact l3
theorem cfI_stay {hs : List HR} {bs : List BR} {one i : Nat} (s : Stab hs bs (cfI hs bs one i)) : ∀ j, cfI hs bs one (i + j) = cfI hs bs one i
  | 0 => rfl
  | j + 1 => by
    show roundF hs bs (cfI hs bs one (i + j)) = _
    rw [cfI_stay s j]
    exact stab_fold s fun _ h => h
/-- the least ways of all, by rounds -/
abbrev best (hs : List HR) (bs : List BR) (one : Nat) : Nat → Option Co := cfI hs bs one hs.length
theorem cfI_best {hs : List HR} {bs : List BR} {rk : Nat → Int} {one i : Nat} (hrk : ∀ b ∈ bs, b.th = [] → rk b.one < rk b.to) (hto : ∀ b ∈ bs, b.to < hs.length) (ho : one < hs.length) (s : Stab hs bs (cfI hs bs one i)) : cfI hs bs one i = best hs bs one := by
  by_cases h : i ≤ hs.length
  · show cfI hs bs one i = cfI hs bs one hs.length
    have := cfI_stay s (hs.length - i)
    rw [show i + (hs.length - i) = hs.length by omega] at this
    exact this.symm
  · have := cfI_stay (hs := hs) (stab_at (hs := hs) (n := hs.length) hrk hto ho (Nat.le_refl _)) (i - hs.length)
    rw [show hs.length + (i - hs.length) = i by omega] at this
    exact this
/-- the last belts: from each hand that is come to one leads on to it -/
structure LaOk (hs : List HR) (bs : List BR) (one : Nat) (cf : Nat → Option Co) (la : Nat → Option Nat) : Prop where
  go : ∀ k n, la k = some n → ∃ b c d, bs[n]? = some b ∧ b.to = k ∧ cf b.one = some c ∧ cf k = some d ∧ coLe (coAdd hs c b) d
  fst : la one = none
  has : ∀ k c, cf k = some c → k = one ∨ (la k).isSome = true
theorem cf_one {hs : List HR} {bs : List BR} {rk : Nat → Int} {one : Nat} {cf : Nat → Option Co} (hrk : ∀ b ∈ bs, b.th = [] → rk b.one < rk b.to) (s : Snd hs bs one cf) (h1 : cf one = some (0, momH hs one)) {b : BR} (hb : b ∈ bs) {c : Co} (h : cf b.one = some c) (e : b.to = one) : ¬ coLt (coAdd hs c b) (0, momH hs one) := by
  obtain ⟨ns, w1, w2⟩ := s _ _ h
  obtain ⟨m, hm⟩ := List.getElem?_of_mem hb
  have w := wayEnd_snoc w1 hm rfl
  rw [e] at w
  have t := way_closed hrk w (by simp)
  have e2 := wayCo_snoc (hs := hs) (k := one) (ns := ns) hm
  rw [w2] at e2
  have e3 : (coAdd hs c b).1 = ((ns ++ [m]).map (trB bs)).sum := by rw [← e2]; rfl
  unfold coLt
  rw [e3]
  show ¬ (_ < (0 : Int) ∨ (_ = (0 : Int) ∧ _))
  omega
/-- along the last belts something falls -/
def redLt (rk : Nat → Int) (cf : Nat → Option Co) (j k : Nat) : Prop := ∃ c d, cf j = some c ∧ cf k = some d ∧ (c.1 < d.1 ∨ (c.1 = d.1 ∧ -c.2 + 31 * rk j < -d.2 + 31 * rk k))
theorem redLt_irr {rk : Nat → Int} {cf : Nat → Option Co} {k : Nat} : ¬ redLt rk cf k k := fun ⟨c, d, h1, h2, h3⟩ => by
  rw [h1] at h2
  cases h2
  omega
theorem redLt_tr {rk : Nat → Int} {cf : Nat → Option Co} {i j k : Nat} (a : redLt rk cf i j) (b : redLt rk cf j k) : redLt rk cf i k := by
  obtain ⟨c, d, h1, h2, h3⟩ := a
  obtain ⟨d', e, h4, h5, h6⟩ := b
  rw [h2] at h4
  cases h4
  exact ⟨c, e, h1, h5, by omega⟩
open Classical in
noncomputable def meas (rk : Nat → Int) (cf : Nat → Option Co) (n k : Nat) : Nat := ((List.range n).filter fun j => decide (redLt rk cf j k)).length
theorem filter_lt {α : Type} {p q : α → Bool} (h : ∀ x, p x = true → q x = true) {x : α} (qx : q x = true) (px : p x = false) : ∀ {l : List α}, x ∈ l → (l.filter p).length < (l.filter q).length
  | a :: l, hx => by
    have le : ∀ l : List α, (l.filter p).length ≤ (l.filter q).length := fun l => by
      induction l with
      | nil => exact Nat.le_refl _
      | cons a l ih =>
        rw [List.filter_cons, List.filter_cons]
        by_cases pa : p a = true
        · rw [if_pos pa, if_pos (h a pa), List.length_cons, List.length_cons]; omega
        · rw [if_neg pa]
          by_cases qa : q a = true
          · rw [if_pos qa, List.length_cons]; omega
          · rw [if_neg qa]; exact ih
    rw [List.filter_cons, List.filter_cons]
    rcases List.mem_cons.mp hx with e | hx
    · subst e
      rw [if_neg (by rw [px]; exact Bool.false_ne_true), if_pos qx, List.length_cons]
      have := le l
      omega
    · have ih := filter_lt h qx px hx
      by_cases pa : p a = true
      · rw [if_pos pa, if_pos (h a pa), List.length_cons, List.length_cons]; omega
      · rw [if_neg pa]
        by_cases qa : q a = true
        · rw [if_pos qa, List.length_cons]; omega
        · rw [if_neg qa]; exact ih
open Classical in
theorem meas_lt {rk : Nat → Int} {cf : Nat → Option Co} {n j k : Nat} (hj : j < n) (h : redLt rk cf j k) : meas rk cf n j < meas rk cf n k := by
  unfold meas
  exact filter_lt (p := fun x => decide (redLt rk cf x j)) (q := fun x => decide (redLt rk cf x k)) (fun x hx => decide_eq_true (redLt_tr (of_decide_eq_true hx) h)) (decide_eq_true h) (decide_eq_false redLt_irr) (List.mem_range.mpr hj)
theorem meas_le {rk : Nat → Int} {cf : Nat → Option Co} {n k : Nat} : meas rk cf n k ≤ n := by
  unfold meas
  refine Nat.le_trans (List.length_filter_le ..) ?_
  rw [List.length_range]
  exact Nat.le_refl _
theorem last_lt {hs : List HR} {bs : List BR} {rk : Nat → Int} {cf : Nat → Option Co} {b : BR} {k : Nat} {c d : Co} (hrk : ∀ b ∈ bs, b.th = [] → rk b.one < rk b.to) (mom : ∀ k, momH hs k ≤ 30) (hb : b ∈ bs) (e : b.to = k) (h1 : cf b.one = some c) (h2 : cf k = some d) (l : coLe (coAdd hs c b) d) : redLt rk cf b.one k := by
  refine ⟨c, d, h1, h2, ?_⟩
  have m := mom b.to
  unfold coLe coAdd at l
  dsimp only at l
  by_cases z : b.th = []
  · have r := hrk b hb z
    rw [z] at l
    rw [e] at r l m
    have l : c.1 + (0 : Int) < d.1 ∨ c.1 + (0 : Int) = d.1 ∧ d.2 ≤ c.2 + momH hs k := l
    omega
  · have : 0 < b.th.length := List.length_pos_iff.mpr z
    omega
/-! ### least_costs, turn by turn: the costs, the order of their keys, the last belts -/
abbrev Rx := (Nat → Option Co) × List Nat × (Nat → Option Nat)
def rxT (hs : List HR) (t : Rx) (p : Nat × BR) : Rx := match t.1 p.2.one with
  | none => t
  | some c => match t.1 p.2.to with
    | none => (relax hs t.1 p.2, t.2.1 ++ [p.2.to], fun k => if k = p.2.to then some p.1 else t.2.2 k)
    | some d => if coLt (coAdd hs c p.2) d then (relax hs t.1 p.2, t.2.1, fun k => if k = p.2.to then some p.1 else t.2.2 k) else t
def nB (bs : List BR) : List (Nat × BR) := (List.range bs.length).zip bs
theorem nB_at {bs : List BR} {j : Nat} {b : BR} (e : bs[j]? = some b) : (nB bs)[j]? = some (j, b) := by
  unfold nB
  rw [List.getElem?_zip_eq_some]
  exact ⟨List.getElem?_range (List.getElem?_eq_some_iff.mp e).1, e⟩
theorem nB_snd {bs : List BR} : (nB bs).map Prod.snd = bs := by
  unfold nB
  exact List.map_snd_zip (by rw [List.length_range]; exact Nat.le_refl _)
theorem nB_mem {bs : List BR} {p : Nat × BR} (h : p ∈ nB bs) : p.2 ∈ bs := by
  have : p.2 ∈ (nB bs).map Prod.snd := List.mem_map.mpr ⟨p, h, rfl⟩
  rw [nB_snd] at this
  exact this
theorem rxT_idle {hs : List HR} {t : Rx} {p : Nat × BR} (h : ∀ c, t.1 p.2.one = some c → ∃ d, t.1 p.2.to = some d ∧ coLe d (coAdd hs c p.2)) : rxT hs t p = t := by
  unfold rxT
  cases e : t.1 p.2.one with
  | none => rfl
  | some c =>
    obtain ⟨d, e2, l⟩ := h c e
    dsimp only
    rw [e2]
    dsimp only
    rw [if_neg fun z => coLt.not_le z l]
theorem rxT_put {hs : List HR} {t : Rx} {j : Nat} {b : BR} {c : Co} (h : t.1 b.one = some c) (l : ∀ d, t.1 b.to = some d → coLt (coAdd hs c b) d) : rxT hs t (j, b) = (relax hs t.1 b, (if t.1 b.to = none then t.2.1 ++ [b.to] else t.2.1), fun k => if k = b.to then some j else t.2.2 k) := by
  unfold rxT
  dsimp only
  rw [h]
  dsimp only
  cases e : t.1 b.to with
  | none => rw [if_pos rfl]
  | some d =>
    dsimp only
    rw [if_pos (l d e), if_neg fun z => nomatch z]
theorem rxT_fst {hs : List HR} {t : Rx} {p : Nat × BR} : (rxT hs t p).1 = relax hs t.1 p.2 := by
  rcases relax_cases hs t.1 p.2 with ⟨e, h⟩ | ⟨c, h, _, l⟩
  · rw [rxT_idle h, e]
  · rw [show p = (p.1, p.2) from rfl, rxT_put h l]
theorem rx_fold {hs : List HR} : ∀ {l : List (Nat × BR)} {t : Rx}, (l.foldl (rxT hs) t).1 = (l.map Prod.snd).foldl (relax hs) t.1
  | [], _ => rfl
  | p :: l, t => by
    rw [List.foldl_cons, List.map_cons, List.foldl_cons, rx_fold (l := l), rxT_fst]
theorem rx_stay {hs : List HR} {bs : List BR} {t : Rx} (s : Stab hs bs t.1) : ∀ {l : List (Nat × BR)}, (∀ p ∈ l, p.2 ∈ bs) → l.foldl (rxT hs) t = t
  | [], _ => rfl
  | p :: l, h => by
    rw [List.foldl_cons, rxT_idle (s p.2 (h p (List.mem_cons_self ..)))]
    exact rx_stay s fun x hx => h x (List.mem_cons_of_mem _ hx)
def rxI (hs : List HR) (bs : List BR) (one : Nat) : Nat → Rx
  | 0 => (cf0 hs one, [one], fun _ => none)
  | i + 1 => (nB bs).foldl (rxT hs) (rxI hs bs one i)
theorem rxI_fst {hs : List HR} {bs : List BR} {one : Nat} : ∀ i, (rxI hs bs one i).1 = cfI hs bs one i
  | 0 => rfl
  | i + 1 => by
    have := rx_fold (hs := hs) (l := nB bs) (t := rxI hs bs one i)
    rw [nB_snd, rxI_fst i] at this
    exact this
theorem rxI_stay {hs : List HR} {bs : List BR} {one i : Nat} (s : Stab hs bs (cfI hs bs one i)) : ∀ j, rxI hs bs one (i + j) = rxI hs bs one i
  | 0 => rfl
  | j + 1 => by
    show (nB bs).foldl (rxT hs) (rxI hs bs one (i + j)) = _
    rw [rxI_stay s j]
    exact rx_stay (by rw [rxI_fst]; exact s) fun p hp => nB_mem hp
/-- the keys of the costs in their order, and the last belts, as least_costs tells them -/
def ksF (hs : List HR) (bs : List BR) (one : Nat) : List Nat := (rxI hs bs one hs.length).2.1
def laF (hs : List HR) (bs : List BR) (one : Nat) : Nat → Option Nat := (rxI hs bs one hs.length).2.2
theorem rxI_best {hs : List HR} {bs : List BR} {rk : Nat → Int} {one i : Nat} (hrk : ∀ b ∈ bs, b.th = [] → rk b.one < rk b.to) (hto : ∀ b ∈ bs, b.to < hs.length) (ho : one < hs.length) (s : Stab hs bs (cfI hs bs one i)) : rxI hs bs one i = rxI hs bs one hs.length := by
  by_cases h : i ≤ hs.length
  · have := rxI_stay s (hs.length - i)
    rw [show i + (hs.length - i) = hs.length by omega] at this
    exact this.symm
  · have := rxI_stay (hs := hs) (stab_at (hs := hs) (n := hs.length) hrk hto ho (Nat.le_refl _)) (i - hs.length)
    rw [show hs.length + (i - hs.length) = i by omega] at this
    exact this
abbrev rxJ (hs : List HR) (bs : List BR) (one i j : Nat) : Rx := ((nB bs).take j).foldl (rxT hs) (rxI hs bs one i)
theorem rxJ_fst {hs : List HR} {bs : List BR} {one i j : Nat} : (rxJ hs bs one i j).1 = (bs.take j).foldl (relax hs) (cfI hs bs one i) := by
  rw [rx_fold, rxI_fst, List.map_take, nB_snd]
theorem rxJ_succ {hs : List HR} {bs : List BR} {one i j : Nat} {b : BR} (e : bs[j]? = some b) : rxJ hs bs one i (j + 1) = rxT hs (rxJ hs bs one i j) (j, b) := by
  unfold rxJ
  rw [List.take_add_one, nB_at e, List.foldl_append]
  rfl
def Fx (kvs : List (Key × V)) (la : Nat → Option Nat) (t : Rx) : Prop := kvs.map Prod.fst = t.2.1.map (fun k => (Sum.inl ((k : Nat) : Int) : Key)) ∧ la = t.2.2
theorem putK_fst {kvs : List (Key × V)} {k : Key} {v : V} : (putK kvs k v).map Prod.fst = if valV kvs k = none then kvs.map Prod.fst ++ [k] else kvs.map Prod.fst := by
  have e := valV_any k kvs
  unfold putK
  cases h : valV kvs k with
  | none =>
    rw [h] at e
    rw [if_neg (by rw [e]; exact Bool.false_ne_true), if_pos rfl, List.map_append]
    rfl
  | some x =>
    rw [h] at e
    rw [if_pos (show (kvs.any fun kv => decide (kv.1 = k)) = true from e), if_neg (fun z => nomatch z), List.map_map]
    refine List.map_congr_left fun kv _ => ?_
    show (if kv.1 = k then (kv.1, v) else kv).1 = kv.1
    split <;> rfl
abbrev kN (k : Nat) : Key := .inl ((k : Nat) : Int)
theorem kN_inj {a b : Nat} (h : kN a = kN b) : a = b := by
  have : ((a : Nat) : Int) = ((b : Nat) : Int) := Sum.inl.inj h
  omega
theorem dget_of {H : Hp} {a : Addr} {kvs : List (Key × V)} {k : Nat} {o : Option V} (e : H a = some (.dK kvs)) (h : valV kvs (kN k) = o) : DGet H a (nV k) o := h ▸ DGet.k (k := kN k) e
def CoAt (H : Hp) (v : V) (c : Co) : Prop := ∃ t : Addr, v = .ref t ∧ H t = some (.tup [.int c.1, .int (-c.2)])
def DC (H : Hp) (kvs : List (Key × V)) (cf : Nat → Option Co) : Prop := (∀ k : Nat, (cf k = none ∧ valV kvs (kN k) = none) ∨ ∃ c v, cf k = some c ∧ valV kvs (kN k) = some v ∧ CoAt H v c) ∧ ∃ ks : List Nat, kvs.map Prod.fst = ks.map kN ∧ ks.Nodup
theorem DC.keep {H H' : Hp} {kvs : List (Key × V)} {cf : Nat → Option Co} (d : DC H kvs cf) (s : TK H H') : DC H' kvs cf := ⟨fun k => by
  rcases d.1 k with h | ⟨c, v, h1, h2, t, h3, h4⟩
  · exact .inl h
  · exact .inr ⟨c, v, h1, h2, t, h3, s _ _ h4⟩, d.2⟩
theorem keys_put {kvs : List (Key × V)} {k : Nat} {v : V} (h : ∃ ks : List Nat, kvs.map Prod.fst = ks.map kN ∧ ks.Nodup) : ∃ ks : List Nat, (putK kvs (kN k) v).map Prod.fst = ks.map kN ∧ ks.Nodup := by
  obtain ⟨ks, e, nd⟩ := h
  unfold putK
  by_cases a : (kvs.any fun kv => decide (kv.1 = kN k)) = true
  · rw [if_pos a]
    refine ⟨ks, ?_, nd⟩
    rw [List.map_map, ← e]
    refine List.map_congr_left fun kv _ => ?_
    show (if kv.1 = kN k then (kv.1, v) else kv).1 = kv.1
    split <;> rfl
  · rw [if_neg a]
    refine ⟨ks ++ [k], by rw [List.map_append, List.map_append, e]; rfl, ?_⟩
    rw [List.nodup_append]
    refine ⟨nd, by simp, fun x hx y hy z => ?_⟩
    obtain rfl : y = k := by simpa using hy
    subst z
    have : kN x ∈ kvs.map Prod.fst := by rw [e]; exact List.mem_map.mpr ⟨x, hx, rfl⟩
    obtain ⟨kv, h1, h2⟩ := List.mem_map.mp this
    exact a (List.any_eq_true.mpr ⟨kv, h1, decide_eq_true h2⟩)
theorem DC.put {H : Hp} {kvs : List (Key × V)} {cf : Nat → Option Co} (d : DC H kvs cf) {k : Nat} {v : V} {c : Co} (h : CoAt H v c) : DC H (putK kvs (kN k) v) (fun j => if j = k then some c else cf j) := ⟨fun j => by
  rw [valV_put]
  show ((if j = k then some c else cf j) = none ∧ _) ∨ ∃ c' v', (if j = k then some c else cf j) = some c' ∧ _
  by_cases e : j = k
  · rw [if_pos e, if_pos (show kN j = kN k by rw [e])]
    exact .inr ⟨c, v, rfl, rfl, h⟩
  · rw [if_neg e, if_neg (show ¬ kN j = kN k from fun z => e (kN_inj z))]
    exact d.1 j, keys_put d.2⟩
theorem DL.put {lvs : List (Key × V)} {la : Nat → Option Nat} (d : ∀ k, valV lvs (kN k) = (la k).map nV) (k n : Nat) : ∀ j, valV (putK lvs (kN k) (nV n)) (kN j) = ((fun j => if j = k then some n else la j) j).map nV := fun j => by
  rw [valV_put]
  by_cases e : j = k
  · rw [if_pos (by rw [e])]
    show _ = Option.map nV (if j = k then some n else la j)
    rw [if_pos e]; rfl
  · rw [if_neg (fun z => e (kN_inj z))]
    show _ = Option.map nV (if j = k then some n else la j)
    rw [if_neg e]; exact d j
theorem putK_le (c : List (Key × V)) (k : Key) (x : V) : (putK c k x).length ≤ c.length + 1 := by
  unfold putK
  split
  · rw [List.length_map]; omega
  · rw [List.length_append]; exact Nat.le_refl _
theorem lex_co (c d : Co) : HT.lexLt [c.1, -c.2] [d.1, -d.2] = decide (coLt c d) := by
  rw [HT.lexLt_cons, HT.lexLt_cons, HT.lexLt_nil_nil]
  unfold coLt
  by_cases e : c.1 = d.1
  · rw [if_pos e]
    by_cases e2 : -c.2 = -d.2
    · rw [if_pos e2]
      exact (decide_eq_false (by omega)).symm
    · rw [if_neg e2]
      by_cases e3 : -c.2 < -d.2
      · rw [decide_eq_true e3]; exact (decide_eq_true (by omega)).symm
      · rw [decide_eq_false e3]; exact (decide_eq_false (by omega)).symm
  · rw [if_neg e]
    by_cases e3 : c.1 < d.1
    · rw [decide_eq_true e3]; exact (decide_eq_true (by omega)).symm
    · rw [decide_eq_false e3]; exact (decide_eq_false (by omega)).symm
theorem LaOk.put {hs : List HR} {bs : List BR} {rk : Nat → Int} {one : Nat} {cf : Nat → Option Co} {la : Nat → Option Nat} (L : LaOk hs bs one cf la) (hrk : ∀ b ∈ bs, b.th = [] → rk b.one < rk b.to) (s : Snd hs bs one cf) (h1 : cf one = some (0, momH hs one)) {j : Nat} {b : BR} {c : Co} (eb : bs[j]? = some b) (h : cf b.one = some c) (l : ∀ d, cf b.to = some d → coLt (coAdd hs c b) d) :
    LaOk hs bs one (fun k => if k = b.to then some (coAdd hs c b) else cf k) (fun k => if k = b.to then some j else la k) ∧ b.to ≠ one := by
  have hb := List.mem_of_getElem? eb
  have ne1 : b.to ≠ one := fun z => cf_one hrk s h1 hb h z (l _ (by rw [z]; exact h1))
  have ne2 : b.one ≠ b.to := fun z => by
    have := l c (by rw [← z]; exact h)
    unfold coLt coAdd at this
    dsimp only at this
    by_cases y : b.th = []
    · have := hrk b hb y
      rw [z] at this
      omega
    · have : 0 < b.th.length := List.length_pos_iff.mpr y
      omega
  have newc : ∀ k c2, cf k = some c2 → ∃ c3, (fun k => if k = b.to then some (coAdd hs c b) else cf k) k = some c3 ∧ coLe c3 c2 := fun k c2 e => by
    by_cases z : k = b.to
    · exact ⟨_, if_pos z, (l c2 (z ▸ e)).le⟩
    · exact ⟨c2, (if_neg z).trans e, coLe.refl _⟩
  refine ⟨⟨fun k n e => ?_, ?_, fun k d e => ?_⟩, ne1⟩
  · by_cases z : k = b.to
    · have e : some j = some n := by rw [← e]; exact (if_pos z).symm
      cases e
      exact ⟨b, c, coAdd hs c b, eb, z.symm, (if_neg ne2).trans h, if_pos z, coLe.refl _⟩
    · have e : la k = some n := by rw [← e]; exact (if_neg z).symm
      obtain ⟨b2, c2, d2, g1, g2, g3, g4, g5⟩ := L.go k n e
      obtain ⟨c3, g6, g7⟩ := newc _ _ g3
      exact ⟨b2, c3, d2, g1, g2, g6, (if_neg z).trans g4, (coAdd_mono g7).trans g5⟩
  · exact (if_neg ne1.symm).trans L.fst
  · by_cases z : k = b.to
    · exact .inr (by show (if k = b.to then some j else la k).isSome = true; rw [if_pos z]; rfl)
    · have e : cf k = some d := by rw [← e]; exact (if_neg z).symm
      rcases L.has k d e with y | y
      · exact .inl y
      · exact .inr (by show (if k = b.to then some j else la k).isSome = true; rw [if_neg z]; exact y)
theorem TK.dic {H : Hp} {p : Addr} {kvs lvs : List (Key × V)} (h : H p = some (.dK kvs)) : TK H (upd H p (.dK lvs)) := fun x zs e => by
  rw [upd_ne (ne_of e h (fun z => nomatch z))]
  exact e
section
variable {P : Program} {w : World} {K : PySem.W.Frag} {mg : Str → Option Value} {base : Heap}
def sp_least_costs (K : PySem.W.Frag) : Sp := fun vs H Q _ => ∃ (r : Addr) (hs : List HR) (bs : List BR) (one : Nat), vs = [.ref r, nV one] ∧ RoomAt H r hs bs ∧ RoomOk hs bs ∧ one < hs.length ∧
  ∀ (p cd ld : Addr) (kvs lvs : List (Key × V)) (la : Nat → Option Nat) (H' : Hp), H' p = some (.tup [.ref cd, .ref ld]) → cd ≠ ld → H' cd = some (.dK kvs) → DC H' kvs (best hs bs one) → H' ld = some (.dK lvs) → (∀ k, valV lvs (kN k) = (la k).map nV) → LaOk hs bs one (best hs bs one) la → kvs.map Prod.fst = (ksF hs bs one).map kN → la = laF hs bs one → Same H H' → Q (.ref p) H'
theorem ok_least_costs {f : Addr} {fd : FuncData} (F : Fun K "least_costs" "least_costs" s_least_costs f fd) (T : Top K mg) : FnOk P w K mg base CX0 1 f fd ["room", "one"] (sp_least_costs K) := by
  refine F.ok sc_least_costs (fun vs H Q E h => ?_) (fun cdv A outer s H vs Q E hr h => ?_)
  · obtain ⟨r, hs, bs, one, rfl, _⟩ := h
    rfl
  obtain ⟨r, hs, bs, one, rfl, hR, ok, ho, q⟩ := h
  obtain ⟨ha, ba, hv, bv, er, eh, eb, alh, alb⟩ := hR.ex
  have lhv := alh.length
  have lbv := alb.length
  have lh := ok.hands
  have lb := ok.many
  obtain ⟨rk, hrk⟩ := ok.rank
  have hto : ∀ b ∈ bs, b.to < hs.length := fun b hb => (ok.ends b hb).2
  have ehk : hs[one]? = some hs[one] := List.getElem?_eq_getElem ho
  have mom1 : momH hs one = hs[one].mom := by unfold momH; rw [ehk]
  obtain ⟨x0, ex0, ⟨t0, r0, rfl, e01, e02⟩⟩ := alh.get ehk
  refine ⟨_, (pss_cons (ps_asg (pv 0) (pg_tupK K rfl rfl (pgs_cons (pg_name (i := 2) sc_least_costs.nd rfl (Or.inl rfl)) (pgs_cons (pg_name (i := 3) sc_least_costs.nd rfl (Or.inl rfl)) pgs_nil))))
      (pss_cons (ps_set (i := 4) sc_least_costs.nd rfl (Or.inl rfl) (pe_disp (pps_cons (pv 1) (pe_tup (pa_cons pe_int (pa_cons (pe_un un_neg (pe_ix (ix_tupK K rfl) (pe_ix (ix_tupK K rfl) (pv 2) (pv 1) (fun _ _ => rfl)) pe_int (fun _ _ => rfl))) pa_nil))) pps_nil) (by rfl) (by rfl) (fun z => by cases z) (by decide)))
      (pss_cons (ps_set (i := 5) sc_least_costs.nd rfl (Or.inl rfl) pe_dnewK)
      (pss_cons (ps_set (i := 6) sc_least_costs.nd rfl (Or.inl rfl) pe_bl)
      (pss_cons (ps_while PassesOwn.never (pt_val (pv 6))
        (pss_cons (ps_set (i := 6) sc_least_costs.nd rfl (Or.inl rfl) pe_bl)
      (pss_one (ps_for PassesOwn.never rfl (pi_enumT K rfl (by rfl) T.m_enumerate (pa_cons (pv 3) pa_nil)) (pg_tupK K rfl rfl (pgs_cons (pg_name (i := 7) sc_least_costs.nd rfl (Or.inl rfl)) (pgs_cons (pg_tupK K rfl rfl (pgs_cons (pg_name (i := 8) sc_least_costs.nd rfl (Or.inl rfl)) (pgs_cons (pg_name (i := 9) sc_least_costs.nd rfl (Or.inl rfl)) (pgs_cons (pg_name (i := 10) sc_least_costs.nd rfl (Or.inl rfl)) pgs_nil)))) pgs_nil)))
        (pss_one (ps_if (pt_cmp (pc_din (hu_of hr) (pv 8) (pv 4)) (by with_unfolding_all rfl)) (pss_cons (ps_asg (pe_dget (hu_of hr) (pv 4) (pv 8) (fun _ _ => rfl)) (pg_tupK K rfl rfl (pgs_cons (pg_name (i := 11) sc_least_costs.nd rfl (Or.inl rfl)) (pgs_cons (pg_name (i := 12) sc_least_costs.nd rfl (Or.inl rfl)) pgs_nil))))
      (pss_cons (ps_set (i := 13) sc_least_costs.nd rfl (Or.inl rfl) (pe_tup (pa_cons (pe_op op_add (pv 11) (pe_callB (call_len_seqK K rfl) (by rfl) T.m_len (by decide +kernel) (pa_cons (pv 10) pa_nil))) (pa_cons (pe_op op_sub (pv 12) (pe_ix (ix_tupK K rfl) (pe_ix (ix_tupK K rfl) (pv 2) (pv 9) (fun _ _ => rfl)) pe_int (fun _ _ => rfl))) pa_nil))))
      (pss_one (ps_if (PW.pt (pw_or (pt_cmp (pc_dnotin (hu_of hr) (pv 9) (pv 4)) (by with_unfolding_all rfl)) (pw_or1 (pt_cmpR (op_ltTK K rfl (Nat.lt_of_succ_lt (hu_of hr))) (pv 13) (pe_dget (hu_of hr) (pv 4) (pv 9) (fun _ _ => rfl)) (nomark _))))) (pss_cons (ps_dput (hu_of hr) (pv 4) (pv 9) (pv 13) (by rfl))
      (pss_cons (ps_dput (hu_of hr) (pv 5) (pv 9) (pv 7) (by rfl))
      (pss_one (ps_set (i := 6) sc_least_costs.nd rfl (Or.inl rfl) pe_bl)))) pss_nil)))) pss_nil))))))
      (pss_one (ps_ret (pe_tup (pa_cons (pv 4) (pa_cons (pv 5) pa_nil)))))))))), ?_⟩
  refine ⟨_, rfl, r, _, rfl, SqT.of er, rfl, _, _, rfl, _, _, rfl, rfl, ?_⟩
  refine fun cd ncd => ?_
  have s1 := same_new (o := .dK []) ncd
  refine ⟨_, rfl, _, rfl, _, rfl, ha, _, _, _, rfl, rfl, SqT.of (s1 _ _ eh), atI_nat ex0, t0, _, _, _, rfl, rfl, SqT.of (s1 _ _ e01), atI_nat (j := 1) rfl, _, rfl, (by show 2 ≤ sizeLine; decide), fun t nt => ?_⟩
  have hcd1 := same_new (o := .tup [V.int 0, V.int (-hs[one].mom)]) nt _ _ (upd_same (H := H) (a := cd) (o := .dK []))
  refine ⟨hcd1, [(kN one, V.ref t)], rfl, (by show 1 ≤ 15; decide), ?_⟩
  have k1 := TK.dic (lvs := mergeK [] [(kN one, V.ref t)]) hcd1
  have ht : upd (upd (upd H cd (.dK [])) t (.tup [V.int 0, V.int (-hs[one].mom)])) cd (.dK (mergeK [] [(kN one, V.ref t)])) t = some (.tup [V.int 0, V.int (-hs[one].mom)]) := k1 _ _ upd_same
  have s2 : Same H (upd (upd (upd H cd (.dK [])) t (.tup [V.int 0, V.int (-hs[one].mom)])) cd (.dK (mergeK [] [(kN one, V.ref t)]))) := Same.own (s1.trans (same_new nt)) ncd
  refine fun ld nld => ?_
  have s3 := s2.trans (same_new (o := .dK []) nld)
  have cdld : cd ≠ ld := fun z => by rw [← z, upd_same] at nld; cases nld
  have ld0 : H ld = none := same_none s2 nld
  have L0 : LaOk hs bs one (cfI hs bs one 0) (fun _ => none) := ⟨(fun _ _ z => nomatch z), rfl, fun k c e => by
    by_cases z : k = one
    · exact .inl z
    · have e : none = some c := by rw [← e]; exact (if_neg z).symm
      cases e⟩
  have D0 : DC (upd (upd (upd (upd H cd (.dK [])) t (.tup [V.int 0, V.int (-hs[one].mom)])) cd (.dK (mergeK [] [(kN one, V.ref t)]))) ld (.dK [])) (mergeK [] [(kN one, V.ref t)]) (cfI hs bs one 0) := by
    have : DC (upd (upd (upd (upd H cd (.dK [])) t (.tup [V.int 0, V.int (-hs[one].mom)])) cd (.dK (mergeK [] [(kN one, V.ref t)]))) ld (.dK [])) [] (fun _ => none) := ⟨fun k => .inl ⟨rfl, rfl⟩, [], rfl, List.nodup_nil⟩
    exact this.put (k := one) (v := V.ref t) (c := (0, momH hs one)) ⟨t, rfl, by rw [mom1]; exact same_new nld _ _ ht⟩
  refine ⟨fun m σ H2 => ∃ (i : Nat) (ch : Bool) (kvs lvs : List (Key × V)) (la : Nat → Option Nat) (v7 v8 v9 v10 v11 v12 v13 : Option V), σ = [some (.ref r), some (nV one), some (.ref ha), some (.ref ba), some (.ref cd), some (.ref ld), some (.bl ch), v7, v8, v9, v10, v11, v12, v13] ∧ H2 cd = some (.dK kvs) ∧ DC H2 kvs (cfI hs bs one i) ∧ kvs.length ≤ 1 + 20 * i ∧ H2 ld = some (.dK lvs) ∧ lvs.length ≤ 20 * i ∧ (∀ k, valV lvs (kN k) = (la k).map nV) ∧ (LaOk hs bs one (cfI hs bs one i) la ∧ Fx kvs la (rxI hs bs one i)) ∧ cfI hs bs one i one = some (0, momH hs one) ∧ Same H H2 ∧ ((ch = true ∧ i ≤ hs.length ∧ m = hs.length + 1 - i) ∨ (ch = false ∧ Stab hs bs (cfI hs bs one i) ∧ m = 0)),
    ⟨_, 0, true, _, _, fun _ => none, _, _, _, _, _, _, _, rfl, same_new nld _ _ upd_same, D0, (by show 1 ≤ 1; decide), upd_same, (by show 0 ≤ 0; decide), (fun _ => rfl), ⟨L0, rfl, rfl⟩, if_pos rfl, s3, .inl ⟨rfl, Nat.zero_le _, rfl⟩⟩, ?_⟩
  rintro m σ H2 ⟨i, ch, kvs, lvs, la, v7, v8, v9, v10, v11, v12, v13, rfl, hcd, dc, lk, hld, ll, dl, ⟨L, fx⟩, c1, s, flag⟩
  refine ⟨_, rfl, _, rfl, ?_⟩
  rcases flag with ⟨rfl, hi, rfl⟩ | ⟨rfl, st, rfl⟩
  · refine if_bl (fun _ => ?_) (fun z => nomatch z)
    refine ⟨_, fun σ' H' h => h, ?_⟩
    refine ⟨_, rfl, ba, bv, rfl, SqT.of (s _ _ eb), for_it (J := IteT K ba bv) (n := bv.length) (fun j σ H3 => ∃ (ch : Bool) (kvs lvs : List (Key × V)) (la : Nat → Option Nat) (v7 v8 v9 v10 v11 v12 v13 : Option V), σ = [some (.ref r), some (nV one), some (.ref ha), some (.ref ba), some (.ref cd), some (.ref ld), some (.bl ch), v7, v8, v9, v10, v11, v12, v13] ∧ H3 cd = some (.dK kvs) ∧ DC H3 kvs ((bs.take j).foldl (relax hs) (cfI hs bs one i)) ∧ kvs.length ≤ 1 + 20 * i + j ∧ H3 ld = some (.dK lvs) ∧ lvs.length ≤ 20 * i + j ∧ (∀ k, valV lvs (kN k) = (la k).map nV) ∧ (LaOk hs bs one ((bs.take j).foldl (relax hs) (cfI hs bs one i)) la ∧ Fx kvs la (rxJ hs bs one i j)) ∧ (bs.take j).foldl (relax hs) (cfI hs bs one i) one = some (0, momH hs one) ∧ Same H H3 ∧ (ch = false → (bs.take j).foldl (relax hs) (cfI hs bs one i) = cfI hs bs one i ∧ ∀ b ∈ bs.take j, ∀ c, cfI hs bs one i b.one = some c → ∃ d, cfI hs bs one i b.to = some d ∧ coLe d (coAdd hs c b)) ∧ (ch = true → ¬ Stab hs bs (cfI hs bs one i)))
      ⟨false, kvs, lvs, la, _, _, _, _, _, _, _, rfl, hcd, dc, by omega, hld, by omega, dl, ⟨L, fx⟩, c1, s, (fun _ => ⟨rfl, (fun _ z => nomatch z)⟩), (fun z => nomatch z)⟩ ?_ ?_ ?_ ?_⟩
    · rintro j σ H3 hj ⟨ch, kvs, lvs, la, v7, v8, v9, v10, v11, v12, v13, rfl, hcd, dc, lk, hld, ll, dl, ⟨L, fx⟩, c1, s, f1, f2⟩
      exact ⟨SqT.of (s _ _ eb), hj⟩
    · rintro σ H3 ⟨ch, kvs, lvs, la, v7, v8, v9, v10, v11, v12, v13, rfl, hcd, dc, lk, hld, ll, dl, ⟨L, fx⟩, c1, s, f1, f2⟩
      exact ⟨SqT.of (s _ _ eb), rfl⟩
    · rintro j x σ H3 H4 hj ⟨ch, kvs, lvs, la, v7, v8, v9, v10, v11, v12, v13, rfl, hcd, dc, lk, hld, ll, dl, ⟨L, fx⟩, c1, s, f1, f2⟩ ⟨tt, y, rfl, ntt, rfl, ey⟩
      obtain ⟨b, ebj, ⟨t2, g, rfl, e1, e2⟩⟩ := alb.getL ey
      have hb := List.mem_of_getElem? ebj
      have nx : (bs.take (j + 1)).foldl (relax hs) (cfI hs bs one i) = relax hs ((bs.take j).foldl (relax hs) (cfI hs bs one i)) b := by
        rw [List.take_add_one, ebj, List.foldl_append]; rfl
      have sound : Snd hs bs one ((bs.take j).foldl (relax hs) (cfI hs bs one i)) := Snd.fold (fun _ h => List.mem_of_mem_take h) (cfI_snd i)
      obtain ⟨cf, ecf⟩ : ∃ cf, cf = (bs.take j).foldl (relax hs) (cfI hs bs one i) := ⟨_, rfl⟩
      have fj := rxJ_fst (hs := hs) (bs := bs) (one := one) (i := i) (j := j)
      rw [← ecf] at dc L c1 f1 nx sound fj
      have s4 := s.trans (same_new (o := .tup [V.int ((j : Nat) : Int), V.ref t2]) ntt)
      have hcd4 := same_new (o := .tup [V.int ((j : Nat) : Int), V.ref t2]) ntt _ _ hcd
      have hld4 := same_new (o := .tup [V.int ((j : Nat) : Int), V.ref t2]) ntt _ _ hld
      have dc4 := dc.keep (TK.new (o := .tup [V.int ((j : Nat) : Int), V.ref t2]) ntt)
      refine ⟨tt, _, rfl, SqT.of upd_same, rfl, _, _, rfl, _, _, rfl, t2, _, rfl, SqT.of (s4 _ _ e1), rfl, _, _, rfl, _, _, rfl, _, _, rfl, rfl, rfl, ?_⟩
      -- nothing changes
      have idle : ∀ (v11 v12 v13 : Option V) (H5 : Hp), relax hs cf b = cf → (∀ c, cf b.one = some c → ∃ d, cf b.to = some d ∧ coLe d (coAdd hs c b)) → Same (upd H3 tt (.tup [V.int ((j : Nat) : Int), V.ref t2])) H5 → ∃ (ch' : Bool) (kvs' lvs' : List (Key × V)) (la' : Nat → Option Nat) (w7 w8 w9 w10 w11 w12 w13 : Option V), [some (.ref r), some (nV one), some (.ref ha), some (.ref ba), some (.ref cd), some (.ref ld), some (.bl ch), some (V.int ((j : Nat) : Int)), some (nV b.one), some (nV b.to), some (.ref g), v11, v12, v13] = [some (.ref r), some (nV one), some (.ref ha), some (.ref ba), some (.ref cd), some (.ref ld), some (.bl ch'), w7, w8, w9, w10, w11, w12, w13] ∧ H5 cd = some (.dK kvs') ∧ DC H5 kvs' ((bs.take (j + 1)).foldl (relax hs) (cfI hs bs one i)) ∧ kvs'.length ≤ 1 + 20 * i + (j + 1) ∧ H5 ld = some (.dK lvs') ∧ lvs'.length ≤ 20 * i + (j + 1) ∧ (∀ k, valV lvs' (kN k) = (la' k).map nV) ∧ (LaOk hs bs one ((bs.take (j + 1)).foldl (relax hs) (cfI hs bs one i)) la' ∧ Fx kvs' la' (rxJ hs bs one i (j + 1))) ∧ (bs.take (j + 1)).foldl (relax hs) (cfI hs bs one i) one = some (0, momH hs one) ∧ Same H H5 ∧ (ch' = false → (bs.take (j + 1)).foldl (relax hs) (cfI hs bs one i) = cfI hs bs one i ∧ ∀ b ∈ bs.take (j + 1), ∀ c, cfI hs bs one i b.one = some c → ∃ d, cfI hs bs one i b.to = some d ∧ coLe d (coAdd hs c b)) ∧ (ch' = true → ¬ Stab hs bs (cfI hs bs one i)) := fun v11 v12 v13 H5 er1 er2 s5 => by
        rw [er1] at nx
        rw [nx]
        have fx := fx
        rw [← rxT_idle (hs := hs) (t := rxJ hs bs one i j) (p := (j, b)) (fun c z => by rw [fj] at z ⊢; exact er2 c z), ← rxJ_succ ebj] at fx
        refine ⟨ch, kvs, lvs, la, _, _, _, _, _, _, _, rfl, s5 _ _ hcd4, dc4.keep (TK.same s5), by omega, s5 _ _ hld4, by omega, dl, ⟨L, fx⟩, c1, s4.trans s5, fun z => ?_, f2⟩
        obtain ⟨g1, g2⟩ := f1 z
        refine ⟨g1, fun b' hb' => ?_⟩
        rw [List.take_add_one, ebj] at hb'
        rcases List.mem_append.mp hb' with hb' | hb'
        · exact g2 b' hb'
        · obtain rfl : b' = b := by simpa using hb'
          rw [← g1]
          exact er2
      rcases dc4.1 b.one with ⟨d1, d2⟩ | ⟨c, v, d1, d2, tc, rfl, htc⟩
      · refine ⟨_, rfl, _, rfl, cd, _, rfl, dget_of hcd4 d2, _, rfl, if_bl (fun z => nomatch z) (fun _ => ?_)⟩
        exact idle _ _ _ _ (relax_none d1) (fun c z => by rw [d1] at z; cases z) (Same.refl _)
      refine ⟨_, rfl, _, rfl, cd, _, rfl, dget_of hcd4 d2, _, rfl, if_bl (fun _ => ?_) (fun z => nomatch z)⟩
      have tb := hto b hb
      have eht : hs[b.to]? = some hs[b.to] := List.getElem?_eq_getElem tb
      have mom2 : momH hs b.to = hs[b.to].mom := by unfold momH; rw [eht]
      obtain ⟨x3, ex3, ⟨t3, r3, rfl, e31, e32⟩⟩ := alh.get eht
      refine ⟨_, rfl, _, rfl, cd, _, rfl, dget_of hcd4 d2, tc, _, rfl, SqT.of htc, rfl, _, _, rfl, _, _, rfl, rfl, ?_⟩
      refine ⟨_, rfl, _, rfl, g, _, rfl, .inr (SqT.of (s4 _ _ e2)), _, _, rfl, rfl, _, rfl, _, rfl, _, rfl, ha, _, _, _, rfl, rfl, SqT.of (s4 _ _ eh), atI_nat ex3, t3, _, _, _, rfl, rfl, SqT.of (s4 _ _ e31), atI_nat (j := 1) rfl, _, _, rfl, rfl, (by show 2 ≤ sizeLine; decide), fun tn ntn => ?_⟩
      have enew : [V.int (c.1 + (((b.th.map V.int).length : Nat) : Int)), V.int (-c.2 - hs[b.to].mom)] = [V.int (coAdd hs c b).1, V.int (-(coAdd hs c b).2)] := by
        unfold coAdd
        dsimp only
        rw [List.length_map, mom2, show -c.2 - hs[b.to].mom = -(c.2 + hs[b.to].mom) by omega]
      rw [enew]
      have s5 := same_new (o := .tup [V.int (coAdd hs c b).1, V.int (-(coAdd hs c b).2)]) ntn
      have hcd5 := s5 _ _ hcd4
      have hld5 := s5 _ _ hld4
      have dc5 := dc4.keep (TK.same s5)
      -- something changes
      have put : (∀ d, cf b.to = some d → coLt (coAdd hs c b) d) → (relax hs cf b = fun k => if k = b.to then some (coAdd hs c b) else cf k) → ∃ (ch' : Bool) (kvs' lvs' : List (Key × V)) (la' : Nat → Option Nat) (w7 w8 w9 w10 w11 w12 w13 : Option V), [some (.ref r), some (nV one), some (.ref ha), some (.ref ba), some (.ref cd), some (.ref ld), some (.bl true), some (V.int ((j : Nat) : Int)), some (nV b.one), some (nV b.to), some (.ref g), some (V.int c.1), some (V.int (-c.2)), some (.ref tn)] = [some (.ref r), some (nV one), some (.ref ha), some (.ref ba), some (.ref cd), some (.ref ld), some (.bl ch'), w7, w8, w9, w10, w11, w12, w13] ∧ (upd (upd (upd (upd H3 tt (.tup [V.int ((j : Nat) : Int), V.ref t2])) tn (.tup [V.int (coAdd hs c b).1, V.int (-(coAdd hs c b).2)])) cd (.dK (putK kvs (kN b.to) (V.ref tn)))) ld (.dK (putK lvs (kN b.to) (nV j)))) cd = some (.dK kvs') ∧ DC (upd (upd (upd (upd H3 tt (.tup [V.int ((j : Nat) : Int), V.ref t2])) tn (.tup [V.int (coAdd hs c b).1, V.int (-(coAdd hs c b).2)])) cd (.dK (putK kvs (kN b.to) (V.ref tn)))) ld (.dK (putK lvs (kN b.to) (nV j)))) kvs' ((bs.take (j + 1)).foldl (relax hs) (cfI hs bs one i)) ∧ kvs'.length ≤ 1 + 20 * i + (j + 1) ∧ (upd (upd (upd (upd H3 tt (.tup [V.int ((j : Nat) : Int), V.ref t2])) tn (.tup [V.int (coAdd hs c b).1, V.int (-(coAdd hs c b).2)])) cd (.dK (putK kvs (kN b.to) (V.ref tn)))) ld (.dK (putK lvs (kN b.to) (nV j)))) ld = some (.dK lvs') ∧ lvs'.length ≤ 20 * i + (j + 1) ∧ (∀ k, valV lvs' (kN k) = (la' k).map nV) ∧ (LaOk hs bs one ((bs.take (j + 1)).foldl (relax hs) (cfI hs bs one i)) la' ∧ Fx kvs' la' (rxJ hs bs one i (j + 1))) ∧ (bs.take (j + 1)).foldl (relax hs) (cfI hs bs one i) one = some (0, momH hs one) ∧ Same H (upd (upd (upd (upd H3 tt (.tup [V.int ((j : Nat) : Int), V.ref t2])) tn (.tup [V.int (coAdd hs c b).1, V.int (-(coAdd hs c b).2)])) cd (.dK (putK kvs (kN b.to) (V.ref tn)))) ld (.dK (putK lvs (kN b.to) (nV j)))) ∧ (ch' = false → (bs.take (j + 1)).foldl (relax hs) (cfI hs bs one i) = cfI hs bs one i ∧ ∀ b ∈ bs.take (j + 1), ∀ c, cfI hs bs one i b.one = some c → ∃ d, cfI hs bs one i b.to = some d ∧ coLe d (coAdd hs c b)) ∧ (ch' = true → ¬ Stab hs bs (cfI hs bs one i)) := fun l er1 => by
        rw [er1] at nx
        obtain ⟨L', ne1⟩ := L.put hrk sound c1 ebj d1 l
        rw [nx]
        have fx' : Fx (putK kvs (kN b.to) (V.ref tn)) (fun k => if k = b.to then some j else la k) (rxJ hs bs one i (j + 1)) := by
          rw [rxJ_succ ebj, rxT_put (t := rxJ hs bs one i j) (j := j) (c := c) (by rw [fj]; exact d1) (fun d z => l d (by rw [fj] at z; exact z))]
          refine ⟨?_, ?_⟩
          · rw [putK_fst, fx.1]
            show _ = List.map _ (if (rxJ hs bs one i j).1 b.to = none then (rxJ hs bs one i j).2.1 ++ [b.to] else (rxJ hs bs one i j).2.1)
            rw [fj]
            rcases dc5.1 b.to with ⟨g3, g4⟩ | ⟨d, v, g3, g4, _⟩
            · rw [if_pos g3, if_pos g4, List.map_append]
              rfl
            · rw [if_neg (by rw [g4]; exact fun z => nomatch z), if_neg (by rw [g3]; exact fun z => nomatch z)]
          · show (fun k => if k = b.to then some j else la k) = fun k => if k = b.to then some j else (rxJ hs bs one i j).2.2 k
            rw [fx.2]
        have pl := putK_le kvs (kN b.to) (V.ref tn)
        have pl2 := putK_le lvs (kN b.to) (nV j)
        have hld6 : upd (upd (upd H3 tt (.tup [V.int ((j : Nat) : Int), V.ref t2])) tn (.tup [V.int (coAdd hs c b).1, V.int (-(coAdd hs c b).2)])) cd (.dK (putK kvs (kN b.to) (V.ref tn))) ld = some (.dK lvs) := by rw [upd_ne cdld.symm]; exact hld5
        refine ⟨true, putK kvs (kN b.to) (V.ref tn), putK lvs (kN b.to) (nV j), fun k => if k = b.to then some j else la k, _, _, _, _, _, _, _, rfl, by rw [upd_ne cdld, upd_same], ?_, by omega, upd_same, by omega, DL.put dl b.to j, ⟨L', fx'⟩, (if_neg ne1.symm).trans c1, Same.own (Same.own (s4.trans s5) ncd) ld0, (fun z => nomatch z), fun _ stb => ?_⟩
        · exact ((dc5.put (k := b.to) ⟨tn, rfl, upd_same⟩).keep (TK.dic hcd5)).keep (TK.dic hld6)
        · -- the state ahead was not at rest
          have rest := stab_fold stb (l := bs.take j) fun x hx => List.mem_of_mem_take hx
          rw [rest] at ecf
          obtain ⟨d, y1, y2⟩ := stb b hb c (by rw [← ecf]; exact d1)
          exact absurd y2 (l d (by rw [ecf]; exact y1)).not_le
      rcases dc5.1 b.to with ⟨f3, f4⟩ | ⟨d, v, f3, f4, td, rfl, htd⟩
      · refine ⟨_, rfl, _, rfl, cd, _, rfl, dget_of hcd5 f4, _, rfl, if_bl (fun _ => if_bl (fun _ => ?_) (fun z => nomatch z)) (fun z => nomatch z)⟩
        refine ⟨_, rfl, _, rfl, _, rfl, cd, _, rfl, DPut.k (k := kN b.to) hcd5 (small1000 (by omega)), ?_⟩
        refine ⟨_, rfl, _, rfl, _, rfl, ld, _, rfl, DPut.k (k := kN b.to) (by rw [upd_ne cdld.symm]; exact hld5) (small1000 (by omega)), ?_⟩
        exact put (fun d z => by rw [f3] at z; cases z) (relax_new d1 f3)
      · refine ⟨_, rfl, _, rfl, cd, _, rfl, dget_of hcd5 f4, _, rfl, if_bl (fun z => nomatch z) (fun _ => ?_)⟩
        refine ⟨_, rfl, _, rfl, _, rfl, cd, _, rfl, dget_of hcd5 f4, tn, td, [(coAdd hs c b).1, -(coAdd hs c b).2], [d.1, -d.2], rfl, rfl, SqT.of upd_same, SqT.of htd, _, rfl, ?_⟩
        rw [lex_co]
        by_cases l : coLt (coAdd hs c b) d
        · rw [decide_eq_true l]
          refine if_bl (fun _ => ?_) (fun z => nomatch z)
          refine ⟨_, rfl, _, rfl, _, rfl, cd, _, rfl, DPut.k (k := kN b.to) hcd5 (small1000 (by omega)), ?_⟩
          refine ⟨_, rfl, _, rfl, _, rfl, ld, _, rfl, DPut.k (k := kN b.to) (by rw [upd_ne cdld.symm]; exact hld5) (small1000 (by omega)), ?_⟩
          exact put (fun d' z => by rw [f3] at z; cases z; exact l) (relax_lt d1 f3 l)
        · rw [decide_eq_false l]
          refine if_bl (fun z => nomatch z) (fun _ => ?_)
          exact idle _ _ _ _ (relax_ge d1 f3 l) (fun c' z => ⟨d, f3, by rw [d1] at z; cases z; exact coLe_of_not l⟩) s5
    · rintro σ H3 ⟨ch, kvs, lvs, la, v7, v8, v9, v10, v11, v12, v13, rfl, hcd, dc, lk, hld, ll, dl, ⟨L, fx⟩, c1, s, f1, f2⟩
      rw [lbv, List.take_length] at dc L c1 f1
      have fx : Fx kvs la (rxI hs bs one (i + 1)) := by
        have e : rxJ hs bs one i bv.length = rxI hs bs one (i + 1) := by
          show ((nB bs).take bv.length).foldl _ _ = (nB bs).foldl _ _
          rw [List.take_of_length_le (by unfold nB; rw [List.length_zip, List.length_range]; omega)]
        rw [← e]
        exact fx
      cases ch with
      | false =>
        obtain ⟨g1, g2⟩ := f1 rfl
        refine ⟨0, by omega, i + 1, false, kvs, lvs, la, _, _, _, _, _, _, _, rfl, hcd, dc, by omega, hld, by omega, dl, ⟨L, fx⟩, c1, s, .inr ⟨rfl, ?_, rfl⟩⟩
        show Stab hs bs (bs.foldl (relax hs) (cfI hs bs one i))
        rw [g1]
        exact g2
      | true =>
        have := f2 rfl
        have il : i < hs.length := by
          refine Nat.lt_of_not_le fun z => this (stab_at hrk hto ho z)
        exact ⟨hs.length + 1 - (i + 1), by omega, i + 1, true, kvs, lvs, la, _, _, _, _, _, _, _, rfl, hcd, dc, by omega, hld, by omega, dl, ⟨L, fx⟩, c1, s, .inl ⟨rfl, by omega, rfl⟩⟩
  · refine if_bl (fun z => nomatch z) (fun _ => ?_)
    have eb3 := rxI_best hrk hto ho st
    rw [eb3] at fx
    have eb2 := cfI_best hrk hto ho st
    rw [eb2] at dc L
    refine ⟨_, rfl, _, rfl, (by show 2 ≤ sizeLine; decide), fun p np => ?_⟩
    exact q p cd ld kvs lvs la _ upd_same cdld (same_new np _ _ hcd) (dc.keep (TK.new np)) (same_new np _ _ hld) dl L fx.1 fx.2 (s.trans (same_new np))
end
theorem wayCo_cons {hs : List HR} {bs : List BR} {k n : Nat} {ns : List Nat} {b : BR} (eb : bs[n]? = some b) : ((n :: ns).map (trB bs)).sum = (b.th.length : Int) + (ns.map (trB bs)).sum ∧ ((n :: ns).map fun n => momH hs (toB bs n)).sum = momH hs b.to + (ns.map fun n => momH hs (toB bs n)).sum := by
  have h1 : trB bs n = (b.th.length : Int) := by unfold trB; rw [eb]
  have h2 : toB bs n = b.to := by unfold toB; rw [eb]
  rw [List.map_cons, List.map_cons, List.sum_cons, List.sum_cons, h1, h2]
  exact ⟨rfl, rfl⟩
/-- what least_costs tells -/
structure Told (hs : List HR) (bs : List BR) (one : Nat) (H : Hp) (ld : Addr) (lvs : List (Key × V)) (la : Nat → Option Nat) : Prop where
  dic : H ld = some (.dK lvs)
  dl : ∀ k, valV lvs (kN k) = (la k).map nV
  la : LaOk hs bs one (best hs bs one) la
theorem best_lt {hs : List HR} {bs : List BR} {one k : Nat} {c : Co} (hto : ∀ b ∈ bs, b.to < hs.length) (ho : one < hs.length) (h : best hs bs one k = some c) : k < hs.length := by
  obtain ⟨ns, w1, _⟩ := cfI_snd _ k c h
  exact way_lt hto ho w1
theorem best_one {hs : List HR} {bs : List BR} {rk : Nat → Int} {one : Nat} (hrk : ∀ b ∈ bs, b.th = [] → rk b.one < rk b.to) : best hs bs one one = some (0, momH hs one) := by
  obtain ⟨c, h1, h2⟩ := cfI_cpl (hs := hs) (bs := bs) hs.length [] one (Nat.zero_le _) rfl
  obtain ⟨ns, w1, w2⟩ := cfI_snd _ one c h1
  rw [wayCo_nil] at h2
  have : c = (0, momH hs one) := by
    by_cases e : ns = []
    · rw [← w2, e, wayCo_nil]
    · have t := way_closed hrk w1 e
      have t2 : c.1 = (ns.map (trB bs)).sum := by rw [← w2]; rfl
      unfold coLe at h2
      dsimp only at h2
      omega
  show cfI hs bs one hs.length one = _
  rw [h1, this]
theorem mom_le {hs : List HR} (good : ∀ h ∈ hs, GoodHand h) (k : Nat) : momH hs k ≤ 30 := by
  unfold momH
  cases e : hs[k]? with
  | none => exact (by decide)
  | some h => exact (good h (List.mem_of_getElem? e)).2.2
/-- the belts that way_back goes back over, told hand by hand -/
inductive BackR (bs : List BR) (la : Nat → Option Nat) : Nat → List Nat → Prop
  | stop {e : Nat} : la e = none → BackR bs la e []
  | go {e n : Nat} {b : BR} {rs : List Nat} : la e = some n → bs[n]? = some b → BackR bs la b.one rs → BackR bs la e (n :: rs)
theorem BackR.one {bs : List BR} {la : Nat → Option Nat} {e : Nat} {rs : List Nat} (h : BackR bs la e rs) : ∀ {rs' : List Nat}, BackR bs la e rs' → rs = rs' := by
  induction h with
  | stop h1 =>
    intro rs' g
    cases g with
    | stop _ => rfl
    | go g1 _ _ => rw [h1] at g1; cases g1
  | go h1 h2 _ ih =>
    intro rs' g
    cases g with
    | stop g1 => rw [h1] at g1; cases g1
    | go g1 g2 g3 =>
      rw [h1] at g1
      cases g1
      rw [h2] at g2
      cases g2
      rw [ih g3]
section
variable {P : Program} {w : World} {K : PySem.W.Frag} {mg : Str → Option Value} {base : Heap}
def sp_way_back (K : PySem.W.Frag) : Sp := fun vs H Q _ => ∃ (r ld : Addr) (hs : List HR) (bs : List BR) (one e : Nat) (c : Co) (lvs : List (Key × V)) (la : Nat → Option Nat), vs = [.ref r, nV e, .ref ld] ∧ RoomAt H r hs bs ∧ RoomOk hs bs ∧ one < hs.length ∧ Told hs bs one H ld lvs la ∧ best hs bs one e = some c ∧
  ∀ (p : Addr) (ns : List Nat) (H' : Hp), PairAt H' p one ns → wayEnd bs one ns = some e → wayCo hs bs one ns = c → ns.length ≤ hs.length → BackR bs la e ns.reverse → Same H H' → Q (.ref p) H'
theorem ok_way_back {f : Addr} {fd : FuncData} (F : Fun K "way_back" "way_back" s_way_back f fd) (T : Top K mg) : FnOk P w K mg base CX0 1 f fd ["room", "end", "last"] (sp_way_back K) := by
  refine F.ok sc_way_back (fun vs H Q E h => ?_) (fun cdv A outer s H vs Q E hr h => ?_)
  · obtain ⟨r, ld, hs, bs, one, e, c, lvs, la, rfl, _⟩ := h
    rfl
  obtain ⟨r, ld, hs, bs, one, e, ce, lvs, la, rfl, hR, ok, ho, ⟨hld, dl, L⟩, he, q⟩ := h
  obtain ⟨ha, ba, hv, bv, er, eh, eb, alh, alb⟩ := hR.ex
  have lh := ok.hands
  obtain ⟨rk, hrk⟩ := ok.rank
  have hto : ∀ b ∈ bs, b.to < hs.length := fun b hb => (ok.ends b hb).2
  have stb := stab_at (hs := hs) hrk hto ho (Nat.le_refl _)
  refine ⟨_, (pss_cons (ps_set (i := 3) sc_way_back.nd rfl (Or.inl rfl) (pe_lst pa_nil))
      (pss_cons (ps_set (i := 4) sc_way_back.nd rfl (Or.inl rfl) (pv 1))
      (pss_cons (ps_while PassesOwn.never (pt_cmp (pc_din (hu_of hr) (pv 4) (pv 2)) (by with_unfolding_all rfl))
        (pss_cons (ps_expr (pe_bmK K rfl PySem.F.plainAttrs_list PySem.F.slot_list_append PySem.F.type_list_append mt_append (pv 3) (pa_cons (pe_dget (hu_of hr) (pv 2) (pv 4) (fun _ _ => rfl)) pa_nil)))
      (pss_one (ps_set (i := 4) sc_way_back.nd rfl (Or.inl rfl) (pe_ix (ix_tupK K rfl) (pe_ix (ix_tupK K rfl) (pe_ix (ix_tupK K rfl) (pv 0) pe_int (fun _ _ => rfl)) (pe_dget (hu_of hr) (pv 2) (pv 4) (fun _ _ => rfl)) (fun _ _ => rfl)) pe_int (fun _ _ => rfl))))))
      (pss_one (ps_ret (pe_tup (pa_cons (pv 4) (pa_cons (pe_callTy (call_tuple_ofK K rfl) (by rfl) T.m_tuple (by decide +kernel) (pa_cons (pe_revLK K rfl (pv 3)) pa_nil)) pa_nil)))))))), ?_⟩
  refine ⟨(by show 0 ≤ sizeLine; decide), fun nl nnl => ?_⟩
  refine ⟨_, rfl, ?_⟩
  refine ⟨fun m σ H2 => ∃ (k : Nat) (ns : List Nat) (c : Co), σ = [some (.ref r), some (nV e), some (.ref ld), some (.ref nl), some (nV k)] ∧ H2 nl = some (.lst (ns.reverse.map nV)) ∧ wayEnd bs k ns = some e ∧ best hs bs one k = some c ∧ c.1 + (ns.map (trB bs)).sum = ce.1 ∧ c.2 + (ns.map fun n => momH hs (toB bs n)).sum = ce.2 ∧ ns.length + m ≤ hs.length ∧ (∀ rs, BackR bs la k rs → BackR bs la e (ns.reverse ++ rs)) ∧ m = meas rk (best hs bs one) hs.length k ∧ Same H H2,
    ⟨_, e, [], ce, rfl, upd_same, rfl, he, by show ce.1 + 0 = ce.1; omega, by show ce.2 + 0 = ce.2; omega, by show 0 + _ ≤ _; have := meas_le (rk := rk) (cf := best hs bs one) (n := hs.length) (k := e); omega, (fun _ z => z), rfl, same_new nnl⟩, ?_⟩
  rintro m σ H2 ⟨k, ns, c, rfl, hnl, we, hk, t1, t2, ln, bk, rfl, s2⟩
  refine ⟨_, rfl, _, rfl, ld, _, rfl, dget_of (s2 _ _ hld) (dl k), _, rfl, ?_⟩
  cases elk : la k with
  | none =>
    refine if_bl (fun z => nomatch z) (fun _ => ?_)
    have k1 : k = one := by
      rcases L.has k c hk with z | z
      · exact z
      · rw [elk] at z; cases z
    have bk0 := bk [] (.stop elk)
    rw [List.append_nil] at bk0
    subst k1
    rw [best_one hrk] at hk
    cases hk
    refine ⟨_, rfl, _, rfl, nl, _, rfl, SqL.of hnl, fun l2 nl2 => ⟨l2, _, rfl, .inl ⟨SqL.of upd_same, fun p np => ⟨(by show 2 ≤ sizeLine; decide), fun p2 np2 => ?_⟩⟩⟩⟩
    refine q p2 ns _ ⟨p, upd_same, ?_⟩ we ?_ (by omega) bk0 (((s2.trans (same_new nl2)).trans (same_new np)).trans (same_new np2))
    · rw [same_new np2 _ _ upd_same, ← List.map_reverse, List.reverse_reverse]
    · refine Prod.ext ?_ ?_
      · show (ns.map (trB bs)).sum = ce.1
        omega
      · show momH hs k + _ = ce.2
        omega
  | some n =>
    refine if_bl (fun _ => ?_) (fun z => nomatch z)
    obtain ⟨b, c', d, ebn, ebt, h1, h2, h3⟩ := L.go k n elk
    have hb := List.mem_of_getElem? ebn
    rw [hk] at h2
    cases h2
    obtain ⟨d', h4, h5⟩ := stb b hb c' h1
    rw [ebt] at h4
    have h4 : best hs bs one k = some d' := h4
    rw [hk] at h4
    cases h4
    have ec := h5.antisymm h3
    have dn : valV lvs (kN k) = some (nV n) := by rw [dl k, elk]; rfl
    have lt := meas_lt (n := hs.length) (best_lt hto ho h1) (last_lt hrk (mom_le ok.good) hb ebt h1 hk h3)
    refine ⟨_, fun σ' H' h => h, ?_⟩
    refine ⟨_, rfl, .inl ⟨rfl, _, SqL.of hnl⟩, _, rfl, _, rfl, ld, _, rfl, dget_of (s2 _ _ hld) dn, nl, _, _, rfl, rfl, hnl, by rw [List.length_map, List.length_reverse]; exact small1000 (by omega), ?_⟩
    have s3 : Same H (upd H2 nl (.lst (ns.reverse.map nV ++ [nV n]))) := Same.own s2 nnl
    obtain ⟨x, ex, ⟨t2', g2, rfl, e1, e2⟩⟩ := alb.get ebn
    refine ⟨_, rfl, r, _, _, _, rfl, rfl, SqT.of (s3 _ _ er), atI_nat (j := 1) rfl, _, rfl, _, rfl, ld, _, rfl, dget_of (s3 _ _ hld) dn, ba, _, _, _, rfl, rfl, SqT.of (s3 _ _ eb), atI_nat ex, t2', _, _, _, rfl, rfl, SqT.of (s3 _ _ e1), atI_nat (j := 0) rfl, ?_⟩
    obtain ⟨w1, w2⟩ := wayCo_cons (hs := hs) (k := k) (ns := ns) ebn
    have ec1 : c.1 = c'.1 + (b.th.length : Int) := by rw [ec]; rfl
    have ec2 : c.2 = c'.2 + momH hs b.to := by rw [ec]; rfl
    refine ⟨_, lt, b.one, n :: ns, c', rfl, ?_, ?_, h1, by rw [w1]; omega, by rw [w2]; omega, by rw [List.length_cons]; omega, (fun rs z => by rw [List.reverse_cons, List.append_assoc]; exact bk _ (.go elk ebn z)), rfl, s3⟩
    · rw [upd_same, List.reverse_cons, List.map_append]; rfl
    · rw [wayEnd_cons ebn, if_pos rfl, ebt]; exact we
end
/-- the hands whose rule is this door's -/
def doorsOf (z : Str) (hs : List HR) : List Nat := (List.range hs.length).filter fun i => decide (hs[i]?.map HR.wd = some z)
theorem mem_doors {z : Str} {hs : List HR} {k : Nat} : k ∈ doorsOf z hs ↔ ∃ h, hs[k]? = some h ∧ h.wd = z := by
  unfold doorsOf
  rw [List.mem_filter, List.mem_range, decide_eq_true_eq]
  constructor
  · rintro ⟨a, b⟩
    rw [List.getElem?_eq_getElem a] at b
    exact ⟨_, List.getElem?_eq_getElem a, Option.some.inj b⟩
  · rintro ⟨h, a, b⟩
    refine ⟨(List.getElem?_eq_some_iff.mp a).1, ?_⟩
    rw [a, ← b]
    rfl
theorem doors_nodup {z : Str} {hs : List HR} : (doorsOf z hs).Nodup := List.nodup_range.filter _
theorem doors_len {z : Str} {hs : List HR} : (doorsOf z hs).length ≤ hs.length := by
  refine Nat.le_trans (List.length_filter_le ..) ?_
  rw [List.length_range]
  exact Nat.le_refl _
abbrev gD (m : List Int) (k : Nat) : Int := m.getD k 0
section
variable {P : Program} {w : World} {K : PySem.W.Frag} {mg : Str → Option Value} {base : Heap}
def sp_doors (z : Str) : Sp := fun vs H Q _ => ∃ (r : Addr) (hs : List HR) (bs : List BR), vs = [.ref r] ∧ RoomAt H r hs bs ∧ hs.length ≤ 400 ∧ (∀ h ∈ hs, GoodHand h) ∧ ∀ (p : Addr) (H' : Hp), H p = none → H' p = some (.lst ((doorsOf z hs).map nV)) → Same H H' → Q (.ref p) H'
abbrev sp_doors_in (K : PySem.W.Frag) : Sp := sp_doors "in"
abbrev sp_doors_out (K : PySem.W.Frag) : Sp := sp_doors "out"
theorem ok_doors_in {f : Addr} {fd : FuncData} (F : Fun K "doors_in" "doors_in" s_doors_in f fd) (T : Top K mg) : FnOk P w K mg base CX0 1 f fd ["room"] (sp_doors_in K) := by
  refine F.ok sc_doors_in (fun vs H Q E h => ?_) (fun cdv A outer s H vs Q E hr h => ?_)
  · obtain ⟨r, hs, bs, rfl, _⟩ := h
    rfl
  obtain ⟨aI, mI, hI⟩ := T.x_in
  obtain ⟨r, hs, bs, rfl, hR, lb, good, q⟩ := h
  obtain ⟨ha, ba, hv, bv, er, eh, eb, alh, alb⟩ := hR.ex
  have lhv := alh.length
  refine ⟨_, (pss_one (ps_ret (pe_lc (own := [("number", 1), ("hand", 2)]) (g := gTup K 2 (gCons (gName 1) (gCons (gName 2) gNil))) (by rfl) sc_doors_in.nd (pi_enumT K rfl (by rfl) T.m_enumerate (pa_cons (pe_ix (ix_tupK K rfl) (pv 0) pe_int (fun _ _ => rfl)) pa_nil)) (blkOk_by (own := [("number", 1), ("hand", 2)]) (N := N_doors_in) (sc := defScope s_doors_in) (by decide +kernel)) (fun _ _ _ _ _ => (pg_tupK K rfl rfl (pgs_cons (pg_name (i := 1) sc_doors_in.nd rfl (Or.inl rfl)) (pgs_cons (pg_name (i := 2) sc_doors_in.nd rfl (Or.inl rfl)) pgs_nil)))) (fun _ _ _ _ _ => pts_one (pt_cmpR (op_eqDK K rfl hr.units) (pe_ix (ix_tupK K rfl) (pv 2) pe_int (fun _ _ => rfl)) (pe_glob (v := .ref aI) (by rfl) mI rfl) (nomark _))) (fun _ _ _ _ _ => (pv 1))))), ?_⟩
  refine ⟨_, rfl, r, _, _, _, rfl, rfl, SqT.of er, atI_nat (j := 0) rfl, ha, hv, rfl, SqT.of eh, fun D nD => lc_it (J := IteT K ha hv) (n := hv.length) (fun i H5 => H5 D = some (.lst (((List.range i).filter fun j => decide (hs[j]?.map HR.wd = some ("in" : Str))).map nV)) ∧ Same H H5) ⟨upd_same, same_new nD⟩ ?_ ?_ ?_ ?_⟩
  · rintro i H5 hi ⟨hD, s5⟩
    exact ⟨SqT.of (s5 _ _ eh), hi⟩
  · rintro H5 ⟨hD, s5⟩
    exact ⟨SqT.of (s5 _ _ eh), rfl⟩
  · rintro i x H5 H6 hi ⟨hD, s5⟩ ⟨t, y, rfl, nt, rfl, ey⟩
    obtain ⟨hh, eb2, ⟨t2, g, rfl, e1, e2⟩⟩ := alh.getL ey
    have gh := good _ (List.mem_of_getElem? eb2)
    have s6 := s5.trans (same_new (o := .tup [V.int ((i : Nat) : Int), V.ref t2]) nt)
    have hD6 := same_new (o := .tup [V.int ((i : Nat) : Int), V.ref t2]) nt _ _ hD
    have few := filt_len (p := fun j => decide (hs[j]?.map HR.wd = some ("in" : Str))) i
    refine ⟨t, _, rfl, SqT.of upd_same, rfl, _, _, rfl, _, _, rfl, rfl, rfl, _, rfl, t2, _, _, _, rfl, rfl, SqT.of (s6 _ _ e1), atI_nat (j := 0) rfl, ?_⟩
    refine ⟨_, _, rule_dp (s6 _ _ e2), .tup (hI _) (.cons (.str _) .nil), rule_shaped gh.lay, one_shaped (by decide +kernel), _, rfl, ?_⟩
    rw [rule_eqv, gh.door "in" (.inl rfl)]
    by_cases c : hh.wd = "in"
    · rw [decide_eq_true c]
      refine if_bl (fun _ => ⟨_, rfl, _, hD6, by rw [List.length_map]; exact small1000 (by omega), ?_, Same.own s6 nD⟩) (fun z => nomatch z)
      rw [upd_same, filt_succ, if_pos (decide_eq_true (by rw [eb2, ← c]; rfl)), List.map_append]
      rfl
    · rw [decide_eq_false c]
      refine if_bl (fun z => nomatch z) (fun _ => ⟨?_, s6⟩)
      rw [filt_succ, if_neg fun z => c (by have := of_decide_eq_true z; rw [eb2] at this; exact Option.some.inj this), List.append_nil]
      exact hD6
  · rintro H5 ⟨hD, s5⟩
    refine q D H5 nD ?_ s5
    rw [hD, lhv]
    rfl
end
section
variable {P : Program} {w : World} {K : PySem.W.Frag} {mg : Str → Option Value} {base : Heap}
theorem ok_doors_out {f : Addr} {fd : FuncData} (F : Fun K "doors_out" "doors_out" s_doors_out f fd) (T : Top K mg) : FnOk P w K mg base CX0 1 f fd ["room"] (sp_doors_out K) := by
  refine F.ok sc_doors_out (fun vs H Q E h => ?_) (fun cdv A outer s H vs Q E hr h => ?_)
  · obtain ⟨r, hs, bs, rfl, _⟩ := h
    rfl
  obtain ⟨aO, mO, hI⟩ := T.x_out
  obtain ⟨r, hs, bs, rfl, hR, lb, good, q⟩ := h
  obtain ⟨ha, ba, hv, bv, er, eh, eb, alh, alb⟩ := hR.ex
  have lhv := alh.length
  refine ⟨_, (pss_one (ps_ret (pe_lc (own := [("number", 1), ("hand", 2)]) (g := gTup K 2 (gCons (gName 1) (gCons (gName 2) gNil))) (by rfl) sc_doors_out.nd (pi_enumT K rfl (by rfl) T.m_enumerate (pa_cons (pe_ix (ix_tupK K rfl) (pv 0) pe_int (fun _ _ => rfl)) pa_nil)) (blkOk_by (own := [("number", 1), ("hand", 2)]) (N := N_doors_out) (sc := defScope s_doors_out) (by decide +kernel)) (fun _ _ _ _ _ => (pg_tupK K rfl rfl (pgs_cons (pg_name (i := 1) sc_doors_out.nd rfl (Or.inl rfl)) (pgs_cons (pg_name (i := 2) sc_doors_out.nd rfl (Or.inl rfl)) pgs_nil)))) (fun _ _ _ _ _ => pts_one (pt_cmpR (op_eqDK K rfl hr.units) (pe_ix (ix_tupK K rfl) (pv 2) pe_int (fun _ _ => rfl)) (pe_glob (v := .ref aO) (by rfl) mO rfl) (nomark _))) (fun _ _ _ _ _ => (pv 1))))), ?_⟩
  refine ⟨_, rfl, r, _, _, _, rfl, rfl, SqT.of er, atI_nat (j := 0) rfl, ha, hv, rfl, SqT.of eh, fun D nD => lc_it (J := IteT K ha hv) (n := hv.length) (fun i H5 => H5 D = some (.lst (((List.range i).filter fun j => decide (hs[j]?.map HR.wd = some ("out" : Str))).map nV)) ∧ Same H H5) ⟨upd_same, same_new nD⟩ ?_ ?_ ?_ ?_⟩
  · rintro i H5 hi ⟨hD, s5⟩
    exact ⟨SqT.of (s5 _ _ eh), hi⟩
  · rintro H5 ⟨hD, s5⟩
    exact ⟨SqT.of (s5 _ _ eh), rfl⟩
  · rintro i x H5 H6 hi ⟨hD, s5⟩ ⟨t, y, rfl, nt, rfl, ey⟩
    obtain ⟨hh, eb2, ⟨t2, g, rfl, e1, e2⟩⟩ := alh.getL ey
    have gh := good _ (List.mem_of_getElem? eb2)
    have s6 := s5.trans (same_new (o := .tup [V.int ((i : Nat) : Int), V.ref t2]) nt)
    have hD6 := same_new (o := .tup [V.int ((i : Nat) : Int), V.ref t2]) nt _ _ hD
    have few := filt_len (p := fun j => decide (hs[j]?.map HR.wd = some ("out" : Str))) i
    refine ⟨t, _, rfl, SqT.of upd_same, rfl, _, _, rfl, _, _, rfl, rfl, rfl, _, rfl, t2, _, _, _, rfl, rfl, SqT.of (s6 _ _ e1), atI_nat (j := 0) rfl, ?_⟩
    refine ⟨_, _, rule_dp (s6 _ _ e2), .tup (hI _) (.cons (.str _) .nil), rule_shaped gh.lay, one_shaped (by decide +kernel), _, rfl, ?_⟩
    rw [rule_eqv, gh.door "out" (.inr rfl)]
    by_cases c : hh.wd = "out"
    · rw [decide_eq_true c]
      refine if_bl (fun _ => ⟨_, rfl, _, hD6, by rw [List.length_map]; exact small1000 (by omega), ?_, Same.own s6 nD⟩) (fun z => nomatch z)
      rw [upd_same, filt_succ, if_pos (decide_eq_true (by rw [eb2, ← c]; rfl)), List.map_append]
      rfl
    · rw [decide_eq_false c]
      refine if_bl (fun z => nomatch z) (fun _ => ⟨?_, s6⟩)
      rw [filt_succ, if_neg fun z => c (by have := of_decide_eq_true z; rw [eb2] at this; exact Option.some.inj this), List.append_nil]
      exact hD6
  · rintro H5 ⟨hD, s5⟩
    refine q D H5 nD ?_ s5
    rw [hD, lhv]
    rfl
end
structure Wy where
  one : Nat
  c : Co
  ns : List Nat
  e : Nat
def WyAt (H : Hp) (v : V) (y : Wy) : Prop := ∃ t p : Addr, v = .ref t ∧ H t = some (.tup [.int y.c.1, .int y.c.2, .ref p, nV y.e]) ∧ PairAt H p y.one y.ns
theorem WyAt.keep {H H' : Hp} {v : V} {y : Wy} (h : WyAt H v y) (k : TK H H') : WyAt H' v y := by
  obtain ⟨t, p, e, h1, h2⟩ := h
  exact ⟨t, p, e, k _ _ h1, h2.keep k⟩
structure WyOk (hs : List HR) (bs : List BR) (y : Wy) : Prop where
  lt : y.one < hs.length
  b : best hs bs y.one y.e = some y.c
  we : wayEnd bs y.one y.ns = some y.e
  wc : wayCo hs bs y.one y.ns = y.c
  ln : y.ns.length ≤ hs.length
structure AllWays (hs : List HR) (bs : List BR) (ys : List Wy) : Prop where
  ok : ∀ y ∈ ys, WyOk hs bs y
  all : ∀ one e c, one < hs.length → best hs bs one e = some c → ∃ y ∈ ys, y.one = one ∧ y.e = e
  few : ys.length ≤ 144
  nd : (ys.map fun y => (y.one, y.e)).Nodup
/-- the ways as least_ways tells them, one by one -/
def wyIs (hs : List HR) (bs : List BR) (p : Nat × Nat) (y : Wy) : Prop := y.one = p.1 ∧ y.e = p.2 ∧ best hs bs p.1 p.2 = some y.c ∧ BackR bs (laF hs bs p.1) p.2 y.ns.reverse
def prs (hs : List HR) (bs : List BR) (i : Nat) : List (Nat × Nat) := (List.range i).flatMap fun i => (ksF hs bs i).map fun e => (i, e)
theorem prs_succ {hs : List HR} {bs : List BR} {i : Nat} : prs hs bs (i + 1) = prs hs bs i ++ (ksF hs bs i).map fun e => (i, e) := by
  unfold prs
  rw [List.range_succ, List.flatMap_append, List.flatMap_cons, List.flatMap_nil, List.append_nil]
abbrev YsIs (hs : List HR) (bs : List BR) (ys : List Wy) : Prop := All2 (wyIs hs bs) (prs hs bs hs.length) ys
theorem wyIs.one {hs : List HR} {bs : List BR} {p : Nat × Nat} {y z : Wy} (a : wyIs hs bs p y) (b : wyIs hs bs p z) : y = z := by
  obtain ⟨a1, a2, a3, a4⟩ := a
  obtain ⟨b1, b2, b3, b4⟩ := b
  have e1 : y.c = z.c := Option.some.inj (a3.symm.trans b3)
  have e2 : y.ns = z.ns := by
    have := a4.one b4
    rw [← List.reverse_reverse y.ns, this, List.reverse_reverse]
  cases y
  cases z
  simp_all
theorem YsIs.one {hs : List HR} {bs : List BR} {ps : List (Nat × Nat)} : ∀ {ys zs : List Wy}, All2 (wyIs hs bs) ps ys → All2 (wyIs hs bs) ps zs → ys = zs := by
  intro ys zs a
  induction a generalizing zs with
  | nil => intro b; cases b; rfl
  | cons h _ ih =>
    intro b
    cases b with
    | cons g t => rw [h.one g, ih t]
theorem TK.frz {H : Hp} {p : Addr} {o : Obj} {kvs : List (Key × V)} (h : H p = some (.dK kvs)) : TK H (upd H p (.frz o (.dK kvs))) := fun x zs e => by
  rw [upd_ne (ne_of e h (fun z => nomatch z))]
  exact e
theorem TK.unfrz {H : Hp} {p : Addr} {o : Obj} {kvs : List (Key × V)} (h : H p = some (.frz o (.dK kvs))) : TK H (upd H p (.dK kvs)) := fun x zs e => by
  rw [upd_ne (ne_of e h (fun z => nomatch z))]
  exact e
section
variable {P : Program} {w : World} {K : PySem.W.Frag} {mg : Str → Option Value} {base : Heap}
def sp_least_ways (K : PySem.W.Frag) : Sp := fun vs H Q _ => ∃ (r : Addr) (hs : List HR) (bs : List BR), vs = [.ref r] ∧ RoomAt H r hs bs ∧ RoomOk hs bs ∧
  ∀ (p : Addr) (yv : List V) (ys : List Wy) (H' : Hp), H p = none → H' p = some (.lst yv) → All2 (WyAt H') yv ys → AllWays hs bs ys → YsIs hs bs ys → Same H H' → Q (.ref p) H'
theorem ok_least_ways {f : Addr} {fd : FuncData} (F : Fun K "least_ways" "least_ways" s_least_ways f fd) (T : Top K mg) : FnOk P w K mg base CX0 2 f fd ["room"] (sp_least_ways K) := by
  obtain ⟨f_least_costs, fd_least_costs, F_least_costs, b_least_costs, m_least_costs⟩ := T.d_least_costs
  have G_least_costs := ok_least_costs (P := P) (w := w) (base := base) F_least_costs T
  obtain ⟨f_way_back, fd_way_back, F_way_back, b_way_back, m_way_back⟩ := T.d_way_back
  have G_way_back := ok_way_back (P := P) (w := w) (base := base) F_way_back T
  refine F.ok sc_least_ways (fun vs H Q E h => ?_) (fun cdv A outer s H vs Q E hr h => ?_)
  · obtain ⟨r, hs, bs, rfl, _⟩ := h
    rfl
  obtain ⟨r, hs, bs, rfl, hR, ok, q⟩ := h
  obtain ⟨ha, ba, hv, bv, er, eh, eb, alh, alb⟩ := hR.ex
  have lhv := alh.length
  have lh := ok.hands
  have hto : ∀ b ∈ bs, b.to < hs.length := fun b hb => (ok.ends b hb).2
  refine ⟨_, (pss_cons (ps_set (i := 1) sc_least_ways.nd rfl (Or.inl rfl) (pe_lst pa_nil))
      (pss_cons (ps_for PassesOwn.never rfl (pi_range1 (by rfl) T.m_range (pa_cons (pe_callB (call_len_seqK K rfl) (by rfl) T.m_len (by decide +kernel) (pa_cons (pe_ix (ix_tupK K rfl) (pv 0) pe_int (fun _ _ => rfl)) pa_nil)) pa_nil)) (pg_name (i := 2) sc_least_ways.nd rfl (Or.inl rfl))
        (pss_cons (ps_asg (pe_call G_least_costs (hr.mono (by decide)) (by rfl) m_least_costs F_least_costs.kp b_least_costs .nil pass0 (pa_cons (pv 0) (pa_cons (pv 2) pa_nil))) (pg_tupK K rfl rfl (pgs_cons (pg_name (i := 3) sc_least_ways.nd rfl (Or.inl rfl)) (pgs_cons (pg_name (i := 4) sc_least_ways.nd rfl (Or.inl rfl)) pgs_nil))))
      (pss_one (ps_lock (ps_for PassesOwn.never rfl (pi_keys (pv 3)) (pg_name (i := 5) sc_least_ways.nd rfl (Or.inl rfl))
        (pss_cons (ps_asg (pe_dget (hu_of hr) (pv 3) (pv 5) (fun _ _ => rfl)) (pg_tupK K rfl rfl (pgs_cons (pg_name (i := 6) sc_least_ways.nd rfl (Or.inl rfl)) (pgs_cons (pg_name (i := 7) sc_least_ways.nd rfl (Or.inl rfl)) pgs_nil))))
      (pss_one (ps_expr (pe_bmK K rfl PySem.F.plainAttrs_list PySem.F.slot_list_append PySem.F.type_list_append mt_append (pv 1) (pa_cons (pe_tup (pa_cons (pv 6) (pa_cons (pe_un un_neg (pv 7)) (pa_cons (pe_call G_way_back (hr.mono (by decide)) (by rfl) m_way_back F_way_back.kp b_way_back .nil pass0 (pa_cons (pv 0) (pa_cons (pv 5) (pa_cons (pv 4) pa_nil)))) (pa_cons (pv 5) pa_nil))))) pa_nil))))))))))
      (pss_one (ps_ret (pv 1))))), ?_⟩
  refine ⟨(by show 0 ≤ sizeLine; decide), fun fl nfl => ?_⟩
  have s0 := same_new (o := .lst []) nfl
  refine ⟨_, rfl, r, _, _, _, rfl, rfl, SqT.of (s0 _ _ er), atI_nat (j := 0) rfl, ha, _, rfl, .inr (SqT.of (s0 _ _ eh)), _, rfl, by omega, by omega, for_range (lo := 0) (n := hv.length) (fun i σ H2 => ∃ (yv : List V) (ys : List Wy) (v2 v3 v4 v5 v6 v7 : Option V), σ = [some (.ref r), some (.ref fl), v2, v3, v4, v5, v6, v7] ∧ H2 fl = some (.lst yv) ∧ All2 (WyAt H2) yv ys ∧ (∀ y ∈ ys, WyOk hs bs y) ∧ (∀ one e c, one < i → best hs bs one e = some c → ∃ y ∈ ys, y.one = one ∧ y.e = e) ∧ ys.length ≤ 12 * i ∧ (∀ y ∈ ys, y.one < i) ∧ ((ys.map fun y => (y.one, y.e)).Nodup ∧ All2 (wyIs hs bs) (prs hs bs i) ys) ∧ Same H H2)
    ⟨[], [], _, _, _, _, _, _, rfl, upd_same, .nil, (fun _ z => nomatch z), (fun _ _ _ z => absurd z (Nat.not_lt_zero _)), Nat.le_refl _, (fun _ z => nomatch z), ⟨.nil, .nil⟩, s0⟩ ?_ ?_⟩
  · rintro i σ H2 hi ⟨yv, ys, v2, v3, v4, v5, v6, v7, rfl, hfl, aly, oky, ally, lys, lt2, ⟨nd2, yi2⟩, s2⟩
    have ho : i < hs.length := by omega
    refine ⟨_, rfl, _, rfl, r, hs, bs, i, (by show [V.ref r, V.int (0 + ((i : Nat) : Int))] = _; rw [Int.zero_add]), hR.keep (TK.same s2), ok, ho, fun p cd ld kvs lvs la H3 hp cdld hcd dc hld dl L ekf hla s3 => ?_⟩
    refine ⟨p, _, rfl, SqT.of hp, rfl, _, _, rfl, _, _, rfl, rfl, ?_⟩
    have s03 := s2.trans s3
    have hfl3 := s3 _ _ hfl
    have flcd : fl ≠ cd := ne_of hfl3 hcd (fun z => nomatch z)
    obtain ⟨ks, eks, ndk⟩ := dc.2
    have eksF : ks = ksF hs bs i := (List.map_inj_right (fun a b z => kN_inj z)).mp (eks.symm.trans ekf)
    have lkv : kvs.length = ks.length := by
      have := congrArg List.length eks
      rw [List.length_map, List.length_map] at this
      exact this
    -- each key is a hand that is come to
    have keyv : ∀ (j : Nat) (kv : Key × V), kvs[j]? = some kv → ∃ (e : Nat) (c : Co) (t : Addr), kv.1 = kN e ∧ ks[j]? = some e ∧ best hs bs i e = some c ∧ valV kvs (kN e) = some (V.ref t) ∧ H3 t = some (.tup [.int c.1, .int (-c.2)]) := fun j kv ej => by
      have e1 : (kvs.map Prod.fst)[j]? = some kv.1 := by rw [List.getElem?_map, ej]; rfl
      rw [eks, List.getElem?_map] at e1
      cases ek : ks[j]? with
      | none => rw [ek] at e1; cases e1
      | some e =>
        rw [ek] at e1
        have e1 : kN e = kv.1 := Option.some.inj e1
        have isS : (valV kvs (kN e)).isSome = true := by
          rw [← valV_any (kN e) kvs]
          exact List.any_eq_true.mpr ⟨kv, List.mem_of_getElem? ej, decide_eq_true e1.symm⟩
        rcases dc.1 e with ⟨_, d2⟩ | ⟨c, v, d1, d2, t, rfl, ht⟩
        · rw [d2] at isS; cases isS
        · exact ⟨e, c, t, e1.symm, rfl, d1, d2, ht⟩
    have few : kvs.length ≤ 12 := by
      have : ks.length ≤ hs.length := nodup_len _ ks ndk fun x hx => by
        obtain ⟨j, hj⟩ := List.getElem?_of_mem hx
        have jl := (List.getElem?_eq_some_iff.mp hj).1
        obtain ⟨e, c, t, _, e2, e3, _⟩ := keyv j kvs[j] (List.getElem?_eq_getElem (by omega))
        rw [hj] at e2
        cases e2
        exact best_lt hto ho e3
      omega
    refine ⟨cd, .dK kvs, hcd, trivial, fun od => ?_⟩
    have k4 : TK H3 (upd H3 cd (.frz od (.dK kvs))) := TK.frz hcd
    have b4 : But cd H3 (upd H3 cd (.frz od (.dK kvs))) := But.refl.upd
    refine ⟨_, rfl, cd, od, rfl, .inl ⟨kvs, upd_same, for_it (J := Itk cd od kvs) (n := kvs.length) (fun j σ H5 => ∃ (yv : List V) (ys : List Wy) (v5 v6 v7 : Option V), σ = [some (.ref r), some (.ref fl), some (V.int (0 + ((i : Nat) : Int))), some (.ref cd), some (.ref ld), v5, v6, v7] ∧ H5 fl = some (.lst yv) ∧ All2 (WyAt H5) yv ys ∧ (∀ y ∈ ys, WyOk hs bs y) ∧ (∀ one e c, one < i → best hs bs one e = some c → ∃ y ∈ ys, y.one = one ∧ y.e = e) ∧ (∀ j' e, j' < j → ks[j']? = some e → ∃ y ∈ ys, y.one = i ∧ y.e = e) ∧ ys.length ≤ 12 * i + j ∧ (∀ y ∈ ys, y.one < i ∨ y.one = i ∧ ∃ j', j' < j ∧ ks[j']? = some y.e) ∧ ((ys.map fun y => (y.one, y.e)).Nodup ∧ All2 (wyIs hs bs) (prs hs bs i ++ ((ksF hs bs i).take j).map fun e => (i, e)) ys) ∧ H5 cd = some (.frz od (.dK kvs)) ∧ (∀ b o, H3 b = some o → b ≠ cd → b ≠ fl → H5 b = some o) ∧ TK H3 H5)
      ⟨yv, ys, _, _, _, rfl, b4 _ _ hfl3 flcd, aly.imp fun _ _ z => z.keep ((TK.same s3).trans k4), oky, ally, (fun _ _ z => absurd z (Nat.not_lt_zero _)), by omega, (fun y hy => .inl (lt2 y hy)), ⟨nd2, (by show All2 _ (prs hs bs i ++ []) ys; rw [List.append_nil]; exact yi2)⟩, upd_same, (fun b o e n1 _ => b4 b o e n1), k4⟩ ?_ ?_ ?_ ?_⟩⟩
    · rintro j σ H5 hj ⟨yv, ys, v5, v6, v7, rfl, hfl5, aly5, oky5, ally5, new5, l5, lt5, ⟨nd5, yi5⟩, hcd5, fr5, k5⟩
      exact ⟨hcd5, hj⟩
    · rintro σ H5 ⟨yv, ys, v5, v6, v7, rfl, hfl5, aly5, oky5, ally5, new5, l5, lt5, ⟨nd5, yi5⟩, hcd5, fr5, k5⟩
      exact ⟨hcd5, Nat.le_refl _⟩
    · rintro j x σ H5 H6 hj ⟨yv, ys, v5, v6, v7, rfl, hfl5, aly5, oky5, ally5, new5, l5, lt5, ⟨nd5, yi5⟩, hcd5, fr5, k5⟩ ⟨rfl, k, v, ek, rfl⟩
      obtain ⟨e, c, t, rfl, ekj, bc, vv, ht⟩ := keyv j (k, v) ek
      refine ⟨_, rfl, _, rfl, cd, _, rfl, .inl ⟨kvs, kN e, .inr ⟨od, hcd5⟩, rfl, vv.symm⟩, t, _, rfl, SqT.of (k5 _ _ ht), rfl, _, _, rfl, _, _, rfl, rfl, ?_⟩
      have R5 := (hR.keep (TK.same s03)).keep k5
      have ldfl : ld ≠ fl := ne_of hld hfl3 (fun z => nomatch z)
      have hld5 : H6 ld = some (.dK lvs) := fr5 _ _ hld cdld.symm ldfl
      refine ⟨_, rfl, .inl ⟨rfl, _, SqL.of hfl5⟩, _, rfl, _, rfl, _, rfl, _, rfl, _, rfl, _, rfl, r, ld, hs, bs, i, e, c, lvs, la, rfl, R5, ok, ho, ⟨hld5, dl, L⟩, bc, fun p2 ns H7 hP we wc lns bk s7 => ?_⟩
      refine ⟨_, rfl, (by show 4 ≤ sizeLine; decide), fun t4 nt4 => ?_⟩
      have s8 := s7.trans (same_new (o := .tup [V.int c.1, V.int (- -c.2), V.ref p2, nV e]) nt4)
      have hfl8 := s8 _ _ hfl5
      refine ⟨fl, _, _, rfl, rfl, hfl8, by rw [aly5.length]; exact small1000 (by omega), ?_⟩
      have k8 := TK.lst (ys := yv ++ [V.ref t4]) hfl8
      refine ⟨yv ++ [V.ref t4], ys ++ [⟨i, c, ns, e⟩], _, _, _, rfl, upd_same, ?_, fun y hy => ?_, fun one e' c' h1 h2 => ?_, fun j' e' h1 h2 => ?_, by rw [List.length_append]; show ys.length + 1 ≤ _; omega, fun y hy => ?_, ?_, by rw [upd_ne flcd.symm]; exact s8 _ _ hcd5, fun b o eb n1 n2 => by rw [upd_ne n2]; exact s8 _ _ (fr5 b o eb n1 n2), (k5.trans (TK.same s8)).trans k8⟩
      · refine ((aly5.imp fun _ _ z => z.keep (TK.same s8)).snoc ⟨t4, p2, rfl, ?_, hP.keep (TK.new nt4)⟩).imp fun _ _ z => z.keep k8
        show upd H7 t4 _ t4 = some (HO.tup [V.int c.1, V.int c.2, V.ref p2, nV e])
        rw [upd_same, Int.neg_neg]
      · rcases List.mem_append.mp hy with hy | hy
        · exact oky5 y hy
        · obtain rfl : y = ⟨i, c, ns, e⟩ := by simpa using hy
          exact ⟨ho, bc, we, wc, lns⟩
      · obtain ⟨y, y1, y2⟩ := ally5 one e' c' h1 h2
        exact ⟨y, List.mem_append_left _ y1, y2⟩
      · by_cases z : j' = j
        · subst z
          rw [ekj] at h2
          cases h2
          exact ⟨⟨i, c, ns, e⟩, List.mem_append_right _ (List.mem_singleton.mpr rfl), rfl, rfl⟩
        · obtain ⟨y, y1, y2⟩ := new5 j' e' (by omega) h2
          exact ⟨y, List.mem_append_left _ y1, y2⟩
      · rcases List.mem_append.mp hy with hy | hy
        · exact (lt5 y hy).imp id fun ⟨z1, j', z2, z3⟩ => ⟨z1, j', by omega, z3⟩
        · obtain rfl : y = ⟨i, c, ns, e⟩ := by simpa using hy
          exact .inr ⟨rfl, j, Nat.lt_succ_self j, ekj⟩
      · refine ⟨?_, ?_⟩
        rotate_left
        · have ekF : (ksF hs bs i)[j]? = some e := by rw [← eksF]; exact ekj
          rw [List.take_add_one, ekF, List.map_append, ← List.append_assoc]
          exact yi5.snoc ⟨rfl, rfl, bc, by rw [← hla]; exact bk⟩
        rw [List.map_append]
        refine List.nodup_append.mpr ⟨nd5, List.nodup_cons.mpr ⟨(fun z => nomatch z), .nil⟩, fun a ha b hb e1 => ?_⟩
        obtain rfl : b = (i, e) := by simpa using hb
        obtain ⟨y, hy, ey⟩ := List.mem_map.mp ha
        rw [e1] at ey
        have y1 : y.one = i := congrArg Prod.fst ey
        have y2 : y.e = e := congrArg Prod.snd ey
        rcases lt5 y hy with z | ⟨_, j', z1, z2⟩
        · omega
        · rw [y2, ← ekj] at z2
          have := (List.getElem?_inj (List.getElem?_eq_some_iff.mp (z2.trans ekj)).1 ndk).mp z2
          omega
    · rintro σ H5 ⟨yv, ys, v5, v6, v7, rfl, hfl5, aly5, oky5, ally5, new5, l5, lt5, ⟨nd5, yi5⟩, hcd5, fr5, k5⟩
      have s56 : Same H (upd H5 cd (.dK kvs)) := fun b o e => by
        by_cases z : b = cd
        · subst z
          have := s03 _ _ e
          rw [hcd] at this
          rw [upd_same, ← this]
        · rw [upd_ne z]
          exact fr5 _ _ (s03 _ _ e) z (ne_of_none e nfl)
      refine ⟨hcd5, yv, ys, _, _, _, _, _, _, rfl, by rw [upd_ne flcd]; exact hfl5, aly5.imp fun _ _ z => z.keep (TK.unfrz hcd5), oky5, fun one e c h1 h2 => ?_, by omega, (fun y hy => (lt5 y hy).elim (fun z => by omega) fun z => by omega), ⟨nd5, by
        rw [show kvs.length = (ksF hs bs i).length by rw [lkv, eksF], List.take_length, ← prs_succ] at yi5
        exact yi5⟩, s56⟩
      by_cases z : one = i
      · subst z
        rcases dc.1 e with ⟨d1, _⟩ | ⟨c', v, d1, d2, _⟩
        · rw [d1] at h2; cases h2
        · -- the key is among the keys
          have isS : (valV kvs (kN e)).isSome = true := by rw [d2]; rfl
          rw [← valV_any (kN e) kvs] at isS
          obtain ⟨kv, m1, m2⟩ := List.any_eq_true.mp isS
          have : kN e ∈ ks.map kN := by rw [← eks]; exact List.mem_map.mpr ⟨kv, m1, of_decide_eq_true m2⟩
          obtain ⟨e', m3, m4⟩ := List.mem_map.mp this
          obtain rfl := kN_inj m4
          obtain ⟨j, hj⟩ := List.getElem?_of_mem m3
          have jl := (List.getElem?_eq_some_iff.mp hj).1
          exact new5 j _ (by omega) hj
      · exact ally5 one e c (by omega) h2
  · rintro σ H2 ⟨yv, ys, v2, v3, v4, v5, v6, v7, rfl, hfl, aly, oky, ally, lys, lt2, ⟨nd2, yi2⟩, s2⟩
    exact ⟨_, rfl, q fl yv ys H2 nfl hfl aly ⟨oky, fun one e c h1 h2 => ally one e c (by omega) h2, by omega, nd2⟩ (by rw [lhv] at yi2; exact yi2) s2⟩
end
/-! ### levels: mathematics -/
structure St3 where
  u : Nat
  v : Nat
  w : Int
def Feas (st : List St3) : Prop := ∃ lv : Nat → Int, ∀ s ∈ st, lv s.u + s.w ≤ lv s.v
structure Lv (st : List St3) (i j : Nat) (lv : Nat → Int) (la : Nat → Option Nat) (r t : Nat → Nat) (now : Nat) : Prop where
  bk : ∀ p k, la p = some k → ∃ s, st[k]? = some s ∧ s.v = p ∧ lv p ≤ lv s.u + s.w ∧ (t p ≤ t s.u → lv p < lv s.u + s.w) ∧ r p ≤ r s.u + 1
  has : ∀ p, 1 ≤ r p → ∃ k, la p = some k
  tn : ∀ p, t p ≤ now
  rl : ∀ p, r p ≤ i
  sat : ∀ k s, st[k]? = some s → lv s.u + s.w ≤ lv s.v ∨ (if k < j then i else i - 1) ≤ r s.u
def put {α : Type} (f : Nat → α) (p : Nat) (x : α) : Nat → α := fun q => if q = p then x else f q
theorem put_at {α : Type} {f : Nat → α} {p : Nat} {x : α} : put f p x p = x := if_pos rfl
theorem put_ne {α : Type} {f : Nat → α} {p q : Nat} {x : α} (h : q ≠ p) : put f p x q = f q := if_neg h
theorem Lv.start {st : List St3} : Lv st 1 0 (fun _ => 0) (fun _ => none) (fun _ => 0) (fun _ => 0) 0 :=
  ⟨(fun _ _ z => nomatch z), fun p z => absurd z (by decide), fun _ => Nat.le_refl _, fun _ => Nat.zero_le _, fun k s _ => .inr (by rw [if_neg (Nat.not_lt_zero _)]; exact Nat.le_refl _)⟩
theorem Lv.idle {st : List St3} {i j : Nat} {lv : Nat → Int} {la : Nat → Option Nat} {r t : Nat → Nat} {now : Nat} (L : Lv st i j lv la r t now) {s : St3} (es : st[j]? = some s) (h : ¬ lv s.u + s.w > lv s.v) : Lv st i (j + 1) lv la r t now := by
  refine { L with sat := fun k s2 e => ?_ }
  by_cases z : k = j
  · subst z
    rw [es] at e
    cases e
    exact .inl (by omega)
  · rcases L.sat k s2 e with y | y
    · exact .inl y
    · refine .inr ?_
      by_cases x : k < j
      · rw [if_pos x] at y; rw [if_pos (by omega)]; exact y
      · rw [if_neg x] at y; rw [if_neg (by omega)]; exact y
theorem Lv.lift {st : List St3} {i j : Nat} {lv : Nat → Int} {la : Nat → Option Nat} {r t : Nat → Nat} {now : Nat} (L : Lv st i j lv la r t now) {s : St3} (es : st[j]? = some s) (h : lv s.u + s.w > lv s.v) :
    Lv st i (j + 1) (put lv s.v (lv s.u + s.w)) (put la s.v (some j)) (put r s.v i) (put t s.v (now + 1)) (now + 1) := by
  have ru : i ≤ r s.u + 1 := by
    rcases L.sat j s es with y | y
    · omega
    · rw [if_neg (Nat.lt_irrefl _)] at y; omega
  have rge : ∀ p, r p ≤ put r s.v i p := fun p => by
    by_cases z : p = s.v
    · rw [z, put_at]; exact L.rl _
    · rw [put_ne z]; exact Nat.le_refl _
  have lge : ∀ p, lv p ≤ put lv s.v (lv s.u + s.w) p := fun p => by
    by_cases z : p = s.v
    · rw [z, put_at]; omega
    · rw [put_ne z]; exact Int.le_refl _
  refine ⟨fun p k e => ?_, fun p z => ?_, fun p => ?_, fun p => ?_, fun k s2 e => ?_⟩
  · by_cases z : p = s.v
    · subst z
      rw [put_at] at e
      cases e
      refine ⟨s, es, rfl, ?_, fun y => ?_, ?_⟩
      · rw [put_at]
        have := lge s.u
        omega
      · rw [put_at] at y ⊢
        by_cases x : s.u = s.v
        · rw [x, put_at]
          rw [x] at h
          omega
        · rw [put_ne x] at y
          have := L.tn s.u
          omega
      · rw [put_at]
        have := rge s.u
        omega
    · rw [put_ne z] at e
      obtain ⟨s2, e1, e2, e3, e4, e5⟩ := L.bk p k e
      refine ⟨s2, e1, e2, ?_, fun y => ?_, ?_⟩
      · rw [put_ne z]
        have := lge s2.u
        omega
      · rw [put_ne z]
        by_cases x : s2.u = s.v
        · rw [x, put_at]
          rw [x] at e3
          omega
        · rw [put_ne x]
          rw [put_ne x, put_ne z] at y
          exact e4 y
      · rw [put_ne z]
        have := rge s2.u
        omega
  · by_cases y : p = s.v
    · exact ⟨j, by rw [y, put_at]⟩
    · rw [put_ne y] at z ⊢
      exact L.has p z
  · by_cases y : p = s.v
    · rw [y, put_at]; exact Nat.le_refl _
    · rw [put_ne y]; exact Nat.le_succ_of_le (L.tn p)
  · by_cases y : p = s.v
    · rw [y, put_at]; exact Nat.le_refl _
    · rw [put_ne y]; exact L.rl p
  · by_cases x : s2.u = s.v
    · refine .inr ?_
      rw [x, put_at]
      split <;> omega
    · rw [put_ne x, put_ne x]
      by_cases z : k = j
      · subst z
        rw [es] at e
        cases e
        exact .inl (by rw [put_at]; exact Int.le_refl _)
      · rcases L.sat k s2 e with y | y
        · exact .inl (Int.le_trans y (lge _))
        · refine .inr ?_
          by_cases q : k < j
          · rw [if_pos q] at y; rw [if_pos (by omega)]; exact y
          · rw [if_neg q] at y; rw [if_neg (by omega)]; exact y
theorem Lv.next {st : List St3} {i : Nat} {lv : Nat → Int} {la : Nat → Option Nat} {r t : Nat → Nat} {now : Nat} (L : Lv st i st.length lv la r t now) : Lv st (i + 1) 0 lv la r t now := by
  refine { L with rl := fun p => Nat.le_succ_of_le (L.rl p), sat := fun k s e => ?_ }
  rcases L.sat k s e with y | y
  · exact .inl y
  · refine .inr ?_
    rw [if_pos (List.getElem?_eq_some_iff.mp e).1] at y
    rw [if_neg (Nat.not_lt_zero _)]
    exact y
theorem Lv.feas {st : List St3} {i : Nat} {lv : Nat → Int} {la : Nat → Option Nat} {r t : Nat → Nat} {now : Nat} (L : Lv st i st.length lv la r t now) (h : ∀ p, r p < i) : ∀ s ∈ st, lv s.u + s.w ≤ lv s.v := fun s hs => by
  obtain ⟨k, e⟩ := List.getElem?_of_mem hs
  rcases L.sat k s e with y | y
  · exact y
  · rw [if_pos (List.getElem?_eq_some_iff.mp e).1] at y
    have := h s.u
    omega
/-- one step back -/
def back (st : List St3) (la : Nat → Option Nat) (p : Nat) : Nat := match la p with
  | none => p
  | some k => match st[k]? with
    | none => p
    | some s => s.u
def backs (st : List St3) (la : Nat → Option Nat) (p : Nat) : Nat → Nat
  | 0 => p
  | k + 1 => back st la (backs st la p k)
theorem backs_add {st : List St3} {la : Nat → Option Nat} {p : Nat} : ∀ {a b k : Nat}, backs st la p a = backs st la p b → backs st la p (a + k) = backs st la p (b + k)
  | _, _, 0, h => h
  | a, b, k + 1, h => by
    show back st la (backs st la p (a + k)) = back st la (backs st la p (b + k))
    rw [backs_add h]
theorem Lv.back_r {st : List St3} {i j : Nat} {lv : Nat → Int} {la : Nat → Option Nat} {r t : Nat → Nat} {now : Nat} (L : Lv st i j lv la r t now) (p : Nat) : r p ≤ r (back st la p) + 1 := by
  unfold back
  cases e : la p with
  | none => dsimp only; omega
  | some k =>
    obtain ⟨s, e1, _, _, _, e5⟩ := L.bk p k e
    dsimp only
    rw [e1]
    exact e5
theorem Lv.backs_r {st : List St3} {i j : Nat} {lv : Nat → Int} {la : Nat → Option Nat} {r t : Nat → Nat} {now : Nat} (L : Lv st i j lv la r t now) (p : Nat) : ∀ k, r p ≤ r (backs st la p k) + k
  | 0 => Nat.le_refl _
  | k + 1 => by
    have := L.backs_r p k
    have := L.back_r (backs st la p k)
    show r p ≤ r (back st la (backs st la p k)) + (k + 1)
    omega
/-- from a place that was raised in the last of as many rounds as there are places the steps back lead onto a ring -/
theorem Lv.ring {st : List St3} {n : Nat} {lv : Nat → Int} {la : Nat → Option Nat} {r t : Nat → Nat} {now : Nat} (L : Lv st n st.length lv la r t now) (hu : ∀ s ∈ st, s.u < n) {p : Nat} (hp : p < n) (hr : r p = n) :
    ∃ c, 1 ≤ c ∧ c ≤ n ∧ backs st la p (n + c) = backs st la p n ∧ (∀ k, n ≤ k → ∃ m, la (backs st la p k) = some m) ∧ (∀ k, backs st la p k < n) ∧ ∀ k, k < n → ∃ m, la (backs st la p k) = some m := by
  have lt : ∀ k, backs st la p k < n := fun k => by
    induction k with
    | zero => exact hp
    | succ k ih =>
      show back st la (backs st la p k) < n
      unfold back
      cases e : la (backs st la p k) with
      | none => exact ih
      | some m =>
        obtain ⟨s, e1, _⟩ := L.bk _ m e
        dsimp only
        rw [e1]
        exact hu s (List.mem_of_getElem? e1)
  have some_ : ∀ k, k < n → ∃ m, la (backs st la p k) = some m := fun k hk => by
    have := L.backs_r p k
    exact L.has _ (by omega)
  obtain ⟨a, b, ab, bn, e⟩ := pigeon (n := n) (g := backs st la p) (m := n + 1) (fun i _ => lt i) (by omega)
  have per : ∀ k, a ≤ k → backs st la p (k + (b - a)) = backs st la p k := fun k hk => by
    have := backs_add (k := k - a) e
    rw [show a + (k - a) = k by omega, show b + (k - a) = k + (b - a) by omega] at this
    exact this.symm
  refine ⟨b - a, by omega, by omega, per n (by omega), fun k hk => ?_, lt, some_⟩
  have low : ∀ d k, k ≤ d → a ≤ k → ∃ j, j < n ∧ backs st la p k = backs st la p j := fun d => by
    induction d with
    | zero => exact fun k h1 h2 => ⟨k, by omega, rfl⟩
    | succ d ih =>
      intro k h1 h2
      by_cases z : k < n
      · exact ⟨k, z, rfl⟩
      · obtain ⟨j, j1, j2⟩ := ih (k - (b - a)) (by omega) (by omega)
        have := per (k - (b - a)) (by omega)
        rw [show k - (b - a) + (b - a) = k by omega] at this
        exact ⟨j, j1, by rw [this, j2]⟩
  obtain ⟨j, j1, j2⟩ := low k k (Nat.le_refl _) (by omega)
  rw [j2]
  exact some_ j j1
/-- the need of the step back from a place -/
def need (st : List St3) (la : Nat → Option Nat) (p : Nat) : Int := match la p with
  | none => 0
  | some k => match st[k]? with
    | none => 0
    | some s => s.w
def needs3 (st : List St3) (la : Nat → Option Nat) (p : Nat) (a : Nat) : Nat → Int
  | 0 => 0
  | k + 1 => needs3 st la p a k + need st la (backs st la p (a + k))
theorem Lv.sum_pos {st : List St3} {i j : Nat} {lv : Nat → Int} {la : Nat → Option Nat} {r t : Nat → Nat} {now : Nat} (L : Lv st i j lv la r t now) {p a c : Nat} (hc : 1 ≤ c) (e : backs st la p (a + c) = backs st la p a) (hs : ∀ k, a ≤ k → ∃ m, la (backs st la p k) = some m) : 0 < needs3 st la p a c := by
  have go : ∀ k, lv (backs st la p a) ≤ lv (backs st la p (a + k)) + needs3 st la p a k ∧ (lv (backs st la p a) < lv (backs st la p (a + k)) + needs3 st la p a k ∨ t (backs st la p (a + k)) + k ≤ t (backs st la p a)) := fun k => by
    induction k with
    | zero => exact ⟨by show lv (backs st la p a) ≤ lv (backs st la p a) + 0; omega, .inr (Nat.le_refl _)⟩
    | succ k ih =>
      obtain ⟨m, em⟩ := hs (a + k) (by omega)
      obtain ⟨s, e1, e2, e3, e4, e5⟩ := L.bk _ m em
      have eb : backs st la p (a + (k + 1)) = s.u := by
        show back st la (backs st la p (a + k)) = s.u
        unfold back
        rw [em]
        dsimp only
        rw [e1]
      have en : needs3 st la p a (k + 1) = needs3 st la p a k + s.w := by
        show needs3 st la p a k + need st la (backs st la p (a + k)) = _
        unfold need
        rw [em]
        dsimp only
        rw [e1]
      rw [eb, en]
      refine ⟨by omega, ?_⟩
      rcases ih.2 with y | y
      · exact .inl (by omega)
      · by_cases z : t (backs st la p (a + k)) ≤ t s.u
        · exact .inl (by have := e4 z; omega)
        · exact .inr (by omega)
  obtain ⟨g1, g2⟩ := go c
  rw [e] at g1 g2
  rcases g2 with y | y
  · omega
  · omega
theorem needs3_le {st : List St3} {la : Nat → Option Nat} {p a : Nat} {lv : Nat → Int} (f : ∀ s ∈ st, lv s.u + s.w ≤ lv s.v) (bk : ∀ p k, la p = some k → ∃ s, st[k]? = some s ∧ s.v = p) (hs : ∀ k, a ≤ k → ∃ m, la (backs st la p k) = some m) : ∀ k, needs3 st la p a k ≤ lv (backs st la p a) - lv (backs st la p (a + k))
  | 0 => by show (0 : Int) ≤ lv (backs st la p a) - lv (backs st la p a); omega
  | k + 1 => by
    have ih := needs3_le f bk hs k
    obtain ⟨m, em⟩ := hs (a + k) (by omega)
    obtain ⟨s, e1, e2⟩ := bk _ m em
    have eb : backs st la p (a + (k + 1)) = s.u := by
      show back st la (backs st la p (a + k)) = s.u
      unfold back
      rw [em]
      dsimp only
      rw [e1]
    have en : needs3 st la p a (k + 1) = needs3 st la p a k + s.w := by
      show needs3 st la p a k + need st la (backs st la p (a + k)) = _
      unfold need
      rw [em]
      dsimp only
      rw [e1]
    have := f s (List.mem_of_getElem? e1)
    rw [eb, en]
    rw [e2] at this
    omega
theorem Lv.not_feas {st : List St3} {n : Nat} {lv : Nat → Int} {la : Nat → Option Nat} {r t : Nat → Nat} {now : Nat} (L : Lv st n st.length lv la r t now) (hu : ∀ s ∈ st, s.u < n) {p : Nat} (hp : p < n) (hr : r p = n) : ¬ Feas st := fun ⟨lv0, f⟩ => by
  obtain ⟨c, c1, c2, e, hs, _⟩ := L.ring hu hp hr
  have h1 := L.sum_pos c1 e hs
  have h2 := needs3_le f (fun p k z => by obtain ⟨s, e1, e2, _⟩ := L.bk p k z; exact ⟨s, e1, e2⟩) hs c
  rw [e] at h2
  omega
theorem ixN_nat {n k : Nat} (h : k < n) : ixN n ((k : Nat) : Int) = some k := by
  unfold ixN
  rw [if_pos (by omega), if_pos (by omega)]
  simp
/-! ### levels: the program -/
def oV : Option Nat → V
  | none => .non
  | some k => nV k
abbrev levL (n : Nat) (lv : Nat → Int) : List V := (List.range n).map fun p => V.int (lv p)
abbrev lasL (n : Nat) (la : Nat → Option Nat) : List V := (List.range n).map fun p => oV (la p)
theorem rg_at {n p : Nat} {f : Nat → V} (h : p < n) : ((List.range n).map f)[p]? = some (f p) := by
  rw [List.getElem?_map, List.getElem?_range h]; rfl
theorem rg_set {n p : Nat} {α : Type} {f : Nat → α} {g : α → V} {x : α} : ((List.range n).map fun q => g (f q)).set p (g x) = (List.range n).map fun q => g (put f p x q) := by
  refine List.ext_getElem? fun i => ?_
  by_cases e : i = p
  · subst e
    by_cases l : i < n
    · rw [List.getElem?_set_self (by rw [List.length_map, List.length_range]; exact l), rg_at l, put_at]
    · rw [List.getElem?_eq_none (by rw [List.length_set, List.length_map, List.length_range]; omega), List.getElem?_eq_none (by rw [List.length_map, List.length_range]; omega)]
  · rw [List.getElem?_set_ne (fun z => e z.symm)]
    by_cases l : i < n
    · rw [rg_at l, rg_at (f := fun q => g (put f p x q)) l, put_ne e]
    · rw [List.getElem?_eq_none (by rw [List.length_map, List.length_range]; omega), List.getElem?_eq_none (by rw [List.length_map, List.length_range]; omega)]
def StepAt (H : Hp) (v : V) (s : St3) : Prop := ∃ t : Addr, v = .ref t ∧ H t = some (.tup [nV s.u, nV s.v, .int s.w])
theorem StepAt.keep {H H' : Hp} {v : V} {s : St3} (h : StepAt H v s) (k : TK H H') : StepAt H' v s := by
  obtain ⟨t, e, h⟩ := h
  exact ⟨t, e, k _ _ h⟩
def StepsAt (H : Hp) (sl : Addr) (st : List St3) : Prop := ∃ sv : List V, H sl = some (.lst sv) ∧ All2 (StepAt H) sv st
def stepEnd (st : List St3) : Nat → List Nat → Option Nat
  | p, [] => some p
  | p, k :: ks => match st[k]? with | some s => if s.u = p then stepEnd st s.v ks else none | none => none
theorem stepEnd_cons {st : List St3} {k p : Nat} {s : St3} {ks : List Nat} (e : st[k]? = some s) : stepEnd st p (k :: ks) = if s.u = p then stepEnd st s.v ks else none := by
  show (match st[k]? with | some s => if s.u = p then stepEnd st s.v ks else none | none => none) = _
  rw [e]
def wS (st : List St3) (k : Nat) : Int := match st[k]? with | some s => s.w | none => 0
def toS (st : List St3) (k : Nat) : Nat := match st[k]? with | some s => s.v | none => 0
theorem toS_some {st : List St3} {k : Nat} {s : St3} (e : st[k]? = some s) : toS st k = s.v := by unfold toS; rw [e]
/-- a ring of steps that needs more than nothing, and comes to no place twice -/
structure RingOk (st : List St3) (ks : List Nat) : Prop where
  ne : ks ≠ []
  lt : ∀ k ∈ ks, k < st.length
  cl : ∃ p, stepEnd st p ks = some p
  pos : 0 < (ks.map (wS st)).sum
  nd : (ks.map (toS st)).Nodup
theorem step_sum {st : List St3} {lv : Nat → Int} (f : ∀ s ∈ st, lv s.u + s.w ≤ lv s.v) : ∀ {ks : List Nat} {p q : Nat}, stepEnd st p ks = some q → lv p + (ks.map (wS st)).sum ≤ lv q
  | [], p, q, h => by cases h; show lv p + 0 ≤ lv p; omega
  | k :: ks, p, q, h => by
    cases e : st[k]? with
    | none =>
      have : stepEnd st p (k :: ks) = none := by
        show (match st[k]? with | some s => if s.u = p then stepEnd st s.v ks else none | none => none) = none
        rw [e]
      rw [this] at h; cases h
    | some s =>
      rw [stepEnd_cons e] at h
      by_cases z : s.u = p
      · rw [if_pos z] at h
        have ih := step_sum f h
        have := f s (List.mem_of_getElem? e)
        rw [List.map_cons, List.sum_cons, show wS st k = s.w by unfold wS; rw [e]]
        rw [z] at this
        omega
      · rw [if_neg z] at h; cases h
theorem RingOk.not_feas {st : List St3} {ks : List Nat} (r : RingOk st ks) : ¬ Feas st := fun ⟨lv, f⟩ => by
  obtain ⟨p, e⟩ := r.cl
  have := step_sum f e
  have := r.pos
  omega
/-! ### what levels_or_ring tells, turn by turn -/
abbrev Rz := (Nat → Int) × (Nat → Option Nat) × Option Nat
def rzS (st : List St3) (x : Rz) : Nat → Rz
  | 0 => x
  | j + 1 => match st[j]? with
    | none => rzS st x j
    | some s => if (rzS st x j).1 s.v < (rzS st x j).1 s.u + s.w then (put (rzS st x j).1 s.v ((rzS st x j).1 s.u + s.w), put (rzS st x j).2.1 s.v (some j), some s.v) else rzS st x j
theorem rzS_lift {st : List St3} {x : Rz} {j : Nat} {s : St3} {lv : Nat → Int} {la : Nat → Option Nat} {v : Option Nat} (es : st[j]? = some s) (e : rzS st x j = (lv, la, v)) (c : lv s.v < lv s.u + s.w) : rzS st x (j + 1) = (put lv s.v (lv s.u + s.w), put la s.v (some j), some s.v) := by
  show (match st[j]? with | none => rzS st x j | some s => if (rzS st x j).1 s.v < (rzS st x j).1 s.u + s.w then (put (rzS st x j).1 s.v ((rzS st x j).1 s.u + s.w), put (rzS st x j).2.1 s.v (some j), some s.v) else rzS st x j) = _
  rw [es, e]
  exact if_pos c
theorem rzS_idle {st : List St3} {x : Rz} {j : Nat} {s : St3} {lv : Nat → Int} {la : Nat → Option Nat} {v : Option Nat} (es : st[j]? = some s) (e : rzS st x j = (lv, la, v)) (c : ¬ lv s.v < lv s.u + s.w) : rzS st x (j + 1) = (lv, la, v) := by
  show (match st[j]? with | none => rzS st x j | some s => if (rzS st x j).1 s.v < (rzS st x j).1 s.u + s.w then (put (rzS st x j).1 s.v ((rzS st x j).1 s.u + s.w), put (rzS st x j).2.1 s.v (some j), some s.v) else rzS st x j) = _
  rw [es, e]
  exact if_neg c
def lrS (st : List St3) : Nat → Rz
  | 0 => (fun _ => 0, fun _ => none, none)
  | i + 1 => rzS st ((lrS st i).1, (lrS st i).2.1, none) st.length
theorem lrS_next {st : List St3} {i : Nat} {lv : Nat → Int} {la : Nat → Option Nat} {v : Option Nat} {x : Rz} (e : lrS st i = (lv, la, v)) (h : rzS st (lv, la, none) st.length = x) : lrS st (i + 1) = x := by
  show rzS st ((lrS st i).1, (lrS st i).2.1, none) st.length = x
  rw [e]
  exact h
def rbL (st : List St3) (la : Nat → Option Nat) (p n : Nat) : Nat → List Nat
  | 0 => [(la (backs st la p n)).getD 0]
  | j + 1 => (la (backs st la p (n + 1 + j))).getD 0 :: rbL st la p n j
def RbIs (st : List St3) (la : Nat → Option Nat) (p n : Nat) (ks : List Nat) : Prop := ∃ j, backs st la p (n + 1 + j) = backs st la p n ∧ (∀ i, i < j → backs st la p (n + 1 + i) ≠ backs st la p n) ∧ ks = rbL st la p n j
theorem RbIs.one {st : List St3} {la : Nat → Option Nat} {p n : Nat} {ks ks' : List Nat} (a : RbIs st la p n ks) (b : RbIs st la p n ks') : ks = ks' := by
  obtain ⟨j, e1, n1, rfl⟩ := a
  obtain ⟨j', e2, n2, rfl⟩ := b
  have : j = j' := by
    rcases Nat.lt_trichotomy j j' with z | z | z
    · exact absurd e1 (n2 j z)
    · exact z
    · exact absurd e2 (n1 j' z)
  rw [this]
def LvIs (st : List St3) (n : Nat) (lv : Nat → Int) : Prop := ∃ i, i ≤ n ∧ (i = 0 → n = 0) ∧ (lrS st i).2.2 = none ∧ (∀ i', 1 ≤ i' → i' < i → (lrS st i').2.2 ≠ none) ∧ lv = (lrS st i).1
def RgIs (st : List St3) (n : Nat) (ks : List Nat) : Prop := 0 < n ∧ (∀ i', 1 ≤ i' → i' ≤ n → (lrS st i').2.2 ≠ none) ∧ ∃ p, (lrS st n).2.2 = some p ∧ RbIs st (lrS st n).2.1 p n ks
theorem LvIs.one {st : List St3} {n : Nat} {lv lv' : Nat → Int} (a : LvIs st n lv) (b : LvIs st n lv') : lv = lv' := by
  obtain ⟨i, i1, i2, i3, i4, rfl⟩ := a
  obtain ⟨j, j1, j2, j3, j4, rfl⟩ := b
  have : i = j := by
    by_cases zi : i = 0
    · have := i2 zi; omega
    by_cases zj : j = 0
    · have := j2 zj; omega
    rcases Nat.lt_trichotomy i j with z | z | z
    · exact absurd i3 (j4 i (by omega) z)
    · exact z
    · exact absurd j3 (i4 j (by omega) z)
  rw [this]
theorem RgIs.one {st : List St3} {n : Nat} {ks ks' : List Nat} (a : RgIs st n ks) (b : RgIs st n ks') : ks = ks' := by
  obtain ⟨_, _, p, e, h⟩ := a
  obtain ⟨_, _, p', e', h'⟩ := b
  rw [e] at e'
  cases e'
  exact h.one h'
theorem RgIs.not_lv {st : List St3} {n : Nat} {ks : List Nat} {lv : Nat → Int} (a : RgIs st n ks) (b : LvIs st n lv) : False := by
  obtain ⟨n0, h, _⟩ := a
  obtain ⟨i, i1, i2, i3, _⟩ := b
  by_cases z : i = 0
  · have := i2 z; omega
  · exact h i (by omega) i1 i3
section
variable {P : Program} {w : World} {K : PySem.W.Frag} {mg : Str → Option Value} {base : Heap}
def sp_raise_levels (K : PySem.W.Frag) : Sp := fun vs H Q _ => ∃ (ll lb sl : Addr) (n i : Nat) (st : List St3) (lv : Nat → Int) (la : Nat → Option Nat) (r t : Nat → Nat) (now : Nat), vs = [.ref ll, .ref lb, .ref sl] ∧ H ll = some (.lst (levL n lv)) ∧ H lb = some (.lst (lasL n la)) ∧ StepsAt H sl st ∧ ll ≠ lb ∧ sl ≠ ll ∧ sl ≠ lb ∧ (∀ s ∈ st, s.u < n ∧ s.v < n) ∧ st.length ≤ 400 ∧ Lv st i 0 lv la r t now ∧ (∀ p, r p < i) ∧
  ∀ (lv' : Nat → Int) (la' : Nat → Option Nat) (r' t' : Nat → Nat) (now' : Nat) (v : Option Nat) (H' : Hp), H' ll = some (.lst (levL n lv')) → H' lb = some (.lst (lasL n la')) → Lv st i st.length lv' la' r' t' now' → rzS st (lv, la, none) st.length = (lv', la', v) → (v = none → ∀ p, r' p < i) → (∀ x, v = some x → x < n ∧ r' x = i) → (∀ p, lv p ≤ lv' p) → (∀ b o, H b = some o → b ≠ ll → b ≠ lb → H' b = some o) → Q (oV v) H'
theorem ok_raise_levels {f : Addr} {fd : FuncData} (F : Fun K "raise_levels" "raise_levels" s_raise_levels f fd) (T : Top K mg) : FnOk P w K mg base CX0 1 f fd ["levels", "last", "steps"] (sp_raise_levels K) := by
  refine F.ok sc_raise_levels (fun vs H Q E h => ?_) (fun cdv A outer s H vs Q E hr h => ?_)
  · obtain ⟨ll, lb, sl, n, i, st, lv, la, r, t, now, rfl, _⟩ := h
    rfl
  obtain ⟨ll, lb, sl, n, i, st, lv, la, r, t, now, rfl, hll, hlb, ⟨sv, hsl, als⟩, llb, sll, slb, bd, few, L, rlt, q⟩ := h
  have lsv := als.length
  refine ⟨_, (pss_cons (ps_set (i := 3) sc_raise_levels.nd rfl (Or.inl rfl) pe_non)
      (pss_cons (ps_for PassesOwn.never rfl (pi_enumK K rfl (by rfl) T.m_enumerate (pa_cons (pv 2) pa_nil)) (pg_tupK K rfl rfl (pgs_cons (pg_name (i := 4) sc_raise_levels.nd rfl (Or.inl rfl)) (pgs_cons (pg_tupK K rfl rfl (pgs_cons (pg_name (i := 5) sc_raise_levels.nd rfl (Or.inl rfl)) (pgs_cons (pg_name (i := 6) sc_raise_levels.nd rfl (Or.inl rfl)) (pgs_cons (pg_name (i := 7) sc_raise_levels.nd rfl (Or.inl rfl)) pgs_nil)))) pgs_nil)))
        (pss_one (ps_if (pt_cmpR op_gt (pe_op op_add (pe_ix (ix_listK K rfl) (pv 0) (pv 5) (fun _ _ => rfl)) (pv 7)) (pe_ix (ix_listK K rfl) (pv 0) (pv 6) (fun _ _ => rfl)) (nomark _)) (pss_cons (ps_asg (pe_op op_add (pe_ix (ix_listK K rfl) (pv 0) (pv 5) (fun _ _ => rfl)) (pv 7)) (pg_sub (pv 0) (pv 6) set_list))
      (pss_cons (ps_asg (pv 4) (pg_sub (pv 1) (pv 6) set_list))
      (pss_one (ps_set (i := 3) sc_raise_levels.nd rfl (Or.inl rfl) (pv 6))))) pss_nil)))
      (pss_one (ps_ret (pv 3))))), ?_⟩
  refine ⟨_, rfl, sl, _, rfl, SqL.of hsl, for_it (n := sv.length) (fun j σ H2 => ∃ (lv' : Nat → Int) (la' : Nat → Option Nat) (r' t' : Nat → Nat) (now' : Nat) (v : Option Nat) (v4 v5 v6 v7 : Option V), σ = [some (.ref ll), some (.ref lb), some (.ref sl), some (oV v), v4, v5, v6, v7] ∧ H2 ll = some (.lst (levL n lv')) ∧ H2 lb = some (.lst (lasL n la')) ∧ Lv st i j lv' la' r' t' now' ∧ rzS st (lv, la, none) j = (lv', la', v) ∧ (v = none → ∀ p, r' p < i) ∧ (∀ x, v = some x → x < n ∧ r' x = i) ∧ (∀ p, lv p ≤ lv' p) ∧ (∀ b o, H b = some o → b ≠ ll → b ≠ lb → H2 b = some o))
    ⟨lv, la, r, t, now, none, none, none, none, none, rfl, hll, hlb, L, rfl, (fun _ => rlt), (fun _ z => nomatch z), (fun _ => Int.le_refl _), (fun _ _ e _ _ => e)⟩ ?_ ?_ ?_ ?_⟩
  · rintro j σ H2 hj ⟨lv', la', r', t', now', v, v4, v5, v6, v7, rfl, h1, h2, L, rz, f1, f2, f3, fr⟩
    exact ⟨_, _, SqL.of (fr _ _ hsl sll slb), List.getElem?_eq_getElem hj⟩
  · rintro σ H2 ⟨lv', la', r', t', now', v, v4, v5, v6, v7, rfl, h1, h2, L, rz, f1, f2, f3, fr⟩
    exact ⟨_, SqL.of (fr _ _ hsl sll slb), Nat.le_refl _⟩
  · rintro j x σ H2 H3 hj ⟨lv', la', r', t', now', v, v4, v5, v6, v7, rfl, h1, h2, L, rz, f1, f2, f3, fr⟩ ⟨tt, y, rfl, ntt, rfl, fy⟩
    have ey := fy _ (SqL.of (fr _ _ hsl sll slb))
    obtain ⟨s, es, ⟨t2, rfl, e1⟩⟩ := als.getL ey
    obtain ⟨ul, vl⟩ := bd s (List.mem_of_getElem? es)
    have t2l : t2 ≠ ll := ne_of e1 hll (fun z => nomatch z)
    have t2b : t2 ≠ lb := ne_of e1 hlb (fun z => nomatch z)
    have e13 := same_new (o := .tup [V.int ((j : Nat) : Int), V.ref t2]) ntt _ _ (fr _ _ e1 t2l t2b)
    have h13 := same_new (o := .tup [V.int ((j : Nat) : Int), V.ref t2]) ntt _ _ h1
    have h23 := same_new (o := .tup [V.int ((j : Nat) : Int), V.ref t2]) ntt _ _ h2
    refine ⟨tt, _, rfl, SqT.of upd_same, rfl, _, _, rfl, _, _, rfl, t2, _, rfl, SqT.of e13, rfl, _, _, rfl, _, _, rfl, _, _, rfl, rfl, rfl, ?_⟩
    refine ⟨_, rfl, _, rfl, ll, _, _, _, rfl, rfl, SqL.of h13, atI_nat (rg_at ul), _, rfl, _, _, rfl, rfl, _, rfl, _, rfl, ll, _, _, _, rfl, rfl, SqL.of h13, atI_nat (rg_at vl), _, _, rfl, rfl, _, rfl, if_bl (fun c => ?_) (fun c => ?_)⟩
    · have c : lv' s.v < lv' s.u + s.w := of_decide_eq_true c
      refine ⟨_, rfl, _, rfl, ll, _, _, _, rfl, rfl, SqL.of h13, atI_nat (rg_at ul), _, rfl, _, _, rfl, rfl, _, rfl, _, rfl, ll, _, _, s.v, rfl, rfl, h13, ixN_nat (by rw [List.length_map, List.length_range]; exact vl), ?_⟩
      refine ⟨_, rfl, _, rfl, _, rfl, lb, _, _, s.v, rfl, rfl, (by rw [upd_ne llb.symm]; exact h23), ixN_nat (by rw [List.length_map, List.length_range]; exact vl), ?_⟩
      refine ⟨_, rfl, ?_⟩
      refine ⟨put lv' s.v (lv' s.u + s.w), put la' s.v (some j), put r' s.v i, put t' s.v (now' + 1), now' + 1, some s.v, _, _, _, _, rfl, ?_, ?_, L.lift es c, rzS_lift es rz c, (fun z => nomatch z), (fun x z => ?_), fun p => ?_, fun b o e n1 n2 => ?_⟩
      · rw [upd_ne llb, upd_same]
        exact congrArg (fun l => some (HO.lst l)) (rg_set (g := V.int))
      · rw [upd_same]
        exact congrArg (fun l => some (HO.lst l)) (rg_set (g := oV) (x := some j))
      · cases z
        exact ⟨vl, put_at⟩
      · have := f3 p
        by_cases z : p = s.v
        · rw [z, put_at]; rw [z] at this; omega
        · rw [put_ne z]; exact this
      · rw [upd_ne n2, upd_ne n1]
        exact same_new ntt _ _ (fr b o e n1 n2)
    · have c : ¬ lv' s.v < lv' s.u + s.w := of_decide_eq_false c
      exact ⟨lv', la', r', t', now', v, _, _, _, _, rfl, h13, h23, L.idle es c, rzS_idle es rz c, f1, f2, f3, fun b o e n1 n2 => same_new ntt _ _ (fr b o e n1 n2)⟩
  · rintro σ H2 ⟨lv', la', r', t', now', v, v4, v5, v6, v7, rfl, h1, h2, L, rz, f1, f2, f3, fr⟩
    rw [lsv] at L rz
    exact ⟨_, rfl, q lv' la' r' t' now' v H2 h1 h2 L rz f1 f2 f3 fr⟩
def sp_ring_behind (K : PySem.W.Frag) : Sp := fun vs H Q _ => ∃ (lb sl : Addr) (n p : Nat) (st : List St3) (lv : Nat → Int) (la : Nat → Option Nat) (r t : Nat → Nat) (now : Nat), vs = [nV p, .ref lb, .ref sl] ∧ H lb = some (.lst (lasL n la)) ∧ StepsAt H sl st ∧ (∀ s ∈ st, s.u < n ∧ s.v < n) ∧ st.length ≤ 400 ∧ n ≤ 100 ∧ Lv st n st.length lv la r t now ∧ p < n ∧ r p = n ∧
  ∀ (pr : Addr) (ks : List Nat) (H' : Hp), H' pr = some (.lst (ks.map nV)) → RingOk st ks → ks.length ≤ n → RbIs st la p n ks → Same H H' → Q (.ref pr) H'
theorem ok_ring_behind {f : Addr} {fd : FuncData} (F : Fun K "ring_behind" "ring_behind" s_ring_behind f fd) (T : Top K mg) : FnOk P w K mg base CX0 1 f fd ["place", "last", "steps"] (sp_ring_behind K) := by
  refine F.ok sc_ring_behind (fun vs H Q E h => ?_) (fun cdv A outer s H vs Q E hr h => ?_)
  · obtain ⟨lb, sl, n, p, st, lv, la, r, t, now, rfl, _⟩ := h
    rfl
  obtain ⟨lb, sl, n, p, st, lv, la, r, t, now, rfl, hlb, ⟨sv, hsl, als⟩, bd, few, n100, L, hp, hrp, q⟩ := h
  obtain ⟨c, c1, cn, cyc, least, hs, lt, hs0⟩ : ∃ c, 1 ≤ c ∧ c ≤ n ∧ backs st la p (n + c) = backs st la p n ∧ (∀ d, 1 ≤ d → d < c → backs st la p (n + d) ≠ backs st la p n) ∧ (∀ k, n ≤ k → ∃ m, la (backs st la p k) = some m) ∧ (∀ k, backs st la p k < n) ∧ ∀ k, k < n → ∃ m, la (backs st la p k) = some m := by
    obtain ⟨c, c1, cn, cyc, hs, lt, hs0⟩ := L.ring (fun s z => (bd s z).1) hp hrp
    have low : ∀ m c, c ≤ m → 1 ≤ c → backs st la p (n + c) = backs st la p n → ∃ d, 1 ≤ d ∧ d ≤ c ∧ backs st la p (n + d) = backs st la p n ∧ ∀ e, 1 ≤ e → e < d → backs st la p (n + e) ≠ backs st la p n := by
      intro m
      induction m with
      | zero => intro c h1 h2; omega
      | succ m ih =>
        intro c h1 h2 h3
        by_cases z : ∃ e, 1 ≤ e ∧ e < c ∧ backs st la p (n + e) = backs st la p n
        · obtain ⟨e, e1, e2, e3⟩ := z
          obtain ⟨d, d1, d2, d3, d4⟩ := ih e (by omega) e1 e3
          exact ⟨d, d1, by omega, d3, d4⟩
        · exact ⟨c, h2, Nat.le_refl _, h3, fun e e1 e2 e3 => z ⟨e, e1, e2, e3⟩⟩
    obtain ⟨d, d1, d2, d3, d4⟩ := low c c (Nat.le_refl _) c1 cyc
    exact ⟨d, d1, by omega, d3, d4, hs, lt, hs0⟩
  -- no place twice
  have apart : ∀ a b, a < b → b < c → backs st la p (n + a) ≠ backs st la p (n + b) := fun a b ab bc e => by
    have := backs_add (k := c - b) e
    rw [show n + a + (c - b) = n + (a + (c - b)) by omega, show n + b + (c - b) = n + c by omega, cyc] at this
    exact least (a + (c - b)) (by omega) (by omega) this
  have lsv := als.length
  -- one step back, in the program
  have step : ∀ (k m : Nat), la (backs st la p k) = some m → ∃ s x t2, st[m]? = some s ∧ s.v = backs st la p k ∧ backs st la p (k + 1) = s.u ∧ sv[m]? = some x ∧ x = V.ref t2 ∧ H t2 = some (.tup [nV s.u, nV s.v, .int s.w]) := fun k m e => by
    obtain ⟨s, e1, e2, _⟩ := L.bk _ m e
    obtain ⟨x, ex, t2, rfl, h2⟩ := als.get e1
    refine ⟨s, _, t2, e1, e2, ?_, ex, rfl, h2⟩
    show back st la (backs st la p k) = s.u
    unfold back
    rw [e]
    dsimp only
    rw [e1]
  refine ⟨_, (pss_cons (ps_for PassesOwn.never rfl (pi_range1 (by rfl) T.m_range (pa_cons (pe_callB (call_len_seqK K rfl) (by rfl) T.m_len (by decide +kernel) (pa_cons (pv 1) pa_nil)) pa_nil)) (pg_name (i := 3) sc_ring_behind.nd rfl (Or.inl rfl))
        (pss_one (ps_set (i := 0) sc_ring_behind.nd rfl (Or.inl rfl) (pe_ix (ix_tupK K rfl) (pe_ix (ix_listK K rfl) (pv 2) (pe_ix (ix_listK K rfl) (pv 1) (pv 0) (fun _ _ => rfl)) (fun _ _ => rfl)) pe_int (fun _ _ => rfl)))))
      (pss_cons (ps_set (i := 4) sc_ring_behind.nd rfl (Or.inl rfl) (pe_lst (pa_cons (pe_ix (ix_listK K rfl) (pv 1) (pv 0) (fun _ _ => rfl)) pa_nil)))
      (pss_cons (ps_set (i := 5) sc_ring_behind.nd rfl (Or.inl rfl) (pe_ix (ix_tupK K rfl) (pe_ix (ix_listK K rfl) (pv 2) (pe_ix (ix_listK K rfl) (pv 1) (pv 0) (fun _ _ => rfl)) (fun _ _ => rfl)) pe_int (fun _ _ => rfl)))
      (pss_cons (ps_while PassesOwn.never (pt_cmpR op_ne (pv 5) (pv 0) (nomark _))
        (pss_cons (ps_expr (pe_bmK K rfl PySem.F.plainAttrs_list PySem.F.slot_list_append PySem.F.type_list_append mt_append (pv 4) (pa_cons (pe_ix (ix_listK K rfl) (pv 1) (pv 5) (fun _ _ => rfl)) pa_nil)))
      (pss_one (ps_set (i := 5) sc_ring_behind.nd rfl (Or.inl rfl) (pe_ix (ix_tupK K rfl) (pe_ix (ix_listK K rfl) (pv 2) (pe_ix (ix_listK K rfl) (pv 1) (pv 5) (fun _ _ => rfl)) (fun _ _ => rfl)) pe_int (fun _ _ => rfl))))))
      (pss_one (ps_ret (pe_revLK K rfl (pv 4)))))))), ?_⟩
  refine ⟨_, rfl, lb, _, rfl, .inl (SqL.of hlb), _, rfl, by rw [List.length_map, List.length_range]; omega, by rw [List.length_map, List.length_range]; omega, for_range (lo := 0) (n := (lasL n la).length) (fun k σ H2 => ∃ v3 v4 v5 : Option V, σ = [some (nV (backs st la p k)), some (.ref lb), some (.ref sl), v3, v4, v5] ∧ Same H H2) ⟨none, none, none, rfl, Same.refl _⟩ ?_ ?_⟩
  · rintro k σ H2 hk ⟨v3, v4, v5, rfl, s2⟩
    rw [List.length_map, List.length_range] at hk
    obtain ⟨m, em⟩ := hs0 k hk
    obtain ⟨s, x, t2, e1, e2, e3, ex, rfl, h2⟩ := step k m em
    have al : (lasL n la)[backs st la p k]? = some (nV m) := by rw [rg_at (lt k), em]; rfl
    refine ⟨_, rfl, _, rfl, _, rfl, lb, _, _, _, rfl, rfl, SqL.of (s2 _ _ hlb), atI_nat al, sl, _, _, _, rfl, rfl, SqL.of (s2 _ _ hsl), atI_nat ex, t2, _, _, _, rfl, rfl, SqT.of (s2 _ _ h2), atI_nat (j := 0) rfl, ?_⟩
    exact ⟨_, _, _, by rw [e3]; rfl, s2⟩
  rintro σ H2 ⟨v3, v4, v5, rfl, s2⟩
  have ln : (lasL n la).length = n := by rw [List.length_map, List.length_range]
  rw [ln]
  obtain ⟨m, em⟩ := hs n (Nat.le_refl _)
  obtain ⟨s, x, t2, e1, e2, e3, ex, rfl, h2⟩ := step n m em
  have al : (lasL n la)[backs st la p n]? = some (nV m) := by rw [rg_at (lt n), em]; rfl
  refine ⟨_, rfl, _, rfl, lb, _, _, _, rfl, rfl, SqL.of (s2 _ _ hlb), atI_nat al, (by show 1 ≤ sizeLine; decide), fun rl nrl => ?_⟩
  have s3 := s2.trans (same_new (o := .lst [nV m]) nrl)
  refine ⟨_, rfl, _, rfl, _, rfl, lb, _, _, _, rfl, rfl, SqL.of (s3 _ _ hlb), atI_nat al, sl, _, _, _, rfl, rfl, SqL.of (s3 _ _ hsl), atI_nat ex, t2, _, _, _, rfl, rfl, SqT.of (s3 _ _ h2), atI_nat (j := 0) rfl, ?_⟩
  refine ⟨fun z σ H4 => ∃ (j : Nat) (ks : List Nat), σ = [some (nV (backs st la p n)), some (.ref lb), some (.ref sl), v3, some (.ref rl), some (nV (backs st la p (n + 1 + j)))] ∧ H4 rl = some (.lst (ks.reverse.map nV)) ∧ ks.length = j + 1 ∧ (∀ k ∈ ks, k < st.length) ∧ stepEnd st (backs st la p (n + 1 + j)) ks = some (backs st la p n) ∧ (ks.map (wS st)).sum = needs3 st la p n (j + 1) ∧ ks.map (toS st) = ((List.range (j + 1)).map fun i => backs st la p (n + i)).reverse ∧ j + 1 ≤ c ∧ z = c - (j + 1) ∧ ((∀ i, i < j → backs st la p (n + 1 + i) ≠ backs st la p n) ∧ ks = rbL st la p n j) ∧ Same H H4,
    ⟨_, 0, [m], ?_, upd_same, rfl, fun k hk => ?_, ?_, ?_, ?_, c1, rfl, ⟨(fun i hi => absurd hi (Nat.not_lt_zero _)), by show [m] = [(la (backs st la p n)).getD 0]; rw [em]; rfl⟩, s3⟩, ?_⟩
  · rw [show n + 1 + 0 = n + 1 by omega, e3]; rfl
  · obtain rfl : k = m := by simpa using hk
    exact (List.getElem?_eq_some_iff.mp e1).1
  · rw [show n + 1 + 0 = n + 1 by omega, e3, stepEnd_cons e1, if_pos rfl, e2]; rfl
  · show wS st m + 0 = 0 + need st la (backs st la p (n + 0))
    have hw : wS st m = s.w := by unfold wS; rw [e1]
    have hn : need st la (backs st la p n) = s.w := by unfold need; rw [em]; dsimp only; rw [e1]
    rw [show n + 0 = n by omega, hw, hn]
    omega
  · show [toS st m] = [backs st la p (n + 0)]
    rw [toS_some e1, e2]; rfl
  rintro z σ H4 ⟨j, ks, rfl, hrl, lk, kl, se, sm, en, jc, rfl, ⟨nb, ek⟩, s4⟩
  refine ⟨_, rfl, _, rfl, rfl, _, rfl, ?_⟩
  by_cases cl : backs st la p (n + 1 + j) = backs st la p n
  · rw [decide_eq_true (show nV (backs st la p (n + 1 + j)) = nV (backs st la p n) by rw [cl])]
    refine if_bl (fun z => nomatch z) (fun _ => ?_)
    refine ⟨_, rfl, rl, _, rfl, SqL.of hrl, fun r2 nr2 => ?_⟩
    refine q r2 ks _ ?_ ⟨fun z => ?_, kl, ⟨backs st la p n, by rw [cl] at se; exact se⟩, ?_, ?_⟩ (by omega) ⟨j, cl, nb, ek⟩ (s4.trans (same_new nr2))
    · rw [upd_same, ← List.map_reverse, List.reverse_reverse]
    · rw [z] at lk; cases lk
    · rw [sm]
      exact L.sum_pos (by omega) (by rw [show n + (j + 1) = n + 1 + j by omega]; exact cl) hs
    · rw [en, List.nodup_iff_pairwise_ne, List.pairwise_reverse, List.pairwise_map]
      have pr : (List.range (j + 1)).Pairwise fun a b => a < b := List.pairwise_lt_range
      refine pr.imp_of_mem fun {a b} ha hb ab e => ?_
      have := List.mem_range.mp hb
      exact apart a b ab (by omega) e.symm
  · rw [decide_eq_false (show ¬ nV (backs st la p (n + 1 + j)) = nV (backs st la p n) from fun y => cl (by have := V.int.inj y; omega))]
    refine if_bl (fun _ => ?_) (fun z => nomatch z)
    have jlt : j + 1 < c := by
      refine Nat.lt_of_le_of_ne jc fun y => cl ?_
      rw [show n + 1 + j = n + (j + 1) by omega, y]
      exact cyc
    refine ⟨_, fun σ' H' h => h, ?_⟩
    obtain ⟨m, em⟩ := hs (n + 1 + j) (by omega)
    obtain ⟨s, x, t2, e1, e2, e3, ex, rfl, h2⟩ := step (n + 1 + j) m em
    have al : (lasL n la)[backs st la p (n + 1 + j)]? = some (nV m) := by rw [rg_at (lt _), em]; rfl
    refine ⟨_, rfl, .inl ⟨rfl, _, SqL.of hrl⟩, _, rfl, _, rfl, lb, _, _, _, rfl, rfl, SqL.of (s4 _ _ hlb), atI_nat al, rl, _, _, rfl, rfl, hrl, by rw [List.length_map, List.length_reverse]; exact small1000 (by omega), ?_⟩
    have rl0 : H rl = none := same_none s2 nrl
    have s5 : Same H (upd H4 rl (.lst (ks.reverse.map nV ++ [nV m]))) := Same.own s4 rl0
    refine ⟨_, rfl, _, rfl, _, rfl, lb, _, _, _, rfl, rfl, SqL.of (s5 _ _ hlb), atI_nat al, sl, _, _, _, rfl, rfl, SqL.of (s5 _ _ hsl), atI_nat ex, t2, _, _, _, rfl, rfl, SqT.of (s5 _ _ h2), atI_nat (j := 0) rfl, ?_⟩
    refine ⟨c - (j + 1 + 1), by omega, j + 1, m :: ks, ?_, ?_, by rw [List.length_cons, lk], fun k hk => ?_, ?_, ?_, ?_, by omega, rfl, ⟨fun i hi => ?_, ?_⟩, s5⟩
    · rw [show n + 1 + (j + 1) = n + 1 + j + 1 by omega, e3]; rfl
    · rw [upd_same, List.reverse_cons, List.map_append]; rfl
    · rcases List.mem_cons.mp hk with rfl | hk
      · exact (List.getElem?_eq_some_iff.mp e1).1
      · exact kl k hk
    · rw [show n + 1 + (j + 1) = n + 1 + j + 1 by omega, e3, stepEnd_cons e1, if_pos rfl, e2]; exact se
    · show wS st m + (ks.map (wS st)).sum = needs3 st la p n (j + 1) + need st la (backs st la p (n + (j + 1)))
      have hw : wS st m = s.w := by unfold wS; rw [e1]
      have hn : need st la (backs st la p (n + 1 + j)) = s.w := by unfold need; rw [em]; dsimp only; rw [e1]
      rw [sm, show n + (j + 1) = n + 1 + j by omega, hw, hn]
      omega
    · show toS st m :: ks.map (toS st) = _
      rw [toS_some e1, e2, en, List.range_succ (n := j + 1), List.map_append, List.reverse_append, show n + 1 + j = n + (j + 1) by omega]
      rfl
    · by_cases z : i = j
      · rw [z]; exact cl
      · exact nb i (by omega)
    · show m :: ks = (la (backs st la p (n + 1 + j))).getD 0 :: rbL st la p n j
      rw [em, ← ek]
      rfl
def sp_levels_or_ring (K : PySem.W.Frag) : Sp := fun vs H Q _ => ∃ (sl : Addr) (n : Nat) (st : List St3), vs = [nV n, .ref sl] ∧ StepsAt H sl st ∧ (∀ s ∈ st, s.u < n ∧ s.v < n) ∧ st.length ≤ 400 ∧ n ≤ 100 ∧
  (∀ (p ll : Addr) (lv : Nat → Int) (H' : Hp), H' p = some (.tup [.ref ll, .non]) → H' ll = some (.lst (levL n lv)) → (∀ s ∈ st, lv s.u + s.w ≤ lv s.v) → (∀ q, 0 ≤ lv q) → LvIs st n lv → Same H H' → Q (.ref p) H') ∧
  ∀ (p rl : Addr) (ks : List Nat) (H' : Hp), H' p = some (.tup [.non, .ref rl]) → H' rl = some (.lst (ks.map nV)) → RingOk st ks → ks.length ≤ n → RgIs st n ks → Same H H' → Q (.ref p) H'
theorem ok_levels_or_ring {f : Addr} {fd : FuncData} (F : Fun K "levels_or_ring" "levels_or_ring" s_levels_or_ring f fd) (T : Top K mg) : FnOk P w K mg base CX0 2 f fd ["many", "steps"] (sp_levels_or_ring K) := by
  obtain ⟨f_raise_levels, fd_raise_levels, F_raise_levels, b_raise_levels, m_raise_levels⟩ := T.d_raise_levels
  have G_raise_levels := ok_raise_levels (P := P) (w := w) (base := base) F_raise_levels T
  obtain ⟨f_ring_behind, fd_ring_behind, F_ring_behind, b_ring_behind, m_ring_behind⟩ := T.d_ring_behind
  have G_ring_behind := ok_ring_behind (P := P) (w := w) (base := base) F_ring_behind T
  refine F.ok sc_levels_or_ring (fun vs H Q E h => ?_) (fun cdv A outer s H vs Q E hr h => ?_)
  · obtain ⟨sl, n, st, rfl, _⟩ := h
    rfl
  obtain ⟨sl, n, st, rfl, ⟨sv, hsl, als⟩, bd, few, n100, q1, q2⟩ := h
  let R1 : TS := fun D' σ' H' => D'.rt = Q ∧ ∃ (ll lb : Addr) (lv : Nat → Int) (la : Nat → Option Nat) (r t : Nat → Nat) (now : Nat) (v : Option Nat) (v5 : Option V), σ' = [some (nV n), some (.ref sl), some (.ref ll), some (.ref lb), some (oV v), v5] ∧ H' ll = some (.lst (levL n lv)) ∧ H' lb = some (.lst (lasL n la)) ∧ Same H H' ∧ (∀ p, 0 ≤ lv p) ∧ (v = none → (∀ s ∈ st, lv s.u + s.w ≤ lv s.v) ∧ LvIs st n lv) ∧ ∀ x, v = some x → x < n ∧ r x = n ∧ Lv st n st.length lv la r t now ∧ (0 < n ∧ (∀ i', 1 ≤ i' → i' ≤ n → (lrS st i').2.2 ≠ none) ∧ lrS st n = (lv, la, v))
  refine ⟨_, (pss_cons (ps_set (i := 2) sc_levels_or_ring.nd rfl (Or.inl rfl) (pe_op op_rep (pe_lst (pa_cons pe_int pa_nil)) (pv 0)))
      (pss_cons (ps_set (i := 3) sc_levels_or_ring.nd rfl (Or.inl rfl) (pe_op op_rep (pe_lst (pa_cons pe_non pa_nil)) (pv 0)))
      (pss_cons (ps_set (i := 4) sc_levels_or_ring.nd rfl (Or.inl rfl) pe_non)
      (pss_cons (ps_for PassesOwn.never rfl (pi_range1 (by rfl) T.m_range (pa_cons (pv 0) pa_nil)) (pg_name (i := 5) sc_levels_or_ring.nd rfl (Or.inl rfl))
        (pss_cons (ps_set (i := 4) sc_levels_or_ring.nd rfl (Or.inl rfl) (pe_call G_raise_levels (hr.mono (by decide)) (by rfl) m_raise_levels F_raise_levels.kp b_raise_levels .nil pass0 (pa_cons (pv 2) (pa_cons (pv 3) (pa_cons (pv 1) pa_nil)))))
      (pss_one (ps_if (pt_cmpR op_isN (pv 4) pe_non (nomark _)) (pss_one ps_break) pss_nil))))
      (PSs.to (pss_cons (ps_if (pt_cmpR op_isN (pv 4) pe_non (nomark _)) (pss_one (ps_ret (pe_tup (pa_cons (pv 2) (pa_cons pe_non pa_nil))))) pss_nil)
      (pss_one (ps_ret (pe_tup (pa_cons pe_non (pa_cons (pe_call G_ring_behind (hr.mono (by decide)) (by rfl) m_ring_behind F_ring_behind.kp b_ring_behind .nil pass0 (pa_cons (pv 4) (pa_cons (pv 3) (pa_cons (pv 1) pa_nil)))) pa_nil)))))) R1 ?tail1))))), ?_⟩
  case tail1 =>
    rintro D' σ' H1 ⟨eD, ll, lb, lv, la, r, t, now, v, v5, rfl, hll, hlb, s1, nn, f1, f2⟩
    cases v with
    | none =>
      refine ⟨_, rfl, rfl, _, rfl, if_bl (fun _ => ?_) (fun z => absurd rfl (of_decide_eq_false z))⟩
      refine ⟨_, rfl, (by show 2 ≤ sizeLine; decide), fun p np => ?_⟩
      rw [eD]
      exact q1 p ll lv _ upd_same (same_new np _ _ hll) (f1 rfl).1 nn (f1 rfl).2 (s1.trans (same_new np))
    | some x =>
      obtain ⟨xl, rx, L, n0, na, en⟩ := f2 x rfl
      refine ⟨_, rfl, rfl, _, rfl, if_bl (fun z => absurd (of_decide_eq_true z) (fun y => nomatch y)) (fun _ => ?_)⟩
      refine ⟨_, rfl, _, rfl, _, rfl, lb, sl, n, x, st, lv, la, r, t, now, rfl, hlb, ⟨sv, s1 _ _ hsl, als.imp fun _ _ z => z.keep (TK.same s1)⟩, bd, few, n100, L, xl, rx, fun pr ks H2 hpr ring lk rb s2 => ⟨(by show 2 ≤ sizeLine; decide), fun p np => ?_⟩⟩
      rw [eD]
      exact q2 p pr ks _ upd_same (same_new np _ _ hpr) ring lk ⟨n0, na, x, by rw [en], by rw [en]; exact rb⟩ ((s1.trans s2).trans (same_new np))
  refine ⟨(by show 1 ≤ sizeLine; decide), fun z1 nz1 => ⟨_, rfl, z1, ((n : Nat) : Int), _, rfl, rfl, upd_same, by omega, by omega, (by show 1 * ((n : Nat) : Int).toNat ≤ sizeLine; exact little (by omega)), fun ll nll => ?_⟩⟩
  have eL : (List.replicate ((n : Nat) : Int).toNat [V.int 0]).flatten = levL n (fun _ => 0) := by
    rw [flat_rep, Int.toNat_natCast]
    exact (List.map_const' .. ▸ by rw [List.length_range] : List.replicate n (V.int 0) = (List.range n).map fun _ => V.int 0)
  rw [eL]
  refine ⟨(by show 1 ≤ sizeLine; decide), fun z2 nz2 => ⟨_, rfl, z2, ((n : Nat) : Int), _, rfl, rfl, upd_same, by omega, by omega, (by show 1 * ((n : Nat) : Int).toNat ≤ sizeLine; exact little (by omega)), fun lb nlb => ?_⟩⟩
  have eB : (List.replicate ((n : Nat) : Int).toNat [V.non]).flatten = lasL n (fun _ => none) := by
    rw [flat_rep, Int.toNat_natCast]
    exact (List.map_const' .. ▸ by rw [List.length_range] : List.replicate n V.non = (List.range n).map fun _ => V.non)
  rw [eB]
  have sA := ((same_new (o := .lst [V.int 0]) nz1).trans (same_new (o := .lst (levL n (fun _ => 0))) nll))
  have s0 : Same H _ := (sA.trans (same_new (o := .lst [V.non]) nz2)).trans (same_new (o := .lst (lasL n (fun _ => none))) nlb)
  have ll0 : H ll = none := same_none (same_new nz1) nll
  have lb0 : H lb = none := same_none (sA.trans (same_new nz2)) nlb
  have hll0 := same_new (o := .lst (lasL n (fun _ => none))) nlb _ _ (same_new (o := .lst [V.non]) nz2 _ _ (upd_same (H := upd H z1 (.lst [V.int 0])) (a := ll) (o := .lst (levL n (fun _ => 0)))))
  have llb : ll ≠ lb := ne_of_none (same_new (o := .lst [V.non]) nz2 _ _ (upd_same (H := upd H z1 (.lst [V.int 0])) (a := ll) (o := .lst (levL n (fun _ => 0))))) nlb
  have sll : sl ≠ ll := ne_of_none hsl ll0
  have slb : sl ≠ lb := ne_of_none hsl lb0
  refine ⟨_, rfl, _, rfl, by omega, by omega, for_range (lo := 0) (n := ((n : Nat) : Int).toNat) (fun i σ H2 => ∃ (lv : Nat → Int) (la : Nat → Option Nat) (r t : Nat → Nat) (now : Nat) (v : Option Nat) (v5 : Option V), σ = [some (nV n), some (.ref sl), some (.ref ll), some (.ref lb), some (oV v), v5] ∧ H2 ll = some (.lst (levL n lv)) ∧ H2 lb = some (.lst (lasL n la)) ∧ Same H H2 ∧ (∀ p, 0 ≤ lv p) ∧ Lv st (i + 1) 0 lv la r t now ∧ (∀ p, r p < i + 1) ∧ (lrS st i = (lv, la, v) ∧ ∀ i', 1 ≤ i' → i' ≤ i → (lrS st i').2.2 ≠ none) ∧ ((i = 0 ∧ v = none) ∨ ∃ x, v = some x ∧ x < n ∧ r x = i ∧ Lv st i st.length lv la r t now))
    ⟨fun _ => 0, fun _ => none, fun _ => 0, fun _ => 0, 0, none, none, rfl, hll0, upd_same, s0, (fun _ => Int.le_refl _), Lv.start, (fun _ => Nat.zero_lt_one), ⟨rfl, (fun i' h1 h2 => absurd h1 (by omega))⟩, .inl ⟨rfl, rfl⟩⟩ ?_ ?_⟩
  · rintro i σ H2 hi ⟨lv, la, r, t, now, v, v5, rfl, hll, hlb, s, nn, L, rl, ⟨el, na⟩, _⟩
    have hsl2 := s _ _ hsl
    refine ⟨_, rfl, _, rfl, _, rfl, ll, lb, sl, n, i + 1, st, lv, la, r, t, now, rfl, hll, hlb, ⟨sv, hsl2, als.imp fun _ _ z => z.keep (TK.same s)⟩, llb, sll, slb, bd, few, L, rl, fun lv' la' r' t' now' v' H3 h1 h2 L' rz f1 f2 f3 fr => ?_⟩
    have el' := lrS_next el rz
    have s3 : Same H H3 := fun b o e => fr b o (s _ _ e) (ne_of_none e ll0) (ne_of_none e lb0)
    have nn' : ∀ p, 0 ≤ lv' p := fun p => Int.le_trans (nn p) (f3 p)
    cases v' with
    | none =>
      refine ⟨_, rfl, rfl, _, rfl, if_bl (fun _ => ?_) (fun z => absurd rfl (of_decide_eq_false z))⟩
      exact ⟨rfl, ll, lb, lv', la', r', t', now', none, _, rfl, h1, h2, s3, nn', (fun _ => ⟨L'.feas (f1 rfl), i + 1, by omega, (fun z => absurd z (Nat.succ_ne_zero _)), by rw [el'], fun i' h1 h2 => na i' h1 (by omega), by rw [el']⟩), (fun _ z => nomatch z)⟩
    | some x =>
      obtain ⟨xl, rx⟩ := f2 x rfl
      refine ⟨_, rfl, rfl, _, rfl, if_bl (fun z => absurd (of_decide_eq_true z) (fun y => nomatch y)) (fun _ => ?_)⟩
      exact ⟨lv', la', r', t', now', some x, _, rfl, h1, h2, s3, nn', L'.next, fun p => Nat.lt_succ_of_le (L'.rl p), ⟨el', fun i' h1 h2 => by
        by_cases z : i' = i + 1
        · rw [z, el']; exact fun y => nomatch y
        · exact na i' h1 (by omega)⟩, .inr ⟨x, rfl, xl, rx, L'⟩⟩
  · rintro σ H2 ⟨lv, la, r, t, now, v, v5, rfl, hll, hlb, s, nn, L, rl, ⟨el, na⟩, fl⟩
    rw [Int.toNat_natCast] at fl el na
    rcases fl with ⟨z, rfl⟩ | ⟨x, rfl, xl, rx, L'⟩
    · exact ⟨rfl, ll, lb, lv, la, r, t, now, none, _, rfl, hll, hlb, s, nn, (fun _ => ⟨fun s hs => absurd (bd s hs).1 (by omega), n, Nat.le_refl _, fun z => z, by rw [el], fun i' h1 h2 => na i' h1 (by omega), by rw [el]⟩), (fun _ z => nomatch z)⟩
    · exact ⟨rfl, ll, lb, lv, la, r, t, now, some x, _, rfl, hll, hlb, s, nn, (fun z => nomatch z), fun y z => by cases z; exact ⟨xl, rx, L', by omega, na, el⟩⟩
end
def ndd (m T : Int) : Int := if m > T then 1 else 0
def lateV : Option Nat → V
  | none => .non
  | some l => nV l
def jumpsOf (hs : List HR) : Option Nat → List St3
  | none => []
  | some l => (doorsOf "out" hs).flatMap fun d => (doorsOf "in" hs).map fun o => ⟨d, o, -((l : Nat) : Int)⟩
def wStep (T : Int) (y : Wy) : St3 := ⟨y.one, y.e, ndd y.c.2 T - y.c.1⟩
def stepsOf (hs : List HR) (ys : List Wy) (late : Option Nat) (T : Int) : List St3 := ys.map (wStep T) ++ jumpsOf hs late
/-- some shifts reach the time -/
def FA (hs : List HR) (bs : List BR) (late : Option Nat) (T : Int) : Prop := ∃ lv : Nat → Int, (∀ one e c, one < hs.length → best hs bs one e = some c → lv one + (ndd c.2 T - c.1) ≤ lv e) ∧ ∀ l, late = some l → ∀ d ∈ doorsOf "out" hs, ∀ o ∈ doorsOf "in" hs, lv d - ((l : Nat) : Int) ≤ lv o
theorem feas_iff {hs : List HR} {bs : List BR} {ys : List Wy} {late : Option Nat} {T : Int} (aw : AllWays hs bs ys) : Feas (stepsOf hs ys late T) ↔ FA hs bs late T := by
  constructor
  · rintro ⟨lv, f⟩
    refine ⟨lv, fun one e c h1 h2 => ?_, fun l el d hd o ho => ?_⟩
    · obtain ⟨y, y1, rfl, rfl⟩ := aw.all one e c h1 h2
      have := (aw.ok y y1).b
      rw [h2] at this
      cases this
      exact f (wStep T y) (List.mem_append_left _ (List.mem_map.mpr ⟨y, y1, rfl⟩))
    · subst el
      have := f ⟨d, o, -((l : Nat) : Int)⟩ (List.mem_append_right _ (List.mem_flatMap.mpr ⟨d, hd, List.mem_map.mpr ⟨o, ho, rfl⟩⟩))
      have : lv d + -((l : Nat) : Int) ≤ lv o := this
      omega
  · rintro ⟨lv, f, g⟩
    refine ⟨lv, fun s hs' => ?_⟩
    rcases List.mem_append.mp hs' with h | h
    · obtain ⟨y, y1, rfl⟩ := List.mem_map.mp h
      exact f y.one y.e y.c (aw.ok y y1).lt (aw.ok y y1).b
    · cases late with
      | none => exact nomatch h
      | some l =>
        obtain ⟨d, hd, h2⟩ := List.mem_flatMap.mp h
        obtain ⟨o, ho, rfl⟩ := List.mem_map.mp h2
        have := g l rfl d hd o ho
        show lv d + -((l : Nat) : Int) ≤ lv o
        omega
theorem door_lt {z : Str} {hs : List HR} {k : Nat} (h : k ∈ doorsOf z hs) : k < hs.length := by
  obtain ⟨x, e, _⟩ := mem_doors.mp h
  exact (List.getElem?_eq_some_iff.mp e).1
theorem jumps_bd {hs : List HR} {late : Option Nat} : ∀ s ∈ jumpsOf hs late, s.u < hs.length ∧ s.v < hs.length := fun s h => by
  cases late with
  | none => exact nomatch h
  | some l =>
    obtain ⟨d, hd, h2⟩ := List.mem_flatMap.mp h
    obtain ⟨o, ho, rfl⟩ := List.mem_map.mp h2
    exact ⟨door_lt hd, door_lt ho⟩
theorem jumps_len {hs : List HR} {late : Option Nat} (h : hs.length ≤ 12) : (jumpsOf hs late).length ≤ 144 := by
  cases late with
  | none => exact Nat.zero_le _
  | some l =>
    have d1 := doors_len (z := "out") (hs := hs)
    have d2 := doors_len (z := "in") (hs := hs)
    have key : ∀ ds : List Nat, (ds.flatMap fun d => (doorsOf "in" hs).map fun o => (⟨d, o, -((l : Nat) : Int)⟩ : St3)).length = ds.length * (doorsOf "in" hs).length := fun ds => by
      induction ds with
      | nil => exact (Nat.zero_mul _).symm
      | cons d ds ih => rw [List.flatMap_cons, List.length_append, List.length_map, ih, List.length_cons, Nat.succ_mul]; omega
    show ((doorsOf "out" hs).flatMap _).length ≤ 144
    rw [key]
    exact Nat.le_trans (Nat.mul_le_mul (show _ ≤ 12 by omega) (show _ ≤ 12 by omega)) (by decide)
section
variable {P : Program} {w : World} {K : PySem.W.Frag} {mg : Str → Option Value} {base : Heap}
def sp_needed (K : PySem.W.Frag) : Sp := fun vs H Q _ => ∃ m T : Int, vs = [.int m, .int T] ∧ Q (.int (ndd m T)) H
theorem ok_needed {f : Addr} {fd : FuncData} (F : Fun K "needed" "needed" s_needed f fd) (T : Top K mg) : FnOk P w K mg base CX0 1 f fd ["moments", "time"] (sp_needed K) := by
  refine F.ok sc_needed (fun vs H Q E h => ?_) (fun cdv A outer s H vs Q E hr h => ?_)
  · obtain ⟨m, T, rfl, _⟩ := h
    rfl
  obtain ⟨m, T', rfl, q⟩ := h
  refine ⟨_, (pss_one (ps_ret (pe_ifExp (pt_cmpR op_gt (pv 0) (pv 1) (nomark _)) pe_int pe_int))), ?_⟩
  unfold ndd at q
  refine ⟨_, rfl, _, rfl, _, _, rfl, rfl, _, rfl, if_bl (fun z => ?_) (fun z => ?_)⟩
  · rw [if_pos (show m > T' from of_decide_eq_true z)] at q; exact q
  · rw [if_neg (show ¬ m > T' from of_decide_eq_false z)] at q; exact q
def sp_jumps (K : PySem.W.Frag) : Sp := fun vs H Q _ => ∃ (r : Addr) (hs : List HR) (bs : List BR) (late : Option Nat), vs = [.ref r, lateV late] ∧ RoomAt H r hs bs ∧ RoomOk hs bs ∧
  ∀ (p : Addr) (sv : List V) (H' : Hp), H' p = some (.lst sv) → All2 (StepAt H') sv (jumpsOf hs late) → Same H H' → Q (.ref p) H'
theorem ok_jumps {f : Addr} {fd : FuncData} (F : Fun K "jumps" "jumps" s_jumps f fd) (T : Top K mg) : FnOk P w K mg base CX0 2 f fd ["room", "late"] (sp_jumps K) := by
  obtain ⟨f_doors_out, fd_doors_out, F_doors_out, b_doors_out, m_doors_out⟩ := T.d_doors_out
  have G_doors_out := ok_doors_out (P := P) (w := w) (base := base) F_doors_out T
  obtain ⟨f_doors_in, fd_doors_in, F_doors_in, b_doors_in, m_doors_in⟩ := T.d_doors_in
  have G_doors_in := ok_doors_in (P := P) (w := w) (base := base) F_doors_in T
  refine F.ok sc_jumps (fun vs H Q E h => ?_) (fun cdv A outer s H vs Q E hr h => ?_)
  · obtain ⟨r, hs, bs, late, rfl, _⟩ := h
    rfl
  obtain ⟨r, hs, bs, late, rfl, hR, ok, q⟩ := h
  have lh := ok.hands
  refine ⟨_, (pss_cons (ps_if (pt_cmpR op_isN (pv 1) pe_non (nomark _)) (pss_one (ps_ret (pe_lst pa_nil))) pss_nil)
      (pss_one (ps_ret (pe_lc2 (own := [("door", 2), ("other", 3)]) (vs1 := [3]) (g := gName 2) (g1 := gName 3) (tt := tYes) (tt1 := tYes) (by rfl) sc_jumps.nd (pi_listK K rfl (pe_call G_doors_out (hr.mono (by decide)) (by rfl) m_doors_out F_doors_out.kp b_doors_out .nil pass0 (pa_cons (pv 0) pa_nil))) (blkOk_by (own := [("door", 2), ("other", 3)]) (N := N_jumps) (sc := defScope s_jumps) (by decide +kernel)) (by decide) (fun _ _ _ _ _ => (pg_name (i := 2) sc_jumps.nd rfl (Or.inl rfl))) (fun _ _ _ _ _ => pts_nil) (fun _ _ _ _ _ => (pi_listK K rfl (pe_call G_doors_in (hr.mono (by decide)) (by rfl) m_doors_in F_doors_in.kp b_doors_in .nil pass0 (pa_cons (pv 0) pa_nil)))) (fun _ _ _ _ _ => (pg_name (i := 3) sc_jumps.nd rfl (Or.inl rfl))) (fun _ _ _ _ _ => pts_nil) (fun _ _ _ _ _ => (pe_tup (pa_cons (pv 2) (pa_cons (pv 3) (pa_cons (pe_un un_neg (pv 1)) pa_nil))))))))), ?_⟩
  cases late with
  | none =>
    refine ⟨_, rfl, rfl, _, rfl, if_bl (fun _ => ?_) (fun z => absurd rfl (of_decide_eq_false z))⟩
    exact ⟨(by show 0 ≤ sizeLine; decide), fun p np => q p [] _ upd_same .nil (same_new np)⟩
  | some l =>
  refine ⟨_, rfl, rfl, _, rfl, if_bl (fun z => absurd (of_decide_eq_true z) (fun y => nomatch y)) (fun _ => ?_)⟩
  refine ⟨_, rfl, r, hs, bs, rfl, hR, by omega, ok.good, fun ol H1 nol hol s1 => ?_⟩
  have d1 := doors_len (z := "out") (hs := hs)
  have d2 := doors_len (z := "in") (hs := hs)
  refine ⟨ol, rfl, ⟨_, SqL.of hol⟩, fun D nD => ⟨fun i m H5 => m = (doorsOf "out" hs).length - i ∧ i ≤ (doorsOf "out" hs).length ∧ ∃ sv, H5 D = some (.lst sv) ∧ All2 (StepAt H5) sv (((doorsOf "out" hs).take i).flatMap fun d => (doorsOf "in" hs).map fun o => ⟨d, o, -((l : Nat) : Int)⟩) ∧ sv.length ≤ 12 * i ∧ Same H1 H5, ⟨_, rfl, Nat.zero_le _, [], upd_same, .nil, Nat.le_refl _, same_new nD⟩, ?_⟩⟩
  rintro i m H5 ⟨rfl, hi, sv, hD, al, lsv, s5⟩
  have hol5 := s5 _ _ hol
  by_cases hlt : i < (doorsOf "out" hs).length
  · have ed : (doorsOf "out" hs)[i]? = some (doorsOf "out" hs)[i] := List.getElem?_eq_getElem hlt
    refine .inr ⟨⟨_, _, SqL.of hol5, by rw [List.getElem?_map, ed]; rfl⟩, fun H' => ∃ m', m' < (doorsOf "out" hs).length - i ∧ m' = (doorsOf "out" hs).length - (i + 1) ∧ i + 1 ≤ (doorsOf "out" hs).length ∧ ∃ sv, H' D = some (.lst sv) ∧ All2 (StepAt H') sv (((doorsOf "out" hs).take (i + 1)).flatMap fun d => (doorsOf "in" hs).map fun o => ⟨d, o, -((l : Nat) : Int)⟩) ∧ sv.length ≤ 12 * (i + 1) ∧ Same H1 H', fun H' h => h, ?_⟩
    rintro x H6 ⟨rfl, ey⟩
    have ex : x = nV (doorsOf "out" hs)[i] := by
      have := ey _ (SqL.of hol5)
      rw [List.getElem?_map, ed] at this
      exact (Option.some.inj this).symm
    subst ex
    refine ⟨rfl, yes_in ⟨_, rfl, r, hs, bs, rfl, (hR.keep (TK.same s1)).keep (TK.same s5), by omega, ok.good, fun il H7 nil_ hil s7 => ?_⟩⟩
    have hD7 := s7 _ _ hD
    refine ⟨il, rfl, ⟨_, SqL.of hil⟩, fun j k H8 => k = (doorsOf "in" hs).length - j ∧ j ≤ (doorsOf "in" hs).length ∧ ∃ sv', H8 D = some (.lst sv') ∧ All2 (StepAt H8) sv' ((((doorsOf "out" hs).take i).flatMap fun d => (doorsOf "in" hs).map fun o => ⟨d, o, -((l : Nat) : Int)⟩) ++ ((doorsOf "in" hs).take j).map fun o => ⟨(doorsOf "out" hs)[i], o, -((l : Nat) : Int)⟩) ∧ sv'.length ≤ 12 * i + j ∧ Same H1 H8 ∧ H8 il = some (.lst ((doorsOf "in" hs).map nV)), ⟨_, rfl, Nat.zero_le _, sv, hD7, by rw [List.take_zero, List.map_nil, List.append_nil]; exact al.imp fun _ _ z => z.keep (TK.same s7), by omega, s5.trans s7, hil⟩, ?_⟩
    rintro j k H8 ⟨rfl, hj, sv', hD8, al8, l8, s8, hil8⟩
    have ilD : il ≠ D := (ne_of_none hD nil_).symm
    by_cases jlt : j < (doorsOf "in" hs).length
    · have eo : (doorsOf "in" hs)[j]? = some (doorsOf "in" hs)[j] := List.getElem?_eq_getElem jlt
      refine .inr ⟨⟨_, _, SqL.of hil8, by rw [List.getElem?_map, eo]; rfl⟩, fun H' => ∃ k', k' < (doorsOf "in" hs).length - j ∧ k' = (doorsOf "in" hs).length - (j + 1) ∧ j + 1 ≤ (doorsOf "in" hs).length ∧ ∃ sv', H' D = some (.lst sv') ∧ All2 (StepAt H') sv' ((((doorsOf "out" hs).take i).flatMap fun d => (doorsOf "in" hs).map fun o => ⟨d, o, -((l : Nat) : Int)⟩) ++ ((doorsOf "in" hs).take (j + 1)).map fun o => ⟨(doorsOf "out" hs)[i], o, -((l : Nat) : Int)⟩) ∧ sv'.length ≤ 12 * i + (j + 1) ∧ Same H1 H' ∧ H' il = some (.lst ((doorsOf "in" hs).map nV)), fun H' h => h, ?_⟩
      rintro x H9 ⟨rfl, ey⟩
      have ex : x = nV (doorsOf "in" hs)[j] := by
        have := ey _ (SqL.of hil8)
        rw [List.getElem?_map, eo] at this
        exact (Option.some.inj this).symm
      subst ex
      refine ⟨rfl, yes_in ⟨_, rfl, _, rfl, _, rfl, _, rfl, (by show 3 ≤ sizeLine; decide), fun t nt => ?_⟩⟩
      have hD9 := same_new (o := .tup [nV (doorsOf "out" hs)[i], nV (doorsOf "in" hs)[j], V.int (-((l : Nat) : Int))]) nt _ _ hD8
      refine ⟨sv', hD9, small1000 (by omega), _, by omega, rfl, by omega, sv' ++ [V.ref t], upd_same, ?_, by rw [List.length_append]; show sv'.length + 1 ≤ _; omega, Same.own (s8.trans (same_new nt)) nD, by rw [upd_ne ilD]; exact same_new nt _ _ hil8⟩
      rw [show ((doorsOf "in" hs).take (j + 1)).map (fun o => (⟨(doorsOf "out" hs)[i], o, -((l : Nat) : Int)⟩ : St3)) = ((doorsOf "in" hs).take j).map (fun o => (⟨(doorsOf "out" hs)[i], o, -((l : Nat) : Int)⟩ : St3)) ++ [⟨(doorsOf "out" hs)[i], (doorsOf "in" hs)[j], -((l : Nat) : Int)⟩] by rw [List.take_add_one, eo, List.map_append]; rfl, ← List.append_assoc]
      exact ((al8.imp fun _ _ z => z.keep (TK.new nt)).snoc ⟨t, rfl, upd_same⟩).imp fun _ _ z => z.keep (TK.lst hD9)
    · have e : j = (doorsOf "in" hs).length := by omega
      subst e
      refine .inl ⟨⟨_, SqL.of hil8, by rw [List.length_map]; exact Nat.le_refl _⟩, _, by omega, rfl, by omega, sv', hD8, ?_, by omega, s8⟩
      rw [List.take_length] at al8
      rw [show ((doorsOf "out" hs).take (i + 1)).flatMap (fun d => (doorsOf "in" hs).map fun o => (⟨d, o, -((l : Nat) : Int)⟩ : St3)) = (((doorsOf "out" hs).take i).flatMap fun d => (doorsOf "in" hs).map fun o => (⟨d, o, -((l : Nat) : Int)⟩ : St3)) ++ (doorsOf "in" hs).map fun o => (⟨(doorsOf "out" hs)[i], o, -((l : Nat) : Int)⟩ : St3) by rw [List.take_add_one, ed, List.flatMap_append]; simp]
      exact al8
  · have e : i = (doorsOf "out" hs).length := by omega
    subst e
    refine .inl ⟨⟨_, SqL.of hol5, by rw [List.length_map]; exact Nat.le_refl _⟩, q D sv H5 hD ?_ (s1.trans s5)⟩
    rw [List.take_length] at al
    exact al
end
theorem lev_set {n : Nat} {f : Nat → Int} {j : Nat} {z : Int} (hj : j < n) : (levL n f).set j (V.int z) = levL n fun k => if k = j then z else f k := by
  refine List.ext_getElem? fun m => ?_
  by_cases e : m = j
  · subst e
    rw [List.getElem?_set_self (by rw [List.length_map, List.length_range]; exact hj), rg_at hj]
    show _ = some (V.int (if m = m then z else f m))
    rw [if_pos rfl]
  · rw [List.getElem?_set_ne (fun z => e z.symm)]
    by_cases l : m < n
    · rw [rg_at l, rg_at l]
      show _ = some (V.int (if m = j then z else f m))
      rw [if_neg e]
    · rw [List.getElem?_eq_none (by rw [List.length_map, List.length_range]; omega), List.getElem?_eq_none (by rw [List.length_map, List.length_range]; omega)]
theorem take_if {l : List Nat} {i j : Nat} {z : Int} {f : Nat → Int} (e : l[i]? = some j) : (fun k => if k = j then z else if k ∈ l.take i then z else f k) = fun k => if k ∈ l.take (i + 1) then z else f k := by
  funext k
  rw [List.take_add_one, e]
  show _ = if k ∈ l.take i ++ [j] then z else f k
  by_cases a : k = j
  · rw [if_pos a, if_pos (by rw [a]; exact List.mem_append_right _ (List.mem_singleton.mpr rfl))]
  · rw [if_neg a]
    by_cases b : k ∈ l.take i
    · rw [if_pos b, if_pos (List.mem_append_left _ b)]
    · rw [if_neg b, if_neg fun c => (List.mem_append.mp c).elim b fun d => a (List.mem_singleton.mp d)]
/-- what the shifts are, by levels -/
def ShOf (hs : List HR) (late : Option Nat) (lv sh : Nat → Int) : Prop := ∃ gr to : Int, (∀ k ∈ doorsOf "in" hs, sh k = 0 ∧ gr ≤ lv k) ∧ (∀ k ∈ doorsOf "out" hs, sh k = to) ∧ (∀ k, k ∉ doorsOf "in" hs → k ∉ doorsOf "out" hs → sh k = lv k - gr) ∧
  (∀ l : Nat, late = some l → to = ((l : Nat) : Int) ∧ ((∃ o ∈ doorsOf "in" hs, gr = lv o) ∨ (doorsOf "in" hs = [] ∧ ∀ d ∈ doorsOf "out" hs, lv d - ((l : Nat) : Int) ≤ gr))) ∧ (late = none → (∀ d ∈ doorsOf "out" hs, lv d ≤ to) ∧ ((∃ o ∈ doorsOf "in" hs, gr = lv o) ∨ gr = 0))
theorem door_one {hs : List HR} {k : Nat} (a : k ∈ doorsOf "in" hs) (b : k ∈ doorsOf "out" hs) : False := by
  obtain ⟨h, e1, e2⟩ := mem_doors.mp a
  obtain ⟨h', e3, e4⟩ := mem_doors.mp b
  rw [e1] at e3
  cases e3
  rw [e2] at e4
  exact absurd e4 (by decide +kernel)
/-! ### what is told, to the number -/
def MaxD (l : List Nat) (f : Nat → Int) (d m : Int) : Prop := (l = [] ∧ m = d) ∨ ((∃ o ∈ l, m = f o) ∧ ∀ o ∈ l, f o ≤ m)
def MinD (l : List Nat) (f : Nat → Int) (d m : Int) : Prop := (l = [] ∧ m = d) ∨ ((∃ o ∈ l, m = f o) ∧ ∀ o ∈ l, m ≤ f o)
theorem MaxD.one {l : List Nat} {f : Nat → Int} {d m m' : Int} (a : MaxD l f d m) (b : MaxD l f d m') : m = m' := by
  rcases a with ⟨e, rfl⟩ | ⟨⟨o, ho, rfl⟩, ge⟩
  · rcases b with ⟨_, rfl⟩ | ⟨⟨o, ho, _⟩, _⟩
    · rfl
    · rw [e] at ho; cases ho
  · rcases b with ⟨e, _⟩ | ⟨⟨o', ho', rfl⟩, ge'⟩
    · rw [e] at ho; cases ho
    · exact Int.le_antisymm (ge' o ho) (ge o' ho')
theorem MinD.one {l : List Nat} {f : Nat → Int} {d m m' : Int} (a : MinD l f d m) (b : MinD l f d m') : m = m' := by
  rcases a with ⟨e, rfl⟩ | ⟨⟨o, ho, rfl⟩, ge⟩
  · rcases b with ⟨_, rfl⟩ | ⟨⟨o, ho, _⟩, _⟩
    · rfl
    · rw [e] at ho; cases ho
  · rcases b with ⟨e, _⟩ | ⟨⟨o', ho', rfl⟩, ge'⟩
    · rw [e] at ho; cases ho
    · exact Int.le_antisymm (ge o' ho') (ge' o ho)
structure ShN (hs : List HR) (late : Option Nat) (lv : Nat → Int) (hi to fr gr : Int) : Prop where
  top : MaxD (doorsOf "out" hs) lv 0 hi
  some_ : ∀ l : Nat, late = some l → to = ((l : Nat) : Int)
  none_ : late = none → to = hi
  fr1 : doorsOf "out" hs ≠ [] → fr = hi - to
  fr0 : doorsOf "out" hs = [] → fr = 0
  low : MinD (doorsOf "in" hs) lv fr gr
def ShX (hs : List HR) (late : Option Nat) (lv sh : Nat → Int) : Prop := ∃ hi to fr gr : Int, ShN hs late lv hi to fr gr ∧ sh = fun k => if k ∈ doorsOf "out" hs then to else if k ∈ doorsOf "in" hs then 0 else lv k - gr
theorem ShX.one {hs : List HR} {late : Option Nat} {lv sh sh' : Nat → Int} (a : ShX hs late lv sh) (b : ShX hs late lv sh') : sh = sh' := by
  obtain ⟨hi, to, fr, gr, n, rfl⟩ := a
  obtain ⟨hi', to', fr', gr', n', rfl⟩ := b
  obtain rfl := n.top.one n'.top
  obtain rfl : to = to' := by
    cases late with
    | none => rw [n.none_ rfl, n'.none_ rfl]
    | some l => rw [n.some_ l rfl, n'.some_ l rfl]
  obtain rfl : fr = fr' := by
    by_cases e : doorsOf "out" hs = []
    · rw [n.fr0 e, n'.fr0 e]
    · rw [n.fr1 e, n'.fr1 e]
  obtain rfl := n.low.one n'.low
  rfl
theorem ShX.of {hs : List HR} {late : Option Nat} {lv sh : Nat → Int} (a : ShX hs late lv sh) : ShOf hs late lv sh := by
  obtain ⟨hi, to, fr, gr, n, rfl⟩ := a
  have top : ∀ d ∈ doorsOf "out" hs, lv d ≤ hi := fun d hd => by
    rcases n.top with ⟨e, _⟩ | ⟨_, ge⟩
    · rw [e] at hd; cases hd
    · exact ge d hd
  have low : ∀ k ∈ doorsOf "in" hs, gr ≤ lv k := fun d hd => by
    rcases n.low with ⟨e, _⟩ | ⟨_, ge⟩
    · rw [e] at hd; cases hd
    · exact ge d hd
  refine ⟨gr, to, fun k hk => ⟨?_, low k hk⟩, fun k hk => ?_, fun k k1 k2 => ?_, fun l el => ⟨n.some_ l el, ?_⟩, fun ln => ⟨fun d hd => by rw [n.none_ ln]; exact top d hd, ?_⟩⟩
  · show (if k ∈ doorsOf "out" hs then to else if k ∈ doorsOf "in" hs then 0 else lv k - gr) = 0
    rw [if_neg fun z => door_one hk z, if_pos hk]
  · show (if k ∈ doorsOf "out" hs then to else if k ∈ doorsOf "in" hs then 0 else lv k - gr) = _
    rw [if_pos hk]
  · show (if k ∈ doorsOf "out" hs then to else if k ∈ doorsOf "in" hs then 0 else lv k - gr) = _
    rw [if_neg k2, if_neg k1]
  · rcases n.low with ⟨e, g⟩ | ⟨⟨o, ho, g⟩, _⟩
    · refine .inr ⟨e, fun d hd => ?_⟩
      have := top d hd
      have := n.fr1 (List.ne_nil_of_mem hd)
      have := n.some_ l el
      omega
    · exact .inl ⟨o, ho, g⟩
  · rcases n.low with ⟨e, g⟩ | ⟨⟨o, ho, g⟩, _⟩
    · refine .inr ?_
      by_cases z : doorsOf "out" hs = []
      · rw [g, n.fr0 z]
      · have := n.fr1 z
        have := n.none_ ln
        omega
    · exact .inl ⟨o, ho, g⟩
section
variable {P : Program} {w : World} {K : PySem.W.Frag} {mg : Str → Option Value} {base : Heap}
def sp_shifts_by (K : PySem.W.Frag) : Sp := fun vs H Q _ => ∃ (r ll : Addr) (hs : List HR) (bs : List BR) (late : Option Nat) (lv : Nat → Int), vs = [.ref r, lateV late, .ref ll] ∧ RoomAt H r hs bs ∧ RoomOk hs bs ∧ H ll = some (.lst (levL hs.length lv)) ∧
  ∀ (p : Addr) (sh : Nat → Int) (H' : Hp), H' p = some (.tup (levL hs.length sh)) → ShX hs late lv sh → Same H H' → Q (.ref p) H'
theorem ok_shifts_by {f : Addr} {fd : FuncData} (F : Fun K "shifts_by" "shifts_by" s_shifts_by f fd) (T : Top K mg) : FnOk P w K mg base CX0 2 f fd ["room", "late", "levels"] (sp_shifts_by K) := by
  obtain ⟨f_doors_in, fd_doors_in, F_doors_in, b_doors_in, m_doors_in⟩ := T.d_doors_in
  have G_doors_in := ok_doors_in (P := P) (w := w) (base := base) F_doors_in T
  obtain ⟨f_doors_out, fd_doors_out, F_doors_out, b_doors_out, m_doors_out⟩ := T.d_doors_out
  have G_doors_out := ok_doors_out (P := P) (w := w) (base := base) F_doors_out T
  refine F.ok sc_shifts_by (fun vs H Q E h => ?_) (fun cdv A outer s H vs Q E hr h => ?_)
  · obtain ⟨r, ll, hs, bs, late, lv, rfl, _⟩ := h
    rfl
  obtain ⟨r, ll, hs, bs, late, lv, rfl, hR, ok, hll, q⟩ := h
  have lh := ok.hands
  have d1 := doors_len (z := "out") (hs := hs)
  have d2 := doors_len (z := "in") (hs := hs)
  let R1 : TS := fun D' σ' H' => D'.rt = Q ∧ ∃ (il ol : Addr) (hi : Int), σ' = [some (.ref r), some (lateV late), some (.ref ll), some (.ref il), some (.ref ol), some (.int hi), none, none, none, none, none, none] ∧ H' il = some (.lst ((doorsOf "in" hs).map nV)) ∧ H' ol = some (.lst ((doorsOf "out" hs).map nV)) ∧ MaxD (doorsOf "out" hs) lv 0 hi ∧ Same H H'
  let R2 : TS := fun D' σ' H' => D'.rt = Q ∧ ∃ (il ol : Addr) (hi to : Int), σ' = [some (.ref r), some (lateV late), some (.ref ll), some (.ref il), some (.ref ol), some (.int hi), none, some (.int to), none, none, none, none] ∧ H' il = some (.lst ((doorsOf "in" hs).map nV)) ∧ H' ol = some (.lst ((doorsOf "out" hs).map nV)) ∧ MaxD (doorsOf "out" hs) lv 0 hi ∧ ((∀ l : Nat, late = some l → to = ((l : Nat) : Int)) ∧ (late = none → to = hi)) ∧ Same H H'
  let R3 : TS := fun D' σ' H' => D'.rt = Q ∧ ∃ (il ol : Addr) (hi to fr : Int), σ' = [some (.ref r), some (lateV late), some (.ref ll), some (.ref il), some (.ref ol), some (.int hi), none, some (.int to), some (.int fr), none, none, none] ∧ H' il = some (.lst ((doorsOf "in" hs).map nV)) ∧ H' ol = some (.lst ((doorsOf "out" hs).map nV)) ∧ MaxD (doorsOf "out" hs) lv 0 hi ∧ ((∀ l : Nat, late = some l → to = ((l : Nat) : Int)) ∧ (late = none → to = hi)) ∧ ((doorsOf "out" hs ≠ [] → fr = hi - to) ∧ (doorsOf "out" hs = [] → fr = 0)) ∧ Same H H'
  let R4 : TS := fun D' σ' H' => D'.rt = Q ∧ ∃ (il ol : Addr) (hi to fr gr : Int), σ' = [some (.ref r), some (lateV late), some (.ref ll), some (.ref il), some (.ref ol), some (.int hi), none, some (.int to), some (.int fr), some (.int gr), none, none] ∧ H' il = some (.lst ((doorsOf "in" hs).map nV)) ∧ H' ol = some (.lst ((doorsOf "out" hs).map nV)) ∧ MaxD (doorsOf "out" hs) lv 0 hi ∧ ((∀ l : Nat, late = some l → to = ((l : Nat) : Int)) ∧ (late = none → to = hi)) ∧ ((doorsOf "out" hs ≠ [] → fr = hi - to) ∧ (doorsOf "out" hs = [] → fr = 0)) ∧ MinD (doorsOf "in" hs) lv fr gr ∧ Same H H'
  refine ⟨_, (pss_cons (ps_set (i := 3) sc_shifts_by.nd rfl (Or.inl rfl) (pe_call G_doors_in (hr.mono (by decide)) (by rfl) m_doors_in F_doors_in.kp b_doors_in .nil pass0 (pa_cons (pv 0) pa_nil)))
      (pss_cons (ps_set (i := 4) sc_shifts_by.nd rfl (Or.inl rfl) (pe_call G_doors_out (hr.mono (by decide)) (by rfl) m_doors_out F_doors_out.kp b_doors_out .nil pass0 (pa_cons (pv 0) pa_nil)))
      (pss_cons (ps_set (i := 5) sc_shifts_by.nd rfl (Or.inl rfl) (pe_callBK (cr_maxDf K rfl rfl) (by rfl) T.m_max (by decide +kernel) (pa_cons (pe_lc (own := [("door", 6)]) (g := gName 6) (tt := tYes) (by rfl) sc_shifts_by.nd (pi_listK K rfl (pv 4)) (blkOk_by (own := [("door", 6)]) (N := N_shifts_by) (sc := defScope s_shifts_by) (by decide +kernel)) (fun _ _ _ _ _ => (pg_name (i := 6) sc_shifts_by.nd rfl (Or.inl rfl))) (fun _ _ _ _ _ => pts_nil) (fun _ _ _ _ _ => (pe_ix (ix_listK K rfl) (pv 2) (pv 6) (fun _ _ => rfl)))) pa_nil) (pk_cons pe_int pk_nil)))
      (PSs.to (pss_cons (ps_set (i := 7) sc_shifts_by.nd rfl (Or.inl rfl) (pe_ifExp (pt_cmpR op_isN (pv 1) pe_non (nomark _)) (pv 5) (pv 1)))
      (PSs.to (pss_cons (ps_set (i := 8) sc_shifts_by.nd rfl (Or.inl rfl) (pe_ifExp (pt_truthK K rfl (pv 4) (by intro _; rfl)) (pe_op op_sub (pv 5) (pv 7)) pe_int))
      (PSs.to (pss_cons (ps_set (i := 9) sc_shifts_by.nd rfl (Or.inr rfl) (pe_callBK (cr_minDf K rfl rfl) (by rfl) T.m_min (by decide +kernel) (pa_cons (pe_lc (own := [("door", 6)]) (g := gName 6) (tt := tYes) (by rfl) sc_shifts_by.nd (pi_listK K rfl (pv 3)) (blkOk_by (own := [("door", 6)]) (N := N_shifts_by) (sc := defScope s_shifts_by) (by decide +kernel)) (fun _ _ _ _ _ => (pg_name (i := 6) sc_shifts_by.nd rfl (Or.inl rfl))) (fun _ _ _ _ _ => pts_nil) (fun _ _ _ _ _ => (pe_ix (ix_listK K rfl) (pv 2) (pv 6) (fun _ _ => rfl)))) pa_nil) (pk_cons (pv 8) pk_nil)))
      (PSs.to (pss_cons (ps_setLc (i := 10) (own := [("level", 11)]) (g := gName 11) (tt := tYes) (by rfl) sc_shifts_by.nd rfl rfl (sw_true rfl rfl rfl (by decide +kernel)) (pi_listK K rfl (pv 2)) (blkOk_by (own := [("level", 11)]) (N := N_shifts_by) (sc := defScope s_shifts_by) (by decide +kernel)) (fun _ _ _ _ _ => (pg_name (i := 11) sc_shifts_by.nd rfl (Or.inl rfl))) (fun _ _ _ _ _ => pts_nil) (fun _ _ _ _ _ => (pe_op op_sub (pv 11) (pv 9))))
      (pss_cons (ps_for PassesOwn.never rfl (pi_listK K rfl (pv 3)) (pg_name (i := 6) sc_shifts_by.nd rfl (Or.inl rfl))
        (pss_one (ps_asg pe_int (pg_sub (pv 10) (pv 6) set_list))))
      (pss_cons (ps_for PassesOwn.never rfl (pi_listK K rfl (pv 4)) (pg_name (i := 6) sc_shifts_by.nd rfl (Or.inl rfl))
        (pss_one (ps_asg (pv 7) (pg_sub (pv 10) (pv 6) set_list))))
      (pss_one (ps_ret (pe_callTy (call_tuple_ofK K rfl) (by rfl) T.m_tuple (by decide +kernel) (pa_cons (pv 10) pa_nil))))))) R4 ?tail4)) R3 ?tail3)) R2 ?tail2)) R1 ?tail1)))), ?_⟩
  case tail4 =>
    rintro D' σ' H1 ⟨eD, il, ol, hi, to, fr, gr, rfl, hil, hol, P1, P0, P3, P4, s1⟩
    refine ⟨_, rfl, ll, rfl, ⟨_, SqL.of (s1 _ _ hll)⟩, fun D nD => lc_list (K := K) (a := ll) (xs := levL hs.length lv) (fun i H5 => H5 D = some (.lst (levL i fun k => lv k - gr)) ∧ Same H1 H5) ⟨upd_same, same_new nD⟩ (fun i H5 _ ⟨_, s5⟩ => SqL.of (s5 _ _ (s1 _ _ hll))) ?_ ?_⟩
    · rintro i x H5 hx ⟨hD, s5⟩
      have il2 := (List.getElem?_eq_some_iff.mp hx).1
      rw [List.length_map, List.length_range] at il2
      rw [rg_at il2] at hx
      obtain rfl : V.int (lv i) = x := Option.some.inj hx
      refine ⟨rfl, yes_in ⟨_, rfl, _, rfl, _, _, rfl, rfl, _, hD, by rw [List.length_map, List.length_range]; exact small1000 (by omega), ?_, Same.own s5 nD⟩⟩
      rw [upd_same]
      show _ = some (HO.lst ((List.range (i + 1)).map fun p => V.int (lv p - gr)))
      rw [List.range_succ, List.map_append]; rfl
    · rintro H2 ⟨hD, s2⟩
      rw [List.length_map, List.length_range] at hD
      have ilD : il ≠ D := ne_of_none hil nD
      have olD : ol ≠ D := ne_of_none hol nD
      refine ⟨_, rfl, il, rfl, ⟨_, SqL.of (s2 _ _ hil)⟩, for_list (K := K) (a := il) (xs := (doorsOf "in" hs).map nV) (fun i σ H3 => ∃ (v6 : Option V), σ = [some (.ref r), some (lateV late), some (.ref ll), some (.ref il), some (.ref ol), some (.int hi), v6, some (.int to), some (.int fr), some (.int gr), some (.ref D), none] ∧ H3 D = some (.lst (levL hs.length fun k => if k ∈ (doorsOf "in" hs).take i then 0 else lv k - gr)) ∧ Same H1 H3)
        ⟨none, rfl, hD, s2⟩ (fun i σ H3 _ ⟨_, _, _, s3⟩ => SqL.of (s3 _ _ hil)) ?_ ?_⟩
      · rintro i x σ H3 hx ⟨v6, rfl, hD3, s3⟩
        obtain ⟨k, ek, rfl⟩ := nats_at hx
        have kl := door_lt (List.mem_of_getElem? ek)
        refine ⟨_, rfl, _, rfl, D, _, _, k, rfl, rfl, hD3, ixN_nat (by rw [List.length_map, List.length_range]; exact kl), _, rfl, ?_, Same.own s3 nD⟩
        rw [upd_same, lev_set kl, take_if ek]
      · rintro σ H3 ⟨v6, rfl, hD3, s3⟩
        rw [List.length_map, List.take_length] at hD3
        refine ⟨_, rfl, ol, rfl, ⟨_, SqL.of (s3 _ _ hol)⟩, for_list (K := K) (a := ol) (xs := (doorsOf "out" hs).map nV) (fun i σ H3 => ∃ (v6 : Option V), σ = [some (.ref r), some (lateV late), some (.ref ll), some (.ref il), some (.ref ol), some (.int hi), v6, some (.int to), some (.int fr), some (.int gr), some (.ref D), none] ∧ H3 D = some (.lst (levL hs.length fun k => if k ∈ (doorsOf "out" hs).take i then to else if k ∈ doorsOf "in" hs then 0 else lv k - gr)) ∧ Same H1 H3)
          ⟨v6, rfl, hD3, s3⟩ (fun i σ H3 _ ⟨_, _, _, s3⟩ => SqL.of (s3 _ _ hol)) ?_ ?_⟩
        · rintro i x σ H3 hx ⟨v6, rfl, hD3, s3⟩
          obtain ⟨k, ek, rfl⟩ := nats_at hx
          have kl := door_lt (List.mem_of_getElem? ek)
          refine ⟨_, rfl, _, rfl, _, rfl, D, _, _, k, rfl, rfl, hD3, ixN_nat (by rw [List.length_map, List.length_range]; exact kl), _, rfl, ?_, Same.own s3 nD⟩
          rw [upd_same, lev_set kl, take_if ek]
        · rintro σ H3 ⟨v6, rfl, hD3, s3⟩
          rw [List.length_map, List.take_length] at hD3
          refine ⟨_, rfl, D, _, rfl, .inl ⟨SqL.of hD3, fun p np => ?_⟩⟩
          rw [eD]
          exact q p _ _ upd_same ⟨hi, to, fr, gr, ⟨P1, P0.1, P0.2, P3.1, P3.2, P4⟩, rfl⟩ ((s1.trans s3).trans (same_new np))
  case tail3 =>
    rintro D' σ' H1 ⟨eD, il, ol, hi, to, fr, rfl, hil, hol, P1, P0, P3, s1⟩
    refine ⟨_, rfl, il, rfl, ⟨_, SqL.of hil⟩, fun D nD => lc_list (K := K) (a := il) (xs := (doorsOf "in" hs).map nV) (fun i H5 => H5 D = some (.lst ((((doorsOf "in" hs).take i).map lv).map V.int)) ∧ Same H1 H5) ⟨upd_same, same_new nD⟩ (fun i H5 _ ⟨_, s5⟩ => SqL.of (s5 _ _ hil)) ?_ ?_⟩
    · rintro i x H5 hx ⟨hD, s5⟩
      obtain ⟨k, ek, rfl⟩ := nats_at hx
      have kl := door_lt (List.mem_of_getElem? ek)
      have il2 := (List.getElem?_eq_some_iff.mp ek).1
      refine ⟨rfl, yes_in ⟨_, rfl, _, rfl, ll, _, _, _, rfl, rfl, SqL.of (s5 _ _ (s1 _ _ hll)), atI_nat (rg_at kl), _, hD, by rw [List.length_map, List.length_map, List.length_take]; exact small1000 (by omega), ?_, Same.own s5 nD⟩⟩
      rw [upd_same, List.take_add_one, ek, List.map_append, List.map_append]; rfl
    · rintro H5 ⟨hD, s5⟩
      rw [List.length_map, List.take_length] at hD
      refine ⟨_, rfl, D, _, V.int fr, rfl, rfl, SqL.of hD, fun e => ?_, fun m hm hle => ?_⟩
      · have e : doorsOf "in" hs = [] := List.map_eq_nil_iff.mp e
        exact ⟨eD, il, ol, hi, to, fr, fr, rfl, s5 _ _ hil, s5 _ _ hol, P1, P0, P3, .inl ⟨e, rfl⟩, s1.trans s5⟩
      · obtain ⟨o, ho, eo⟩ := List.mem_map.mp hm
        exact ⟨eD, il, ol, hi, to, fr, m, rfl, s5 _ _ hil, s5 _ _ hol, P1, P0, P3, .inr ⟨⟨o, ho, eo.symm⟩, fun k hk => hle _ (List.mem_map.mpr ⟨k, hk, rfl⟩)⟩, s1.trans s5⟩
  case tail2 =>
    rintro D' σ' H1 ⟨eD, il, ol, hi, to, rfl, hil, hol, P1, P0, s1⟩
    refine ⟨_, rfl, _, .inl ⟨_, SqL.of hol, rfl⟩, if_bl (fun c => ?_) (fun c => ?_)⟩
    · have e : doorsOf "out" hs ≠ [] := fun e => by rw [e] at c; exact absurd c (by simp)
      exact ⟨_, rfl, _, rfl, _, _, rfl, rfl, eD, il, ol, hi, to, hi - to, rfl, hil, hol, P1, P0, ⟨fun _ => rfl, fun z => absurd z e⟩, s1⟩
    · have e : doorsOf "out" hs = [] := by
        cases e : doorsOf "out" hs with
        | nil => rfl
        | cons x l => rw [e] at c; exact absurd c (by simp)
      exact ⟨eD, il, ol, hi, to, 0, rfl, hil, hol, P1, P0, ⟨fun z => absurd e z, fun _ => rfl⟩, s1⟩
  case tail1 =>
    rintro D' σ' H1 ⟨eD, il, ol, hi, rfl, hil, hol, P1, s1⟩
    cases late with
    | none => exact ⟨_, rfl, rfl, _, rfl, if_bl (fun _ => ⟨_, rfl, eD, il, ol, hi, hi, rfl, hil, hol, P1, ⟨(fun l el => nomatch el), fun _ => rfl⟩, s1⟩) (fun z => absurd rfl (of_decide_eq_false z))⟩
    | some l => exact ⟨_, rfl, rfl, _, rfl, if_bl (fun z => absurd (of_decide_eq_true z) (fun y => nomatch y)) (fun _ => ⟨_, rfl, eD, il, ol, hi, _, rfl, hil, hol, P1, ⟨(fun l' el => by cases el; rfl), fun z => nomatch z⟩, s1⟩)⟩
  refine ⟨_, rfl, r, hs, bs, rfl, hR, by omega, ok.good, fun il H1 nil_ hil s1 => ?_⟩
  refine ⟨_, rfl, r, hs, bs, rfl, hR.keep (TK.same s1), by omega, ok.good, fun ol H2 nol hol s2 => ?_⟩
  have s12 := s1.trans s2
  refine ⟨_, rfl, ol, rfl, ⟨_, SqL.of hol⟩, fun D nD => lc_list (K := K) (a := ol) (xs := (doorsOf "out" hs).map nV) (fun i H5 => H5 D = some (.lst ((((doorsOf "out" hs).take i).map lv).map V.int)) ∧ Same H2 H5) ⟨upd_same, same_new nD⟩ (fun i H5 _ ⟨_, s5⟩ => SqL.of (s5 _ _ hol)) ?_ ?_⟩
  · rintro i x H5 hx ⟨hD, s5⟩
    obtain ⟨k, ek, rfl⟩ := nats_at hx
    have kl := door_lt (List.mem_of_getElem? ek)
    have il2 := (List.getElem?_eq_some_iff.mp ek).1
    refine ⟨rfl, yes_in ⟨_, rfl, _, rfl, ll, _, _, _, rfl, rfl, SqL.of (s5 _ _ (s12 _ _ hll)), atI_nat (rg_at kl), _, hD, by rw [List.length_map, List.length_map, List.length_take]; exact small1000 (by omega), ?_, Same.own s5 nD⟩⟩
    rw [upd_same, List.take_add_one, ek, List.map_append, List.map_append]; rfl
  · rintro H5 ⟨hD, s5⟩
    rw [List.length_map, List.take_length] at hD
    refine ⟨D, _, V.int 0, rfl, rfl, SqL.of hD, fun e => ?_, fun m hm hle => ?_⟩
    · have e : doorsOf "out" hs = [] := List.map_eq_nil_iff.mp e
      exact ⟨rfl, il, ol, 0, rfl, s5 _ _ (s2 _ _ hil), s5 _ _ hol, .inl ⟨e, rfl⟩, s12.trans s5⟩
    · obtain ⟨o, ho, eo⟩ := List.mem_map.mp hm
      exact ⟨rfl, il, ol, m, rfl, s5 _ _ (s2 _ _ hil), s5 _ _ hol, .inr ⟨⟨o, ho, eo.symm⟩, fun d hd => hle _ (List.mem_map.mpr ⟨d, hd, rfl⟩)⟩, s12.trans s5⟩
end
/-! ### bars -/
def ndS (T : Int) (ws : List Wy) : Int := (ws.map fun y => ndd y.c.2 T).sum
def jmpN (late : Option Nat) (e o : Nat) : Int := if e = o then 0 else match late with
  | some l => ((l : Nat) : Int)
  | none => 0
theorem jmpN_self {late : Option Nat} {e : Nat} : jmpN late e e = 0 := if_pos rfl
def costW (late : Option Nat) : Nat → List Wy → Int
  | _, [] => 0
  | e, y :: ws => jmpN late e y.one + y.c.1 + costW late y.e ws
def lastE : Nat → List Wy → Nat
  | e, [] => e
  | _, y :: ws => lastE y.e ws
theorem lastE_any : ∀ {ws : List Wy} {e e' : Nat}, ws ≠ [] → lastE e ws = lastE e' ws
  | [], _, _, h => absurd rfl h
  | y :: ws, _, _, _ => rfl
/-- a step from e to o is none, or a jump -/
def Jmp (hs : List HR) (late : Option Nat) (e o : Nat) : Prop := e = o ∨ (late.isSome = true ∧ e ∈ doorsOf "out" hs ∧ o ∈ doorsOf "in" hs)
def okW (hs : List HR) (late : Option Nat) : Nat → List Wy → Prop
  | _, [] => True
  | e, y :: ws => Jmp hs late e y.one ∧ okW hs late y.e ws
structure Bar (hs : List HR) (bs : List BR) (late : Option Nat) (T : Int) (ws : List Wy) : Prop where
  ne : ws ≠ []
  ok : ∀ y ∈ ws, WyOk hs bs y
  go : okW hs late (lastE 0 ws) ws
  hv : costW late (lastE 0 ws) ws < ndS T ws
def waysOf (ys : List Wy) (ks : List Nat) : List Wy := ks.filterMap fun k => ys[k]?
theorem waysOf_some {ys : List Wy} {k : Nat} {ks : List Nat} {y : Wy} (e : ys[k]? = some y) : waysOf ys (k :: ks) = y :: waysOf ys ks := by
  unfold waysOf
  rw [List.filterMap_cons, e]
theorem waysOf_none {ys : List Wy} {k : Nat} {ks : List Nat} (e : ys[k]? = none) : waysOf ys (k :: ks) = waysOf ys ks := by
  unfold waysOf
  rw [List.filterMap_cons, e]
theorem wS_some {st : List St3} {k : Nat} {s : St3} (e : st[k]? = some s) : wS st k = s.w := by
  unfold wS
  rw [e]
theorem door_one' {hs : List HR} {k : Nat} (a : k ∈ doorsOf "in" hs) (b : k ∈ doorsOf "out" hs) : False := by
  obtain ⟨h, e1, e2⟩ := mem_doors.mp a
  obtain ⟨h', e3, e4⟩ := mem_doors.mp b
  rw [e1] at e3
  cases e3
  rw [e2] at e4
  exact absurd e4 (by decide +kernel)
theorem scan {hs : List HR} {ys : List Wy} {late : Option Nat} {T : Int} : ∀ (ks : List Nat) (p q e : Nat), stepEnd (stepsOf hs ys late T) p ks = some q → Jmp hs late e p →
    Jmp hs late (lastE e (waysOf ys ks)) q ∧ okW hs late e (waysOf ys ks) ∧ costW late e (waysOf ys ks) + jmpN late (lastE e (waysOf ys ks)) q + (ks.map (wS (stepsOf hs ys late T))).sum = ndS T (waysOf ys ks) + jmpN late e p
  | [], p, q, e, h, j => by
    cases h
    refine ⟨j, trivial, ?_⟩
    show (0 : Int) + jmpN late e p + 0 = 0 + jmpN late e p
    omega
  | k :: ks, p, q, e, h, j => by
    cases es : (stepsOf hs ys late T)[k]? with
    | none =>
      have : stepEnd (stepsOf hs ys late T) p (k :: ks) = none := by
        show (match (stepsOf hs ys late T)[k]? with | some s => if s.u = p then stepEnd (stepsOf hs ys late T) s.v ks else none | none => none) = none
        rw [es]
      rw [this] at h; cases h
    | some s =>
    rw [stepEnd_cons es] at h
    by_cases z : s.u = p
    · rw [if_pos z] at h
      rw [List.map_cons, List.sum_cons, wS_some es]
      cases ey : ys[k]? with
      | some y =>
        have kl := (List.getElem?_eq_some_iff.mp ey).1
        have e1 : (stepsOf hs ys late T)[k]? = some (wStep T y) := by
          unfold stepsOf
          rw [List.getElem?_append_left (by rw [List.length_map]; exact kl), List.getElem?_map, ey]
          rfl
        rw [e1] at es
        cases es
        have z : y.one = p := z
        obtain ⟨i1, i2, i3⟩ := scan ks y.e q y.e h (.inl rfl)
        rw [waysOf_some ey]
        refine ⟨i1, ⟨by rw [z]; exact j, i2⟩, ?_⟩
        rw [jmpN_self] at i3
        show jmpN late e y.one + y.c.1 + costW late y.e (waysOf ys ks) + jmpN late (lastE y.e (waysOf ys ks)) q + ((ndd y.c.2 T - y.c.1) + (ks.map (wS (stepsOf hs ys late T))).sum) = ((y :: waysOf ys ks).map fun y => ndd y.c.2 T).sum + jmpN late e p
        rw [List.map_cons, List.sum_cons, z]
        have i3' : costW late y.e (waysOf ys ks) + jmpN late (lastE y.e (waysOf ys ks)) q + (ks.map (wS (stepsOf hs ys late T))).sum = ((waysOf ys ks).map fun y => ndd y.c.2 T).sum + 0 := i3
        omega
      | none =>
        have kl : ys.length ≤ k := List.getElem?_eq_none_iff.mp ey
        have e1 : (jumpsOf hs late)[k - ys.length]? = some s := by
          unfold stepsOf at es
          rw [List.getElem?_append_right (by rw [List.length_map]; exact kl), List.length_map] at es
          exact es
        have m := List.mem_of_getElem? e1
        cases late with
        | none => exact nomatch m
        | some l =>
        obtain ⟨d, hd, h2⟩ := List.mem_flatMap.mp m
        obtain ⟨o, ho, rfl⟩ := List.mem_map.mp h2
        have z : d = p := z
        subst z
        have ed : e = d := by
          rcases j with j | ⟨_, _, j⟩
          · exact j
          · exact (door_one' j hd).elim
        subst ed
        have ne : e ≠ o := fun c => door_one' ho (c ▸ hd)
        obtain ⟨i1, i2, i3⟩ := scan ks o q e h (.inr ⟨rfl, hd, ho⟩)
        rw [waysOf_none ey]
        refine ⟨i1, i2, ?_⟩
        have e2 : jmpN (some l) e o = ((l : Nat) : Int) := if_neg ne
        rw [e2] at i3
        rw [jmpN_self]
        show costW (some l) e (waysOf ys ks) + jmpN (some l) (lastE e (waysOf ys ks)) q + (-((l : Nat) : Int) + _) = _
        omega
    · rw [if_neg z] at h; cases h
theorem RingOk.bar {hs : List HR} {bs : List BR} {ys : List Wy} {late : Option Nat} {T : Int} {ks : List Nat} (aw : AllWays hs bs ys) (r : RingOk (stepsOf hs ys late T) ks) : Bar hs bs late T (waysOf ys ks) := by
  obtain ⟨p, hp⟩ := r.cl
  have pos := r.pos
  obtain ⟨a1, a2, a3⟩ := scan ks p p p hp (.inl rfl)
  have ne : waysOf ys ks ≠ [] := fun z => by
    rw [z] at a3
    have a3 : (0 : Int) + jmpN late p p + _ = 0 + jmpN late p p := a3
    rw [jmpN_self] at a3
    omega
  rw [lastE_any ne (e' := 0)] at a1
  obtain ⟨b1, b2, b3⟩ := scan ks p p (lastE 0 (waysOf ys ks)) hp a1
  rw [lastE_any (e := lastE 0 (waysOf ys ks)) (e' := 0) ne] at b3
  refine ⟨ne, fun y hy => ?_, b2, by omega⟩
  obtain ⟨k, _, hk⟩ := List.mem_filterMap.mp hy
  exact aw.ok y (List.mem_of_getElem? hk)
def FAl (hs : List HR) (bs : List BR) (late : Option Nat) (T : Int) (lv : Nat → Int) : Prop := (∀ one e c, one < hs.length → best hs bs one e = some c → lv one + (ndd c.2 T - c.1) ≤ lv e) ∧ ∀ l, late = some l → ∀ d ∈ doorsOf "out" hs, ∀ o ∈ doorsOf "in" hs, lv d - ((l : Nat) : Int) ≤ lv o
theorem feas_lv {hs : List HR} {bs : List BR} {ys : List Wy} {late : Option Nat} {T : Int} {lv : Nat → Int} (aw : AllWays hs bs ys) (f : ∀ s ∈ stepsOf hs ys late T, lv s.u + s.w ≤ lv s.v) : FAl hs bs late T lv := by
  refine ⟨fun one e c h1 h2 => ?_, fun l el d hd o ho => ?_⟩
  · obtain ⟨y, y1, rfl, rfl⟩ := aw.all one e c h1 h2
    have := (aw.ok y y1).b
    rw [h2] at this
    cases this
    exact f (wStep T y) (List.mem_append_left _ (List.mem_map.mpr ⟨y, y1, rfl⟩))
  · subst el
    have := f ⟨d, o, -((l : Nat) : Int)⟩ (List.mem_append_right _ (List.mem_flatMap.mpr ⟨d, hd, List.mem_map.mpr ⟨o, ho, rfl⟩⟩))
    have : lv d + -((l : Nat) : Int) ≤ lv o := this
    omega
/-- shifts that come of levels -/
def Shf (hs : List HR) (bs : List BR) (late : Option Nat) (T : Int) (sh : Nat → Int) : Prop := ∃ lv : Nat → Int, FAl hs bs late T lv ∧ ShOf hs late lv sh ∧ ∀ q, 0 ≤ lv q
theorem Shf.fa {hs : List HR} {bs : List BR} {late : Option Nat} {T : Int} {sh : Nat → Int} (h : Shf hs bs late T sh) : FA hs bs late T := by
  obtain ⟨lv, f, _⟩ := h
  exact ⟨lv, f⟩
theorem ndd_le {m T T' : Int} (h : T ≤ T') : ndd m T' ≤ ndd m T := by
  unfold ndd
  split <;> split <;> omega
theorem FA.mono {hs : List HR} {bs : List BR} {late : Option Nat} {T T' : Int} (h : T ≤ T') (f : FA hs bs late T) : FA hs bs late T' := by
  obtain ⟨lv, f, g⟩ := f
  refine ⟨lv, fun one e c h1 h2 => ?_, g⟩
  have := f one e c h1 h2
  have := ndd_le (m := c.2) h
  omega
theorem best_tr {hs : List HR} {bs : List BR} {rk : Nat → Int} {one e : Nat} {c : Co} (hrk : ∀ b ∈ bs, b.th = [] → rk b.one < rk b.to) (h : best hs bs one e = some c) : 0 ≤ c.1 := by
  obtain ⟨ns, w1, w2⟩ := cfI_snd _ e c h
  have := (way_rank hrk w1).1
  rw [← w2]
  exact this
theorem FA.high {hs : List HR} {bs : List BR} {rk : Nat → Int} {late : Option Nat} {T : Int} (hrk : ∀ b ∈ bs, b.th = [] → rk b.one < rk b.to) (h : ∀ one e c, one < hs.length → best hs bs one e = some c → c.1 = 0 → c.2 ≤ T) : FA hs bs late T := by
  refine ⟨fun _ => 0, fun one e c h1 h2 => ?_, fun l _ d _ o _ => by show (0 : Int) - ((l : Nat) : Int) ≤ 0; omega⟩
  have t := best_tr hrk h2
  have := h one e c h1 h2
  show (0 : Int) + (ndd c.2 T - c.1) ≤ 0
  unfold ndd
  split <;> omega
/-- a way at its place -/
def PrAt (H : Hp) (v : V) (y : Wy) : Prop := ∃ p : Addr, v = .ref p ∧ PairAt H p y.one y.ns
theorem PrAt.keep {H H' : Hp} {v : V} {y : Wy} (h : PrAt H v y) (k : TK H H') : PrAt H' v y := by
  obtain ⟨p, e, h2⟩ := h
  exact ⟨p, e, h2.keep k⟩
theorem waysOf_take {ys : List Wy} {ks : List Nat} {i k : Nat} (e : ks[i]? = some k) : waysOf ys (ks.take (i + 1)) = waysOf ys (ks.take i) ++ (ys[k]?).toList := by
  unfold waysOf
  rw [List.take_add_one, e, List.filterMap_append]
  cases h : ys[k]? <;> simp [h]
theorem waysOf_len {ys : List Wy} {ks : List Nat} : (waysOf ys ks).length ≤ ks.length := List.length_filterMap_le ..
/-- the papers as paper_by tells them -/
def ShP (hs : List HR) (late : Option Nat) (T : Int) (ys : List Wy) (sh : Nat → Int) : Prop := ∃ lv, LvIs (stepsOf hs ys late T) hs.length lv ∧ ShX hs late lv sh
def BrP (hs : List HR) (late : Option Nat) (T : Int) (ys ws : List Wy) : Prop := ∃ ks, RgIs (stepsOf hs ys late T) hs.length ks ∧ ws = waysOf ys ks
theorem ShP.one {hs : List HR} {late : Option Nat} {T : Int} {ys : List Wy} {sh sh' : Nat → Int} (a : ShP hs late T ys sh) (b : ShP hs late T ys sh') : sh = sh' := by
  obtain ⟨lv, l, x⟩ := a
  obtain ⟨lv', l', x'⟩ := b
  obtain rfl := l.one l'
  exact x.one x'
theorem BrP.one {hs : List HR} {late : Option Nat} {T : Int} {ys ws ws' : List Wy} (a : BrP hs late T ys ws) (b : BrP hs late T ys ws') : ws = ws' := by
  obtain ⟨ks, l, rfl⟩ := a
  obtain ⟨ks', l', rfl⟩ := b
  rw [l.one l']
section
variable {P : Program} {w : World} {K : PySem.W.Frag} {mg : Str → Option Value} {base : Heap}
def sp_paper_by (K : PySem.W.Frag) : Sp := fun vs H Q _ => ∃ (r wl : Addr) (hs : List HR) (bs : List BR) (late : Option Nat) (T : Int) (yv : List V) (ys : List Wy), vs = [.ref r, lateV late, .int T, .ref wl] ∧ RoomAt H r hs bs ∧ RoomOk hs bs ∧ H wl = some (.lst yv) ∧ All2 (WyAt H) yv ys ∧ AllWays hs bs ys ∧
  (∀ (p p' : Addr) (sh : Nat → Int) (H' : Hp), H' p = some (.tup [.str "shifts", .ref p']) → H' p' = some (.tup (levL hs.length sh)) → Shf hs bs late T sh → ShP hs late T ys sh → Same H H' → Q (.ref p) H') ∧ ∀ (p p' : Addr) (pv : List V) (ws : List Wy) (H' : Hp), H' p = some (.tup [.str "bar", .ref p']) → H' p' = some (.tup pv) → All2 (PrAt H') pv ws → ws.length ≤ hs.length → Bar hs bs late T ws → ¬ FA hs bs late T → BrP hs late T ys ws → Same H H' → Q (.ref p) H'
theorem ok_paper_by {f : Addr} {fd : FuncData} (F : Fun K "paper_by" "paper_by" s_paper_by f fd) (T : Top K mg) : FnOk P w K mg base CX0 3 f fd ["room", "late", "time", "ways"] (sp_paper_by K) := by
  obtain ⟨f_levels_or_ring, fd_levels_or_ring, F_levels_or_ring, b_levels_or_ring, m_levels_or_ring⟩ := T.d_levels_or_ring
  have G_levels_or_ring := ok_levels_or_ring (P := P) (w := w) (base := base) F_levels_or_ring T
  obtain ⟨f_jumps, fd_jumps, F_jumps, b_jumps, m_jumps⟩ := T.d_jumps
  have G_jumps := ok_jumps (P := P) (w := w) (base := base) F_jumps T
  obtain ⟨f_shifts_by, fd_shifts_by, F_shifts_by, b_shifts_by, m_shifts_by⟩ := T.d_shifts_by
  have G_shifts_by := ok_shifts_by (P := P) (w := w) (base := base) F_shifts_by T
  obtain ⟨f_needed, fd_needed, F_needed, b_needed, m_needed⟩ := T.d_needed
  have G_needed := ok_needed (P := P) (w := w) (base := base) F_needed T
  refine F.ok sc_paper_by (fun vs H Q E h => ?_) (fun cdv A outer s H vs Q E hr h => ?_)
  · obtain ⟨r, wl, hs, bs, late, T', yv, ys, rfl, _⟩ := h
    rfl
  obtain ⟨r, wl, hs, bs, late, T', yv, ys, rfl, hR, ok, hwl, aly, aw, q1, q2⟩ := h
  obtain ⟨ha, ba, hv, bv, er, eh, eb, alh, alb⟩ := hR.ex
  have lhv := alh.length
  have lh := ok.hands
  have lys := aly.length
  have few := aw.few
  have hto : ∀ b ∈ bs, b.to < hs.length := fun b hb => (ok.ends b hb).2
  let R1 : TS := fun D' σ' H' => D'.rt = Q ∧ σ' = [some (.ref r), some (lateV late), some (.int T'), some (.ref wl), none, none, none, none, none, none, none, none] ∧ H' = H
  refine ⟨_, (PSs.to (pss_cons (ps_setLc (i := 4) (own := [("trays", 5), ("moments", 6), ("way", 7), ("end", 8)]) (g := gTup K 4 (gCons (gName 5) (gCons (gName 6) (gCons (gName 7) (gCons (gName 8) gNil))))) (tt := tYes) (by rfl) sc_paper_by.nd rfl rfl (sw_true rfl rfl rfl (by decide +kernel)) (pi_listK K rfl (pv 3)) (blkOk_by (own := [("trays", 5), ("moments", 6), ("way", 7), ("end", 8)]) (N := N_paper_by) (sc := defScope s_paper_by) (by decide +kernel)) (fun _ _ _ _ _ => (pg_tupK K rfl rfl (pgs_cons (pg_name (i := 5) sc_paper_by.nd rfl (Or.inl rfl)) (pgs_cons (pg_name (i := 6) sc_paper_by.nd rfl (Or.inl rfl)) (pgs_cons (pg_name (i := 7) sc_paper_by.nd rfl (Or.inl rfl)) (pgs_cons (pg_name (i := 8) sc_paper_by.nd rfl (Or.inl rfl)) pgs_nil)))))) (fun _ _ _ _ _ => pts_nil) (fun _ _ _ _ _ => (pe_tup (pa_cons (pe_ix (ix_tupK K rfl) (pv 7) pe_int (fun _ _ => rfl)) (pa_cons (pv 8) (pa_cons (pe_op op_sub (pe_call G_needed (hr.mono (by decide)) (by rfl) m_needed F_needed.kp b_needed .nil pass0 (pa_cons (pv 6) (pa_cons (pv 2) pa_nil))) (pv 5)) pa_nil))))))
      (pss_cons (ps_expr (pe_bmK K rfl PySem.F.plainAttrs_list PySem.F.slot_list_extend PySem.F.type_list_extend mt_extend (pv 4) (pa_cons (pe_call G_jumps (hr.mono (by decide)) (by rfl) m_jumps F_jumps.kp b_jumps .nil pass0 (pa_cons (pv 0) (pa_cons (pv 1) pa_nil))) pa_nil)))
      (pss_cons (ps_asg (pe_call G_levels_or_ring (hr.mono (by decide)) (by rfl) m_levels_or_ring F_levels_or_ring.kp b_levels_or_ring .nil pass0 (pa_cons (pe_callB (call_len_seqK K rfl) (by rfl) T.m_len (by decide +kernel) (pa_cons (pe_ix (ix_tupK K rfl) (pv 0) pe_int (fun _ _ => rfl)) pa_nil)) (pa_cons (pv 4) pa_nil))) (pg_tupK K rfl rfl (pgs_cons (pg_name (i := 9) sc_paper_by.nd rfl (Or.inl rfl)) (pgs_cons (pg_name (i := 10) sc_paper_by.nd rfl (Or.inl rfl)) pgs_nil))))
      (pss_cons (ps_if (pt_cmpR op_isN (pv 10) pe_non (nomark _)) (pss_one (ps_ret (pe_tup (pa_cons pe_str (pa_cons (pe_call G_shifts_by (hr.mono (by decide)) (by rfl) m_shifts_by F_shifts_by.kp b_shifts_by .nil pass0 (pa_cons (pv 0) (pa_cons (pv 1) (pa_cons (pv 9) pa_nil)))) pa_nil))))) pss_nil)
      (pss_one (ps_ret (pe_tup (pa_cons pe_str (pa_cons (pe_callTy (call_tuple_ofK K rfl) (by rfl) T.m_tuple (by decide +kernel) (pa_cons (pe_lc (own := [("number", 11)]) (g := gName 11) (by rfl) sc_paper_by.nd (pi_listK K rfl (pv 10)) (blkOk_by (own := [("number", 11)]) (N := N_paper_by) (sc := defScope s_paper_by) (by decide +kernel)) (fun _ _ _ _ _ => (pg_name (i := 11) sc_paper_by.nd rfl (Or.inl rfl))) (fun _ _ _ _ _ => pts_one (pt_cmpR op_lt (pv 11) (pe_callB (call_len_seqK K rfl) (by rfl) T.m_len (by decide +kernel) (pa_cons (pv 3) pa_nil)) (nomark _))) (fun _ _ _ _ _ => (pe_ix (ix_tupK K rfl) (pe_ix (ix_listK K rfl) (pv 3) (pv 11) (fun _ _ => rfl)) pe_int (fun _ _ => rfl)))) pa_nil)) pa_nil))))))))) R1 ?tail1), ⟨rfl, rfl, rfl⟩⟩
  rintro D' σ' H0 ⟨eD, rfl, rfl⟩
  refine ⟨_, rfl, wl, rfl, ⟨_, SqL.of hwl⟩, fun D nD => lc_list (K := K) (a := wl) (xs := yv) (fun i H5 => ∃ sv : List V, H5 D = some (.lst sv) ∧ All2 (StepAt H5) sv ((ys.take i).map (wStep T')) ∧ Same H0 H5) ⟨[], upd_same, .nil, same_new nD⟩ (fun i H5 _ ⟨_, _, _, s5⟩ => SqL.of (s5 _ _ hwl)) ?_ ?_⟩
  · rintro i x H5 hx ⟨sv, hD, al, s5⟩
    obtain ⟨y, ey, ⟨t, p, rfl, ht, ⟨g, ep, eg⟩⟩⟩ := aly.getL hx
    have il := (List.getElem?_eq_some_iff.mp ey).1
    refine ⟨t, _, rfl, SqT.of (s5 _ _ ht), rfl, ?_⟩
    refine ⟨_, _, rfl, ?_⟩
    refine ⟨_, _, rfl, ?_⟩
    refine ⟨_, _, rfl, ?_⟩
    refine ⟨_, _, rfl, rfl, ?_⟩
    refine ⟨rfl, ?_⟩
    refine yes_in ?_
    refine ⟨_, rfl, p, _, _, _, rfl, rfl, SqT.of (s5 _ _ ep), atI_nat (j := 0) rfl, _, rfl, _, rfl, _, rfl, y.c.2, T', rfl, _, rfl, _, _, rfl, rfl, (by show 3 ≤ sizeLine; decide), fun t3 nt3 => ?_⟩
    have hD6 := same_new (o := .tup [nV y.one, nV y.e, V.int (ndd y.c.2 T' - y.c.1)]) nt3 _ _ hD
    refine ⟨sv, hD6, ?_, sv ++ [V.ref t3], upd_same, ?_, Same.own (s5.trans (same_new nt3)) nD⟩
    · have := al.length
      rw [List.length_map, List.length_take] at this
      exact small1000 (by omega)
    · rw [show (ys.take (i + 1)).map (wStep T') = (ys.take i).map (wStep T') ++ [wStep T' y] by rw [List.take_add_one, ey, List.map_append]; rfl]
      exact ((al.imp fun _ _ z => z.keep (TK.new nt3)).snoc ⟨t3, rfl, upd_same⟩).imp fun _ _ z => z.keep (TK.lst hD6)
  rintro H1 ⟨sv, hD, al, s1⟩
  rw [lys, List.take_length] at al
  have lsv := al.length
  rw [List.length_map] at lsv
  refine ⟨_, rfl, .inl ⟨rfl, _, SqL.of hD⟩, _, rfl, _, rfl, r, hs, bs, late, rfl, hR.keep (TK.same s1), ok, fun jl sv2 H2 hjl al2 s2 => ?_⟩
  have jn := jumps_len (late := late) lh
  have lsv2 := al2.length
  have hD2 := s2 _ _ hD
  refine ⟨D, jl, sv, sv2, rfl, rfl, hD2, hjl, little (by omega), ?_⟩
  have s3 : Same H0 (upd H2 D (.lst (sv ++ sv2))) := Same.own (s1.trans s2) nD
  have k3 : TK H2 (upd H2 D (.lst (sv ++ sv2))) := TK.lst hD2
  have All2.app : ∀ {R : V → St3 → Prop} {as cs : List V} {bs ds : List St3}, All2 R as bs → All2 R cs ds → All2 R (as ++ cs) (bs ++ ds) := fun {R as cs bs ds} a b => by
    induction a with
    | nil => exact b
    | cons h t ih => exact .cons h ih
  have st3 : StepsAt (upd H2 D (.lst (sv ++ sv2))) D (stepsOf hs ys late T') := ⟨_, upd_same, All2.app (al.imp fun _ _ z => z.keep ((TK.same s2).trans k3)) (al2.imp fun _ _ z => z.keep k3)⟩
  have bd : ∀ s ∈ stepsOf hs ys late T', s.u < hv.length ∧ s.v < hv.length := fun s hs' => by
    rw [lhv]
    rcases List.mem_append.mp hs' with h | h
    · obtain ⟨y, y1, rfl⟩ := List.mem_map.mp h
      have o := aw.ok y y1
      exact ⟨o.lt, best_lt hto o.lt o.b⟩
    · exact jumps_bd s h
  have ls : (stepsOf hs ys late T').length ≤ 400 := by
    unfold stepsOf
    rw [List.length_append, List.length_map]
    omega
  refine ⟨_, rfl, r, _, _, _, rfl, rfl, SqT.of (s3 _ _ er), atI_nat (j := 0) rfl, ha, _, rfl, .inr (SqT.of (s3 _ _ eh)), _, rfl, D, hv.length, stepsOf hs ys late T', rfl, st3, bd, ls, by omega, fun p ll lv H4 hp hll fe nn lvi s4 => ?_, fun p rl ks H4 hp hrl ring lk rgi s4 => ?_⟩
  · refine ⟨p, _, rfl, SqT.of hp, rfl, _, _, rfl, _, _, rfl, rfl, ?_⟩
    refine ⟨_, rfl, rfl, _, rfl, if_bl (fun _ => ?_) (fun z => absurd rfl (of_decide_eq_false z))⟩
    have s04 := s3.trans s4
    rw [lhv] at hll
    refine ⟨_, rfl, _, rfl, _, rfl, r, ll, hs, bs, late, lv, rfl, hR.keep (TK.same s04), ok, hll, fun p3 sh H5 hp3 so s5 => ⟨(by show 2 ≤ sizeLine; decide), fun p4 np4 => ?_⟩⟩
    rw [eD]; exact q1 p4 p3 sh _ upd_same (same_new np4 _ _ hp3) ⟨lv, feas_lv aw fe, so.of, nn⟩ ⟨lv, by rw [← lhv]; exact lvi, so⟩ ((s04.trans s5).trans (same_new np4))
  · refine ⟨p, _, rfl, SqT.of hp, rfl, _, _, rfl, _, _, rfl, rfl, ?_⟩
    refine ⟨_, rfl, rfl, _, rfl, if_bl (fun z => absurd (of_decide_eq_true z) (fun y => nomatch y)) (fun _ => ?_)⟩
    have s04 := s3.trans s4
    refine ⟨_, rfl, rl, rfl, ⟨_, SqL.of hrl⟩, fun D2 nD2 => lc_list (K := K) (a := rl) (xs := ks.map nV) (fun i H5 => ∃ bv : List V, H5 D2 = some (.lst bv) ∧ All2 (PrAt H5) bv (waysOf ys (ks.take i)) ∧ Same H4 H5) ⟨[], upd_same, .nil, same_new nD2⟩ (fun i H5 _ ⟨_, _, _, s5⟩ => SqL.of (s5 _ _ hrl)) ?_ ?_⟩
    · rintro i x H5 hx ⟨bv', hD2, lb, s5⟩
      obtain ⟨k, ek, rfl⟩ := nats_at hx
      have il := (List.getElem?_eq_some_iff.mp ek).1
      have s05 := s04.trans s5
      have hwl5 := s05 _ _ hwl
      have lbv := lb.length
      have lw := waysOf_len (ys := ys) (ks := ks.take i)
      rw [List.length_take] at lw
      refine ⟨rfl, _, rfl, _, rfl, wl, _, rfl, .inl (SqL.of hwl5), _, _, rfl, rfl, _, rfl, if_bl (fun c => ?_) (fun c => ⟨bv', hD2, ?_, s5⟩)⟩
      · have c : ((k : Nat) : Int) < ((yv.length : Nat) : Int) := of_decide_eq_true c
        have ekv : yv[k]? = some yv[k] := List.getElem?_eq_getElem (by omega)
        obtain ⟨y, ey, ⟨t, p', e1, ht, hP⟩⟩ := aly.getL ekv
        rw [e1] at ekv
        refine ⟨_, rfl, _, rfl, wl, _, _, _, rfl, rfl, SqL.of hwl5, atI_nat ekv, t, _, _, _, rfl, rfl, SqT.of (s05 _ _ ht), atI_nat (j := 2) rfl, bv', hD2, small1000 (by omega), bv' ++ [V.ref p'], upd_same, ?_, Same.own s5 nD2⟩
        rw [waysOf_take ek, ey]
        exact (lb.snoc ⟨p', rfl, hP.keep (TK.same s05)⟩).imp fun _ _ z => z.keep (TK.lst hD2)
      · have c : ¬ ((k : Nat) : Int) < ((yv.length : Nat) : Int) := of_decide_eq_false c
        have : ys[k]? = none := List.getElem?_eq_none_iff.mpr (by omega)
        rw [waysOf_take ek, this]
        show All2 (PrAt H5) bv' (waysOf ys (ks.take i) ++ [])
        rw [List.append_nil]
        exact lb
    · rintro H5 ⟨bv', hD2, lb, s5⟩
      rw [List.length_map, List.take_length] at lb
      refine ⟨D2, _, rfl, .inl ⟨SqL.of hD2, fun p3 np3 => ⟨(by show 2 ≤ sizeLine; decide), fun p4 np4 => ?_⟩⟩⟩
      have lw := waysOf_len (ys := ys) (ks := ks)
      rw [eD]; exact q2 p4 p3 _ (waysOf ys ks) _ upd_same (same_new np4 _ _ upd_same) (lb.imp fun _ _ z => z.keep ((TK.new np3).trans (TK.new np4))) (by omega) (ring.bar aw) (fun f => ring.not_feas ((feas_iff aw).mpr f)) ⟨ks, by rw [← lhv]; exact rgi, rfl⟩ (((s04.trans s5).trans (same_new np3)).trans (same_new np4))
end
/-! ### ways and levels -/
theorem best_way {hs : List HR} {bs : List BR} (ok : RoomOk hs bs) {one e : Nat} {ns : List Nat} (ho : one < hs.length) (h : wayEnd bs one ns = some e) : ∃ c, best hs bs one e = some c ∧ coLe c (wayCo hs bs one ns) := by
  obtain ⟨rk, hrk⟩ := ok.rank
  obtain ⟨ms, l, h1, h2⟩ := way_short (hs := hs) hrk (fun b hb => (ok.ends b hb).2) ho ns.length ns e (Nat.le_refl _) h
  obtain ⟨c, h3, h4⟩ := cfI_cpl (hs := hs) (bs := bs) (one := one) hs.length ms e l h1
  exact ⟨c, h3, h4.trans h2⟩
def Wl (hs : List HR) (bs : List BR) (T : Int) (lv : Nat → Int) : Prop := ∀ one ns e, one < hs.length → wayEnd bs one ns = some e → lv one + (ndd (wayCo hs bs one ns).2 T - (wayCo hs bs one ns).1) ≤ lv e
def Dl (hs : List HR) (late : Option Nat) (lv : Nat → Int) : Prop := ∀ l, late = some l → ∀ d ∈ doorsOf "out" hs, ∀ o ∈ doorsOf "in" hs, lv d - ((l : Nat) : Int) ≤ lv o
theorem fal_iff {hs : List HR} {bs : List BR} {late : Option Nat} {T : Int} {lv : Nat → Int} (ok : RoomOk hs bs) : FAl hs bs late T lv ↔ Wl hs bs T lv ∧ Dl hs late lv := by
  constructor
  · rintro ⟨f, g⟩
    refine ⟨fun one ns e ho h => ?_, g⟩
    obtain ⟨c, h1, h2⟩ := best_way ok ho h
    have := f one e c ho h1
    unfold ndd at *
    unfold coLe at h2
    split at this <;> split <;> omega
  · rintro ⟨f, g⟩
    refine ⟨fun one e c ho h => ?_, g⟩
    obtain ⟨ns, w1, w2⟩ := cfI_snd _ e c h
    have := f one ns e ho w1
    rw [w2] at this
    exact this
theorem wayEnd_none {bs : List BR} {n k : Nat} {ns : List Nat} (e : bs[n]? = none) : wayEnd bs k (n :: ns) = none := by
  show (match bs[n]? with | some b => if b.one = k then wayEnd bs b.to ns else none | none => none) = none
  rw [e]
theorem to_in {hs : List HR} {bs : List BR} (ok : RoomOk hs bs) {b : BR} (hb : b ∈ bs) : b.to ∉ doorsOf "in" hs := fun z => by
  obtain ⟨h, e1, e2⟩ := mem_doors.mp z
  have c := ok.count b.to h e1
  have p := List.count_pos_iff.mpr (List.mem_map.mpr ⟨b, hb, rfl⟩ : b.to ∈ bs.map BR.to)
  rw [e2, show needs "in" = 0 by decide +kernel] at c
  omega
theorem one_out {hs : List HR} {bs : List BR} (ok : RoomOk hs bs) {b : BR} (hb : b ∈ bs) : b.one ∉ doorsOf "out" hs := fun z => by
  obtain ⟨h, e1, e2⟩ := mem_doors.mp z
  exact ok.out b hb h e1 e2
/-- shifts that reach a time by a lateness, or any -/
structure Rch (hs : List HR) (bs : List BR) (late : Option Nat) (T : Int) (sh : Nat → Int) : Prop where
  ins : ∀ k ∈ doorsOf "in" hs, sh k = 0
  outs : ∃ to : Int, (∀ k ∈ doorsOf "out" hs, sh k = to) ∧ (∀ l : Nat, late = some l → to = ((l : Nat) : Int)) ∧ (late = none → doorsOf "out" hs ≠ [] → 0 ≤ to)
  ways : Wl hs bs T sh
theorem Shf.rch {hs : List HR} {bs : List BR} {late : Option Nat} {T : Int} {sh : Nat → Int} (ok : RoomOk hs bs) (s : Shf hs bs late T sh) : Rch hs bs late T sh := by
  obtain ⟨lv, f, ⟨gr, to, g1, g2, g3, g4, g5⟩, nn⟩ := s
  have f := (fal_iff ok).mp f
  -- out doors lie no lower than their levels
  have low : ∀ d ∈ doorsOf "out" hs, lv d - gr ≤ to := fun d hd => by
    cases late with
    | some l =>
      obtain ⟨e, z⟩ := g4 l rfl
      rcases z with ⟨o, ho, eo⟩ | ⟨_, g6⟩
      · have := f.2 l rfl d hd o ho; omega
      · have := g6 d hd; omega
    | none =>
      obtain ⟨e, z⟩ := g5 rfl
      have := e d hd
      rcases z with ⟨o, ho, eo⟩ | z
      · have := nn o; omega
      · omega
  refine ⟨fun k hk => (g1 k hk).1, ⟨to, g2, fun l el => (g4 l el).1, fun ln ne => ?_⟩, fun one ns e ho h => ?_⟩
  · obtain ⟨d, hd⟩ := List.exists_mem_of_ne_nil _ ne
    have := (g5 ln).1 d hd
    have := nn d
    omega
  have st := f.1 one ns e ho h
  rcases ns with _ | ⟨n, ns⟩
  · cases h
    omega
  · have no1 : one ∉ doorsOf "out" hs := by
      cases eb : bs[n]? with
      | none =>
        rw [wayEnd_none eb] at h; cases h
      | some b =>
        rw [wayEnd_cons eb] at h
        by_cases z : b.one = one
        · rw [← z]; exact one_out ok (List.mem_of_getElem? eb)
        · rw [if_neg z] at h; cases h
    have no2 : e ∉ doorsOf "in" hs := by
      rcases List.eq_nil_or_concat (n :: ns) with z | ⟨ms, n', z⟩
      · cases z
      · rw [z, List.concat_eq_append] at h
        obtain ⟨b, eb, _, h2⟩ := wayEnd_unsnoc h
        rw [← h2]; exact to_in ok (List.mem_of_getElem? eb)
    have a1 : sh one ≤ lv one - gr := by
      by_cases z : one ∈ doorsOf "in" hs
      · have := g1 one z; omega
      · rw [g3 one z no1]; omega
    have a2 : lv e - gr ≤ sh e := by
      by_cases z : e ∈ doorsOf "out" hs
      · rw [g2 e z]; exact low e z
      · rw [g3 e no2 z]; omega
    omega
def trS (sh : Nat → Int) (b : BR) : Int := (b.th.length : Int) + sh b.to - sh b.one
theorem Rch.trays {hs : List HR} {bs : List BR} {l : Option Nat} {T : Int} {sh : Nat → Int} (ok : RoomOk hs bs) (r : Rch hs bs l T sh) {b : BR} (hb : b ∈ bs) : 0 ≤ trS sh b := by
  obtain ⟨n, hn⟩ := List.getElem?_of_mem hb
  have := r.ways b.one [n] b.to (ok.ends b hb).1 (by rw [wayEnd_cons hn, if_pos rfl]; rfl)
  have e : (wayCo hs bs b.one [n]).1 = (b.th.length : Int) := by
    show ([n].map (trB bs)).sum = _
    have h1 : trB bs n = (b.th.length : Int) := by unfold trB; rw [hn]
    simp [h1]
  rw [e] at this
  unfold trS
  unfold ndd at this
  split at this <;> omega
/-- what a hand may come to: moments of a way whose trays are gone -/
def Vl (hs : List HR) (bs : List BR) (sh : Nat → Int) (k : Nat) (x : Int) : Prop := ∃ one ns, one < hs.length ∧ wayEnd bs one ns = some k ∧ (wayCo hs bs one ns).1 + sh k - sh one = 0 ∧ (wayCo hs bs one ns).2 = x
theorem Vl.nil {hs : List HR} {bs : List BR} {sh : Nat → Int} {k : Nat} (h : k < hs.length) : Vl hs bs sh k (momH hs k) := by
  refine ⟨k, [], h, rfl, ?_, ?_⟩ <;> rw [wayCo_nil]
  show (0 : Int) + sh k - sh k = 0
  omega
theorem Vl.go {hs : List HR} {bs : List BR} {sh : Nat → Int} {b : BR} {x : Int} (hb : b ∈ bs) (z : trS sh b = 0) (v : Vl hs bs sh b.one x) : Vl hs bs sh b.to (x + momH hs b.to) := by
  obtain ⟨n, hn⟩ := List.getElem?_of_mem hb
  obtain ⟨one, ns, h1, h2, h3, h4⟩ := v
  refine ⟨one, ns ++ [n], h1, wayEnd_snoc h2 hn rfl, ?_, ?_⟩ <;> rw [wayCo_snoc hn]
  · show (wayCo hs bs one ns).1 + (b.th.length : Int) + sh b.to - sh one = 0
    unfold trS at z
    omega
  · show (wayCo hs bs one ns).2 + momH hs b.to = _
    rw [h4]
theorem Rch.vl {hs : List HR} {bs : List BR} {l : Option Nat} {T : Int} {sh : Nat → Int} (r : Rch hs bs l T sh) {k : Nat} {x : Int} (v : Vl hs bs sh k x) : x ≤ T := by
  obtain ⟨one, ns, h1, h2, h3, h4⟩ := v
  have := r.ways one ns k h1 h2
  rw [h4] at this
  unfold ndd at this
  split at this <;> omega
/-- shifts and bars as they are told, by the ways as they are told -/
def ShT (hs : List HR) (bs : List BR) (late : Option Nat) (T : Int) (sh : Nat → Int) : Prop := ∃ ys, YsIs hs bs ys ∧ ShP hs late T ys sh
def BrT (hs : List HR) (bs : List BR) (late : Option Nat) (T : Int) (ws : List Wy) : Prop := ∃ ys, YsIs hs bs ys ∧ BrP hs late T ys ws
theorem ShT.one {hs : List HR} {bs : List BR} {late : Option Nat} {T : Int} {sh sh' : Nat → Int} (a : ShT hs bs late T sh) (b : ShT hs bs late T sh') : sh = sh' := by
  obtain ⟨ys, y, p⟩ := a
  obtain ⟨ys', y', p'⟩ := b
  obtain rfl := YsIs.one y y'
  exact p.one p'
theorem BrT.one {hs : List HR} {bs : List BR} {late : Option Nat} {T : Int} {ws ws' : List Wy} (a : BrT hs bs late T ws) (b : BrT hs bs late T ws') : ws = ws' := by
  obtain ⟨ys, y, p⟩ := a
  obtain ⟨ys', y', p'⟩ := b
  obtain rfl := YsIs.one y y'
  exact p.one p'
section
variable {P : Program} {w : World} {K : PySem.W.Frag} {mg : Str → Option Value} {base : Heap}
/-- what is told: shifts, or a bar -/
def Tld (hs : List HR) (bs : List BR) (late : Option Nat) (T : Int) (H : Hp) (p : Addr) : Prop :=
  (∃ (p' : Addr) (sh : Nat → Int), H p = some (.tup [.str "shifts", .ref p']) ∧ H p' = some (.tup (levL hs.length sh)) ∧ Shf hs bs late T sh ∧ ShT hs bs late T sh) ∨
  ∃ (p' : Addr) (pv : List V) (ws : List Wy), H p = some (.tup [.str "bar", .ref p']) ∧ H p' = some (.tup pv) ∧ All2 (PrAt H) pv ws ∧ ws.length ≤ hs.length ∧ Bar hs bs late T ws ∧ ¬ FA hs bs late T ∧ BrT hs bs late T ws
theorem Tld.keep {hs : List HR} {bs : List BR} {late : Option Nat} {T : Int} {H H' : Hp} {p : Addr} (h : Tld hs bs late T H p) (k : TK H H') : Tld hs bs late T H' p := by
  rcases h with ⟨p', sh, h1, h2, h3⟩ | ⟨p', pv, ws, h1, h2, h3, h4⟩
  · exact .inl ⟨p', sh, k _ _ h1, k _ _ h2, h3⟩
  · exact .inr ⟨p', pv, ws, k _ _ h1, k _ _ h2, h3.imp fun _ _ z => z.keep k, h4⟩
def sp_shifts_or_bar (K : PySem.W.Frag) : Sp := fun vs H Q _ => ∃ (r : Addr) (hs : List HR) (bs : List BR) (late : Option Nat) (T : Int), vs = [.ref r, lateV late, .int T] ∧ RoomAt H r hs bs ∧ RoomOk hs bs ∧
  ∀ (p : Addr) (H' : Hp), Tld hs bs late T H' p → Same H H' → Q (.ref p) H'
theorem ok_shifts_or_bar {f : Addr} {fd : FuncData} (F : Fun K "shifts_or_bar" "shifts_or_bar" s_shifts_or_bar f fd) (T : Top K mg) : FnOk P w K mg base CX0 4 f fd ["room", "late", "time"] (sp_shifts_or_bar K) := by
  obtain ⟨f_paper_by, fd_paper_by, F_paper_by, b_paper_by, m_paper_by⟩ := T.d_paper_by
  have G_paper_by := ok_paper_by (P := P) (w := w) (base := base) F_paper_by T
  obtain ⟨f_least_ways, fd_least_ways, F_least_ways, b_least_ways, m_least_ways⟩ := T.d_least_ways
  have G_least_ways := ok_least_ways (P := P) (w := w) (base := base) F_least_ways T
  refine F.ok sc_shifts_or_bar (fun vs H Q E h => ?_) (fun cdv A outer s H vs Q E hr h => ?_)
  · obtain ⟨r, hs, bs, late, T', rfl, _⟩ := h
    rfl
  obtain ⟨r, hs, bs, late, T', rfl, hR, ok, q⟩ := h
  refine ⟨_, (pss_one (ps_ret (pe_call G_paper_by (hr.mono (by decide)) (by rfl) m_paper_by F_paper_by.kp b_paper_by .nil pass0 (pa_cons (pv 0) (pa_cons (pv 1) (pa_cons (pv 2) (pa_cons (pe_call G_least_ways (hr.mono (by decide)) (by rfl) m_least_ways F_least_ways.kp b_least_ways .nil pass0 (pa_cons (pv 0) pa_nil)) pa_nil))))))), ?_⟩
  refine ⟨_, rfl, _, rfl, _, rfl, _, rfl, r, hs, bs, rfl, hR, ok, fun wl yv ys H1 nwl hwl aly aw yis s1 => ?_⟩
  refine ⟨r, wl, hs, bs, late, T', yv, ys, rfl, hR.keep (TK.same s1), ok, hwl, aly, aw, fun p p' sh H2 h1 h2 h3 sp s2 => ?_, fun p p' pv ws H2 h1 h2 h3 h4 h5 h6 bp s2 => ?_⟩
  · exact q p H2 (.inl ⟨p', sh, h1, h2, h3, ys, yis, sp⟩) (s1.trans s2)
  · exact q p H2 (.inr ⟨p', pv, ws, h1, h2, h3, h4, h5, h6, ys, yis, bp⟩) (s1.trans s2)
end
section
variable {P : Program} {w : World} {K : PySem.W.Frag} {mg : Str → Option Value} {base : Heap}
/-- the least time -/
structure Least (hs : List HR) (bs : List BR) (late : Option Nat) (T : Int) : Prop where
  fa : FA hs bs late T
  nn : 0 ≤ T
  no : ∀ T', 0 ≤ T' → T' < T → ¬ FA hs bs late T'
/-- the paper beside: none at 0, else a bar of one moment less -/
def BarV (hs : List HR) (bs : List BR) (late : Option Nat) (T : Int) (H : Hp) (y : V) : Prop := (T = 0 ∧ y = .non) ∨ (0 < T ∧ ∃ (p' : Addr) (qv : List V) (ws : List Wy), y = .ref p' ∧ H p' = some (.tup qv) ∧ All2 (PrAt H) qv ws ∧ ws.length ≤ hs.length ∧ Bar hs bs late (T - 1) ws ∧ BrT hs bs late (T - 1) ws)
theorem BarV.keep {hs : List HR} {bs : List BR} {late : Option Nat} {T : Int} {H H' : Hp} {y : V} (h : BarV hs bs late T H y) (k : TK H H') : BarV hs bs late T H' y := by
  rcases h with h | ⟨h0, p', qv, ws, h1, h2, h3, h4⟩
  · exact .inl h
  · exact .inr ⟨h0, p', qv, ws, h1, k _ _ h2, h3.imp fun _ _ z => z.keep k, h4⟩
def sp_least_time (K : PySem.W.Frag) : Sp := fun vs H Q _ => ∃ (r : Addr) (hs : List HR) (bs : List BR) (late : Option Nat), vs = [.ref r, lateV late] ∧ RoomAt H r hs bs ∧ RoomOk hs bs ∧
  ∀ (p p' : Addr) (T : Int) (sh : Nat → Int) (y : V) (H' : Hp), H' p = some (.tup [.int T, .ref p', y]) → H' p' = some (.tup (levL hs.length sh)) → Shf hs bs late T sh → ShT hs bs late T sh → Least hs bs late T → BarV hs bs late T H' y → Same H H' → Q (.ref p) H'
theorem ok_least_time {f : Addr} {fd : FuncData} (F : Fun K "least_time" "least_time" s_least_time f fd) (T : Top K mg) : FnOk P w K mg base CX0 4 f fd ["room", "late"] (sp_least_time K) := by
  obtain ⟨f_least_ways, fd_least_ways, F_least_ways, b_least_ways, m_least_ways⟩ := T.d_least_ways
  have G_least_ways := ok_least_ways (P := P) (w := w) (base := base) F_least_ways T
  obtain ⟨f_paper_by, fd_paper_by, F_paper_by, b_paper_by, m_paper_by⟩ := T.d_paper_by
  have G_paper_by := ok_paper_by (P := P) (w := w) (base := base) F_paper_by T
  refine F.ok sc_least_time (fun vs H Q E h => ?_) (fun cdv A outer s H vs Q E hr h => ?_)
  · obtain ⟨r, hs, bs, late, rfl, _⟩ := h
    rfl
  obtain ⟨r, hs, bs, late, rfl, hR, ok, q⟩ := h
  obtain ⟨rk, hrk⟩ := ok.rank
  let R2 : TS := fun D' σ' H' => D'.rt = Q ∧ ∃ (wl : Addr) (yv : List V) (ys : List Wy) (hi : Int), σ' = [some (.ref r), some (lateV late), some (.ref wl), some (.int 0), some (.int hi), none, none, none, none, none, none, none, none, none] ∧ H' wl = some (.lst yv) ∧ All2 (WyAt H') yv ys ∧ (AllWays hs bs ys ∧ YsIs hs bs ys) ∧ 0 ≤ hi ∧ FA hs bs late hi ∧ Same H H'
  let R1 : TS := fun D' σ' H' => D'.rt = Q ∧ ∃ (wl : Addr) (yv : List V) (ys : List Wy), σ' = [some (.ref r), some (lateV late), some (.ref wl), some (.int 0), none, none, none, none, none, none, none, none, none, none] ∧ H' wl = some (.lst yv) ∧ All2 (WyAt H') yv ys ∧ (AllWays hs bs ys ∧ YsIs hs bs ys) ∧ Same H H'
  refine ⟨_, (pss_cons (ps_set (i := 2) sc_least_time.nd rfl (Or.inl rfl) (pe_call G_least_ways (hr.mono (by decide)) (by rfl) m_least_ways F_least_ways.kp b_least_ways .nil pass0 (pa_cons (pv 0) pa_nil)))
      (pss_cons (ps_set (i := 3) sc_least_time.nd rfl (Or.inl rfl) pe_int)
      (PSs.to (pss_cons (ps_set (i := 4) sc_least_time.nd rfl (Or.inl rfl) (pe_callBK (cr_maxDf K rfl rfl) (by rfl) T.m_max (by decide +kernel) (pa_cons (pe_lc (own := [("trays", 5), ("moments", 6), ("way", 7), ("end", 8)]) (g := gTup K 4 (gCons (gName 5) (gCons (gName 6) (gCons (gName 7) (gCons (gName 8) gNil))))) (tt := tYes) (by rfl) sc_least_time.nd (pi_listK K rfl (pv 2)) (blkOk_by (own := [("trays", 5), ("moments", 6), ("way", 7), ("end", 8)]) (N := N_least_time) (sc := defScope s_least_time) (by decide +kernel)) (fun _ _ _ _ _ => (pg_tupK K rfl rfl (pgs_cons (pg_name (i := 5) sc_least_time.nd rfl (Or.inl rfl)) (pgs_cons (pg_name (i := 6) sc_least_time.nd rfl (Or.inl rfl)) (pgs_cons (pg_name (i := 7) sc_least_time.nd rfl (Or.inl rfl)) (pgs_cons (pg_name (i := 8) sc_least_time.nd rfl (Or.inl rfl)) pgs_nil)))))) (fun _ _ _ _ _ => pts_nil) (fun _ _ _ _ _ => (pv 6))) pa_nil) (pk_cons pe_int pk_nil)))
      (PSs.to (pss_cons (ps_asg (pe_call G_paper_by (hr.mono (by decide)) (by rfl) m_paper_by F_paper_by.kp b_paper_by .nil pass0 (pa_cons (pv 0) (pa_cons (pv 1) (pa_cons (pv 4) (pa_cons (pv 2) pa_nil))))) (pg_tupK K rfl rfl (pgs_cons (pg_name (i := 9) sc_least_time.nd rfl (Or.inl rfl)) (pgs_cons (pg_name (i := 10) sc_least_time.nd rfl (Or.inl rfl)) pgs_nil))))
      (pss_cons (ps_set (i := 11) sc_least_time.nd rfl (Or.inl rfl) pe_non)
      (pss_cons (ps_while PassesOwn.never (pt_cmpR op_lt (pv 3) (pv 4) (nomark _))
        (pss_cons (ps_set (i := 12) sc_least_time.nd rfl (Or.inl rfl) (pe_op op_fdiv (pe_op op_add (pv 3) (pv 4)) pe_int))
      (pss_cons (ps_asg (pe_call G_paper_by (hr.mono (by decide)) (by rfl) m_paper_by F_paper_by.kp b_paper_by .nil pass0 (pa_cons (pv 0) (pa_cons (pv 1) (pa_cons (pv 12) (pa_cons (pv 2) pa_nil))))) (pg_tupK K rfl rfl (pgs_cons (pg_name (i := 9) sc_least_time.nd rfl (Or.inl rfl)) (pgs_cons (pg_name (i := 13) sc_least_time.nd rfl (Or.inl rfl)) pgs_nil))))
      (pss_one (ps_if (pt_cmpR op_eq (pv 9) pe_str (nomark _)) (pss_cons (ps_set (i := 4) sc_least_time.nd rfl (Or.inl rfl) (pv 12))
      (pss_one (ps_set (i := 10) sc_least_time.nd rfl (Or.inl rfl) (pv 13)))) (pss_cons (ps_set (i := 3) sc_least_time.nd rfl (Or.inl rfl) (pe_op op_add (pv 12) pe_int))
      (pss_one (ps_set (i := 11) sc_least_time.nd rfl (Or.inl rfl) (pv 13)))))))))
      (pss_one (ps_ret (pe_tup (pa_cons (pv 4) (pa_cons (pv 10) (pa_cons (pv 11) pa_nil))))))))) R2 ?tail2)) R1 ?tail1))), ?_⟩
  case tail2 =>
    rintro D' σ' H1 ⟨eD, wl, yv, ys, hi, rfl, hwl, aly, ⟨aw, yis⟩, hi0, fhi, s1⟩
    refine ⟨_, rfl, _, rfl, _, rfl, _, rfl, r, wl, hs, bs, late, hi, yv, ys, rfl, hR.keep (TK.same s1), ok, hwl, aly, aw, fun p0 q0 sh0 H2 hp0 hq0 so0 sp0 s2 => ?_, fun p0 x0 _ _ H2 _ _ _ _ _ nf _ _ => absurd fhi nf⟩
    refine ⟨p0, _, rfl, SqT.of hp0, rfl, _, _, rfl, _, _, rfl, rfl, ?_⟩
    refine ⟨fun m σ H3 => ∃ (lo hi : Int) (w9 y : V) (qa : Addr) (sh : Nat → Int) (v12 v13 : Option V), σ = [some (.ref r), some (lateV late), some (.ref wl), some (.int lo), some (.int hi), none, none, none, none, some w9, some (.ref qa), some y, v12, v13] ∧ H3 qa = some (.tup (levL hs.length sh)) ∧ 0 ≤ lo ∧ lo ≤ hi ∧ (Shf hs bs late hi sh ∧ ShT hs bs late hi sh) ∧ (∀ T', 0 ≤ T' → T' < lo → ¬ FA hs bs late T') ∧ BarV hs bs late lo H3 y ∧ m = (hi - lo).toNat ∧ Same H1 H3, ⟨_, 0, hi, _, _, q0, sh0, _, _, rfl, hq0, Int.le_refl _, hi0, ⟨so0, ys, yis, sp0⟩, (fun T' a b => by omega), .inl ⟨rfl, rfl⟩, rfl, s2⟩, ?_⟩
    rintro m σ H3 ⟨lo, hi, w9, y, qa, sh, v12, v13, rfl, hqa, lo0, lohi, ⟨fhi, fht⟩, no, bV, rfl, s3⟩
    refine ⟨_, rfl, _, rfl, _, _, rfl, rfl, _, rfl, if_bl (fun c => ?_) (fun c => ?_)⟩
    · have c : lo < hi := of_decide_eq_true c
      refine ⟨_, fun σ' H' h => h, ?_⟩
      refine ⟨_, rfl, _, rfl, _, _, rfl, rfl, _, _, rfl, rfl, ⟨by decide, by decide⟩, ?_⟩
      have mid0 : lo ≤ (lo + hi) / 2 := by omega
      have mid1 : (lo + hi) / 2 < hi := by omega
      refine ⟨_, rfl, _, rfl, _, rfl, _, rfl, r, wl, hs, bs, late, (lo + hi) / 2, yv, ys, rfl, hR.keep (TK.same (s1.trans s3)), ok, s3 _ _ hwl, aly.imp fun _ _ z => z.keep (TK.same s3), aw, fun p1 q1 sh1 H4 hp1 hq1 fa sp1 s4 => ?_, fun p1 x1 qv ws H4 hp1 hx1 alw lw br nf bp1 s4 => ?_⟩
      · refine ⟨p1, _, rfl, SqT.of hp1, rfl, _, _, rfl, _, _, rfl, rfl, ?_⟩
        refine ⟨_, rfl, rfl, _, rfl, if_bl (fun _ => ?_) (fun z => absurd rfl (of_decide_eq_false z))⟩
        exact ⟨_, rfl, _, rfl, _, by omega, lo, (lo + hi) / 2, _, _, q1, sh1, _, _, rfl, hq1, lo0, mid0, ⟨fa, ys, yis, sp1⟩, no, bV.keep (TK.same s4), rfl, s3.trans s4⟩
      · refine ⟨p1, _, rfl, SqT.of hp1, rfl, _, _, rfl, _, _, rfl, rfl, ?_⟩
        refine ⟨_, rfl, rfl, _, rfl, if_bl (fun z => ?_) (fun _ => ?_)⟩
        · have := V.str.inj (of_decide_eq_true z)
          exact absurd this (by decide +kernel)
        exact ⟨_, rfl, _, _, rfl, rfl, _, rfl, _, by omega, (lo + hi) / 2 + 1, hi, _, _, qa, sh, _, _, rfl, s4 _ _ hqa, by omega, by omega, ⟨fhi, fht⟩, (fun T' a b f => nf (f.mono (by omega))), .inr ⟨by omega, x1, qv, ws, rfl, hx1, alw, lw, by rw [Int.add_sub_cancel]; exact br, by rw [Int.add_sub_cancel]; exact ⟨ys, yis, bp1⟩⟩, rfl, s3.trans s4⟩
    · have c : ¬ lo < hi := of_decide_eq_false c
      refine ⟨_, rfl, _, rfl, _, rfl, (by show 3 ≤ sizeLine; decide), fun p np => ?_⟩
      rw [eD]
      exact q p qa hi sh _ _ upd_same (same_new np _ _ hqa) fhi fht ⟨fhi.fa, by omega, fun T' a b => no T' a (by omega)⟩ ((show lo = hi by omega) ▸ bV.keep (TK.new np)) ((s1.trans s3).trans (same_new np))
  case tail1 =>
    rintro D' σ' H1 ⟨eD, wl, yv, ys, rfl, hwl, aly, ⟨aw, yis⟩, s1⟩
    have lys := aly.length
    have few := aw.few
    refine ⟨_, rfl, wl, rfl, ⟨_, SqL.of hwl⟩, fun D nD => lc_list (K := K) (a := wl) (xs := yv) (fun i H5 => H5 D = some (.lst (((ys.take i).map fun y => y.c.2).map V.int)) ∧ Same H1 H5) ⟨upd_same, same_new nD⟩ (fun i H5 _ ⟨_, s5⟩ => SqL.of (s5 _ _ hwl)) ?_ ?_⟩
    · rintro i x H5 hx ⟨hD, s5⟩
      obtain ⟨y, ey, ⟨t, p, rfl, ht, _⟩⟩ := aly.getL hx
      have il := (List.getElem?_eq_some_iff.mp ey).1
      refine ⟨t, _, rfl, SqT.of (s5 _ _ ht), rfl, ?_⟩
      refine ⟨_, _, rfl, ?_⟩
      refine ⟨_, _, rfl, ?_⟩
      refine ⟨_, _, rfl, ?_⟩
      refine ⟨_, _, rfl, rfl, ?_⟩
      refine ⟨rfl, ?_⟩
      refine yes_in ?_
      refine ⟨_, rfl, _, hD, by rw [List.length_map, List.length_map, List.length_take]; exact small1000 (by omega), ?_, Same.own s5 nD⟩
      rw [upd_same, List.take_add_one, ey, List.map_append, List.map_append]; rfl
    · rintro H5 ⟨hD, s5⟩
      rw [lys, List.take_length] at hD
      have go : ∀ hi : Int, 0 ≤ hi → (∀ y ∈ ys, y.c.2 ≤ hi) → FA hs bs late hi := fun hi _ h => FA.high hrk fun one e c h1 h2 _ => by
        obtain ⟨y, y1, rfl, rfl⟩ := aw.all one e c h1 h2
        have := (aw.ok y y1).b
        rw [h2] at this
        cases this
        exact h y y1
      refine ⟨D, _, V.int 0, rfl, rfl, SqL.of hD, fun e => ?_, fun m hm hle => ?_⟩
      · refine ⟨eD, wl, yv, ys, 0, rfl, s5 _ _ hwl, aly.imp fun _ _ z => z.keep (TK.same s5), ⟨aw, yis⟩, Int.le_refl _, go 0 (Int.le_refl _) fun y hy => ?_, s1.trans s5⟩
        have : y.c.2 ∈ ys.map fun y => y.c.2 := List.mem_map.mpr ⟨y, hy, rfl⟩
        rw [e] at this
        cases this
      · have pos : 0 < hs.length := by
          obtain ⟨y, y1, _⟩ := List.mem_map.mp hm
          exact Nat.lt_of_le_of_lt (Nat.zero_le _) (aw.ok y y1).lt
        have m0 : 0 ≤ m := by
          obtain ⟨y, y1, y2⟩ := aw.all 0 0 (0, momH hs 0) pos (best_one hrk)
          have := hle y.c.2 (List.mem_map.mpr ⟨y, y1, rfl⟩)
          have b := (aw.ok y y1).b
          rw [y2.1, y2.2, best_one hrk] at b
          have : (0, momH hs 0) = y.c := Option.some.inj b
          have e2 : y.c.2 = momH hs 0 := by rw [← this]
          have g0 : 0 ≤ momH hs 0 := by
            unfold momH
            rw [List.getElem?_eq_getElem pos]
            exact (ok.good _ (List.getElem_mem _)).2.1
          omega
        exact ⟨eD, wl, yv, ys, m, rfl, s5 _ _ hwl, aly.imp fun _ _ z => z.keep (TK.same s5), ⟨aw, yis⟩, m0, go m m0 fun y hy => hle _ (List.mem_map.mpr ⟨y, hy, rfl⟩), s1.trans s5⟩

  refine ⟨_, rfl, r, hs, bs, rfl, hR, ok, fun wl yv ys H1 nwl hwl aly aw yis s1 => ⟨rfl, wl, yv, ys, rfl, hwl, aly, ⟨aw, yis⟩, s1⟩⟩
end
/-! ### the ground: steps between places -/
def plH (hs : List HR) (k : Nat) : Nat := if k ∈ doorsOf "in" hs ∨ k ∈ doorsOf "out" hs then hs.length else k
def abH (hs : List HR) (l : Nat) (k : Nat) : Int := if k ∈ doorsOf "out" hs then ((l : Nat) : Int) else 0
abbrev gYs (hs : List HR) (ys : List Wy) : List Wy := ys.filter fun y => decide (plH hs y.one ≠ plH hs y.e)
def gStep (hs : List HR) (l : Nat) (T : Int) (y : Wy) : St3 := ⟨plH hs y.one, plH hs y.e, ndd y.c.2 T - y.c.1 - abH hs l y.e⟩
abbrev gSt (hs : List HR) (ys : List Wy) (l : Nat) (T : Int) : List St3 := (gYs hs ys).map (gStep hs l T)
def capsOf (n : Nat) (M : Int) : List St3 := (List.range n).map fun k => ⟨k, n, -M⟩
theorem pl_in {hs : List HR} {k : Nat} (h : k ∈ doorsOf "in" hs) : plH hs k = hs.length := if_pos (.inl h)
theorem pl_out {hs : List HR} {k : Nat} (h : k ∈ doorsOf "out" hs) : plH hs k = hs.length := if_pos (.inr h)
theorem pl_hand {hs : List HR} {k : Nat} (h1 : k ∉ doorsOf "in" hs) (h2 : k ∉ doorsOf "out" hs) : plH hs k = k := if_neg fun z => z.elim h1 h2
theorem pl_le {hs : List HR} {k : Nat} (h : k < hs.length) : plH hs k ≤ hs.length := by unfold plH; split <;> omega
theorem pl_lt {hs : List HR} {k : Nat} (h : plH hs k < hs.length) : k ∉ doorsOf "in" hs ∧ k ∉ doorsOf "out" hs ∧ plH hs k = k := by
  by_cases a : k ∈ doorsOf "in" hs
  · rw [pl_in a] at h; omega
  · by_cases b : k ∈ doorsOf "out" hs
    · rw [pl_out b] at h; omega
    · exact ⟨a, b, pl_hand a b⟩
theorem pl_top {hs : List HR} {k : Nat} (kl : k < hs.length) (h : plH hs k = hs.length) : k ∈ doorsOf "in" hs ∨ k ∈ doorsOf "out" hs := by
  by_cases z : k ∈ doorsOf "in" hs ∨ k ∈ doorsOf "out" hs
  · exact z
  · unfold plH at h; rw [if_neg z] at h; omega
theorem ab_in {hs : List HR} {l k : Nat} (h : k ∈ doorsOf "in" hs) : abH hs l k = 0 := if_neg fun z => door_one h z
theorem ab_out {hs : List HR} {l k : Nat} (h : k ∈ doorsOf "out" hs) : abH hs l k = ((l : Nat) : Int) := if_pos h
theorem ab_no {hs : List HR} {l k : Nat} (h : k ∉ doorsOf "out" hs) : abH hs l k = 0 := if_neg h
theorem best_end {hs : List HR} {bs : List BR} (ok : RoomOk hs bs) {y : Wy} (o : WyOk hs bs y) : y.e < hs.length := way_lt (fun b hb => (ok.ends b hb).2) o.lt o.we
/-- no way but the one without belts begins at an out door, or ends at an in door -/
theorem way_out {hs : List HR} {bs : List BR} (ok : RoomOk hs bs) {one e : Nat} {ns : List Nat} (h : wayEnd bs one ns = some e) (z : one ∈ doorsOf "out" hs) : ns = [] ∧ e = one := by
  cases ns with
  | nil => cases h; exact ⟨rfl, rfl⟩
  | cons n ns =>
    cases eb : bs[n]? with
    | none => rw [wayEnd_none eb] at h; cases h
    | some b =>
      rw [wayEnd_cons eb] at h
      by_cases y : b.one = one
      · exact absurd (y ▸ z) (one_out ok (List.mem_of_getElem? eb))
      · rw [if_neg y] at h; cases h
theorem way_in {hs : List HR} {bs : List BR} (ok : RoomOk hs bs) {one e : Nat} {ns : List Nat} (h : wayEnd bs one ns = some e) (z : e ∈ doorsOf "in" hs) : ns = [] ∧ e = one := by
  rcases List.eq_nil_or_concat ns with rfl | ⟨ms, n, rfl⟩
  · cases h; exact ⟨rfl, rfl⟩
  · rw [List.concat_eq_append] at h
    obtain ⟨b, eb, _, h2⟩ := wayEnd_unsnoc h
    exact absurd (h2 ▸ z) (to_in ok (List.mem_of_getElem? eb))
/-- levels of the ground from shifts -/
def lvS (hs : List HR) (sh : Nat → Int) (k : Nat) : Int := if k ∈ doorsOf "in" hs ∨ k ∈ doorsOf "out" hs ∨ k = hs.length then 0 else sh k
theorem sh_pl {hs : List HR} {bs : List BR} {l : Nat} {T : Int} {sh : Nat → Int} (r : Rch hs bs (some l) T sh) {k : Nat} (kl : k < hs.length) : sh k = lvS hs sh (plH hs k) + abH hs l k := by
  have top : lvS hs sh hs.length = 0 := if_pos (.inr (.inr rfl))
  by_cases a : k ∈ doorsOf "in" hs
  · rw [pl_in a, ab_in a, top, r.ins k a]; rfl
  · by_cases b : k ∈ doorsOf "out" hs
    · obtain ⟨to, o1, o2, _⟩ := r.outs
      rw [pl_out b, ab_out b, top, o1 k b, o2 l rfl]; omega
    · rw [pl_hand a b, ab_no b]
      unfold lvS
      rw [if_neg fun z => z.elim a fun z => z.elim b fun z => by omega]
      omega
theorem gy_mem {hs : List HR} {ys : List Wy} {y : Wy} (h : y ∈ gYs hs ys) : y ∈ ys ∧ plH hs y.one ≠ plH hs y.e := by
  obtain ⟨h1, h2⟩ := List.mem_filter.mp h
  exact ⟨h1, of_decide_eq_true h2⟩
theorem gy_one {hs : List HR} {bs : List BR} {ys : List Wy} (ok : RoomOk hs bs) (aw : AllWays hs bs ys) {y : Wy} (h : y ∈ gYs hs ys) : y.one ∉ doorsOf "out" hs ∧ y.e ∉ doorsOf "in" hs := by
  obtain ⟨h1, h2⟩ := gy_mem h
  have o := aw.ok y h1
  exact ⟨fun z => h2 (by rw [(way_out ok o.we z).2]), fun z => h2 (by rw [(way_in ok o.we z).2])⟩
theorem ground_fits {hs : List HR} {bs : List BR} {ys : List Wy} {l : Nat} {T : Int} {sh : Nat → Int} (ok : RoomOk hs bs) (aw : AllWays hs bs ys) (r : Rch hs bs (some l) T sh) : ∀ s ∈ gSt hs ys l T, lvS hs sh s.u + s.w ≤ lvS hs sh s.v := fun s h => by
  obtain ⟨y, hy, rfl⟩ := List.mem_map.mp h
  obtain ⟨h1, h2⟩ := gy_mem hy
  have o := aw.ok y h1
  have q := r.ways y.one y.ns y.e o.lt o.we
  rw [o.wc, sh_pl r o.lt, sh_pl r (best_end ok o), ab_no (gy_one ok aw hy).1] at q
  show lvS hs sh (plH hs y.one) + (ndd y.c.2 T - y.c.1 - abH hs l y.e) ≤ lvS hs sh (plH hs y.e)
  omega
/-- shifts from levels of the ground -/
def shL (hs : List HR) (l : Nat) (lv : Nat → Int) (k : Nat) : Int := lv (plH hs k) + abH hs l k - lv hs.length
theorem ground_rch {hs : List HR} {bs : List BR} {ys : List Wy} {l : Nat} {T : Int} {s0 lv : Nat → Int} (ok : RoomOk hs bs) (aw : AllWays hs bs ys) (r : Rch hs bs (some l) T s0) (f : ∀ s ∈ gSt hs ys l T, lv s.u + s.w ≤ lv s.v) : Rch hs bs (some l) T (shL hs l lv) := by
  refine ⟨fun k hk => by unfold shL; rw [pl_in hk, ab_in hk]; omega, ⟨((l : Nat) : Int), fun k hk => by unfold shL; rw [pl_out hk, ab_out hk]; omega, fun _ e => by cases e; rfl, fun z => nomatch z⟩, fun one ns e ho h => ?_⟩
  obtain ⟨c, b1, b2⟩ := best_way ok ho h
  obtain ⟨y, hy, rfl, rfl⟩ := aw.all one e c ho b1
  have o := aw.ok y hy
  have ec : y.c = c := Option.some.inj (o.b.symm.trans b1)
  subst ec
  have q0 := r.ways y.one y.ns y.e o.lt o.we
  rw [o.wc] at q0
  have main : shL hs l lv y.one + (ndd y.c.2 T - y.c.1) ≤ shL hs l lv y.e := by
    by_cases z : plH hs y.one = plH hs y.e
    · rw [sh_pl r o.lt, sh_pl r (best_end ok o), z] at q0
      unfold shL
      rw [z]
      omega
    · have m : y ∈ gYs hs ys := List.mem_filter.mpr ⟨hy, decide_eq_true z⟩
      have q := f _ (List.mem_map.mpr ⟨y, m, rfl⟩)
      have q : lv (plH hs y.one) + (ndd y.c.2 T - y.c.1 - abH hs l y.e) ≤ lv (plH hs y.e) := q
      unfold shL
      rw [ab_no (gy_one ok aw m).1]
      omega
  unfold ndd at *
  unfold coLe at b2
  split at main <;> split <;> omega
/-! ### a ring with a cap, and the path that is left -/
theorem stepEnd_app {st : List St3} : ∀ {ks ms : List Nat} {p q : Nat}, stepEnd st p ks = some q → stepEnd st p (ks ++ ms) = stepEnd st q ms
  | [], ms, p, q, h => by cases h; rfl
  | k :: ks, ms, p, q, h => by
    cases e : st[k]? with
    | none =>
      have : stepEnd st p (k :: ks) = none := by
        show (match st[k]? with | some s => if s.u = p then stepEnd st s.v ks else none | none => none) = none
        rw [e]
      rw [this] at h; cases h
    | some s =>
      rw [stepEnd_cons e] at h
      rw [List.cons_append, stepEnd_cons e]
      by_cases z : s.u = p
      · rw [if_pos z] at h ⊢
        exact stepEnd_app h
      · rw [if_neg z] at h; cases h
theorem stepEnd_split {st : List St3} : ∀ {ks ms : List Nat} {p q : Nat}, stepEnd st p (ks ++ ms) = some q → ∃ m, stepEnd st p ks = some m ∧ stepEnd st m ms = some q
  | [], ms, p, q, h => ⟨p, rfl, h⟩
  | k :: ks, ms, p, q, h => by
    cases e : st[k]? with
    | none =>
      have : stepEnd st p (k :: ks ++ ms) = none := by
        show (match st[k]? with | some s => if s.u = p then stepEnd st s.v (ks ++ ms) else none | none => none) = none
        rw [e]
      rw [this] at h; cases h
    | some s =>
      rw [List.cons_append, stepEnd_cons e] at h
      rw [stepEnd_cons e]
      by_cases z : s.u = p
      · rw [if_pos z] at h ⊢
        exact stepEnd_split h
      · rw [if_neg z] at h; cases h
theorem stepEnd_left {st cs : List St3} : ∀ {ks : List Nat} {p q : Nat}, (∀ k ∈ ks, k < st.length) → stepEnd (st ++ cs) p ks = some q → stepEnd st p ks = some q
  | [], p, q, _, h => h
  | k :: ks, p, q, l, h => by
    have kl := l k (List.mem_cons_self ..)
    have e : st[k]? = some st[k] := List.getElem?_eq_getElem kl
    have e2 : (st ++ cs)[k]? = some st[k] := by rw [List.getElem?_append_left kl]; exact e
    rw [stepEnd_cons e2] at h
    rw [stepEnd_cons e]
    by_cases z : st[k].u = p
    · rw [if_pos z] at h ⊢
      exact stepEnd_left (fun j hj => l j (List.mem_cons_of_mem _ hj)) h
    · rw [if_neg z] at h; cases h
theorem wS_left {st cs : List St3} {ks : List Nat} (l : ∀ k ∈ ks, k < st.length) : ks.map (wS (st ++ cs)) = ks.map (wS st) := List.map_congr_left fun k hk => by
  unfold wS
  rw [List.getElem?_append_left (l k hk)]
/-- a path from the ground to a hand, of more than many -/
structure PathOk (n : Nat) (st : List St3) (M : Int) (ks : List Nat) : Prop where
  lt : ∀ k ∈ ks, k < st.length
  ln : ks.length ≤ n
  go : ∃ h, h < n ∧ stepEnd st n ks = some h
  gt : M < (ks.map (wS st)).sum
theorem cap_path {n : Nat} {st : List St3} {M : Int} {A B : List Nat} {c : Nat} (fs : Feas st) (r : RingOk (st ++ capsOf n M) (A ++ c :: B)) (big : ∀ k ∈ A ++ c :: B, k ≤ c) (ln : (A ++ c :: B).length ≤ n + 1) : PathOk n st M (B ++ A) ∧ st.length ≤ c := by
  have lc : (capsOf n M).length = n := by unfold capsOf; rw [List.length_map, List.length_range]
  have capat : ∀ k, st.length ≤ k → k < (st ++ capsOf n M).length → (st ++ capsOf n M)[k]? = some ⟨k - st.length, n, -M⟩ := fun k h1 h2 => by
    rw [List.length_append, lc] at h2
    rw [List.getElem?_append_right h1]
    unfold capsOf
    rw [List.getElem?_map, List.getElem?_range (by omega)]
    rfl
  have cl : st.length ≤ c := by
    refine Nat.le_of_not_lt fun z => ?_
    have all : ∀ k ∈ A ++ c :: B, k < st.length := fun k hk => by have := big k hk; omega
    obtain ⟨p, hp⟩ := r.cl
    refine RingOk.not_feas (st := st) (ks := A ++ c :: B) ⟨r.ne, all, ⟨p, stepEnd_left all hp⟩, ?_, ?_⟩ fs
    · have := r.pos
      rw [wS_left all] at this
      exact this
    · have := r.nd
      rw [show (A ++ c :: B).map (toS (st ++ capsOf n M)) = (A ++ c :: B).map (toS st) from List.map_congr_left fun k hk => by unfold toS; rw [List.getElem?_append_left (all k hk)]] at this
      exact this
  have cm : c ∈ A ++ c :: B := List.mem_append_right _ (List.mem_cons_self ..)
  have ec := capat c cl (r.lt c cm)
  have only : ∀ k ∈ B ++ A, k < st.length := fun k hk => by
    refine Nat.lt_of_not_le fun z => ?_
    have km : k ∈ A ++ c :: B := by
      rcases List.mem_append.mp hk with y | y
      · exact List.mem_append_right _ (List.mem_cons_of_mem _ y)
      · exact List.mem_append_left _ y
    have ek := capat k z (r.lt k km)
    have nd := r.nd
    rw [List.map_append, List.map_cons, toS_some ec] at nd
    obtain ⟨n1, n2, n3⟩ := List.nodup_append.mp nd
    have vk : toS (st ++ capsOf n M) k = n := toS_some ek
    rcases List.mem_append.mp hk with y | y
    · exact (List.nodup_cons.mp n2).1 (List.mem_map.mpr ⟨k, y, vk⟩)
    · exact n3 n (List.mem_map.mpr ⟨k, y, vk⟩) n (List.mem_cons_self ..) rfl
  obtain ⟨p, hp⟩ := r.cl
  obtain ⟨m, h1, h2⟩ := stepEnd_split hp
  rw [stepEnd_cons ec] at h2
  by_cases z : c - st.length = m
  · rw [if_pos z] at h2
    have cb := r.lt c cm
    rw [List.length_append, lc] at cb
    refine ⟨⟨only, by rw [List.length_append] at ln ⊢; rw [List.length_cons] at ln; omega, ⟨m, by omega, stepEnd_left only ((stepEnd_app h2).trans h1)⟩, ?_⟩, cl⟩
    have pos := r.pos
    rw [List.map_append, List.map_cons, List.sum_append, List.sum_cons, wS_some ec] at pos
    rw [← wS_left (cs := capsOf n M) only, List.map_append, List.sum_append]
    have pos : 0 < (A.map (wS (st ++ capsOf n M))).sum + (-M + (B.map (wS (st ++ capsOf n M))).sum) := pos
    omega
  · rw [if_neg z] at h2; cases h2
def PlAt (H : Hp) (v : V) (p : Nat × Int) : Prop := ∃ t : Addr, v = .ref t ∧ H t = some (.tup [nV p.1, .int p.2])
theorem PlAt.keep {H H' : Hp} {v : V} {p : Nat × Int} (h : PlAt H v p) (k : TK H H') : PlAt H' v p := by
  obtain ⟨t, e, h⟩ := h
  exact ⟨t, e, k _ _ h⟩
abbrev plL (hs : List HR) (l : Nat) : List (Nat × Int) := (List.range hs.length).map fun k => (plH hs k, abH hs l k)
theorem pl_at {hs : List HR} {l k : Nat} (h : k < hs.length) : (plL hs l)[k]? = some (plH hs k, abH hs l k) := by
  rw [List.getElem?_map, List.getElem?_range h]; rfl
section
variable {P : Program} {w : World} {K : PySem.W.Frag} {mg : Str → Option Value} {base : Heap}
def sp_hand_places (K : PySem.W.Frag) : Sp := fun vs H Q _ => ∃ (r : Addr) (hs : List HR) (bs : List BR) (l : Nat), vs = [.ref r, nV l] ∧ RoomAt H r hs bs ∧ RoomOk hs bs ∧
  ∀ (p : Addr) (pv : List V) (H' : Hp), H p = none → H' p = some (.lst pv) → All2 (PlAt H') pv (plL hs l) → Same H H' → Q (.ref p) H'
theorem ok_hand_places {f : Addr} {fd : FuncData} (F : Fun K "hand_places" "hand_places" s_hand_places f fd) (T : Top K mg) : FnOk P w K mg base CX0 1 f fd ["room", "late"] (sp_hand_places K) := by
  refine F.ok sc_hand_places (fun vs H Q E h => ?_) (fun cdv A outer s H vs Q E hr h => ?_)
  · obtain ⟨r, hs, bs, l, rfl, _⟩ := h
    rfl
  obtain ⟨aI, mI, hI⟩ := T.x_in
  obtain ⟨aO, mO, hO⟩ := T.x_out
  obtain ⟨r, hs, bs, l, rfl, hR, ok, q⟩ := h
  obtain ⟨ha, ba, hv, bv, er, eh, eb, alh, alb⟩ := hR.ex
  have lhv := alh.length
  have lh := ok.hands
  refine ⟨_, (pss_cons (ps_set (i := 2) sc_hand_places.nd rfl (Or.inl rfl) (pe_callB (call_len_seqK K rfl) (by rfl) T.m_len (by decide +kernel) (pa_cons (pe_ix (ix_tupK K rfl) (pv 0) pe_int (fun _ _ => rfl)) pa_nil)))
      (pss_cons (ps_set (i := 3) sc_hand_places.nd rfl (Or.inl rfl) (pe_lst pa_nil))
      (pss_cons (ps_for PassesOwn.never rfl (pi_enumT K rfl (by rfl) T.m_enumerate (pa_cons (pe_ix (ix_tupK K rfl) (pv 0) pe_int (fun _ _ => rfl)) pa_nil)) (pg_tupK K rfl rfl (pgs_cons (pg_name (i := 4) sc_hand_places.nd rfl (Or.inl rfl)) (pgs_cons (pg_tupK K rfl rfl (pgs_cons (pg_name (i := 5) sc_hand_places.nd rfl (Or.inl rfl)) (pgs_cons (pg_name (i := 6) sc_hand_places.nd rfl (Or.inl rfl)) pgs_nil))) pgs_nil)))
        (pss_one (ps_if (pt_cmpR (op_eqDK K rfl hr.units) (pv 5) (pe_glob (v := .ref aI) (by rfl) mI rfl) (nomark _)) (pss_one (ps_expr (pe_bmK K rfl PySem.F.plainAttrs_list PySem.F.slot_list_append PySem.F.type_list_append mt_append (pv 3) (pa_cons (pe_tup (pa_cons (pv 2) (pa_cons pe_int pa_nil))) pa_nil)))) (pss_one (ps_if (pt_cmpR (op_eqDK K rfl hr.units) (pv 5) (pe_glob (v := .ref aO) (by rfl) mO rfl) (nomark _)) (pss_one (ps_expr (pe_bmK K rfl PySem.F.plainAttrs_list PySem.F.slot_list_append PySem.F.type_list_append mt_append (pv 3) (pa_cons (pe_tup (pa_cons (pv 2) (pa_cons (pv 1) pa_nil))) pa_nil)))) (pss_one (ps_expr (pe_bmK K rfl PySem.F.plainAttrs_list PySem.F.slot_list_append PySem.F.type_list_append mt_append (pv 3) (pa_cons (pe_tup (pa_cons (pv 4) (pa_cons pe_int pa_nil))) pa_nil)))))))))
      (pss_one (ps_ret (pv 3)))))), ?_⟩
  refine ⟨_, rfl, r, _, _, _, rfl, rfl, SqT.of er, atI_nat (j := 0) rfl, ha, _, rfl, .inr (SqT.of eh), ?_⟩
  refine ⟨(by show 0 ≤ sizeLine; decide), fun pl npl => ?_⟩
  have s1 := same_new (o := .lst []) npl
  have hpl : (upd H pl (.lst [])) pl = some (.lst []) := upd_same
  generalize upd H pl (.lst []) = H1 at s1 hpl ⊢
  refine ⟨_, rfl, r, _, _, _, rfl, rfl, SqT.of (s1 _ _ er), atI_nat (j := 0) rfl, ha, hv, rfl, SqT.of (s1 _ _ eh), for_it (J := IteT K ha hv) (n := hv.length) (fun i σ H5 => ∃ (pv : List V) (v4 v5 v6 : Option V), σ = [some (.ref r), some (nV l), some (.int ((hv.length : Nat) : Int)), some (.ref pl), v4, v5, v6] ∧ H5 pl = some (.lst pv) ∧ All2 (PlAt H5) pv ((List.range i).map fun k => (plH hs k, abH hs l k)) ∧ (∀ b o, H b = some o → H5 b = some o)) ⟨[], none, none, none, rfl, hpl, .nil, fun b o e => s1 _ _ e⟩ ?_ ?_ ?_ ?_⟩
  · rintro i σ H5 hi ⟨pv, v4, v5, v6, rfl, h5, al, s5⟩
    exact ⟨SqT.of (s5 _ _ eh), hi⟩
  · rintro σ H5 ⟨pv, v4, v5, v6, rfl, h5, al, s5⟩
    exact ⟨SqT.of (s5 _ _ eh), rfl⟩
  · rintro i x σ H5 H6 hi ⟨pv, v4, v5, v6, rfl, h5, al, s5⟩ ⟨t, y, rfl, nt, rfl, ey⟩
    obtain ⟨hh, eb2, ⟨t2, g, rfl, e1, e2⟩⟩ := alh.getL ey
    have gh := ok.good _ (List.mem_of_getElem? eb2)
    have il := (List.getElem?_eq_some_iff.mp eb2).1
    have s56 := same_new (o := .tup [V.int ((i : Nat) : Int), V.ref t2]) nt
    have s6 : Same H _ := Same.trans s5 s56
    have h6 := s56 _ _ h5
    have lpv := al.length
    rw [List.length_map, List.length_range] at lpv
    have inn : i ∈ doorsOf "in" hs ↔ hh.wd = "in" := ⟨fun z => by obtain ⟨h', q1, q2⟩ := mem_doors.mp z; rw [eb2] at q1; cases q1; exact q2, fun z => mem_doors.mpr ⟨hh, eb2, z⟩⟩
    have out : i ∈ doorsOf "out" hs ↔ hh.wd = "out" := ⟨fun z => by obtain ⟨h', q1, q2⟩ := mem_doors.mp z; rw [eb2] at q1; cases q1; exact q2, fun z => mem_doors.mpr ⟨hh, eb2, z⟩⟩
    refine ⟨t, _, rfl, SqT.of upd_same, rfl, _, _, rfl, _, _, rfl, t2, _, rfl, SqT.of (s6 _ _ e1), rfl, _, _, rfl, _, _, rfl, rfl, rfl, ?_⟩
    generalize upd H5 t (.tup [V.int ((i : Nat) : Int), V.ref t2]) = H6 at s56 s6 h6 ⊢
    -- what is appended
    have fin : ∀ (tt : Addr) (H7 : Hp) (p : Nat × Int), Same H6 H7 → H7 tt = some (.tup [nV p.1, .int p.2]) → p = (plH hs i, abH hs l i) → ∃ pv', upd H7 pl (.lst (pv ++ [V.ref tt])) pl = some (.lst pv') ∧ All2 (PlAt (upd H7 pl (.lst (pv ++ [V.ref tt])))) pv' ((List.range (i + 1)).map fun k => (plH hs k, abH hs l k)) ∧ (∀ b o, H b = some o → upd H7 pl (.lst (pv ++ [V.ref tt])) b = some o) := fun tt H7 p s7 ht ep => by
      have kk : TK H7 (upd H7 pl (.lst (pv ++ [V.ref tt]))) := TK.lst (s7 _ _ h6)
      refine ⟨_, upd_same, ?_, fun b o e => ?_⟩
      · rw [List.range_succ, List.map_append]
        exact ((al.imp fun _ _ z => z.keep (TK.same (s56.trans s7))).snoc ⟨tt, rfl, by rw [ht, ep]⟩).imp fun _ _ z => z.keep kk
      · rw [upd_ne (ne_of_none e npl)]
        exact s7 _ _ (s6 _ _ e)
    refine ⟨_, rfl, _, _, rule_dp (s6 _ _ e2), .tup (hI _) (.cons (.str _) .nil), rule_shaped gh.lay, one_shaped (by decide +kernel), _, rfl, ?_⟩
    rw [rule_eqv, gh.door "in" (.inl rfl)]
    by_cases c : hh.wd = "in"
    · rw [decide_eq_true c]
      refine if_bl (fun _ => ?_) (fun z => nomatch z)
      refine ⟨_, rfl, .inl ⟨rfl, _, SqL.of h6⟩, _, rfl, (by show 2 ≤ sizeLine; decide), fun tt ntt => ⟨pl, _, _, rfl, rfl, same_new ntt _ _ h6, small1000 (by omega), ?_⟩⟩
      obtain ⟨pv', q1, q2, q3⟩ := fin tt _ (hs.length, 0) (same_new (o := .tup [nV hv.length, V.int 0]) ntt) (by rw [upd_same, lhv]) (by rw [pl_in (inn.mpr c), ab_in (inn.mpr c)])
      exact ⟨pv', _, _, _, rfl, q1, q2, q3⟩
    · rw [decide_eq_false c]
      refine if_bl (fun z => nomatch z) (fun _ => ?_)
      refine ⟨_, rfl, _, _, rule_dp (s6 _ _ e2), .tup (hO _) (.cons (.str _) .nil), rule_shaped gh.lay, one_shaped (by decide +kernel), _, rfl, ?_⟩
      rw [rule_eqv, gh.door "out" (.inr rfl)]
      by_cases c2 : hh.wd = "out"
      · rw [decide_eq_true c2]
        refine if_bl (fun _ => ?_) (fun z => nomatch z)
        refine ⟨_, rfl, .inl ⟨rfl, _, SqL.of h6⟩, _, rfl, _, rfl, (by show 2 ≤ sizeLine; decide), fun tt ntt => ⟨pl, _, _, rfl, rfl, same_new ntt _ _ h6, small1000 (by omega), ?_⟩⟩
        obtain ⟨pv', q1, q2, q3⟩ := fin tt _ (hs.length, ((l : Nat) : Int)) (same_new (o := .tup [nV hv.length, nV l]) ntt) (by rw [upd_same, lhv]) (by rw [pl_out (out.mpr c2), ab_out (out.mpr c2)])
        exact ⟨pv', _, _, _, rfl, q1, q2, q3⟩
      · rw [decide_eq_false c2]
        refine if_bl (fun z => nomatch z) (fun _ => ?_)
        refine ⟨_, rfl, .inl ⟨rfl, _, SqL.of h6⟩, _, rfl, (by show 2 ≤ sizeLine; decide), fun tt ntt => ⟨pl, _, _, rfl, rfl, same_new ntt _ _ h6, small1000 (by omega), ?_⟩⟩
        obtain ⟨pv', q1, q2, q3⟩ := fin tt _ (i, 0) (same_new (o := .tup [nV i, V.int 0]) ntt) upd_same (by rw [pl_hand (fun z => c (inn.mp z)) (fun z => c2 (out.mp z)), ab_no fun z => c2 (out.mp z)])
        exact ⟨pv', _, _, _, rfl, q1, q2, q3⟩
  · rintro σ H5 ⟨pv, v4, v5, v6, rfl, h5, al, s5⟩
    rw [lhv] at al
    exact ⟨_, rfl, q pl pv H5 npl h5 al s5⟩
def sp_ground_steps (K : PySem.W.Frag) : Sp := fun vs H Q _ => ∃ (r : Addr) (hs : List HR) (bs : List BR) (l : Nat) (T : Int), vs = [.ref r, nV l, .int T] ∧ RoomAt H r hs bs ∧ RoomOk hs bs ∧
  ∀ (p wl sl : Addr) (wv sv : List V) (ys : List Wy) (H' : Hp), H' p = some (.tup [.ref wl, .ref sl]) → H' wl = some (.lst wv) → All2 (PrAt H') wv (gYs hs ys) → H' sl = some (.lst sv) → All2 (StepAt H') sv (gSt hs ys l T) → AllWays hs bs ys → YsIs hs bs ys → Same H H' → Q (.ref p) H'
theorem ok_ground_steps {f : Addr} {fd : FuncData} (F : Fun K "ground_steps" "ground_steps" s_ground_steps f fd) (T : Top K mg) : FnOk P w K mg base CX0 3 f fd ["room", "late", "time"] (sp_ground_steps K) := by
  obtain ⟨f_hand_places, fd_hand_places, F_hand_places, b_hand_places, m_hand_places⟩ := T.d_hand_places
  have G_hand_places := ok_hand_places (P := P) (w := w) (base := base) F_hand_places T
  obtain ⟨f_least_ways, fd_least_ways, F_least_ways, b_least_ways, m_least_ways⟩ := T.d_least_ways
  have G_least_ways := ok_least_ways (P := P) (w := w) (base := base) F_least_ways T
  obtain ⟨f_needed, fd_needed, F_needed, b_needed, m_needed⟩ := T.d_needed
  have G_needed := ok_needed (P := P) (w := w) (base := base) F_needed T
  refine F.ok sc_ground_steps (fun vs H Q E h => ?_) (fun cdv A outer s H vs Q E hr h => ?_)
  · obtain ⟨r, hs, bs, l, T', rfl, _⟩ := h
    rfl
  obtain ⟨r, hs, bs, l, T', rfl, hR, ok, q⟩ := h
  have lh := ok.hands
  refine ⟨_, (pss_cons (ps_set (i := 3) sc_ground_steps.nd rfl (Or.inl rfl) (pe_call G_hand_places (hr.mono (by decide)) (by rfl) m_hand_places F_hand_places.kp b_hand_places .nil pass0 (pa_cons (pv 0) (pa_cons (pv 1) pa_nil))))
      (pss_cons (ps_set (i := 4) sc_ground_steps.nd rfl (Or.inl rfl) (pe_lst pa_nil))
      (pss_cons (ps_set (i := 5) sc_ground_steps.nd rfl (Or.inl rfl) (pe_lst pa_nil))
      (pss_cons (ps_for PassesOwn.never rfl (pi_listK K rfl (pe_call G_least_ways (hr.mono (by decide)) (by rfl) m_least_ways F_least_ways.kp b_least_ways .nil pass0 (pa_cons (pv 0) pa_nil))) (pg_tupK K rfl rfl (pgs_cons (pg_name (i := 6) sc_ground_steps.nd rfl (Or.inl rfl)) (pgs_cons (pg_name (i := 7) sc_ground_steps.nd rfl (Or.inl rfl)) (pgs_cons (pg_name (i := 8) sc_ground_steps.nd rfl (Or.inl rfl)) (pgs_cons (pg_name (i := 9) sc_ground_steps.nd rfl (Or.inl rfl)) pgs_nil)))))
        (pss_cons (ps_set (i := 10) sc_ground_steps.nd rfl (Or.inl rfl) (pe_ix (ix_tupK K rfl) (pe_ix (ix_listK K rfl) (pv 3) (pe_ix (ix_tupK K rfl) (pv 8) pe_int (fun _ _ => rfl)) (fun _ _ => rfl)) pe_int (fun _ _ => rfl)))
      (pss_cons (ps_asg (pe_ix (ix_listK K rfl) (pv 3) (pv 9) (fun _ _ => rfl)) (pg_tupK K rfl rfl (pgs_cons (pg_name (i := 11) sc_ground_steps.nd rfl (Or.inl rfl)) (pgs_cons (pg_name (i := 12) sc_ground_steps.nd rfl (Or.inl rfl)) pgs_nil))))
      (pss_one (ps_if (pt_cmpR op_ne (pv 10) (pv 11) (nomark _)) (pss_cons (ps_expr (pe_bmK K rfl PySem.F.plainAttrs_list PySem.F.slot_list_append PySem.F.type_list_append mt_append (pv 4) (pa_cons (pv 8) pa_nil)))
      (pss_one (ps_expr (pe_bmK K rfl PySem.F.plainAttrs_list PySem.F.slot_list_append PySem.F.type_list_append mt_append (pv 5) (pa_cons (pe_tup (pa_cons (pv 10) (pa_cons (pv 11) (pa_cons (pe_op op_sub (pe_op op_sub (pe_call G_needed (hr.mono (by decide)) (by rfl) m_needed F_needed.kp b_needed .nil pass0 (pa_cons (pv 7) (pa_cons (pv 2) pa_nil))) (pv 6)) (pv 12)) pa_nil)))) pa_nil))))) pss_nil)))))
      (pss_one (ps_ret (pe_tup (pa_cons (pv 4) (pa_cons (pv 5) pa_nil))))))))), ?_⟩
  refine ⟨_, rfl, _, rfl, r, hs, bs, l, rfl, hR, ok, fun pl pv H1 npl hpl alp s1 => ?_⟩
  refine ⟨(by show 0 ≤ sizeLine; decide), fun wl nwl => ?_⟩
  have s12 := same_new (o := .lst []) nwl
  have hwl : (upd H1 wl (.lst [])) wl = some (.lst []) := upd_same
  generalize upd H1 wl (.lst []) = H2 at s12 hwl ⊢
  refine ⟨(by show 0 ≤ sizeLine; decide), fun sl nsl => ?_⟩
  have s23 := same_new (o := .lst []) nsl
  have hsl : (upd H2 sl (.lst [])) sl = some (.lst []) := upd_same
  have hwl3 := s23 _ _ hwl
  generalize upd H2 sl (.lst []) = H3 at s23 hsl hwl3 ⊢
  have s3 := (s1.trans s12).trans s23
  have wsl : wl ≠ sl := ne_of_none hwl nsl
  have plw : pl ≠ wl := ne_of_none hpl nwl
  have pls : pl ≠ sl := ne_of_none (s12 _ _ hpl) nsl
  refine ⟨_, rfl, r, hs, bs, rfl, hR.keep (TK.same s3), ok, fun yl yv ys H4 nyl hyl aly aw yis s4 => ?_⟩
  have lys := aly.length
  have few := aw.few
  have hsl4 := s4 _ _ hsl
  have hwl4 := s4 _ _ hwl3
  have yls : yl ≠ sl := fun z => by rw [z, hsl] at nyl; cases nyl
  have ylw : yl ≠ wl := fun z => by rw [z, hwl3] at nyl; cases nyl
  have hpl4 := s4 _ _ (s23 _ _ (s12 _ _ hpl))
  have alp4 := alp.imp fun _ _ z => z.keep (TK.same ((s12.trans s23).trans s4))
  have s04 := s3.trans s4
  refine ⟨yl, rfl, ⟨_, SqL.of hyl⟩, for_list (K := K) (a := yl) (xs := yv) (fun i σ H5 => ∃ (wv sv : List V) (v6 v7 v8 v9 v10 v11 v12 : Option V), σ = [some (.ref r), some (nV l), some (.int T'), some (.ref pl), some (.ref wl), some (.ref sl), v6, v7, v8, v9, v10, v11, v12] ∧ H5 wl = some (.lst wv) ∧ All2 (PrAt H5) wv (gYs hs (ys.take i)) ∧ H5 sl = some (.lst sv) ∧ All2 (StepAt H5) sv (gSt hs (ys.take i) l T') ∧ (∀ b o, H4 b = some o → b ≠ wl → b ≠ sl → H5 b = some o)) ⟨[], [], none, none, none, none, none, none, none, rfl, hwl4, .nil, hsl4, .nil, fun b o e _ _ => e⟩ (fun i σ H5 _ ⟨_, _, _, _, _, _, _, _, _, _, _, _, _, _, f5⟩ => SqL.of (f5 _ _ hyl ylw yls)) ?_ ?_⟩
  · rintro i x σ H5 hx ⟨wv, sv, v6, v7, v8, v9, v10, v11, v12, rfl, hw5, alw, hs5, als, f5⟩
    obtain ⟨y, ey, ⟨t, p, rfl, ht, g, hp, hg⟩⟩ := aly.getL hx
    have il := (List.getElem?_eq_some_iff.mp ey).1
    have o := aw.ok y (List.mem_of_getElem? ey)
    have el := best_end ok o
    have tpl : ∀ {b : Addr} {xs : List V}, H4 b = some (.tup xs) → H5 b = some (.tup xs) := fun e => f5 _ _ e (ne_of e hwl4 (fun z => nomatch z)) (ne_of e hsl4 (fun z => nomatch z))
    have hpl5 := f5 _ _ hpl4 plw pls
    obtain ⟨x1, ex1, ⟨t1, rfl, h1⟩⟩ := alp4.get (pl_at (l := l) o.lt)
    obtain ⟨x2, ex2, ⟨t2, rfl, h2⟩⟩ := alp4.get (pl_at (l := l) el)
    have lwv := alw.length
    have lsv := als.length
    rw [List.length_map] at lsv
    have lg : (gYs hs (ys.take i)).length ≤ 144 := Nat.le_trans (List.length_filter_le ..) (by rw [List.length_take]; omega)
    have tke : gYs hs (ys.take (i + 1)) = gYs hs (ys.take i) ++ if plH hs y.one ≠ plH hs y.e then [y] else [] := by
      show (ys.take (i + 1)).filter _ = (ys.take i).filter _ ++ _
      rw [List.take_add_one, ey, List.filter_append]
      congr 1
      show [y].filter _ = _
      rw [List.filter_cons]
      by_cases z : plH hs y.one ≠ plH hs y.e
      · rw [if_pos (decide_eq_true z), if_pos z]; rfl
      · rw [if_neg (by rw [decide_eq_false z]; exact Bool.false_ne_true), if_neg z]; rfl
    refine ⟨t, _, rfl, SqT.of (tpl ht), rfl, _, _, rfl, _, _, rfl, _, _, rfl, _, _, rfl, rfl, ?_⟩
    refine ⟨_, rfl, _, rfl, p, _, _, _, rfl, rfl, SqT.of (tpl hp), atI_nat (j := 0) rfl, pl, _, _, _, rfl, rfl, SqL.of hpl5, atI_nat ex1, t1, _, _, _, rfl, rfl, SqT.of (tpl h1), atI_nat (j := 0) rfl, ?_⟩
    refine ⟨_, rfl, _, rfl, pl, _, _, _, rfl, rfl, SqL.of hpl5, atI_nat ex2, t2, _, rfl, SqT.of (tpl h2), rfl, _, _, rfl, _, _, rfl, rfl, ?_⟩
    refine ⟨_, rfl, _, rfl, rfl, _, rfl, if_bl (fun z => ?_) (fun z => ?_)⟩
    · have ne : plH hs y.one ≠ plH hs y.e := fun c => by
        have z : (!decide (nV (plH hs y.one) = nV (plH hs y.e))) = true := z
        rw [c, decide_eq_true rfl] at z
        cases z
      rw [if_pos ne] at tke
      refine ⟨_, rfl, .inl ⟨rfl, _, SqL.of hw5⟩, _, rfl, wl, _, _, rfl, rfl, hw5, small1000 (by omega), ?_⟩
      have k6 : TK H5 (upd H5 wl (.lst (wv ++ [V.ref p]))) := TK.lst hw5
      have hs6 : (upd H5 wl (.lst (wv ++ [V.ref p]))) sl = some (.lst sv) := by rw [upd_ne wsl.symm]; exact hs5
      have hw6 : (upd H5 wl (.lst (wv ++ [V.ref p]))) wl = some (.lst (wv ++ [V.ref p])) := upd_same
      have f6 : ∀ b o, H4 b = some o → b ≠ wl → b ≠ sl → (upd H5 wl (.lst (wv ++ [V.ref p]))) b = some o := fun b o e n1 n2 => by rw [upd_ne n1]; exact f5 b o e n1 n2
      generalize upd H5 wl (.lst (wv ++ [V.ref p])) = H6 at k6 hs6 hw6 f6 ⊢
      refine ⟨_, rfl, .inl ⟨rfl, _, SqL.of hs6⟩, _, rfl, _, rfl, _, rfl, _, rfl, y.c.2, T', rfl, _, rfl, _, _, rfl, rfl, _, rfl, _, _, rfl, rfl, (by show 3 ≤ sizeLine; decide), fun tt ntt => ?_⟩
      have s7 := same_new (o := .tup [nV (plH hs y.one), nV (plH hs y.e), V.int (ndd y.c.2 T' - y.c.1 - abH hs l y.e)]) ntt
      have htt : (upd H6 tt (.tup [nV (plH hs y.one), nV (plH hs y.e), V.int (ndd y.c.2 T' - y.c.1 - abH hs l y.e)])) tt = some (.tup [nV (plH hs y.one), nV (plH hs y.e), V.int (ndd y.c.2 T' - y.c.1 - abH hs l y.e)]) := upd_same
      refine ⟨sl, _, _, rfl, rfl, s7 _ _ hs6, small1000 (by omega), ?_⟩
      generalize upd H6 tt _ = H7 at s7 htt ⊢
      have k8 : TK H7 (upd H7 sl (.lst (sv ++ [V.ref tt]))) := TK.lst (s7 _ _ hs6)
      have k58 := (k6.trans (TK.same s7)).trans k8
      refine ⟨wv ++ [V.ref p], sv ++ [V.ref tt], _, _, _, _, _, _, _, rfl, by rw [upd_ne wsl]; exact s7 _ _ hw6, ?_, upd_same, ?_, fun b o e n1 n2 => by rw [upd_ne n2]; exact s7 _ _ (f6 b o e n1 n2)⟩
      · rw [tke]
        exact (alw.imp fun _ _ z => z.keep k58).snoc ⟨p, rfl, g, k58 _ _ (tpl hp), k58 _ _ (tpl hg)⟩
      · show All2 _ _ ((gYs hs (ys.take (i + 1))).map (gStep hs l T'))
        rw [tke, List.map_append]
        exact (als.imp fun _ _ z => z.keep k58).snoc ⟨tt, rfl, k8 _ _ htt⟩
    · have eq : ¬ plH hs y.one ≠ plH hs y.e := fun c => by
        have z : (!decide (nV (plH hs y.one) = nV (plH hs y.e))) = false := z
        rw [decide_eq_false (fun y => c (by have := V.int.inj y; omega))] at z
        cases z
      rw [if_neg eq, List.append_nil] at tke
      exact ⟨wv, sv, _, _, _, _, _, _, _, rfl, hw5, by rw [tke]; exact alw, hs5, by show All2 _ _ ((gYs hs (ys.take (i + 1))).map (gStep hs l T')); rw [tke]; exact als, f5⟩
  · rintro σ H5 ⟨wv, sv, v6, v7, v8, v9, v10, v11, v12, rfl, hw5, alw, hs5, als, f5⟩
    rw [lys, List.take_length] at alw als
    refine ⟨_, rfl, _, rfl, (by show 2 ≤ sizeLine; decide), fun p np => ?_⟩
    have s6 := same_new (o := .tup [V.ref wl, V.ref sl]) np
    have wl0 : H wl = none := same_none s1 nwl
    have sl0 : H sl = none := same_none (s1.trans s12) nsl
    exact q p wl sl wv sv ys _ upd_same (s6 _ _ hw5) (alw.imp fun _ _ z => z.keep (TK.same s6)) (s6 _ _ hs5) (als.imp fun _ _ z => z.keep (TK.same s6)) aw yis (fun b o e => s6 _ _ (f5 _ _ (s04 _ _ e) (ne_of_none e wl0) (ne_of_none e sl0)))
def sp_ground_shifts (K : PySem.W.Frag) : Sp := fun vs H Q _ => ∃ (r ll : Addr) (hs : List HR) (bs : List BR) (l : Nat) (lv : Nat → Int), vs = [.ref r, nV l, .ref ll] ∧ RoomAt H r hs bs ∧ RoomOk hs bs ∧ H ll = some (.lst (levL (hs.length + 1) lv)) ∧
  ∀ (p : Addr) (H' : Hp), H' p = some (.tup (levL hs.length (shL hs l lv))) → Same H H' → Q (.ref p) H'
theorem ok_ground_shifts {f : Addr} {fd : FuncData} (F : Fun K "ground_shifts" "ground_shifts" s_ground_shifts f fd) (T : Top K mg) : FnOk P w K mg base CX0 2 f fd ["room", "late", "levels"] (sp_ground_shifts K) := by
  obtain ⟨f_hand_places, fd_hand_places, F_hand_places, b_hand_places, m_hand_places⟩ := T.d_hand_places
  have G_hand_places := ok_hand_places (P := P) (w := w) (base := base) F_hand_places T
  refine F.ok sc_ground_shifts (fun vs H Q E h => ?_) (fun cdv A outer s H vs Q E hr h => ?_)
  · obtain ⟨r, ll, hs, bs, l, lv, rfl, _⟩ := h
    rfl
  obtain ⟨r, ll, hs, bs, l, lv, rfl, hR, ok, hll, q⟩ := h
  obtain ⟨ha, ba, hv, bv, er, eh, eb, alh, alb⟩ := id hR.ex
  have lhv := alh.length
  have lh := ok.hands
  refine ⟨_, (pss_cons (ps_set (i := 3) sc_ground_shifts.nd rfl (Or.inr rfl) (pe_ix (ix_listK K rfl) (pv 2) (pe_callB (call_len_seqK K rfl) (by rfl) T.m_len (by decide +kernel) (pa_cons (pe_ix (ix_tupK K rfl) (pv 0) pe_int (fun _ _ => rfl)) pa_nil)) (fun _ _ => rfl)))
      (pss_one (ps_ret (pe_callTy (call_tuple_ofK K rfl) (by rfl) T.m_tuple (by decide +kernel) (pa_cons (pe_lc (own := [("place", 4), ("above", 5)]) (g := gTup K 2 (gCons (gName 4) (gCons (gName 5) gNil))) (tt := tYes) (by rfl) sc_ground_shifts.nd (pi_listK K rfl (pe_call G_hand_places (hr.mono (by decide)) (by rfl) m_hand_places F_hand_places.kp b_hand_places .nil pass0 (pa_cons (pv 0) (pa_cons (pv 1) pa_nil)))) (blkOk_by (own := [("place", 4), ("above", 5)]) (N := N_ground_shifts) (sc := defScope s_ground_shifts) (by decide +kernel)) (fun _ _ _ _ _ => (pg_tupK K rfl rfl (pgs_cons (pg_name (i := 4) sc_ground_shifts.nd rfl (Or.inl rfl)) (pgs_cons (pg_name (i := 5) sc_ground_shifts.nd rfl (Or.inl rfl)) pgs_nil)))) (fun _ _ _ _ _ => pts_nil) (fun _ _ _ _ _ => (pe_op op_sub (pe_op op_add (pe_ix (ix_listK K rfl) (pv 2) (pv 4) (fun _ _ => rfl)) (pv 5)) (pv 3)))) pa_nil))))), ?_⟩
  refine ⟨_, rfl, _, rfl, r, _, _, _, rfl, rfl, SqT.of er, atI_nat (j := 0) rfl, ha, _, rfl, .inr (SqT.of eh), ll, _, _, _, rfl, rfl, SqL.of hll, by rw [lhv]; exact atI_nat (rg_at (by omega)), ?_⟩
  refine ⟨_, rfl, _, rfl, r, hs, bs, l, rfl, hR, ok, fun pl pv H1 npl hpl alp s1 => ?_⟩
  have lpv := alp.length
  rw [List.length_map, List.length_range] at lpv
  refine ⟨pl, rfl, ⟨_, SqL.of hpl⟩, fun D nD => lc_list (K := K) (a := pl) (xs := pv) (fun i H5 => H5 D = some (.lst ((List.range i).map fun k => V.int (shL hs l lv k))) ∧ Same H1 H5) ⟨upd_same, same_new nD⟩ (fun i H5 _ ⟨_, s5⟩ => SqL.of (s5 _ _ hpl)) ?_ ?_⟩
  · rintro i x H5 hx ⟨hD, s5⟩
    obtain ⟨pa, epa, ⟨t, rfl, ht⟩⟩ := alp.getL hx
    have il := (List.getElem?_eq_some_iff.mp epa).1
    rw [List.length_map, List.length_range] at il
    rw [pl_at il] at epa
    cases epa
    have pll := pl_le il
    refine ⟨t, _, rfl, SqT.of (s5 _ _ ht), rfl, _, _, rfl, _, _, rfl, rfl, rfl, yes_in ?_⟩
    refine ⟨_, rfl, _, rfl, ll, _, _, _, rfl, rfl, SqL.of (s5 _ _ (s1 _ _ hll)), atI_nat (rg_at (by omega)), _, rfl, _, _, rfl, rfl, _, rfl, _, _, rfl, rfl, _, hD, by rw [List.length_map, List.length_range]; exact small1000 (by omega), ?_, Same.own s5 nD⟩
    rw [upd_same, List.range_succ, List.map_append]
    rfl
  rintro H5 ⟨hD, s5⟩
  rw [lpv] at hD
  refine ⟨D, _, rfl, .inl ⟨SqL.of hD, fun p np => ?_⟩⟩
  exact q p _ upd_same ((s1.trans s5).trans (same_new np))
end
/-! ### prices on steps: sums, and what a turn makes of them -/
def Sg (g : St3 → Int) : List St3 → List Int → Int
  | s :: st, p :: pr => p * g s + Sg g st pr
  | _, _ => 0
theorem Sg_set {g : St3 → Int} : ∀ {st : List St3} {pr : List Int} {i : Nat} {s : St3} {p d : Int}, st[i]? = some s → pr[i]? = some p → Sg g st (pr.set i (p + d)) = Sg g st pr + d * g s
  | [], _, _, _, _, _, h, _ => by simp at h
  | _ :: _, [], _, _, _, _, _, h => by simp at h
  | a :: st, b :: pr, 0, s, p, d, h1, h2 => by
    cases h1; cases h2
    show (b + d) * g a + Sg g st pr = b * g a + Sg g st pr + d * g a
    rw [Int.add_mul]; omega
  | a :: st, b :: pr, i + 1, s, p, d, h1, h2 => by
    have ih := Sg_set (g := g) (st := st) (pr := pr) (i := i) (s := s) (p := p) (d := d) h1 h2
    show b * g a + Sg g st (pr.set i (p + d)) = b * g a + Sg g st pr + d * g s
    omega
theorem Sg_le {g g' : St3 → Int} : ∀ {st : List St3} {pr : List Int}, (∀ (i : Nat) (s : St3) (p : Int), st[i]? = some s → pr[i]? = some p → p * g s ≤ p * g' s) → Sg g st pr ≤ Sg g' st pr
  | [], _, _ => Int.le_refl _
  | _ :: _, [], _ => Int.le_refl _
  | a :: st, b :: pr, h => by
    have h0 := h 0 a b rfl rfl
    have ih := Sg_le (g := g) (g' := g') (st := st) (pr := pr) fun i s p h1 h2 => h (i + 1) s p h1 h2
    show b * g a + Sg g st pr ≤ b * g' a + Sg g' st pr
    omega
def spn (lv : Nat → Int) (s : St3) : Int := lv s.v - lv s.u
abbrev stW (s : St3) : Int := s.w
def gA (g : St3 → Int) (st : List St3) (i : Nat) : Int := match st[i]? with | some s => g s | none => 0
theorem gA_some {g : St3 → Int} {st : List St3} {i : Nat} {s : St3} (e : st[i]? = some s) : gA g st i = g s := by unfold gA; rw [e]
/-- the prices after a turn -/
def turnP (far : Int) : List (Nat × Int) → List Int → List Int
  | [], pr => pr
  | x :: tr, pr => turnP far tr (pr.set x.1 (pr.getD x.1 0 + x.2 * far))
theorem turnP_len {far : Int} : ∀ {tr : List (Nat × Int)} {pr : List Int}, (turnP far tr pr).length = pr.length
  | [], _ => rfl
  | x :: tr, pr => by
    show (turnP far tr _).length = _
    rw [turnP_len, List.length_set]
theorem getD_some {pr : List Int} {i : Nat} {p : Int} (h : pr[i]? = some p) : pr.getD i 0 = p := by rw [List.getD_eq_getElem?_getD, h]; rfl
theorem Sg_turn {g : St3 → Int} {st : List St3} {far : Int} : ∀ {tr : List (Nat × Int)} {pr : List Int}, pr.length = st.length → (∀ x ∈ tr, x.1 < st.length) → Sg g st (turnP far tr pr) = Sg g st pr + far * (tr.map fun x => x.2 * gA g st x.1).sum
  | [], pr, _, _ => by show Sg g st pr = Sg g st pr + far * 0; rw [Int.mul_zero]; omega
  | x :: tr, pr, e, lt => by
    have xl := lt x (List.mem_cons_self ..)
    have e1 : st[x.1]? = some st[x.1] := List.getElem?_eq_getElem xl
    have e2 : pr[x.1]? = some (pr[x.1]'(by omega)) := List.getElem?_eq_getElem (by omega)
    show Sg g st (turnP far tr (pr.set x.1 (pr.getD x.1 0 + x.2 * far))) = _
    rw [Sg_turn (by rw [List.length_set]; exact e) (fun y hy => lt y (List.mem_cons_of_mem _ hy)), getD_some e2, Sg_set e1 e2, List.map_cons, List.sum_cons, gA_some e1, Int.mul_add, Int.mul_comm x.2 far, Int.mul_assoc]
    omega
/-- no price falls below nothing -/
theorem turnP_nn {far : Int} (f0 : 0 ≤ far) : ∀ {tr : List (Nat × Int)} {pr : List Int}, (∀ p ∈ pr, (0 : Int) ≤ p) → (∀ x ∈ tr, x.2 = 1 ∨ x.2 = -1) → ((tr.filter fun x => decide (x.2 < 0)).map Prod.fst).Nodup → (∀ x ∈ tr, x.1 < pr.length) → (∀ x ∈ tr, x.2 < 0 → far ≤ pr.getD x.1 0) → ∀ p ∈ turnP far tr pr, (0 : Int) ≤ p
  | [], _, h, _, _, _, _ => h
  | x :: tr, pr, h, ch, nd, lt, fa => by
    have xl := lt x (List.mem_cons_self ..)
    have e2 : pr[x.1]? = some (pr[x.1]'xl) := List.getElem?_eq_getElem xl
    have p0 := h _ (List.mem_of_getElem? e2)
    have xf := fa x (List.mem_cons_self ..)
    rw [getD_some e2] at xf
    show ∀ p ∈ turnP far tr (pr.set x.1 (pr.getD x.1 0 + x.2 * far)), (0 : Int) ≤ p
    rw [getD_some e2]
    generalize pr[x.1]'xl = q at e2 p0 xf
    refine turnP_nn f0 (fun p hp => ?_) (fun y hy => ch y (List.mem_cons_of_mem _ hy)) ?_ (fun y hy => by rw [List.length_set]; exact lt y (List.mem_cons_of_mem _ hy)) fun y hy ny => ?_
    · rcases List.mem_or_eq_of_mem_set hp with z | z
      · exact h p z
      · rcases ch x (List.mem_cons_self ..) with c | c
        · rw [z, c]; omega
        · have := xf (by omega)
          rw [z, c]; omega
    · rw [List.filter_cons] at nd
      split at nd
      · rw [List.map_cons] at nd; exact (List.nodup_cons.mp nd).2
      · exact nd
    · have yf := fa y (List.mem_cons_of_mem _ hy) ny
      have yl := lt y (List.mem_cons_of_mem _ hy)
      by_cases z : x.1 = y.1
      · rcases ch x (List.mem_cons_self ..) with c | c
        · rw [← z, getD_some (show (pr.set x.1 (q + x.2 * far))[x.1]? = some _ from List.getElem?_set_self xl), c]
          rw [← z, getD_some e2] at yf
          omega
        · exfalso
          rw [List.filter_cons, if_pos (decide_eq_true (by omega)), List.map_cons] at nd
          exact (List.nodup_cons.mp nd).1 (z ▸ List.mem_map.mpr ⟨y, List.mem_filter.mpr ⟨hy, decide_eq_true ny⟩, rfl⟩)
      · rw [List.getD_eq_getElem?_getD, List.getElem?_set_ne z, ← List.getD_eq_getElem?_getD]
        exact yf
/-! ### the steps of priced ways, gone back -/
def pdL (pr : List Int) : List Nat := (List.range pr.length).filter fun i => decide (0 < pr.getD i 0)
def bkS (st : List St3) (i : Nat) : St3 := match st[i]? with | some s => ⟨s.v, s.u, -s.w⟩ | none => ⟨0, 0, 0⟩
abbrev bks (st : List St3) (pr : List Int) : List St3 := (pdL pr).map (bkS st)
def trn (n : Nat) (pd : List Nat) (k : Nat) : Nat × Int := if k < n then (k, 1) else (pd.getD (k - n) 0, -1)
theorem pd_mem {pr : List Int} {i : Nat} : i ∈ pdL pr ↔ i < pr.length ∧ 0 < pr.getD i 0 := by
  unfold pdL
  rw [List.mem_filter, List.mem_range, decide_eq_true_iff]
theorem pd_nd {pr : List Int} : (pdL pr).Nodup := List.Nodup.sublist List.filter_sublist List.nodup_range
theorem pd_len {pr : List Int} : (pdL pr).length ≤ pr.length := Nat.le_trans (List.length_filter_le ..) (by rw [List.length_range]; exact Nat.le_refl _)
theorem bks_at {st : List St3} {pr : List Int} (e : pr.length = st.length) {k : Nat} (h1 : st.length ≤ k) (h2 : k < (st ++ bks st pr).length) : ∃ i s, (pdL pr)[k - st.length]? = some i ∧ st[i]? = some s ∧ (st ++ bks st pr)[k]? = some ⟨s.v, s.u, -s.w⟩ ∧ trn st.length (pdL pr) k = (i, -1) := by
  rw [List.length_append, List.length_map] at h2
  have kl : k - st.length < (pdL pr).length := by omega
  have e1 : (pdL pr)[k - st.length]? = some (pdL pr)[k - st.length] := List.getElem?_eq_getElem kl
  generalize (pdL pr)[k - st.length] = i at e1
  have il := (pd_mem.mp (List.mem_of_getElem? e1)).1
  have e2 : st[i]? = some (st[i]'(by omega)) := List.getElem?_eq_getElem (by omega)
  refine ⟨i, _, e1, e2, ?_, ?_⟩
  · rw [List.getElem?_append_right h1, List.getElem?_map, e1]
    show some (bkS st i) = _
    unfold bkS
    rw [e2]
  · unfold trn
    rw [if_neg (by omega), List.getD_eq_getElem?_getD, e1]
    rfl
theorem bks_feas {st : List St3} {pr : List Int} {lv : Nat → Int} (e : pr.length = st.length) (nn : ∀ p ∈ pr, (0 : Int) ≤ p) (f : ∀ s ∈ st ++ bks st pr, lv s.u + s.w ≤ lv s.v) : Sg (spn lv) st pr ≤ Sg stW st pr := by
  refine Sg_le fun i s p h1 h2 => ?_
  have p0 := nn p (List.mem_of_getElem? h2)
  by_cases z : 0 < p
  · have im : i ∈ pdL pr := pd_mem.mpr ⟨(List.getElem?_eq_some_iff.mp h2).1, by rw [getD_some h2]; exact z⟩
    have := f (bkS st i) (List.mem_append_right _ (List.mem_map.mpr ⟨i, im, rfl⟩))
    unfold bkS at this
    rw [h1] at this
    have this : lv s.v + -s.w ≤ lv s.u := this
    exact Int.mul_le_mul_of_nonneg_left (show lv s.v - lv s.u ≤ s.w by omega) p0
  · have : p = 0 := by omega
    rw [this, Int.zero_mul, Int.zero_mul]
    exact Int.le_refl _
theorem feas_le {st : List St3} {pr : List Int} {lv : Nat → Int} (nn : ∀ p ∈ pr, (0 : Int) ≤ p) (f : ∀ s ∈ st, lv s.u + s.w ≤ lv s.v) : Sg stW st pr ≤ Sg (spn lv) st pr := Sg_le fun i s p h1 h2 => by
  have := f s (List.mem_of_getElem? h1)
  exact Int.mul_le_mul_of_nonneg_left (show s.w ≤ lv s.v - lv s.u by omega) (nn p (List.mem_of_getElem? h2))
theorem turn_w {st : List St3} {pr : List Int} (e : pr.length = st.length) {k : Nat} (h : k < (st ++ bks st pr).length) : (trn st.length (pdL pr) k).2 * gA stW st (trn st.length (pdL pr) k).1 = wS (st ++ bks st pr) k := by
  by_cases z : k < st.length
  · have e1 : st[k]? = some st[k] := List.getElem?_eq_getElem z
    unfold trn
    rw [if_pos z, gA_some e1, wS_some (show (st ++ bks st pr)[k]? = some st[k] by rw [List.getElem?_append_left z]; exact e1)]
    show 1 * st[k].w = _
    omega
  · obtain ⟨i, s, _, e2, e3, e4⟩ := bks_at e (by omega) h
    rw [e4, gA_some e2, wS_some e3]
    show -1 * s.w = -s.w
    omega
theorem turn_spn {st : List St3} {pr : List Int} {lv : Nat → Int} (e : pr.length = st.length) : ∀ {ks : List Nat} {p q : Nat}, (∀ k ∈ ks, k < (st ++ bks st pr).length) → stepEnd (st ++ bks st pr) p ks = some q → ((ks.map (trn st.length (pdL pr))).map fun x => x.2 * gA (spn lv) st x.1).sum = lv q - lv p
  | [], p, q, _, h => by cases h; show (0 : Int) = _; omega
  | k :: ks, p, q, lt, h => by
    have kl := lt k (List.mem_cons_self ..)
    have main : ∀ s : St3, (st ++ bks st pr)[k]? = some s → (trn st.length (pdL pr) k).2 * gA (spn lv) st (trn st.length (pdL pr) k).1 = lv s.v - lv s.u → ((((k :: ks).map (trn st.length (pdL pr))).map fun x => x.2 * gA (spn lv) st x.1).sum) = lv q - lv p := fun s es em => by
      rw [stepEnd_cons es] at h
      by_cases y : s.u = p
      · rw [if_pos y] at h
        have ih := turn_spn (lv := lv) e (fun j hj => lt j (List.mem_cons_of_mem _ hj)) h
        rw [List.map_cons, List.map_cons, List.sum_cons, ih, em, y]
        omega
      · rw [if_neg y] at h; cases h
    by_cases z : k < st.length
    · have e1 : st[k]? = some st[k] := List.getElem?_eq_getElem z
      refine main st[k] (by rw [List.getElem?_append_left z]; exact e1) ?_
      unfold trn
      rw [if_pos z, gA_some e1]
      show 1 * (lv st[k].v - lv st[k].u) = _
      omega
    · obtain ⟨i, s, _, e2, e3, e4⟩ := bks_at e (by omega) kl
      refine main _ e3 ?_
      rw [e4, gA_some e2]
      show -1 * (lv s.v - lv s.u) = lv s.u - lv s.v
      omega
theorem nodup_of_map {α β : Type} {f : α → β} : ∀ {l : List α}, (l.map f).Nodup → l.Nodup
  | [], _ => .nil
  | a :: l, h => by
    rw [List.map_cons] at h
    obtain ⟨h1, h2⟩ := List.nodup_cons.mp h
    exact List.nodup_cons.mpr ⟨fun z => h1 (List.mem_map.mpr ⟨a, z, rfl⟩), nodup_of_map h2⟩
theorem turn_negs {st : List St3} {pr : List Int} (e : pr.length = st.length) : ∀ {ks : List Nat}, ks.Nodup → (∀ k ∈ ks, k < (st ++ bks st pr).length) → (((ks.map (trn st.length (pdL pr))).filter fun x => decide (x.2 < 0)).map Prod.fst).Nodup
  | [], _, _ => .nil
  | k :: ks, nd, lt => by
    have ih := turn_negs e (List.nodup_cons.mp nd).2 fun j hj => lt j (List.mem_cons_of_mem _ hj)
    rw [List.map_cons, List.filter_cons]
    split
    · rename_i c
      have c := of_decide_eq_true c
      have kg : ¬ k < st.length := fun z => by
        unfold trn at c
        rw [if_pos z] at c
        exact absurd c (by show ¬ ((1 : Int) < 0); decide)
      obtain ⟨i, s, p1, _, _, p4⟩ := bks_at e (by omega) (lt k (List.mem_cons_self ..))
      rw [List.map_cons, p4]
      refine List.nodup_cons.mpr ⟨fun z => ?_, ih⟩
      obtain ⟨y, hy, ey⟩ := List.mem_map.mp z
      obtain ⟨hy1, hy2⟩ := List.mem_filter.mp hy
      obtain ⟨j, hj, rfl⟩ := List.mem_map.mp hy1
      have jg : ¬ j < st.length := fun z => by
        have c2 := of_decide_eq_true hy2
        unfold trn at c2
        rw [if_pos z] at c2
        exact absurd c2 (by show ¬ ((1 : Int) < 0); decide)
      obtain ⟨i2, s2, q1, _, _, q4⟩ := bks_at e (by omega) (lt j (List.mem_cons_of_mem _ hj))
      rw [q4] at ey
      have ey : i2 = i := ey
      subst ey
      have := (List.getElem?_inj (List.getElem?_eq_some_iff.mp p1).1 pd_nd).mp (p1.trans q1.symm)
      have : k = j := by omega
      exact (List.nodup_cons.mp nd).1 (this ▸ hj)
    · exact ih
/-- what a turn does: spans stay, the steps' needs are paid for by more -/
structure Turned2 (st : List St3) (pr pr' : List Int) : Prop where
  ln : pr'.length = st.length
  nn : ∀ p ∈ pr', (0 : Int) ≤ p
  sp : ∀ lv, Sg (spn lv) st pr' = Sg (spn lv) st pr
  mo : Sg stW st pr < Sg stW st pr'
theorem turn_nums {st : List St3} {pr : List Int} {ks : List Nat} (e : pr.length = st.length) (lt : ∀ k ∈ ks, k < (st ++ bks st pr).length) : ∀ x ∈ ks.map (trn st.length (pdL pr)), x.1 < st.length ∧ (x.2 = 1 ∨ x.2 = -1) ∧ (x.2 < 0 → x.1 ∈ pdL pr) := fun x hx => by
  obtain ⟨k, hk, rfl⟩ := List.mem_map.mp hx
  by_cases z : k < st.length
  · have e1 : trn st.length (pdL pr) k = (k, 1) := if_pos z
    rw [e1]
    exact ⟨z, .inl rfl, fun c => absurd c (by show ¬ ((1 : Int) < 0); decide)⟩
  · obtain ⟨i, s, p1, p2, _, p4⟩ := bks_at e (by omega) (lt k hk)
    rw [p4]
    exact ⟨(List.getElem?_eq_some_iff.mp p2).1, .inr rfl, fun _ => List.mem_of_getElem? p1⟩
theorem turn_one {st : List St3} {pr : List Int} {ks : List Nat} {far : Int} (e : pr.length = st.length) (nn : ∀ p ∈ pr, (0 : Int) ≤ p) (r : RingOk (st ++ bks st pr) ks) (hf : ∃ x ∈ ks.map (trn st.length (pdL pr)), x.2 < 0 ∧ far = pr.getD x.1 0) (hl : ∀ x ∈ ks.map (trn st.length (pdL pr)), x.2 < 0 → far ≤ pr.getD x.1 0) : Turned2 st pr (turnP far (ks.map (trn st.length (pdL pr))) pr) := by
  have lt := r.lt
  have nums := turn_nums e lt
  have f1 : 1 ≤ far := by
    obtain ⟨x, hx, nx, rfl⟩ := hf
    have := (pd_mem.mp ((nums x hx).2.2 nx)).2
    omega
  refine ⟨by rw [turnP_len]; exact e, turnP_nn (by omega) nn (fun x hx => (nums x hx).2.1) (turn_negs e (nodup_of_map r.nd) lt) (fun x hx => by rw [e]; exact (nums x hx).1) hl, fun lv => ?_, ?_⟩
  · obtain ⟨p, hp⟩ := r.cl
    rw [Sg_turn e fun x hx => (nums x hx).1, turn_spn e lt hp, Int.sub_self, Int.mul_zero]
    omega
  · rw [Sg_turn e fun x hx => (nums x hx).1, List.map_map, show (ks.map ((fun x => x.2 * gA stW st x.1) ∘ trn st.length (pdL pr))) = ks.map (wS (st ++ bks st pr)) from List.map_congr_left fun k hk => turn_w e (lt k hk)]
    have pos := r.pos
    have : 1 * 1 ≤ far * (ks.map (wS (st ++ bks st pr))).sum := Int.mul_le_mul f1 (by omega) (by omega) (by omega)
    omega
/-- some step of a turn goes back -/
theorem turn_back {st : List St3} {pr : List Int} {ks : List Nat} (e : pr.length = st.length) (fs : Feas st) (r : RingOk (st ++ bks st pr) ks) : ∃ x ∈ ks.map (trn st.length (pdL pr)), x.2 < 0 := by
  refine Classical.byContradiction fun no => ?_
  have all : ∀ k ∈ ks, k < st.length := fun k hk => Nat.lt_of_not_le fun z => by
    obtain ⟨i, s, _, _, _, p4⟩ := bks_at e z (r.lt k hk)
    exact no ⟨_, List.mem_map.mpr ⟨k, hk, rfl⟩, by rw [p4]; show (-1 : Int) < 0; decide⟩
  obtain ⟨p, hp⟩ := r.cl
  refine RingOk.not_feas (st := st) (ks := ks) ⟨r.ne, all, ⟨p, stepEnd_left all hp⟩, ?_, ?_⟩ fs
  · have := r.pos
    rw [wS_left all] at this
    exact this
  · have := r.nd
    rw [show ks.map (toS (st ++ bks st pr)) = ks.map (toS st) from List.map_congr_left fun k hk => by unfold toS; rw [List.getElem?_append_left (all k hk)]] at this
    exact this
/-! ### trays on belts, counted by ways -/
def cntY (bs : List BR) (y : Wy) : Int := ((bs.countP fun b => decide (b.one = y.one ∧ b.to = y.e) : Nat) : Int)
def mvd (bs : List BR) (sh : Nat → Int) : Int := (bs.map fun b => (b.th.length : Int) + sh b.to - sh b.one).sum
def cst (hs : List HR) (bs : List BR) (l : Nat) : Int := (bs.map fun b => (b.th.length : Int) + abH hs l b.to - abH hs l b.one).sum
def ySum (c : Wy → Int) (f : Wy → Int) (ys : List Wy) : Int := (ys.map fun y => c y * f y).sum
theorem ySum_cons {b : BR} {bs : List BR} {f : Wy → Int} : ∀ {ys : List Wy}, ySum (cntY (b :: bs)) f ys = ySum (fun y => if b.one = y.one ∧ b.to = y.e then 1 else 0) f ys + ySum (cntY bs) f ys
  | [] => rfl
  | y :: ys => by
    have ih := ySum_cons (b := b) (bs := bs) (f := f) (ys := ys)
    unfold ySum at *
    rw [List.map_cons, List.map_cons, List.map_cons, List.sum_cons, List.sum_cons, List.sum_cons, ih]
    have : cntY (b :: bs) y = (if b.one = y.one ∧ b.to = y.e then 1 else 0) + cntY bs y := by
      unfold cntY
      rw [List.countP_cons]
      by_cases z : b.one = y.one ∧ b.to = y.e
      · rw [if_pos z, if_pos (decide_eq_true z)]; omega
      · rw [if_neg z, if_neg (by rw [decide_eq_false z]; exact Bool.false_ne_true)]; omega
    rw [this, Int.add_mul]
    dsimp only
    omega
theorem ySum_one {a e : Nat} {F : Nat → Nat → Int} : ∀ {ys : List Wy}, (ys.map fun y => (y.one, y.e)).Nodup → ySum (fun y => if a = y.one ∧ e = y.e then 1 else 0) (fun y => F y.one y.e) ys = if (a, e) ∈ ys.map (fun y => (y.one, y.e)) then F a e else 0
  | [], _ => rfl
  | y :: ys, nd => by
    rw [List.map_cons] at nd
    obtain ⟨n1, n2⟩ := List.nodup_cons.mp nd
    have ih := ySum_one (a := a) (e := e) (F := F) n2
    unfold ySum at *
    rw [List.map_cons, List.sum_cons, ih, List.map_cons]
    dsimp only
    by_cases z : a = y.one ∧ e = y.e
    · obtain ⟨rfl, rfl⟩ := z
      rw [if_pos ⟨rfl, rfl⟩, if_neg n1, if_pos (List.mem_cons_self ..)]
      omega
    · rw [if_neg z, Int.zero_mul]
      have : ((a, e) ∈ (y.one, y.e) :: ys.map fun y => (y.one, y.e)) ↔ (a, e) ∈ ys.map fun y => (y.one, y.e) := by
        rw [List.mem_cons]
        exact ⟨fun h => h.elim (fun h => absurd ⟨congrArg Prod.fst h, congrArg Prod.snd h⟩ z) id, .inr⟩
      by_cases m : (a, e) ∈ ys.map fun y => (y.one, y.e)
      · rw [if_pos m, if_pos (this.mpr m)]; omega
      · rw [if_neg m, if_neg fun h => m (this.mp h)]; omega
theorem ySum_all {F : Nat → Nat → Int} {ys : List Wy} (nd : (ys.map fun y => (y.one, y.e)).Nodup) : ∀ {bs : List BR}, (∀ b ∈ bs, (b.one, b.to) ∉ ys.map (fun y => (y.one, y.e)) → F b.one b.to = 0) → ySum (cntY bs) (fun y => F y.one y.e) ys = (bs.map fun b => F b.one b.to).sum
  | [], _ => by
    show ySum (fun y => cntY [] y) _ ys = 0
    unfold ySum
    induction ys with
    | nil => rfl
    | cons y ys ih =>
      rw [List.map_cons, List.sum_cons, ih (List.nodup_cons.mp nd).2 fun _ z => nomatch z]
      show (0 : Int) * _ + 0 = 0
      omega
  | b :: bs, h => by
    rw [ySum_cons, ySum_one nd, ySum_all nd fun x hx => h x (List.mem_cons_of_mem _ hx), List.map_cons, List.sum_cons]
    split
    · rfl
    · rename_i z
      rw [h b (List.mem_cons_self ..) z]
theorem Sg_ySum {hs : List HR} {l : Nat} {T : Int} {lv : Nat → Int} {c : Wy → Int} : ∀ {ys : List Wy}, Sg (spn lv) (ys.map (gStep hs l T)) (ys.map c) = ySum c (fun y => lv (plH hs y.e) - lv (plH hs y.one)) ys
  | [] => rfl
  | y :: ys => by
    have ih := Sg_ySum (hs := hs) (l := l) (T := T) (lv := lv) (c := c) (ys := ys)
    show c y * (lv (plH hs y.e) - lv (plH hs y.one)) + Sg (spn lv) (ys.map (gStep hs l T)) (ys.map c) = _
    rw [ih]
    rfl
/-- trays moved, by levels of the ground -/
theorem mvd_of {hs : List HR} {bs : List BR} {ys : List Wy} {l : Nat} {T g : Int} {sh lv : Nat → Int} (ok : RoomOk hs bs) (aw : AllWays hs bs ys) (e : ∀ k, k < hs.length → sh k = lv (plH hs k) + abH hs l k - g) : mvd bs sh = cst hs bs l + Sg (spn lv) (gSt hs ys l T) ((gYs hs ys).map (cntY bs)) := by
  have nd : ((gYs hs ys).map fun y => (y.one, y.e)).Nodup := aw.nd.sublist (List.filter_sublist.map _)
  rw [Sg_ySum (c := cntY bs), ySum_all (F := fun a e => lv (plH hs e) - lv (plH hs a)) nd fun b hb z => ?_]
  · unfold mvd cst
    have all : ∀ b ∈ bs, b.one < hs.length ∧ b.to < hs.length := ok.ends
    clear ok aw nd
    induction bs with
    | nil => rfl
    | cons b bs ih =>
      have ih := ih fun x hx => all x (List.mem_cons_of_mem _ hx)
      obtain ⟨h1, h2⟩ := all b (List.mem_cons_self ..)
      rw [List.map_cons, List.map_cons, List.map_cons, List.sum_cons, List.sum_cons, List.sum_cons, e _ h1, e _ h2]
      omega
  · by_cases y : plH hs b.one = plH hs b.to
    · show lv (plH hs b.to) - lv (plH hs b.one) = 0
      rw [y]; omega
    · exfalso
      obtain ⟨h1, h2⟩ := ok.ends b hb
      obtain ⟨n, hn⟩ := List.getElem?_of_mem hb
      have w : wayEnd bs b.one [n] = some b.to := by rw [wayEnd_cons hn, if_pos rfl]; rfl
      obtain ⟨c, b1, _⟩ := best_way ok h1 w
      obtain ⟨x, hx, x1, x2⟩ := aw.all _ _ c h1 b1
      exact z (List.mem_map.mpr ⟨x, List.mem_filter.mpr ⟨hx, decide_eq_true (by rw [x1, x2]; exact y)⟩, by rw [x1, x2]⟩)
/-- prices that tell how few trays there can be -/
structure Prc (hs : List HR) (bs : List BR) (ys : List Wy) (l : Nat) (T : Int) (pr : List Int) : Prop where
  ln : pr.length = (gSt hs ys l T).length
  nn : ∀ p ∈ pr, (0 : Int) ≤ p
  sp : ∀ lv, Sg (spn lv) (gSt hs ys l T) pr = Sg (spn lv) (gSt hs ys l T) ((gYs hs ys).map (cntY bs))
theorem Prc.low {hs : List HR} {bs : List BR} {ys : List Wy} {l : Nat} {T : Int} {pr : List Int} {sh : Nat → Int} (p : Prc hs bs ys l T pr) (ok : RoomOk hs bs) (aw : AllWays hs bs ys) (r : Rch hs bs (some l) T sh) : cst hs bs l + Sg stW (gSt hs ys l T) pr ≤ mvd bs sh := by
  rw [mvd_of (l := l) (T := T) (g := 0) (lv := lvS hs sh) ok aw fun k hk => by rw [sh_pl r hk]; omega, ← p.sp]
  have := feas_le p.nn (ground_fits ok aw r)
  omega
theorem Prc.at_ {hs : List HR} {bs : List BR} {ys : List Wy} {l : Nat} {T : Int} {pr : List Int} {lv : Nat → Int} (p : Prc hs bs ys l T pr) (ok : RoomOk hs bs) (aw : AllWays hs bs ys) (f : ∀ s ∈ gSt hs ys l T ++ bks (gSt hs ys l T) pr, lv s.u + s.w ≤ lv s.v) : mvd bs (shL hs l lv) = cst hs bs l + Sg stW (gSt hs ys l T) pr := by
  rw [mvd_of (sh := shL hs l lv) (l := l) (T := T) (g := lv hs.length) (lv := lv) ok aw fun k _ => rfl, ← p.sp]
  have h1 := bks_feas p.ln p.nn f
  have h2 := feas_le (lv := lv) p.nn fun s hs' => f s (List.mem_append_left _ hs')
  omega
/-! ### prices: the program -/
def PgAt (H : Hp) (v : V) (p : Nat × Nat) : Prop := ∃ t : Addr, v = .ref t ∧ H t = some (.tup [nV p.1, nV p.2])
theorem PgAt.keep {H H' : Hp} {v : V} {p : Nat × Nat} (h : PgAt H v p) (k : TK H H') : PgAt H' v p := by
  obtain ⟨t, e, h⟩ := h
  exact ⟨t, e, k _ _ h⟩
def prD (p : Nat × Nat) : PyData := .tuple [.int ((p.1 : Nat) : Int), .int ((p.2 : Nat) : Int)]
theorem pg_dp {K : PySem.W.Frag} {H : Hp} {v : V} {p : Nat × Nat} (h : PgAt H v p) : Dp K H v (prD p) := by
  obtain ⟨t, rfl, e⟩ := h
  exact .tup (SqT.of e) (.cons (.int _) (.cons (.int _) .nil))
theorem pgs_dp {K : PySem.W.Frag} {H : Hp} {vs : List V} {ps : List (Nat × Nat)} (a : All2 (PgAt H) vs ps) : DpAll K H vs (ps.map prD) := by
  induction a with
  | nil => exact .nil
  | cons r _ ih => exact .cons (pg_dp r) ih
theorem pr_eqv {a b : Nat × Nat} : PyData.eqv (prD a) (prD b) = decide (a.1 = b.1 ∧ a.2 = b.2) := by
  obtain ⟨a1, a2⟩ := a
  obtain ⟨b1, b2⟩ := b
  rw [Bool.eq_iff_iff, decide_eq_true_iff]
  unfold prD
  simp [PyData.eqv, PyData.eqvAll]
  try omega
theorem pr_plain : ∀ {ps : List (Nat × Nat)}, PyData.plainAll (ps.map prD) = true
  | [] => rfl
  | p :: ps => by
    rw [List.map_cons]
    show ((prD p).plain && PyData.plainAll (ps.map prD)) = true
    rw [pr_plain]
    rfl
theorem pr_one (p : Nat × Nat) : (prD p).plain = true ∧ (prD p).depth ≤ 60 := ⟨rfl, by simp [prD, PyData.depth, PyData.depthAll]⟩
theorem cnt_of {bs : List BR} {y : Wy} : (((bs.map fun b => (b.one, b.to)).map prD).countP fun z => PyData.eqv z (prD (y.one, y.e))) = bs.countP fun b => decide (b.one = y.one ∧ b.to = y.e) := by
  rw [List.map_map, List.countP_map]
  refine List.countP_congr fun b _ => ?_
  show (PyData.eqv (prD (b.one, b.to)) (prD (y.one, y.e)) = true ↔ _)
  rw [pr_eqv]
section
variable {P : Program} {w : World} {K : PySem.W.Frag} {mg : Str → Option Value} {base : Heap}
def sp_trays_moved (K : PySem.W.Frag) : Sp := fun vs H Q _ => ∃ (r p : Addr) (hs : List HR) (bs : List BR) (sh : Nat → Int), vs = [.ref r, .ref p] ∧ RoomAt H r hs bs ∧ RoomOk hs bs ∧ H p = some (.tup (levL hs.length sh)) ∧
  ∀ (l : Addr) (H' : Hp), H' l = some (.lst ((bs.map fun b => (b.th.length : Int) + sh b.to - sh b.one).map V.int)) → Same H H' → Q (.ref l) H'
theorem ok_trays_moved {f : Addr} {fd : FuncData} (F : Fun K "trays_moved" "trays_moved" s_trays_moved f fd) (T : Top K mg) : FnOk P w K mg base CX0 1 f fd ["room", "shifts"] (sp_trays_moved K) := by
  refine F.ok sc_trays_moved (fun vs H Q E h => ?_) (fun cdv A outer s H vs Q E hr h => ?_)
  · obtain ⟨r, p, hs, bs, sh, rfl, _⟩ := h
    rfl
  obtain ⟨r, p, hs, bs, sh, rfl, hR, ok, hp, q⟩ := h
  obtain ⟨ha, ba, hv, bv, er, eh, eb, alh, alb⟩ := id hR.ex
  have lbv := alb.length
  have many := ok.many
  refine ⟨_, (pss_one (ps_ret (pe_lc (own := [("giver", 2), ("taker", 3), ("things", 4)]) (g := gTup K 3 (gCons (gName 2) (gCons (gName 3) (gCons (gName 4) gNil)))) (tt := tYes) (by rfl) sc_trays_moved.nd (pi_tupK K rfl (pe_ix (ix_tupK K rfl) (pv 0) pe_int (fun _ _ => rfl))) (blkOk_by (own := [("giver", 2), ("taker", 3), ("things", 4)]) (N := N_trays_moved) (sc := defScope s_trays_moved) (by decide +kernel)) (fun _ _ _ _ _ => (pg_tupK K rfl rfl (pgs_cons (pg_name (i := 2) sc_trays_moved.nd rfl (Or.inl rfl)) (pgs_cons (pg_name (i := 3) sc_trays_moved.nd rfl (Or.inl rfl)) (pgs_cons (pg_name (i := 4) sc_trays_moved.nd rfl (Or.inl rfl)) pgs_nil))))) (fun _ _ _ _ _ => pts_nil) (fun _ _ _ _ _ => (pe_op op_sub (pe_op op_add (pe_callB (call_len_seqK K rfl) (by rfl) T.m_len (by decide +kernel) (pa_cons (pv 4) pa_nil)) (pe_ix (ix_tupK K rfl) (pv 1) (pv 3) (fun _ _ => rfl))) (pe_ix (ix_tupK K rfl) (pv 1) (pv 2) (fun _ _ => rfl))))))), ?_⟩
  refine ⟨_, rfl, r, _, _, _, rfl, rfl, SqT.of er, atI_nat (j := 1) rfl, ba, rfl, ⟨_, SqT.of eb⟩, fun D nD => lc_tup (K := K) (a := ba) (xs := bv) (fun i H5 => H5 D = some (.lst (((bs.take i).map fun b => (b.th.length : Int) + sh b.to - sh b.one).map V.int)) ∧ Same H H5) ⟨upd_same, same_new nD⟩ (fun i H5 _ ⟨_, s5⟩ => SqT.of (s5 _ _ eb)) ?_ ?_⟩
  · rintro i x H5 hx ⟨hD, s5⟩
    obtain ⟨b, eb2, ⟨t, g, rfl, e1, e2⟩⟩ := alb.getL hx
    have il := (List.getElem?_eq_some_iff.mp eb2).1
    obtain ⟨o1, o2⟩ := ok.ends b (List.mem_of_getElem? eb2)
    refine ⟨t, _, rfl, SqT.of (s5 _ _ e1), rfl, _, _, rfl, _, _, rfl, _, _, rfl, rfl, rfl, yes_in ?_⟩
    refine ⟨_, rfl, g, _, rfl, .inr (SqT.of (s5 _ _ e2)), ?_⟩
    refine ⟨_, rfl, _, rfl, p, _, _, _, rfl, rfl, SqT.of (s5 _ _ hp), atI_nat (rg_at o2), _, _, rfl, rfl, _, rfl, _, rfl, p, _, _, _, rfl, rfl, SqT.of (s5 _ _ hp), atI_nat (rg_at o1), _, _, rfl, rfl, _, hD, by rw [List.length_map, List.length_map, List.length_take]; exact small1000 (by omega), ?_, Same.own s5 nD⟩
    rw [upd_same, List.take_add_one, eb2, List.map_append, List.map_append, List.length_map]
    rfl
  rintro H5 ⟨hD, s5⟩
  rw [lbv, List.take_length] at hD
  exact q D H5 hD s5
def sp_belt_prices (K : PySem.W.Frag) : Sp := fun vs H Q _ => ∃ (r wl : Addr) (hs : List HR) (bs : List BR) (wv : List V) (gs : List Wy), vs = [.ref r, .ref wl] ∧ RoomAt H r hs bs ∧ RoomOk hs bs ∧ H wl = some (.lst wv) ∧ All2 (PrAt H) wv gs ∧ (∀ y ∈ gs, WyOk hs bs y ∧ y.ns ≠ []) ∧ gs.length ≤ 144 ∧
  ∀ (p : Addr) (H' : Hp), H p = none → H' p = some (.lst ((gs.map (cntY bs)).map V.int)) → Same H H' → Q (.ref p) H'
theorem ok_belt_prices {f : Addr} {fd : FuncData} (F : Fun K "belt_prices" "belt_prices" s_belt_prices f fd) (T : Top K mg) : FnOk P w K mg base CX0 1 f fd ["room", "ways"] (sp_belt_prices K) := by
  refine F.ok sc_belt_prices (fun vs H Q E h => ?_) (fun cdv A outer s H vs Q E hr h => ?_)
  · obtain ⟨r, wl, hs, bs, wv, gs, rfl, _⟩ := h
    rfl
  obtain ⟨r, wl, hs, bs, wv, gs, rfl, hR, ok, hwl, alw, good, few, q⟩ := h
  obtain ⟨ha, ba, hv, bv, er, eh, eb, alh, alb⟩ := id hR.ex
  have lbv := alb.length
  have lwv := alw.length
  have many := ok.many
  let R1 : TS := fun D' σ' H' => D'.rt = Q ∧ ∃ (D : Addr) (pv : List V), σ' = [some (.ref r), some (.ref wl), some (.ref ha), some (.ref ba), some (.ref D), none, none, none, none, none, none] ∧ H' D = some (.lst pv) ∧ All2 (PgAt H') pv (gs.map fun y => (y.one, y.e)) ∧ Same H H'
  refine ⟨_, (pss_cons (ps_asg (pv 0) (pg_tupK K rfl rfl (pgs_cons (pg_name (i := 2) sc_belt_prices.nd rfl (Or.inl rfl)) (pgs_cons (pg_name (i := 3) sc_belt_prices.nd rfl (Or.inr rfl)) pgs_nil))))
      (pss_cons (ps_setLc (i := 4) (own := [("way", 5)]) (g := gName 5) (tt := tYes) (by rfl) sc_belt_prices.nd rfl rfl (sw_true rfl rfl rfl (by decide +kernel)) (pi_listK K rfl (pv 1)) (blkOk_by (own := [("way", 5)]) (N := N_belt_prices) (sc := defScope s_belt_prices) (by decide +kernel)) (fun _ _ _ _ _ => (pg_name (i := 5) sc_belt_prices.nd rfl (Or.inl rfl))) (fun _ _ _ _ _ => pts_nil) (fun _ _ _ _ _ => (pe_tup (pa_cons (pe_ix (ix_tupK K rfl) (pv 5) pe_int (fun _ _ => rfl)) (pa_cons (pe_ix (ix_tupK K rfl) (pe_ix (ix_tupK K rfl) (pv 3) (pe_ix (ix_tupK K rfl) (pe_ix (ix_tupK K rfl) (pv 5) pe_int (fun _ _ => rfl)) (pe_un un_neg pe_int) (fun _ _ => rfl)) (fun _ _ => rfl)) pe_int (fun _ _ => rfl)) pa_nil)))))
      (PSs.to (pss_cons (ps_set (i := 6) sc_belt_prices.nd rfl (Or.inr rfl) (pe_lc (own := [("giver", 7), ("taker", 8), ("things", 9)]) (g := gTup K 3 (gCons (gName 7) (gCons (gName 8) (gCons (gName 9) gNil)))) (tt := tYes) (by rfl) sc_belt_prices.nd (pi_tupK K rfl (pv 3)) (blkOk_by (own := [("giver", 7), ("taker", 8), ("things", 9)]) (N := N_belt_prices) (sc := defScope s_belt_prices) (by decide +kernel)) (fun _ _ _ _ _ => (pg_tupK K rfl rfl (pgs_cons (pg_name (i := 7) sc_belt_prices.nd rfl (Or.inl rfl)) (pgs_cons (pg_name (i := 8) sc_belt_prices.nd rfl (Or.inl rfl)) (pgs_cons (pg_name (i := 9) sc_belt_prices.nd rfl (Or.inl rfl)) pgs_nil))))) (fun _ _ _ _ _ => pts_nil) (fun _ _ _ _ _ => (pe_tup (pa_cons (pv 7) (pa_cons (pv 8) pa_nil))))))
      (pss_one (ps_ret (pe_lc (own := [("pair", 10)]) (g := gName 10) (tt := tYes) (by rfl) sc_belt_prices.nd (pi_listK K rfl (pv 4)) (blkOk_by (own := [("pair", 10)]) (N := N_belt_prices) (sc := defScope s_belt_prices) (by decide +kernel)) (fun _ _ _ _ _ => (pg_name (i := 10) sc_belt_prices.nd rfl (Or.inl rfl))) (fun _ _ _ _ _ => pts_nil) (fun _ _ _ _ _ => (pe_bmK K rfl PySem.F.plainAttrs_list PySem.F.slot_list_count PySem.F.type_list_count (mt_countDK K rfl (hu65 hr)) (pv 6) (pa_cons (pv 10) pa_nil))))))) R1 ?tail1))), ?_⟩
  case tail1 =>
    rintro D' σ' H1 ⟨eD, D, pv, rfl, hD, alp, s1⟩
    have lpv := alp.length
    rw [List.length_map] at lpv
    refine ⟨_, rfl, ba, rfl, ⟨_, SqT.of (s1 _ _ eb)⟩, fun D2 nD2 => lc_tup (K := K) (a := ba) (xs := bv) (fun i H5 => ∃ lv : List V, H5 D2 = some (.lst lv) ∧ All2 (PgAt H5) lv ((bs.take i).map fun b => (b.one, b.to)) ∧ Same H1 H5) ⟨[], upd_same, .nil, same_new nD2⟩ (fun i H5 _ ⟨_, _, _, s5⟩ => SqT.of (s5 _ _ (s1 _ _ eb))) ?_ ?_⟩
    · rintro i x H5 hx ⟨lv, hD2, al, s5⟩
      obtain ⟨b, eb2, ⟨t, g, rfl, e1, e2⟩⟩ := alb.getL hx
      have il := (List.getElem?_eq_some_iff.mp eb2).1
      have llv := al.length
      rw [List.length_map, List.length_take] at llv
      refine ⟨t, _, rfl, SqT.of (s5 _ _ (s1 _ _ e1)), rfl, _, _, rfl, _, _, rfl, _, _, rfl, rfl, rfl, yes_in ?_⟩
      refine ⟨_, rfl, _, rfl, (by show 2 ≤ sizeLine; decide), fun tt ntt => ?_⟩
      have s6 := same_new (o := .tup [nV b.one, nV b.to]) ntt
      have hD6 := s6 _ _ hD2
      refine ⟨lv, hD6, small1000 (by omega), lv ++ [V.ref tt], upd_same, ?_, Same.own (s5.trans s6) nD2⟩
      rw [List.take_add_one, eb2, List.map_append]
      exact ((al.imp fun _ _ z => z.keep (TK.same s6)).snoc ⟨tt, rfl, upd_same⟩).imp fun _ _ z => z.keep (TK.lst hD6)
    rintro H2 ⟨lv, hD2, all_, s2⟩
    rw [lbv, List.take_length] at all_
    refine ⟨_, rfl, D, rfl, ⟨_, SqL.of (s2 _ _ hD)⟩, fun D3 nD3 => lc_list (K := K) (a := D) (xs := pv) (fun i H5 => H5 D3 = some (.lst (((gs.take i).map (cntY bs)).map V.int)) ∧ Same H2 H5) ⟨upd_same, same_new nD3⟩ (fun i H5 _ ⟨_, s5⟩ => SqL.of (s5 _ _ (s2 _ _ hD))) ?_ ?_⟩
    · rintro i x H5 hx ⟨hD3, s5⟩
      obtain ⟨pp, epp, at_⟩ := alp.getL hx
      rw [List.getElem?_map] at epp
      cases ey : gs[i]? with
      | none => rw [ey] at epp; cases epp
      | some y =>
        rw [ey] at epp
        cases epp
        have il := (List.getElem?_eq_some_iff.mp ey).1
        have k25 := TK.same (s2.trans s5)
        have dpl : DpAll K H5 lv ((bs.map fun b => (b.one, b.to)).map prD) := pgs_dp (all_.imp fun _ _ z => z.keep (TK.same s5))
        have dpx : Dp K H5 x (prD (y.one, y.e)) := pg_dp (at_.keep k25)
        refine ⟨rfl, yes_in ⟨_, rfl, .inl ⟨rfl, _, SqL.of (s5 _ _ hD2)⟩, _, rfl, D2, x, lv, prD (y.one, y.e), (bs.map fun b => (b.one, b.to)).map prD, rfl, rfl, SqL.of (s5 _ _ hD2), dpl, dpx, pr_plain, (pr_one _).1, (pr_one _).2, _, hD3, by rw [List.length_map, List.length_map, List.length_take]; exact small1000 (by omega), ?_, Same.own s5 nD3⟩⟩
        rw [upd_same, List.take_add_one, ey, List.map_append, List.map_append, cnt_of]
        rfl
    rintro H3 ⟨hD3, s3⟩
    rw [lpv, List.take_length] at hD3
    rw [eD]
    exact q D3 H3 (same_none (s1.trans s2) nD3) hD3 ((s1.trans s2).trans s3)
  refine ⟨_, rfl, r, _, rfl, SqT.of er, rfl, _, _, rfl, _, _, rfl, rfl, ?_⟩
  refine ⟨_, rfl, wl, rfl, ⟨_, SqL.of hwl⟩, fun D nD => lc_list (K := K) (a := wl) (xs := wv) (fun i H5 => ∃ pv : List V, H5 D = some (.lst pv) ∧ All2 (PgAt H5) pv ((gs.take i).map fun y => (y.one, y.e)) ∧ Same H H5) ⟨[], upd_same, .nil, same_new nD⟩ (fun i H5 _ ⟨_, _, _, s5⟩ => SqL.of (s5 _ _ hwl)) ?_ ?_⟩
  · rintro i x H5 hx ⟨pv, hD, al, s5⟩
    obtain ⟨y, ey, ⟨p, rfl, ⟨g, hp, hg⟩⟩⟩ := alw.getL hx
    have il := (List.getElem?_eq_some_iff.mp ey).1
    obtain ⟨o, ne⟩ := good y (List.mem_of_getElem? ey)
    obtain ⟨ms, n, en⟩ : ∃ ms n, y.ns = ms ++ [n] := by
      rcases List.eq_nil_or_concat y.ns with z | ⟨ms, n, z⟩
      · exact absurd z ne
      · exact ⟨ms, n, by rw [z, List.concat_eq_append]⟩
    have we := o.we
    rw [en] at we hg
    obtain ⟨b, en2, _, to⟩ := wayEnd_unsnoc we
    obtain ⟨x1, ex1, ⟨t, g2, rfl, e1, e2⟩⟩ := alb.get en2
    have lpv := al.length
    rw [List.length_map, List.length_take] at lpv
    have hg5 : H5 g = some (.tup (ms.map nV ++ [nV n])) := by rw [s5 _ _ hg, List.map_append]; rfl
    refine ⟨rfl, yes_in ?_⟩
    refine ⟨_, rfl, p, _, _, _, rfl, rfl, SqT.of (s5 _ _ hp), atI_nat (j := 0) rfl, ?_⟩
    refine ⟨_, rfl, _, rfl, p, _, _, _, rfl, rfl, SqT.of (s5 _ _ hp), atI_nat (j := 1) rfl, 1, rfl, g, _, _, _, rfl, rfl, SqT.of hg5, atI_last _ _, ba, _, _, _, rfl, rfl, SqT.of (s5 _ _ eb), atI_nat ex1, t, _, _, _, rfl, rfl, SqT.of (s5 _ _ e1), atI_nat (j := 1) rfl, (by show 2 ≤ sizeLine; decide), fun tt ntt => ?_⟩
    have s6 := same_new (o := .tup [nV y.one, nV b.to]) ntt
    have hD6 := s6 _ _ hD
    refine ⟨pv, hD6, small1000 (by omega), pv ++ [V.ref tt], upd_same, ?_, Same.own (s5.trans s6) nD⟩
    rw [List.take_add_one, ey, List.map_append]
    exact ((al.imp fun _ _ z => z.keep (TK.same s6)).snoc ⟨tt, rfl, by rw [upd_same, to]⟩).imp fun _ _ z => z.keep (TK.lst hD6)
  rintro H1 ⟨pv, hD, alp, s1⟩
  rw [lwv, List.take_length] at alp
  exact ⟨rfl, D, pv, rfl, hD, alp, s1⟩
/-- an entry of a turn -/
def TnAt (H : Hp) (v : V) (x : Nat × Int) : Prop := ∃ t : Addr, v = .ref t ∧ H t = some (.tup [nV x.1, .int x.2])
theorem TnAt.keep {H H' : Hp} {v : V} {x : Nat × Int} (h : TnAt H v x) (k : TK H H') : TnAt H' v x := by
  obtain ⟨t, e, h⟩ := h
  exact ⟨t, e, k _ _ h⟩
def sp_levels_or_turn (K : PySem.W.Frag) : Sp := fun vs H Q _ => ∃ (r sl pl : Addr) (hs : List HR) (bs : List BR) (st : List St3) (pr : List Int), vs = [.ref r, .ref sl, .ref pl] ∧ RoomAt H r hs bs ∧ RoomOk hs bs ∧ StepsAt H sl st ∧ (∀ s ∈ st, s.u < hs.length + 1 ∧ s.v < hs.length + 1) ∧ st.length ≤ 144 ∧ H pl = some (.lst (pr.map V.int)) ∧ pr.length = st.length ∧
  (∀ (p ll : Addr) (lv : Nat → Int) (H' : Hp), H' p = some (.tup [.ref ll, .non]) → H' ll = some (.lst (levL (hs.length + 1) lv)) → (∀ s ∈ st ++ bks st pr, lv s.u + s.w ≤ lv s.v) → LvIs (st ++ bks st pr) (hs.length + 1) lv → Same H H' → Q (.ref p) H') ∧
  ∀ (p tl : Addr) (tv : List V) (ks : List Nat) (H' : Hp), H tl = none → H' p = some (.tup [.non, .ref tl]) → H' tl = some (.lst tv) → All2 (TnAt H') tv (ks.map (trn st.length (pdL pr))) → RingOk (st ++ bks st pr) ks → ks.length ≤ 13 → RgIs (st ++ bks st pr) (hs.length + 1) ks → Same H H' → Q (.ref p) H'
theorem ok_levels_or_turn {f : Addr} {fd : FuncData} (F : Fun K "levels_or_turn" "levels_or_turn" s_levels_or_turn f fd) (T : Top K mg) : FnOk P w K mg base CX0 3 f fd ["room", "steps", "prices"] (sp_levels_or_turn K) := by
  obtain ⟨f_levels_or_ring, fd_levels_or_ring, F_levels_or_ring, b_levels_or_ring, m_levels_or_ring⟩ := T.d_levels_or_ring
  have G_levels_or_ring := ok_levels_or_ring (P := P) (w := w) (base := base) F_levels_or_ring T
  refine F.ok sc_levels_or_turn (fun vs H Q E h => ?_) (fun cdv A outer s H vs Q E hr h => ?_)
  · obtain ⟨r, sl, pl, hs, bs, st, pr, rfl, _⟩ := h
    rfl
  obtain ⟨r, sl, pl, hs, bs, st, pr, rfl, hR, ok, ⟨sv, hsl, als⟩, bd, few, hpl, epr, q1, q2⟩ := h
  obtain ⟨ha, ba, hv, bv, er, eh, eb, alh, alb⟩ := id hR.ex
  have lhv := alh.length
  have lh := ok.hands
  have lsv := als.length
  have lpd := pd_len (pr := pr)
  refine ⟨_, (pss_cons (ps_set (i := 3) sc_levels_or_turn.nd rfl (Or.inr rfl) (pe_lc (own := [("number", 4), ("many", 5)]) (g := gTup K 2 (gCons (gName 4) (gCons (gName 5) gNil))) (by rfl) sc_levels_or_turn.nd (pi_enumK K rfl (by rfl) T.m_enumerate (pa_cons (pv 2) pa_nil)) (blkOk_by (own := [("number", 4), ("many", 5)]) (N := N_levels_or_turn) (sc := defScope s_levels_or_turn) (by decide +kernel)) (fun _ _ _ _ _ => (pg_tupK K rfl rfl (pgs_cons (pg_name (i := 4) sc_levels_or_turn.nd rfl (Or.inl rfl)) (pgs_cons (pg_name (i := 5) sc_levels_or_turn.nd rfl (Or.inl rfl)) pgs_nil)))) (fun _ _ _ _ _ => pts_one (pt_cmpR op_gt (pv 5) pe_int (nomark _))) (fun _ _ _ _ _ => (pv 4))))
      (pss_cons (ps_setLc (i := 6) (own := [("number", 4)]) (g := gName 4) (tt := tYes) (by rfl) sc_levels_or_turn.nd rfl rfl (sw_true rfl rfl rfl (by decide +kernel)) (pi_listK K rfl (pv 3)) (blkOk_by (own := [("number", 4)]) (N := N_levels_or_turn) (sc := defScope s_levels_or_turn) (by decide +kernel)) (fun _ _ _ _ _ => (pg_name (i := 4) sc_levels_or_turn.nd rfl (Or.inl rfl))) (fun _ _ _ _ _ => pts_nil) (fun _ _ _ _ _ => (pe_tup (pa_cons (pe_ix (ix_tupK K rfl) (pe_ix (ix_listK K rfl) (pv 1) (pv 4) (fun _ _ => rfl)) pe_int (fun _ _ => rfl)) (pa_cons (pe_ix (ix_tupK K rfl) (pe_ix (ix_listK K rfl) (pv 1) (pv 4) (fun _ _ => rfl)) pe_int (fun _ _ => rfl)) (pa_cons (pe_un un_neg (pe_ix (ix_tupK K rfl) (pe_ix (ix_listK K rfl) (pv 1) (pv 4) (fun _ _ => rfl)) pe_int (fun _ _ => rfl))) pa_nil))))))
      (pss_cons (ps_asg (pe_call G_levels_or_ring (hr.mono (by decide)) (by rfl) m_levels_or_ring F_levels_or_ring.kp b_levels_or_ring .nil pass0 (pa_cons (pe_op op_add (pe_callB (call_len_seqK K rfl) (by rfl) T.m_len (by decide +kernel) (pa_cons (pe_ix (ix_tupK K rfl) (pv 0) pe_int (fun _ _ => rfl)) pa_nil)) pe_int) (pa_cons (pe_op op_cat (pv 1) (pv 6)) pa_nil))) (pg_tupK K rfl rfl (pgs_cons (pg_name (i := 7) sc_levels_or_turn.nd rfl (Or.inl rfl)) (pgs_cons (pg_name (i := 8) sc_levels_or_turn.nd rfl (Or.inl rfl)) pgs_nil))))
      (pss_cons (ps_if (pt_cmpR op_isN (pv 8) pe_non (nomark _)) (pss_one (ps_ret (pe_tup (pa_cons (pv 7) (pa_cons pe_non pa_nil))))) pss_nil)
      (pss_cons (ps_set (i := 9) sc_levels_or_turn.nd rfl (Or.inr rfl) (pe_callB (call_len_seqK K rfl) (by rfl) T.m_len (by decide +kernel) (pa_cons (pv 1) pa_nil)))
      (pss_cons (ps_setLc (i := 10) (own := [("number", 4)]) (g := gName 4) (tt := tYes) (by rfl) sc_levels_or_turn.nd rfl rfl (sw_true rfl rfl rfl (by decide +kernel)) (pi_listK K rfl (pv 8)) (blkOk_by (own := [("number", 4)]) (N := N_levels_or_turn) (sc := defScope s_levels_or_turn) (by decide +kernel)) (fun _ _ _ _ _ => (pg_name (i := 4) sc_levels_or_turn.nd rfl (Or.inl rfl))) (fun _ _ _ _ _ => pts_nil) (fun _ _ _ _ _ => (pe_ifExp (pt_cmpR op_lt (pv 4) (pv 9) (nomark _)) (pe_tup (pa_cons (pv 4) (pa_cons pe_int pa_nil))) (pe_tup (pa_cons (pe_ix (ix_listK K rfl) (pv 3) (pe_op op_sub (pv 4) (pv 9)) (fun _ _ => rfl)) (pa_cons (pe_un un_neg pe_int) pa_nil))))))
      (pss_one (ps_ret (pe_tup (pa_cons pe_non (pa_cons (pv 10) pa_nil))))))))))), ?_⟩
  refine ⟨_, rfl, pl, _, rfl, SqL.of hpl, fun D nD => lc_it (J := Ite K pl) (n := pr.length) (fun i H5 => H5 D = some (.lst (((List.range i).filter fun j => decide (0 < pr.getD j 0)).map nV)) ∧ Same H H5) ⟨upd_same, same_new nD⟩ ?_ ?_ ?_ ?_⟩
  · rintro i H5 hi ⟨hD, s5⟩
    exact ⟨_, _, SqL.of (s5 _ _ hpl), List.getElem?_eq_getElem (by rw [List.length_map]; exact hi)⟩
  · rintro H5 ⟨hD, s5⟩
    exact ⟨_, SqL.of (s5 _ _ hpl), by rw [List.length_map]; exact Nat.le_refl _⟩
  · rintro i x H5 H6 hi ⟨hD, s5⟩ ⟨tt, y, rfl, ntt, rfl, fy⟩
    have ey := fy _ (SqL.of (s5 _ _ hpl))
    have e1 : pr[i]? = some pr[i] := List.getElem?_eq_getElem hi
    rw [List.getElem?_map, e1] at ey
    obtain rfl : y = .int pr[i] := (Option.some.inj ey).symm
    have s6 := s5.trans (same_new (o := .tup [V.int ((i : Nat) : Int), V.int pr[i]]) ntt)
    have hD6 := same_new (o := .tup [V.int ((i : Nat) : Int), V.int pr[i]]) ntt _ _ hD
    have fl := filt_len (p := fun j => decide (0 < pr.getD j 0)) i
    refine ⟨tt, _, rfl, SqT.of upd_same, rfl, _, _, rfl, _, _, rfl, rfl, rfl, _, rfl, _, _, rfl, rfl, _, rfl, if_bl (fun c => ?_) (fun c => ?_)⟩
    · have c : 0 < pr[i] := of_decide_eq_true c
      refine ⟨_, rfl, _, hD6, by rw [List.length_map]; exact small1000 (by omega), ?_, Same.own s6 nD⟩
      rw [upd_same, filt_succ, if_pos (decide_eq_true (by rw [getD_some e1]; exact c)), List.map_append]
      rfl
    · have c : ¬ 0 < pr[i] := of_decide_eq_false c
      refine ⟨?_, s6⟩
      rw [filt_succ, if_neg fun z => c (by have := of_decide_eq_true z; rw [getD_some e1] at this; exact this), List.append_nil]
      exact hD6
  rintro H1 ⟨hD, s1⟩
  have hD : H1 D = some (.lst ((pdL pr).map nV)) := hD
  refine ⟨_, rfl, D, rfl, ⟨_, SqL.of hD⟩, fun D2 nD2 => lc_list (K := K) (a := D) (xs := (pdL pr).map nV) (fun i H5 => ∃ cv : List V, H5 D2 = some (.lst cv) ∧ All2 (StepAt H5) cv (((pdL pr).take i).map (bkS st)) ∧ Same H1 H5) ⟨[], upd_same, .nil, same_new nD2⟩ (fun i H5 _ ⟨_, _, _, s5⟩ => SqL.of (s5 _ _ hD)) ?_ ?_⟩
  · rintro i v H5 hx ⟨cv, hD2, al, s5⟩
    obtain ⟨k, ek, rfl⟩ := nats_at hx
    have kl := (pd_mem.mp (List.mem_of_getElem? ek)).1
    have es : st[k]? = some (st[k]'(by omega)) := List.getElem?_eq_getElem (by omega)
    generalize st[k]'(by omega) = s at es
    obtain ⟨x, ex, ⟨t, rfl, ht⟩⟩ := als.get es
    have lcv := al.length
    rw [List.length_map, List.length_take] at lcv
    have il := (List.getElem?_eq_some_iff.mp ek).1
    have s15 := s1.trans s5
    have at_ := SqL.of (K := K) (s15 _ _ hsl)
    refine ⟨rfl, yes_in ?_⟩
    refine ⟨_, rfl, _, rfl, sl, _, _, _, rfl, rfl, at_, atI_nat ex, t, _, _, _, rfl, rfl, SqT.of (s15 _ _ ht), atI_nat (j := 1) rfl, ?_⟩
    refine ⟨_, rfl, _, rfl, sl, _, _, _, rfl, rfl, at_, atI_nat ex, t, _, _, _, rfl, rfl, SqT.of (s15 _ _ ht), atI_nat (j := 0) rfl, ?_⟩
    refine ⟨_, rfl, _, rfl, sl, _, _, _, rfl, rfl, at_, atI_nat ex, t, _, _, _, rfl, rfl, SqT.of (s15 _ _ ht), atI_nat (j := 2) rfl, _, rfl, (by show 3 ≤ sizeLine; decide), fun tt ntt => ?_⟩
    have s6 := same_new (o := .tup [nV s.v, nV s.u, V.int (-s.w)]) ntt
    have hD6 := s6 _ _ hD2
    refine ⟨cv, hD6, small1000 (by omega), cv ++ [V.ref tt], upd_same, ?_, Same.own (s5.trans s6) nD2⟩
    rw [List.take_add_one, ek, List.map_append]
    refine ((al.imp fun _ _ z => z.keep (TK.same s6)).snoc ⟨tt, rfl, ?_⟩).imp fun _ _ z => z.keep (TK.lst hD6)
    rw [upd_same]
    show _ = some (HO.tup [nV (bkS st k).u, nV (bkS st k).v, V.int (bkS st k).w])
    unfold bkS
    rw [es]
  rintro H2 ⟨cv, hD2, alc, s2⟩
  rw [List.length_map, List.take_length] at alc
  have lcv := alc.length
  rw [List.length_map] at lcv
  have s12 := s1.trans s2
  refine ⟨_, rfl, r, _, _, _, rfl, rfl, SqT.of (s12 _ _ er), atI_nat (j := 0) rfl, ha, _, rfl, .inr (SqT.of (s12 _ _ eh)), _, _, rfl, rfl, _, rfl, _, rfl, sl, D2, _, _, rfl, rfl, s12 _ _ hsl, hD2, little (by omega), fun cl ncl => ?_⟩
  have s23 := same_new (o := .lst (sv ++ cv)) ncl
  have hcl : (upd H2 cl (.lst (sv ++ cv))) cl = some (.lst (sv ++ cv)) := upd_same
  generalize upd H2 cl (.lst (sv ++ cv)) = H3 at s23 hcl ⊢
  have All2.app : ∀ {R : V → St3 → Prop} {as cs : List V} {bs ds : List St3}, All2 R as bs → All2 R cs ds → All2 R (as ++ cs) (bs ++ ds) := fun {R as cs bs ds} a b => by
    induction a with
    | nil => exact b
    | cons h t ih => exact .cons h ih
  have s3 := s12.trans s23
  have alA : All2 (StepAt H3) (sv ++ cv) (st ++ bks st pr) := All2.app (als.imp fun _ _ z => z.keep (TK.same s3)) (alc.imp fun _ _ z => z.keep (TK.same s23))
  refine ⟨cl, hs.length + 1, st ++ bks st pr, (by rw [lhv]; rfl), ⟨_, hcl, alA⟩, fun s hs' => ?_, by rw [List.length_append, List.length_map]; omega, by omega, fun p ll lv H4 hp hll f nn lvi s4 => ?_, fun p rl ks H4 hp hrl ring lk rgi s4 => ?_⟩
  · rcases List.mem_append.mp hs' with z | z
    · exact bd s z
    · obtain ⟨i, hi, rfl⟩ := List.mem_map.mp z
      have il := (pd_mem.mp hi).1
      have es : st[i]? = some (st[i]'(by omega)) := List.getElem?_eq_getElem (by omega)
      have := bd _ (List.mem_of_getElem? es)
      unfold bkS
      rw [es]
      exact ⟨this.2, this.1⟩
  · refine ⟨p, _, rfl, SqT.of hp, rfl, _, _, rfl, _, _, rfl, rfl, ?_⟩
    refine ⟨_, rfl, rfl, _, rfl, if_bl (fun _ => ?_) (fun z => absurd rfl (of_decide_eq_false z))⟩
    refine ⟨_, rfl, (by show 2 ≤ sizeLine; decide), fun p2 np2 => ?_⟩
    have s5 := same_new (o := .tup [V.ref ll, V.non]) np2
    exact q1 p2 ll lv _ upd_same (s5 _ _ hll) f lvi ((s3.trans s4).trans s5)
  · refine ⟨p, _, rfl, SqT.of hp, rfl, _, _, rfl, _, _, rfl, rfl, ?_⟩
    refine ⟨_, rfl, rfl, _, rfl, if_bl (fun z => absurd (of_decide_eq_true z) (fun y => nomatch y)) (fun _ => ?_)⟩
    have s04 := s3.trans s4
    refine ⟨_, rfl, sl, _, rfl, .inl (SqL.of (s04 _ _ hsl)), ?_⟩
    have hD4 := s4 _ _ (s23 _ _ (s2 _ _ hD))
    refine ⟨_, rfl, rl, rfl, ⟨_, SqL.of hrl⟩, fun D3 nD3 => lc_list (K := K) (a := rl) (xs := ks.map nV) (fun i H5 => ∃ tv : List V, H5 D3 = some (.lst tv) ∧ All2 (TnAt H5) tv ((ks.take i).map (trn st.length (pdL pr))) ∧ Same H4 H5) ⟨[], upd_same, .nil, same_new nD3⟩ (fun i H5 _ ⟨_, _, _, s5⟩ => SqL.of (s5 _ _ hrl)) ?_ ?_⟩
    · rintro i v H5 hx ⟨tv, hD3, al, s5⟩
      obtain ⟨k, ek, rfl⟩ := nats_at hx
      have il := (List.getElem?_eq_some_iff.mp ek).1
      have kl := ring.lt k (List.mem_of_getElem? ek)
      have ltv := al.length
      rw [List.length_map, List.length_take] at ltv
      have fin : ∀ (tt : Addr) (z : Nat × Int), H5 tt = none → z = trn st.length (pdL pr) k → ∃ acc, (upd H5 tt (.tup [nV z.1, V.int z.2])) D3 = some (.lst acc) ∧ acc.length < sizeLine ∧ ∃ tv' : List V, (upd (upd H5 tt (.tup [nV z.1, V.int z.2])) D3 (.lst (acc ++ [V.ref tt]))) D3 = some (.lst tv') ∧ All2 (TnAt (upd (upd H5 tt (.tup [nV z.1, V.int z.2])) D3 (.lst (acc ++ [V.ref tt])))) tv' ((ks.take (i + 1)).map (trn st.length (pdL pr))) ∧ Same H4 (upd (upd H5 tt (.tup [nV z.1, V.int z.2])) D3 (.lst (acc ++ [V.ref tt]))) := fun tt z ntt ez => by
        have s6 := same_new (o := .tup [nV z.1, V.int z.2]) ntt
        have hD6 := s6 _ _ hD3
        refine ⟨tv, hD6, small1000 (by omega), tv ++ [V.ref tt], upd_same, ?_, Same.own (s5.trans s6) nD3⟩
        rw [List.take_add_one, ek, List.map_append]
        exact ((al.imp fun _ _ z => z.keep (TK.same s6)).snoc ⟨tt, rfl, by rw [upd_same, ez]⟩).imp fun _ _ z => z.keep (TK.lst hD6)
      refine ⟨rfl, yes_in ?_⟩
      refine ⟨_, rfl, _, rfl, _, _, rfl, rfl, _, rfl, if_bl (fun c => ?_) (fun c => ?_)⟩
      · have c : ((k : Nat) : Int) < ((sv.length : Nat) : Int) := of_decide_eq_true c
        refine ⟨_, rfl, (by show 2 ≤ sizeLine; decide), fun tt ntt => ?_⟩
        exact fin tt (k, 1) ntt (by unfold trn; rw [if_pos (by omega)])
      · have c : ¬ ((k : Nat) : Int) < ((sv.length : Nat) : Int) := of_decide_eq_false c
        obtain ⟨j, s, p1, _, _, p4⟩ := bks_at epr (by omega) kl
        have ex : ((pdL pr).map nV)[k - st.length]? = some (nV j) := by rw [List.getElem?_map, p1]; rfl
        refine ⟨_, rfl, _, rfl, _, rfl, _, _, rfl, rfl, D, _, _, nV j, rfl, rfl, SqL.of (s5 _ _ hD4), ?_, 1, rfl, (by show 2 ≤ sizeLine; decide), fun tt ntt => ?_⟩
        · rw [show ((k : Nat) : Int) - ((sv.length : Nat) : Int) = ((k - st.length : Nat) : Int) by omega]
          exact atI_nat ex
        · exact fin tt (j, -1) ntt p4.symm
    rintro H5 ⟨tv, hD3, alt, s5⟩
    rw [List.length_map, List.take_length] at alt
    refine ⟨_, rfl, (by show 2 ≤ sizeLine; decide), fun p2 np2 => ?_⟩
    have s6 := same_new (o := .tup [V.non, V.ref D3]) np2
    exact q2 p2 D3 tv ks _ (same_none s04 nD3) upd_same (s6 _ _ hD3) (alt.imp fun _ _ z => z.keep (TK.same s6)) ring (by omega) rgi ((s04.trans s5).trans s6)
def sp_turn_prices (K : PySem.W.Frag) : Sp := fun vs H Q _ => ∃ (pl tl : Addr) (pr : List Int) (tv : List V) (tr : List (Nat × Int)), vs = [.ref pl, .ref tl] ∧ H pl = some (.lst (pr.map V.int)) ∧ H tl = some (.lst tv) ∧ pl ≠ tl ∧ All2 (TnAt H) tv tr ∧ (∀ x ∈ tr, x.1 < pr.length ∧ (x.2 = 1 ∨ x.2 = -1)) ∧ (∃ x ∈ tr, x.2 < 0) ∧ tr.length ≤ 100 ∧
  ∀ (far : Int) (H' : Hp), (∃ x ∈ tr, x.2 < 0 ∧ far = pr.getD x.1 0) → (∀ x ∈ tr, x.2 < 0 → far ≤ pr.getD x.1 0) → H' pl = some (.lst ((turnP far tr pr).map V.int)) → But pl H H' → Q .non H'
theorem ok_turn_prices {f : Addr} {fd : FuncData} (F : Fun K "turn_prices" "turn_prices" s_turn_prices f fd) (T : Top K mg) : FnOk P w K mg base CX0 1 f fd ["prices", "turn"] (sp_turn_prices K) := by
  refine F.ok sc_turn_prices (fun vs H Q E h => ?_) (fun cdv A outer s H vs Q E hr h => ?_)
  · obtain ⟨pl, tl, pr, tv, tr, rfl, _⟩ := h
    rfl
  obtain ⟨pl, tl, pr, tv, tr, rfl, hpl, htl, ptl, alt, good, ⟨x0, hx0, nx0⟩, few, q⟩ := h
  have ltv := alt.length
  refine ⟨_, (pss_cons (ps_set (i := 2) sc_turn_prices.nd rfl (Or.inl rfl) (pe_callB (cr_minKK K rfl rfl) (by rfl) T.m_min (by decide +kernel) (pa_cons (pe_lc (own := [("number", 3), ("change", 4)]) (g := gTup K 2 (gCons (gName 3) (gCons (gName 4) gNil))) (by rfl) sc_turn_prices.nd (pi_listK K rfl (pv 1)) (blkOk_by (own := [("number", 3), ("change", 4)]) (N := N_turn_prices) (sc := defScope s_turn_prices) (by decide +kernel)) (fun _ _ _ _ _ => (pg_tupK K rfl rfl (pgs_cons (pg_name (i := 3) sc_turn_prices.nd rfl (Or.inl rfl)) (pgs_cons (pg_name (i := 4) sc_turn_prices.nd rfl (Or.inl rfl)) pgs_nil)))) (fun _ _ _ _ _ => pts_one (pt_cmpR op_lt (pv 4) pe_int (nomark _))) (fun _ _ _ _ _ => (pe_ix (ix_listK K rfl) (pv 0) (pv 3) (fun _ _ => rfl)))) pa_nil)))
      (pss_one (ps_for PassesOwn.never rfl (pi_listK K rfl (pv 1)) (pg_tupK K rfl rfl (pgs_cons (pg_name (i := 3) sc_turn_prices.nd rfl (Or.inl rfl)) (pgs_cons (pg_name (i := 4) sc_turn_prices.nd rfl (Or.inl rfl)) pgs_nil)))
        (pss_one (ps_augS (pv 0) (pv 3) (get_listK K rfl) (pe_op op_mul (pv 4) (pv 2)) ip_add set_list))))), ?_⟩
  refine ⟨_, rfl, tl, rfl, ⟨_, SqL.of htl⟩, fun D nD => lc_list (K := K) (a := tl) (xs := tv) (fun i H5 => H5 D = some (.lst ((((tr.take i).filter fun x => decide (x.2 < 0)).map fun x => pr.getD x.1 0).map V.int)) ∧ Same H H5) ⟨upd_same, same_new nD⟩ (fun i H5 _ ⟨_, s5⟩ => SqL.of (s5 _ _ htl)) ?_ ?_⟩
  · rintro i v H5 hx ⟨hD, s5⟩
    obtain ⟨x, ex, ⟨t, rfl, ht⟩⟩ := alt.getL hx
    have il := (List.getElem?_eq_some_iff.mp ex).1
    obtain ⟨xl, _⟩ := good x (List.mem_of_getElem? ex)
    have e1 : pr[x.1]? = some pr[x.1] := List.getElem?_eq_getElem xl
    have ev : (pr.map V.int)[x.1]? = some (V.int (pr.getD x.1 0)) := by rw [List.getElem?_map, e1, getD_some e1]; rfl
    have fl : ((tr.take i).filter fun x => decide (x.2 < 0)).length ≤ 100 := Nat.le_trans (List.length_filter_le ..) (by rw [List.length_take]; omega)
    refine ⟨t, _, rfl, SqT.of (s5 _ _ ht), rfl, _, _, rfl, _, _, rfl, rfl, rfl, _, rfl, _, _, rfl, rfl, _, rfl, if_bl (fun c => ?_) (fun c => ?_)⟩
    · have c : x.2 < 0 := of_decide_eq_true c
      refine ⟨_, rfl, _, rfl, pl, _, _, _, rfl, rfl, SqL.of (s5 _ _ hpl), atI_nat ev, _, hD, by rw [List.length_map, List.length_map]; exact small1000 (by omega), ?_, Same.own s5 nD⟩
      rw [upd_same, List.take_add_one, ex]
      show _ = some (HO.lst ((((tr.take i ++ [x]).filter fun x => decide (x.2 < 0)).map fun x => pr.getD x.1 0).map V.int))
      rw [List.filter_append, List.filter_cons, if_pos (decide_eq_true c), List.map_append, List.map_append]
      rfl
    · have c : ¬ x.2 < 0 := of_decide_eq_false c
      refine ⟨?_, s5⟩
      rw [hD, List.take_add_one, ex]
      show _ = some (HO.lst ((((tr.take i ++ [x]).filter fun x => decide (x.2 < 0)).map fun x => pr.getD x.1 0).map V.int))
      rw [List.filter_append, List.filter_cons, if_neg (by rw [decide_eq_false c]; exact Bool.false_ne_true), List.filter_nil, List.append_nil]
  rintro H1 ⟨hD, s1⟩
  rw [ltv, List.take_length] at hD
  refine ⟨D, (tr.filter fun x => decide (x.2 < 0)).map fun x => pr.getD x.1 0, rfl, SqL.of hD, ?_, fun far hm hle => ?_⟩
  · rw [List.length_map]
    exact List.length_pos_iff.mpr fun z => by
      have : x0 ∈ tr.filter fun x => decide (x.2 < 0) := List.mem_filter.mpr ⟨hx0, decide_eq_true nx0⟩
      rw [z] at this
      cases this
  obtain ⟨x1, hx1, ef⟩ := List.mem_map.mp hm
  obtain ⟨m1, m2⟩ := List.mem_filter.mp hx1
  have low : ∀ x ∈ tr, x.2 < 0 → far ≤ pr.getD x.1 0 := fun x hx nx => hle _ (List.mem_map.mpr ⟨x, List.mem_filter.mpr ⟨hx, decide_eq_true nx⟩, rfl⟩)
  refine ⟨_, rfl, tl, rfl, ⟨_, SqL.of (s1 _ _ htl)⟩, for_list (K := K) (a := tl) (xs := tv) (fun i σ H5 => ∃ (v3 v4 : Option V), σ = [some (.ref pl), some (.ref tl), some (.int far), v3, v4] ∧ H5 pl = some (.lst ((turnP far (tr.take i) pr).map V.int)) ∧ But pl H H5) ⟨none, none, rfl, s1 _ _ hpl, But.of s1⟩ (fun i σ H5 _ ⟨_, _, _, _, b5⟩ => SqL.of (b5 _ _ htl ptl.symm)) ?_ ?_⟩
  · rintro i v σ H5 hx ⟨v3, v4, rfl, h5, b5⟩
    obtain ⟨x, ex, ⟨t, rfl, ht⟩⟩ := alt.getL hx
    have il := (List.getElem?_eq_some_iff.mp ex).1
    obtain ⟨xl, ch⟩ := good x (List.mem_of_getElem? ex)
    have tpl : t ≠ pl := ne_of ht hpl (fun z => nomatch z)
    have lt2 := turnP_len (far := far) (tr := tr.take i) (pr := pr)
    have e1 : (turnP far (tr.take i) pr)[x.1]? = some ((turnP far (tr.take i) pr)[x.1]'(by omega)) := List.getElem?_eq_getElem (by omega)
    have ev : ((turnP far (tr.take i) pr).map V.int)[x.1]? = some (V.int ((turnP far (tr.take i) pr).getD x.1 0)) := by rw [List.getElem?_map, e1, getD_some e1]; rfl
    refine ⟨t, _, rfl, SqT.of (b5 _ _ ht tpl), rfl, _, _, rfl, _, _, rfl, rfl, ?_⟩
    refine ⟨_, rfl, _, rfl, pl, _, x.1, _, rfl, rfl, SqL.of h5, ev, ?_⟩
    refine ⟨_, rfl, _, rfl, _, _, rfl, rfl, .inl ⟨by rcases ch with c | c <;> rw [c] <;> decide, by rcases ch with c | c <;> rw [c] <;> decide⟩, ?_⟩
    refine ⟨_, _, rfl, rfl, pl, _, _, x.1, rfl, rfl, h5, ixN_nat (by rw [List.length_map]; omega), ?_⟩
    refine ⟨_, _, rfl, ?_, b5.upd⟩
    rw [upd_same]
    have app : ∀ {tr : List (Nat × Int)} {pr : List Int}, turnP far (tr ++ [x]) pr = (turnP far tr pr).set x.1 ((turnP far tr pr).getD x.1 0 + x.2 * far) := fun {tr} => by
      induction tr with
      | nil => intro pr; rfl
      | cons a tr ih => intro pr; exact ih
    rw [List.take_add_one, ex]
    show _ = some (HO.lst ((turnP far (tr.take i ++ [x]) pr).map V.int))
    rw [app, List.map_set]
  · rintro σ H5 ⟨v3, v4, rfl, h5, b5⟩
    rw [ltv, List.take_length] at h5
    exact q far H5 ⟨x1, m1, of_decide_eq_true m2, ef.symm⟩ low h5 b5
end
section
variable {P : Program} {w : World} {K : PySem.W.Frag} {mg : Str → Option Value} {base : Heap}
/-- levels that fit, priced ones at their least; or a turn -/
def LtV (n : Nat) (st : List St3) (pr : List Int) (pl : Addr) (H : Hp) (x y : V) : Prop := (∃ (ll : Addr) (lv : Nat → Int), x = .ref ll ∧ y = .non ∧ H ll = some (.lst (levL (n + 1) lv)) ∧ (∀ s ∈ st ++ bks st pr, lv s.u + s.w ≤ lv s.v) ∧ LvIs (st ++ bks st pr) (n + 1) lv) ∨
  ∃ (tl : Addr) (tv : List V) (ks : List Nat), x = .non ∧ y = .ref tl ∧ H tl = some (.lst tv) ∧ All2 (TnAt H) tv (ks.map (trn st.length (pdL pr))) ∧ RingOk (st ++ bks st pr) ks ∧ ks.length ≤ 13 ∧ pl ≠ tl ∧ RgIs (st ++ bks st pr) (n + 1) ks
theorem ask_lt {r sl pl : Addr} {hs : List HR} {bs : List BR} {st : List St3} {pr : List Int} {H : Hp} {Q : VK} (hR : RoomAt H r hs bs) (ok : RoomOk hs bs) (hS : StepsAt H sl st) (bd : ∀ s ∈ st, s.u < hs.length + 1 ∧ s.v < hs.length + 1) (few : st.length ≤ 144) (hpl : H pl = some (.lst (pr.map V.int))) (ln : pr.length = st.length) (q : ∀ (p : Addr) (x y : V) (H' : Hp), H' p = some (.tup [x, y]) → LtV hs.length st pr pl H' x y → Same H H' → Q (.ref p) H') : sp_levels_or_turn K [.ref r, .ref sl, .ref pl] H Q E0 :=
  ⟨r, sl, pl, hs, bs, st, pr, rfl, hR, ok, hS, bd, few, hpl, ln, fun p ll lv H' hp hll f lvi s => q p _ _ H' hp (.inl ⟨ll, lv, rfl, rfl, hll, f, lvi⟩) s,
    fun p tl tv ks H' ntl hp htl al ring lk rgi s => q p _ _ H' hp (.inr ⟨tl, tv, ks, rfl, rfl, htl, al, ring, lk, ne_of_none hpl ntl, rgi⟩) s⟩
/-- the prices that fewest_trays goes through, till levels stand -/
inductive GoF (st : List St3) (n : Nat) : List Int → List Int → (Nat → Int) → Prop
  | stop {pr : List Int} {lv : Nat → Int} : LvIs (st ++ bks st pr) (n + 1) lv → GoF st n pr pr lv
  | go {pr pr' : List Int} {ks : List Nat} {far : Int} {lv : Nat → Int} : RgIs (st ++ bks st pr) (n + 1) ks → (∃ x ∈ ks.map (trn st.length (pdL pr)), x.2 < 0 ∧ far = pr.getD x.1 0) → (∀ x ∈ ks.map (trn st.length (pdL pr)), x.2 < 0 → far ≤ pr.getD x.1 0) → GoF st n (turnP far (ks.map (trn st.length (pdL pr))) pr) pr' lv → GoF st n pr pr' lv
omit P w K mg base in
theorem GoF.one {st : List St3} {n : Nat} {pr p1 : List Int} {lv1 : Nat → Int} (a : GoF st n pr p1 lv1) : ∀ {p2 : List Int} {lv2 : Nat → Int}, GoF st n pr p2 lv2 → p1 = p2 ∧ lv1 = lv2 := by
  induction a with
  | stop h =>
    intro p2 lv2 b
    cases b with
    | stop g => exact ⟨rfl, h.one g⟩
    | go g _ _ _ => exact (g.not_lv h).elim
  | go h f l _ ih =>
    intro p2 lv2 b
    cases b with
    | stop g => exact (h.not_lv g).elim
    | go g f2 l2 g2 =>
      obtain rfl := h.one g
      obtain ⟨x, x1, x2, x3⟩ := f
      obtain ⟨y, y1, y2, y3⟩ := f2
      have e1 := l y y1 y2
      have e2 := l2 x x1 x2
      rw [← y3] at e1
      rw [← x3] at e2
      obtain rfl := Int.le_antisymm e1 e2
      exact ih g2
def ChF (hs : List HR) (bs : List BR) (ys : List Wy) (l : Nat) (T : Int) (pr : List Int) : Prop := ∀ (p2 : List Int) (lv2 : Nat → Int), GoF (gSt hs ys l T) hs.length pr p2 lv2 → GoF (gSt hs ys l T) hs.length ((gYs hs ys).map (cntY bs)) p2 lv2
def FwT (hs : List HR) (bs : List BR) (l : Nat) (T : Int) (sh : Nat → Int) (ys : List Wy) (pr : List Int) : Prop := YsIs hs bs ys ∧ ∃ lv, GoF (gSt hs ys l T) hs.length ((gYs hs ys).map (cntY bs)) pr lv ∧ sh = shL hs l lv
/-- ways and steps of the ground, as lists -/
def FwS (hs : List HR) (ys : List Wy) (l : Nat) (T : Int) (wl sl : Addr) (H : Hp) : Prop := ∃ wv sv : List V, H wl = some (.lst wv) ∧ All2 (PrAt H) wv (gYs hs ys) ∧ H sl = some (.lst sv) ∧ All2 (StepAt H) sv (gSt hs ys l T)
theorem FwS.keep {hs : List HR} {ys : List Wy} {l : Nat} {T : Int} {wl sl : Addr} {H H' : Hp} (h : FwS hs ys l T wl sl H) (k : TK H H') (k1 : ∀ o, H wl = some o → H' wl = some o) (k2 : ∀ o, H sl = some o → H' sl = some o) : FwS hs ys l T wl sl H' := by
  obtain ⟨wv, sv, h1, h2, h3, h4⟩ := h
  exact ⟨wv, sv, k1 _ h1, h2.imp fun _ _ z => z.keep k, k2 _ h3, h4.imp fun _ _ z => z.keep k⟩
theorem FwS.same {hs : List HR} {ys : List Wy} {l : Nat} {T : Int} {wl sl : Addr} {H H' : Hp} (h : FwS hs ys l T wl sl H) (s : Same H H') : FwS hs ys l T wl sl H' := h.keep (TK.same s) (fun o e => s _ _ e) (fun o e => s _ _ e)
/-- a way and its price -/
def PmAt (H : Hp) (v : V) (x : Wy × Int) : Prop := ∃ (a : Addr) (u : V), v = .ref a ∧ H a = some (.tup [u, .int x.2]) ∧ PrAt H u x.1
theorem PmAt.keep {H H' : Hp} {v : V} {x : Wy × Int} (h : PmAt H v x) (k : TK H H') : PmAt H' v x := by
  obtain ⟨a, u, e, h1, h2⟩ := h
  exact ⟨a, u, e, k _ _ h1, h2.keep k⟩
abbrev told (gs : List Wy) (pr : List Int) : List (Wy × Int) := (gs.zip pr).filter fun x => decide (0 < x.2)
def sp_fewest_trays (K : PySem.W.Frag) : Sp := fun vs H Q _ => ∃ (r : Addr) (hs : List HR) (bs : List BR) (l : Nat) (T : Int), vs = [.ref r, nV l, .int T] ∧ RoomAt H r hs bs ∧ RoomOk hs bs ∧
  (∀ H', ¬ FA hs bs (some l) T → Same H H' → Q .non H') ∧
  ∀ (p p' tp : Addr) (sh : Nat → Int) (ys : List Wy) (pr : List Int) (tv : List V) (H' : Hp), H' p = some (.tup [.int (mvd bs sh), .ref p', .ref tp]) → H' p' = some (.tup (levL hs.length sh)) → H' tp = some (.tup tv) → All2 (PmAt H') tv (told (gYs hs ys) pr) → FA hs bs (some l) T → Rch hs bs (some l) T sh → (∀ sh', Rch hs bs (some l) T sh' → mvd bs sh ≤ mvd bs sh') →
    AllWays hs bs ys → Prc hs bs ys l T pr → mvd bs sh = cst hs bs l + Sg stW (gSt hs ys l T) pr → FwT hs bs l T sh ys pr → Same H H' → Q (.ref p) H'
theorem ok_fewest_trays {f : Addr} {fd : FuncData} (F : Fun K "fewest_trays" "fewest_trays" s_fewest_trays f fd) (T : Top K mg) : FnOk P w K mg base CX0 5 f fd ["room", "late", "time"] (sp_fewest_trays K) := by
  obtain ⟨f_ground_steps, fd_ground_steps, F_ground_steps, b_ground_steps, m_ground_steps⟩ := T.d_ground_steps
  have G_ground_steps := ok_ground_steps (P := P) (w := w) (base := base) F_ground_steps T
  obtain ⟨f_belt_prices, fd_belt_prices, F_belt_prices, b_belt_prices, m_belt_prices⟩ := T.d_belt_prices
  have G_belt_prices := ok_belt_prices (P := P) (w := w) (base := base) F_belt_prices T
  obtain ⟨f_levels_or_turn, fd_levels_or_turn, F_levels_or_turn, b_levels_or_turn, m_levels_or_turn⟩ := T.d_levels_or_turn
  have G_levels_or_turn := ok_levels_or_turn (P := P) (w := w) (base := base) F_levels_or_turn T
  obtain ⟨f_ground_shifts, fd_ground_shifts, F_ground_shifts, b_ground_shifts, m_ground_shifts⟩ := T.d_ground_shifts
  have G_ground_shifts := ok_ground_shifts (P := P) (w := w) (base := base) F_ground_shifts T
  obtain ⟨f_turn_prices, fd_turn_prices, F_turn_prices, b_turn_prices, m_turn_prices⟩ := T.d_turn_prices
  have G_turn_prices := ok_turn_prices (P := P) (w := w) (base := base) F_turn_prices T
  obtain ⟨f_shifts_or_bar, fd_shifts_or_bar, F_shifts_or_bar, b_shifts_or_bar, m_shifts_or_bar⟩ := T.d_shifts_or_bar
  have G_shifts_or_bar := ok_shifts_or_bar (P := P) (w := w) (base := base) F_shifts_or_bar T
  obtain ⟨f_trays_moved, fd_trays_moved, F_trays_moved, b_trays_moved, m_trays_moved⟩ := T.d_trays_moved
  have G_trays_moved := ok_trays_moved (P := P) (w := w) (base := base) F_trays_moved T
  refine F.ok sc_fewest_trays (fun vs H Q E h => ?_) (fun cdv A outer s H vs Q E hr h => ?_)
  · obtain ⟨r, hs, bs, l, T', rfl, _⟩ := h
    rfl
  obtain ⟨r, hs, bs, l, T', rfl, hR, ok, q1, q2⟩ := h
  have lh := ok.hands
  let sg : Addr → Addr → Option V → Option V → Option V → L2.St := fun wl sl v5 v6 v7 => [some (.ref r), some (nV l), some (.int T'), some (.ref wl), some (.ref sl), v5, v6, v7, none, none, none, none]
  let R1 : TS := fun D' σ' H' => D'.rt = Q ∧ ∃ (wl sl : Addr) (ys : List Wy) (s0 : Nat → Int), σ' = sg wl sl none none none ∧ FwS hs ys l T' wl sl H' ∧ (AllWays hs bs ys ∧ YsIs hs bs ys) ∧ FA hs bs (some l) T' ∧ Rch hs bs (some l) T' s0 ∧ Same H H'
  let R2 : TS := fun D' σ' H' => D'.rt = Q ∧ ∃ (wl sl pl : Addr) (ys : List Wy) (s0 : Nat → Int) (pr : List Int) (x y : V), σ' = sg wl sl (some (.ref pl)) (some x) (some y) ∧ FwS hs ys l T' wl sl H' ∧ (AllWays hs bs ys ∧ YsIs hs bs ys) ∧ FA hs bs (some l) T' ∧ Rch hs bs (some l) T' s0 ∧ H pl = none ∧ wl ≠ pl ∧ sl ≠ pl ∧ H' pl = some (.lst (pr.map V.int)) ∧ (Prc hs bs ys l T' pr ∧ ChF hs bs ys l T' pr) ∧ LtV hs.length (gSt hs ys l T') pr pl H' x y ∧ Same H H'
  let R3 : TS := fun D' σ' H' => D'.rt = Q ∧ ∃ (wl sl pl ll : Addr) (ys : List Wy) (s0 : Nat → Int) (pr : List Int) (lv : Nat → Int), σ' = sg wl sl (some (.ref pl)) (some (.ref ll)) (some .non) ∧ FwS hs ys l T' wl sl H' ∧ (AllWays hs bs ys ∧ YsIs hs bs ys) ∧ FA hs bs (some l) T' ∧ Rch hs bs (some l) T' s0 ∧ H' pl = some (.lst (pr.map V.int)) ∧ (Prc hs bs ys l T' pr ∧ ChF hs bs ys l T' pr) ∧ H' ll = some (.lst (levL (hs.length + 1) lv)) ∧ ((∀ s ∈ gSt hs ys l T' ++ bks (gSt hs ys l T') pr, lv s.u + s.w ≤ lv s.v) ∧ LvIs (gSt hs ys l T' ++ bks (gSt hs ys l T') pr) (hs.length + 1) lv) ∧ Same H H'
  have gfew : ∀ {ys : List Wy}, AllWays hs bs ys → (gYs hs ys).length ≤ 144 := fun aw => Nat.le_trans (List.length_filter_le ..) aw.few
  have gbd : ∀ {ys : List Wy}, AllWays hs bs ys → ∀ s ∈ gSt hs ys l T', s.u < hs.length + 1 ∧ s.v < hs.length + 1 := fun aw s hs' => by
    obtain ⟨y, hy, rfl⟩ := List.mem_map.mp hs'
    have o := aw.ok y (gy_mem hy).1
    exact ⟨Nat.lt_succ_of_le (pl_le o.lt), Nat.lt_succ_of_le (pl_le (best_end ok o))⟩
  refine ⟨_, (pss_cons (ps_if (pt_cmpR op_eq (pe_ix (ix_tupK K rfl) (pe_call G_shifts_or_bar (hr.mono (by decide)) (by rfl) m_shifts_or_bar F_shifts_or_bar.kp b_shifts_or_bar .nil pass0 (pa_cons (pv 0) (pa_cons (pv 1) (pa_cons (pv 2) pa_nil)))) pe_int (fun _ _ => rfl)) pe_str (nomark _)) (pss_one (ps_ret pe_non)) pss_nil)
      (pss_cons (ps_asg (pe_call G_ground_steps (hr.mono (by decide)) (by rfl) m_ground_steps F_ground_steps.kp b_ground_steps .nil pass0 (pa_cons (pv 0) (pa_cons (pv 1) (pa_cons (pv 2) pa_nil)))) (pg_tupK K rfl rfl (pgs_cons (pg_name (i := 3) sc_fewest_trays.nd rfl (Or.inl rfl)) (pgs_cons (pg_name (i := 4) sc_fewest_trays.nd rfl (Or.inl rfl)) pgs_nil))))
      (PSs.to (pss_cons (ps_set (i := 5) sc_fewest_trays.nd rfl (Or.inl rfl) (pe_call G_belt_prices (hr.mono (by decide)) (by rfl) m_belt_prices F_belt_prices.kp b_belt_prices .nil pass0 (pa_cons (pv 0) (pa_cons (pv 3) pa_nil))))
      (pss_cons (ps_asg (pe_call G_levels_or_turn (hr.mono (by decide)) (by rfl) m_levels_or_turn F_levels_or_turn.kp b_levels_or_turn .nil pass0 (pa_cons (pv 0) (pa_cons (pv 4) (pa_cons (pv 5) pa_nil)))) (pg_tupK K rfl rfl (pgs_cons (pg_name (i := 6) sc_fewest_trays.nd rfl (Or.inl rfl)) (pgs_cons (pg_name (i := 7) sc_fewest_trays.nd rfl (Or.inl rfl)) pgs_nil))))
      (PSs.to (pss_cons (ps_while PassesOwn.never (pt_cmpR op_notN (pv 7) pe_non (nomark _))
        (pss_cons (ps_expr (pe_call G_turn_prices (hr.mono (by decide)) (by rfl) m_turn_prices F_turn_prices.kp b_turn_prices .nil pass0 (pa_cons (pv 5) (pa_cons (pv 7) pa_nil))))
      (pss_one (ps_asg (pe_call G_levels_or_turn (hr.mono (by decide)) (by rfl) m_levels_or_turn F_levels_or_turn.kp b_levels_or_turn .nil pass0 (pa_cons (pv 0) (pa_cons (pv 4) (pa_cons (pv 5) pa_nil)))) (pg_tupK K rfl rfl (pgs_cons (pg_name (i := 6) sc_fewest_trays.nd rfl (Or.inl rfl)) (pgs_cons (pg_name (i := 7) sc_fewest_trays.nd rfl (Or.inl rfl)) pgs_nil)))))))
      (PSs.to (pss_cons (ps_set (i := 8) sc_fewest_trays.nd rfl (Or.inl rfl) (pe_call G_ground_shifts (hr.mono (by decide)) (by rfl) m_ground_shifts F_ground_shifts.kp b_ground_shifts .nil pass0 (pa_cons (pv 0) (pa_cons (pv 1) (pa_cons (pv 6) pa_nil)))))
      (pss_cons (ps_setLc (i := 9) (own := [("way", 10), ("many", 11)]) (g := gTup K 2 (gCons (gName 10) (gCons (gName 11) gNil))) (by rfl) sc_fewest_trays.nd rfl rfl (sw_true rfl rfl rfl (by decide +kernel)) (pi_zipAK K rfl (by rfl) T.m_zip (pa_cons (pv 3) (pa_cons (pv 5) pa_nil))) (blkOk_by (own := [("way", 10), ("many", 11)]) (N := N_fewest_trays) (sc := defScope s_fewest_trays) (by decide +kernel)) (fun _ _ _ _ _ => (pg_tupK K rfl rfl (pgs_cons (pg_name (i := 10) sc_fewest_trays.nd rfl (Or.inl rfl)) (pgs_cons (pg_name (i := 11) sc_fewest_trays.nd rfl (Or.inl rfl)) pgs_nil)))) (fun _ _ _ _ _ => pts_one (pt_cmpR op_gt (pv 11) pe_int (nomark _))) (fun _ _ _ _ _ => (pe_tup (pa_cons (pv 10) (pa_cons (pv 11) pa_nil)))))
      (pss_one (ps_ret (pe_tup (pa_cons (pe_callB (cr_sumK K rfl rfl) (by rfl) T.m_sum (by decide +kernel) (pa_cons (pe_call G_trays_moved (hr.mono (by decide)) (by rfl) m_trays_moved F_trays_moved.kp b_trays_moved .nil pass0 (pa_cons (pv 0) (pa_cons (pv 8) pa_nil))) pa_nil)) (pa_cons (pv 8) (pa_cons (pe_callTy (call_tuple_ofK K rfl) (by rfl) T.m_tuple (by decide +kernel) (pa_cons (pv 9) pa_nil)) pa_nil)))))))) R3 ?tail3)) R2 ?tail2))) R1 ?tail1))), ?_⟩
  case tail1 =>
    rintro D' σ' H1 ⟨eD, wl, sl, ys, s0, rfl, fw, ⟨aw, yis⟩, fa, rc, s1⟩
    obtain ⟨wv, sv, hwl, alw, hsl, als⟩ := id fw
    have lg := gfew aw
    refine ⟨_, rfl, _, rfl, r, wl, hs, bs, wv, gYs hs ys, rfl, hR.keep (TK.same s1), ok, hwl, alw, fun y hy => ?_, lg, fun pl H2 npl hpl s2 => ?_⟩
    · obtain ⟨h1, h2⟩ := gy_mem hy
      have o := aw.ok y h1
      refine ⟨o, fun z => h2 ?_⟩
      have we := o.we
      rw [z] at we
      rw [Option.some.inj we]
    have pc : Prc hs bs ys l T' ((gYs hs ys).map (cntY bs)) := ⟨by rw [List.length_map, List.length_map], fun p hp => by
      obtain ⟨y, _, rfl⟩ := List.mem_map.mp hp
      exact Int.natCast_nonneg _, fun _ => rfl⟩
    have fw2 := fw.same s2
    refine ⟨_, rfl, _, rfl, _, rfl, ?_⟩
    dsimp only [tNil]
    refine ask_lt (hR.keep (TK.same (s1.trans s2))) ok ⟨_, s2 _ _ hsl, als.imp fun _ _ z => z.keep (TK.same s2)⟩ (gbd aw) (by rw [List.length_map]; exact lg) hpl pc.ln fun p x y H3 hp lt s3 => ?_
    refine ⟨p, _, rfl, SqT.of hp, rfl, _, _, rfl, _, _, rfl, rfl, ?_⟩
    exact ⟨eD, wl, sl, pl, ys, s0, _, x, y, rfl, fw2.same s3, ⟨aw, yis⟩, fa, rc, same_none s1 npl, ne_of_none hwl npl, ne_of_none hsl npl, s3 _ _ hpl, ⟨pc, fun _ _ z => z⟩, lt, (s1.trans s2).trans s3⟩
  case tail2 =>
    rintro D' σ' H1 ⟨eD, wl, sl, pl, ys, s0, pr, x, y, rfl, fw, ⟨aw, yis⟩, fa, rc, npl, wpl, spl, hpl, ⟨pc, ch⟩, lt, s1⟩
    have lg := gfew aw
    have fit := ground_fits ok aw rc
    refine ⟨fun m σ H3 => ∃ (pr : List Int) (x y : V), σ = sg wl sl (some (.ref pl)) (some x) (some y) ∧ FwS hs ys l T' wl sl H3 ∧ H3 pl = some (.lst (pr.map V.int)) ∧ (Prc hs bs ys l T' pr ∧ ChF hs bs ys l T' pr) ∧ LtV hs.length (gSt hs ys l T') pr pl H3 x y ∧ m = (Sg (spn (lvS hs s0)) (gSt hs ys l T') ((gYs hs ys).map (cntY bs)) - Sg stW (gSt hs ys l T') pr).toNat ∧ Same H H3, ⟨_, pr, x, y, rfl, fw, hpl, ⟨pc, ch⟩, lt, rfl, s1⟩, ?_⟩
    rintro m σ H3 ⟨pr, x, y, rfl, fw, hpl, ⟨pc, ch⟩, lt, rfl, s3⟩
    rcases lt with ⟨ll, lv, rfl, rfl, hll, f, lvi⟩ | ⟨tl, tv, ks, rfl, rfl, htl, alt, ring, lk, ptl, rgi⟩
    · refine ⟨_, rfl, rfl, _, rfl, if_bl (fun z => nomatch z) (fun _ => ?_)⟩
      exact ⟨eD, wl, sl, pl, ll, ys, s0, pr, lv, rfl, fw, ⟨aw, yis⟩, fa, rc, hpl, ⟨pc, ch⟩, hll, ⟨f, lvi⟩, s3⟩
    · refine ⟨_, rfl, rfl, _, rfl, if_bl (fun _ => ?_) (fun z => nomatch z)⟩
      refine ⟨_, fun σ' H' h => h, ?_⟩
      have nums := turn_nums pc.ln ring.lt
      refine ⟨_, rfl, _, rfl, pl, tl, pr, tv, _, rfl, hpl, htl, ptl, alt, fun z hz => ⟨by rw [pc.ln]; exact (nums z hz).1, (nums z hz).2.1⟩, turn_back pc.ln ⟨_, fit⟩ ring, by rw [List.length_map]; omega, fun far H4 hf hl hpl4 b4 => ?_⟩
      have tt := turn_one pc.ln pc.nn ring hf hl
      have k4 : TK H3 H4 := fun b zs e => b4 b _ e (ne_of e hpl (fun z => nomatch z))
      have fw4 := fw.keep k4 (fun o e => b4 _ _ e wpl) (fun o e => b4 _ _ e spl)
      have s4 : Same H H4 := fun b o e => b4 _ _ (s3 _ _ e) (ne_of_none e npl)
      have pc4 : Prc hs bs ys l T' (turnP far (ks.map (trn (gSt hs ys l T').length (pdL pr))) pr) := ⟨tt.ln, tt.nn, fun lv => (tt.sp lv).trans (pc.sp lv)⟩
      obtain ⟨wv, sv, hwl, alw, hsl, als⟩ := id fw4
      refine ⟨_, rfl, _, rfl, _, rfl, ?_⟩
      dsimp only [tNil]
      refine ask_lt (hR.keep (TK.same s4)) ok ⟨_, hsl, als⟩ (gbd aw) (by rw [List.length_map]; exact lg) hpl4 pc4.ln fun p x y H5 hp lt s5 => ?_
      refine ⟨p, _, rfl, SqT.of hp, rfl, _, _, rfl, _, _, rfl, rfl, ?_⟩
      have up := feas_le pc4.nn fit
      rw [pc4.sp] at up
      have mo := tt.mo
      exact ⟨_, by omega, _, x, y, rfl, fw4.same s5, s5 _ _ hpl4, ⟨pc4, fun _ _ z => ch _ _ (.go rgi hf hl z)⟩, lt, rfl, s4.trans s5⟩
  case tail3 =>
    rintro D' σ' H1 ⟨eD, wl, sl, pl, ll, ys, s0, pr, lv, rfl, fw, ⟨aw, yis⟩, fa, rc, hpl, ⟨pc, ch⟩, hll, ⟨f, lvi⟩, s1⟩
    have lg := gfew aw
    have lpr := pc.ln
    rw [List.length_map] at lpr
    obtain ⟨wv, sv, hwl, alw, _, _⟩ := fw
    have lwv := alw.length
    refine ⟨_, rfl, _, rfl, _, rfl, r, ll, hs, bs, l, lv, rfl, hR.keep (TK.same s1), ok, hll, fun p' H2 hp' s2 => ?_⟩
    have alw2 := alw.imp fun _ _ z => z.keep (TK.same s2)
    refine ⟨_, rfl, _, rfl, wl, pl, wv, pr.map V.int, rfl, .inl ⟨SqL.of (s2 _ _ hwl), SqL.of (s2 _ _ hpl), fun D nD => lc_it (J := Itz K wl pl) (n := wv.length) (fun i H5 => ∃ tv : List V, H5 D = some (.lst tv) ∧ All2 (PmAt H5) tv ((((gYs hs ys).zip pr).take i).filter fun x => decide (0 < x.2)) ∧ Same H2 H5) ⟨[], upd_same, .nil, same_new nD⟩ ?_ ?_ ?_ ?_⟩⟩
    · rintro i H5 hi ⟨tv, hD, al, s5⟩
      exact ⟨_, _, _, _, SqL.of (s5 _ _ (s2 _ _ hwl)), SqL.of (s5 _ _ (s2 _ _ hpl)), List.getElem?_eq_getElem hi, List.getElem?_eq_getElem (by rw [List.length_map]; omega)⟩
    · rintro H5 ⟨tv, hD, al, s5⟩
      exact ⟨_, _, SqL.of (s5 _ _ (s2 _ _ hwl)), SqL.of (s5 _ _ (s2 _ _ hpl)), .inl (Nat.le_refl _)⟩
    · rintro i z H5 H6 hi ⟨tv, hD, al, s5⟩ ⟨tt, x, y, rfl, ntt, rfl, fx, fy⟩
      have ex := fx _ (SqL.of (s5 _ _ (s2 _ _ hwl)))
      have ey := fy _ (SqL.of (s5 _ _ (s2 _ _ hpl)))
      obtain ⟨g, eg, pg⟩ := alw2.getL ex
      have ep : pr[i]? = some (pr[i]'(by omega)) := List.getElem?_eq_getElem (by omega)
      generalize pr[i]'(by omega) = m at ep
      rw [List.getElem?_map, ep] at ey
      obtain rfl : y = .int m := (Option.some.inj ey).symm
      have ez : ((gYs hs ys).zip pr)[i]? = some (g, m) := List.getElem?_zip_eq_some.mpr ⟨eg, ep⟩
      have s56 := same_new (o := .tup [x, V.int m]) ntt
      have s6 := s5.trans s56
      have hD6 := s56 _ _ hD
      have al6 := al.imp fun _ _ z => z.keep (TK.same s56)
      have ltv := al.length
      have lf : ((((gYs hs ys).zip pr).take i).filter fun x => decide (0 < x.2)).length ≤ 144 := Nat.le_trans (List.length_filter_le ..) (by rw [List.length_take]; omega)
      refine ⟨tt, _, rfl, SqT.of upd_same, rfl, _, _, rfl, _, _, rfl, rfl, rfl, _, rfl, _, _, rfl, rfl, _, rfl, if_bl (fun c => ?_) (fun c => ?_)⟩
      · have c : 0 < m := of_decide_eq_true c
        refine ⟨_, rfl, _, rfl, (by show 2 ≤ sizeLine; decide), fun t2 nt2 => ?_⟩
        have s67 := same_new (o := .tup [x, V.int m]) nt2
        have hD7 := s67 _ _ hD6
        refine ⟨tv, hD7, small1000 (by omega), tv ++ [V.ref t2], upd_same, ?_, Same.own (s6.trans s67) nD⟩
        rw [List.take_add_one, ez]
        show All2 _ _ (((((gYs hs ys).zip pr).take i) ++ [(g, m)]).filter fun x => decide (0 < x.2))
        rw [List.filter_append, List.filter_cons, if_pos (decide_eq_true c), List.filter_nil]
        exact ((al6.imp fun _ _ z => z.keep (TK.same s67)).snoc ⟨t2, x, rfl, upd_same, pg.keep (TK.same (s6.trans s67))⟩).imp fun _ _ z => z.keep (TK.lst hD7)
      · have c : ¬ 0 < m := of_decide_eq_false c
        refine ⟨tv, hD6, ?_, s6⟩
        rw [List.take_add_one, ez]
        show All2 _ _ (((((gYs hs ys).zip pr).take i) ++ [(g, m)]).filter fun x => decide (0 < x.2))
        rw [List.filter_append, List.filter_cons, if_neg (by rw [decide_eq_false c]; exact Bool.false_ne_true), List.filter_nil, List.append_nil]
        exact al6
    rintro H3 ⟨tv, hD, al, s3⟩
    have eT : ((gYs hs ys).zip pr).take wv.length = (gYs hs ys).zip pr := List.take_of_length_le (by rw [List.length_zip]; omega)
    rw [eT] at al
    have s23 := s2.trans s3
    refine ⟨_, rfl, _, rfl, r, p', hs, bs, shL hs l lv, rfl, hR.keep (TK.same (s1.trans s23)), ok, s3 _ _ hp', fun ml H4 hml s4 => ?_⟩
    refine ⟨ml, _, rfl, SqL.of hml, _, rfl, _, rfl, D, _, rfl, .inl ⟨SqL.of (s4 _ _ hD), fun tp ntp => ?_⟩⟩
    have s5 := same_new (o := .tup tv) ntp
    have htp : (upd H4 tp (.tup tv)) tp = some (.tup tv) := upd_same
    generalize upd H4 tp (.tup tv) = H5 at s5 htp ⊢
    refine ⟨(by show 3 ≤ sizeLine; decide), fun p np => ?_⟩
    have s6 := same_new (o := .tup [V.int (bs.map fun b => (b.th.length : Int) + shL hs l lv b.to - shL hs l lv b.one).sum, V.ref p', V.ref tp]) np
    have rs := ground_rch ok aw rc fun s hs' => f s (List.mem_append_left _ hs')
    have at_ := pc.at_ ok aw f
    rw [eD]
    exact q2 p p' tp (shL hs l lv) ys pr tv _ upd_same (s6 _ _ (s5 _ _ (s4 _ _ (s3 _ _ hp')))) (s6 _ _ htp) (al.imp fun _ _ z => z.keep (TK.same ((s4.trans s5).trans s6))) fa rs (fun sh' r' => by rw [at_]; exact pc.low ok aw r') aw pc at_ ⟨yis, lv, ch _ _ (.stop lvi), rfl⟩ ((s1.trans s23).trans ((s4.trans s5).trans s6))
  refine ⟨_, rfl, _, rfl, _, rfl, r, hs, bs, some l, T', rfl, hR, ok, fun p H1 tl s1 => ?_⟩
  rcases tl with ⟨p', sh, h1, h2, sf⟩ | ⟨p', pv, ws, h1, h2, h3, h4, h5, nf, _⟩
  · refine ⟨p, _, _, _, rfl, rfl, SqT.of h1, atI_nat (j := 0) rfl, rfl, _, rfl, if_bl (fun z => ?_) (fun _ => ?_)⟩
    · exact absurd (V.str.inj (of_decide_eq_true z)) (by decide +kernel)
    refine ⟨_, rfl, _, rfl, _, rfl, r, hs, bs, l, T', rfl, hR.keep (TK.same s1), ok, fun p2 wl sl wv sv ys H2 hp2 hwl alw hsl als aw yis s2 => ?_⟩
    refine ⟨p2, _, rfl, SqT.of hp2, rfl, _, _, rfl, _, _, rfl, rfl, ?_⟩
    exact ⟨rfl, wl, sl, ys, sh, rfl, ⟨wv, sv, hwl, alw, hsl, als⟩, ⟨aw, yis⟩, sf.1.fa, sf.1.rch ok, s1.trans s2⟩
  · refine ⟨p, _, _, _, rfl, rfl, SqT.of h1, atI_nat (j := 0) rfl, rfl, _, rfl, if_bl (fun _ => ?_) (fun z => ?_)⟩
    · exact q1 H1 nf s1
    · exact absurd rfl (of_decide_eq_false z)
end
/-! ### two things alike (found == due, by kinds, as deep as need be) -/
def Lf (v : V) : Prop := (∃ a : Int, v = .int a) ∨ (∃ s : Str, v = .str s ∧ PyData.canLay0 (.str s) = true) ∨ (∃ b : Bool, v = .bl b) ∨ v = .non
def Al : Nat → Hp → V → V → Prop
  | 0, _, _, _ => False
  | n + 1, H, v, u => (Lf v ∧ v = u) ∨ ∃ (p q : Addr) (xs ys : List V), v = .ref p ∧ u = .ref q ∧ ((H p = some (.lst xs) ∧ H q = some (.lst ys)) ∨ (H p = some (.tup xs) ∧ H q = some (.tup ys))) ∧ xs.length ≤ 400 ∧ All2 (Al n H) xs ys
theorem Al.same {H H' : Hp} (s : Same H H') : ∀ {n : Nat} {v u : V}, Al n H v u → Al n H' v u
  | 0, _, _, h => h
  | n + 1, _, _, .inl h => .inl h
  | n + 1, _, _, .inr h => by
    obtain ⟨p, q, xs, ys, e1, e2, e3, e4, e5⟩ := h
    exact .inr ⟨p, q, xs, ys, e1, e2, e3.imp (fun z => ⟨s _ _ z.1, s _ _ z.2⟩) (fun z => ⟨s _ _ z.1, s _ _ z.2⟩), e4, e5.imp fun _ _ z => Al.same s z⟩
theorem Al.int {n : Nat} {H : Hp} {a : Int} : Al (n + 1) H (.int a) (.int a) := .inl ⟨.inl ⟨a, rfl⟩, rfl⟩
theorem Al.str {n : Nat} {H : Hp} {s : Str} (h : PyData.canLay0 (.str s) = true) : Al (n + 1) H (.str s) (.str s) := .inl ⟨.inr (.inl ⟨s, rfl, h⟩), rfl⟩
theorem Al.bl {n : Nat} {H : Hp} {b : Bool} : Al (n + 1) H (.bl b) (.bl b) := .inl ⟨.inr (.inr (.inl ⟨b, rfl⟩)), rfl⟩
theorem Al.non {n : Nat} {H : Hp} : Al (n + 1) H .non .non := .inl ⟨.inr (.inr (.inr rfl)), rfl⟩
theorem Al.ints {n : Nat} {H : Hp} : ∀ m : List Int, All2 (Al (n + 1) H) (m.map V.int) (m.map V.int)
  | [] => .nil
  | _ :: m => .cons .int (Al.ints m)
theorem Al.tup {n : Nat} {H : Hp} {p q : Addr} {xs ys : List V} (h1 : H p = some (.tup xs)) (h2 : H q = some (.tup ys)) (l : xs.length ≤ 400) (a : All2 (Al n H) xs ys) : Al (n + 1) H (.ref p) (.ref q) := .inr ⟨p, q, xs, ys, rfl, rfl, .inr ⟨h1, h2⟩, l, a⟩
theorem Al.lst {n : Nat} {H : Hp} {p q : Addr} {xs ys : List V} (h1 : H p = some (.lst xs)) (h2 : H q = some (.lst ys)) (l : xs.length ≤ 400) (a : All2 (Al n H) xs ys) : Al (n + 1) H (.ref p) (.ref q) := .inr ⟨p, q, xs, ys, rfl, rfl, .inl ⟨h1, h2⟩, l, a⟩
def spA (n : Nat) : Sp := fun vs H Q _ => ∃ v u : V, vs = [v, u] ∧ Al n H v u ∧ ∀ H', Same H H' → Q (.bl true) H'
theorem kit_lst {K : PySem.W.Frag} : PySem.W.kitAny K (.type "list") [.type "list", .type "tuple"] = some true := by
  unfold PySem.W.kitAny
  rw [kit_ty (show kitB "list" "list" = some true by decide +kernel)]
theorem kit_tup {K : PySem.W.Frag} : PySem.W.kitAny K (.type "tuple") [.type "list", .type "tuple"] = some true := by
  unfold PySem.W.kitAny
  rw [kit_ty (show kitB "tuple" "list" = some false by decide +kernel)]
  unfold PySem.W.kitAny
  rw [kit_ty (show kitB "tuple" "tuple" = some true by decide +kernel)]
theorem kit_int {K : PySem.W.Frag} : PySem.W.kitAny K (.type "int") [.type "list", .type "tuple"] = some false := by
  unfold PySem.W.kitAny
  rw [kit_ty (show kitB "int" "list" = some false by decide +kernel)]
  unfold PySem.W.kitAny
  rw [kit_ty (show kitB "int" "tuple" = some false by decide +kernel)]
  rfl
theorem or_zip {K : PySem.W.Frag} {ta : TA} {σ : L2.St} {H : Hp} {R : It → Hp → Prop} {p q : Addr} {xs ys : List V} (ht : ∀ Q : List V → Hp → Prop, Q [.ref p, .ref q] H → ta σ H Q) (h : (H p = some (.lst xs) ∧ H q = some (.lst ys)) ∨ (H p = some (.tup xs) ∧ H q = some (.tup ys))) (hl : xs.length = ys.length)
    (k : ∀ J : It, (∀ i H', (H' p = H p ∧ H' q = H q) → i < xs.length → J.go i H') → (∀ H', (H' p = H p ∧ H' q = H q) → J.stop xs.length H') → (∀ i H' v H'', (H' p = H p ∧ H' q = H q) → J.yld i H' v H'' → ∃ T x y, v = .ref T ∧ H' T = none ∧ H'' = upd H' T (.tup [x, y]) ∧ xs[i]? = some x ∧ ys[i]? = some y) → R J H) :
    RZ.iZipA K ta σ H R := by
  rcases h with ⟨e1, e2⟩ | ⟨e1, e2⟩
  · refine ht _ ⟨p, q, xs, ys, rfl, .inl ⟨SqL.of e1, SqL.of e2, k _ (fun i H' st hi => ?_) (fun H' st => ?_) fun i H' v H'' st y => ?_⟩⟩
    · exact ⟨xs, ys, _, _, SqL.of (st.1.trans e1), SqL.of (st.2.trans e2), List.getElem?_eq_getElem hi, List.getElem?_eq_getElem (by omega)⟩
    · exact ⟨xs, ys, SqL.of (st.1.trans e1), SqL.of (st.2.trans e2), .inl (Nat.le_refl _)⟩
    · obtain ⟨T, x, z, q1, q2, q3, q4, q5⟩ := y
      exact ⟨T, x, z, q1, q2, q3, q4 _ (SqL.of (st.1.trans e1)), q5 _ (SqL.of (st.2.trans e2))⟩
  · refine ht _ ⟨p, q, xs, ys, rfl, .inr ⟨SqT.of e1, SqT.of e2, k _ (fun i H' st hi => ?_) (fun H' st => ?_) fun i H' v H'' st y => ?_⟩⟩
    · exact ⟨xs, ys, _, _, SqT.of (st.1.trans e1), SqT.of (st.2.trans e2), List.getElem?_eq_getElem hi, List.getElem?_eq_getElem (by omega)⟩
    · exact ⟨xs, ys, SqT.of (st.1.trans e1), SqT.of (st.2.trans e2), .inl (Nat.le_refl _)⟩
    · obtain ⟨T, x, z, q1, q2, q3, q4, q5⟩ := y
      exact ⟨T, x, z, q1, q2, q3, q4 _ (SqT.of (st.1.trans e1)), q5 _ (SqT.of (st.2.trans e2))⟩
theorem kit_str {K : PySem.W.Frag} : PySem.W.kitAny K (.type "str") [.type "list", .type "tuple"] = some false := by
  unfold PySem.W.kitAny
  rw [kit_ty (show kitB "str" "list" = some false by decide +kernel)]
  unfold PySem.W.kitAny
  rw [kit_ty (show kitB "str" "tuple" = some false by decide +kernel)]
  rfl
theorem kit_non {K : PySem.W.Frag} : PySem.W.kitAny K (.type "NoneType") [.type "list", .type "tuple"] = some false := by
  unfold PySem.W.kitAny
  rw [kit_ty (show kitB "NoneType" "list" = some false by decide +kernel)]
  unfold PySem.W.kitAny
  rw [kit_ty (show kitB "NoneType" "tuple" = some false by decide +kernel)]
  rfl
theorem kit_bool {K : PySem.W.Frag} : PySem.W.kitAny K (.type "bool") [.type "list", .type "tuple"] = some false := by
  unfold PySem.W.kitAny
  rw [kit_ty (show kitB "bool" "list" = some false by decide +kernel)]
  unfold PySem.W.kitAny
  rw [kit_ty (show kitB "bool" "tuple" = some false by decide +kernel)]
  rfl
section
variable {P : Program} {w : World} {K : PySem.W.Frag} {mg : Str → Option Value} {base : Heap}
theorem alike_step (T : Top K mg) (n : Nat) (below : ∀ (f : Addr) (fd : FuncData), Fun K "_law_alike" "_law_alike" s_law_alike f fd → FnOk P w K mg base CX0 n f fd ["_law_found", "_law_due"] (spA n)) {f : Addr} {fd : FuncData} (F : Fun K "_law_alike" "_law_alike" s_law_alike f fd) :
    FnOk P w K mg base CX0 (n + 1) f fd ["_law_found", "_law_due"] (spA (n + 1)) := by
  obtain ⟨f_law_alike, fd_law_alike, F_law_alike, b_law_alike, m_law_alike⟩ := T.d_law_alike
  have G_law_alike := below f_law_alike fd_law_alike F_law_alike
  refine F.ok sc_law_alike (fun vs H Q E h => ?_) (fun cdv A outer s H vs Q E hr h => ?_)
  · obtain ⟨v, u, rfl, _⟩ := h
    rfl
  obtain ⟨v, u, rfl, al, q⟩ := h
  refine ⟨_, (pss_cons (ps_if (pt_val (pe_callB (call_isiTK K rfl) (by rfl) T.m_isinstance (by decide +kernel) (pa_cons (pv 1) (pa_cons (pe_tup (pa_cons (pe_bltn (v := .ty "list") (by rfl) T.m_list (by decide +kernel) rfl) (pa_cons (pe_bltn (v := .ty "tuple") (by rfl) T.m_tuple (by decide +kernel) rfl) pa_nil))) pa_nil)))) (pss_cons (ps_if (PW.pt (pw_or (pt_cmpR op_ne (pe_callB (call_isiKK K rfl) (by rfl) T.m_isinstance (by decide +kernel) (pa_cons (pv 0) (pa_cons (pe_bltn (v := .ty "list") (by rfl) T.m_list (by decide +kernel) rfl) pa_nil))) (pe_callB (call_isiKK K rfl) (by rfl) T.m_isinstance (by decide +kernel) (pa_cons (pv 1) (pa_cons (pe_bltn (v := .ty "list") (by rfl) T.m_list (by decide +kernel) rfl) pa_nil))) (nomark _)) (pw_or1 (pt_cmpR op_ne (pe_callB (call_isiKK K rfl) (by rfl) T.m_isinstance (by decide +kernel) (pa_cons (pv 0) (pa_cons (pe_bltn (v := .ty "tuple") (by rfl) T.m_tuple (by decide +kernel) rfl) pa_nil))) (pe_callB (call_isiKK K rfl) (by rfl) T.m_isinstance (by decide +kernel) (pa_cons (pv 1) (pa_cons (pe_bltn (v := .ty "tuple") (by rfl) T.m_tuple (by decide +kernel) rfl) pa_nil))) (nomark _))))) (pss_one (ps_ret pe_bl)) pss_nil)
      (pss_one (ps_ret (pe_and (pe_cmpR op_eq (pe_callB (call_len_seqK K rfl) (by rfl) T.m_len (by decide +kernel) (pa_cons (pv 0) pa_nil)) (pe_callB (call_len_seqK K rfl) (by rfl) T.m_len (by decide +kernel) (pa_cons (pv 1) pa_nil)) (nomark _)) (pe_one (pe_callB (cr_allK K rfl rfl) (by rfl) T.m_all (by decide +kernel) (pa_cons (pe_lc (own := [("_law_one", 2), ("_law_other", 3)]) (g := gTup K 2 (gCons (gName 2) (gCons (gName 3) gNil))) (tt := tYes) (by rfl) sc_law_alike.nd (pi_zipAK K rfl (by rfl) T.m_zip (pa_cons (pv 0) (pa_cons (pv 1) pa_nil))) (blkOk_by (own := [("_law_one", 2), ("_law_other", 3)]) (N := N_law_alike) (sc := defScope s_law_alike) (by decide +kernel)) (fun _ _ _ _ _ => (pg_tupK K rfl rfl (pgs_cons (pg_name (i := 2) sc_law_alike.nd rfl (Or.inl rfl)) (pgs_cons (pg_name (i := 3) sc_law_alike.nd rfl (Or.inl rfl)) pgs_nil)))) (fun _ _ _ _ _ => pts_nil) (fun _ _ _ _ _ => (pe_call G_law_alike (hr.mono (Nat.le_refl _)) (by rfl) m_law_alike F_law_alike.kp b_law_alike .nil pass0 (pa_cons (pv 2) (pa_cons (pv 3) pa_nil))))) pa_nil))))))) pss_nil)
      (pss_one (ps_ret (pe_and (pe_cmpR op_eq (pe_callB (call_isiKK K rfl) (by rfl) T.m_isinstance (by decide +kernel) (pa_cons (pv 0) (pa_cons (pe_bltn (v := .ty "bool") (by rfl) T.m_bool (by decide +kernel) rfl) pa_nil))) (pe_callB (call_isiKK K rfl) (by rfl) T.m_isinstance (by decide +kernel) (pa_cons (pv 1) (pa_cons (pe_bltn (v := .ty "bool") (by rfl) T.m_bool (by decide +kernel) rfl) pa_nil))) (nomark _)) (pe_one (pe_cmpR (op_eqDK K rfl hr.units) (pv 0) (pv 1) (nomark _))))))), ?_⟩
  refine ⟨_, rfl, (by show 2 ≤ sizeLine; decide), fun tp ntp => ?_⟩
  rcases al with ⟨lf, rfl⟩ | ⟨p, q2, xs, ys, rfl, rfl, kinds, few, al⟩
  · rcases lf with ⟨a, rfl⟩ | ⟨a, rfl, lay⟩ | ⟨a, rfl⟩ | rfl
    · refine ⟨_, tp, _, _, _, false, rfl, upd_same, .cons (.ty "list") (.cons (.ty "tuple") .nil), .base (.int _), kit_int, _, rfl, if_bl (fun z => nomatch z) (fun _ => ?_)⟩
      refine ⟨_, rfl, _, _, _, _, false, rfl, .ty "bool", .base (.int _), kit_ty (by decide +kernel), _, rfl, _, _, _, _, false, rfl, .ty "bool", .base (.int _), kit_ty (by decide +kernel), rfl, _, rfl, if_bl (fun _ => ?_) (fun z => nomatch z)⟩
      refine ⟨_, rfl, _, rfl, _, _, .int a, .int a, rfl, rfl, ?_⟩
      rw [show PyData.eqv (.int a) (.int a) = true by simp [PyData.eqv]]
      exact q _ (same_new ntp)
    · refine ⟨_, tp, _, _, _, false, rfl, upd_same, .cons (.ty "list") (.cons (.ty "tuple") .nil), .base (.str _), kit_str, _, rfl, if_bl (fun z => nomatch z) (fun _ => ?_)⟩
      refine ⟨_, rfl, _, _, _, _, false, rfl, .ty "bool", .base (.str _), kit_ty (by decide +kernel), _, rfl, _, _, _, _, false, rfl, .ty "bool", .base (.str _), kit_ty (by decide +kernel), rfl, _, rfl, if_bl (fun _ => ?_) (fun z => nomatch z)⟩
      have sh : SeqAt.shaped (.str a) = true := by
        unfold SeqAt.shaped
        rw [lay]
        rfl
      refine ⟨_, rfl, _, rfl, _, _, .str a, .str a, sh, sh, ?_⟩
      rw [show PyData.eqv (.str a) (.str a) = true by simp [PyData.eqv]]
      exact q _ (same_new ntp)
    · refine ⟨_, tp, _, _, _, false, rfl, upd_same, .cons (.ty "list") (.cons (.ty "tuple") .nil), .base (.bl _), kit_bool, _, rfl, if_bl (fun z => nomatch z) (fun _ => ?_)⟩
      refine ⟨_, rfl, _, _, _, _, true, rfl, .ty "bool", .base (.bl _), kit_ty (by decide +kernel), _, rfl, _, _, _, _, true, rfl, .ty "bool", .base (.bl _), kit_ty (by decide +kernel), rfl, _, rfl, if_bl (fun _ => ?_) (fun z => nomatch z)⟩
      refine ⟨_, rfl, _, rfl, _, _, .bl a, .bl a, rfl, rfl, ?_⟩
      rw [show PyData.eqv (.bool a) (.bool a) = true by simp [PyData.eqv]]
      exact q _ (same_new ntp)
    · refine ⟨_, tp, _, _, _, false, rfl, upd_same, .cons (.ty "list") (.cons (.ty "tuple") .nil), .base .non, kit_non, _, rfl, if_bl (fun z => nomatch z) (fun _ => ?_)⟩
      refine ⟨_, rfl, _, _, _, _, false, rfl, .ty "bool", .base .non, kit_ty (by decide +kernel), _, rfl, _, _, _, _, false, rfl, .ty "bool", .base .non, kit_ty (by decide +kernel), rfl, _, rfl, if_bl (fun _ => ?_) (fun z => nomatch z)⟩
      refine ⟨_, rfl, _, rfl, _, _, .non, .non, rfl, rfl, ?_⟩
      rw [show PyData.eqv .none .none = true by simp [PyData.eqv]]
      exact q _ (same_new ntp)
  rcases kinds with ⟨hp, hq⟩ | ⟨hp, hq⟩
  · have hp1 := same_new (o := .tup [V.ty "list", V.ty "tuple"]) ntp _ _ hp
    have hq1 := same_new (o := .tup [V.ty "list", V.ty "tuple"]) ntp _ _ hq
    refine ⟨_, tp, _, _, _, true, rfl, upd_same, .cons (.ty "list") (.cons (.ty "tuple") .nil), .base (.lst hq1), kit_lst, _, rfl, if_bl (fun _ => ?_) (fun z => nomatch z)⟩
    refine ⟨_, rfl, _, _, _, _, true, rfl, .ty "list", .base (.lst hp1), kit_ty (by decide +kernel), _, rfl, _, _, _, _, true, rfl, .ty "list", .base (.lst hq1), kit_ty (by decide +kernel), rfl, _, rfl, if_bl (fun z => nomatch z) (fun _ => ?_)⟩
    refine ⟨_, rfl, _, _, _, _, false, rfl, .ty "tuple", .base (.lst hp1), kit_ty (by decide +kernel), _, rfl, _, _, _, _, false, rfl, .ty "tuple", .base (.lst hq1), kit_ty (by decide +kernel), rfl, _, rfl, if_bl (fun z => nomatch z) (fun _ => ?_)⟩
    refine ⟨_, rfl, p, _, rfl, .inl (SqL.of hp1), _, rfl, q2, _, rfl, .inl (SqL.of hq1), rfl, _, rfl, if_bl (fun _ => ?_) (fun z => ?_)⟩
    case refine_2 =>
      rw [al.length, decide_eq_true rfl] at z
      cases z
    dsimp only [tNext, tRet, tCB, tCons, tLc]
    refine or_zip (p := p) (q := q2) (xs := xs) (ys := ys) (fun Q q => ⟨_, rfl, _, rfl, q⟩) (.inl ⟨hp1, hq1⟩) al.length (fun J gj sj yj D nD => lc_it (J := J) (n := xs.length) (fun i H5 => H5 D = some (.lst ((List.replicate i true).map V.bl)) ∧ Same (upd H tp (.tup [V.ty "list", V.ty "tuple"])) H5) ⟨upd_same, same_new nD⟩ ?_ ?_ ?_ ?_)
    · rintro i H5 hi ⟨hD, s5⟩
      exact gj i H5 ⟨(s5 _ _ hp1).trans hp1.symm, (s5 _ _ hq1).trans hq1.symm⟩ hi
    · rintro H5 ⟨hD, s5⟩
      exact sj H5 ⟨(s5 _ _ hp1).trans hp1.symm, (s5 _ _ hq1).trans hq1.symm⟩
    · rintro i v H5 H6 hi ⟨hD, s5⟩ y
      obtain ⟨t, x, z, rfl, nt, rfl, ex, ez⟩ := yj i H5 v H6 ⟨(s5 _ _ hp1).trans hp1.symm, (s5 _ _ hq1).trans hq1.symm⟩ y
      obtain ⟨z', ez', ha⟩ := al.getL ex
      rw [ez] at ez'
      cases ez'
      have s6 := s5.trans (same_new (o := .tup [x, z]) nt)
      refine ⟨t, _, rfl, SqT.of upd_same, rfl, _, _, rfl, _, _, rfl, rfl, rfl, yes_in ⟨_, rfl, _, rfl, x, z, rfl, ha.same ((same_new ntp).trans s6), fun H7 s7 => ⟨_, s7 _ _ (same_new nt _ _ hD), ?_, ?_, Same.own (s6.trans s7) nD⟩⟩⟩
      · rw [List.length_map, List.length_replicate]; exact small1000 (by omega)
      · rw [upd_same, List.replicate_succ', List.map_append]; rfl
    · rintro H5 ⟨hD, s5⟩
      refine ⟨D, _, rfl, SqL.of hD, ?_⟩
      rw [show (List.replicate xs.length true).all id = true by simp]
      exact q _ ((same_new ntp).trans s5)
  · have hp1 := same_new (o := .tup [V.ty "list", V.ty "tuple"]) ntp _ _ hp
    have hq1 := same_new (o := .tup [V.ty "list", V.ty "tuple"]) ntp _ _ hq
    refine ⟨_, tp, _, _, _, true, rfl, upd_same, .cons (.ty "list") (.cons (.ty "tuple") .nil), .base (.tup hq1), kit_tup, _, rfl, if_bl (fun _ => ?_) (fun z => nomatch z)⟩
    refine ⟨_, rfl, _, _, _, _, false, rfl, .ty "list", .base (.tup hp1), kit_ty (by decide +kernel), _, rfl, _, _, _, _, false, rfl, .ty "list", .base (.tup hq1), kit_ty (by decide +kernel), rfl, _, rfl, if_bl (fun z => nomatch z) (fun _ => ?_)⟩
    refine ⟨_, rfl, _, _, _, _, true, rfl, .ty "tuple", .base (.tup hp1), kit_ty (by decide +kernel), _, rfl, _, _, _, _, true, rfl, .ty "tuple", .base (.tup hq1), kit_ty (by decide +kernel), rfl, _, rfl, if_bl (fun z => nomatch z) (fun _ => ?_)⟩
    refine ⟨_, rfl, p, _, rfl, .inr (SqT.of hp1), _, rfl, q2, _, rfl, .inr (SqT.of hq1), rfl, _, rfl, if_bl (fun _ => ?_) (fun z => ?_)⟩
    case refine_2 =>
      rw [al.length, decide_eq_true rfl] at z
      cases z
    dsimp only [tNext, tRet, tCB, tCons, tLc]
    refine or_zip (p := p) (q := q2) (xs := xs) (ys := ys) (fun Q q => ⟨_, rfl, _, rfl, q⟩) (.inr ⟨hp1, hq1⟩) al.length (fun J gj sj yj D nD => lc_it (J := J) (n := xs.length) (fun i H5 => H5 D = some (.lst ((List.replicate i true).map V.bl)) ∧ Same (upd H tp (.tup [V.ty "list", V.ty "tuple"])) H5) ⟨upd_same, same_new nD⟩ ?_ ?_ ?_ ?_)
    · rintro i H5 hi ⟨hD, s5⟩
      exact gj i H5 ⟨(s5 _ _ hp1).trans hp1.symm, (s5 _ _ hq1).trans hq1.symm⟩ hi
    · rintro H5 ⟨hD, s5⟩
      exact sj H5 ⟨(s5 _ _ hp1).trans hp1.symm, (s5 _ _ hq1).trans hq1.symm⟩
    · rintro i v H5 H6 hi ⟨hD, s5⟩ y
      obtain ⟨t, x, z, rfl, nt, rfl, ex, ez⟩ := yj i H5 v H6 ⟨(s5 _ _ hp1).trans hp1.symm, (s5 _ _ hq1).trans hq1.symm⟩ y
      obtain ⟨z', ez', ha⟩ := al.getL ex
      rw [ez] at ez'
      cases ez'
      have s6 := s5.trans (same_new (o := .tup [x, z]) nt)
      refine ⟨t, _, rfl, SqT.of upd_same, rfl, _, _, rfl, _, _, rfl, rfl, rfl, yes_in ⟨_, rfl, _, rfl, x, z, rfl, ha.same ((same_new ntp).trans s6), fun H7 s7 => ⟨_, s7 _ _ (same_new nt _ _ hD), ?_, ?_, Same.own (s6.trans s7) nD⟩⟩⟩
      · rw [List.length_map, List.length_replicate]; exact small1000 (by omega)
      · rw [upd_same, List.replicate_succ', List.map_append]; rfl
    · rintro H5 ⟨hD, s5⟩
      refine ⟨D, _, rfl, SqL.of hD, ?_⟩
      rw [show (List.replicate xs.length true).all id = true by simp]
      exact q _ ((same_new ntp).trans s5)
theorem ok_alike (T : Top K mg) : ∀ (n : Nat) (f : Addr) (fd : FuncData), Fun K "_law_alike" "_law_alike" s_law_alike f fd → FnOk P w K mg base CX0 n f fd ["_law_found", "_law_due"] (spA n)
  | 0, _, _, _ => ⟨fun _ _ _ _ ⟨_, _, _, h, _⟩ => h.elim, fun _ _ _ _ _ _ _ _ _ _ _ _ _ ⟨_, _, _, h, _⟩ => h.elim⟩
  | n + 1, _, _, F => alike_step T n (ok_alike T n) F
abbrev sp_law_alike (K : PySem.W.Frag) : Sp := spA 6
theorem ok_law_alike {f : Addr} {fd : FuncData} (F : Fun K "_law_alike" "_law_alike" s_law_alike f fd) (T : Top K mg) : FnOk P w K mg base CX0 6 f fd ["_law_found", "_law_due"] (sp_law_alike K) := ok_alike T 6 f fd F
end
/-! ### rooms alike -/
theorem rule_al {n : Nat} {H : Hp} {h : HR} (g : PyData.canLay0 (.str h.wd) = true) : All2 (Al (n + 1) H) (ruleL h) (ruleL h) := by
  obtain ⟨wd, no, mom⟩ := h
  cases no with
  | none => exact .cons (.str g) .nil
  | some z => exact .cons (.str g) (.cons .int .nil)
theorem rule_few {h : HR} : (ruleL h).length ≤ 2 := by
  obtain ⟨wd, no, mom⟩ := h
  cases no with
  | none => exact (show 1 ≤ 2 by decide)
  | some z => exact (show 2 ≤ 2 by decide)
theorem hands_al {n : Nat} {H : Hp} {hs : List HR} : ∀ {xs ys : List V}, All2 (HandAt H) xs hs → All2 (HandAt H) ys hs → (∀ h ∈ hs, GoodHand h) → All2 (Al (n + 3) H) xs ys := by
  intro xs ys a
  induction a generalizing ys with
  | nil => intro b _; cases b; exact .nil
  | cons r t ih =>
    intro b l
    cases b with
    | cons r2 t2 =>
      obtain ⟨t1, g1, rfl, h1, k1⟩ := r
      obtain ⟨t2', g2, rfl, h2, k2⟩ := r2
      exact .cons (.tup h1 h2 (show 2 ≤ 400 by decide) (.cons (.tup k1 k2 (Nat.le_trans rule_few (by decide)) (rule_al (l _ (List.mem_cons_self ..)).lay)) (.cons .int .nil))) (ih t2 fun m hm => l m (List.mem_cons_of_mem _ hm))
theorem belts_al {n : Nat} {H : Hp} {bs : List BR} : ∀ {xs ys : List V}, All2 (BeltAt H) xs bs → All2 (BeltAt H) ys bs → (∀ b ∈ bs, b.th.length ≤ 400) → All2 (Al (n + 3) H) xs ys := by
  intro xs ys a
  induction a generalizing ys with
  | nil => intro b _; cases b; exact .nil
  | cons r t ih =>
    intro b l
    cases b with
    | cons r2 t2 =>
      obtain ⟨t1, g1, rfl, h1, k1⟩ := r
      obtain ⟨t2', g2, rfl, h2, k2⟩ := r2
      exact .cons (.tup h1 h2 (show 3 ≤ 400 by decide) (.cons .int (.cons .int (.cons (.tup k1 k2 (by rw [List.length_map]; exact l _ (List.mem_cons_self ..)) (Al.ints _)) .nil)))) (ih t2 fun m hm => l m (List.mem_cons_of_mem _ hm))
theorem room_al {n : Nat} {H : Hp} {r r' : Addr} {hs : List HR} {bs : List BR} (a : RoomAt H r hs bs) (b : RoomAt H r' hs bs) (good : ∀ h ∈ hs, GoodHand h) (lh : hs.length ≤ 400) (lb : bs.length ≤ 400) (lt : ∀ b ∈ bs, b.th.length ≤ 400) : Al (n + 5) H (.ref r) (.ref r') := by
  obtain ⟨ha, ba, hv, bv, er, eh, eb, alh, alb⟩ := a.ex
  obtain ⟨ha2, ba2, hv2, bv2, er2, eh2, eb2, alh2, alb2⟩ := b.ex
  exact .tup er er2 (show 2 ≤ 400 by decide) (.cons (.tup eh eh2 (by rw [alh.length]; exact lh) (hands_al alh alh2 good)) (.cons (.tup eb eb2 (by rw [alb.length]; exact lb) (belts_al alb alb2 lt)) .nil))
/-! ### a room of doors alone -/
def insOf (ss : List Str) : List Nat := (List.range ss.length).filter fun j => decide (ss[j]? = some ("in" : Str))
theorem ins_mem {ss : List Str} {k : Nat} (h : k ∈ insOf ss) : ss[k]? = some ("in" : Str) := of_decide_eq_true (List.mem_filter.mp h).2
theorem ins_len {ss : List Str} : (insOf ss).length = ss.count ("in" : Str) := by
  unfold insOf
  have : ∀ n, n ≤ ss.length → ((List.range n).filter fun j => decide (ss[j]? = some ("in" : Str))).length = (ss.take n).count ("in" : Str) := by
    intro n
    induction n with
    | zero => intro _; rfl
    | succ n ih =>
      intro h
      have e : ss[n]? = some ss[n] := List.getElem?_eq_getElem (by omega)
      rw [filt_succ, List.length_append, ih (by omega), List.take_add_one, e, List.count_append]
      by_cases c : ss[n] = "in"
      · rw [if_pos (decide_eq_true (by rw [c]))]
        simp [c]
      · rw [if_neg (by simpa using c)]
        simp [c]
  rw [this _ (Nat.le_refl _), List.take_length]
abbrev doorH (s : Str) : HR := ⟨s, none, 0⟩
theorem door_good {s : Str} (h : s = "in" ∨ s = "out") : GoodHand (doorH s) := ⟨.inr ⟨h, rfl⟩, (show (0 : Int) ≤ 0 by decide), (show (0 : Int) ≤ 30 by decide)⟩
theorem in_out : ("in" : Str) ≠ "out" := by decide +kernel
/-- the belts of a room of doors, as far as hand i -/
structure DB (ss : List Str) (i : Nat) (bs : List BR) : Prop where
  one : ∀ b ∈ bs, ss[b.one]? = some ("in" : Str)
  to : ∀ b ∈ bs, ss[b.to]? = some ("out" : Str) ∧ b.to < i
  th : ∀ b ∈ bs, b.th.length ≤ 6 ∧ ∀ x ∈ b.th, Small x
  cnt : ∀ k, k < i → (bs.map BR.to).count k = if ss[k]? = some ("out" : Str) then 1 else 0
  len : bs.length ≤ i
theorem DB.nil {ss : List Str} : DB ss 0 [] := ⟨(fun _ z => nomatch z), (fun _ z => nomatch z), (fun _ z => nomatch z), fun k h => absurd h (Nat.not_lt_zero _), Nat.le_refl _⟩
theorem DB.none {ss : List Str} {i : Nat} {bs : List BR} (d : DB ss i bs) {k : Nat} (h : i ≤ k) : (bs.map BR.to).count k = 0 := by
  refine List.count_eq_zero.mpr fun hk => ?_
  obtain ⟨b, hb, e⟩ := List.mem_map.mp hk
  have := (d.to b hb).2
  omega
theorem DB.skip {ss : List Str} {i : Nat} {bs : List BR} (d : DB ss i bs) (h : ss[i]? ≠ some ("out" : Str)) : DB ss (i + 1) bs := by
  refine ⟨d.one, fun b hb => ⟨(d.to b hb).1, Nat.lt_succ_of_lt (d.to b hb).2⟩, d.th, fun k hk => ?_, Nat.le_succ_of_le d.len⟩
  by_cases e : k = i
  · subst e
    rw [d.none (Nat.le_refl _), if_neg h]
  · exact d.cnt k (by omega)
theorem DB.more {ss : List Str} {i : Nat} {bs : List BR} (d : DB ss i bs) (h : ss[i]? = some ("out" : Str)) {g : Nat} {th : List Int} (hg : ss[g]? = some ("in" : Str)) (ht : th.length ≤ 6 ∧ ∀ x ∈ th, Small x) : DB ss (i + 1) (bs ++ [⟨g, i, th⟩]) := by
  refine ⟨fun b hb => ?_, fun b hb => ?_, fun b hb => ?_, fun k hk => ?_, by rw [List.length_append]; exact Nat.succ_le_succ d.len⟩
  · rcases List.mem_append.mp hb with hb | hb
    · exact d.one b hb
    · obtain rfl : b = _ := by simpa using hb
      exact hg
  · rcases List.mem_append.mp hb with hb | hb
    · exact ⟨(d.to b hb).1, Nat.lt_succ_of_lt (d.to b hb).2⟩
    · obtain rfl : b = _ := by simpa using hb
      exact ⟨h, Nat.lt_succ_self _⟩
  · rcases List.mem_append.mp hb with hb | hb
    · exact d.th b hb
    · obtain rfl : b = _ := by simpa using hb
      exact ht
  · rw [List.map_append, List.count_append]
    by_cases e : k = i
    · subst e
      rw [d.none (Nat.le_refl _), if_pos h]
      simp
    · rw [d.cnt k (by omega)]
      have : ([(⟨g, i, th⟩ : BR)].map BR.to).count k = 0 := by
        refine List.count_eq_zero.mpr fun z => ?_
        have : k = i := by simpa using z
        exact e this
      rw [this, Nat.add_zero]
theorem DB.ok {ss : List Str} {bs : List BR} (d : DB ss ss.length bs) (hs : ∀ s ∈ ss, s = "in" ∨ s = "out") (l : ss.length ≤ 6) : RoomOk (ss.map doorH) bs := by
  have at_ : ∀ k, (ss.map doorH)[k]? = (ss[k]?).map doorH := fun k => List.getElem?_map ..
  refine ⟨by rw [List.length_map]; omega, fun h hh => ?_, fun b hb => ?_, fun b hb h e => ?_, d.th, ⟨fun k => if ss[k]? = some ("in" : Str) then 0 else 1, fun b hb _ => ?_⟩, fun k h e => ?_, Nat.le_trans d.len (by omega)⟩
  · obtain ⟨s, hm, rfl⟩ := List.mem_map.mp hh
    exact door_good (hs s hm)
  · rw [List.length_map]
    exact ⟨(List.getElem?_eq_some_iff.mp (d.one b hb)).1, (List.getElem?_eq_some_iff.mp (d.to b hb).1).1⟩
  · rw [at_, d.one b hb] at e
    cases e
    exact in_out
  · show (if ss[b.one]? = some ("in" : Str) then (0 : Int) else 1) < (if ss[b.to]? = some ("in" : Str) then (0 : Int) else 1)
    rw [if_pos (d.one b hb), if_neg (by rw [(d.to b hb).1]; exact fun z => in_out (Option.some.inj z).symm)]
    decide
  · rw [at_] at e
    cases q : ss[k]? with
    | none => rw [q] at e; cases e
    | some s =>
      rw [q] at e
      cases e
      have kl := (List.getElem?_eq_some_iff.mp q).1
      rw [d.cnt k kl, q]
      rcases hs s (List.mem_of_getElem? q) with z | z <;> rw [z]
      · rw [if_neg fun z => in_out (Option.some.inj z)]
        decide +kernel
      · rw [if_pos rfl]
        decide +kernel
section
variable {P : Program} {w : World} {K : PySem.W.Frag} {mg : Str → Option Value} {base : Heap}
def sp_law_doors_room (K : PySem.W.Frag) : Sp := fun vs H Q _ => ∃ f c : Addr, vs = [.ref f] ∧ Flow H f c ∧ ∀ (r : Addr) (hs : List HR) (bs : List BR) (H' : Hp), RoomAt H' r hs bs → RoomOk hs bs → Flow H' f c → But f H H' → Q (.ref r) H'
theorem ok_law_doors_room {f : Addr} {fd : FuncData} (F : Fun K "_law_doors_room" "_law_doors_room" s_law_doors_room f fd) (T : Top K mg) : FnOk P w K mg base CX0 3 f fd ["_law_flow_here"] (sp_law_doors_room K) := by
  obtain ⟨f_law_pick, fd_law_pick, F_law_pick, b_law_pick, m_law_pick⟩ := T.d_law_pick
  have G_law_pick := ok_law_pick (P := P) (w := w) (base := base) F_law_pick T
  obtain ⟨f_law_shuffled, fd_law_shuffled, F_law_shuffled, b_law_shuffled, m_law_shuffled⟩ := T.d_law_shuffled
  have G_law_shuffled := ok_law_shuffled (P := P) (w := w) (base := base) F_law_shuffled T
  obtain ⟨f_law_thing, fd_law_thing, F_law_thing, b_law_thing, m_law_thing⟩ := T.d_law_thing
  have G_law_thing := ok_law_thing (P := P) (w := w) (base := base) F_law_thing T
  refine F.ok sc_law_doors_room (fun vs H Q E h => ?_) (fun cdv A outer s H vs Q E hr h => ?_)
  · obtain ⟨f, c, rfl, _⟩ := h
    rfl
  obtain ⟨f, c, rfl, hF, q⟩ := h
  let R1 : TS := fun D' σ' H' => D'.rt = Q ∧ ∃ (iv ov : Int) (sl : Addr) (ss : List Str), σ' = [some (.ref f), some (.int iv), some (.int ov), some (.ref sl), none, none, none, none, none, none] ∧ H' sl = some (.lst (ss.map V.str)) ∧ sl ≠ f ∧ ss.length ≤ 6 ∧ 0 ≤ iv ∧ iv ≤ 3 ∧ ss.count ("in" : Str) = iv.toNat ∧ (ss = [] ∨ 0 < iv) ∧ (∀ s ∈ ss, s = "in" ∨ s = "out") ∧ Flow H' f c ∧ But f H H'
  refine ⟨_, (pss_cons (ps_set (i := 1) sc_law_doors_room.nd rfl (Or.inl rfl) (pe_call G_law_pick (hr.mono (by decide)) (by rfl) m_law_pick F_law_pick.kp b_law_pick .nil pass0 (pa_cons (pv 0) (pa_cons pe_int pa_nil))))
      (pss_cons (ps_set (i := 2) sc_law_doors_room.nd rfl (Or.inl rfl) (pe_ix (ix_listK K rfl) (pe_lst (pa_cons pe_int (pa_cons (pe_op op_add pe_int (pe_call G_law_pick (hr.mono (by decide)) (by rfl) m_law_pick F_law_pick.kp b_law_pick .nil pass0 (pa_cons (pv 0) (pa_cons pe_int pa_nil)))) pa_nil))) (pe_callTy call_int1 (by rfl) T.m_int (by decide +kernel) (pa_cons (pe_cmpR op_gt (pv 1) pe_int (nomark _)) pa_nil)) (fun _ _ => rfl)))
      (pss_cons (ps_set (i := 3) sc_law_doors_room.nd rfl (Or.inl rfl) (pe_call G_law_shuffled (hr.mono (by decide)) (by rfl) m_law_shuffled F_law_shuffled.kp b_law_shuffled .nil pass0 (pa_cons (pv 0) (pa_cons (pe_op op_cat (pe_op op_rep (pe_lst (pa_cons pe_str pa_nil)) (pv 1)) (pe_op op_rep (pe_lst (pa_cons pe_str pa_nil)) (pv 2))) pa_nil))))
      (PSs.to (pss_cons (ps_setLc (i := 4) (own := [("_law_k", 5), ("_law_sort", 6)]) (g := gTup K 2 (gCons (gName 5) (gCons (gName 6) gNil))) (by rfl) sc_law_doors_room.nd rfl rfl (sw_true rfl rfl rfl (by decide +kernel)) (pi_enumK K rfl (by rfl) T.m_enumerate (pa_cons (pv 3) pa_nil)) (blkOk_by (own := [("_law_k", 5), ("_law_sort", 6)]) (N := N_law_doors_room) (sc := defScope s_law_doors_room) (by decide +kernel)) (fun _ _ _ _ _ => (pg_tupK K rfl rfl (pgs_cons (pg_name (i := 5) sc_law_doors_room.nd rfl (Or.inl rfl)) (pgs_cons (pg_name (i := 6) sc_law_doors_room.nd rfl (Or.inl rfl)) pgs_nil)))) (fun _ _ _ _ _ => pts_one (pt_cmpR op_eq (pv 6) pe_str (nomark _))) (fun _ _ _ _ _ => (pv 5)))
      (pss_cons (ps_set (i := 7) sc_law_doors_room.nd rfl (Or.inl rfl) (pe_lst pa_nil))
      (pss_cons (ps_for PassesOwn.never rfl (pi_enumK K rfl (by rfl) T.m_enumerate (pa_cons (pv 3) pa_nil)) (pg_tupK K rfl rfl (pgs_cons (pg_name (i := 5) sc_law_doors_room.nd rfl (Or.inl rfl)) (pgs_cons (pg_name (i := 6) sc_law_doors_room.nd rfl (Or.inl rfl)) pgs_nil)))
        (pss_one (ps_if (pt_cmpR op_eq (pv 6) pe_str (nomark _)) (pss_cons (ps_set (i := 8) sc_law_doors_room.nd rfl (Or.inl rfl) (pe_callTy (call_tuple_ofK K rfl) (by rfl) T.m_tuple (by decide +kernel) (pa_cons (pe_lc (own := [("_law_j", 9)]) (g := gName 9) (tt := tYes) (by rfl) sc_law_doors_room.nd (pi_range1 (by rfl) T.m_range (pa_cons (pe_call G_law_pick (hr.mono (by decide)) (by rfl) m_law_pick F_law_pick.kp b_law_pick .nil pass0 (pa_cons (pv 0) (pa_cons pe_int pa_nil))) pa_nil)) (blkOk_by (own := [("_law_j", 9)]) (N := N_law_doors_room) (sc := defScope s_law_doors_room) (by decide +kernel)) (fun _ _ _ _ _ => (pg_name (i := 9) sc_law_doors_room.nd rfl (Or.inl rfl))) (fun _ _ _ _ _ => pts_nil) (fun _ _ _ _ _ => (pe_call G_law_thing (hr.mono (by decide)) (by rfl) m_law_thing F_law_thing.kp b_law_thing .nil pass0 (pa_cons (pv 0) pa_nil)))) pa_nil)))
      (pss_one (ps_expr (pe_bmK K rfl PySem.F.plainAttrs_list PySem.F.slot_list_append PySem.F.type_list_append mt_append (pv 7) (pa_cons (pe_tup (pa_cons (pe_ix (ix_listK K rfl) (pv 4) (pe_call G_law_pick (hr.mono (by decide)) (by rfl) m_law_pick F_law_pick.kp b_law_pick .nil pass0 (pa_cons (pv 0) (pa_cons (pv 1) pa_nil))) (fun _ _ => rfl)) (pa_cons (pv 5) (pa_cons (pv 8) pa_nil)))) pa_nil))))) pss_nil)))
      (pss_one (ps_ret (pe_tup (pa_cons (pe_callTy (call_tuple_ofK K rfl) (by rfl) T.m_tuple (by decide +kernel) (pa_cons (pe_lc (own := [("_law_sort", 6)]) (g := gName 6) (tt := tYes) (by rfl) sc_law_doors_room.nd (pi_listK K rfl (pv 3)) (blkOk_by (own := [("_law_sort", 6)]) (N := N_law_doors_room) (sc := defScope s_law_doors_room) (by decide +kernel)) (fun _ _ _ _ _ => (pg_name (i := 6) sc_law_doors_room.nd rfl (Or.inl rfl))) (fun _ _ _ _ _ => pts_nil) (fun _ _ _ _ _ => (pe_tup (pa_cons (pe_tup (pa_cons (pv 6) pa_nil)) (pa_cons pe_int pa_nil))))) pa_nil)) (pa_cons (pe_callTy (call_tuple_ofK K rfl) (by rfl) T.m_tuple (by decide +kernel) (pa_cons (pv 7) pa_nil)) pa_nil)))))))) R1 ?tail1)))), ?_⟩
  case tail1 =>
    rintro D' σ' H1 ⟨eD, iv, ov, sl, ss, rfl, hsl, nsl, ls, i0, i3, ci, some_, hall, F1, B1⟩
    refine ⟨_, rfl, sl, _, rfl, SqL.of hsl, fun G nG => lc_it (n := ss.length) (fun i H5 => H5 G = some (.lst (((List.range i).filter fun j => decide (ss[j]? = some ("in" : Str))).map nV)) ∧ Same H1 H5) ⟨upd_same, same_new nG⟩ ?_ ?_ ?_ ?_⟩
    · rintro i H5 hi ⟨_, s5⟩
      exact ⟨_, _, SqL.of (s5 _ _ hsl), by rw [List.getElem?_map, List.getElem?_eq_getElem hi]; rfl⟩
    · rintro H5 ⟨_, s5⟩
      exact ⟨_, SqL.of (s5 _ _ hsl), by rw [List.length_map]; exact Nat.le_refl _⟩
    · rintro i x H5 H6 hi ⟨hG, s5⟩ ⟨t, y, rfl, nt, rfl, fy⟩
      obtain ⟨sd, ei⟩ : ∃ sd, ss[i]? = some sd := ⟨_, List.getElem?_eq_getElem hi⟩
      have ey : y = V.str sd := by
        have := fy _ (SqL.of (s5 _ _ hsl))
        rw [List.getElem?_map, ei] at this
        exact (Option.some.inj this).symm
      subst ey
      have hG6 := same_new (o := .tup [.int (i : Nat), V.str sd]) nt _ _ hG
      have few := filt_len (p := fun j => decide (ss[j]? = some ("in" : Str))) i
      refine ⟨t, _, rfl, SqT.of upd_same, rfl, _, _, rfl, _, _, rfl, rfl, rfl, _, rfl, rfl, _, rfl, if_str (fun e => ?_) (fun e => ?_)⟩
      · refine ⟨_, rfl, _, hG6, by rw [List.length_map]; exact small1000 (by omega), ?_, Same.own (s5.trans (same_new nt)) nG⟩
        rw [upd_same, filt_succ, if_pos (decide_eq_true (by rw [ei, e])), List.map_append]
        rfl
      · refine ⟨?_, s5.trans (same_new nt)⟩
        rw [filt_succ, if_neg (fun z => e (by have := of_decide_eq_true z; rw [ei] at this; exact Option.some.inj this)), List.append_nil]
        exact hG6
    · rintro H2 ⟨hG, s2⟩
      have hG : H2 G = some (.lst ((insOf ss).map nV)) := hG
      have F2 := F1.same s2
      have gf : G ≠ f := F1.ne nG
      refine ⟨(by show 0 ≤ sizeLine; decide), fun L nL => ?_⟩
      have lf : L ≠ f := F2.ne nL
      have lc : L ≠ c := F2.nec nL
      have ls_ : L ≠ sl := (ne_of_none (s2 _ _ hsl) nL).symm
      have lg : L ≠ G := (ne_of_none hG nL).symm
      refine ⟨_, rfl, sl, _, rfl, SqL.of (same_new nL _ _ (s2 _ _ hsl)), for_it (n := ss.length) (fun i σ H3 => ∃ (bv : List V) (bs : List BR) (v5 v6 v8 v9 : Option V), σ = [some (.ref f), some (.int iv), some (.int ov), some (.ref sl), some (.ref G), v5, v6, some (.ref L), v8, v9] ∧ H3 L = some (.lst bv) ∧ All2 (BeltAt H3) bv bs ∧ DB ss i bs ∧ H3 sl = some (.lst (ss.map V.str)) ∧ H3 G = some (.lst ((insOf ss).map nV)) ∧ Flow H3 f c ∧ But f H2 H3)
        ⟨[], [], _, _, _, _, rfl, upd_same, .nil, DB.nil, same_new nL _ _ (s2 _ _ hsl), same_new nL _ _ hG, F2.new nL, But.refl.new nL⟩ ?_ ?_ ?_ ?_⟩
      · rintro i σ H3 hi ⟨bv, bs, v5, v6, v8, v9, rfl, hL, al, db, hsl3, hG3, F3, B3⟩
        exact ⟨_, _, SqL.of hsl3, by rw [List.getElem?_map, List.getElem?_eq_getElem hi]; rfl⟩
      · rintro σ H3 ⟨bv, bs, v5, v6, v8, v9, rfl, hL, al, db, hsl3, hG3, F3, B3⟩
        exact ⟨_, SqL.of hsl3, by rw [List.length_map]; exact Nat.le_refl _⟩
      · rintro i x σ H3 H4 hi ⟨bv, bs, v5, v6, v8, v9, rfl, hL, al, db, hsl3, hG3, F3, B3⟩ ⟨t, y, rfl, nt, rfl, fy⟩
        obtain ⟨sd, ei⟩ : ∃ sd, ss[i]? = some sd := ⟨_, List.getElem?_eq_getElem hi⟩
        have ey : y = V.str sd := by
          have := fy _ (SqL.of hsl3)
          rw [List.getElem?_map, ei] at this
          exact (Option.some.inj this).symm
        subst ey
        have F4 := F3.new (o := .tup [.int (i : Nat), V.str sd]) nt
        have B4 := B3.new (o := .tup [.int (i : Nat), V.str sd]) nt
        have s4 := same_new (H := H3) (o := .tup [.int (i : Nat), V.str sd]) nt
        refine ⟨t, _, rfl, SqT.of upd_same, rfl, _, _, rfl, _, _, rfl, rfl, ?_⟩
        refine ⟨_, rfl, rfl, _, rfl, if_str (fun e => ?_) (fun e => ?_)⟩
        · refine ⟨_, rfl, f, c, 7, rfl, by decide, by decide +kernel, F4, fun tv H5 t0 t1 F5 B5 => ?_⟩
          refine ⟨_, rfl, by omega, by omega, fun M nM => lc_range (lo := 0) (n := tv.toNat) (fun j H6 => ∃ vs : List Int, vs.length = j ∧ H6 M = some (.lst (vs.map V.int)) ∧ (∀ y ∈ vs, Small y) ∧ Flow H6 f c ∧ But f H5 H6) ⟨[], rfl, upd_same, (fun _ z => nomatch z), F5.new nM, But.refl.new nM⟩ ?_ ?_⟩
          · rintro j H6 hj ⟨vs, lv, hM, sm, F6, B6⟩
            have mf : M ≠ f := F5.ne nM
            have mc : M ≠ c := F5.nec nM
            refine ⟨rfl, yes_in ⟨_, rfl, f, c, rfl, F6, fun y H7 sy F7 B7 => ⟨_, B7 _ _ hM mf, ?_, vs ++ [y], by rw [List.length_append, lv]; rfl, ?_, ?_, F7.lst mf mc, (B6.trans B7).own nM⟩⟩⟩
            · rw [List.length_map, lv]; exact small1000 (by omega)
            · rw [upd_same, List.map_append]; rfl
            · intro z hz
              rcases List.mem_append.mp hz with hz | hz
              · exact sm z hz
              · obtain rfl : z = y := by simpa using hz
                exact sy
          · rintro H6 ⟨vs, lv, hM, sm, F6, B6⟩
            refine ⟨M, _, rfl, .inl ⟨SqL.of hM, fun tp ntp => ?_⟩⟩
            have F7 := F6.new (o := .tup (vs.map V.int)) ntp
            have B7 : But f H3 (upd H6 tp (.tup (vs.map V.int))) := ((((But.of s4).trans B5).trans B6).new ntp)
            refine ⟨_, rfl, .inl ⟨rfl, _, SqL.of (B7 _ _ hL lf)⟩, _, rfl, _, rfl, _, rfl, f, c, iv, rfl, ?_, ?_, F7, fun gi H8 g0 g1 F8 B8 => ?_⟩
            · rcases some_ with z | z
              · rw [z] at hi; exact absurd hi (Nat.not_lt_zero _)
              · exact z
            · have : iv.natAbs.log2 ≤ iv.natAbs := Nat.log2_le_self _
              omega
            have gl : gi.toNat < (insOf ss).length := by rw [ins_len, ci]; omega
            obtain ⟨g, eg⟩ : ∃ g, (insOf ss)[gi.toNat]? = some g := ⟨_, List.getElem?_eq_getElem gl⟩
            have egi : atI ((insOf ss).map nV) gi = some (nV g) := by
              have : atI ((insOf ss).map nV) ((gi.toNat : Nat) : Int) = some (nV g) := atI_nat (by rw [List.getElem?_map, eg]; rfl)
              rwa [show ((gi.toNat : Nat) : Int) = gi by omega] at this
            have B38 := B7.trans B8
            refine ⟨G, _, _, _, rfl, rfl, SqL.of (B38 _ _ hG3 gf), egi, _, rfl, _, rfl, (by show 3 ≤ sizeLine; decide), fun bt nbt => ⟨L, _, _, rfl, rfl, same_new nbt _ _ (B38 _ _ hL lf), ?_, ?_⟩⟩
            · rw [al.length]
              have := db.len
              exact small1000 (by omega)
            have hL9 := same_new (o := .tup [nV g, .int (i : Nat), V.ref tp]) nbt _ _ (B38 _ _ hL lf)
            have k9 : TK H3 (upd H8 bt (.tup [nV g, .int (i : Nat), V.ref tp])) := (TK.but F3 B38).trans (TK.new nbt)
            refine ⟨bv ++ [.ref bt], bs ++ [⟨g, i, vs⟩], _, _, _, _, rfl, upd_same, ?_, db.more (by rw [ei, e]) (ins_mem (List.mem_of_getElem? eg)) ⟨by omega, sm⟩, ?_, ?_, (F8.new nbt).lst lf lc, ?_⟩
            · refine ((al.imp fun _ _ z => z.keep k9).snoc ⟨bt, tp, rfl, upd_same, same_new nbt _ _ (B8 _ _ upd_same (F6.ne ntp))⟩).imp fun _ _ z => z.keep (TK.lst hL9)
            · rw [upd_ne ls_.symm]; exact same_new nbt _ _ (B38 _ _ hsl3 nsl)
            · rw [upd_ne lg.symm]; exact same_new nbt _ _ (B38 _ _ hG3 gf)
            · exact ((B3.trans B38).new nbt).own nL
        · have k4 : TK H3 _ := TK.new (o := .tup [.int (i : Nat), V.str sd]) nt
          refine ⟨bv, bs, _, _, _, _, rfl, s4 _ _ hL, al.imp fun _ _ z => z.keep k4, db.skip (by rw [ei]; exact fun z => e (Option.some.inj z)), s4 _ _ hsl3, s4 _ _ hG3, F4, B4⟩
      · rintro σ H3 ⟨bv, bs, v5, v6, v8, v9, rfl, hL, al, db, hsl3, hG3, F3, B3⟩
        refine ⟨_, rfl, sl, rfl, ⟨_, SqL.of hsl3⟩, fun E nE => lc_list (K := K) (a := sl) (xs := ss.map V.str) (fun i H4 => ∃ hv, H4 E = some (.lst hv) ∧ All2 (HandAt H4) hv ((ss.take i).map doorH) ∧ Same H3 H4) ⟨[], upd_same, .nil, same_new nE⟩ (fun i H4 _ ⟨_, _, _, s4⟩ => SqL.of (s4 _ _ hsl3)) ?_ ?_⟩
        · rintro i x H4 hx ⟨hv, hE, alh, s4⟩
          have il := (List.getElem?_eq_some_iff.mp hx).1
          rw [List.length_map] at il
          obtain ⟨sd, ei⟩ : ∃ sd, ss[i]? = some sd := ⟨_, List.getElem?_eq_getElem il⟩
          rw [List.getElem?_map, ei] at hx
          cases hx
          refine ⟨rfl, yes_in ⟨_, rfl, (by show 1 ≤ sizeLine; decide), fun a1 na1 => ⟨(by show 2 ≤ sizeLine; decide), fun a2 na2 => ?_⟩⟩⟩
          have s6 : Same H4 _ := (same_new (o := .tup [V.str sd]) na1).trans (same_new (o := .tup [V.ref a1, V.int 0]) na2)
          refine ⟨hv, s6 _ _ hE, ?_, hv ++ [.ref a2], upd_same, ?_, Same.own (s4.trans s6) nE⟩
          · rw [alh.length, List.length_map, List.length_take]; exact small1000 (by omega)
          · rw [List.take_add_one, ei, List.map_append]
            exact ((alh.imp fun _ _ z => z.keep (TK.same s6)).snoc ⟨a2, a1, rfl, upd_same, same_new na2 _ _ upd_same⟩).imp fun _ _ z => z.keep (TK.lst (s6 _ _ hE))
        · rintro H4 ⟨hv, hE, alh, s4⟩
          rw [List.length_map, List.take_length] at alh
          refine ⟨E, _, rfl, .inl ⟨SqL.of hE, fun t1 nt1 => ⟨_, rfl, L, _, rfl, .inl ⟨SqL.of (same_new nt1 _ _ (s4 _ _ hL)), fun t2 nt2 => ⟨(by show 2 ≤ sizeLine; decide), fun t3 nt3 => ?_⟩⟩⟩⟩⟩
          have k : Same H4 (upd (upd (upd H4 t1 (.tup hv)) t2 (.tup bv)) t3 (.tup [V.ref t1, V.ref t2])) := ((same_new nt1).trans (same_new nt2)).trans (same_new nt3)
          rw [eD]
          refine q t3 (ss.map doorH) bs _ ⟨t1, t2, hv, bv, upd_same, same_new nt3 _ _ (same_new nt2 _ _ upd_same), same_new nt3 _ _ upd_same, alh.imp fun _ _ z => z.keep (TK.same k), al.imp fun _ _ z => (z.keep (TK.same s4)).keep (TK.same k)⟩ (db.ok hall ls) (((F3.same s4)).same k) ((((B1.trans (But.of s2)).trans B3).trans (But.of s4)).trans (But.of k))
  refine ⟨_, rfl, f, c, 4, rfl, by decide, by decide +kernel, hF, fun iv H1 i0 i1 F1 B1 => ?_⟩
  refine ⟨_, rfl, f, c, 3, rfl, by decide, by decide +kernel, F1, fun ov H2 o0 o1 F2 B2 => ⟨_, _, rfl, rfl, (by show 2 ≤ sizeLine; decide), fun l nl => ?_⟩⟩
  obtain ⟨o, ho, oz, o2, o3⟩ : ∃ o : Int, atI [V.int 0, V.int (1 + ov)] (if decide (iv > 0) = true then 1 else 0) = some (.int o) ∧ (iv = 0 → o = 0) ∧ 0 ≤ o ∧ o ≤ 3 := by
    by_cases z : iv > 0
    · rw [decide_eq_true z]
      exact ⟨1 + ov, rfl, fun e => by omega, by omega, by omega⟩
    · rw [decide_eq_false z]
      exact ⟨0, rfl, fun _ => rfl, by omega, by omega⟩
  have F3 := F2.new (o := .lst [V.int 0, V.int (1 + ov)]) nl
  refine ⟨_, rfl, _, _, rfl, rfl, .inr ⟨_, rfl, l, _, _, _, rfl, rfl, SqL.of upd_same, ho, ?_⟩⟩
  refine ⟨_, rfl, (by show 1 ≤ sizeLine; decide), fun l1 nl1 => ⟨_, rfl, l1, iv, _, rfl, rfl, upd_same, by omega, by omega, little (by show 1 * iv.toNat ≤ 1000; omega), fun p1 np1 => ?_⟩⟩
  rw [flat_rep]
  have F4 := (F3.new (o := .lst [V.str "in"]) nl1).new (o := .lst (List.replicate iv.toNat (V.str "in"))) np1
  refine ⟨(by show 1 ≤ sizeLine; decide), fun l2 nl2 => ⟨_, rfl, l2, o, _, rfl, rfl, upd_same, by omega, by omega, little (by show 1 * o.toNat ≤ 1000; omega), fun p2 np2 => ?_⟩⟩
  rw [flat_rep]
  have F5 := (F4.new (o := .lst [V.str "out"]) nl2).new (o := .lst (List.replicate o.toNat (V.str "out"))) np2
  refine ⟨p1, p2, _, _, rfl, rfl, same_new np2 _ _ (same_new nl2 _ _ upd_same), upd_same, ?_, fun p3 np3 => ?_⟩
  · rw [List.length_replicate, List.length_replicate]; exact little (by omega)
  have F6 := F5.new (o := .lst (List.replicate iv.toNat (V.str "in") ++ List.replicate o.toNat (V.str "out"))) np3
  refine ⟨f, c, p3, _, rfl, SqL.of upd_same, F5.ne np3, ?_, F6, fun p ys H8 hp np hy F8 B8 => ?_⟩
  · rw [List.length_append, List.length_replicate, List.length_replicate]; omega
  have ez : List.replicate iv.toNat (V.str "in") ++ List.replicate o.toNat (V.str "out") = (List.replicate iv.toNat ("in" : Str) ++ List.replicate o.toNat ("out" : Str)).map V.str := by
    rw [List.map_append, List.map_replicate, List.map_replicate]
  rw [ez] at hp
  obtain ⟨ss, rfl, hss⟩ := perm_strs hp
  refine ⟨rfl, iv, o, p, ss, rfl, hy, F6.ne np, ?_, i0, by omega, ?_, ?_, ?_, F8, But.trans ((((((((B1.trans B2).new nl).new nl1).new np1).new nl2).new np2).new np3)) B8⟩
  · rw [hss.length_eq, List.length_append, List.length_replicate, List.length_replicate]; omega
  · rw [hss.count_eq, List.count_append, List.count_replicate, List.count_replicate, if_pos (beq_self_eq_true _), if_neg (by simpa using in_out.symm), Nat.add_zero]
  · by_cases z : 0 < iv
    · exact .inr z
    · refine .inl (List.eq_nil_of_length_eq_zero ?_)
      rw [hss.length_eq, List.length_append, List.length_replicate, List.length_replicate, oz (by omega)]
      show iv.toNat + 0 = 0
      omega
  · intro s hs
    rcases List.mem_append.mp (hss.mem_iff.mp hs) with hs | hs
    · exact .inl (List.mem_replicate.mp hs).2
    · exact .inr (List.mem_replicate.mp hs).2
def sp_law_any_room (K : PySem.W.Frag) : Sp := fun vs H Q _ => ∃ f c : Addr, vs = [.ref f] ∧ Flow H f c ∧ ∀ (r : Addr) (hs : List HR) (bs : List BR) (H' : Hp), RoomAt H' r hs bs → RoomOk hs bs → 0 < hs.length → Flow H' f c → But f H H' → Q (.ref r) H'
theorem ok_law_any_room {f : Addr} {fd : FuncData} (F : Fun K "_law_any_room" "_law_any_room" s_law_any_room f fd) (T : Top K mg) : FnOk P w K mg base CX0 6 f fd ["_law_flow_here"] (sp_law_any_room K) := by
  obtain ⟨f_law_pick, fd_law_pick, F_law_pick, b_law_pick, m_law_pick⟩ := T.d_law_pick
  have G_law_pick := ok_law_pick (P := P) (w := w) (base := base) F_law_pick T
  obtain ⟨f_law_room, fd_law_room, F_law_room, b_law_room, m_law_room⟩ := T.d_law_room
  have G_law_room := ok_law_room (P := P) (w := w) (base := base) F_law_room T
  obtain ⟨f_law_doors_room, fd_law_doors_room, F_law_doors_room, b_law_doors_room, m_law_doors_room⟩ := T.d_law_doors_room
  have G_law_doors_room := ok_law_doors_room (P := P) (w := w) (base := base) F_law_doors_room T
  refine F.ok sc_law_any_room (fun vs H Q E h => ?_) (fun cdv A outer s H vs Q E hr h => ?_)
  · obtain ⟨f, c, rfl, _⟩ := h
    rfl
  obtain ⟨f, c, rfl, hF, q⟩ := h
  refine ⟨_, (pss_cons (ps_set (i := 1) sc_law_any_room.nd rfl (Or.inl rfl) (pe_call G_law_pick (hr.mono (by decide)) (by rfl) m_law_pick F_law_pick.kp b_law_pick .nil pass0 (pa_cons (pv 0) (pa_cons pe_int pa_nil))))
      (pss_cons (ps_if (pt_cmpR op_eq (pv 1) pe_int (nomark _)) (pss_cons (ps_set (i := 2) sc_law_any_room.nd rfl (Or.inl rfl) (pe_call G_law_doors_room (hr.mono (by decide)) (by rfl) m_law_doors_room F_law_doors_room.kp b_law_doors_room .nil pass0 (pa_cons (pv 0) pa_nil)))
      (pss_one (ps_if (pt_cmpR op_gt (pe_callB (call_len_seqK K rfl) (by rfl) T.m_len (by decide +kernel) (pa_cons (pe_ix (ix_tupK K rfl) (pv 2) pe_int (fun _ _ => rfl)) pa_nil)) pe_int (nomark _)) (pss_one (ps_ret (pv 2))) pss_nil))) pss_nil)
      (pss_one (ps_ret (pe_call G_law_room (hr.mono (by decide)) (by rfl) m_law_room F_law_room.kp b_law_room .nil pass0 (pa_cons (pv 0) (pa_cons (pe_ix (ix_listK K rfl) (pe_lst (pa_cons pe_int (pa_cons pe_int (pa_cons pe_int (pa_cons pe_int (pa_cons pe_int (pa_cons pe_int (pa_cons pe_int (pa_cons pe_int pa_nil))))))))) (pv 1) (fun _ _ => rfl)) pa_nil))))))), ?_⟩
  refine ⟨_, rfl, f, c, 8, rfl, by decide, by decide +kernel, hF, fun v H1 v0 v1 F1 B1 => ?_⟩
  have fin : ∀ (H2 : Hp), Flow H2 f c → But f H H2 → ∀ l, H2 l = none → ∃ (p : Addr) (xs : List V) (i : Int) (u : V), V.ref l = .ref p ∧ V.int v = .int i ∧ SqL K (upd H2 l (.lst [V.int 5, V.int 5, V.int 5, V.int 5, V.int 3, V.int 3, V.int 2, V.int 8])) p xs ∧ atI xs i = some u ∧ sp_law_room K [.ref f, u] (upd H2 l (.lst [V.int 5, V.int 5, V.int 5, V.int 5, V.int 3, V.int 3, V.int 2, V.int 8])) Q E0 := fun H2 F2 B2 l nl => by
    obtain ⟨mm, hmm, m1, m8⟩ : ∃ mm : Int, atI [V.int 5, V.int 5, V.int 5, V.int 5, V.int 3, V.int 3, V.int 2, V.int 8] v = some (.int mm) ∧ 1 ≤ mm ∧ mm ≤ 8 := by
      have : v = 0 ∨ v = 1 ∨ v = 2 ∨ v = 3 ∨ v = 4 ∨ v = 5 ∨ v = 6 ∨ v = 7 := by omega
      rcases this with rfl | rfl | rfl | rfl | rfl | rfl | rfl | rfl
      · exact ⟨5, rfl, by decide, by decide⟩
      · exact ⟨5, rfl, by decide, by decide⟩
      · exact ⟨5, rfl, by decide, by decide⟩
      · exact ⟨5, rfl, by decide, by decide⟩
      · exact ⟨3, rfl, by decide, by decide⟩
      · exact ⟨3, rfl, by decide, by decide⟩
      · exact ⟨2, rfl, by decide, by decide⟩
      · exact ⟨8, rfl, by decide, by decide⟩
    exact ⟨l, _, v, _, rfl, rfl, SqL.of upd_same, hmm, f, c, mm, rfl, m1, m8, F2.new nl, fun r hs bs H3 hR ok h0 F3 B3 => q r hs bs H3 hR ok h0 F3 ((B2.new nl).trans B3)⟩
  refine ⟨_, rfl, rfl, _, rfl, if_bl (fun _ => ?_) (fun _ => ?_)⟩
  · refine ⟨_, rfl, f, c, rfl, F1, fun r hs bs H2 hR ok F2 B2 => ?_⟩
    obtain ⟨ha, ba, hv, bv, er, eh, eb, alh, alb⟩ := hR.ex
    refine ⟨_, rfl, r, _, _, _, rfl, rfl, SqT.of er, atI_nat (j := 0) rfl, ha, _, rfl, .inr (SqT.of eh), _, _, rfl, rfl, _, rfl, if_bl (fun z => ?_) (fun _ => ?_)⟩
    · have z := of_decide_eq_true z
      have lhv := alh.length
      exact ⟨_, rfl, q r hs bs H2 hR ok (by omega) F2 (B1.trans B2)⟩
    · exact ⟨_, rfl, (by show 8 ≤ sizeLine; decide), fun l nl => ⟨_, rfl, fin H2 F2 (B1.trans B2) l nl⟩⟩
  · exact ⟨_, rfl, (by show 8 ≤ sizeLine; decide), fun l nl => ⟨_, rfl, fin H1 F1 B1 l nl⟩⟩
end
theorem FwT.one {hs : List HR} {bs : List BR} {l : Nat} {T : Int} {sh sh' : Nat → Int} {ys ys' : List Wy} {pr pr' : List Int} (a : FwT hs bs l T sh ys pr) (b : FwT hs bs l T sh' ys' pr') : sh = sh' ∧ ys = ys' ∧ pr = pr' := by
  obtain ⟨y1, lv, g, rfl⟩ := a
  obtain ⟨y2, lv', g', rfl⟩ := b
  obtain rfl := YsIs.one y1 y2
  obtain ⟨rfl, rfl⟩ := g.one g'
  exact ⟨rfl, rfl, rfl⟩
theorem All2.take {α β : Type} {R : α → β → Prop} : ∀ {as : List α} {bs : List β}, All2 R as bs → ∀ n, All2 R (as.take n) (bs.take n)
  | _, _, .nil, n => by rw [List.take_nil, List.take_nil]; exact .nil
  | _, _, .cons h t, 0 => .nil
  | _, _, .cons h t, n + 1 => .cons h (t.take n)
theorem All2.drop {α β : Type} {R : α → β → Prop} : ∀ {as : List α} {bs : List β}, All2 R as bs → ∀ n, All2 R (as.drop n) (bs.drop n)
  | _, _, .nil, n => by rw [List.drop_nil, List.drop_nil]; exact .nil
  | _, _, .cons h t, 0 => .cons h t
  | _, _, .cons h t, n + 1 => t.drop n
theorem All2.app {α β : Type} {R : α → β → Prop} {as : List α} {bs : List β} (h : All2 R as bs) {cs : List α} {ds : List β} (g : All2 R cs ds) : All2 R (as ++ cs) (bs ++ ds) := by
  induction h with
  | nil => exact g
  | cons a _ ih => exact .cons a ih
def RgAt (H : Hp) (v : V) (x : Nat × List Nat) : Prop := ∃ p : Addr, v = .ref p ∧ PairAt H p x.1 x.2
theorem RgAt.keep {H H' : Hp} {v : V} {x : Nat × List Nat} (a : RgAt H v x) (k : TK H H') : RgAt H' v x := by
  obtain ⟨p, e, h⟩ := a
  exact ⟨p, e, h.keep k⟩
theorem wayEnd_no {bs : List BR} {n k : Nat} {ns : List Nat} (e : bs[n]? = none) : wayEnd bs k (n :: ns) = none := by
  show (match bs[n]? with | some b => if b.one = k then wayEnd bs b.to ns else none | none => none) = none
  rw [e]
/-! ### walks looked at, whatever they are -/
abbrev Wk := Nat × List Nat
structure WkOk (hs : List HR) (bs : List BR) (x : Wk) : Prop where
  k : x.1 < hs.length
  lt : ∀ n ∈ x.2, n < bs.length
  ln : x.2.length ≤ 60
def endO (bs : List BR) (x : Wk) : Option Nat := wayEnd bs x.1 x.2
def enD (bs : List BR) (x : Wk) : Nat := (endO bs x).getD 0
def oI : Option Int → V
  | none => .non
  | some i => .int i
def stepT (hs : List HR) (late : Option Nat) (e o : Nat) : Option Int := if o = e then some 0 else match late with
  | none => none
  | some l => if e ∈ doorsOf "out" hs ∧ o ∈ doorsOf "in" hs then some ((l : Nat) : Int) else none
def sumO : List (Option Int) → Option Int
  | [] => some 0
  | o :: os => match o, sumO os with
    | some a, some b => some (a + b)
    | _, _ => none
theorem sumO_none {l : List (Option Int)} (h : none ∈ l) : sumO l = none := by
  induction l with
  | nil => cases h
  | cons o os ih =>
    rcases List.mem_cons.mp h with rfl | h
    · rfl
    · show (match o, sumO os with | some a, some b => some (a + b) | _, _ => none) = none
      rw [ih h]
      cases o <;> rfl
theorem sumO_some {l : List (Option Int)} (h : none ∉ l) : sumO l = some (l.map fun o => o.getD 0).sum := by
  induction l with
  | nil => rfl
  | cons o os ih =>
    have ih := ih fun z => h (List.mem_cons_of_mem _ z)
    cases o with
    | none => exact absurd (List.mem_cons_self ..) h
    | some a =>
      show (match some a, sumO os with | some a, some b => some (a + b) | _, _ => none) = _
      rw [ih]
      rfl
theorem sumO_snoc (l : List (Option Int)) (o : Option Int) : sumO (l ++ [o]) = match sumO l, o with
    | some a, some b => some (a + b)
    | _, _ => none := by
  by_cases hn : none ∈ l
  · rw [sumO_none hn, sumO_none (List.mem_append_left _ hn)]
  · rw [sumO_some hn]
    cases o with
    | none => rw [sumO_none (List.mem_append_right _ (List.mem_singleton.mpr rfl))]
    | some b =>
      have h2 : none ∉ l ++ [some b] := fun z => (List.mem_append.mp z).elim hn fun z => by cases List.mem_singleton.mp z
      rw [sumO_some h2, List.map_append, List.sum_append]
      show some (_ + (b + 0)) = some (_ + b)
      rw [Int.add_zero]
def trW (bs : List BR) (ws : List Wk) : Int := (ws.map fun x => (x.2.map (trB bs)).sum).sum
abbrev later (ws : List Wk) : List Wk := ws.drop 1 ++ ws.take 1
theorem later_len {ws : List Wk} : (later ws).length = ws.length := by
  rw [List.length_append, List.length_drop, List.length_take]
  omega
def pS (hs : List HR) (bs : List BR) (late : Option Nat) (ps : List (Wk × Wk)) : List (Option Int) := ps.map fun p => stepT hs late (enD bs p.1) p.2.1
def allE (bs : List BR) (ws : List Wk) : Prop := ∀ x ∈ ws, (endO bs x).isSome = true
instance {bs : List BR} {ws : List Wk} : Decidable (allE bs ws) := List.decidableBAll _ _
def addT (t : Int) : Option Int → Option Int
  | some s => some (s + t)
  | none => none
def openT (hs : List HR) (bs : List BR) (late : Option Nat) (ws : List Wk) : Option Int := if ws = [] ∨ ¬ allE bs ws then none else addT (trW bs ws) (sumO (pS hs bs late (ws.zip (ws.drop 1))))
def closT (hs : List HR) (bs : List BR) (late : Option Nat) (ws : List Wk) : Option Int := if ws = [] ∨ ¬ allE bs ws then none else addT (trW bs ws) (sumO (pS hs bs late (ws.zip (later ws))))
theorem zip_later {y : Wk} : ∀ (ws : List Wk) (x z : Wk), (x :: ws).zip (ws ++ [z]) = (x :: ws).zip ws ++ [((x :: ws).getLast (List.cons_ne_nil _ _), z)]
  | [], x, z => rfl
  | u :: ws, x, z => by
    show (x, u) :: (u :: ws).zip (ws ++ [z]) = (x, u) :: (u :: ws).zip ws ++ _
    rw [zip_later (y := y) ws u z]
    rfl
theorem closT_open {hs : List HR} {bs : List BR} {late : Option Nat} {ws : List Wk} {x y : Wk} (h0 : ws[0]? = some y) (h1 : ws[ws.length - 1]? = some x) : closT hs bs late ws = match openT hs bs late ws, stepT hs late (enD bs x) y.1 with
    | some a, some b => some (a + b)
    | _, _ => none := by
  cases ws with
  | nil => cases h0
  | cons u ws =>
    obtain rfl : u = y := Option.some.inj h0
    have el : (u :: ws).getLast (List.cons_ne_nil _ _) = x := by
      rw [List.getLast_eq_getElem]
      have h1 := (List.getElem?_eq_some_iff.mp h1)
      obtain ⟨_, h1⟩ := h1
      exact h1
    unfold closT openT
    by_cases c : u :: ws = [] ∨ ¬ allE bs (u :: ws)
    · rw [if_pos c, if_pos c]
    · rw [if_neg c, if_neg c]
      have e : (u :: ws).zip (later (u :: ws)) = (u :: ws).zip ((u :: ws).drop 1) ++ [(x, u)] := by
        show (u :: ws).zip (ws ++ [u]) = (u :: ws).zip ws ++ [(x, u)]
        rw [zip_later (y := u) ws u u, el]
      rw [e]
      unfold pS
      rw [List.map_append]
      show addT _ (sumO (_ ++ [stepT hs late (enD bs x) u.1])) = _
      rw [sumO_snoc]
      generalize sumO ((List.map (fun p => stepT hs late (enD bs p.1) p.2.1) ((u :: ws).zip ((u :: ws).drop 1)))) = s
      cases s with
      | none => rfl
      | some s =>
        cases stepT hs late (enD bs x) u.1 with
        | none => rfl
        | some b =>
          show some (s + b + _) = some (s + _ + b)
          congr 1
          omega
theorem inV_non {α : Type} {f : α → V} {l : List α} : inV .non (l.map f) = l.any fun x => eqV (f x) .non := by
  unfold inV
  rw [List.any_map]
  rfl
theorem wayEnd_lt57 {hs : List HR} {bs : List BR} (hto : ∀ b ∈ bs, b.to < hs.length) : ∀ {ns : List Nat} {k e : Nat}, k < hs.length → wayEnd bs k ns = some e → e < hs.length
  | [], k, e, hk, w => by cases w; exact hk
  | n :: ns, k, e, hk, w => by
    cases eb : bs[n]? with
    | none => rw [wayEnd_no eb] at w; cases w
    | some b =>
      rw [wayEnd_cons eb] at w
      by_cases z : b.one = k
      · rw [if_pos z] at w; exact wayEnd_lt57 hto (hto b (List.mem_of_getElem? eb)) w
      · rw [if_neg z] at w; cases w
section
variable {P : Program} {w : World} {K : PySem.W.Frag} {mg : Str → Option Value} {base : Heap}
def sp_law_trays (K : PySem.W.Frag) : Sp := fun vs H Q _ => ∃ (r t : Addr) (hs : List HR) (bs : List BR) (k : Nat) (ns : List Nat), vs = [.ref r, .ref t] ∧ RoomAt H r hs bs ∧ PairAt H t k ns ∧ (∀ n ∈ ns, n < bs.length) ∧ ns.length ≤ 400 ∧ ∀ H', Same H H' → Q (.int (ns.map (trB bs)).sum) H'
theorem ok_law_trays {f : Addr} {fd : FuncData} (F : Fun K "_law_trays" "_law_trays" s_law_trays f fd) (T : Top K mg) : FnOk P w K mg base CX0 1 f fd ["_law_room_here", "_law_way"] (sp_law_trays K) := by
  refine F.ok sc_law_trays (fun vs H Q E h => ?_) (fun cdv A outer s H vs Q E hr h => ?_)
  · obtain ⟨r, t, hs, bs, k, ns, rfl, _⟩ := h
    rfl
  obtain ⟨r, t, hs, bs, k, ns, rfl, hR, ⟨g, et, eg⟩, hn, ln, q⟩ := h
  obtain ⟨ha, ba, hv, bv, er, eh, eb, alh, alb⟩ := hR.ex
  refine ⟨_, (pss_one (ps_ret (pe_callB (cr_sumK K rfl rfl) (by rfl) T.m_sum (by decide +kernel) (pa_cons (pe_lc (own := [("_law_b", 2)]) (g := gName 2) (tt := tYes) (by rfl) sc_law_trays.nd (pi_tupK K rfl (pe_ix (ix_tupK K rfl) (pv 1) pe_int (fun _ _ => rfl))) (blkOk_by (own := [("_law_b", 2)]) (N := N_law_trays) (sc := defScope s_law_trays) (by decide +kernel)) (fun _ _ _ _ _ => (pg_name (i := 2) sc_law_trays.nd rfl (Or.inl rfl))) (fun _ _ _ _ _ => pts_nil) (fun _ _ _ _ _ => (pe_callB (call_len_seqK K rfl) (by rfl) T.m_len (by decide +kernel) (pa_cons (pe_ix (ix_tupK K rfl) (pe_ix (ix_tupK K rfl) (pe_ix (ix_tupK K rfl) (pv 0) pe_int (fun _ _ => rfl)) (pv 2) (fun _ _ => rfl)) pe_int (fun _ _ => rfl)) pa_nil)))) pa_nil)))), ?_⟩
  refine ⟨_, rfl, t, _, _, _, rfl, rfl, SqT.of et, atI_nat (j := 1) rfl, g, rfl, ⟨_, SqT.of eg⟩, fun D nD => lc_tup (K := K) (a := g) (xs := ns.map nV) (fun i H5 => H5 D = some (.lst (((ns.take i).map (trB bs)).map V.int)) ∧ Same H H5) ⟨upd_same, same_new nD⟩ (fun i H5 _ ⟨_, s5⟩ => SqT.of (s5 _ _ eg)) ?_ ?_⟩
  · rintro i x H5 hx ⟨hD, s5⟩
    obtain ⟨n, en, rfl⟩ := nats_at hx
    have il := (List.getElem?_eq_some_iff.mp en).1
    have nb := hn n (List.mem_of_getElem? en)
    have ebn : bs[n]? = some bs[n] := List.getElem?_eq_getElem nb
    obtain ⟨x, ex, ⟨t2, g2, rfl, e1, e2⟩⟩ := alb.get ebn
    refine ⟨rfl, yes_in ⟨_, rfl, r, _, _, _, rfl, rfl, SqT.of (s5 _ _ er), atI_nat (j := 1) rfl, _, rfl, ba, _, _, _, rfl, rfl, SqT.of (s5 _ _ eb), atI_nat ex, t2, _, _, _, rfl, rfl, SqT.of (s5 _ _ e1), atI_nat (j := 2) rfl, g2, _, rfl, .inr (SqT.of (s5 _ _ e2)), _, hD, ?_, ?_, Same.own s5 nD⟩⟩
    · rw [List.length_map, List.length_map, List.length_take]; exact small1000 (by omega)
    · rw [upd_same, List.take_add_one, en, List.map_append, List.map_append, List.length_map]
      show _ = some (HO.lst (_ ++ [V.int (trB bs n)]))
      unfold trB
      rw [ebn]
  · rintro H5 ⟨hD, s5⟩
    rw [List.length_map, List.take_length] at hD
    exact ⟨D, _, rfl, SqL.of hD, q _ s5⟩
def sp_law_end (K : PySem.W.Frag) : Sp := fun vs H Q _ => ∃ (r t : Addr) (hs : List HR) (bs : List BR) (k : Nat) (ns : List Nat), vs = [.ref r, .ref t] ∧ RoomAt H r hs bs ∧ PairAt H t k ns ∧ (∀ n ∈ ns, n < bs.length) ∧ ∀ H', Same H H' → Q (onV (wayEnd bs k ns)) H'
theorem ok_law_end {f : Addr} {fd : FuncData} (F : Fun K "_law_end" "_law_end" s_law_end f fd) (T : Top K mg) : FnOk P w K mg base CX0 1 f fd ["_law_room_here", "_law_pair"] (sp_law_end K) := by
  refine F.ok sc_law_end (fun vs H Q E h => ?_) (fun cdv A outer s H vs Q E hr h => ?_)
  · obtain ⟨r, t, hs, bs, k, ns, rfl, _⟩ := h
    rfl
  obtain ⟨r, t, hs, bs, k, ns, rfl, hR, ⟨g, et, eg⟩, hn, q⟩ := h
  obtain ⟨ha, ba, hv, bv, er, eh, eb, alh, alb⟩ := hR.ex
  refine ⟨_, (pss_cons (ps_set (i := 2) sc_law_end.nd rfl (Or.inl rfl) (pe_ix (ix_tupK K rfl) (pv 1) pe_int (fun _ _ => rfl)))
      (pss_cons (ps_for PassesOwn.never rfl (pi_tupK K rfl (pe_ix (ix_tupK K rfl) (pv 1) pe_int (fun _ _ => rfl))) (pg_name (i := 3) sc_law_end.nd rfl (Or.inl rfl))
        (pss_one (ps_if (PW.pt (pw_and (pt_cmpR op_notN (pv 2) pe_non (nomark _)) (pw_and1 (pt_cmpR op_eq (pe_ix (ix_tupK K rfl) (pe_ix (ix_tupK K rfl) (pe_ix (ix_tupK K rfl) (pv 0) pe_int (fun _ _ => rfl)) (pv 3) (fun _ _ => rfl)) pe_int (fun _ _ => rfl)) (pv 2) (nomark _))))) (pss_one (ps_set (i := 2) sc_law_end.nd rfl (Or.inl rfl) (pe_ix (ix_tupK K rfl) (pe_ix (ix_tupK K rfl) (pe_ix (ix_tupK K rfl) (pv 0) pe_int (fun _ _ => rfl)) (pv 3) (fun _ _ => rfl)) pe_int (fun _ _ => rfl)))) (pss_one (ps_set (i := 2) sc_law_end.nd rfl (Or.inl rfl) pe_non)))))
      (pss_one (ps_ret (pv 2))))), ?_⟩
  refine ⟨_, rfl, t, _, _, _, rfl, rfl, SqT.of et, atI_nat (j := 0) rfl, ?_⟩
  refine ⟨_, rfl, t, _, _, _, rfl, rfl, SqT.of et, atI_nat (j := 1) rfl, g, rfl, ⟨_, SqT.of eg⟩, for_tup (K := K) (a := g) (xs := ns.map nV) (fun i σ H2 => ∃ (cur : Option Nat) (v3 : Option V), σ = [some (.ref r), some (.ref t), some (onV cur), v3] ∧ wayEnd bs k ns = (cur.bind fun c => wayEnd bs c (ns.drop i)) ∧ Same H H2)
    ⟨some k, none, rfl, rfl, Same.refl _⟩ (fun i σ H2 _ ⟨_, _, _, _, s2⟩ => SqT.of (s2 _ _ eg)) ?_ ?_⟩
  · rintro i x σ H2 hx ⟨cur, v3, rfl, hw, s2⟩
    obtain ⟨n, en, rfl⟩ := nats_at hx
    have nb := hn n (List.mem_of_getElem? en)
    have ebn : bs[n]? = some bs[n] := List.getElem?_eq_getElem nb
    obtain ⟨x, ex, ⟨t2, g2, rfl, e1, e2⟩⟩ := alb.get ebn
    cases cur with
    | none =>
      refine ⟨_, rfl, rfl, _, rfl, if_bl (fun z => nomatch z) (fun _ => ?_)⟩
      exact ⟨none, _, rfl, hw, s2⟩
    | some c =>
      have hw : wayEnd bs k ns = wayEnd bs c (ns.drop i) := hw
      rw [drop_at en, wayEnd_cons ebn] at hw
      refine ⟨_, rfl, rfl, _, rfl, if_bl (fun _ => ?_) (fun z => nomatch z)⟩
      refine ⟨_, rfl, r, _, _, _, rfl, rfl, SqT.of (s2 _ _ er), atI_nat (j := 1) rfl, _, rfl, ba, _, _, _, rfl, rfl, SqT.of (s2 _ _ eb), atI_nat ex, t2, _, _, _, rfl, rfl, SqT.of (s2 _ _ e1), atI_nat (j := 0) rfl, _, rfl, rfl, _, rfl, ?_⟩
      by_cases cc : bs[n].one = c
      · rw [if_pos cc] at hw
        rw [decide_eq_true (show nV bs[n].one = onV (some c) by rw [cc]; rfl)]
        refine if_bl (fun _ => ?_) (fun z => nomatch z)
        exact ⟨_, rfl, r, _, _, _, rfl, rfl, SqT.of (s2 _ _ er), atI_nat (j := 1) rfl, _, rfl, ba, _, _, _, rfl, rfl, SqT.of (s2 _ _ eb), atI_nat ex, t2, _, _, _, rfl, rfl, SqT.of (s2 _ _ e1), atI_nat (j := 1) rfl, some bs[n].to, _, rfl, hw, s2⟩
      · rw [if_neg cc] at hw
        rw [decide_eq_false (show ¬ nV bs[n].one = onV (some c) from fun z => cc (by have := V.int.inj z; omega))]
        refine if_bl (fun z => nomatch z) (fun _ => ?_)
        exact ⟨none, _, rfl, hw, s2⟩
  · rintro σ H2 ⟨cur, v3, rfl, hw, s2⟩
    rw [List.length_map, List.drop_length] at hw
    have e := q _ s2
    cases cur with
    | none => rw [hw] at e; exact ⟨_, rfl, e⟩
    | some c => rw [hw] at e; exact ⟨_, rfl, e⟩
end
section
variable {P : Program} {w : World} {K : PySem.W.Frag} {mg : Str → Option Value} {base : Heap}
def sp_law_moments (K : PySem.W.Frag) : Sp := fun vs H Q _ => ∃ (r t : Addr) (hs : List HR) (bs : List BR) (k : Nat) (ns : List Nat), vs = [.ref r, .ref t] ∧ RoomAt H r hs bs ∧ (∀ b ∈ bs, b.to < hs.length) ∧ PairAt H t k ns ∧ k < hs.length ∧ (∀ n ∈ ns, n < bs.length) ∧ ns.length ≤ 60 ∧ ∀ H', Same H H' → Q (.int (momW hs bs k ns)) H'
theorem ok_law_moments {f : Addr} {fd : FuncData} (F : Fun K "_law_moments" "_law_moments" s_law_moments f fd) (T : Top K mg) : FnOk P w K mg base CX0 1 f fd ["_law_room_here", "_law_way"] (sp_law_moments K) := by
  refine F.ok sc_law_moments (fun vs H Q E h => ?_) (fun cdv A outer s H vs Q E hr h => ?_)
  · obtain ⟨r, t, hs, bs, k, ns, rfl, _⟩ := h
    rfl
  obtain ⟨r, t, hs, bs, k, ns, rfl, hR, hto, ⟨g, et, eg⟩, hk, hn, ln, q⟩ := h
  obtain ⟨ha, ba, hv, bv, er, eh, eb, alh, alb⟩ := hR.ex
  refine ⟨_, (pss_one (ps_ret (pe_op op_add (pe_ix (ix_tupK K rfl) (pe_ix (ix_tupK K rfl) (pe_ix (ix_tupK K rfl) (pv 0) pe_int (fun _ _ => rfl)) (pe_ix (ix_tupK K rfl) (pv 1) pe_int (fun _ _ => rfl)) (fun _ _ => rfl)) pe_int (fun _ _ => rfl)) (pe_callB (cr_sumK K rfl rfl) (by rfl) T.m_sum (by decide +kernel) (pa_cons (pe_lc (own := [("_law_b", 2)]) (g := gName 2) (tt := tYes) (by rfl) sc_law_moments.nd (pi_tupK K rfl (pe_ix (ix_tupK K rfl) (pv 1) pe_int (fun _ _ => rfl))) (blkOk_by (own := [("_law_b", 2)]) (N := N_law_moments) (sc := defScope s_law_moments) (by decide +kernel)) (fun _ _ _ _ _ => (pg_name (i := 2) sc_law_moments.nd rfl (Or.inl rfl))) (fun _ _ _ _ _ => pts_nil) (fun _ _ _ _ _ => (pe_ix (ix_tupK K rfl) (pe_ix (ix_tupK K rfl) (pe_ix (ix_tupK K rfl) (pv 0) pe_int (fun _ _ => rfl)) (pe_ix (ix_tupK K rfl) (pe_ix (ix_tupK K rfl) (pe_ix (ix_tupK K rfl) (pv 0) pe_int (fun _ _ => rfl)) (pv 2) (fun _ _ => rfl)) pe_int (fun _ _ => rfl)) (fun _ _ => rfl)) pe_int (fun _ _ => rfl)))) pa_nil))))), ?_⟩
  have ehk : hs[k]? = some hs[k] := List.getElem?_eq_getElem hk
  obtain ⟨x0, ex0, ⟨t0, r0, rfl, e01, e02⟩⟩ := alh.get ehk
  refine ⟨_, rfl, r, _, _, _, rfl, rfl, SqT.of er, atI_nat (j := 0) rfl, _, rfl, t, _, _, _, rfl, rfl, SqT.of et, atI_nat (j := 0) rfl, ha, _, _, _, rfl, rfl, SqT.of eh, atI_nat ex0, t0, _, _, _, rfl, rfl, SqT.of e01, atI_nat (j := 1) rfl, ?_⟩
  refine ⟨_, rfl, t, _, _, _, rfl, rfl, SqT.of et, atI_nat (j := 1) rfl, g, rfl, ⟨_, SqT.of eg⟩, fun D nD => lc_tup (K := K) (a := g) (xs := ns.map nV) (fun i H5 => H5 D = some (.lst (((ns.take i).map fun n => momH hs (toB bs n)).map V.int)) ∧ Same H H5) ⟨upd_same, same_new nD⟩ (fun i H5 _ ⟨_, s5⟩ => SqT.of (s5 _ _ eg)) ?_ ?_⟩
  · rintro i x H5 hx ⟨hD, s5⟩
    obtain ⟨n, en, rfl⟩ := nats_at hx
    have il := (List.getElem?_eq_some_iff.mp en).1
    have nb := hn n (List.mem_of_getElem? en)
    have ebn : bs[n]? = some bs[n] := List.getElem?_eq_getElem nb
    obtain ⟨x, ex, ⟨t2, g2, rfl, e1, e2⟩⟩ := alb.get ebn
    have tb := hto _ (List.getElem_mem nb)
    have eht : hs[bs[n].to]? = some hs[bs[n].to] := List.getElem?_eq_getElem tb
    obtain ⟨y, ey, ⟨t3, r3, rfl, e31, e32⟩⟩ := alh.get eht
    refine ⟨rfl, yes_in ⟨_, rfl, r, _, _, _, rfl, rfl, SqT.of (s5 _ _ er), atI_nat (j := 0) rfl, _, rfl, r, _, _, _, rfl, rfl, SqT.of (s5 _ _ er), atI_nat (j := 1) rfl, _, rfl, ba, _, _, _, rfl, rfl, SqT.of (s5 _ _ eb), atI_nat ex, t2, _, _, _, rfl, rfl, SqT.of (s5 _ _ e1), atI_nat (j := 1) rfl, ha, _, _, _, rfl, rfl, SqT.of (s5 _ _ eh), atI_nat ey, t3, _, _, _, rfl, rfl, SqT.of (s5 _ _ e31), atI_nat (j := 1) rfl, _, hD, ?_, ?_, Same.own s5 nD⟩⟩
    · rw [List.length_map, List.length_map, List.length_take]; exact small1000 (by omega)
    · rw [upd_same, List.take_add_one, en, List.map_append, List.map_append]
      show _ = some (HO.lst (_ ++ [V.int (momH hs (toB bs n))]))
      unfold momH toB
      rw [ebn]
      dsimp only
      rw [eht]
  · rintro H5 ⟨hD, s5⟩
    rw [List.length_map, List.take_length] at hD
    refine ⟨D, _, rfl, SqL.of hD, _, _, rfl, rfl, ?_⟩
    have := q _ s5
    unfold momW at this
    rw [show momH hs k = hs[k].mom by unfold momH; rw [ehk]] at this
    exact this
end
section
variable {P : Program} {w : World} {K : PySem.W.Frag} {mg : Str → Option Value} {base : Heap}
def sp_way_end (K : PySem.W.Frag) : Sp := fun vs H Q _ => ∃ (r t : Addr) (hs : List HR) (bs : List BR) (k : Nat) (ns : List Nat), vs = [.ref r, .ref t] ∧ RoomAt H r hs bs ∧ PairAt H t k ns ∧ k < hs.length ∧ (∀ n ∈ ns, n < bs.length) ∧ ∀ H', Same H H' → Q (onV (wayEnd bs k ns)) H'
theorem ok_way_end {f : Addr} {fd : FuncData} (F : Fun K "way_end" "way_end" s_way_end f fd) (T : Top K mg) : FnOk P w K mg base CX0 1 f fd ["room", "pair"] (sp_way_end K) := by
  refine F.ok sc_way_end (fun vs H Q E h => ?_) (fun cdv A outer s H vs Q E hr h => ?_)
  · obtain ⟨r, t, hs, bs, k, ns, rfl, _⟩ := h
    rfl
  obtain ⟨r, t, hs, bs, k, ns, rfl, hR, ⟨g, et, eg⟩, hk, hn, q⟩ := h
  obtain ⟨ha, ba, hv, bv, er, eh, eb, alh, alb⟩ := hR.ex
  have lhv := alh.length
  have lbv := alb.length
  refine ⟨_, (pss_cons (ps_asg (pv 0) (pg_tupK K rfl rfl (pgs_cons (pg_name (i := 2) sc_way_end.nd rfl (Or.inl rfl)) (pgs_cons (pg_name (i := 3) sc_way_end.nd rfl (Or.inl rfl)) pgs_nil))))
      (pss_cons (ps_asg (pv 1) (pg_tupK K rfl rfl (pgs_cons (pg_name (i := 4) sc_way_end.nd rfl (Or.inl rfl)) (pgs_cons (pg_name (i := 5) sc_way_end.nd rfl (Or.inl rfl)) pgs_nil))))
      (pss_cons (ps_if (pt_not (pt_chain op_le op_lt pe_int (pv 4) (pe_callB (call_len_seqK K rfl) (by rfl) T.m_len (by decide +kernel) (pa_cons (pv 2) pa_nil)))) (pss_one (ps_ret pe_non)) pss_nil)
      (pss_cons (ps_for PassesOwn.never rfl (pi_tupK K rfl (pv 5)) (pg_name (i := 6) sc_way_end.nd rfl (Or.inl rfl))
        (pss_cons (ps_if (PW.pt (pw_or (pt_not (pt_chain op_le op_lt pe_int (pv 6) (pe_callB (call_len_seqK K rfl) (by rfl) T.m_len (by decide +kernel) (pa_cons (pv 3) pa_nil)))) (pw_or1 (pt_cmpR op_ne (pe_ix (ix_tupK K rfl) (pe_ix (ix_tupK K rfl) (pv 3) (pv 6) (fun _ _ => rfl)) pe_int (fun _ _ => rfl)) (pv 4) (nomark _))))) (pss_one (ps_ret pe_non)) pss_nil)
      (pss_one (ps_set (i := 4) sc_way_end.nd rfl (Or.inl rfl) (pe_ix (ix_tupK K rfl) (pe_ix (ix_tupK K rfl) (pv 3) (pv 6) (fun _ _ => rfl)) pe_int (fun _ _ => rfl))))))
      (pss_one (ps_ret (pv 4))))))), ?_⟩
  refine ⟨_, rfl, r, _, rfl, SqT.of er, rfl, _, _, rfl, _, _, rfl, rfl, ?_⟩
  refine ⟨_, rfl, t, _, rfl, SqT.of et, rfl, _, _, rfl, _, _, rfl, rfl, ?_⟩
  refine ⟨_, rfl, _, _, rfl, rfl, _, rfl, if_bl (fun _ => ?_) (fun z => absurd (show (0 : Int) ≤ ((k : Nat) : Int) by omega) (of_decide_eq_false z))⟩
  refine ⟨_, rfl, ha, _, rfl, .inr (SqT.of eh), _, _, rfl, rfl, _, rfl, ?_⟩
  rw [decide_eq_true (show ((k : Nat) : Int) < ((hv.length : Nat) : Int) by omega)]
  refine if_bl (fun z => nomatch z) (fun _ => ?_)
  refine ⟨_, rfl, g, rfl, ⟨_, SqT.of eg⟩, for_tup (K := K) (a := g) (xs := ns.map nV) (fun i σ H2 => ∃ (cur : Nat) (v6 : Option V), σ = [some (.ref r), some (.ref t), some (.ref ha), some (.ref ba), some (nV cur), some (.ref g), v6] ∧ wayEnd bs k ns = wayEnd bs cur (ns.drop i) ∧ Same H H2)
    ⟨k, none, rfl, rfl, Same.refl _⟩ (fun i σ H2 _ ⟨_, _, _, _, s2⟩ => SqT.of (s2 _ _ eg)) ?_ ?_⟩
  · rintro i x σ H2 hx ⟨cur, v6, rfl, hw, s2⟩
    obtain ⟨n, en, rfl⟩ := nats_at hx
    have nb := hn n (List.mem_of_getElem? en)
    have ebn : bs[n]? = some bs[n] := List.getElem?_eq_getElem nb
    obtain ⟨x, ex, ⟨t2, g2, rfl, e1, e2⟩⟩ := alb.get ebn
    rw [drop_at en, wayEnd_cons ebn] at hw
    refine ⟨_, rfl, _, _, rfl, rfl, _, rfl, if_bl (fun _ => ?_) (fun z => absurd (show (0 : Int) ≤ ((n : Nat) : Int) by omega) (of_decide_eq_false z))⟩
    refine ⟨_, rfl, ba, _, rfl, .inr (SqT.of (s2 _ _ eb)), _, _, rfl, rfl, _, rfl, ?_⟩
    rw [decide_eq_true (show ((n : Nat) : Int) < ((bv.length : Nat) : Int) by omega)]
    refine if_bl (fun z => nomatch z) (fun _ => ?_)
    refine ⟨_, rfl, _, rfl, ba, _, _, _, rfl, rfl, SqT.of (s2 _ _ eb), atI_nat ex, t2, _, _, _, rfl, rfl, SqT.of (s2 _ _ e1), atI_nat (j := 0) rfl, _, rfl, rfl, _, rfl, ?_⟩
    by_cases c : bs[n].one = cur
    · rw [decide_eq_true (show nV bs[n].one = nV cur by rw [c])]
      rw [if_pos c] at hw
      refine if_bl (fun z => nomatch z) (fun _ => ?_)
      exact ⟨_, rfl, _, rfl, ba, _, _, _, rfl, rfl, SqT.of (s2 _ _ eb), atI_nat ex, t2, _, _, _, rfl, rfl, SqT.of (s2 _ _ e1), atI_nat (j := 1) rfl, _, _, rfl, hw, s2⟩
    · rw [decide_eq_false (show ¬ nV bs[n].one = nV cur from fun z => c (by have := V.int.inj z; omega))]
      rw [if_neg c] at hw
      refine if_bl (fun _ => ?_) (fun z => nomatch z)
      have := q _ s2
      rw [hw] at this
      exact this
  · rintro σ H2 ⟨cur, v6, rfl, hw, s2⟩
    rw [List.length_map, List.drop_length] at hw
    have := q _ s2
    rw [hw] at this
    exact ⟨_, rfl, this⟩
end
section
variable {P : Program} {w : World} {K : PySem.W.Frag} {mg : Str → Option Value} {base : Heap}
def sp_trays_on (K : PySem.W.Frag) : Sp := fun vs H Q _ => ∃ (r t : Addr) (hs : List HR) (bs : List BR) (k : Nat) (ns : List Nat), vs = [.ref r, .ref t] ∧ RoomAt H r hs bs ∧ PairAt H t k ns ∧ (∀ n ∈ ns, n < bs.length) ∧ ns.length ≤ 400 ∧ ∀ H', Same H H' → Q (.int (ns.map (trB bs)).sum) H'
theorem ok_trays_on {f : Addr} {fd : FuncData} (F : Fun K "trays_on" "trays_on" s_trays_on f fd) (T : Top K mg) : FnOk P w K mg base CX0 1 f fd ["room", "way"] (sp_trays_on K) := by
  refine F.ok sc_trays_on (fun vs H Q E h => ?_) (fun cdv A outer s H vs Q E hr h => ?_)
  · obtain ⟨r, t, hs, bs, k, ns, rfl, _⟩ := h
    rfl
  obtain ⟨r, t, hs, bs, k, ns, rfl, hR, ⟨g, et, eg⟩, hn, ln, q⟩ := h
  obtain ⟨ha, ba, hv, bv, er, eh, eb, alh, alb⟩ := hR.ex
  refine ⟨_, (pss_one (ps_ret (pe_callB (cr_sumK K rfl rfl) (by rfl) T.m_sum (by decide +kernel) (pa_cons (pe_lc (own := [("number", 2)]) (g := gName 2) (tt := tYes) (by rfl) sc_trays_on.nd (pi_tupK K rfl (pe_ix (ix_tupK K rfl) (pv 1) pe_int (fun _ _ => rfl))) (blkOk_by (own := [("number", 2)]) (N := N_trays_on) (sc := defScope s_trays_on) (by decide +kernel)) (fun _ _ _ _ _ => (pg_name (i := 2) sc_trays_on.nd rfl (Or.inl rfl))) (fun _ _ _ _ _ => pts_nil) (fun _ _ _ _ _ => (pe_callB (call_len_seqK K rfl) (by rfl) T.m_len (by decide +kernel) (pa_cons (pe_ix (ix_tupK K rfl) (pe_ix (ix_tupK K rfl) (pe_ix (ix_tupK K rfl) (pv 0) pe_int (fun _ _ => rfl)) (pv 2) (fun _ _ => rfl)) pe_int (fun _ _ => rfl)) pa_nil)))) pa_nil)))), ?_⟩
  refine ⟨_, rfl, t, _, _, _, rfl, rfl, SqT.of et, atI_nat (j := 1) rfl, g, rfl, ⟨_, SqT.of eg⟩, fun D nD => lc_tup (K := K) (a := g) (xs := ns.map nV) (fun i H5 => H5 D = some (.lst (((ns.take i).map (trB bs)).map V.int)) ∧ Same H H5) ⟨upd_same, same_new nD⟩ (fun i H5 _ ⟨_, s5⟩ => SqT.of (s5 _ _ eg)) ?_ ?_⟩
  · rintro i x H5 hx ⟨hD, s5⟩
    obtain ⟨n, en, rfl⟩ := nats_at hx
    have il := (List.getElem?_eq_some_iff.mp en).1
    have nb := hn n (List.mem_of_getElem? en)
    have ebn : bs[n]? = some bs[n] := List.getElem?_eq_getElem nb
    obtain ⟨x, ex, ⟨t2, g2, rfl, e1, e2⟩⟩ := alb.get ebn
    refine ⟨rfl, yes_in ⟨_, rfl, r, _, _, _, rfl, rfl, SqT.of (s5 _ _ er), atI_nat (j := 1) rfl, _, rfl, ba, _, _, _, rfl, rfl, SqT.of (s5 _ _ eb), atI_nat ex, t2, _, _, _, rfl, rfl, SqT.of (s5 _ _ e1), atI_nat (j := 2) rfl, g2, _, rfl, .inr (SqT.of (s5 _ _ e2)), _, hD, ?_, ?_, Same.own s5 nD⟩⟩
    · rw [List.length_map, List.length_map, List.length_take]; exact small1000 (by omega)
    · rw [upd_same, List.take_add_one, en, List.map_append, List.map_append, List.length_map]
      show _ = some (HO.lst (_ ++ [V.int (trB bs n)]))
      unfold trB
      rw [ebn]
  · rintro H5 ⟨hD, s5⟩
    rw [List.length_map, List.take_length] at hD
    exact ⟨D, _, rfl, SqL.of hD, q _ s5⟩
def sp_moments_on (K : PySem.W.Frag) : Sp := fun vs H Q _ => ∃ (r t : Addr) (hs : List HR) (bs : List BR) (k : Nat) (ns : List Nat), vs = [.ref r, .ref t] ∧ RoomAt H r hs bs ∧ (∀ b ∈ bs, b.to < hs.length) ∧ PairAt H t k ns ∧ k < hs.length ∧ (∀ n ∈ ns, n < bs.length) ∧ ns.length ≤ 400 ∧ ∀ H', Same H H' → Q (.int (momW hs bs k ns)) H'
theorem ok_moments_on {f : Addr} {fd : FuncData} (F : Fun K "moments_on" "moments_on" s_moments_on f fd) (T : Top K mg) : FnOk P w K mg base CX0 1 f fd ["room", "way"] (sp_moments_on K) := by
  refine F.ok sc_moments_on (fun vs H Q E h => ?_) (fun cdv A outer s H vs Q E hr h => ?_)
  · obtain ⟨r, t, hs, bs, k, ns, rfl, _⟩ := h
    rfl
  obtain ⟨r, t, hs, bs, k, ns, rfl, hR, hto, ⟨g, et, eg⟩, hk, hn, ln, q⟩ := h
  obtain ⟨ha, ba, hv, bv, er, eh, eb, alh, alb⟩ := hR.ex
  refine ⟨_, (pss_cons (ps_asg (pv 0) (pg_tupK K rfl rfl (pgs_cons (pg_name (i := 2) sc_moments_on.nd rfl (Or.inr rfl)) (pgs_cons (pg_name (i := 3) sc_moments_on.nd rfl (Or.inr rfl)) pgs_nil))))
      (pss_cons (ps_asg (pv 1) (pg_tupK K rfl rfl (pgs_cons (pg_name (i := 4) sc_moments_on.nd rfl (Or.inl rfl)) (pgs_cons (pg_name (i := 5) sc_moments_on.nd rfl (Or.inl rfl)) pgs_nil))))
      (pss_one (ps_ret (pe_op op_add (pe_ix (ix_tupK K rfl) (pe_ix (ix_tupK K rfl) (pv 2) (pv 4) (fun _ _ => rfl)) pe_int (fun _ _ => rfl)) (pe_callB (cr_sumK K rfl rfl) (by rfl) T.m_sum (by decide +kernel) (pa_cons (pe_lc (own := [("number", 6)]) (g := gName 6) (tt := tYes) (by rfl) sc_moments_on.nd (pi_tupK K rfl (pv 5)) (blkOk_by (own := [("number", 6)]) (N := N_moments_on) (sc := defScope s_moments_on) (by decide +kernel)) (fun _ _ _ _ _ => (pg_name (i := 6) sc_moments_on.nd rfl (Or.inl rfl))) (fun _ _ _ _ _ => pts_nil) (fun _ _ _ _ _ => (pe_ix (ix_tupK K rfl) (pe_ix (ix_tupK K rfl) (pv 2) (pe_ix (ix_tupK K rfl) (pe_ix (ix_tupK K rfl) (pv 3) (pv 6) (fun _ _ => rfl)) pe_int (fun _ _ => rfl)) (fun _ _ => rfl)) pe_int (fun _ _ => rfl)))) pa_nil))))))), ?_⟩
  refine ⟨_, rfl, r, _, rfl, SqT.of er, rfl, _, _, rfl, _, _, rfl, rfl, ?_⟩
  refine ⟨_, rfl, t, _, rfl, SqT.of et, rfl, _, _, rfl, _, _, rfl, rfl, ?_⟩
  have ehk : hs[k]? = some hs[k] := List.getElem?_eq_getElem hk
  obtain ⟨x0, ex0, ⟨t0, r0, rfl, e01, e02⟩⟩ := alh.get ehk
  refine ⟨_, rfl, _, rfl, ha, _, _, _, rfl, rfl, SqT.of eh, atI_nat ex0, t0, _, _, _, rfl, rfl, SqT.of e01, atI_nat (j := 1) rfl, ?_⟩
  refine ⟨_, rfl, g, rfl, ⟨_, SqT.of eg⟩, fun D nD => lc_tup (K := K) (a := g) (xs := ns.map nV) (fun i H5 => H5 D = some (.lst (((ns.take i).map fun n => momH hs (toB bs n)).map V.int)) ∧ Same H H5) ⟨upd_same, same_new nD⟩ (fun i H5 _ ⟨_, s5⟩ => SqT.of (s5 _ _ eg)) ?_ ?_⟩
  · rintro i x H5 hx ⟨hD, s5⟩
    obtain ⟨n, en, rfl⟩ := nats_at hx
    have il := (List.getElem?_eq_some_iff.mp en).1
    have nb := hn n (List.mem_of_getElem? en)
    have ebn : bs[n]? = some bs[n] := List.getElem?_eq_getElem nb
    obtain ⟨x, ex, ⟨t2, g2, rfl, e1, e2⟩⟩ := alb.get ebn
    have tb := hto _ (List.getElem_mem nb)
    have eht : hs[bs[n].to]? = some hs[bs[n].to] := List.getElem?_eq_getElem tb
    obtain ⟨y, ey, ⟨t3, r3, rfl, e31, e32⟩⟩ := alh.get eht
    refine ⟨rfl, yes_in ⟨_, rfl, _, rfl, _, rfl, ba, _, _, _, rfl, rfl, SqT.of (s5 _ _ eb), atI_nat ex, t2, _, _, _, rfl, rfl, SqT.of (s5 _ _ e1), atI_nat (j := 1) rfl, ha, _, _, _, rfl, rfl, SqT.of (s5 _ _ eh), atI_nat ey, t3, _, _, _, rfl, rfl, SqT.of (s5 _ _ e31), atI_nat (j := 1) rfl, _, hD, ?_, ?_, Same.own s5 nD⟩⟩
    · rw [List.length_map, List.length_map, List.length_take]; exact small1000 (by omega)
    · rw [upd_same, List.take_add_one, en, List.map_append, List.map_append]
      show _ = some (HO.lst (_ ++ [V.int (momH hs (toB bs n))]))
      unfold momH toB
      rw [ebn]
      dsimp only
      rw [eht]
  · rintro H5 ⟨hD, s5⟩
    rw [List.length_map, List.take_length] at hD
    refine ⟨D, _, rfl, SqL.of hD, _, _, rfl, rfl, ?_⟩
    have := q _ s5
    unfold momW at this
    rw [show momH hs k = hs[k].mom by unfold momH; rw [ehk]] at this
    exact this
end
section
variable {P : Program} {w : World} {K : PySem.W.Frag} {mg : Str → Option Value} {base : Heap}
def sp_law_doors (K : PySem.W.Frag) : Sp := fun vs H Q _ => ∃ (r : Addr) (hs : List HR) (bs : List BR) (z : Str), vs = [.ref r, .str z] ∧ (z = "in" ∨ z = "out") ∧ RoomAt H r hs bs ∧ RoomOk hs bs ∧ ∀ (p : Addr) (H' : Hp), H' p = some (.lst ((doorsOf z hs).map nV)) → Same H H' → Q (.ref p) H'
theorem ok_law_doors {f : Addr} {fd : FuncData} (F : Fun K "_law_doors" "_law_doors" s_law_doors f fd) (T : Top K mg) : FnOk P w K mg base CX0 1 f fd ["_law_room_here", "_law_word"] (sp_law_doors K) := by
  refine F.ok sc_law_doors (fun vs H Q E h => ?_) (fun cdv A outer s H vs Q E hr h => ?_)
  · obtain ⟨r, hs, bs, z, rfl, _⟩ := h
    rfl
  obtain ⟨r, hs, bs, z, rfl, hz, hR, ok, q⟩ := h
  have oz : SeqAt.shaped (.tuple [.str z]) = true := by rcases hz with rfl | rfl <;> exact one_shaped (by decide +kernel)
  obtain ⟨ha, ba, hv, bv, er, eh, eb, alh, alb⟩ := id hR.ex
  have lhv := alh.length
  have lh := ok.hands
  refine ⟨_, (pss_one (ps_ret (pe_lc (own := [("_law_k", 2), ("_law_hand", 3)]) (g := gTup K 2 (gCons (gName 2) (gCons (gName 3) gNil))) (by rfl) sc_law_doors.nd (pi_enumT K rfl (by rfl) T.m_enumerate (pa_cons (pe_ix (ix_tupK K rfl) (pv 0) pe_int (fun _ _ => rfl)) pa_nil)) (blkOk_by (own := [("_law_k", 2), ("_law_hand", 3)]) (N := N_law_doors) (sc := defScope s_law_doors) (by decide +kernel)) (fun _ _ _ _ _ => (pg_tupK K rfl rfl (pgs_cons (pg_name (i := 2) sc_law_doors.nd rfl (Or.inl rfl)) (pgs_cons (pg_name (i := 3) sc_law_doors.nd rfl (Or.inl rfl)) pgs_nil)))) (fun _ _ _ _ _ => pts_one (pt_cmpR (op_eqDK K rfl hr.units) (pe_ix (ix_tupK K rfl) (pv 3) pe_int (fun _ _ => rfl)) (pe_tup (pa_cons (pv 1) pa_nil)) (nomark _))) (fun _ _ _ _ _ => (pv 2))))), ?_⟩
  refine ⟨_, rfl, r, _, _, _, rfl, rfl, SqT.of er, atI_nat (j := 0) rfl, ha, hv, rfl, SqT.of eh, fun D nD => lc_it (J := IteT K ha hv) (n := hv.length) (fun i H5 => H5 D = some (.lst (((List.range i).filter fun j => decide (hs[j]?.map HR.wd = some z)).map nV)) ∧ Same H H5) ⟨upd_same, same_new nD⟩ ?_ ?_ ?_ ?_⟩
  · rintro i H5 hi ⟨hD, s5⟩
    exact ⟨SqT.of (s5 _ _ eh), hi⟩
  · rintro H5 ⟨hD, s5⟩
    exact ⟨SqT.of (s5 _ _ eh), rfl⟩
  · rintro i x H5 H6 hi ⟨hD, s5⟩ ⟨t, y, rfl, nt, rfl, ey⟩
    obtain ⟨hh, eb2, ⟨t2, g, rfl, e1, e2⟩⟩ := alh.getL ey
    have gh := ok.good _ (List.mem_of_getElem? eb2)
    have s6 := s5.trans (same_new (o := .tup [V.int ((i : Nat) : Int), V.ref t2]) nt)
    have hD6 := same_new (o := .tup [V.int ((i : Nat) : Int), V.ref t2]) nt _ _ hD
    have few := filt_len (p := fun j => decide (hs[j]?.map HR.wd = some z)) i
    refine ⟨t, _, rfl, SqT.of upd_same, rfl, _, _, rfl, _, _, rfl, rfl, rfl, _, rfl, t2, _, _, _, rfl, rfl, SqT.of (s6 _ _ e1), atI_nat (j := 0) rfl, ?_⟩
    generalize upd H5 t (.tup [V.int ((i : Nat) : Int), V.ref t2]) = H6 at s6 hD6 ⊢
    refine ⟨_, rfl, (by show 1 ≤ sizeLine; decide), fun o1 no1 => ?_⟩
    have s7 := s6.trans (same_new (o := .tup [V.str z]) no1)
    have hD7 := same_new (o := .tup [V.str z]) no1 _ _ hD6
    refine ⟨_, _, rule_dp (s7 _ _ e2), .tup (SqT.of upd_same) (.cons (.str _) .nil), rule_shaped gh.lay, oz, _, rfl, ?_⟩
    rw [rule_eqv, gh.door z hz]
    by_cases c : hh.wd = z
    · rw [decide_eq_true c]
      refine if_bl (fun _ => ⟨_, rfl, _, hD7, by rw [List.length_map]; exact small1000 (by omega), ?_, Same.own s7 nD⟩) (fun z => nomatch z)
      rw [upd_same, filt_succ, if_pos (decide_eq_true (by rw [eb2, ← c]; rfl)), List.map_append]
      rfl
    · rw [decide_eq_false c]
      refine if_bl (fun z => nomatch z) (fun _ => ⟨?_, s7⟩)
      rw [filt_succ, if_neg fun z => c (by have := of_decide_eq_true z; rw [eb2] at this; exact Option.some.inj this), List.append_nil]
      exact hD7
  · rintro H5 ⟨hD, s5⟩
    refine q D H5 ?_ s5
    rw [hD, lhv]
    rfl
def trX (sh : Nat → Int) (b : BR) : Int := (b.th.length : Int) + sh b.to - sh b.one
def sp_law_moved (K : PySem.W.Frag) : Sp := fun vs H Q _ => ∃ (r sl : Addr) (hs : List HR) (bs : List BR) (sh : Nat → Int), vs = [.ref r, .ref sl] ∧ RoomAt H r hs bs ∧ RoomOk hs bs ∧ H sl = some (.tup (levL hs.length sh)) ∧
  ∀ (p : Addr) (H' : Hp), H' p = some (.lst (bs.map fun b => V.int (trX sh b))) → Same H H' → Q (.ref p) H'
theorem ok_law_moved {f : Addr} {fd : FuncData} (F : Fun K "_law_moved" "_law_moved" s_law_moved f fd) (T : Top K mg) : FnOk P w K mg base CX0 1 f fd ["_law_room_here", "_law_shifts"] (sp_law_moved K) := by
  refine F.ok sc_law_moved (fun vs H Q E h => ?_) (fun cdv A outer s H vs Q E hr h => ?_)
  · obtain ⟨r, sl, hs, bs, sh, rfl, _⟩ := h
    rfl
  obtain ⟨r, sl, hs, bs, sh, rfl, hR, ok, hsl, q⟩ := h
  obtain ⟨ha, ba, hv, bv, er, eh, eb, alh, alb⟩ := hR.ex
  have lbv := alb.length
  have lb := ok.many
  refine ⟨_, (pss_one (ps_ret (pe_lc (own := [("_law_one", 2), ("_law_to", 3), ("_law_things", 4)]) (g := gTup K 3 (gCons (gName 2) (gCons (gName 3) (gCons (gName 4) gNil)))) (tt := tYes) (by rfl) sc_law_moved.nd (pi_tupK K rfl (pe_ix (ix_tupK K rfl) (pv 0) pe_int (fun _ _ => rfl))) (blkOk_by (own := [("_law_one", 2), ("_law_to", 3), ("_law_things", 4)]) (N := N_law_moved) (sc := defScope s_law_moved) (by decide +kernel)) (fun _ _ _ _ _ => (pg_tupK K rfl rfl (pgs_cons (pg_name (i := 2) sc_law_moved.nd rfl (Or.inl rfl)) (pgs_cons (pg_name (i := 3) sc_law_moved.nd rfl (Or.inl rfl)) (pgs_cons (pg_name (i := 4) sc_law_moved.nd rfl (Or.inl rfl)) pgs_nil))))) (fun _ _ _ _ _ => pts_nil) (fun _ _ _ _ _ => (pe_op op_sub (pe_op op_add (pe_callB (call_len_seqK K rfl) (by rfl) T.m_len (by decide +kernel) (pa_cons (pv 4) pa_nil)) (pe_ix (ix_tupK K rfl) (pv 1) (pv 3) (fun _ _ => rfl))) (pe_ix (ix_tupK K rfl) (pv 1) (pv 2) (fun _ _ => rfl))))))), ?_⟩
  refine ⟨_, rfl, r, _, _, _, rfl, rfl, SqT.of er, atI_nat (j := 1) rfl, ba, rfl, ⟨_, SqT.of eb⟩, fun D nD => lc_tup (K := K) (a := ba) (xs := bv) (fun i H5 => H5 D = some (.lst ((bs.take i).map fun b => V.int (trX sh b))) ∧ Same H H5) ⟨upd_same, same_new nD⟩ (fun i H5 _ ⟨_, s5⟩ => SqT.of (s5 _ _ eb)) ?_ ?_⟩
  · rintro i x H5 hx ⟨hD, s5⟩
    obtain ⟨b, ebi, ⟨t, g, rfl, e1, e2⟩⟩ := alb.getL hx
    have il := (List.getElem?_eq_some_iff.mp ebi).1
    obtain ⟨l1, l2⟩ := ok.ends b (List.mem_of_getElem? ebi)
    refine ⟨t, _, rfl, SqT.of (s5 _ _ e1), rfl, _, _, rfl, _, _, rfl, _, _, rfl, rfl, rfl, ?_⟩
    refine yes_in ?_
    refine ⟨_, rfl, g, _, rfl, .inr (SqT.of (s5 _ _ e2)), _, rfl, _, rfl, sl, _, _, _, rfl, rfl, SqT.of (s5 _ _ hsl), atI_nat (rg_at l2), _, _, rfl, rfl, _, rfl, _, rfl, sl, _, _, _, rfl, rfl, SqT.of (s5 _ _ hsl), atI_nat (rg_at l1), _, _, rfl, rfl, _, hD, by rw [List.length_map, List.length_take]; exact small1000 (by omega), ?_, Same.own s5 nD⟩
    rw [upd_same, List.take_add_one, ebi, List.map_append, List.length_map]
    rfl
  · rintro H5 ⟨hD, s5⟩
    rw [lbv, List.take_length] at hD
    exact q D H5 hD s5
end
/-! ### prices, whatever they are -/
abbrev Pc := Wk × Int
def PcAt (H : Hp) (v : V) (x : Pc) : Prop := ∃ (a : Addr) (u : V), v = .ref a ∧ H a = some (.tup [u, .int x.2]) ∧ RgAt H u x.1
theorem PcAt.keep {H H' : Hp} {v : V} {x : Pc} (h : PcAt H v x) (k : TK H H') : PcAt H' v x := by
  obtain ⟨a, u, e, h1, h2⟩ := h
  exact ⟨a, u, e, k _ _ h1, h2.keep k⟩
def okP (bs : List BR) (x : Pc) : Prop := 1 ≤ x.2 ∧ x.1.2 ≠ [] ∧ (endO bs x.1).isSome = true
instance {bs : List BR} {x : Pc} : Decidable (okP bs x) := inferInstanceAs (Decidable (_ ∧ _ ∧ _))
def tkP (hs : List HR) (bs : List BR) (l : Nat) (T : Int) (x : Pc) : Int := x.2 * ((x.1.2.map (trB bs)).sum - ndd (momW hs bs x.1.1 x.1.2) T) + ((l : Nat) : Int) * x.2 * (if enD bs x.1 ∈ doorsOf "out" hs then 1 else 0)
def c0P (hs : List HR) (bs : List BR) (l : Nat) : Int := (bs.map fun b => (b.th.length : Int)).sum + ((l : Nat) : Int) * ((doorsOf "out" hs).length : Int)
def heldO (hs : List HR) (bs : List BR) (l : Nat) (T : Int) (ps : List Pc) : Option Int := if ∀ x ∈ ps, okP bs x then some (c0P hs bs l - (ps.map (tkP hs bs l T)).sum) else none
theorem heldO_no {hs : List HR} {bs : List BR} {l : Nat} {T : Int} {ps : List Pc} {x : Pc} (h : x ∈ ps) (n : ¬ okP bs x) : heldO hs bs l T ps = none := if_neg fun z => n (z x h)
theorem inV_nats {k : Nat} {ns : List Nat} : inV (nV k) (ns.map nV) = true ↔ k ∈ ns := by
  unfold inV
  induction ns with
  | nil => simp
  | cons z zs ih =>
    rw [List.map_cons, List.any_cons, Bool.or_eq_true, ih, List.mem_cons]
    refine or_congr_left ?_
    show ((z : Int) == (k : Int)) = true ↔ k = z
    rw [beq_iff_eq]
    omega
theorem b01 : ∀ c : Bool, -(2 ^ 64) < (if c = true then (1 : Int) else 0) ∧ (if c = true then (1 : Int) else 0) < 2 ^ 64 := by decide
theorem tr_bound {hs : List HR} {bs : List BR} (ok : RoomOk hs bs) : ∀ ns : List Nat, 0 ≤ (ns.map (trB bs)).sum ∧ (ns.map (trB bs)).sum ≤ 6 * (ns.length : Int)
  | [] => ⟨Int.le_refl _, Int.le_refl _⟩
  | n :: ns => by
    have ih := tr_bound ok ns
    have : 0 ≤ trB bs n ∧ trB bs n ≤ 6 := by
      unfold trB
      split
      · rename_i e
        have := (ok.th _ (List.mem_of_getElem? e)).1
        omega
      · omega
    rw [List.map_cons, List.sum_cons, List.length_cons]
    omega
section
variable {P : Program} {w : World} {K : PySem.W.Frag} {mg : Str → Option Value} {base : Heap}
def sp_law_held (K : PySem.W.Frag) : Sp := fun vs H Q _ => ∃ (r pp : Addr) (hs : List HR) (bs : List BR) (l : Nat) (T : Int) (zv : List V) (ps : List Pc), vs = [.ref r, nV l, .int T, .ref pp] ∧ RoomAt H r hs bs ∧ RoomOk hs bs ∧ H pp = some (.tup zv) ∧ All2 (PcAt H) zv ps ∧ (∀ x ∈ ps, WkOk hs bs x.1) ∧ l ≤ 100 ∧ ∀ H', Same H H' → Q (oI (heldO hs bs l T ps)) H'
theorem ok_law_held {f : Addr} {fd : FuncData} (F : Fun K "_law_held" "_law_held" s_law_held f fd) (T : Top K mg) : FnOk P w K mg base CX0 2 f fd ["_law_room_here", "_law_late", "_law_time", "_law_prices"] (sp_law_held K) := by
  obtain ⟨f_law_doors, fd_law_doors, F_law_doors, b_law_doors, m_law_doors⟩ := T.d_law_doors
  have G_law_doors := ok_law_doors (P := P) (w := w) (base := base) F_law_doors T
  obtain ⟨f_law_end, fd_law_end, F_law_end, b_law_end, m_law_end⟩ := T.d_law_end
  have G_law_end := ok_law_end (P := P) (w := w) (base := base) F_law_end T
  obtain ⟨f_law_trays, fd_law_trays, F_law_trays, b_law_trays, m_law_trays⟩ := T.d_law_trays
  have G_law_trays := ok_law_trays (P := P) (w := w) (base := base) F_law_trays T
  obtain ⟨f_law_moments, fd_law_moments, F_law_moments, b_law_moments, m_law_moments⟩ := T.d_law_moments
  have G_law_moments := ok_law_moments (P := P) (w := w) (base := base) F_law_moments T
  refine F.ok sc_law_held (fun vs H Q E h => ?_) (fun cdv A outer s H vs Q E hr h => ?_)
  · obtain ⟨r, pp, hs, bs, l, T', zv, ps, rfl, _⟩ := h
    rfl
  obtain ⟨r, pp, hs, bs, l, T', zv, ps, rfl, hR, ok, hpp, alp, wok, ll, q⟩ := h
  obtain ⟨ha, ba, hv, bv, er, eh, eb, alh, alb⟩ := id hR.ex
  have lbv := alb.length
  have many := ok.many
  have lh := ok.hands
  have lzv := alp.length
  have hto : ∀ b ∈ bs, b.to < hs.length := fun b hb => (ok.ends b hb).2
  let sg : Addr → Int → Option V → Option V → Option V → L2.St := fun ol n v9 v10 v11 => [some (.ref r), some (nV l), some (.int T'), some (.ref pp), some (.ref ol), some (.int n), none, none, none, v9, v10, v11]
  let R1 : TS := fun D' σ' H' => D'.rt = Q ∧ ∃ ol : Addr, σ' = sg ol (c0P hs bs l) none none none ∧ H' ol = some (.lst ((doorsOf "out" hs).map nV)) ∧ Same H H'
  refine ⟨_, (pss_cons (ps_set (i := 4) sc_law_held.nd rfl (Or.inl rfl) (pe_call G_law_doors (hr.mono (by decide)) (by rfl) m_law_doors F_law_doors.kp b_law_doors .nil pass0 (pa_cons (pv 0) (pa_cons pe_str pa_nil))))
      (pss_cons (ps_set (i := 5) sc_law_held.nd rfl (Or.inl rfl) (pe_op op_add (pe_callB (cr_sumK K rfl rfl) (by rfl) T.m_sum (by decide +kernel) (pa_cons (pe_lc (own := [("_law_one", 6), ("_law_to", 7), ("_law_things", 8)]) (g := gTup K 3 (gCons (gName 6) (gCons (gName 7) (gCons (gName 8) gNil)))) (tt := tYes) (by rfl) sc_law_held.nd (pi_tupK K rfl (pe_ix (ix_tupK K rfl) (pv 0) pe_int (fun _ _ => rfl))) (blkOk_by (own := [("_law_one", 6), ("_law_to", 7), ("_law_things", 8)]) (N := N_law_held) (sc := defScope s_law_held) (by decide +kernel)) (fun _ _ _ _ _ => (pg_tupK K rfl rfl (pgs_cons (pg_name (i := 6) sc_law_held.nd rfl (Or.inl rfl)) (pgs_cons (pg_name (i := 7) sc_law_held.nd rfl (Or.inl rfl)) (pgs_cons (pg_name (i := 8) sc_law_held.nd rfl (Or.inl rfl)) pgs_nil))))) (fun _ _ _ _ _ => pts_nil) (fun _ _ _ _ _ => (pe_callB (call_len_seqK K rfl) (by rfl) T.m_len (by decide +kernel) (pa_cons (pv 8) pa_nil)))) pa_nil)) (pe_op op_mul (pv 1) (pe_callB (call_len_seqK K rfl) (by rfl) T.m_len (by decide +kernel) (pa_cons (pv 4) pa_nil)))))
      (PSs.to (pss_cons (ps_for PassesOwn.never rfl (pi_tupK K rfl (pv 3)) (pg_tupK K rfl rfl (pgs_cons (pg_name (i := 9) sc_law_held.nd rfl (Or.inl rfl)) (pgs_cons (pg_name (i := 10) sc_law_held.nd rfl (Or.inl rfl)) pgs_nil)))
        (pss_cons (ps_set (i := 11) sc_law_held.nd rfl (Or.inl rfl) (pe_call G_law_end (hr.mono (by decide)) (by rfl) m_law_end F_law_end.kp b_law_end .nil pass0 (pa_cons (pv 0) (pa_cons (pv 9) pa_nil))))
      (pss_cons (ps_if (PW.pt (pw_or (pt_cmpR op_lt (pv 10) pe_int (nomark _)) (pw_or (pt_cmpR op_eq (pe_callB (call_len_seqK K rfl) (by rfl) T.m_len (by decide +kernel) (pa_cons (pe_ix (ix_tupK K rfl) (pv 9) pe_int (fun _ _ => rfl)) pa_nil)) pe_int (nomark _)) (pw_or1 (pt_cmpR op_isN (pv 11) pe_non (nomark _)))))) (pss_one (ps_ret pe_non)) pss_nil)
      (pss_cons (ps_set (i := 5) sc_law_held.nd rfl (Or.inl rfl) (pe_op op_sub (pv 5) (pe_op op_mul (pv 10) (pe_op op_sub (pe_call G_law_trays (hr.mono (by decide)) (by rfl) m_law_trays F_law_trays.kp b_law_trays .nil pass0 (pa_cons (pv 0) (pa_cons (pv 9) pa_nil))) (pe_callTy call_int1 (by rfl) T.m_int (by decide +kernel) (pa_cons (pe_cmpR op_gt (pe_call G_law_moments (hr.mono (by decide)) (by rfl) m_law_moments F_law_moments.kp b_law_moments .nil pass0 (pa_cons (pv 0) (pa_cons (pv 9) pa_nil))) (pv 2) (nomark _)) pa_nil))))))
      (pss_one (ps_set (i := 5) sc_law_held.nd rfl (Or.inl rfl) (pe_op op_sub (pv 5) (pe_op op_mul (pe_op op_mul (pv 1) (pv 10)) (pe_callTy call_int1 (by rfl) T.m_int (by decide +kernel) (pa_cons (pe_cmpR (op_in_seqK K rfl) (pv 11) (pv 4) (by with_unfolding_all rfl)) pa_nil))))))))))
      (pss_one (ps_ret (pv 5)))) R1 ?tail1))), ?_⟩
  case tail1 =>
    rintro D' σ' H1 ⟨eD, ol, rfl, hol, s1⟩
    refine ⟨_, rfl, pp, rfl, ⟨_, SqT.of (s1 _ _ hpp)⟩, for_tup (K := K) (a := pp) (xs := zv) (fun i σ H2 => ∃ (v9 v10 v11 : Option V), σ = sg ol (c0P hs bs l - ((ps.take i).map (tkP hs bs l T')).sum) v9 v10 v11 ∧ (∀ x ∈ ps.take i, okP bs x) ∧ Same H1 H2) ⟨none, none, none, (by show _ = sg ol (c0P hs bs l - 0) none none none; rw [Int.sub_zero]), (fun _ z => by rw [List.take_zero] at z; cases z), Same.refl _⟩ (fun i σ H2 _ ⟨_, _, _, _, _, s2⟩ => SqT.of (s2 _ _ (s1 _ _ hpp))) ?_ ?_⟩
    · rintro i v σ H2 hx ⟨v9, v10, v11, rfl, oks, s2⟩
      have s12 := s1.trans s2
      obtain ⟨x, ex, ⟨a, u, rfl, ea, hu⟩⟩ := (alp.imp fun _ _ z => z.keep (TK.same s12)).getL hx
      have xm := List.mem_of_getElem? ex
      have wo := wok x xm
      obtain ⟨wp, rfl, hw⟩ := hu
      obtain ⟨g, ew, eg⟩ := id hw
      refine ⟨a, _, rfl, SqT.of ea, rfl, _, _, rfl, _, _, rfl, rfl, ?_⟩
      refine ⟨_, rfl, _, rfl, r, wp, hs, bs, x.1.1, x.1.2, rfl, hR.keep (TK.same s12), hw, wo.lt, fun H3 s3 => ?_⟩
      have s13 := s12.trans s3
      have hw3 := hw.keep (TK.same s3)
      have none_ : ¬ okP bs x → D'.rt (.non) H3 := fun n => by
        rw [eD]
        have := q H3 s13
        rw [heldO_no xm n] at this
        exact this
      refine ⟨_, rfl, _, _, rfl, rfl, _, rfl, if_bl (fun c => ?_) (fun c => ?_)⟩
      · exact none_ fun z => by have := of_decide_eq_true c; have := z.1; omega
      have c1 : ¬ x.2 < 1 := of_decide_eq_false c
      refine ⟨_, rfl, wp, _, _, _, rfl, rfl, SqT.of (s3 _ _ ew), atI_nat (j := 1) rfl, g, _, rfl, .inr (SqT.of (s3 _ _ eg)), rfl, _, rfl, if_bl (fun c => ?_) (fun c => ?_)⟩
      · refine none_ fun z => z.2.1 ?_
        have := V.int.inj (of_decide_eq_true c)
        rw [List.length_map] at this
        exact List.length_eq_zero_iff.mp (by omega)
      have c2 : x.1.2 ≠ [] := fun z => of_decide_eq_false c (by rw [z]; rfl)
      refine ⟨_, rfl, rfl, _, rfl, ?_⟩
      cases ee : wayEnd bs x.1.1 x.1.2 with
      | none =>
        refine if_bl (fun _ => none_ fun z => ?_) (fun z => absurd rfl (of_decide_eq_false z))
        have := z.2.2
        unfold endO at this
        rw [ee] at this
        cases this
      | some e =>
        refine if_bl (fun z => absurd (of_decide_eq_true z) (fun y => nomatch y)) (fun _ => ?_)
        have okx : okP bs x := ⟨by omega, c2, by unfold endO; rw [ee]; rfl⟩
        have een : enD bs x.1 = e := by unfold enD endO; rw [ee]; rfl
        refine ⟨_, rfl, _, rfl, _, rfl, _, rfl, r, wp, hs, bs, x.1.1, x.1.2, rfl, hR.keep (TK.same s13), hw3, wo.lt, by have := wo.ln; omega, fun H4 s4 => ?_⟩
        have s14 := s13.trans s4
        refine ⟨_, rfl, _, rfl, r, wp, hs, bs, x.1.1, x.1.2, rfl, hR.keep (TK.same s14), hto, hw3.keep (TK.same s4), wo.k, wo.lt, wo.ln, fun H5 s5 => ?_⟩
        have hol5 := s5 _ _ (s4 _ _ (s3 _ _ (s2 _ _ hol)))
        obtain ⟨tb0, tb1⟩ := tr_bound ok x.1.2
        have wln := wo.ln
        have nd0 : 0 ≤ ndd (momW hs bs x.1.1 x.1.2) T' ∧ ndd (momW hs bs x.1.1 x.1.2) T' ≤ 1 := by unfold ndd; split <;> omega
        have ie : (if decide (T' < momW hs bs x.1.1 x.1.2) = true then (1 : Int) else 0) = ndd (momW hs bs x.1.1 x.1.2) T' := by
          unfold ndd
          by_cases c : T' < momW hs bs x.1.1 x.1.2
          · rw [if_pos (decide_eq_true c), if_pos c]
          · rw [if_neg (by rw [decide_eq_false c]; exact Bool.false_ne_true), if_neg c]
        refine ⟨_, rfl, _, _, rfl, rfl, .inr ⟨_, rfl, _, _, rfl, rfl, _, _, rfl, rfl, .inr ⟨by rw [ie]; omega, by rw [ie]; omega⟩, _, _, rfl, rfl, ?_⟩⟩
        refine ⟨_, rfl, _, rfl, _, rfl, _, _, rfl, rfl, .inl ⟨by omega, by omega⟩, _, rfl, _, rfl, ?_⟩
        refine ⟨ol, _, rfl, .inl (SqL.of hol5), rfl, (List.all_eq_true.mpr fun v hv => by obtain ⟨n, _, rfl⟩ := List.mem_map.mp hv; rfl), ?_⟩
        have je : (if inV (onV (some e)) ((doorsOf "out" hs).map nV) = true then (1 : Int) else 0) = if enD bs x.1 ∈ doorsOf "out" hs then 1 else 0 := by
          rw [een]
          show (if inV (nV e) ((doorsOf "out" hs).map nV) = true then (1 : Int) else 0) = _
          by_cases c : e ∈ doorsOf "out" hs
          · rw [if_pos c, if_pos (inV_nats.mpr c)]
          · rw [if_neg c, if_neg fun z => c (inV_nats.mp z)]
        have ev : c0P hs bs l - ((ps.take (i + 1)).map (tkP hs bs l T')).sum = c0P hs bs l - ((ps.take i).map (tkP hs bs l T')).sum - x.2 * ((x.1.2.map (trB bs)).sum - if decide (T' < momW hs bs x.1.1 x.1.2) = true then 1 else 0) - ((l : Nat) : Int) * x.2 * (if inV (onV (some e)) ((doorsOf "out" hs).map nV) = true then 1 else 0) := by
          rw [ie, je, List.take_add_one, ex, List.map_append, List.sum_append]
          show _ - (_ + (tkP hs bs l T' x + 0)) = _
          unfold tkP
          omega
        refine .inr ⟨_, rfl, _, _, rfl, rfl, .inr ⟨(b01 _).1, (b01 _).2⟩, _, _, rfl, rfl, some (.ref wp), some (.int x.2), some (onV (some e)), ?_, fun y hy => ?_, s2.trans (s3.trans (s4.trans s5))⟩
        · rw [ev]
          rfl
        · rw [List.take_add_one, ex] at hy
          rcases List.mem_append.mp hy with hy | hy
          · exact oks y hy
          · rw [List.mem_singleton.mp hy]
            exact okx
    · rintro σ H2 ⟨v9, v10, v11, rfl, oks, s2⟩
      refine ⟨_, rfl, ?_⟩
      rw [eD]
      have := q H2 (s1.trans s2)
      rw [lzv, List.take_length] at *
      unfold heldO at this
      rw [if_pos oks] at this
      exact this
  refine ⟨_, rfl, r, hs, bs, "out", rfl, .inr rfl, hR, ok, fun ol H1 hol s1 => ?_⟩
  refine ⟨_, rfl, r, _, _, _, rfl, rfl, SqT.of (s1 _ _ er), atI_nat (j := 1) rfl, ba, rfl, ⟨_, SqT.of (s1 _ _ eb)⟩, fun D nD => lc_tup (K := K) (a := ba) (xs := bv) (fun i H5 => H5 D = some (.lst (((bs.take i).map fun b => (b.th.length : Int)).map V.int)) ∧ Same H1 H5) ⟨upd_same, same_new nD⟩ (fun i H5 _ ⟨_, s5⟩ => SqT.of (s5 _ _ (s1 _ _ eb))) ?_ ?_⟩
  · rintro i v H5 hx ⟨hD, s5⟩
    obtain ⟨b, eb2, ⟨t, g, rfl, e1, e2⟩⟩ := alb.getL hx
    have il := (List.getElem?_eq_some_iff.mp eb2).1
    have s15 := s1.trans s5
    refine ⟨t, _, rfl, SqT.of (s15 _ _ e1), rfl, _, _, rfl, _, _, rfl, _, _, rfl, rfl, rfl, yes_in ?_⟩
    refine ⟨_, rfl, g, _, rfl, .inr (SqT.of (s15 _ _ e2)), _, hD, by rw [List.length_map, List.length_map, List.length_take]; exact small1000 (by omega), ?_, Same.own s5 nD⟩
    rw [upd_same, List.take_add_one, eb2, List.map_append, List.map_append, List.length_map]
    rfl
  rintro H5 ⟨hD, s5⟩
  rw [lbv, List.take_length] at hD
  have hol5 := s5 _ _ hol
  refine ⟨D, _, rfl, SqL.of hD, _, rfl, _, rfl, ol, _, rfl, .inl (SqL.of hol5), _, _, rfl, rfl, .inl ⟨by omega, by omega⟩, _, _, rfl, rfl, ?_⟩
  refine ⟨rfl, ol, ?_, hol5, s1.trans s5⟩
  rw [List.length_map]
  rfl
end
/-! ### whether prices bind -/
def one1 (a k : Nat) : Int := if k = a then 1 else 0
def lfB (bs : List BR) (k : Nat) : Int := (bs.map fun b => one1 b.one k - one1 b.to k).sum
def lfP (bs : List BR) (ps : List Pc) (k : Nat) : Int := (ps.map fun x => x.2 * (one1 (enD bs x.1) k - one1 x.1.1 k)).sum
def bindB (hs : List HR) (bs : List BR) (ps : List Pc) : Bool := (List.range hs.length).all fun k => decide (k ∈ doorsOf "in" hs ++ doorsOf "out" hs) || decide (lfB bs k + lfP bs ps k = 0)
theorem lfB_take {bs : List BR} {i k : Nat} {b : BR} (e : bs[i]? = some b) : lfB (bs.take (i + 1)) k = lfB (bs.take i) k + (one1 b.one k - one1 b.to k) := by
  unfold lfB
  rw [List.take_add_one, e, List.map_append, List.sum_append]
  show _ + (_ + 0) = _
  rw [Int.add_zero]
theorem lfP_take {bs : List BR} {ps : List Pc} {i k : Nat} {x : Pc} (e : ps[i]? = some x) : lfP bs (ps.take (i + 1)) k = lfP bs (ps.take i) k + x.2 * (one1 (enD bs x.1) k - one1 x.1.1 k) := by
  unfold lfP
  rw [List.take_add_one, e, List.map_append, List.sum_append]
  show _ + (_ + 0) = _
  rw [Int.add_zero]
theorem rep_lev {n : Nat} : List.replicate n (V.int 0) = levL n fun _ => 0 := by
  refine List.ext_getElem? fun i => ?_
  by_cases l : i < n
  · rw [List.getElem?_replicate, if_pos l, rg_at l]
  · rw [List.getElem?_eq_none (by rw [List.length_replicate]; omega), List.getElem?_eq_none (by rw [List.length_map, List.length_range]; omega)]
/-! ### all(..), any(..) over anything that can be walked, whatever a def of ours does in the element -/
section
open PySem.Spec GxR GenW
/-- the table's growth, when the generator's code object was got -/
structure GotC (P : Addr) (ps : Array Value) (z z' : Shared) : Prop where
  same : z' = { z with heap := z'.heap, toks := z'.toks }
  ext : Heap.ExtBut P z.heap z'.heap
  tab : ∃ more, z'.heap.get? P = some { cls := .none, data := .fields (ps ++ more) } ∧ TriplesOk (ps ++ more).toList
theorem code_gotC {prog : Program} {w : World} {A : Around} {E : Value → Shared → Prop} {env : Env} {gpos : Pos} {nm : Str} {scope : Scope} {c P : Addr} {ps : Array Value} {z : Shared}
    (hcode : env.code = .ref c) (cd : PySem.W.CodeHd z.heap c P) (hP : z.heap.get? P = some { cls := .none, data := .fields ps }) (ht : TriplesOk ps.toList) :
    wpAny (model prog w) A (genexprCode env gpos nm scope) (fun _ z' => GotC P ps z z') E z := by
  cases among : codeAmong gpos ps.toList with
  | some cv => exact wpAny_genexprCode_hit hcode (cd.code hP ht) among ⟨rfl, .refl _ _, #[], by simpa using hP, by simpa using ht⟩
  | none =>
    refine wpAny_genexprCodeX hcode (cd.code hP ht) (cd.tab hP) among fun c' h' tk ext ge lt co _ tab _ => ?_
    obtain ⟨_, _, _, _, _, _, _, _, _, _, _, _, _, _, _, _, _, _, _, tr, _⟩ := co
    exact ⟨rfl, ext, _, tab.2, tr⟩
/-- the generator sleeps: others may have run generators, nothing else has changed -/
def Woke (s s' : Shared) : Prop := ∃ (g' : Array GenState) (tk : Nat), s' = { s with gens := g', toks := tk } ∧ AllBare g'
theorem Woke.trans {a b c : Shared} (h : Woke a b) (k : Woke b c) : Woke a c := by
  obtain ⟨g1, t1, rfl, _⟩ := h
  obtain ⟨g2, t2, rfl, b2⟩ := k
  exact ⟨g2, t2, rfl, b2⟩
theorem inv_woke {X : Cx} {pins : List (Addr × Obj)} {σ : L2.St} {H : Hp} {s s' : Shared} (I : Inv X pins σ H s) (k : Woke s s') : Inv X pins σ H s' := by
  obtain ⟨g', tk, rfl, b⟩ := k
  exact I.call (h' := s.heap) (d' := s.drawn) (ch := []) Un.refl I.hok b (fun _ z => nomatch z)
theorem bare_set {a : Array GenState} {g : Nat} {x : GenState} (h : AllBare a) (hx : x.bare = true) : AllBare (a.setIfInBounds g x) := fun y hy => by
  obtain ⟨i, hi, e⟩ := Array.mem_iff_getElem.mp hy
  rw [Array.getElem_setIfInBounds] at e
  · by_cases z : g = i
    · rw [if_pos z] at e
      rw [← e]; exact hx
    · rw [if_neg z] at e
      rw [← e]; exact h _ (Array.getElem_mem _)
  · rw [Array.size_setIfInBounds] at hi
    exact hi
/-- the context of a generator's frame: the objects at fp are its iterator's -/
abbrev gcx (X : Cx) (A' : Around) (N' : List Str) (s : Shared) (H : Hp) (cenv : Env) (fp : List Addr) (pn : List (Addr × Obj)) : Cx :=
  { X with A := A', N := N', s_0 := s, H_0 := H, env := cenv, outer := X.stack, stack := cenv :: X.stack, ex := fp, fn := fun _ => false, pn := pn, xe := fun _ _ => False }
/-- a generator's names: its own, and those that it takes from the def around it -/
structure GenN (X : Cx) (scope : Scope) (N' : List Str) (sg : L2.St → L2.St) : Prop where
  kind : scope.kind = .function
  co : scope.isCoroutine = false
  cell : ∀ y ∈ scope.names, y.2 ≠ .cell
  dot : scope.names.lookup (".0" : Str) = some NameKind.local
  free : ∀ y ∈ scope.names, y.2 = .free → X.env.scope.names.lookup y.1 = some .cell ∨ X.env.scope.names.lookup y.1 = some .free
  len : ∀ σ, (sg σ).length = N'.length
  took : ∀ σ (i : Nat) x v, N'[i]? = some x → (sg σ)[i]? = some (some v) → scope.names.lookup x = some .free ∧ ∃ j : Nat, X.N[j]? = some x ∧ σ[j]? = some (some v)
theorem gen_start {X : Cx} {pins : List (Addr × Obj)} {σ : L2.St} {H : Hp} {s : Shared} {scope : Scope} {N' : List Str} {sg : L2.St → L2.St} {A' : Around} {it : Value} {fp : List Addr} {code : Value} {h' : Heap} {go : Obj} {gens' : Array GenState} {tk : Nat}
    (I : Inv X pins σ H s) (S : GenN X scope N' sg) (hfp : ∀ b ∈ fp, FpOk X pins H b ∧ b < s.heap.objs.size)
    (hA : A'.frames = some (genEnv scope (cloFrom X.env.cells scope.names []) s.heap.objs.size code builtinsNs X.env :: X.stack)) (hh : A'.handled = none)
    (hn : h'.Ns s.heap.objs.size (fun y => if y = ".0" then some it else none)) (sb : Heap.SameBut s.heap.objs.size (s.heap.push { cls := .type "frame", data := .dict #[] }) h') (hd : ∀ v, go.data ≠ .cell v)
    (hpush : (h'.push go).get? h'.objs.size = some go) (bare : AllBare gens') :
    Inv (gcx X A' N' s H (genEnv scope (cloFrom X.env.cells scope.names []) s.heap.objs.size code builtinsNs X.env) fp [(h'.objs.size, go)]) [] (sg σ) H { s with gens := gens', toks := tk, heap := h'.push go } := by
  have sz : h'.objs.size = s.heap.objs.size + 1 := by rw [sb.1, Heap.size_push]
  have keep : ∀ b o, s.heap.get? b = some o → (h'.push go).get? b = some o := fun b o e => Heap.get?_push_of_some _ (sb.extBut b o (Nat.ne_of_lt (Heap.lt_size e)) (Heap.get?_push_of_some _ e))
  have has : ∀ y ∈ scope.names, y.2 = .free → ∃ c, X.env.cells.lookup y.1 = some c := fun y hy e => I.ok.has _ ((S.free y hy e).elim .inl .inr)
  have look : ∀ {x : Str} {c : Addr}, (cloFrom X.env.cells scope.names []).lookup x = some c → (x, NameKind.free) ∈ scope.names ∧ X.env.cells.lookup x = some c := fun {x c} e => by
    rcases cloFrom_mem (PySem.mem_of_lookup e) with z | ⟨z1, z2⟩
    · cases z
    · obtain ⟨c', e'⟩ := has _ z1 rfl
      rw [e'] at z2
      exact ⟨z1, by rw [e', z2]; rfl⟩
  have find : ∀ {x : Str}, scope.names.lookup x = some .free → ∃ c, (cloFrom X.env.cells scope.names []).lookup x = some c := fun {x} e => mem_lookup (cloFrom_has (PySem.mem_of_lookup e))
  have apart : ∀ b, s.heap.objs.size ≤ b → b ∉ frs X.stack := fun b hb m => by
    rcases List.mem_cons.mp (I.stkSub b m) with z | z
    · exact absurd (Nat.lt_of_lt_of_le I.lt (z ▸ hb)) (Nat.lt_irrefl _)
    · exact I.nofs hb z
  refine ⟨⟨I.ok.mod, S.kind, I.ok.glob, rfl, Nat.le_refl _, fun x y c h1 h2 => I.ok.inj x y c (look h1).2 (look h2).2, fun x hx => ?_, (fun x c h _ => nomatch h), fun _ => hh, hA, .inr ⟨rfl, rfl⟩, fun b hb => ⟨Nat.ne_of_lt (hfp b hb).2, fun x c e => (hfp b hb).1.2.2.2.2.1 x c (look e).2⟩, I.bs, Nat.le_trans I.ok.bsz I.sz, fun b o e hb => ?_, fun b hb m => ?_, I.stack, I.stkFree⟩,
    rfl, bare, Un.kept keep, ⟨_, hn.push _, fun i x v h1 h2 h3 => ?_⟩, fun x c e => ?_, I.hok.fresh (Nat.le_refl _), fun x c e => I.freeC x c (look e).2, fun p hp => ?_, I.hok.kept keep, S.len σ⟩
  · rcases hx with hx | hx
    · exact absurd rfl (S.cell _ (PySem.mem_of_lookup (show scope.names.lookup x = some .cell from hx)))
    · exact find hx
  · rcases (hfp b hb).1.2.2.2.1 with z | z
    · exact I.ok.noex b o e z
    · exact absurd (Nat.lt_of_lt_of_le (Heap.lt_size e) (Nat.le_trans I.ok.bsz z)) (Nat.lt_irrefl _)
  · rcases List.mem_cons.mp (I.stkSub b m) with z | z
    · exact (hfp b hb).1.2.1 z
    · exact (hfp b hb).1.2.2.1 z
  · obtain ⟨fr, j, e1, e2⟩ := S.took σ i x v h1 h2
    have kn := S.free _ (PySem.mem_of_lookup fr) rfl
    obtain ⟨m0, _, hl⟩ := I.loc
    obtain ⟨u, r, lk⟩ := hl j x v e1 e2 (kn.elim (fun z => .inr (.inl z)) (fun z => .inr (.inr z)))
    refine ⟨u, r, ?_⟩
    rcases lk with ⟨z, _⟩ | ⟨_, c, ec, ic⟩
    · have z : X.env.scope.names.lookup x = some .local := z
      rcases kn with k | k <;> rw [k] at z <;> cases z
    · obtain ⟨c', e'⟩ := find fr
      have e3 := (look e').2
      rw [ec] at e3
      obtain rfl := Option.some.inj e3
      obtain ⟨o, ho, hc⟩ := ic
      exact .inr ⟨.inr fr, _, e', o, keep _ _ ho, hc⟩
  · obtain ⟨v, o, ho, hc⟩ := I.cell x c (look e).2
    exact ⟨v, o, keep _ _ ho, hc⟩
  · have hp : p ∈ [(h'.objs.size, go)] ++ ([] : List (Addr × Obj)) := hp
    rw [List.append_nil, List.mem_singleton] at hp
    subst hp
    exact ⟨hpush, I.hok.fresh (by rw [sz]; exact Nat.le_succ _), by show h'.objs.size ≠ s.heap.objs.size; rw [sz]; exact Nat.succ_ne_self _, apart _ (by rw [sz]; exact Nat.le_succ _), hd⟩
end
section
open PySem.Spec GxR GenW
variable {X : Cx} {A2 : Around} {N' : List Str} {s0 : Shared} {H0 : Hp} {cenv : Env} {fp : List Addr} {pn : List (Addr × Obj)} {tg elt iter : Expr} {scope : Scope} {gpos : Pos} {it : Addr}
/-- the around of a generator's turn -/
abbrev genA (A2 : Around) (tg elt iter : Expr) (scope : Scope) (gpos : Pos) (it : Addr) (cenv : Env) : Around := A2.over (.compLoop (.GeneratorExp elt [⟨tg, iter, [], 0⟩] scope gpos) 0 (.ref it) .none cenv) []
/-- what a generator tells at its end -/
def genR (G : Cx) (sgσ : L2.St) (kp : Bool) (Q : Bool → Hp → Prop) : GenEnd := fun _ _ r s1 => r = .ok .next ∧ ∃ H, Inv G [] sgσ H s1 ∧ Q kp H
/-- what it hands out: a truth; the truth kp, and it may be woken again -/
def genY (G : Cx) (sgσ : L2.St) (kp : Bool) (Q : Bool → Hp → Prop) : Protocol := fun _ _ v s1 kap => ∃ b H, v = .bool b ∧ Inv G [] sgσ H s1 ∧ (b ≠ kp → Q b H) ∧ (b = kp → ∀ s2, Woke s1 s2 → kap (.send .none) s2)
theorem gen_loop {J : It} {tn : Nat → Heap → Prop} {g : TG} {te : TE} {sgσ : L2.St} {vs : List Nat} {kp : Bool} {Q : Bool → Hp → Prop} {W : Nat → Nat → Hp → Prop}
    (T : Turn X.prog X.w X.K tg J fp it tn) (hc : X.calm = true) (hco : cenv.scope.isCoroutine = false) (hpn : ∀ p ∈ pn, ∀ b ∈ fp, p.1 ≠ b)
    (pg : L2.PG (gcx X (genA A2 tg elt iter scope gpos it cenv) N' s0 H0 cenv fp pn) tg g) (pe : L2.PE (gcx X (genA A2 tg elt iter scope gpos it cenv) N' s0 H0 cenv fp pn) elt te)
    (turn : ∀ i m H, W i m H → (J.stop i H ∧ Q kp H) ∨ (J.go i H ∧ ∃ Nx : Hp → Prop, (∀ H', Nx H' → ∃ m', m' < m ∧ W (i + 1) m' H') ∧ ∀ x H', J.yld i H x H' → g x sgσ H' fun σ2 H2 => wipe σ2 vs = sgσ ∧ te σ2 H2 fun y H3 => ∃ b, y = .bl b ∧ (b ≠ kp → Q b H3) ∧ (b = kp → Nx H3))) :
    ∀ (n i m : Nat) (s₀ s : Shared) (H : Hp), m < n → Inv (gcx X (genA A2 tg elt iter scope gpos it cenv) N' s0 H0 cenv fp pn) [] sgσ H s → tn i s.heap → (∀ b ∈ fp, H b = none) → W i m H →
      Seg (model X.prog X.w) A2 (genR (gcx X (genA A2 tg elt iter scope gpos it cenv) N' s0 H0 cenv fp pn) sgσ kp Q) (genY (gcx X (genA A2 tg elt iter scope gpos it cenv) N' s0 H0 cenv fp pn) sgσ kp Q) n s₀
        (.compLoop (.GeneratorExp elt [⟨tg, iter, [], 0⟩] scope gpos) 0 (.ref it) .none cenv) ((model X.prog X.w).den (.compLoop (.GeneratorExp elt [⟨tg, iter, [], 0⟩] scope gpos) 0 (.ref it) .none cenv)) [] s := by
  have stat : ∀ {σ' : L2.St} {H' : Hp} {s' : Shared}, Inv (gcx X (genA A2 tg elt iter scope gpos it cenv) N' s0 H0 cenv fp pn) [] σ' H' s' → (∀ b ∈ fp, H' b = none) → ∀ b ∈ fp, FpOk (gcx X (genA A2 tg elt iter scope gpos it cenv) N' s0 H0 cenv fp pn) [] H' b := fun {σ' H' s'} I' hn b hb =>
    ⟨hn b hb, (I'.ok.exf b hb).1, I'.ok.exfs b hb, .inl hb, fun x c e => (I'.ok.exf b hb).2 x c e, fun p hp => hpn p (by simpa using hp) b hb⟩
  intro n
  induction n with
  | zero => intro i m s₀ s H h; exact absurd h (Nat.not_lt_zero _)
  | succ n ih =>
    intro i m s₀ s H hm I st nf w
    show Seg _ A2 _ _ _ s₀ _ ((compTurn (.GeneratorExp elt [⟨tg, iter, [], 0⟩] scope gpos) 0 (.ref it) .none cenv).onRaise (leaving cenv)) [] s
    rw [compTurn_gen, Sem.onRaise_eq_wrap]
    refine seg_bind_wrap (wpAny_standAt ?_)
    rcases turn i m H w with ⟨stop, q⟩ | ⟨go, Nx, hNx, step⟩
    · refine seg_bind_wrap (wpAny_mono (T.done (gcx X (genA A2 tg elt iter scope gpos it cenv) N' s0 H0 cenv fp pn) rfl rfl rfl hc i [] s _ H (fun _ _ => False) I (stat I nf) st stop) (fun r s6 ⟨hr, I6⟩ => ?_) fun _ _ z => z.elim)
      subst hr
      exact seg_end (.ok .next) ⟨rfl, H, I6, q⟩
    · refine seg_bind_wrap (wpAny_mono (T.item (gcx X (genA A2 tg elt iter scope gpos it cenv) N' s0 H0 cenv fp pn) rfl rfl rfl hc i [] s _ H (fun _ _ => False) I (stat I nf) st go) (fun r s6 ⟨u, hr, h6⟩ => ?_) fun _ _ z => z.elim)
      subst hr
      refine seg_bind_wrap (wpAny_mono h6 (fun _ s7 ⟨x, H7, I7, r7, y7, st7, n7⟩ => ?_) fun _ _ z => z.elim)
      have I7' := I7.pinned (stat I7 n7) (T.obj _ _ st7)
      refine seg_bind_wrap (wpAny_mono (pg.run _ s7 _ H7 x u _ I7' r7 (step x H7 y7)) (fun _ s8 ⟨σ8, H8, I8, hw8, q8⟩ => ?_) fun _ _ z => z.elim)
      refine seg_bind_wrap ?_
      rw [List.forIn_nil]
      refine wpAny_pure ?_
      simp only [if_true]
      have hy : ∀ v, yieldOut cenv v = yieldValue v := fun v => by simp only [yieldOut, hco, Bool.false_eq_true, if_false]
      simp only [hy]
      rw [Sem.bind_eq_wrap', Sem.bind_eq_wrap', Sem.wrap_wrap, Sem.wrap_wrap]
      refine seg_wrap (wpAny_mono (pe.run _ s8 σ8 H8 _ I8 q8) (fun z s9 ⟨yv, H9, I9, r9, b, ey, no, yes⟩ => ?_) fun _ _ z => z.elim)
      subst ey
      obtain rfl : z = .bool b := r9
      have pin' : ∀ b ∈ fp, ∀ o, s7.heap.get? b = some o → s9.heap.get? b = some o ∧ H9 b = none := fun b hb o e =>
        let z := I9.pin (b, o) (List.mem_append_right _ (List.mem_append_right _ (mem_pinsAt hb e)))
        ⟨z.1, z.2.1⟩
      have hl : sgσ.length = σ8.length := by rw [← hw8, wipe_length]
      have I10 : Inv (gcx X (genA A2 tg elt iter scope gpos it cenv) N' s0 H0 cenv fp pn) [] sgσ H9 s9 := (I9.unpinned (pins := [])).weak hl fun j v e => by
        rw [← hw8] at e
        exact (wipe_some e).1
      have st9 := T.keep _ _ _ st7 fun b hb o e => (pin' b hb o e).1
      have n9 : ∀ b ∈ fp, H9 b = none := fun b hb => by
        obtain ⟨o, e, _⟩ := T.obj _ _ st7 b hb
        exact (pin' b hb o e).2
      refine seg_at (seg_yield rfl rfl rfl ⟨b, H9, rfl, I10, no, fun eb s2 wk => ?_⟩)
      obtain ⟨m', lt, w'⟩ := hNx H9 (yes eb)
      have I2 := inv_woke I10 wk
      obtain ⟨g', tk, rfl, _⟩ := wk
      exact seg_again rfl (ih (i + 1) m' _ _ H9 (by omega) I2 st9 n9 w')
end
section
open PySem.Spec GxR GenW
variable {X : Cx} {A2 : Around} {N' : List Str} {s0 : Shared} {H0 : Hp} {cenv : Env} {fp : List Addr} {pn : List (Addr × Obj)} {tg elt iter : Expr} {scope : Scope} {gpos : Pos} {it : Addr}
theorem gen_begin {J : It} {tn : Nat → Heap → Prop} {R : GenEnd} {Y : Protocol} {n : Nat} {s₀ s : Shared} (T : Turn X.prog X.w X.K tg J fp it tn) (st : tn 0 s.heap)
    (loop : Seg (model X.prog X.w) A2 R Y n s₀ (.compLoop (.GeneratorExp elt [⟨tg, iter, [], 0⟩] scope gpos) 0 (.ref it) .none cenv) ((model X.prog X.w).den (.compLoop (.GeneratorExp elt [⟨tg, iter, [], 0⟩] scope gpos) 0 (.ref it) .none cenv)) [] s) :
    Seg (model X.prog X.w) A2 R Y n s₀ (.compStart (.GeneratorExp elt [⟨tg, iter, [], 0⟩] scope gpos) 0 (.ref it) .none cenv) ((model X.prog X.w).den (.compStart (.GeneratorExp elt [⟨tg, iter, [], 0⟩] scope gpos) 0 (.ref it) .none cenv)) [] s := by
  show Seg _ A2 _ _ _ s₀ _ ((compStart (.GeneratorExp elt [⟨tg, iter, [], 0⟩] scope gpos) 0 (.ref it) .none cenv).onRaise (leaving cenv)) [] s
  unfold compStart
  rw [Sem.onRaise_eq_wrap]
  show Seg _ A2 _ _ _ s₀ _ ((ask >>= _).wrap _ _ _ _) [] s
  refine seg_bind_wrap (wpAny_askSetting ?_)
  split
  · exact seg_again rfl loop
  · refine seg_bind_wrap (wpAny_rule (seg_bind_wrap (wpAny_standAt (seg_bind_wrap (T.self _ 0 s _ _ st (seg_again rfl loop))))))
/-- a generator asleep, that may be woken n times more -/
structure Asleep (X : Cx) (A2 : Around) (G : Cx) (sgσ : L2.St) (kp : Bool) (Q : Bool → Hp → Prop) (a : Addr) (k : Nat) (n : Nat) (s : Shared) : Prop where
  inv : ∃ H, Inv G [] sgσ H s
  is : ∀ {s' : Shared} {H' : Hp}, Inv G [] sgσ H' s' → s'.heap.IsGen a k
  at_ : ∃ gs, s.gens[k]? = some gs ∧ ∀ s2, Woke s s2 → gs.Goes (model X.prog X.w) A2 (genR G sgσ kp Q) (genY G sgσ kp Q) n (.send .none) s2
theorem setGen_woke {s : Shared} {k : Nat} {x : GenState} (h : AllBare s.gens) (hx : x.bare = true) : Woke s (s.setGen k x) := ⟨_, s.toks, rfl, bare_set h hx⟩
theorem setGen_at {s : Shared} {k : Nat} {x : GenState} (h : k < s.gens.size) : (s.setGen k x).gens[k]? = some x := by
  show (s.gens.setIfInBounds k x)[k]? = some x
  rw [Array.getElem?_setIfInBounds_self, if_pos h]
theorem gen_next {A : Around} {G : Cx} {sgσ : L2.St} {kp : Bool} {Q : Bool → Hp → Prop} {a : Addr} {k n : Nat} {s : Shared} {R : Option Value → Shared → Prop} {E : Value → Shared → Prop} (hh : A.handled = none) (hd : A.depth < recursionLimit) (z : Asleep X A.in1 G sgσ kp Q a k n s)
    (yes : ∀ n' s', n = n' + 1 → Asleep X A.in1 G sgσ kp Q a k n' s' → R (some (.bool kp)) s')
    (no : ∀ b H s', b ≠ kp → Inv G [] sgσ H s' → Q b H → R (some (.bool b)) s') (done : ∀ H s', Inv G [] sgσ H s' → Q kp H → R none s') : wpAny (model X.prog X.w) A (pyNext (.ref a)) R E s := by
  obtain ⟨H0, I0⟩ := z.inv
  obtain ⟨gs, hgs, hgo⟩ := z.at_
  have ks : k < s.gens.size := by
    rcases Nat.lt_or_ge k s.gens.size with h | h
    · exact h
    · rw [Array.getElem?_eq_none h] at hgs; cases hgs
  refine wpAny_gsz (n := k + 1) ks ?_
  refine wpAny_pyNext_genexpQ (P := fun _ _ s1 => ∃ H, Inv G [] sgσ H s1 ∧ Q kp H) (Y := genY G sgσ kp Q) hh I0.nolimit hd (z.is I0) hgs (hgo _ (setGen_woke I0.bare rfl)) (fun v s1 gs' hb hy => ?_) fun s1 ⟨H, I, q⟩ h' hk _ => ?_
  · obtain ⟨b, H, rfl, I, stop, on⟩ := hy
    have wk := setGen_woke (k := k) I.bare hb
    intro sz
    have sz : k < s1.gens.size := by
      have e : (s1.setGen k gs').gens.size = s1.gens.size := setGen_size ..
      rw [e] at sz
      exact sz
    by_cases eb : b = kp
    · subst eb
      have on := on rfl
      cases n with
      | zero => exact (on s1 ⟨s1.gens, s1.toks, rfl, I.bare⟩).elim
      | succ n' => exact yes n' _ rfl ⟨⟨H, inv_woke I wk⟩, z.is, gs', setGen_at sz, fun s2 w2 => on s2 (wk.trans w2)⟩
    · exact no b H _ eb (inv_woke I wk) (stop eb)
  · have J : Inv G [] sgσ H { s1.setGen k .finished with heap := h' } := by
      have J1 := inv_woke I (setGen_woke (k := k) (x := .finished) I.bare rfl)
      exact J1.kept (t' := s1.toks) hk
    exact done H _ J q
theorem all_loop {A : Around} {G : Cx} {sgσ : L2.St} {Q : Bool → Hp → Prop} {a : Addr} {k : Nat} (hh : A.handled = none) (hd : A.depth < recursionLimit) :
    ∀ (n : Nat) (s : Shared), Asleep X A.in1.in1 G sgσ true Q a k n s → codeAny (model X.prog X.w) A (.builtin "all.loop" ⟨[.ref a], []⟩) (fun r s' => ∃ b H, r = .ok (.ret (.bool b)) ∧ Inv G [] sgσ H s' ∧ Q b H) s := by
  intro n
  induction n with
  | zero =>
    intro s z
    refine codeAny_builtin F.entry_all_loop ?_
    rw [Around.under_plainId F.plain_all_loop _]
    show wpAny _ A.in1 (pyNext (.ref a) >>= _) _ _ s
    refine wpAny_bind (gen_next (A := A.in1) hh hd z (fun n' s' e => nomatch e) (fun b H s' eb I q => ?_) fun H s' I q => ?_)
    · obtain rfl : b = false := by cases b <;> first | rfl | exact absurd rfl eb
      refine wpAny_bind (wpAny_holding (wpAny_truthy_bool ?_))
      refine wpAny_bind (wpAny_letGo ?_)
      simp only [Bool.false_eq_true, if_false]
      exact wpAny_bind (wpAny_rule (wpAny_pure ⟨false, H, rfl, I, q⟩))
    · exact wpAny_bind (wpAny_rule (wpAny_pure ⟨true, H, rfl, I, q⟩))
  | succ n ih =>
    intro s z
    refine codeAny_builtin F.entry_all_loop ?_
    rw [Around.under_plainId F.plain_all_loop _]
    show wpAny _ A.in1 (pyNext (.ref a) >>= _) _ _ s
    refine wpAny_bind (gen_next (A := A.in1) hh hd z (fun n' s' e z' => ?_) (fun b H s' eb I q => ?_) fun H s' I q => ?_)
    · obtain rfl : n' = n := by omega
      refine wpAny_bind (wpAny_holding (wpAny_truthy_bool ?_))
      refine wpAny_bind (wpAny_letGo ?_)
      simp only [if_true]
      exact wpAny_pure ⟨plainId_quiet F.plain_all_loop _, ih _ z'⟩
    · obtain rfl : b = false := by cases b <;> first | rfl | exact absurd rfl eb
      refine wpAny_bind (wpAny_holding (wpAny_truthy_bool ?_))
      refine wpAny_bind (wpAny_letGo ?_)
      simp only [Bool.false_eq_true, if_false]
      exact wpAny_bind (wpAny_rule (wpAny_pure ⟨false, H, rfl, I, q⟩))
    · exact wpAny_bind (wpAny_rule (wpAny_pure ⟨true, H, rfl, I, q⟩))
theorem any_loop {A : Around} {G : Cx} {sgσ : L2.St} {Q : Bool → Hp → Prop} {a : Addr} {k : Nat} (hh : A.handled = none) (hd : A.depth < recursionLimit) :
    ∀ (n : Nat) (s : Shared), Asleep X A.in1.in1 G sgσ false Q a k n s → codeAny (model X.prog X.w) A (.builtin "any.loop" ⟨[.ref a], []⟩) (fun r s' => ∃ b H, r = .ok (.ret (.bool b)) ∧ Inv G [] sgσ H s' ∧ Q b H) s := by
  intro n
  induction n with
  | zero =>
    intro s z
    refine codeAny_builtin F.entry_any_loop ?_
    rw [Around.under_plainId F.plain_any_loop _]
    show wpAny _ A.in1 (pyNext (.ref a) >>= _) _ _ s
    refine wpAny_bind (gen_next (A := A.in1) hh hd z (fun n' s' e => nomatch e) (fun b H s' eb I q => ?_) fun H s' I q => ?_)
    · obtain rfl : b = true := by cases b <;> first | rfl | exact absurd rfl eb
      refine wpAny_bind (wpAny_holding (wpAny_truthy_bool ?_))
      refine wpAny_bind (wpAny_letGo ?_)
      simp only [if_true]
      exact wpAny_bind (wpAny_rule (wpAny_pure ⟨true, H, rfl, I, q⟩))
    · exact wpAny_bind (wpAny_rule (wpAny_pure ⟨false, H, rfl, I, q⟩))
  | succ n ih =>
    intro s z
    refine codeAny_builtin F.entry_any_loop ?_
    rw [Around.under_plainId F.plain_any_loop _]
    show wpAny _ A.in1 (pyNext (.ref a) >>= _) _ _ s
    refine wpAny_bind (gen_next (A := A.in1) hh hd z (fun n' s' e z' => ?_) (fun b H s' eb I q => ?_) fun H s' I q => ?_)
    · obtain rfl : n' = n := by omega
      refine wpAny_bind (wpAny_holding (wpAny_truthy_bool ?_))
      refine wpAny_bind (wpAny_letGo ?_)
      simp only [Bool.false_eq_true, if_false]
      exact wpAny_pure ⟨plainId_quiet F.plain_any_loop _, ih _ z'⟩
    · obtain rfl : b = true := by cases b <;> first | rfl | exact absurd rfl eb
      refine wpAny_bind (wpAny_holding (wpAny_truthy_bool ?_))
      refine wpAny_bind (wpAny_letGo ?_)
      simp only [if_true]
      exact wpAny_bind (wpAny_rule (wpAny_pure ⟨true, H, rfl, I, q⟩))
    · exact wpAny_bind (wpAny_rule (wpAny_pure ⟨false, H, rfl, I, q⟩))
end
section
open PySem.Spec GxR GenW
/-- all (kp true), any (kp false): over what comes, g puts it under its names, te tells the element; the table at P may grow -/
def tQuant (kp : Bool) (P : Addr) (wi : TI) (sg : L2.St → L2.St) (g : TG) (te : TE) (vs : List Nat) : TE := fun σ H Q => wi σ H fun J H1 => TabG H1 P ∧ ∀ H2, Tabbed P H1 H2 → ∃ W : Nat → Nat → Hp → Prop, (∃ m, W 0 m H2) ∧ ∀ i m H, W i m H →
  (J.stop i H ∧ Q (.bl kp) H) ∨ (J.go i H ∧ ∃ Nx : Hp → Prop, (∀ H', Nx H' → ∃ m', m' < m ∧ W (i + 1) m' H') ∧ ∀ x H', J.yld i H x H' → g x (sg σ) H' fun σ2 H3 => wipe σ2 vs = sg σ ∧ te σ2 H3 fun y H4 => ∃ b, y = .bl b ∧ (b ≠ kp → Q (.bl b) H4) ∧ (b = kp → Nx H4))
theorem over_gen {A : Around} {elt tg iter : Expr} {scope : Scope} {gpos : Pos} {it acc : Value} {cenv : Env} : A.over (.compLoop (.GeneratorExp elt [⟨tg, iter, [], 0⟩] scope gpos) 0 it acc cenv) [] = A.deeper cenv := by
  first
    | rfl
    | (obtain ⟨hd, d, fr, gs, u⟩ := A; simp [Around.over, Around.deeper, marksOver, frameCount, unitsOf, envsOf, guardsOf, pushEnvs, pushGuards, Code.envs, Code.env?, Code.isFrame, Code.guards, Code.isGuard, Code.weight, Code.frames, Code.isCreation, Code.isCaller, Code.cUnits])
theorem gen_made {X : Cx} {c P : Addr} {elt iter tg : Expr} {scope : Scope} {gpos : Pos} {N' : List Str} {sg : L2.St → L2.St} {kp : Bool} {wi : TI} {g : TG} {te : TE} {vs : List Nat} {k : Nat} {pins : List (Addr × Obj)} {σ : L2.St} {H : Hp} {s : Shared} {Q : VK}
    (hr : Room (k + 1) X.A) (hc : X.calm = true) (TB : TabB X.base X.mg c P) (hcode : X.env.code = .ref c) (S : GenN X scope N' sg) (hi : L2.PI X tg iter wi) (hs : ∀ v, genFold iter X.env v = pure v)
    (pg : ∀ (A' : Around) (s : Shared) (H : Hp) (cl : List (Str × Addr)) (C bi : Addr) (code : Value) (fp : List Addr) (pn : List (Addr × Obj)), Room k A' → L2.PG (gcx X A' N' s H (genEnv scope cl C code bi X.env) fp pn) tg g)
    (pe : ∀ (A' : Around) (s : Shared) (H : Hp) (cl : List (Str × Addr)) (C bi : Addr) (code : Value) (fp : List Addr) (pn : List (Addr × Obj)), Room k A' → L2.PE (gcx X A' N' s H (genEnv scope cl C code bi X.env) fp pn) elt te)
    (I : Inv X pins σ H s) (h : tQuant kp P wi sg g te vs σ H Q) :
    wpAny (model X.prog X.w) X.A (eval (.GeneratorExp elt [⟨tg, iter, [], 0⟩] scope gpos) X.env) (fun gv z => ∃ (a : Addr) (kk n : Nat) (G : Cx), gv = .ref a ∧ Asleep X X.A.in1.in1 G (sg σ) kp (fun b H' => Q (.bl b) H') a kk n z ∧ ∀ s' b H', Inv G [] (sg σ) H' s' → Q (.bl b) H' → EP X pins σ Q (.bool b) s') X.xe s := by
  have has : ∀ y ∈ scope.names, y.2 = .free → ∃ c, X.env.cells.lookup y.1 = some c := fun y hy e => I.ok.has _ ((S.free y hy e).elim .inl .inr)
  refine wpAny_GeneratorExp_make S.co (closure_ok has) S.cell S.dot S.kind (by have := hr.dp; omega) ?_ hs
  refine thn (hi.run pins s σ H _ I h) fun xv s1 hx => thn hx fun itv s2 ⟨it, fp, tn, J, H2, ei, I2, T, st2, f2, ⟨ps, hP, tri⟩, q⟩ => ?_
  subst ei
  have tabP : s2.heap.get? P = some { cls := .none, data := .fields ps } := I2.hok P _ hP
  refine ⟨I2.nolimit, thn (code_gotC (ps := ps) hcode (TB.code.keeps fun b o e => I2.bk b o e) tabP tri) fun code s3 got => ?_⟩
  obtain ⟨eq3, ext, more, hP3, tri3⟩ := got
  obtain ⟨h3, g3, d3, t3, o3⟩ := s3
  obtain ⟨rfl, rfl, rfl⟩ : g3 = s2.gens ∧ d3 = s2.drawn ∧ o3 = s2.os := by
    have := eq3
    simp only [Shared.mk.injEq] at this
    exact ⟨this.2.1, this.2.2.1, this.2.2.2.2⟩
  replace ext : Heap.ExtBut P s2.heap h3 := ext
  replace hP3 : h3.get? P = some { cls := .none, data := .fields (ps ++ more) } := hP3
  have kept : ∀ b o, b ≠ P → s2.heap.get? b = some o → h3.get? b = some o := fun b o nb e => ext b o nb e
  have neP : ∀ b ∈ fp, b ≠ P := fun b hb e => by
    have := (f2 b hb).1
    rw [e, hP] at this
    cases this
  have I3 : Inv X pins σ (upd H2 P (.tbl (ps ++ more))) { s2 with heap := h3, toks := t3 } := inv_tab (more := more) (h' := h3) (g' := s2.gens) (d' := s2.drawn) (t' := t3) I2 hP kept hP3 I2.bare
  have tb : Tabbed P H2 (upd H2 P (.tbl (ps ++ more))) := ⟨⟨_, upd_same, tri3⟩, fun b nb => upd_ne nb⟩
  obtain ⟨W, ⟨m0, w0⟩, turn⟩ := q _ tb
  have st3 : tn 0 h3 := T.keep _ _ _ st2 fun b hb o e => kept b o (neP b hb) e
  have n3 : ∀ b ∈ fp, upd H2 P (.tbl (ps ++ more)) b = none := fun b hb => by rw [upd_ne (neP b hb)]; exact (f2 b hb).1
  have f3 : ∀ b ∈ fp, FpOk X pins (upd H2 P (.tbl (ps ++ more))) b ∧ b < h3.objs.size := fun b hb => by
    obtain ⟨o, e, _⟩ := T.obj _ _ st3 b hb
    exact ⟨⟨n3 b hb, (f2 b hb).2⟩, Heap.lt_size e⟩
  generalize upd H2 P (.tbl (ps ++ more)) = H3 at *
  obtain ⟨bm, ob, b1, b2, b3, b4, b5, b6, b7, b8⟩ := TB.bm
  refine wpAny_builtinsFor (m := X.mg) (by rw [I2.ok.glob]; exact (I2.mod.glob.keeps fun b o e => I2.bk b o e).extBut ext TB.gP) b1 b2 (kept _ _ b4 (I2.bk _ _ b5)) b6 b7 b8 ?_
  intro h' hn' sb'
  have sz : h'.objs.size = h3.objs.size + 1 := by
    have := sb'.1
    rw [this, Heap.size_push]
  generalize ego : ({ cls := .type "generator", data := .fields #[.int s2.gens.size 0, .str "<genexpr>" (t3 + 1), .str (X.env.qual ++ "<genexpr>") (t3 + 1 + 1)] } : Obj) = go
  have hpush : (h'.push go).get? h'.objs.size = some go := by
    rw [← ego]
    exact Heap.get?_push_size _ rfl
  have hgen : ∀ hh : Heap, hh.get? h'.objs.size = some go → hh.IsGen h'.objs.size s2.gens.size := fun hh e => by
    rw [← ego] at e
    exact ⟨_, _, _, e, rfl, rfl, rfl⟩
  have hd : ∀ v, go.data ≠ .cell v := fun v z => by rw [← ego] at z; cases z
  have hbare : AllBare (s2.gens.push (.fresh (.compStart (.GeneratorExp elt [⟨tg, iter, [], 0⟩] scope gpos) 0 (.ref it) .none (genEnv scope (cloFrom X.env.cells scope.names []) h3.objs.size code builtinsNs X.env)))) := AllBare.push I2.bare rfl
  have hA : (genA X.A.in1.in1 tg elt iter scope gpos it (genEnv scope (cloFrom X.env.cells scope.names []) h3.objs.size code builtinsNs X.env)).frames = some (genEnv scope (cloFrom X.env.cells scope.names []) h3.objs.size code builtinsNs X.env :: X.stack) := by
    rw [show genA X.A.in1.in1 tg elt iter scope gpos it _ = _ from over_gen]
    exact Around.frames_deeper I3.ok.frames
  have hroom : Room k (genA X.A.in1.in1 tg elt iter scope gpos it (genEnv scope (cloFrom X.env.cells scope.names []) h3.objs.size code builtinsNs X.env)) := by
    rw [show genA X.A.in1.in1 tg elt iter scope gpos it _ = _ from over_gen]
    refine ⟨hr.hd, ?_, ?_⟩
    · have := hr.dp
      show X.A.depth + 1 + 3 * k + 5 < _
      omega
    · have := hr.un
      show X.A.units + 1 + 1 + 3 + 16 * k + 200 < _
      omega
  have I4 := gen_start (tk := t3 + 1 + 1 + 1) (gens' := s2.gens.push (.fresh (.compStart (.GeneratorExp elt [⟨tg, iter, [], 0⟩] scope gpos) 0 (.ref it) .none (genEnv scope (cloFrom X.env.cells scope.names []) h3.objs.size code builtinsNs X.env)))) I3 S f3 hA hr.hd hn' sb' hd hpush hbare
  have hpn : ∀ p ∈ [(h'.objs.size, go)], ∀ b ∈ fp, p.1 ≠ b := fun p hp b hb e => by
    rw [List.mem_singleton.mp hp] at e
    have := (f3 b hb).2
    rw [← e] at this
    have this : h'.objs.size < h3.objs.size := this
    omega
  refine ⟨h'.objs.size, s2.gens.size, m0 + 1, _, rfl, ⟨⟨H3, I4⟩, fun {s' H'} I' => hgen _ (I'.pin (h'.objs.size, go) (List.mem_append_left _ (List.mem_singleton.mpr rfl))).1, _, Array.getElem?_push_size .., fun s5 wk => ⟨rfl, ?_⟩⟩, fun s' b H' I' qb => ?_⟩
  · have I5 := inv_woke I4 wk
    have st5 : tn 0 s5.heap := by
      obtain ⟨g', tk, rfl, _⟩ := wk
      exact T.keep _ _ _ st3 fun b hb o e => Heap.get?_push_of_some _ (sb'.extBut b o (Nat.ne_of_lt (Heap.lt_size e)) (Heap.get?_push_of_some _ e))
    exact gen_begin T st5 (gen_loop (kp := kp) (Q := fun b H' => Q (.bl b) H') (vs := vs) T hc S.co hpn (pg _ _ _ _ _ _ _ _ _ hroom) (pe _ _ _ _ _ _ _ _ _ hroom) turn _ 0 m0 _ _ H3 (Nat.lt_succ_self _) I5 st5 n3 w0)
  · exact ⟨.bl b, H', I3.call' (ch := fp) I'.os I'.base I'.hok I'.bare fun b hb => ⟨(f3 b hb).1.2.2.2.1, (f3 b hb).1.2.1, (f3 b hb).1.2.2.2.2.1, (f3 b hb).1.2.2.2.2.2⟩, rfl, qb⟩
end
section
open PySem.Spec GxR GenW
variable {X : Cx} {c P : Addr} {elt iter tg : Expr} {scope : Scope} {p pos gpos : Pos} {N' : List Str} {sg : L2.St → L2.St} {wi : TI} {g : TG} {te : TE} {vs : List Nat} {k : Nat}
theorem pe_allG (hr : Room (k + 1) X.A) (hc : X.calm = true) (hg : Gl X "all") (hm : X.mg "all" = none) (hb : bootBuiltins "all" = some (.builtin "all")) (TB : TabB X.base X.mg c P) (hcode : X.env.code = .ref c) (S : GenN X scope N' sg) (hi : L2.PI X tg iter wi) (hs : ∀ v, genFold iter X.env v = pure v)
    (pg : ∀ (A' : Around) (s : Shared) (H : Hp) (cl : List (Str × Addr)) (C bi : Addr) (code : Value) (fp : List Addr) (pn : List (Addr × Obj)), Room k A' → L2.PG (gcx X A' N' s H (genEnv scope cl C code bi X.env) fp pn) tg g)
    (pe : ∀ (A' : Around) (s : Shared) (H : Hp) (cl : List (Str × Addr)) (C bi : Addr) (code : Value) (fp : List Addr) (pn : List (Addr × Obj)), Room k A' → L2.PE (gcx X A' N' s H (genEnv scope cl C code bi X.env) fp pn) elt te) :
    L2.PE X (.Call (.Name "all" p) [.GeneratorExp elt [⟨tg, iter, [], 0⟩] scope gpos] [] pos) (tQuant true P wi sg g te vs) := by
  refine ⟨fun pins s σ H Q I h => ?_⟩
  refine wpAny_Call_Name_kw (ld_blt I hg hm hb (PyProof.Rows.callWith_builtin1 ?_ rfl rfl))
  show wpAny _ _ (spliced ((false, eval (.GeneratorExp elt [⟨tg, iter, [], 0⟩] scope gpos) X.env) :: backTo pos (starEach [] X.env))) _ _ s
  refine Calls.spliced_cons (thn (gen_made hr hc TB hcode S hi hs pg pe I h) fun gv z ⟨a, kk, n, G, ev, sl, fin⟩ => Calls.spliced_nil ?_)
  subst ev
  refine call_function_tree F.kind_all F.plain_all F.entry_all (F.args_all1 _) ?_
  unfold Builtin.«all»
  refine wpAny_bind (m := oneArg "all" _) (wpAny_pure ?_)
  obtain ⟨H0, I0⟩ := sl.inv
  refine wpAny_bind (wpAny_pyIter_gen (sl.is I0) ?_)
  refine wpAny_pure ⟨plainId_quiet F.plain_all_loop _, codeAny_mono (all_loop hr.hd (by have := hr.dp; omega) n z sl) fun r s' ⟨b, H', er, I', q⟩ => ?_⟩
  subst er
  exact fin s' b H' I' q
theorem pe_anyG (hr : Room (k + 1) X.A) (hc : X.calm = true) (hg : Gl X "any") (hm : X.mg "any" = none) (hb : bootBuiltins "any" = some (.builtin "any")) (TB : TabB X.base X.mg c P) (hcode : X.env.code = .ref c) (S : GenN X scope N' sg) (hi : L2.PI X tg iter wi) (hs : ∀ v, genFold iter X.env v = pure v)
    (pg : ∀ (A' : Around) (s : Shared) (H : Hp) (cl : List (Str × Addr)) (C bi : Addr) (code : Value) (fp : List Addr) (pn : List (Addr × Obj)), Room k A' → L2.PG (gcx X A' N' s H (genEnv scope cl C code bi X.env) fp pn) tg g)
    (pe : ∀ (A' : Around) (s : Shared) (H : Hp) (cl : List (Str × Addr)) (C bi : Addr) (code : Value) (fp : List Addr) (pn : List (Addr × Obj)), Room k A' → L2.PE (gcx X A' N' s H (genEnv scope cl C code bi X.env) fp pn) elt te) :
    L2.PE X (.Call (.Name "any" p) [.GeneratorExp elt [⟨tg, iter, [], 0⟩] scope gpos] [] pos) (tQuant false P wi sg g te vs) := by
  refine ⟨fun pins s σ H Q I h => ?_⟩
  refine wpAny_Call_Name_kw (ld_blt I hg hm hb (PyProof.Rows.callWith_builtin1 ?_ rfl rfl))
  show wpAny _ _ (spliced ((false, eval (.GeneratorExp elt [⟨tg, iter, [], 0⟩] scope gpos) X.env) :: backTo pos (starEach [] X.env))) _ _ s
  refine Calls.spliced_cons (thn (gen_made hr hc TB hcode S hi hs pg pe I h) fun gv z ⟨a, kk, n, G, ev, sl, fin⟩ => Calls.spliced_nil ?_)
  subst ev
  refine call_function_tree F.kind_any F.plain_any F.entry_any (F.args_any1 _) ?_
  unfold Builtin.«any»
  refine wpAny_bind (m := oneArg "any" _) (wpAny_pure ?_)
  obtain ⟨H0, I0⟩ := sl.inv
  refine wpAny_bind (wpAny_pyIter_gen (sl.is I0) ?_)
  refine wpAny_pure ⟨plainId_quiet F.plain_any_loop _, codeAny_mono (any_loop hr.hd (by have := hr.dp; omega) n z sl) fun r s' ⟨b, H', er, I', q⟩ => ?_⟩
  subst er
  exact fin s' b H' I' q
end
section
theorem genN_none {X : Cx} {scope : Scope} {N' : List Str} {n : Nat} (h1 : scope.kind = .function) (h2 : scope.isCoroutine = false) (h3 : ∀ y ∈ scope.names, y.2 ≠ .cell) (h4 : scope.names.lookup (".0" : Str) = some NameKind.local) (h5 : ∀ y ∈ scope.names, y.2 ≠ .free) (h6 : n = N'.length := by rfl) :
    GenN X scope N' (fun _ => List.replicate n none) :=
  ⟨h1, h2, h3, h4, fun y hy z => absurd z (h5 y hy), fun _ => by rw [List.length_replicate]; exact h6, fun σ i x v _ e => by
    rw [List.getElem?_replicate] at e
    split at e <;> cases e⟩
theorem genN_one {X : Cx} {scope : Scope} {ts : List Str} {f : Str} {j : Nat} (h1 : scope.kind = .function) (h2 : scope.isCoroutine = false) (h3 : ∀ y ∈ scope.names, y.2 ≠ .cell) (h4 : scope.names.lookup (".0" : Str) = some NameKind.local) (h5 : ∀ y ∈ scope.names, y.2 = .free → y.1 = f)
    (h6 : scope.names.lookup f = some .free) (h7 : X.N[j]? = some f) (h8 : X.env.scope.names.lookup f = some .cell ∨ X.env.scope.names.lookup f = some .free) :
    GenN X scope (ts ++ [f]) (fun σ => List.replicate ts.length none ++ [σ.getD j none]) :=
  ⟨h1, h2, h3, h4, fun y hy z => by rw [h5 y hy z]; exact h8, fun _ => by rw [List.length_append, List.length_append, List.length_replicate]; rfl, fun σ i x v e1 e2 => by
    by_cases h : i < ts.length
    · rw [List.getElem?_append_left (by rw [List.length_replicate]; exact h), List.getElem?_replicate] at e2
      split at e2 <;> cases e2
    · rw [List.getElem?_append_right (by omega)] at e1
      rw [List.getElem?_append_right (by rw [List.length_replicate]; omega), List.length_replicate] at e2
      cases hz : i - ts.length with
      | zero =>
        rw [hz] at e1 e2
        obtain rfl : f = x := Option.some.inj e1
        have e2 : σ.getD j none = some v := Option.some.inj e2
        refine ⟨h6, j, h7, ?_⟩
        rw [List.getD_eq_getElem?_getD] at e2
        cases hj : σ[j]? with
        | none => rw [hj] at e2; cases e2
        | some z => rw [hj] at e2; rw [show z = some v from e2]
      | succ z => rw [hz] at e1; cases e1⟩
end
def comingN (bs : List BR) (k : Nat) : List Nat := (List.range bs.length).filter fun i => decide (bs[i]?.map BR.to = some k)
section
variable {P : Program} {w : World} {K : PySem.W.Frag} {mg : Str → Option Value} {base : Heap}
def sp_comings (K : PySem.W.Frag) : Sp := fun vs H Q _ => ∃ (r : Addr) (hs : List HR) (bs : List BR) (k : Nat), vs = [.ref r, nV k] ∧ RoomAt H r hs bs ∧ bs.length ≤ 400 ∧ ∀ (p : Addr) (H' : Hp), H p = none → H' p = some (.lst ((comingN bs k).map nV)) → Same H H' → Q (.ref p) H'
theorem ok_comings {f : Addr} {fd : FuncData} (F : Fun K "comings" "comings" s_comings f fd) (T : Top K mg) : FnOk P w K mg base CX0 1 f fd ["room", "hand"] (sp_comings K) := by
  refine F.ok sc_comings (fun vs H Q E h => ?_) (fun cdv A outer s H vs Q E hr h => ?_)
  · obtain ⟨r, hs, bs, k, rfl, _⟩ := h
    rfl
  obtain ⟨r, hs, bs, k, rfl, hR, lb, q⟩ := h
  obtain ⟨ha, ba, hv, bv, er, eh, eb, alh, alb⟩ := hR.ex
  have lbv := alb.length
  refine ⟨_, (pss_one (ps_ret (pe_lc (own := [("number", 2), ("belt", 3)]) (g := gTup K 2 (gCons (gName 2) (gCons (gName 3) gNil))) (by rfl) sc_comings.nd (pi_enumT K rfl (by rfl) T.m_enumerate (pa_cons (pe_ix (ix_tupK K rfl) (pv 0) pe_int (fun _ _ => rfl)) pa_nil)) (blkOk_by (own := [("number", 2), ("belt", 3)]) (N := N_comings) (sc := defScope s_comings) (by decide +kernel)) (fun _ _ _ _ _ => (pg_tupK K rfl rfl (pgs_cons (pg_name (i := 2) sc_comings.nd rfl (Or.inl rfl)) (pgs_cons (pg_name (i := 3) sc_comings.nd rfl (Or.inl rfl)) pgs_nil)))) (fun _ _ _ _ _ => pts_one (pt_cmpR op_eq (pe_ix (ix_tupK K rfl) (pv 3) pe_int (fun _ _ => rfl)) (pv 1) (nomark _))) (fun _ _ _ _ _ => (pv 2))))), ?_⟩
  refine ⟨_, rfl, r, _, _, _, rfl, rfl, SqT.of er, atI_nat (j := 1) rfl, ba, bv, rfl, SqT.of eb, fun D nD => lc_it (J := IteT K ba bv) (n := bv.length) (fun i H5 => H5 D = some (.lst (((List.range i).filter fun j => decide (bs[j]?.map BR.to = some k)).map nV)) ∧ Same H H5) ⟨upd_same, same_new nD⟩ ?_ ?_ ?_ ?_⟩
  · rintro i H5 hi ⟨hD, s5⟩
    exact ⟨SqT.of (s5 _ _ eb), hi⟩
  · rintro H5 ⟨hD, s5⟩
    exact ⟨SqT.of (s5 _ _ eb), rfl⟩
  · rintro i x H5 H6 hi ⟨hD, s5⟩ ⟨t, y, rfl, nt, rfl, ey⟩
    obtain ⟨b, eb2, ⟨t2, g, rfl, e1, e2⟩⟩ := alb.getL ey
    have s6 := s5.trans (same_new (o := .tup [V.int ((i : Nat) : Int), V.ref t2]) nt)
    have hD6 := same_new (o := .tup [V.int ((i : Nat) : Int), V.ref t2]) nt _ _ hD
    have few := filt_len (p := fun j => decide (bs[j]?.map BR.to = some k)) i
    refine ⟨t, _, rfl, SqT.of upd_same, rfl, _, _, rfl, _, _, rfl, rfl, rfl, _, rfl, t2, _, _, _, rfl, rfl, SqT.of (s6 _ _ e1), atI_nat (j := 1) rfl, _, rfl, rfl, _, rfl, if_bl (fun c => ?_) (fun c => ?_)⟩
    · have c : b.to = k := by have := V.int.inj (of_decide_eq_true c); omega
      refine ⟨_, rfl, _, hD6, by rw [List.length_map]; exact small1000 (by omega), ?_, Same.own s6 nD⟩
      rw [upd_same, filt_succ, if_pos (decide_eq_true (by rw [eb2, ← c]; rfl)), List.map_append]
      rfl
    · have c : ¬ b.to = k := fun z => of_decide_eq_false c (by rw [z])
      refine ⟨?_, s6⟩
      rw [filt_succ, if_neg fun z => c (by have := of_decide_eq_true z; rw [eb2] at this; exact Option.some.inj this), List.append_nil]
      exact hD6
  · rintro H5 ⟨hD, s5⟩
    refine q D H5 nD ?_ s5
    rw [hD, lbv]
    rfl
end
def goingN (bs : List BR) (k : Nat) : List Nat := (List.range bs.length).filter fun i => decide (bs[i]?.map BR.one = some k)
section
variable {P : Program} {w : World} {K : PySem.W.Frag} {mg : Str → Option Value} {base : Heap}
def sp_goings (K : PySem.W.Frag) : Sp := fun vs H Q _ => ∃ (r : Addr) (hs : List HR) (bs : List BR) (k : Nat), vs = [.ref r, nV k] ∧ RoomAt H r hs bs ∧ bs.length ≤ 400 ∧ ∀ (p : Addr) (H' : Hp), H p = none → H' p = some (.lst ((goingN bs k).map nV)) → Same H H' → Q (.ref p) H'
theorem ok_goings {f : Addr} {fd : FuncData} (F : Fun K "goings" "goings" s_goings f fd) (T : Top K mg) : FnOk P w K mg base CX0 1 f fd ["room", "hand"] (sp_goings K) := by
  refine F.ok sc_goings (fun vs H Q E h => ?_) (fun cdv A outer s H vs Q E hr h => ?_)
  · obtain ⟨r, hs, bs, k, rfl, _⟩ := h
    rfl
  obtain ⟨r, hs, bs, k, rfl, hR, lb, q⟩ := h
  obtain ⟨ha, ba, hv, bv, er, eh, eb, alh, alb⟩ := hR.ex
  have lbv := alb.length
  refine ⟨_, (pss_one (ps_ret (pe_lc (own := [("number", 2), ("belt", 3)]) (g := gTup K 2 (gCons (gName 2) (gCons (gName 3) gNil))) (by rfl) sc_goings.nd (pi_enumT K rfl (by rfl) T.m_enumerate (pa_cons (pe_ix (ix_tupK K rfl) (pv 0) pe_int (fun _ _ => rfl)) pa_nil)) (blkOk_by (own := [("number", 2), ("belt", 3)]) (N := N_goings) (sc := defScope s_goings) (by decide +kernel)) (fun _ _ _ _ _ => (pg_tupK K rfl rfl (pgs_cons (pg_name (i := 2) sc_goings.nd rfl (Or.inl rfl)) (pgs_cons (pg_name (i := 3) sc_goings.nd rfl (Or.inl rfl)) pgs_nil)))) (fun _ _ _ _ _ => pts_one (pt_cmpR op_eq (pe_ix (ix_tupK K rfl) (pv 3) pe_int (fun _ _ => rfl)) (pv 1) (nomark _))) (fun _ _ _ _ _ => (pv 2))))), ?_⟩
  refine ⟨_, rfl, r, _, _, _, rfl, rfl, SqT.of er, atI_nat (j := 1) rfl, ba, bv, rfl, SqT.of eb, fun D nD => lc_it (J := IteT K ba bv) (n := bv.length) (fun i H5 => H5 D = some (.lst (((List.range i).filter fun j => decide (bs[j]?.map BR.one = some k)).map nV)) ∧ Same H H5) ⟨upd_same, same_new nD⟩ ?_ ?_ ?_ ?_⟩
  · rintro i H5 hi ⟨hD, s5⟩
    exact ⟨SqT.of (s5 _ _ eb), hi⟩
  · rintro H5 ⟨hD, s5⟩
    exact ⟨SqT.of (s5 _ _ eb), rfl⟩
  · rintro i x H5 H6 hi ⟨hD, s5⟩ ⟨t, y, rfl, nt, rfl, ey⟩
    obtain ⟨b, eb2, ⟨t2, g, rfl, e1, e2⟩⟩ := alb.getL ey
    have s6 := s5.trans (same_new (o := .tup [V.int ((i : Nat) : Int), V.ref t2]) nt)
    have hD6 := same_new (o := .tup [V.int ((i : Nat) : Int), V.ref t2]) nt _ _ hD
    have few := filt_len (p := fun j => decide (bs[j]?.map BR.one = some k)) i
    refine ⟨t, _, rfl, SqT.of upd_same, rfl, _, _, rfl, _, _, rfl, rfl, rfl, _, rfl, t2, _, _, _, rfl, rfl, SqT.of (s6 _ _ e1), atI_nat (j := 0) rfl, _, rfl, rfl, _, rfl, if_bl (fun c => ?_) (fun c => ?_)⟩
    · have c : b.one = k := by have := V.int.inj (of_decide_eq_true c); omega
      refine ⟨_, rfl, _, hD6, by rw [List.length_map]; exact small1000 (by omega), ?_, Same.own s6 nD⟩
      rw [upd_same, filt_succ, if_pos (decide_eq_true (by rw [eb2, ← c]; rfl)), List.map_append]
      rfl
    · have c : ¬ b.one = k := fun z => of_decide_eq_false c (by rw [z])
      refine ⟨?_, s6⟩
      rw [filt_succ, if_neg fun z => c (by have := of_decide_eq_true z; rw [eb2] at this; exact Option.some.inj this), List.append_nil]
      exact hD6
  · rintro H5 ⟨hD, s5⟩
    refine q D H5 nD ?_ s5
    rw [hD, lbv]
    rfl
end

theorem tabbed_ext {P : Addr} {H H' : Hp} (h : GxR.TabG H P) (t : GxR.Tabbed P H H') : LamX.ExtN H H' := fun b o e n => by
  obtain ⟨ps, ep, _⟩ := h
  rw [t.2 b (fun z => by rw [z, ep] at e; exact n ps (Option.some.inj e).symm)]
  exact e
theorem tk_ext {H H' : Hp} (e : LamX.ExtN H H') : TK H H' := fun a xs h => e a _ h (fun ps z => nomatch z)
theorem ext_same {H H' : Hp} (s : Same H H') : LamX.ExtN H H' := fun a o h _ => s a o h
/-- the code object of prices_hold -/
class TabP (K : PySem.W.Frag) (mg : Str → Option Value) (base : Heap) (cP : outParam Addr) (PT : outParam Addr) : Prop where
  tb : GxR.TabB base mg cP PT
  cd : ∀ (f : Addr) (fd : FuncData), Fun K "prices_hold" "prices_hold" s_prices_hold f fd → mg "prices_hold" = some (.ref f) → fd.code = .ref cP
theorem ok_code {P : Program} {w : World} {K : PySem.W.Frag} {mg : Str → Option Value} {base : Heap} {x qual : Str} {st : Stmt} {f c : Addr} {fd : FuncData} {N ps : List Str} {k : Nat} {sp : Sp} (F : Fun K x qual st f fd) (hc : fd.code = .ref c) (S : FnScope N ps (defScope st)) (len : ∀ vs H Q E, sp vs H Q E → vs.length = ps.length)
    (hbody : ∀ (A : Around) (outer : List Env) (s : Shared) (H : Hp) (vs : List V) (Q : VK) (E : XK), Room k (A.deeper (envOfC qual (defScope st) s.heap.objs.size f (.ref c))) → sp vs H Q E →
      ∃ t, PSs (cxOf CX0 P w K mg base N qual (defScope st) f (.ref c) A outer s H E).nox (defBody st) t ∧ t { nx := fun _ H' => Q .non H', rt := Q } (L2.start N vs) H) : FnOk P w K mg base CX0 (k + 1) f fd ps sp := by
  obtain ⟨kl, kd, kV, dc, pm, an, cv, ct, ks, rfl, look, cin⟩ := F.ex
  obtain rfl : cv = .ref c := hc
  refine fn_of look cin S len fun A outer s H vs Q E hr now => ?_
  obtain ⟨t, h, q⟩ := hbody A outer s H vs Q E hr now
  exact ⟨t, h.nox, q⟩
theorem qt_tup {K : PySem.W.Frag} {a : Addr} {xs : List V} {g : TG} {te : TE} {vs : List Nat} {sgσ : L2.St} {kp : Bool} {H2 : Hp} {Q : VK} (Pv : Nat → Hp → Prop) (h0 : Pv 0 H2) (hl : ∀ i H, i ≤ xs.length → Pv i H → SqT K H a xs)
    (hs : ∀ i x H, xs[i]? = some x → Pv i H → g x sgσ H fun σ2 H3 => wipe σ2 vs = sgσ ∧ te σ2 H3 fun y H4 => ∃ b, y = .bl b ∧ (b ≠ kp → Q (.bl b) H4) ∧ (b = kp → Pv (i + 1) H4)) (hd : ∀ H, Pv xs.length H → Q (.bl kp) H) :
    ∃ W : Nat → Nat → Hp → Prop, (∃ m, W 0 m H2) ∧ ∀ i m H, W i m H →
      ((Itt K a).stop i H ∧ Q (.bl kp) H) ∨ ((Itt K a).go i H ∧ ∃ Nx : Hp → Prop, (∀ H', Nx H' → ∃ m', m' < m ∧ W (i + 1) m' H') ∧ ∀ x H', (Itt K a).yld i H x H' → g x sgσ H' fun σ2 H3 => wipe σ2 vs = sgσ ∧ te σ2 H3 fun y H4 => ∃ b, y = .bl b ∧ (b ≠ kp → Q (.bl b) H4) ∧ (b = kp → Nx H4)) := by
  refine ⟨fun i m H => i + m = xs.length ∧ Pv i H, ⟨xs.length, Nat.zero_add _, h0⟩, fun i m H ⟨total, here⟩ => ?_⟩
  have seen := hl i H (by omega) here
  cases m with
  | zero =>
    have : i = xs.length := by omega
    subst this
    exact .inl ⟨⟨xs, seen, Nat.le_refl _⟩, hd H here⟩
  | succ m =>
    have lt : i < xs.length := by omega
    refine .inr ⟨⟨xs, xs[i], seen, List.getElem?_eq_getElem lt⟩, Pv (i + 1), fun H' p' => ⟨m, Nat.lt_succ_self m, by omega, p'⟩, fun x H' y => ?_⟩
    obtain ⟨rfl, y⟩ := y
    exact hs i x _ (y xs seen) here
theorem tq_tup {K : PySem.W.Frag} {P : Addr} {kp : Bool} {g : TG} {te : TE} {vs : List Nat} {sg : L2.St → L2.St} {σ : L2.St} {H : Hp} {Q : VK} {p : Addr} {xs : List V} {n : Nat} (hv : σ[n]? = some (some (V.ref p))) (sq : SqT K H p xs) (tg : GxR.TabG H P)
    (rest : ∀ H2, GxR.Tabbed P H H2 → ∃ Pv : Nat → Hp → Prop, Pv 0 H2 ∧ (∀ i H, i ≤ xs.length → Pv i H → SqT K H p xs) ∧ (∀ i x H, xs[i]? = some x → Pv i H → g x (sg σ) H fun σ2 H3 => wipe σ2 vs = sg σ ∧ te σ2 H3 fun y H4 => ∃ b, y = .bl b ∧ (b ≠ kp → Q (.bl b) H4) ∧ (b = kp → Pv (i + 1) H4)) ∧ ∀ H, Pv xs.length H → Q (.bl kp) H) :
    tQuant kp P (iTup K (tVar n)) sg g te vs σ H Q := by
  refine ⟨_, hv, p, rfl, ⟨_, sq⟩, tg, fun H2 t2 => ?_⟩
  obtain ⟨Pv, h0, hl, hs, hd⟩ := rest H2 t2
  exact qt_tup Pv h0 hl hs hd
theorem one_eqv (h : HR) (z : Str) : PyData.eqv (.tuple [.str z]) (.tuple (ruleD h)) = (decide (h.wd = z) && h.no.isNone) := by
  obtain ⟨wd, no, mom⟩ := h
  have e : (z == wd) = decide (wd = z) := by
    by_cases k : wd = z
    · rw [k, decide_eq_true rfl]; exact beq_self_eq_true z
    · rw [decide_eq_false k]; exact beq_eq_false_iff_ne.mpr fun y => k y.symm
  cases no with
  | none => show (z == wd && true) = (decide (wd = z) && true); rw [e]
  | some n => show (z == wd && false) = (decide (wd = z) && false); rw [Bool.and_false, Bool.and_false]
theorem cnt_filt {f : BR → Nat} (bs : List BR) (k : Nat) : ((List.range bs.length).filter fun i => decide (bs[i]?.map f = some k)).length = (bs.filter fun b => decide (f b = k)).length := by
  have main : ∀ l : List BR, ((List.range l.length).filter fun i => decide (l[i]?.map f = some k)).length = (l.filter fun b => decide (f b = k)).length → ∀ b, ((List.range (l ++ [b]).length).filter fun i => decide ((l ++ [b])[i]?.map f = some k)).length = ((l ++ [b]).filter fun b => decide (f b = k)).length := fun l ih b => by
    rw [List.length_append, show l.length + [b].length = l.length + 1 from rfl, List.range_succ, List.filter_append, List.filter_append, List.length_append, List.length_append]
    congr 1
    · rw [← ih]
      congr 1
      refine List.filter_congr fun i hi => ?_
      rw [List.getElem?_append_left (List.mem_range.mp hi)]
    · rw [List.filter_cons, List.filter_cons, List.getElem?_append_right (Nat.le_refl _), Nat.sub_self]
      by_cases h : f b = k
      · rw [if_pos (decide_eq_true h), if_pos (decide_eq_true (by rw [← h]; rfl))]
        rfl
      · rw [if_neg (show ¬ decide (Option.map f [b][0]? = some k) = true from fun z => h (Option.some.inj (of_decide_eq_true z))), if_neg (show ¬ decide (f b = k) = true from fun z => h (of_decide_eq_true z))]
        rfl
  have : ∀ r : List BR, ((List.range r.reverse.length).filter fun i => decide (r.reverse[i]?.map f = some k)).length = (r.reverse.filter fun b => decide (f b = k)).length := by
    intro r
    induction r with
    | nil => rfl
    | cons x r ih => rw [List.reverse_cons]; exact main _ ih x
  have := this bs.reverse
  rwa [List.reverse_reverse] at this
theorem lfB_count (bs : List BR) (k : Nat) : lfB bs k = (((goingN bs k).length : Nat) : Int) - (((comingN bs k).length : Nat) : Int) := by
  unfold goingN comingN
  rw [cnt_filt, cnt_filt]
  unfold lfB
  induction bs with
  | nil => rfl
  | cons b bs ih =>
    rw [List.map_cons, List.sum_cons, ih, List.filter_cons, List.filter_cons]
    unfold one1
    by_cases h1 : b.one = k
    · rw [if_pos h1.symm, if_pos (decide_eq_true h1), List.length_cons]
      by_cases h2 : b.to = k
      · rw [if_pos h2.symm, if_pos (decide_eq_true h2), List.length_cons]; omega
      · rw [if_neg (Ne.symm h2), if_neg (fun z => h2 (of_decide_eq_true z))]; omega
    · rw [if_neg (Ne.symm h1), if_neg (fun z => h1 (of_decide_eq_true z))]
      by_cases h2 : b.to = k
      · rw [if_pos h2.symm, if_pos (decide_eq_true h2), List.length_cons]; omega
      · rw [if_neg (Ne.symm h2), if_neg (fun z => h2 (of_decide_eq_true z))]; omega
section
variable {P : Program} {w : World} {K : PySem.W.Frag} {mg : Str → Option Value} {base : Heap}
def sp_is_price (K : PySem.W.Frag) : Sp := fun vs H Q _ => ∃ (r t : Addr) (hs : List HR) (bs : List BR) (k : Nat) (ns : List Nat) (m : Int), vs = [.ref r, .ref t, .int m] ∧ RoomAt H r hs bs ∧ PairAt H t k ns ∧ k < hs.length ∧ (∀ n ∈ ns, n < bs.length) ∧ ∀ H', Same H H' → Q (.bl (decide (okP bs ((k, ns), m)))) H'
theorem ok_is_price {f : Addr} {fd : FuncData} (F : Fun K "is_price" "is_price" s_is_price f fd) (T : Top K mg) : FnOk P w K mg base CX0 2 f fd ["room", "pair", "many"] (sp_is_price K) := by
  obtain ⟨f_way_end, fd_way_end, F_way_end, b_way_end, m_way_end⟩ := T.d_way_end
  have G_way_end := ok_way_end (P := P) (w := w) (base := base) F_way_end T
  refine F.ok sc_is_price (fun vs H Q E h => ?_) (fun cdv A outer s H vs Q E hr h => ?_)
  · obtain ⟨r, t, hs, bs, k, ns, m, rfl, _⟩ := h
    rfl
  obtain ⟨r, t, hs, bs, k, ns, m, rfl, hR, hp, hk, hn, q⟩ := h
  obtain ⟨g, et, eg⟩ := id hp
  have go : ∀ (b : Bool) (H' : Hp), (b = true ↔ okP bs ((k, ns), m)) → Same H H' → Q (.bl b) H' := fun b H' e s => by
    have := q H' s
    rwa [← Bool.eq_iff_iff.mpr (e.trans decide_eq_true_iff.symm)] at this
  refine ⟨_, (pss_one (ps_ret (pe_and (pe_cmpR op_ge (pv 2) pe_int (nomark _)) (pe_and (pe_cmpR op_gt (pe_callB (call_len_seqK K rfl) (by rfl) T.m_len (by decide +kernel) (pa_cons (pe_ix (ix_tupK K rfl) (pv 1) pe_int (fun _ _ => rfl)) pa_nil)) pe_int (nomark _)) (pe_one (pe_cmpR op_notN (pe_call G_way_end (hr.mono (by decide)) (by rfl) m_way_end F_way_end.kp b_way_end .nil pass0 (pa_cons (pv 0) (pa_cons (pv 1) pa_nil))) pe_non (nomark _))))))), ?_⟩
  refine ⟨_, rfl, _, _, rfl, rfl, _, rfl, if_bl (fun c1 => ?_) (fun c1 => go false H ⟨(fun z => nomatch z), fun z => absurd z.1 (fun y => of_decide_eq_false c1 y)⟩ (Same.refl _))⟩
  refine ⟨_, rfl, t, _, _, _, rfl, rfl, SqT.of et, atI_nat (j := 1) rfl, g, _, rfl, .inr (SqT.of eg), _, _, rfl, rfl, _, rfl, if_bl (fun c2 => ?_) (fun c2 => go false H ⟨(fun z => nomatch z), fun z => ?_⟩ (Same.refl _))⟩
  · refine ⟨_, rfl, _, rfl, r, t, hs, bs, k, ns, rfl, hR, hp, hk, hn, fun H1 s1 => ⟨rfl, go _ H1 ?_ s1⟩⟩
    have c2 := of_decide_eq_true c2
    rw [List.length_map] at c2
    have nn : ns ≠ [] := fun z => by rw [z] at c2; exact absurd c2 (by decide)
    have c1 := of_decide_eq_true c1
    cases ee : wayEnd bs k ns with
    | none =>
      refine ⟨fun z => absurd z (by decide), fun z => ?_⟩
      have := z.2.2
      unfold endO at this
      rw [ee] at this
      cases this
    | some e =>
      refine ⟨fun _ => ⟨c1, nn, ?_⟩, fun _ => rfl⟩
      unfold endO
      rw [ee]
      rfl
  · have c2 := of_decide_eq_false c2
    rw [List.length_map] at c2
    have := z.2.1
    have p : 0 < ns.length := List.length_pos_iff.mpr this
    exact (c2 (show (0 : Int) < ((ns.length : Nat) : Int) by omega)).elim
def sp_they_bind (K : PySem.W.Frag) : Sp := fun vs H Q _ => ∃ (r pp : Addr) (hs : List HR) (bs : List BR) (zv : List V) (ps : List Pc), vs = [.ref r, .ref pp] ∧ RoomAt H r hs bs ∧ RoomOk hs bs ∧ H pp = some (.tup zv) ∧ All2 (PcAt H) zv ps ∧ (∀ x ∈ ps, WkOk hs bs x.1 ∧ (endO bs x.1).isSome = true) ∧ ∀ H', Same H H' → Q (.bl (bindB hs bs ps)) H'
theorem ok_they_bind {f : Addr} {fd : FuncData} (F : Fun K "they_bind" "they_bind" s_they_bind f fd) (T : Top K mg) : FnOk P w K mg base CX0 2 f fd ["room", "prices"] (sp_they_bind K) := by
  obtain ⟨f_way_end, fd_way_end, F_way_end, b_way_end, m_way_end⟩ := T.d_way_end
  have G_way_end := ok_way_end (P := P) (w := w) (base := base) F_way_end T
  obtain ⟨f_goings, fd_goings, F_goings, b_goings, m_goings⟩ := T.d_goings
  have G_goings := ok_goings (P := P) (w := w) (base := base) F_goings T
  obtain ⟨f_comings, fd_comings, F_comings, b_comings, m_comings⟩ := T.d_comings
  have G_comings := ok_comings (P := P) (w := w) (base := base) F_comings T
  refine F.ok sc_they_bind (fun vs H Q E h => ?_) (fun cdv A outer s H vs Q E hr h => ?_)
  · obtain ⟨r, pp, hs, bs, zv, ps, rfl, _⟩ := h
    rfl
  obtain ⟨aI, mI, hI⟩ := T.x_in
  obtain ⟨aO, mO, hO⟩ := T.x_out
  obtain ⟨r, pp, hs, bs, zv, ps, rfl, hR, ok, hpp, alp, wok, q⟩ := h
  obtain ⟨ha, ba, hv, bv, er, eh, eb, alh, alb⟩ := id hR.ex
  have lbv := alb.length
  have lhv := alh.length
  have many := ok.many
  have lh := ok.hands
  have lzv := alp.length
  have hto : ∀ b ∈ bs, b.to < hs.length := fun b hb => (ok.ends b hb).2
  refine ⟨_, (pss_cons (ps_set (i := 2) sc_they_bind.nd rfl (Or.inl rfl) (pe_op op_rep (pe_lst (pa_cons pe_int pa_nil)) (pe_callB (call_len_seqK K rfl) (by rfl) T.m_len (by decide +kernel) (pa_cons (pe_ix (ix_tupK K rfl) (pv 0) pe_int (fun _ _ => rfl)) pa_nil))))
      (pss_cons (ps_for PassesOwn.never rfl (pi_tupK K rfl (pv 1)) (pg_tupK K rfl rfl (pgs_cons (pg_name (i := 3) sc_they_bind.nd rfl (Or.inl rfl)) (pgs_cons (pg_name (i := 4) sc_they_bind.nd rfl (Or.inl rfl)) pgs_nil)))
        (pss_cons (ps_augS (pv 2) (pe_ix (ix_tupK K rfl) (pv 3) pe_int (fun _ _ => rfl)) (get_listK K rfl) (pv 4) ip_add set_list)
      (pss_one (ps_augS (pv 2) (pe_call G_way_end (hr.mono (by decide)) (by rfl) m_way_end F_way_end.kp b_way_end .nil pass0 (pa_cons (pv 0) (pa_cons (pv 3) pa_nil))) (get_listK K rfl) (pv 4) ip_sub set_list))))
      (pss_cons (ps_for PassesOwn.never rfl (pi_enumT K rfl (by rfl) T.m_enumerate (pa_cons (pe_ix (ix_tupK K rfl) (pv 0) pe_int (fun _ _ => rfl)) pa_nil)) (pg_tupK K rfl rfl (pgs_cons (pg_name (i := 5) sc_they_bind.nd rfl (Or.inl rfl)) (pgs_cons (pg_tupK K rfl rfl (pgs_cons (pg_name (i := 6) sc_they_bind.nd rfl (Or.inl rfl)) (pgs_cons (pg_name (i := 7) sc_they_bind.nd rfl (Or.inl rfl)) pgs_nil))) pgs_nil)))
        (pss_cons (ps_set (i := 8) sc_they_bind.nd rfl (Or.inl rfl) (pe_op op_sub (pe_callB (call_len_seqK K rfl) (by rfl) T.m_len (by decide +kernel) (pa_cons (pe_call G_goings (hr.mono (by decide)) (by rfl) m_goings F_goings.kp b_goings .nil pass0 (pa_cons (pv 0) (pa_cons (pv 5) pa_nil))) pa_nil)) (pe_callB (call_len_seqK K rfl) (by rfl) T.m_len (by decide +kernel) (pa_cons (pe_call G_comings (hr.mono (by decide)) (by rfl) m_comings F_comings.kp b_comings .nil pass0 (pa_cons (pv 0) (pa_cons (pv 5) pa_nil))) pa_nil))))
      (pss_one (ps_if (PW.pt (pw_and (pt_cmpR (op_notInDTK K rfl (hu65 hr)) (pv 6) (pe_tup (pa_cons (pe_glob (v := .ref aI) (by rfl) mI rfl) (pa_cons (pe_glob (v := .ref aO) (by rfl) mO rfl) pa_nil))) (by with_unfolding_all rfl)) (pw_and1 (pt_cmpR op_ne (pe_ix (ix_listK K rfl) (pv 2) (pv 5) (fun _ _ => rfl)) (pv 8) (nomark _))))) (pss_one (ps_ret pe_bl)) pss_nil))))
      (pss_one (ps_ret pe_bl))))), ?_⟩
  refine ⟨(by show 1 ≤ sizeLine; decide), fun p1 np1 => ?_⟩
  have u1 := same_new (o := .lst [V.int 0]) np1
  refine ⟨_, rfl, r, _, _, _, rfl, rfl, SqT.of (u1 _ _ er), atI_nat (j := 0) rfl, ha, _, rfl, .inr (SqT.of (u1 _ _ eh)), p1, _, _, rfl, rfl, upd_same, by omega, by omega, ?_, fun D nD => ?_⟩
  · show 1 * (((hv.length : Nat) : Int)).toNat ≤ sizeLine
    have := small1000 (n := hv.length) (by omega)
    rw [Int.toNat_natCast]
    omega
  have nDH : H D = none := same_none u1 nD
  have u2 := u1.trans (same_new (o := .lst (List.replicate (((hv.length : Nat) : Int)).toNat [V.int 0]).flatten) nD)
  have hD : (upd (upd H p1 (.lst [V.int 0])) D (.lst (List.replicate (((hv.length : Nat) : Int)).toNat [V.int 0]).flatten)) D = some (.lst (levL hs.length fun k => - lfP bs (ps.take 0) k)) := by
    rw [upd_same, Int.toNat_natCast, lhv]
    have e1 : (List.replicate hs.length [V.int 0]).flatten = List.replicate hs.length (V.int 0) := by simp
    rw [e1, rep_lev]
    rfl
  generalize upd (upd H p1 (.lst [V.int 0])) D (.lst (List.replicate (((hv.length : Nat) : Int)).toNat [V.int 0]).flatten) = H1 at u2 hD ⊢
  refine ⟨_, rfl, pp, rfl, ⟨_, SqT.of (u2 _ _ hpp)⟩, for_tup (K := K) (a := pp) (xs := zv) (fun i σ H2 => ∃ (f : Nat → Int) (v3 v4 : Option V), σ = [some (.ref r), some (.ref pp), some (.ref D), v3, v4, none, none, none, none] ∧ H2 D = some (.lst (levL hs.length f)) ∧ (∀ k, k < hs.length → f k = - lfP bs (ps.take i) k) ∧ Same H H2) ⟨_, none, none, rfl, hD, fun _ _ => rfl, u2⟩ (fun i σ H2 _ ⟨_, _, _, _, _, _, s2⟩ => SqT.of (s2 _ _ hpp)) ?_ ?_⟩
  · rintro i v σ H2 hx ⟨f, v3, v4, rfl, h2, fk, s2⟩
    obtain ⟨x, ex, ⟨a, u, rfl, ea, hu⟩⟩ := (alp.imp fun _ _ z => z.keep (TK.same s2)).getL hx
    obtain ⟨wo, eo⟩ := wok x (List.mem_of_getElem? ex)
    obtain ⟨wp, rfl, hw⟩ := hu
    obtain ⟨g, ew, eg⟩ := id hw
    have o1 := wo.k
    obtain ⟨e, ee⟩ : ∃ e, wayEnd bs x.1.1 x.1.2 = some e := Option.isSome_iff_exists.mp eo
    have o2 : e < hs.length := wayEnd_lt57 hto o1 ee
    have een : enD bs x.1 = e := by unfold enD endO; rw [ee]; rfl
    refine ⟨a, _, rfl, SqT.of ea, rfl, _, _, rfl, _, _, rfl, rfl, ?_⟩
    refine ⟨_, rfl, _, rfl, wp, _, _, _, rfl, rfl, SqT.of ew, atI_nat (j := 0) rfl, D, _, x.1.1, _, rfl, rfl, SqL.of h2, rg_at o1, _, rfl, _, _, rfl, rfl, D, _, _, x.1.1, rfl, rfl, h2, ixN_nat (by rw [List.length_map, List.length_range]; exact o1), ?_⟩
    have h4 : (upd H2 D (.lst ((levL hs.length f).set x.1.1 (V.int (f x.1.1 + x.2))))) D = some (.lst (levL hs.length fun k => if k = x.1.1 then f x.1.1 + x.2 else f k)) := by rw [upd_same, lev_set o1]
    have s4 : Same H (upd H2 D (.lst ((levL hs.length f).set x.1.1 (V.int (f x.1.1 + x.2))))) := Same.own s2 nDH
    have k4 : TK H2 (upd H2 D (.lst ((levL hs.length f).set x.1.1 (V.int (f x.1.1 + x.2))))) := TK.lst h2
    refine ⟨_, rfl, _, rfl, _, rfl, r, wp, hs, bs, x.1.1, x.1.2, rfl, hR.keep (TK.same s4), hw.keep k4, o1, wo.lt, fun H3 s3 => ?_⟩
    rw [ee]
    have h5 := s3 _ _ h4
    refine ⟨D, _, e, _, rfl, rfl, SqL.of h5, rg_at o2, _, rfl, _, _, rfl, rfl, D, _, _, e, rfl, rfl, h5, ixN_nat (by rw [List.length_map, List.length_range]; exact o2), ?_⟩
    refine ⟨_, _, _, rfl, by rw [upd_same, lev_set o2], fun k hk => ?_, Same.own (s4.trans s3) nDH⟩
    rw [lfP_take ex, Int.neg_add, ← fk k hk, een]
    unfold one1
    dsimp only
    split <;> split <;> simp_all <;> omega
  rintro σ H2 ⟨f, v3, v4, rfl, h2, fk, s2⟩
  rw [lzv, List.take_length] at fk
  have bT : (∀ k, k < hs.length → k ∈ doorsOf "in" hs ++ doorsOf "out" hs ∨ lfB bs k + lfP bs ps k = 0) → bindB hs bs ps = true := fun h => List.all_eq_true.mpr fun k hk => by
    rcases h k (List.mem_range.mp hk) with z | z
    · rw [decide_eq_true z, Bool.true_or]
    · rw [decide_eq_true z, Bool.or_true]
  have bF : ∀ k, k < hs.length → k ∉ doorsOf "in" hs ++ doorsOf "out" hs → lfB bs k + lfP bs ps k ≠ 0 → bindB hs bs ps = false := fun k hk n1 n2 => List.all_eq_false.mpr ⟨k, List.mem_range.mpr hk, by rw [decide_eq_false n1, decide_eq_false n2]; decide⟩
  refine ⟨_, rfl, r, _, _, _, rfl, rfl, SqT.of (s2 _ _ er), atI_nat (j := 0) rfl, ha, hv, rfl, SqT.of (s2 _ _ eh), for_it (J := IteT K ha hv) (n := hv.length) (fun i σ H5 => ∃ x5 x6 x7 x8 : Option V, σ = [some (.ref r), some (.ref pp), some (.ref D), v3, v4, x5, x6, x7, x8] ∧ (∀ k, k < i → k ∈ doorsOf "in" hs ++ doorsOf "out" hs ∨ lfB bs k + lfP bs ps k = 0) ∧ Same H2 H5) ⟨_, _, _, _, rfl, (fun k z => absurd z (Nat.not_lt_zero _)), Same.refl _⟩ ?_ ?_ ?_ ?_⟩
  · rintro i σ H5 hi ⟨x5, x6, x7, x8, rfl, _, s5⟩
    exact ⟨SqT.of (s5 _ _ (s2 _ _ eh)), hi⟩
  · rintro σ H5 ⟨x5, x6, x7, x8, rfl, _, s5⟩
    exact ⟨SqT.of (s5 _ _ (s2 _ _ eh)), rfl⟩
  · rintro i x σ H5 H6 hi ⟨x5, x6, x7, x8, rfl, gd, s5⟩ ⟨t, y, rfl, nt, rfl, ey⟩
    obtain ⟨h, eh2, t2, rr, rfl, e1, e2⟩ := alh.getL ey
    have gh := ok.good h (List.mem_of_getElem? eh2)
    have il : i < hs.length := by omega
    have s25 := s5.trans (same_new (o := .tup [V.int ((i : Nat) : Int), V.ref t2]) nt)
    have s6 := s2.trans s25
    refine ⟨t, _, rfl, SqT.of upd_same, rfl, _, _, rfl, _, _, rfl, t2, _, rfl, SqT.of (s6 _ _ e1), rfl, _, _, rfl, _, _, rfl, rfl, rfl, ?_⟩
    generalize upd H5 t (.tup [V.int ((i : Nat) : Int), V.ref t2]) = H6 at s25 s6 ⊢
    refine ⟨_, rfl, _, rfl, r, hs, bs, i, rfl, hR.keep (TK.same s6), by omega, fun g1 Ha ng1 hg1 sa => ?_⟩
    refine ⟨g1, _, rfl, .inl (SqL.of hg1), _, rfl, _, rfl, r, hs, bs, i, rfl, hR.keep (TK.same (s6.trans sa)), by omega, fun g2 Hb ng2 hg2 sb => ⟨g2, _, rfl, .inl (SqL.of hg2), _, _, rfl, rfl, ?_⟩⟩
    have sab := sa.trans sb
    have s7 := s6.trans sab
    have h27 := s25.trans sab
    refine ⟨_, rfl, (by show 2 ≤ sizeLine; decide), fun p np => ?_⟩
    have s8 := same_new (o := .tup [V.ref aI, V.ref aO]) np
    refine ⟨.tuple (ruleD h), [.tuple [.str "in"], .tuple [.str "out"]], rule_dp (s8 _ _ (s7 _ _ e2)), .tup (SqT.of upd_same) (.cons (.tup (hI _) (.cons (.str _) .nil)) (.cons (.tup (hO _) (.cons (.str _) .nil)) .nil)), rule_shaped gh.lay, by decide +kernel, _, rfl, ?_⟩
    rw [List.any_cons, List.any_cons, List.any_nil, Bool.or_false, one_eqv, one_eqv, gh.door "in" (.inl rfl), gh.door "out" (.inr rfl)]
    have dIff : (decide (h.wd = "in") || decide (h.wd = "out")) = decide (i ∈ doorsOf "in" hs ++ doorsOf "out" hs) := by
      refine Bool.eq_iff_iff.mpr ?_
      rw [Bool.or_eq_true, decide_eq_true_eq, decide_eq_true_eq, decide_eq_true_eq, List.mem_append, mem_doors, mem_doors]
      constructor
      · rintro (z | z)
        · exact .inl ⟨h, eh2, z⟩
        · exact .inr ⟨h, eh2, z⟩
      · rintro (⟨g, e, z⟩ | ⟨g, e, z⟩)
        · rw [eh2] at e; cases e; exact .inl z
        · rw [eh2] at e; cases e; exact .inr z
    rw [dIff]
    have h28 := h27.trans s8
    have nxt : (i ∈ doorsOf "in" hs ++ doorsOf "out" hs ∨ lfB bs i + lfP bs ps i = 0) → ∀ k, k < i + 1 → k ∈ doorsOf "in" hs ++ doorsOf "out" hs ∨ lfB bs k + lfP bs ps k = 0 := fun z k hk => by
      by_cases e : k = i
      · rw [e]; exact z
      · exact gd k (by omega)
    by_cases d : i ∈ doorsOf "in" hs ++ doorsOf "out" hs
    · rw [decide_eq_true d]
      exact if_bl (fun z => nomatch z) (fun _ => ⟨_, _, _, _, rfl, nxt (.inl d), h28⟩)
    · rw [decide_eq_false d]
      refine if_bl (fun _ => ?_) (fun z => nomatch z)
      refine ⟨_, rfl, _, rfl, D, _, _, _, rfl, rfl, SqL.of (h28 _ _ h2), atI_nat (rg_at il), _, rfl, rfl, _, rfl, ?_⟩
      have cnt := lfB_count bs i
      have fi := fk i il
      refine if_bl (fun z => ?_) (fun z => ?_)
      · rw [List.length_map, List.length_map] at z
        have ne : lfB bs i + lfP bs ps i ≠ 0 := fun e0 => by
          have : f i = (((goingN bs i).length : Nat) : Int) - (((comingN bs i).length : Nat) : Int) := by omega
          rw [this, decide_eq_true rfl] at z
          cases z
        have := q _ ((s6.trans sab).trans s8)
        rw [bF i il d ne] at this
        exact this
      · rw [List.length_map, List.length_map] at z
        have e0 : f i = (((goingN bs i).length : Nat) : Int) - (((comingN bs i).length : Nat) : Int) := Classical.byContradiction fun n => by
          rw [decide_eq_false (fun y => n (V.int.inj y))] at z
          cases z
        exact ⟨_, _, _, _, rfl, nxt (.inr (by omega)), h28⟩
  · rintro σ H5 ⟨x5, x6, x7, x8, rfl, gd, s5⟩
    have := q H5 (s2.trans s5)
    rw [bT fun k hk => gd k (by omega)] at this
    exact this
def sp_held_count (K : PySem.W.Frag) : Sp := fun vs H Q _ => ∃ (r pp : Addr) (hs : List HR) (bs : List BR) (l : Nat) (T : Int) (zv : List V) (ps : List Pc), vs = [.ref r, nV l, .int T, .ref pp] ∧ RoomAt H r hs bs ∧ RoomOk hs bs ∧ H pp = some (.tup zv) ∧ All2 (PcAt H) zv ps ∧ (∀ x ∈ ps, WkOk hs bs x.1 ∧ okP bs x) ∧ l ≤ 100 ∧ ∀ H', Same H H' → Q (.int (c0P hs bs l - (ps.map (tkP hs bs l T)).sum)) H'
set_option maxHeartbeats 4000000 in
theorem ok_held_count {f : Addr} {fd : FuncData} (F : Fun K "held_count" "held_count" s_held_count f fd) (T : Top K mg) : FnOk P w K mg base CX0 2 f fd ["room", "late", "time", "prices"] (sp_held_count K) := by
  obtain ⟨f_trays_on, fd_trays_on, F_trays_on, b_trays_on, m_trays_on⟩ := T.d_trays_on
  have G_trays_on := ok_trays_on (P := P) (w := w) (base := base) F_trays_on T
  obtain ⟨f_moments_on, fd_moments_on, F_moments_on, b_moments_on, m_moments_on⟩ := T.d_moments_on
  have G_moments_on := ok_moments_on (P := P) (w := w) (base := base) F_moments_on T
  obtain ⟨f_way_end, fd_way_end, F_way_end, b_way_end, m_way_end⟩ := T.d_way_end
  have G_way_end := ok_way_end (P := P) (w := w) (base := base) F_way_end T
  refine F.ok sc_held_count (fun vs H Q E h => ?_) (fun cdv A outer s H vs Q E hr h => ?_)
  · obtain ⟨r, pp, hs, bs, l, T', zv, ps, rfl, _⟩ := h
    rfl
  obtain ⟨aO, mO, hO⟩ := T.x_out
  obtain ⟨r, pp, hs, bs, l, T', zv, ps, rfl, hR, ok, hpp, alp, wok, ll, q⟩ := h
  obtain ⟨ha, ba, hv, bv, er, eh, eb, alh, alb⟩ := id hR.ex
  have lbv := alb.length
  have lhv := alh.length
  have many := ok.many
  have lh := ok.hands
  have lzv := alp.length
  have hto : ∀ b ∈ bs, b.to < hs.length := fun b hb => (ok.ends b hb).2
  refine ⟨_, (pss_cons (ps_asg (pv 0) (pg_tupK K rfl rfl (pgs_cons (pg_name (i := 4) sc_held_count.nd rfl (Or.inl rfl)) (pgs_cons (pg_name (i := 5) sc_held_count.nd rfl (Or.inl rfl)) pgs_nil))))
      (pss_cons (ps_set (i := 6) sc_held_count.nd rfl (Or.inl rfl) (pe_callB (cr_sumK K rfl rfl) (by rfl) T.m_sum (by decide +kernel) (pa_cons (pe_lc (own := [("giver", 7), ("taker", 8), ("things", 9)]) (g := gTup K 3 (gCons (gName 7) (gCons (gName 8) (gCons (gName 9) gNil)))) (tt := tYes) (by rfl) sc_held_count.nd (pi_tupK K rfl (pv 5)) (blkOk_by (own := [("giver", 7), ("taker", 8), ("things", 9)]) (N := N_held_count) (sc := defScope s_held_count) (by decide +kernel)) (fun _ _ _ _ _ => (pg_tupK K rfl rfl (pgs_cons (pg_name (i := 7) sc_held_count.nd rfl (Or.inl rfl)) (pgs_cons (pg_name (i := 8) sc_held_count.nd rfl (Or.inl rfl)) (pgs_cons (pg_name (i := 9) sc_held_count.nd rfl (Or.inl rfl)) pgs_nil))))) (fun _ _ _ _ _ => pts_nil) (fun _ _ _ _ _ => (pe_callB (call_len_seqK K rfl) (by rfl) T.m_len (by decide +kernel) (pa_cons (pv 9) pa_nil)))) pa_nil)))
      (pss_cons (ps_aug (i := 6) sc_held_count.nd rfl (Or.inl rfl) (pe_op op_mul (pv 1) (pe_callB (call_len_seqK K rfl) (by rfl) T.m_len (by decide +kernel) (pa_cons (pe_lc (own := [("rule", 10), ("moments", 11)]) (g := gTup K 2 (gCons (gName 10) (gCons (gName 11) gNil))) (by rfl) sc_held_count.nd (pi_tupK K rfl (pv 4)) (blkOk_by (own := [("rule", 10), ("moments", 11)]) (N := N_held_count) (sc := defScope s_held_count) (by decide +kernel)) (fun _ _ _ _ _ => (pg_tupK K rfl rfl (pgs_cons (pg_name (i := 10) sc_held_count.nd rfl (Or.inl rfl)) (pgs_cons (pg_name (i := 11) sc_held_count.nd rfl (Or.inl rfl)) pgs_nil)))) (fun _ _ _ _ _ => pts_one (pt_cmpR (op_eqDK K rfl hr.units) (pv 10) (pe_glob (v := .ref aO) (by rfl) mO rfl) (nomark _))) (fun _ _ _ _ _ => pe_int)) pa_nil))) ip_add)
      (pss_cons (ps_for PassesOwn.never rfl (pi_tupK K rfl (pv 3)) (pg_tupK K rfl rfl (pgs_cons (pg_name (i := 12) sc_held_count.nd rfl (Or.inl rfl)) (pgs_cons (pg_name (i := 13) sc_held_count.nd rfl (Or.inl rfl)) pgs_nil)))
        (pss_cons (ps_set (i := 14) sc_held_count.nd rfl (Or.inl rfl) (pe_call G_trays_on (hr.mono (by decide)) (by rfl) m_trays_on F_trays_on.kp b_trays_on .nil pass0 (pa_cons (pv 0) (pa_cons (pv 12) pa_nil))))
      (pss_cons (ps_if (pt_cmpR op_gt (pe_call G_moments_on (hr.mono (by decide)) (by rfl) m_moments_on F_moments_on.kp b_moments_on .nil pass0 (pa_cons (pv 0) (pa_cons (pv 12) pa_nil))) (pv 2) (nomark _)) (pss_one (ps_aug (i := 14) sc_held_count.nd rfl (Or.inl rfl) pe_int ip_sub)) pss_nil)
      (pss_cons (ps_if (pt_cmpR (op_eqDK K rfl hr.units) (pe_ix (ix_tupK K rfl) (pe_ix (ix_tupK K rfl) (pv 4) (pe_call G_way_end (hr.mono (by decide)) (by rfl) m_way_end F_way_end.kp b_way_end .nil pass0 (pa_cons (pv 0) (pa_cons (pv 12) pa_nil))) (fun _ _ => rfl)) pe_int (fun _ _ => rfl)) (pe_glob (v := .ref aO) (by rfl) mO rfl) (nomark _)) (pss_one (ps_aug (i := 14) sc_held_count.nd rfl (Or.inl rfl) (pv 1) ip_add)) pss_nil)
      (pss_one (ps_aug (i := 6) sc_held_count.nd rfl (Or.inl rfl) (pe_op op_mul (pv 13) (pv 14)) ip_sub))))))
      (pss_one (ps_ret (pv 6))))))), ?_⟩
  refine ⟨_, rfl, r, _, rfl, SqT.of er, rfl, _, _, rfl, _, _, rfl, rfl, ?_⟩
  refine ⟨_, rfl, ba, rfl, ⟨_, SqT.of eb⟩, fun D nD => lc_tup (K := K) (a := ba) (xs := bv) (fun i H5 => H5 D = some (.lst (((bs.take i).map fun b => (b.th.length : Int)).map V.int)) ∧ Same H H5) ⟨upd_same, same_new nD⟩ (fun i H5 _ ⟨_, s5⟩ => SqT.of (s5 _ _ eb)) ?_ ?_⟩
  · rintro i v H5 hx ⟨hD, s5⟩
    obtain ⟨b, eb2, ⟨t, g, rfl, e1, e2⟩⟩ := alb.getL hx
    have il := (List.getElem?_eq_some_iff.mp eb2).1
    refine ⟨t, _, rfl, SqT.of (s5 _ _ e1), rfl, _, _, rfl, _, _, rfl, _, _, rfl, rfl, rfl, yes_in ?_⟩
    refine ⟨_, rfl, g, _, rfl, .inr (SqT.of (s5 _ _ e2)), _, hD, by rw [List.length_map, List.length_map, List.length_take]; exact small1000 (by omega), ?_, Same.own s5 nD⟩
    rw [upd_same, List.take_add_one, eb2, List.map_append, List.map_append, List.length_map]
    rfl
  rintro H1 ⟨hD, s1⟩
  rw [lbv, List.take_length] at hD
  refine ⟨D, _, rfl, SqL.of hD, ?_⟩
  generalize es0 : (bs.map fun b => (b.th.length : Int)).sum = s0
  refine ⟨_, rfl, _, rfl, _, rfl, ha, rfl, ⟨_, SqT.of (s1 _ _ eh)⟩, fun E nE => lc_tup (K := K) (a := ha) (xs := hv) (fun i H6 => H6 E = some (.lst (((List.range i).filter fun j => decide (hs[j]?.map HR.wd = some ("out" : Str))).map fun _ => V.int 1)) ∧ Same H1 H6) ⟨upd_same, same_new nE⟩ (fun i H6 _ ⟨_, s6⟩ => SqT.of (s6 _ _ (s1 _ _ eh))) ?_ ?_⟩
  · rintro i v H6 hx ⟨hE, s6⟩
    obtain ⟨h, eh2, ⟨t2, rr, rfl, e1, e2⟩⟩ := alh.getL hx
    have gh := ok.good h (List.mem_of_getElem? eh2)
    have s16 := s1.trans s6
    have few := filt_len (p := fun j => decide (hs[j]?.map HR.wd = some ("out" : Str))) i
    have il := (List.getElem?_eq_some_iff.mp eh2).1
    refine ⟨t2, _, rfl, SqT.of (s16 _ _ e1), rfl, _, _, rfl, _, _, rfl, rfl, rfl, ?_⟩
    refine ⟨_, rfl, _, _, rule_dp (s16 _ _ e2), .tup (hO _) (.cons (.str _) .nil), rule_shaped gh.lay, one_shaped (by decide +kernel), _, rfl, ?_⟩
    rw [rule_eqv, gh.door "out" (.inr rfl)]
    by_cases c : h.wd = "out"
    · rw [decide_eq_true c]
      refine if_bl (fun _ => ⟨_, hE, by rw [List.length_map]; exact small1000 (by omega), ?_, Same.own s6 nE⟩) (fun z => nomatch z)
      rw [upd_same, filt_succ, if_pos (decide_eq_true (by rw [eh2, ← c]; rfl)), List.map_append]
      rfl
    · rw [decide_eq_false c]
      refine if_bl (fun z => nomatch z) (fun _ => ⟨?_, s6⟩)
      rw [filt_succ, if_neg fun z => c (by have := of_decide_eq_true z; rw [eh2] at this; exact Option.some.inj this), List.append_nil]
      exact hE
  rintro H2 ⟨hE, s2⟩
  rw [lhv] at hE
  have s02 := s1.trans s2
  have e0 : s0 + ((l : Nat) : Int) * (((((List.range hs.length).filter fun j => decide (hs[j]?.map HR.wd = some ("out" : Str))).map fun _ => V.int 1).length : Nat) : Int) = c0P hs bs l - ((ps.take 0).map (tkP hs bs l T')).sum := by
    rw [List.length_map, List.take_zero, ← es0]
    show _ = c0P hs bs l - 0
    rw [Int.sub_zero]
    rfl
  refine ⟨E, _, rfl, .inl (SqL.of hE), _, _, rfl, rfl, .inl ⟨by omega, by omega⟩, _, _, rfl, rfl, ?_⟩
  dsimp only
  rw [e0]
  refine ⟨_, rfl, pp, rfl, ⟨_, SqT.of (s02 _ _ hpp)⟩, for_tup (K := K) (a := pp) (xs := zv) (fun i σ H3 => ∃ x12 x13 x14 : Option V, σ = [some (.ref r), some (nV l), some (.int T'), some (.ref pp), some (.ref ha), some (.ref ba), some (.int (c0P hs bs l - ((ps.take i).map (tkP hs bs l T')).sum)), none, none, none, none, none, x12, x13, x14] ∧ Same H H3) ⟨none, none, none, rfl, s02⟩ (fun i σ H3 _ ⟨_, _, _, _, s3⟩ => SqT.of (s3 _ _ hpp)) ?_ ?_⟩
  · rintro i v σ H3 hx ⟨x12, x13, x14, rfl, s3⟩
    obtain ⟨x, ex, ⟨a, u, rfl, ea, hu⟩⟩ := (alp.imp fun _ _ z => z.keep (TK.same s3)).getL hx
    obtain ⟨wo, okx⟩ := wok x (List.mem_of_getElem? ex)
    obtain ⟨wp, rfl, hw⟩ := hu
    have wln := wo.ln
    obtain ⟨tb0, tb1⟩ := tr_bound ok x.1.2
    obtain ⟨e, ee⟩ : ∃ e, wayEnd bs x.1.1 x.1.2 = some e := Option.isSome_iff_exists.mp okx.2.2
    have o2 : e < hs.length := wayEnd_lt57 hto wo.k ee
    have een : enD bs x.1 = e := by unfold enD endO; rw [ee]; rfl
    have eh1 : hs[e]? = some hs[e] := List.getElem?_eq_getElem o2
    obtain ⟨y, ey, t2, rr, rfl, e1, e2⟩ := alh.get eh1
    have gh := ok.good _ (List.mem_of_getElem? eh1)
    have dIff : hs[e].wd = "out" ↔ enD bs x.1 ∈ doorsOf "out" hs := by
      rw [een, mem_doors]
      exact ⟨fun z => ⟨_, eh1, z⟩, fun ⟨g, e0, z⟩ => by rw [eh1] at e0; cases e0; exact z⟩
    have fin : ∀ v : Int, v = (x.1.2.map (trB bs)).sum - ndd (momW hs bs x.1.1 x.1.2) T' + (if enD bs x.1 ∈ doorsOf "out" hs then ((l : Nat) : Int) else 0) → c0P hs bs l - ((ps.take (i + 1)).map (tkP hs bs l T')).sum = c0P hs bs l - ((ps.take i).map (tkP hs bs l T')).sum - x.2 * v := fun v ev => by
      rw [List.take_add_one, ex, List.map_append, List.sum_append]
      show _ - (_ + (tkP hs bs l T' x + 0)) = _
      have : tkP hs bs l T' x = x.2 * v := by
        unfold tkP
        rw [ev, Int.mul_add]
        congr 1
        by_cases z : enD bs x.1 ∈ doorsOf "out" hs
        · rw [if_pos z, if_pos z, Int.mul_one, Int.mul_comm]
        · rw [if_neg z, if_neg z, Int.mul_zero, Int.mul_zero]
      omega
    have nd0 : 0 ≤ ndd (momW hs bs x.1.1 x.1.2) T' ∧ ndd (momW hs bs x.1.1 x.1.2) T' ≤ 1 := by unfold ndd; split <;> omega
    refine ⟨a, _, rfl, SqT.of ea, rfl, _, _, rfl, _, _, rfl, rfl, ?_⟩
    refine ⟨_, rfl, _, rfl, r, wp, hs, bs, x.1.1, x.1.2, rfl, hR.keep (TK.same s3), hw, wo.lt, by omega, fun H4 s4 => ?_⟩
    have s14 := s3.trans s4
    have hw4 := hw.keep (TK.same s4)
    refine ⟨_, rfl, _, rfl, r, wp, hs, bs, x.1.1, x.1.2, rfl, hR.keep (TK.same s14), hto, hw4, wo.k, wo.lt, by omega, fun H5 s5 => ?_⟩
    have s15 := s14.trans s5
    have hw5 := hw4.keep (TK.same s5)
    have hn : ∀ c : Bool, decide (T' < momW hs bs x.1.1 x.1.2) = c → ndd (momW hs bs x.1.1 x.1.2) T' = if c = true then 1 else 0 := fun c e => by
      unfold ndd
      cases c with
      | true => rw [if_pos (of_decide_eq_true e)]; rfl
      | false => rw [if_neg (of_decide_eq_false e)]; rfl
    refine ⟨_, rfl, _, _, rfl, rfl, _, rfl, if_bl (fun c => ?_) (fun c => ?_)⟩
    · have n1 := hn _ c
      refine ⟨_, rfl, _, _, rfl, rfl, ?_⟩
      refine ⟨_, rfl, _, rfl, _, rfl, r, wp, hs, bs, x.1.1, x.1.2, rfl, hR.keep (TK.same s15), hw5, wo.k, wo.lt, fun H6 s6 => ?_⟩
      have s16 := s15.trans s6
      rw [ee]
      refine ⟨ha, _, _, _, rfl, rfl, SqT.of (s16 _ _ eh), atI_nat ey, t2, _, _, _, rfl, rfl, SqT.of (s16 _ _ e1), atI_nat (j := 0) rfl, ?_⟩
      refine ⟨_, _, rule_dp (s16 _ _ e2), .tup (hO _) (.cons (.str _) .nil), rule_shaped gh.lay, one_shaped (by decide +kernel), _, rfl, ?_⟩
      rw [rule_eqv, gh.door "out" (.inr rfl)]
      by_cases d : hs[e].wd = "out"
      · rw [decide_eq_true d]
        refine if_bl (fun _ => ?_) (fun z => nomatch z)
        refine ⟨_, rfl, _, rfl, _, _, rfl, rfl, ?_⟩
        refine ⟨_, rfl, _, rfl, _, rfl, _, _, rfl, rfl, .inr ⟨by (try dsimp only); omega, by (try dsimp only); omega⟩, _, _, rfl, rfl, _, _, _, by rw [fin ((x.1.2.map (trB bs)).sum - 1 + ((l : Nat) : Int)) (by rw [n1, if_pos rfl, if_pos (dIff.mp d)])]; rfl, s16⟩
      · rw [decide_eq_false d]
        refine if_bl (fun z => nomatch z) (fun _ => ?_)
        refine ⟨_, rfl, _, rfl, _, rfl, _, _, rfl, rfl, .inr ⟨by (try dsimp only); omega, by (try dsimp only); omega⟩, _, _, rfl, rfl, _, _, _, by rw [fin ((x.1.2.map (trB bs)).sum - 1) (by rw [n1, if_pos rfl, if_neg (fun z => d (dIff.mpr z)), Int.add_zero])]; rfl, s16⟩
    · have n1 := hn _ c
      refine ⟨_, rfl, _, rfl, _, rfl, r, wp, hs, bs, x.1.1, x.1.2, rfl, hR.keep (TK.same s15), hw5, wo.k, wo.lt, fun H6 s6 => ?_⟩
      have s16 := s15.trans s6
      rw [ee]
      refine ⟨ha, _, _, _, rfl, rfl, SqT.of (s16 _ _ eh), atI_nat ey, t2, _, _, _, rfl, rfl, SqT.of (s16 _ _ e1), atI_nat (j := 0) rfl, ?_⟩
      refine ⟨_, _, rule_dp (s16 _ _ e2), .tup (hO _) (.cons (.str _) .nil), rule_shaped gh.lay, one_shaped (by decide +kernel), _, rfl, ?_⟩
      rw [rule_eqv, gh.door "out" (.inr rfl)]
      by_cases d : hs[e].wd = "out"
      · rw [decide_eq_true d]
        refine if_bl (fun _ => ?_) (fun z => nomatch z)
        refine ⟨_, rfl, _, rfl, _, _, rfl, rfl, ?_⟩
        refine ⟨_, rfl, _, rfl, _, rfl, _, _, rfl, rfl, .inr ⟨by (try dsimp only); omega, by (try dsimp only); omega⟩, _, _, rfl, rfl, _, _, _, by rw [fin ((x.1.2.map (trB bs)).sum + ((l : Nat) : Int)) (by rw [n1, if_neg Bool.false_ne_true, if_pos (dIff.mp d), Int.sub_zero])]; rfl, s16⟩
      · rw [decide_eq_false d]
        refine if_bl (fun z => nomatch z) (fun _ => ?_)
        refine ⟨_, rfl, _, rfl, _, rfl, _, _, rfl, rfl, .inr ⟨by (try dsimp only); omega, by (try dsimp only); omega⟩, _, _, rfl, rfl, _, _, _, by rw [fin ((x.1.2.map (trB bs)).sum) (by rw [n1, if_neg Bool.false_ne_true, if_neg (fun z => d (dIff.mpr z)), Int.sub_zero, Int.add_zero])]; rfl, s16⟩
  · rintro σ H3 ⟨x12, x13, x14, rfl, s3⟩
    rw [lzv, List.take_length]
    exact ⟨_, rfl, q _ s3⟩
def holdB (hs : List HR) (bs : List BR) (l : Nat) (T c : Int) (ps : List Pc) : Bool := decide (heldO hs bs l T ps = some c) && bindB hs bs ps
variable {cP PT : Addr} [TP : TabP K mg base cP PT]
include TP
def sp_prices_hold (K : PySem.W.Frag) (PT : Addr) : Sp := fun vs H Q _ => ∃ (r pp : Addr) (hs : List HR) (bs : List BR) (l : Nat) (T c : Int) (zv : List V) (ps : List Pc), vs = [.ref r, nV l, .int T, .int c, .ref pp] ∧ RoomAt H r hs bs ∧ RoomOk hs bs ∧ H pp = some (.tup zv) ∧ All2 (PcAt H) zv ps ∧ (∀ x ∈ ps, WkOk hs bs x.1) ∧ l ≤ 100 ∧ GxR.TabG H PT ∧ ∀ H', LamX.ExtN H H' → GxR.TabG H' PT → Q (.bl (holdB hs bs l T c ps)) H'
theorem ok_prices_hold {f : Addr} {fd : FuncData} (F : Fun K "prices_hold" "prices_hold" s_prices_hold f fd) (hcd : fd.code = .ref cP) (T : Top K mg) : FnOk P w K mg base CX0 4 f fd ["room", "late", "time", "count", "prices"] (sp_prices_hold K PT) := by
  obtain ⟨f_they_bind, fd_they_bind, F_they_bind, b_they_bind, m_they_bind⟩ := T.d_they_bind
  have G_they_bind := ok_they_bind (P := P) (w := w) (base := base) F_they_bind T
  obtain ⟨f_held_count, fd_held_count, F_held_count, b_held_count, m_held_count⟩ := T.d_held_count
  have G_held_count := ok_held_count (P := P) (w := w) (base := base) F_held_count T
  obtain ⟨f_is_price, fd_is_price, F_is_price, b_is_price, m_is_price⟩ := T.d_is_price
  have G_is_price := ok_is_price (P := P) (w := w) (base := base) F_is_price T
  refine ok_code F hcd sc_prices_hold (fun vs H Q E h => ?_) (fun A outer s H vs Q E hr h => ?_)
  · obtain ⟨r, pp, hs, bs, l, T', c, zv, ps, rfl, _⟩ := h
    rfl
  obtain ⟨r, pp, hs, bs, l, T', c, zv, ps, rfl, hR, ok, hpp, alp, wok, ll, tg, q⟩ := h
  have lzv := alp.length
  refine ⟨_, (pss_cons (ps_if (pt_not (pt_val (pe_allG (k := 2) (N' := ["way", "many", "room"]) (sg := (fun σ => List.replicate 2 none ++ [σ.getD 0 none])) (vs := [0, 1]) (g := (gTup K 2 (gCons (gName 0) (gCons (gName 1) gNil)))) (hr.mono (by decide)) rfl (by rfl) T.m_all (by decide +kernel) TP.tb rfl (genN_one (ts := ["way", "many"]) (f := "room") (j := 0) rfl rfl (by decide +kernel) rfl (by decide +kernel) rfl rfl (by first | exact Or.inl rfl | exact Or.inr rfl)) (pi_tupK K rfl (pv 4)) (fun _ => rfl) (fun _ _ _ _ _ _ _ _ _ hr => (pg_tupK K rfl rfl (pgs_cons (pg_name (i := 0) (show List.Nodup (["way", "many", "room"] : List Str) from by decide +kernel) rfl (Or.inl rfl)) (pgs_cons (pg_name (i := 1) (show List.Nodup (["way", "many", "room"] : List Str) from by decide +kernel) rfl (Or.inl rfl)) pgs_nil)))) (fun _ _ _ _ _ _ _ _ _ hr => (pe_call G_is_price (hr.mono (by decide)) (by rfl) m_is_price F_is_price.kp b_is_price .nil pass0 (pa_cons (pv 2) (pa_cons (pv 0) (pa_cons (pv 1) pa_nil)))))))) (pss_one (ps_ret pe_bl)) pss_nil)
      (pss_one (ps_ret (pe_and (pe_call G_they_bind (hr.mono (by decide)) (by rfl) m_they_bind F_they_bind.kp b_they_bind .nil pass0 (pa_cons (pv 0) (pa_cons (pv 4) pa_nil))) (pe_one (pe_cmpR op_eq (pe_call G_held_count (hr.mono (by decide)) (by rfl) m_held_count F_held_count.kp b_held_count .nil pass0 (pa_cons (pv 0) (pa_cons (pv 1) (pa_cons (pv 2) (pa_cons (pv 4) pa_nil))))) (pv 3) (nomark _))))))), ?_⟩
  unfold tSeq tIfS tNot tB
  refine tq_tup (n := 4) (σ := L2.start N_prices_hold [.ref r, nV l, .int T', .int c, .ref pp]) rfl (SqT.of hpp) tg fun H2 t2 => ?_
  have e2 := tabbed_ext tg t2
  have tg2 := t2.1
  have k2 := tk_ext e2
  have hR2 := hR.keep k2
  have hpp2 := k2 _ _ hpp
  have alp2 : All2 (PcAt H2) zv ps := alp.imp fun _ _ z => z.keep k2
  have tgs : ∀ {H5 : Hp}, Same H2 H5 → GxR.TabG H5 PT := fun s => by
    obtain ⟨p, e, z⟩ := tg2
    exact ⟨p, s _ _ e, z⟩
  have fin : ∀ (b : Bool) (H5 : Hp), b = holdB hs bs l T' c ps → Same H2 H5 → Q (.bl b) H5 := fun b H5 e s => by
    rw [e]
    exact q _ (e2.trans (ext_same s)) (tgs s)
  refine ⟨fun i H5 => (∀ x ∈ ps.take i, okP bs x) ∧ Same H2 H5, ⟨(by intro x z; rw [List.take_zero] at z; cases z), Same.refl _⟩, fun i H5 _ z => SqT.of (z.2 _ _ hpp2), fun i v H5 hx z => ?_, fun H5 z => ?_⟩
  · obtain ⟨oks, s5⟩ := z
    obtain ⟨x, ex, a, u, rfl, ea, hu⟩ := alp2.getL hx
    obtain ⟨wp, rfl, hw⟩ := hu
    have xm := List.mem_of_getElem? ex
    have wo := wok x xm
    refine ⟨a, _, rfl, SqT.of (s5 _ _ ea), rfl, _, _, rfl, _, _, rfl, rfl, ?_⟩
    refine ⟨rfl, _, rfl, _, rfl, _, rfl, r, wp, hs, bs, x.1.1, x.1.2, x.2, rfl, hR2.keep (TK.same s5), hw.keep (TK.same s5), wo.k, wo.lt, fun H6 s6 => ⟨_, rfl, fun b => ?_, fun b => ?_⟩⟩
    · have no : ¬ okP bs x := fun y => b (decide_eq_true y)
      have e0 : decide (okP bs ((x.1.1, x.1.2), x.2)) = false := decide_eq_false no
      rw [e0]
      refine ⟨_, rfl, if_bl (fun _ => fin _ _ ?_ (s5.trans s6)) (fun z => nomatch z)⟩
      unfold holdB
      rw [heldO_no xm no]
      rfl
    · refine ⟨fun y hy => ?_, s5.trans s6⟩
      rw [List.take_add_one, ex] at hy
      rcases List.mem_append.mp hy with hy | hy
      · exact oks y hy
      · rw [List.mem_singleton.mp hy]
        exact of_decide_eq_true b
  obtain ⟨oks, s5⟩ := z
  rw [lzv, List.take_length] at oks
  refine ⟨_, rfl, if_bl (fun z => nomatch z) (fun _ => ?_)⟩
  have hld : heldO hs bs l T' ps = some (c0P hs bs l - (ps.map (tkP hs bs l T')).sum) := if_pos oks
  refine ⟨_, rfl, _, rfl, r, pp, hs, bs, zv, ps, rfl, hR2.keep (TK.same s5), ok, s5 _ _ hpp2, alp2.imp fun _ _ z => z.keep (TK.same s5), fun x hx => ⟨wok x hx, (oks x hx).2.2⟩, fun H6 s6 => ⟨_, rfl, if_bl (fun c1 => ?_) (fun c1 => ?_)⟩⟩
  · have s56 := s5.trans s6
    refine ⟨_, rfl, _, rfl, _, rfl, _, rfl, r, pp, hs, bs, l, T', zv, ps, rfl, hR2.keep (TK.same s56), ok, s56 _ _ hpp2, alp2.imp fun _ _ z => z.keep (TK.same s56), fun x hx => ⟨wok x hx, oks x hx⟩, ll, fun H7 s7 => ⟨_, rfl, rfl, fin _ _ ?_ (s56.trans s7)⟩⟩
    unfold holdB
    rw [hld, c1, Bool.and_true]
    refine decide_eq_decide.mpr ⟨fun z => by rw [V.int.inj z], fun z => by rw [Option.some.inj z]⟩
  · refine fin _ _ ?_ (s5.trans s6)
    unfold holdB
    rw [c1, Bool.and_false]
end
/-! ### all rings of a room: the list of them, and how long it is -/
structure Rw where
  h : Nat
  ns : List Nat
  met : List Nat
def extB (bs : List BR) (m : Nat) (x : Rw) (b : Nat) : Option Rw := match bs[b]? with
  | some y => if y.one = x.h ∧ m < y.to ∧ y.to ∉ x.met then some ⟨y.to, x.ns ++ [b], x.met ++ [y.to]⟩ else none
  | none => none
def cloB (bs : List BR) (m : Nat) (x : Rw) (b : Nat) : Option (Nat × List Nat) := match bs[b]? with
  | some y => if y.one = x.h ∧ y.to = m then some (m, x.ns ++ [b]) else none
  | none => none
def nextX (bs : List BR) (m : Nat) (X : List Rw) : List Rw := X.flatMap fun x => (List.range bs.length).filterMap (extB bs m x)
def cloX (bs : List BR) (m : Nat) (X : List Rw) : List (Nat × List Nat) := X.flatMap fun x => (List.range bs.length).filterMap (cloB bs m x)
def Xs (bs : List BR) (m : Nat) : Nat → List Rw
  | 0 => [⟨m, [], [m]⟩]
  | j + 1 => nextX bs m (Xs bs m j)
def cntW (X : List Rw) (h : Nat) : Nat := (X.filter fun x => decide (x.h = h)).length
def sumN (l : List Nat) : Nat := l.foldr (· + ·) 0
theorem sumN_cons {a : Nat} {l : List Nat} : sumN (a :: l) = a + sumN l := rfl
theorem sumN_le {α : Type} {f g : α → Nat} (h : ∀ x, f x ≤ g x) : ∀ l : List α, sumN (l.map f) ≤ sumN (l.map g)
  | [] => Nat.le_refl _
  | a :: l => by
    rw [List.map_cons, List.map_cons, sumN_cons, sumN_cons]
    exact Nat.add_le_add (h a) (sumN_le h l)
theorem sumN_add {α : Type} {f g : α → Nat} : ∀ l : List α, sumN (l.map fun x => f x + g x) = sumN (l.map f) + sumN (l.map g)
  | [] => rfl
  | a :: l => by
    rw [List.map_cons, List.map_cons, List.map_cons, sumN_cons, sumN_cons, sumN_cons, sumN_add l]
    omega
def toIs (bs : List BR) (t b : Nat) : Bool := match bs[b]? with | some y => decide (y.to = t) | none => false
def oneOf (bs : List BR) (b : Nat) : Nat := match bs[b]? with | some y => y.one | none => 0
/-- whatever is made of an item and a belt that leaves where it ends, to one hand -/
theorem pairs_len {β : Type} {bs : List BR} {t : Nat} {f : Rw → Nat → Option β} (hf : ∀ x b, (f x b).isSome = true → toIs bs t b = true ∧ oneOf bs b = x.h) (l : List Nat) : ∀ X : List Rw, (X.flatMap fun x => l.filterMap (f x)).length ≤ sumN (l.map fun b => if toIs bs t b = true then cntW X (oneOf bs b) else 0)
  | [] => Nat.zero_le _
  | x :: X => by
    rw [List.flatMap_cons, List.length_append]
    have ih := pairs_len hf l X
    have one : ∀ l : List Nat, (l.filterMap (f x)).length ≤ sumN (l.map fun b => if toIs bs t b = true then (if x.h = oneOf bs b then 1 else 0) else 0) := fun l => by
      induction l with
      | nil => exact Nat.le_refl _
      | cons b l ih =>
        rw [List.map_cons, sumN_cons]
        cases e : f x b with
        | none => rw [List.filterMap_cons_none e]; omega
        | some y =>
          obtain ⟨h1, h2⟩ := hf x b (by rw [e]; rfl)
          rw [List.filterMap_cons_some e, List.length_cons, if_pos h1, if_pos h2.symm]
          omega
    have o := one l
    have e : sumN (l.map fun b => if toIs bs t b = true then cntW (x :: X) (oneOf bs b) else 0) = sumN (l.map fun b => if toIs bs t b = true then (if x.h = oneOf bs b then 1 else 0) else 0) + sumN (l.map fun b => if toIs bs t b = true then cntW X (oneOf bs b) else 0) := by
      rw [← sumN_add]
      refine congrArg sumN (List.map_congr_left fun b _ => ?_)
      by_cases z : toIs bs t b = true
      · rw [if_pos z, if_pos z, if_pos z]
        unfold cntW
        by_cases y : x.h = oneOf bs b
        · rw [if_pos y, List.filter_cons_of_pos (by simpa using y), List.length_cons]
          omega
        · rw [if_neg y, List.filter_cons_of_neg (by simpa using y)]
          omega
      · rw [if_neg z, if_neg z, if_neg z]
    omega
theorem tos_range {bs : List BR} {t : Nat} {c : Nat} : ∀ n : Nat, n ≤ bs.length → sumN (((List.range n).map fun b => if toIs bs t b = true then c else 0)) = c * ((bs.take n).map BR.to).count t
  | 0, _ => by simp [sumN]
  | n + 1, h => by
    have ih := tos_range (bs := bs) (t := t) (c := c) n (by omega)
    have sn : ∀ (l : List Nat) (a : Nat), sumN (l ++ [a]) = sumN l + a := fun l a => by
      induction l with
      | nil => show a + 0 = 0 + a; omega
      | cons b l ih => rw [List.cons_append, sumN_cons, sumN_cons, ih]; omega
    rw [List.range_succ, List.map_append, List.map_cons, List.map_nil, sn, ih, List.take_add_one, List.getElem?_eq_getElem (by omega), List.map_append, List.count_append]
    show c * _ + (if toIs bs t n = true then c else 0) = c * (_ + List.count t [bs[n].to])
    have e : toIs bs t n = decide (bs[n].to = t) := by unfold toIs; rw [List.getElem?_eq_getElem (by omega)]
    rw [e, Nat.mul_add]
    by_cases z : bs[n].to = t
    · rw [decide_eq_true z, if_pos rfl, z, List.count_singleton_self]
      omega
    · rw [decide_eq_false z, if_neg Bool.false_ne_true, List.count_singleton, if_neg (by simpa using z)]
      omega
/-- with at most three belts to each hand -/
theorem pairs_three {β : Type} {bs : List BR} {t c : Nat} {f : Rw → Nat → Option β} (hf : ∀ x b, (f x b).isSome = true → toIs bs t b = true ∧ oneOf bs b = x.h) {X : List Rw} (hc : ∀ h, cntW X h ≤ c) (h3 : (bs.map BR.to).count t ≤ 3) : (X.flatMap fun x => (List.range bs.length).filterMap (f x)).length ≤ 3 * c := by
  refine Nat.le_trans (pairs_len hf _ X) ?_
  have h1 : sumN ((List.range bs.length).map fun b => if toIs bs t b = true then cntW X (oneOf bs b) else 0) ≤ sumN ((List.range bs.length).map fun b => if toIs bs t b = true then c else 0) := sumN_le (fun b => by
    by_cases z : toIs bs t b = true
    · rw [if_pos z, if_pos z]; exact hc _
    · rw [if_neg z, if_neg z]; exact Nat.le_refl _) _
  have h2 := tos_range (bs := bs) (t := t) (c := c) bs.length (Nat.le_refl _)
  rw [List.take_length] at h2
  have : c * (bs.map BR.to).count t ≤ c * 3 := Nat.mul_le_mul_left _ h3
  omega
theorem filter_flat {α β : Type} {p : β → Bool} {g : α → List β} : ∀ l : List α, (l.flatMap g).filter p = l.flatMap fun x => (g x).filter p
  | [] => rfl
  | a :: l => by rw [List.flatMap_cons, List.flatMap_cons, List.filter_append, filter_flat l]
theorem filter_fm {α β : Type} {p : β → Bool} {g : α → Option β} : ∀ l : List α, (l.filterMap g).filter p = l.filterMap fun x => (g x).filter p
  | [] => rfl
  | a :: l => by
    have ih := filter_fm (p := p) (g := g) l
    cases e : g a with
    | none => rw [List.filterMap_cons_none e, List.filterMap_cons_none (by rw [e]; rfl)]; exact ih
    | some y =>
      rw [List.filterMap_cons_some e]
      by_cases z : p y = true
      · rw [List.filter_cons_of_pos z, List.filterMap_cons_some (b := y) (by rw [e]; simp [z]), ih]
      · rw [List.filter_cons_of_neg z, List.filterMap_cons_none (by rw [e]; simp [z]), ih]
theorem cnt_next {bs : List BR} {m c : Nat} {X : List Rw} (h3 : ∀ t, (bs.map BR.to).count t ≤ 3) (hc : ∀ h, cntW X h ≤ c) : ∀ h, cntW (nextX bs m X) h ≤ 3 * c := fun h => by
  unfold cntW nextX
  rw [filter_flat]
  have e : (fun x => ((List.range bs.length).filterMap (extB bs m x)).filter fun x => decide (x.h = h)) = fun x => (List.range bs.length).filterMap fun b => (extB bs m x b).filter fun x => decide (x.h = h) := funext fun x => filter_fm _
  rw [e]
  refine pairs_three (t := h) (c := c) (fun x b z => ?_) hc (h3 h)
  unfold extB at z
  unfold toIs oneOf
  cases eb : bs[b]? with
  | none => rw [eb] at z; cases z
  | some y =>
    rw [eb] at z
    dsimp only at z ⊢
    by_cases k : y.one = x.h ∧ m < y.to ∧ y.to ∉ x.met
    · rw [if_pos k] at z
      by_cases q : y.to = h
      · exact ⟨decide_eq_true q, k.1⟩
      · simp [q] at z
    · rw [if_neg k] at z; cases z
theorem cnt_Xs {bs : List BR} {m : Nat} (h3 : ∀ t, (bs.map BR.to).count t ≤ 3) : ∀ j h, cntW (Xs bs m j) h ≤ 3 ^ j
  | 0, h => by
    show cntW [⟨m, [], [m]⟩] h ≤ 1
    unfold cntW
    exact Nat.le_trans (List.length_filter_le ..) (Nat.le_refl _)
  | j + 1, h => by
    have := cnt_next (m := m) (X := Xs bs m j) h3 (cnt_Xs h3 j) h
    show cntW (nextX bs m (Xs bs m j)) h ≤ 3 ^ (j + 1)
    rw [Nat.pow_succ]
    omega
theorem clo_len {bs : List BR} {m c : Nat} {X : List Rw} (h3 : ∀ t, (bs.map BR.to).count t ≤ 3) (hc : ∀ h, cntW X h ≤ c) : (cloX bs m X).length ≤ 3 * c := by
  refine pairs_three (t := m) (c := c) (fun x b z => ?_) hc (h3 m)
  unfold cloB at z
  unfold toIs oneOf
  cases eb : bs[b]? with
  | none => rw [eb] at z; cases z
  | some y =>
    rw [eb] at z
    dsimp only at z ⊢
    by_cases k : y.one = x.h ∧ y.to = m
    · exact ⟨decide_eq_true k.2, k.1⟩
    · rw [if_neg k] at z; cases z
theorem len_cnt {c : Nat} : ∀ (n : Nat) (X : List Rw), (∀ x ∈ X, x.h < n) → (∀ h, cntW X h ≤ c) → X.length ≤ n * c
  | 0, X, hX, _ => by
    cases X with
    | nil => exact Nat.zero_le _
    | cons x X => exact absurd (hX x (List.mem_cons_self ..)) (Nat.not_lt_zero _)
  | n + 1, X, hX, hc => by
    have split : X.length = (X.filter fun x => decide (x.h = n)).length + (X.filter fun x => !decide (x.h = n)).length := by
      have : ∀ X : List Rw, X.length = (X.filter fun x => decide (x.h = n)).length + (X.filter fun x => !decide (x.h = n)).length := fun X => by
        induction X with
        | nil => rfl
        | cons x X ih =>
          by_cases z : x.h = n
          · rw [List.filter_cons_of_pos (by simpa using z), List.filter_cons_of_neg (by simpa using z), List.length_cons, List.length_cons, ih]; omega
          · rw [List.filter_cons_of_neg (by simpa using z), List.filter_cons_of_pos (by simpa using z), List.length_cons, List.length_cons, ih]; omega
      exact this X
    have ih := len_cnt n (X.filter fun x => !decide (x.h = n)) (fun x hx => by
      obtain ⟨h1, h2⟩ := List.mem_filter.mp hx
      have := hX x h1
      have h2 : x.h ≠ n := by simpa using h2
      omega) (fun h => Nat.le_trans (by
        unfold cntW
        rw [List.filter_filter]
        have : ∀ X : List Rw, (X.filter fun x => decide (x.h = h) && !decide (x.h = n)).length ≤ (X.filter fun x => decide (x.h = h)).length := fun X => by
          have e : (X.filter fun x => decide (x.h = h) && !decide (x.h = n)) = (X.filter fun x => decide (x.h = h)).filter fun x => !decide (x.h = n) := by
            rw [List.filter_filter]
            refine congrArg (fun p => List.filter p X) (funext fun x => Bool.and_comm ..)
          rw [e]
          exact List.length_filter_le ..
        exact this X) (hc h))
    have := hc n
    unfold cntW at this
    rw [split, Nat.add_mul, Nat.one_mul]
    omega
/-- what an item is: a way from m, its hands met -/
structure RwOk (bs : List BR) (m j : Nat) (x : Rw) : Prop where
  way : wayEnd bs m x.ns = some x.h
  lt : ∀ n ∈ x.ns, n < bs.length
  len : x.ns.length = j
  met : x.met = m :: x.ns.map (toB bs)
theorem Xs_ok {bs : List BR} {m : Nat} : ∀ j, ∀ x ∈ Xs bs m j, RwOk bs m j x
  | 0, x, hx => by
    obtain rfl : x = ⟨m, [], [m]⟩ := by simpa [Xs] using hx
    exact ⟨rfl, (fun _ z => nomatch z), rfl, rfl⟩
  | j + 1, x, hx => by
    obtain ⟨y, hy, hx⟩ := List.mem_flatMap.mp hx
    obtain ⟨b, hb, e⟩ := List.mem_filterMap.mp hx
    have ok := Xs_ok j y hy
    unfold extB at e
    cases eb : bs[b]? with
    | none => rw [eb] at e; cases e
    | some z =>
      rw [eb] at e
      dsimp only at e
      by_cases k : z.one = y.h ∧ m < z.to ∧ z.to ∉ y.met
      · rw [if_pos k] at e
        cases e
        refine ⟨?_, fun n hn => ?_, by rw [List.length_append, ok.len]; rfl, ?_⟩
        · have app : ∀ {ns : List Nat} {k : Nat}, wayEnd bs k ns = some y.h → wayEnd bs k (ns ++ [b]) = some z.to := by
            intro ns
            induction ns with
            | nil => intro k w; cases w; rw [List.nil_append, wayEnd_cons eb, if_pos k.1]; rfl
            | cons a ns ih =>
              intro k w
              cases ea : bs[a]? with
              | none =>
                have : wayEnd bs k (a :: ns) = none := by
                  show (match bs[a]? with | some b => if b.one = k then wayEnd bs b.to ns else none | none => none) = none
                  rw [ea]
                rw [this] at w; cases w
              | some v =>
                rw [wayEnd_cons ea] at w
                rw [List.cons_append, wayEnd_cons ea]
                by_cases q : v.one = k
                · rw [if_pos q] at w ⊢; exact ih w
                · rw [if_neg q] at w; cases w
          exact app ok.way
        · rcases List.mem_append.mp hn with hn | hn
          · exact ok.lt n hn
          · rw [List.mem_singleton.mp hn]; exact List.mem_range.mp hb
        · rw [ok.met, List.map_append]
          show m :: _ ++ _ = m :: (_ ++ [toB bs b])
          rw [show toB bs b = z.to by unfold toB; rw [eb]]
          rfl
      · rw [if_neg k] at e; cases e
def ringsM (bs : List BR) (n m : Nat) : List (Nat × List Nat) := (List.range n).flatMap fun j => cloX bs m (Xs bs m j)
def allR (bs : List BR) (n : Nat) : List (Nat × List Nat) := (List.range n).flatMap (ringsM bs n)
theorem flat_succ {α : Type} {g : Nat → List α} (i : Nat) : (List.range (i + 1)).flatMap g = (List.range i).flatMap g ++ g i := by
  rw [List.range_succ, List.flatMap_append]
  simp
theorem clos_len {bs : List BR} {m : Nat} (h3 : ∀ t, (bs.map BR.to).count t ≤ 3) : ∀ j, 2 * ((List.range j).flatMap fun j => cloX bs m (Xs bs m j)).length + 3 ≤ 3 ^ (j + 1)
  | 0 => Nat.le_refl _
  | j + 1 => by
    have ih := clos_len (m := m) h3 j
    have c := clo_len (m := m) h3 (cnt_Xs (m := m) h3 j)
    rw [flat_succ, List.length_append, Nat.pow_succ 3 (j + 1)]
    rw [Nat.pow_succ] at ih ⊢
    omega
theorem all_len {bs : List BR} {n : Nat} (h3 : ∀ t, (bs.map BR.to).count t ≤ 3) (n12 : n ≤ 12) : ∀ i, ((List.range i).flatMap (ringsM bs n)).length ≤ i * 797160
  | 0 => Nat.zero_le _
  | i + 1 => by
    have ih := all_len h3 n12 i
    have c : 2 * (ringsM bs n i).length + 3 ≤ 3 ^ (n + 1) := clos_len (m := i) h3 n
    have p : 3 ^ (n + 1) ≤ 3 ^ 13 := Nat.pow_le_pow_right (by decide) (by omega)
    rw [flat_succ, List.length_append, Nat.add_mul]
    have e : (3 : Nat) ^ 13 = 1594323 := by decide
    omega
theorem part_len {α β : Type} {X : List α} {g : α → Nat → Option β} {N i b : Nat} {x : α} (e : X[i]? = some x) (hb : b ≤ N) : ((X.take i).flatMap (fun x => (List.range N).filterMap (g x)) ++ (List.range b).filterMap (g x)).length ≤ (X.flatMap fun x => (List.range N).filterMap (g x)).length := by
  obtain ⟨hi, z⟩ := List.getElem?_eq_some_iff.mp e
  have split : X = X.take i ++ (x :: X.drop (i + 1)) := by
    rw [← z, ← List.drop_eq_getElem_cons hi, List.take_append_drop]
  have r : (List.range b).filterMap (g x) <+: (List.range N).filterMap (g x) := by
    have : List.range b <+: List.range N := by
      rw [List.prefix_iff_eq_take, List.length_range, List.take_range, Nat.min_eq_left hb]
    obtain ⟨l, hl⟩ := this
    rw [← hl, List.filterMap_append]
    exact List.prefix_append ..
  have e2 : (X.flatMap fun x => (List.range N).filterMap (g x)).length = ((X.take i).flatMap fun x => (List.range N).filterMap (g x)).length + (((List.range N).filterMap (g x)).length + ((X.drop (i + 1)).flatMap fun x => (List.range N).filterMap (g x)).length) := by
    conv => lhs; rw [split, List.flatMap_append, List.length_append, List.flatMap_cons, List.length_append]
  rw [e2, List.length_append]
  have := r.length_le
  omega
theorem fm_succ {β : Type} {f : Nat → Option β} (b : Nat) : (List.range (b + 1)).filterMap f = (List.range b).filterMap f ++ (f b).toList := by
  rw [List.range_succ, List.filterMap_append]
  cases e : f b with
  | none => rw [List.filterMap_cons_none e]; rfl
  | some y => rw [List.filterMap_cons_some e]; rfl
theorem fm_none {β : Type} {f : Nat → Option β} {b : Nat} (e : f b = none) : (List.range (b + 1)).filterMap f = (List.range b).filterMap f := by rw [fm_succ, e]; exact List.append_nil _
theorem fm_some {β : Type} {f : Nat → Option β} {b : Nat} {y : β} (e : f b = some y) : (List.range (b + 1)).filterMap f = (List.range b).filterMap f ++ [y] := by rw [fm_succ, e]; rfl
def RwAt (H : Hp) (v : V) (x : Rw) : Prop := ∃ t g q : Addr, v = .ref t ∧ H t = some (.tup [nV x.h, .ref g, .ref q]) ∧ H g = some (.tup (x.ns.map nV)) ∧ H q = some (.tup (x.met.map nV))
theorem RwAt.keep {H H' : Hp} {v : V} {x : Rw} (a : RwAt H v x) (k : TK H H') : RwAt H' v x := by
  obtain ⟨t, g, q, e, h1, h2, h3⟩ := a
  exact ⟨t, g, q, e, k _ _ h1, k _ _ h2, k _ _ h3⟩
section
variable {P : Program} {w : World} {K : PySem.W.Frag} {mg : Str → Option Value} {base : Heap}
def sp_law_rings (K : PySem.W.Frag) : Sp := fun vs H Q _ => ∃ (r : Addr) (hs : List HR) (bs : List BR), vs = [.ref r] ∧ RoomAt H r hs bs ∧ hs.length ≤ 12 ∧ bs.length ≤ 20 ∧ (∀ b ∈ bs, b.to < hs.length) ∧ (∀ t, (bs.map BR.to).count t ≤ 3) ∧
  ∀ (l : Addr) (rv : List V) (H' : Hp), H' l = some (.lst rv) → All2 (RgAt H') rv (allR bs hs.length) → Same H H' → Q (.ref l) H'
theorem ok_law_rings {f : Addr} {fd : FuncData} (F : Fun K "_law_rings" "_law_rings" s_law_rings f fd) (T : Top K mg) : FnOk P w K mg base CX0 1 f fd ["_law_room_here"] (sp_law_rings K) := by
  refine F.ok sc_law_rings (fun vs H Q E h => ?_) (fun cdv A outer s H vs Q E hr h => ?_)
  · obtain ⟨r, hs, bs, rfl, _⟩ := h
    rfl
  obtain ⟨r, hs, bs, rfl, hR, lh, lb, hto, h3, q⟩ := h
  obtain ⟨ha, ba, hv, bv, er, eh, eb, alh, alb⟩ := hR.ex
  have lhv := alh.length
  have lbv := alb.length
  have p13 : ∀ j, j ≤ 12 → 3 ^ (j + 1) ≤ 1594323 := fun j hj => by
    have p : 3 ^ (j + 1) ≤ 3 ^ 13 := Nat.pow_le_pow_right (by decide) (by omega)
    have e : (3 : Nat) ^ 13 = 1594323 := by decide
    omega
  have line : sizeLine = 16777216 := by decide
  let R1 : TS := fun D' σ' H' => D'.rt = Q ∧ ∃ fl : Addr, H fl = none ∧ H' = upd H fl (.lst []) ∧ σ' = [some (.ref r), some (.ref fl), none, none, none, none, none, none, none, none, none]
  let R2 : TS := fun D' σ' H' => ∃ (fl hl : Addr) (m : Nat) (v4 v5 v6 v7 v8 v9 v10 : Option V) (rv hw : List V), m < hs.length ∧ σ' = [some (.ref r), some (.ref fl), some (nV m), some (.ref hl), v4, v5, v6, v7, v8, v9, v10] ∧ H fl = none ∧ H' fl = some (.lst rv) ∧ All2 (RgAt H') rv ((List.range m).flatMap (ringsM bs hs.length)) ∧ H' hl = some (.lst hw) ∧ All2 (RwAt H') hw (Xs bs m 0) ∧ fl ≠ hl ∧ Same H H' ∧
    ∀ σ2 H2 (rv2 : List V), (∃ v2 v3 v4 v5 v6 v7 v8 v9 v10 : Option V, σ2 = [some (.ref r), some (.ref fl), v2, v3, v4, v5, v6, v7, v8, v9, v10]) → H2 fl = some (.lst rv2) → All2 (RgAt H2) rv2 ((List.range (m + 1)).flatMap (ringsM bs hs.length)) → Same H H2 → D'.nx σ2 H2
  refine ⟨_, (pss_cons (ps_set (i := 1) sc_law_rings.nd rfl (Or.inl rfl) (pe_lst pa_nil))
      (PSs.to (pss_cons (ps_for PassesOwn.never rfl (pi_range1 (by rfl) T.m_range (pa_cons (pe_callB (call_len_seqK K rfl) (by rfl) T.m_len (by decide +kernel) (pa_cons (pe_ix (ix_tupK K rfl) (pv 0) pe_int (fun _ _ => rfl)) pa_nil)) pa_nil)) (pg_name (i := 2) sc_law_rings.nd rfl (Or.inl rfl))
        (pss_cons (ps_set (i := 3) sc_law_rings.nd rfl (Or.inl rfl) (pe_lst (pa_cons (pe_tup (pa_cons (pv 2) (pa_cons (pe_tup pa_nil) (pa_cons (pe_tup (pa_cons (pv 2) pa_nil)) pa_nil)))) pa_nil)))
      (PSs.to (pss_one (ps_for PassesOwn.never rfl (pi_range1 (by rfl) T.m_range (pa_cons (pe_callB (call_len_seqK K rfl) (by rfl) T.m_len (by decide +kernel) (pa_cons (pe_ix (ix_tupK K rfl) (pv 0) pe_int (fun _ _ => rfl)) pa_nil)) pa_nil)) (pg_name (i := 4) sc_law_rings.nd rfl (Or.inl rfl))
        (pss_cons (ps_set (i := 5) sc_law_rings.nd rfl (Or.inl rfl) (pe_lst pa_nil))
      (pss_cons (ps_for PassesOwn.never rfl (pi_listK K rfl (pv 3)) (pg_tupK K rfl rfl (pgs_cons (pg_name (i := 6) sc_law_rings.nd rfl (Or.inl rfl)) (pgs_cons (pg_name (i := 7) sc_law_rings.nd rfl (Or.inl rfl)) (pgs_cons (pg_name (i := 8) sc_law_rings.nd rfl (Or.inl rfl)) pgs_nil))))
        (pss_one (ps_for PassesOwn.never rfl (pi_enumT K rfl (by rfl) T.m_enumerate (pa_cons (pe_ix (ix_tupK K rfl) (pv 0) pe_int (fun _ _ => rfl)) pa_nil)) (pg_tupK K rfl rfl (pgs_cons (pg_name (i := 9) sc_law_rings.nd rfl (Or.inl rfl)) (pgs_cons (pg_name (i := 10) sc_law_rings.nd rfl (Or.inl rfl)) pgs_nil)))
        (pss_one (ps_if (PW.pt (pw_and (pt_cmpR op_eq (pe_ix (ix_tupK K rfl) (pv 10) pe_int (fun _ _ => rfl)) (pv 6) (nomark _)) (pw_and1 (pt_cmpR op_eq (pe_ix (ix_tupK K rfl) (pv 10) pe_int (fun _ _ => rfl)) (pv 2) (nomark _))))) (pss_one (ps_expr (pe_bmK K rfl PySem.F.plainAttrs_list PySem.F.slot_list_append PySem.F.type_list_append mt_append (pv 1) (pa_cons (pe_tup (pa_cons (pv 2) (pa_cons (pe_op (op_catAK K rfl) (pv 7) (pe_tup (pa_cons (pv 9) pa_nil))) pa_nil))) pa_nil)))) (pss_one (ps_if (PW.pt (pw_and (pt_cmpR op_eq (pe_ix (ix_tupK K rfl) (pv 10) pe_int (fun _ _ => rfl)) (pv 6) (nomark _)) (pw_and (pt_cmpR op_gt (pe_ix (ix_tupK K rfl) (pv 10) pe_int (fun _ _ => rfl)) (pv 2) (nomark _)) (pw_and1 (pt_cmpR (op_notIn_seqK K rfl) (pe_ix (ix_tupK K rfl) (pv 10) pe_int (fun _ _ => rfl)) (pv 8) (by with_unfolding_all rfl)))))) (pss_one (ps_expr (pe_bmK K rfl PySem.F.plainAttrs_list PySem.F.slot_list_append PySem.F.type_list_append mt_append (pv 5) (pa_cons (pe_tup (pa_cons (pe_ix (ix_tupK K rfl) (pv 10) pe_int (fun _ _ => rfl)) (pa_cons (pe_op (op_catAK K rfl) (pv 7) (pe_tup (pa_cons (pv 9) pa_nil))) (pa_cons (pe_op (op_catAK K rfl) (pv 8) (pe_tup (pa_cons (pe_ix (ix_tupK K rfl) (pv 10) pe_int (fun _ _ => rfl)) pa_nil))) pa_nil)))) pa_nil)))) pss_nil)))))))
      (pss_one (ps_set (i := 3) sc_law_rings.nd rfl (Or.inl rfl) (pv 5))))))) R2 ?tail2)))
      (pss_one (ps_ret (pv 1)))) R1 ?tail1)), ?_⟩
  case tail2 =>
    rintro D' σ' H1 ⟨fl, hl0, m, v4, v5, v6, v7, v8, v9, v10, rv0, hw0, hm, rfl, nfl, hfl0, al0, hhl0, alw0, fhl0, s1, nx⟩
    have bU := all_len (n := hs.length) h3 lh m
    have bU2 : m * 797160 ≤ 11 * 797160 := Nat.mul_le_mul_right _ (by omega)
    refine ⟨_, rfl, r, _, _, _, rfl, rfl, SqT.of (s1 _ _ er), atI_nat (j := 0) rfl, ha, _, rfl, .inr (SqT.of (s1 _ _ eh)), _, rfl, by omega, by omega, for_range (lo := 0) (n := hv.length) (fun j σ H2 => ∃ (hl : Addr) (rv hw : List V), (∃ v4 v5 v6 v7 v8 v9 v10 : Option V, σ = [some (.ref r), some (.ref fl), some (nV m), some (.ref hl), v4, v5, v6, v7, v8, v9, v10]) ∧ H2 fl = some (.lst rv) ∧ All2 (RgAt H2) rv ((List.range m).flatMap (ringsM bs hs.length) ++ (List.range j).flatMap fun j => cloX bs m (Xs bs m j)) ∧ H2 hl = some (.lst hw) ∧ All2 (RwAt H2) hw (Xs bs m j) ∧ fl ≠ hl ∧ Same H H2) ⟨hl0, rv0, hw0, ⟨_, _, _, _, _, _, _, rfl⟩, hfl0, (by rw [show (List.range 0).flatMap (fun j => cloX bs m (Xs bs m j)) = [] from rfl, List.append_nil]; exact al0), hhl0, alw0, fhl0, s1⟩ ?_ ?_⟩
    · rintro j σ H2 hj ⟨hl, rv, hw, ⟨v4, v5, v6, v7, v8, v9, v10, rfl⟩, hfl, al, hhl, alw, fhl, s2⟩
      have bC := clos_len (m := m) h3 j
      have bP := p13 j (by omega)
      have bP2 := p13 (j + 1) (by omega)
      have bX := cnt_Xs (m := m) h3 j
      have bcl := clo_len (m := m) h3 bX
      have bnx : (nextX bs m (Xs bs m j)).length ≤ 12 * 3 ^ (j + 1) := by
        have h1 := len_cnt hs.length (nextX bs m (Xs bs m j)) (fun x hx => by
          obtain ⟨y, hy, hx⟩ := List.mem_flatMap.mp hx
          obtain ⟨b, hb, e⟩ := List.mem_filterMap.mp hx
          unfold extB at e
          cases ebb : bs[b]? with
          | none => rw [ebb] at e; cases e
          | some z =>
            rw [ebb] at e
            dsimp only at e
            by_cases k : z.one = y.h ∧ m < z.to ∧ z.to ∉ y.met
            · rw [if_pos k] at e; cases e; exact hto z (List.mem_of_getElem? ebb)
            · rw [if_neg k] at e; cases e) (cnt_Xs (m := m) h3 (j + 1))
        exact Nat.le_trans h1 (Nat.mul_le_mul_right _ lh)
      refine ⟨(by show 0 ≤ sizeLine; decide), fun ll nll => ?_⟩
      have fll : fl ≠ ll := ne_of_none hfl nll
      have hll : hl ≠ ll := ne_of_none hhl nll
      have nll0 : H ll = none := same_none s2 nll
      have s3 := same_new (o := .lst []) nll
      refine ⟨_, rfl, hl, rfl, ⟨_, SqL.of (s3 _ _ hhl)⟩, for_list (K := K) (a := hl) (xs := hw) (fun i σ H4 => ∃ rv lw : List V, (∃ v6 v7 v8 v9 v10 : Option V, σ = [some (.ref r), some (.ref fl), some (nV m), some (.ref hl), some (V.int (0 + ((j : Nat) : Int))), some (.ref ll), v6, v7, v8, v9, v10]) ∧ H4 fl = some (.lst rv) ∧ All2 (RgAt H4) rv (((List.range m).flatMap (ringsM bs hs.length) ++ (List.range j).flatMap fun j => cloX bs m (Xs bs m j)) ++ ((Xs bs m j).take i).flatMap fun x => (List.range bs.length).filterMap (cloB bs m x)) ∧ H4 ll = some (.lst lw) ∧ All2 (RwAt H4) lw (((Xs bs m j).take i).flatMap fun x => (List.range bs.length).filterMap (extB bs m x)) ∧ H4 hl = some (.lst hw) ∧ TK H2 H4 ∧ Same H H4) ⟨rv, [], ⟨_, _, _, _, _, rfl⟩, s3 _ _ hfl, (by rw [List.take_zero]; exact (List.append_nil _).symm ▸ al.imp fun _ _ z => z.keep (TK.same s3)), upd_same, (by rw [List.take_zero]; exact .nil), s3 _ _ hhl, TK.same s3, s2.trans s3⟩ (fun i σ H4 _ ⟨_, _, _, _, _, _, _, h, _⟩ => SqL.of h) ?_ ?_⟩
      · rintro i v σ H4 hv4 ⟨rv4, lw4, ⟨v6, v7, v8, v9, v10, rfl⟩, hfl4, al4, hll4, alw4, hhl4, k4, s4⟩
        obtain ⟨x, ex, hx0⟩ := alw.getL hv4
        have xok := Xs_ok j x (List.mem_of_getElem? ex)
        obtain ⟨t, g, qq, rfl, ht, hg, hq⟩ := hx0.keep k4
        refine ⟨t, _, rfl, SqT.of ht, rfl, _, _, rfl, _, _, rfl, _, _, rfl, rfl, ?_⟩
        refine ⟨_, rfl, r, _, _, _, rfl, rfl, SqT.of (s4 _ _ er), atI_nat (j := 1) rfl, ba, bv, rfl, SqT.of (s4 _ _ eb), for_it (J := IteT K ba bv) (n := bv.length) (fun b σ H5 => ∃ rv lw : List V, (∃ v9 v10 : Option V, σ = [some (.ref r), some (.ref fl), some (nV m), some (.ref hl), some (V.int (0 + ((j : Nat) : Int))), some (.ref ll), some (nV x.h), some (.ref g), some (.ref qq), v9, v10]) ∧ H5 fl = some (.lst rv) ∧ All2 (RgAt H5) rv (((List.range m).flatMap (ringsM bs hs.length) ++ (List.range j).flatMap fun j => cloX bs m (Xs bs m j)) ++ (((Xs bs m j).take i).flatMap (fun x => (List.range bs.length).filterMap (cloB bs m x)) ++ (List.range b).filterMap (cloB bs m x))) ∧ H5 ll = some (.lst lw) ∧ All2 (RwAt H5) lw (((Xs bs m j).take i).flatMap (fun x => (List.range bs.length).filterMap (extB bs m x)) ++ (List.range b).filterMap (extB bs m x)) ∧ H5 hl = some (.lst hw) ∧ TK H4 H5 ∧ Same H H5) ⟨rv4, lw4, ⟨_, _, rfl⟩, hfl4, (by rw [show (List.range 0).filterMap (cloB bs m x) = [] from rfl, List.append_nil]; exact al4), hll4, (by rw [show (List.range 0).filterMap (extB bs m x) = [] from rfl, List.append_nil]; exact alw4), hhl4, TK.refl, s4⟩ ?_ ?_ ?_ ?_⟩
        · rintro b σ H5 hb ⟨rv5, lw5, _, _, _, _, _, _, _, s5⟩
          exact ⟨SqT.of (s5 _ _ eb), hb⟩
        · rintro σ H5 ⟨rv5, lw5, _, _, _, _, _, _, _, s5⟩
          exact ⟨SqT.of (s5 _ _ eb), rfl⟩
        · rintro b v σ H5 H6 hb ⟨rv5, lw5, ⟨v9, v10, rfl⟩, hfl5, al5, hll5, alw5, hhl5, k5, s5⟩ ⟨t2, y, rfl, nt2, rfl, ey⟩
          obtain ⟨z, ebz, ⟨tb, gb, rfl, e1, e2⟩⟩ := alb.getL ey
          have s6 := same_new (H := H5) (o := .tup [V.int ((b : Nat) : Int), V.ref tb]) nt2
          have s06 := s5.trans s6
          have ksl := part_len (g := cloB bs m) (N := bs.length) ex (show b ≤ bs.length by omega)
          have kex := part_len (g := extB bs m) (N := bs.length) ex (show b ≤ bs.length by omega)
          have l5 := al5.length
          have lw5' := alw5.length
          have hg6 := s6 _ _ (k5 _ _ hg)
          have hq6 := s6 _ _ (k5 _ _ hq)
          have l12 : x.ns.length ≤ 12 := by rw [xok.len]; omega
          have lmet : x.met.length ≤ 13 := by rw [xok.met, List.length_cons, List.length_map, xok.len]; omega
          rw [List.length_append, List.length_append] at l5
          have room5 : rv5.length < sizeLine := by unfold cloX at bcl; omega
          have room6 : lw5.length < sizeLine := by unfold nextX at bnx; omega
          have same2 : cloB bs m x b = none → extB bs m x b = none → ∃ rv lw : List V, (∃ v9 v10 : Option V, [some (V.ref r), some (V.ref fl), some (nV m), some (V.ref hl), some (V.int (0 + ((j : Nat) : Int))), some (V.ref ll), some (nV x.h), some (V.ref g), some (V.ref qq), some (V.int ((b : Nat) : Int)), some (V.ref tb)] = [some (V.ref r), some (V.ref fl), some (nV m), some (V.ref hl), some (V.int (0 + ((j : Nat) : Int))), some (V.ref ll), some (nV x.h), some (V.ref g), some (V.ref qq), v9, v10]) ∧ upd H5 t2 (.tup [V.int ((b : Nat) : Int), V.ref tb]) fl = some (.lst rv) ∧ All2 (RgAt (upd H5 t2 (.tup [V.int ((b : Nat) : Int), V.ref tb]))) rv (((List.range m).flatMap (ringsM bs hs.length) ++ (List.range j).flatMap fun j => cloX bs m (Xs bs m j)) ++ (((Xs bs m j).take i).flatMap (fun x => (List.range bs.length).filterMap (cloB bs m x)) ++ (List.range (b + 1)).filterMap (cloB bs m x))) ∧ upd H5 t2 (.tup [V.int ((b : Nat) : Int), V.ref tb]) ll = some (.lst lw) ∧ All2 (RwAt (upd H5 t2 (.tup [V.int ((b : Nat) : Int), V.ref tb]))) lw (((Xs bs m j).take i).flatMap (fun x => (List.range bs.length).filterMap (extB bs m x)) ++ (List.range (b + 1)).filterMap (extB bs m x)) ∧ upd H5 t2 (.tup [V.int ((b : Nat) : Int), V.ref tb]) hl = some (.lst hw) ∧ TK H4 (upd H5 t2 (.tup [V.int ((b : Nat) : Int), V.ref tb])) ∧ Same H (upd H5 t2 (.tup [V.int ((b : Nat) : Int), V.ref tb])) := fun n1 n2 =>
            ⟨rv5, lw5, ⟨_, _, rfl⟩, s6 _ _ hfl5, (by rw [fm_none n1]; exact al5.imp fun _ _ z => z.keep (TK.same s6)), s6 _ _ hll5, (by rw [fm_none n2]; exact alw5.imp fun _ _ z => z.keep (TK.same s6)), s6 _ _ hhl5, k5.trans (TK.same s6), s06⟩
          refine ⟨t2, _, rfl, SqT.of upd_same, rfl, _, _, rfl, _, _, rfl, rfl, ?_⟩
          refine ⟨_, rfl, tb, _, _, _, rfl, rfl, SqT.of (s06 _ _ e1), atI_nat (j := 0) rfl, _, rfl, rfl, _, rfl, ?_⟩
          have no1 : z.one ≠ x.h → cloB bs m x b = none ∧ extB bs m x b = none := fun c => by
            unfold cloB extB
            rw [ebz]
            exact ⟨if_neg fun k => c k.1, if_neg fun k => c k.1⟩
          by_cases c1 : z.one = x.h
          · rw [decide_eq_true (show nV z.one = nV x.h by rw [c1])]
            refine if_bl (fun _ => ?_) (fun q => nomatch q)
            refine ⟨_, rfl, tb, _, _, _, rfl, rfl, SqT.of (s06 _ _ e1), atI_nat (j := 1) rfl, _, rfl, rfl, _, rfl, ?_⟩
            by_cases c2 : z.to = m
            · rw [decide_eq_true (show nV z.to = nV m by rw [c2])]
              refine if_bl (fun _ => ?_) (fun q => nomatch q)
              have ec : cloB bs m x b = some (m, x.ns ++ [b]) := by unfold cloB; rw [ebz]; exact if_pos ⟨c1, c2⟩
              have ee : extB bs m x b = none := by unfold extB; rw [ebz]; exact if_neg fun k => by omega
              refine ⟨_, rfl, .inl ⟨rfl, _, SqL.of (s6 _ _ hfl5)⟩, _, rfl, _, rfl, _, rfl, (by show 1 ≤ sizeLine; decide), fun b1 nb1 => ?_⟩
              refine catA_of (same_new nb1 _ _ hg6) upd_same (by rw [List.length_map]; show _ + 1 ≤ 1000; omega) fun p2 H7 h7 s7 => ⟨(by show 2 ≤ sizeLine; decide), fun pt npt => ?_⟩
              have s67 := (s6.trans (same_new (o := .tup [V.int ((b : Nat) : Int)]) nb1)).trans (s7.trans (same_new (o := .tup [nV m, .ref p2]) npt))
              have hfl7 := s67 _ _ hfl5
              refine ⟨fl, _, _, rfl, rfl, hfl7, room5, ?_⟩
              have k7 : TK H5 _ := (TK.same s67).trans (TK.lst (ys := rv5 ++ [.ref pt]) hfl7)
              refine ⟨rv5 ++ [.ref pt], lw5, ⟨_, _, rfl⟩, upd_same, ?_, by rw [upd_ne fll.symm]; exact s67 _ _ hll5, (by rw [fm_none ee]; exact alw5.imp fun _ _ z => z.keep k7), by rw [upd_ne fhl.symm]; exact s67 _ _ hhl5, k5.trans k7, Same.own (s5.trans s67) nfl⟩
              rw [fm_some ec, ← List.append_assoc, ← List.append_assoc]
              refine All2.snoc ⟨pt, rfl, p2, ?_, ?_⟩ (by rw [List.append_assoc]; exact al5.imp fun _ _ z => z.keep k7)
              · exact TK.lst hfl7 _ _ upd_same
              · refine (TK.lst hfl7 _ _ (same_new npt _ _ h7)).trans ?_
                rw [List.map_append]
                rfl
            · rw [decide_eq_false (show ¬ nV z.to = nV m from fun q => c2 (by have := V.int.inj q; omega))]
              refine if_bl (fun q => nomatch q) (fun _ => ?_)
              have ec : cloB bs m x b = none := by unfold cloB; rw [ebz]; exact if_neg fun k => c2 k.2
              refine ⟨_, rfl, tb, _, _, _, rfl, rfl, SqT.of (s06 _ _ e1), atI_nat (j := 0) rfl, _, rfl, rfl, _, rfl, ?_⟩
              rw [decide_eq_true (show nV z.one = nV x.h by rw [c1])]
              refine if_bl (fun _ => ?_) (fun q => nomatch q)
              refine ⟨_, rfl, tb, _, _, _, rfl, rfl, SqT.of (s06 _ _ e1), atI_nat (j := 1) rfl, _, rfl, _, _, rfl, rfl, _, rfl, if_bl (fun c3 => ?_) (fun c3 => ?_)⟩
              · have c3 : m < z.to := by have := of_decide_eq_true c3; omega
                refine ⟨_, rfl, tb, _, _, _, rfl, rfl, SqT.of (s06 _ _ e1), atI_nat (j := 1) rfl, _, rfl, qq, _, rfl, .inr (SqT.of hq6), rfl, (List.all_eq_true.mpr fun v hv => by obtain ⟨n, _, rfl⟩ := List.mem_map.mp hv; rfl), _, rfl, ?_⟩
                rw [if_pos rfl]
                by_cases c4 : z.to ∈ x.met
                · rw [show inV (nV z.to) (x.met.map nV) = true from inV_nats.mpr c4]
                  refine if_bl (fun q => nomatch q) (fun _ => ?_)
                  exact same2 ec (by unfold extB; rw [ebz]; exact if_neg fun k => k.2.2 c4)
                · rw [show inV (nV z.to) (x.met.map nV) = false from Bool.eq_false_iff.mpr fun q => c4 (inV_nats.mp q)]
                  refine if_bl (fun _ => ?_) (fun q => nomatch q)
                  have ee : extB bs m x b = some ⟨z.to, x.ns ++ [b], x.met ++ [z.to]⟩ := by unfold extB; rw [ebz]; exact if_pos ⟨c1, c3, c4⟩
                  have hll6 := s6 _ _ hll5
                  refine ⟨_, rfl, .inl ⟨rfl, _, SqL.of hll6⟩, _, rfl, tb, _, _, _, rfl, rfl, SqT.of (s06 _ _ e1), atI_nat (j := 1) rfl, _, rfl, _, rfl, (by show 1 ≤ sizeLine; decide), fun b1 nb1 => ?_⟩
                  have s61 := s6.trans (same_new (o := .tup [V.int ((b : Nat) : Int)]) nb1)
                  refine catA_of (same_new nb1 _ _ hg6) upd_same (by rw [List.length_map]; show _ + 1 ≤ 1000; omega) fun p2 H7 h7 s7 => ?_
                  have s67 := s61.trans s7
                  refine ⟨_, rfl, _, rfl, tb, _, _, _, rfl, rfl, SqT.of ((s5.trans s67) _ _ e1), atI_nat (j := 1) rfl, (by show 1 ≤ sizeLine; decide), fun b2 nb2 => ?_⟩
                  have s68 := s67.trans (same_new (o := .tup [nV z.to]) nb2)
                  refine catA_of (s68 _ _ (k5 _ _ hq)) upd_same (by rw [List.length_map]; show _ + 1 ≤ 1000; omega) fun p3 H8 h8 s8 => ⟨(by show 3 ≤ sizeLine; decide), fun pt npt => ?_⟩
                  have s8' := (same_new (H := H7) (o := .tup [nV z.to]) nb2).trans (s8.trans (same_new (o := .tup [nV z.to, .ref p2, .ref p3]) npt))
                  have s69 := s67.trans s8'
                  have hll9 := s69 _ _ hll5
                  refine ⟨ll, _, _, rfl, rfl, hll9, room6, ?_⟩
                  have k7 : TK H5 _ := (TK.same s69).trans (TK.lst (ys := lw5 ++ [.ref pt]) hll9)
                  refine ⟨rv5, lw5 ++ [.ref pt], ⟨_, _, rfl⟩, by rw [upd_ne fll]; exact s69 _ _ hfl5, (by rw [fm_none ec]; exact al5.imp fun _ _ z => z.keep k7), upd_same, ?_, by rw [upd_ne hll]; exact s69 _ _ hhl5, k5.trans k7, Same.own (s5.trans s69) nll0⟩
                  rw [fm_some ee, ← List.append_assoc]
                  refine All2.snoc ⟨pt, p2, p3, rfl, ?_, ?_, ?_⟩ (alw5.imp fun _ _ z => z.keep k7)
                  · exact TK.lst hll9 _ _ upd_same
                  · refine (TK.lst hll9 _ _ (s8' _ _ h7)).trans ?_
                    rw [List.map_append]
                    rfl
                  · refine (TK.lst hll9 _ _ (same_new npt _ _ h8)).trans ?_
                    rw [List.map_append]
                    rfl
              · have c3 := of_decide_eq_false c3
                exact same2 ec (by unfold extB; rw [ebz]; exact if_neg fun k => c3 (by have := k.2.1; omega))
          · rw [decide_eq_false (show ¬ nV z.one = nV x.h from fun q => c1 (by have := V.int.inj q; omega))]
            refine if_bl (fun q => nomatch q) (fun _ => ?_)
            refine ⟨_, rfl, tb, _, _, _, rfl, rfl, SqT.of (s06 _ _ e1), atI_nat (j := 0) rfl, _, rfl, rfl, _, rfl, ?_⟩
            rw [decide_eq_false (show ¬ nV z.one = nV x.h from fun q => c1 (by have := V.int.inj q; omega))]
            refine if_bl (fun q => nomatch q) (fun _ => ?_)
            exact same2 (no1 c1).1 (no1 c1).2
        · rintro σ H5 ⟨rv5, lw5, ⟨v9, v10, rfl⟩, hfl5, al5, hll5, alw5, hhl5, k5, s5⟩
          rw [lbv] at al5 alw5
          refine ⟨rv5, lw5, ⟨_, _, _, _, _, rfl⟩, hfl5, ?_, hll5, ?_, hhl5, k4.trans k5, s5⟩
          · rw [List.take_add_one, ex, List.flatMap_append]
            simpa using al5
          · rw [List.take_add_one, ex, List.flatMap_append]
            simpa using alw5
      · rintro σ H4 ⟨rv4, lw4, ⟨v6, v7, v8, v9, v10, rfl⟩, hfl4, al4, hll4, alw4, hhl4, k4, s4⟩
        rw [alw.length, List.take_length] at al4 alw4
        refine ⟨_, rfl, ?_⟩
        exact ⟨ll, rv4, lw4, ⟨_, _, _, _, _, _, _, rfl⟩, hfl4, (by rw [flat_succ, ← List.append_assoc]; exact al4), hll4, alw4, fll, s4⟩
    · rintro σ H2 ⟨hl, rv, hw, ⟨v4, v5, v6, v7, v8, v9, v10, rfl⟩, hfl, al, hhl, alw, fhl, s2⟩
      rw [lhv] at al
      exact nx _ H2 rv ⟨_, _, _, _, _, _, _, _, _, rfl⟩ hfl (by rw [flat_succ]; exact al) s2
  case tail1 =>
    rintro D' σ' H1 ⟨eD, fl, nfl, rfl, rfl⟩
    refine ⟨_, rfl, r, _, _, _, rfl, rfl, SqT.of (same_new nfl _ _ er), atI_nat (j := 0) rfl, ha, _, rfl, .inr (SqT.of (same_new nfl _ _ eh)), _, rfl, by omega, by omega, for_range (lo := 0) (n := hv.length) (fun i σ H2 => ∃ rv : List V, (∃ v2 v3 v4 v5 v6 v7 v8 v9 v10 : Option V, σ = [some (.ref r), some (.ref fl), v2, v3, v4, v5, v6, v7, v8, v9, v10]) ∧ H2 fl = some (.lst rv) ∧ All2 (RgAt H2) rv ((List.range i).flatMap (ringsM bs hs.length)) ∧ Same H H2) ⟨[], ⟨_, _, _, _, _, _, _, _, _, rfl⟩, upd_same, .nil, same_new nfl⟩ ?_ ?_⟩
    · rintro m σ H2 hm ⟨rv, ⟨v2, v3, v4, v5, v6, v7, v8, v9, v10, rfl⟩, hfl, al, s2⟩
      refine ⟨_, rfl, (by show 0 ≤ sizeLine; decide), fun g ng => ⟨_, rfl, (by show 1 ≤ sizeLine; decide), fun q1 nq1 => ⟨(by show 3 ≤ sizeLine; decide), fun t nt => ⟨(by show 1 ≤ sizeLine; decide), fun hl nhl => ?_⟩⟩⟩⟩
      have em : (0 : Int) + ((m : Nat) : Int) = ((m : Nat) : Int) := Int.zero_add _
      have fhl : fl ≠ hl := ne_of_none (same_new nt _ _ (same_new nq1 _ _ (same_new ng _ _ hfl))) nhl
      have s3 : Same H2 _ := ((same_new (o := .tup []) ng).trans (same_new (o := .tup [V.int (0 + ((m : Nat) : Int))]) nq1)).trans ((same_new (o := .tup [V.int (0 + ((m : Nat) : Int)), .ref g, .ref q1]) nt).trans (same_new (o := .lst [.ref t]) nhl))
      refine ⟨fl, hl, m, v4, v5, v6, v7, v8, v9, v10, rv, [.ref t], by omega, congrArg (fun z => [some (V.ref r), some (V.ref fl), some (V.int z), some (V.ref hl), v4, v5, v6, v7, v8, v9, v10]) em, nfl, s3 _ _ hfl, al.imp fun _ _ z => z.keep (TK.same s3), upd_same, .cons ⟨t, g, q1, rfl, ?_, ?_, ?_⟩ .nil, fhl, s2.trans s3, fun σ2 H3 rv2 e h a s => ⟨rv2, e, h, a, s⟩⟩
      · exact (same_new nhl _ _ upd_same).trans (by rw [em])
      · exact same_new nhl _ _ (same_new nt _ _ (same_new nq1 _ _ upd_same))
      · exact (same_new nhl _ _ (same_new nt _ _ upd_same)).trans (by rw [em]; rfl)
    · rintro σ H2 ⟨rv, ⟨v2, v3, v4, v5, v6, v7, v8, v9, v10, rfl⟩, hfl, al, s2⟩
      rw [lhv] at al
      have e := q fl rv H2 hfl al s2
      rw [← eD] at e
      exact ⟨_, rfl, e⟩
  exact ⟨(by show 0 ≤ sizeLine; decide), fun fl nfl => ⟨rfl, fl, nfl, rfl, rfl⟩⟩
end
theorem allR_ok {bs : List BR} {n : Nat} {x : Nat × List Nat} (h : x ∈ allR bs n) : x.1 < n ∧ wayEnd bs x.1 x.2 = some x.1 ∧ x.2 ≠ [] ∧ (∀ i ∈ x.2, i < bs.length) ∧ x.2.length ≤ n := by
  obtain ⟨m, hm, h⟩ := List.mem_flatMap.mp h
  obtain ⟨j, hj, h⟩ := List.mem_flatMap.mp h
  obtain ⟨y, hy, h⟩ := List.mem_flatMap.mp h
  obtain ⟨b, hb, e⟩ := List.mem_filterMap.mp h
  have hm := List.mem_range.mp hm
  have hj := List.mem_range.mp hj
  have hb := List.mem_range.mp hb
  have o := Xs_ok j y hy
  unfold cloB at e
  cases eb : bs[b]? with
  | none => rw [eb] at e; cases e
  | some z =>
    rw [eb] at e
    dsimp only at e
    by_cases k : z.one = y.h ∧ z.to = m
    · rw [if_pos k] at e
      cases e
      refine ⟨hm, ?_, ?_, fun i hi => ?_, ?_⟩
      · show wayEnd bs m (y.ns ++ [b]) = some m
        rw [wayEnd_snoc o.way eb k.1, k.2]
      · intro z
        exact absurd (List.append_eq_nil_iff.mp z).2 (List.cons_ne_nil _ _)
      · rcases List.mem_append.mp hi with a | a
        · exact o.lt i a
        · rw [List.mem_singleton.mp a]; exact hb
      · show (y.ns ++ [b]).length ≤ n
        rw [List.length_append, o.len]
        show j + 1 ≤ n
        omega
    · rw [if_neg k] at e; cases e
theorem RoomOk.three58 {hs : List HR} {bs : List BR} (ok : RoomOk hs bs) : ∀ t, (bs.map BR.to).count t ≤ 3 := fun t => by
  by_cases c : t < hs.length
  · have e : hs[t]? = some hs[t] := List.getElem?_eq_getElem c
    have := ok.count t _ e
    have g : needs hs[t].wd ≤ 3 := by
      unfold needs
      split
      · decide
      · split
        · decide
        · split <;> decide
    omega
  · have : (bs.map BR.to).count t = 0 := by
      refine List.count_eq_zero.mpr fun z => ?_
      obtain ⟨b, hb, rfl⟩ := List.mem_map.mp z
      exact c (ok.ends b hb).2
    omega
theorem way_hd {bs : List BR} {one n e : Nat} {ns : List Nat} (h : wayEnd bs one (n :: ns) = some e) : ∃ b, bs[n]? = some b ∧ b.one = one ∧ wayEnd bs b.to ns = some e ∧ toB bs n = b.to := by
  cases eb : bs[n]? with
  | none => rw [wayEnd_none eb] at h; cases h
  | some b =>
    rw [wayEnd_cons eb] at h
    by_cases z : b.one = one
    · rw [if_pos z] at h
      exact ⟨b, rfl, z, h, by unfold toB; rw [eb]⟩
    · rw [if_neg z] at h; cases h
/-! ### told prices are prices -/
def toPc (x : Wy × Int) : Pc := ((x.1.one, x.1.ns), x.2)
theorem told_sum {g : St3 → Int} {sp : Wy → St3} {f : Wy → Int} : ∀ {gs : List Wy} {pr : List Int}, (∀ y ∈ gs, f y = g (sp y)) → pr.length = gs.length → (∀ p ∈ pr, (0 : Int) ≤ p) → ((told gs pr).map fun x => x.2 * f x.1).sum = Sg g (gs.map sp) pr
  | [], [], _, _, _ => rfl
  | [], _ :: _, _, e, _ => by cases e
  | _ :: _, [], _, e, _ => by cases e
  | y :: gs, p :: pr, hf, e, nn => by
    have ih := told_sum (g := g) (sp := sp) (gs := gs) (pr := pr) (fun z hz => hf z (List.mem_cons_of_mem _ hz)) (by simpa using e) fun z hz => nn z (List.mem_cons_of_mem _ hz)
    have p0 := nn p (List.mem_cons_self ..)
    show ((List.filter (fun x => decide (0 < x.2)) ((y, p) :: gs.zip pr)).map fun x => x.2 * f x.1).sum = p * g (sp y) + Sg g (gs.map sp) pr
    rw [← ih, ← hf y (List.mem_cons_self ..)]
    by_cases c : 0 < p
    · rw [List.filter_cons, if_pos (decide_eq_true c), List.map_cons, List.sum_cons]
    · have : p = 0 := by omega
      rw [List.filter_cons, if_neg (by rw [decide_eq_false c]; exact Bool.false_ne_true), this, Int.zero_mul, Int.zero_add]
theorem told_mem {gs : List Wy} {pr : List Int} {x : Wy × Int} (h : x ∈ told gs pr) : x.1 ∈ gs ∧ 0 < x.2 := by
  obtain ⟨h1, h2⟩ := List.mem_filter.mp h
  exact ⟨(List.of_mem_zip (a := x.1) (b := x.2) h1).1, of_decide_eq_true h2⟩
theorem told_ok {hs : List HR} {bs : List BR} {ys : List Wy} {pr : List Int} (aw : AllWays hs bs ys) {x : Pc} (h : x ∈ (told (gYs hs ys) pr).map toPc) : okP bs x := by
  obtain ⟨z, hz, rfl⟩ := List.mem_map.mp h
  obtain ⟨h1, h2⟩ := told_mem hz
  obtain ⟨h3, h4⟩ := gy_mem h1
  have o := aw.ok _ h3
  refine ⟨h2, fun e => ?_, ?_⟩
  · have we := o.we
    have e : z.1.ns = [] := e
    rw [e] at we
    have : z.1.one = z.1.e := Option.some.inj we
    exact h4 (by rw [this])
  · show (wayEnd bs z.1.one z.1.ns).isSome = true
    rw [o.we]
    rfl
theorem way_wk {hs : List HR} {bs : List BR} (ok : RoomOk hs bs) {y : Wy} (o : WyOk hs bs y) : WkOk hs bs (y.one, y.ns) := by
  have lh := ok.hands
  have ln := o.ln
  refine ⟨o.lt, fun n hn => ?_, by show y.ns.length ≤ 60; omega⟩
  have we := o.we
  revert we
  generalize y.one = k
  have hn : n ∈ y.ns := hn
  generalize y.ns = ns at hn
  induction ns generalizing k with
  | nil => cases hn
  | cons a ns ih =>
    intro we
    obtain ⟨b, eb, _, h2, _⟩ := way_hd we
    rcases List.mem_cons.mp hn with rfl | hn
    · exact (List.getElem?_eq_some_iff.mp eb).1
    · exact ih _ hn h2
theorem outs_len {hs : List HR} {bs : List BR} (ok : RoomOk hs bs) : (bs.map fun b => if b.to ∈ doorsOf "out" hs then (1 : Int) else 0).sum = ((doorsOf "out" hs).length : Int) := by
  have e1 : ∀ (l : List Nat) (bs : List BR), l.Nodup → (bs.map fun b => if b.to ∈ l then (1 : Int) else 0).sum = (l.map fun k => (((bs.map BR.to).count k : Nat) : Int)).sum := by
    intro l
    induction l with
    | nil =>
      intro bs _
      induction bs with
      | nil => rfl
      | cons b bs ih => rw [List.map_cons, List.sum_cons, ih, if_neg (fun z => nomatch z)]; rfl
    | cons a l ih =>
      intro bs nd
      obtain ⟨n1, n2⟩ := List.nodup_cons.mp nd
      rw [List.map_cons, List.sum_cons, ← ih bs n2]
      clear ih
      induction bs with
      | nil => rfl
      | cons b bs ih2 =>
        rw [List.map_cons, List.sum_cons, ih2, show (b :: bs).map BR.to = b.to :: bs.map BR.to from rfl, List.count_cons, show ((b :: bs).map fun b => if b.to ∈ l then (1 : Int) else 0).sum = (if b.to ∈ l then (1 : Int) else 0) + (bs.map fun b => if b.to ∈ l then (1 : Int) else 0).sum from List.sum_cons]
        by_cases c : b.to = a
        · have c2 : b.to ∉ l := fun z => n1 (c ▸ z)
          rw [if_pos (by rw [c]; exact List.mem_cons_self ..), if_neg c2, if_pos (by rw [c]; exact beq_self_eq_true a)]
          omega
        · by_cases c2 : b.to ∈ l
          · rw [if_pos (List.mem_cons_of_mem _ c2), if_pos c2, if_neg (by rw [beq_iff_eq]; exact c)]
            omega
          · rw [if_neg (fun z => (List.mem_cons.mp z).elim c c2), if_neg c2, if_neg (by rw [beq_iff_eq]; exact c)]
            omega
  have nd : (doorsOf "out" hs).Nodup := List.Nodup.sublist List.filter_sublist List.nodup_range
  rw [e1 _ bs nd]
  have one : ∀ l : List Nat, (∀ k ∈ l, k ∈ doorsOf "out" hs) → (l.map fun k => (((bs.map BR.to).count k : Nat) : Int)).sum = (l.length : Int) := by
    intro l
    induction l with
    | nil => intro _; rfl
    | cons k l ih =>
      intro h
      obtain ⟨h1, e2, e3⟩ := mem_doors.mp (h k (List.mem_cons_self ..))
      have c := ok.count k h1 e2
      rw [e3] at c
      have c : (((bs.map BR.to).count k : Nat) : Int) = 1 := c
      rw [List.map_cons, List.sum_cons, c, ih fun z hz => h z (List.mem_cons_of_mem _ hz), List.length_cons]
      omega
  exact one _ fun _ h => h
theorem c0_cst {hs : List HR} {bs : List BR} {l : Nat} (ok : RoomOk hs bs) : c0P hs bs l = cst hs bs l := by
  unfold c0P cst
  rw [← outs_len ok]
  have no : ∀ b ∈ bs, b.one ∉ doorsOf "out" hs := fun b hb => one_out ok hb
  clear ok
  induction bs with
  | nil => show (0 : Int) + ((l : Nat) : Int) * 0 = 0; omega
  | cons b bs ih =>
    have ih := ih fun x hx => no x (List.mem_cons_of_mem _ hx)
    have n1 := no b (List.mem_cons_self ..)
    rw [List.map_cons, List.map_cons, List.map_cons, List.sum_cons, List.sum_cons, List.sum_cons, ← ih, ab_no n1, Int.mul_add]
    by_cases c : b.to ∈ doorsOf "out" hs
    · rw [if_pos c, ab_out c]; omega
    · rw [if_neg c, ab_no c]; omega
theorem told_held {hs : List HR} {bs : List BR} {ys : List Wy} {l : Nat} {T : Int} {pr : List Int} (ok : RoomOk hs bs) (aw : AllWays hs bs ys) (pc : Prc hs bs ys l T pr) : heldO hs bs l T ((told (gYs hs ys) pr).map toPc) = some (cst hs bs l + Sg stW (gSt hs ys l T) pr) := by
  unfold heldO
  rw [if_pos fun x hx => told_ok aw hx, c0_cst ok]
  have ln := pc.ln
  rw [List.length_map] at ln
  have e := told_sum (g := stW) (sp := gStep hs l T) (f := fun y => ndd y.c.2 T - y.c.1 - abH hs l y.e) (gs := gYs hs ys) (pr := pr) (fun _ _ => rfl) ln pc.nn
  rw [← e, List.map_map]
  have key : ∀ L : List (Wy × Int), (∀ x ∈ L, x.1 ∈ gYs hs ys) → (L.map (tkP hs bs l T ∘ toPc)).sum = -(L.map fun x => x.2 * (ndd x.1.c.2 T - x.1.c.1 - abH hs l x.1.e)).sum := by
    intro L
    induction L with
    | nil => intro _; rfl
    | cons x L ih =>
      intro h
      have o := aw.ok _ (gy_mem (h x (List.mem_cons_self ..))).1
      rw [List.map_cons, List.map_cons, List.sum_cons, List.sum_cons, ih fun z hz => h z (List.mem_cons_of_mem _ hz)]
      have wc := o.wc
      have w1 : (x.1.ns.map (trB bs)).sum = x.1.c.1 := congrArg Prod.fst wc
      have w2 : momW hs bs x.1.one x.1.ns = x.1.c.2 := congrArg Prod.snd wc
      have we : enD bs (x.1.one, x.1.ns) = x.1.e := by
        unfold enD endO
        rw [show wayEnd bs (x.1.one, x.1.ns).1 (x.1.one, x.1.ns).2 = some x.1.e from o.we]
        rfl
      have t : (tkP hs bs l T ∘ toPc) x = -(x.2 * (ndd x.1.c.2 T - x.1.c.1 - abH hs l x.1.e)) := by
        show x.2 * ((x.1.ns.map (trB bs)).sum - ndd (momW hs bs x.1.one x.1.ns) T) + ((l : Nat) : Int) * x.2 * (if enD bs (x.1.one, x.1.ns) ∈ doorsOf "out" hs then 1 else 0) = _
        rw [w1, w2, we]
        unfold abH
        rw [Int.mul_sub, Int.mul_sub, Int.mul_sub]
        split
        · rw [Int.mul_one, Int.mul_comm ((l : Nat) : Int)]; omega
        · rw [Int.mul_zero, Int.mul_zero]; omega
      rw [t]
      omega
  rw [key _ fun x hx => (told_mem hx).1]
  congr 1
  omega
theorem told_bind {hs : List HR} {bs : List BR} {ys : List Wy} {l : Nat} {T : Int} {pr : List Int} (ok : RoomOk hs bs) (aw : AllWays hs bs ys) (pc : Prc hs bs ys l T pr) : bindB hs bs ((told (gYs hs ys) pr).map toPc) = true := by
  unfold bindB
  rw [List.all_eq_true]
  intro k hk
  have hk := List.mem_range.mp hk
  by_cases c : k ∈ doorsOf "in" hs ++ doorsOf "out" hs
  · rw [decide_eq_true c, Bool.true_or]
  rw [decide_eq_false c, Bool.false_or]
  refine decide_eq_true ?_
  have c1 : k ∉ doorsOf "in" hs := fun z => c (List.mem_append_left _ z)
  have c2 : k ∉ doorsOf "out" hs := fun z => c (List.mem_append_right _ z)
  have pl : ∀ j, j < hs.length → one1 (plH hs j) k = one1 j k := fun j hj => by
    by_cases a : j ∈ doorsOf "in" hs
    · rw [pl_in a]; unfold one1; rw [if_neg (by omega), if_neg fun z : k = j => c1 (by rw [z]; exact a)]
    · by_cases b : j ∈ doorsOf "out" hs
      · rw [pl_out b]; unfold one1; rw [if_neg (by omega), if_neg fun z : k = j => c2 (by rw [z]; exact b)]
      · rw [pl_hand a b]
  have ln := pc.ln
  rw [List.length_map] at ln
  have e1 : lfP bs ((told (gYs hs ys) pr).map toPc) k = Sg (spn fun j => one1 j k) (gSt hs ys l T) pr := by
    rw [← told_sum (g := spn fun j => one1 j k) (sp := gStep hs l T) (f := fun y => one1 y.e k - one1 y.one k) (gs := gYs hs ys) (pr := pr) (fun y hy => ?_) ln pc.nn]
    · unfold lfP
      rw [List.map_map]
      congr 1
      refine List.map_congr_left fun x hx => ?_
      have o := aw.ok _ (gy_mem (told_mem hx).1).1
      show x.2 * (one1 (enD bs (x.1.one, x.1.ns)) k - one1 x.1.one k) = x.2 * (one1 x.1.e k - one1 x.1.one k)
      have we : enD bs (x.1.one, x.1.ns) = x.1.e := by
        unfold enD endO
        rw [show wayEnd bs (x.1.one, x.1.ns).1 (x.1.one, x.1.ns).2 = some x.1.e from o.we]
        rfl
      rw [we]
    · have o := aw.ok _ (gy_mem hy).1
      show _ = one1 (plH hs y.e) k - one1 (plH hs y.one) k
      rw [pl _ o.lt, pl _ (best_end ok o)]
  rw [e1, pc.sp]
  have e2 := mvd_of (l := l) (T := T) (g := 0) (lv := fun j => one1 j k) (sh := fun j => one1 (plH hs j) k + abH hs l j) ok aw fun j _ => by omega
  have e3 : mvd bs (fun j => one1 (plH hs j) k + abH hs l j) = cst hs bs l - lfB bs k := by
    have ends := ok.ends
    clear e2 e1 pc aw ok
    unfold mvd cst lfB
    induction bs with
    | nil => rfl
    | cons b bs ih =>
      have ih := ih fun x hx => ends x (List.mem_cons_of_mem _ hx)
      obtain ⟨o1, o2⟩ := ends b (List.mem_cons_self ..)
      rw [List.map_cons, List.map_cons, List.map_cons, List.sum_cons, List.sum_cons, List.sum_cons, ih]
      dsimp only
      rw [pl _ o1, pl _ o2]
      omega
  rw [e3] at e2
  omega
/-! ### any prices that bind hold no more trays than shifts move -/
theorem sR_add {g h : Nat → Int} : ∀ l : List Nat, (l.map fun k => g k + h k).sum = (l.map g).sum + (l.map h).sum
  | [] => rfl
  | a :: l => by
    rw [List.map_cons, List.map_cons, List.map_cons, List.sum_cons, List.sum_cons, List.sum_cons, sR_add l]
    omega
theorem sR_mul {c : Int} {g : Nat → Int} : ∀ l : List Nat, (l.map fun k => c * g k).sum = c * (l.map g).sum
  | [] => (Int.mul_zero c).symm
  | a :: l => by rw [List.map_cons, List.map_cons, List.sum_cons, List.sum_cons, sR_mul l, Int.mul_add]
theorem sR_nil {g : Nat → Int} : ∀ l : List Nat, (∀ k ∈ l, g k = 0) → (l.map g).sum = 0
  | [], _ => rfl
  | a :: l, h => by rw [List.map_cons, List.sum_cons, h a (List.mem_cons_self ..), sR_nil l fun k hk => h k (List.mem_cons_of_mem _ hk)]; rfl
theorem sR_one {f : Nat → Int} {a : Nat} : ∀ {n : Nat}, a < n → ((List.range n).map fun k => f k * one1 a k).sum = f a
  | 0, h => absurd h (Nat.not_lt_zero _)
  | n + 1, h => by
    rw [List.range_succ, List.map_append, List.sum_append]
    by_cases z : a = n
    · subst z
      rw [sR_nil _ fun k hk => by
        have := List.mem_range.mp hk
        unfold one1
        rw [if_neg (by omega), Int.mul_zero]]
      show 0 + (f a * one1 a a + 0) = _
      unfold one1
      rw [if_pos rfl, Int.mul_one]
      omega
    · rw [sR_one (by omega)]
      show _ + (f n * one1 a n + 0) = _
      unfold one1
      rw [if_neg (fun y => z y.symm), Int.mul_zero]
      omega
theorem sR_two {f : Nat → Int} {c : Int} {a b n : Nat} (ha : a < n) (hb : b < n) : ((List.range n).map fun k => f k * (c * (one1 a k - one1 b k))).sum = c * (f a - f b) := by
  have e : (fun k => f k * (c * (one1 a k - one1 b k))) = fun k => c * (f k * one1 a k + (-1) * (f k * one1 b k)) := by
    funext k
    rw [Int.neg_one_mul, ← Int.sub_eq_add_neg, ← Int.mul_sub, Int.mul_left_comm]
  rw [e, sR_mul, sR_add, sR_mul, sR_one ha, sR_one hb]
  congr 1
  omega
theorem lfP_sum {bs : List BR} {f : Nat → Int} {n : Nat} : ∀ {ps : List Pc}, (∀ x ∈ ps, x.1.1 < n ∧ enD bs x.1 < n) → ((List.range n).map fun k => f k * lfP bs ps k).sum = (ps.map fun x => x.2 * (f (enD bs x.1) - f x.1.1)).sum
  | [], _ => sR_nil _ fun k _ => Int.mul_zero _
  | x :: ps, h => by
    have e : (fun k => f k * lfP bs (x :: ps) k) = fun k => f k * (x.2 * (one1 (enD bs x.1) k - one1 x.1.1 k)) + f k * lfP bs ps k := by
      funext k
      unfold lfP
      rw [List.map_cons, List.sum_cons, Int.mul_add]
    rw [e, sR_add, sR_two (h x (List.mem_cons_self ..)).2 (h x (List.mem_cons_self ..)).1, lfP_sum fun y hy => h y (List.mem_cons_of_mem _ hy), List.map_cons, List.sum_cons]
theorem lfB_sum {f : Nat → Int} {n : Nat} : ∀ {bs : List BR}, (∀ b ∈ bs, b.one < n ∧ b.to < n) → ((List.range n).map fun k => f k * lfB bs k).sum = (bs.map fun b => f b.one - f b.to).sum
  | [], _ => sR_nil _ fun k _ => Int.mul_zero _
  | b :: bs, h => by
    have e : (fun k => f k * lfB (b :: bs) k) = fun k => f k * (1 * (one1 b.one k - one1 b.to k)) + f k * lfB bs k := by
      funext k
      unfold lfB
      rw [List.map_cons, List.sum_cons, Int.mul_add, Int.one_mul]
    rw [e, sR_add, sR_two (h b (List.mem_cons_self ..)).1 (h b (List.mem_cons_self ..)).2, lfB_sum fun y hy => h y (List.mem_cons_of_mem _ hy), List.map_cons, List.sum_cons, Int.one_mul]
theorem okP_end {hs : List HR} {bs : List BR} (ok : RoomOk hs bs) {x : Pc} (o : okP bs x) (lt : x.1.1 < hs.length) : wayEnd bs x.1.1 x.1.2 = some (enD bs x.1) ∧ enD bs x.1 < hs.length ∧ x.1.1 ∉ doorsOf "out" hs := by
  obtain ⟨_, ne, so⟩ := o
  have we : wayEnd bs x.1.1 x.1.2 = some (enD bs x.1) := by
    unfold enD
    cases h : endO bs x.1 with
    | none => rw [h] at so; cases so
    | some e => exact h
  refine ⟨we, way_lt (fun b hb => (ok.ends b hb).2) lt we, fun z => ?_⟩
  cases hn : x.1.2 with
  | nil => exact ne hn
  | cons n ns =>
    rw [hn] at we
    obtain ⟨b, eb, h1, _⟩ := way_hd we
    exact one_out ok (List.mem_of_getElem? eb) (by rw [h1]; exact z)
theorem held_le {hs : List HR} {bs : List BR} {l : Nat} {T v : Int} {ps : List Pc} {sh : Nat → Int} (ok : RoomOk hs bs) (r : Rch hs bs (some l) T sh) (lt : ∀ x ∈ ps, x.1.1 < hs.length) (bi : bindB hs bs ps = true) (h : heldO hs bs l T ps = some v) : v ≤ mvd bs sh := by
  have okp : ∀ x ∈ ps, okP bs x := Classical.byContradiction fun n => by
    unfold heldO at h
    rw [if_neg n] at h
    cases h
  have hv : v = c0P hs bs l - (ps.map (tkP hs bs l T)).sum := by
    unfold heldO at h
    rw [if_pos okp] at h
    exact (Option.some.inj h).symm
  obtain ⟨to, t1, t2, _⟩ := r.outs
  have t2 := t2 l rfl
  -- what a shift lies above its door's
  have f0 : ∀ k, k ∈ doorsOf "in" hs ++ doorsOf "out" hs → sh k - abH hs l k = 0 := fun k hk => by
    rcases List.mem_append.mp hk with a | a
    · rw [ab_no fun b => door_one a b, r.ins k a]; rfl
    · rw [ab_out a, t1 k a, t2]; omega
  have one : ∀ x ∈ ps, -(x.2 * ((sh (enD bs x.1) - abH hs l (enD bs x.1)) - (sh x.1.1 - abH hs l x.1.1))) ≤ tkP hs bs l T x := fun x hx => by
    obtain ⟨we, _, no⟩ := okP_end ok (okp x hx) (lt x hx)
    have w := r.ways _ _ _ (lt x hx) we
    have w : sh x.1.1 + (ndd (momW hs bs x.1.1 x.1.2) T - (x.1.2.map (trB bs)).sum) ≤ sh (enD bs x.1) := w
    have p := (okp x hx).1
    have m := Int.mul_le_mul_of_nonneg_left (c := x.2) (show sh x.1.1 - sh (enD bs x.1) ≤ (x.1.2.map (trB bs)).sum - ndd (momW hs bs x.1.1 x.1.2) T by omega) (by omega)
    unfold tkP
    rw [ab_no no]
    by_cases c : enD bs x.1 ∈ doorsOf "out" hs
    · rw [if_pos c, ab_out c, Int.mul_one]
      have e : x.2 * (sh (enD bs x.1) - ((l : Nat) : Int) - (sh x.1.1 - 0)) = -(x.2 * (sh x.1.1 - sh (enD bs x.1))) - ((l : Nat) : Int) * x.2 := by
        rw [Int.mul_comm ((l : Nat) : Int), ← Int.mul_neg, ← Int.mul_sub]
        congr 1
        omega
      rw [e]
      omega
    · rw [if_neg c, ab_no c, Int.mul_zero]
      have e : x.2 * (sh (enD bs x.1) - 0 - (sh x.1.1 - 0)) = -(x.2 * (sh x.1.1 - sh (enD bs x.1))) := by
        rw [← Int.mul_neg]
        congr 1
        omega
      rw [e]
      omega
  have all : -((ps.map fun x => x.2 * ((sh (enD bs x.1) - abH hs l (enD bs x.1)) - (sh x.1.1 - abH hs l x.1.1))).sum) ≤ (ps.map (tkP hs bs l T)).sum := by
    clear bi h hv lt okp
    induction ps with
    | nil => exact Int.le_refl _
    | cons x ps ih =>
      have a := one x (List.mem_cons_self ..)
      have b := ih fun y hy => one y (List.mem_cons_of_mem _ hy)
      rw [List.map_cons, List.map_cons, List.sum_cons, List.sum_cons]
      omega
  have s1 := lfP_sum (bs := bs) (f := fun k => sh k - abH hs l k) (n := hs.length) (ps := ps) fun x hx => ⟨lt x hx, (okP_end ok (okp x hx) (lt x hx)).2.1⟩
  have s2 := lfB_sum (f := fun k => sh k - abH hs l k) (n := hs.length) (bs := bs) fun b hb => ok.ends b hb
  have s3 : ((List.range hs.length).map fun k => (sh k - abH hs l k) * lfB bs k + (sh k - abH hs l k) * lfP bs ps k).sum = 0 := sR_nil _ fun k hk => by
    unfold bindB at bi
    have b := List.all_eq_true.mp bi k hk
    rcases Bool.or_eq_true_iff.mp b with c | c
    · rw [f0 k (of_decide_eq_true c), Int.zero_mul, Int.zero_mul]; rfl
    · rw [← Int.mul_add, of_decide_eq_true c, Int.mul_zero]
  rw [sR_add, s1, s2] at s3
  have m : mvd bs sh = cst hs bs l - (bs.map fun b => (sh b.one - abH hs l b.one) - (sh b.to - abH hs l b.to)).sum := by
    clear s3 s2 s1 all one f0 okp hv h bi r ok
    unfold mvd cst
    induction bs with
    | nil => rfl
    | cons b bs ih =>
      rw [List.map_cons, List.map_cons, List.map_cons, List.sum_cons, List.sum_cons, List.sum_cons, ih]
      omega
  rw [hv, m, c0_cst ok]
  omega
theorem okP_mk {bs : List BR} {o e : Nat} {ns : List Nat} {m : Int} (h : 1 ≤ m) (n : ns ≠ []) (w : wayEnd bs o ns = some e) : okP bs ((o, ns), m) := ⟨h, n, by show (wayEnd bs o ns).isSome = true; rw [w]; rfl⟩
theorem enD_mk {bs : List BR} {o e : Nat} {ns : List Nat} (w : wayEnd bs o ns = some e) : enD bs (o, ns) = e := by
  show (wayEnd bs o ns).getD 0 = e
  rw [w]
  rfl
/-- prices that serve: each is a price, and together they bind -/
def Good51 (hs : List HR) (bs : List BR) (ps : List Pc) : Prop := (∀ x ∈ ps, okP bs x ∧ x.1.1 < hs.length) ∧ bindB hs bs ps = true
theorem lfP_app {bs : List BR} {xs ys : List Pc} {k : Nat} : lfP bs (xs ++ ys) k = lfP bs xs k + lfP bs ys k := by
  unfold lfP
  rw [List.map_append, List.sum_append]
theorem bind_same {hs : List HR} {bs : List BR} {xs ys : List Pc} (e : ∀ k, lfP bs xs k = lfP bs ys k) (h : bindB hs bs ys = true) : bindB hs bs xs = true := by
  unfold bindB at *
  rw [← h]
  congr 1
  funext k
  rw [e k]
theorem way_parts {bs : List BR} {o e : Nat} {ns ms : List Nat} (h : wayEnd bs o (ns ++ ms) = some e) : ∃ d, wayEnd bs o ns = some d ∧ wayEnd bs d ms = some e := by
  rw [wayEnd_append] at h
  cases hd : wayEnd bs o ns with
  | none => rw [hd] at h; cases h
  | some d => rw [hd] at h; exact ⟨d, rfl, h⟩
/-- a way parted in two binds as before -/
theorem Good51.parted {hs : List HR} {bs : List BR} {xs ys : List Pc} {o d : Nat} {ns ms : List Nat} {m : Int} (ok : RoomOk hs bs) (g : Good51 hs bs (xs ++ ((o, ns ++ ms), m) :: ys)) (n1 : ns ≠ []) (n2 : ms ≠ []) (hd : wayEnd bs o ns = some d) : Good51 hs bs (xs ++ ((o, ns), m) :: ((d, ms), m) :: ys) := by
  obtain ⟨g1, g2⟩ := g
  have gx := g1 _ (List.mem_append_right _ (List.mem_cons_self ..))
  obtain ⟨we, _, _⟩ := okP_end ok gx.1 gx.2
  obtain ⟨d', h1, h2⟩ := way_parts we
  have z : d' = d := Option.some.inj (h1.symm.trans hd)
  subst z
  have dl : d' < hs.length := way_lt (fun b hb => (ok.ends b hb).2) gx.2 h1
  refine ⟨fun x hx => ?_, bind_same (fun k => ?_) g2⟩
  · rcases List.mem_append.mp hx with a | a
    · exact g1 x (List.mem_append_left _ a)
    · rcases List.mem_cons.mp a with rfl | a
      · exact ⟨okP_mk gx.1.1 n1 h1, gx.2⟩
      · rcases List.mem_cons.mp a with rfl | a
        · exact ⟨okP_mk gx.1.1 n2 h2, dl⟩
        · exact g1 x (List.mem_append_right _ (List.mem_cons_of_mem _ a))
  · have c1 : lfP bs (((o, ns), m) :: ((d', ms), m) :: ys) k = m * (one1 d' k - one1 o k) + (m * (one1 (enD bs (o, ns ++ ms)) k - one1 d' k) + lfP bs ys k) := by
      unfold lfP
      rw [List.map_cons, List.map_cons, List.sum_cons, List.sum_cons]
      dsimp only
      rw [enD_mk h1, enD_mk h2]
    have c2 : lfP bs (((o, ns ++ ms), m) :: ys) k = m * (one1 (enD bs (o, ns ++ ms)) k - one1 o k) + lfP bs ys k := by
      unfold lfP
      rw [List.map_cons, List.sum_cons]
    rw [lfP_app, lfP_app, c1, c2]
    have e : m * (one1 d' k - one1 o k) + m * (one1 (enD bs (o, ns ++ ms)) k - one1 d' k) = m * (one1 (enD bs (o, ns ++ ms)) k - one1 o k) := by
      rw [← Int.mul_add]
      congr 1
      omega
    omega
/-- a ring more binds as before -/
theorem Good51.ring {hs : List HR} {bs : List BR} {xs ys : List Pc} {o : Nat} {ns : List Nat} {m : Int} (g : Good51 hs bs (xs ++ ys)) (lt : o < hs.length) (n : ns ≠ []) (hm : 1 ≤ m) (w : wayEnd bs o ns = some o) : Good51 hs bs (xs ++ ((o, ns), m) :: ys) := by
  obtain ⟨g1, g2⟩ := g
  refine ⟨fun x hx => ?_, bind_same (fun k => ?_) g2⟩
  · rcases List.mem_append.mp hx with a | a
    · exact g1 x (List.mem_append_left _ a)
    · rcases List.mem_cons.mp a with rfl | a
      · exact ⟨okP_mk hm n w, lt⟩
      · exact g1 x (List.mem_append_right _ a)
  · have c : lfP bs (((o, ns), m) :: ys) k = lfP bs ys k := by
      unfold lfP
      rw [List.map_cons, List.sum_cons]
      dsimp only
      rw [enD_mk w, Int.sub_self, Int.mul_zero, Int.zero_add]
    rw [lfP_app, lfP_app, c]
/-- one less of two places -/
def lessJ (j k : Nat) : Nat → List Pc → List Pc
  | _, [] => []
  | i, x :: xs => (x.1, x.2 - (if i = j ∨ i = k then 1 else 0)) :: lessJ j k (i + 1) xs
theorem lfP_pos {bs : List BR} {k : Nat} : ∀ {ps : List Pc}, (∀ x ∈ ps, 0 ≤ x.2) → lfP bs (ps.filter fun x => decide (0 < x.2)) k = lfP bs ps k
  | [], _ => rfl
  | x :: ps, h => by
    have ih := lfP_pos (bs := bs) (k := k) (ps := ps) fun y hy => h y (List.mem_cons_of_mem _ hy)
    have x0 := h x (List.mem_cons_self ..)
    have c : lfP bs (x :: ps) k = x.2 * (one1 (enD bs x.1) k - one1 x.1.1 k) + lfP bs ps k := by
      unfold lfP
      rw [List.map_cons, List.sum_cons]
    by_cases z : 0 < x.2
    · rw [List.filter_cons_of_pos (p := fun x : Pc => decide (0 < x.2)) (decide_eq_true z), c, ← ih]
      unfold lfP
      rw [List.map_cons, List.sum_cons]
    · have z : x.2 = 0 := by omega
      rw [List.filter_cons_of_neg (p := fun x : Pc => decide (0 < x.2)) (by show ¬ decide (0 < x.2) = true; rw [z]; decide), c, z, Int.zero_mul, Int.zero_add, ih]
def dlX (bs : List BR) (q : Nat) : Option Pc → Int
  | some x => one1 (enD bs x.1) q - one1 x.1.1 q
  | none => 0
theorem lfP_less {bs : List BR} {q : Nat} {j k : Nat} : ∀ {ps : List Pc} {i : Nat}, j ≠ k → lfP bs (lessJ j k i ps) q = lfP bs ps q - (if i ≤ j then dlX bs q (ps[j - i]?) else 0) - (if i ≤ k then dlX bs q (ps[k - i]?) else 0)
  | [], i, _ => by
    show (0 : Int) = 0 - (if i ≤ j then dlX bs q (([] : List Pc)[j - i]?) else 0) - (if i ≤ k then dlX bs q (([] : List Pc)[k - i]?) else 0)
    rw [List.getElem?_nil, List.getElem?_nil, show dlX bs q none = 0 from rfl, ite_self, ite_self]
    rfl
  | x :: ps, i, n => by
    have ih := lfP_less (bs := bs) (q := q) (ps := ps) (i := i + 1) n
    have c : ∀ m : Int, ∀ L : List Pc, lfP bs ((x.1, m) :: L) q = m * (one1 (enD bs x.1) q - one1 x.1.1 q) + lfP bs L q := fun m L => by
      unfold lfP
      rw [List.map_cons, List.sum_cons]
    have c2 := c x.2 ps
    show lfP bs ((x.1, _) :: lessJ j k (i + 1) ps) q = _
    rw [c, ih, show lfP bs (x :: ps) q = x.2 * (one1 (enD bs x.1) q - one1 x.1.1 q) + lfP bs ps q from c2, Int.sub_mul]
    by_cases a : i = j
    · subst a
      rw [if_pos (Or.inl rfl), Int.one_mul, if_neg (show ¬ (i + 1 ≤ i) by omega), if_pos (Nat.le_refl i), Nat.sub_self, List.getElem?_cons_zero, show dlX bs q (some x) = one1 (enD bs x.1) q - one1 x.1.1 q from rfl]
      by_cases b : i + 1 ≤ k
      · obtain ⟨d, rfl⟩ : ∃ d, k = i + 1 + d := ⟨k - (i + 1), by omega⟩
        rw [if_pos b, if_pos (show i ≤ i + 1 + d by omega), show i + 1 + d - (i + 1) = d by omega, show i + 1 + d - i = d + 1 by omega, List.getElem?_cons_succ]
        omega
      · rw [if_neg b, if_neg (show ¬ (i ≤ k) by omega)]
        omega
    · by_cases b : i = k
      · subst b
        rw [if_pos (Or.inr rfl), Int.one_mul, if_neg (show ¬ (i + 1 ≤ i) by omega), if_pos (Nat.le_refl i), Nat.sub_self, List.getElem?_cons_zero, show dlX bs q (some x) = one1 (enD bs x.1) q - one1 x.1.1 q from rfl]
        by_cases b : i + 1 ≤ j
        · obtain ⟨d, rfl⟩ : ∃ d, j = i + 1 + d := ⟨j - (i + 1), by omega⟩
          rw [if_pos b, if_pos (show i ≤ i + 1 + d by omega), show i + 1 + d - (i + 1) = d by omega, show i + 1 + d - i = d + 1 by omega, List.getElem?_cons_succ]
          omega
        · rw [if_neg b, if_neg (show ¬ (i ≤ j) by omega)]
          omega
      · rw [if_neg (fun z => z.elim a b), Int.zero_mul]
        have step : ∀ t, i ≠ t → (if i ≤ t then dlX bs q ((x :: ps)[t - i]?) else (0 : Int)) = if i + 1 ≤ t then dlX bs q (ps[t - (i + 1)]?) else 0 := fun t ne => by
          by_cases h : i + 1 ≤ t
          · obtain ⟨d, rfl⟩ : ∃ d, t = i + 1 + d := ⟨t - (i + 1), by omega⟩
            rw [if_pos h, if_pos (show i ≤ i + 1 + d by omega), show i + 1 + d - (i + 1) = d by omega, show i + 1 + d - i = d + 1 by omega, List.getElem?_cons_succ]
          · rw [if_neg h, if_neg (show ¬ (i ≤ t) by omega)]
        rw [step j a, step k b]
        omega
theorem less_mem {j k : Nat} : ∀ {ps : List Pc} {i : Nat} {x : Pc}, x ∈ lessJ j k i ps → ∃ y ∈ ps, y.1 = x.1 ∧ y.2 - 1 ≤ x.2 ∧ x.2 ≤ y.2
  | y :: ps, i, x, h => by
    rcases List.mem_cons.mp h with rfl | h
    · refine ⟨y, List.mem_cons_self .., rfl, ?_, ?_⟩
      · show y.2 - 1 ≤ y.2 - (if i = j ∨ i = k then 1 else 0)
        split <;> omega
      · show y.2 - (if i = j ∨ i = k then 1 else 0) ≤ y.2
        split <;> omega
    · obtain ⟨z, h1, h2⟩ := less_mem h
      exact ⟨z, List.mem_cons_of_mem _ h1, h2⟩
theorem less_len {j k : Nat} : ∀ {ps : List Pc} {i : Nat}, (lessJ j k i ps).length = ps.length
  | [], _ => rfl
  | _ :: ps, i => by
    show (lessJ j k (i + 1) ps).length + 1 = ps.length + 1
    rw [less_len]
/-- the prices joined, as the law joins them -/
def joinJ (ps : List Pc) (j k : Nat) (w : Wk) : List Pc := (lessJ j k 0 ps ++ [(w, 1)]).filter fun x => decide (0 < x.2)
theorem Good51.joined {hs : List HR} {bs : List BR} {ps : List Pc} {j k : Nat} {o d : Nat} {ns ms : List Nat} {m1 m2 : Int} (ok : RoomOk hs bs) (g : Good51 hs bs ps) (ne : j ≠ k) (hj : ps[j]? = some ((o, ns), m1)) (hk : ps[k]? = some ((d, ms), m2)) (hd : wayEnd bs o ns = some d) : Good51 hs bs (joinJ ps j k (o, ns ++ ms)) := by
  obtain ⟨g1, g2⟩ := g
  have gj := g1 _ (List.mem_of_getElem? hj)
  have gk := g1 _ (List.mem_of_getElem? hk)
  obtain ⟨wk, _, _⟩ := okP_end ok gk.1 gk.2
  have wj : wayEnd bs o (ns ++ ms) = some (enD bs (d, ms)) := by rw [wayEnd_append, hd]; exact wk
  have nn : ns ++ ms ≠ [] := fun z => gj.1.2.1 (List.append_eq_nil_iff.mp z).1
  refine ⟨fun x hx => ?_, bind_same (fun q => ?_) g2⟩
  · obtain ⟨h1, h2⟩ := List.mem_filter.mp hx
    have h2 := of_decide_eq_true h2
    rcases List.mem_append.mp h1 with a | a
    · obtain ⟨y, y1, y2, _, _⟩ := less_mem a
      obtain ⟨⟨_, p2, p3⟩, p4⟩ := g1 y y1
      rw [y2] at p2 p3 p4
      exact ⟨⟨by omega, p2, p3⟩, p4⟩
    · rw [List.mem_singleton.mp a]
      exact ⟨okP_mk (by decide) nn wj, gj.2⟩
  · unfold joinJ
    rw [lfP_pos, lfP_app, lfP_less ne, if_pos (Nat.zero_le _), if_pos (Nat.zero_le _), Nat.sub_zero, Nat.sub_zero, hj, hk]
    · have e1 : lfP bs [((o, ns ++ ms), 1)] q = one1 (enD bs (d, ms)) q - one1 o q := by
        show 1 * (one1 (enD bs (o, ns ++ ms)) q - one1 o q) + 0 = _
        rw [enD_mk wj]
        omega
      have e2 : dlX bs q (some ((o, ns), m1)) = one1 d q - one1 o q := by
        show one1 (enD bs (o, ns)) q - one1 o q = _
        rw [enD_mk hd]
      have e3 : dlX bs q (some ((d, ms), m2)) = one1 (enD bs (d, ms)) q - one1 d q := rfl
      rw [e1, e2, e3]
      omega
    · intro x hx
      rcases List.mem_append.mp hx with a | a
      · obtain ⟨y, y1, _, y3, _⟩ := less_mem a
        have := (g1 y y1).1.1
        omega
      · rw [List.mem_singleton.mp a]
        show (0 : Int) ≤ 1
        decide
theorem join_len {ps : List Pc} {j k : Nat} {w : Wk} : (joinJ ps j k w).length ≤ ps.length + 1 := by
  unfold joinJ
  refine Nat.le_trans (List.length_filter_le ..) ?_
  rw [List.length_append, less_len]
  exact Nat.le_refl _
/-- what prices that serve hold -/
theorem Good51.held {hs : List HR} {bs : List BR} {l : Nat} {T : Int} {ps : List Pc} (g : Good51 hs bs ps) : ∃ v, heldO hs bs l T ps = some v := by
  unfold heldO
  rw [if_pos fun x hx => (g.1 x hx).1]
  exact ⟨_, rfl⟩
theorem Rch.mono {hs : List HR} {bs : List BR} {l : Option Nat} {T T' : Int} {sh : Nat → Int} (r : Rch hs bs l T sh) (h : T ≤ T') : Rch hs bs l T' sh := ⟨r.ins, r.outs, fun one ns e a b => by
  have := r.ways one ns e a b
  unfold ndd at *
  split at this <;> split <;> omega⟩
/-- told prices serve, and they hold what is told -/
theorem told_good {hs : List HR} {bs : List BR} {ys : List Wy} {l : Nat} {T : Int} {pr : List Int} (ok : RoomOk hs bs) (aw : AllWays hs bs ys) (pc : Prc hs bs ys l T pr) : Good51 hs bs ((told (gYs hs ys) pr).map toPc) := by
  refine ⟨fun x hx => ⟨told_ok aw hx, ?_⟩, told_bind ok aw pc⟩
  obtain ⟨y, hy, rfl⟩ := List.mem_map.mp hx
  exact (aw.ok _ (gy_mem (told_mem hy).1).1).lt
theorem Good51.le {hs : List HR} {bs : List BR} {l : Nat} {T v : Int} {ps : List Pc} {sh : Nat → Int} (g : Good51 hs bs ps) (ok : RoomOk hs bs) (r : Rch hs bs (some l) T sh) (h : heldO hs bs l T ps = some v) : v ≤ mvd bs sh := held_le ok r (fun x hx => (g.1 x hx).2) g.2 h
def nbW (ws : List Wk) : Int := (ws.map fun x => ((x.2.length : Nat) : Int)).sum
theorem nbW_one : ∀ {ws : List Wk} {x : Wk}, x ∈ ws → ((x.2.length : Nat) : Int) ≤ nbW ws
  | y :: ws, x, h => by
    have pos : 0 ≤ nbW ws := by
      clear h
      unfold nbW
      induction ws with
      | nil => exact Int.le_refl _
      | cons z ws ih => rw [List.map_cons, List.sum_cons]; omega
    show _ ≤ ((y.2.length : Nat) : Int) + nbW ws
    rcases List.mem_cons.mp h with rfl | h
    · omega
    · have := nbW_one h
      omega
section
variable {P : Program} {w : World} {K : PySem.W.Frag} {mg : Str → Option Value} {base : Heap}
def sp_law_belts (K : PySem.W.Frag) : Sp := fun vs H Q _ => ∃ (wp : Addr) (qv : List V) (ws : List Wk), vs = [.ref wp] ∧ H wp = some (.lst qv) ∧ All2 (RgAt H) qv ws ∧ ws.length ≤ 400 ∧ ∀ H', Same H H' → Q (.int (nbW ws)) H'
theorem ok_law_belts {f : Addr} {fd : FuncData} (F : Fun K "_law_belts" "_law_belts" s_law_belts f fd) (T : Top K mg) : FnOk P w K mg base CX0 1 f fd ["_law_walk"] (sp_law_belts K) := by
  refine F.ok sc_law_belts (fun vs H Q E h => ?_) (fun cdv A outer s H vs Q E hr h => ?_)
  · obtain ⟨wp, qv, ws, rfl, _⟩ := h
    rfl
  obtain ⟨wp, qv, ws, rfl, hw, alp, lws, q⟩ := h
  have lqv := alp.length
  refine ⟨_, (pss_one (ps_ret (pe_callB (cr_sumK K rfl rfl) (by rfl) T.m_sum (by decide +kernel) (pa_cons (pe_lc (own := [("_law_way", 1)]) (g := gName 1) (tt := tYes) (by rfl) sc_law_belts.nd (pi_listK K rfl (pv 0)) (blkOk_by (own := [("_law_way", 1)]) (N := N_law_belts) (sc := defScope s_law_belts) (by decide +kernel)) (fun _ _ _ _ _ => (pg_name (i := 1) sc_law_belts.nd rfl (Or.inl rfl))) (fun _ _ _ _ _ => pts_nil) (fun _ _ _ _ _ => (pe_callB (call_len_seqK K rfl) (by rfl) T.m_len (by decide +kernel) (pa_cons (pe_ix (ix_tupK K rfl) (pv 1) pe_int (fun _ _ => rfl)) pa_nil)))) pa_nil)))), ?_⟩
  refine ⟨_, rfl, wp, rfl, ⟨_, SqL.of hw⟩, fun D nD => lc_list (K := K) (a := wp) (xs := qv) (fun i H5 => H5 D = some (.lst (((ws.take i).map fun x => ((x.2.length : Nat) : Int)).map V.int)) ∧ Same H H5) ⟨upd_same, same_new nD⟩ (fun i H5 _ ⟨_, s5⟩ => SqL.of (s5 _ _ hw)) ?_ ?_⟩
  · rintro i x H5 hx ⟨hD, s5⟩
    obtain ⟨y, ey, ⟨p1, rfl, ⟨g, h1, h2⟩⟩⟩ := alp.getL hx
    have il := (List.getElem?_eq_some_iff.mp ey).1
    refine ⟨rfl, yes_in ⟨_, rfl, p1, _, _, _, rfl, rfl, SqT.of (s5 _ _ h1), atI_nat (j := 1) rfl, g, _, rfl, .inr (SqT.of (s5 _ _ h2)), _, hD, by rw [List.length_map, List.length_map, List.length_take]; exact small1000 (by omega), ?_, Same.own s5 nD⟩⟩
    rw [upd_same, List.take_add_one, ey, List.map_append, List.map_append, List.length_map]
    rfl
  rintro H2 ⟨hD, s2⟩
  rw [lqv, List.take_length] at hD
  exact ⟨D, _, rfl, SqL.of hD, q H2 s2⟩
def sp_law_is_small (K : PySem.W.Frag) : Sp := fun vs H Q _ => ∃ (wp : Addr) (qv : List V) (ws : List Wk), vs = [.ref wp] ∧ H wp = some (.lst qv) ∧ All2 (RgAt H) qv ws ∧ ws.length ≤ 400 ∧ ∀ (b : Bool) (H' : Hp), (b = true → ws.length < 36 ∧ nbW ws < 50) → Same H H' → Q (.bl b) H'
theorem ok_law_is_small {f : Addr} {fd : FuncData} (F : Fun K "_law_is_small" "_law_is_small" s_law_is_small f fd) (T : Top K mg) : FnOk P w K mg base CX0 2 f fd ["_law_walk"] (sp_law_is_small K) := by
  obtain ⟨f_law_belts, fd_law_belts, F_law_belts, b_law_belts, m_law_belts⟩ := T.d_law_belts
  have G_law_belts := ok_law_belts (P := P) (w := w) (base := base) F_law_belts T
  refine F.ok sc_law_is_small (fun vs H Q E h => ?_) (fun cdv A outer s H vs Q E hr h => ?_)
  · obtain ⟨wp, qv, ws, rfl, _⟩ := h
    rfl
  obtain ⟨wp, qv, ws, rfl, hw, alp, lws, q⟩ := h
  have lqv := alp.length
  refine ⟨_, (pss_one (ps_ret (pe_and (pe_cmpR op_lt (pe_callB (call_len_seqK K rfl) (by rfl) T.m_len (by decide +kernel) (pa_cons (pv 0) pa_nil)) pe_int (nomark _)) (pe_one (pe_cmpR op_lt (pe_call G_law_belts (hr.mono (by decide)) (by rfl) m_law_belts F_law_belts.kp b_law_belts .nil pass0 (pa_cons (pv 0) pa_nil)) pe_int (nomark _)))))), ?_⟩
  refine ⟨_, rfl, wp, _, rfl, .inl (SqL.of hw), _, _, rfl, rfl, _, rfl, if_bl (fun c => ?_) (fun _ => q _ H (fun z => nomatch z) (Same.refl _))⟩
  have c := of_decide_eq_true c
  exact ⟨_, rfl, wp, qv, ws, rfl, hw, alp, lws, fun H1 s1 => ⟨_, _, rfl, rfl, q _ H1 (fun z => ⟨by omega, of_decide_eq_true z⟩) s1⟩⟩
def sp_law_are_small (K : PySem.W.Frag) : Sp := fun vs H Q _ => ∃ (pp : Addr) (zv : List V) (ps : List Pc), vs = [.ref pp] ∧ H pp = some (.tup zv) ∧ All2 (PcAt H) zv ps ∧ ps.length ≤ 400 ∧ ∀ (b : Bool) (H' : Hp), (b = true → ps.length < 36 ∧ ∀ x ∈ ps, x.1.2.length < 50 ∧ x.2 < 900) → Same H H' → Q (.bl b) H'
theorem ok_law_are_small {f : Addr} {fd : FuncData} (F : Fun K "_law_are_small" "_law_are_small" s_law_are_small f fd) (T : Top K mg) : FnOk P w K mg base CX0 3 f fd ["_law_prices"] (sp_law_are_small K) := by
  obtain ⟨f_law_is_small, fd_law_is_small, F_law_is_small, b_law_is_small, m_law_is_small⟩ := T.d_law_is_small
  have G_law_is_small := ok_law_is_small (P := P) (w := w) (base := base) F_law_is_small T
  refine F.ok sc_law_are_small (fun vs H Q E h => ?_) (fun cdv A outer s H vs Q E hr h => ?_)
  · obtain ⟨pp, zv, ps, rfl, _⟩ := h
    rfl
  obtain ⟨pp, zv, ps, rfl, hpp, alp, lps, q⟩ := h
  have lzv := alp.length
  refine ⟨_, (pss_one (ps_ret (pe_and (pe_call G_law_is_small (hr.mono (by decide)) (by rfl) m_law_is_small F_law_is_small.kp b_law_is_small .nil pass0 (pa_cons (pe_lc (own := [("_law_way", 1), ("_law_many", 2)]) (g := gTup K 2 (gCons (gName 1) (gCons (gName 2) gNil))) (tt := tYes) (by rfl) sc_law_are_small.nd (pi_tupK K rfl (pv 0)) (blkOk_by (own := [("_law_way", 1), ("_law_many", 2)]) (N := N_law_are_small) (sc := defScope s_law_are_small) (by decide +kernel)) (fun _ _ _ _ _ => (pg_tupK K rfl rfl (pgs_cons (pg_name (i := 1) sc_law_are_small.nd rfl (Or.inl rfl)) (pgs_cons (pg_name (i := 2) sc_law_are_small.nd rfl (Or.inl rfl)) pgs_nil)))) (fun _ _ _ _ _ => pts_nil) (fun _ _ _ _ _ => (pv 1))) pa_nil)) (pe_one (pe_callB (cr_allK K rfl rfl) (by rfl) T.m_all (by decide +kernel) (pa_cons (pe_lc (own := [("_law_way", 1), ("_law_many", 2)]) (g := gTup K 2 (gCons (gName 1) (gCons (gName 2) gNil))) (tt := tYes) (by rfl) sc_law_are_small.nd (pi_tupK K rfl (pv 0)) (blkOk_by (own := [("_law_way", 1), ("_law_many", 2)]) (N := N_law_are_small) (sc := defScope s_law_are_small) (by decide +kernel)) (fun _ _ _ _ _ => (pg_tupK K rfl rfl (pgs_cons (pg_name (i := 1) sc_law_are_small.nd rfl (Or.inl rfl)) (pgs_cons (pg_name (i := 2) sc_law_are_small.nd rfl (Or.inl rfl)) pgs_nil)))) (fun _ _ _ _ _ => pts_nil) (fun _ _ _ _ _ => (pe_cmpR op_lt (pv 2) pe_int (nomark _)))) pa_nil)))))), ?_⟩
  refine ⟨_, rfl, pp, rfl, ⟨_, SqT.of hpp⟩, fun D nD => lc_tup (K := K) (a := pp) (xs := zv) (fun i H5 => ∃ qv : List V, H5 D = some (.lst qv) ∧ All2 (RgAt H5) qv ((ps.take i).map fun x => x.1) ∧ Same H H5) ⟨[], upd_same, .nil, same_new nD⟩ (fun i H5 _ ⟨_, _, _, s5⟩ => SqT.of (s5 _ _ hpp)) ?_ ?_⟩
  · rintro i v H5 hx ⟨qv, hD, alq, s5⟩
    obtain ⟨x, ex, a, u, rfl, ea, hu⟩ := alp.getL hx
    have il := (List.getElem?_eq_some_iff.mp ex).1
    have lq := alq.length
    rw [List.length_map, List.length_take] at lq
    refine ⟨a, _, rfl, SqT.of (s5 _ _ ea), rfl, _, _, rfl, _, _, rfl, rfl, rfl, yes_in ⟨_, rfl, _, hD, small1000 (by omega), qv ++ [u], upd_same, ?_, Same.own s5 nD⟩⟩
    rw [List.take_add_one, ex, List.map_append]
    exact (alq.imp fun _ _ z => z.keep (TK.lst hD)).snoc ((hu.keep (TK.same s5)).keep (TK.lst hD))
  rintro H2 ⟨qv, hD, alq, s2⟩
  rw [lzv, List.take_length] at alq
  refine ⟨D, qv, _, rfl, hD, alq, by rw [List.length_map]; omega, fun b H3 hb s3 => ⟨_, rfl, if_bl (fun c => ?_) (fun c => ?_)⟩⟩
  · obtain ⟨w1, w2⟩ := hb c
    rw [List.length_map] at w1
    have s23 := s2.trans s3
    refine ⟨_, rfl, pp, rfl, ⟨_, SqT.of (s23 _ _ hpp)⟩, fun E nE => lc_tup (K := K) (a := pp) (xs := zv) (fun i H5 => H5 E = some (.lst (((ps.take i).map fun x => decide (x.2 < 900)).map V.bl)) ∧ Same H3 H5) ⟨upd_same, same_new nE⟩ (fun i H5 _ ⟨_, s5⟩ => SqT.of (s5 _ _ (s23 _ _ hpp))) ?_ ?_⟩
    · rintro i v H5 hx ⟨hE, s5⟩
      obtain ⟨x, ex, a, u, rfl, ea, hu⟩ := alp.getL hx
      have il := (List.getElem?_eq_some_iff.mp ex).1
      refine ⟨a, _, rfl, SqT.of (s5 _ _ (s23 _ _ ea)), rfl, _, _, rfl, _, _, rfl, rfl, rfl, yes_in ⟨_, rfl, _, _, rfl, rfl, _, hE, by rw [List.length_map, List.length_map, List.length_take]; exact small1000 (by omega), ?_, Same.own s5 nE⟩⟩
      rw [upd_same, List.take_add_one, ex, List.map_append, List.map_append]
      rfl
    rintro H5 ⟨hE, s5⟩
    rw [lzv, List.take_length] at hE
    refine ⟨E, _, rfl, SqL.of hE, q _ _ (fun z => ⟨w1, fun x hx => ⟨?_, ?_⟩⟩) (s23.trans s5)⟩
    · have := nbW_one (List.mem_map.mpr ⟨x, hx, rfl⟩ : x.1 ∈ ps.map fun x => x.1)
      omega
    · have := List.all_eq_true.mp z _ (List.mem_map.mpr ⟨x, hx, rfl⟩)
      exact of_decide_eq_true this
  · exact q false _ (fun z => nomatch z) (s2.trans s3)
end
/-! ### prices parted, joined, with a ring more -/
section
variable {P : Program} {w : World} {K : PySem.W.Frag} {mg : Str → Option Value} {base : Heap}
theorem log_big {m : Nat} (h : m ≤ 2 ^ 30) : ((m : Nat) : Int).natAbs.log2 < 9000 := by
  rw [Int.natAbs_natCast]
  by_cases z : m = 0
  · rw [z]; decide
  · exact (Nat.log2_lt z).mpr (Nat.lt_of_le_of_lt h (Nat.pow_lt_pow_right (by decide) (by decide)))
def sp_law_with_ring (K : PySem.W.Frag) : Sp := fun vs H Q _ => ∃ (f c r pp : Addr) (hs : List HR) (bs : List BR) (zv : List V) (ps : List Pc), vs = [.ref f, .ref r, .ref pp] ∧ Flow H f c ∧ RoomAt H r hs bs ∧ RoomOk hs bs ∧ hs.length ≤ 9 ∧ H pp = some (.tup zv) ∧ All2 (PcAt H) zv ps ∧ ps.length ≤ 300 ∧ Good51 hs bs ps ∧
  ∀ (p' : Addr) (zv' : List V) (ps' : List Pc) (H' : Hp), H' p' = some (.tup zv') → All2 (PcAt H') zv' ps' → ps'.length ≤ ps.length + 1 → Good51 hs bs ps' → (ps' = ps ∨ ∃ (i : Nat) (x : Pc), ps' = ps.take i ++ x :: ps.drop i ∧ WkOk hs bs x.1 ∧ x.1.2.length ≤ 9) → Flow H' f c → But f H H' → Q (.ref p') H'
theorem ok_law_with_ring {f : Addr} {fd : FuncData} (F : Fun K "_law_with_ring" "_law_with_ring" s_law_with_ring f fd) (T : Top K mg) : FnOk P w K mg base CX0 2 f fd ["_law_flow_here", "_law_room_here", "_law_prices"] (sp_law_with_ring K) := by
  obtain ⟨f_law_rings, fd_law_rings, F_law_rings, b_law_rings, m_law_rings⟩ := T.d_law_rings
  have G_law_rings := ok_law_rings (P := P) (w := w) (base := base) F_law_rings T
  obtain ⟨f_law_pick, fd_law_pick, F_law_pick, b_law_pick, m_law_pick⟩ := T.d_law_pick
  have G_law_pick := ok_law_pick (P := P) (w := w) (base := base) F_law_pick T
  refine F.ok sc_law_with_ring (fun vs H Q E h => ?_) (fun cdv A outer s H vs Q E hr h => ?_)
  · obtain ⟨f, c, r, pp, hs, bs, zv, ps, rfl, _⟩ := h
    rfl
  obtain ⟨f, c, r, pp, hs, bs, zv, ps, rfl, hF, hR, ok, l9, hpp, alp, lps, g, q⟩ := h
  have lzv := alp.length
  have lg1 : (((zv.length : Nat) : Int) + 1).natAbs.log2 < 9000 := log_small (m := zv.length + 1) (by omega)
  refine ⟨_, (pss_cons (ps_set (i := 3) sc_law_with_ring.nd rfl (Or.inl rfl) (pe_call G_law_rings (hr.mono (by decide)) (by rfl) m_law_rings F_law_rings.kp b_law_rings .nil pass0 (pa_cons (pv 1) pa_nil)))
      (pss_cons (ps_if (pt_cmpR op_eq (pe_callB (call_len_seqK K rfl) (by rfl) T.m_len (by decide +kernel) (pa_cons (pv 3) pa_nil)) pe_int (nomark _)) (pss_one (ps_ret (pv 2))) pss_nil)
      (pss_cons (ps_set (i := 4) sc_law_with_ring.nd rfl (Or.inl rfl) (pe_call G_law_pick (hr.mono (by decide)) (by rfl) m_law_pick F_law_pick.kp b_law_pick .nil pass0 (pa_cons (pv 0) (pa_cons (pe_op op_add (pe_callB (call_len_seqK K rfl) (by rfl) T.m_len (by decide +kernel) (pa_cons (pv 2) pa_nil)) pe_int) pa_nil))))
      (pss_cons (ps_set (i := 5) sc_law_with_ring.nd rfl (Or.inl rfl) (pe_ix (ix_listK K rfl) (pv 3) (pe_call G_law_pick (hr.mono (by decide)) (by rfl) m_law_pick F_law_pick.kp b_law_pick .nil pass0 (pa_cons (pv 0) (pa_cons (pe_callB (call_len_seqK K rfl) (by rfl) T.m_len (by decide +kernel) (pa_cons (pv 3) pa_nil)) pa_nil))) (fun _ _ => rfl)))
      (pss_one (ps_ret (pe_op (op_catAK K rfl) (pe_op (op_catAK K rfl) (pe_slice (sl_tupAK K rfl) (pv 2) po_none (po_some (pv 4))) (pe_tup (pa_cons (pe_tup (pa_cons (pv 5) (pa_cons (pe_op op_add pe_int (pe_call G_law_pick (hr.mono (by decide)) (by rfl) m_law_pick F_law_pick.kp b_law_pick .nil pass0 (pa_cons (pv 0) (pa_cons pe_int pa_nil)))) pa_nil))) pa_nil))) (pe_slice (sl_tupAK K rfl) (pv 2) (po_some (pv 4)) po_none)))))))), ?_⟩
  refine ⟨_, rfl, r, hs, bs, rfl, hR, by omega, ok.many, (fun b hb => (ok.ends b hb).2), ok.three58, fun rl rv H1 hrl alr s1 => ?_⟩
  have lrv := alr.length
  have al := all_len (bs := bs) (n := hs.length) ok.three58 (by omega) hs.length
  have lrv2 : rv.length ≤ 9 * 797160 := by
    have : (allR bs hs.length).length ≤ hs.length * 797160 := al
    omega
  refine ⟨_, rfl, rl, _, rfl, .inl (SqL.of hrl), rfl, _, rfl, if_bl (fun c0 => ?_) (fun c0 => ?_)⟩
  · refine ⟨_, rfl, ?_⟩
    exact q pp zv ps H1 (s1 _ _ hpp) (alp.imp fun _ _ z => z.keep (TK.same s1)) (Nat.le_succ _) g (.inl rfl) (hF.same s1) (But.of s1)
  refine ⟨_, rfl, _, rfl, pp, _, rfl, .inr (SqT.of (s1 _ _ hpp)), _, _, rfl, rfl, f, c, _, rfl, by omega, lg1, hF.same s1, fun a H2 a0 a1 F2 B2 => ?_⟩
  obtain ⟨a, rfl⟩ : ∃ k : Nat, a = ((k : Nat) : Int) := ⟨a.toNat, by omega⟩
  have B12 : But f H H2 := (But.of s1).trans B2
  have K2 : TK H H2 := TK.but hF B12
  have rf : rl ≠ f := by
    rintro rfl
    obtain ⟨_, _, _, _, _, e1, _⟩ := hF.same s1
    rw [e1] at hrl
    cases hrl
    clear lrv al lrv2
    generalize allR bs hs.length = L at alr
    cases alr with
    | cons _ t =>
      cases t with
      | cons h _ =>
        obtain ⟨p, e, _⟩ := h
        cases e
  have hrl2 := B2 _ _ hrl rf
  have lg2 : ((rv.length : Nat) : Int).natAbs.log2 < 9000 := log_big (by omega)
  have rp : 0 < rv.length := by
    refine Nat.pos_of_ne_zero fun z => ?_
    exact of_decide_eq_false c0 (by rw [z]; rfl)
  refine ⟨_, rfl, _, rfl, _, rfl, rl, _, rfl, .inl (SqL.of hrl2), f, c, _, rfl, by omega, lg2, F2, fun b H3 b0 b1 F3 B3 => ?_⟩
  obtain ⟨b, rfl⟩ : ∃ k : Nat, b = ((k : Nat) : Int) := ⟨b.toNat, by omega⟩
  have K13 : TK H1 H3 := (TK.but (hF.same s1) B2).trans (TK.but F2 B3)
  obtain ⟨x, ex⟩ : ∃ x, (allR bs hs.length)[b]? = some x := ⟨_, List.getElem?_eq_getElem (by omega)⟩
  obtain ⟨v0, ev, rg, erg, hrg⟩ := alr.get ex
  refine ⟨rl, _, _, _, rfl, rfl, SqL.of (B3 _ _ hrl2 rf), atI_nat ev, ?_⟩
  obtain ⟨x1, x2, x3, x4, x5⟩ := allR_ok (List.mem_of_getElem? ex)
  have hp3 := (K2.trans (TK.but F2 B3)) _ _ hpp
  refine ⟨_, rfl, ?_⟩
  dsimp only [tNoPart]
  refine ⟨_, rfl, _, rfl, slA_of hp3 fun p1 H4 h1 s4 => ?_⟩
  rw [cut_take] at h1
  refine ⟨_, rfl, _, rfl, f, c, 4, rfl, by decide, by decide +kernel, F3.same s4, fun z H5 z0 z3 F5 B5 => ?_⟩
  refine ⟨_, _, rfl, rfl, (by show 2 ≤ sizeLine; decide), fun t nt => ⟨(by show 1 ≤ sizeLine; decide), fun p3 np3 => ?_⟩⟩
  have u1 := same_new (o := .tup [v0, V.int (1 + z)]) nt
  have u2 := same_new (o := .tup [V.ref t]) np3
  have B34 : But f H3 H5 := (But.of s4).trans B5
  have pf1 : p1 ≠ f := by
    rintro rfl
    obtain ⟨_, _, _, _, _, e1, _⟩ := F3.same s4
    rw [e1] at h1
    cases h1
  have ppf : pp ≠ f := by
    rintro rfl
    obtain ⟨_, _, _, _, _, e1, _⟩ := hF
    rw [e1] at hpp
    cases hpp
  refine catA_of (u2 _ _ (u1 _ _ (B5 _ _ h1 pf1))) upd_same (by rw [List.length_take]; show _ + 1 ≤ 1000; omega) fun p4 H6 h4 s6 => ?_
  refine ⟨_, rfl, _, rfl, ?_⟩
  dsimp only [tNoPart]
  have hp6 := s6 _ _ (u2 _ _ (u1 _ _ (B34 _ _ hp3 ppf)))
  refine ⟨_, rfl, slA_of hp6 fun p5 H7 h5 s7 => ?_⟩
  rw [cut_drop] at h5
  refine catA_of (s7 _ _ h4) h5 (by rw [List.length_append, List.length_take, List.length_drop]; show _ + 1 + _ ≤ 1000; omega) fun p6 H8 h6 s8 => ?_
  have s58 := (u1.trans u2).trans (s6.trans (s7.trans s8))
  have k18 : TK H1 H8 := K13.trans ((TK.but F3 B34).trans (TK.same s58))
  have k08 : TK H H8 := (TK.same s1).trans k18
  have hrg' : RgAt H8 v0 x := RgAt.keep ⟨rg, erg, hrg⟩ k18
  have g' : Good51 hs bs (ps.take a ++ ps.drop a) := by rw [List.take_append_drop]; exact g
  have w := g'.ring (m := 1 + z) x1 x3 (by omega) x2
  refine q p6 _ (ps.take a ++ ((x.1, x.2), 1 + z) :: ps.drop a) H8 (by rw [h6, List.append_assoc]; try rfl) ?_ ?_ w (.inr ⟨a, ((x.1, x.2), 1 + z), rfl, ⟨x1, x4, by show x.2.length ≤ 60; omega⟩, by show x.2.length ≤ 9; omega⟩) ((F5.same (u1.trans u2)).same (s6.trans (s7.trans s8))) ?_
  · refine ((alp.take a).imp fun _ _ y => y.keep k08).app (.cons ⟨t, v0, rfl, ?_, hrg'⟩ ((alp.drop a).imp fun _ _ y => y.keep k08))
    exact (s6.trans (s7.trans s8)) _ _ (u2 _ _ upd_same)
  · rw [List.length_append, List.length_cons, List.length_take, List.length_drop]; omega
  · exact (B12.trans B3).trans (B34.trans (But.of s58))
end
section
variable {P : Program} {w : World} {K : PySem.W.Frag} {mg : Str → Option Value} {base : Heap}
def longP (ps : List Pc) (z : Nat) : Bool := decide (1 < ((ps[z]?.map fun x => x.1.2.length).getD 0))
theorem longP_at {ps : List Pc} {z : Nat} {x : Pc} (e : ps[z]? = some x) : longP ps z = decide (1 < x.1.2.length) := by
  unfold longP
  rw [e]
  rfl
def sp_law_parted (K : PySem.W.Frag) : Sp := fun vs H Q _ => ∃ (f c r pp : Addr) (hs : List HR) (bs : List BR) (zv : List V) (ps : List Pc), vs = [.ref f, .ref r, .ref pp] ∧ Flow H f c ∧ RoomAt H r hs bs ∧ RoomOk hs bs ∧ H pp = some (.tup zv) ∧ All2 (PcAt H) zv ps ∧ ps.length ≤ 300 ∧ (∀ x ∈ ps, WkOk hs bs x.1) ∧ Good51 hs bs ps ∧
  ∀ (p' : Addr) (zv' : List V) (ps' : List Pc) (H' : Hp), H' p' = some (.tup zv') → All2 (PcAt H') zv' ps' → ps'.length ≤ ps.length + 1 → Good51 hs bs ps' → (ps' = ps ∨ ∃ (i : Nat) (o d : Nat) (ns ms : List Nat) (m : Int), ps[i]? = some ((o, ns ++ ms), m) ∧ ps' = ps.take i ++ ((o, ns), m) :: ((d, ms), m) :: ps.drop (i + 1)) → Flow H' f c → But f H H' → Q (.ref p') H'
theorem ok_law_parted {f : Addr} {fd : FuncData} (F : Fun K "_law_parted" "_law_parted" s_law_parted f fd) (T : Top K mg) : FnOk P w K mg base CX0 2 f fd ["_law_flow_here", "_law_room_here", "_law_prices"] (sp_law_parted K) := by
  obtain ⟨f_law_pick, fd_law_pick, F_law_pick, b_law_pick, m_law_pick⟩ := T.d_law_pick
  have G_law_pick := ok_law_pick (P := P) (w := w) (base := base) F_law_pick T
  obtain ⟨f_law_end, fd_law_end, F_law_end, b_law_end, m_law_end⟩ := T.d_law_end
  have G_law_end := ok_law_end (P := P) (w := w) (base := base) F_law_end T
  refine F.ok sc_law_parted (fun vs H Q E h => ?_) (fun cdv A outer s H vs Q E hr h => ?_)
  · obtain ⟨f, c, r, pp, hs, bs, zv, ps, rfl, _⟩ := h
    rfl
  obtain ⟨f, c, r, pp, hs, bs, zv, ps, rfl, hF, hR, ok, hpp, alp, lps, wk, g, q⟩ := h
  have lzv := alp.length
  refine ⟨_, (pss_cons (ps_setLc (i := 3) (own := [("_law_k", 4)]) (g := gName 4) (by rfl) sc_law_parted.nd rfl rfl (sw_true rfl rfl rfl (by decide +kernel)) (pi_range1 (by rfl) T.m_range (pa_cons (pe_callB (call_len_seqK K rfl) (by rfl) T.m_len (by decide +kernel) (pa_cons (pv 2) pa_nil)) pa_nil)) (blkOk_by (own := [("_law_k", 4)]) (N := N_law_parted) (sc := defScope s_law_parted) (by decide +kernel)) (fun _ _ _ _ _ => (pg_name (i := 4) sc_law_parted.nd rfl (Or.inl rfl))) (fun _ _ _ _ _ => pts_one (pt_cmpR op_gt (pe_callB (call_len_seqK K rfl) (by rfl) T.m_len (by decide +kernel) (pa_cons (pe_ix (ix_tupK K rfl) (pe_ix (ix_tupK K rfl) (pe_ix (ix_tupK K rfl) (pv 2) (pv 4) (fun _ _ => rfl)) pe_int (fun _ _ => rfl)) pe_int (fun _ _ => rfl)) pa_nil)) pe_int (nomark _))) (fun _ _ _ _ _ => (pv 4)))
      (pss_cons (ps_if (pt_cmpR op_eq (pe_callB (call_len_seqK K rfl) (by rfl) T.m_len (by decide +kernel) (pa_cons (pv 3) pa_nil)) pe_int (nomark _)) (pss_one (ps_ret (pv 2))) pss_nil)
      (pss_cons (ps_set (i := 4) sc_law_parted.nd rfl (Or.inl rfl) (pe_ix (ix_listK K rfl) (pv 3) (pe_call G_law_pick (hr.mono (by decide)) (by rfl) m_law_pick F_law_pick.kp b_law_pick .nil pass0 (pa_cons (pv 0) (pa_cons (pe_callB (call_len_seqK K rfl) (by rfl) T.m_len (by decide +kernel) (pa_cons (pv 3) pa_nil)) pa_nil))) (fun _ _ => rfl)))
      (pss_cons (ps_asg (pe_ix (ix_tupK K rfl) (pv 2) (pv 4) (fun _ _ => rfl)) (pg_tupK K rfl rfl (pgs_cons (pg_name (i := 5) sc_law_parted.nd rfl (Or.inl rfl)) (pgs_cons (pg_name (i := 6) sc_law_parted.nd rfl (Or.inl rfl)) pgs_nil))))
      (pss_cons (ps_set (i := 7) sc_law_parted.nd rfl (Or.inl rfl) (pe_op op_add pe_int (pe_call G_law_pick (hr.mono (by decide)) (by rfl) m_law_pick F_law_pick.kp b_law_pick .nil pass0 (pa_cons (pv 0) (pa_cons (pe_op op_sub (pe_callB (call_len_seqK K rfl) (by rfl) T.m_len (by decide +kernel) (pa_cons (pe_ix (ix_tupK K rfl) (pv 5) pe_int (fun _ _ => rfl)) pa_nil)) pe_int) pa_nil)))))
      (pss_cons (ps_set (i := 8) sc_law_parted.nd rfl (Or.inl rfl) (pe_tup (pa_cons (pe_ix (ix_tupK K rfl) (pv 5) pe_int (fun _ _ => rfl)) (pa_cons (pe_slice (sl_tupAK K rfl) (pe_ix (ix_tupK K rfl) (pv 5) pe_int (fun _ _ => rfl)) po_none (po_some (pv 7))) pa_nil))))
      (pss_cons (ps_set (i := 9) sc_law_parted.nd rfl (Or.inl rfl) (pe_tup (pa_cons (pe_call G_law_end (hr.mono (by decide)) (by rfl) m_law_end F_law_end.kp b_law_end .nil pass0 (pa_cons (pv 1) (pa_cons (pv 8) pa_nil))) (pa_cons (pe_slice (sl_tupAK K rfl) (pe_ix (ix_tupK K rfl) (pv 5) pe_int (fun _ _ => rfl)) (po_some (pv 7)) po_none) pa_nil))))
      (pss_one (ps_ret (pe_op (op_catAK K rfl) (pe_op (op_catAK K rfl) (pe_slice (sl_tupAK K rfl) (pv 2) po_none (po_some (pv 4))) (pe_tup (pa_cons (pe_tup (pa_cons (pv 8) (pa_cons (pv 6) pa_nil))) (pa_cons (pe_tup (pa_cons (pv 9) (pa_cons (pv 6) pa_nil))) pa_nil)))) (pe_slice (sl_tupAK K rfl) (pv 2) (po_some (pe_op op_add (pv 4) pe_int)) po_none))))))))))), ?_⟩
  have fresh : ∀ D, H D = none → D ≠ f := by
    rintro D nD rfl
    obtain ⟨_, _, _, _, _, e1, _⟩ := hF
    rw [e1] at nD
    cases nD
  refine ⟨_, rfl, pp, _, rfl, .inr (SqT.of hpp), _, rfl, by omega, by omega, fun D nD => lc_range (lo := 0) (n := zv.length) (fun i H5 => H5 D = some (.lst (((List.range i).filter fun z => longP ps z).map nV)) ∧ Same H H5) ⟨upd_same, same_new nD⟩ ?_ ?_⟩
  · rintro k H5 hk ⟨hD, s5⟩
    obtain ⟨v, ev⟩ : ∃ v, zv[k]? = some v := ⟨_, List.getElem?_eq_getElem hk⟩
    obtain ⟨x, ex, a, u, rfl, ea, p1, rfl, gg, h1, h2⟩ := alp.getL ev
    have few := filt_len (p := fun z => longP ps z) k
    refine ⟨rfl, _, rfl, _, rfl, pp, _, _, _, rfl, rfl, SqT.of (s5 _ _ hpp), at0 ev, a, _, _, _, rfl, rfl, SqT.of (s5 _ _ ea), atI_nat (j := 0) rfl, p1, _, _, _, rfl, rfl, SqT.of (s5 _ _ h1), atI_nat (j := 1) rfl, gg, _, rfl, .inr (SqT.of (s5 _ _ h2)), _, _, rfl, rfl, _, rfl, if_bl (fun c1 => ?_) (fun c1 => ?_)⟩
    · have c1 : 1 < x.1.2.length := by have := of_decide_eq_true c1; rw [List.length_map] at this; omega
      refine ⟨_, rfl, _, hD, by rw [List.length_map]; exact small1000 (by omega), ?_, Same.own s5 nD⟩
      rw [upd_same, filt_succ, if_pos (by rw [longP_at ex]; exact decide_eq_true c1), List.map_append, Int.zero_add]
      rfl
    · have c1 : ¬ 1 < x.1.2.length := by have := of_decide_eq_false c1; rw [List.length_map] at this; omega
      refine ⟨?_, s5⟩
      rw [filt_succ, if_neg (by rw [longP_at ex, decide_eq_false c1]; exact Bool.false_ne_true), List.append_nil]
      exact hD
  rintro H1 ⟨hD, s1⟩
  have few := filt_len (p := fun z => longP ps z) zv.length
  refine ⟨_, rfl, D, _, rfl, .inl (SqL.of hD), rfl, _, rfl, if_bl (fun c0 => ?_) (fun c0 => ?_)⟩
  · exact ⟨_, rfl, q pp zv ps H1 (s1 _ _ hpp) (alp.imp fun _ _ z => z.keep (TK.same s1)) (Nat.le_succ _) g (.inl rfl) (hF.same s1) (But.of s1)⟩
  generalize eL : (List.range zv.length).filter (fun z => longP ps z) = L at hD few c0
  have lp : 0 < L.length := by
    refine Nat.pos_of_ne_zero fun z => ?_
    exact of_decide_eq_false c0 (by rw [List.length_map, z]; rfl)
  refine ⟨_, rfl, _, rfl, _, rfl, D, _, rfl, .inl (SqL.of hD), f, c, _, rfl, by rw [List.length_map]; omega, log_big (by rw [List.length_map]; omega), hF.same s1, fun b H2 b0 b1 F2 B2 => ?_⟩
  obtain ⟨b, rfl⟩ : ∃ k : Nat, b = ((k : Nat) : Int) := ⟨b.toNat, by omega⟩
  rw [List.length_map] at b1
  obtain ⟨k, ek⟩ : ∃ k, L[b]? = some k := ⟨_, List.getElem?_eq_getElem (by omega)⟩
  have hk := List.mem_of_getElem? ek
  rw [← eL] at hk
  obtain ⟨hk1, hk2⟩ := List.mem_filter.mp hk
  have hk1 := List.mem_range.mp hk1
  have B12 : But f H H2 := (But.of s1).trans B2
  have K2 : TK H H2 := TK.but hF B12
  refine ⟨D, _, _, _, rfl, rfl, SqL.of (B2 _ _ hD (fresh _ nD)), atI_nat (show (L.map nV)[b]? = some (nV k) by rw [List.getElem?_map, ek]; rfl), ?_⟩
  obtain ⟨v, ev⟩ : ∃ v, zv[k]? = some v := ⟨_, List.getElem?_eq_getElem hk1⟩
  obtain ⟨x, ex, hx⟩ := alp.getL ev
  have hk2 : 1 < x.1.2.length := by rw [longP_at ex] at hk2; exact of_decide_eq_true hk2
  obtain ⟨a, u, rfl, ea, p1, rfl, gg, h1, h2⟩ := hx.keep K2
  have hp2 := K2 _ _ hpp
  have wx := wk x (List.mem_of_getElem? ex)
  refine ⟨_, rfl, _, rfl, pp, _, _, _, rfl, rfl, SqT.of hp2, atI_nat ev, a, _, rfl, SqT.of ea, rfl, _, _, rfl, _, _, rfl, rfl, ?_⟩
  refine ⟨_, rfl, _, rfl, p1, _, _, _, rfl, rfl, SqT.of h1, atI_nat (j := 1) rfl, gg, _, rfl, .inr (SqT.of h2), _, _, rfl, rfl, f, c, _, rfl, by rw [List.length_map]; omega, ?_, F2, fun t H3 t0 t1 F3 B3 => ?_⟩
  · have l60 := wx.ln
    rw [List.length_map, show ((x.1.2.length : Nat) : Int) - 1 = ((x.1.2.length - 1 : Nat) : Int) by omega]
    exact log_big (by omega)
  obtain ⟨t, rfl⟩ : ∃ k : Nat, t = ((k : Nat) : Int) := ⟨t.toNat, by omega⟩
  rw [List.length_map] at t1
  have K3 : TK H2 H3 := TK.but F2 B3
  refine ⟨_, _, rfl, rfl, ?_⟩
  have et : (1 : Int) + ((t : Nat) : Int) = ((t + 1 : Nat) : Int) := by omega
  refine ⟨_, rfl, p1, _, _, _, rfl, rfl, SqT.of (K3 _ _ h1), atI_nat (j := 0) rfl, ?_⟩
  refine ⟨_, rfl, p1, _, _, _, rfl, rfl, SqT.of (K3 _ _ h1), atI_nat (j := 1) rfl, ?_⟩
  dsimp only [tNoPart]
  refine ⟨_, rfl, _, rfl, slA_of (K3 _ _ h2) fun pl H4 hl s4 => ?_⟩
  have hl : H4 pl = some (.tup (cutV (x.1.2.map nV) none (some ((t + 1 : Nat) : Int)))) := by rw [← et]; exact hl
  rw [cut_take] at hl
  refine ⟨(by show 2 ≤ sizeLine; decide), fun tl ntl => ?_⟩
  have u1 := same_new (o := .tup [nV x.1.1, V.ref pl]) ntl
  have k25 : TK H2 (upd H4 tl (.tup [nV x.1.1, V.ref pl])) := K3.trans (TK.same (s4.trans u1))
  have k05 := K2.trans k25
  have lt1 : ∀ n ∈ x.1.2.take (t + 1), n < bs.length := fun n hn => wx.lt n (List.mem_of_mem_take hn)
  have gx := g.1 x (List.mem_of_getElem? ex)
  obtain ⟨we, _, _⟩ := okP_end ok gx.1 gx.2
  have we2 := we
  rw [← List.take_append_drop (t + 1) x.1.2] at we2
  obtain ⟨d, hd1, hd2⟩ := way_parts we2
  have hl5 : upd H4 tl (.tup [nV x.1.1, V.ref pl]) pl = some (.tup ((x.1.2.take (t + 1)).map nV)) := by rw [List.map_take]; exact u1 _ _ hl
  refine ⟨_, rfl, _, rfl, r, tl, hs, bs, x.1.1, x.1.2.take (t + 1), rfl, hR.keep k05, ⟨pl, upd_same, hl5⟩, lt1, fun H6 s6 => ?_⟩
  rw [hd1]
  refine ⟨_, rfl, p1, _, _, _, rfl, rfl, SqT.of (s6 _ _ (k25 _ _ h1)), atI_nat (j := 1) rfl, ?_⟩
  dsimp only [tNoPart]
  refine ⟨_, rfl, _, rfl, slA_of (s6 _ _ (k25 _ _ h2)) fun pr H7 hr s7 => ?_⟩
  have hr : H7 pr = some (.tup (cutV (x.1.2.map nV) (some ((t + 1 : Nat) : Int)) none)) := by rw [← et]; exact hr
  rw [cut_drop] at hr
  refine ⟨(by show 2 ≤ sizeLine; decide), fun tr ntr => ?_⟩
  have u2 := same_new (o := .tup [onV (some d), V.ref pr]) ntr
  have k28 := k25.trans ((TK.same s6).trans (TK.same (s7.trans u2)))
  refine ⟨_, rfl, ?_⟩
  dsimp only [tNoPart]
  refine ⟨_, rfl, _, rfl, slA_of (k28 _ _ hp2) fun p3 H9 h9 s9 => ?_⟩
  rw [cut_take] at h9
  refine ⟨_, rfl, _, rfl, (by show 2 ≤ sizeLine; decide), fun c1 nc1 => ⟨_, rfl, _, rfl, (by show 2 ≤ sizeLine; decide), fun c2 nc2 => ⟨(by show 2 ≤ sizeLine; decide), fun c3 nc3 => ?_⟩⟩⟩
  have v1 := same_new (o := .tup [V.ref tl, V.int x.2]) nc1
  have v2 := same_new (o := .tup [V.ref tr, V.int x.2]) nc2
  have v3 := same_new (o := .tup [V.ref c1, V.ref c2]) nc3
  refine catA_of (v3 _ _ (v2 _ _ (v1 _ _ h9))) upd_same (by rw [List.length_take]; show _ + 2 ≤ 1000; omega) fun p4 HA h4 sA => ?_
  have s9A := (v1.trans v2).trans (v3.trans sA)
  refine ⟨_, rfl, _, rfl, _, _, rfl, rfl, ?_⟩
  dsimp only [tNoPart]
  refine ⟨_, rfl, slA_of (s9A _ _ (s9 _ _ (k28 _ _ hp2))) fun p5 HB h5 sB => ?_⟩
  have h5 : HB p5 = some (.tup (cutV zv (some ((k + 1 : Nat) : Int)) none)) := by rw [show ((k + 1 : Nat) : Int) = ((k : Nat) : Int) + 1 by omega]; exact h5
  rw [cut_drop] at h5
  refine catA_of (sB _ _ h4) h5 (by rw [List.length_append, List.length_take, List.length_drop]; show _ + 2 + _ ≤ 1000; omega) fun p6 HC h6 sC => ?_
  have s9C := s9A.trans (sB.trans sC)
  have kC := (TK.same s9).trans (TK.same s9C)
  have k8C : TK (upd H7 tr (.tup [onV (some d), V.ref pr])) HC := kC
  have k2C := k28.trans kC
  have k0C := K2.trans k2C
  have gg2 : Good51 hs bs (ps.take k ++ (((x.1.1, x.1.2.take (t + 1)), x.2) :: ((d, x.1.2.drop (t + 1)), x.2) :: ps.drop (k + 1))) := by
    refine Good51.parted ok ?_ (fun z => ?_) (fun z => ?_) hd1
    · rw [List.take_append_drop, show ((x.1.1, x.1.2), x.2) = x from rfl, ← drop_at ex, List.take_append_drop]
      exact g
    · have := congrArg List.length z
      rw [List.length_take, List.length_nil] at this
      omega
    · have := congrArg List.length z
      rw [List.length_drop, List.length_nil] at this
      omega
  have ptl : RgAt HC (V.ref tl) (x.1.1, x.1.2.take (t + 1)) := ⟨tl, rfl, pl, (TK.same s6).trans ((TK.same (s7.trans u2)).trans kC) _ _ upd_same, (TK.same s6).trans ((TK.same (s7.trans u2)).trans kC) _ _ hl5⟩
  have ptr : RgAt HC (V.ref tr) (d, x.1.2.drop (t + 1)) := ⟨tr, rfl, pr, k8C _ _ upd_same, by rw [List.map_drop]; exact k8C _ _ (u2 _ _ hr)⟩
  refine q p6 _ _ HC h6 (?_ : All2 (PcAt HC) _ (ps.take k ++ (((x.1.1, x.1.2.take (t + 1)), x.2) :: ((d, x.1.2.drop (t + 1)), x.2) :: ps.drop (k + 1)))) ?_ gg2 (.inr ⟨k, x.1.1, d, x.1.2.take (t + 1), x.1.2.drop (t + 1), x.2, by rw [List.take_append_drop]; exact ex, rfl⟩) ?_ ?_
  · rw [List.append_assoc]
    refine ((alp.take k).imp fun _ _ y => y.keep k0C).app (.cons ⟨c1, _, rfl, (v2.trans (v3.trans (sA.trans (sB.trans sC)))) _ _ upd_same, ptl⟩ (.cons ⟨c2, _, rfl, (v3.trans (sA.trans (sB.trans sC))) _ _ upd_same, ptr⟩ ((alp.drop (k + 1)).imp fun _ _ y => y.keep k0C)))
  · have := (List.getElem?_eq_some_iff.mp ex).1
    rw [List.length_append, List.length_cons, List.length_cons, List.length_take, List.length_drop]; omega
  · exact ((((F3.same (s4.trans u1)).same s6).same (s7.trans u2)).same s9).same s9C
  · exact (B12.trans B3).trans (But.of ((((s4.trans u1).trans s6).trans (s7.trans u2)).trans (s9.trans s9C)))
end
theorem less_snoc {j k : Nat} {x : Pc} : ∀ {ps : List Pc} {i : Nat}, lessJ j k i (ps ++ [x]) = lessJ j k i ps ++ [(x.1, x.2 - (if i + ps.length = j ∨ i + ps.length = k then 1 else 0))]
  | [], i => rfl
  | y :: ps, i => by
    show (y.1, _) :: lessJ j k (i + 1) (ps ++ [x]) = (y.1, _) :: (lessJ j k (i + 1) ps ++ _)
    rw [less_snoc, List.length_cons, show i + 1 + ps.length = i + (ps.length + 1) by omega]
def JkAt (H : Hp) (v : V) (x : Nat × Nat) : Prop := ∃ a : Addr, v = .ref a ∧ H a = some (.tup [nV x.1, nV x.2])
theorem JkAt.keep {H H' : Hp} {v : V} {x : Nat × Nat} (h : JkAt H v x) (k : TK H H') : JkAt H' v x := by
  obtain ⟨a, e, h⟩ := h
  exact ⟨a, e, k _ _ h⟩
def JkOk (bs : List BR) (ps : List Pc) (p : Nat × Nat) : Prop := p.1 ≠ p.2 ∧ ∃ x y : Pc, ps[p.1]? = some x ∧ ps[p.2]? = some y ∧ wayEnd bs x.1.1 x.1.2 = some y.1.1
section
variable {P : Program} {w : World} {K : PySem.W.Frag} {mg : Str → Option Value} {base : Heap}
def sp_law_joined (K : PySem.W.Frag) : Sp := fun vs H Q _ => ∃ (f c r pp : Addr) (hs : List HR) (bs : List BR) (zv : List V) (ps : List Pc), vs = [.ref f, .ref r, .ref pp] ∧ Flow H f c ∧ RoomAt H r hs bs ∧ RoomOk hs bs ∧ H pp = some (.tup zv) ∧ All2 (PcAt H) zv ps ∧ ps.length ≤ 300 ∧ (∀ x ∈ ps, WkOk hs bs x.1) ∧ Good51 hs bs ps ∧
  ∀ (p' : Addr) (zv' : List V) (ps' : List Pc) (H' : Hp), H' p' = some (.tup zv') → All2 (PcAt H') zv' ps' → ps'.length ≤ ps.length + 1 → Good51 hs bs ps' → (ps' = ps ∨ ∃ (j k : Nat) (x y : Pc), j ≠ k ∧ ps[j]? = some x ∧ ps[k]? = some y ∧ ps' = joinJ ps j k (x.1.1, x.1.2 ++ y.1.2)) → Flow H' f c → But f H H' → Q (.ref p') H'
theorem ok_law_joined {f : Addr} {fd : FuncData} (F : Fun K "_law_joined" "_law_joined" s_law_joined f fd) (T : Top K mg) : FnOk P w K mg base CX0 2 f fd ["_law_flow_here", "_law_room_here", "_law_prices"] (sp_law_joined K) := by
  obtain ⟨f_law_end, fd_law_end, F_law_end, b_law_end, m_law_end⟩ := T.d_law_end
  have G_law_end := ok_law_end (P := P) (w := w) (base := base) F_law_end T
  obtain ⟨f_law_pick, fd_law_pick, F_law_pick, b_law_pick, m_law_pick⟩ := T.d_law_pick
  have G_law_pick := ok_law_pick (P := P) (w := w) (base := base) F_law_pick T
  refine F.ok sc_law_joined (fun vs H Q E h => ?_) (fun cdv A outer s H vs Q E hr h => ?_)
  · obtain ⟨f, c, r, pp, hs, bs, zv, ps, rfl, _⟩ := h
    rfl
  obtain ⟨f, c, r, pp, hs, bs, zv, ps, rfl, hF, hR, ok, hpp, alp, lps, wk, g, q⟩ := h
  have lzv := alp.length
  let sg : Addr → Option V → Option V → L2.St := fun S v4 v5 => [some (.ref f), some (.ref r), some (.ref pp), some (.ref S), v4, v5, none, none, none, none, none]
  let R1 : TS := fun D' σ' H' => D'.rt = Q ∧ ∃ (S : Addr) (v4 v5 : Option V) (sv : List V) (ss : List (Nat × Nat)), σ' = sg S v4 v5 ∧ H' S = some (.lst sv) ∧ All2 (JkAt H') sv ss ∧ (∀ p ∈ ss, JkOk bs ps p) ∧ ss.length ≤ 90000 ∧ Same H H' ∧ H S = none
  refine ⟨_, (pss_cons (ps_set (i := 3) sc_law_joined.nd rfl (Or.inl rfl) (pe_lst pa_nil))
      (pss_cons (ps_for PassesOwn.never rfl (pi_range1 (by rfl) T.m_range (pa_cons (pe_callB (call_len_seqK K rfl) (by rfl) T.m_len (by decide +kernel) (pa_cons (pv 2) pa_nil)) pa_nil)) (pg_name (i := 4) sc_law_joined.nd rfl (Or.inr rfl))
        (pss_cons (ps_set (i := 5) sc_law_joined.nd rfl (Or.inr rfl) (pe_call G_law_end (hr.mono (by decide)) (by rfl) m_law_end F_law_end.kp b_law_end .nil pass0 (pa_cons (pv 1) (pa_cons (pe_ix (ix_tupK K rfl) (pe_ix (ix_tupK K rfl) (pv 2) (pv 4) (fun _ _ => rfl)) pe_int (fun _ _ => rfl)) pa_nil))))
      (pss_one (ps_expr (pe_bmK K rfl PySem.F.plainAttrs_list PySem.F.slot_list_extend PySem.F.type_list_extend mt_extend (pv 3) (pa_cons (pe_lc (own := [("_law_k", 6)]) (g := gName 6) (by rfl) sc_law_joined.nd (pi_range1 (by rfl) T.m_range (pa_cons (pe_callB (call_len_seqK K rfl) (by rfl) T.m_len (by decide +kernel) (pa_cons (pv 2) pa_nil)) pa_nil)) (blkOk_by (own := [("_law_k", 6)]) (N := N_law_joined) (sc := defScope s_law_joined) (by decide +kernel)) (fun _ _ _ _ _ => (pg_name (i := 6) sc_law_joined.nd rfl (Or.inl rfl))) (fun _ _ _ _ _ => pts_one (PW.pt (pw_and (pt_cmpR op_ne (pv 4) (pv 6) (nomark _)) (pw_and1 (pt_cmpR op_eq (pe_ix (ix_tupK K rfl) (pe_ix (ix_tupK K rfl) (pe_ix (ix_tupK K rfl) (pv 2) (pv 6) (fun _ _ => rfl)) pe_int (fun _ _ => rfl)) pe_int (fun _ _ => rfl)) (pv 5) (nomark _)))))) (fun _ _ _ _ _ => (pe_tup (pa_cons (pv 4) (pa_cons (pv 6) pa_nil))))) pa_nil))))))
      (PSs.to (pss_cons (ps_if (pt_cmpR op_eq (pe_callB (call_len_seqK K rfl) (by rfl) T.m_len (by decide +kernel) (pa_cons (pv 3) pa_nil)) pe_int (nomark _)) (pss_one (ps_ret (pv 2))) pss_nil)
      (pss_cons (ps_asg (pe_ix (ix_listK K rfl) (pv 3) (pe_call G_law_pick (hr.mono (by decide)) (by rfl) m_law_pick F_law_pick.kp b_law_pick .nil pass0 (pa_cons (pv 0) (pa_cons (pe_callB (call_len_seqK K rfl) (by rfl) T.m_len (by decide +kernel) (pa_cons (pv 3) pa_nil)) pa_nil))) (fun _ _ => rfl)) (pg_tupK K rfl rfl (pgs_cons (pg_name (i := 4) sc_law_joined.nd rfl (Or.inr rfl)) (pgs_cons (pg_name (i := 6) sc_law_joined.nd rfl (Or.inr rfl)) pgs_nil))))
      (pss_cons (ps_setLc (i := 7) (own := [("_law_at", 8), ("_law_way", 9), ("_law_many", 10)]) (g := gTup K 2 (gCons (gName 8) (gCons (gTup K 2 (gCons (gName 9) (gCons (gName 10) gNil))) gNil))) (tt := tYes) (by rfl) sc_law_joined.nd rfl rfl (sw_true rfl rfl rfl (by decide +kernel)) (pi_enumT K rfl (by rfl) T.m_enumerate (pa_cons (pv 2) pa_nil)) (blkOk_by (own := [("_law_at", 8), ("_law_way", 9), ("_law_many", 10)]) (N := N_law_joined) (sc := defScope s_law_joined) (by decide +kernel)) (fun _ _ _ _ _ => (pg_tupK K rfl rfl (pgs_cons (pg_name (i := 8) sc_law_joined.nd rfl (Or.inl rfl)) (pgs_cons (pg_tupK K rfl rfl (pgs_cons (pg_name (i := 9) sc_law_joined.nd rfl (Or.inl rfl)) (pgs_cons (pg_name (i := 10) sc_law_joined.nd rfl (Or.inl rfl)) pgs_nil))) pgs_nil)))) (fun _ _ _ _ _ => pts_nil) (fun _ _ _ _ _ => (pe_tup (pa_cons (pv 9) (pa_cons (pe_op op_sub (pv 10) (pe_callTy call_int1 (by rfl) T.m_int (by decide +kernel) (pa_cons (pe_cmpR (op_in_seqK K rfl) (pv 8) (pe_tup (pa_cons (pv 4) (pa_cons (pv 6) pa_nil))) (by with_unfolding_all rfl)) pa_nil))) pa_nil)))))
      (pss_cons (ps_expr (pe_bmK K rfl PySem.F.plainAttrs_list PySem.F.slot_list_append PySem.F.type_list_append mt_append (pv 7) (pa_cons (pe_tup (pa_cons (pe_tup (pa_cons (pe_ix (ix_tupK K rfl) (pe_ix (ix_tupK K rfl) (pe_ix (ix_tupK K rfl) (pv 2) (pv 4) (fun _ _ => rfl)) pe_int (fun _ _ => rfl)) pe_int (fun _ _ => rfl)) (pa_cons (pe_op (op_catAK K rfl) (pe_ix (ix_tupK K rfl) (pe_ix (ix_tupK K rfl) (pe_ix (ix_tupK K rfl) (pv 2) (pv 4) (fun _ _ => rfl)) pe_int (fun _ _ => rfl)) pe_int (fun _ _ => rfl)) (pe_ix (ix_tupK K rfl) (pe_ix (ix_tupK K rfl) (pe_ix (ix_tupK K rfl) (pv 2) (pv 6) (fun _ _ => rfl)) pe_int (fun _ _ => rfl)) pe_int (fun _ _ => rfl))) pa_nil))) (pa_cons pe_int pa_nil))) pa_nil)))
      (pss_one (ps_ret (pe_callTy (call_tuple_ofK K rfl) (by rfl) T.m_tuple (by decide +kernel) (pa_cons (pe_lc (own := [("_law_way", 9), ("_law_many", 10)]) (g := gTup K 2 (gCons (gName 9) (gCons (gName 10) gNil))) (by rfl) sc_law_joined.nd (pi_listK K rfl (pv 7)) (blkOk_by (own := [("_law_way", 9), ("_law_many", 10)]) (N := N_law_joined) (sc := defScope s_law_joined) (by decide +kernel)) (fun _ _ _ _ _ => (pg_tupK K rfl rfl (pgs_cons (pg_name (i := 9) sc_law_joined.nd rfl (Or.inl rfl)) (pgs_cons (pg_name (i := 10) sc_law_joined.nd rfl (Or.inl rfl)) pgs_nil)))) (fun _ _ _ _ _ => pts_one (pt_cmpR op_gt (pv 10) pe_int (nomark _))) (fun _ _ _ _ _ => (pe_tup (pa_cons (pv 9) (pa_cons (pv 10) pa_nil))))) pa_nil)))))))) R1 ?tail1))), ?_⟩
  case tail1 =>
    rintro D' σ' H1 ⟨eD, S, v4, v5, sv, ss, rfl, hS, als, oks, lss, s1, nS⟩
    have lsv := als.length
    have rS : S ≠ f := by
      rintro rfl
      obtain ⟨_, _, _, _, _, e1, _⟩ := hF
      rw [e1] at nS
      cases nS
    refine ⟨_, rfl, S, _, rfl, .inl (SqL.of hS), rfl, _, rfl, if_bl (fun c0 => ?_) (fun c0 => ?_)⟩
    · refine ⟨_, rfl, ?_⟩
      rw [eD]
      exact q pp zv ps H1 (s1 _ _ hpp) (alp.imp fun _ _ z => z.keep (TK.same s1)) (Nat.le_succ _) g (.inl rfl) (hF.same s1) (But.of s1)
    have lp : 0 < sv.length := by
      refine Nat.pos_of_ne_zero fun z => ?_
      exact of_decide_eq_false c0 (by rw [z]; rfl)
    refine ⟨_, rfl, _, rfl, _, rfl, S, _, rfl, .inl (SqL.of hS), f, c, _, rfl, by omega, log_big (by omega), hF.same s1, fun b H2 b0 b1 F2 B2 => ?_⟩
    obtain ⟨b, rfl⟩ : ∃ k : Nat, b = ((k : Nat) : Int) := ⟨b.toNat, by omega⟩
    have B12 : But f H H2 := (But.of s1).trans B2
    have K2 : TK H H2 := TK.but hF B12
    have K12 : TK H1 H2 := TK.but (hF.same s1) B2
    obtain ⟨v, ev⟩ : ∃ v, sv[b]? = some v := ⟨_, List.getElem?_eq_getElem (by omega)⟩
    obtain ⟨⟨j, k⟩, ep, hp⟩ := als.getL ev
    obtain ⟨jk, x, y, ex, ey, hd⟩ := oks _ (List.mem_of_getElem? ep)
    obtain ⟨a, rfl, ea⟩ := hp.keep K12
    refine ⟨S, _, _, _, rfl, rfl, SqL.of (B2 _ _ hS rS), atI_nat ev, a, _, rfl, SqT.of ea, rfl, _, _, rfl, _, _, rfl, rfl, ?_⟩
    have hp2 := K2 _ _ hpp
    refine ⟨_, rfl, pp, zv, rfl, SqT.of hp2, fun D nD => lc_it (J := IteT K pp zv) (n := zv.length) (fun i H5 => ∃ fv : List V, H5 D = some (.lst fv) ∧ All2 (PcAt H5) fv (lessJ j k 0 (ps.take i)) ∧ Same H2 H5) ⟨[], upd_same, .nil, same_new nD⟩ ?_ ?_ ?_ ?_⟩
    · rintro i H5 hi ⟨_, _, _, s5⟩
      exact ⟨SqT.of (s5 _ _ hp2), hi⟩
    · rintro H5 ⟨_, _, _, s5⟩
      exact ⟨SqT.of (s5 _ _ hp2), rfl⟩
    · rintro i v H5 H6 hi ⟨fv, hD, alf, s5⟩ ⟨t, y1, rfl, nt, rfl, ey1⟩
      have k25 : TK H2 H5 := TK.same s5
      obtain ⟨z, ez, ⟨ap, u, rfl, e1, e2⟩⟩ := alp.getL ey1
      have w1 := same_new (o := .tup [V.int ((i : Nat) : Int), V.ref ap]) nt
      have k6 := (K2.trans k25).trans (TK.same w1)
      have lfv := alf.length
      rw [less_len, List.length_take] at lfv
      refine ⟨t, _, rfl, SqT.of upd_same, rfl, _, _, rfl, _, _, rfl, ap, _, rfl, SqT.of (k6 _ _ e1), rfl, _, _, rfl, _, _, rfl, rfl, rfl, rfl, yes_in ?_⟩
      have hD6 := w1 _ _ hD
      have alf6 := alf.imp fun _ _ z => z.keep (TK.same w1)
      have s6 := s5.trans w1
      have e2' := e2.keep k6
      generalize upd H5 t (.tup [V.int ((i : Nat) : Int), V.ref ap]) = H6 at hD6 alf6 s6 e2' ⊢
      refine ⟨_, rfl, _, rfl, _, rfl, _, rfl, _, rfl, (by show 2 ≤ sizeLine; decide), fun o1 no1 => ?_⟩
      have w2 := same_new (o := .tup [nV j, nV k]) no1
      refine ⟨o1, _, rfl, .inr (SqT.of upd_same), rfl, rfl, ?_⟩
      refine .inr ⟨_, rfl, _, _, rfl, rfl, (by show 2 ≤ sizeLine; decide), fun o2 no2 => ?_⟩
      have einv : inV (nV i) [nV j, nV k] = decide (i = j ∨ i = k) := by
        have h := inV_nats (k := i) (ns := [j, k])
        by_cases z : i = j ∨ i = k
        · rw [decide_eq_true z]
          exact h.mpr (z.elim (fun e => e ▸ List.mem_cons_self ..) fun e => e ▸ List.mem_cons_of_mem _ (List.mem_cons_self ..))
        · rw [decide_eq_false z]
          refine Bool.eq_false_iff.mpr fun y => z ?_
          rcases List.mem_cons.mp (h.mp y) with e | e
          · exact .inl e
          · exact .inr (List.mem_singleton.mp e)
      have em : (if (if false = true then !inV (V.int (i : Nat)) [nV j, nV k] else inV (V.int (i : Nat)) [nV j, nV k]) = true then (1 : Int) else 0) = (if 0 + (ps.take i).length = j ∨ 0 + (ps.take i).length = k then 1 else 0) := by
        rw [if_neg Bool.false_ne_true, show inV (V.int (i : Nat)) [nV j, nV k] = decide (i = j ∨ i = k) from einv, List.length_take, Nat.zero_add, Nat.min_eq_left (by omega)]
        by_cases z : i = j ∨ i = k
        · rw [if_pos z, if_pos (decide_eq_true z)]
        · rw [if_neg z, if_neg (by rw [decide_eq_false z]; exact Bool.false_ne_true)]
      have w3 := w2.trans (same_new (o := .tup [u, V.int (z.2 - (if 0 + (ps.take i).length = j ∨ 0 + (ps.take i).length = k then 1 else 0))]) no2)
      refine ⟨fv, ?_, small1000 (by omega), fv ++ [V.ref o2], upd_same, ?_, ?_⟩
      · rw [em]; exact w3 _ _ hD6
      · rw [em, List.take_add_one, ez]
        show All2 _ _ (lessJ j k 0 (_ ++ [z]))
        rw [less_snoc]
        refine (alf6.imp fun _ _ z => (z.keep (TK.same w3)).keep (TK.lst (w3 _ _ hD6))).snoc ?_
        exact ⟨o2, u, rfl, TK.lst (w3 _ _ hD6) _ _ upd_same, (e2'.keep (TK.same w3)).keep (TK.lst (w3 _ _ hD6))⟩
      · rw [em]; exact Same.own (s6.trans w3) nD
    · rintro H5 ⟨fv, hD, alf, s5⟩
      rw [lzv, List.take_length] at alf
      have lfv := alf.length
      rw [less_len] at lfv
      have k5 : TK H H5 := K2.trans (TK.same s5)
      have hp5 := k5 _ _ hpp
      obtain ⟨vj, evj, aj, uj, rfl, eaj, pj, rfl, gj, hj1, hj2⟩ := alp.get ex
      obtain ⟨vk, evk, ak, uk, rfl, eak, pk, rfl, gk, hk1, hk2⟩ := alp.get ey
      have wj := wk x (List.mem_of_getElem? ex)
      have wy := wk y (List.mem_of_getElem? ey)
      have l1 := wj.ln
      have l2 := wy.ln
      refine ⟨_, rfl, .inl ⟨rfl, _, SqL.of hD⟩, ?_⟩
      refine ⟨_, rfl, _, rfl, pp, _, _, _, rfl, rfl, SqT.of hp5, atI_nat evj, aj, _, _, _, rfl, rfl, SqT.of (k5 _ _ eaj), atI_nat (j := 0) rfl, pj, _, _, _, rfl, rfl, SqT.of (k5 _ _ hj1), atI_nat (j := 0) rfl, ?_⟩
      refine ⟨_, rfl, _, rfl, pp, _, _, _, rfl, rfl, SqT.of hp5, atI_nat evj, aj, _, _, _, rfl, rfl, SqT.of (k5 _ _ eaj), atI_nat (j := 0) rfl, pj, _, _, _, rfl, rfl, SqT.of (k5 _ _ hj1), atI_nat (j := 1) rfl, ?_⟩
      refine ⟨_, rfl, _, rfl, pp, _, _, _, rfl, rfl, SqT.of hp5, atI_nat evk, ak, _, _, _, rfl, rfl, SqT.of (k5 _ _ eak), atI_nat (j := 0) rfl, pk, _, _, _, rfl, rfl, SqT.of (k5 _ _ hk1), atI_nat (j := 1) rfl, ?_⟩
      refine catA_of (k5 _ _ hj2) (k5 _ _ hk2) (by rw [List.length_map, List.length_map]; omega) fun g6 H6 hg6 s6 => ?_
      refine ⟨(by show 2 ≤ sizeLine; decide), fun t6 nt6 => ⟨(by show 2 ≤ sizeLine; decide), fun t7 nt7 => ?_⟩⟩
      have w6 := same_new (o := .tup [nV x.1.1, V.ref g6]) nt6
      have w7 := same_new (o := .tup [V.ref t6, V.int 1]) nt7
      have s57 := s6.trans (w6.trans w7)
      have hD7 := s57 _ _ hD
      refine ⟨D, fv, _, rfl, rfl, hD7, small1000 (by omega), ?_⟩
      have k8 := TK.lst (ys := fv ++ [V.ref t7]) hD7
      have k28 := (TK.same s5).trans ((TK.same s57).trans k8)
      have k58 := (TK.same s57).trans k8
      have hD8 : upd (upd (upd H6 t6 (.tup [nV x.1.1, V.ref g6])) t7 (.tup [V.ref t6, V.int 1])) D (.lst (fv ++ [V.ref t7])) D = some (.lst (fv ++ [V.ref t7])) := upd_same
      have al8 : All2 (PcAt (upd (upd (upd H6 t6 (.tup [nV x.1.1, V.ref g6])) t7 (.tup [V.ref t6, V.int 1])) D (.lst (fv ++ [V.ref t7])))) (fv ++ [V.ref t7]) (lessJ j k 0 ps ++ [((x.1.1, x.1.2 ++ y.1.2), 1)]) := by
        refine (alf.imp fun _ _ z => z.keep k58).snoc ⟨t7, _, rfl, k8 _ _ upd_same, t6, rfl, g6, k8 _ _ (same_new nt7 _ _ upd_same), ?_⟩
        rw [List.map_append]
        exact k8 _ _ ((w6.trans w7) _ _ hg6)
      have s8 : Same H2 (upd (upd (upd H6 t6 (.tup [nV x.1.1, V.ref g6])) t7 (.tup [V.ref t6, V.int 1])) D (.lst (fv ++ [V.ref t7]))) := Same.own (s5.trans s57) nD
      generalize upd (upd (upd H6 t6 (.tup [nV x.1.1, V.ref g6])) t7 (.tup [V.ref t6, V.int 1])) D (.lst (fv ++ [V.ref t7])) = H8 at hD8 al8 s8 ⊢
      have l8 := al8.length
      rw [List.length_append (as := lessJ j k 0 ps), less_len, List.length_singleton] at l8
      refine ⟨_, rfl, D, rfl, ⟨_, SqL.of hD8⟩, fun E nE => lc_list (K := K) (a := D) (xs := fv ++ [V.ref t7]) (fun i H9 => ∃ ev : List V, H9 E = some (.lst ev) ∧ All2 (PcAt H9) ev (((lessJ j k 0 ps ++ [((x.1.1, x.1.2 ++ y.1.2), 1)]).take i).filter fun x => decide (0 < x.2)) ∧ Same H8 H9) ⟨[], upd_same, .nil, same_new nE⟩ (fun i H9 _ ⟨_, _, _, s9⟩ => SqL.of (s9 _ _ hD8)) ?_ ?_⟩
      · rintro i v H9 hx ⟨ev, hE, ale, s9⟩
        obtain ⟨z, ez, a, u, rfl, ea, hu⟩ := al8.getL hx
        have il := (List.getElem?_eq_some_iff.mp hx).1
        have lev := ale.length
        have lev2 : ev.length ≤ i := by
          rw [lev]
          refine Nat.le_trans (List.length_filter_le ..) ?_
          rw [List.length_take]
          exact Nat.min_le_left ..
        refine ⟨a, _, rfl, SqT.of (s9 _ _ ea), rfl, _, _, rfl, _, _, rfl, rfl, rfl, _, rfl, _, _, rfl, rfl, _, rfl, if_bl (fun c => ?_) (fun c => ?_)⟩
        · have c : 0 < z.2 := of_decide_eq_true c
          refine ⟨_, rfl, _, rfl, (by show 2 ≤ sizeLine; decide), fun o no => ?_⟩
          have wo := same_new (o := .tup [u, V.int z.2]) no
          refine ⟨ev, wo _ _ hE, small1000 (by omega), ev ++ [V.ref o], upd_same, ?_, Same.own (s9.trans wo) nE⟩
          rw [List.take_add_one, ez, List.filter_append]
          show All2 _ _ (_ ++ List.filter _ [z])
          rw [List.filter_cons_of_pos (p := fun x : Pc => decide (0 < x.2)) (decide_eq_true c)]
          have kk := TK.lst (ys := ev ++ [V.ref o]) (wo _ _ hE)
          exact (ale.imp fun _ _ z => (z.keep (TK.same wo)).keep kk).snoc ⟨o, u, rfl, kk _ _ upd_same, ((hu.keep (TK.same s9)).keep (TK.same wo)).keep kk⟩
        · have c : ¬ 0 < z.2 := of_decide_eq_false c
          refine ⟨ev, hE, ?_, s9⟩
          rw [List.take_add_one, ez, List.filter_append]
          show All2 _ _ (_ ++ List.filter _ [z])
          rw [List.filter_cons_of_neg (p := fun x : Pc => decide (0 < x.2)) (by rw [decide_eq_true_eq]; exact c), List.filter_nil, List.append_nil]
          exact ale
      · rintro H9 ⟨ev, hE, ale, s9⟩
        rw [List.take_of_length_le (by rw [List.length_append, less_len, List.length_singleton]; omega)] at ale
        refine ⟨E, ev, rfl, .inl ⟨SqL.of hE, fun l nl => ?_⟩⟩
        have wl := same_new (o := .tup ev) nl
        have s29 := (s8.trans s9).trans wl
        rw [eD]
        refine q l ev (joinJ ps j k (x.1.1, x.1.2 ++ y.1.2)) _ upd_same (ale.imp fun _ _ z => z.keep (TK.same wl)) join_len ?_ (.inr ⟨j, k, x, y, jk, ex, ey, rfl⟩) (F2.same s29) (B12.trans (But.of s29))
        exact Good51.joined (m1 := x.2) (m2 := y.2) ok g jk ex ey hd
  refine ⟨(by show 0 ≤ sizeLine; decide), fun S nS => ?_⟩
  refine ⟨_, rfl, pp, _, rfl, .inr (SqT.of (same_new nS _ _ hpp)), _, rfl, by omega, by omega, for_range (lo := 0) (n := zv.length) (fun i σ H2 => ∃ (v4 v5 : Option V) (sv : List V) (ss : List (Nat × Nat)), σ = sg S v4 v5 ∧ H2 S = some (.lst sv) ∧ All2 (JkAt H2) sv ss ∧ (∀ p ∈ ss, JkOk bs ps p) ∧ ss.length ≤ i * 300 ∧ Same H H2) ⟨none, none, [], [], rfl, upd_same, .nil, (fun _ z => nomatch z), Nat.zero_le _, same_new nS⟩ ?_ ?_⟩
  · rintro i σ H2 hi ⟨v4, v5, sv, ss, rfl, hS, als, oks, lss, s2⟩
    obtain ⟨v, ev⟩ : ∃ v, zv[i]? = some v := ⟨_, List.getElem?_eq_getElem hi⟩
    obtain ⟨x, ex, a, u, rfl, ea, p1, rfl, gg, h1, h2⟩ := alp.getL ev
    have wx := wk x (List.mem_of_getElem? ex)
    have hp2 := s2 _ _ hpp
    refine ⟨_, rfl, ?_⟩
    refine ⟨_, rfl, _, rfl, pp, _, _, _, rfl, rfl, SqT.of hp2, at0 ev, a, _, _, _, rfl, rfl, SqT.of (s2 _ _ ea), atI_nat (j := 0) rfl, r, p1, hs, bs, x.1.1, x.1.2, rfl, hR.keep (TK.same s2), ⟨gg, s2 _ _ h1, s2 _ _ h2⟩, wx.lt, fun H3 s3 => ?_⟩
    have s23 := s2.trans s3
    have gx := g.1 x (List.mem_of_getElem? ex)
    obtain ⟨we, _, _⟩ := okP_end ok gx.1 gx.2
    rw [we]
    refine ⟨_, rfl, .inl ⟨rfl, _, SqL.of (s3 _ _ hS)⟩, ?_⟩
    refine ⟨_, rfl, pp, _, rfl, .inr (SqT.of (s23 _ _ hpp)), _, rfl, by omega, by omega, fun D nD => lc_range (lo := 0) (n := zv.length) (fun k H5 => ∃ (qv : List V) (qs : List (Nat × Nat)), H5 D = some (.lst qv) ∧ All2 (JkAt H5) qv qs ∧ (∀ p ∈ qs, JkOk bs ps p) ∧ qs.length ≤ k ∧ Same H3 H5) ⟨[], [], upd_same, .nil, (fun _ z => nomatch z), Nat.zero_le _, same_new nD⟩ ?_ ?_⟩
    · rintro k H5 hk ⟨qv, qs, hD, alq, okq, lq, s5⟩
      have lqv := alq.length
      obtain ⟨v', ev'⟩ : ∃ v, zv[k]? = some v := ⟨_, List.getElem?_eq_getElem hk⟩
      obtain ⟨y, ey, a', u', rfl, ea', p1', rfl, gg', h1', h2'⟩ := alp.getL ev'
      have s25 := s23.trans s5
      refine ⟨rfl, _, rfl, _, rfl, rfl, _, rfl, if_bl (fun c1 => ?_) (fun c1 => ?_)⟩
      · refine ⟨_, rfl, _, rfl, pp, _, _, _, rfl, rfl, SqT.of (s25 _ _ hpp), at0 ev', a', _, _, _, rfl, rfl, SqT.of (s25 _ _ ea'), atI_nat (j := 0) rfl, p1', _, _, _, rfl, rfl, SqT.of (s25 _ _ h1'), atI_nat (j := 0) rfl, _, rfl, rfl, _, rfl, if_bl (fun c2 => ?_) (fun c2 => ?_)⟩
        · have c2 : y.1.1 = enD bs x.1 := by have := V.int.inj (of_decide_eq_true c2); omega
          have c1 : i ≠ k := by
            intro z
            subst z
            simp at c1
          refine ⟨_, rfl, _, rfl, (by show 2 ≤ sizeLine; decide), fun o no => ?_⟩
          have wo := same_new (o := .tup [V.int (0 + (i : Nat)), V.int (0 + (k : Nat))]) no
          refine ⟨qv, wo _ _ hD, small1000 (by omega), qv ++ [V.ref o], qs ++ [(i, k)], upd_same, ?_, ?_, ?_, Same.own (s5.trans wo) nD⟩
          · have kk := TK.lst (ys := qv ++ [V.ref o]) (wo _ _ hD)
            refine (alq.imp fun _ _ z => (z.keep (TK.same wo)).keep kk).snoc ⟨o, rfl, ?_⟩
            show _ = some (HO.tup [V.int ((i : Nat) : Int), V.int ((k : Nat) : Int)])
            have e : [V.int ((i : Nat) : Int), V.int ((k : Nat) : Int)] = [V.int (0 + ((i : Nat) : Int)), V.int (0 + ((k : Nat) : Int))] := by rw [Int.zero_add, Int.zero_add]
            rw [e]
            exact kk _ _ upd_same
          · intro p hp
            rcases List.mem_append.mp hp with hp | hp
            · exact okq p hp
            · rw [List.mem_singleton.mp hp]
              exact ⟨c1, x, y, ex, ey, by rw [c2]; exact we⟩
          · rw [List.length_append, List.length_singleton]; omega
        · exact ⟨qv, qs, hD, alq, okq, by omega, s5⟩
      · exact ⟨qv, qs, hD, alq, okq, by omega, s5⟩
    · rintro H5 ⟨qv, qs, hD, alq, okq, lq, s5⟩
      have lqv := alq.length
      have lsv := als.length
      have hS5 := s5 _ _ (s3 _ _ hS)
      refine ⟨S, D, _, _, rfl, rfl, hS5, hD, ?_, ?_⟩
      · show _ ≤ 2 ^ 24
        omega
      have s25 := s23.trans s5
      have kk := TK.lst (ys := sv ++ qv) hS5
      refine ⟨_, _, sv ++ qv, ss ++ qs, rfl, upd_same, ?_, ?_, ?_, Same.own s25 nS⟩
      · exact (als.imp fun _ _ z => (z.keep (TK.same (s3.trans s5))).keep kk).app (alq.imp fun _ _ z => z.keep kk)
      · intro p hp
        rcases List.mem_append.mp hp with hp | hp
        · exact oks p hp
        · exact okq p hp
      · rw [List.length_append]; omega
  · rintro σ H2 ⟨v4, v5, sv, ss, rfl, hS, als, oks, lss, s2⟩
    exact ⟨rfl, S, v4, v5, sv, ss, rfl, hS, als, oks, by omega, s2, nS⟩
end
/-! ### the law -/
theorem pm_pc {H : Hp} {v : V} {x : Wy × Int} (h : PmAt H v x) : PcAt H v (toPc x) := h
theorem pms_pcs {H : Hp} : ∀ {vs : List V} {xs : List (Wy × Int)}, All2 (PmAt H) vs xs → All2 (PcAt H) vs (xs.map toPc)
  | _, _, .nil => .nil
  | _, _, .cons h t => .cons (pm_pc h) (pms_pcs t)
theorem tab_but48 {P f c : Addr} {H H' : Hp} (t : GxR.TabG H P) (F : Flow H f c) (b : But f H H') : GxR.TabG H' P := by
  obtain ⟨p, e, z⟩ := t
  obtain ⟨_, _, _, _, _, ef, _⟩ := F
  exact ⟨p, b _ _ e (fun y => by rw [y, ef] at e; cases e), z⟩
theorem ext_own48 {D : Addr} {o : HO} {H H' : Hp} (e : LamX.ExtN H H') (n : H D = none) : LamX.ExtN H (upd H' D o) := fun b u eb nt => by
  rw [upd_ne (ne_of_none eb n)]
  exact e b u eb nt
theorem tab_lst48 {P D : Addr} {H : Hp} {xs ys : List V} (t : GxR.TabG H P) (h : H D = some (.lst xs)) : GxR.TabG (upd H D (.lst ys)) P := by
  obtain ⟨p, e, z⟩ := t
  exact ⟨p, by rw [upd_ne (fun y => by rw [y, h] at e; cases e)]; exact e, z⟩
theorem tab_same48 {P : Addr} {H H' : Hp} (t : GxR.TabG H P) (s : Same H H') : GxR.TabG H' P := by
  obtain ⟨p, e, z⟩ := t
  exact ⟨p, s _ _ e, z⟩
theorem Flow.ext {H H' : Hp} {f c : Addr} (h : Flow H f c) (e : LamX.ExtN H H') : Flow H' f c := by
  obtain ⟨ns, i, a, q, r, e1, e2, z⟩ := h
  exact ⟨ns, i, a, q, r, e _ _ e1 (fun _ y => nomatch y), e _ _ e2 (fun _ y => nomatch y), z⟩
theorem room_nil {H : Hp} {r a b : Addr} (h : H r = some (.tup [.ref a, .ref b])) (ha : H a = some (.tup [])) (hb : H b = some (.tup [])) : RoomAt H r [] [] := ⟨a, b, [], [], h, ha, hb, .nil, .nil⟩
def lenW (x : Pc) : Nat := x.1.2.length
structure Ln51 (M N : Nat) (ps : List Pc) : Prop where
  one : ∀ x ∈ ps, lenW x ≤ M
  two : (ps.map lenW).Pairwise (fun a b => a + b ≤ N)
theorem Ln51.of {M N : Nat} {ps : List Pc} (h : ∀ x ∈ ps, lenW x ≤ M) (l : M + M ≤ N) : Ln51 M N ps := by
  refine ⟨h, ?_⟩
  induction ps with
  | nil => exact .nil
  | cons x ps ih =>
    refine List.pairwise_cons.mpr ⟨fun y hy => ?_, ih fun z hz => h z (List.mem_cons_of_mem _ hz)⟩
    obtain ⟨z, hz, rfl⟩ := List.mem_map.mp hy
    have := h x (List.mem_cons_self ..)
    have := h z (List.mem_cons_of_mem _ hz)
    omega
theorem Ln51.mono {M N M' N' : Nat} {ps : List Pc} (h : Ln51 M N ps) (a : M ≤ M') (b : N ≤ N') : Ln51 M' N' ps := ⟨fun x hx => Nat.le_trans (h.one x hx) a, h.two.imp fun l => Nat.le_trans l b⟩
theorem Ln51.pair {M N j k : Nat} {ps : List Pc} {x y : Pc} (h : Ln51 M N ps) (ne : j ≠ k) (hj : ps[j]? = some x) (hk : ps[k]? = some y) : lenW x + lenW y ≤ N := by
  have key : ∀ {a b : Nat} {x y : Pc}, a < b → ps[a]? = some x → ps[b]? = some y → lenW x + lenW y ≤ N := by
    intro a b x y lt ha hb
    obtain ⟨la, ea⟩ := List.getElem?_eq_some_iff.mp ha
    obtain ⟨lb, eb⟩ := List.getElem?_eq_some_iff.mp hb
    have := List.pairwise_iff_getElem.mp h.two a b (by rw [List.length_map]; exact la) (by rw [List.length_map]; exact lb) lt
    rw [List.getElem_map, List.getElem_map, ea, eb] at this
    exact this
  rcases Nat.lt_or_gt_of_ne ne with l | l
  · exact key l hj hk
  · have := key l hk hj; omega
theorem pw_part {N a b : Nat} {L1 L2 : List Nat} (h : (L1 ++ (a + b) :: L2).Pairwise (fun a b => a + b ≤ N)) (l : a + b ≤ N) : (L1 ++ a :: b :: L2).Pairwise (fun a b => a + b ≤ N) := by
  rw [List.pairwise_append, List.pairwise_cons] at h
  obtain ⟨h1, ⟨h2, h3⟩, h4⟩ := h
  rw [List.pairwise_append, List.pairwise_cons, List.pairwise_cons]
  refine ⟨h1, ⟨fun z hz => ?_, fun z hz => ?_, h3⟩, fun x hx z hz => ?_⟩
  · rcases List.mem_cons.mp hz with rfl | hz
    · exact l
    · have := h2 z hz; omega
  · have := h2 z hz; omega
  · have e := h4 x hx (a + b) (List.mem_cons_self ..)
    rcases List.mem_cons.mp hz with rfl | hz
    · omega
    · rcases List.mem_cons.mp hz with rfl | hz
      · omega
      · exact h4 x hx z (List.mem_cons_of_mem _ hz)
theorem pw_more {M N r : Nat} {L1 L2 : List Nat} (h : (L1 ++ L2).Pairwise (fun a b => a + b ≤ N)) (m : ∀ y ∈ L1 ++ L2, y ≤ M) (l : r + M ≤ N) : (L1 ++ r :: L2).Pairwise (fun a b => a + b ≤ N) := by
  rw [List.pairwise_append] at h
  obtain ⟨h1, h2, h3⟩ := h
  rw [List.pairwise_append, List.pairwise_cons]
  refine ⟨h1, ⟨fun z hz => ?_, h2⟩, fun x hx z hz => ?_⟩
  · have := m z (List.mem_append_right _ hz); omega
  · rcases List.mem_cons.mp hz with rfl | hz
    · have := m x (List.mem_append_left _ hx); omega
    · exact h3 x hx z hz
theorem Ln51.parted {M N i o d : Nat} {ns ms : List Nat} {m : Int} {ps : List Pc} (h : Ln51 M N ps) (mn : M ≤ N) (e : ps[i]? = some ((o, ns ++ ms), m)) : Ln51 M N (ps.take i ++ ((o, ns), m) :: ((d, ms), m) :: ps.drop (i + 1)) := by
  have e1 : ps = ps.take i ++ ((o, ns ++ ms), m) :: ps.drop (i + 1) := by
    rw [← drop_at e, List.take_append_drop]
  have lx := h.one _ (List.mem_of_getElem? e)
  have lx : ns.length + ms.length ≤ M := by
    have : lenW ((o, ns ++ ms), m) = (ns ++ ms).length := rfl
    rw [this, List.length_append] at lx
    exact lx
  refine ⟨fun x hx => ?_, ?_⟩
  · rcases List.mem_append.mp hx with a | a
    · exact h.one x (List.mem_of_mem_take a)
    · rcases List.mem_cons.mp a with rfl | a
      · show ns.length ≤ M; omega
      · rcases List.mem_cons.mp a with rfl | a
        · show ms.length ≤ M; omega
        · exact h.one x (List.mem_of_mem_drop a)
  · have h2 := h.two
    rw [e1, List.map_append, List.map_cons] at h2
    rw [List.map_append, List.map_cons, List.map_cons]
    refine pw_part (a := ns.length) (b := ms.length) ?_ (by omega)
    have e2 : lenW ((o, ns ++ ms), m) = ns.length + ms.length := List.length_append ..
    rw [e2] at h2
    exact h2
theorem Ln51.ring {M N i : Nat} {x : Pc} {ps : List Pc} (h : Ln51 M N ps) (mn : M ≤ N) (l1 : lenW x ≤ M) : Ln51 M (N + M) (ps.take i ++ x :: ps.drop i) := by
  refine ⟨fun y hy => ?_, ?_⟩
  · rcases List.mem_append.mp hy with a | a
    · exact h.one y (List.mem_of_mem_take a)
    · rcases List.mem_cons.mp a with rfl | a
      · exact l1
      · exact h.one y (List.mem_of_mem_drop a)
  · rw [List.map_append, List.map_cons]
    have e : (ps.take i).map lenW ++ (ps.drop i).map lenW = ps.map lenW := by rw [← List.map_append, List.take_append_drop]
    refine pw_more (M := M) (by rw [e]; exact h.two.imp fun l => by omega) (fun y hy => ?_) (by omega)
    rw [e] at hy
    obtain ⟨z, hz, rfl⟩ := List.mem_map.mp hy
    exact h.one z hz
theorem less_lens {j k : Nat} : ∀ {ps : List Pc} {i : Nat}, (lessJ j k i ps).map lenW = ps.map lenW
  | [], _ => rfl
  | x :: ps, i => by
    show lenW x :: (lessJ j k (i + 1) ps).map lenW = lenW x :: ps.map lenW
    rw [less_lens]
theorem Ln51.joined {M N j k : Nat} {ps : List Pc} {x y : Pc} (h : Ln51 M N ps) (mn : M ≤ N) (ne : j ≠ k) (hj : ps[j]? = some x) (hk : ps[k]? = some y) : Ln51 N (N + M) (joinJ ps j k (x.1.1, x.1.2 ++ y.1.2)) := by
  have l := h.pair ne hj hk
  have lw : lenW ((x.1.1, x.1.2 ++ y.1.2), 1) = lenW x + lenW y := List.length_append ..
  have ls : ∀ z ∈ ps.map lenW, z ≤ M := fun z hz => by
    obtain ⟨u, hu, rfl⟩ := List.mem_map.mp hz
    exact h.one u hu
  refine ⟨fun z hz => ?_, ?_⟩
  · obtain ⟨h1, _⟩ := List.mem_filter.mp hz
    rcases List.mem_append.mp h1 with a | a
    · have : lenW z ∈ (lessJ j k 0 ps).map lenW := List.mem_map.mpr ⟨z, a, rfl⟩
      rw [less_lens] at this
      have := ls _ this
      omega
    · rw [List.mem_singleton.mp a, lw]; exact l
  · refine List.Pairwise.sublist (List.Sublist.map lenW (List.filter_sublist (l := lessJ j k 0 ps ++ [((x.1.1, x.1.2 ++ y.1.2), 1)]))) ?_
    rw [List.map_append, less_lens, List.map_cons, List.map_nil, lw]
    refine pw_more (L2 := []) (M := M) ?_ (fun z hz => ls z (by rw [List.append_nil] at hz; exact hz)) (by omega)
    rw [List.append_nil]
    exact h.two.imp fun l => by omega
theorem way_lts {bs : List BR} : ∀ {ns : List Nat} {k e : Nat}, wayEnd bs k ns = some e → ∀ n ∈ ns, n < bs.length
  | [], _, _, _, _, h => nomatch h
  | a :: ns, k, e, w, n, hn => by
    obtain ⟨b, eb, _, h2, _⟩ := way_hd w
    rcases List.mem_cons.mp hn with rfl | hn
    · exact (List.getElem?_eq_some_iff.mp eb).1
    · exact way_lts h2 n hn
theorem good_wk {hs : List HR} {bs : List BR} {ps : List Pc} {M N : Nat} (ok : RoomOk hs bs) (g : Good51 hs bs ps) (h : Ln51 M N ps) (l : M ≤ 60) : ∀ x ∈ ps, WkOk hs bs x.1 := fun x hx => by
  have gx := g.1 x hx
  obtain ⟨we, _, _⟩ := okP_end ok gx.1 gx.2
  exact ⟨gx.2, way_lts we, Nat.le_trans (h.one x hx) l⟩
def mn51 : Nat → Nat × Nat
  | 0 => (12, 24)
  | i + 1 => ((mn51 i).2, (mn51 i).2 + (mn51 i).1)
/-- what stands at each turn -/
structure In51 (PT f c r pp : Addr) (hs : List HR) (bs : List BR) (zv : List V) (ps : List Pc) (i : Nat) (H : Hp) : Prop where
  F : Flow H f c
  R : RoomAt H r hs bs
  P : H pp = some (.tup zv)
  al : All2 (PcAt H) zv ps
  few : ps.length ≤ 144 + i
  g : Good51 hs bs ps
  ln : Ln51 (mn51 i).1 (mn51 i).2 ps
  tg : GxR.TabG H PT
theorem In51.keep {PT f c r pp : Addr} {hs : List HR} {bs : List BR} {zv : List V} {ps : List Pc} {i : Nat} {H H' : Hp} (h : In51 PT f c r pp hs bs zv ps i H) (k : TK H H') (F : Flow H' f c) (t : GxR.TabG H' PT) : In51 PT f c r pp hs bs zv ps i H' := ⟨F, h.R.keep k, k _ _ h.P, h.al.imp fun _ _ z => z.keep k, h.few, h.g, h.ln, t⟩
theorem In51.same {PT f c r pp : Addr} {hs : List HR} {bs : List BR} {zv : List V} {ps : List Pc} {i : Nat} {H H' : Hp} (h : In51 PT f c r pp hs bs zv ps i H) (s : Same H H') : In51 PT f c r pp hs bs zv ps i H' := h.keep (TK.same s) (h.F.same s) (tab_same48 h.tg s)
theorem mn_small {i : Nat} (h : i ≤ 3) : 12 ≤ (mn51 i).1 ∧ (mn51 i).1 ≤ (mn51 i).2 ∧ (mn51 i).1 ≤ 60 := by
  match i, h with
  | 0, _ => decide
  | 1, _ => decide
  | 2, _ => decide
  | 3, _ => decide
section
variable {P : Program} {w : World} {K : PySem.W.Frag} {mg : Str → Option Value} {base : Heap}
variable {cP PT : Addr} [TP : TabP K mg base cP PT]
include TP
def sp_law (K : PySem.W.Frag) (PT : Addr) : Sp := fun vs H Q _ => ∃ (a : Addr) (ns : List Int), vs = [.ref a] ∧ SqL K H a (ns.map V.int) ∧ ns.length ≤ 63 ∧ GxR.TabG H PT ∧ ∀ H', Q (.bl true) H'
theorem ok_law {f : Addr} {fd : FuncData} (F : Fun K "law" "law" s_law f fd) (T : Top K mg) : FnOk P w K mg base CX0 7 f fd ["_law_script"] (sp_law K PT) := by
  obtain ⟨f_law_flow, fd_law_flow, F_law_flow, b_law_flow, m_law_flow⟩ := T.d_law_flow
  have G_law_flow := ok_law_flow (P := P) (w := w) (base := base) F_law_flow T
  obtain ⟨f_law_any_room, fd_law_any_room, F_law_any_room, b_law_any_room, m_law_any_room⟩ := T.d_law_any_room
  have G_law_any_room := ok_law_any_room (P := P) (w := w) (base := base) F_law_any_room T
  obtain ⟨f_law_pick, fd_law_pick, F_law_pick, b_law_pick, m_law_pick⟩ := T.d_law_pick
  have G_law_pick := ok_law_pick (P := P) (w := w) (base := base) F_law_pick T
  obtain ⟨f_least_time, fd_least_time, F_least_time, b_least_time, m_least_time⟩ := T.d_least_time
  have G_least_time := ok_least_time (P := P) (w := w) (base := base) F_least_time T
  obtain ⟨f_fewest_trays, fd_fewest_trays, F_fewest_trays, b_fewest_trays, m_fewest_trays⟩ := T.d_fewest_trays
  have G_fewest_trays := ok_fewest_trays (P := P) (w := w) (base := base) F_fewest_trays T
  obtain ⟨f_law_held, fd_law_held, F_law_held, b_law_held, m_law_held⟩ := T.d_law_held
  have G_law_held := ok_law_held (P := P) (w := w) (base := base) F_law_held T
  obtain ⟨f_law_moved, fd_law_moved, F_law_moved, b_law_moved, m_law_moved⟩ := T.d_law_moved
  have G_law_moved := ok_law_moved (P := P) (w := w) (base := base) F_law_moved T
  obtain ⟨f_law_parted, fd_law_parted, F_law_parted, b_law_parted, m_law_parted⟩ := T.d_law_parted
  have G_law_parted := ok_law_parted (P := P) (w := w) (base := base) F_law_parted T
  obtain ⟨f_law_are_small, fd_law_are_small, F_law_are_small, b_law_are_small, m_law_are_small⟩ := T.d_law_are_small
  have G_law_are_small := ok_law_are_small (P := P) (w := w) (base := base) F_law_are_small T
  obtain ⟨f_law_joined, fd_law_joined, F_law_joined, b_law_joined, m_law_joined⟩ := T.d_law_joined
  have G_law_joined := ok_law_joined (P := P) (w := w) (base := base) F_law_joined T
  obtain ⟨f_prices_hold, fd_prices_hold, F_prices_hold, b_prices_hold, m_prices_hold⟩ := T.d_prices_hold
  have G_prices_hold := ok_prices_hold (P := P) (w := w) (base := base) F_prices_hold (TP.cd _ _ F_prices_hold m_prices_hold) T
  obtain ⟨f_law_alike, fd_law_alike, F_law_alike, b_law_alike, m_law_alike⟩ := T.d_law_alike
  have G_law_alike := ok_law_alike (P := P) (w := w) (base := base) F_law_alike T
  obtain ⟨f_law_with_ring, fd_law_with_ring, F_law_with_ring, b_law_with_ring, m_law_with_ring⟩ := T.d_law_with_ring
  have G_law_with_ring := ok_law_with_ring (P := P) (w := w) (base := base) F_law_with_ring T
  refine F.ok sc_law (fun vs H Q E h => ?_) (fun cdv A outer s H vs Q E hr h => ?_)
  · obtain ⟨a, ns, rfl, _⟩ := h
    rfl
  obtain ⟨a, ns, rfl, hS, hlen, tg0, q⟩ := h
  let sg : Addr → Addr → Nat → Option V → Option V → Option V → Int → Int → Option V → Addr → Option V → Option V → Option V → Option V → L2.St := fun f r l x4 x5 x6 T cnt x9 pp x11 x12 x13 x14 => [some (.ref a), some (.ref f), some (.ref r), some (nV l), x4, x5, x6, some (.int T), some (.int cnt), x9, some (.ref pp), x11, x12, x13, x14, none]
  let R1 : TS := fun D' σ' H' => D'.rt = Q ∧ ∃ (f c r pp : Addr) (hs : List HR) (bs : List BR) (l : Nat) (T : Int) (sh : Nat → Int) (x4 x5 x6 x9 : Option V) (zv : List V) (ps : List Pc), σ' = sg f r l x4 x5 x6 T (mvd bs sh) x9 pp none none none none ∧ RoomOk hs bs ∧ 0 < hs.length ∧ l ≤ 6 ∧ Rch hs bs (some l) T sh ∧ In51 PT f c r pp hs bs zv ps 0 H'
  let R2 : TS := fun D' σ' H' => ∃ (f c r pp : Addr) (hs : List HR) (bs : List BR) (l : Nat) (T : Int) (sh : Nat → Int) (x4 x5 x6 x9 x11 x12 x13 x14 : Option V) (zv : List V) (ps : List Pc) (i : Nat), σ' = sg f r l x4 x5 x6 T (mvd bs sh) x9 pp x11 x12 x13 x14 ∧ i ≤ 3 ∧ RoomOk hs bs ∧ 0 < hs.length ∧ l ≤ 6 ∧ Rch hs bs (some l) T sh ∧ In51 PT f c r pp hs bs zv ps i H' ∧
    ∀ (H2 : Hp) (x13 x14 : Option V), In51 PT f c r pp hs bs zv ps i H2 → D'.nx (sg f r l x4 x5 x6 T (mvd bs sh) x9 pp x11 x12 x13 x14) H2
  refine ⟨_, (pss_cons (ps_set (i := 1) sc_law.nd rfl (Or.inl rfl) (pe_call G_law_flow (hr.mono (by decide)) (by rfl) m_law_flow F_law_flow.kp b_law_flow .nil pass0 (pa_cons (pv 0) pa_nil)))
      (pss_cons (ps_set (i := 2) sc_law.nd rfl (Or.inr rfl) (pe_call G_law_any_room (hr.mono (by decide)) (by rfl) m_law_any_room F_law_any_room.kp b_law_any_room .nil pass0 (pa_cons (pv 1) pa_nil)))
      (pss_cons (ps_set (i := 3) sc_law.nd rfl (Or.inr rfl) (pe_call G_law_pick (hr.mono (by decide)) (by rfl) m_law_pick F_law_pick.kp b_law_pick .nil pass0 (pa_cons (pv 1) (pa_cons pe_int pa_nil))))
      (pss_cons (ps_asg (pe_call G_least_time (hr.mono (by decide)) (by rfl) m_least_time F_least_time.kp b_least_time .nil pass0 (pa_cons (pv 2) (pa_cons (pv 3) pa_nil))) (pg_tupK K rfl rfl (pgs_cons (pg_name (i := 4) sc_law.nd rfl (Or.inl rfl)) (pgs_cons (pg_name (i := 5) sc_law.nd rfl (Or.inl rfl)) (pgs_cons (pg_name (i := 6) sc_law.nd rfl (Or.inl rfl)) pgs_nil)))))
      (pss_cons (ps_set (i := 7) sc_law.nd rfl (Or.inr rfl) (pe_op op_add (pv 4) (pe_op op_mul (pe_call G_law_pick (hr.mono (by decide)) (by rfl) m_law_pick F_law_pick.kp b_law_pick .nil pass0 (pa_cons (pv 1) (pa_cons pe_int pa_nil))) (pe_call G_law_pick (hr.mono (by decide)) (by rfl) m_law_pick F_law_pick.kp b_law_pick .nil pass0 (pa_cons (pv 1) (pa_cons pe_int pa_nil))))))
      (pss_cons (ps_asg (pe_call G_fewest_trays (hr.mono (by decide)) (by rfl) m_fewest_trays F_fewest_trays.kp b_fewest_trays .nil pass0 (pa_cons (pv 2) (pa_cons (pv 3) (pa_cons (pv 7) pa_nil)))) (pg_tupK K rfl rfl (pgs_cons (pg_name (i := 8) sc_law.nd rfl (Or.inl rfl)) (pgs_cons (pg_name (i := 9) sc_law.nd rfl (Or.inl rfl)) (pgs_cons (pg_name (i := 10) sc_law.nd rfl (Or.inr rfl)) pgs_nil)))))
      (pss_cons (ps_if (pt_cmpR op_lt (pe_callB (cr_sumK K rfl rfl) (by rfl) T.m_sum (by decide +kernel) (pa_cons (pe_call G_law_moved (hr.mono (by decide)) (by rfl) m_law_moved F_law_moved.kp b_law_moved .nil pass0 (pa_cons (pv 2) (pa_cons (pv 5) pa_nil))) pa_nil)) (pv 8) (nomark _)) (pss_one (ps_ret pe_bl)) pss_nil)
      (PSs.to (pss_cons (ps_for PassesOwn.never rfl (pi_range1 (by rfl) T.m_range (pa_cons pe_int pa_nil)) (pg_name (i := 11) sc_law.nd rfl (Or.inl rfl))
        (pss_cons (ps_set (i := 12) sc_law.nd rfl (Or.inl rfl) (pe_call G_law_pick (hr.mono (by decide)) (by rfl) m_law_pick F_law_pick.kp b_law_pick .nil pass0 (pa_cons (pv 1) (pa_cons pe_int pa_nil))))
      (pss_cons (ps_if (pt_cmpR op_eq (pv 12) pe_int (nomark _)) (pss_one (ps_set (i := 10) sc_law.nd rfl (Or.inr rfl) (pe_call G_law_parted (hr.mono (by decide)) (by rfl) m_law_parted F_law_parted.kp b_law_parted .nil pass0 (pa_cons (pv 1) (pa_cons (pv 2) (pa_cons (pv 10) pa_nil)))))) (pss_one (ps_if (pt_cmpR op_eq (pv 12) pe_int (nomark _)) (pss_one (ps_set (i := 10) sc_law.nd rfl (Or.inr rfl) (pe_call G_law_joined (hr.mono (by decide)) (by rfl) m_law_joined F_law_joined.kp b_law_joined .nil pass0 (pa_cons (pv 1) (pa_cons (pv 2) (pa_cons (pv 10) pa_nil)))))) (pss_one (ps_if (pt_cmpR op_lt (pe_callB (call_len_seqK K rfl) (by rfl) T.m_len (by decide +kernel) (pa_cons (pe_ix (ix_tupK K rfl) (pv 2) pe_int (fun _ _ => rfl)) pa_nil)) pe_int (nomark _)) (pss_one (ps_set (i := 10) sc_law.nd rfl (Or.inr rfl) (pe_call G_law_with_ring (hr.mono (by decide)) (by rfl) m_law_with_ring F_law_with_ring.kp b_law_with_ring .nil pass0 (pa_cons (pv 1) (pa_cons (pv 2) (pa_cons (pv 10) pa_nil)))))) pss_nil)))))
      (PSs.to (pss_cons (ps_set (i := 13) sc_law.nd rfl (Or.inr rfl) (pe_call G_law_held (hr.mono (by decide)) (by rfl) m_law_held F_law_held.kp b_law_held .nil pass0 (pa_cons (pv 2) (pa_cons (pv 3) (pa_cons (pv 7) (pa_cons (pv 10) pa_nil))))))
      (pss_cons (ps_if (PW.pt (pw_or (pt_cmpR op_isN (pv 13) pe_non (nomark _)) (pw_or1 (pt_cmpR op_gt (pv 13) (pv 8) (nomark _))))) (pss_one (ps_ret pe_bl)) pss_nil)
      (pss_one (ps_if (PW.pt (pw_and (pt_cmpR op_gt (pv 13) pe_int (nomark _)) (pw_and1 (pt_val (pe_call G_law_are_small (hr.mono (by decide)) (by rfl) m_law_are_small F_law_are_small.kp b_law_are_small .nil pass0 (pa_cons (pv 10) pa_nil)))))) (pss_cons (ps_setLc (i := 14) (own := [("_law_k", 15)]) (g := gName 15) (tt := tYes) (by rfl) sc_law.nd rfl rfl (sw_true rfl rfl rfl (by decide +kernel)) (pi_tupK K rfl (pe_tup (pa_cons pe_int (pa_cons pe_int (pa_cons (pe_op op_sub pe_int pe_int) pa_nil))))) (blkOk_by (own := [("_law_k", 15)]) (N := N_law) (sc := defScope s_law) (by decide +kernel)) (fun _ _ _ _ _ => (pg_name (i := 15) sc_law.nd rfl (Or.inl rfl))) (fun _ _ _ _ _ => pts_nil) (fun _ _ _ _ _ => (pe_call G_prices_hold (hr.mono (by decide)) (by rfl) m_prices_hold F_prices_hold.kp b_prices_hold .nil pass0 (pa_cons (pv 2) (pa_cons (pv 3) (pa_cons (pv 7) (pa_cons (pe_op op_add (pv 13) (pv 15)) (pa_cons (pv 10) pa_nil))))))))
      (pss_one (ps_if (pt_not (pt_val (pe_call G_law_alike (hr.mono (by decide)) (by rfl) m_law_alike F_law_alike.kp b_law_alike .nil pass0 (pa_cons (pv 14) (pa_cons (pe_lst (pa_cons pe_bl (pa_cons pe_bl (pa_cons pe_bl pa_nil)))) pa_nil))))) (pss_one (ps_ret pe_bl)) pss_nil))) pss_nil)))) R2 ?tail2))))
      (pss_one (ps_ret pe_bl))) R1 ?tail1)))))))), ?_⟩
  case tail2 =>
    rintro D' σ' H1 ⟨f, c, r, pp, hs, bs, l, T', sh, x4, x5, x6, x9, x11, x12, x13, x14, zv, ps, i, rfl, i3, ok, pos, ll, rc, I1, nx⟩
    obtain ⟨m1, m2, m3⟩ := mn_small i3
    have wk := good_wk ok I1.g I1.ln m3
    have few := I1.few
    refine ⟨_, rfl, _, rfl, _, rfl, _, rfl, r, pp, hs, bs, l, T', zv, ps, rfl, I1.R, ok, I1.P, I1.al, wk, by omega, fun H2 s2 => ?_⟩
    have I2 := I1.same s2
    obtain ⟨v, hv⟩ := I1.g.held (l := l) (T := T')
    have vle := I1.g.le ok rc hv
    rw [hv]
    refine ⟨_, rfl, rfl, _, rfl, if_bl (fun z => nomatch z) (fun _ => ?_)⟩
    refine ⟨_, rfl, _, rfl, _, _, rfl, rfl, _, rfl, if_bl (fun c => absurd (of_decide_eq_true c) (by omega)) (fun _ => ?_)⟩
    have cont : ∀ {H3 : Hp} (x14 : Option V), In51 PT f c r pp hs bs zv ps i H3 → D'.nx (sg f r l x4 x5 x6 T' (mvd bs sh) x9 pp x11 x12 (some (.int v)) x14) H3 := fun x14 I => nx _ _ _ I
    refine ⟨_, rfl, _, _, rfl, rfl, _, rfl, if_bl (fun _ => ?_) (fun _ => cont x14 I2)⟩
    refine ⟨_, rfl, pp, zv, ps, rfl, I2.P, I2.al, by omega, fun b H3 hb s3 => ⟨_, rfl, if_bl (fun _ => ?_) (fun _ => cont x14 (I2.same s3))⟩⟩
    have I3 := I2.same s3
    refine ⟨_, _, rfl, rfl, (by show 3 ≤ sizeLine; decide), fun tp ntp => ⟨tp, rfl, ⟨_, SqT.of upd_same⟩, fun D nD => lc_tup (K := K) (a := tp) (xs := [.int 0, .int 1, .int (0 - 1)]) (fun j H6 => H6 D = some (.lst (([true, false, false].take j).map V.bl)) ∧ LamX.ExtN (upd H3 tp (.tup [.int 0, .int 1, .int (0 - 1)])) H6 ∧ GxR.TabG H6 PT) ⟨upd_same, ext_same (same_new nD), tab_same48 (tab_same48 I3.tg (same_new ntp)) (same_new nD)⟩ (fun j H6 _ ⟨_, e6, _⟩ => SqT.of (e6 _ _ upd_same (fun ps z => nomatch z))) ?_ ?_⟩⟩
    · rintro j x H6 hx ⟨hD, e6, tg6⟩
      obtain ⟨k, rfl, hb⟩ : ∃ k : Int, x = .int k ∧ ([true, false, false].take j) ++ [decide (k = 0)] = [true, false, false].take (j + 1) := by
        match j, hx with
        | 0, hx =>
          obtain rfl : V.int 0 = x := Option.some.inj hx
          exact ⟨0, rfl, rfl⟩
        | 1, hx =>
          obtain rfl : V.int 1 = x := Option.some.inj hx
          exact ⟨1, rfl, rfl⟩
        | 2, hx =>
          obtain rfl : V.int (0 - 1) = x := Option.some.inj hx
          exact ⟨0 - 1, rfl, rfl⟩
      have k6 : TK H3 H6 := (TK.same (same_new ntp)).trans (tk_ext e6)
      refine ⟨rfl, yes_in ⟨_, rfl, _, rfl, _, rfl, _, rfl, _, rfl, _, _, rfl, rfl, _, rfl, r, pp, hs, bs, l, T', v + k, zv, ps, rfl, I3.R.keep k6, ok, k6 _ _ I3.P, I3.al.imp fun _ _ z => z.keep k6, wk, by omega, tg6, fun H7 e7 tg7 => ?_⟩⟩
      have hD7 := e7 _ _ hD (fun ps z => nomatch z)
      have hold : holdB hs bs l T' (v + k) ps = decide (k = 0) := by
        unfold holdB
        rw [hv, I1.g.2, Bool.and_true]
        by_cases z : k = 0
        · rw [decide_eq_true z, z, Int.add_zero]; exact decide_eq_true rfl
        · rw [decide_eq_false z]; exact decide_eq_false fun y => z (by have := Option.some.inj y; omega)
      rw [hold]
      refine ⟨_, hD7, by rw [List.length_map, List.length_take]; exact small1000 (by have : [true, false, false].length = 3 := rfl; omega), ?_, ext_own48 (e6.trans e7) nD, tab_lst48 tg7 hD7⟩
      rw [upd_same, ← hb, List.map_append]
      rfl
    · rintro H6 ⟨hD, e6, tg6⟩
      have k6 : TK H3 H6 := (TK.same (same_new ntp)).trans (tk_ext e6)
      have I6 := I3.keep k6 ((I3.F.same (same_new ntp)).ext e6) tg6
      refine ⟨_, rfl, (by show 3 ≤ sizeLine; decide), fun m nm => ?_⟩
      have s7 := same_new (o := .lst [V.bl true, V.bl false, V.bl false]) nm
      refine ⟨V.ref D, V.ref m, rfl, Al.lst (s7 _ _ hD) upd_same (by decide) (.cons Al.bl (.cons Al.bl (.cons Al.bl .nil))), fun H7 s8 => ⟨_, rfl, if_bl (fun z => nomatch z) (fun _ => ?_)⟩⟩
      exact cont _ (I6.same (s7.trans s8))
  case tail1 =>
    rintro D' σ' H1 ⟨eD, f, c, r, pp, hs, bs, l, T', sh, x4, x5, x6, x9, zv, ps, rfl, ok, pos, ll, rc, I1⟩
    refine ⟨_, rfl, by decide, by decide, for_range (lo := 0) (n := (3 : Int).toNat) (fun i σ H2 => ∃ (pp : Addr) (zv : List V) (ps : List Pc) (x11 x12 x13 x14 : Option V), σ = sg f r l x4 x5 x6 T' (mvd bs sh) x9 pp x11 x12 x13 x14 ∧ In51 PT f c r pp hs bs zv ps i H2) ⟨pp, zv, ps, _, _, _, _, rfl, I1⟩ ?_ ?_⟩
    · rintro i σ H2 hi ⟨pp, zv, ps, x11, x12, x13, x14, rfl, I2⟩
      have hi : i < 3 := hi
      obtain ⟨m1, m2, m3⟩ := mn_small (i := i) (by omega)
      have wk := good_wk ok I2.g I2.ln m3
      have few := I2.few
      refine ⟨_, rfl, f, c, 3, rfl, by decide, by decide +kernel, I2.F, fun z H3 z0 z3 F3 B3 => ?_⟩
      have k3 := TK.but I2.F B3
      have I3 := I2.keep k3 F3 (tab_but48 I2.tg I2.F B3)
      have go : ∀ (pp : Addr) (zv : List V) (ps : List Pc) (H4 : Hp), H4 pp = some (.tup zv) → All2 (PcAt H4) zv ps → ps.length ≤ 144 + (i + 1) → Good51 hs bs ps → Ln51 (mn51 (i + 1)).1 (mn51 (i + 1)).2 ps → Flow H4 f c → But f H3 H4 → In51 PT f c r pp hs bs zv ps (i + 1) H4 := fun pp zv ps H4 h1 h2 h3 h4 h5 F4 B4 => ⟨F4, I3.R.keep (TK.but F3 B4), h1, h2, h3, h4, h5, tab_but48 I3.tg F3 B4⟩
      refine ⟨_, rfl, rfl, _, rfl, if_bl (fun _ => ?_) (fun _ => ?_)⟩
      · refine ⟨_, rfl, _, rfl, _, rfl, f, c, r, pp, hs, bs, zv, ps, rfl, F3, I3.R, ok, I3.P, I3.al, by omega, wk, I3.g, fun p' zv' ps' H4 h1 h2 h3 h4 h5 F4 B4 => ?_⟩
        refine ⟨f, c, r, p', hs, bs, l, T', sh, x4, x5, x6, x9, _, _, _, _, zv', ps', i + 1, rfl, by omega, ok, pos, ll, rc, go p' zv' ps' H4 h1 h2 (by omega) h4 ?_ F4 B4, fun H5 x13 x14 I5 => ⟨p', zv', ps', _, _, _, _, rfl, I5⟩⟩
        rcases h5 with rfl | ⟨i', o, d, ns', ms, m, e, rfl⟩
        · exact I3.ln.mono m2 (Nat.le_add_right _ _)
        · exact (I3.ln.parted m2 e).mono m2 (Nat.le_add_right _ _)
      · refine ⟨_, rfl, rfl, _, rfl, if_bl (fun _ => ?_) (fun _ => ?_)⟩
        · refine ⟨_, rfl, _, rfl, _, rfl, f, c, r, pp, hs, bs, zv, ps, rfl, F3, I3.R, ok, I3.P, I3.al, by omega, wk, I3.g, fun p' zv' ps' H4 h1 h2 h3 h4 h5 F4 B4 => ?_⟩
          refine ⟨f, c, r, p', hs, bs, l, T', sh, x4, x5, x6, x9, _, _, _, _, zv', ps', i + 1, rfl, by omega, ok, pos, ll, rc, go p' zv' ps' H4 h1 h2 (by omega) h4 ?_ F4 B4, fun H5 x13 x14 I5 => ⟨p', zv', ps', _, _, _, _, rfl, I5⟩⟩
          rcases h5 with rfl | ⟨j, k, x, y, jk, ex, ey, rfl⟩
          · exact I3.ln.mono m2 (Nat.le_add_right _ _)
          · exact I3.ln.joined m2 jk ex ey
        · obtain ⟨ha, ba, hv, bv, er, eh, eb, alh, alb⟩ := id I3.R.ex
          have lhv := alh.length
          refine ⟨_, rfl, r, _, _, _, rfl, rfl, SqT.of er, atI_nat (j := 0) rfl, ha, _, rfl, .inr (SqT.of eh), _, _, rfl, rfl, _, rfl, if_bl (fun c9 => ?_) (fun _ => ?_)⟩
          · have c9 := of_decide_eq_true c9
            refine ⟨_, rfl, _, rfl, _, rfl, f, c, r, pp, hs, bs, zv, ps, rfl, F3, I3.R, ok, by omega, I3.P, I3.al, by omega, I3.g, fun p' zv' ps' H4 h1 h2 h3 h4 h5 F4 B4 => ?_⟩
            refine ⟨f, c, r, p', hs, bs, l, T', sh, x4, x5, x6, x9, _, _, _, _, zv', ps', i + 1, rfl, by omega, ok, pos, ll, rc, go p' zv' ps' H4 h1 h2 (by omega) h4 ?_ F4 B4, fun H5 x13 x14 I5 => ⟨p', zv', ps', _, _, _, _, rfl, I5⟩⟩
            rcases h5 with rfl | ⟨i', x, rfl, _, h9⟩
            · exact I3.ln.mono m2 (Nat.le_add_right _ _)
            · exact (I3.ln.ring m2 (by show x.1.2.length ≤ _; omega)).mono m2 (Nat.le_refl _)
          · exact ⟨f, c, r, pp, hs, bs, l, T', sh, x4, x5, x6, x9, _, _, _, _, zv, ps, i + 1, rfl, by omega, ok, pos, ll, rc, ⟨F3, I3.R, I3.P, I3.al, by omega, I3.g, I3.ln.mono m2 (Nat.le_add_right _ _), I3.tg⟩, fun H5 x13 x14 I5 => ⟨pp, zv, ps, _, _, _, _, rfl, I5⟩⟩
    · rintro σ H2 ⟨pp, zv, ps, x11, x12, x13, x14, rfl, I2⟩
      show D'.rt (.bl true) H2
      rw [eD]
      exact q _
  refine ⟨_, rfl, a, ns, rfl, hS, fun f c H1 nf nc F1 s1 => ?_⟩
  refine ⟨_, rfl, f, c, rfl, F1, fun r hs bs H2 hR2 ok pos F2 B2 => ?_⟩
  have tg2 := tab_but48 (tab_same48 tg0 s1) F1 B2
  refine ⟨_, rfl, f, c, _, rfl, by decide, by decide +kernel, F2, fun z H3 z0 z7 F3 B3 => ?_⟩
  obtain ⟨l, rfl⟩ : ∃ l : Nat, z = ((l : Nat) : Int) := ⟨z.toNat, by omega⟩
  have k3 := TK.but F2 B3
  have tg3 := tab_but48 tg2 F2 B3
  refine ⟨_, rfl, _, rfl, r, hs, bs, some l, rfl, hR2.keep k3, ok, fun p p' T1 sh1 y H4 h1 h2 sf st lt bv s4 => ?_⟩
  refine ⟨p, _, rfl, SqT.of h1, rfl, _, _, rfl, _, _, rfl, _, _, rfl, rfl, ?_⟩
  have F4 := F3.same s4
  have tg4 := tab_same48 tg3 s4
  refine ⟨_, rfl, _, rfl, f, c, 4, rfl, by decide, by decide +kernel, F4, fun a1 H5 a10 a14 F5 B5 => ?_⟩
  refine ⟨_, rfl, f, c, 8, rfl, by decide, by decide +kernel, F5, fun a2 H6 a20 a28 F6 B6 => ?_⟩
  have tg6 := tab_but48 (tab_but48 tg4 F4 B5) F5 B6
  have k46 := (TK.but F4 B5).trans (TK.but F5 B6)
  have k26 := k3.trans ((TK.same s4).trans k46)
  have a12 : 0 ≤ a1 * a2 := Int.mul_nonneg a10 a20
  refine ⟨_, _, rfl, rfl, .inl ⟨by omega, by omega⟩, _, _, rfl, rfl, ?_⟩
  have fa := lt.fa.mono (T' := T1 + a1 * a2) (by omega)
  refine ⟨_, rfl, _, rfl, _, rfl, r, hs, bs, l, T1 + a1 * a2, rfl, hR2.keep k26, ok, fun H7 nfa s7 => absurd fa nfa, fun q1 q2 tp sh ys pr tv H7 g1 g2 g3 g4 _ rc mn aw pc ev ft s7 => ?_⟩
  refine ⟨q1, _, rfl, SqT.of g1, rfl, _, _, rfl, _, _, rfl, _, _, rfl, rfl, ?_⟩
  have k27 := k26.trans (TK.same s7)
  have k47 := k46.trans (TK.same s7)
  refine ⟨_, rfl, _, rfl, r, p', hs, bs, sh1, rfl, hR2.keep k27, ok, k47 _ _ h2, fun sl H8 hsl s8 => ?_⟩
  refine ⟨sl, bs.map (trX sh1), rfl, SqL.of (by rw [hsl, List.map_map]; rfl), ?_⟩
  have le := mn sh1 (Rch.mono (sf.rch ok) (by omega))
  refine ⟨_, rfl, _, _, rfl, rfl, _, rfl, if_bl (fun c => absurd (of_decide_eq_true c) (by show ¬ mvd bs sh1 < mvd bs sh; omega)) (fun _ => ?_)⟩
  have few : ((told (gYs hs ys) pr).map toPc).length ≤ 144 := by
    rw [List.length_map]
    refine Nat.le_trans (List.length_filter_le ..) ?_
    rw [List.length_zip]
    refine Nat.le_trans (Nat.min_le_left ..) ?_
    exact Nat.le_trans (List.length_filter_le ..) aw.few
  refine ⟨rfl, f, c, r, tp, hs, bs, l, _, sh, _, _, _, _, tv, (told (gYs hs ys) pr).map toPc, rfl, ok, pos, by omega, rc, ⟨(F6.same s7).same s8, hR2.keep (k27.trans (TK.same s8)), s8 _ _ g3, pms_pcs (g4.imp fun _ _ z => z.keep (TK.same s8)), by omega, told_good ok aw pc, Ln51.of (fun x hx => ?_) (by decide), tab_same48 (tab_same48 tg6 s7) s8⟩⟩
  obtain ⟨y, hy, rfl⟩ := List.mem_map.mp hx
  have := (aw.ok _ (gy_mem (told_mem hy).1).1).ln
  have := ok.hands
  show y.1.ns.length ≤ 12
  omega
end
theorem fun_of_D {K : PySem.W.Frag} {x q : Str} {st : Stmt} {f : Addr} {fd : FuncData} (D : FunD K x q (defArgs st) (defBody st) (defScope st) [] [] f fd) : Fun K x q st f fd := by
  obtain ⟨⟨oc, od, dV, kV, doc, pm, an, cdv, ct, osl, e, lk, ci, dfl, _⟩, kp⟩ := D
  have z : dV = .none := by
    rcases dfl with ⟨_, h⟩ | ⟨h, _⟩
    · exact h
    · exact absurd rfl h
  subst z
  exact ⟨⟨oc, od, kV, doc, pm, an, cdv, ct, osl, e, lk, ci⟩, kp⟩
def hd_comings : He.DefD := ⟨("comings", none), "comings", "comings", defArgs s_comings, defBody s_comings, defScope s_comings, [], []⟩
def hd_goings : He.DefD := ⟨("goings", none), "goings", "goings", defArgs s_goings, defBody s_goings, defScope s_goings, [], []⟩
def hd_doors_in : He.DefD := ⟨("doors_in", none), "doors_in", "doors_in", defArgs s_doors_in, defBody s_doors_in, defScope s_doors_in, [], []⟩
def hd_doors_out : He.DefD := ⟨("doors_out", none), "doors_out", "doors_out", defArgs s_doors_out, defBody s_doors_out, defScope s_doors_out, [], []⟩
def hd_trays_on : He.DefD := ⟨("trays_on", none), "trays_on", "trays_on", defArgs s_trays_on, defBody s_trays_on, defScope s_trays_on, [], []⟩
def hd_moments_on : He.DefD := ⟨("moments_on", none), "moments_on", "moments_on", defArgs s_moments_on, defBody s_moments_on, defScope s_moments_on, [], []⟩
def hd_way_end : He.DefD := ⟨("way_end", none), "way_end", "way_end", defArgs s_way_end, defBody s_way_end, defScope s_way_end, [], []⟩
def hd_way_back : He.DefD := ⟨("way_back", none), "way_back", "way_back", defArgs s_way_back, defBody s_way_back, defScope s_way_back, [], []⟩
def hd_least_costs : He.DefD := ⟨("least_costs", none), "least_costs", "least_costs", defArgs s_least_costs, defBody s_least_costs, defScope s_least_costs, [], []⟩
def hd_prices_hold : He.DefD := ⟨("prices_hold", none), "prices_hold", "prices_hold", defArgs s_prices_hold, defBody s_prices_hold, defScope s_prices_hold, [], []⟩
def hd_is_price : He.DefD := ⟨("is_price", none), "is_price", "is_price", defArgs s_is_price, defBody s_is_price, defScope s_is_price, [], []⟩
def hd_they_bind : He.DefD := ⟨("they_bind", none), "they_bind", "they_bind", defArgs s_they_bind, defBody s_they_bind, defScope s_they_bind, [], []⟩
def hd_held_count : He.DefD := ⟨("held_count", none), "held_count", "held_count", defArgs s_held_count, defBody s_held_count, defScope s_held_count, [], []⟩
def hd_levels_or_ring : He.DefD := ⟨("levels_or_ring", none), "levels_or_ring", "levels_or_ring", defArgs s_levels_or_ring, defBody s_levels_or_ring, defScope s_levels_or_ring, [], []⟩
def hd_raise_levels : He.DefD := ⟨("raise_levels", none), "raise_levels", "raise_levels", defArgs s_raise_levels, defBody s_raise_levels, defScope s_raise_levels, [], []⟩
def hd_ring_behind : He.DefD := ⟨("ring_behind", none), "ring_behind", "ring_behind", defArgs s_ring_behind, defBody s_ring_behind, defScope s_ring_behind, [], []⟩
def hd_shifts_or_bar : He.DefD := ⟨("shifts_or_bar", none), "shifts_or_bar", "shifts_or_bar", defArgs s_shifts_or_bar, defBody s_shifts_or_bar, defScope s_shifts_or_bar, [], []⟩
def hd_least_time : He.DefD := ⟨("least_time", none), "least_time", "least_time", defArgs s_least_time, defBody s_least_time, defScope s_least_time, [], []⟩
def hd_least_ways : He.DefD := ⟨("least_ways", none), "least_ways", "least_ways", defArgs s_least_ways, defBody s_least_ways, defScope s_least_ways, [], []⟩
def hd_paper_by : He.DefD := ⟨("paper_by", none), "paper_by", "paper_by", defArgs s_paper_by, defBody s_paper_by, defScope s_paper_by, [], []⟩
def hd_needed : He.DefD := ⟨("needed", none), "needed", "needed", defArgs s_needed, defBody s_needed, defScope s_needed, [], []⟩
def hd_jumps : He.DefD := ⟨("jumps", none), "jumps", "jumps", defArgs s_jumps, defBody s_jumps, defScope s_jumps, [], []⟩
def hd_shifts_by : He.DefD := ⟨("shifts_by", none), "shifts_by", "shifts_by", defArgs s_shifts_by, defBody s_shifts_by, defScope s_shifts_by, [], []⟩
def hd_hand_places : He.DefD := ⟨("hand_places", none), "hand_places", "hand_places", defArgs s_hand_places, defBody s_hand_places, defScope s_hand_places, [], []⟩
def hd_ground_steps : He.DefD := ⟨("ground_steps", none), "ground_steps", "ground_steps", defArgs s_ground_steps, defBody s_ground_steps, defScope s_ground_steps, [], []⟩
def hd_ground_shifts : He.DefD := ⟨("ground_shifts", none), "ground_shifts", "ground_shifts", defArgs s_ground_shifts, defBody s_ground_shifts, defScope s_ground_shifts, [], []⟩
def hd_trays_moved : He.DefD := ⟨("trays_moved", none), "trays_moved", "trays_moved", defArgs s_trays_moved, defBody s_trays_moved, defScope s_trays_moved, [], []⟩
def hd_fewest_trays : He.DefD := ⟨("fewest_trays", none), "fewest_trays", "fewest_trays", defArgs s_fewest_trays, defBody s_fewest_trays, defScope s_fewest_trays, [], []⟩
def hd_belt_prices : He.DefD := ⟨("belt_prices", none), "belt_prices", "belt_prices", defArgs s_belt_prices, defBody s_belt_prices, defScope s_belt_prices, [], []⟩
def hd_levels_or_turn : He.DefD := ⟨("levels_or_turn", none), "levels_or_turn", "levels_or_turn", defArgs s_levels_or_turn, defBody s_levels_or_turn, defScope s_levels_or_turn, [], []⟩
def hd_turn_prices : He.DefD := ⟨("turn_prices", none), "turn_prices", "turn_prices", defArgs s_turn_prices, defBody s_turn_prices, defScope s_turn_prices, [], []⟩
def hd_law_flow : He.DefD := ⟨("_law_flow", none), "_law_flow", "_law_flow", defArgs s_law_flow, defBody s_law_flow, defScope s_law_flow, [], []⟩
def hd_law_pick : He.DefD := ⟨("_law_pick", none), "_law_pick", "_law_pick", defArgs s_law_pick, defBody s_law_pick, defScope s_law_pick, [], []⟩
def hd_law_thing : He.DefD := ⟨("_law_thing", none), "_law_thing", "_law_thing", defArgs s_law_thing, defBody s_law_thing, defScope s_law_thing, [], []⟩
def hd_law_needs : He.DefD := ⟨("_law_needs", none), "_law_needs", "_law_needs", defArgs s_law_needs, defBody s_law_needs, defScope s_law_needs, [], []⟩
def hd_law_rule : He.DefD := ⟨("_law_rule", none), "_law_rule", "_law_rule", defArgs s_law_rule, defBody s_law_rule, defScope s_law_rule, [], []⟩
def hd_law_shuffled : He.DefD := ⟨("_law_shuffled", none), "_law_shuffled", "_law_shuffled", defArgs s_law_shuffled, defBody s_law_shuffled, defScope s_law_shuffled, [], []⟩
def hd_law_hands : He.DefD := ⟨("_law_hands", none), "_law_hands", "_law_hands", defArgs s_law_hands, defBody s_law_hands, defScope s_law_hands, [], []⟩
def hd_law_room : He.DefD := ⟨("_law_room", none), "_law_room", "_law_room", defArgs s_law_room, defBody s_law_room, defScope s_law_room, [], []⟩
def hd_law_alike : He.DefD := ⟨("_law_alike", none), "_law_alike", "_law_alike", defArgs s_law_alike, defBody s_law_alike, defScope s_law_alike, [], []⟩
def hd_law_doors_room : He.DefD := ⟨("_law_doors_room", none), "_law_doors_room", "_law_doors_room", defArgs s_law_doors_room, defBody s_law_doors_room, defScope s_law_doors_room, [], []⟩
def hd_law_any_room : He.DefD := ⟨("_law_any_room", none), "_law_any_room", "_law_any_room", defArgs s_law_any_room, defBody s_law_any_room, defScope s_law_any_room, [], []⟩
def hd_law_doors : He.DefD := ⟨("_law_doors", none), "_law_doors", "_law_doors", defArgs s_law_doors, defBody s_law_doors, defScope s_law_doors, [], []⟩
def hd_law_end : He.DefD := ⟨("_law_end", none), "_law_end", "_law_end", defArgs s_law_end, defBody s_law_end, defScope s_law_end, [], []⟩
def hd_law_trays : He.DefD := ⟨("_law_trays", none), "_law_trays", "_law_trays", defArgs s_law_trays, defBody s_law_trays, defScope s_law_trays, [], []⟩
def hd_law_moments : He.DefD := ⟨("_law_moments", none), "_law_moments", "_law_moments", defArgs s_law_moments, defBody s_law_moments, defScope s_law_moments, [], []⟩
def hd_law_belts : He.DefD := ⟨("_law_belts", none), "_law_belts", "_law_belts", defArgs s_law_belts, defBody s_law_belts, defScope s_law_belts, [], []⟩
def hd_law_moved : He.DefD := ⟨("_law_moved", none), "_law_moved", "_law_moved", defArgs s_law_moved, defBody s_law_moved, defScope s_law_moved, [], []⟩
def hd_law_is_small : He.DefD := ⟨("_law_is_small", none), "_law_is_small", "_law_is_small", defArgs s_law_is_small, defBody s_law_is_small, defScope s_law_is_small, [], []⟩
def hd_law_rings : He.DefD := ⟨("_law_rings", none), "_law_rings", "_law_rings", defArgs s_law_rings, defBody s_law_rings, defScope s_law_rings, [], []⟩
def hd_law_held : He.DefD := ⟨("_law_held", none), "_law_held", "_law_held", defArgs s_law_held, defBody s_law_held, defScope s_law_held, [], []⟩
def hd_law_are_small : He.DefD := ⟨("_law_are_small", none), "_law_are_small", "_law_are_small", defArgs s_law_are_small, defBody s_law_are_small, defScope s_law_are_small, [], []⟩
def hd_law_parted : He.DefD := ⟨("_law_parted", none), "_law_parted", "_law_parted", defArgs s_law_parted, defBody s_law_parted, defScope s_law_parted, [], []⟩
def hd_law_joined : He.DefD := ⟨("_law_joined", none), "_law_joined", "_law_joined", defArgs s_law_joined, defBody s_law_joined, defScope s_law_joined, [], []⟩
def hd_law_with_ring : He.DefD := ⟨("_law_with_ring", none), "_law_with_ring", "_law_with_ring", defArgs s_law_with_ring, defBody s_law_with_ring, defScope s_law_with_ring, [], []⟩
def hd_law : He.DefD := ⟨("law", none), "law", "law", defArgs s_law, defBody s_law, defScope s_law, [], []⟩
def hFn : List He.DefD := [hd_comings, hd_goings, hd_doors_in, hd_doors_out, hd_trays_on, hd_moments_on, hd_way_end, hd_way_back, hd_least_costs, hd_prices_hold, hd_is_price, hd_they_bind, hd_held_count, hd_levels_or_ring, hd_raise_levels, hd_ring_behind, hd_shifts_or_bar, hd_least_time, hd_least_ways, hd_paper_by, hd_needed, hd_jumps, hd_shifts_by, hd_hand_places, hd_ground_steps, hd_ground_shifts, hd_trays_moved, hd_fewest_trays, hd_belt_prices, hd_levels_or_turn, hd_turn_prices, hd_law_flow, hd_law_pick, hd_law_thing, hd_law_needs, hd_law_rule, hd_law_shuffled, hd_law_hands, hd_law_room, hd_law_alike, hd_law_doors_room, hd_law_any_room, hd_law_doors, hd_law_end, hd_law_trays, hd_law_moments, hd_law_belts, hd_law_moved, hd_law_is_small, hd_law_rings, hd_law_held, hd_law_are_small, hd_law_parted, hd_law_joined, hd_law_with_ring, hd_law]
def hFa : List He.Fa := [.glo "comings", .glo "goings", .glo "doors_in", .glo "doors_out", .glo "trays_on", .glo "moments_on", .glo "way_end", .glo "way_back", .glo "least_costs", .glo "prices_hold", .glo "is_price", .glo "they_bind", .glo "held_count", .glo "levels_or_ring", .glo "raise_levels", .glo "ring_behind", .glo "shifts_or_bar", .glo "least_time", .glo "least_ways", .glo "paper_by", .glo "needed", .glo "jumps", .glo "shifts_by", .glo "hand_places", .glo "ground_steps", .glo "ground_shifts", .glo "trays_moved", .glo "fewest_trays", .glo "belt_prices", .glo "levels_or_turn", .glo "turn_prices", .glo "_law_flow", .glo "_law_pick", .glo "_law_thing", .glo "_law_needs", .glo "_law_rule", .glo "_law_shuffled", .glo "_law_hands", .glo "_law_room", .glo "_law_alike", .glo "_law_doors_room", .glo "_law_any_room", .glo "_law_doors", .glo "_law_end", .glo "_law_trays", .glo "_law_moments", .glo "_law_belts", .glo "_law_moved", .glo "_law_is_small", .glo "_law_rings", .glo "_law_held", .glo "_law_are_small", .glo "_law_parted", .glo "_law_joined", .glo "_law_with_ring", .glo "law", .free "all", .free "bool", .free "enumerate", .free "int", .free "isinstance", .free "len", .free "list", .free "max", .free "min", .free "range", .free "sum", .free "tuple", .free "zip", .glo "IN_RULE", .glo "OUT_RULE"]
def hEx (K : PySem.W.Frag) : Bool := He.tupB K "IN_RULE" [.str "in"] && He.tupB K "OUT_RULE" [.str "out"]
def hTf : List (Str × Option Str) := [("prices_hold", none)]
abbrev hR : PySem.W.OpenRow := PySem.W.OpenLaw.row PySem.Challenge.rw_beltshift_k51_whole_prices_whoever_wrote
abbrev hk : PySem.W.Hook := He.hookX 4 hFa hFn [] hTf hEx
def hOb (s : PySem.W.SharedT) : He.AlX := He.obsX 4 hFa hFn [] hTf hEx (HandSHeadRun.getT s)
theorem hOb_eq (s : PySem.W.SharedT) : hOb s = hk.obs s.abs := He.obsX_eq (HandSHeadRun.getT_eq s)
def hN0 : List Str := ["IN_RULE", "OUT_RULE", "comings", "goings", "doors_in", "doors_out", "trays_on", "moments_on", "way_end", "way_back", "least_costs", "prices_hold", "is_price", "they_bind", "held_count", "levels_or_ring", "raise_levels", "ring_behind", "shifts_or_bar", "least_time", "least_ways", "paper_by", "needed", "jumps", "shifts_by", "hand_places", "ground_steps", "ground_shifts", "trays_moved", "fewest_trays"]
def hN1 : List Str := ["belt_prices", "levels_or_turn", "turn_prices", "_law_flow", "_law_pick", "_law_thing", "_law_needs", "_law_rule", "_law_shuffled", "_law_hands", "_law_room", "_law_alike", "_law_doors_room", "_law_any_room", "_law_doors", "_law_end", "_law_trays", "_law_moments", "_law_belts", "_law_moved", "_law_is_small", "_law_rings", "_law_held", "_law_are_small", "_law_parted", "_law_joined", "_law_with_ring"]
def hNames : List Str := hN0 ++ hN1
set_option maxHeartbeats 0 in
theorem hRun (w : World) : HandSHeadRun.RunEq hR (PySem.W.view hR.prog [66]) hk hOb 40000 hNames w := by
  intro os
  kernel_rfl
set_option maxHeartbeats 0 in
theorem all_mkX {w : World} {K : PySem.W.Frag} {h : Heap} {mg : Str → Option Value} {fa : Addr} (X : K.In h) (G : h.Ns mainGlobals mg) (hfa : mg "law" = some (.ref fa)) (c : He.SaysX hFa hFn [] hTf hEx w h K) : LamX.LawAtS PySem.Challenge.rw_beltshift_k51_whole_prices_whoever_wrote w K CX0 7 63 "_law_script" mg fa h := by
  have cd := c.t.d
  obtain ⟨fd0, D0⟩ := cd.def_ 0 (d := hd_comings) rfl
  have F0 : Fun K "comings" "comings" s_comings (He.ga K "comings") fd0 := fun_of_D D0
  have g0 : mg "comings" = some (.ref (He.ga K "comings")) := He.glo_ok X G (cd.fact 0 (f := .glo "comings") rfl)
  have b0 := F0.binds (ps := ["room", "hand"]) fun _ _ _ _ _ _ us hl => match us, hl with | [_, _], _ => rfl
  obtain ⟨fd1, D1⟩ := cd.def_ 1 (d := hd_goings) rfl
  have F1 : Fun K "goings" "goings" s_goings (He.ga K "goings") fd1 := fun_of_D D1
  have g1 : mg "goings" = some (.ref (He.ga K "goings")) := He.glo_ok X G (cd.fact 1 (f := .glo "goings") rfl)
  have b1 := F1.binds (ps := ["room", "hand"]) fun _ _ _ _ _ _ us hl => match us, hl with | [_, _], _ => rfl
  obtain ⟨fd2, D2⟩ := cd.def_ 2 (d := hd_doors_in) rfl
  have F2 : Fun K "doors_in" "doors_in" s_doors_in (He.ga K "doors_in") fd2 := fun_of_D D2
  have g2 : mg "doors_in" = some (.ref (He.ga K "doors_in")) := He.glo_ok X G (cd.fact 2 (f := .glo "doors_in") rfl)
  have b2 := F2.binds (ps := ["room"]) fun _ _ _ _ _ _ us hl => match us, hl with | [_], _ => rfl
  obtain ⟨fd3, D3⟩ := cd.def_ 3 (d := hd_doors_out) rfl
  have F3 : Fun K "doors_out" "doors_out" s_doors_out (He.ga K "doors_out") fd3 := fun_of_D D3
  have g3 : mg "doors_out" = some (.ref (He.ga K "doors_out")) := He.glo_ok X G (cd.fact 3 (f := .glo "doors_out") rfl)
  have b3 := F3.binds (ps := ["room"]) fun _ _ _ _ _ _ us hl => match us, hl with | [_], _ => rfl
  obtain ⟨fd4, D4⟩ := cd.def_ 4 (d := hd_trays_on) rfl
  have F4 : Fun K "trays_on" "trays_on" s_trays_on (He.ga K "trays_on") fd4 := fun_of_D D4
  have g4 : mg "trays_on" = some (.ref (He.ga K "trays_on")) := He.glo_ok X G (cd.fact 4 (f := .glo "trays_on") rfl)
  have b4 := F4.binds (ps := ["room", "way"]) fun _ _ _ _ _ _ us hl => match us, hl with | [_, _], _ => rfl
  obtain ⟨fd5, D5⟩ := cd.def_ 5 (d := hd_moments_on) rfl
  have F5 : Fun K "moments_on" "moments_on" s_moments_on (He.ga K "moments_on") fd5 := fun_of_D D5
  have g5 : mg "moments_on" = some (.ref (He.ga K "moments_on")) := He.glo_ok X G (cd.fact 5 (f := .glo "moments_on") rfl)
  have b5 := F5.binds (ps := ["room", "way"]) fun _ _ _ _ _ _ us hl => match us, hl with | [_, _], _ => rfl
  obtain ⟨fd6, D6⟩ := cd.def_ 6 (d := hd_way_end) rfl
  have F6 : Fun K "way_end" "way_end" s_way_end (He.ga K "way_end") fd6 := fun_of_D D6
  have g6 : mg "way_end" = some (.ref (He.ga K "way_end")) := He.glo_ok X G (cd.fact 6 (f := .glo "way_end") rfl)
  have b6 := F6.binds (ps := ["room", "pair"]) fun _ _ _ _ _ _ us hl => match us, hl with | [_, _], _ => rfl
  obtain ⟨fd7, D7⟩ := cd.def_ 7 (d := hd_way_back) rfl
  have F7 : Fun K "way_back" "way_back" s_way_back (He.ga K "way_back") fd7 := fun_of_D D7
  have g7 : mg "way_back" = some (.ref (He.ga K "way_back")) := He.glo_ok X G (cd.fact 7 (f := .glo "way_back") rfl)
  have b7 := F7.binds (ps := ["room", "end", "last"]) fun _ _ _ _ _ _ us hl => match us, hl with | [_, _, _], _ => rfl
  obtain ⟨fd8, D8⟩ := cd.def_ 8 (d := hd_least_costs) rfl
  have F8 : Fun K "least_costs" "least_costs" s_least_costs (He.ga K "least_costs") fd8 := fun_of_D D8
  have g8 : mg "least_costs" = some (.ref (He.ga K "least_costs")) := He.glo_ok X G (cd.fact 8 (f := .glo "least_costs") rfl)
  have b8 := F8.binds (ps := ["room", "one"]) fun _ _ _ _ _ _ us hl => match us, hl with | [_, _], _ => rfl
  obtain ⟨fd9, D9⟩ := cd.def_ 9 (d := hd_prices_hold) rfl
  have F9 : Fun K "prices_hold" "prices_hold" s_prices_hold (He.ga K "prices_hold") fd9 := fun_of_D D9
  have g9 : mg "prices_hold" = some (.ref (He.ga K "prices_hold")) := He.glo_ok X G (cd.fact 9 (f := .glo "prices_hold") rfl)
  have b9 := F9.binds (ps := ["room", "late", "time", "count", "prices"]) fun _ _ _ _ _ _ us hl => match us, hl with | [_, _, _, _, _], _ => rfl
  obtain ⟨fd10, D10⟩ := cd.def_ 10 (d := hd_is_price) rfl
  have F10 : Fun K "is_price" "is_price" s_is_price (He.ga K "is_price") fd10 := fun_of_D D10
  have g10 : mg "is_price" = some (.ref (He.ga K "is_price")) := He.glo_ok X G (cd.fact 10 (f := .glo "is_price") rfl)
  have b10 := F10.binds (ps := ["room", "pair", "many"]) fun _ _ _ _ _ _ us hl => match us, hl with | [_, _, _], _ => rfl
  obtain ⟨fd11, D11⟩ := cd.def_ 11 (d := hd_they_bind) rfl
  have F11 : Fun K "they_bind" "they_bind" s_they_bind (He.ga K "they_bind") fd11 := fun_of_D D11
  have g11 : mg "they_bind" = some (.ref (He.ga K "they_bind")) := He.glo_ok X G (cd.fact 11 (f := .glo "they_bind") rfl)
  have b11 := F11.binds (ps := ["room", "prices"]) fun _ _ _ _ _ _ us hl => match us, hl with | [_, _], _ => rfl
  obtain ⟨fd12, D12⟩ := cd.def_ 12 (d := hd_held_count) rfl
  have F12 : Fun K "held_count" "held_count" s_held_count (He.ga K "held_count") fd12 := fun_of_D D12
  have g12 : mg "held_count" = some (.ref (He.ga K "held_count")) := He.glo_ok X G (cd.fact 12 (f := .glo "held_count") rfl)
  have b12 := F12.binds (ps := ["room", "late", "time", "prices"]) fun _ _ _ _ _ _ us hl => match us, hl with | [_, _, _, _], _ => rfl
  obtain ⟨fd13, D13⟩ := cd.def_ 13 (d := hd_levels_or_ring) rfl
  have F13 : Fun K "levels_or_ring" "levels_or_ring" s_levels_or_ring (He.ga K "levels_or_ring") fd13 := fun_of_D D13
  have g13 : mg "levels_or_ring" = some (.ref (He.ga K "levels_or_ring")) := He.glo_ok X G (cd.fact 13 (f := .glo "levels_or_ring") rfl)
  have b13 := F13.binds (ps := ["many", "steps"]) fun _ _ _ _ _ _ us hl => match us, hl with | [_, _], _ => rfl
  obtain ⟨fd14, D14⟩ := cd.def_ 14 (d := hd_raise_levels) rfl
  have F14 : Fun K "raise_levels" "raise_levels" s_raise_levels (He.ga K "raise_levels") fd14 := fun_of_D D14
  have g14 : mg "raise_levels" = some (.ref (He.ga K "raise_levels")) := He.glo_ok X G (cd.fact 14 (f := .glo "raise_levels") rfl)
  have b14 := F14.binds (ps := ["levels", "last", "steps"]) fun _ _ _ _ _ _ us hl => match us, hl with | [_, _, _], _ => rfl
  obtain ⟨fd15, D15⟩ := cd.def_ 15 (d := hd_ring_behind) rfl
  have F15 : Fun K "ring_behind" "ring_behind" s_ring_behind (He.ga K "ring_behind") fd15 := fun_of_D D15
  have g15 : mg "ring_behind" = some (.ref (He.ga K "ring_behind")) := He.glo_ok X G (cd.fact 15 (f := .glo "ring_behind") rfl)
  have b15 := F15.binds (ps := ["place", "last", "steps"]) fun _ _ _ _ _ _ us hl => match us, hl with | [_, _, _], _ => rfl
  obtain ⟨fd16, D16⟩ := cd.def_ 16 (d := hd_shifts_or_bar) rfl
  have F16 : Fun K "shifts_or_bar" "shifts_or_bar" s_shifts_or_bar (He.ga K "shifts_or_bar") fd16 := fun_of_D D16
  have g16 : mg "shifts_or_bar" = some (.ref (He.ga K "shifts_or_bar")) := He.glo_ok X G (cd.fact 16 (f := .glo "shifts_or_bar") rfl)
  have b16 := F16.binds (ps := ["room", "late", "time"]) fun _ _ _ _ _ _ us hl => match us, hl with | [_, _, _], _ => rfl
  obtain ⟨fd17, D17⟩ := cd.def_ 17 (d := hd_least_time) rfl
  have F17 : Fun K "least_time" "least_time" s_least_time (He.ga K "least_time") fd17 := fun_of_D D17
  have g17 : mg "least_time" = some (.ref (He.ga K "least_time")) := He.glo_ok X G (cd.fact 17 (f := .glo "least_time") rfl)
  have b17 := F17.binds (ps := ["room", "late"]) fun _ _ _ _ _ _ us hl => match us, hl with | [_, _], _ => rfl
  obtain ⟨fd18, D18⟩ := cd.def_ 18 (d := hd_least_ways) rfl
  have F18 : Fun K "least_ways" "least_ways" s_least_ways (He.ga K "least_ways") fd18 := fun_of_D D18
  have g18 : mg "least_ways" = some (.ref (He.ga K "least_ways")) := He.glo_ok X G (cd.fact 18 (f := .glo "least_ways") rfl)
  have b18 := F18.binds (ps := ["room"]) fun _ _ _ _ _ _ us hl => match us, hl with | [_], _ => rfl
  obtain ⟨fd19, D19⟩ := cd.def_ 19 (d := hd_paper_by) rfl
  have F19 : Fun K "paper_by" "paper_by" s_paper_by (He.ga K "paper_by") fd19 := fun_of_D D19
  have g19 : mg "paper_by" = some (.ref (He.ga K "paper_by")) := He.glo_ok X G (cd.fact 19 (f := .glo "paper_by") rfl)
  have b19 := F19.binds (ps := ["room", "late", "time", "ways"]) fun _ _ _ _ _ _ us hl => match us, hl with | [_, _, _, _], _ => rfl
  obtain ⟨fd20, D20⟩ := cd.def_ 20 (d := hd_needed) rfl
  have F20 : Fun K "needed" "needed" s_needed (He.ga K "needed") fd20 := fun_of_D D20
  have g20 : mg "needed" = some (.ref (He.ga K "needed")) := He.glo_ok X G (cd.fact 20 (f := .glo "needed") rfl)
  have b20 := F20.binds (ps := ["moments", "time"]) fun _ _ _ _ _ _ us hl => match us, hl with | [_, _], _ => rfl
  obtain ⟨fd21, D21⟩ := cd.def_ 21 (d := hd_jumps) rfl
  have F21 : Fun K "jumps" "jumps" s_jumps (He.ga K "jumps") fd21 := fun_of_D D21
  have g21 : mg "jumps" = some (.ref (He.ga K "jumps")) := He.glo_ok X G (cd.fact 21 (f := .glo "jumps") rfl)
  have b21 := F21.binds (ps := ["room", "late"]) fun _ _ _ _ _ _ us hl => match us, hl with | [_, _], _ => rfl
  obtain ⟨fd22, D22⟩ := cd.def_ 22 (d := hd_shifts_by) rfl
  have F22 : Fun K "shifts_by" "shifts_by" s_shifts_by (He.ga K "shifts_by") fd22 := fun_of_D D22
  have g22 : mg "shifts_by" = some (.ref (He.ga K "shifts_by")) := He.glo_ok X G (cd.fact 22 (f := .glo "shifts_by") rfl)
  have b22 := F22.binds (ps := ["room", "late", "levels"]) fun _ _ _ _ _ _ us hl => match us, hl with | [_, _, _], _ => rfl
  obtain ⟨fd23, D23⟩ := cd.def_ 23 (d := hd_hand_places) rfl
  have F23 : Fun K "hand_places" "hand_places" s_hand_places (He.ga K "hand_places") fd23 := fun_of_D D23
  have g23 : mg "hand_places" = some (.ref (He.ga K "hand_places")) := He.glo_ok X G (cd.fact 23 (f := .glo "hand_places") rfl)
  have b23 := F23.binds (ps := ["room", "late"]) fun _ _ _ _ _ _ us hl => match us, hl with | [_, _], _ => rfl
  obtain ⟨fd24, D24⟩ := cd.def_ 24 (d := hd_ground_steps) rfl
  have F24 : Fun K "ground_steps" "ground_steps" s_ground_steps (He.ga K "ground_steps") fd24 := fun_of_D D24
  have g24 : mg "ground_steps" = some (.ref (He.ga K "ground_steps")) := He.glo_ok X G (cd.fact 24 (f := .glo "ground_steps") rfl)
  have b24 := F24.binds (ps := ["room", "late", "time"]) fun _ _ _ _ _ _ us hl => match us, hl with | [_, _, _], _ => rfl
  obtain ⟨fd25, D25⟩ := cd.def_ 25 (d := hd_ground_shifts) rfl
  have F25 : Fun K "ground_shifts" "ground_shifts" s_ground_shifts (He.ga K "ground_shifts") fd25 := fun_of_D D25
  have g25 : mg "ground_shifts" = some (.ref (He.ga K "ground_shifts")) := He.glo_ok X G (cd.fact 25 (f := .glo "ground_shifts") rfl)
  have b25 := F25.binds (ps := ["room", "late", "levels"]) fun _ _ _ _ _ _ us hl => match us, hl with | [_, _, _], _ => rfl
  obtain ⟨fd26, D26⟩ := cd.def_ 26 (d := hd_trays_moved) rfl
  have F26 : Fun K "trays_moved" "trays_moved" s_trays_moved (He.ga K "trays_moved") fd26 := fun_of_D D26
  have g26 : mg "trays_moved" = some (.ref (He.ga K "trays_moved")) := He.glo_ok X G (cd.fact 26 (f := .glo "trays_moved") rfl)
  have b26 := F26.binds (ps := ["room", "shifts"]) fun _ _ _ _ _ _ us hl => match us, hl with | [_, _], _ => rfl
  obtain ⟨fd27, D27⟩ := cd.def_ 27 (d := hd_fewest_trays) rfl
  have F27 : Fun K "fewest_trays" "fewest_trays" s_fewest_trays (He.ga K "fewest_trays") fd27 := fun_of_D D27
  have g27 : mg "fewest_trays" = some (.ref (He.ga K "fewest_trays")) := He.glo_ok X G (cd.fact 27 (f := .glo "fewest_trays") rfl)
  have b27 := F27.binds (ps := ["room", "late", "time"]) fun _ _ _ _ _ _ us hl => match us, hl with | [_, _, _], _ => rfl
  obtain ⟨fd28, D28⟩ := cd.def_ 28 (d := hd_belt_prices) rfl
  have F28 : Fun K "belt_prices" "belt_prices" s_belt_prices (He.ga K "belt_prices") fd28 := fun_of_D D28
  have g28 : mg "belt_prices" = some (.ref (He.ga K "belt_prices")) := He.glo_ok X G (cd.fact 28 (f := .glo "belt_prices") rfl)
  have b28 := F28.binds (ps := ["room", "ways"]) fun _ _ _ _ _ _ us hl => match us, hl with | [_, _], _ => rfl
  obtain ⟨fd29, D29⟩ := cd.def_ 29 (d := hd_levels_or_turn) rfl
  have F29 : Fun K "levels_or_turn" "levels_or_turn" s_levels_or_turn (He.ga K "levels_or_turn") fd29 := fun_of_D D29
  have g29 : mg "levels_or_turn" = some (.ref (He.ga K "levels_or_turn")) := He.glo_ok X G (cd.fact 29 (f := .glo "levels_or_turn") rfl)
  have b29 := F29.binds (ps := ["room", "steps", "prices"]) fun _ _ _ _ _ _ us hl => match us, hl with | [_, _, _], _ => rfl
  obtain ⟨fd30, D30⟩ := cd.def_ 30 (d := hd_turn_prices) rfl
  have F30 : Fun K "turn_prices" "turn_prices" s_turn_prices (He.ga K "turn_prices") fd30 := fun_of_D D30
  have g30 : mg "turn_prices" = some (.ref (He.ga K "turn_prices")) := He.glo_ok X G (cd.fact 30 (f := .glo "turn_prices") rfl)
  have b30 := F30.binds (ps := ["prices", "turn"]) fun _ _ _ _ _ _ us hl => match us, hl with | [_, _], _ => rfl
  obtain ⟨fd31, D31⟩ := cd.def_ 31 (d := hd_law_flow) rfl
  have F31 : Fun K "_law_flow" "_law_flow" s_law_flow (He.ga K "_law_flow") fd31 := fun_of_D D31
  have g31 : mg "_law_flow" = some (.ref (He.ga K "_law_flow")) := He.glo_ok X G (cd.fact 31 (f := .glo "_law_flow") rfl)
  have b31 := F31.binds (ps := ["_law_script"]) fun _ _ _ _ _ _ us hl => match us, hl with | [_], _ => rfl
  obtain ⟨fd32, D32⟩ := cd.def_ 32 (d := hd_law_pick) rfl
  have F32 : Fun K "_law_pick" "_law_pick" s_law_pick (He.ga K "_law_pick") fd32 := fun_of_D D32
  have g32 : mg "_law_pick" = some (.ref (He.ga K "_law_pick")) := He.glo_ok X G (cd.fact 32 (f := .glo "_law_pick") rfl)
  have b32 := F32.binds (ps := ["_law_flow_here", "_law_many"]) fun _ _ _ _ _ _ us hl => match us, hl with | [_, _], _ => rfl
  obtain ⟨fd33, D33⟩ := cd.def_ 33 (d := hd_law_thing) rfl
  have F33 : Fun K "_law_thing" "_law_thing" s_law_thing (He.ga K "_law_thing") fd33 := fun_of_D D33
  have g33 : mg "_law_thing" = some (.ref (He.ga K "_law_thing")) := He.glo_ok X G (cd.fact 33 (f := .glo "_law_thing") rfl)
  have b33 := F33.binds (ps := ["_law_flow_here"]) fun _ _ _ _ _ _ us hl => match us, hl with | [_], _ => rfl
  obtain ⟨fd34, D34⟩ := cd.def_ 34 (d := hd_law_needs) rfl
  have F34 : Fun K "_law_needs" "_law_needs" s_law_needs (He.ga K "_law_needs") fd34 := fun_of_D D34
  have g34 : mg "_law_needs" = some (.ref (He.ga K "_law_needs")) := He.glo_ok X G (cd.fact 34 (f := .glo "_law_needs") rfl)
  have b34 := F34.binds (ps := ["_law_rule_here"]) fun _ _ _ _ _ _ us hl => match us, hl with | [_], _ => rfl
  obtain ⟨fd35, D35⟩ := cd.def_ 35 (d := hd_law_rule) rfl
  have F35 : Fun K "_law_rule" "_law_rule" s_law_rule (He.ga K "_law_rule") fd35 := fun_of_D D35
  have g35 : mg "_law_rule" = some (.ref (He.ga K "_law_rule")) := He.glo_ok X G (cd.fact 35 (f := .glo "_law_rule") rfl)
  have b35 := F35.binds (ps := ["_law_flow_here", "_law_most"]) fun _ _ _ _ _ _ us hl => match us, hl with | [_, _], _ => rfl
  obtain ⟨fd36, D36⟩ := cd.def_ 36 (d := hd_law_shuffled) rfl
  have F36 : Fun K "_law_shuffled" "_law_shuffled" s_law_shuffled (He.ga K "_law_shuffled") fd36 := fun_of_D D36
  have g36 : mg "_law_shuffled" = some (.ref (He.ga K "_law_shuffled")) := He.glo_ok X G (cd.fact 36 (f := .glo "_law_shuffled") rfl)
  have b36 := F36.binds (ps := ["_law_flow_here", "_law_some"]) fun _ _ _ _ _ _ us hl => match us, hl with | [_, _], _ => rfl
  obtain ⟨fd37, D37⟩ := cd.def_ 37 (d := hd_law_hands) rfl
  have F37 : Fun K "_law_hands" "_law_hands" s_law_hands (He.ga K "_law_hands") fd37 := fun_of_D D37
  have g37 : mg "_law_hands" = some (.ref (He.ga K "_law_hands")) := He.glo_ok X G (cd.fact 37 (f := .glo "_law_hands") rfl)
  have b37 := F37.binds (ps := ["_law_flow_here", "_law_many"]) fun _ _ _ _ _ _ us hl => match us, hl with | [_, _], _ => rfl
  obtain ⟨fd38, D38⟩ := cd.def_ 38 (d := hd_law_room) rfl
  have F38 : Fun K "_law_room" "_law_room" s_law_room (He.ga K "_law_room") fd38 := fun_of_D D38
  have g38 : mg "_law_room" = some (.ref (He.ga K "_law_room")) := He.glo_ok X G (cd.fact 38 (f := .glo "_law_room") rfl)
  have b38 := F38.binds (ps := ["_law_flow_here", "_law_most"]) fun _ _ _ _ _ _ us hl => match us, hl with | [_, _], _ => rfl
  obtain ⟨fd39, D39⟩ := cd.def_ 39 (d := hd_law_alike) rfl
  have F39 : Fun K "_law_alike" "_law_alike" s_law_alike (He.ga K "_law_alike") fd39 := fun_of_D D39
  have g39 : mg "_law_alike" = some (.ref (He.ga K "_law_alike")) := He.glo_ok X G (cd.fact 39 (f := .glo "_law_alike") rfl)
  have b39 := F39.binds (ps := ["_law_found", "_law_due"]) fun _ _ _ _ _ _ us hl => match us, hl with | [_, _], _ => rfl
  obtain ⟨fd40, D40⟩ := cd.def_ 40 (d := hd_law_doors_room) rfl
  have F40 : Fun K "_law_doors_room" "_law_doors_room" s_law_doors_room (He.ga K "_law_doors_room") fd40 := fun_of_D D40
  have g40 : mg "_law_doors_room" = some (.ref (He.ga K "_law_doors_room")) := He.glo_ok X G (cd.fact 40 (f := .glo "_law_doors_room") rfl)
  have b40 := F40.binds (ps := ["_law_flow_here"]) fun _ _ _ _ _ _ us hl => match us, hl with | [_], _ => rfl
  obtain ⟨fd41, D41⟩ := cd.def_ 41 (d := hd_law_any_room) rfl
  have F41 : Fun K "_law_any_room" "_law_any_room" s_law_any_room (He.ga K "_law_any_room") fd41 := fun_of_D D41
  have g41 : mg "_law_any_room" = some (.ref (He.ga K "_law_any_room")) := He.glo_ok X G (cd.fact 41 (f := .glo "_law_any_room") rfl)
  have b41 := F41.binds (ps := ["_law_flow_here"]) fun _ _ _ _ _ _ us hl => match us, hl with | [_], _ => rfl
  obtain ⟨fd42, D42⟩ := cd.def_ 42 (d := hd_law_doors) rfl
  have F42 : Fun K "_law_doors" "_law_doors" s_law_doors (He.ga K "_law_doors") fd42 := fun_of_D D42
  have g42 : mg "_law_doors" = some (.ref (He.ga K "_law_doors")) := He.glo_ok X G (cd.fact 42 (f := .glo "_law_doors") rfl)
  have b42 := F42.binds (ps := ["_law_room_here", "_law_word"]) fun _ _ _ _ _ _ us hl => match us, hl with | [_, _], _ => rfl
  obtain ⟨fd43, D43⟩ := cd.def_ 43 (d := hd_law_end) rfl
  have F43 : Fun K "_law_end" "_law_end" s_law_end (He.ga K "_law_end") fd43 := fun_of_D D43
  have g43 : mg "_law_end" = some (.ref (He.ga K "_law_end")) := He.glo_ok X G (cd.fact 43 (f := .glo "_law_end") rfl)
  have b43 := F43.binds (ps := ["_law_room_here", "_law_pair"]) fun _ _ _ _ _ _ us hl => match us, hl with | [_, _], _ => rfl
  obtain ⟨fd44, D44⟩ := cd.def_ 44 (d := hd_law_trays) rfl
  have F44 : Fun K "_law_trays" "_law_trays" s_law_trays (He.ga K "_law_trays") fd44 := fun_of_D D44
  have g44 : mg "_law_trays" = some (.ref (He.ga K "_law_trays")) := He.glo_ok X G (cd.fact 44 (f := .glo "_law_trays") rfl)
  have b44 := F44.binds (ps := ["_law_room_here", "_law_way"]) fun _ _ _ _ _ _ us hl => match us, hl with | [_, _], _ => rfl
  obtain ⟨fd45, D45⟩ := cd.def_ 45 (d := hd_law_moments) rfl
  have F45 : Fun K "_law_moments" "_law_moments" s_law_moments (He.ga K "_law_moments") fd45 := fun_of_D D45
  have g45 : mg "_law_moments" = some (.ref (He.ga K "_law_moments")) := He.glo_ok X G (cd.fact 45 (f := .glo "_law_moments") rfl)
  have b45 := F45.binds (ps := ["_law_room_here", "_law_way"]) fun _ _ _ _ _ _ us hl => match us, hl with | [_, _], _ => rfl
  obtain ⟨fd46, D46⟩ := cd.def_ 46 (d := hd_law_belts) rfl
  have F46 : Fun K "_law_belts" "_law_belts" s_law_belts (He.ga K "_law_belts") fd46 := fun_of_D D46
  have g46 : mg "_law_belts" = some (.ref (He.ga K "_law_belts")) := He.glo_ok X G (cd.fact 46 (f := .glo "_law_belts") rfl)
  have b46 := F46.binds (ps := ["_law_walk"]) fun _ _ _ _ _ _ us hl => match us, hl with | [_], _ => rfl
  obtain ⟨fd47, D47⟩ := cd.def_ 47 (d := hd_law_moved) rfl
  have F47 : Fun K "_law_moved" "_law_moved" s_law_moved (He.ga K "_law_moved") fd47 := fun_of_D D47
  have g47 : mg "_law_moved" = some (.ref (He.ga K "_law_moved")) := He.glo_ok X G (cd.fact 47 (f := .glo "_law_moved") rfl)
  have b47 := F47.binds (ps := ["_law_room_here", "_law_shifts"]) fun _ _ _ _ _ _ us hl => match us, hl with | [_, _], _ => rfl
  obtain ⟨fd48, D48⟩ := cd.def_ 48 (d := hd_law_is_small) rfl
  have F48 : Fun K "_law_is_small" "_law_is_small" s_law_is_small (He.ga K "_law_is_small") fd48 := fun_of_D D48
  have g48 : mg "_law_is_small" = some (.ref (He.ga K "_law_is_small")) := He.glo_ok X G (cd.fact 48 (f := .glo "_law_is_small") rfl)
  have b48 := F48.binds (ps := ["_law_walk"]) fun _ _ _ _ _ _ us hl => match us, hl with | [_], _ => rfl
  obtain ⟨fd49, D49⟩ := cd.def_ 49 (d := hd_law_rings) rfl
  have F49 : Fun K "_law_rings" "_law_rings" s_law_rings (He.ga K "_law_rings") fd49 := fun_of_D D49
  have g49 : mg "_law_rings" = some (.ref (He.ga K "_law_rings")) := He.glo_ok X G (cd.fact 49 (f := .glo "_law_rings") rfl)
  have b49 := F49.binds (ps := ["_law_room_here"]) fun _ _ _ _ _ _ us hl => match us, hl with | [_], _ => rfl
  obtain ⟨fd50, D50⟩ := cd.def_ 50 (d := hd_law_held) rfl
  have F50 : Fun K "_law_held" "_law_held" s_law_held (He.ga K "_law_held") fd50 := fun_of_D D50
  have g50 : mg "_law_held" = some (.ref (He.ga K "_law_held")) := He.glo_ok X G (cd.fact 50 (f := .glo "_law_held") rfl)
  have b50 := F50.binds (ps := ["_law_room_here", "_law_late", "_law_time", "_law_prices"]) fun _ _ _ _ _ _ us hl => match us, hl with | [_, _, _, _], _ => rfl
  obtain ⟨fd51, D51⟩ := cd.def_ 51 (d := hd_law_are_small) rfl
  have F51 : Fun K "_law_are_small" "_law_are_small" s_law_are_small (He.ga K "_law_are_small") fd51 := fun_of_D D51
  have g51 : mg "_law_are_small" = some (.ref (He.ga K "_law_are_small")) := He.glo_ok X G (cd.fact 51 (f := .glo "_law_are_small") rfl)
  have b51 := F51.binds (ps := ["_law_prices"]) fun _ _ _ _ _ _ us hl => match us, hl with | [_], _ => rfl
  obtain ⟨fd52, D52⟩ := cd.def_ 52 (d := hd_law_parted) rfl
  have F52 : Fun K "_law_parted" "_law_parted" s_law_parted (He.ga K "_law_parted") fd52 := fun_of_D D52
  have g52 : mg "_law_parted" = some (.ref (He.ga K "_law_parted")) := He.glo_ok X G (cd.fact 52 (f := .glo "_law_parted") rfl)
  have b52 := F52.binds (ps := ["_law_flow_here", "_law_room_here", "_law_prices"]) fun _ _ _ _ _ _ us hl => match us, hl with | [_, _, _], _ => rfl
  obtain ⟨fd53, D53⟩ := cd.def_ 53 (d := hd_law_joined) rfl
  have F53 : Fun K "_law_joined" "_law_joined" s_law_joined (He.ga K "_law_joined") fd53 := fun_of_D D53
  have g53 : mg "_law_joined" = some (.ref (He.ga K "_law_joined")) := He.glo_ok X G (cd.fact 53 (f := .glo "_law_joined") rfl)
  have b53 := F53.binds (ps := ["_law_flow_here", "_law_room_here", "_law_prices"]) fun _ _ _ _ _ _ us hl => match us, hl with | [_, _, _], _ => rfl
  obtain ⟨fd54, D54⟩ := cd.def_ 54 (d := hd_law_with_ring) rfl
  have F54 : Fun K "_law_with_ring" "_law_with_ring" s_law_with_ring (He.ga K "_law_with_ring") fd54 := fun_of_D D54
  have g54 : mg "_law_with_ring" = some (.ref (He.ga K "_law_with_ring")) := He.glo_ok X G (cd.fact 54 (f := .glo "_law_with_ring") rfl)
  have b54 := F54.binds (ps := ["_law_flow_here", "_law_room_here", "_law_prices"]) fun _ _ _ _ _ _ us hl => match us, hl with | [_, _, _], _ => rfl
  obtain ⟨fd55, D55⟩ := cd.def_ 55 (d := hd_law) rfl
  have F55 : Fun K "law" "law" s_law (He.ga K "law") fd55 := fun_of_D D55
  have g55 : mg "law" = some (.ref (He.ga K "law")) := He.glo_ok X G (cd.fact 55 (f := .glo "law") rfl)
  have ex := c.more
  unfold hEx at ex
  simp only [Bool.and_eq_true] at ex
  obtain ⟨ex0, ex1⟩ := ex
  have T : Top K mg := ⟨⟨_, fd0, F0, b0, g0⟩, ⟨_, fd1, F1, b1, g1⟩, ⟨_, fd2, F2, b2, g2⟩, ⟨_, fd3, F3, b3, g3⟩, ⟨_, fd4, F4, b4, g4⟩, ⟨_, fd5, F5, b5, g5⟩, ⟨_, fd6, F6, b6, g6⟩, ⟨_, fd7, F7, b7, g7⟩, ⟨_, fd8, F8, b8, g8⟩, ⟨_, fd9, F9, b9, g9⟩, ⟨_, fd10, F10, b10, g10⟩, ⟨_, fd11, F11, b11, g11⟩, ⟨_, fd12, F12, b12, g12⟩, ⟨_, fd13, F13, b13, g13⟩, ⟨_, fd14, F14, b14, g14⟩, ⟨_, fd15, F15, b15, g15⟩, ⟨_, fd16, F16, b16, g16⟩, ⟨_, fd17, F17, b17, g17⟩, ⟨_, fd18, F18, b18, g18⟩, ⟨_, fd19, F19, b19, g19⟩, ⟨_, fd20, F20, b20, g20⟩, ⟨_, fd21, F21, b21, g21⟩, ⟨_, fd22, F22, b22, g22⟩, ⟨_, fd23, F23, b23, g23⟩, ⟨_, fd24, F24, b24, g24⟩, ⟨_, fd25, F25, b25, g25⟩, ⟨_, fd26, F26, b26, g26⟩, ⟨_, fd27, F27, b27, g27⟩, ⟨_, fd28, F28, b28, g28⟩, ⟨_, fd29, F29, b29, g29⟩, ⟨_, fd30, F30, b30, g30⟩, ⟨_, fd31, F31, b31, g31⟩, ⟨_, fd32, F32, b32, g32⟩, ⟨_, fd33, F33, b33, g33⟩, ⟨_, fd34, F34, b34, g34⟩, ⟨_, fd35, F35, b35, g35⟩, ⟨_, fd36, F36, b36, g36⟩, ⟨_, fd37, F37, b37, g37⟩, ⟨_, fd38, F38, b38, g38⟩, ⟨_, fd39, F39, b39, g39⟩, ⟨_, fd40, F40, b40, g40⟩, ⟨_, fd41, F41, b41, g41⟩, ⟨_, fd42, F42, b42, g42⟩, ⟨_, fd43, F43, b43, g43⟩, ⟨_, fd44, F44, b44, g44⟩, ⟨_, fd45, F45, b45, g45⟩, ⟨_, fd46, F46, b46, g46⟩, ⟨_, fd47, F47, b47, g47⟩, ⟨_, fd48, F48, b48, g48⟩, ⟨_, fd49, F49, b49, g49⟩, ⟨_, fd50, F50, b50, g50⟩, ⟨_, fd51, F51, b51, g51⟩, ⟨_, fd52, F52, b52, g52⟩, ⟨_, fd53, F53, b53, g53⟩, ⟨_, fd54, F54, b54, g54⟩, He.free_ok X G (cd.fact 56 (f := .free "all") rfl), He.free_ok X G (cd.fact 57 (f := .free "bool") rfl), He.free_ok X G (cd.fact 58 (f := .free "enumerate") rfl), He.free_ok X G (cd.fact 59 (f := .free "int") rfl), He.free_ok X G (cd.fact 60 (f := .free "isinstance") rfl), He.free_ok X G (cd.fact 61 (f := .free "len") rfl), He.free_ok X G (cd.fact 62 (f := .free "list") rfl), He.free_ok X G (cd.fact 63 (f := .free "max") rfl), He.free_ok X G (cd.fact 64 (f := .free "min") rfl), He.free_ok X G (cd.fact 65 (f := .free "range") rfl), He.free_ok X G (cd.fact 66 (f := .free "sum") rfl), He.free_ok X G (cd.fact 67 (f := .free "tuple") rfl), He.free_ok X G (cd.fact 68 (f := .free "zip") rfl), ⟨_, He.glo_ok X G (cd.fact 69 (f := .glo "IN_RULE") rfl), fun H => He.tupB_ok ex0 H⟩, ⟨_, He.glo_ok X G (cd.fact 70 (f := .glo "OUT_RULE") rfl), fun H => He.tupB_ok ex1 H⟩⟩
  have e := hfa.symm.trans g55
  cases e
  have law_b : ∀ (s : Shared) (v : Value), BindsTo s fd55 ⟨[v], []⟩ [("_law_script", v)] := fun s v => by
    obtain ⟨_, _, _, _, _, _, _, _, _, rfl, _, _⟩ := F55.ex
    exact .of_eq rfl
  refine ⟨fd55, [He.cT K ("prices_hold", none)], sp_law K (He.cT K ("prices_hold", none)).2, fun p hp => ?_, fun p hp => ?_, fun p hp => ?_, law_b, fun H a ns hl _ hT hS => ⟨a, ns, rfl, hS, hl, ⟨#[], hT _ (List.mem_cons_self ..), trivial⟩, fun _ => rfl⟩, fun base _ _ TB => ?_⟩
  · have hin : ∀ p ∈ [He.cT K ("prices_hold", none)], ∃ q ∈ hTf, p = He.cT K q := fun p hp => by
      rcases List.mem_cons.mp hp with rfl | hp
      · exact ⟨_, List.mem_cons_self .., rfl⟩
      cases hp
    obtain ⟨q, hq, rfl⟩ := hin p hp
    exact c.empty _ hq
  · have hin : ∀ p ∈ [He.cT K ("prices_hold", none)], ∃ q ∈ hTf, p = He.cT K q := fun p hp => by
      rcases List.mem_cons.mp hp with rfl | hp
      · exact ⟨_, List.mem_cons_self .., rfl⟩
      cases hp
    obtain ⟨q, hq, rfl⟩ := hin p hp
    exact c.out _ hq
  · have hin : ∀ p ∈ [He.cT K ("prices_hold", none)], ∃ q ∈ hTf, p = He.cT K q := fun p hp => by
      rcases List.mem_cons.mp hp with rfl | hp
      · exact ⟨_, List.mem_cons_self .., rfl⟩
      cases hp
    obtain ⟨q, hq, rfl⟩ := hin p hp
    exact PySem.W.codeHd_of_K X (c.hd _ hq)
  have TB0 := TB _ (List.mem_cons_self ..)
  have TC0 : GxR.TabB base mg (He.codeOf K ("prices_hold", none)) (He.tabOf K (He.codeOf K ("prices_hold", none))) := ⟨TB0.code, TB0.bm, TB0.gP⟩
  haveI : TabP K mg base _ _ := ⟨TC0, fun f fd F m => by
    have e := m.symm.trans g9
    cases e
    obtain ⟨_, _, _, _, _, _, cdv, _, _, rfl, lk, ci⟩ := F.ex
    obtain ⟨c0, rfl⟩ := He.codeIn_ref ci
    exact congrArg Value.ref (He.codeOf_eq (p := ("prices_hold", none)) lk rfl).symm⟩
  exact ok_law F55 T
end Mine
open PySem PySem.W PySem.Calls PyProof.Rows
set_option maxRecDepth 100000 in
set_option maxHeartbeats 0 in
theorem PySem.Challenge.cw_beltshift_k51_whole_prices_whoever_wrote_holds : PySem.Challenge.rw_beltshift_k51_whole_prices_whoever_wrote.Holds := by
  w_on; o_law
  refine HandSHeadRun.head_any (r := Mine.hR) (q := view Mine.hR.prog [66]) (H := Mine.hk) (ob := Mine.hOb) (M := 40000) (loose := Mine.hNames) (d := HandSHeadRun.topDef Mine.hR.prog 66) (kwd := []) Mine.hOb_eq (by kernel_rfl) (fun s => by kernel_rfl) Mine.hRun (by kernel_rfl) (by kernel_rfl) (by kernel_rfl) (by rfl) (by first | assumption | decide +kernel) (by decide +kernel) ⟨rfl, rfl, rfl, rfl, rfl, by decide +kernel⟩ ?hw ?hc
  case hw => w_witness2
  case hc =>
    refine LamX.walk_ofTsE (l := PySem.Challenge.rw_beltshift_k51_whole_prices_whoever_wrote) (n := 63) (k := 7) (x := "_law_script") (CX := fun _ => L2.CX0) rfl (by decide) (by kernel_rfl) ⟨rfl, by decide, by decide⟩ ?F (fun _ _ _ _ _ z => z)
    intro w mg fa h Y G hmg0
    obtain ⟨K, KX, c⟩ := Y
    have hmg : mg ("law" : PySem.Str) = some (.ref fa) := by
      have e : (HandSHeadRun.topDef Mine.hR.prog 66).name = ("law" : PySem.Str) := by kernel_rfl
      rw [← e]
      exact hmg0
    exact ⟨K, KX, Mine.all_mkX KX G hmg c⟩
