import PyProof.Rows.All
import Wide.All
import OpenK.AllK
import Wide.FinOn
import HandS.ForMost
import HandS.Wide
import HandS.Style
import HandS.IsInst
import HandS.TupAny
import HandS.NoneIn
import HandS.SetFor
import HandS.Conv
import HandS.Zip
import HandS.SortKw
import HandS.Deep
import KE.DataMinMax
import KE.GoesMore
import KE.KDictZip
import KE.GoesZip
import KE.GoesEnum
import HandS.SortInts
import HandS.TupMul
import PySem.Challenge.RW_beltshift_k42_walks_looked_at
set_option Elab.async false
set_option linter.all false
set_option maxRecDepth 100000
namespace Mine
open PySem PyProof.Rows L2
def topS (i : Nat) : Stmt := PySem.Challenge.pw_beltshift_k42_walks_looked_at.main.body.getD i (.Pass ⟨0, 0, 0, 0⟩)
abbrev s_levels_or_ring : Stmt := topS 1
abbrev N_levels_or_ring : List Str := ["many", "steps", "levels", "last", "raised", "turn"]
theorem sc_levels_or_ring : FnScope N_levels_or_ring ["many", "steps"] (defScope s_levels_or_ring) := ⟨rfl, rfl, rfl, by decide +kernel, rfl, by decide +kernel, by decide +kernel⟩
abbrev s_raise_levels : Stmt := topS 2
abbrev N_raise_levels : List Str := ["levels", "last", "steps", "raised", "number", "begin", "end", "need"]
theorem sc_raise_levels : FnScope N_raise_levels ["levels", "last", "steps"] (defScope s_raise_levels) := ⟨rfl, rfl, rfl, by decide +kernel, rfl, by decide +kernel, by decide +kernel⟩
abbrev s_ring_behind : Stmt := topS 3
abbrev N_ring_behind : List Str := ["place", "last", "steps", "turn", "ring", "here"]
theorem sc_ring_behind : FnScope N_ring_behind ["place", "last", "steps"] (defScope s_ring_behind) := ⟨rfl, rfl, rfl, by decide +kernel, rfl, by decide +kernel, by decide +kernel⟩
abbrev s_doors_in : Stmt := topS 7
abbrev N_doors_in : List Str := ["room", "number", "hand"]
theorem sc_doors_in : FnScope N_doors_in ["room"] (defScope s_doors_in) := ⟨rfl, rfl, rfl, by decide +kernel, rfl, by decide +kernel, by decide +kernel⟩
abbrev s_doors_out : Stmt := topS 8
abbrev N_doors_out : List Str := ["room", "number", "hand"]
theorem sc_doors_out : FnScope N_doors_out ["room"] (defScope s_doors_out) := ⟨rfl, rfl, rfl, by decide +kernel, rfl, by decide +kernel, by decide +kernel⟩
abbrev s_trays_on : Stmt := topS 10
abbrev N_trays_on : List Str := ["room", "way", "number"]
theorem sc_trays_on : FnScope N_trays_on ["room", "way"] (defScope s_trays_on) := ⟨rfl, rfl, rfl, by decide +kernel, rfl, by decide +kernel, by decide +kernel⟩
abbrev s_moments_on : Stmt := topS 11
abbrev N_moments_on : List Str := ["room", "way", "hands", "belts", "first", "numbers", "number"]
theorem sc_moments_on : FnScope N_moments_on ["room", "way"] (defScope s_moments_on) := ⟨rfl, rfl, rfl, by decide +kernel, rfl, by decide +kernel, by decide +kernel⟩
abbrev s_way_end : Stmt := topS 12
abbrev N_way_end : List Str := ["room", "pair", "hands", "belts", "end", "numbers", "number"]
theorem sc_way_end : FnScope N_way_end ["room", "pair"] (defScope s_way_end) := ⟨rfl, rfl, rfl, by decide +kernel, rfl, by decide +kernel, by decide +kernel⟩
abbrev s_way_back : Stmt := topS 13
abbrev N_way_back : List Str := ["room", "end", "last", "numbers", "hand"]
theorem sc_way_back : FnScope N_way_back ["room", "end", "last"] (defScope s_way_back) := ⟨rfl, rfl, rfl, by decide +kernel, rfl, by decide +kernel, by decide +kernel⟩
abbrev s_least_costs : Stmt := topS 14
abbrev N_least_costs : List Str := ["room", "one", "hands", "belts", "costs", "last", "changed", "number", "giver", "taker", "things", "trays", "less", "cost"]
theorem sc_least_costs : FnScope N_least_costs ["room", "one"] (defScope s_least_costs) := ⟨rfl, rfl, rfl, by decide +kernel, rfl, by decide +kernel, by decide +kernel⟩
abbrev s_shifts_or_bar : Stmt := topS 16
abbrev N_shifts_or_bar : List Str := ["room", "late", "time"]
theorem sc_shifts_or_bar : FnScope N_shifts_or_bar ["room", "late", "time"] (defScope s_shifts_or_bar) := ⟨rfl, rfl, rfl, by decide +kernel, rfl, by decide +kernel, by decide +kernel⟩
abbrev s_least_ways : Stmt := topS 17
abbrev N_least_ways : List Str := ["room", "found", "one", "costs", "last", "end", "trays", "less"]
theorem sc_least_ways : FnScope N_least_ways ["room"] (defScope s_least_ways) := ⟨rfl, rfl, rfl, by decide +kernel, rfl, by decide +kernel, by decide +kernel⟩
abbrev s_paper_by : Stmt := topS 18
abbrev N_paper_by : List Str := ["room", "late", "time", "ways", "steps", "trays", "moments", "way", "end", "levels", "ring", "number"]
theorem sc_paper_by : FnScope N_paper_by ["room", "late", "time", "ways"] (defScope s_paper_by) := ⟨rfl, rfl, rfl, by decide +kernel, rfl, by decide +kernel, by decide +kernel⟩
abbrev s_needed : Stmt := topS 19
abbrev N_needed : List Str := ["moments", "time"]
theorem sc_needed : FnScope N_needed ["moments", "time"] (defScope s_needed) := ⟨rfl, rfl, rfl, by decide +kernel, rfl, by decide +kernel, by decide +kernel⟩
abbrev s_jumps : Stmt := topS 20
abbrev N_jumps : List Str := ["room", "late", "door", "other"]
theorem sc_jumps : FnScope N_jumps ["room", "late"] (defScope s_jumps) := ⟨rfl, rfl, rfl, by decide +kernel, rfl, by decide +kernel, by decide +kernel⟩
abbrev s_shifts_by : Stmt := topS 21
abbrev N_shifts_by : List Str := ["room", "late", "levels", "ins", "outs", "highest", "door", "told", "free", "ground", "shifts", "level"]
theorem sc_shifts_by : FnScope N_shifts_by ["room", "late", "levels"] (defScope s_shifts_by) := ⟨rfl, rfl, rfl, by decide +kernel, rfl, by decide +kernel, by decide +kernel⟩
abbrev s_hand_places : Stmt := topS 23
abbrev N_hand_places : List Str := ["room", "late", "ground", "places", "hand", "rule", "moments"]
theorem sc_hand_places : FnScope N_hand_places ["room", "late"] (defScope s_hand_places) := ⟨rfl, rfl, rfl, by decide +kernel, rfl, by decide +kernel, by decide +kernel⟩
abbrev s_ground_steps : Stmt := topS 24
abbrev N_ground_steps : List Str := ["room", "late", "time", "places", "ways", "steps", "trays", "moments", "way", "end", "begins", "ends", "above"]
theorem sc_ground_steps : FnScope N_ground_steps ["room", "late", "time"] (defScope s_ground_steps) := ⟨rfl, rfl, rfl, by decide +kernel, rfl, by decide +kernel, by decide +kernel⟩
abbrev s_ground_shifts : Stmt := topS 25
abbrev N_ground_shifts : List Str := ["room", "late", "levels", "ground", "place", "above"]
theorem sc_ground_shifts : FnScope N_ground_shifts ["room", "late", "levels"] (defScope s_ground_shifts) := ⟨rfl, rfl, rfl, by decide +kernel, rfl, by decide +kernel, by decide +kernel⟩
abbrev s_walk_trays : Stmt := topS 27
abbrev N_walk_trays : List Str := ["room", "late", "walk", "ends", "way", "steps", "end"]
theorem sc_walk_trays : FnScope N_walk_trays ["room", "late", "walk"] (defScope s_walk_trays) := ⟨rfl, rfl, rfl, by decide +kernel, rfl, by decide +kernel, by decide +kernel⟩
abbrev s_step_trays : Stmt := topS 28
abbrev N_step_trays : List Str := ["room", "late", "end", "begin"]
theorem sc_step_trays : FnScope N_step_trays ["room", "late", "end", "begin"] (defScope s_step_trays) := ⟨rfl, rfl, rfl, by decide +kernel, rfl, by decide +kernel, by decide +kernel⟩
abbrev s_heavy_ways : Stmt := topS 29
abbrev N_heavy_ways : List Str := ["room", "time", "walk", "way"]
theorem sc_heavy_ways : FnScope N_heavy_ways ["room", "time", "walk"] (defScope s_heavy_ways) := ⟨rfl, rfl, rfl, by decide +kernel, rfl, by decide +kernel, by decide +kernel⟩
abbrev s_soonest : Stmt := topS 31
abbrev N_soonest : List Str := ["room", "late", "time", "ways", "steps", "many", "walk", "levels", "path", "number"]
theorem sc_soonest : FnScope N_soonest ["room", "late", "time"] (defScope s_soonest) := ⟨rfl, rfl, rfl, by decide +kernel, rfl, by decide +kernel, by decide +kernel⟩
abbrev s_levels_or_path : Stmt := topS 32
abbrev N_levels_or_path : List Str := ["room", "steps", "many", "ground", "caps", "hand", "levels", "ring", "cap", "behind"]
theorem sc_levels_or_path : FnScope N_levels_or_path ["room", "steps", "many"] (defScope s_levels_or_path) := ⟨rfl, rfl, rfl, by decide +kernel, rfl, by decide +kernel, by decide +kernel⟩
abbrev s_walk_holds : Stmt := topS 33
abbrev N_walk_holds : List Str := ["room", "late", "time", "many", "walk", "trays"]
theorem sc_walk_holds : FnScope N_walk_holds ["room", "late", "time", "many", "walk"] (defScope s_walk_holds) := ⟨rfl, rfl, rfl, by decide +kernel, rfl, by decide +kernel, by decide +kernel⟩
abbrev s_law_flow : Stmt := topS 35
abbrev N_law_flow : List Str := ["_law_script"]
theorem sc_law_flow : FnScope N_law_flow ["_law_script"] (defScope s_law_flow) := ⟨rfl, rfl, rfl, by decide +kernel, rfl, by decide +kernel, by decide +kernel⟩
abbrev s_law_pick : Stmt := topS 36
abbrev N_law_pick : List Str := ["_law_flow_here", "_law_many", "_law_cell", "_law_digit"]
theorem sc_law_pick : FnScope N_law_pick ["_law_flow_here", "_law_many"] (defScope s_law_pick) := ⟨rfl, rfl, rfl, by decide +kernel, rfl, by decide +kernel, by decide +kernel⟩
abbrev s_law_thing : Stmt := topS 37
abbrev N_law_thing : List Str := ["_law_flow_here"]
theorem sc_law_thing : FnScope N_law_thing ["_law_flow_here"] (defScope s_law_thing) := ⟨rfl, rfl, rfl, by decide +kernel, rfl, by decide +kernel, by decide +kernel⟩
abbrev s_law_needs : Stmt := topS 38
abbrev N_law_needs : List Str := ["_law_rule_here"]
theorem sc_law_needs : FnScope N_law_needs ["_law_rule_here"] (defScope s_law_needs) := ⟨rfl, rfl, rfl, by decide +kernel, rfl, by decide +kernel, by decide +kernel⟩
abbrev s_law_rule : Stmt := topS 39
abbrev N_law_rule : List Str := ["_law_flow_here", "_law_most", "_law_words", "_law_word"]
theorem sc_law_rule : FnScope N_law_rule ["_law_flow_here", "_law_most"] (defScope s_law_rule) := ⟨rfl, rfl, rfl, by decide +kernel, rfl, by decide +kernel, by decide +kernel⟩
abbrev s_law_shuffled : Stmt := topS 40
abbrev N_law_shuffled : List Str := ["_law_flow_here", "_law_some", "_law_left", "_law_k"]
theorem sc_law_shuffled : FnScope N_law_shuffled ["_law_flow_here", "_law_some"] (defScope s_law_shuffled) := ⟨rfl, rfl, rfl, by decide +kernel, rfl, by decide +kernel, by decide +kernel⟩
abbrev s_law_hands : Stmt := topS 41
abbrev N_law_hands : List Str := ["_law_flow_here", "_law_many", "_law_most", "_law_sorts", "_law_left", "_law_hands_here", "_law_k", "_law_sort", "_law_behind", "_law_other", "_law_rule_here"]
theorem sc_law_hands : FnScope N_law_hands ["_law_flow_here", "_law_many"] (defScope s_law_hands) := ⟨rfl, rfl, rfl, by decide +kernel, rfl, by decide +kernel, by decide +kernel⟩
abbrev s_law_room : Stmt := topS 42
abbrev N_law_room : List Str := ["_law_flow_here", "_law_most", "_law_hands_here", "_law_ranks", "_law_givers", "_law_k", "_law_takers", "_law_belts", "_law_to", "_law_one", "_law_trays"]
theorem sc_law_room : FnScope N_law_room ["_law_flow_here", "_law_most"] (defScope s_law_room) := ⟨rfl, rfl, rfl, by decide +kernel, rfl, by decide +kernel, by decide +kernel⟩
abbrev s_law_whole : Stmt := topS 43
abbrev N_law_whole : List Str := ["_law_thing_here"]
theorem sc_law_whole : FnScope N_law_whole ["_law_thing_here"] (defScope s_law_whole) := ⟨rfl, rfl, rfl, by decide +kernel, rfl, by decide +kernel, by decide +kernel⟩
abbrev s_law_time_of : Stmt := topS 44
abbrev N_law_time_of : List Str := ["_law_room_here", "_law_trays", "_law_hands_here", "_law_belts", "_law_best", "_law_hand", "_law_turn", "_law_belt", "_law_many"]
theorem sc_law_time_of : FnScope N_law_time_of ["_law_room_here", "_law_trays"] (defScope s_law_time_of) := ⟨rfl, rfl, rfl, by decide +kernel, rfl, by decide +kernel, by decide +kernel⟩
abbrev s_law_end : Stmt := topS 45
abbrev N_law_end : List Str := ["_law_room_here", "_law_way", "_law_here", "_law_b"]
theorem sc_law_end : FnScope N_law_end ["_law_room_here", "_law_way"] (defScope s_law_end) := ⟨rfl, rfl, rfl, by decide +kernel, rfl, by decide +kernel, by decide +kernel⟩
abbrev s_law_moments_on : Stmt := topS 46
abbrev N_law_moments_on : List Str := ["_law_room_here", "_law_way", "_law_b"]
theorem sc_law_moments_on : FnScope N_law_moments_on ["_law_room_here", "_law_way"] (defScope s_law_moments_on) := ⟨rfl, rfl, rfl, by decide +kernel, rfl, by decide +kernel, by decide +kernel⟩
abbrev s_law_walk_trays : Stmt := topS 47
abbrev N_law_walk_trays : List Str := ["_law_room_here", "_law_late", "_law_walk", "_law_closed", "_law_ends", "_law_way", "_law_trays", "_law_b", "_law_k"]
theorem sc_law_walk_trays : FnScope N_law_walk_trays ["_law_room_here", "_law_late", "_law_walk", "_law_closed"] (defScope s_law_walk_trays) := ⟨rfl, rfl, rfl, by decide +kernel, rfl, by decide +kernel, by decide +kernel⟩
abbrev s_law_heavies : Stmt := topS 48
abbrev N_law_heavies : List Str := ["_law_room_here", "_law_time", "_law_walk", "_law_way"]
theorem sc_law_heavies : FnScope N_law_heavies ["_law_room_here", "_law_time", "_law_walk"] (defScope s_law_heavies) := ⟨rfl, rfl, rfl, by decide +kernel, rfl, by decide +kernel, by decide +kernel⟩
abbrev s_law_is_walk : Stmt := topS 49
abbrev N_law_is_walk : List Str := ["_law_room_here", "_law_walk", "_law_way", "_law_b"]
theorem sc_law_is_walk : FnScope N_law_is_walk ["_law_room_here", "_law_walk"] (defScope s_law_is_walk) := ⟨rfl, rfl, rfl, by decide +kernel, rfl, by decide +kernel, by decide +kernel⟩
abbrev s_law_spoilt_walk : Stmt := topS 50
abbrev N_law_spoilt_walk : List Str := ["_law_flow_here", "_law_way", "_law_room_here", "_law_walk", "_law_at", "_law_hand", "_law_belts", "_law_k", "_law_other", "_law_middle", "_law_both", "_law_longer"]
theorem sc_law_spoilt_walk : FnScope N_law_spoilt_walk ["_law_flow_here", "_law_way", "_law_room_here", "_law_walk"] (defScope s_law_spoilt_walk) := ⟨rfl, rfl, rfl, by decide +kernel, rfl, by decide +kernel, by decide +kernel⟩
abbrev s_law_open_walk : Stmt := topS 51
abbrev N_law_open_walk : List Str := ["_law_flow_here", "_law_room_here", "_law_doors", "_law_k", "_law_here", "_law_walk", "_law_turn", "_law_begin", "_law_belts", "_law_step", "_law_leaving", "_law_b", "_law_belt"]
theorem sc_law_open_walk : FnScope N_law_open_walk ["_law_flow_here", "_law_room_here"] (defScope s_law_open_walk) := ⟨rfl, rfl, rfl, by decide +kernel, rfl, by decide +kernel, by decide +kernel⟩
abbrev s_law_due : Stmt := topS 52
abbrev N_law_due : List Str := ["_law_room_here", "_law_late", "_law_time", "_law_many", "_law_walk", "_law_trays"]
theorem sc_law_due : FnScope N_law_due ["_law_room_here", "_law_late", "_law_time", "_law_many", "_law_walk"] (defScope s_law_due) := ⟨rfl, rfl, rfl, by decide +kernel, rfl, by decide +kernel, by decide +kernel⟩
abbrev s_law : Stmt := topS 53
abbrev N_law : List Str := ["_law_script", "_law_flow_here", "_law_changes", "_law_ways", "_law_told", "_law_room_here", "_law_late", "_law_time", "_law_belt", "_law_walk", "_law_found", "_law_way", "_law_trays", "_law_more", "_law_many", "_law_so"]
theorem sc_law : FnScope N_law ["_law_script"] (defScope s_law) := ⟨rfl, rfl, rfl, by decide +kernel, rfl, by decide +kernel, by decide +kernel⟩

/-- a def of the text stands, binds and is bound -/
def Dd (K : PySem.W.Frag) (mg : Str → Option Value) (name : Str) (st : Stmt) (ps : List Str) : Prop :=
  ∃ (f : Addr) (fd : FuncData), Fun K name name st f fd ∧ Binds K fd ps [] ∧ mg name = some (.ref f)
structure Top (K : PySem.W.Frag) (mg : Str → Option Value) : Prop where
  d_levels_or_ring : Dd K mg "levels_or_ring" s_levels_or_ring ["many", "steps"]
  d_raise_levels : Dd K mg "raise_levels" s_raise_levels ["levels", "last", "steps"]
  d_ring_behind : Dd K mg "ring_behind" s_ring_behind ["place", "last", "steps"]
  d_doors_in : Dd K mg "doors_in" s_doors_in ["room"]
  d_doors_out : Dd K mg "doors_out" s_doors_out ["room"]
  d_trays_on : Dd K mg "trays_on" s_trays_on ["room", "way"]
  d_moments_on : Dd K mg "moments_on" s_moments_on ["room", "way"]
  d_way_end : Dd K mg "way_end" s_way_end ["room", "pair"]
  d_way_back : Dd K mg "way_back" s_way_back ["room", "end", "last"]
  d_least_costs : Dd K mg "least_costs" s_least_costs ["room", "one"]
  d_shifts_or_bar : Dd K mg "shifts_or_bar" s_shifts_or_bar ["room", "late", "time"]
  d_least_ways : Dd K mg "least_ways" s_least_ways ["room"]
  d_paper_by : Dd K mg "paper_by" s_paper_by ["room", "late", "time", "ways"]
  d_needed : Dd K mg "needed" s_needed ["moments", "time"]
  d_jumps : Dd K mg "jumps" s_jumps ["room", "late"]
  d_shifts_by : Dd K mg "shifts_by" s_shifts_by ["room", "late", "levels"]
  d_hand_places : Dd K mg "hand_places" s_hand_places ["room", "late"]
  d_ground_steps : Dd K mg "ground_steps" s_ground_steps ["room", "late", "time"]
  d_ground_shifts : Dd K mg "ground_shifts" s_ground_shifts ["room", "late", "levels"]
  d_walk_trays : Dd K mg "walk_trays" s_walk_trays ["room", "late", "walk"]
  d_step_trays : Dd K mg "step_trays" s_step_trays ["room", "late", "end", "begin"]
  d_heavy_ways : Dd K mg "heavy_ways" s_heavy_ways ["room", "time", "walk"]
  d_soonest : Dd K mg "soonest" s_soonest ["room", "late", "time"]
  d_levels_or_path : Dd K mg "levels_or_path" s_levels_or_path ["room", "steps", "many"]
  d_walk_holds : Dd K mg "walk_holds" s_walk_holds ["room", "late", "time", "many", "walk"]
  d_law_flow : Dd K mg "_law_flow" s_law_flow ["_law_script"]
  d_law_pick : Dd K mg "_law_pick" s_law_pick ["_law_flow_here", "_law_many"]
  d_law_thing : Dd K mg "_law_thing" s_law_thing ["_law_flow_here"]
  d_law_needs : Dd K mg "_law_needs" s_law_needs ["_law_rule_here"]
  d_law_rule : Dd K mg "_law_rule" s_law_rule ["_law_flow_here", "_law_most"]
  d_law_shuffled : Dd K mg "_law_shuffled" s_law_shuffled ["_law_flow_here", "_law_some"]
  d_law_hands : Dd K mg "_law_hands" s_law_hands ["_law_flow_here", "_law_many"]
  d_law_room : Dd K mg "_law_room" s_law_room ["_law_flow_here", "_law_most"]
  d_law_whole : Dd K mg "_law_whole" s_law_whole ["_law_thing_here"]
  d_law_time_of : Dd K mg "_law_time_of" s_law_time_of ["_law_room_here", "_law_trays"]
  d_law_end : Dd K mg "_law_end" s_law_end ["_law_room_here", "_law_way"]
  d_law_moments_on : Dd K mg "_law_moments_on" s_law_moments_on ["_law_room_here", "_law_way"]
  d_law_walk_trays : Dd K mg "_law_walk_trays" s_law_walk_trays ["_law_room_here", "_law_late", "_law_walk", "_law_closed"]
  d_law_heavies : Dd K mg "_law_heavies" s_law_heavies ["_law_room_here", "_law_time", "_law_walk"]
  d_law_is_walk : Dd K mg "_law_is_walk" s_law_is_walk ["_law_room_here", "_law_walk"]
  d_law_spoilt_walk : Dd K mg "_law_spoilt_walk" s_law_spoilt_walk ["_law_flow_here", "_law_way", "_law_room_here", "_law_walk"]
  d_law_open_walk : Dd K mg "_law_open_walk" s_law_open_walk ["_law_flow_here", "_law_room_here"]
  d_law_due : Dd K mg "_law_due" s_law_due ["_law_room_here", "_law_late", "_law_time", "_law_many", "_law_walk"]
  m_all : mg "all" = none
  m_bool : mg "bool" = none
  m_enumerate : mg "enumerate" = none
  m_int : mg "int" = none
  m_isinstance : mg "isinstance" = none
  m_len : mg "len" = none
  m_list : mg "list" = none
  m_max : mg "max" = none
  m_min : mg "min" = none
  m_range : mg "range" = none
  m_sum : mg "sum" = none
  m_tuple : mg "tuple" = none
  m_zip : mg "zip" = none
  x_in : ∃ aI : Addr, mg "IN_RULE" = some (.ref aI) ∧ ∀ H : Hp, SqT K H aI [.str "in"]
  x_out : ∃ aO : Addr, mg "OUT_RULE" = some (.ref aO) ∧ ∀ H : Hp, SqT K H aO [.str "out"]

/-! ### heaps -/
def But (f : Addr) (H H' : Hp) : Prop := ∀ b o, H b = some o → b ≠ f → H' b = some o
theorem But.refl {f : Addr} {H : Hp} : But f H H := fun _ _ e _ => e
theorem But.trans {f : Addr} {H H1 H2 : Hp} (a : But f H H1) (b : But f H1 H2) : But f H H2 := fun x o e n => b x o (a x o e n) n
theorem But.upd {f : Addr} {H H1 : Hp} {o : HO} (a : But f H H1) : But f H (upd H1 f o) := fun x u e n => by rw [upd_ne n]; exact a x u e n
theorem But.new {f p : Addr} {H H1 : Hp} {o : HO} (a : But f H H1) (h : H1 p = none) : But f H (L2.upd H1 p o) := fun x u e n => by
  have e1 := a x u e n
  rw [upd_ne (ne_of_none e1 h)]
  exact e1
theorem same_new {H : Hp} {p : Addr} {o : HO} (h : H p = none) : Same H (upd H p o) := fun b u q => by rw [upd_ne (ne_of_none q h)]; exact q
theorem But.same {f : Addr} {H H1 H2 : Hp} (a : But f H H1) (b : Same H1 H2) : But f H H2 := fun x o e n => b x o (a x o e n)
theorem But.seqT {K : PySem.W.Frag} {f a : Addr} {H H1 : Hp} {xs : List V} (b : But f H H1) (h : SqT K H a xs) (n : a ≠ f) : SqT K H1 a xs := by
  rcases h with h | h
  · left
    rcases h with h | ⟨o, h⟩
    · exact .inl (b _ _ h n)
    · exact .inr ⟨o, b _ _ h n⟩
  · exact .inr h
/-- a comprehension without a test -/
theorem yes_in {σ : L2.St} {H : Hp} {A B : Hp → Prop} (h : A H) : tYes σ H (fun b H3 => if b = true then A H3 else B H3) := by
  show (if true = true then A H else B H)
  rw [if_pos rfl]
  exact h
/-! ### the draw -/
/-- the list of the law's draws at f, the script's copy at c -/
def Flow (H : Hp) (f c : Addr) : Prop := ∃ (ns : List Int) (i p q r : Int), H f = some (.lst [.ref c, .int i, .int p, .int q, .int r]) ∧ H c = some (.lst (ns.map V.int)) ∧ 0 ≤ i ∧ 0 ≤ p ∧ 0 ≤ q ∧ q < 2147483647
theorem Flow.new {H : Hp} {f c p : Addr} {o : HO} (h : Flow H f c) (n : H p = none) : Flow (upd H p o) f c := by
  obtain ⟨ns, i, a, q, r, e1, e2, e⟩ := h
  exact ⟨ns, i, a, q, r, same_new n _ _ e1, same_new n _ _ e2, e⟩
theorem Flow.ne {H : Hp} {f c p : Addr} (h : Flow H f c) (n : H p = none) : p ≠ f := by
  obtain ⟨ns, i, a, q, r, e1, _⟩ := h
  exact fun e => by rw [e, e1] at n; cases n
theorem Flow.nec {H : Hp} {f c p : Addr} (h : Flow H f c) (n : H p = none) : p ≠ c := by
  obtain ⟨ns, i, a, q, r, _, e1, _⟩ := h
  exact fun e => by rw [e, e1] at n; cases n
theorem Flow.lst {H : Hp} {f c p : Addr} {o : HO} (h : Flow H f c) (n1 : p ≠ f) (n2 : p ≠ c) : Flow (upd H p o) f c := by
  obtain ⟨ns, i, a, q, r, e1, e2, e⟩ := h
  exact ⟨ns, i, a, q, r, by rw [upd_ne n1.symm]; exact e1, by rw [upd_ne n2.symm]; exact e2, e⟩
theorem Flow.same {H H' : Hp} {f c : Addr} (h : Flow H f c) (s : Same H H') : Flow H' f c := by
  obtain ⟨ns, i, a, q, r, e1, e2, e⟩ := h
  exact ⟨ns, i, a, q, r, s _ _ e1, s _ _ e2, e⟩
theorem Flow.tup {H : Hp} {f c p : Addr} {xs : List V} (h : Flow H f c) (e : H p = some (.tup xs)) : p ≠ f := by
  obtain ⟨ns, i, a, q, r, e1, _⟩ := h
  exact ne_of e e1 (by intro z; cases z)
theorem at_ints {ns : List Int} {i : Int} (h0 : 0 ≤ i) (h1 : i < (ns.length : Int)) : ∃ v : Int, atI (ns.map V.int) i = some (.int v) := by
  have hk : i.toNat < ns.length := by omega
  have ek : i = ((i.toNat : Nat) : Int) := by omega
  have q : atI (ns.map V.int) ((i.toNat : Nat) : Int) = some (.int ns[i.toNat]) := atI_nat (by rw [List.getElem?_map, List.getElem?_eq_getElem hk]; rfl)
  rw [← ek] at q
  exact ⟨_, q⟩
/-- a block by less than it asks -/
theorem PSs.to {X : Cx} {ss : List Stmt} {t : TS} (h : PSs X ss t) (u : TS) (k : ∀ D σ H, u D σ H → t D σ H) : PSs X ss u := ⟨fun pins s σ H D I q => h.run pins s σ H D I (k D σ H q)⟩
theorem if_bl {b : Bool} {A B : Prop} (h1 : b = true → A) (h2 : b = false → B) : if b = true then A else B := by
  cases b
  · rw [if_neg Bool.false_ne_true]; exact h2 rfl
  · rw [if_pos rfl]; exact h1 rfl
/-! ### lists, two by two -/
inductive All2 {α β : Type} (R : α → β → Prop) : List α → List β → Prop
  | nil : All2 R [] []
  | cons {a b as bs} : R a b → All2 R as bs → All2 R (a :: as) (b :: bs)
theorem All2.imp {α β : Type} {R S : α → β → Prop} (h : ∀ a b, R a b → S a b) : ∀ {as bs}, All2 R as bs → All2 S as bs
  | _, _, .nil => .nil
  | _, _, .cons a b => .cons (h _ _ a) (All2.imp h b)
theorem All2.length {α β : Type} {R : α → β → Prop} : ∀ {as bs}, All2 R as bs → as.length = bs.length
  | _, _, .nil => rfl
  | _, _, .cons _ b => congrArg (· + 1) (All2.length b)
theorem All2.snoc {α β : Type} {R : α → β → Prop} {a b} (r : R a b) : ∀ {as bs}, All2 R as bs → All2 R (as ++ [a]) (bs ++ [b])
  | _, _, .nil => .cons r .nil
  | _, _, .cons h t => .cons h (All2.snoc r t)
theorem All2.get {α β : Type} {R : α → β → Prop} {as : List α} {bs : List β} (h : All2 R as bs) : ∀ {i : Nat} {b : β}, bs[i]? = some b → ∃ a, as[i]? = some a ∧ R a b := by
  induction h with
  | nil => intro i b e; cases e
  | cons r t ih =>
    intro i b e
    cases i with
    | zero => cases e; exact ⟨_, rfl, r⟩
    | succ i => exact ih e
theorem All2.getL {α β : Type} {R : α → β → Prop} {as : List α} {bs : List β} (h : All2 R as bs) : ∀ {i : Nat} {a : α}, as[i]? = some a → ∃ b, bs[i]? = some b ∧ R a b := by
  induction h with
  | nil => intro i b e; cases e
  | cons r t ih =>
    intro i b e
    cases i with
    | zero => cases e; exact ⟨_, rfl, r⟩
    | succ i => exact ih e
/-! ### tuples stay -/
def TK (H H' : Hp) : Prop := ∀ b xs, H b = some (.tup xs) → H' b = some (.tup xs)
theorem TK.refl {H : Hp} : TK H H := fun _ _ e => e
theorem TK.trans {H H1 H2 : Hp} (a : TK H H1) (b : TK H1 H2) : TK H H2 := fun x xs e => b x xs (a x xs e)
theorem TK.same {H H' : Hp} (s : Same H H') : TK H H' := fun x xs e => s _ _ e
theorem TK.new {H : Hp} {p : Addr} {o : HO} (n : H p = none) : TK H (upd H p o) := fun x xs e => same_new n _ _ e
theorem TK.lst {H : Hp} {p : Addr} {xs ys : List V} (h : H p = some (.lst xs)) : TK H (upd H p (.lst ys)) := fun x zs e => by
  rw [upd_ne (ne_of e h (by intro z; cases z))]
  exact e
theorem TK.but {H H' : Hp} {f c : Addr} (F : Flow H f c) (b : But f H H') : TK H H' := fun x xs e => b _ _ e (F.tup e)
theorem same_none {H H' : Hp} {p : Addr} (s : Same H H') (n : H' p = none) : H p = none := by
  cases e : H p with
  | none => rfl
  | some o => rw [s _ _ e] at n; cases n
theorem But.none {f p : Addr} {H H' : Hp} (b : But f H H') (n : H' p = Option.none) (h : p ≠ f) : H p = Option.none := by
  cases e : H p with
  | none => rfl
  | some o => rw [b _ _ e h] at n; cases n
theorem But.of {f : Addr} {H H' : Hp} (s : Same H H') : But f H H' := fun _ _ e _ => s _ _ e
/-- a list that was not there is written: what was stays -/
theorem But.own {f p : Addr} {H H1 : Hp} {o : HO} (a : But f H H1) (h : H p = Option.none) : But f H (L2.upd H1 p o) := fun x u e n => by
  rw [upd_ne (ne_of_none e h)]
  exact a x u e n
theorem Same.own {p : Addr} {H H1 : Hp} {o : HO} (a : Same H H1) (h : H p = Option.none) : Same H (L2.upd H1 p o) := fun x u e => by
  rw [upd_ne (ne_of_none e h)]
  exact a x u e
/-! ### loops over any iterator -/
theorem for_it {J : It} {n : Nat} {g : TG} {tb : TS} {D : Ends} {σ : L2.St} {H : Hp} (Pv : Nat → L2.St → Hp → Prop) (h0 : Pv 0 σ H) (go : ∀ i σ H, i < n → Pv i σ H → J.go i H) (st : ∀ σ H, Pv n σ H → J.stop n H)
    (hs : ∀ i x σ H H', i < n → Pv i σ H → J.yld i H x H' → g x σ H' fun σ2 H2 => tb { D with nx := Pv (i + 1), ct := Pv (i + 1), bk := D.nx } σ2 H2) (hd : ∀ σ H, Pv n σ H → D.nx σ H) :
    ∃ W : Nat → Nat → L2.St → Hp → Prop, (∃ m, W 0 m σ H) ∧ ∀ i m σ H, W i m σ H →
      (J.stop i H ∧ D.nx σ H) ∨ (J.go i H ∧ ∃ N : L2.St → Hp → Prop, (∀ σ' H', N σ' H' → ∃ m', m' < m ∧ W (i + 1) m' σ' H') ∧ ∀ x H', J.yld i H x H' → g x σ H' fun σ2 H2 => tb { D with nx := N, ct := N, bk := D.nx } σ2 H2) := by
  refine ⟨fun i m σ H => i + m = n ∧ Pv i σ H, ⟨n, by omega, h0⟩, fun i m σ H ⟨e, p⟩ => ?_⟩
  by_cases k : i < n
  · exact .inr ⟨go i σ H k p, Pv (i + 1), fun σ' H' p' => ⟨m - 1, by omega, by omega, p'⟩, fun x H' y => hs i x σ H H' k p y⟩
  · have z : i = n := by omega
    subst z
    exact .inl ⟨st σ H p, hd σ H p⟩
theorem lc_it {J : It} {n : Nat} {g : TG} {tt : TT} {te : TE} {vs : List Nat} {σ : L2.St} {H1 : Hp} {D : Addr} {Qd : Hp → Prop} (Pv : Nat → Hp → Prop) (h0 : Pv 0 (upd H1 D (.lst []))) (go : ∀ i H, i < n → Pv i H → J.go i H) (st : ∀ H, Pv n H → J.stop n H)
    (hs : ∀ i x H H', i < n → Pv i H → J.yld i H x H' → g x (wipe σ vs) H' fun σ2 H2 => wipe σ2 vs = wipe σ vs ∧ tt σ2 H2 fun b H3 =>
      if b = true then te σ2 H3 fun y H4 => ∃ acc, H4 D = some (.lst acc) ∧ acc.length < sizeLine ∧ Pv (i + 1) (upd H4 D (.lst (acc ++ [y]))) else Pv (i + 1) H3) (hd : ∀ H, Pv n H → Qd H) :
    ∃ W : Nat → Nat → Hp → Prop, (∃ m, W 0 m (upd H1 D (.lst []))) ∧ ∀ i m H, W i m H →
      (J.stop i H ∧ Qd H) ∨ (J.go i H ∧ ∃ Nx : Hp → Prop, (∀ H', Nx H' → ∃ m', m' < m ∧ W (i + 1) m' H') ∧ ∀ x H', J.yld i H x H' → g x (wipe σ vs) H' fun σ2 H2 => wipe σ2 vs = wipe σ vs ∧ tt σ2 H2 fun b H3 =>
        if b = true then te σ2 H3 fun y H4 => ∃ acc, H4 D = some (.lst acc) ∧ acc.length < sizeLine ∧ Nx (upd H4 D (.lst (acc ++ [y]))) else Nx H3) := by
  refine ⟨fun i m H => i + m = n ∧ Pv i H, ⟨n, by omega, h0⟩, fun i m H ⟨e, p⟩ => ?_⟩
  by_cases k : i < n
  · exact .inr ⟨go i H k p, Pv (i + 1), fun H' p' => ⟨m - 1, by omega, by omega, p'⟩, fun x H' y => hs i x H H' k p y⟩
  · have z : i = n := by omega
    subst z
    exact .inl ⟨st H p, hd H p⟩
/-! ### tests -/
theorem if_str {x z : Str} {A B : Prop} (h1 : x = z → A) (h2 : x ≠ z → B) : if decide (V.str x = V.str z) = true then A else B :=
  if_bl (fun e => h1 (V.str.inj (of_decide_eq_true e))) (fun e => h2 (fun q => of_decide_eq_false e (congrArg V.str q)))
theorem inV_strs {x : Str} {zs : List Str} : inV (.str x) (zs.map V.str) = true ↔ x ∈ zs := by
  unfold inV
  induction zs with
  | nil => simp
  | cons z zs ih =>
    rw [List.map_cons, List.any_cons, Bool.or_eq_true, ih, List.mem_cons]
    constructor
    · rintro (h | h)
      · exact .inl (by simpa [eqV] using (show (z == x) = true from h) |> fun k => (eq_of_beq k).symm)
      · exact .inr h
    · rintro (h | h)
      · exact .inl (show (z == x) = true by rw [h]; exact beq_self_eq_true z)
      · exact .inr h
theorem if_in {x : Str} {zs : List Str} {A B : Prop} (h1 : x ∈ zs → A) (h2 : x ∉ zs → B) : if (if false = true then !inV (.str x) (zs.map V.str) else inV (.str x) (zs.map V.str)) = true then A else B := by
  have e : (if false = true then !inV (.str x) (zs.map V.str) else inV (.str x) (zs.map V.str)) = inV (.str x) (zs.map V.str) := if_neg Bool.false_ne_true
  rw [e]
  exact if_bl (fun c => h1 (inV_strs.mp c)) (fun c => h2 (fun k => by rw [inV_strs.mpr k] at c; cases c))
theorem same_seqT {K : PySem.W.Frag} {a : Addr} {H H1 : Hp} {xs : List V} (b : Same H H1) (h : SqT K H a xs) : SqT K H1 a xs := by
  rcases h with h | h
  · left
    rcases h with h | ⟨o, h⟩
    · exact .inl (b _ _ h)
    · exact .inr ⟨o, b _ _ h⟩
  · exact .inr h
theorem little {n : Nat} (h : n ≤ 1000) : n ≤ sizeLine := Nat.le_of_lt (small1000 h)
/-! ### xs[i] op= e -/
def rGetL (K : PySem.W.Frag) : V → V → Hp → VK → Prop := fun o i H Q => ∃ (p : Addr) (xs : List V) (j : Nat) (v : V), o = .ref p ∧ i = .int (j : Nat) ∧ SqL K H p xs ∧ xs[j]? = some v ∧ Q v H
theorem get_list {X : Cx} : PGet X (rGetL X.K) := by
  intro pins st σ H o i ov iv Q J ro ri asked
  obtain ⟨p, xs, j, v, rfl, rfl, hq, hj, now⟩ := asked
  cases ro
  obtain ⟨t, rfl⟩ := ri
  obtain ⟨its, r, pl, hz⟩ := J.list hq
  obtain ⟨u, eu, ru⟩ := r.get hj
  have n1 := (List.getElem?_eq_some_iff.mp hj).1
  have n2 := line63
  exact wpAny_getItem_list pl.isList (by omega) (by omega) (by simpa using eu) ⟨v, H, J, ru, now⟩
/-! ### the same rules, the written part named (so that they fit within comprehensions) -/
section
variable {X : Cx}
theorem ix_listK (K : PySem.W.Frag) (h : X.K = K) : IxR X (rIxL K) := by subst h; exact ix_list
theorem ix_tupK (K : PySem.W.Frag) (h : X.K = K) : IxR X (rIxT K) := by subst h; exact ix_tup
def rLenK (K : PySem.W.Frag) : List V → Hp → VK → Prop := fun xs H Q => ∃ (p : Addr) (ys : List V), xs = [.ref p] ∧ (SqL K H p ys ∨ SqT K H p ys) ∧ Q (.int (ys.length : Nat)) H
theorem call_len_seqK (K : PySem.W.Frag) (h : X.K = K) : CallR X (.builtin "len") (rLenK K) := by subst h; exact call_len_seq
def rListOfK (K : PySem.W.Frag) : List V → Hp → VK → Prop := fun xs H Q => ∃ (p : Addr) (ys : List V), xs = [.ref p] ∧ (SqL K H p ys ∨ SqT K H p ys) ∧ ∀ l, H l = none → Q (.ref l) (upd H l (.lst ys))
theorem call_list_ofK (K : PySem.W.Frag) (h : X.K = K) : CallR X (.type "list") (rListOfK K) := by subst h; exact call_list_of
def rTupOfK (K : PySem.W.Frag) : List V → Hp → VK → Prop := fun xs H Q => ∃ (p : Addr) (ys : List V), xs = [.ref p] ∧ ((SqL K H p ys ∧ ∀ l, H l = none → Q (.ref l) (upd H l (.tup ys))) ∨ (SqT K H p ys ∧ Q (.ref p) H))
theorem call_tuple_ofK (K : PySem.W.Frag) (h : X.K = K) : CallR X (.type "tuple") (rTupOfK K) := by subst h; exact call_tuple_of
theorem op_in_seqK (K : PySem.W.Frag) (h : X.K = K) : OpR X (compareOp .In) (rIn K false) := by subst h; exact op_in_seq
theorem op_notIn_seqK (K : PySem.W.Frag) (h : X.K = K) : OpR X (compareOp .NotIn) (rIn K true) := by subst h; exact op_notIn_seq
theorem sl_listK (K : PySem.W.Frag) (h : X.K = K) : SlR X (rSlL K) := by subst h; exact sl_list
theorem sl_tupAK (K : PySem.W.Frag) (h : X.K = K) : SlR X (rSlA K) := by subst h; exact sl_tupA
theorem op_eqDK (K : PySem.W.Frag) (h : X.K = K) (hu : X.A.units + 64 < cLine) : OpR X (compareOp .Eq) (rEqD K) := by subst h; exact op_eqD hu
theorem op_neDK (K : PySem.W.Frag) (h : X.K = K) (hu : X.A.units + 64 < cLine) : OpR X (compareOp .NotEq) (rNeD K) := by subst h; exact op_neD hu
theorem call_isiKK (K : PySem.W.Frag) (h : X.K = K) : CallR X (.builtin "isinstance") (rIsi K) := by subst h; exact call_isi
theorem cr_allK (K : PySem.W.Frag) (h : X.K = K) (hc : X.calm = true) : CallR X (.builtin "all") (rAll K) := by subst h; exact cr_all hc
theorem cr_anyK (K : PySem.W.Frag) (h : X.K = K) (hc : X.calm = true) : CallR X (.builtin "any") (rAny K) := by subst h; exact cr_any hc
theorem cr_minKK (K : PySem.W.Frag) (h : X.K = K) (hc : X.calm = true) : CallR X (.builtin "min") (rMin K) := by subst h; exact cr_min hc
theorem cr_maxKK (K : PySem.W.Frag) (h : X.K = K) (hc : X.calm = true) : CallR X (.builtin "max") (rMax K) := by subst h; exact cr_max hc
def tTruK (K : PySem.W.Frag) (ta : TE) : TT := fun σ H Q => ta σ H fun x H' => ∃ k, TruV K x H' k ∧ Q k H'
theorem pt_truthK (K : PySem.W.Frag) (h : X.K = K) {a : Expr} {ta : TE} (ha : PE X a ta) (he : ∀ whole, isTrue a X.env whole = (do let v ← whole; standAt a.pos; holding [v] (truthy v))) : PT X a (tTruK K ta) := by subst h; exact pt_truth ha he
theorem get_listK (K : PySem.W.Frag) (h : X.K = K) : PGet X (rGetL K) := by subst h; exact get_list
theorem pg_tupK (K : PySem.W.Frag) (h : X.K = K) {es : List Expr} {k n : Nat} {t : TGs} {pos : Pos} (hc : X.calm = true) (g : PGs X es t)
    (hn : (assignEach es X.env).length = n := by rfl) (hst : (assignEach es X.env).findIdx? (·.1) = none := by rfl) : PG X (.Tuple es k pos) (gTup K n t) := by subst h; exact pg_tup hc g hn hst
theorem pg_unlK (K : PySem.W.Frag) (h : X.K = K) {es : List Expr} {k n : Nat} {t : TGs} {pos : Pos} (hc : X.calm = true) (g : PGs X es t)
    (hn : (assignEach es X.env).length = n := by rfl) (hst : (assignEach es X.env).findIdx? (·.1) = none := by rfl) : PG X (.Tuple es k pos) (gUnl K n t) := by subst h; exact pg_unl hc g hn hst
theorem pi_listK (K : PySem.W.Frag) (h : X.K = K) {tg e : Expr} {te : TE} (he : PE X e te) : PI X tg e (iList K te) := by subst h; exact pi_list he
theorem pi_tupK (K : PySem.W.Frag) (h : X.K = K) {tg e : Expr} {te : TE} (he : PE X e te) : PI X tg e (iTup K te) := by subst h; exact pi_tup he
theorem pe_revLK (K : PySem.W.Frag) (h : X.K = K) {e : Expr} {te : TE} {k : Nat} {p1 p2 p3 pos : Pos} (he : PE X e te) : PE X (.Subscript e (.Slice none none (some (.UnaryOp .USub (.Constant (.int 1) k p1) p2)) p3) pos) (tRevL K te) := by subst h; exact pe_revL he
theorem pe_bmK (K : PySem.W.Frag) (h : X.K = K) {o e : Expr} {es : List Expr} {to : TE} {t : TA} {name : Str} {apos cpos : Pos} {T id : String} {r : V → List V → Hp → VK → Prop}
    (pa : PlainAttrs T) (slot : Slot T name id) (hty : typeOf (.builtin id) = pure (.type "method_descriptor")) (hm : MtR X id r) (ho : PE X o to) (ha : PA X (e :: es) t)
    (n1 : attributeBase o name X.env (eval o X.env) = eval o X.env := by rfl)
    (n2 : ((backTo cpos (starEach (e :: es) X.env)).all (fun x => !x.1) && (backToKw cpos (keywordEach [] X.env)).all (fun x => x.1.isSome) && decide ((e :: es).length + ([] : List Keyword).length + (if ([] : List Keyword).isEmpty then 0 else 1) < 30)) = true := by rfl)
    (n3 : (apos.endLine == cpos.line) = true := by rfl) (n4 : starEach (e :: es) X.env = (false, eval e X.env) :: starEach es X.env := by rfl) (n5 : (backTo cpos (starEach es X.env)).any (·.1) = false := by rfl) :
    PE X (.Call (.Attribute o name apos) (e :: es) [] cpos) (tBM K T r to t) := by subst h; exact pe_bm pa slot hty hm ho ha n1 n2 n3 n4 n5
theorem pe_bm0K (K : PySem.W.Frag) (h : X.K = K) {o : Expr} {to : TE} {name : Str} {apos cpos : Pos} {T id : String} {r : V → List V → Hp → VK → Prop}
    (pa : PlainAttrs T) (slot : Slot T name id) (hty : typeOf (.builtin id) = pure (.type "method_descriptor")) (hm : MtR X id r) (ho : PE X o to)
    (n1 : attributeBase o name X.env (eval o X.env) = eval o X.env := by rfl) (n3 : (apos.endLine == cpos.line) = true := by rfl) : PE X (.Call (.Attribute o name apos) [] [] cpos) (tBM0 K T r to) := by subst h; exact pe_bm0 pa slot hty hm ho n1 n3
theorem op_catAK (K : PySem.W.Frag) (h : X.K = K) : OpR X (binaryOp .Add) (rCatA K) := by subst h; exact op_catA
theorem call_isiTK (K : PySem.W.Frag) (h : X.K = K) : CallR X (.builtin "isinstance") (rIsiT K) := by subst h; exact call_isiT
theorem pi_zipAK (K : PySem.W.Frag) (h : X.K = K) {e e2 : Expr} {ta : TA} {p pos tpos : Pos} {elts : List Expr} {kk : Nat} (hg : Gl X "zip") (hm : X.mg "zip" = none) (ha : PA X [e, e2] ta)
    (hs : starEach [e, e2] X.env = (false, eval e X.env) :: starEach [e2] X.env := by rfl) (hpl : (backTo pos (starEach [e2] X.env)).any (·.1) = false := by rfl) :
    PI X (.Tuple elts kk tpos) (.Call (.Name "zip" p) [e, e2] [] pos) (RZ.iZipA K ta) := by subst h; exact RZ.pi_zipA hg hm ha hs hpl
theorem pi_or {tg e : Expr} {t1 t2 : TI} (h1 : PI X tg e t1) (h2 : PI X tg e t2) : PI X tg e (fun σ H R => t1 σ H R ∨ t2 σ H R) := ⟨fun pins s σ H R I h => h.elim (h1.run pins s σ H R I) (h2.run pins s σ H R I)⟩
end
section
variable {X : Cx}
theorem cr_sumK (K : PySem.W.Frag) (h : X.K = K) (hc : X.calm = true) : CallR X (.builtin "sum") (rSum K) := by subst h; exact cr_sum hc
end
section
variable {X : Cx}
theorem op_ltTK (K : PySem.W.Frag) (h : X.K = K) (hu : X.A.units < cLine) : OpR X (compareOp .Lt) (rLtT K) := by subst h; exact op_ltT hu
end
section
variable {X : Cx}
theorem cr_sortedRevK (K : PySem.W.Frag) (h : X.K = K) {b : Bool} : CallRK X (.builtin "sorted") [Str.ofString "reverse"] (rSortedKw K b [.bl b]) := by subst h; exact cr_sortedRev
theorem op_inDK (K : PySem.W.Frag) (h : X.K = K) (hu : X.A.units + 65 < cLine) : OpR X (compareOp .In) (rInD K) := by subst h; exact op_inD hu
end
theorem hu65 {A : Around} {k : Nat} (hr : Room k A) : A.units + 65 < cLine := by have := hr.un; omega
section
variable {X : Cx}
/-- x not in t, t a tuple of data of any depth -/
def rNotInDT (K : PySem.W.Frag) : R2 := fun x y H Q => ∃ d ds, Dp K H x d ∧ Dp K H y (.tuple ds) ∧ SeqAt.shaped d = true ∧ SeqAt.shaped (.tuple ds) = true ∧ Q (.bl (!ds.any fun z => PyData.eqv z d)) H
theorem op_notInDTK (K : PySem.W.Frag) (same : X.K = K) (room : X.A.units + 65 < cLine) : OpR X (compareOp .NotIn) (rNotInDT K) := by
  subst same
  intro pins st σ H one many ov mv Q J ro rm asked
  have ⟨d, ds, dpO, dpM, shO, shM, done⟩ := asked
  have ⟨_, readO⟩ := Dp.reads J d one ov dpO ro
  have ⟨_, readM⟩ := Dp.reads J (.tuple ds) many mv dpM rm
  exact SeqAt.notIn_tuple_reads readM readO (SeqAt.canLay_of_shaped shM) (SeqAt.canLay_of_shaped shO) (room_in_shaped shO room) ⟨.bl _, H, J, rfl, done⟩
end
/-! ### for x, y in zip(t, l), t a tuple, l a list -/
def IzTL (K : PySem.W.Frag) (a b : Addr) (xs ys : List V) : It :=
  ⟨fun i H => SqT K H a xs ∧ SqL K H b ys ∧ i < xs.length ∧ i < ys.length, fun i H v H' => ∃ T x y, v = .ref T ∧ H T = none ∧ H' = upd H T (.tup [x, y]) ∧ xs[i]? = some x ∧ ys[i]? = some y, fun i H => SqT K H a xs ∧ SqL K H b ys ∧ i ≤ xs.length ∧ i ≤ ys.length ∧ (i = xs.length ∨ i = ys.length)⟩
theorem turn_zipTL {P : Program} {w : World} {K : PySem.W.Frag} {elts : List Expr} {kk : Nat} {tpos : Pos} {a b z TI TO i1 i2 : Addr} (S : ZipSep2 z TI TO i1 i2 [i1, a] [i2, b]) (na : a ≠ i1) (nb : b ≠ i2) (xs ys : List V) :
    Turn P w K (.Tuple elts kk tpos) (IzTL K a b xs ys) [z, TI, TO, i1, i2] z (fun i h => IsZip h z TI TO .none ∧ IsTupOf2 h TI (.ref i1) (.ref i2) ∧ (∃ x y, IsTupOf2 h TO x y) ∧ h.IsTupleIter i1 a i ∧ h.IsListIter i2 b i) where
  mem := by simp
  obj := fun i h stt c hc => by
    obtain ⟨hz, hI, ⟨x, y, hO⟩, ⟨o1, e1, _, d1⟩, ⟨o2, e2, _, d2⟩⟩ := stt
    have any : c = z ∨ c = TI ∨ c = TO ∨ c = i1 ∨ c = i2 := by simpa using hc
    rcases any with q | q | q | q | q <;> subst q
    · exact ⟨_, hz, fun v q => nomatch q⟩
    · exact ⟨_, hI, fun v q => nomatch q⟩
    · exact ⟨_, hO, fun v q => nomatch q⟩
    · exact ⟨o1, e1, fun v q => by rw [d1] at q; cases q⟩
    · exact ⟨o2, e2, fun v q => by rw [d2] at q; cases q⟩
  keep := fun i h h' stt k => by
    obtain ⟨hz, hI, ⟨x, y, hO⟩, k1, k2⟩ := stt
    exact ⟨k z (by simp) _ hz, k TI (by simp) _ hI, ⟨x, y, k TO (by simp) _ hO⟩, k1.at fun o q => k i1 (by simp) o q, k2.at fun o q => k i2 (by simp) o q⟩
  item := by
    intro X hP hw hK hc i pins st σ H E J hf stt going
    subst hP hw hK
    obtain ⟨hz, hI, ⟨x0, y0, hO⟩, k1, k2⟩ := stt
    obtain ⟨hq1, hq2, l1, l2⟩ := going
    obtain ⟨its, rv, tup, _⟩ := J.tuple hq1
    obtain ⟨its2, rv2, lst, _⟩ := J.list hq2
    have len1 := rv.length
    have len2 := rv2.length
    have zl : z < st.heap.objs.size := Heap.lt_size hz
    have D1 := Draws.tuple (prog := X.prog) (w := X.w) (A := X.A.in1) (J.ok.hd hc) i1 a na its.toArray
    have D2 := Draws.list (prog := X.prog) (w := X.w) (A := X.A.in1) (J.ok.hd hc) i2 b nb its2.toArray
    refine wpAny_pyNext_zipD2_item S D1 D2 hz hI hO ⟨k1, tup⟩ ⟨k2, lst.isList⟩ (by rw [List.size_toArray]; omega) (by rw [List.size_toArray]; omega) fun u1 u2 h' tk p1 p2 out hO' s1 s2 new size kp => ?_
    refine ⟨_, rfl, wpAny_letOwnedTupleGo_zip (s := { st with heap := h', toks := tk }) out fun h'' out' sb => ?_⟩
    obtain ⟨x, hx⟩ : ∃ x, xs[i]? = some x := ⟨_, List.getElem?_eq_getElem l1⟩
    obtain ⟨y, hy⟩ : ∃ y, ys[i]? = some y := ⟨_, List.getElem?_eq_getElem l2⟩
    obtain ⟨w1, hw1, r1⟩ := rv.get hx
    obtain ⟨w2, hw2, r2⟩ := rv2.get hy
    have e1 : w1 = u1 := by
      have p1 : its.toArray[i]? = some u1 := p1
      rw [List.getElem?_toArray, hw1] at p1
      exact Option.some.inj p1
    have e2 : w2 = u2 := by
      have p2 : its2.toArray[i]? = some u2 := p2
      rw [List.getElem?_toArray, hw2] at p2
      exact Option.some.inj p2
    subst e1 e2
    have there : h''.get? st.heap.objs.size = some { cls := .type "tuple", data := .seq #[w1, w2] } := (sb.2 _ (Nat.ne_of_gt zl)).trans new
    have good : ObjOk X.prog X.w (upd H st.heap.objs.size (.tup [x, y])) h'' st.heap.objs.size (.tup [x, y]) :=
      ⟨by show 2 ≤ sizeLine; decide, [w1, w2], .cons r1 (.cons r2 .nil), ⟨_, there, rfl, _, rfl⟩⟩
    have J1 : Inv X pins σ (upd H st.heap.objs.size (.tup [x, y])) { st with heap := h'', toks := tk } :=
      J.turnedNew (ch := [z, TI, TO, i1, i2]) (fun c o hb q => (sb.2 c (fun q' => hb (by simp [q']))).trans (kp c o (fun q' => hb (by simp [q'])) (fun q' => hb (by simp [q'])) (fun q' => hb (by simp [q'])) (fun q' => hb (by simp [q'])) q)) hf (Nat.le_refl _) good
    have i1z : i1 ≠ z := fun q => S.zf1 (by simp [q])
    have i2z : i2 ≠ z := fun q => S.zf2 (by simp [q])
    refine ⟨.ref st.heap.objs.size, _, J1, rfl, ⟨_, x, y, rfl, J.hok.fresh (Nat.le_refl _), rfl, hx, hy⟩, ⟨out', ?_, ⟨w1, w2, ?_⟩, ?_, ?_⟩, fun c hcm => ?_⟩
    · exact (sb.2 _ S.TIz).trans (kp _ _ S.TIz S.TITO S.TIi1 S.TIi2 hI)
    · exact (sb.2 _ S.TOz).trans hO'
    · exact s1.1.at fun o q => (sb.2 _ i1z).trans q
    · exact s2.1.at fun o q => (sb.2 _ i2z).trans q
    · have low : c < st.heap.objs.size := by
        have any : c = z ∨ c = TI ∨ c = TO ∨ c = i1 ∨ c = i2 := by simpa using hcm
        rcases any with q | q | q | q | q
        · rw [q]; exact zl
        · rw [q]; exact Heap.lt_size hI
        · rw [q]; exact Heap.lt_size hO
        · rw [q]; obtain ⟨_, q1, _⟩ := k1; exact Heap.lt_size q1
        · rw [q]; obtain ⟨_, q2, _⟩ := k2; exact Heap.lt_size q2
      rw [upd_ne (Nat.ne_of_lt low)]
      exact (hf c hcm).1
  done := by
    intro X hP hw hK hc i pins st σ H E J hf stt over
    subst hP hw hK
    obtain ⟨hz, hI, ⟨x0, y0, hO⟩, k1, k2⟩ := stt
    obtain ⟨hq1, hq2, l1, l2, fin⟩ := over
    obtain ⟨its, rv, tup, _⟩ := J.tuple hq1
    obtain ⟨its2, rv2, lst, _⟩ := J.list hq2
    have len1 := rv.length
    have len2 := rv2.length
    have D1 := Draws.tuple (prog := X.prog) (w := X.w) (A := X.A.in1) (J.ok.hd hc) i1 a na its.toArray
    have D2 := Draws.list (prog := X.prog) (w := X.w) (A := X.A.in1) (J.ok.hd hc) i2 b nb its2.toArray
    refine wpAny_pyNext_zipD2_end S D1 D2 hz hI hO ⟨k1, tup⟩ ⟨k2, lst.isList⟩ (by rw [List.size_toArray]; omega) (by rw [List.size_toArray]; omega) (by rw [List.size_toArray, List.size_toArray]; omega) fun h' tk kp => ⟨rfl, ?_⟩
    exact J.turnedL (t' := tk) (ch := [z, TI, TO, i1, i2]) (fun c o hb q => kp c o (fun q' => hb (by simp [q'])) (fun q' => hb (by simp [q'])) (fun q' => hb (by simp [q'])) (fun q' => hb (by simp [q'])) q) hf
  self := fun A i st Q E stt now => wpAny_pyIter_zip stt.1 now
def iZipTL (K : PySem.W.Frag) (ta : TA) : TI := fun σ H R => ta σ H fun vs H1 => ∃ a b xs ys, vs = [.ref a, .ref b] ∧ SqT K H1 a xs ∧ SqL K H1 b ys ∧ R (IzTL K a b xs ys) H1
theorem pi_zipTL (K : PySem.W.Frag) {X : Cx} (hk : X.K = K) {e e2 : Expr} {ta : TA} {p pos tpos : Pos} {elts : List Expr} {kk : Nat} (hg : Gl X "zip") (hm : X.mg "zip" = none) (ha : PA X [e, e2] ta)
    (hs : starEach [e, e2] X.env = (false, eval e X.env) :: starEach [e2] X.env := by rfl) (hpl : (backTo pos (starEach [e2] X.env)).any (·.1) = false := by rfl) : PI X (.Tuple elts kk tpos) (.Call (.Name "zip" p) [e, e2] [] pos) (iZipTL K ta) := by
  subst hk
  refine ⟨fun pins st σ H R J asked => ?_⟩
  refine Call_ (ld_blt J hg hm PyProof.Rows.boot_zip (PyProof.Rows.callWith_type1 (thn (ha.run pos pins st σ H _ J asked) fun us st1 ⟨vs, H1, J1, rel, now⟩ => ?_) hs hpl))
  obtain ⟨a, b, xs, ys, ex, hq1, hq2, now⟩ := now
  subst ex
  obtain ⟨u1, u2, rfl, r1, r2⟩ := vals2 rel
  obtain rfl : u1 = Value.ref a := r1
  obtain rfl : u2 = Value.ref b := r2
  obtain ⟨its, rv, tup, _⟩ := J1.tuple hq1
  obtain ⟨its2, rv2, lst, _⟩ := J1.list hq2
  have al : a < st1.heap.objs.size := by obtain ⟨o, ho, _⟩ := id tup; exact Heap.lt_size ho
  have bl : b < st1.heap.objs.size := by obtain ⟨o, ho, _⟩ := id lst.isList; exact Heap.lt_size ho
  refine zip_begins2 (begins_tuple a its.toArray) (begins_list b its2.toArray) tup lst.isList fun h' hz hI hO g1 g2 size kp => wpAny_pyIter_zip hz ?_
  have J2 : Inv X pins σ H1 { st1 with heap := h' } := J1.kept (t' := st1.toks) kp
  generalize hn : st1.heap.objs.size = n at *
  have S : ZipSep2 (n + 4) (n + 2) (n + 3) n (n + 1) [n, a] [n + 1, b] :=
    zip_sep2 (fun c hc => by rw [List.mem_singleton.mp hc]; exact al) (fun c hc => by rw [List.mem_singleton.mp hc]; exact bl)
  refine ⟨n + 4, [n + 4, n + 2, n + 3, n, n + 1], _, _, H1, rfl, J2, turn_zipTL S (Nat.ne_of_lt al) (Nat.ne_of_lt (Nat.lt_succ_of_lt bl)) xs ys, ⟨hz, hI, ⟨_, _, hO⟩, ⟨_, g1, rfl, rfl⟩, ⟨_, g2, rfl, rfl⟩⟩, fun c hcm => ?_, now⟩
  have low : n ≤ c := by
    have any : c = n + 4 ∨ c = n + 2 ∨ c = n + 3 ∨ c = n ∨ c = n + 1 := by simpa using hcm
    rcases any with q | q | q | q | q <;> rw [q]
    · exact Nat.le_add_right ..
    · exact Nat.le_add_right ..
    · exact Nat.le_add_right ..
    · exact Nat.le_refl _
    · exact Nat.le_add_right ..
  rw [← hn] at low
  exact J1.fpOk low (J1.hok.fresh low)
/-! ### for x, y in zip(l, t), l a list, t a tuple -/
def IzLT (K : PySem.W.Frag) (a b : Addr) (xs ys : List V) : It :=
  ⟨fun i H => SqL K H a xs ∧ SqT K H b ys ∧ i < xs.length ∧ i < ys.length, fun i H v H' => ∃ T x y, v = .ref T ∧ H T = none ∧ H' = upd H T (.tup [x, y]) ∧ xs[i]? = some x ∧ ys[i]? = some y, fun i H => SqL K H a xs ∧ SqT K H b ys ∧ i ≤ xs.length ∧ i ≤ ys.length ∧ (i = xs.length ∨ i = ys.length)⟩
theorem turn_zipLT {P : Program} {w : World} {K : PySem.W.Frag} {elts : List Expr} {kk : Nat} {tpos : Pos} {a b z TI TO i1 i2 : Addr} (S : ZipSep2 z TI TO i1 i2 [i1, a] [i2, b]) (na : a ≠ i1) (nb : b ≠ i2) (xs ys : List V) :
    Turn P w K (.Tuple elts kk tpos) (IzLT K a b xs ys) [z, TI, TO, i1, i2] z (fun i h => IsZip h z TI TO .none ∧ IsTupOf2 h TI (.ref i1) (.ref i2) ∧ (∃ x y, IsTupOf2 h TO x y) ∧ h.IsListIter i1 a i ∧ h.IsTupleIter i2 b i) where
  mem := by simp
  obj := fun i h stt c hc => by
    obtain ⟨hz, hI, ⟨x, y, hO⟩, ⟨o1, e1, _, d1⟩, ⟨o2, e2, _, d2⟩⟩ := stt
    have any : c = z ∨ c = TI ∨ c = TO ∨ c = i1 ∨ c = i2 := by simpa using hc
    rcases any with q | q | q | q | q <;> subst q
    · exact ⟨_, hz, fun v q => nomatch q⟩
    · exact ⟨_, hI, fun v q => nomatch q⟩
    · exact ⟨_, hO, fun v q => nomatch q⟩
    · exact ⟨o1, e1, fun v q => by rw [d1] at q; cases q⟩
    · exact ⟨o2, e2, fun v q => by rw [d2] at q; cases q⟩
  keep := fun i h h' stt k => by
    obtain ⟨hz, hI, ⟨x, y, hO⟩, k1, k2⟩ := stt
    exact ⟨k z (by simp) _ hz, k TI (by simp) _ hI, ⟨x, y, k TO (by simp) _ hO⟩, k1.at fun o q => k i1 (by simp) o q, k2.at fun o q => k i2 (by simp) o q⟩
  item := by
    intro X hP hw hK hc i pins st σ H E J hf stt going
    subst hP hw hK
    obtain ⟨hz, hI, ⟨x0, y0, hO⟩, k1, k2⟩ := stt
    obtain ⟨hq1, hq2, l1, l2⟩ := going
    obtain ⟨its, rv, lst, _⟩ := J.list hq1
    obtain ⟨its2, rv2, tup, _⟩ := J.tuple hq2
    have len1 := rv.length
    have len2 := rv2.length
    have zl : z < st.heap.objs.size := Heap.lt_size hz
    have D1 := Draws.list (prog := X.prog) (w := X.w) (A := X.A.in1) (J.ok.hd hc) i1 a na its.toArray
    have D2 := Draws.tuple (prog := X.prog) (w := X.w) (A := X.A.in1) (J.ok.hd hc) i2 b nb its2.toArray
    refine wpAny_pyNext_zipD2_item S D1 D2 hz hI hO ⟨k1, lst.isList⟩ ⟨k2, tup⟩ (by rw [List.size_toArray]; omega) (by rw [List.size_toArray]; omega) fun u1 u2 h' tk p1 p2 out hO' s1 s2 new size kp => ?_
    refine ⟨_, rfl, wpAny_letOwnedTupleGo_zip (s := { st with heap := h', toks := tk }) out fun h'' out' sb => ?_⟩
    obtain ⟨x, hx⟩ : ∃ x, xs[i]? = some x := ⟨_, List.getElem?_eq_getElem l1⟩
    obtain ⟨y, hy⟩ : ∃ y, ys[i]? = some y := ⟨_, List.getElem?_eq_getElem l2⟩
    obtain ⟨w1, hw1, r1⟩ := rv.get hx
    obtain ⟨w2, hw2, r2⟩ := rv2.get hy
    have e1 : w1 = u1 := by
      have p1 : its.toArray[i]? = some u1 := p1
      rw [List.getElem?_toArray, hw1] at p1
      exact Option.some.inj p1
    have e2 : w2 = u2 := by
      have p2 : its2.toArray[i]? = some u2 := p2
      rw [List.getElem?_toArray, hw2] at p2
      exact Option.some.inj p2
    subst e1 e2
    have there : h''.get? st.heap.objs.size = some { cls := .type "tuple", data := .seq #[w1, w2] } := (sb.2 _ (Nat.ne_of_gt zl)).trans new
    have good : ObjOk X.prog X.w (upd H st.heap.objs.size (.tup [x, y])) h'' st.heap.objs.size (.tup [x, y]) :=
      ⟨by show 2 ≤ sizeLine; decide, [w1, w2], .cons r1 (.cons r2 .nil), ⟨_, there, rfl, _, rfl⟩⟩
    have J1 : Inv X pins σ (upd H st.heap.objs.size (.tup [x, y])) { st with heap := h'', toks := tk } :=
      J.turnedNew (ch := [z, TI, TO, i1, i2]) (fun c o hb q => (sb.2 c (fun q' => hb (by simp [q']))).trans (kp c o (fun q' => hb (by simp [q'])) (fun q' => hb (by simp [q'])) (fun q' => hb (by simp [q'])) (fun q' => hb (by simp [q'])) q)) hf (Nat.le_refl _) good
    have i1z : i1 ≠ z := fun q => S.zf1 (by simp [q])
    have i2z : i2 ≠ z := fun q => S.zf2 (by simp [q])
    refine ⟨.ref st.heap.objs.size, _, J1, rfl, ⟨_, x, y, rfl, J.hok.fresh (Nat.le_refl _), rfl, hx, hy⟩, ⟨out', ?_, ⟨w1, w2, ?_⟩, ?_, ?_⟩, fun c hcm => ?_⟩
    · exact (sb.2 _ S.TIz).trans (kp _ _ S.TIz S.TITO S.TIi1 S.TIi2 hI)
    · exact (sb.2 _ S.TOz).trans hO'
    · exact s1.1.at fun o q => (sb.2 _ i1z).trans q
    · exact s2.1.at fun o q => (sb.2 _ i2z).trans q
    · have low : c < st.heap.objs.size := by
        have any : c = z ∨ c = TI ∨ c = TO ∨ c = i1 ∨ c = i2 := by simpa using hcm
        rcases any with q | q | q | q | q
        · rw [q]; exact zl
        · rw [q]; exact Heap.lt_size hI
        · rw [q]; exact Heap.lt_size hO
        · rw [q]; obtain ⟨_, q1, _⟩ := k1; exact Heap.lt_size q1
        · rw [q]; obtain ⟨_, q2, _⟩ := k2; exact Heap.lt_size q2
      rw [upd_ne (Nat.ne_of_lt low)]
      exact (hf c hcm).1
  done := by
    intro X hP hw hK hc i pins st σ H E J hf stt over
    subst hP hw hK
    obtain ⟨hz, hI, ⟨x0, y0, hO⟩, k1, k2⟩ := stt
    obtain ⟨hq1, hq2, l1, l2, fin⟩ := over
    obtain ⟨its, rv, lst, _⟩ := J.list hq1
    obtain ⟨its2, rv2, tup, _⟩ := J.tuple hq2
    have len1 := rv.length
    have len2 := rv2.length
    have D1 := Draws.list (prog := X.prog) (w := X.w) (A := X.A.in1) (J.ok.hd hc) i1 a na its.toArray
    have D2 := Draws.tuple (prog := X.prog) (w := X.w) (A := X.A.in1) (J.ok.hd hc) i2 b nb its2.toArray
    refine wpAny_pyNext_zipD2_end S D1 D2 hz hI hO ⟨k1, lst.isList⟩ ⟨k2, tup⟩ (by rw [List.size_toArray]; omega) (by rw [List.size_toArray]; omega) (by rw [List.size_toArray, List.size_toArray]; omega) fun h' tk kp => ⟨rfl, ?_⟩
    exact J.turnedL (t' := tk) (ch := [z, TI, TO, i1, i2]) (fun c o hb q => kp c o (fun q' => hb (by simp [q'])) (fun q' => hb (by simp [q'])) (fun q' => hb (by simp [q'])) (fun q' => hb (by simp [q'])) q) hf
  self := fun A i st Q E stt now => wpAny_pyIter_zip stt.1 now
def iZipLT (K : PySem.W.Frag) (ta : TA) : TI := fun σ H R => ta σ H fun vs H1 => ∃ a b xs ys, vs = [.ref a, .ref b] ∧ SqL K H1 a xs ∧ SqT K H1 b ys ∧ R (IzLT K a b xs ys) H1
theorem pi_zipLT (K : PySem.W.Frag) {X : Cx} (hk : X.K = K) {e e2 : Expr} {ta : TA} {p pos tpos : Pos} {elts : List Expr} {kk : Nat} (hg : Gl X "zip") (hm : X.mg "zip" = none) (ha : PA X [e, e2] ta)
    (hs : starEach [e, e2] X.env = (false, eval e X.env) :: starEach [e2] X.env := by rfl) (hpl : (backTo pos (starEach [e2] X.env)).any (·.1) = false := by rfl) : PI X (.Tuple elts kk tpos) (.Call (.Name "zip" p) [e, e2] [] pos) (iZipLT K ta) := by
  subst hk
  refine ⟨fun pins st σ H R J asked => ?_⟩
  refine Call_ (ld_blt J hg hm PyProof.Rows.boot_zip (PyProof.Rows.callWith_type1 (thn (ha.run pos pins st σ H _ J asked) fun us st1 ⟨vs, H1, J1, rel, now⟩ => ?_) hs hpl))
  obtain ⟨a, b, xs, ys, ex, hq1, hq2, now⟩ := now
  subst ex
  obtain ⟨u1, u2, rfl, r1, r2⟩ := vals2 rel
  obtain rfl : u1 = Value.ref a := r1
  obtain rfl : u2 = Value.ref b := r2
  obtain ⟨its, rv, lst, _⟩ := J1.list hq1
  obtain ⟨its2, rv2, tup, _⟩ := J1.tuple hq2
  have al : a < st1.heap.objs.size := by obtain ⟨o, ho, _⟩ := id lst.isList; exact Heap.lt_size ho
  have bl : b < st1.heap.objs.size := by obtain ⟨o, ho, _⟩ := id tup; exact Heap.lt_size ho
  refine zip_begins2 (begins_list a its.toArray) (begins_tuple b its2.toArray) lst.isList tup fun h' hz hI hO g1 g2 size kp => wpAny_pyIter_zip hz ?_
  have J2 : Inv X pins σ H1 { st1 with heap := h' } := J1.kept (t' := st1.toks) kp
  generalize hn : st1.heap.objs.size = n at *
  have S : ZipSep2 (n + 4) (n + 2) (n + 3) n (n + 1) [n, a] [n + 1, b] :=
    zip_sep2 (fun c hc => by rw [List.mem_singleton.mp hc]; exact al) (fun c hc => by rw [List.mem_singleton.mp hc]; exact bl)
  refine ⟨n + 4, [n + 4, n + 2, n + 3, n, n + 1], _, _, H1, rfl, J2, turn_zipLT S (Nat.ne_of_lt al) (Nat.ne_of_lt (Nat.lt_succ_of_lt bl)) xs ys, ⟨hz, hI, ⟨_, _, hO⟩, ⟨_, g1, rfl, rfl⟩, ⟨_, g2, rfl, rfl⟩⟩, fun c hcm => ?_, now⟩
  have low : n ≤ c := by
    have any : c = n + 4 ∨ c = n + 2 ∨ c = n + 3 ∨ c = n ∨ c = n + 1 := by simpa using hcm
    rcases any with q | q | q | q | q <;> rw [q]
    · exact Nat.le_add_right ..
    · exact Nat.le_add_right ..
    · exact Nat.le_add_right ..
    · exact Nat.le_refl _
    · exact Nat.le_add_right ..
  rw [← hn] at low
  exact J1.fpOk low (J1.hok.fresh low)
/-! ### for i, x in enumerate(t), t a tuple -/
section
open Sem (wp)
open AutoSeq1 (wpAny_loadPart')
theorem enum_of_tup (t : Addr) (its : Array Value) (n : Nat) (dct : Option Addr) (sl : Array (Option Value)) :
    Meets (Builtin.«enumerate.__new__» ⟨[.type "enumerate", .ref t], []⟩) (fun _ R st => st.heap.get? t = some { cls := .type "tuple", dict := dct, data := .seq its n, slots := sl } ∧
      R (.ok (.ret (.ref (st.heap.push { cls := .type "tuple_iterator", data := .fields #[.ref t, .int 0 0] }).objs.size)))
        { st with heap := (st.heap.push { cls := .type "tuple_iterator", data := .fields #[.ref t, .int 0 0] }).push { cls := .type "enumerate", data := .fields #[.none, .bool false, .ref st.heap.objs.size, rawInt 0, .none, .none] } }) :=
  .of_wp fun prog w A R st asked => by
    obtain ⟨hp, g, d, tk, os⟩ := st; obtain ⟨at_, asked⟩ := asked
    have sub := sub_enumerate
    have hT : Heap.IsTuple (Shared.heap ⟨hp, g, d, tk, os⟩) t its := ⟨_, at_, rfl, n, rfl⟩
    wp_walk using wpAny_loadPart' at_
    refine wpAny_stack_any fun stk => wpAny_pure ?_
    split
    · rename_i c _ _ _ _ _
      cases (c == Value.type "enumerate")
      · wp_walk using wpAny_loadPart' at_, wpAny_pyIter_tuple hT
        exact ⟨_, rfl, asked⟩
      · wp_walk using wpAny_loadPart' at_, wpAny_pyIter_tuple hT
        exact ⟨_, rfl, asked⟩
    · wp_walk using wpAny_loadPart' at_, wpAny_pyIter_tuple hT
      exact ⟨_, rfl, asked⟩
theorem call_enum_tup {prog : Program} {w : World} {A : Around} {E : Value → Shared → Prop} {st : Shared} {t : Addr} {its : Array Value} {Q : Value → Shared → Prop} (hT : st.heap.IsTuple t its)
    (now : ∀ h', IsEnum h' (st.heap.objs.size + 1) st.heap.objs.size 0 .none → h'.IsTupleIter st.heap.objs.size t 0 → h'.objs.size = st.heap.objs.size + 2 →
      (∀ b o, st.heap.get? b = some o → h'.get? b = some o) → Q (.ref (st.heap.objs.size + 1)) { st with heap := h' }) :
    wpAny (model prog w) A (call (.type "enumerate") [.ref t]) Q E st := by
  obtain ⟨⟨c, dct, dt, sl⟩, at_, hc, n, hd⟩ := hT
  replace hc : c = .type "tuple" := hc
  replace hd : dt = .seq its n := hd
  subst hc hd
  refine callType_new F.called_enumerate (by decide) (F.typeCall_enumerate_1 _) (F.newCall_enumerate_1 _) (fun obj => F.args_object_init_2 obj _) F.entry_enumerate_new (enum_of_tup t its n dct sl) ⟨at_, ?_⟩
  have size1 : (st.heap.push { cls := .type "tuple_iterator", data := .fields #[.ref t, .int 0 0] }).objs.size = st.heap.objs.size + 1 := Heap.size_push ..
  show _ ∧ _
  rw [size1]
  have made := Heap.get?_push_size (st.heap.push { cls := .type "tuple_iterator", data := .fields #[.ref t, .int 0 0] }) (o := { cls := .type "enumerate", data := .fields #[.none, .bool false, .ref st.heap.objs.size, rawInt 0, .none, .none] }) rfl
  rw [size1] at made
  exact ⟨⟨_, made, rfl⟩, now _ made ⟨_, Heap.get?_push_of_some _ (Heap.get?_push_size _ rfl), rfl, rfl⟩ (by rw [Heap.size_push, size1]) fun b o e => Heap.get?_push_of_some _ (Heap.get?_push_of_some _ e)⟩
end
/-- the tuple at a, each item in a new pair -/
def IteT (K : PySem.W.Frag) (a : Addr) (xs : List V) : It :=
  ⟨fun i H => SqT K H a xs ∧ i < xs.length, fun i H v H' => ∃ T x, v = .ref T ∧ H T = none ∧ H' = upd H T (.tup [.int (i : Nat), x]) ∧ xs[i]? = some x, fun i H => SqT K H a xs ∧ i = xs.length⟩
theorem turn_enumT {P : Program} {w : World} {K : PySem.W.Frag} {elts : List Expr} {kk : Nat} {tpos : Pos} (a e it : Addr) (xs : List V) :
    Turn P w K (.Tuple elts kk tpos) (IteT K a xs) [e, it] e (fun i h => (∃ old, IsEnum h e it ((i : Nat) : Int) old) ∧ h.IsTupleIter it a i ∧ e ≠ it ∧ a ≠ it ∧ a ≠ e) where
  mem := by simp
  obj := fun i h st b hb => by
    obtain ⟨⟨old, he⟩, ⟨o, ho, hc, hd⟩, _⟩ := st
    have either : b = e ∨ b = it := by simpa using hb
    rcases either with z | z
    · rw [z]; exact ⟨_, he, fun v q => nomatch q⟩
    · rw [z]; exact ⟨o, ho, fun v q => by rw [hd] at q; cases q⟩
  keep := fun i h h' st k => let ⟨⟨old, he⟩, hi, apart⟩ := st; ⟨⟨old, k e (by simp) _ he⟩, hi.at fun o q => k it (by simp) o q, apart⟩
  item := by
    intro X hP hw hK hc i pins st σ H E J hf stt going
    subst hP hw hK
    obtain ⟨⟨old, he⟩, hit, n1, n2, n3⟩ := stt
    obtain ⟨hq, hi⟩ := going
    obtain ⟨its, rv, tup, hz⟩ := J.tuple hq
    have len := rv.length
    have el : e < st.heap.objs.size := Heap.lt_size he
    have il : it < st.heap.objs.size := by obtain ⟨_, q, _⟩ := hit; exact Heap.lt_size q
    have D := Draws.tuple (prog := X.prog) (w := X.w) (A := X.A.in1) (J.ok.hd hc) it a n2 its.toArray
    refine wpAny_pyNext_enum_itemD D he ⟨hit, tup⟩ (by rw [List.size_toArray]; omega) n1 (by simp [n1, n3.symm]) fun u h' tk px out stt' new size kp => ?_
    refine ⟨_, rfl, wpAny_letOwnedTupleGo_enum (s := { st with heap := h', toks := tk + 1 }) out fun h'' he' sb => ?_⟩
    obtain ⟨x, hx⟩ : ∃ x, xs[i]? = some x := ⟨_, List.getElem?_eq_getElem hi⟩
    obtain ⟨u', hu', ru⟩ := rv.get hx
    have eu : u' = u := by
      have px : its.toArray[i]? = some u := px
      rw [List.getElem?_toArray, hu'] at px
      exact Option.some.inj px
    subst eu
    have there : h''.get? st.heap.objs.size = some { cls := .type "tuple", data := .seq #[.int i tk, u'] } := (sb.2 _ (Nat.ne_of_gt el)).trans new
    have ok2 : ObjOk X.prog X.w (upd H st.heap.objs.size (.tup [.int (i : Nat), x])) h'' st.heap.objs.size (.tup [.int (i : Nat), x]) :=
      ⟨by show 2 ≤ sizeLine; decide, [.int i tk, u'], .cons ⟨_, rfl⟩ (.cons ru .nil), ⟨_, there, rfl, _, rfl⟩⟩
    have J1 : Inv X pins σ (upd H st.heap.objs.size (.tup [.int (i : Nat), x])) { st with heap := h'', toks := tk + 1 } :=
      J.turnedNew (ch := [e, it]) (fun b ob hb q => (sb.2 b (fun z => hb (by simp [z]))).trans (kp b ob (fun z => hb (by simp [z])) (fun z => hb (by simp [z])) q)) hf (Nat.le_refl _) ok2
    refine ⟨.ref st.heap.objs.size, _, J1, rfl, ⟨_, x, rfl, J.hok.fresh (Nat.le_refl _), rfl, hx⟩, ⟨⟨u', ?_⟩, stt'.1.at fun o q => (sb.2 it (Ne.symm n1)).trans q, n1, n2, n3⟩, fun b hb => ?_⟩
    · rw [show ((i + 1 : Nat) : Int) = (i : Int) + 1 by omega]
      exact he'
    · have bl : b < st.heap.objs.size := by
        have either : b = e ∨ b = it := by simpa using hb
        rcases either with z | z
        · rw [z]; exact el
        · rw [z]; exact il
      rw [upd_ne (Nat.ne_of_lt bl)]
      exact (hf b hb).1
  done := by
    intro X hP hw hK hc i pins st σ H E J hf stt over
    subst hP hw hK
    obtain ⟨⟨old, he⟩, hit, n1, n2, n3⟩ := stt
    obtain ⟨hq, hi⟩ := over
    obtain ⟨its, rv, tup, hz⟩ := J.tuple hq
    obtain ⟨f0, f1, f2, f3, f4, f5⟩ := hf it (by simp)
    have len := rv.length
    have D := Draws.tuple (prog := X.prog) (w := X.w) (A := X.A.in1) (J.ok.hd hc) it a n2 its.toArray
    have ei : its.toArray.size = i := by rw [List.size_toArray]; omega
    exact wpAny_pyNext_enum_endD D he ⟨by rw [ei]; exact hit, tup⟩ fun h' eb => ⟨rfl, J.turned (t' := st.toks) (fun b o hb q => eb b o hb q) f0 f1 f3 f4 f5⟩
  self := fun A i st Q E stt now => let ⟨⟨_, he⟩, _⟩ := stt; wpAny_pyIter_enum he now
def iEnumT (K : PySem.W.Frag) (ta : TA) : TI := fun σ H R => ta σ H fun vs H1 => ∃ a xs, vs = [.ref a] ∧ SqT K H1 a xs ∧ R (IteT K a xs) H1
theorem pi_enumT (K : PySem.W.Frag) {X : Cx} (hk : X.K = K) {e : Expr} {ta : TA} {p pos tpos : Pos} {elts : List Expr} {kk : Nat} (hg : Gl X "enumerate") (hm : X.mg "enumerate" = none) (ha : PA X [e] ta) (hs : starEach [e] X.env = [(false, eval e X.env)] := by rfl) :
    PI X (.Tuple elts kk tpos) (.Call (.Name "enumerate" p) [e] [] pos) (iEnumT K ta) := by
  subst hk
  refine ⟨fun pins st σ H R J asked => ?_⟩
  refine Call_ (ld_blt J hg hm boot_enumerate (PyProof.Rows.callWith_type1 (thn (ha.run pos pins st σ H _ J asked) fun us st1 ⟨vs, H1, J1, rel, now⟩ => ?_) hs rfl))
  obtain ⟨a, xs, ex, hq, now⟩ := now
  subst ex
  obtain ⟨u, rfl, ru⟩ := vals1 rel
  obtain rfl : u = Value.ref a := ru
  obtain ⟨its, rv, tup, hz⟩ := J1.tuple hq
  have al : a < st1.heap.objs.size := by obtain ⟨o, ho, _⟩ := tup; exact Heap.lt_size ho
  refine call_enum_tup tup fun h' he hit size kp => wpAny_pyIter_enum he ?_
  have J2 : Inv X pins σ H1 { st1 with heap := h' } := J1.kept (t' := st1.toks) kp
  refine ⟨st1.heap.objs.size + 1, [st1.heap.objs.size + 1, st1.heap.objs.size], _, _, H1, rfl, J2, turn_enumT a (st1.heap.objs.size + 1) st1.heap.objs.size xs, ⟨⟨.none, he⟩, hit, Nat.succ_ne_self _, Nat.ne_of_lt al, Nat.ne_of_lt (Nat.lt_succ_of_lt al)⟩, fun b hb => ?_, now⟩
  have either : b = st1.heap.objs.size + 1 ∨ b = st1.heap.objs.size := by simpa using hb
  have low : st1.heap.objs.size ≤ b := by
    rcases either with z | z
    · rw [z]; exact Nat.le_add_right _ _
    · rw [z]; exact Nat.le_refl _
  exact J1.fpOk low (J1.hok.fresh low)
theorem one_at {K : PySem.W.Frag} {a : Addr} {od : Option Addr} {z : Str} {t1 : Tok} {n : Nat} {sl : Array (Option Value)} (l : K.lookup a = some ⟨.type "tuple", od, .seq #[.str z t1] n, sl⟩) (H : Hp) : SqT K H a [.str z] :=
  .inr ⟨_, _, _, l, rfl, rfl, (show 1 ≤ sizeLine by decide), .cons ⟨_, rfl⟩ .nil⟩
theorem op_notB {X : Cx} : OpR X (compareOp .IsNot) (fun x y H Q => ∃ a b : Bool, x = .bl a ∧ y = .bl b ∧ Q (.bl (!decide (a = b))) H) := by
  intro pins s σ H x y v u Q I rx ry h
  obtain ⟨a, b, rfl, rfl, q⟩ := h
  obtain rfl : v = Value.bool a := rx
  obtain rfl : u = Value.bool b := ry
  exact wpAny_isNot_plain rfl (fin_bl I q (by cases a <;> cases b <;> rfl))
theorem op_isB {X : Cx} : OpR X (compareOp .Is) (fun x y H Q => ∃ a b : Bool, x = .bl a ∧ y = .bl b ∧ Q (.bl (decide (a = b))) H) := by
  intro pins s σ H x y v u Q I rx ry h
  obtain ⟨a, b, rfl, rfl, q⟩ := h
  obtain rfl : v = Value.bool a := rx
  obtain rfl : u = Value.bool b := ry
  exact wpAny_is_plain rfl (fin_bl I q (by cases a <;> cases b <;> rfl))
section
variable {P : Program} {w : World} {K : PySem.W.Frag} {mg : Str → Option Value} {base : Heap}
def sp_law_flow (K : PySem.W.Frag) : Sp := fun vs H Q _ => ∃ (a : Addr) (ns : List Int), vs = [.ref a] ∧ SqL K H a (ns.map V.int) ∧ ∀ (f c : Addr) (H' : Hp), H f = none → H c = none → Flow H' f c → Same H H' → Q (.ref f) H'
theorem ok_law_flow {f : Addr} {fd : FuncData} (F : Fun K "_law_flow" "_law_flow" s_law_flow f fd) (T : Top K mg) : FnOk P w K mg base CX0 1 f fd ["_law_script"] (sp_law_flow K) := by
  refine F.ok sc_law_flow (fun vs H Q E h => ?_) (fun cdv A outer s H vs Q E hr h => ?_)
  · obtain ⟨a, ns, rfl, _⟩ := h
    rfl
  obtain ⟨a, ns, rfl, hS, q⟩ := h
  refine ⟨_, (pss_one (ps_ret (pe_lst (pa_cons (pe_callTy (call_list_ofK K rfl) (by rfl) T.m_list (by decide +kernel) (pa_cons (pv 0) pa_nil)) (pa_cons pe_int (pa_cons pe_int (pa_cons pe_int (pa_cons pe_int pa_nil)))))))), ?_⟩
  refine ⟨_, rfl, a, _, rfl, .inl hS, fun c hc => ?_⟩
  refine ⟨(by show 5 ≤ sizeLine; decide), fun f hf => ?_⟩
  have nf : H f = none := by
    cases e : H f with
    | none => rfl
    | some o => rw [same_new hc _ _ e] at hf; cases hf
  have s1 := same_new (o := .lst (ns.map V.int)) hc
  refine q f c _ nf hc ⟨ns, 0, 0, 1, 0, upd_same, same_new hf _ _ upd_same, by decide, by decide, by decide, by decide⟩ fun b o e => same_new hf _ _ (s1 _ _ e)
def sp_law_pick (K : PySem.W.Frag) : Sp := fun vs H Q _ => ∃ (f c : Addr) (m : Int), vs = [.ref f, .int m] ∧ 0 < m ∧ m.natAbs.log2 < 9000 ∧ Flow H f c ∧
  ∀ (v : Int) (H' : Hp), 0 ≤ v → v < m → Flow H' f c → But f H H' → Q (.int v) H'
theorem ok_law_pick {f : Addr} {fd : FuncData} (F : Fun K "_law_pick" "_law_pick" s_law_pick f fd) (T : Top K mg) : FnOk P w K mg base CX0 1 f fd ["_law_flow_here", "_law_many"] (sp_law_pick K) := by
  refine F.ok sc_law_pick (fun vs H Q E h => ?_) (fun cdv A outer s H vs Q E hr h => ?_)
  · obtain ⟨f, c, m, rfl, _⟩ := h
    rfl
  obtain ⟨f, c, m, rfl, m0, m9, hF, q⟩ := h
  obtain ⟨ns, i, p, z, r, hf, hc, hi, hp, hz, hz2⟩ := hF
  have ncf : c ≠ f := ne_of hc hf (by intro e; injection e with e; cases ns with | nil => cases e | cons x l => cases e)
  let R1 : TS := fun D' σ' H' => D'.rt = Q ∧ ∃ x2 : Option V, σ' = [some (.ref f), some (.int m), x2, none] ∧ (∃ (i p z r : Int), H' f = some (.lst [.ref c, .int i, .int p, .int z, .int r]) ∧ H' c = some (.lst (ns.map V.int)) ∧ 0 ≤ i ∧ 0 ≤ p ∧ 0 ≤ z ∧ z < 2147483647) ∧ But f H H'
  refine ⟨_, (pss_cons (ps_if (PW.pt (pw_and (pt_cmpR op_eq (pe_ix (ix_listK K rfl) (pv 0) pe_int (fun _ _ => rfl)) pe_int (nomark _)) (pw_and1 (pt_cmpR op_lt (pe_ix (ix_listK K rfl) (pv 0) pe_int (fun _ _ => rfl)) (pe_callB (call_len_seqK K rfl) (by rfl) T.m_len (by decide +kernel) (pa_cons (pe_ix (ix_listK K rfl) (pv 0) pe_int (fun _ _ => rfl)) pa_nil)) (nomark _))))) (pss_cons (ps_set (i := 2) sc_law_pick.nd rfl (Or.inl rfl) (pe_ix (ix_listK K rfl) (pe_ix (ix_listK K rfl) (pv 0) pe_int (fun _ _ => rfl)) (pe_ix (ix_listK K rfl) (pv 0) pe_int (fun _ _ => rfl)) (fun _ _ => rfl)))
      (pss_cons (ps_asg (pe_op op_add (pe_ix (ix_listK K rfl) (pv 0) pe_int (fun _ _ => rfl)) pe_int) (pg_sub (pv 0) pe_int set_list))
      (pss_one (ps_if (pt_cmpR op_ge (pv 2) (pe_op op_pow pe_int pe_int) (nomark _)) (pss_one (ps_asg (pv 2) (pg_sub (pv 0) pe_int set_list))) (pss_one (ps_asg (pe_op op_mod (pe_op op_add (pe_op op_add (pe_op op_mul (pe_ix (ix_listK K rfl) (pv 0) pe_int (fun _ _ => rfl)) pe_int) (pe_op op_mod (pv 2) pe_int)) pe_int) pe_int) (pg_sub (pv 0) pe_int set_list))))))) pss_nil)
      (PSs.to (pss_cons (ps_if (pt_cmpR op_gt (pe_ix (ix_listK K rfl) (pv 0) pe_int (fun _ _ => rfl)) pe_int (nomark _)) (pss_cons (ps_set (i := 3) sc_law_pick.nd rfl (Or.inl rfl) (pe_op op_mod (pe_ix (ix_listK K rfl) (pv 0) pe_int (fun _ _ => rfl)) (pv 1)))
      (pss_cons (ps_asg (pe_op op_fdivW (pe_ix (ix_listK K rfl) (pv 0) pe_int (fun _ _ => rfl)) (pv 1)) (pg_sub (pv 0) pe_int set_list))
      (pss_one (ps_ret (pv 3))))) pss_nil)
      (pss_cons (ps_asg (pe_op op_add (pe_ix (ix_listK K rfl) (pv 0) pe_int (fun _ _ => rfl)) pe_int) (pg_sub (pv 0) pe_int set_list))
      (pss_cons (ps_asg (pe_op op_mod (pe_op op_add (pe_op op_add (pe_op op_mul (pe_ix (ix_listK K rfl) (pv 0) pe_int (fun _ _ => rfl)) pe_int) pe_int) (pe_ix (ix_listK K rfl) (pv 0) pe_int (fun _ _ => rfl))) pe_int) (pg_sub (pv 0) pe_int set_list))
      (pss_one (ps_ret (pe_op op_mod (pe_op op_fdiv (pe_op op_mod (pe_op op_mul (pe_op op_add (pe_op op_mod (pe_ix (ix_listK K rfl) (pv 0) pe_int (fun _ _ => rfl)) pe_int) pe_int) (pe_op op_add (pe_op op_fdiv (pe_ix (ix_listK K rfl) (pv 0) pe_int (fun _ _ => rfl)) pe_int) pe_int)) pe_int) pe_int) (pv 1))))))) R1 ?tail1)), ?_⟩
  case tail1 =>
    rintro D' σ' H1 ⟨eD, x2, rfl, ⟨i, p, z, r, hf, hc, hi, hp, hz, hz2⟩, bt⟩
    refine ⟨_, rfl, f, _, _, _, rfl, rfl, SqL.of hf, atI_nat (j := 2) rfl, _, _, rfl, rfl, _, rfl, if_bl (fun c1 => ?_) (fun c1 => ?_)⟩
    · refine ⟨_, rfl, f, _, _, _, rfl, rfl, SqL.of hf, atI_nat (j := 2) rfl, _, rfl, _, _, rfl, rfl, m0, ?_⟩
      refine ⟨_, rfl, f, _, _, _, rfl, rfl, SqL.of hf, atI_nat (j := 2) rfl, _, rfl, _, _, rfl, rfl, ⟨m0, m9⟩, _, rfl, f, _, _, 2, rfl, rfl, hf, rfl, ?_⟩
      refine ⟨_, rfl, ?_⟩
      rw [eD]
      exact q _ _ (Int.emod_nonneg _ (by omega)) (Int.emod_lt_of_pos _ m0) ⟨ns, i, p / m, z, r, upd_same, (by rw [upd_ne ncf]; exact hc), hi, Int.ediv_nonneg hp (by omega), hz, hz2⟩ bt.upd
    · refine ⟨_, rfl, f, _, _, _, rfl, rfl, SqL.of hf, atI_nat (j := 4) rfl, _, _, rfl, rfl, _, rfl, f, _, _, 4, rfl, rfl, hf, rfl, ?_⟩
      have hf2 : upd H1 f (.lst ([V.ref c, V.int i, V.int p, V.int z, V.int r].set 4 (V.int (r + 1)))) f = some (.lst [.ref c, .int i, .int p, .int z, .int (r + 1)]) := upd_same
      refine ⟨_, rfl, f, _, _, _, rfl, rfl, SqL.of hf2, atI_nat (j := 3) rfl, _, _, rfl, rfl, .inl ⟨by omega, by omega⟩, _, _, rfl, rfl, _, rfl, f, _, _, _, rfl, rfl, SqL.of hf2, atI_nat (j := 4) rfl, _, _, rfl, rfl, _, _, rfl, rfl, (by show (0 : Int) < 2147483647; decide), _, rfl, f, _, _, 3, rfl, rfl, hf2, rfl, ?_⟩
      have z0 : 0 ≤ (z * 48271 + 12820163 + (r + 1)) % 2147483647 := Int.emod_nonneg _ (by decide)
      have z1 : (z * 48271 + 12820163 + (r + 1)) % 2147483647 < 2147483647 := Int.emod_lt_of_pos _ (by decide)
      have hf3 : upd (upd H1 f (.lst ([V.ref c, V.int i, V.int p, V.int z, V.int r].set 4 (V.int (r + 1))))) f (.lst ([V.ref c, V.int i, V.int p, V.int z, V.int (r + 1)].set 3 (V.int ((z * 48271 + 12820163 + (r + 1)) % 2147483647)))) f =
        some (.lst [.ref c, .int i, .int p, .int ((z * 48271 + 12820163 + (r + 1)) % 2147483647), .int (r + 1)]) := upd_same
      have hc3 : upd (upd H1 f (.lst ([V.ref c, V.int i, V.int p, V.int z, V.int r].set 4 (V.int (r + 1))))) f (.lst ([V.ref c, V.int i, V.int p, V.int z, V.int (r + 1)].set 3 (V.int ((z * 48271 + 12820163 + (r + 1)) % 2147483647)))) c = some (.lst (ns.map V.int)) := by
        rw [upd_ne ncf, upd_ne ncf]
        exact hc
      refine ⟨_, rfl, f, _, _, _, rfl, rfl, SqL.of hf3, atI_nat (j := 3) rfl, _, _, rfl, rfl, (by show (0 : Int) < 65521; decide), _, _, rfl, rfl, _, rfl, f, _, _, _, rfl, rfl, SqL.of hf3, atI_nat (j := 3) rfl, _, _, rfl, rfl, ⟨by decide, by decide⟩, _, _, rfl, rfl, _, _, rfl, rfl, .inl ⟨?_, ?_⟩, _, _, rfl, rfl, (by show (0 : Int) < 1000003; decide), _, _, rfl, rfl, ⟨by decide, by decide⟩, _, rfl, _, _, rfl, rfl, m0, ?_⟩
      · omega
      · omega
      · rw [eD]
        exact q _ _ (Int.emod_nonneg _ (by omega)) (Int.emod_lt_of_pos _ m0) ⟨ns, i, p, _, r + 1, hf3, hc3, hi, hp, z0, z1⟩ bt.upd.upd
  refine ⟨_, rfl, f, _, _, _, rfl, rfl, SqL.of hf, atI_nat (j := 2) rfl, rfl, _, rfl, if_bl (fun c1 => ?_) (fun c1 => ?_)⟩
  · refine ⟨_, rfl, f, _, _, _, rfl, rfl, SqL.of hf, atI_nat (j := 1) rfl, _, rfl, f, _, _, _, rfl, rfl, SqL.of hf, atI_nat (j := 0) rfl, c, _, rfl, .inl (SqL.of hc), _, _, rfl, rfl, _, rfl, if_bl (fun c2 => ?_) (fun c2 => ?_)⟩
    · have c3 : i < ((ns.map V.int).length : Int) := of_decide_eq_true c2
      rw [List.length_map] at c3
      obtain ⟨v, hv⟩ := at_ints hi c3
      refine ⟨_, rfl, f, _, _, _, rfl, rfl, SqL.of hf, atI_nat (j := 0) rfl, _, rfl, f, _, _, _, rfl, rfl, SqL.of hf, atI_nat (j := 1) rfl, c, _, i, _, rfl, rfl, SqL.of hc, hv, ?_⟩
      refine ⟨_, rfl, f, _, _, _, rfl, rfl, SqL.of hf, atI_nat (j := 1) rfl, _, _, rfl, rfl, _, rfl, f, _, _, 1, rfl, rfl, hf, rfl, ?_⟩
      have hf2 : upd H f (.lst ([V.ref c, V.int i, V.int p, V.int z, V.int r].set 1 (V.int (i + 1)))) f = some (.lst [.ref c, .int (i + 1), .int p, .int z, .int r]) := upd_same
      refine ⟨_, rfl, _, _, rfl, rfl, ⟨by decide, by decide, by decide⟩, _, _, rfl, rfl, _, rfl, if_bl (fun c4 => ?_) (fun c4 => ?_)⟩
      · have c5 : (10 : Int) ^ (18 : Int).toNat ≤ v := of_decide_eq_true c4
        have c6 : (0 : Int) ≤ (10 : Int) ^ (18 : Int).toNat := by decide
        refine ⟨_, rfl, _, rfl, f, _, _, 2, rfl, rfl, hf2, rfl, rfl, _, rfl, ⟨i + 1, v, z, r, upd_same, ?_, by omega, by omega, hz, hz2⟩, But.refl.upd.upd⟩
        rw [upd_ne ncf, upd_ne ncf]
        exact hc
      · refine ⟨_, rfl, f, _, _, _, rfl, rfl, SqL.of hf2, atI_nat (j := 3) rfl, _, _, rfl, rfl, .inl ⟨by omega, by omega⟩, _, rfl, _, _, rfl, rfl, (by show (0 : Int) < 1000003; decide), _, _, rfl, rfl, _, _, rfl, rfl, _, _, rfl, rfl, (by show (0 : Int) < 2147483647; decide), _, rfl, f, _, _, 3, rfl, rfl, hf2, rfl, rfl, _, rfl, ⟨i + 1, p, _, r, upd_same, ?_, by omega, hp, Int.emod_nonneg _ (by decide), Int.emod_lt_of_pos _ (by decide)⟩, But.refl.upd.upd⟩
        rw [upd_ne ncf, upd_ne ncf]
        exact hc
    · exact ⟨rfl, _, rfl, ⟨i, p, z, r, hf, hc, hi, hp, hz, hz2⟩, But.refl⟩
  · exact ⟨rfl, _, rfl, ⟨i, p, z, r, hf, hc, hi, hp, hz, hz2⟩, But.refl⟩
end
/-! ### rooms: what they are -/
/-- a hand: its rule's word, its number if it has one, its moments -/
structure HR where
  wd : Str
  no : Option Int
  mom : Int
/-- a belt -/
structure BR where
  one : Nat
  to : Nat
  th : List Int
abbrev ruleL (h : HR) : List V := .str h.wd :: (match h.no with | none => [] | some n => [.int n])
def HandAt (H : Hp) (v : V) (h : HR) : Prop := ∃ t r : Addr, v = .ref t ∧ H t = some (.tup [.ref r, .int h.mom]) ∧ H r = some (.tup (ruleL h))
def BeltAt (H : Hp) (v : V) (b : BR) : Prop := ∃ t g : Addr, v = .ref t ∧ H t = some (.tup [.int (b.one : Nat), .int (b.to : Nat), .ref g]) ∧ H g = some (.tup (b.th.map V.int))
theorem HandAt.keep {H H' : Hp} {v : V} {h : HR} (a : HandAt H v h) (k : TK H H') : HandAt H' v h := by
  obtain ⟨t, r, e, e1, e2⟩ := a
  exact ⟨t, r, e, k _ _ e1, k _ _ e2⟩
theorem BeltAt.keep {H H' : Hp} {v : V} {b : BR} (a : BeltAt H v b) (k : TK H H') : BeltAt H' v b := by
  obtain ⟨t, r, e, e1, e2⟩ := a
  exact ⟨t, r, e, k _ _ e1, k _ _ e2⟩
def nine : List Str := ["always", "same", "times", "sum", "gap", "below", "most", "least", "pick"]
def needs (wd : Str) : Int := if wd ∈ (["in", "always"] : List Str) then 0 else if wd ∈ (["out", "same", "times"] : List Str) then 1 else 2 + (if wd = "pick" then 1 else 0)
/-- a rule of one of the nine words -/
structure GoodRule (h : HR) : Prop where
  wd : h.wd ∈ nine
  no : h.no.isSome = true ↔ h.wd = "times" ∨ h.wd = "always"
  big : ∀ n, h.no = some n → -1000000 ≤ n ∧ n ≤ 1000000
def GoodHand (h : HR) : Prop := (GoodRule h ∨ ((h.wd = "in" ∨ h.wd = "out") ∧ h.no = none)) ∧ 0 ≤ h.mom ∧ h.mom ≤ 30
def Small (v : Int) : Prop := -1000000 ≤ v ∧ v ≤ 1000000
section
variable {P : Program} {w : World} {K : PySem.W.Frag} {mg : Str → Option Value} {base : Heap}
def sp_law_thing (K : PySem.W.Frag) : Sp := fun vs H Q _ => ∃ f c : Addr, vs = [.ref f] ∧ Flow H f c ∧ ∀ (v : Int) (H' : Hp), Small v → Flow H' f c → But f H H' → Q (.int v) H'
theorem ok_law_thing {f : Addr} {fd : FuncData} (F : Fun K "_law_thing" "_law_thing" s_law_thing f fd) (T : Top K mg) : FnOk P w K mg base CX0 2 f fd ["_law_flow_here"] (sp_law_thing K) := by
  obtain ⟨f_law_pick, fd_law_pick, F_law_pick, b_law_pick, m_law_pick⟩ := T.d_law_pick
  have G_law_pick := ok_law_pick (P := P) (w := w) (base := base) F_law_pick T
  refine F.ok sc_law_thing (fun vs H Q E h => ?_) (fun cdv A outer s H vs Q E hr h => ?_)
  · obtain ⟨f, c, rfl, _⟩ := h
    rfl
  obtain ⟨f, c, rfl, hF, q⟩ := h
  refine ⟨_, (pss_cons (ps_if (pt_cmpR op_gt (pe_call G_law_pick (hr.mono (by decide)) (by rfl) m_law_pick F_law_pick.kp b_law_pick .nil pass0 (pa_cons (pv 0) (pa_cons pe_int pa_nil))) pe_int (nomark _)) (pss_one (ps_ret (pe_op op_sub (pe_call G_law_pick (hr.mono (by decide)) (by rfl) m_law_pick F_law_pick.kp b_law_pick .nil pass0 (pa_cons (pv 0) (pa_cons pe_int pa_nil))) pe_int))) pss_nil)
      (pss_one (ps_ret (pe_op op_sub (pe_call G_law_pick (hr.mono (by decide)) (by rfl) m_law_pick F_law_pick.kp b_law_pick .nil pass0 (pa_cons (pv 0) (pa_cons pe_int pa_nil))) pe_int)))), ?_⟩
  refine ⟨_, rfl, f, c, 3, rfl, by decide, by decide +kernel, hF, fun v1 H1 a1 b1 F1 B1 => ⟨_, _, rfl, rfl, _, rfl, if_bl (fun _ => ?_) (fun _ => ?_)⟩⟩
  · exact ⟨_, rfl, f, c, 7, rfl, by decide, by decide +kernel, F1, fun v2 H2 a2 b2 F2 B2 => ⟨_, _, rfl, rfl, q _ _ ⟨by omega, by omega⟩ F2 (B1.trans B2)⟩⟩
  · exact ⟨_, rfl, f, c, 2000001, rfl, by decide, by decide +kernel, F1, fun v2 H2 a2 b2 F2 B2 => ⟨_, _, rfl, rfl, q _ _ ⟨by omega, by omega⟩ F2 (B1.trans B2)⟩⟩
def sp_law_needs (K : PySem.W.Frag) : Sp := fun vs H Q _ => ∃ (r : Addr) (wd : Str) (l : List V), vs = [.ref r] ∧ SqT K H r (.str wd :: l) ∧ ∀ H', Same H H' → Q (.int (needs wd)) H'
theorem ok_law_needs {f : Addr} {fd : FuncData} (F : Fun K "_law_needs" "_law_needs" s_law_needs f fd) (T : Top K mg) : FnOk P w K mg base CX0 1 f fd ["_law_rule_here"] (sp_law_needs K) := by
  refine F.ok sc_law_needs (fun vs H Q E h => ?_) (fun cdv A outer s H vs Q E hr h => ?_)
  · obtain ⟨r, wd, l, rfl, _⟩ := h
    rfl
  obtain ⟨r, wd, l, rfl, hR, q⟩ := h
  unfold needs at q
  refine ⟨_, (pss_cons (ps_if (pt_cmpR (op_in_seqK K rfl) (pe_ix (ix_tupK K rfl) (pv 0) pe_int (fun _ _ => rfl)) (pe_tup (pa_cons pe_str (pa_cons pe_str pa_nil))) (by with_unfolding_all rfl)) (pss_one (ps_ret pe_int)) pss_nil)
      (pss_cons (ps_if (pt_cmpR (op_in_seqK K rfl) (pe_ix (ix_tupK K rfl) (pv 0) pe_int (fun _ _ => rfl)) (pe_tup (pa_cons pe_str (pa_cons pe_str (pa_cons pe_str pa_nil)))) (by with_unfolding_all rfl)) (pss_one (ps_ret pe_int)) pss_nil)
      (pss_one (ps_ret (pe_op op_add pe_int (pe_callTy call_int1 (by rfl) T.m_int (by decide +kernel) (pa_cons (pe_cmpR op_eq (pe_ix (ix_tupK K rfl) (pv 0) pe_int (fun _ _ => rfl)) pe_str (nomark _)) pa_nil))))))), ?_⟩
  refine ⟨_, rfl, r, _, _, _, rfl, rfl, hR, atI_nat (j := 0) rfl, (by show 2 ≤ sizeLine; decide), fun p np => ⟨p, _, rfl, .inr (SqT.of upd_same), rfl, rfl, _, rfl, if_in (zs := ["in", "always"]) (fun e => ?_) (fun e => ?_)⟩⟩
  · have q := q _ (same_new (o := .tup [V.str "in", V.str "always"]) np)
    rw [if_pos e] at q
    exact q
  have s1 := same_new (o := .tup [V.str "in", V.str "always"]) np
  refine ⟨_, rfl, r, _, _, _, rfl, rfl, same_seqT s1 hR, atI_nat (j := 0) rfl, (by show 3 ≤ sizeLine; decide), fun p2 np2 => ⟨p2, _, rfl, .inr (SqT.of upd_same), rfl, rfl, _, rfl, if_in (zs := ["out", "same", "times"]) (fun e2 => ?_) (fun e2 => ?_)⟩⟩
  · have q := q _ (s1.trans (same_new (o := .tup [V.str "out", V.str "same", V.str "times"]) np2))
    rw [if_neg e, if_pos e2] at q
    exact q
  have s2 := s1.trans (same_new (o := .tup [V.str "out", V.str "same", V.str "times"]) np2)
  have q := q _ s2
  rw [if_neg e, if_neg e2] at q
  refine ⟨_, rfl, r, _, _, _, rfl, rfl, same_seqT s2 hR, atI_nat (j := 0) rfl, rfl, .inr ⟨_, rfl, _, _, rfl, rfl, ?_⟩⟩
  by_cases k : wd = "pick"
  · rw [if_pos k] at q
    rw [decide_eq_true (show V.str wd = V.str "pick" by rw [k])]
    exact q
  · rw [if_neg k] at q
    rw [decide_eq_false (show ¬ V.str wd = V.str "pick" from fun z => k (V.str.inj z))]
    exact q
theorem nine_at {m : Int} (h0 : 0 ≤ m) (h9 : m < 9) : ∃ wd : Str, wd ∈ nine ∧ atI (nine.map V.str) m = some (.str wd) ∧ (m < 1 → needs wd ≤ 0) ∧ (m < 3 → needs wd ≤ 1) ∧ (m < 8 → needs wd ≤ 2) ∧ needs wd ≤ 3 ∧ 0 ≤ needs wd := by
  have : m = 0 ∨ m = 1 ∨ m = 2 ∨ m = 3 ∨ m = 4 ∨ m = 5 ∨ m = 6 ∨ m = 7 ∨ m = 8 := by omega
  rcases this with rfl | rfl | rfl | rfl | rfl | rfl | rfl | rfl | rfl
  · exact ⟨"always", by decide +kernel, rfl, by decide +kernel, by decide +kernel, by decide +kernel, by decide +kernel, by decide +kernel⟩
  · exact ⟨"same", by decide +kernel, rfl, by decide +kernel, by decide +kernel, by decide +kernel, by decide +kernel, by decide +kernel⟩
  · exact ⟨"times", by decide +kernel, rfl, by decide +kernel, by decide +kernel, by decide +kernel, by decide +kernel, by decide +kernel⟩
  · exact ⟨"sum", by decide +kernel, rfl, by decide +kernel, by decide +kernel, by decide +kernel, by decide +kernel, by decide +kernel⟩
  · exact ⟨"gap", by decide +kernel, rfl, by decide +kernel, by decide +kernel, by decide +kernel, by decide +kernel, by decide +kernel⟩
  · exact ⟨"below", by decide +kernel, rfl, by decide +kernel, by decide +kernel, by decide +kernel, by decide +kernel, by decide +kernel⟩
  · exact ⟨"most", by decide +kernel, rfl, by decide +kernel, by decide +kernel, by decide +kernel, by decide +kernel, by decide +kernel⟩
  · exact ⟨"least", by decide +kernel, rfl, by decide +kernel, by decide +kernel, by decide +kernel, by decide +kernel, by decide +kernel⟩
  · exact ⟨"pick", by decide +kernel, rfl, by decide +kernel, by decide +kernel, by decide +kernel, by decide +kernel, by decide +kernel⟩
def sp_law_rule (K : PySem.W.Frag) : Sp := fun vs H Q _ => ∃ (f c : Addr) (m : Int), vs = [.ref f, .int m] ∧ 0 ≤ m ∧ Flow H f c ∧
  ∀ (r : Addr) (h : HR) (H' : Hp), H' r = some (.tup (ruleL h)) → GoodRule h → needs h.wd ≤ m → 0 ≤ needs h.wd → h.mom = 0 → Flow H' f c → But f H H' → Q (.ref r) H'
theorem ok_law_rule {f : Addr} {fd : FuncData} (F : Fun K "_law_rule" "_law_rule" s_law_rule f fd) (T : Top K mg) : FnOk P w K mg base CX0 3 f fd ["_law_flow_here", "_law_most"] (sp_law_rule K) := by
  obtain ⟨f_law_pick, fd_law_pick, F_law_pick, b_law_pick, m_law_pick⟩ := T.d_law_pick
  have G_law_pick := ok_law_pick (P := P) (w := w) (base := base) F_law_pick T
  obtain ⟨f_law_thing, fd_law_thing, F_law_thing, b_law_thing, m_law_thing⟩ := T.d_law_thing
  have G_law_thing := ok_law_thing (P := P) (w := w) (base := base) F_law_thing T
  refine F.ok sc_law_rule (fun vs H Q E h => ?_) (fun cdv A outer s H vs Q E hr h => ?_)
  · obtain ⟨f, c, m, rfl, _⟩ := h
    rfl
  obtain ⟨f, c, m, rfl, m0, hF, q⟩ := h
  refine ⟨_, (pss_cons (ps_set (i := 2) sc_law_rule.nd rfl (Or.inl rfl) (pe_lst (pa_cons pe_str (pa_cons pe_str (pa_cons pe_str (pa_cons pe_str (pa_cons pe_str (pa_cons pe_str (pa_cons pe_str (pa_cons pe_str (pa_cons pe_str pa_nil)))))))))))
      (pss_cons (ps_set (i := 3) sc_law_rule.nd rfl (Or.inl rfl) (pe_ix (ix_listK K rfl) (pv 2) (pe_call G_law_pick (hr.mono (by decide)) (by rfl) m_law_pick F_law_pick.kp b_law_pick .nil pass0 (pa_cons (pv 0) (pa_cons (pe_ix (ix_listK K rfl) (pe_lst (pa_cons pe_int (pa_cons pe_int (pa_cons pe_int (pa_cons pe_int pa_nil))))) (pe_callB (call_min2 rfl) (by rfl) T.m_min (by decide +kernel) (pa_cons pe_int (pa_cons (pv 1) pa_nil))) (fun _ _ => rfl)) pa_nil))) (fun _ _ => rfl)))
      (pss_cons (ps_if (pt_cmpR op_eq (pv 3) pe_str (nomark _)) (pss_one (ps_ret (pe_tup (pa_cons (pv 3) (pa_cons (pe_op op_sub (pe_call G_law_pick (hr.mono (by decide)) (by rfl) m_law_pick F_law_pick.kp b_law_pick .nil pass0 (pa_cons (pv 0) (pa_cons pe_int pa_nil))) pe_int) pa_nil))))) pss_nil)
      (pss_cons (ps_if (pt_cmpR op_eq (pv 3) pe_str (nomark _)) (pss_one (ps_ret (pe_tup (pa_cons (pv 3) (pa_cons (pe_call G_law_thing (hr.mono (by decide)) (by rfl) m_law_thing F_law_thing.kp b_law_thing .nil pass0 (pa_cons (pv 0) pa_nil)) pa_nil))))) pss_nil)
      (pss_one (ps_ret (pe_tup (pa_cons (pv 3) pa_nil)))))))), ?_⟩
  refine ⟨(by show 9 ≤ sizeLine; decide), fun wl nwl => ?_⟩
  have F1 : Flow (upd H wl (.lst (nine.map V.str))) f c := hF.new nwl
  refine ⟨_, rfl, _, rfl, (by show 4 ≤ sizeLine; decide), fun cl ncl => ?_⟩
  have F2 : Flow (upd (upd H wl (.lst (nine.map V.str))) cl (.lst [V.int 1, V.int 3, V.int 8, V.int 9])) f c := F1.new ncl
  have B2 : But f H (upd (upd H wl (.lst (nine.map V.str))) cl (.lst [V.int 1, V.int 3, V.int 8, V.int 9])) := (But.refl.new nwl).new ncl
  obtain ⟨j, hj, j1, j9, jn⟩ : ∃ j : Int, atI [V.int 1, V.int 3, V.int 8, V.int 9] (if m < 3 then m else 3) = some (.int j) ∧ 1 ≤ j ∧ j ≤ 9 ∧ ((j = 1 ∧ m = 0) ∨ (j = 3 ∧ m = 1) ∨ (j = 8 ∧ m = 2) ∨ (j = 9 ∧ 3 ≤ m)) := by
    by_cases k : m < 3
    · rw [if_pos k]
      have : m = 0 ∨ m = 1 ∨ m = 2 := by omega
      rcases this with rfl | rfl | rfl
      · exact ⟨1, rfl, by decide, by decide, by decide⟩
      · exact ⟨3, rfl, by decide, by decide, by decide⟩
      · exact ⟨8, rfl, by decide, by decide, by decide⟩
    · rw [if_neg k]
      exact ⟨9, rfl, by decide, by decide, by omega⟩
  refine ⟨_, rfl, _, _, rfl, cl, _, _, _, rfl, rfl, SqL.of upd_same, hj, f, c, j, rfl, by omega, ?_, F2, fun v H1 v0 v1 F3 B3 => ?_⟩
  · have : j = 1 ∨ j = 3 ∨ j = 8 ∨ j = 9 := by omega
    rcases this with rfl | rfl | rfl | rfl <;> decide +kernel
  obtain ⟨wd, hw, hat, n1, n3, n8, n9, n0⟩ := nine_at v0 (by omega)
  have hn : needs wd ≤ m := by
    rcases jn with ⟨rfl, rfl⟩ | ⟨rfl, rfl⟩ | ⟨rfl, rfl⟩ | ⟨rfl, k⟩
    · exact n1 v1
    · exact n3 v1
    · exact n8 v1
    · omega
  have hwl : H1 wl = some (.lst (nine.map V.str)) := B3 _ _ (same_new ncl _ _ upd_same) (hF.ne nwl)
  refine ⟨wl, _, _, _, rfl, rfl, SqL.of hwl, hat, ?_⟩
  have BB := B2.trans B3
  refine ⟨_, rfl, rfl, _, rfl, if_str (fun e => ?_) (fun e => ?_)⟩
  · refine ⟨_, rfl, _, rfl, f, c, 19, rfl, by decide, by decide +kernel, F3, fun v2 H2 a2 b2 F4 B4 => ⟨_, _, rfl, rfl, (by show 2 ≤ sizeLine; decide), fun r nr => ?_⟩⟩
    exact q r ⟨wd, some (v2 - 9), 0⟩ _ upd_same ⟨hw, ⟨fun _ => .inl e, fun _ => rfl⟩, fun n en => by cases en; exact ⟨by omega, by omega⟩⟩ hn n0 rfl (F4.new nr) ((BB.trans B4).new nr)
  refine ⟨_, rfl, rfl, _, rfl, if_str (fun e2 => ?_) (fun e2 => ?_)⟩
  · refine ⟨_, rfl, _, rfl, f, c, rfl, F3, fun v2 H2 s2 F4 B4 => ⟨(by show 2 ≤ sizeLine; decide), fun r nr => ?_⟩⟩
    exact q r ⟨wd, some v2, 0⟩ _ upd_same ⟨hw, ⟨fun _ => .inr e2, fun _ => rfl⟩, fun n en => by cases en; exact s2⟩ hn n0 rfl (F4.new nr) ((BB.trans B4).new nr)
  · refine ⟨_, rfl, (by show 1 ≤ sizeLine; decide), fun r nr => ?_⟩
    exact q r ⟨wd, none, 0⟩ _ upd_same ⟨hw, ⟨(fun z => nomatch z), fun z => absurd z (fun z => z.elim e e2)⟩, (fun n en => nomatch en)⟩ hn n0 rfl (F3.new nr) (BB.new nr)
def sp_law_shuffled (K : PySem.W.Frag) : Sp := fun vs H Q _ => ∃ (f c l : Addr) (xs : List V), vs = [.ref f, .ref l] ∧ SqL K H l xs ∧ l ≠ f ∧ xs.length ≤ 500 ∧ Flow H f c ∧
  ∀ (p : Addr) (ys : List V) (H' : Hp), ys.Perm xs → H p = none → H' p = some (.lst ys) → Flow H' f c → But f H H' → Q (.ref p) H'
theorem But.seqL {K : PySem.W.Frag} {f a : Addr} {H H1 : Hp} {xs : List V} (b : But f H H1) (h : SqL K H a xs) (n : a ≠ f) : SqL K H1 a xs := by
  rcases h with h | h
  · left
    rcases h with h | ⟨o, h⟩
    · exact .inl (b _ _ h n)
    · exact .inr ⟨o, b _ _ h n⟩
  · exact .inr h
theorem same_seqL {K : PySem.W.Frag} {a : Addr} {H H1 : Hp} {xs : List V} (b : Same H H1) (h : SqL K H a xs) : SqL K H1 a xs := by
  rcases h with h | h
  · left
    rcases h with h | ⟨o, h⟩
    · exact .inl (b _ _ h)
    · exact .inr ⟨o, b _ _ h⟩
  · exact .inr h
theorem log_small {m : Nat} (h : m ≤ 500) : ((m : Int)).natAbs.log2 < 9000 := by
  rw [Int.natAbs_natCast]
  exact Nat.lt_of_le_of_lt (Nat.log2_le_self m) (by omega)
theorem perm_erase {α : Type} : ∀ {l : List α} {j : Nat} {y : α}, l[j]? = some y → (y :: l.eraseIdx j).Perm l
  | [], _, _, h => nomatch h
  | a :: l, 0, y, h => by
    cases h
    exact List.Perm.refl _
  | a :: l, j + 1, y, h => by
    have ih : (y :: l.eraseIdx j).Perm l := perm_erase h
    exact (List.Perm.swap a y _).trans (ih.cons a)
theorem ok_law_shuffled {f : Addr} {fd : FuncData} (F : Fun K "_law_shuffled" "_law_shuffled" s_law_shuffled f fd) (T : Top K mg) : FnOk P w K mg base CX0 2 f fd ["_law_flow_here", "_law_some"] (sp_law_shuffled K) := by
  obtain ⟨f_law_pick, fd_law_pick, F_law_pick, b_law_pick, m_law_pick⟩ := T.d_law_pick
  have G_law_pick := ok_law_pick (P := P) (w := w) (base := base) F_law_pick T
  refine F.ok sc_law_shuffled (fun vs H Q E h => ?_) (fun cdv A outer s H vs Q E hr h => ?_)
  · obtain ⟨f, c, l, xs, rfl, _⟩ := h
    rfl
  obtain ⟨f, c, l, xs, rfl, hL, nl, hlen, hF, q⟩ := h
  refine ⟨_, (pss_cons (ps_set (i := 2) sc_law_shuffled.nd rfl (Or.inr rfl) (pe_callTy (call_list_ofK K rfl) (by rfl) T.m_list (by decide +kernel) (pa_cons (pv 1) pa_nil)))
      (pss_one (ps_ret (pe_lc (own := [("_law_k", 3)]) (g := gName 3) (tt := tYes) (by rfl) sc_law_shuffled.nd (pi_range1 (by rfl) T.m_range (pa_cons (pe_callB (call_len_seqK K rfl) (by rfl) T.m_len (by decide +kernel) (pa_cons (pv 1) pa_nil)) pa_nil)) (blkOk_by (own := [("_law_k", 3)]) (N := N_law_shuffled) (sc := defScope s_law_shuffled) (by decide +kernel)) (fun _ _ _ _ _ => (pg_name (i := 3) sc_law_shuffled.nd rfl (Or.inl rfl))) (fun _ _ _ _ _ => pts_nil) (fun _ _ _ _ _ => (pe_bmK K rfl PySem.F.plainAttrs_list PySem.F.slot_list_pop PySem.F.type_list_pop mt_popAt (pv 2) (pa_cons (pe_call G_law_pick (hr.mono (by decide)) (by rfl) m_law_pick F_law_pick.kp b_law_pick .nil pass0 (pa_cons (pv 0) (pa_cons (pe_callB (call_len_seqK K rfl) (by rfl) T.m_len (by decide +kernel) (pa_cons (pv 2) pa_nil)) pa_nil))) pa_nil))))))), ?_⟩
  refine ⟨_, rfl, l, _, rfl, .inl hL, fun lf nlf => ?_⟩
  refine ⟨_, rfl, l, _, rfl, .inl (same_seqL (same_new nlf) hL), _, rfl, by omega, (by omega), fun D nD => ?_⟩
  have F1 : Flow (upd H lf (.lst xs)) f c := hF.new nlf
  have dl : D ≠ lf := (ne_of_none upd_same nD).symm
  refine lc_range (lo := 0) (n := xs.length) (fun i H5 => ∃ acc rest : List V, H5 D = some (.lst acc) ∧ H5 lf = some (.lst rest) ∧ acc.length = i ∧ rest.length + i = xs.length ∧ (acc ++ rest).Perm xs ∧ Flow H5 f c ∧ But f H H5)
    ⟨[], xs, upd_same, by rw [upd_ne dl.symm]; exact upd_same, rfl, by omega, List.Perm.refl _, F1.new nD, (But.refl.new nlf).new nD⟩ ?_ ?_
  · rintro i H5 hi ⟨acc, rest, hD, hl, ha, hr2, hp, F5, B5⟩
    refine ⟨rfl, yes_in ?_⟩
    refine ⟨_, rfl, .inl ⟨rfl, _, SqL.of hl⟩, _, rfl, _, rfl, lf, _, rfl, .inl (SqL.of hl), f, c, ((rest.length : Nat) : Int), rfl, by omega, log_small (by omega), F5, fun v H6 v0 v1 F6 B6 => ?_⟩
    have hl6 := B6 _ _ hl (hF.ne nlf)
    have hv : v.toNat < rest.length := by omega
    have e1 : seqIndex? v rest.length = some v.toNat := by
      rw [seqIndex_of v0 (by omega)]
    refine ⟨lf, rest, v, v.toNat, rest[v.toNat], rfl, rfl, hl6, by omega, by omega, e1, List.getElem?_eq_getElem hv, ?_⟩
    have hD6 := B6 _ _ hD (fun e => by rw [e] at nD; rw [show upd H lf (.lst xs) f = H f from upd_ne (hF.ne nlf).symm] at nD; obtain ⟨_, _, _, _, _, e1, _⟩ := hF; rw [e1] at nD; cases nD)
    refine ⟨acc, by rw [upd_ne dl]; exact hD6, small1000 (by omega), acc ++ [rest[v.toNat]], rest.eraseIdx v.toNat, upd_same, by rw [upd_ne dl.symm]; exact upd_same, by rw [List.length_append, ha]; rfl, ?_, ?_, ?_, ?_⟩
    · rw [List.length_eraseIdx, if_pos hv]
      omega
    · refine List.Perm.trans ?_ hp
      rw [List.append_assoc]
      exact List.Perm.append_left acc (perm_erase (List.getElem?_eq_getElem hv))
    · have dc : D ≠ c := fun e => by
        rw [e] at nD
        obtain ⟨_, _, _, _, _, _, e1, _⟩ := F1
        rw [e1] at nD
        cases nD
      exact (F6.lst (hF.ne nlf) (hF.nec nlf)).lst (F1.ne nD) dc
    · exact ((B5.trans B6).own nlf).own (same_none (same_new nlf) nD)
  · rintro H5 ⟨acc, rest, hD, hl, ha, hr2, hp, F5, B5⟩
    have er : rest = [] := by
      cases rest with
      | nil => rfl
      | cons a l => simp at hr2
    subst er
    rw [List.append_nil] at hp
    exact q D acc H5 hp (same_none (same_new nlf) nD) hD F5 B5
end
/-! ### the hands of a drawn room -/
def unS : V → Str
  | .str s => s
  | _ => ""
theorem perm_strs {ys : List V} {zs : List Str} (h : ys.Perm (zs.map V.str)) : ∃ ss : List Str, ys = ss.map V.str ∧ ss.Perm zs := by
  refine ⟨ys.map unS, ?_, ?_⟩
  · rw [List.map_map]
    symm
    refine (List.map_congr_left (g := id) fun y hy => ?_).trans (List.map_id _)
    obtain ⟨z, _, e⟩ := List.mem_map.mp (h.mem_iff.mp hy)
    subst e
    rfl
  · have q := h.map unS
    rw [List.map_map] at q
    have e : zs.map (unS ∘ V.str) = zs := (List.map_congr_left (g := id) fun z _ => rfl).trans (List.map_id _)
    rw [e] at q
    exact q
theorem flat_rep {α : Type} (x : α) : ∀ n : Nat, (List.replicate n [x]).flatten = List.replicate n x
  | 0 => rfl
  | n + 1 => by
    rw [List.replicate_succ, List.flatten_cons, flat_rep x n]
    rfl
def cnt (ss : List Str) : Nat := (ss.filter fun s => !decide (s = ("in" : Str))).length
theorem cnt_le (ss : List Str) : cnt ss ≤ ss.length := List.length_filter_le ..
theorem cut_drop (xs : List V) (k : Nat) : cutV xs (some ((k : Nat) : Int)) none = xs.drop k := by
  unfold cutV
  rw [HT.sIx_nat, HT.sIx_none]
  by_cases h : k ≤ xs.length
  · rw [Nat.min_eq_left h]
    exact List.take_of_length_le (by rw [List.length_drop]; exact Nat.le_refl _)
  · rw [Nat.min_eq_right (by omega), Nat.sub_self, List.take_zero, List.drop_eq_nil_of_le (by omega)]
structure HInv (f c sl hh : Addr) (ss : List Str) (H0 H : Hp) (i : Nat) (vs : List V) (hs : List HR) (left : Int) : Prop where
  fl : Flow H f c
  bt : But f H0 H
  hsl : H sl = some (.lst (ss.map V.str))
  hhh : H hh = some (.lst vs)
  al : All2 (HandAt H) vs hs
  len : hs.length = i
  good : ∀ h ∈ hs, GoodHand h
  lf : (cnt (ss.drop i) : Int) ≤ left
  sum : (hs.map fun h => needs h.wd).sum + left = 20
  nz : ∀ h ∈ hs, 0 ≤ needs h.wd
  one : ("hand" : Str) ∈ ss.take i → ∃ h ∈ hs, h.wd ≠ "out"
  n1 : sl ≠ f
  n2 : sl ≠ hh
  n3 : hh ≠ f
  n4 : hh ≠ c
  n5 : H0 hh = none
section
variable {f c sl hh : Addr} {ss : List Str} {H0 H H' : Hp} {i : Nat} {vs : List V} {hs : List HR} {left : Int}
theorem HInv.but (s : HInv f c sl hh ss H0 H i vs hs left) (F : Flow H' f c) (b : But f H H') : HInv f c sl hh ss H0 H' i vs hs left :=
  { s with fl := F, bt := s.bt.trans b, hsl := b _ _ s.hsl s.n1, hhh := b _ _ s.hhh s.n3, al := s.al.imp fun _ _ k => k.keep (TK.but s.fl b) }
theorem HInv.new {p : Addr} {o : HO} (s : HInv f c sl hh ss H0 H i vs hs left) (n : H p = none) : HInv f c sl hh ss H0 (upd H p o) i vs hs left :=
  { s with fl := s.fl.new n, bt := s.bt.new n, hsl := same_new n _ _ s.hsl, hhh := same_new n _ _ s.hhh, al := s.al.imp fun _ _ k => k.keep (TK.new n) }
theorem HInv.same (s : HInv f c sl hh ss H0 H i vs hs left) (k : Same H H') : HInv f c sl hh ss H0 H' i vs hs left :=
  { s with fl := s.fl.same k, bt := s.bt.same k, hsl := k _ _ s.hsl, hhh := k _ _ s.hhh, al := s.al.imp fun _ _ z => z.keep (TK.same k) }
theorem HInv.step {x : V} {h : HR} {sd : Str} (s : HInv f c sl hh ss H0 H i vs hs left) (hx : HandAt H x h) (g : GoodHand h) (z : 0 ≤ needs h.wd) (k : needs h.wd + (cnt (ss.drop (i + 1)) : Int) ≤ left) (e : ss[i]? = some sd) (o : sd = "hand" → h.wd ≠ "out") :
    HInv f c sl hh ss H0 (upd H hh (.lst (vs ++ [x]))) (i + 1) (vs ++ [x]) (hs ++ [h]) (left - needs h.wd) := by
  refine { s with fl := s.fl.lst s.n3 s.n4, bt := s.bt.own s.n5, hsl := by rw [upd_ne s.n2]; exact s.hsl, hhh := upd_same, al := (s.al.snoc hx).imp fun _ _ z => z.keep (TK.lst s.hhh), len := by rw [List.length_append, s.len]; rfl, good := ?_, lf := by omega, sum := ?_, nz := ?_, one := ?_ }
  · intro y hy
    rcases List.mem_append.mp hy with hy | hy
    · exact s.good y hy
    · obtain rfl : y = h := by simpa using hy
      exact g
  · have := s.sum
    rw [List.map_append, List.sum_append]
    simp only [List.map_cons, List.map_nil, List.sum_cons, List.sum_nil]
    omega
  · intro y hy
    rcases List.mem_append.mp hy with hy | hy
    · exact s.nz y hy
    · obtain rfl : y = h := by simpa using hy
      exact z
  · intro hm
    rw [List.take_add_one, e] at hm
    rcases List.mem_append.mp hm with hm | hm
    · obtain ⟨y, h1, h2⟩ := s.one hm
      exact ⟨y, List.mem_append_left _ h1, h2⟩
    · have e2 : ("hand" : Str) = sd := by simpa using hm
      exact ⟨h, List.mem_append_right _ (by simp), o e2.symm⟩
end
theorem cnt_cons {ss : List Str} {i : Nat} {sd : Str} (e : ss[i]? = some sd) : cnt (ss.drop i) = (if sd = "in" then 0 else 1) + cnt (ss.drop (i + 1)) := by
  have hi := (List.getElem?_eq_some_iff.mp e).1
  have e2 : ss.drop i = sd :: ss.drop (i + 1) := by
    rw [List.drop_eq_getElem_cons hi, (List.getElem?_eq_some_iff.mp e).2]
  rw [e2]
  unfold cnt
  rw [List.filter_cons]
  by_cases k : sd = "in"
  · rw [if_pos k, decide_eq_true k]
    simp
  · rw [if_neg k, decide_eq_false k]
    simp only [Bool.not_false, if_true, List.length_cons]
    omega
section
variable {P : Program} {w : World} {K : PySem.W.Frag} {mg : Str → Option Value} {base : Heap}
structure HandsOk (hs : List HR) : Prop where
  len : hs.length ≤ 12
  good : ∀ h ∈ hs, GoodHand h
  sum : (hs.map fun h => needs h.wd).sum ≤ 20
  nz : ∀ h ∈ hs, 0 ≤ needs h.wd
  one : ∃ h ∈ hs, h.wd ≠ "out"
def sp_law_hands (K : PySem.W.Frag) : Sp := fun vs H Q _ => ∃ (f c : Addr) (m : Int), vs = [.ref f, .int m] ∧ 1 ≤ m ∧ m ≤ 8 ∧ Flow H f c ∧
  ∀ (p : Addr) (xs : List V) (hs : List HR) (H' : Hp), H p = none → H' p = some (.lst xs) → All2 (HandAt H') xs hs → HandsOk hs → Flow H' f c → But f H H' → Q (.ref p) H'
theorem ok_law_hands {f : Addr} {fd : FuncData} (F : Fun K "_law_hands" "_law_hands" s_law_hands f fd) (T : Top K mg) : FnOk P w K mg base CX0 4 f fd ["_law_flow_here", "_law_many"] (sp_law_hands K) := by
  obtain ⟨f_law_shuffled, fd_law_shuffled, F_law_shuffled, b_law_shuffled, m_law_shuffled⟩ := T.d_law_shuffled
  have G_law_shuffled := ok_law_shuffled (P := P) (w := w) (base := base) F_law_shuffled T
  obtain ⟨f_law_rule, fd_law_rule, F_law_rule, b_law_rule, m_law_rule⟩ := T.d_law_rule
  have G_law_rule := ok_law_rule (P := P) (w := w) (base := base) F_law_rule T
  obtain ⟨f_law_needs, fd_law_needs, F_law_needs, b_law_needs, m_law_needs⟩ := T.d_law_needs
  have G_law_needs := ok_law_needs (P := P) (w := w) (base := base) F_law_needs T
  obtain ⟨f_law_pick, fd_law_pick, F_law_pick, b_law_pick, m_law_pick⟩ := T.d_law_pick
  have G_law_pick := ok_law_pick (P := P) (w := w) (base := base) F_law_pick T
  refine F.ok sc_law_hands (fun vs H Q E h => ?_) (fun cdv A outer s H vs Q E hr h => ?_)
  · obtain ⟨f, c, m, rfl, _⟩ := h
    rfl
  obtain ⟨f, c, m, rfl, m1, m8, hF, q⟩ := h
  let R1 : TS := fun D' σ' H' => D'.rt = Q ∧ ∃ (x : Int) (sl : Addr) (ss : List Str), σ' = [some (.ref f), some (.int m), some (.int (3 + x)), some (.ref sl), none, none, none, none, none, none, none] ∧ H' sl = some (.lst (ss.map V.str)) ∧ sl ≠ f ∧ ss.length ≤ 12 ∧ ("hand" : Str) ∈ ss ∧ (∀ s ∈ ss, s = "in" ∨ s = "out" ∨ s = "hand") ∧ Flow H' f c ∧ But f H H'
  refine ⟨_, (pss_cons (ps_set (i := 2) sc_law_hands.nd rfl (Or.inl rfl) (pe_op op_add pe_int (pe_callTy call_int1 (by rfl) T.m_int (by decide +kernel) (pa_cons (pe_cmpR op_lt (pv 1) pe_int (nomark _)) pa_nil))))
      (pss_cons (ps_set (i := 3) sc_law_hands.nd rfl (Or.inl rfl) (pe_op op_cat (pe_op op_cat (pe_op op_rep (pe_lst (pa_cons pe_str pa_nil)) (pe_call G_law_pick (hr.mono (by decide)) (by rfl) m_law_pick F_law_pick.kp b_law_pick .nil pass0 (pa_cons (pv 0) (pa_cons (pv 2) pa_nil)))) (pe_op op_rep (pe_lst (pa_cons pe_str pa_nil)) (pe_call G_law_pick (hr.mono (by decide)) (by rfl) m_law_pick F_law_pick.kp b_law_pick .nil pass0 (pa_cons (pv 0) (pa_cons (pv 2) pa_nil))))) (pe_op op_rep (pe_lst (pa_cons pe_str pa_nil)) (pv 1))))
      (pss_cons (ps_set (i := 3) sc_law_hands.nd rfl (Or.inl rfl) (pe_call G_law_shuffled (hr.mono (by decide)) (by rfl) m_law_shuffled F_law_shuffled.kp b_law_shuffled .nil pass0 (pa_cons (pv 0) (pa_cons (pv 3) pa_nil))))
      (PSs.to (pss_cons (ps_set (i := 4) sc_law_hands.nd rfl (Or.inl rfl) pe_int)
      (pss_cons (ps_set (i := 5) sc_law_hands.nd rfl (Or.inl rfl) (pe_lst pa_nil))
      (pss_cons (ps_for PassesOwn.never rfl (pi_enum (by rfl) T.m_enumerate (pa_cons (pv 3) pa_nil)) (pg_tupK K rfl rfl (pgs_cons (pg_name (i := 6) sc_law_hands.nd rfl (Or.inl rfl)) (pgs_cons (pg_name (i := 7) sc_law_hands.nd rfl (Or.inl rfl)) pgs_nil)))
        (pss_cons (ps_if (pt_cmpR op_eq (pv 7) pe_str (nomark _)) (pss_cons (ps_set (i := 8) sc_law_hands.nd rfl (Or.inl rfl) (pe_callB (call_len_seqK K rfl) (by rfl) T.m_len (by decide +kernel) (pa_cons (pe_lc (own := [("_law_other", 9)]) (g := gName 9) (by rfl) sc_law_hands.nd (pi_listK K rfl (pe_slice (sl_listK K rfl) (pv 3) (po_some (pe_op op_add (pv 6) pe_int)) po_none)) (blkOk_by (own := [("_law_other", 9)]) (N := N_law_hands) (sc := defScope s_law_hands) (by decide +kernel)) (fun _ _ _ _ _ => (pg_name (i := 9) sc_law_hands.nd rfl (Or.inl rfl))) (fun _ _ _ _ _ => pts_one (pt_cmpR op_ne (pv 9) pe_str (nomark _))) (fun _ _ _ _ _ => (pv 9))) pa_nil)))
      (pss_cons (ps_set (i := 10) sc_law_hands.nd rfl (Or.inl rfl) (pe_call G_law_rule (hr.mono (by decide)) (by rfl) m_law_rule F_law_rule.kp b_law_rule .nil pass0 (pa_cons (pv 0) (pa_cons (pe_op op_sub (pv 4) (pv 8)) pa_nil))))
      (pss_one (ps_expr (pe_bmK K rfl PySem.F.plainAttrs_list PySem.F.slot_list_append PySem.F.type_list_append mt_append (pv 5) (pa_cons (pe_tup (pa_cons (pv 10) (pa_cons (pe_call G_law_pick (hr.mono (by decide)) (by rfl) m_law_pick F_law_pick.kp b_law_pick .nil pass0 (pa_cons (pv 0) (pa_cons (pe_ix (ix_listK K rfl) (pe_lst (pa_cons pe_int (pa_cons pe_int (pa_cons pe_int pa_nil)))) (pe_call G_law_pick (hr.mono (by decide)) (by rfl) m_law_pick F_law_pick.kp b_law_pick .nil pass0 (pa_cons (pv 0) (pa_cons pe_int pa_nil))) (fun _ _ => rfl)) pa_nil))) pa_nil))) pa_nil)))))) (pss_one (ps_expr (pe_bmK K rfl PySem.F.plainAttrs_list PySem.F.slot_list_append PySem.F.type_list_append mt_append (pv 5) (pa_cons (pe_tup (pa_cons (pe_tup (pa_cons (pv 7) pa_nil)) (pa_cons pe_int pa_nil))) pa_nil)))))
      (pss_one (ps_set (i := 4) sc_law_hands.nd rfl (Or.inl rfl) (pe_op op_sub (pv 4) (pe_call G_law_needs (hr.mono (by decide)) (by rfl) m_law_needs F_law_needs.kp b_law_needs .nil pass0 (pa_cons (pe_ix (ix_tupK K rfl) (pe_ix (ix_listK K rfl) (pv 5) (pe_un un_neg pe_int) (fun _ _ => rfl)) pe_int (fun _ _ => rfl)) pa_nil)))))))
      (pss_one (ps_ret (pv 5)))))) R1 ?tail1)))), ?_⟩
  case tail1 =>
    rintro D' σ' H1 ⟨eD, x, sl, ss, rfl, hsl, nsl, hlen, hhand, hall, F1, B1⟩
    refine ⟨(by show 0 ≤ sizeLine; decide), fun hh nhh => ?_⟩
    have I0 : HInv f c sl hh ss H (upd H1 hh (.lst [])) 0 [] [] 20 :=
      { fl := F1.new nhh, bt := B1.new nhh, hsl := same_new nhh _ _ hsl, hhh := upd_same, al := .nil, len := rfl, good := (fun _ h => nomatch h), lf := by have := cnt_le (ss.drop 0); rw [List.length_drop] at this; omega, sum := rfl, nz := (fun _ h => nomatch h), one := (fun h => nomatch h), n1 := nsl, n2 := ne_of_none hsl nhh, n3 := F1.ne nhh, n4 := F1.nec nhh, n5 := B1.none nhh (F1.ne nhh) }
    refine ⟨_, rfl, sl, _, rfl, SqL.of I0.hsl, for_it (n := ss.length) (fun i σ H2 => ∃ (vs : List V) (hs : List HR) (left : Int) (v5 v6 v7 v8 v9 : Option V), σ = [some (.ref f), some (.int m), some (.int (3 + x)), some (.ref sl), some (.int left), some (.ref hh), v5, v6, v7, v8, v9] ∧ HInv f c sl hh ss H H2 i vs hs left)
      ⟨[], [], 20, none, none, none, none, none, rfl, I0⟩ ?_ ?_ ?_ ?_⟩
    · rintro i σ H2 hi ⟨vs, hs, left, v5, v6, v7, v8, v9, rfl, I⟩
      exact ⟨_, _, SqL.of I.hsl, by rw [List.getElem?_map, List.getElem?_eq_getElem hi]; rfl⟩
    · rintro σ H2 ⟨vs, hs, left, v5, v6, v7, v8, v9, rfl, I⟩
      exact ⟨_, SqL.of I.hsl, by rw [List.length_map]; exact Nat.le_refl _⟩
    · rintro i x σ H2 H3 hi ⟨vs, hs, left, v5, v6, v7, v8, v9, rfl, I⟩ ⟨t, y, rfl, nt, rfl, fy⟩
      have ei : ss[i]? = some ss[i] := List.getElem?_eq_getElem hi
      obtain ⟨sd, hsd⟩ : ∃ sd, sd = ss[i] := ⟨_, rfl⟩
      rw [← hsd] at ei
      have ey : y = V.str sd := by
        have := fy _ (SqL.of I.hsl)
        rw [List.getElem?_map, ei] at this
        exact (Option.some.inj this).symm
      subst ey
      have I1 := I.new (o := .tup [V.int ((i : Nat) : Int), V.str sd]) nt
      have hc1 := cnt_cons ei
      have hl := I.lf
      have sz : vs.length < sizeLine := small1000 (by rw [I.al.length, I.len]; omega)
      refine ⟨t, _, rfl, SqT.of upd_same, rfl, _, _, rfl, _, _, rfl, rfl, ?_⟩
      refine ⟨_, rfl, rfl, _, rfl, if_str (fun e => ?_) (fun e => ?_)⟩
      · -- a hand
        refine ⟨_, rfl, _, rfl, _, _, rfl, rfl, _, rfl, sl, _, rfl, SqL.of I1.hsl, fun cp ncp => ?_⟩
        have I2 := I1.new (o := .lst (cutV (ss.map V.str) (some (((i : Nat) : Int) + 1)) none)) ncp
        have ecut : cutV (ss.map V.str) (some (((i : Nat) : Int) + 1)) none = (ss.drop (i + 1)).map V.str := by
          rw [show ((i : Nat) : Int) + 1 = ((i + 1 : Nat) : Int) by omega, cut_drop, List.map_drop]
        refine ⟨cp, rfl, ⟨_, SqL.of upd_same⟩, fun D nD => lc_list (K := K) (a := cp) (xs := cutV (ss.map V.str) (some (((i : Nat) : Int) + 1)) none) (fun j H5 => ∃ acc : List V, H5 D = some (.lst acc) ∧ acc.length = cnt ((ss.drop (i + 1)).take j) ∧ H5 cp = some (.lst (cutV (ss.map V.str) (some (((i : Nat) : Int) + 1)) none)) ∧ HInv f c sl hh ss H H5 i vs hs left ∧ D ≠ cp ∧ D ≠ f ∧ D ≠ c ∧ D ≠ sl ∧ D ≠ hh ∧ H D = Option.none)
          ⟨[], upd_same, rfl, same_new nD _ _ upd_same, I2.new nD, (ne_of_none upd_same nD).symm, I2.fl.ne nD, I2.fl.nec nD, (ne_of_none I2.hsl nD).symm, (ne_of_none I2.hhh nD).symm, I2.bt.none nD (I2.fl.ne nD)⟩ (fun j H5 _ ⟨_, _, _, h, _⟩ => SqL.of h) ?_ ?_⟩
        · rintro j z H5 hz ⟨acc, hD, hacc, hcp, I5, d1, d2, d3, d4, d5, d6⟩
          rw [ecut, List.getElem?_map] at hz
          cases ez : (ss.drop (i + 1))[j]? with
          | none => rw [ez] at hz; cases hz
          | some so =>
            rw [ez] at hz
            obtain rfl : V.str so = z := Option.some.inj hz
            refine ⟨rfl, _, rfl, rfl, _, rfl, if_bl (fun k => ?_) (fun k => ?_)⟩
            · have k2 : ¬ so = "in" := fun y => by
                rw [y] at k
                exact absurd k (by decide +kernel)
              refine ⟨_, rfl, acc, hD, ?_, acc ++ [V.str so], upd_same, ?_, by rw [upd_ne d1.symm]; exact hcp, ?_, d1, d2, d3, d4, d5, d6⟩
              · rw [hacc]
                have := cnt_le ((ss.drop (i + 1)).take j)
                rw [List.length_take, List.length_drop] at this
                exact small1000 (by omega)
              · rw [List.length_append, hacc, List.take_add_one, ez]
                unfold cnt
                rw [List.filter_append, List.length_append]
                simp [k2]
              · exact { I5 with fl := I5.fl.lst d2 d3, bt := I5.bt.own d6, hsl := by rw [upd_ne d4.symm]; exact I5.hsl, hhh := by rw [upd_ne d5.symm]; exact I5.hhh, al := I5.al.imp fun _ _ y => y.keep (TK.lst hD) }
            · have k2 : so = "in" := by
                by_cases y : so = "in"
                · exact y
                · have k3 : (!decide (V.str so = V.str "in")) = false := k
                  rw [decide_eq_false (fun y2 => y (V.str.inj y2))] at k3
                  cases k3
              refine ⟨acc, hD, ?_, hcp, I5, d1, d2, d3, d4, d5, d6⟩
              rw [hacc, List.take_add_one, ez]
              unfold cnt
              rw [List.filter_append, List.length_append]
              simp [k2]
        · rintro H5 ⟨acc, hD, hacc, hcp, I5, d1, d2, d3, d4, d5, d6⟩
          have hacc2 : acc.length = cnt (ss.drop (i + 1)) := by
            rw [hacc, List.take_of_length_le]
            rw [ecut, List.length_map]
            exact Nat.le_refl _
          have hm0 : 0 ≤ left - ((acc.length : Nat) : Int) := by
            have hne : ¬ sd = "in" := by rw [e]; decide +kernel
            rw [hacc2]
            rw [hc1, if_neg hne] at hl
            omega
          refine ⟨D, _, rfl, .inl (SqL.of hD), ?_⟩
          refine ⟨_, rfl, _, rfl, _, rfl, _, _, rfl, rfl, f, c, _, rfl, hm0, I5.fl, fun r hR H6 hr6 gR n1 n0 mo F6 B6 => ?_⟩
          have I6 := I5.but F6 B6
          refine ⟨_, rfl, .inl ⟨rfl, _, SqL.of I6.hhh⟩, _, rfl, _, rfl, (by show 3 ≤ sizeLine; decide), fun ml nml => ?_⟩
          have I7 := I6.new (o := .lst [V.int 5, V.int 5, V.int 31]) nml
          refine ⟨_, rfl, f, c, 3, rfl, by decide, by decide +kernel, I7.fl, fun z H8 z0 z3 F8 B8 => ?_⟩
          have I8 := I7.but F8 B8
          have hml := B8 _ _ upd_same (I6.fl.ne nml)
          obtain ⟨mm, hmm, mk⟩ : ∃ mm : Int, atI [V.int 5, V.int 5, V.int 31] z = some (.int mm) ∧ (mm = 5 ∨ mm = 31) := by
            have : z = 0 ∨ z = 1 ∨ z = 2 := by omega
            rcases this with rfl | rfl | rfl
            · exact ⟨5, rfl, .inl rfl⟩
            · exact ⟨5, rfl, .inl rfl⟩
            · exact ⟨31, rfl, .inr rfl⟩
          refine ⟨ml, _, _, _, rfl, rfl, SqL.of hml, hmm, f, c, mm, rfl, by omega, (by rcases mk with rfl | rfl <;> decide +kernel), I8.fl, fun mo2 H9 o0 o1 F9 B9 => ?_⟩
          have I9 := I8.but F9 B9
          refine ⟨(by show 2 ≤ sizeLine; decide), fun t2 nt2 => ?_⟩
          have I10 := I9.new (o := .tup [V.ref r, V.int mo2]) nt2
          have sz10 : vs.length < sizeLine := sz
          refine ⟨hh, _, _, rfl, rfl, I10.hhh, sz10, ?_⟩
          have k9 : TK H6 H9 := ((TK.new nml).trans (TK.but I7.fl B8)).trans (TK.but I8.fl B9)
          have hx : HandAt (upd H9 t2 (.tup [V.ref r, V.int mo2])) (V.ref t2) ⟨hR.wd, hR.no, mo2⟩ := ⟨t2, r, rfl, upd_same, TK.new nt2 _ _ (k9 _ _ hr6)⟩
          have gd : GoodHand ⟨hR.wd, hR.no, mo2⟩ := ⟨.inl ⟨gR.wd, gR.no, gR.big⟩, o0, (show mo2 ≤ 30 by omega)⟩
          have nout : hR.wd ≠ "out" := fun y => by
            have := gR.wd
            rw [y] at this
            exact absurd this (by decide +kernel)
          have I11 := I10.step (h := ⟨hR.wd, hR.no, mo2⟩) hx gd n0 (by show needs hR.wd + _ ≤ left; rw [hacc2] at n1; omega) ei (fun _ => nout)
          refine ⟨_, rfl, _, rfl, 1, rfl, hh, _, -1, _, rfl, rfl, SqL.of I11.hhh, atI_last _ _, t2, _, _, _, rfl, rfl, SqT.of (TK.lst I10.hhh _ _ upd_same), atI_nat (j := 0) rfl, r, hR.wd, _, rfl, SqT.of (TK.lst I10.hhh _ _ (TK.new nt2 _ _ (k9 _ _ hr6))), fun H12 s12 => ⟨_, _, rfl, rfl, ?_⟩⟩
          exact ⟨_, _, _, _, _, _, _, _, rfl, I11.same s12⟩
      · -- a door
        refine ⟨_, rfl, .inl ⟨rfl, _, SqL.of I1.hhh⟩, _, rfl, (by show 1 ≤ sizeLine; decide), fun r nr => ⟨(by show 2 ≤ sizeLine; decide), fun t2 nt2 => ?_⟩⟩
        have I2 := (I1.new (o := .tup [V.str sd]) nr).new (o := .tup [V.ref r, V.int 0]) nt2
        refine ⟨hh, _, _, rfl, rfl, I2.hhh, sz, ?_⟩
        have hsd2 : sd = "in" ∨ sd = "out" := by
          rcases hall sd (List.mem_of_getElem? ei) with y | y | y
          · exact .inl y
          · exact .inr y
          · exact absurd y e
        have hn : needs sd = (if sd = "in" then 0 else 1) := by
          rcases hsd2 with y | y <;> rw [y] <;> decide +kernel
        have hx : HandAt (upd (upd (upd H2 t (.tup [V.int ((i : Nat) : Int), V.str sd])) r (.tup [V.str sd])) t2 (.tup [V.ref r, V.int 0])) (V.ref t2) ⟨sd, none, 0⟩ := ⟨t2, r, rfl, upd_same, same_new nt2 _ _ upd_same⟩
        have I3 := I2.step (h := ⟨sd, none, 0⟩) hx ⟨.inr ⟨hsd2, rfl⟩, (show (0 : Int) ≤ 0 by decide), (show (0 : Int) ≤ 30 by decide)⟩ (by show 0 ≤ needs sd; rw [hn]; split <;> decide) (by
          show needs sd + _ ≤ left
          rw [hn]
          rw [hc1] at hl
          by_cases y : sd = "in"
          · rw [if_pos y] at hl ⊢; omega
          · rw [if_neg y] at hl ⊢; omega) ei (fun y => absurd y e)
        refine ⟨_, rfl, _, rfl, 1, rfl, hh, _, -1, _, rfl, rfl, SqL.of I3.hhh, atI_last _ _, t2, _, _, _, rfl, rfl, SqT.of (TK.lst I2.hhh _ _ upd_same), atI_nat (j := 0) rfl, r, sd, _, rfl, SqT.of (TK.lst I2.hhh _ _ (same_new nt2 _ _ upd_same)), fun H12 s12 => ⟨_, _, rfl, rfl, ?_⟩⟩
        exact ⟨_, _, _, _, _, _, _, _, rfl, I3.same s12⟩
    · rintro σ H2 ⟨vs, hs, left, v5, v6, v7, v8, v9, rfl, I⟩
      refine ⟨_, rfl, ?_⟩
      rw [eD]
      refine q hh vs hs H2 I.n5 I.hhh I.al ⟨by rw [I.len]; exact hlen, I.good, ?_, I.nz, I.one (by rw [List.take_length]; exact hhand)⟩ I.fl I.bt
      have := I.sum
      have := I.lf
      omega
  obtain ⟨x, ex⟩ : ∃ x : Int, (if decide (m < 7) = true then (1 : Int) else 0) = x := ⟨_, rfl⟩
  have xb : x = 0 ∨ (x = 1 ∧ m < 7) := by
    by_cases h7 : m < 7
    · rw [decide_eq_true h7] at ex
      exact .inr ⟨ex.symm, h7⟩
    · rw [decide_eq_false h7] at ex
      exact .inl ex.symm
  have lx : (3 + x).natAbs.log2 < 9000 := by
    rcases xb with rfl | ⟨rfl, _⟩ <;> decide +kernel
  refine ⟨_, rfl, _, _, rfl, rfl, .inr ⟨_, rfl, 3, x, rfl, congrArg V.int ex, ?_⟩⟩
  refine ⟨(by show 1 ≤ sizeLine; decide), fun l1 nl1 => ?_⟩
  refine ⟨_, rfl, _, rfl, f, c, 3 + x, rfl, by omega, lx, hF.new nl1, fun v1 H1 a1 b1 F1 B1 => ?_⟩
  have g1 := B1 _ _ upd_same (hF.ne nl1)
  have small : ∀ v : Int, 0 ≤ v → v ≤ 8 → [V.str "in"].length * v.toNat ≤ sizeLine := fun v v0 v8 => little (by show 1 * v.toNat ≤ 1000; omega)
  refine ⟨l1, v1, _, rfl, rfl, g1, by omega, by omega, small v1 a1 (by omega), fun p1 np1 => ?_⟩
  rw [flat_rep]
  have F2 := F1.new (o := .lst (List.replicate v1.toNat (V.str "in"))) np1
  refine ⟨(by show 1 ≤ sizeLine; decide), fun l2 nl2 => ?_⟩
  refine ⟨_, rfl, _, rfl, f, c, 3 + x, rfl, by omega, lx, F2.new nl2, fun v2 H3 a2 b2 F3 B3 => ?_⟩
  have g2 := B3 _ _ upd_same (F2.ne nl2)
  have h1 := B3 _ _ (same_new nl2 _ _ upd_same) (F1.ne np1)
  refine ⟨l2, v2, _, rfl, rfl, g2, by omega, by omega, small v2 a2 (by omega), fun p2 np2 => ?_⟩
  rw [flat_rep]
  have F4 := F3.new (o := .lst (List.replicate v2.toNat (V.str "out"))) np2
  refine ⟨p1, p2, _, _, rfl, rfl, same_new np2 _ _ h1, upd_same, ?_, fun p3 np3 => ?_⟩
  · rw [List.length_replicate, List.length_replicate]; exact little (by omega)
  have F5 := F4.new (o := .lst (List.replicate v1.toNat (V.str "in") ++ List.replicate v2.toNat (V.str "out"))) np3
  refine ⟨(by show 1 ≤ sizeLine; decide), fun l4 nl4 => ⟨_, rfl, l4, m, _, rfl, rfl, upd_same, by omega, by omega, small m (by omega) m8, fun p5 np5 => ?_⟩⟩
  rw [flat_rep]
  have F6 := F5.new (o := .lst [V.str "hand"]) nl4
  have F7 := F6.new (o := .lst (List.replicate m.toNat (V.str "hand"))) np5
  refine ⟨p3, p5, _, _, rfl, rfl, same_new np5 _ _ (same_new nl4 _ _ upd_same), upd_same, ?_, fun p6 np6 => ?_⟩
  · rw [List.length_append, List.length_replicate, List.length_replicate, List.length_replicate]; exact little (by omega)
  refine ⟨_, rfl, _, rfl, f, c, p6, _, rfl, SqL.of upd_same, F7.ne np6, ?_, F7.new np6, fun p ys H8 hp np hy F8 B8 => ?_⟩
  · rw [List.length_append, List.length_append, List.length_replicate, List.length_replicate, List.length_replicate]; omega
  have ez : (List.replicate v1.toNat (V.str "in") ++ List.replicate v2.toNat (V.str "out")) ++ List.replicate m.toNat (V.str "hand") = ((List.replicate v1.toNat ("in" : Str) ++ List.replicate v2.toNat ("out" : Str)) ++ List.replicate m.toNat ("hand" : Str)).map V.str := by
    rw [List.map_append, List.map_append, List.map_replicate, List.map_replicate, List.map_replicate]
  rw [ez] at hp
  obtain ⟨ss, rfl, hss⟩ := perm_strs hp
  have pf : p ≠ f := fun y => by
    rw [y] at np
    obtain ⟨_, _, _, _, _, e1, _⟩ := F7.new (o := .lst ((List.replicate v1.toNat (V.str "in") ++ List.replicate v2.toNat (V.str "out")) ++ List.replicate m.toNat (V.str "hand"))) np6
    rw [e1] at np
    cases np
  refine ⟨rfl, x, p, ss, rfl, hy, pf, ?_, ?_, ?_, F8, But.trans ((((((((((But.refl.new nl1).trans B1).new np1).new nl2).trans B3).new np2).new np3).new nl4).new np5).new np6) B8⟩
  · rw [hss.length_eq, List.length_append, List.length_append, List.length_replicate, List.length_replicate, List.length_replicate]; omega
  · refine hss.mem_iff.mpr (List.mem_append_right _ (List.mem_replicate.mpr ⟨by omega, rfl⟩))
  · intro s hs
    rcases List.mem_append.mp (hss.mem_iff.mp hs) with hs | hs
    · rcases List.mem_append.mp hs with hs | hs
      · exact .inl (List.mem_replicate.mp hs).2
      · exact .inr (.inl (List.mem_replicate.mp hs).2)
    · exact .inr (.inr (List.mem_replicate.mp hs).2)
end
/-! ### rules as data -/
abbrev ruleD (h : HR) : List PyData := .str h.wd :: (match h.no with | none => [] | some n => [.int n])
theorem rule_dp {K : PySem.W.Frag} {H : Hp} {r : Addr} {h : HR} (e : H r = some (.tup (ruleL h))) : Dp K H (.ref r) (.tuple (ruleD h)) := by
  obtain ⟨wd, no, mom⟩ := h
  cases no with
  | none => exact .tup (SqT.of e) (.cons (.str _) .nil)
  | some n => exact .tup (SqT.of e) (.cons (.str _) (.cons (.int _) .nil))
theorem rule_shaped {h : HR} (k : PyData.canLay0 (.str h.wd) = true) : SeqAt.shaped (.tuple (ruleD h)) = true := by
  obtain ⟨wd, no, mom⟩ := h
  have k : PyData.canLay0 (.str wd) = true := k
  cases no <;> simp [SeqAt.shaped, PyData.canLay0, PyData.canLayAll0, PyData.depth, PyData.depthAll] <;> simpa [PyData.canLay0] using k
theorem GoodHand.lay {h : HR} (g : GoodHand h) : PyData.canLay0 (.str h.wd) = true := by
  have : h.wd ∈ nine ∨ h.wd = "in" ∨ h.wd = "out" := g.1.elim (fun k => .inl k.wd) (fun k => .inr k.1)
  rcases this with k | k | k
  · unfold nine at k
    simp only [List.mem_cons, List.not_mem_nil, or_false] at k
    rcases k with k | k | k | k | k | k | k | k | k <;> rw [k] <;> decide +kernel
  · rw [k]; decide +kernel
  · rw [k]; decide +kernel
theorem one_shaped {z : Str} (k : PyData.canLay0 (.str z) = true) : SeqAt.shaped (.tuple [.str z]) = true := rule_shaped (h := ⟨z, none, 0⟩) k
theorem at0 {xs : List V} {i : Nat} {v : V} (h : xs[i]? = some v) : atI xs (0 + ((i : Nat) : Int)) = some v := by
  rw [Int.zero_add]
  exact atI_nat h
theorem rule_eqv (h : HR) (z : Str) : PyData.eqv (.tuple (ruleD h)) (.tuple [.str z]) = (decide (h.wd = z) && h.no.isNone) := by
  obtain ⟨wd, no, mom⟩ := h
  have e : (wd == z) = decide (wd = z) := by
    by_cases k : wd = z
    · rw [k, decide_eq_true rfl]; exact beq_self_eq_true z
    · rw [decide_eq_false k]; exact beq_eq_false_iff_ne.mpr k
  cases no with
  | none =>
    show (wd == z && true) = (decide (wd = z) && true)
    rw [e]
  | some n =>
    show (wd == z && false) = (decide (wd = z) && false)
    rw [Bool.and_false, Bool.and_false]
theorem GoodHand.door {h : HR} (g : GoodHand h) (z : Str) (hz : z = "in" ∨ z = "out") : (decide (h.wd = z) && h.no.isNone) = decide (h.wd = z) := by
  by_cases k : h.wd = z
  · rw [decide_eq_true k, Bool.true_and]
    rcases g.1 with g | g
    · have := g.wd
      rw [k] at this
      rcases hz with rfl | rfl <;> exact absurd this (by decide +kernel)
    · rw [g.2]; rfl
  · rw [decide_eq_false k]; rfl
/-! ### numbers in lists -/
abbrev nV (n : Nat) : V := .int (n : Nat)
def unN : V → Nat
  | .int i => i.toNat
  | _ => 0
def unI : V → Int
  | .int i => i
  | _ => 0
theorem perm_inv {α : Type} {f : α → V} {g : V → α} (k : ∀ a, g (f a) = a) {ys : List V} {zs : List α} (h : ys.Perm (zs.map f)) : ∃ ss : List α, ys = ss.map f ∧ ss.Perm zs := by
  refine ⟨ys.map g, ?_, ?_⟩
  · rw [List.map_map]
    symm
    refine (List.map_congr_left (g := id) fun y hy => ?_).trans (List.map_id _)
    obtain ⟨z, _, e⟩ := List.mem_map.mp (h.mem_iff.mp hy)
    subst e
    show f (g (f z)) = f z
    rw [k]
  · have q := h.map g
    rw [List.map_map] at q
    have e : zs.map (g ∘ f) = zs := (List.map_congr_left (g := id) fun z _ => k z).trans (List.map_id _)
    rw [e] at q
    exact q
def nd (hs : List HR) (j : Nat) : Nat := match hs[j]? with | some h => (needs h.wd).toNat | none => 0
def tkTo (hs : List HR) : Nat → List Nat
  | 0 => []
  | n + 1 => tkTo hs n ++ List.replicate (nd hs n) n
theorem tk_count (hs : List HR) (k : Nat) : ∀ n, (tkTo hs n).count k = if k < n then nd hs k else 0
  | 0 => by simp [tkTo]
  | n + 1 => by
    unfold tkTo
    rw [List.count_append, tk_count hs k n, List.count_replicate]
    by_cases h1 : k < n
    · have h2 : ¬ (n == k) = true := by simp; omega
      rw [if_pos h1, if_neg h2, if_pos (show k < n + 1 by omega), Nat.add_zero]
    · by_cases h2 : n = k
      · subst h2
        rw [if_neg h1, if_pos (beq_self_eq_true n), if_pos (show n < n + 1 by omega), Nat.zero_add]
      · have h3 : ¬ (n == k) = true := by simpa using h2
        rw [if_neg h1, if_neg h3, if_neg (show ¬ k < n + 1 by omega)]
theorem tk_mem (hs : List HR) : ∀ n k, k ∈ tkTo hs n → k < n
  | 0, k, h => nomatch h
  | n + 1, k, h => by
    rcases List.mem_append.mp h with h | h
    · exact Nat.lt_succ_of_lt (tk_mem hs n k h)
    · rw [(List.mem_replicate.mp h).2]; exact Nat.lt_succ_self n
theorem tk_len (hs : List HR) (z : ∀ h ∈ hs, 0 ≤ needs h.wd) : ∀ n, n ≤ hs.length → ((tkTo hs n).length : Int) = ((hs.take n).map fun h => needs h.wd).sum
  | 0, _ => rfl
  | n + 1, hn => by
    have e : hs[n]? = some hs[n] := List.getElem?_eq_getElem (by omega)
    unfold tkTo
    rw [List.length_append, List.length_replicate, List.take_add_one, e, List.map_append, List.sum_append, Int.natCast_add, tk_len hs z n (by omega)]
    unfold nd
    rw [e]
    have := z hs[n] (List.getElem_mem _)
    simp only [Option.toList, List.map_cons, List.map_nil, List.sum_cons, List.sum_nil]
    omega
structure RoomOk (hs : List HR) (bs : List BR) : Prop where
  hands : hs.length ≤ 12
  good : ∀ h ∈ hs, GoodHand h
  ends : ∀ b ∈ bs, b.one < hs.length ∧ b.to < hs.length
  out : ∀ b ∈ bs, ∀ h, hs[b.one]? = some h → h.wd ≠ "out"
  th : ∀ b ∈ bs, b.th.length ≤ 9 ∧ ∀ x ∈ b.th, Small x
  rank : ∃ rk : Nat → Int, ∀ b ∈ bs, b.th = [] → rk b.one < rk b.to
  count : ∀ k h, hs[k]? = some h → (((bs.map BR.to).count k : Nat) : Int) = needs h.wd
  many : bs.length ≤ 20
structure RoomAt (H : Hp) (r : Addr) (hs : List HR) (bs : List BR) : Prop where
  ex : ∃ (ha ba : Addr) (hv bv : List V), H r = some (.tup [.ref ha, .ref ba]) ∧ H ha = some (.tup hv) ∧ H ba = some (.tup bv) ∧ All2 (HandAt H) hv hs ∧ All2 (BeltAt H) bv bs
theorem RoomAt.keep {H H' : Hp} {r : Addr} {hs : List HR} {bs : List BR} (a : RoomAt H r hs bs) (k : TK H H') : RoomAt H' r hs bs := by
  obtain ⟨ha, ba, hv, bv, e1, e2, e3, a1, a2⟩ := a.ex
  exact ⟨ha, ba, hv, bv, k _ _ e1, k _ _ e2, k _ _ e3, a1.imp fun _ _ z => z.keep k, a2.imp fun _ _ z => z.keep k⟩
section
variable {P : Program} {w : World} {K : PySem.W.Frag} {mg : Str → Option Value} {base : Heap}
def sp_law_room (K : PySem.W.Frag) : Sp := fun vs H Q _ => ∃ (f c : Addr) (m : Int), vs = [.ref f, .int m] ∧ 1 ≤ m ∧ m ≤ 8 ∧ Flow H f c ∧
  ∀ (r : Addr) (hs : List HR) (bs : List BR) (H' : Hp), RoomAt H' r hs bs → RoomOk hs bs → 0 < hs.length → (∀ b ∈ bs, b.th.length ≤ 6) → Flow H' f c → But f H H' → Q (.ref r) H'
/-- what stands while a room is drawn: the draws, the list of its hands -/
structure RI (f c hh : Addr) (H0 H : Hp) (xs : List V) (hs : List HR) : Prop where
  fl : Flow H f c
  bt : But f H0 H
  lh : H hh = some (.lst xs)
  al : All2 (HandAt H) xs hs
  n1 : hh ≠ f
  n2 : H0 hh = none
section
variable {f c hh : Addr} {H0 H H' : Hp} {xs : List V} {hs : List HR}
theorem RI.but (s : RI f c hh H0 H xs hs) (F : Flow H' f c) (b : But f H H') : RI f c hh H0 H' xs hs :=
  { s with fl := F, bt := s.bt.trans b, lh := b _ _ s.lh s.n1, al := s.al.imp fun _ _ k => k.keep (TK.but s.fl b) }
theorem RI.new {p : Addr} {o : HO} (s : RI f c hh H0 H xs hs) (n : H p = none) : RI f c hh H0 (upd H p o) xs hs :=
  { s with fl := s.fl.new n, bt := s.bt.new n, lh := same_new n _ _ s.lh, al := s.al.imp fun _ _ k => k.keep (TK.new n) }
theorem RI.same (s : RI f c hh H0 H xs hs) (k : Same H H') : RI f c hh H0 H' xs hs :=
  { s with fl := s.fl.same k, bt := s.bt.same k, lh := k _ _ s.lh, al := s.al.imp fun _ _ z => z.keep (TK.same k) }
theorem RI.lst {D : Addr} {as bs : List V} (s : RI f c hh H0 H xs hs) (h : H D = some (.lst as)) (d1 : D ≠ f) (d2 : D ≠ c) (d3 : D ≠ hh) (d4 : H0 D = none) : RI f c hh H0 (upd H D (.lst bs)) xs hs :=
  { s with fl := s.fl.lst d1 d2, bt := s.bt.own d4, lh := by rw [upd_ne d3.symm]; exact s.lh, al := s.al.imp fun _ _ z => z.keep (TK.lst h) }
end
theorem ok_law_room {f : Addr} {fd : FuncData} (F : Fun K "_law_room" "_law_room" s_law_room f fd) (T : Top K mg) : FnOk P w K mg base CX0 5 f fd ["_law_flow_here", "_law_most"] (sp_law_room K) := by
  obtain ⟨f_law_hands, fd_law_hands, F_law_hands, b_law_hands, m_law_hands⟩ := T.d_law_hands
  have G_law_hands := ok_law_hands (P := P) (w := w) (base := base) F_law_hands T
  obtain ⟨f_law_shuffled, fd_law_shuffled, F_law_shuffled, b_law_shuffled, m_law_shuffled⟩ := T.d_law_shuffled
  have G_law_shuffled := ok_law_shuffled (P := P) (w := w) (base := base) F_law_shuffled T
  obtain ⟨f_law_pick, fd_law_pick, F_law_pick, b_law_pick, m_law_pick⟩ := T.d_law_pick
  have G_law_pick := ok_law_pick (P := P) (w := w) (base := base) F_law_pick T
  obtain ⟨f_law_needs, fd_law_needs, F_law_needs, b_law_needs, m_law_needs⟩ := T.d_law_needs
  have G_law_needs := ok_law_needs (P := P) (w := w) (base := base) F_law_needs T
  obtain ⟨f_law_thing, fd_law_thing, F_law_thing, b_law_thing, m_law_thing⟩ := T.d_law_thing
  have G_law_thing := ok_law_thing (P := P) (w := w) (base := base) F_law_thing T
  refine F.ok sc_law_room (fun vs H Q E h => ?_) (fun cdv A outer s H vs Q E hr h => ?_)
  · obtain ⟨f, c, m, rfl, _⟩ := h
    rfl
  obtain ⟨f, c, m, rfl, m1, m8, hF, q⟩ := h
  have hm9 : m.natAbs.log2 < 9000 := by
    obtain ⟨j, rfl⟩ : ∃ j : Nat, m = (j : Int) := ⟨m.toNat, by omega⟩
    exact log_small (by omega)
  let R1 : TS := fun D' σ' H' => D'.rt = Q ∧ ∃ (hh rk gv : Addr) (xs : List V) (hs : List HR) (is : List Int) (gs : List Nat), σ' = [some (.ref f), some (.int m), some (.ref hh), some (.ref rk), some (.ref gv), none, none, none, none, none, none] ∧ RI f c hh H H' xs hs ∧ HandsOk hs ∧ H' rk = some (.lst (is.map V.int)) ∧ is.length = hs.length ∧ H' gv = some (.lst (gs.map nV)) ∧ gs ≠ [] ∧ gs.length ≤ 12 ∧ (∀ k ∈ gs, ∃ h, hs[k]? = some h ∧ h.wd ≠ "out") ∧ rk ≠ f ∧ gv ≠ f
  let R2 : TS := fun D' σ' H' => D'.rt = Q ∧ ∃ (hh rk gv tk : Addr) (xs : List V) (hs : List HR) (is : List Int) (gs ts : List Nat) (v5 : Option V), σ' = [some (.ref f), some (.int m), some (.ref hh), some (.ref rk), some (.ref gv), v5, some (.ref tk), none, none, none, none] ∧ RI f c hh H H' xs hs ∧ HandsOk hs ∧ H' rk = some (.lst (is.map V.int)) ∧ is.length = hs.length ∧ H' gv = some (.lst (gs.map nV)) ∧ gs ≠ [] ∧ gs.length ≤ 12 ∧ (∀ k ∈ gs, ∃ h, hs[k]? = some h ∧ h.wd ≠ "out") ∧ rk ≠ f ∧ gv ≠ f ∧ tk ≠ f ∧ H' tk = some (.lst (ts.map nV)) ∧ ts = tkTo hs hs.length
  refine ⟨_, (pss_cons (ps_set (i := 2) sc_law_room.nd rfl (Or.inr rfl) (pe_call G_law_hands (hr.mono (by decide)) (by rfl) m_law_hands F_law_hands.kp b_law_hands .nil pass0 (pa_cons (pv 0) (pa_cons (pe_op op_add pe_int (pe_call G_law_pick (hr.mono (by decide)) (by rfl) m_law_pick F_law_pick.kp b_law_pick .nil pass0 (pa_cons (pv 0) (pa_cons (pv 1) pa_nil)))) pa_nil))))
      (pss_cons (ps_set (i := 3) sc_law_room.nd rfl (Or.inl rfl) (pe_call G_law_shuffled (hr.mono (by decide)) (by rfl) m_law_shuffled F_law_shuffled.kp b_law_shuffled .nil pass0 (pa_cons (pv 0) (pa_cons (pe_listRg rfl (by rfl) T.m_list (prg_1 (by rfl) T.m_range (pe_callB (call_len_seqK K rfl) (by rfl) T.m_len (by decide +kernel) (pa_cons (pv 2) pa_nil)))) pa_nil))))
      (pss_cons (ps_setLc (i := 4) (own := [("_law_k", 5)]) (g := gName 5) (by rfl) sc_law_room.nd rfl rfl (sw_true rfl rfl rfl (by decide +kernel)) (pi_range1 (by rfl) T.m_range (pa_cons (pe_callB (call_len_seqK K rfl) (by rfl) T.m_len (by decide +kernel) (pa_cons (pv 2) pa_nil)) pa_nil)) (blkOk_by (own := [("_law_k", 5)]) (N := N_law_room) (sc := defScope s_law_room) (by decide +kernel)) (fun _ _ _ _ _ => (pg_name (i := 5) sc_law_room.nd rfl (Or.inl rfl))) (fun _ _ _ _ _ => pts_one (pt_cmpR (op_neDK K rfl hr.units) (pe_ix (ix_tupK K rfl) (pe_ix (ix_listK K rfl) (pv 2) (pv 5) (fun _ _ => rfl)) pe_int (fun _ _ => rfl)) (pe_tup (pa_cons pe_str pa_nil)) (nomark _))) (fun _ _ _ _ _ => (pv 5)))
      (PSs.to (pss_cons (ps_set (i := 6) sc_law_room.nd rfl (Or.inl rfl) (pe_lst pa_nil))
      (pss_cons (ps_for PassesOwn.never rfl (pi_range1 (by rfl) T.m_range (pa_cons (pe_callB (call_len_seqK K rfl) (by rfl) T.m_len (by decide +kernel) (pa_cons (pv 2) pa_nil)) pa_nil)) (pg_name (i := 5) sc_law_room.nd rfl (Or.inl rfl))
        (pss_one (ps_set (i := 6) sc_law_room.nd rfl (Or.inl rfl) (pe_op op_cat (pv 6) (pe_op op_rep (pe_lst (pa_cons (pv 5) pa_nil)) (pe_call G_law_needs (hr.mono (by decide)) (by rfl) m_law_needs F_law_needs.kp b_law_needs .nil pass0 (pa_cons (pe_ix (ix_tupK K rfl) (pe_ix (ix_listK K rfl) (pv 2) (pv 5) (fun _ _ => rfl)) pe_int (fun _ _ => rfl)) pa_nil)))))))
      (PSs.to (pss_cons (ps_set (i := 7) sc_law_room.nd rfl (Or.inl rfl) (pe_lst pa_nil))
      (pss_cons (ps_for PassesOwn.never rfl (pi_listK K rfl (pe_call G_law_shuffled (hr.mono (by decide)) (by rfl) m_law_shuffled F_law_shuffled.kp b_law_shuffled .nil pass0 (pa_cons (pv 0) (pa_cons (pv 6) pa_nil)))) (pg_name (i := 8) sc_law_room.nd rfl (Or.inl rfl))
        (pss_cons (ps_set (i := 9) sc_law_room.nd rfl (Or.inl rfl) (pe_ix (ix_listK K rfl) (pv 4) (pe_call G_law_pick (hr.mono (by decide)) (by rfl) m_law_pick F_law_pick.kp b_law_pick .nil pass0 (pa_cons (pv 0) (pa_cons (pe_callB (call_len_seqK K rfl) (by rfl) T.m_len (by decide +kernel) (pa_cons (pv 4) pa_nil)) pa_nil))) (fun _ _ => rfl)))
      (pss_cons (ps_set (i := 10) sc_law_room.nd rfl (Or.inl rfl) (pe_ix (ix_listK K rfl) (pe_lst (pa_cons pe_int (pa_cons pe_int (pa_cons pe_int (pa_cons pe_int (pa_cons pe_int (pa_cons pe_int (pa_cons pe_int (pa_cons pe_int pa_nil))))))))) (pe_call G_law_pick (hr.mono (by decide)) (by rfl) m_law_pick F_law_pick.kp b_law_pick .nil pass0 (pa_cons (pv 0) (pa_cons pe_int pa_nil))) (fun _ _ => rfl)))
      (pss_cons (ps_if (pt_cmpR op_ge (pe_ix (ix_listK K rfl) (pv 3) (pv 9) (fun _ _ => rfl)) (pe_ix (ix_listK K rfl) (pv 3) (pv 8) (fun _ _ => rfl)) (nomark _)) (pss_one (ps_set (i := 10) sc_law_room.nd rfl (Or.inl rfl) (pe_callB (call_max2 rfl) (by rfl) T.m_max (by decide +kernel) (pa_cons pe_int (pa_cons (pv 10) pa_nil))))) pss_nil)
      (pss_one (ps_expr (pe_bmK K rfl PySem.F.plainAttrs_list PySem.F.slot_list_append PySem.F.type_list_append mt_append (pv 7) (pa_cons (pe_tup (pa_cons (pv 9) (pa_cons (pv 8) (pa_cons (pe_callTy (call_tuple_ofK K rfl) (by rfl) T.m_tuple (by decide +kernel) (pa_cons (pe_lc (own := [("_law_k", 5)]) (g := gName 5) (tt := tYes) (by rfl) sc_law_room.nd (pi_range1 (by rfl) T.m_range (pa_cons (pv 10) pa_nil)) (blkOk_by (own := [("_law_k", 5)]) (N := N_law_room) (sc := defScope s_law_room) (by decide +kernel)) (fun _ _ _ _ _ => (pg_name (i := 5) sc_law_room.nd rfl (Or.inl rfl))) (fun _ _ _ _ _ => pts_nil) (fun _ _ _ _ _ => (pe_call G_law_thing (hr.mono (by decide)) (by rfl) m_law_thing F_law_thing.kp b_law_thing .nil pass0 (pa_cons (pv 0) pa_nil)))) pa_nil)) pa_nil)))) pa_nil))))))))
      (pss_one (ps_ret (pe_tup (pa_cons (pe_callTy (call_tuple_ofK K rfl) (by rfl) T.m_tuple (by decide +kernel) (pa_cons (pv 2) pa_nil)) (pa_cons (pe_callTy (call_tuple_ofK K rfl) (by rfl) T.m_tuple (by decide +kernel) (pa_cons (pv 7) pa_nil)) pa_nil))))))) R2 ?tail2))) R1 ?tail1)))), ?_⟩
  case tail2 =>
    rintro D' σ' H1 ⟨eD, hh, rk, gv, tk, xs, hs, is, gs, ts, v5, rfl, I1, ok, hrk, lis, hgv, gne, glen, gok, nrk, ngv, ntk, htk, ets⟩
    have hx : xs.length = hs.length := I1.al.length
    have len12 := ok.len
    have lts : ts.length ≤ 20 := by
      have a := tk_len hs ok.nz hs.length (Nat.le_refl _)
      rw [List.take_length, ← ets] at a
      have := ok.sum
      omega
    refine ⟨(by show 0 ≤ sizeLine; decide), fun bl nbl => ?_⟩
    have I2 := I1.new (o := .lst []) nbl
    refine ⟨_, rfl, _, rfl, f, c, tk, _, rfl, SqL.of (same_new nbl _ _ htk), ntk, by rw [List.length_map]; omega, I2.fl, fun sh ys H3 hp nsh hsh F3 B3 => ?_⟩
    obtain ⟨tt, rfl, htt⟩ := perm_inv (f := nV) (g := unN) (fun n => by show ((n : Nat) : Int).toNat = n; omega) hp
    have I3 := I2.but F3 B3
    have bf : bl ≠ f := I1.fl.ne nbl
    have bc : bl ≠ c := I1.fl.nec nbl
    have hbl3 := B3 _ _ upd_same bf
    have bsh : bl ≠ sh := fun e => by rw [← e, upd_same] at nsh; cases nsh
    have bnone : H bl = Option.none := I1.bt.none nbl bf
    have rank : Nat → Int := fun k => is.getD k 0
    refine ⟨sh, rfl, ⟨_, SqL.of hsh⟩, for_list (K := K) (a := sh) (xs := tt.map nV) (fun i σ H4 => ∃ (bv : List V) (bs : List BR) (v5 v8 v9 v10 : Option V), σ = [some (.ref f), some (.int m), some (.ref hh), some (.ref rk), some (.ref gv), v5, some (.ref tk), some (.ref bl), v8, v9, v10] ∧ RI f c hh H H4 xs hs ∧ H4 rk = some (.lst (is.map V.int)) ∧ H4 gv = some (.lst (gs.map nV)) ∧ H4 sh = some (.lst (tt.map nV)) ∧ H4 bl = some (.lst bv) ∧ All2 (BeltAt H4) bv bs ∧ bs.map BR.to = tt.take i ∧
        (∀ b ∈ bs, b.one < hs.length ∧ (∀ h, hs[b.one]? = some h → h.wd ≠ "out") ∧ b.th.length ≤ 6 ∧ (∀ x ∈ b.th, Small x) ∧ (b.th = [] → is.getD b.one 0 < is.getD b.to 0)))
      ⟨[], [], v5, none, none, none, rfl, I3, B3 _ _ (same_new nbl _ _ hrk) nrk, B3 _ _ (same_new nbl _ _ hgv) ngv, hsh, hbl3, .nil, rfl, (fun _ h => nomatch h)⟩ (fun i σ H4 _ ⟨_, _, _, _, _, _, _, _, _, _, h, _⟩ => SqL.of h) ?_ ?_⟩
    · rintro i y σ H4 hi ⟨bv, bs, v5, v8, v9, v10, rfl, I4, hrk4, hgv4, hsh4, hbl4, al, em, hb⟩
      rw [List.getElem?_map] at hi
      cases et : tt[i]? with
      | none => rw [et] at hi; cases hi
      | some to =>
      rw [et] at hi
      obtain rfl : nV to = y := Option.some.inj hi
      have toL : to < hs.length := tk_mem hs _ _ (by rw [← ets]; exact htt.mem_iff.mp (List.mem_of_getElem? et))
      have il : i < 20 := by have := (List.getElem?_eq_some_iff.mp et).1; rw [htt.length_eq] at this; omega
      have lb : bs.length = i := by
        have := congrArg List.length em
        rw [List.length_map, List.length_take, Nat.min_eq_left (Nat.le_of_lt (List.getElem?_eq_some_iff.mp et).1)] at this
        exact this
      have g0 : 0 < gs.length := List.length_pos_iff.mpr gne
      refine ⟨_, rfl, _, rfl, _, rfl, gv, _, rfl, .inl (SqL.of hgv4), f, c, _, rfl, (by rw [List.length_map]; omega), (by rw [List.length_map]; exact log_small (by omega)), I4.fl, fun z H5 z0 z1 F5 B5 => ?_⟩
      rw [List.length_map] at z1
      have I5 := I4.but F5 B5
      have hgv5 := B5 _ _ hgv4 ngv
      obtain ⟨one, eo, ho⟩ : ∃ one, atI (gs.map nV) z = some (nV one) ∧ one ∈ gs := by
        have hk : z.toNat < gs.length := by omega
        have ek : z = ((z.toNat : Nat) : Int) := by omega
        refine ⟨gs[z.toNat], ?_, List.getElem_mem _⟩
        have q2 : atI (gs.map nV) ((z.toNat : Nat) : Int) = some (nV gs[z.toNat]) := atI_nat (by rw [List.getElem?_map, List.getElem?_eq_getElem hk]; rfl)
        rw [← ek] at q2
        exact q2
      obtain ⟨ho1, eh1, hout⟩ := gok one ho
      have oneL : one < hs.length := (List.getElem?_eq_some_iff.mp eh1).1
      refine ⟨gv, _, _, _, rfl, rfl, SqL.of hgv5, eo, ?_⟩
      refine ⟨(by show 8 ≤ sizeLine; decide), fun tl ntl => ?_⟩
      have I6 := I5.new (o := .lst [V.int 0, V.int 0, V.int 0, V.int 1, V.int 1, V.int 2, V.int 3, V.int 6]) ntl
      refine ⟨_, rfl, f, c, 8, rfl, by decide, by decide +kernel, I6.fl, fun y2 H7 y0 y8 F7 B7 => ?_⟩
      have I7 := I6.but F7 B7
      have htl := B7 _ _ upd_same (I5.fl.ne ntl)
      obtain ⟨tr, htr, tr0, tr6⟩ : ∃ tr : Int, atI [V.int 0, V.int 0, V.int 0, V.int 1, V.int 1, V.int 2, V.int 3, V.int 6] y2 = some (.int tr) ∧ 0 ≤ tr ∧ tr ≤ 6 := by
        have : y2 = 0 ∨ y2 = 1 ∨ y2 = 2 ∨ y2 = 3 ∨ y2 = 4 ∨ y2 = 5 ∨ y2 = 6 ∨ y2 = 7 := by omega
        rcases this with rfl | rfl | rfl | rfl | rfl | rfl | rfl | rfl
        · exact ⟨0, rfl, by decide, by decide⟩
        · exact ⟨0, rfl, by decide, by decide⟩
        · exact ⟨0, rfl, by decide, by decide⟩
        · exact ⟨1, rfl, by decide, by decide⟩
        · exact ⟨1, rfl, by decide, by decide⟩
        · exact ⟨2, rfl, by decide, by decide⟩
        · exact ⟨3, rfl, by decide, by decide⟩
        · exact ⟨6, rfl, by decide, by decide⟩
      refine ⟨tl, _, _, _, rfl, rfl, SqL.of htl, htr, ?_⟩
      have k7 : But f H4 H7 := (B5.new ntl).trans B7
      have hrk7 := k7 _ _ hrk4 nrk
      have hgv7 := k7 _ _ hgv4 ngv
      have shf : sh ≠ f := fun e => by rw [e] at nsh; obtain ⟨_, _, _, _, _, e1, _⟩ := I2.fl; rw [e1] at nsh; cases nsh
      have hsh7 := k7 _ _ hsh4 shf
      have hbl7 := k7 _ _ hbl4 bf
      have tk7 : TK H4 H7 := (TK.but I4.fl B5).trans ((TK.new ntl).trans (TK.but I6.fl B7))
      have al7 : All2 (BeltAt H7) bv bs := al.imp fun _ _ z => z.keep tk7
      have r1 : (is.map V.int)[one]? = some (.int (is.getD one 0)) := by
        rw [List.getElem?_map, List.getD_eq_getElem?_getD, List.getElem?_eq_getElem (by omega)]; rfl
      have r2 : (is.map V.int)[to]? = some (.int (is.getD to 0)) := by
        rw [List.getElem?_map, List.getD_eq_getElem?_getD, List.getElem?_eq_getElem (by omega)]; rfl
      have bvl : bv.length = i := by rw [al.length, lb]
      -- the end of a turn, with so many trays
      refine ⟨_, rfl, _, rfl, rk, _, _, _, rfl, rfl, SqL.of hrk7, atI_nat r1, _, rfl, _, rfl, rk, _, _, _, rfl, rfl, SqL.of hrk7, atI_nat r2, _, _, rfl, rfl, _, rfl, if_bl (fun kk => ?_) (fun kk => ?_)⟩
      · refine ⟨_, rfl, _, _, rfl, ?_⟩
        generalize ht : (if tr > 1 then tr else 1) = tn
        have tn0 : 0 ≤ tn := by rw [← ht]; split <;> omega
        have tn6 : tn ≤ 6 := by rw [← ht]; split <;> omega
        have ttt : tn.toNat = 0 → is.getD one 0 < is.getD to 0 := fun e => by
          exfalso
          have : 1 ≤ tn := by rw [← ht]; split <;> omega
          omega
        refine ⟨_, rfl, .inl ⟨rfl, _, SqL.of hbl7⟩, _, rfl, _, rfl, _, rfl, _, rfl, by omega, by omega, fun D nD => lc_range (lo := 0) (n := tn.toNat) (fun j H8 => ∃ vs : List Int, vs.length = j ∧ H8 D = some (.lst (vs.map V.int)) ∧ (∀ x ∈ vs, Small x) ∧ RI f c hh H H8 xs hs ∧ But f H7 H8 ∧ TK H7 H8 ∧ D ≠ f ∧ D ≠ c ∧ D ≠ hh ∧ H D = Option.none ∧ H7 D = Option.none)
          ⟨[], rfl, upd_same, (fun _ h => nomatch h), I7.new nD, But.refl.new nD, TK.new nD, I7.fl.ne nD, I7.fl.nec nD, (ne_of_none I7.lh nD).symm, I7.bt.none nD (I7.fl.ne nD), nD⟩ ?_ ?_⟩
        · rintro j H8 hj ⟨vs, lv, hD, sm, I8, b8, t8, d1, d2, d3, d4, d5⟩
          refine ⟨rfl, yes_in ⟨_, rfl, f, c, rfl, I8.fl, fun x H9 sx F9 B9 => ⟨_, B9 _ _ hD d1, ?_, vs ++ [x], by rw [List.length_append, lv]; rfl, ?_, ?_, (I8.but F9 B9).lst (B9 _ _ hD d1) d1 d2 d3 d4, (b8.trans B9).own d5, (t8.trans (TK.but I8.fl B9)).trans (TK.lst (B9 _ _ hD d1)), d1, d2, d3, d4, d5⟩⟩⟩
          · rw [List.length_map, lv]; exact small1000 (by omega)
          · rw [upd_same, List.map_append]; rfl
          · intro y hy
            rcases List.mem_append.mp hy with hy | hy
            · exact sm y hy
            · obtain rfl : y = x := by simpa using hy
              exact sx
        · rintro H8 ⟨vs, lv, hD, sm, I8, b8, t8, d1, d2, d3, d4, d5⟩
          refine ⟨D, _, rfl, .inl ⟨SqL.of hD, fun g ng => ⟨(by show 3 ≤ sizeLine; decide), fun t nt => ?_⟩⟩⟩
          have I9 := (I8.new (o := .tup (vs.map V.int)) ng).new (o := .tup [nV one, nV to, V.ref g]) nt
          have hbl8 := same_new (o := .tup [nV one, nV to, V.ref g]) nt _ _ (same_new (o := .tup (vs.map V.int)) ng _ _ (b8 _ _ hbl7 bf))
          have t9 : TK H7 (upd (upd H8 g (.tup (vs.map V.int))) t (.tup [nV one, nV to, V.ref g])) := (t8.trans (TK.new ng)).trans (TK.new nt)
          have s9 : ∀ b o, H7 b = some o → b ≠ f → (upd (upd H8 g (.tup (vs.map V.int))) t (.tup [nV one, nV to, V.ref g])) b = some o := fun b o e n => same_new nt _ _ (same_new ng _ _ (b8 _ _ e n))
          have bh : bl ≠ hh := fun e => by
            have h1 := I1.lh
            rw [← e, nbl] at h1
            cases h1
          have brk : bl ≠ rk := fun e => by
            have h1 := hrk
            rw [← e, nbl] at h1
            cases h1
          have bgv : bl ≠ gv := fun e => by
            have h1 := hgv
            rw [← e, nbl] at h1
            cases h1
          refine ⟨bl, _, _, rfl, rfl, hbl8, small1000 (by rw [bvl]; omega), ?_⟩
          refine ⟨bv ++ [V.ref t], bs ++ [⟨one, to, vs⟩], _, _, _, _, rfl, I9.lst hbl8 bf bc bh bnone, ?_, ?_, ?_, upd_same, ?_, ?_, ?_⟩
          · rw [upd_ne brk.symm]; exact s9 _ _ hrk7 nrk
          · rw [upd_ne bgv.symm]; exact s9 _ _ hgv7 ngv
          · rw [upd_ne bsh.symm]; exact s9 _ _ hsh7 shf
          · exact ((al7.imp fun _ _ z => z.keep t9).snoc ⟨t, g, rfl, upd_same, same_new nt _ _ upd_same⟩).imp fun _ _ z => z.keep (TK.lst hbl8)
          · rw [List.map_append, em, List.take_add_one, et]; rfl
          · intro b hb2
            rcases List.mem_append.mp hb2 with hb2 | hb2
            · exact hb b hb2
            · obtain rfl : b = ⟨one, to, vs⟩ := by simpa using hb2
              refine ⟨oneL, fun h e => ?_, by show vs.length ≤ 6; omega, sm, fun e => ?_⟩
              · have e : hs[one]? = some h := e
                rw [eh1] at e
                cases e
                exact hout
              · have e : vs = [] := e
                rw [e] at lv
                exact ttt (by simpa using lv.symm)
      · obtain ⟨tn, ht⟩ : ∃ tn, tn = tr := ⟨_, rfl⟩
        rw [← ht]
        have tn0 : 0 ≤ tn := by omega
        have tn6 : tn ≤ 6 := by omega
        have ttt : tn.toNat = 0 → is.getD one 0 < is.getD to 0 := fun _ => by
          have : ¬ is.getD to 0 ≤ is.getD one 0 := of_decide_eq_false kk
          omega
        refine ⟨_, rfl, .inl ⟨rfl, _, SqL.of hbl7⟩, _, rfl, _, rfl, _, rfl, _, rfl, by omega, by omega, fun D nD => lc_range (lo := 0) (n := tn.toNat) (fun j H8 => ∃ vs : List Int, vs.length = j ∧ H8 D = some (.lst (vs.map V.int)) ∧ (∀ x ∈ vs, Small x) ∧ RI f c hh H H8 xs hs ∧ But f H7 H8 ∧ TK H7 H8 ∧ D ≠ f ∧ D ≠ c ∧ D ≠ hh ∧ H D = Option.none ∧ H7 D = Option.none)
          ⟨[], rfl, upd_same, (fun _ h => nomatch h), I7.new nD, But.refl.new nD, TK.new nD, I7.fl.ne nD, I7.fl.nec nD, (ne_of_none I7.lh nD).symm, I7.bt.none nD (I7.fl.ne nD), nD⟩ ?_ ?_⟩
        · rintro j H8 hj ⟨vs, lv, hD, sm, I8, b8, t8, d1, d2, d3, d4, d5⟩
          refine ⟨rfl, yes_in ⟨_, rfl, f, c, rfl, I8.fl, fun x H9 sx F9 B9 => ⟨_, B9 _ _ hD d1, ?_, vs ++ [x], by rw [List.length_append, lv]; rfl, ?_, ?_, (I8.but F9 B9).lst (B9 _ _ hD d1) d1 d2 d3 d4, (b8.trans B9).own d5, (t8.trans (TK.but I8.fl B9)).trans (TK.lst (B9 _ _ hD d1)), d1, d2, d3, d4, d5⟩⟩⟩
          · rw [List.length_map, lv]; exact small1000 (by omega)
          · rw [upd_same, List.map_append]; rfl
          · intro y hy
            rcases List.mem_append.mp hy with hy | hy
            · exact sm y hy
            · obtain rfl : y = x := by simpa using hy
              exact sx
        · rintro H8 ⟨vs, lv, hD, sm, I8, b8, t8, d1, d2, d3, d4, d5⟩
          refine ⟨D, _, rfl, .inl ⟨SqL.of hD, fun g ng => ⟨(by show 3 ≤ sizeLine; decide), fun t nt => ?_⟩⟩⟩
          have I9 := (I8.new (o := .tup (vs.map V.int)) ng).new (o := .tup [nV one, nV to, V.ref g]) nt
          have hbl8 := same_new (o := .tup [nV one, nV to, V.ref g]) nt _ _ (same_new (o := .tup (vs.map V.int)) ng _ _ (b8 _ _ hbl7 bf))
          have t9 : TK H7 (upd (upd H8 g (.tup (vs.map V.int))) t (.tup [nV one, nV to, V.ref g])) := (t8.trans (TK.new ng)).trans (TK.new nt)
          have s9 : ∀ b o, H7 b = some o → b ≠ f → (upd (upd H8 g (.tup (vs.map V.int))) t (.tup [nV one, nV to, V.ref g])) b = some o := fun b o e n => same_new nt _ _ (same_new ng _ _ (b8 _ _ e n))
          have bh : bl ≠ hh := fun e => by
            have h1 := I1.lh
            rw [← e, nbl] at h1
            cases h1
          have brk : bl ≠ rk := fun e => by
            have h1 := hrk
            rw [← e, nbl] at h1
            cases h1
          have bgv : bl ≠ gv := fun e => by
            have h1 := hgv
            rw [← e, nbl] at h1
            cases h1
          refine ⟨bl, _, _, rfl, rfl, hbl8, small1000 (by rw [bvl]; omega), ?_⟩
          refine ⟨bv ++ [V.ref t], bs ++ [⟨one, to, vs⟩], _, _, _, _, rfl, I9.lst hbl8 bf bc bh bnone, ?_, ?_, ?_, upd_same, ?_, ?_, ?_⟩
          · rw [upd_ne brk.symm]; exact s9 _ _ hrk7 nrk
          · rw [upd_ne bgv.symm]; exact s9 _ _ hgv7 ngv
          · rw [upd_ne bsh.symm]; exact s9 _ _ hsh7 shf
          · exact ((al7.imp fun _ _ z => z.keep t9).snoc ⟨t, g, rfl, upd_same, same_new nt _ _ upd_same⟩).imp fun _ _ z => z.keep (TK.lst hbl8)
          · rw [List.map_append, em, List.take_add_one, et]; rfl
          · intro b hb2
            rcases List.mem_append.mp hb2 with hb2 | hb2
            · exact hb b hb2
            · obtain rfl : b = ⟨one, to, vs⟩ := by simpa using hb2
              refine ⟨oneL, fun h e => ?_, by show vs.length ≤ 6; omega, sm, fun e => ?_⟩
              · have e : hs[one]? = some h := e
                rw [eh1] at e
                cases e
                exact hout
              · have e : vs = [] := e
                rw [e] at lv
                exact ttt (by simpa using lv.symm)
    · rintro σ H4 ⟨bv, bs, v5, v8, v9, v10, rfl, I4, hrk4, hgv4, hsh4, hbl4, al, em, hb⟩
      rw [List.length_map, List.take_length] at em
      have lb : bs.length = ts.length := by
        have := congrArg List.length em
        rw [List.length_map] at this
        rw [this, htt.length_eq]
      refine ⟨_, rfl, hh, _, rfl, .inl ⟨SqL.of I4.lh, fun a1 na1 => ⟨_, rfl, bl, _, rfl, .inl ⟨SqL.of (same_new na1 _ _ hbl4), fun a2 na2 => ⟨(by show 2 ≤ sizeLine; decide), fun a3 na3 => ?_⟩⟩⟩⟩⟩
      rw [eD]
      have k1 : TK H4 (upd (upd (upd H4 a1 (.tup xs)) a2 (.tup bv)) a3 (.tup [V.ref a1, V.ref a2])) := ((TK.new na1).trans (TK.new na2)).trans (TK.new na3)
      refine q a3 hs bs _ ⟨a1, a2, xs, bv, upd_same, same_new na3 _ _ (same_new na2 _ _ upd_same), same_new na3 _ _ upd_same, I4.al.imp fun _ _ z => z.keep k1, al.imp fun _ _ z => z.keep k1⟩ ⟨ok.len, ok.good, fun b hb2 => ⟨(hb b hb2).1, ?_⟩, fun b hb2 => (hb b hb2).2.1, fun b hb2 => ⟨Nat.le_trans (hb b hb2).2.2.1 (by decide), (hb b hb2).2.2.2.1⟩, ⟨fun k => is.getD k 0, fun b hb2 => (hb b hb2).2.2.2.2⟩, fun k h hk => ?_, by omega⟩ (by obtain ⟨h1, hm1, _⟩ := ok.one; exact List.length_pos_of_mem hm1) (fun b hb2 => (hb b hb2).2.2.1) (((I4.fl.new na1).new na2).new na3) (((I4.bt.new na1).new na2).new na3)
      · have : b.to ∈ bs.map BR.to := List.mem_map.mpr ⟨b, hb2, rfl⟩
        rw [em] at this
        exact tk_mem hs _ _ (by rw [← ets]; exact htt.mem_iff.mp this)
      · rw [em, htt.count_eq, ets, tk_count, if_pos (List.getElem?_eq_some_iff.mp hk).1]
        unfold nd
        rw [hk]
        have := ok.nz h (List.mem_of_getElem? hk)
        show (((needs h.wd).toNat : Nat) : Int) = needs h.wd
        omega
  case tail1 =>
    rintro D' σ' H1 ⟨eD, hh, rk, gv, xs, hs, is, gs, rfl, I1, ok, hrk, lis, hgv, gne, glen, gok, nrk, ngv⟩
    refine ⟨(by show 0 ≤ sizeLine; decide), fun tk ntk => ?_⟩
    have I2 := I1.new (o := .lst []) ntk
    have hx : xs.length = hs.length := I1.al.length
    refine ⟨_, rfl, hh, _, rfl, .inl (SqL.of I2.lh), _, rfl, by omega, (by rw [hx]; have := ok.len; omega), for_range (lo := 0) (n := xs.length) (fun i σ H2 => ∃ (tk : Addr) (v5 : Option V), σ = [some (.ref f), some (.int m), some (.ref hh), some (.ref rk), some (.ref gv), v5, some (.ref tk), none, none, none, none] ∧ RI f c hh H H2 xs hs ∧ H2 rk = some (.lst (is.map V.int)) ∧ H2 gv = some (.lst (gs.map nV)) ∧ tk ≠ f ∧ H2 tk = some (.lst ((tkTo hs i).map nV)))
      ⟨tk, none, rfl, I2, same_new ntk _ _ hrk, same_new ntk _ _ hgv, I1.fl.ne ntk, upd_same⟩ ?_ ?_⟩
    · rintro i σ H2 hi ⟨tk, v5, rfl, I3, hrk3, hgv3, tf, htk⟩
      have eh : hs[i]? = some hs[i] := List.getElem?_eq_getElem (by omega)
      obtain ⟨x, ex, ⟨t, r, rfl, e1, e2⟩⟩ := I3.al.get eh
      have z0 := ok.nz _ (List.mem_of_getElem? eh)
      have zs : needs hs[i].wd ≤ 3 := by
        unfold needs
        split
        · decide
        · split
          · decide
          · split <;> decide
      have sz : (tkTo hs i).length ≤ 20 := by
        have a := tk_len hs ok.nz i (by omega)
        have b : ((hs.take i).map fun h => needs h.wd).sum ≤ (hs.map fun h => needs h.wd).sum := by
          have e : hs.map (fun h => needs h.wd) = (hs.take i).map (fun h => needs h.wd) ++ (hs.drop i).map (fun h => needs h.wd) := by rw [← List.map_append, List.take_append_drop]
          rw [e, List.sum_append]
          have : 0 ≤ ((hs.drop i).map fun h => needs h.wd).sum := by
            have hz : ∀ h ∈ hs.drop i, 0 ≤ needs h.wd := fun h hh => ok.nz h (List.mem_of_mem_drop hh)
            revert hz
            generalize hs.drop i = l
            intro hz
            induction l with
            | nil => decide
            | cons a l ih =>
              have := hz a (List.mem_cons_self ..)
              have := ih fun h hh => hz h (List.mem_cons_of_mem _ hh)
              rw [List.map_cons, List.sum_cons]
              omega
          omega
        have := ok.sum
        omega
      refine ⟨_, rfl, _, rfl, (by show 1 ≤ sizeLine; decide), fun l1 nl1 => ?_⟩
      have I4 := I3.new (o := .lst [V.int (0 + ((i : Nat) : Int))]) nl1
      refine ⟨_, rfl, _, rfl, hh, _, _, _, rfl, rfl, SqL.of I4.lh, at0 ex, t, _, _, _, rfl, rfl, SqT.of (same_new nl1 _ _ e1), atI_nat (j := 0) rfl, r, hs[i].wd, _, rfl, SqT.of (same_new nl1 _ _ e2), fun H5 s5 => ?_⟩
      have I5 := I4.same s5
      have g1 := s5 _ _ upd_same
      have g2 := s5 _ _ (same_new nl1 _ _ htk)
      refine ⟨l1, _, _, rfl, rfl, g1, by omega, by omega, little (by show 1 * (needs hs[i].wd).toNat ≤ 1000; omega), fun l2 nl2 => ?_⟩
      rw [flat_rep]
      have I6 := I5.new (o := .lst (List.replicate (needs hs[i].wd).toNat (V.int (0 + ((i : Nat) : Int))))) nl2
      refine ⟨tk, l2, _, _, rfl, rfl, same_new nl2 _ _ g2, upd_same, ?_, fun l3 nl3 => ?_⟩
      · rw [List.length_map, List.length_replicate]; exact little (by omega)
      refine ⟨l3, _, rfl, I6.new nl3, same_new nl3 _ _ (same_new nl2 _ _ (s5 _ _ (same_new nl1 _ _ hrk3))), same_new nl3 _ _ (same_new nl2 _ _ (s5 _ _ (same_new nl1 _ _ hgv3))), I6.fl.ne nl3, ?_⟩
      rw [upd_same]
      have e : nd hs i = (needs hs[i].wd).toNat := by unfold nd; rw [eh]
      rw [show tkTo hs (i + 1) = tkTo hs i ++ List.replicate (nd hs i) i from rfl, List.map_append, List.map_replicate, e, Int.zero_add]
    · rintro σ H2 ⟨tk, v5, rfl, I3, hrk3, hgv3, tf, htk⟩
      exact ⟨eD, hh, rk, gv, tk, xs, hs, is, gs, _, v5, rfl, I3, ok, hrk3, lis, hgv3, gne, glen, gok, nrk, ngv, tf, htk, by rw [hx]⟩
  refine ⟨_, rfl, _, rfl, _, rfl, f, c, m, rfl, by omega, hm9, hF, fun v1 H1 a1 b1 F1 B1 => ?_⟩
  refine ⟨_, _, rfl, rfl, f, c, _, rfl, by omega, by omega, F1, fun hh xs hs H2 nhh hhh al ok F2 B2 => ?_⟩
  have hx : xs.length = hs.length := al.length
  have len12 := ok.len
  have nf : hh ≠ f := F1.ne nhh
  have I2 : RI f c hh H H2 xs hs := ⟨F2, B1.trans B2, hhh, al, nf, B1.none nhh nf⟩
  -- ranks
  refine ⟨_, rfl, _, rfl, hh, _, rfl, .inl (SqL.of I2.lh), _, rfl, ⟨by omega, by omega, by omega, by omega, by omega⟩, fun rg nrg => ?_⟩
  have I3 := I2.new (o := .lst (rgV 0 ((xs.length : Nat) : Int))) nrg
  refine ⟨f, c, rg, _, rfl, SqL.of upd_same, I2.fl.ne nrg, ?_, I3.fl, fun rk ys H4 hp nrk hrk F4 B4 => ?_⟩
  · rw [rgV_length]; omega
  have erg : rgV 0 ((xs.length : Nat) : Int) = ((List.range xs.length).map fun i => ((i : Nat) : Int)).map V.int := by
    unfold rgV
    rw [List.map_map, show (((xs.length : Nat) : Int) - 0).toNat = xs.length by omega]
    refine List.map_congr_left fun i _ => ?_
    show V.int (0 + ((i : Nat) : Int)) = V.int ((i : Nat) : Int)
    rw [Int.zero_add]
  rw [erg] at hp
  obtain ⟨is, rfl, his⟩ := perm_inv (f := V.int) (g := unI) (fun _ => rfl) hp
  have lis : is.length = hs.length := by rw [his.length_eq, List.length_map, List.length_range, hx]
  have I4 := I3.but F4 B4
  have rkf : rk ≠ f := I3.fl.ne nrk
  -- givers
  refine ⟨_, rfl, hh, _, rfl, .inl (SqL.of I4.lh), _, rfl, by omega, by omega, fun D nD => lc_range (lo := 0) (n := xs.length) (fun i H5 => ∃ gs : List Nat, H5 D = some (.lst (gs.map nV)) ∧ gs.length ≤ i ∧ RI f c hh H H5 xs hs ∧ H5 rk = some (.lst (is.map V.int)) ∧ (∀ k ∈ gs, ∃ h, hs[k]? = some h ∧ h.wd ≠ "out") ∧ (∀ k h, k < i → hs[k]? = some h → h.wd ≠ "out" → gs ≠ []) ∧ D ≠ f ∧ D ≠ c ∧ D ≠ hh ∧ D ≠ rk ∧ H D = Option.none)
    ⟨[], upd_same, Nat.le_refl _, I4.new nD, same_new nD _ _ hrk, (fun _ h => nomatch h), (fun k h hk => absurd hk (Nat.not_lt_zero _)), I4.fl.ne nD, I4.fl.nec nD, (ne_of_none I4.lh nD).symm, (ne_of_none hrk nD).symm, I4.bt.none nD (I4.fl.ne nD)⟩ ?_ ?_⟩
  · rintro i H5 hi ⟨gs, hD, lg, I5, hrk5, g1, g2, d1, d2, d3, d4, d5⟩
    have eh : hs[i]? = some hs[i] := List.getElem?_eq_getElem (by omega)
    obtain ⟨x, ex, ⟨t, r, rfl, e1, e2⟩⟩ := I5.al.get eh
    have gh := ok.good _ (List.mem_of_getElem? eh)
    refine ⟨rfl, _, rfl, _, rfl, hh, _, _, _, rfl, rfl, SqL.of I5.lh, at0 ex, t, _, _, _, rfl, rfl, SqT.of e1, atI_nat (j := 0) rfl, (by show 1 ≤ sizeLine; decide), fun o1 no1 => ?_⟩
    have I6 := I5.new (o := .tup [V.str "out"]) no1
    have hD6 : (upd H5 o1 (.tup [V.str "out"])) D = some (.lst (gs.map nV)) := same_new no1 _ _ hD
    refine ⟨_, _, rule_dp (same_new no1 _ _ e2), .tup (SqT.of upd_same) (.cons (.str _) .nil), rule_shaped gh.lay, one_shaped (by decide +kernel), _, rfl, ?_⟩
    rw [rule_eqv, gh.door "out" (.inr rfl)]
    by_cases k : hs[i].wd = "out"
    · rw [decide_eq_true k]
      refine if_bl (fun z => absurd z (by decide)) (fun _ => ⟨gs, hD6, by omega, I6, same_new no1 _ _ hrk5, g1, fun k' h' hk hk2 hk3 => ?_, d1, d2, d3, d4, d5⟩)
      by_cases y : k' = i
      · subst y
        rw [eh] at hk2
        cases hk2
        exact absurd k hk3
      · exact g2 k' h' (by omega) hk2 hk3
    · rw [decide_eq_false k]
      refine if_bl (fun _ => ⟨_, rfl, _, hD6, ?_, gs ++ [i], ?_, ?_, I6.lst hD6 d1 d2 d3 d5, ?_, ?_, fun _ _ _ _ _ z => by simp at z, d1, d2, d3, d4, d5⟩) (fun z => absurd z (by decide))
      · rw [List.length_map]; exact small1000 (by omega)
      · rw [upd_same, List.map_append, Int.zero_add]; rfl
      · rw [List.length_append]; show gs.length + 1 ≤ i + 1; omega
      · rw [upd_ne d4.symm]; exact same_new no1 _ _ hrk5
      · intro k' hk
        rcases List.mem_append.mp hk with hk | hk
        · exact g1 k' hk
        · obtain rfl : k' = i := by simpa using hk
          exact ⟨_, eh, k⟩
  · rintro H5 ⟨gs, hD, lg, I5, hrk5, g1, g2, d1, d2, d3, d4, d5⟩
    obtain ⟨h1, hm1, hm2⟩ := ok.one
    obtain ⟨k1, hk1⟩ := List.getElem?_of_mem hm1
    have k1l := (List.getElem?_eq_some_iff.mp hk1).1
    exact ⟨rfl, hh, rk, D, xs, hs, is, gs, rfl, I5, ok, hrk5, lis, hD, g2 k1 h1 (by omega) hk1 hm2, by omega, g1, rkf, d1⟩
end
/-! ### max, min of a list with a default -/
def rMaxDf (K : PySem.W.Frag) : List V → List V → Hp → VK → Prop := fun xs zs H Q => ∃ (a : Addr) (ns : List Int) (d : V), xs = [.ref a] ∧ zs = [d] ∧ SqL K H a (ns.map V.int) ∧ (ns = [] → Q d H) ∧ ∀ m, m ∈ ns → (∀ y ∈ ns, y ≤ m) → Q (.int m) H
def rMinDf (K : PySem.W.Frag) : List V → List V → Hp → VK → Prop := fun xs zs H Q => ∃ (a : Addr) (ns : List Int) (d : V), xs = [.ref a] ∧ zs = [d] ∧ SqL K H a (ns.map V.int) ∧ (ns = [] → Q d H) ∧ ∀ m, m ∈ ns → (∀ y ∈ ns, m ≤ y) → Q (.int m) H
theorem ints_val {ns : List Int} {its : List Value} (rv : Vals (ns.map V.int) its) : ∀ i v, its.toArray[i]? = some v → ∃ t, v = Value.int (ns.getD i 0) t := fun i v e => by
  rw [List.getElem?_toArray] at e
  have il : i < ns.length := by
    have h1 := (List.getElem?_eq_some_iff.mp e).1
    have h2 := rv.length
    rw [List.length_map] at h2
    omega
  obtain ⟨u, eu, t, ru⟩ := rv.get (i := i) (x := .int ns[i]) (by rw [List.getElem?_map, List.getElem?_eq_getElem il]; rfl)
  rw [e] at eu
  cases eu
  exact ⟨t, by rw [ru, List.getD_eq_getElem?_getD, List.getElem?_eq_getElem il]; rfl⟩
section
variable {X : Cx}
theorem cr_maxDf (K : PySem.W.Frag) (hk : X.K = K) (hc : X.calm = true) : CallRK X (.builtin "max") ["default"] (rMaxDf K) := by
  subst hk
  intro pins s σ H xs zs us ws Q I r r2 h
  obtain ⟨a, ns, d, rfl, rfl, hs, q0, q1⟩ := h
  obtain ⟨its, rv, hl, _⟩ := I.list hs
  rw [Vals.ref1 r]
  obtain ⟨dv, rfl, rd⟩ := vals1 r2
  have hh := I.ok.hd hc
  have ln : its.length = ns.length := by rw [← rv.length, List.length_map]
  show wpAny _ _ (call (.builtin "max") [.ref a] [(Str.ofString "default", dv)]) _ _ s
  refine PySem.call_max_walkD (PySem.W.iter_listW (A := X.A.in1) hh hl.isList fun s₂ e W st hfp hw hk => ?_)
  refine ⟨_, _, _, _, _, _, _, s.heap, (fun i j => decide (ns.getD i 0 > ns.getD j 0)), rfl, W, st, hfp, hw, hk, fun hz s' m => ?_, fun hp => ⟨fun i j vi vj s3 Q3 E3 _ p1 p2 q3 => ?_, fun v s' hP m => ?_⟩⟩
  · obtain ⟨h', tk, rfl, hk'⟩ := PySem.W.moved_old e rfl m
    refine ⟨d, H, I.kept hk', rd, q0 ?_⟩
    exact List.eq_nil_of_length_eq_zero (by have : its.toArray.size = 0 := hz; rw [List.size_toArray] at this; omega)
  · exact (CmpOf.ints_gt (fun i => ns.getD i 0) (ints_val rv)) i j vi vj s3 Q3 E3 p1 p2 q3
  · obtain ⟨h', tk, rfl, hk'⟩ := PySem.W.moved_old e rfl m
    have hp : 0 < its.length := by have : 0 < its.toArray.size := hp; rw [List.size_toArray] at this; exact this
    have hsz : its.toArray.size = its.length := List.size_toArray
    obtain ⟨t, rfl⟩ := ints_val rv _ v hP
    obtain ⟨h1, h2⟩ := argBest_gt (fun i => ns.getD i 0) (its.toArray.size - 1)
    refine ⟨.int _, H, I.kept hk', ⟨_, rfl⟩, q1 _ ?_ fun y hy => ?_⟩
    · have il : argBest (fun i j => decide (ns.getD i 0 > ns.getD j 0)) (its.toArray.size - 1) < ns.length := by omega
      rw [List.getD_eq_getElem?_getD, List.getElem?_eq_getElem il]
      exact List.getElem_mem _
    · obtain ⟨j, hj⟩ := List.getElem?_of_mem hy
      have jl := (List.getElem?_eq_some_iff.mp hj).1
      have := h2 j (by omega)
      rw [show ns.getD j 0 = y by rw [List.getD_eq_getElem?_getD, hj]; rfl] at this
      exact this
theorem cr_minDf (K : PySem.W.Frag) (hk : X.K = K) (hc : X.calm = true) : CallRK X (.builtin "min") ["default"] (rMinDf K) := by
  subst hk
  intro pins s σ H xs zs us ws Q I r r2 h
  obtain ⟨a, ns, d, rfl, rfl, hs, q0, q1⟩ := h
  obtain ⟨its, rv, hl, _⟩ := I.list hs
  rw [Vals.ref1 r]
  obtain ⟨dv, rfl, rd⟩ := vals1 r2
  have hh := I.ok.hd hc
  have ln : its.length = ns.length := by rw [← rv.length, List.length_map]
  show wpAny _ _ (call (.builtin "min") [.ref a] [(Str.ofString "default", dv)]) _ _ s
  refine PySem.call_min_walkD (PySem.W.iter_listW (A := X.A.in1) hh hl.isList fun s₂ e W st hfp hw hk => ?_)
  refine ⟨_, _, _, _, _, _, _, s.heap, (fun i j => decide (ns.getD i 0 < ns.getD j 0)), rfl, W, st, hfp, hw, hk, fun hz s' m => ?_, fun hp => ⟨fun i j vi vj s3 Q3 E3 _ p1 p2 q3 => ?_, fun v s' hP m => ?_⟩⟩
  · obtain ⟨h', tk, rfl, hk'⟩ := PySem.W.moved_old e rfl m
    refine ⟨d, H, I.kept hk', rd, q0 ?_⟩
    exact List.eq_nil_of_length_eq_zero (by have : its.toArray.size = 0 := hz; rw [List.size_toArray] at this; omega)
  · exact (CmpOf.ints_lt (fun i => ns.getD i 0) (ints_val rv)) i j vi vj s3 Q3 E3 p1 p2 q3
  · obtain ⟨h', tk, rfl, hk'⟩ := PySem.W.moved_old e rfl m
    have hp : 0 < its.length := by have : 0 < its.toArray.size := hp; rw [List.size_toArray] at this; exact this
    have hsz : its.toArray.size = its.length := List.size_toArray
    obtain ⟨t, rfl⟩ := ints_val rv _ v hP
    obtain ⟨h1, h2⟩ := argBest_lt (fun i => ns.getD i 0) (its.toArray.size - 1)
    refine ⟨.int _, H, I.kept hk', ⟨_, rfl⟩, q1 _ ?_ fun y hy => ?_⟩
    · have il : argBest (fun i j => decide (ns.getD i 0 < ns.getD j 0)) (its.toArray.size - 1) < ns.length := by omega
      rw [List.getD_eq_getElem?_getD, List.getElem?_eq_getElem il]
      exact List.getElem_mem _
    · obtain ⟨j, hj⟩ := List.getElem?_of_mem hy
      have jl := (List.getElem?_eq_some_iff.mp hj).1
      have := h2 j (by omega)
      rw [show ns.getD j 0 = y by rw [List.getD_eq_getElem?_getD, hj]; rfl] at this
      exact this
end
theorem filt_succ {p : Nat → Bool} (i : Nat) : (List.range (i + 1)).filter p = (List.range i).filter p ++ (if p i = true then [i] else []) := by
  rw [List.range_succ, List.filter_append]
  cases h : p i <;> simp [h]
theorem filt_len {p : Nat → Bool} (i : Nat) : ((List.range i).filter p).length ≤ i := by
  refine Nat.le_trans (List.length_filter_le ..) ?_
  rw [List.length_range]
  exact Nat.le_refl _
/-! ### slices and sums of tuples, whatever they are -/
theorem slA_of {K : PySem.W.Frag} {H : Hp} {a : Addr} {xs : List V} {lo hi : Option Int} {Q : VK} (h : H a = some (.tup xs)) (k : ∀ (p : Addr) (H' : Hp), H' p = some (.tup (cutV xs lo hi)) → Same H H' → Q (.ref p) H') : rSlA K (.ref a) lo hi H Q := by
  refine ⟨a, xs, rfl, SqT.of h, fun z => k a H ?_ (Same.refl _), fun _ p np => k p _ upd_same (same_new np)⟩
  unfold cutV
  rw [z.1, z.2, List.drop_zero, Nat.sub_zero, List.take_length]
  exact h
theorem catA_of {K : PySem.W.Frag} {H : Hp} {a b : Addr} {xs ys : List V} {Q : VK} (h : H a = some (.tup xs)) (g : H b = some (.tup ys)) (l : xs.length + ys.length ≤ 1000) (k : ∀ (p : Addr) (H' : Hp), H' p = some (.tup (xs ++ ys)) → Same H H' → Q (.ref p) H') : rCatA K (.ref a) (.ref b) H Q := by
  refine ⟨a, b, xs, ys, rfl, rfl, SqT.of h, SqT.of g, little l, fun e => k b H ?_ (Same.refl _), fun _ e => k a H ?_ (Same.refl _), fun _ _ p np => k p _ upd_same (same_new np)⟩
  · rw [e]; exact g
  · rw [e, List.append_nil]; exact h
theorem cut_take (xs : List V) (k : Nat) : cutV xs none (some ((k : Nat) : Int)) = xs.take k := by
  unfold cutV
  rw [HT.sIx_nat, HT.sIx_none, List.drop_zero, Nat.sub_zero]
  by_cases h : k ≤ xs.length
  · rw [Nat.min_eq_left h]
  · rw [Nat.min_eq_right (by omega), List.take_length, List.take_of_length_le (by omega)]
theorem cut_part {xs : List V} {lo hi : Option Int} : ∀ x ∈ cutV xs lo hi, x ∈ xs := fun x hx => List.mem_of_mem_drop (List.mem_of_mem_take hx)
theorem cut_nats {ns : List Nat} {lo hi : Option Int} : ∃ ms : List Nat, cutV (ns.map nV) lo hi = ms.map nV ∧ ms.length ≤ ns.length ∧ ∀ x ∈ ms, x ∈ ns := by
  refine ⟨(ns.drop (HT.sIx (ns.map nV).length 0 lo)).take (HT.sIx (ns.map nV).length (ns.map nV).length hi - HT.sIx (ns.map nV).length 0 lo), ?_, ?_, fun x hx => List.mem_of_mem_drop (List.mem_of_mem_take hx)⟩
  · unfold cutV
    rw [List.map_take, List.map_drop]
  · rw [List.length_take, List.length_drop]
    omega
/-! ### ways -/
def PairAt (H : Hp) (t : Addr) (k : Nat) (ns : List Nat) : Prop := ∃ g : Addr, H t = some (.tup [nV k, .ref g]) ∧ H g = some (.tup (ns.map nV))
theorem PairAt.keep {H H' : Hp} {t : Addr} {k : Nat} {ns : List Nat} (h : PairAt H t k ns) (s : TK H H') : PairAt H' t k ns := by
  obtain ⟨g, e1, e2⟩ := h
  exact ⟨g, s _ _ e1, s _ _ e2⟩
def momH (hs : List HR) (k : Nat) : Int := match hs[k]? with | some h => h.mom | none => 0
def trB (bs : List BR) (n : Nat) : Int := match bs[n]? with | some b => (b.th.length : Int) | none => 0
def toB (bs : List BR) (n : Nat) : Nat := match bs[n]? with | some b => b.to | none => 0
def wayEnd (bs : List BR) : Nat → List Nat → Option Nat
  | k, [] => some k
  | k, n :: ns => match bs[n]? with | some b => if b.one = k then wayEnd bs b.to ns else none | none => none
theorem wayEnd_cons {bs : List BR} {n k : Nat} {b : BR} {ns : List Nat} (e : bs[n]? = some b) : wayEnd bs k (n :: ns) = if b.one = k then wayEnd bs b.to ns else none := by
  show (match bs[n]? with | some b => if b.one = k then wayEnd bs b.to ns else none | none => none) = _
  rw [e]
theorem drop_at {α : Type} {ns : List α} {i : Nat} {n : α} (e : ns[i]? = some n) : ns.drop i = n :: ns.drop (i + 1) := by
  obtain ⟨h, z⟩ := List.getElem?_eq_some_iff.mp e
  rw [List.drop_eq_getElem_cons h, z]
def onV : Option Nat → V
  | none => .non
  | some k => nV k
theorem nats_at {ns : List Nat} {i : Nat} {x : V} (h : (ns.map nV)[i]? = some x) : ∃ n : Nat, ns[i]? = some n ∧ x = nV n := by
  rw [List.getElem?_map] at h
  cases e : ns[i]? with
  | none => rw [e] at h; cases h
  | some n => rw [e] at h; exact ⟨n, rfl, (Option.some.inj h).symm⟩
def momW (hs : List HR) (bs : List BR) (k : Nat) (ns : List Nat) : Int := momH hs k + (ns.map fun n => momH hs (toB bs n)).sum
/-! ### the least ways: mathematics -/
abbrev Co := Int × Int
def coLe (a b : Co) : Prop := a.1 < b.1 ∨ (a.1 = b.1 ∧ b.2 ≤ a.2)
def coLt (a b : Co) : Prop := a.1 < b.1 ∨ (a.1 = b.1 ∧ b.2 < a.2)
instance {a b : Co} : Decidable (coLt a b) := by unfold coLt; infer_instance
theorem coLe.refl (a : Co) : coLe a a := .inr ⟨rfl, Int.le_refl _⟩
theorem coLe.trans {a b c : Co} (h : coLe a b) (g : coLe b c) : coLe a c := by
  unfold coLe at *
  omega
theorem coLe.antisymm {a b : Co} (h : coLe a b) (g : coLe b a) : a = b := by
  unfold coLe at *
  have : a.1 = b.1 ∧ a.2 = b.2 := by omega
  exact Prod.ext this.1 this.2
theorem coLe_of_not {a b : Co} (h : ¬ coLt a b) : coLe b a := by
  unfold coLe coLt at *
  omega
theorem coLt.le {a b : Co} (h : coLt a b) : coLe a b := by
  unfold coLe coLt at *
  omega
theorem coLt.not_le {a b : Co} (h : coLt a b) : ¬ coLe b a := by
  unfold coLe coLt at *
  omega
def coAdd (hs : List HR) (c : Co) (b : BR) : Co := (c.1 + (b.th.length : Int), c.2 + momH hs b.to)
theorem coAdd_mono {hs : List HR} {c d : Co} {b : BR} (h : coLe c d) : coLe (coAdd hs c b) (coAdd hs d b) := by
  unfold coLe coAdd at *
  dsimp only
  omega
def wayCo (hs : List HR) (bs : List BR) (k : Nat) (ns : List Nat) : Co := ((ns.map (trB bs)).sum, momW hs bs k ns)
theorem wayEnd_append {bs : List BR} : ∀ {k : Nat} {ns ms : List Nat}, wayEnd bs k (ns ++ ms) = (wayEnd bs k ns).bind fun e => wayEnd bs e ms
  | k, [], ms => rfl
  | k, n :: ns, ms => by
    show (match bs[n]? with | some b => if b.one = k then wayEnd bs b.to (ns ++ ms) else none | none => none) = Option.bind (match bs[n]? with | some b => if b.one = k then wayEnd bs b.to ns else none | none => none) _
    cases bs[n]? with
    | none => rfl
    | some b =>
      dsimp only
      by_cases h : b.one = k
      · rw [if_pos h, if_pos h, wayEnd_append]
      · rw [if_neg h, if_neg h]; rfl
theorem wayEnd_snoc {bs : List BR} {k e n : Nat} {ns : List Nat} {b : BR} (h : wayEnd bs k ns = some e) (eb : bs[n]? = some b) (ho : b.one = e) : wayEnd bs k (ns ++ [n]) = some b.to := by
  rw [wayEnd_append, h]
  show wayEnd bs e [n] = _
  rw [wayEnd_cons eb, if_pos ho]
  rfl
theorem wayEnd_unsnoc {bs : List BR} {k e n : Nat} {ns : List Nat} (h : wayEnd bs k (ns ++ [n]) = some e) : ∃ b, bs[n]? = some b ∧ wayEnd bs k ns = some b.one ∧ b.to = e := by
  rw [wayEnd_append] at h
  cases hk : wayEnd bs k ns with
  | none => rw [hk] at h; cases h
  | some d =>
    rw [hk] at h
    have h : wayEnd bs d [n] = some e := h
    cases eb : bs[n]? with
    | none =>
      have : wayEnd bs d [n] = none := by
        show (match bs[n]? with | some b => if b.one = d then wayEnd bs b.to [] else none | none => none) = none
        rw [eb]
      rw [this] at h; cases h
    | some b =>
      rw [wayEnd_cons eb] at h
      by_cases z : b.one = d
      · rw [if_pos z] at h
        exact ⟨b, rfl, by rw [z], Option.some.inj h⟩
      · rw [if_neg z] at h; cases h
theorem wayCo_snoc {hs : List HR} {bs : List BR} {k n : Nat} {ns : List Nat} {b : BR} (eb : bs[n]? = some b) : wayCo hs bs k (ns ++ [n]) = coAdd hs (wayCo hs bs k ns) b := by
  unfold wayCo coAdd momW
  rw [List.map_append, List.map_append, List.sum_append, List.sum_append]
  have h1 : trB bs n = (b.th.length : Int) := by unfold trB; rw [eb]
  have h2 : toB bs n = b.to := by unfold toB; rw [eb]
  simp only [List.map_cons, List.map_nil, List.sum_cons, List.sum_nil]
  rw [h1, h2]
  refine Prod.ext ?_ ?_
  · show _ + (_ + 0) = _ + _
    omega
  · show _ + (_ + (_ + 0)) = _ + _ + _
    omega
/-- a way without trays goes up in rank -/
theorem way_rank {bs : List BR} {rk : Nat → Int} (hrk : ∀ b ∈ bs, b.th = [] → rk b.one < rk b.to) : ∀ {ns : List Nat} {k e : Nat}, wayEnd bs k ns = some e → 0 ≤ (ns.map (trB bs)).sum ∧ ((ns.map (trB bs)).sum = 0 → (ns = [] ∧ e = k) ∨ rk k < rk e)
  | [], k, e, h => ⟨Int.le_refl _, fun _ => .inl ⟨rfl, (Option.some.inj h).symm⟩⟩
  | n :: ns, k, e, h => by
    cases eb : bs[n]? with
    | none =>
      have : wayEnd bs k (n :: ns) = none := by
        show (match bs[n]? with | some b => if b.one = k then wayEnd bs b.to ns else none | none => none) = none
        rw [eb]
      rw [this] at h; cases h
    | some b =>
      rw [wayEnd_cons eb] at h
      by_cases z : b.one = k
      · rw [if_pos z] at h
        have ih := way_rank hrk h
        have h1 : trB bs n = (b.th.length : Int) := by unfold trB; rw [eb]
        rw [List.map_cons, List.sum_cons, h1]
        refine ⟨by omega, fun t => .inr ?_⟩
        have bt : b.th = [] := List.length_eq_zero_iff.mp (by omega)
        have r1 := hrk b (List.mem_of_getElem? eb) bt
        rw [z] at r1
        rcases ih.2 (by omega) with ⟨_, r2⟩ | r2
        · rw [r2]; exact r1
        · omega
      · rw [if_neg z] at h; cases h
theorem way_closed {bs : List BR} {rk : Nat → Int} (hrk : ∀ b ∈ bs, b.th = [] → rk b.one < rk b.to) {ns : List Nat} {k : Nat} (h : wayEnd bs k ns = some k) (hn : ns ≠ []) : 1 ≤ (ns.map (trB bs)).sum := by
  obtain ⟨h0, h1⟩ := way_rank hrk h
  by_cases z : (ns.map (trB bs)).sum = 0
  · rcases h1 z with ⟨e, _⟩ | e
    · exact absurd e hn
    · omega
  · omega
theorem nodup_len : ∀ (n : Nat) (l : List Nat), l.Nodup → (∀ x ∈ l, x < n) → l.length ≤ n
  | 0, l, _, h => by
    cases l with
    | nil => exact Nat.le_refl _
    | cons a l => exact absurd (h a (List.mem_cons_self ..)) (Nat.not_lt_zero _)
  | n + 1, l, nd, h => by
    by_cases m : n ∈ l
    · have ih := nodup_len n (l.erase n) (nd.erase n) fun x hx => by
        have hx := (List.Nodup.mem_erase_iff nd).mp hx
        have := h x hx.2
        have := hx.1
        omega
      rw [List.length_erase_of_mem m] at ih
      omega
    · have ih := nodup_len n l nd fun x hx => by
        have h1 := h x hx
        have : x ≠ n := fun z => m (z ▸ hx)
        omega
      omega
theorem pigeon {n : Nat} {g : Nat → Nat} {m : Nat} (h : ∀ i, i < m → g i < n) (hm : n < m) : ∃ i j, i < j ∧ j < m ∧ g i = g j := by
  refine Classical.byContradiction fun no => ?_
  have nd : ((List.range m).map g).Nodup := by
    unfold List.Nodup
    rw [List.pairwise_map]
    exact List.Pairwise.imp_of_mem (fun ha hb lt e => no ⟨_, _, lt, List.mem_range.mp hb, e⟩) List.pairwise_lt_range
  have := nodup_len n _ nd fun x hx => by
    obtain ⟨i, hi, rfl⟩ := List.mem_map.mp hx
    exact h i (List.mem_range.mp hi)
  rw [List.length_map, List.length_range] at this
  omega
theorem way_lt {bs : List BR} {n : Nat} (hto : ∀ b ∈ bs, b.to < n) : ∀ {ns : List Nat} {k e : Nat}, k < n → wayEnd bs k ns = some e → e < n
  | [], k, e, hk, h => by cases h; exact hk
  | m :: ns, k, e, hk, h => by
    cases eb : bs[m]? with
    | none =>
      have : wayEnd bs k (m :: ns) = none := by
        show (match bs[m]? with | some b => if b.one = k then wayEnd bs b.to ns else none | none => none) = none
        rw [eb]
      rw [this] at h; cases h
    | some b =>
      rw [wayEnd_cons eb] at h
      by_cases z : b.one = k
      · rw [if_pos z] at h; exact way_lt hto (hto b (List.mem_of_getElem? eb)) h
      · rw [if_neg z] at h; cases h
/-- each way has one with few belts that is no worse -/
theorem way_short {hs : List HR} {bs : List BR} {rk : Nat → Int} {n one : Nat} (hrk : ∀ b ∈ bs, b.th = [] → rk b.one < rk b.to) (hto : ∀ b ∈ bs, b.to < n) (ho : one < n) : ∀ (m : Nat) (ns : List Nat) (k : Nat), ns.length ≤ m → wayEnd bs one ns = some k → ∃ ms : List Nat, ms.length ≤ n ∧ wayEnd bs one ms = some k ∧ coLe (wayCo hs bs one ms) (wayCo hs bs one ns)
  | 0, ns, k, hm, h => ⟨ns, by omega, h, coLe.refl _⟩
  | m + 1, ns, k, hm, h => by
    by_cases short : ns.length ≤ n
    · exact ⟨ns, short, h, coLe.refl _⟩
    have ends : ∀ i, ∃ e, wayEnd bs one (ns.take i) = some e ∧ wayEnd bs e (ns.drop i) = some k := fun i => by
      have := h
      rw [← List.take_append_drop i ns, wayEnd_append] at this
      cases z : wayEnd bs one (ns.take i) with
      | none => rw [z] at this; cases this
      | some e => rw [z] at this; exact ⟨e, rfl, this⟩
    obtain ⟨i, j, ij, jl, e⟩ := pigeon (n := n) (g := fun i => (wayEnd bs one (ns.take i)).getD 0) (m := ns.length) (fun i _ => by
      obtain ⟨e, h1, _⟩ := ends i
      rw [h1]
      exact way_lt hto ho h1) (by omega)
    obtain ⟨e1, a1, a2⟩ := ends i
    obtain ⟨e2, b1, b2⟩ := ends j
    rw [a1, b1] at e
    have e : e1 = e2 := e
    subst e
    -- the ring between
    have part : ns.take j = ns.take i ++ (ns.drop i).take (j - i) := by
      rw [show j = i + (j - i) by omega, List.take_add, show i + (j - i) - i = j - i by omega]
    have ring : wayEnd bs e1 ((ns.drop i).take (j - i)) = some e1 := by
      rw [part, wayEnd_append, a1] at b1
      exact b1
    have rne : (ns.drop i).take (j - i) ≠ [] := fun z => by
      have := congrArg List.length z
      rw [List.length_take, List.length_drop] at this
      have : min (j - i) (ns.length - i) = 0 := this
      omega
    have r1 := way_closed hrk ring rne
    have new : wayEnd bs one (ns.take i ++ ns.drop j) = some k := by
      rw [wayEnd_append, a1]
      exact b2
    obtain ⟨ms, l1, l2, l3⟩ := way_short hrk hto ho m (ns.take i ++ ns.drop j) k (by rw [List.length_append, List.length_take, List.length_drop]; omega) new
    refine ⟨ms, l1, l2, l3.trans (.inl ?_)⟩
    show ((ns.take i ++ ns.drop j).map (trB bs)).sum < (ns.map (trB bs)).sum
    have : (ns.map (trB bs)).sum = ((ns.take i).map (trB bs)).sum + (((ns.drop i).take (j - i)).map (trB bs)).sum + ((ns.drop j).map (trB bs)).sum := by
      rw [← List.sum_append, ← List.map_append, ← part, ← List.sum_append, ← List.map_append, List.take_append_drop]
    rw [this, List.map_append, List.sum_append]
    omega
/-- one belt looked at -/
def relax (hs : List HR) (cf : Nat → Option Co) (b : BR) : Nat → Option Co := match cf b.one with
  | none => cf
  | some c => match cf b.to with
    | none => fun k => if k = b.to then some (coAdd hs c b) else cf k
    | some d => if coLt (coAdd hs c b) d then fun k => if k = b.to then some (coAdd hs c b) else cf k else cf
theorem relax_none {hs : List HR} {cf : Nat → Option Co} {b : BR} (h : cf b.one = none) : relax hs cf b = cf := by unfold relax; rw [h]
theorem relax_new {hs : List HR} {cf : Nat → Option Co} {b : BR} {c : Co} (h : cf b.one = some c) (g : cf b.to = none) : relax hs cf b = fun k => if k = b.to then some (coAdd hs c b) else cf k := by unfold relax; rw [h]; dsimp only; rw [g]
theorem relax_lt {hs : List HR} {cf : Nat → Option Co} {b : BR} {c d : Co} (h : cf b.one = some c) (g : cf b.to = some d) (l : coLt (coAdd hs c b) d) : relax hs cf b = fun k => if k = b.to then some (coAdd hs c b) else cf k := by unfold relax; rw [h]; dsimp only; rw [g]; dsimp only; rw [if_pos l]
theorem relax_ge {hs : List HR} {cf : Nat → Option Co} {b : BR} {c d : Co} (h : cf b.one = some c) (g : cf b.to = some d) (l : ¬ coLt (coAdd hs c b) d) : relax hs cf b = cf := by unfold relax; rw [h]; dsimp only; rw [g]; dsimp only; rw [if_neg l]
/-- what is set, or nothing -/
theorem relax_cases (hs : List HR) (cf : Nat → Option Co) (b : BR) : (relax hs cf b = cf ∧ ∀ c, cf b.one = some c → ∃ d, cf b.to = some d ∧ coLe d (coAdd hs c b)) ∨
    ∃ c, cf b.one = some c ∧ (relax hs cf b = fun k => if k = b.to then some (coAdd hs c b) else cf k) ∧ ∀ d, cf b.to = some d → coLt (coAdd hs c b) d := by
  cases h : cf b.one with
  | none => exact .inl ⟨relax_none h, fun c z => nomatch z⟩
  | some c =>
    cases g : cf b.to with
    | none => exact .inr ⟨c, rfl, relax_new h g, fun d z => nomatch z⟩
    | some d =>
      by_cases l : coLt (coAdd hs c b) d
      · exact .inr ⟨c, rfl, relax_lt h g l, fun d' z => by cases z; exact l⟩
      · exact .inl ⟨relax_ge h g l, fun c' z => ⟨d, rfl, by cases z; exact coLe_of_not l⟩⟩
theorem relax_mono {hs : List HR} {cf : Nat → Option Co} {b : BR} {k : Nat} {c : Co} (h : cf k = some c) : ∃ d, relax hs cf b k = some d ∧ coLe d c := by
  rcases relax_cases hs cf b with ⟨e, _⟩ | ⟨c', h1, e, l⟩
  · rw [e]; exact ⟨c, h, coLe.refl _⟩
  · rw [e]
    by_cases z : k = b.to
    · exact ⟨_, if_pos z, (l c (z ▸ h)).le⟩
    · exact ⟨c, (if_neg z).trans h, coLe.refl _⟩
theorem relax_done {hs : List HR} {cf : Nat → Option Co} {b : BR} {c : Co} (h : cf b.one = some c) : ∃ d, relax hs cf b b.to = some d ∧ coLe d (coAdd hs c b) := by
  rcases relax_cases hs cf b with ⟨e, g⟩ | ⟨c', h1, e, l⟩
  · rw [e]; exact g c h
  · rw [h] at h1
    cases h1
    rw [e]
    exact ⟨_, if_pos rfl, coLe.refl _⟩
abbrev roundF (hs : List HR) (bs : List BR) (cf : Nat → Option Co) : Nat → Option Co := bs.foldl (relax hs) cf
theorem fold_mono {hs : List HR} {k : Nat} : ∀ {l : List BR} {cf : Nat → Option Co} {c : Co}, cf k = some c → ∃ d, l.foldl (relax hs) cf k = some d ∧ coLe d c
  | [], cf, c, h => ⟨c, h, coLe.refl _⟩
  | b :: l, cf, c, h => by
    obtain ⟨d, h1, h2⟩ := relax_mono (hs := hs) (b := b) h
    obtain ⟨e, h3, h4⟩ := fold_mono (l := l) h1
    exact ⟨e, h3, h4.trans h2⟩
theorem fold_done {hs : List HR} {b : BR} : ∀ {l : List BR} {cf : Nat → Option Co} {c : Co}, b ∈ l → cf b.one = some c → ∃ d, l.foldl (relax hs) cf b.to = some d ∧ coLe d (coAdd hs c b)
  | a :: l, cf, c, hb, h => by
    rcases List.mem_cons.mp hb with rfl | hb
    · obtain ⟨d, h1, h2⟩ := relax_done (hs := hs) h
      obtain ⟨e, h3, h4⟩ := fold_mono (l := l) h1
      exact ⟨e, h3, h4.trans h2⟩
    · obtain ⟨d, h1, h2⟩ := relax_mono (hs := hs) (b := a) h
      obtain ⟨e, h3, h4⟩ := fold_done hb h1
      exact ⟨e, h3, h4.trans (coAdd_mono h2)⟩
def Snd (hs : List HR) (bs : List BR) (one : Nat) (cf : Nat → Option Co) : Prop := ∀ k c, cf k = some c → ∃ ns, wayEnd bs one ns = some k ∧ wayCo hs bs one ns = c
def Cpl (hs : List HR) (bs : List BR) (one : Nat) (cf : Nat → Option Co) (i : Nat) : Prop := ∀ ns k, ns.length ≤ i → wayEnd bs one ns = some k → ∃ c, cf k = some c ∧ coLe c (wayCo hs bs one ns)
def Stab (hs : List HR) (bs : List BR) (cf : Nat → Option Co) : Prop := ∀ b ∈ bs, ∀ c, cf b.one = some c → ∃ d, cf b.to = some d ∧ coLe d (coAdd hs c b)
theorem Snd.relax {hs : List HR} {bs : List BR} {one : Nat} {cf : Nat → Option Co} {b : BR} (s : Snd hs bs one cf) (hb : b ∈ bs) : Snd hs bs one (Mine.relax hs cf b) := fun k c h => by
  rcases relax_cases hs cf b with ⟨e, _⟩ | ⟨c', h1, e, l⟩
  · rw [e] at h; exact s k c h
  · rw [e] at h
    by_cases z : k = b.to
    · have h : some (coAdd hs c' b) = some c := by rw [← h]; exact (if_pos z).symm
      cases h
      obtain ⟨ns, w1, w2⟩ := s b.one c' h1
      obtain ⟨n, hn⟩ := List.getElem?_of_mem hb
      exact ⟨ns ++ [n], by rw [z]; exact wayEnd_snoc w1 hn rfl, by rw [wayCo_snoc hn, w2]⟩
    · exact s k c (by rw [← h]; exact (if_neg z).symm)
theorem Snd.fold {hs : List HR} {bs : List BR} {one : Nat} : ∀ {l : List BR} {cf : Nat → Option Co}, (∀ b ∈ l, b ∈ bs) → Snd hs bs one cf → Snd hs bs one (l.foldl (Mine.relax hs) cf)
  | [], _, _, s => s
  | b :: l, _, h, s => Snd.fold (l := l) (fun x hx => h x (List.mem_cons_of_mem _ hx)) (s.relax (h b (List.mem_cons_self ..)))
theorem Cpl.round {hs : List HR} {bs : List BR} {one : Nat} {cf : Nat → Option Co} {i : Nat} (c : Cpl hs bs one cf i) : Cpl hs bs one (roundF hs bs cf) (i + 1) := fun ns k hl h => by
  rcases List.eq_nil_or_concat ns with rfl | ⟨ms, n, rfl⟩
  · obtain ⟨d, h1, h2⟩ := c [] k (Nat.zero_le _) h
    obtain ⟨e, h3, h4⟩ := fold_mono (hs := hs) (l := bs) h1
    exact ⟨e, h3, h4.trans h2⟩
  · rw [List.concat_eq_append] at h hl ⊢
    obtain ⟨b, eb, h1, rfl⟩ := wayEnd_unsnoc h
    rw [List.length_append] at hl
    obtain ⟨d, h2, h3⟩ := c ms b.one (by have : ms.length + 1 ≤ i + 1 := hl; omega) h1
    obtain ⟨e, h4, h5⟩ := fold_done (hs := hs) (List.mem_of_getElem? eb) h2
    exact ⟨e, h4, by rw [wayCo_snoc eb]; exact h5.trans (coAdd_mono h3)⟩
def cf0 (hs : List HR) (one : Nat) : Nat → Option Co := fun k => if k = one then some (0, momH hs one) else none
def cfI (hs : List HR) (bs : List BR) (one : Nat) : Nat → (Nat → Option Co)
  | 0 => cf0 hs one
  | i + 1 => roundF hs bs (cfI hs bs one i)
theorem wayCo_nil {hs : List HR} {bs : List BR} {one : Nat} : wayCo hs bs one [] = (0, momH hs one) := by
  refine Prod.ext rfl ?_
  show momH hs one + 0 = momH hs one
  omega
theorem cfI_snd {hs : List HR} {bs : List BR} {one : Nat} : ∀ i, Snd hs bs one (cfI hs bs one i)
  | 0 => fun k c h => by
    by_cases z : k = one
    · have h : some ((0 : Int), momH hs one) = some c := by rw [← h]; exact (if_pos z).symm
      exact ⟨[], by rw [z]; rfl, by rw [wayCo_nil]; exact Option.some.inj h⟩
    · have h : none = some c := by rw [← h]; exact (if_neg z).symm
      cases h
  | i + 1 => Snd.fold (fun _ h => h) (cfI_snd i)
theorem cfI_cpl {hs : List HR} {bs : List BR} {one : Nat} : ∀ i, Cpl hs bs one (cfI hs bs one i) i
  | 0 => fun ns k hl h => by
    obtain rfl : ns = [] := List.length_eq_zero_iff.mp (by omega)
    obtain rfl : one = k := Option.some.inj h
    exact ⟨(0, momH hs one), if_pos rfl, by rw [wayCo_nil]; exact coLe.refl _⟩
  | i + 1 => (cfI_cpl i).round
theorem stab_relax {hs : List HR} {bs : List BR} {cf : Nat → Option Co} {b : BR} (s : Stab hs bs cf) (hb : b ∈ bs) : relax hs cf b = cf := by
  rcases relax_cases hs cf b with ⟨e, _⟩ | ⟨c', h1, e, l⟩
  · exact e
  · obtain ⟨d, h2, h3⟩ := s b hb c' h1
    exact absurd h3 (l d h2).not_le
theorem stab_fold {hs : List HR} {bs : List BR} {cf : Nat → Option Co} (s : Stab hs bs cf) : ∀ {l : List BR}, (∀ b ∈ l, b ∈ bs) → l.foldl (relax hs) cf = cf
  | [], _ => rfl
  | b :: l, h => by
    rw [List.foldl_cons, stab_relax s (h b (List.mem_cons_self ..))]
    exact stab_fold s fun x hx => h x (List.mem_cons_of_mem _ hx)
theorem stab_at {hs : List HR} {bs : List BR} {rk : Nat → Int} {n one : Nat} (hrk : ∀ b ∈ bs, b.th = [] → rk b.one < rk b.to) (hto : ∀ b ∈ bs, b.to < n) (ho : one < n) {i : Nat} (hi : n ≤ i) : Stab hs bs (cfI hs bs one i) := fun b hb c h => by
  obtain ⟨ns, w1, w2⟩ := cfI_snd i b.one c h
  obtain ⟨m, hm⟩ := List.getElem?_of_mem hb
  obtain ⟨ms, l1, l2, l3⟩ := way_short (hs := hs) hrk hto ho _ (ns ++ [m]) b.to (Nat.le_refl _) (wayEnd_snoc w1 hm rfl)
  obtain ⟨d, h1, h2⟩ := cfI_cpl (hs := hs) i ms b.to (by omega) l2
  refine ⟨d, h1, h2.trans ?_⟩
  rw [wayCo_snoc hm, w2] at l3
  exact l3
theorem cfI_stay {hs : List HR} {bs : List BR} {one i : Nat} (s : Stab hs bs (cfI hs bs one i)) : ∀ j, cfI hs bs one (i + j) = cfI hs bs one i
  | 0 => rfl
  | j + 1 => by
    show roundF hs bs (cfI hs bs one (i + j)) = _
    rw [cfI_stay s j]
    exact stab_fold s fun _ h => h
/-- the least ways of all, by rounds -/
abbrev best (hs : List HR) (bs : List BR) (one : Nat) : Nat → Option Co := cfI hs bs one hs.length
theorem cfI_best {hs : List HR} {bs : List BR} {rk : Nat → Int} {one i : Nat} (hrk : ∀ b ∈ bs, b.th = [] → rk b.one < rk b.to) (hto : ∀ b ∈ bs, b.to < hs.length) (ho : one < hs.length) (s : Stab hs bs (cfI hs bs one i)) : cfI hs bs one i = best hs bs one := by
  by_cases h : i ≤ hs.length
  · show cfI hs bs one i = cfI hs bs one hs.length
    have := cfI_stay s (hs.length - i)
    rw [show i + (hs.length - i) = hs.length by omega] at this
    exact this.symm
  · have := cfI_stay (hs := hs) (stab_at (hs := hs) (n := hs.length) hrk hto ho (Nat.le_refl _)) (i - hs.length)
    rw [show hs.length + (i - hs.length) = i by omega] at this
    exact this
/-- the last belts: from each hand that is come to one leads on to it -/
structure LaOk (hs : List HR) (bs : List BR) (one : Nat) (cf : Nat → Option Co) (la : Nat → Option Nat) : Prop where
  go : ∀ k n, la k = some n → ∃ b c d, bs[n]? = some b ∧ b.to = k ∧ cf b.one = some c ∧ cf k = some d ∧ coLe (coAdd hs c b) d
  fst : la one = none
  has : ∀ k c, cf k = some c → k = one ∨ (la k).isSome = true
theorem cf_one {hs : List HR} {bs : List BR} {rk : Nat → Int} {one : Nat} {cf : Nat → Option Co} (hrk : ∀ b ∈ bs, b.th = [] → rk b.one < rk b.to) (s : Snd hs bs one cf) (h1 : cf one = some (0, momH hs one)) {b : BR} (hb : b ∈ bs) {c : Co} (h : cf b.one = some c) (e : b.to = one) : ¬ coLt (coAdd hs c b) (0, momH hs one) := by
  obtain ⟨ns, w1, w2⟩ := s _ _ h
  obtain ⟨m, hm⟩ := List.getElem?_of_mem hb
  have w := wayEnd_snoc w1 hm rfl
  rw [e] at w
  have t := way_closed hrk w (by simp)
  have e2 := wayCo_snoc (hs := hs) (k := one) (ns := ns) hm
  rw [w2] at e2
  have e3 : (coAdd hs c b).1 = ((ns ++ [m]).map (trB bs)).sum := by rw [← e2]; rfl
  unfold coLt
  rw [e3]
  show ¬ (_ < (0 : Int) ∨ (_ = (0 : Int) ∧ _))
  omega
/-- along the last belts something falls -/
def redLt (rk : Nat → Int) (cf : Nat → Option Co) (j k : Nat) : Prop := ∃ c d, cf j = some c ∧ cf k = some d ∧ (c.1 < d.1 ∨ (c.1 = d.1 ∧ -c.2 + 31 * rk j < -d.2 + 31 * rk k))
theorem redLt_irr {rk : Nat → Int} {cf : Nat → Option Co} {k : Nat} : ¬ redLt rk cf k k := fun ⟨c, d, h1, h2, h3⟩ => by
  rw [h1] at h2
  cases h2
  omega
theorem redLt_tr {rk : Nat → Int} {cf : Nat → Option Co} {i j k : Nat} (a : redLt rk cf i j) (b : redLt rk cf j k) : redLt rk cf i k := by
  obtain ⟨c, d, h1, h2, h3⟩ := a
  obtain ⟨d', e, h4, h5, h6⟩ := b
  rw [h2] at h4
  cases h4
  exact ⟨c, e, h1, h5, by omega⟩
open Classical in
noncomputable def meas (rk : Nat → Int) (cf : Nat → Option Co) (n k : Nat) : Nat := ((List.range n).filter fun j => decide (redLt rk cf j k)).length
theorem filter_lt {α : Type} {p q : α → Bool} (h : ∀ x, p x = true → q x = true) {x : α} (qx : q x = true) (px : p x = false) : ∀ {l : List α}, x ∈ l → (l.filter p).length < (l.filter q).length
  | a :: l, hx => by
    have le : ∀ l : List α, (l.filter p).length ≤ (l.filter q).length := fun l => by
      induction l with
      | nil => exact Nat.le_refl _
      | cons a l ih =>
        rw [List.filter_cons, List.filter_cons]
        by_cases pa : p a = true
        · rw [if_pos pa, if_pos (h a pa), List.length_cons, List.length_cons]; omega
        · rw [if_neg pa]
          by_cases qa : q a = true
          · rw [if_pos qa, List.length_cons]; omega
          · rw [if_neg qa]; exact ih
    rw [List.filter_cons, List.filter_cons]
    rcases List.mem_cons.mp hx with e | hx
    · subst e
      rw [if_neg (by rw [px]; exact Bool.false_ne_true), if_pos qx, List.length_cons]
      have := le l
      omega
    · have ih := filter_lt h qx px hx
      by_cases pa : p a = true
      · rw [if_pos pa, if_pos (h a pa), List.length_cons, List.length_cons]; omega
      · rw [if_neg pa]
        by_cases qa : q a = true
        · rw [if_pos qa, List.length_cons]; omega
        · rw [if_neg qa]; exact ih
open Classical in
theorem meas_lt {rk : Nat → Int} {cf : Nat → Option Co} {n j k : Nat} (hj : j < n) (h : redLt rk cf j k) : meas rk cf n j < meas rk cf n k := by
  unfold meas
  exact filter_lt (p := fun x => decide (redLt rk cf x j)) (q := fun x => decide (redLt rk cf x k)) (fun x hx => decide_eq_true (redLt_tr (of_decide_eq_true hx) h)) (decide_eq_true h) (decide_eq_false redLt_irr) (List.mem_range.mpr hj)
theorem meas_le {rk : Nat → Int} {cf : Nat → Option Co} {n k : Nat} : meas rk cf n k ≤ n := by
  unfold meas
  refine Nat.le_trans (List.length_filter_le ..) ?_
  rw [List.length_range]
  exact Nat.le_refl _
theorem last_lt {hs : List HR} {bs : List BR} {rk : Nat → Int} {cf : Nat → Option Co} {b : BR} {k : Nat} {c d : Co} (hrk : ∀ b ∈ bs, b.th = [] → rk b.one < rk b.to) (mom : ∀ k, momH hs k ≤ 30) (hb : b ∈ bs) (e : b.to = k) (h1 : cf b.one = some c) (h2 : cf k = some d) (l : coLe (coAdd hs c b) d) : redLt rk cf b.one k := by
  refine ⟨c, d, h1, h2, ?_⟩
  have m := mom b.to
  unfold coLe coAdd at l
  dsimp only at l
  by_cases z : b.th = []
  · have r := hrk b hb z
    rw [z] at l
    rw [e] at r l m
    have l : c.1 + (0 : Int) < d.1 ∨ c.1 + (0 : Int) = d.1 ∧ d.2 ≤ c.2 + momH hs k := l
    omega
  · have : 0 < b.th.length := List.length_pos_iff.mpr z
    omega
/-! ### levels: mathematics -/
structure St3 where
  u : Nat
  v : Nat
  w : Int
def Feas (st : List St3) : Prop := ∃ lv : Nat → Int, ∀ s ∈ st, lv s.u + s.w ≤ lv s.v
structure Lv (st : List St3) (i j : Nat) (lv : Nat → Int) (la : Nat → Option Nat) (r t : Nat → Nat) (now : Nat) : Prop where
  bk : ∀ p k, la p = some k → ∃ s, st[k]? = some s ∧ s.v = p ∧ lv p ≤ lv s.u + s.w ∧ (t p ≤ t s.u → lv p < lv s.u + s.w) ∧ r p ≤ r s.u + 1
  has : ∀ p, 1 ≤ r p → ∃ k, la p = some k
  tn : ∀ p, t p ≤ now
  rl : ∀ p, r p ≤ i
  sat : ∀ k s, st[k]? = some s → lv s.u + s.w ≤ lv s.v ∨ (if k < j then i else i - 1) ≤ r s.u
def put {α : Type} (f : Nat → α) (p : Nat) (x : α) : Nat → α := fun q => if q = p then x else f q
theorem put_at {α : Type} {f : Nat → α} {p : Nat} {x : α} : put f p x p = x := if_pos rfl
theorem put_ne {α : Type} {f : Nat → α} {p q : Nat} {x : α} (h : q ≠ p) : put f p x q = f q := if_neg h
theorem Lv.start {st : List St3} : Lv st 1 0 (fun _ => 0) (fun _ => none) (fun _ => 0) (fun _ => 0) 0 :=
  ⟨(fun _ _ z => nomatch z), fun p z => absurd z (by decide), fun _ => Nat.le_refl _, fun _ => Nat.zero_le _, fun k s _ => .inr (by rw [if_neg (Nat.not_lt_zero _)]; exact Nat.le_refl _)⟩
theorem Lv.idle {st : List St3} {i j : Nat} {lv : Nat → Int} {la : Nat → Option Nat} {r t : Nat → Nat} {now : Nat} (L : Lv st i j lv la r t now) {s : St3} (es : st[j]? = some s) (h : ¬ lv s.u + s.w > lv s.v) : Lv st i (j + 1) lv la r t now := by
  refine { L with sat := fun k s2 e => ?_ }
  by_cases z : k = j
  · subst z
    rw [es] at e
    cases e
    exact .inl (by omega)
  · rcases L.sat k s2 e with y | y
    · exact .inl y
    · refine .inr ?_
      by_cases x : k < j
      · rw [if_pos x] at y; rw [if_pos (by omega)]; exact y
      · rw [if_neg x] at y; rw [if_neg (by omega)]; exact y
theorem Lv.lift {st : List St3} {i j : Nat} {lv : Nat → Int} {la : Nat → Option Nat} {r t : Nat → Nat} {now : Nat} (L : Lv st i j lv la r t now) {s : St3} (es : st[j]? = some s) (h : lv s.u + s.w > lv s.v) :
    Lv st i (j + 1) (put lv s.v (lv s.u + s.w)) (put la s.v (some j)) (put r s.v i) (put t s.v (now + 1)) (now + 1) := by
  have ru : i ≤ r s.u + 1 := by
    rcases L.sat j s es with y | y
    · omega
    · rw [if_neg (Nat.lt_irrefl _)] at y; omega
  have rge : ∀ p, r p ≤ put r s.v i p := fun p => by
    by_cases z : p = s.v
    · rw [z, put_at]; exact L.rl _
    · rw [put_ne z]; exact Nat.le_refl _
  have lge : ∀ p, lv p ≤ put lv s.v (lv s.u + s.w) p := fun p => by
    by_cases z : p = s.v
    · rw [z, put_at]; omega
    · rw [put_ne z]; exact Int.le_refl _
  refine ⟨fun p k e => ?_, fun p z => ?_, fun p => ?_, fun p => ?_, fun k s2 e => ?_⟩
  · by_cases z : p = s.v
    · subst z
      rw [put_at] at e
      cases e
      refine ⟨s, es, rfl, ?_, fun y => ?_, ?_⟩
      · rw [put_at]
        have := lge s.u
        omega
      · rw [put_at] at y ⊢
        by_cases x : s.u = s.v
        · rw [x, put_at]
          rw [x] at h
          omega
        · rw [put_ne x] at y
          have := L.tn s.u
          omega
      · rw [put_at]
        have := rge s.u
        omega
    · rw [put_ne z] at e
      obtain ⟨s2, e1, e2, e3, e4, e5⟩ := L.bk p k e
      refine ⟨s2, e1, e2, ?_, fun y => ?_, ?_⟩
      · rw [put_ne z]
        have := lge s2.u
        omega
      · rw [put_ne z]
        by_cases x : s2.u = s.v
        · rw [x, put_at]
          rw [x] at e3
          omega
        · rw [put_ne x]
          rw [put_ne x, put_ne z] at y
          exact e4 y
      · rw [put_ne z]
        have := rge s2.u
        omega
  · by_cases y : p = s.v
    · exact ⟨j, by rw [y, put_at]⟩
    · rw [put_ne y] at z ⊢
      exact L.has p z
  · by_cases y : p = s.v
    · rw [y, put_at]; exact Nat.le_refl _
    · rw [put_ne y]; exact Nat.le_succ_of_le (L.tn p)
  · by_cases y : p = s.v
    · rw [y, put_at]; exact Nat.le_refl _
    · rw [put_ne y]; exact L.rl p
  · by_cases x : s2.u = s.v
    · refine .inr ?_
      rw [x, put_at]
      split <;> omega
    · rw [put_ne x, put_ne x]
      by_cases z : k = j
      · subst z
        rw [es] at e
        cases e
        exact .inl (by rw [put_at]; exact Int.le_refl _)
      · rcases L.sat k s2 e with y | y
        · exact .inl (Int.le_trans y (lge _))
        · refine .inr ?_
          by_cases q : k < j
          · rw [if_pos q] at y; rw [if_pos (by omega)]; exact y
          · rw [if_neg q] at y; rw [if_neg (by omega)]; exact y
theorem Lv.next {st : List St3} {i : Nat} {lv : Nat → Int} {la : Nat → Option Nat} {r t : Nat → Nat} {now : Nat} (L : Lv st i st.length lv la r t now) : Lv st (i + 1) 0 lv la r t now := by
  refine { L with rl := fun p => Nat.le_succ_of_le (L.rl p), sat := fun k s e => ?_ }
  rcases L.sat k s e with y | y
  · exact .inl y
  · refine .inr ?_
    rw [if_pos (List.getElem?_eq_some_iff.mp e).1] at y
    rw [if_neg (Nat.not_lt_zero _)]
    exact y
theorem Lv.feas {st : List St3} {i : Nat} {lv : Nat → Int} {la : Nat → Option Nat} {r t : Nat → Nat} {now : Nat} (L : Lv st i st.length lv la r t now) (h : ∀ p, r p < i) : ∀ s ∈ st, lv s.u + s.w ≤ lv s.v := fun s hs => by
  obtain ⟨k, e⟩ := List.getElem?_of_mem hs
  rcases L.sat k s e with y | y
  · exact y
  · rw [if_pos (List.getElem?_eq_some_iff.mp e).1] at y
    have := h s.u
    omega
/-- one step back -/
def back (st : List St3) (la : Nat → Option Nat) (p : Nat) : Nat := match la p with
  | none => p
  | some k => match st[k]? with
    | none => p
    | some s => s.u
def backs (st : List St3) (la : Nat → Option Nat) (p : Nat) : Nat → Nat
  | 0 => p
  | k + 1 => back st la (backs st la p k)
theorem backs_add {st : List St3} {la : Nat → Option Nat} {p : Nat} : ∀ {a b k : Nat}, backs st la p a = backs st la p b → backs st la p (a + k) = backs st la p (b + k)
  | _, _, 0, h => h
  | a, b, k + 1, h => by
    show back st la (backs st la p (a + k)) = back st la (backs st la p (b + k))
    rw [backs_add h]
theorem Lv.back_r {st : List St3} {i j : Nat} {lv : Nat → Int} {la : Nat → Option Nat} {r t : Nat → Nat} {now : Nat} (L : Lv st i j lv la r t now) (p : Nat) : r p ≤ r (back st la p) + 1 := by
  unfold back
  cases e : la p with
  | none => dsimp only; omega
  | some k =>
    obtain ⟨s, e1, _, _, _, e5⟩ := L.bk p k e
    dsimp only
    rw [e1]
    exact e5
theorem Lv.backs_r {st : List St3} {i j : Nat} {lv : Nat → Int} {la : Nat → Option Nat} {r t : Nat → Nat} {now : Nat} (L : Lv st i j lv la r t now) (p : Nat) : ∀ k, r p ≤ r (backs st la p k) + k
  | 0 => Nat.le_refl _
  | k + 1 => by
    have := L.backs_r p k
    have := L.back_r (backs st la p k)
    show r p ≤ r (back st la (backs st la p k)) + (k + 1)
    omega
/-- from a place that was raised in the last of as many rounds as there are places the steps back lead onto a ring -/
theorem Lv.ring {st : List St3} {n : Nat} {lv : Nat → Int} {la : Nat → Option Nat} {r t : Nat → Nat} {now : Nat} (L : Lv st n st.length lv la r t now) (hu : ∀ s ∈ st, s.u < n) {p : Nat} (hp : p < n) (hr : r p = n) :
    ∃ c, 1 ≤ c ∧ c ≤ n ∧ backs st la p (n + c) = backs st la p n ∧ (∀ k, n ≤ k → ∃ m, la (backs st la p k) = some m) ∧ (∀ k, backs st la p k < n) ∧ ∀ k, k < n → ∃ m, la (backs st la p k) = some m := by
  have lt : ∀ k, backs st la p k < n := fun k => by
    induction k with
    | zero => exact hp
    | succ k ih =>
      show back st la (backs st la p k) < n
      unfold back
      cases e : la (backs st la p k) with
      | none => exact ih
      | some m =>
        obtain ⟨s, e1, _⟩ := L.bk _ m e
        dsimp only
        rw [e1]
        exact hu s (List.mem_of_getElem? e1)
  have some_ : ∀ k, k < n → ∃ m, la (backs st la p k) = some m := fun k hk => by
    have := L.backs_r p k
    exact L.has _ (by omega)
  obtain ⟨a, b, ab, bn, e⟩ := pigeon (n := n) (g := backs st la p) (m := n + 1) (fun i _ => lt i) (by omega)
  have per : ∀ k, a ≤ k → backs st la p (k + (b - a)) = backs st la p k := fun k hk => by
    have := backs_add (k := k - a) e
    rw [show a + (k - a) = k by omega, show b + (k - a) = k + (b - a) by omega] at this
    exact this.symm
  refine ⟨b - a, by omega, by omega, per n (by omega), fun k hk => ?_, lt, some_⟩
  have low : ∀ d k, k ≤ d → a ≤ k → ∃ j, j < n ∧ backs st la p k = backs st la p j := fun d => by
    induction d with
    | zero => exact fun k h1 h2 => ⟨k, by omega, rfl⟩
    | succ d ih =>
      intro k h1 h2
      by_cases z : k < n
      · exact ⟨k, z, rfl⟩
      · obtain ⟨j, j1, j2⟩ := ih (k - (b - a)) (by omega) (by omega)
        have := per (k - (b - a)) (by omega)
        rw [show k - (b - a) + (b - a) = k by omega] at this
        exact ⟨j, j1, by rw [this, j2]⟩
  obtain ⟨j, j1, j2⟩ := low k k (Nat.le_refl _) (by omega)
  rw [j2]
  exact some_ j j1
/-- the need of the step back from a place -/
def need (st : List St3) (la : Nat → Option Nat) (p : Nat) : Int := match la p with
  | none => 0
  | some k => match st[k]? with
    | none => 0
    | some s => s.w
def needs3 (st : List St3) (la : Nat → Option Nat) (p : Nat) (a : Nat) : Nat → Int
  | 0 => 0
  | k + 1 => needs3 st la p a k + need st la (backs st la p (a + k))
theorem Lv.sum_pos {st : List St3} {i j : Nat} {lv : Nat → Int} {la : Nat → Option Nat} {r t : Nat → Nat} {now : Nat} (L : Lv st i j lv la r t now) {p a c : Nat} (hc : 1 ≤ c) (e : backs st la p (a + c) = backs st la p a) (hs : ∀ k, a ≤ k → ∃ m, la (backs st la p k) = some m) : 0 < needs3 st la p a c := by
  have go : ∀ k, lv (backs st la p a) ≤ lv (backs st la p (a + k)) + needs3 st la p a k ∧ (lv (backs st la p a) < lv (backs st la p (a + k)) + needs3 st la p a k ∨ t (backs st la p (a + k)) + k ≤ t (backs st la p a)) := fun k => by
    induction k with
    | zero => exact ⟨by show lv (backs st la p a) ≤ lv (backs st la p a) + 0; omega, .inr (Nat.le_refl _)⟩
    | succ k ih =>
      obtain ⟨m, em⟩ := hs (a + k) (by omega)
      obtain ⟨s, e1, e2, e3, e4, e5⟩ := L.bk _ m em
      have eb : backs st la p (a + (k + 1)) = s.u := by
        show back st la (backs st la p (a + k)) = s.u
        unfold back
        rw [em]
        dsimp only
        rw [e1]
      have en : needs3 st la p a (k + 1) = needs3 st la p a k + s.w := by
        show needs3 st la p a k + need st la (backs st la p (a + k)) = _
        unfold need
        rw [em]
        dsimp only
        rw [e1]
      rw [eb, en]
      refine ⟨by omega, ?_⟩
      rcases ih.2 with y | y
      · exact .inl (by omega)
      · by_cases z : t (backs st la p (a + k)) ≤ t s.u
        · exact .inl (by have := e4 z; omega)
        · exact .inr (by omega)
  obtain ⟨g1, g2⟩ := go c
  rw [e] at g1 g2
  rcases g2 with y | y
  · omega
  · omega
theorem needs3_le {st : List St3} {la : Nat → Option Nat} {p a : Nat} {lv : Nat → Int} (f : ∀ s ∈ st, lv s.u + s.w ≤ lv s.v) (bk : ∀ p k, la p = some k → ∃ s, st[k]? = some s ∧ s.v = p) (hs : ∀ k, a ≤ k → ∃ m, la (backs st la p k) = some m) : ∀ k, needs3 st la p a k ≤ lv (backs st la p a) - lv (backs st la p (a + k))
  | 0 => by show (0 : Int) ≤ lv (backs st la p a) - lv (backs st la p a); omega
  | k + 1 => by
    have ih := needs3_le f bk hs k
    obtain ⟨m, em⟩ := hs (a + k) (by omega)
    obtain ⟨s, e1, e2⟩ := bk _ m em
    have eb : backs st la p (a + (k + 1)) = s.u := by
      show back st la (backs st la p (a + k)) = s.u
      unfold back
      rw [em]
      dsimp only
      rw [e1]
    have en : needs3 st la p a (k + 1) = needs3 st la p a k + s.w := by
      show needs3 st la p a k + need st la (backs st la p (a + k)) = _
      unfold need
      rw [em]
      dsimp only
      rw [e1]
    have := f s (List.mem_of_getElem? e1)
    rw [eb, en]
    rw [e2] at this
    omega
theorem Lv.not_feas {st : List St3} {n : Nat} {lv : Nat → Int} {la : Nat → Option Nat} {r t : Nat → Nat} {now : Nat} (L : Lv st n st.length lv la r t now) (hu : ∀ s ∈ st, s.u < n) {p : Nat} (hp : p < n) (hr : r p = n) : ¬ Feas st := fun ⟨lv0, f⟩ => by
  obtain ⟨c, c1, c2, e, hs, _⟩ := L.ring hu hp hr
  have h1 := L.sum_pos c1 e hs
  have h2 := needs3_le f (fun p k z => by obtain ⟨s, e1, e2, _⟩ := L.bk p k z; exact ⟨s, e1, e2⟩) hs c
  rw [e] at h2
  omega
theorem ixN_nat {n k : Nat} (h : k < n) : ixN n ((k : Nat) : Int) = some k := by
  unfold ixN
  rw [if_pos (by omega), if_pos (by omega)]
  simp
/-! ### levels: the program -/
def oV : Option Nat → V
  | none => .non
  | some k => nV k
abbrev levL (n : Nat) (lv : Nat → Int) : List V := (List.range n).map fun p => V.int (lv p)
abbrev lasL (n : Nat) (la : Nat → Option Nat) : List V := (List.range n).map fun p => oV (la p)
theorem rg_at {n p : Nat} {f : Nat → V} (h : p < n) : ((List.range n).map f)[p]? = some (f p) := by
  rw [List.getElem?_map, List.getElem?_range h]; rfl
theorem rg_set {n p : Nat} {α : Type} {f : Nat → α} {g : α → V} {x : α} : ((List.range n).map fun q => g (f q)).set p (g x) = (List.range n).map fun q => g (put f p x q) := by
  refine List.ext_getElem? fun i => ?_
  by_cases e : i = p
  · subst e
    by_cases l : i < n
    · rw [List.getElem?_set_self (by rw [List.length_map, List.length_range]; exact l), rg_at l, put_at]
    · rw [List.getElem?_eq_none (by rw [List.length_set, List.length_map, List.length_range]; omega), List.getElem?_eq_none (by rw [List.length_map, List.length_range]; omega)]
  · rw [List.getElem?_set_ne (fun z => e z.symm)]
    by_cases l : i < n
    · rw [rg_at l, rg_at (f := fun q => g (put f p x q)) l, put_ne e]
    · rw [List.getElem?_eq_none (by rw [List.length_map, List.length_range]; omega), List.getElem?_eq_none (by rw [List.length_map, List.length_range]; omega)]
def StepAt (H : Hp) (v : V) (s : St3) : Prop := ∃ t : Addr, v = .ref t ∧ H t = some (.tup [nV s.u, nV s.v, .int s.w])
theorem StepAt.keep {H H' : Hp} {v : V} {s : St3} (h : StepAt H v s) (k : TK H H') : StepAt H' v s := by
  obtain ⟨t, e, h⟩ := h
  exact ⟨t, e, k _ _ h⟩
def StepsAt (H : Hp) (sl : Addr) (st : List St3) : Prop := ∃ sv : List V, H sl = some (.lst sv) ∧ All2 (StepAt H) sv st
def stepEnd (st : List St3) : Nat → List Nat → Option Nat
  | p, [] => some p
  | p, k :: ks => match st[k]? with | some s => if s.u = p then stepEnd st s.v ks else none | none => none
theorem stepEnd_cons {st : List St3} {k p : Nat} {s : St3} {ks : List Nat} (e : st[k]? = some s) : stepEnd st p (k :: ks) = if s.u = p then stepEnd st s.v ks else none := by
  show (match st[k]? with | some s => if s.u = p then stepEnd st s.v ks else none | none => none) = _
  rw [e]
def wS (st : List St3) (k : Nat) : Int := match st[k]? with | some s => s.w | none => 0
def toS (st : List St3) (k : Nat) : Nat := match st[k]? with | some s => s.v | none => 0
theorem toS_some {st : List St3} {k : Nat} {s : St3} (e : st[k]? = some s) : toS st k = s.v := by unfold toS; rw [e]
/-- a ring of steps that needs more than nothing, and comes to no place twice -/
structure RingOk (st : List St3) (ks : List Nat) : Prop where
  ne : ks ≠ []
  lt : ∀ k ∈ ks, k < st.length
  cl : ∃ p, stepEnd st p ks = some p
  pos : 0 < (ks.map (wS st)).sum
  nd : (ks.map (toS st)).Nodup
theorem step_sum {st : List St3} {lv : Nat → Int} (f : ∀ s ∈ st, lv s.u + s.w ≤ lv s.v) : ∀ {ks : List Nat} {p q : Nat}, stepEnd st p ks = some q → lv p + (ks.map (wS st)).sum ≤ lv q
  | [], p, q, h => by cases h; show lv p + 0 ≤ lv p; omega
  | k :: ks, p, q, h => by
    cases e : st[k]? with
    | none =>
      have : stepEnd st p (k :: ks) = none := by
        show (match st[k]? with | some s => if s.u = p then stepEnd st s.v ks else none | none => none) = none
        rw [e]
      rw [this] at h; cases h
    | some s =>
      rw [stepEnd_cons e] at h
      by_cases z : s.u = p
      · rw [if_pos z] at h
        have ih := step_sum f h
        have := f s (List.mem_of_getElem? e)
        rw [List.map_cons, List.sum_cons, show wS st k = s.w by unfold wS; rw [e]]
        rw [z] at this
        omega
      · rw [if_neg z] at h; cases h
theorem RingOk.not_feas {st : List St3} {ks : List Nat} (r : RingOk st ks) : ¬ Feas st := fun ⟨lv, f⟩ => by
  obtain ⟨p, e⟩ := r.cl
  have := step_sum f e
  have := r.pos
  omega
section
variable {P : Program} {w : World} {K : PySem.W.Frag} {mg : Str → Option Value} {base : Heap}
def sp_raise_levels (K : PySem.W.Frag) : Sp := fun vs H Q _ => ∃ (ll lb sl : Addr) (n i : Nat) (st : List St3) (lv : Nat → Int) (la : Nat → Option Nat) (r t : Nat → Nat) (now : Nat), vs = [.ref ll, .ref lb, .ref sl] ∧ H ll = some (.lst (levL n lv)) ∧ H lb = some (.lst (lasL n la)) ∧ StepsAt H sl st ∧ ll ≠ lb ∧ sl ≠ ll ∧ sl ≠ lb ∧ (∀ s ∈ st, s.u < n ∧ s.v < n) ∧ st.length ≤ 400 ∧ Lv st i 0 lv la r t now ∧ (∀ p, r p < i) ∧
  ∀ (lv' : Nat → Int) (la' : Nat → Option Nat) (r' t' : Nat → Nat) (now' : Nat) (v : Option Nat) (H' : Hp), H' ll = some (.lst (levL n lv')) → H' lb = some (.lst (lasL n la')) → Lv st i st.length lv' la' r' t' now' → (v = none → ∀ p, r' p < i) → (∀ x, v = some x → x < n ∧ r' x = i) → (∀ p, lv p ≤ lv' p) → (∀ b o, H b = some o → b ≠ ll → b ≠ lb → H' b = some o) → Q (oV v) H'
theorem ok_raise_levels {f : Addr} {fd : FuncData} (F : Fun K "raise_levels" "raise_levels" s_raise_levels f fd) (T : Top K mg) : FnOk P w K mg base CX0 1 f fd ["levels", "last", "steps"] (sp_raise_levels K) := by
  refine F.ok sc_raise_levels (fun vs H Q E h => ?_) (fun cdv A outer s H vs Q E hr h => ?_)
  · obtain ⟨ll, lb, sl, n, i, st, lv, la, r, t, now, rfl, _⟩ := h
    rfl
  obtain ⟨ll, lb, sl, n, i, st, lv, la, r, t, now, rfl, hll, hlb, ⟨sv, hsl, als⟩, llb, sll, slb, bd, few, L, rlt, q⟩ := h
  have lsv := als.length
  refine ⟨_, (pss_cons (ps_set (i := 3) sc_raise_levels.nd rfl (Or.inl rfl) pe_non)
      (pss_cons (ps_for PassesOwn.never rfl (pi_enum (by rfl) T.m_enumerate (pa_cons (pv 2) pa_nil)) (pg_tupK K rfl rfl (pgs_cons (pg_name (i := 4) sc_raise_levels.nd rfl (Or.inl rfl)) (pgs_cons (pg_tupK K rfl rfl (pgs_cons (pg_name (i := 5) sc_raise_levels.nd rfl (Or.inl rfl)) (pgs_cons (pg_name (i := 6) sc_raise_levels.nd rfl (Or.inl rfl)) (pgs_cons (pg_name (i := 7) sc_raise_levels.nd rfl (Or.inl rfl)) pgs_nil)))) pgs_nil)))
        (pss_one (ps_if (pt_cmpR op_gt (pe_op op_add (pe_ix (ix_listK K rfl) (pv 0) (pv 5) (fun _ _ => rfl)) (pv 7)) (pe_ix (ix_listK K rfl) (pv 0) (pv 6) (fun _ _ => rfl)) (nomark _)) (pss_cons (ps_asg (pe_op op_add (pe_ix (ix_listK K rfl) (pv 0) (pv 5) (fun _ _ => rfl)) (pv 7)) (pg_sub (pv 0) (pv 6) set_list))
      (pss_cons (ps_asg (pv 4) (pg_sub (pv 1) (pv 6) set_list))
      (pss_one (ps_set (i := 3) sc_raise_levels.nd rfl (Or.inl rfl) (pv 6))))) pss_nil)))
      (pss_one (ps_ret (pv 3))))), ?_⟩
  refine ⟨_, rfl, sl, _, rfl, SqL.of hsl, for_it (n := sv.length) (fun j σ H2 => ∃ (lv' : Nat → Int) (la' : Nat → Option Nat) (r' t' : Nat → Nat) (now' : Nat) (v : Option Nat) (v4 v5 v6 v7 : Option V), σ = [some (.ref ll), some (.ref lb), some (.ref sl), some (oV v), v4, v5, v6, v7] ∧ H2 ll = some (.lst (levL n lv')) ∧ H2 lb = some (.lst (lasL n la')) ∧ Lv st i j lv' la' r' t' now' ∧ (v = none → ∀ p, r' p < i) ∧ (∀ x, v = some x → x < n ∧ r' x = i) ∧ (∀ p, lv p ≤ lv' p) ∧ (∀ b o, H b = some o → b ≠ ll → b ≠ lb → H2 b = some o))
    ⟨lv, la, r, t, now, none, none, none, none, none, rfl, hll, hlb, L, (fun _ => rlt), (fun _ z => nomatch z), (fun _ => Int.le_refl _), (fun _ _ e _ _ => e)⟩ ?_ ?_ ?_ ?_⟩
  · rintro j σ H2 hj ⟨lv', la', r', t', now', v, v4, v5, v6, v7, rfl, h1, h2, L, f1, f2, f3, fr⟩
    exact ⟨_, _, SqL.of (fr _ _ hsl sll slb), List.getElem?_eq_getElem hj⟩
  · rintro σ H2 ⟨lv', la', r', t', now', v, v4, v5, v6, v7, rfl, h1, h2, L, f1, f2, f3, fr⟩
    exact ⟨_, SqL.of (fr _ _ hsl sll slb), Nat.le_refl _⟩
  · rintro j x σ H2 H3 hj ⟨lv', la', r', t', now', v, v4, v5, v6, v7, rfl, h1, h2, L, f1, f2, f3, fr⟩ ⟨tt, y, rfl, ntt, rfl, fy⟩
    have ey := fy _ (SqL.of (fr _ _ hsl sll slb))
    obtain ⟨s, es, ⟨t2, rfl, e1⟩⟩ := als.getL ey
    obtain ⟨ul, vl⟩ := bd s (List.mem_of_getElem? es)
    have t2l : t2 ≠ ll := ne_of e1 hll (fun z => nomatch z)
    have t2b : t2 ≠ lb := ne_of e1 hlb (fun z => nomatch z)
    have e13 := same_new (o := .tup [V.int ((j : Nat) : Int), V.ref t2]) ntt _ _ (fr _ _ e1 t2l t2b)
    have h13 := same_new (o := .tup [V.int ((j : Nat) : Int), V.ref t2]) ntt _ _ h1
    have h23 := same_new (o := .tup [V.int ((j : Nat) : Int), V.ref t2]) ntt _ _ h2
    refine ⟨tt, _, rfl, SqT.of upd_same, rfl, _, _, rfl, _, _, rfl, t2, _, rfl, SqT.of e13, rfl, _, _, rfl, _, _, rfl, _, _, rfl, rfl, rfl, ?_⟩
    refine ⟨_, rfl, _, rfl, ll, _, _, _, rfl, rfl, SqL.of h13, atI_nat (rg_at ul), _, rfl, _, _, rfl, rfl, _, rfl, _, rfl, ll, _, _, _, rfl, rfl, SqL.of h13, atI_nat (rg_at vl), _, _, rfl, rfl, _, rfl, if_bl (fun c => ?_) (fun c => ?_)⟩
    · have c : lv' s.v < lv' s.u + s.w := of_decide_eq_true c
      refine ⟨_, rfl, _, rfl, ll, _, _, _, rfl, rfl, SqL.of h13, atI_nat (rg_at ul), _, rfl, _, _, rfl, rfl, _, rfl, _, rfl, ll, _, _, s.v, rfl, rfl, h13, ixN_nat (by rw [List.length_map, List.length_range]; exact vl), ?_⟩
      refine ⟨_, rfl, _, rfl, _, rfl, lb, _, _, s.v, rfl, rfl, (by rw [upd_ne llb.symm]; exact h23), ixN_nat (by rw [List.length_map, List.length_range]; exact vl), ?_⟩
      refine ⟨_, rfl, ?_⟩
      refine ⟨put lv' s.v (lv' s.u + s.w), put la' s.v (some j), put r' s.v i, put t' s.v (now' + 1), now' + 1, some s.v, _, _, _, _, rfl, ?_, ?_, L.lift es c, (fun z => nomatch z), (fun x z => ?_), fun p => ?_, fun b o e n1 n2 => ?_⟩
      · rw [upd_ne llb, upd_same]
        exact congrArg (fun l => some (HO.lst l)) (rg_set (g := V.int))
      · rw [upd_same]
        exact congrArg (fun l => some (HO.lst l)) (rg_set (g := oV) (x := some j))
      · cases z
        exact ⟨vl, put_at⟩
      · have := f3 p
        by_cases z : p = s.v
        · rw [z, put_at]; rw [z] at this; omega
        · rw [put_ne z]; exact this
      · rw [upd_ne n2, upd_ne n1]
        exact same_new ntt _ _ (fr b o e n1 n2)
    · have c : ¬ lv' s.v < lv' s.u + s.w := of_decide_eq_false c
      exact ⟨lv', la', r', t', now', v, _, _, _, _, rfl, h13, h23, L.idle es c, f1, f2, f3, fun b o e n1 n2 => same_new ntt _ _ (fr b o e n1 n2)⟩
  · rintro σ H2 ⟨lv', la', r', t', now', v, v4, v5, v6, v7, rfl, h1, h2, L, f1, f2, f3, fr⟩
    rw [lsv] at L
    exact ⟨_, rfl, q lv' la' r' t' now' v H2 h1 h2 L f1 f2 f3 fr⟩
def sp_ring_behind (K : PySem.W.Frag) : Sp := fun vs H Q _ => ∃ (lb sl : Addr) (n p : Nat) (st : List St3) (lv : Nat → Int) (la : Nat → Option Nat) (r t : Nat → Nat) (now : Nat), vs = [nV p, .ref lb, .ref sl] ∧ H lb = some (.lst (lasL n la)) ∧ StepsAt H sl st ∧ (∀ s ∈ st, s.u < n ∧ s.v < n) ∧ st.length ≤ 400 ∧ n ≤ 100 ∧ Lv st n st.length lv la r t now ∧ p < n ∧ r p = n ∧
  ∀ (pr : Addr) (ks : List Nat) (H' : Hp), H' pr = some (.lst (ks.map nV)) → RingOk st ks → ks.length ≤ n → Same H H' → Q (.ref pr) H'
theorem ok_ring_behind {f : Addr} {fd : FuncData} (F : Fun K "ring_behind" "ring_behind" s_ring_behind f fd) (T : Top K mg) : FnOk P w K mg base CX0 1 f fd ["place", "last", "steps"] (sp_ring_behind K) := by
  refine F.ok sc_ring_behind (fun vs H Q E h => ?_) (fun cdv A outer s H vs Q E hr h => ?_)
  · obtain ⟨lb, sl, n, p, st, lv, la, r, t, now, rfl, _⟩ := h
    rfl
  obtain ⟨lb, sl, n, p, st, lv, la, r, t, now, rfl, hlb, ⟨sv, hsl, als⟩, bd, few, n100, L, hp, hrp, q⟩ := h
  obtain ⟨c, c1, cn, cyc, least, hs, lt, hs0⟩ : ∃ c, 1 ≤ c ∧ c ≤ n ∧ backs st la p (n + c) = backs st la p n ∧ (∀ d, 1 ≤ d → d < c → backs st la p (n + d) ≠ backs st la p n) ∧ (∀ k, n ≤ k → ∃ m, la (backs st la p k) = some m) ∧ (∀ k, backs st la p k < n) ∧ ∀ k, k < n → ∃ m, la (backs st la p k) = some m := by
    obtain ⟨c, c1, cn, cyc, hs, lt, hs0⟩ := L.ring (fun s z => (bd s z).1) hp hrp
    have low : ∀ m c, c ≤ m → 1 ≤ c → backs st la p (n + c) = backs st la p n → ∃ d, 1 ≤ d ∧ d ≤ c ∧ backs st la p (n + d) = backs st la p n ∧ ∀ e, 1 ≤ e → e < d → backs st la p (n + e) ≠ backs st la p n := by
      intro m
      induction m with
      | zero => intro c h1 h2; omega
      | succ m ih =>
        intro c h1 h2 h3
        by_cases z : ∃ e, 1 ≤ e ∧ e < c ∧ backs st la p (n + e) = backs st la p n
        · obtain ⟨e, e1, e2, e3⟩ := z
          obtain ⟨d, d1, d2, d3, d4⟩ := ih e (by omega) e1 e3
          exact ⟨d, d1, by omega, d3, d4⟩
        · exact ⟨c, h2, Nat.le_refl _, h3, fun e e1 e2 e3 => z ⟨e, e1, e2, e3⟩⟩
    obtain ⟨d, d1, d2, d3, d4⟩ := low c c (Nat.le_refl _) c1 cyc
    exact ⟨d, d1, by omega, d3, d4, hs, lt, hs0⟩
  -- no place twice
  have apart : ∀ a b, a < b → b < c → backs st la p (n + a) ≠ backs st la p (n + b) := fun a b ab bc e => by
    have := backs_add (k := c - b) e
    rw [show n + a + (c - b) = n + (a + (c - b)) by omega, show n + b + (c - b) = n + c by omega, cyc] at this
    exact least (a + (c - b)) (by omega) (by omega) this
  have lsv := als.length
  -- one step back, in the program
  have step : ∀ (k m : Nat), la (backs st la p k) = some m → ∃ s x t2, st[m]? = some s ∧ s.v = backs st la p k ∧ backs st la p (k + 1) = s.u ∧ sv[m]? = some x ∧ x = V.ref t2 ∧ H t2 = some (.tup [nV s.u, nV s.v, .int s.w]) := fun k m e => by
    obtain ⟨s, e1, e2, _⟩ := L.bk _ m e
    obtain ⟨x, ex, t2, rfl, h2⟩ := als.get e1
    refine ⟨s, _, t2, e1, e2, ?_, ex, rfl, h2⟩
    show back st la (backs st la p k) = s.u
    unfold back
    rw [e]
    dsimp only
    rw [e1]
  refine ⟨_, (pss_cons (ps_for PassesOwn.never rfl (pi_range1 (by rfl) T.m_range (pa_cons (pe_callB (call_len_seqK K rfl) (by rfl) T.m_len (by decide +kernel) (pa_cons (pv 1) pa_nil)) pa_nil)) (pg_name (i := 3) sc_ring_behind.nd rfl (Or.inl rfl))
        (pss_one (ps_set (i := 0) sc_ring_behind.nd rfl (Or.inl rfl) (pe_ix (ix_tupK K rfl) (pe_ix (ix_listK K rfl) (pv 2) (pe_ix (ix_listK K rfl) (pv 1) (pv 0) (fun _ _ => rfl)) (fun _ _ => rfl)) pe_int (fun _ _ => rfl)))))
      (pss_cons (ps_set (i := 4) sc_ring_behind.nd rfl (Or.inl rfl) (pe_lst (pa_cons (pe_ix (ix_listK K rfl) (pv 1) (pv 0) (fun _ _ => rfl)) pa_nil)))
      (pss_cons (ps_set (i := 5) sc_ring_behind.nd rfl (Or.inl rfl) (pe_ix (ix_tupK K rfl) (pe_ix (ix_listK K rfl) (pv 2) (pe_ix (ix_listK K rfl) (pv 1) (pv 0) (fun _ _ => rfl)) (fun _ _ => rfl)) pe_int (fun _ _ => rfl)))
      (pss_cons (ps_while PassesOwn.never (pt_cmpR op_ne (pv 5) (pv 0) (nomark _))
        (pss_cons (ps_expr (pe_bmK K rfl PySem.F.plainAttrs_list PySem.F.slot_list_append PySem.F.type_list_append mt_append (pv 4) (pa_cons (pe_ix (ix_listK K rfl) (pv 1) (pv 5) (fun _ _ => rfl)) pa_nil)))
      (pss_one (ps_set (i := 5) sc_ring_behind.nd rfl (Or.inl rfl) (pe_ix (ix_tupK K rfl) (pe_ix (ix_listK K rfl) (pv 2) (pe_ix (ix_listK K rfl) (pv 1) (pv 5) (fun _ _ => rfl)) (fun _ _ => rfl)) pe_int (fun _ _ => rfl))))))
      (pss_one (ps_ret (pe_revLK K rfl (pv 4)))))))), ?_⟩
  refine ⟨_, rfl, lb, _, rfl, .inl (SqL.of hlb), _, rfl, by rw [List.length_map, List.length_range]; omega, by rw [List.length_map, List.length_range]; omega, for_range (lo := 0) (n := (lasL n la).length) (fun k σ H2 => ∃ v3 v4 v5 : Option V, σ = [some (nV (backs st la p k)), some (.ref lb), some (.ref sl), v3, v4, v5] ∧ Same H H2) ⟨none, none, none, rfl, Same.refl _⟩ ?_ ?_⟩
  · rintro k σ H2 hk ⟨v3, v4, v5, rfl, s2⟩
    rw [List.length_map, List.length_range] at hk
    obtain ⟨m, em⟩ := hs0 k hk
    obtain ⟨s, x, t2, e1, e2, e3, ex, rfl, h2⟩ := step k m em
    have al : (lasL n la)[backs st la p k]? = some (nV m) := by rw [rg_at (lt k), em]; rfl
    refine ⟨_, rfl, _, rfl, _, rfl, lb, _, _, _, rfl, rfl, SqL.of (s2 _ _ hlb), atI_nat al, sl, _, _, _, rfl, rfl, SqL.of (s2 _ _ hsl), atI_nat ex, t2, _, _, _, rfl, rfl, SqT.of (s2 _ _ h2), atI_nat (j := 0) rfl, ?_⟩
    exact ⟨_, _, _, by rw [e3]; rfl, s2⟩
  rintro σ H2 ⟨v3, v4, v5, rfl, s2⟩
  have ln : (lasL n la).length = n := by rw [List.length_map, List.length_range]
  rw [ln]
  obtain ⟨m, em⟩ := hs n (Nat.le_refl _)
  obtain ⟨s, x, t2, e1, e2, e3, ex, rfl, h2⟩ := step n m em
  have al : (lasL n la)[backs st la p n]? = some (nV m) := by rw [rg_at (lt n), em]; rfl
  refine ⟨_, rfl, _, rfl, lb, _, _, _, rfl, rfl, SqL.of (s2 _ _ hlb), atI_nat al, (by show 1 ≤ sizeLine; decide), fun rl nrl => ?_⟩
  have s3 := s2.trans (same_new (o := .lst [nV m]) nrl)
  refine ⟨_, rfl, _, rfl, _, rfl, lb, _, _, _, rfl, rfl, SqL.of (s3 _ _ hlb), atI_nat al, sl, _, _, _, rfl, rfl, SqL.of (s3 _ _ hsl), atI_nat ex, t2, _, _, _, rfl, rfl, SqT.of (s3 _ _ h2), atI_nat (j := 0) rfl, ?_⟩
  refine ⟨fun z σ H4 => ∃ (j : Nat) (ks : List Nat), σ = [some (nV (backs st la p n)), some (.ref lb), some (.ref sl), v3, some (.ref rl), some (nV (backs st la p (n + 1 + j)))] ∧ H4 rl = some (.lst (ks.reverse.map nV)) ∧ ks.length = j + 1 ∧ (∀ k ∈ ks, k < st.length) ∧ stepEnd st (backs st la p (n + 1 + j)) ks = some (backs st la p n) ∧ (ks.map (wS st)).sum = needs3 st la p n (j + 1) ∧ ks.map (toS st) = ((List.range (j + 1)).map fun i => backs st la p (n + i)).reverse ∧ j + 1 ≤ c ∧ z = c - (j + 1) ∧ Same H H4,
    ⟨_, 0, [m], ?_, upd_same, rfl, fun k hk => ?_, ?_, ?_, ?_, c1, rfl, s3⟩, ?_⟩
  · rw [show n + 1 + 0 = n + 1 by omega, e3]; rfl
  · obtain rfl : k = m := by simpa using hk
    exact (List.getElem?_eq_some_iff.mp e1).1
  · rw [show n + 1 + 0 = n + 1 by omega, e3, stepEnd_cons e1, if_pos rfl, e2]; rfl
  · show wS st m + 0 = 0 + need st la (backs st la p (n + 0))
    have hw : wS st m = s.w := by unfold wS; rw [e1]
    have hn : need st la (backs st la p n) = s.w := by unfold need; rw [em]; dsimp only; rw [e1]
    rw [show n + 0 = n by omega, hw, hn]
    omega
  · show [toS st m] = [backs st la p (n + 0)]
    rw [toS_some e1, e2]; rfl
  rintro z σ H4 ⟨j, ks, rfl, hrl, lk, kl, se, sm, en, jc, rfl, s4⟩
  refine ⟨_, rfl, _, rfl, rfl, _, rfl, ?_⟩
  by_cases cl : backs st la p (n + 1 + j) = backs st la p n
  · rw [decide_eq_true (show nV (backs st la p (n + 1 + j)) = nV (backs st la p n) by rw [cl])]
    refine if_bl (fun z => nomatch z) (fun _ => ?_)
    refine ⟨_, rfl, rl, _, rfl, SqL.of hrl, fun r2 nr2 => ?_⟩
    refine q r2 ks _ ?_ ⟨fun z => ?_, kl, ⟨backs st la p n, by rw [cl] at se; exact se⟩, ?_, ?_⟩ (by omega) (s4.trans (same_new nr2))
    · rw [upd_same, ← List.map_reverse, List.reverse_reverse]
    · rw [z] at lk; cases lk
    · rw [sm]
      exact L.sum_pos (by omega) (by rw [show n + (j + 1) = n + 1 + j by omega]; exact cl) hs
    · rw [en, List.nodup_iff_pairwise_ne, List.pairwise_reverse, List.pairwise_map]
      have pr : (List.range (j + 1)).Pairwise fun a b => a < b := List.pairwise_lt_range
      refine pr.imp_of_mem fun {a b} ha hb ab e => ?_
      have := List.mem_range.mp hb
      exact apart a b ab (by omega) e.symm
  · rw [decide_eq_false (show ¬ nV (backs st la p (n + 1 + j)) = nV (backs st la p n) from fun y => cl (by have := V.int.inj y; omega))]
    refine if_bl (fun _ => ?_) (fun z => nomatch z)
    have jlt : j + 1 < c := by
      refine Nat.lt_of_le_of_ne jc fun y => cl ?_
      rw [show n + 1 + j = n + (j + 1) by omega, y]
      exact cyc
    refine ⟨_, fun σ' H' h => h, ?_⟩
    obtain ⟨m, em⟩ := hs (n + 1 + j) (by omega)
    obtain ⟨s, x, t2, e1, e2, e3, ex, rfl, h2⟩ := step (n + 1 + j) m em
    have al : (lasL n la)[backs st la p (n + 1 + j)]? = some (nV m) := by rw [rg_at (lt _), em]; rfl
    refine ⟨_, rfl, .inl ⟨rfl, _, SqL.of hrl⟩, _, rfl, _, rfl, lb, _, _, _, rfl, rfl, SqL.of (s4 _ _ hlb), atI_nat al, rl, _, _, rfl, rfl, hrl, by rw [List.length_map, List.length_reverse]; exact small1000 (by omega), ?_⟩
    have rl0 : H rl = none := same_none s2 nrl
    have s5 : Same H (upd H4 rl (.lst (ks.reverse.map nV ++ [nV m]))) := Same.own s4 rl0
    refine ⟨_, rfl, _, rfl, _, rfl, lb, _, _, _, rfl, rfl, SqL.of (s5 _ _ hlb), atI_nat al, sl, _, _, _, rfl, rfl, SqL.of (s5 _ _ hsl), atI_nat ex, t2, _, _, _, rfl, rfl, SqT.of (s5 _ _ h2), atI_nat (j := 0) rfl, ?_⟩
    refine ⟨c - (j + 1 + 1), by omega, j + 1, m :: ks, ?_, ?_, by rw [List.length_cons, lk], fun k hk => ?_, ?_, ?_, ?_, by omega, rfl, s5⟩
    · rw [show n + 1 + (j + 1) = n + 1 + j + 1 by omega, e3]; rfl
    · rw [upd_same, List.reverse_cons, List.map_append]; rfl
    · rcases List.mem_cons.mp hk with rfl | hk
      · exact (List.getElem?_eq_some_iff.mp e1).1
      · exact kl k hk
    · rw [show n + 1 + (j + 1) = n + 1 + j + 1 by omega, e3, stepEnd_cons e1, if_pos rfl, e2]; exact se
    · show wS st m + (ks.map (wS st)).sum = needs3 st la p n (j + 1) + need st la (backs st la p (n + (j + 1)))
      have hw : wS st m = s.w := by unfold wS; rw [e1]
      have hn : need st la (backs st la p (n + 1 + j)) = s.w := by unfold need; rw [em]; dsimp only; rw [e1]
      rw [sm, show n + (j + 1) = n + 1 + j by omega, hw, hn]
      omega
    · show toS st m :: ks.map (toS st) = _
      rw [toS_some e1, e2, en, List.range_succ (n := j + 1), List.map_append, List.reverse_append, show n + 1 + j = n + (j + 1) by omega]
      rfl
def sp_levels_or_ring (K : PySem.W.Frag) : Sp := fun vs H Q _ => ∃ (sl : Addr) (n : Nat) (st : List St3), vs = [nV n, .ref sl] ∧ StepsAt H sl st ∧ (∀ s ∈ st, s.u < n ∧ s.v < n) ∧ st.length ≤ 400 ∧ n ≤ 100 ∧
  (∀ (p ll : Addr) (lv : Nat → Int) (H' : Hp), H' p = some (.tup [.ref ll, .non]) → H' ll = some (.lst (levL n lv)) → (∀ s ∈ st, lv s.u + s.w ≤ lv s.v) → (∀ q, 0 ≤ lv q) → Same H H' → Q (.ref p) H') ∧
  ∀ (p rl : Addr) (ks : List Nat) (H' : Hp), H' p = some (.tup [.non, .ref rl]) → H' rl = some (.lst (ks.map nV)) → RingOk st ks → ks.length ≤ n → Same H H' → Q (.ref p) H'
theorem ok_levels_or_ring {f : Addr} {fd : FuncData} (F : Fun K "levels_or_ring" "levels_or_ring" s_levels_or_ring f fd) (T : Top K mg) : FnOk P w K mg base CX0 2 f fd ["many", "steps"] (sp_levels_or_ring K) := by
  obtain ⟨f_raise_levels, fd_raise_levels, F_raise_levels, b_raise_levels, m_raise_levels⟩ := T.d_raise_levels
  have G_raise_levels := ok_raise_levels (P := P) (w := w) (base := base) F_raise_levels T
  obtain ⟨f_ring_behind, fd_ring_behind, F_ring_behind, b_ring_behind, m_ring_behind⟩ := T.d_ring_behind
  have G_ring_behind := ok_ring_behind (P := P) (w := w) (base := base) F_ring_behind T
  refine F.ok sc_levels_or_ring (fun vs H Q E h => ?_) (fun cdv A outer s H vs Q E hr h => ?_)
  · obtain ⟨sl, n, st, rfl, _⟩ := h
    rfl
  obtain ⟨sl, n, st, rfl, ⟨sv, hsl, als⟩, bd, few, n100, q1, q2⟩ := h
  let R1 : TS := fun D' σ' H' => D'.rt = Q ∧ ∃ (ll lb : Addr) (lv : Nat → Int) (la : Nat → Option Nat) (r t : Nat → Nat) (now : Nat) (v : Option Nat) (v5 : Option V), σ' = [some (nV n), some (.ref sl), some (.ref ll), some (.ref lb), some (oV v), v5] ∧ H' ll = some (.lst (levL n lv)) ∧ H' lb = some (.lst (lasL n la)) ∧ Same H H' ∧ (∀ p, 0 ≤ lv p) ∧ (v = none → ∀ s ∈ st, lv s.u + s.w ≤ lv s.v) ∧ ∀ x, v = some x → x < n ∧ r x = n ∧ Lv st n st.length lv la r t now
  refine ⟨_, (pss_cons (ps_set (i := 2) sc_levels_or_ring.nd rfl (Or.inl rfl) (pe_op op_rep (pe_lst (pa_cons pe_int pa_nil)) (pv 0)))
      (pss_cons (ps_set (i := 3) sc_levels_or_ring.nd rfl (Or.inl rfl) (pe_op op_rep (pe_lst (pa_cons pe_non pa_nil)) (pv 0)))
      (pss_cons (ps_set (i := 4) sc_levels_or_ring.nd rfl (Or.inl rfl) pe_non)
      (pss_cons (ps_for PassesOwn.never rfl (pi_range1 (by rfl) T.m_range (pa_cons (pv 0) pa_nil)) (pg_name (i := 5) sc_levels_or_ring.nd rfl (Or.inl rfl))
        (pss_cons (ps_set (i := 4) sc_levels_or_ring.nd rfl (Or.inl rfl) (pe_call G_raise_levels (hr.mono (by decide)) (by rfl) m_raise_levels F_raise_levels.kp b_raise_levels .nil pass0 (pa_cons (pv 2) (pa_cons (pv 3) (pa_cons (pv 1) pa_nil)))))
      (pss_one (ps_if (pt_cmpR op_isN (pv 4) pe_non (nomark _)) (pss_one ps_break) pss_nil))))
      (PSs.to (pss_cons (ps_if (pt_cmpR op_isN (pv 4) pe_non (nomark _)) (pss_one (ps_ret (pe_tup (pa_cons (pv 2) (pa_cons pe_non pa_nil))))) pss_nil)
      (pss_one (ps_ret (pe_tup (pa_cons pe_non (pa_cons (pe_call G_ring_behind (hr.mono (by decide)) (by rfl) m_ring_behind F_ring_behind.kp b_ring_behind .nil pass0 (pa_cons (pv 4) (pa_cons (pv 3) (pa_cons (pv 1) pa_nil)))) pa_nil)))))) R1 ?tail1))))), ?_⟩
  case tail1 =>
    rintro D' σ' H1 ⟨eD, ll, lb, lv, la, r, t, now, v, v5, rfl, hll, hlb, s1, nn, f1, f2⟩
    cases v with
    | none =>
      refine ⟨_, rfl, rfl, _, rfl, if_bl (fun _ => ?_) (fun z => absurd rfl (of_decide_eq_false z))⟩
      refine ⟨_, rfl, (by show 2 ≤ sizeLine; decide), fun p np => ?_⟩
      rw [eD]
      exact q1 p ll lv _ upd_same (same_new np _ _ hll) (f1 rfl) nn (s1.trans (same_new np))
    | some x =>
      obtain ⟨xl, rx, L⟩ := f2 x rfl
      refine ⟨_, rfl, rfl, _, rfl, if_bl (fun z => absurd (of_decide_eq_true z) (fun y => nomatch y)) (fun _ => ?_)⟩
      refine ⟨_, rfl, _, rfl, _, rfl, lb, sl, n, x, st, lv, la, r, t, now, rfl, hlb, ⟨sv, s1 _ _ hsl, als.imp fun _ _ z => z.keep (TK.same s1)⟩, bd, few, n100, L, xl, rx, fun pr ks H2 hpr ring lk s2 => ⟨(by show 2 ≤ sizeLine; decide), fun p np => ?_⟩⟩
      rw [eD]
      exact q2 p pr ks _ upd_same (same_new np _ _ hpr) ring lk ((s1.trans s2).trans (same_new np))
  refine ⟨(by show 1 ≤ sizeLine; decide), fun z1 nz1 => ⟨_, rfl, z1, ((n : Nat) : Int), _, rfl, rfl, upd_same, by omega, by omega, (by show 1 * ((n : Nat) : Int).toNat ≤ sizeLine; exact little (by omega)), fun ll nll => ?_⟩⟩
  have eL : (List.replicate ((n : Nat) : Int).toNat [V.int 0]).flatten = levL n (fun _ => 0) := by
    rw [flat_rep, Int.toNat_natCast]
    exact (List.map_const' .. ▸ by rw [List.length_range] : List.replicate n (V.int 0) = (List.range n).map fun _ => V.int 0)
  rw [eL]
  refine ⟨(by show 1 ≤ sizeLine; decide), fun z2 nz2 => ⟨_, rfl, z2, ((n : Nat) : Int), _, rfl, rfl, upd_same, by omega, by omega, (by show 1 * ((n : Nat) : Int).toNat ≤ sizeLine; exact little (by omega)), fun lb nlb => ?_⟩⟩
  have eB : (List.replicate ((n : Nat) : Int).toNat [V.non]).flatten = lasL n (fun _ => none) := by
    rw [flat_rep, Int.toNat_natCast]
    exact (List.map_const' .. ▸ by rw [List.length_range] : List.replicate n V.non = (List.range n).map fun _ => V.non)
  rw [eB]
  have sA := ((same_new (o := .lst [V.int 0]) nz1).trans (same_new (o := .lst (levL n (fun _ => 0))) nll))
  have s0 : Same H _ := (sA.trans (same_new (o := .lst [V.non]) nz2)).trans (same_new (o := .lst (lasL n (fun _ => none))) nlb)
  have ll0 : H ll = none := same_none (same_new nz1) nll
  have lb0 : H lb = none := same_none (sA.trans (same_new nz2)) nlb
  have hll0 := same_new (o := .lst (lasL n (fun _ => none))) nlb _ _ (same_new (o := .lst [V.non]) nz2 _ _ (upd_same (H := upd H z1 (.lst [V.int 0])) (a := ll) (o := .lst (levL n (fun _ => 0)))))
  have llb : ll ≠ lb := ne_of_none (same_new (o := .lst [V.non]) nz2 _ _ (upd_same (H := upd H z1 (.lst [V.int 0])) (a := ll) (o := .lst (levL n (fun _ => 0))))) nlb
  have sll : sl ≠ ll := ne_of_none hsl ll0
  have slb : sl ≠ lb := ne_of_none hsl lb0
  refine ⟨_, rfl, _, rfl, by omega, by omega, for_range (lo := 0) (n := ((n : Nat) : Int).toNat) (fun i σ H2 => ∃ (lv : Nat → Int) (la : Nat → Option Nat) (r t : Nat → Nat) (now : Nat) (v : Option Nat) (v5 : Option V), σ = [some (nV n), some (.ref sl), some (.ref ll), some (.ref lb), some (oV v), v5] ∧ H2 ll = some (.lst (levL n lv)) ∧ H2 lb = some (.lst (lasL n la)) ∧ Same H H2 ∧ (∀ p, 0 ≤ lv p) ∧ Lv st (i + 1) 0 lv la r t now ∧ (∀ p, r p < i + 1) ∧ ((i = 0 ∧ v = none) ∨ ∃ x, v = some x ∧ x < n ∧ r x = i ∧ Lv st i st.length lv la r t now))
    ⟨fun _ => 0, fun _ => none, fun _ => 0, fun _ => 0, 0, none, none, rfl, hll0, upd_same, s0, (fun _ => Int.le_refl _), Lv.start, (fun _ => Nat.zero_lt_one), .inl ⟨rfl, rfl⟩⟩ ?_ ?_⟩
  · rintro i σ H2 hi ⟨lv, la, r, t, now, v, v5, rfl, hll, hlb, s, nn, L, rl, _⟩
    have hsl2 := s _ _ hsl
    refine ⟨_, rfl, _, rfl, _, rfl, ll, lb, sl, n, i + 1, st, lv, la, r, t, now, rfl, hll, hlb, ⟨sv, hsl2, als.imp fun _ _ z => z.keep (TK.same s)⟩, llb, sll, slb, bd, few, L, rl, fun lv' la' r' t' now' v' H3 h1 h2 L' f1 f2 f3 fr => ?_⟩
    have s3 : Same H H3 := fun b o e => fr b o (s _ _ e) (ne_of_none e ll0) (ne_of_none e lb0)
    have nn' : ∀ p, 0 ≤ lv' p := fun p => Int.le_trans (nn p) (f3 p)
    cases v' with
    | none =>
      refine ⟨_, rfl, rfl, _, rfl, if_bl (fun _ => ?_) (fun z => absurd rfl (of_decide_eq_false z))⟩
      exact ⟨rfl, ll, lb, lv', la', r', t', now', none, _, rfl, h1, h2, s3, nn', (fun _ => L'.feas (f1 rfl)), (fun _ z => nomatch z)⟩
    | some x =>
      obtain ⟨xl, rx⟩ := f2 x rfl
      refine ⟨_, rfl, rfl, _, rfl, if_bl (fun z => absurd (of_decide_eq_true z) (fun y => nomatch y)) (fun _ => ?_)⟩
      exact ⟨lv', la', r', t', now', some x, _, rfl, h1, h2, s3, nn', L'.next, fun p => Nat.lt_succ_of_le (L'.rl p), .inr ⟨x, rfl, xl, rx, L'⟩⟩
  · rintro σ H2 ⟨lv, la, r, t, now, v, v5, rfl, hll, hlb, s, nn, L, rl, fl⟩
    rw [Int.toNat_natCast] at fl
    rcases fl with ⟨z, rfl⟩ | ⟨x, rfl, xl, rx, L'⟩
    · exact ⟨rfl, ll, lb, lv, la, r, t, now, none, _, rfl, hll, hlb, s, nn, (fun _ s hs => absurd (bd s hs).1 (by omega)), (fun _ z => nomatch z)⟩
    · exact ⟨rfl, ll, lb, lv, la, r, t, now, some x, _, rfl, hll, hlb, s, nn, (fun z => nomatch z), fun y z => by cases z; exact ⟨xl, rx, L'⟩⟩
end
abbrev kN (k : Nat) : Key := .inl ((k : Nat) : Int)
theorem kN_inj {a b : Nat} (h : kN a = kN b) : a = b := by
  have : ((a : Nat) : Int) = ((b : Nat) : Int) := Sum.inl.inj h
  omega
theorem dget_of {H : Hp} {a : Addr} {kvs : List (Key × V)} {k : Nat} {o : Option V} (e : H a = some (.dK kvs)) (h : valV kvs (kN k) = o) : DGet H a (nV k) o := h ▸ DGet.k (k := kN k) e
def CoAt (H : Hp) (v : V) (c : Co) : Prop := ∃ t : Addr, v = .ref t ∧ H t = some (.tup [.int c.1, .int (-c.2)])
def DC (H : Hp) (kvs : List (Key × V)) (cf : Nat → Option Co) : Prop := (∀ k : Nat, (cf k = none ∧ valV kvs (kN k) = none) ∨ ∃ c v, cf k = some c ∧ valV kvs (kN k) = some v ∧ CoAt H v c) ∧ ∃ ks : List Nat, kvs.map Prod.fst = ks.map kN ∧ ks.Nodup
theorem DC.keep {H H' : Hp} {kvs : List (Key × V)} {cf : Nat → Option Co} (d : DC H kvs cf) (s : TK H H') : DC H' kvs cf := ⟨fun k => by
  rcases d.1 k with h | ⟨c, v, h1, h2, t, h3, h4⟩
  · exact .inl h
  · exact .inr ⟨c, v, h1, h2, t, h3, s _ _ h4⟩, d.2⟩
theorem keys_put {kvs : List (Key × V)} {k : Nat} {v : V} (h : ∃ ks : List Nat, kvs.map Prod.fst = ks.map kN ∧ ks.Nodup) : ∃ ks : List Nat, (putK kvs (kN k) v).map Prod.fst = ks.map kN ∧ ks.Nodup := by
  obtain ⟨ks, e, nd⟩ := h
  unfold putK
  by_cases a : (kvs.any fun kv => decide (kv.1 = kN k)) = true
  · rw [if_pos a]
    refine ⟨ks, ?_, nd⟩
    rw [List.map_map, ← e]
    refine List.map_congr_left fun kv _ => ?_
    show (if kv.1 = kN k then (kv.1, v) else kv).1 = kv.1
    split <;> rfl
  · rw [if_neg a]
    refine ⟨ks ++ [k], by rw [List.map_append, List.map_append, e]; rfl, ?_⟩
    rw [List.nodup_append]
    refine ⟨nd, by simp, fun x hx y hy z => ?_⟩
    obtain rfl : y = k := by simpa using hy
    subst z
    have : kN x ∈ kvs.map Prod.fst := by rw [e]; exact List.mem_map.mpr ⟨x, hx, rfl⟩
    obtain ⟨kv, h1, h2⟩ := List.mem_map.mp this
    exact a (List.any_eq_true.mpr ⟨kv, h1, decide_eq_true h2⟩)
theorem DC.put {H : Hp} {kvs : List (Key × V)} {cf : Nat → Option Co} (d : DC H kvs cf) {k : Nat} {v : V} {c : Co} (h : CoAt H v c) : DC H (putK kvs (kN k) v) (fun j => if j = k then some c else cf j) := ⟨fun j => by
  rw [valV_put]
  show ((if j = k then some c else cf j) = none ∧ _) ∨ ∃ c' v', (if j = k then some c else cf j) = some c' ∧ _
  by_cases e : j = k
  · rw [if_pos e, if_pos (show kN j = kN k by rw [e])]
    exact .inr ⟨c, v, rfl, rfl, h⟩
  · rw [if_neg e, if_neg (show ¬ kN j = kN k from fun z => e (kN_inj z))]
    exact d.1 j, keys_put d.2⟩
theorem DL.put {lvs : List (Key × V)} {la : Nat → Option Nat} (d : ∀ k, valV lvs (kN k) = (la k).map nV) (k n : Nat) : ∀ j, valV (putK lvs (kN k) (nV n)) (kN j) = ((fun j => if j = k then some n else la j) j).map nV := fun j => by
  rw [valV_put]
  by_cases e : j = k
  · rw [if_pos (by rw [e])]
    show _ = Option.map nV (if j = k then some n else la j)
    rw [if_pos e]; rfl
  · rw [if_neg (fun z => e (kN_inj z))]
    show _ = Option.map nV (if j = k then some n else la j)
    rw [if_neg e]; exact d j
theorem putK_le (c : List (Key × V)) (k : Key) (x : V) : (putK c k x).length ≤ c.length + 1 := by
  unfold putK
  split
  · rw [List.length_map]; omega
  · rw [List.length_append]; exact Nat.le_refl _
theorem lex_co (c d : Co) : HT.lexLt [c.1, -c.2] [d.1, -d.2] = decide (coLt c d) := by
  rw [HT.lexLt_cons, HT.lexLt_cons, HT.lexLt_nil_nil]
  unfold coLt
  by_cases e : c.1 = d.1
  · rw [if_pos e]
    by_cases e2 : -c.2 = -d.2
    · rw [if_pos e2]
      exact (decide_eq_false (by omega)).symm
    · rw [if_neg e2]
      by_cases e3 : -c.2 < -d.2
      · rw [decide_eq_true e3]; exact (decide_eq_true (by omega)).symm
      · rw [decide_eq_false e3]; exact (decide_eq_false (by omega)).symm
  · rw [if_neg e]
    by_cases e3 : c.1 < d.1
    · rw [decide_eq_true e3]; exact (decide_eq_true (by omega)).symm
    · rw [decide_eq_false e3]; exact (decide_eq_false (by omega)).symm
theorem LaOk.put {hs : List HR} {bs : List BR} {rk : Nat → Int} {one : Nat} {cf : Nat → Option Co} {la : Nat → Option Nat} (L : LaOk hs bs one cf la) (hrk : ∀ b ∈ bs, b.th = [] → rk b.one < rk b.to) (s : Snd hs bs one cf) (h1 : cf one = some (0, momH hs one)) {j : Nat} {b : BR} {c : Co} (eb : bs[j]? = some b) (h : cf b.one = some c) (l : ∀ d, cf b.to = some d → coLt (coAdd hs c b) d) :
    LaOk hs bs one (fun k => if k = b.to then some (coAdd hs c b) else cf k) (fun k => if k = b.to then some j else la k) ∧ b.to ≠ one := by
  have hb := List.mem_of_getElem? eb
  have ne1 : b.to ≠ one := fun z => cf_one hrk s h1 hb h z (l _ (by rw [z]; exact h1))
  have ne2 : b.one ≠ b.to := fun z => by
    have := l c (by rw [← z]; exact h)
    unfold coLt coAdd at this
    dsimp only at this
    by_cases y : b.th = []
    · have := hrk b hb y
      rw [z] at this
      omega
    · have : 0 < b.th.length := List.length_pos_iff.mpr y
      omega
  have newc : ∀ k c2, cf k = some c2 → ∃ c3, (fun k => if k = b.to then some (coAdd hs c b) else cf k) k = some c3 ∧ coLe c3 c2 := fun k c2 e => by
    by_cases z : k = b.to
    · exact ⟨_, if_pos z, (l c2 (z ▸ e)).le⟩
    · exact ⟨c2, (if_neg z).trans e, coLe.refl _⟩
  refine ⟨⟨fun k n e => ?_, ?_, fun k d e => ?_⟩, ne1⟩
  · by_cases z : k = b.to
    · have e : some j = some n := by rw [← e]; exact (if_pos z).symm
      cases e
      exact ⟨b, c, coAdd hs c b, eb, z.symm, (if_neg ne2).trans h, if_pos z, coLe.refl _⟩
    · have e : la k = some n := by rw [← e]; exact (if_neg z).symm
      obtain ⟨b2, c2, d2, g1, g2, g3, g4, g5⟩ := L.go k n e
      obtain ⟨c3, g6, g7⟩ := newc _ _ g3
      exact ⟨b2, c3, d2, g1, g2, g6, (if_neg z).trans g4, (coAdd_mono g7).trans g5⟩
  · exact (if_neg ne1.symm).trans L.fst
  · by_cases z : k = b.to
    · exact .inr (by show (if k = b.to then some j else la k).isSome = true; rw [if_pos z]; rfl)
    · have e : cf k = some d := by rw [← e]; exact (if_neg z).symm
      rcases L.has k d e with y | y
      · exact .inl y
      · exact .inr (by show (if k = b.to then some j else la k).isSome = true; rw [if_neg z]; exact y)
theorem TK.dic {H : Hp} {p : Addr} {kvs lvs : List (Key × V)} (h : H p = some (.dK kvs)) : TK H (upd H p (.dK lvs)) := fun x zs e => by
  rw [upd_ne (ne_of e h (fun z => nomatch z))]
  exact e
section
variable {P : Program} {w : World} {K : PySem.W.Frag} {mg : Str → Option Value} {base : Heap}
def sp_least_costs (K : PySem.W.Frag) : Sp := fun vs H Q _ => ∃ (r : Addr) (hs : List HR) (bs : List BR) (one : Nat), vs = [.ref r, nV one] ∧ RoomAt H r hs bs ∧ RoomOk hs bs ∧ one < hs.length ∧
  ∀ (p cd ld : Addr) (kvs lvs : List (Key × V)) (la : Nat → Option Nat) (H' : Hp), H' p = some (.tup [.ref cd, .ref ld]) → cd ≠ ld → H' cd = some (.dK kvs) → DC H' kvs (best hs bs one) → H' ld = some (.dK lvs) → (∀ k, valV lvs (kN k) = (la k).map nV) → LaOk hs bs one (best hs bs one) la → Same H H' → Q (.ref p) H'
theorem ok_least_costs {f : Addr} {fd : FuncData} (F : Fun K "least_costs" "least_costs" s_least_costs f fd) (T : Top K mg) : FnOk P w K mg base CX0 1 f fd ["room", "one"] (sp_least_costs K) := by
  refine F.ok sc_least_costs (fun vs H Q E h => ?_) (fun cdv A outer s H vs Q E hr h => ?_)
  · obtain ⟨r, hs, bs, one, rfl, _⟩ := h
    rfl
  obtain ⟨r, hs, bs, one, rfl, hR, ok, ho, q⟩ := h
  obtain ⟨ha, ba, hv, bv, er, eh, eb, alh, alb⟩ := hR.ex
  have lhv := alh.length
  have lbv := alb.length
  have lh := ok.hands
  have lb := ok.many
  obtain ⟨rk, hrk⟩ := ok.rank
  have hto : ∀ b ∈ bs, b.to < hs.length := fun b hb => (ok.ends b hb).2
  have ehk : hs[one]? = some hs[one] := List.getElem?_eq_getElem ho
  have mom1 : momH hs one = hs[one].mom := by unfold momH; rw [ehk]
  obtain ⟨x0, ex0, ⟨t0, r0, rfl, e01, e02⟩⟩ := alh.get ehk
  refine ⟨_, (pss_cons (ps_asg (pv 0) (pg_tupK K rfl rfl (pgs_cons (pg_name (i := 2) sc_least_costs.nd rfl (Or.inl rfl)) (pgs_cons (pg_name (i := 3) sc_least_costs.nd rfl (Or.inl rfl)) pgs_nil))))
      (pss_cons (ps_set (i := 4) sc_least_costs.nd rfl (Or.inl rfl) (pe_disp (pps_cons (pv 1) (pe_tup (pa_cons pe_int (pa_cons (pe_un un_neg (pe_ix (ix_tupK K rfl) (pe_ix (ix_tupK K rfl) (pv 2) (pv 1) (fun _ _ => rfl)) pe_int (fun _ _ => rfl))) pa_nil))) pps_nil) (by rfl) (by rfl) (fun z => by cases z) (by decide)))
      (pss_cons (ps_set (i := 5) sc_least_costs.nd rfl (Or.inl rfl) pe_dnewK)
      (pss_cons (ps_set (i := 6) sc_least_costs.nd rfl (Or.inl rfl) pe_bl)
      (pss_cons (ps_while PassesOwn.never (pt_val (pv 6))
        (pss_cons (ps_set (i := 6) sc_least_costs.nd rfl (Or.inl rfl) pe_bl)
      (pss_one (ps_for PassesOwn.never rfl (pi_enumT K rfl (by rfl) T.m_enumerate (pa_cons (pv 3) pa_nil)) (pg_tupK K rfl rfl (pgs_cons (pg_name (i := 7) sc_least_costs.nd rfl (Or.inl rfl)) (pgs_cons (pg_tupK K rfl rfl (pgs_cons (pg_name (i := 8) sc_least_costs.nd rfl (Or.inl rfl)) (pgs_cons (pg_name (i := 9) sc_least_costs.nd rfl (Or.inl rfl)) (pgs_cons (pg_name (i := 10) sc_least_costs.nd rfl (Or.inl rfl)) pgs_nil)))) pgs_nil)))
        (pss_one (ps_if (pt_cmp (pc_din (hu_of hr) (pv 8) (pv 4)) (by with_unfolding_all rfl)) (pss_cons (ps_asg (pe_dget (hu_of hr) (pv 4) (pv 8) (fun _ _ => rfl)) (pg_tupK K rfl rfl (pgs_cons (pg_name (i := 11) sc_least_costs.nd rfl (Or.inl rfl)) (pgs_cons (pg_name (i := 12) sc_least_costs.nd rfl (Or.inl rfl)) pgs_nil))))
      (pss_cons (ps_set (i := 13) sc_least_costs.nd rfl (Or.inl rfl) (pe_tup (pa_cons (pe_op op_add (pv 11) (pe_callB (call_len_seqK K rfl) (by rfl) T.m_len (by decide +kernel) (pa_cons (pv 10) pa_nil))) (pa_cons (pe_op op_sub (pv 12) (pe_ix (ix_tupK K rfl) (pe_ix (ix_tupK K rfl) (pv 2) (pv 9) (fun _ _ => rfl)) pe_int (fun _ _ => rfl))) pa_nil))))
      (pss_one (ps_if (PW.pt (pw_or (pt_cmp (pc_dnotin (hu_of hr) (pv 9) (pv 4)) (by with_unfolding_all rfl)) (pw_or1 (pt_cmpR (op_ltTK K rfl (Nat.lt_of_succ_lt (hu_of hr))) (pv 13) (pe_dget (hu_of hr) (pv 4) (pv 9) (fun _ _ => rfl)) (nomark _))))) (pss_cons (ps_dput (hu_of hr) (pv 4) (pv 9) (pv 13) (by rfl))
      (pss_cons (ps_dput (hu_of hr) (pv 5) (pv 9) (pv 7) (by rfl))
      (pss_one (ps_set (i := 6) sc_least_costs.nd rfl (Or.inl rfl) pe_bl)))) pss_nil)))) pss_nil))))))
      (pss_one (ps_ret (pe_tup (pa_cons (pv 4) (pa_cons (pv 5) pa_nil)))))))))), ?_⟩
  refine ⟨_, rfl, r, _, rfl, SqT.of er, rfl, _, _, rfl, _, _, rfl, rfl, ?_⟩
  refine fun cd ncd => ?_
  have s1 := same_new (o := .dK []) ncd
  refine ⟨_, rfl, _, rfl, _, rfl, ha, _, _, _, rfl, rfl, SqT.of (s1 _ _ eh), atI_nat ex0, t0, _, _, _, rfl, rfl, SqT.of (s1 _ _ e01), atI_nat (j := 1) rfl, _, rfl, (by show 2 ≤ sizeLine; decide), fun t nt => ?_⟩
  have hcd1 := same_new (o := .tup [V.int 0, V.int (-hs[one].mom)]) nt _ _ (upd_same (H := H) (a := cd) (o := .dK []))
  refine ⟨hcd1, [(kN one, V.ref t)], rfl, (by show 1 ≤ 15; decide), ?_⟩
  have k1 := TK.dic (lvs := mergeK [] [(kN one, V.ref t)]) hcd1
  have ht : upd (upd (upd H cd (.dK [])) t (.tup [V.int 0, V.int (-hs[one].mom)])) cd (.dK (mergeK [] [(kN one, V.ref t)])) t = some (.tup [V.int 0, V.int (-hs[one].mom)]) := k1 _ _ upd_same
  have s2 : Same H (upd (upd (upd H cd (.dK [])) t (.tup [V.int 0, V.int (-hs[one].mom)])) cd (.dK (mergeK [] [(kN one, V.ref t)]))) := Same.own (s1.trans (same_new nt)) ncd
  refine fun ld nld => ?_
  have s3 := s2.trans (same_new (o := .dK []) nld)
  have cdld : cd ≠ ld := fun z => by rw [← z, upd_same] at nld; cases nld
  have ld0 : H ld = none := same_none s2 nld
  have L0 : LaOk hs bs one (cfI hs bs one 0) (fun _ => none) := ⟨(fun _ _ z => nomatch z), rfl, fun k c e => by
    by_cases z : k = one
    · exact .inl z
    · have e : none = some c := by rw [← e]; exact (if_neg z).symm
      cases e⟩
  have D0 : DC (upd (upd (upd (upd H cd (.dK [])) t (.tup [V.int 0, V.int (-hs[one].mom)])) cd (.dK (mergeK [] [(kN one, V.ref t)]))) ld (.dK [])) (mergeK [] [(kN one, V.ref t)]) (cfI hs bs one 0) := by
    have : DC (upd (upd (upd (upd H cd (.dK [])) t (.tup [V.int 0, V.int (-hs[one].mom)])) cd (.dK (mergeK [] [(kN one, V.ref t)]))) ld (.dK [])) [] (fun _ => none) := ⟨fun k => .inl ⟨rfl, rfl⟩, [], rfl, List.nodup_nil⟩
    exact this.put (k := one) (v := V.ref t) (c := (0, momH hs one)) ⟨t, rfl, by rw [mom1]; exact same_new nld _ _ ht⟩
  refine ⟨fun m σ H2 => ∃ (i : Nat) (ch : Bool) (kvs lvs : List (Key × V)) (la : Nat → Option Nat) (v7 v8 v9 v10 v11 v12 v13 : Option V), σ = [some (.ref r), some (nV one), some (.ref ha), some (.ref ba), some (.ref cd), some (.ref ld), some (.bl ch), v7, v8, v9, v10, v11, v12, v13] ∧ H2 cd = some (.dK kvs) ∧ DC H2 kvs (cfI hs bs one i) ∧ kvs.length ≤ 1 + 20 * i ∧ H2 ld = some (.dK lvs) ∧ lvs.length ≤ 20 * i ∧ (∀ k, valV lvs (kN k) = (la k).map nV) ∧ LaOk hs bs one (cfI hs bs one i) la ∧ cfI hs bs one i one = some (0, momH hs one) ∧ Same H H2 ∧ ((ch = true ∧ i ≤ hs.length ∧ m = hs.length + 1 - i) ∨ (ch = false ∧ Stab hs bs (cfI hs bs one i) ∧ m = 0)),
    ⟨_, 0, true, _, _, fun _ => none, _, _, _, _, _, _, _, rfl, same_new nld _ _ upd_same, D0, (by show 1 ≤ 1; decide), upd_same, (by show 0 ≤ 0; decide), (fun _ => rfl), L0, if_pos rfl, s3, .inl ⟨rfl, Nat.zero_le _, rfl⟩⟩, ?_⟩
  rintro m σ H2 ⟨i, ch, kvs, lvs, la, v7, v8, v9, v10, v11, v12, v13, rfl, hcd, dc, lk, hld, ll, dl, L, c1, s, flag⟩
  refine ⟨_, rfl, _, rfl, ?_⟩
  rcases flag with ⟨rfl, hi, rfl⟩ | ⟨rfl, st, rfl⟩
  · refine if_bl (fun _ => ?_) (fun z => nomatch z)
    refine ⟨_, fun σ' H' h => h, ?_⟩
    refine ⟨_, rfl, ba, bv, rfl, SqT.of (s _ _ eb), for_it (J := IteT K ba bv) (n := bv.length) (fun j σ H3 => ∃ (ch : Bool) (kvs lvs : List (Key × V)) (la : Nat → Option Nat) (v7 v8 v9 v10 v11 v12 v13 : Option V), σ = [some (.ref r), some (nV one), some (.ref ha), some (.ref ba), some (.ref cd), some (.ref ld), some (.bl ch), v7, v8, v9, v10, v11, v12, v13] ∧ H3 cd = some (.dK kvs) ∧ DC H3 kvs ((bs.take j).foldl (relax hs) (cfI hs bs one i)) ∧ kvs.length ≤ 1 + 20 * i + j ∧ H3 ld = some (.dK lvs) ∧ lvs.length ≤ 20 * i + j ∧ (∀ k, valV lvs (kN k) = (la k).map nV) ∧ LaOk hs bs one ((bs.take j).foldl (relax hs) (cfI hs bs one i)) la ∧ (bs.take j).foldl (relax hs) (cfI hs bs one i) one = some (0, momH hs one) ∧ Same H H3 ∧ (ch = false → (bs.take j).foldl (relax hs) (cfI hs bs one i) = cfI hs bs one i ∧ ∀ b ∈ bs.take j, ∀ c, cfI hs bs one i b.one = some c → ∃ d, cfI hs bs one i b.to = some d ∧ coLe d (coAdd hs c b)) ∧ (ch = true → ¬ Stab hs bs (cfI hs bs one i)))
      ⟨false, kvs, lvs, la, _, _, _, _, _, _, _, rfl, hcd, dc, by omega, hld, by omega, dl, L, c1, s, (fun _ => ⟨rfl, (fun _ z => nomatch z)⟩), (fun z => nomatch z)⟩ ?_ ?_ ?_ ?_⟩
    · rintro j σ H3 hj ⟨ch, kvs, lvs, la, v7, v8, v9, v10, v11, v12, v13, rfl, hcd, dc, lk, hld, ll, dl, L, c1, s, f1, f2⟩
      exact ⟨SqT.of (s _ _ eb), hj⟩
    · rintro σ H3 ⟨ch, kvs, lvs, la, v7, v8, v9, v10, v11, v12, v13, rfl, hcd, dc, lk, hld, ll, dl, L, c1, s, f1, f2⟩
      exact ⟨SqT.of (s _ _ eb), rfl⟩
    · rintro j x σ H3 H4 hj ⟨ch, kvs, lvs, la, v7, v8, v9, v10, v11, v12, v13, rfl, hcd, dc, lk, hld, ll, dl, L, c1, s, f1, f2⟩ ⟨tt, y, rfl, ntt, rfl, ey⟩
      obtain ⟨b, ebj, ⟨t2, g, rfl, e1, e2⟩⟩ := alb.getL ey
      have hb := List.mem_of_getElem? ebj
      have nx : (bs.take (j + 1)).foldl (relax hs) (cfI hs bs one i) = relax hs ((bs.take j).foldl (relax hs) (cfI hs bs one i)) b := by
        rw [List.take_add_one, ebj, List.foldl_append]; rfl
      have sound : Snd hs bs one ((bs.take j).foldl (relax hs) (cfI hs bs one i)) := Snd.fold (fun _ h => List.mem_of_mem_take h) (cfI_snd i)
      obtain ⟨cf, ecf⟩ : ∃ cf, cf = (bs.take j).foldl (relax hs) (cfI hs bs one i) := ⟨_, rfl⟩
      rw [← ecf] at dc L c1 f1 nx sound
      have s4 := s.trans (same_new (o := .tup [V.int ((j : Nat) : Int), V.ref t2]) ntt)
      have hcd4 := same_new (o := .tup [V.int ((j : Nat) : Int), V.ref t2]) ntt _ _ hcd
      have hld4 := same_new (o := .tup [V.int ((j : Nat) : Int), V.ref t2]) ntt _ _ hld
      have dc4 := dc.keep (TK.new (o := .tup [V.int ((j : Nat) : Int), V.ref t2]) ntt)
      refine ⟨tt, _, rfl, SqT.of upd_same, rfl, _, _, rfl, _, _, rfl, t2, _, rfl, SqT.of (s4 _ _ e1), rfl, _, _, rfl, _, _, rfl, _, _, rfl, rfl, rfl, ?_⟩
      -- nothing changes
      have idle : ∀ (v11 v12 v13 : Option V) (H5 : Hp), relax hs cf b = cf → (∀ c, cf b.one = some c → ∃ d, cf b.to = some d ∧ coLe d (coAdd hs c b)) → Same (upd H3 tt (.tup [V.int ((j : Nat) : Int), V.ref t2])) H5 → ∃ (ch' : Bool) (kvs' lvs' : List (Key × V)) (la' : Nat → Option Nat) (w7 w8 w9 w10 w11 w12 w13 : Option V), [some (.ref r), some (nV one), some (.ref ha), some (.ref ba), some (.ref cd), some (.ref ld), some (.bl ch), some (V.int ((j : Nat) : Int)), some (nV b.one), some (nV b.to), some (.ref g), v11, v12, v13] = [some (.ref r), some (nV one), some (.ref ha), some (.ref ba), some (.ref cd), some (.ref ld), some (.bl ch'), w7, w8, w9, w10, w11, w12, w13] ∧ H5 cd = some (.dK kvs') ∧ DC H5 kvs' ((bs.take (j + 1)).foldl (relax hs) (cfI hs bs one i)) ∧ kvs'.length ≤ 1 + 20 * i + (j + 1) ∧ H5 ld = some (.dK lvs') ∧ lvs'.length ≤ 20 * i + (j + 1) ∧ (∀ k, valV lvs' (kN k) = (la' k).map nV) ∧ LaOk hs bs one ((bs.take (j + 1)).foldl (relax hs) (cfI hs bs one i)) la' ∧ (bs.take (j + 1)).foldl (relax hs) (cfI hs bs one i) one = some (0, momH hs one) ∧ Same H H5 ∧ (ch' = false → (bs.take (j + 1)).foldl (relax hs) (cfI hs bs one i) = cfI hs bs one i ∧ ∀ b ∈ bs.take (j + 1), ∀ c, cfI hs bs one i b.one = some c → ∃ d, cfI hs bs one i b.to = some d ∧ coLe d (coAdd hs c b)) ∧ (ch' = true → ¬ Stab hs bs (cfI hs bs one i)) := fun v11 v12 v13 H5 er1 er2 s5 => by
        rw [er1] at nx
        rw [nx]
        refine ⟨ch, kvs, lvs, la, _, _, _, _, _, _, _, rfl, s5 _ _ hcd4, dc4.keep (TK.same s5), by omega, s5 _ _ hld4, by omega, dl, L, c1, s4.trans s5, fun z => ?_, f2⟩
        obtain ⟨g1, g2⟩ := f1 z
        refine ⟨g1, fun b' hb' => ?_⟩
        rw [List.take_add_one, ebj] at hb'
        rcases List.mem_append.mp hb' with hb' | hb'
        · exact g2 b' hb'
        · obtain rfl : b' = b := by simpa using hb'
          rw [← g1]
          exact er2
      rcases dc4.1 b.one with ⟨d1, d2⟩ | ⟨c, v, d1, d2, tc, rfl, htc⟩
      · refine ⟨_, rfl, _, rfl, cd, _, rfl, dget_of hcd4 d2, _, rfl, if_bl (fun z => nomatch z) (fun _ => ?_)⟩
        exact idle _ _ _ _ (relax_none d1) (fun c z => by rw [d1] at z; cases z) (Same.refl _)
      refine ⟨_, rfl, _, rfl, cd, _, rfl, dget_of hcd4 d2, _, rfl, if_bl (fun _ => ?_) (fun z => nomatch z)⟩
      have tb := hto b hb
      have eht : hs[b.to]? = some hs[b.to] := List.getElem?_eq_getElem tb
      have mom2 : momH hs b.to = hs[b.to].mom := by unfold momH; rw [eht]
      obtain ⟨x3, ex3, ⟨t3, r3, rfl, e31, e32⟩⟩ := alh.get eht
      refine ⟨_, rfl, _, rfl, cd, _, rfl, dget_of hcd4 d2, tc, _, rfl, SqT.of htc, rfl, _, _, rfl, _, _, rfl, rfl, ?_⟩
      refine ⟨_, rfl, _, rfl, g, _, rfl, .inr (SqT.of (s4 _ _ e2)), _, _, rfl, rfl, _, rfl, _, rfl, _, rfl, ha, _, _, _, rfl, rfl, SqT.of (s4 _ _ eh), atI_nat ex3, t3, _, _, _, rfl, rfl, SqT.of (s4 _ _ e31), atI_nat (j := 1) rfl, _, _, rfl, rfl, (by show 2 ≤ sizeLine; decide), fun tn ntn => ?_⟩
      have enew : [V.int (c.1 + (((b.th.map V.int).length : Nat) : Int)), V.int (-c.2 - hs[b.to].mom)] = [V.int (coAdd hs c b).1, V.int (-(coAdd hs c b).2)] := by
        unfold coAdd
        dsimp only
        rw [List.length_map, mom2, show -c.2 - hs[b.to].mom = -(c.2 + hs[b.to].mom) by omega]
      rw [enew]
      have s5 := same_new (o := .tup [V.int (coAdd hs c b).1, V.int (-(coAdd hs c b).2)]) ntn
      have hcd5 := s5 _ _ hcd4
      have hld5 := s5 _ _ hld4
      have dc5 := dc4.keep (TK.same s5)
      -- something changes
      have put : (∀ d, cf b.to = some d → coLt (coAdd hs c b) d) → (relax hs cf b = fun k => if k = b.to then some (coAdd hs c b) else cf k) → ∃ (ch' : Bool) (kvs' lvs' : List (Key × V)) (la' : Nat → Option Nat) (w7 w8 w9 w10 w11 w12 w13 : Option V), [some (.ref r), some (nV one), some (.ref ha), some (.ref ba), some (.ref cd), some (.ref ld), some (.bl true), some (V.int ((j : Nat) : Int)), some (nV b.one), some (nV b.to), some (.ref g), some (V.int c.1), some (V.int (-c.2)), some (.ref tn)] = [some (.ref r), some (nV one), some (.ref ha), some (.ref ba), some (.ref cd), some (.ref ld), some (.bl ch'), w7, w8, w9, w10, w11, w12, w13] ∧ (upd (upd (upd (upd H3 tt (.tup [V.int ((j : Nat) : Int), V.ref t2])) tn (.tup [V.int (coAdd hs c b).1, V.int (-(coAdd hs c b).2)])) cd (.dK (putK kvs (kN b.to) (V.ref tn)))) ld (.dK (putK lvs (kN b.to) (nV j)))) cd = some (.dK kvs') ∧ DC (upd (upd (upd (upd H3 tt (.tup [V.int ((j : Nat) : Int), V.ref t2])) tn (.tup [V.int (coAdd hs c b).1, V.int (-(coAdd hs c b).2)])) cd (.dK (putK kvs (kN b.to) (V.ref tn)))) ld (.dK (putK lvs (kN b.to) (nV j)))) kvs' ((bs.take (j + 1)).foldl (relax hs) (cfI hs bs one i)) ∧ kvs'.length ≤ 1 + 20 * i + (j + 1) ∧ (upd (upd (upd (upd H3 tt (.tup [V.int ((j : Nat) : Int), V.ref t2])) tn (.tup [V.int (coAdd hs c b).1, V.int (-(coAdd hs c b).2)])) cd (.dK (putK kvs (kN b.to) (V.ref tn)))) ld (.dK (putK lvs (kN b.to) (nV j)))) ld = some (.dK lvs') ∧ lvs'.length ≤ 20 * i + (j + 1) ∧ (∀ k, valV lvs' (kN k) = (la' k).map nV) ∧ LaOk hs bs one ((bs.take (j + 1)).foldl (relax hs) (cfI hs bs one i)) la' ∧ (bs.take (j + 1)).foldl (relax hs) (cfI hs bs one i) one = some (0, momH hs one) ∧ Same H (upd (upd (upd (upd H3 tt (.tup [V.int ((j : Nat) : Int), V.ref t2])) tn (.tup [V.int (coAdd hs c b).1, V.int (-(coAdd hs c b).2)])) cd (.dK (putK kvs (kN b.to) (V.ref tn)))) ld (.dK (putK lvs (kN b.to) (nV j)))) ∧ (ch' = false → (bs.take (j + 1)).foldl (relax hs) (cfI hs bs one i) = cfI hs bs one i ∧ ∀ b ∈ bs.take (j + 1), ∀ c, cfI hs bs one i b.one = some c → ∃ d, cfI hs bs one i b.to = some d ∧ coLe d (coAdd hs c b)) ∧ (ch' = true → ¬ Stab hs bs (cfI hs bs one i)) := fun l er1 => by
        rw [er1] at nx
        obtain ⟨L', ne1⟩ := L.put hrk sound c1 ebj d1 l
        rw [nx]
        have pl := putK_le kvs (kN b.to) (V.ref tn)
        have pl2 := putK_le lvs (kN b.to) (nV j)
        have hld6 : upd (upd (upd H3 tt (.tup [V.int ((j : Nat) : Int), V.ref t2])) tn (.tup [V.int (coAdd hs c b).1, V.int (-(coAdd hs c b).2)])) cd (.dK (putK kvs (kN b.to) (V.ref tn))) ld = some (.dK lvs) := by rw [upd_ne cdld.symm]; exact hld5
        refine ⟨true, putK kvs (kN b.to) (V.ref tn), putK lvs (kN b.to) (nV j), fun k => if k = b.to then some j else la k, _, _, _, _, _, _, _, rfl, by rw [upd_ne cdld, upd_same], ?_, by omega, upd_same, by omega, DL.put dl b.to j, L', (if_neg ne1.symm).trans c1, Same.own (Same.own (s4.trans s5) ncd) ld0, (fun z => nomatch z), fun _ stb => ?_⟩
        · exact ((dc5.put (k := b.to) ⟨tn, rfl, upd_same⟩).keep (TK.dic hcd5)).keep (TK.dic hld6)
        · -- the state ahead was not at rest
          have rest := stab_fold stb (l := bs.take j) fun x hx => List.mem_of_mem_take hx
          rw [rest] at ecf
          obtain ⟨d, y1, y2⟩ := stb b hb c (by rw [← ecf]; exact d1)
          exact absurd y2 (l d (by rw [ecf]; exact y1)).not_le
      rcases dc5.1 b.to with ⟨f3, f4⟩ | ⟨d, v, f3, f4, td, rfl, htd⟩
      · refine ⟨_, rfl, _, rfl, cd, _, rfl, dget_of hcd5 f4, _, rfl, if_bl (fun _ => if_bl (fun _ => ?_) (fun z => nomatch z)) (fun z => nomatch z)⟩
        refine ⟨_, rfl, _, rfl, _, rfl, cd, _, rfl, DPut.k (k := kN b.to) hcd5 (small1000 (by omega)), ?_⟩
        refine ⟨_, rfl, _, rfl, _, rfl, ld, _, rfl, DPut.k (k := kN b.to) (by rw [upd_ne cdld.symm]; exact hld5) (small1000 (by omega)), ?_⟩
        exact put (fun d z => by rw [f3] at z; cases z) (relax_new d1 f3)
      · refine ⟨_, rfl, _, rfl, cd, _, rfl, dget_of hcd5 f4, _, rfl, if_bl (fun z => nomatch z) (fun _ => ?_)⟩
        refine ⟨_, rfl, _, rfl, _, rfl, cd, _, rfl, dget_of hcd5 f4, tn, td, [(coAdd hs c b).1, -(coAdd hs c b).2], [d.1, -d.2], rfl, rfl, SqT.of upd_same, SqT.of htd, _, rfl, ?_⟩
        rw [lex_co]
        by_cases l : coLt (coAdd hs c b) d
        · rw [decide_eq_true l]
          refine if_bl (fun _ => ?_) (fun z => nomatch z)
          refine ⟨_, rfl, _, rfl, _, rfl, cd, _, rfl, DPut.k (k := kN b.to) hcd5 (small1000 (by omega)), ?_⟩
          refine ⟨_, rfl, _, rfl, _, rfl, ld, _, rfl, DPut.k (k := kN b.to) (by rw [upd_ne cdld.symm]; exact hld5) (small1000 (by omega)), ?_⟩
          exact put (fun d' z => by rw [f3] at z; cases z; exact l) (relax_lt d1 f3 l)
        · rw [decide_eq_false l]
          refine if_bl (fun z => nomatch z) (fun _ => ?_)
          exact idle _ _ _ _ (relax_ge d1 f3 l) (fun c' z => ⟨d, f3, by rw [d1] at z; cases z; exact coLe_of_not l⟩) s5
    · rintro σ H3 ⟨ch, kvs, lvs, la, v7, v8, v9, v10, v11, v12, v13, rfl, hcd, dc, lk, hld, ll, dl, L, c1, s, f1, f2⟩
      rw [lbv, List.take_length] at dc L c1 f1
      cases ch with
      | false =>
        obtain ⟨g1, g2⟩ := f1 rfl
        refine ⟨0, by omega, i + 1, false, kvs, lvs, la, _, _, _, _, _, _, _, rfl, hcd, dc, by omega, hld, by omega, dl, L, c1, s, .inr ⟨rfl, ?_, rfl⟩⟩
        show Stab hs bs (bs.foldl (relax hs) (cfI hs bs one i))
        rw [g1]
        exact g2
      | true =>
        have := f2 rfl
        have il : i < hs.length := by
          refine Nat.lt_of_not_le fun z => this (stab_at hrk hto ho z)
        exact ⟨hs.length + 1 - (i + 1), by omega, i + 1, true, kvs, lvs, la, _, _, _, _, _, _, _, rfl, hcd, dc, by omega, hld, by omega, dl, L, c1, s, .inl ⟨rfl, by omega, rfl⟩⟩
  · refine if_bl (fun z => nomatch z) (fun _ => ?_)
    have eb2 := cfI_best hrk hto ho st
    rw [eb2] at dc L
    refine ⟨_, rfl, _, rfl, (by show 2 ≤ sizeLine; decide), fun p np => ?_⟩
    exact q p cd ld kvs lvs la _ upd_same cdld (same_new np _ _ hcd) (dc.keep (TK.new np)) (same_new np _ _ hld) dl L (s.trans (same_new np))
end
theorem wayCo_cons {hs : List HR} {bs : List BR} {k n : Nat} {ns : List Nat} {b : BR} (eb : bs[n]? = some b) : ((n :: ns).map (trB bs)).sum = (b.th.length : Int) + (ns.map (trB bs)).sum ∧ ((n :: ns).map fun n => momH hs (toB bs n)).sum = momH hs b.to + (ns.map fun n => momH hs (toB bs n)).sum := by
  have h1 : trB bs n = (b.th.length : Int) := by unfold trB; rw [eb]
  have h2 : toB bs n = b.to := by unfold toB; rw [eb]
  rw [List.map_cons, List.map_cons, List.sum_cons, List.sum_cons, h1, h2]
  exact ⟨rfl, rfl⟩
/-- what least_costs tells -/
structure Told (hs : List HR) (bs : List BR) (one : Nat) (H : Hp) (ld : Addr) (lvs : List (Key × V)) (la : Nat → Option Nat) : Prop where
  dic : H ld = some (.dK lvs)
  dl : ∀ k, valV lvs (kN k) = (la k).map nV
  la : LaOk hs bs one (best hs bs one) la
theorem best_lt {hs : List HR} {bs : List BR} {one k : Nat} {c : Co} (hto : ∀ b ∈ bs, b.to < hs.length) (ho : one < hs.length) (h : best hs bs one k = some c) : k < hs.length := by
  obtain ⟨ns, w1, _⟩ := cfI_snd _ k c h
  exact way_lt hto ho w1
theorem best_one {hs : List HR} {bs : List BR} {rk : Nat → Int} {one : Nat} (hrk : ∀ b ∈ bs, b.th = [] → rk b.one < rk b.to) : best hs bs one one = some (0, momH hs one) := by
  obtain ⟨c, h1, h2⟩ := cfI_cpl (hs := hs) (bs := bs) hs.length [] one (Nat.zero_le _) rfl
  obtain ⟨ns, w1, w2⟩ := cfI_snd _ one c h1
  rw [wayCo_nil] at h2
  have : c = (0, momH hs one) := by
    by_cases e : ns = []
    · rw [← w2, e, wayCo_nil]
    · have t := way_closed hrk w1 e
      have t2 : c.1 = (ns.map (trB bs)).sum := by rw [← w2]; rfl
      unfold coLe at h2
      dsimp only at h2
      omega
  show cfI hs bs one hs.length one = _
  rw [h1, this]
theorem mom_le {hs : List HR} (good : ∀ h ∈ hs, GoodHand h) (k : Nat) : momH hs k ≤ 30 := by
  unfold momH
  cases e : hs[k]? with
  | none => exact (by decide)
  | some h => exact (good h (List.mem_of_getElem? e)).2.2
section
variable {P : Program} {w : World} {K : PySem.W.Frag} {mg : Str → Option Value} {base : Heap}
def sp_way_back (K : PySem.W.Frag) : Sp := fun vs H Q _ => ∃ (r ld : Addr) (hs : List HR) (bs : List BR) (one e : Nat) (c : Co) (lvs : List (Key × V)) (la : Nat → Option Nat), vs = [.ref r, nV e, .ref ld] ∧ RoomAt H r hs bs ∧ RoomOk hs bs ∧ one < hs.length ∧ Told hs bs one H ld lvs la ∧ best hs bs one e = some c ∧
  ∀ (p : Addr) (ns : List Nat) (H' : Hp), PairAt H' p one ns → wayEnd bs one ns = some e → wayCo hs bs one ns = c → ns.length ≤ hs.length → Same H H' → Q (.ref p) H'
theorem ok_way_back {f : Addr} {fd : FuncData} (F : Fun K "way_back" "way_back" s_way_back f fd) (T : Top K mg) : FnOk P w K mg base CX0 1 f fd ["room", "end", "last"] (sp_way_back K) := by
  refine F.ok sc_way_back (fun vs H Q E h => ?_) (fun cdv A outer s H vs Q E hr h => ?_)
  · obtain ⟨r, ld, hs, bs, one, e, c, lvs, la, rfl, _⟩ := h
    rfl
  obtain ⟨r, ld, hs, bs, one, e, ce, lvs, la, rfl, hR, ok, ho, ⟨hld, dl, L⟩, he, q⟩ := h
  obtain ⟨ha, ba, hv, bv, er, eh, eb, alh, alb⟩ := hR.ex
  have lh := ok.hands
  obtain ⟨rk, hrk⟩ := ok.rank
  have hto : ∀ b ∈ bs, b.to < hs.length := fun b hb => (ok.ends b hb).2
  have stb := stab_at (hs := hs) hrk hto ho (Nat.le_refl _)
  refine ⟨_, (pss_cons (ps_set (i := 3) sc_way_back.nd rfl (Or.inl rfl) (pe_lst pa_nil))
      (pss_cons (ps_set (i := 4) sc_way_back.nd rfl (Or.inl rfl) (pv 1))
      (pss_cons (ps_while PassesOwn.never (pt_cmp (pc_din (hu_of hr) (pv 4) (pv 2)) (by with_unfolding_all rfl))
        (pss_cons (ps_expr (pe_bmK K rfl PySem.F.plainAttrs_list PySem.F.slot_list_append PySem.F.type_list_append mt_append (pv 3) (pa_cons (pe_dget (hu_of hr) (pv 2) (pv 4) (fun _ _ => rfl)) pa_nil)))
      (pss_one (ps_set (i := 4) sc_way_back.nd rfl (Or.inl rfl) (pe_ix (ix_tupK K rfl) (pe_ix (ix_tupK K rfl) (pe_ix (ix_tupK K rfl) (pv 0) pe_int (fun _ _ => rfl)) (pe_dget (hu_of hr) (pv 2) (pv 4) (fun _ _ => rfl)) (fun _ _ => rfl)) pe_int (fun _ _ => rfl))))))
      (pss_one (ps_ret (pe_tup (pa_cons (pv 4) (pa_cons (pe_callTy (call_tuple_ofK K rfl) (by rfl) T.m_tuple (by decide +kernel) (pa_cons (pe_revLK K rfl (pv 3)) pa_nil)) pa_nil)))))))), ?_⟩
  refine ⟨(by show 0 ≤ sizeLine; decide), fun nl nnl => ?_⟩
  refine ⟨_, rfl, ?_⟩
  refine ⟨fun m σ H2 => ∃ (k : Nat) (ns : List Nat) (c : Co), σ = [some (.ref r), some (nV e), some (.ref ld), some (.ref nl), some (nV k)] ∧ H2 nl = some (.lst (ns.reverse.map nV)) ∧ wayEnd bs k ns = some e ∧ best hs bs one k = some c ∧ c.1 + (ns.map (trB bs)).sum = ce.1 ∧ c.2 + (ns.map fun n => momH hs (toB bs n)).sum = ce.2 ∧ ns.length + m ≤ hs.length ∧ m = meas rk (best hs bs one) hs.length k ∧ Same H H2,
    ⟨_, e, [], ce, rfl, upd_same, rfl, he, by show ce.1 + 0 = ce.1; omega, by show ce.2 + 0 = ce.2; omega, by show 0 + _ ≤ _; have := meas_le (rk := rk) (cf := best hs bs one) (n := hs.length) (k := e); omega, rfl, same_new nnl⟩, ?_⟩
  rintro m σ H2 ⟨k, ns, c, rfl, hnl, we, hk, t1, t2, ln, rfl, s2⟩
  refine ⟨_, rfl, _, rfl, ld, _, rfl, dget_of (s2 _ _ hld) (dl k), _, rfl, ?_⟩
  cases elk : la k with
  | none =>
    refine if_bl (fun z => nomatch z) (fun _ => ?_)
    have k1 : k = one := by
      rcases L.has k c hk with z | z
      · exact z
      · rw [elk] at z; cases z
    subst k1
    rw [best_one hrk] at hk
    cases hk
    refine ⟨_, rfl, _, rfl, nl, _, rfl, SqL.of hnl, fun l2 nl2 => ⟨l2, _, rfl, .inl ⟨SqL.of upd_same, fun p np => ⟨(by show 2 ≤ sizeLine; decide), fun p2 np2 => ?_⟩⟩⟩⟩
    refine q p2 ns _ ⟨p, upd_same, ?_⟩ we ?_ (by omega) (((s2.trans (same_new nl2)).trans (same_new np)).trans (same_new np2))
    · rw [same_new np2 _ _ upd_same, ← List.map_reverse, List.reverse_reverse]
    · refine Prod.ext ?_ ?_
      · show (ns.map (trB bs)).sum = ce.1
        omega
      · show momH hs k + _ = ce.2
        omega
  | some n =>
    refine if_bl (fun _ => ?_) (fun z => nomatch z)
    obtain ⟨b, c', d, ebn, ebt, h1, h2, h3⟩ := L.go k n elk
    have hb := List.mem_of_getElem? ebn
    rw [hk] at h2
    cases h2
    obtain ⟨d', h4, h5⟩ := stb b hb c' h1
    rw [ebt] at h4
    have h4 : best hs bs one k = some d' := h4
    rw [hk] at h4
    cases h4
    have ec := h5.antisymm h3
    have dn : valV lvs (kN k) = some (nV n) := by rw [dl k, elk]; rfl
    have lt := meas_lt (n := hs.length) (best_lt hto ho h1) (last_lt hrk (mom_le ok.good) hb ebt h1 hk h3)
    refine ⟨_, fun σ' H' h => h, ?_⟩
    refine ⟨_, rfl, .inl ⟨rfl, _, SqL.of hnl⟩, _, rfl, _, rfl, ld, _, rfl, dget_of (s2 _ _ hld) dn, nl, _, _, rfl, rfl, hnl, by rw [List.length_map, List.length_reverse]; exact small1000 (by omega), ?_⟩
    have s3 : Same H (upd H2 nl (.lst (ns.reverse.map nV ++ [nV n]))) := Same.own s2 nnl
    obtain ⟨x, ex, ⟨t2', g2, rfl, e1, e2⟩⟩ := alb.get ebn
    refine ⟨_, rfl, r, _, _, _, rfl, rfl, SqT.of (s3 _ _ er), atI_nat (j := 1) rfl, _, rfl, _, rfl, ld, _, rfl, dget_of (s3 _ _ hld) dn, ba, _, _, _, rfl, rfl, SqT.of (s3 _ _ eb), atI_nat ex, t2', _, _, _, rfl, rfl, SqT.of (s3 _ _ e1), atI_nat (j := 0) rfl, ?_⟩
    obtain ⟨w1, w2⟩ := wayCo_cons (hs := hs) (k := k) (ns := ns) ebn
    have ec1 : c.1 = c'.1 + (b.th.length : Int) := by rw [ec]; rfl
    have ec2 : c.2 = c'.2 + momH hs b.to := by rw [ec]; rfl
    refine ⟨_, lt, b.one, n :: ns, c', rfl, ?_, ?_, h1, by rw [w1]; omega, by rw [w2]; omega, by rw [List.length_cons]; omega, rfl, s3⟩
    · rw [upd_same, List.reverse_cons, List.map_append]; rfl
    · rw [wayEnd_cons ebn, if_pos rfl, ebt]; exact we
end
/-- the hands whose rule is this door's -/
def doorsOf (z : Str) (hs : List HR) : List Nat := (List.range hs.length).filter fun i => decide (hs[i]?.map HR.wd = some z)
theorem mem_doors {z : Str} {hs : List HR} {k : Nat} : k ∈ doorsOf z hs ↔ ∃ h, hs[k]? = some h ∧ h.wd = z := by
  unfold doorsOf
  rw [List.mem_filter, List.mem_range, decide_eq_true_eq]
  constructor
  · rintro ⟨a, b⟩
    rw [List.getElem?_eq_getElem a] at b
    exact ⟨_, List.getElem?_eq_getElem a, Option.some.inj b⟩
  · rintro ⟨h, a, b⟩
    refine ⟨(List.getElem?_eq_some_iff.mp a).1, ?_⟩
    rw [a, ← b]
    rfl
theorem doors_nodup {z : Str} {hs : List HR} : (doorsOf z hs).Nodup := List.nodup_range.filter _
theorem doors_len {z : Str} {hs : List HR} : (doorsOf z hs).length ≤ hs.length := by
  refine Nat.le_trans (List.length_filter_le ..) ?_
  rw [List.length_range]
  exact Nat.le_refl _
abbrev gD (m : List Int) (k : Nat) : Int := m.getD k 0
section
variable {P : Program} {w : World} {K : PySem.W.Frag} {mg : Str → Option Value} {base : Heap}
def sp_doors (z : Str) : Sp := fun vs H Q _ => ∃ (r : Addr) (hs : List HR) (bs : List BR), vs = [.ref r] ∧ RoomAt H r hs bs ∧ hs.length ≤ 400 ∧ (∀ h ∈ hs, GoodHand h) ∧ ∀ (p : Addr) (H' : Hp), H p = none → H' p = some (.lst ((doorsOf z hs).map nV)) → Same H H' → Q (.ref p) H'
abbrev sp_doors_in (K : PySem.W.Frag) : Sp := sp_doors "in"
abbrev sp_doors_out (K : PySem.W.Frag) : Sp := sp_doors "out"
theorem ok_doors_in {f : Addr} {fd : FuncData} (F : Fun K "doors_in" "doors_in" s_doors_in f fd) (T : Top K mg) : FnOk P w K mg base CX0 1 f fd ["room"] (sp_doors_in K) := by
  refine F.ok sc_doors_in (fun vs H Q E h => ?_) (fun cdv A outer s H vs Q E hr h => ?_)
  · obtain ⟨r, hs, bs, rfl, _⟩ := h
    rfl
  obtain ⟨aI, mI, hI⟩ := T.x_in
  obtain ⟨r, hs, bs, rfl, hR, lb, good, q⟩ := h
  obtain ⟨ha, ba, hv, bv, er, eh, eb, alh, alb⟩ := hR.ex
  have lhv := alh.length
  refine ⟨_, (pss_one (ps_ret (pe_lc (own := [("number", 1), ("hand", 2)]) (g := gTup K 2 (gCons (gName 1) (gCons (gName 2) gNil))) (by rfl) sc_doors_in.nd (pi_enumT K rfl (by rfl) T.m_enumerate (pa_cons (pe_ix (ix_tupK K rfl) (pv 0) pe_int (fun _ _ => rfl)) pa_nil)) (blkOk_by (own := [("number", 1), ("hand", 2)]) (N := N_doors_in) (sc := defScope s_doors_in) (by decide +kernel)) (fun _ _ _ _ _ => (pg_tupK K rfl rfl (pgs_cons (pg_name (i := 1) sc_doors_in.nd rfl (Or.inl rfl)) (pgs_cons (pg_name (i := 2) sc_doors_in.nd rfl (Or.inl rfl)) pgs_nil)))) (fun _ _ _ _ _ => pts_one (pt_cmpR (op_eqDK K rfl hr.units) (pe_ix (ix_tupK K rfl) (pv 2) pe_int (fun _ _ => rfl)) (pe_glob (v := .ref aI) (by rfl) mI rfl) (nomark _))) (fun _ _ _ _ _ => (pv 1))))), ?_⟩
  refine ⟨_, rfl, r, _, _, _, rfl, rfl, SqT.of er, atI_nat (j := 0) rfl, ha, hv, rfl, SqT.of eh, fun D nD => lc_it (J := IteT K ha hv) (n := hv.length) (fun i H5 => H5 D = some (.lst (((List.range i).filter fun j => decide (hs[j]?.map HR.wd = some ("in" : Str))).map nV)) ∧ Same H H5) ⟨upd_same, same_new nD⟩ ?_ ?_ ?_ ?_⟩
  · rintro i H5 hi ⟨hD, s5⟩
    exact ⟨SqT.of (s5 _ _ eh), hi⟩
  · rintro H5 ⟨hD, s5⟩
    exact ⟨SqT.of (s5 _ _ eh), rfl⟩
  · rintro i x H5 H6 hi ⟨hD, s5⟩ ⟨t, y, rfl, nt, rfl, ey⟩
    obtain ⟨hh, eb2, ⟨t2, g, rfl, e1, e2⟩⟩ := alh.getL ey
    have gh := good _ (List.mem_of_getElem? eb2)
    have s6 := s5.trans (same_new (o := .tup [V.int ((i : Nat) : Int), V.ref t2]) nt)
    have hD6 := same_new (o := .tup [V.int ((i : Nat) : Int), V.ref t2]) nt _ _ hD
    have few := filt_len (p := fun j => decide (hs[j]?.map HR.wd = some ("in" : Str))) i
    refine ⟨t, _, rfl, SqT.of upd_same, rfl, _, _, rfl, _, _, rfl, rfl, rfl, _, rfl, t2, _, _, _, rfl, rfl, SqT.of (s6 _ _ e1), atI_nat (j := 0) rfl, ?_⟩
    refine ⟨_, _, rule_dp (s6 _ _ e2), .tup (hI _) (.cons (.str _) .nil), rule_shaped gh.lay, one_shaped (by decide +kernel), _, rfl, ?_⟩
    rw [rule_eqv, gh.door "in" (.inl rfl)]
    by_cases c : hh.wd = "in"
    · rw [decide_eq_true c]
      refine if_bl (fun _ => ⟨_, rfl, _, hD6, by rw [List.length_map]; exact small1000 (by omega), ?_, Same.own s6 nD⟩) (fun z => nomatch z)
      rw [upd_same, filt_succ, if_pos (decide_eq_true (by rw [eb2, ← c]; rfl)), List.map_append]
      rfl
    · rw [decide_eq_false c]
      refine if_bl (fun z => nomatch z) (fun _ => ⟨?_, s6⟩)
      rw [filt_succ, if_neg fun z => c (by have := of_decide_eq_true z; rw [eb2] at this; exact Option.some.inj this), List.append_nil]
      exact hD6
  · rintro H5 ⟨hD, s5⟩
    refine q D H5 nD ?_ s5
    rw [hD, lhv]
    rfl
end
section
variable {P : Program} {w : World} {K : PySem.W.Frag} {mg : Str → Option Value} {base : Heap}
theorem ok_doors_out {f : Addr} {fd : FuncData} (F : Fun K "doors_out" "doors_out" s_doors_out f fd) (T : Top K mg) : FnOk P w K mg base CX0 1 f fd ["room"] (sp_doors_out K) := by
  refine F.ok sc_doors_out (fun vs H Q E h => ?_) (fun cdv A outer s H vs Q E hr h => ?_)
  · obtain ⟨r, hs, bs, rfl, _⟩ := h
    rfl
  obtain ⟨aO, mO, hI⟩ := T.x_out
  obtain ⟨r, hs, bs, rfl, hR, lb, good, q⟩ := h
  obtain ⟨ha, ba, hv, bv, er, eh, eb, alh, alb⟩ := hR.ex
  have lhv := alh.length
  refine ⟨_, (pss_one (ps_ret (pe_lc (own := [("number", 1), ("hand", 2)]) (g := gTup K 2 (gCons (gName 1) (gCons (gName 2) gNil))) (by rfl) sc_doors_out.nd (pi_enumT K rfl (by rfl) T.m_enumerate (pa_cons (pe_ix (ix_tupK K rfl) (pv 0) pe_int (fun _ _ => rfl)) pa_nil)) (blkOk_by (own := [("number", 1), ("hand", 2)]) (N := N_doors_out) (sc := defScope s_doors_out) (by decide +kernel)) (fun _ _ _ _ _ => (pg_tupK K rfl rfl (pgs_cons (pg_name (i := 1) sc_doors_out.nd rfl (Or.inl rfl)) (pgs_cons (pg_name (i := 2) sc_doors_out.nd rfl (Or.inl rfl)) pgs_nil)))) (fun _ _ _ _ _ => pts_one (pt_cmpR (op_eqDK K rfl hr.units) (pe_ix (ix_tupK K rfl) (pv 2) pe_int (fun _ _ => rfl)) (pe_glob (v := .ref aO) (by rfl) mO rfl) (nomark _))) (fun _ _ _ _ _ => (pv 1))))), ?_⟩
  refine ⟨_, rfl, r, _, _, _, rfl, rfl, SqT.of er, atI_nat (j := 0) rfl, ha, hv, rfl, SqT.of eh, fun D nD => lc_it (J := IteT K ha hv) (n := hv.length) (fun i H5 => H5 D = some (.lst (((List.range i).filter fun j => decide (hs[j]?.map HR.wd = some ("out" : Str))).map nV)) ∧ Same H H5) ⟨upd_same, same_new nD⟩ ?_ ?_ ?_ ?_⟩
  · rintro i H5 hi ⟨hD, s5⟩
    exact ⟨SqT.of (s5 _ _ eh), hi⟩
  · rintro H5 ⟨hD, s5⟩
    exact ⟨SqT.of (s5 _ _ eh), rfl⟩
  · rintro i x H5 H6 hi ⟨hD, s5⟩ ⟨t, y, rfl, nt, rfl, ey⟩
    obtain ⟨hh, eb2, ⟨t2, g, rfl, e1, e2⟩⟩ := alh.getL ey
    have gh := good _ (List.mem_of_getElem? eb2)
    have s6 := s5.trans (same_new (o := .tup [V.int ((i : Nat) : Int), V.ref t2]) nt)
    have hD6 := same_new (o := .tup [V.int ((i : Nat) : Int), V.ref t2]) nt _ _ hD
    have few := filt_len (p := fun j => decide (hs[j]?.map HR.wd = some ("out" : Str))) i
    refine ⟨t, _, rfl, SqT.of upd_same, rfl, _, _, rfl, _, _, rfl, rfl, rfl, _, rfl, t2, _, _, _, rfl, rfl, SqT.of (s6 _ _ e1), atI_nat (j := 0) rfl, ?_⟩
    refine ⟨_, _, rule_dp (s6 _ _ e2), .tup (hI _) (.cons (.str _) .nil), rule_shaped gh.lay, one_shaped (by decide +kernel), _, rfl, ?_⟩
    rw [rule_eqv, gh.door "out" (.inr rfl)]
    by_cases c : hh.wd = "out"
    · rw [decide_eq_true c]
      refine if_bl (fun _ => ⟨_, rfl, _, hD6, by rw [List.length_map]; exact small1000 (by omega), ?_, Same.own s6 nD⟩) (fun z => nomatch z)
      rw [upd_same, filt_succ, if_pos (decide_eq_true (by rw [eb2, ← c]; rfl)), List.map_append]
      rfl
    · rw [decide_eq_false c]
      refine if_bl (fun z => nomatch z) (fun _ => ⟨?_, s6⟩)
      rw [filt_succ, if_neg fun z => c (by have := of_decide_eq_true z; rw [eb2] at this; exact Option.some.inj this), List.append_nil]
      exact hD6
  · rintro H5 ⟨hD, s5⟩
    refine q D H5 nD ?_ s5
    rw [hD, lhv]
    rfl
end
structure Wy where
  one : Nat
  c : Co
  ns : List Nat
  e : Nat
def WyAt (H : Hp) (v : V) (y : Wy) : Prop := ∃ t p : Addr, v = .ref t ∧ H t = some (.tup [.int y.c.1, .int y.c.2, .ref p, nV y.e]) ∧ PairAt H p y.one y.ns
theorem WyAt.keep {H H' : Hp} {v : V} {y : Wy} (h : WyAt H v y) (k : TK H H') : WyAt H' v y := by
  obtain ⟨t, p, e, h1, h2⟩ := h
  exact ⟨t, p, e, k _ _ h1, h2.keep k⟩
structure WyOk (hs : List HR) (bs : List BR) (y : Wy) : Prop where
  lt : y.one < hs.length
  b : best hs bs y.one y.e = some y.c
  we : wayEnd bs y.one y.ns = some y.e
  wc : wayCo hs bs y.one y.ns = y.c
  ln : y.ns.length ≤ hs.length
structure AllWays (hs : List HR) (bs : List BR) (ys : List Wy) : Prop where
  ok : ∀ y ∈ ys, WyOk hs bs y
  all : ∀ one e c, one < hs.length → best hs bs one e = some c → ∃ y ∈ ys, y.one = one ∧ y.e = e
  few : ys.length ≤ 144
theorem TK.frz {H : Hp} {p : Addr} {o : Obj} {kvs : List (Key × V)} (h : H p = some (.dK kvs)) : TK H (upd H p (.frz o (.dK kvs))) := fun x zs e => by
  rw [upd_ne (ne_of e h (fun z => nomatch z))]
  exact e
theorem TK.unfrz {H : Hp} {p : Addr} {o : Obj} {kvs : List (Key × V)} (h : H p = some (.frz o (.dK kvs))) : TK H (upd H p (.dK kvs)) := fun x zs e => by
  rw [upd_ne (ne_of e h (fun z => nomatch z))]
  exact e
section
variable {P : Program} {w : World} {K : PySem.W.Frag} {mg : Str → Option Value} {base : Heap}
def sp_least_ways (K : PySem.W.Frag) : Sp := fun vs H Q _ => ∃ (r : Addr) (hs : List HR) (bs : List BR), vs = [.ref r] ∧ RoomAt H r hs bs ∧ RoomOk hs bs ∧
  ∀ (p : Addr) (yv : List V) (ys : List Wy) (H' : Hp), H p = none → H' p = some (.lst yv) → All2 (WyAt H') yv ys → AllWays hs bs ys → Same H H' → Q (.ref p) H'
theorem ok_least_ways {f : Addr} {fd : FuncData} (F : Fun K "least_ways" "least_ways" s_least_ways f fd) (T : Top K mg) : FnOk P w K mg base CX0 2 f fd ["room"] (sp_least_ways K) := by
  obtain ⟨f_least_costs, fd_least_costs, F_least_costs, b_least_costs, m_least_costs⟩ := T.d_least_costs
  have G_least_costs := ok_least_costs (P := P) (w := w) (base := base) F_least_costs T
  obtain ⟨f_way_back, fd_way_back, F_way_back, b_way_back, m_way_back⟩ := T.d_way_back
  have G_way_back := ok_way_back (P := P) (w := w) (base := base) F_way_back T
  refine F.ok sc_least_ways (fun vs H Q E h => ?_) (fun cdv A outer s H vs Q E hr h => ?_)
  · obtain ⟨r, hs, bs, rfl, _⟩ := h
    rfl
  obtain ⟨r, hs, bs, rfl, hR, ok, q⟩ := h
  obtain ⟨ha, ba, hv, bv, er, eh, eb, alh, alb⟩ := hR.ex
  have lhv := alh.length
  have lh := ok.hands
  have hto : ∀ b ∈ bs, b.to < hs.length := fun b hb => (ok.ends b hb).2
  refine ⟨_, (pss_cons (ps_set (i := 1) sc_least_ways.nd rfl (Or.inl rfl) (pe_lst pa_nil))
      (pss_cons (ps_for PassesOwn.never rfl (pi_range1 (by rfl) T.m_range (pa_cons (pe_callB (call_len_seqK K rfl) (by rfl) T.m_len (by decide +kernel) (pa_cons (pe_ix (ix_tupK K rfl) (pv 0) pe_int (fun _ _ => rfl)) pa_nil)) pa_nil)) (pg_name (i := 2) sc_least_ways.nd rfl (Or.inl rfl))
        (pss_cons (ps_asg (pe_call G_least_costs (hr.mono (by decide)) (by rfl) m_least_costs F_least_costs.kp b_least_costs .nil pass0 (pa_cons (pv 0) (pa_cons (pv 2) pa_nil))) (pg_tupK K rfl rfl (pgs_cons (pg_name (i := 3) sc_least_ways.nd rfl (Or.inl rfl)) (pgs_cons (pg_name (i := 4) sc_least_ways.nd rfl (Or.inl rfl)) pgs_nil))))
      (pss_one (ps_lock (ps_for PassesOwn.never rfl (pi_keys (pv 3)) (pg_name (i := 5) sc_least_ways.nd rfl (Or.inl rfl))
        (pss_cons (ps_asg (pe_dget (hu_of hr) (pv 3) (pv 5) (fun _ _ => rfl)) (pg_tupK K rfl rfl (pgs_cons (pg_name (i := 6) sc_least_ways.nd rfl (Or.inl rfl)) (pgs_cons (pg_name (i := 7) sc_least_ways.nd rfl (Or.inl rfl)) pgs_nil))))
      (pss_one (ps_expr (pe_bmK K rfl PySem.F.plainAttrs_list PySem.F.slot_list_append PySem.F.type_list_append mt_append (pv 1) (pa_cons (pe_tup (pa_cons (pv 6) (pa_cons (pe_un un_neg (pv 7)) (pa_cons (pe_call G_way_back (hr.mono (by decide)) (by rfl) m_way_back F_way_back.kp b_way_back .nil pass0 (pa_cons (pv 0) (pa_cons (pv 5) (pa_cons (pv 4) pa_nil)))) (pa_cons (pv 5) pa_nil))))) pa_nil))))))))))
      (pss_one (ps_ret (pv 1))))), ?_⟩
  refine ⟨(by show 0 ≤ sizeLine; decide), fun fl nfl => ?_⟩
  have s0 := same_new (o := .lst []) nfl
  refine ⟨_, rfl, r, _, _, _, rfl, rfl, SqT.of (s0 _ _ er), atI_nat (j := 0) rfl, ha, _, rfl, .inr (SqT.of (s0 _ _ eh)), _, rfl, by omega, by omega, for_range (lo := 0) (n := hv.length) (fun i σ H2 => ∃ (yv : List V) (ys : List Wy) (v2 v3 v4 v5 v6 v7 : Option V), σ = [some (.ref r), some (.ref fl), v2, v3, v4, v5, v6, v7] ∧ H2 fl = some (.lst yv) ∧ All2 (WyAt H2) yv ys ∧ (∀ y ∈ ys, WyOk hs bs y) ∧ (∀ one e c, one < i → best hs bs one e = some c → ∃ y ∈ ys, y.one = one ∧ y.e = e) ∧ ys.length ≤ 12 * i ∧ Same H H2)
    ⟨[], [], _, _, _, _, _, _, rfl, upd_same, .nil, (fun _ z => nomatch z), (fun _ _ _ z => absurd z (Nat.not_lt_zero _)), Nat.le_refl _, s0⟩ ?_ ?_⟩
  · rintro i σ H2 hi ⟨yv, ys, v2, v3, v4, v5, v6, v7, rfl, hfl, aly, oky, ally, lys, s2⟩
    have ho : i < hs.length := by omega
    refine ⟨_, rfl, _, rfl, r, hs, bs, i, (by show [V.ref r, V.int (0 + ((i : Nat) : Int))] = _; rw [Int.zero_add]), hR.keep (TK.same s2), ok, ho, fun p cd ld kvs lvs la H3 hp cdld hcd dc hld dl L s3 => ?_⟩
    refine ⟨p, _, rfl, SqT.of hp, rfl, _, _, rfl, _, _, rfl, rfl, ?_⟩
    have s03 := s2.trans s3
    have hfl3 := s3 _ _ hfl
    have flcd : fl ≠ cd := ne_of hfl3 hcd (fun z => nomatch z)
    obtain ⟨ks, eks, ndk⟩ := dc.2
    have lkv : kvs.length = ks.length := by
      have := congrArg List.length eks
      rw [List.length_map, List.length_map] at this
      exact this
    -- each key is a hand that is come to
    have keyv : ∀ (j : Nat) (kv : Key × V), kvs[j]? = some kv → ∃ (e : Nat) (c : Co) (t : Addr), kv.1 = kN e ∧ ks[j]? = some e ∧ best hs bs i e = some c ∧ valV kvs (kN e) = some (V.ref t) ∧ H3 t = some (.tup [.int c.1, .int (-c.2)]) := fun j kv ej => by
      have e1 : (kvs.map Prod.fst)[j]? = some kv.1 := by rw [List.getElem?_map, ej]; rfl
      rw [eks, List.getElem?_map] at e1
      cases ek : ks[j]? with
      | none => rw [ek] at e1; cases e1
      | some e =>
        rw [ek] at e1
        have e1 : kN e = kv.1 := Option.some.inj e1
        have isS : (valV kvs (kN e)).isSome = true := by
          rw [← valV_any (kN e) kvs]
          exact List.any_eq_true.mpr ⟨kv, List.mem_of_getElem? ej, decide_eq_true e1.symm⟩
        rcases dc.1 e with ⟨_, d2⟩ | ⟨c, v, d1, d2, t, rfl, ht⟩
        · rw [d2] at isS; cases isS
        · exact ⟨e, c, t, e1.symm, rfl, d1, d2, ht⟩
    have few : kvs.length ≤ 12 := by
      have : ks.length ≤ hs.length := nodup_len _ ks ndk fun x hx => by
        obtain ⟨j, hj⟩ := List.getElem?_of_mem hx
        have jl := (List.getElem?_eq_some_iff.mp hj).1
        obtain ⟨e, c, t, _, e2, e3, _⟩ := keyv j kvs[j] (List.getElem?_eq_getElem (by omega))
        rw [hj] at e2
        cases e2
        exact best_lt hto ho e3
      omega
    refine ⟨cd, .dK kvs, hcd, trivial, fun od => ?_⟩
    have k4 : TK H3 (upd H3 cd (.frz od (.dK kvs))) := TK.frz hcd
    have b4 : But cd H3 (upd H3 cd (.frz od (.dK kvs))) := But.refl.upd
    refine ⟨_, rfl, cd, od, rfl, .inl ⟨kvs, upd_same, for_it (J := Itk cd od kvs) (n := kvs.length) (fun j σ H5 => ∃ (yv : List V) (ys : List Wy) (v5 v6 v7 : Option V), σ = [some (.ref r), some (.ref fl), some (V.int (0 + ((i : Nat) : Int))), some (.ref cd), some (.ref ld), v5, v6, v7] ∧ H5 fl = some (.lst yv) ∧ All2 (WyAt H5) yv ys ∧ (∀ y ∈ ys, WyOk hs bs y) ∧ (∀ one e c, one < i → best hs bs one e = some c → ∃ y ∈ ys, y.one = one ∧ y.e = e) ∧ (∀ j' e, j' < j → ks[j']? = some e → ∃ y ∈ ys, y.one = i ∧ y.e = e) ∧ ys.length ≤ 12 * i + j ∧ H5 cd = some (.frz od (.dK kvs)) ∧ (∀ b o, H3 b = some o → b ≠ cd → b ≠ fl → H5 b = some o) ∧ TK H3 H5)
      ⟨yv, ys, _, _, _, rfl, b4 _ _ hfl3 flcd, aly.imp fun _ _ z => z.keep ((TK.same s3).trans k4), oky, ally, (fun _ _ z => absurd z (Nat.not_lt_zero _)), by omega, upd_same, (fun b o e n1 _ => b4 b o e n1), k4⟩ ?_ ?_ ?_ ?_⟩⟩
    · rintro j σ H5 hj ⟨yv, ys, v5, v6, v7, rfl, hfl5, aly5, oky5, ally5, new5, l5, hcd5, fr5, k5⟩
      exact ⟨hcd5, hj⟩
    · rintro σ H5 ⟨yv, ys, v5, v6, v7, rfl, hfl5, aly5, oky5, ally5, new5, l5, hcd5, fr5, k5⟩
      exact ⟨hcd5, Nat.le_refl _⟩
    · rintro j x σ H5 H6 hj ⟨yv, ys, v5, v6, v7, rfl, hfl5, aly5, oky5, ally5, new5, l5, hcd5, fr5, k5⟩ ⟨rfl, k, v, ek, rfl⟩
      obtain ⟨e, c, t, rfl, ekj, bc, vv, ht⟩ := keyv j (k, v) ek
      refine ⟨_, rfl, _, rfl, cd, _, rfl, .inl ⟨kvs, kN e, .inr ⟨od, hcd5⟩, rfl, vv.symm⟩, t, _, rfl, SqT.of (k5 _ _ ht), rfl, _, _, rfl, _, _, rfl, rfl, ?_⟩
      have R5 := (hR.keep (TK.same s03)).keep k5
      have ldfl : ld ≠ fl := ne_of hld hfl3 (fun z => nomatch z)
      have hld5 : H6 ld = some (.dK lvs) := fr5 _ _ hld cdld.symm ldfl
      refine ⟨_, rfl, .inl ⟨rfl, _, SqL.of hfl5⟩, _, rfl, _, rfl, _, rfl, _, rfl, _, rfl, _, rfl, r, ld, hs, bs, i, e, c, lvs, la, rfl, R5, ok, ho, ⟨hld5, dl, L⟩, bc, fun p2 ns H7 hP we wc lns s7 => ?_⟩
      refine ⟨_, rfl, (by show 4 ≤ sizeLine; decide), fun t4 nt4 => ?_⟩
      have s8 := s7.trans (same_new (o := .tup [V.int c.1, V.int (- -c.2), V.ref p2, nV e]) nt4)
      have hfl8 := s8 _ _ hfl5
      refine ⟨fl, _, _, rfl, rfl, hfl8, by rw [aly5.length]; exact small1000 (by omega), ?_⟩
      have k8 := TK.lst (ys := yv ++ [V.ref t4]) hfl8
      refine ⟨yv ++ [V.ref t4], ys ++ [⟨i, c, ns, e⟩], _, _, _, rfl, upd_same, ?_, fun y hy => ?_, fun one e' c' h1 h2 => ?_, fun j' e' h1 h2 => ?_, by rw [List.length_append]; show ys.length + 1 ≤ _; omega, by rw [upd_ne flcd.symm]; exact s8 _ _ hcd5, fun b o eb n1 n2 => by rw [upd_ne n2]; exact s8 _ _ (fr5 b o eb n1 n2), (k5.trans (TK.same s8)).trans k8⟩
      · refine ((aly5.imp fun _ _ z => z.keep (TK.same s8)).snoc ⟨t4, p2, rfl, ?_, hP.keep (TK.new nt4)⟩).imp fun _ _ z => z.keep k8
        show upd H7 t4 _ t4 = some (HO.tup [V.int c.1, V.int c.2, V.ref p2, nV e])
        rw [upd_same, Int.neg_neg]
      · rcases List.mem_append.mp hy with hy | hy
        · exact oky5 y hy
        · obtain rfl : y = ⟨i, c, ns, e⟩ := by simpa using hy
          exact ⟨ho, bc, we, wc, lns⟩
      · obtain ⟨y, y1, y2⟩ := ally5 one e' c' h1 h2
        exact ⟨y, List.mem_append_left _ y1, y2⟩
      · by_cases z : j' = j
        · subst z
          rw [ekj] at h2
          cases h2
          exact ⟨⟨i, c, ns, e⟩, List.mem_append_right _ (List.mem_singleton.mpr rfl), rfl, rfl⟩
        · obtain ⟨y, y1, y2⟩ := new5 j' e' (by omega) h2
          exact ⟨y, List.mem_append_left _ y1, y2⟩
    · rintro σ H5 ⟨yv, ys, v5, v6, v7, rfl, hfl5, aly5, oky5, ally5, new5, l5, hcd5, fr5, k5⟩
      have s56 : Same H (upd H5 cd (.dK kvs)) := fun b o e => by
        by_cases z : b = cd
        · subst z
          have := s03 _ _ e
          rw [hcd] at this
          rw [upd_same, ← this]
        · rw [upd_ne z]
          exact fr5 _ _ (s03 _ _ e) z (ne_of_none e nfl)
      refine ⟨hcd5, yv, ys, _, _, _, _, _, _, rfl, by rw [upd_ne flcd]; exact hfl5, aly5.imp fun _ _ z => z.keep (TK.unfrz hcd5), oky5, fun one e c h1 h2 => ?_, by omega, s56⟩
      by_cases z : one = i
      · subst z
        rcases dc.1 e with ⟨d1, _⟩ | ⟨c', v, d1, d2, _⟩
        · rw [d1] at h2; cases h2
        · -- the key is among the keys
          have isS : (valV kvs (kN e)).isSome = true := by rw [d2]; rfl
          rw [← valV_any (kN e) kvs] at isS
          obtain ⟨kv, m1, m2⟩ := List.any_eq_true.mp isS
          have : kN e ∈ ks.map kN := by rw [← eks]; exact List.mem_map.mpr ⟨kv, m1, of_decide_eq_true m2⟩
          obtain ⟨e', m3, m4⟩ := List.mem_map.mp this
          obtain rfl := kN_inj m4
          obtain ⟨j, hj⟩ := List.getElem?_of_mem m3
          have jl := (List.getElem?_eq_some_iff.mp hj).1
          exact new5 j _ (by omega) hj
      · exact ally5 one e c (by omega) h2
  · rintro σ H2 ⟨yv, ys, v2, v3, v4, v5, v6, v7, rfl, hfl, aly, oky, ally, lys, s2⟩
    exact ⟨_, rfl, q fl yv ys H2 nfl hfl aly ⟨oky, fun one e c h1 h2 => ally one e c (by omega) h2, by omega⟩ s2⟩
end
def ndd (m T : Int) : Int := if m > T then 1 else 0
def lateV : Option Nat → V
  | none => .non
  | some l => nV l
def jumpsOf (hs : List HR) : Option Nat → List St3
  | none => []
  | some l => (doorsOf "out" hs).flatMap fun d => (doorsOf "in" hs).map fun o => ⟨d, o, -((l : Nat) : Int)⟩
def wStep (T : Int) (y : Wy) : St3 := ⟨y.one, y.e, ndd y.c.2 T - y.c.1⟩
def stepsOf (hs : List HR) (ys : List Wy) (late : Option Nat) (T : Int) : List St3 := ys.map (wStep T) ++ jumpsOf hs late
/-- some shifts reach the time -/
def FA (hs : List HR) (bs : List BR) (late : Option Nat) (T : Int) : Prop := ∃ lv : Nat → Int, (∀ one e c, one < hs.length → best hs bs one e = some c → lv one + (ndd c.2 T - c.1) ≤ lv e) ∧ ∀ l, late = some l → ∀ d ∈ doorsOf "out" hs, ∀ o ∈ doorsOf "in" hs, lv d - ((l : Nat) : Int) ≤ lv o
theorem feas_iff {hs : List HR} {bs : List BR} {ys : List Wy} {late : Option Nat} {T : Int} (aw : AllWays hs bs ys) : Feas (stepsOf hs ys late T) ↔ FA hs bs late T := by
  constructor
  · rintro ⟨lv, f⟩
    refine ⟨lv, fun one e c h1 h2 => ?_, fun l el d hd o ho => ?_⟩
    · obtain ⟨y, y1, rfl, rfl⟩ := aw.all one e c h1 h2
      have := (aw.ok y y1).b
      rw [h2] at this
      cases this
      exact f (wStep T y) (List.mem_append_left _ (List.mem_map.mpr ⟨y, y1, rfl⟩))
    · subst el
      have := f ⟨d, o, -((l : Nat) : Int)⟩ (List.mem_append_right _ (List.mem_flatMap.mpr ⟨d, hd, List.mem_map.mpr ⟨o, ho, rfl⟩⟩))
      have : lv d + -((l : Nat) : Int) ≤ lv o := this
      omega
  · rintro ⟨lv, f, g⟩
    refine ⟨lv, fun s hs' => ?_⟩
    rcases List.mem_append.mp hs' with h | h
    · obtain ⟨y, y1, rfl⟩ := List.mem_map.mp h
      exact f y.one y.e y.c (aw.ok y y1).lt (aw.ok y y1).b
    · cases late with
      | none => exact nomatch h
      | some l =>
        obtain ⟨d, hd, h2⟩ := List.mem_flatMap.mp h
        obtain ⟨o, ho, rfl⟩ := List.mem_map.mp h2
        have := g l rfl d hd o ho
        show lv d + -((l : Nat) : Int) ≤ lv o
        omega
theorem door_lt {z : Str} {hs : List HR} {k : Nat} (h : k ∈ doorsOf z hs) : k < hs.length := by
  obtain ⟨x, e, _⟩ := mem_doors.mp h
  exact (List.getElem?_eq_some_iff.mp e).1
theorem jumps_bd {hs : List HR} {late : Option Nat} : ∀ s ∈ jumpsOf hs late, s.u < hs.length ∧ s.v < hs.length := fun s h => by
  cases late with
  | none => exact nomatch h
  | some l =>
    obtain ⟨d, hd, h2⟩ := List.mem_flatMap.mp h
    obtain ⟨o, ho, rfl⟩ := List.mem_map.mp h2
    exact ⟨door_lt hd, door_lt ho⟩
theorem jumps_len {hs : List HR} {late : Option Nat} (h : hs.length ≤ 12) : (jumpsOf hs late).length ≤ 144 := by
  cases late with
  | none => exact Nat.zero_le _
  | some l =>
    have d1 := doors_len (z := "out") (hs := hs)
    have d2 := doors_len (z := "in") (hs := hs)
    have key : ∀ ds : List Nat, (ds.flatMap fun d => (doorsOf "in" hs).map fun o => (⟨d, o, -((l : Nat) : Int)⟩ : St3)).length = ds.length * (doorsOf "in" hs).length := fun ds => by
      induction ds with
      | nil => exact (Nat.zero_mul _).symm
      | cons d ds ih => rw [List.flatMap_cons, List.length_append, List.length_map, ih, List.length_cons, Nat.succ_mul]; omega
    show ((doorsOf "out" hs).flatMap _).length ≤ 144
    rw [key]
    exact Nat.le_trans (Nat.mul_le_mul (show _ ≤ 12 by omega) (show _ ≤ 12 by omega)) (by decide)
section
variable {P : Program} {w : World} {K : PySem.W.Frag} {mg : Str → Option Value} {base : Heap}
def sp_needed (K : PySem.W.Frag) : Sp := fun vs H Q _ => ∃ m T : Int, vs = [.int m, .int T] ∧ Q (.int (ndd m T)) H
theorem ok_needed {f : Addr} {fd : FuncData} (F : Fun K "needed" "needed" s_needed f fd) (T : Top K mg) : FnOk P w K mg base CX0 1 f fd ["moments", "time"] (sp_needed K) := by
  refine F.ok sc_needed (fun vs H Q E h => ?_) (fun cdv A outer s H vs Q E hr h => ?_)
  · obtain ⟨m, T, rfl, _⟩ := h
    rfl
  obtain ⟨m, T', rfl, q⟩ := h
  refine ⟨_, (pss_one (ps_ret (pe_ifExp (pt_cmpR op_gt (pv 0) (pv 1) (nomark _)) pe_int pe_int))), ?_⟩
  unfold ndd at q
  refine ⟨_, rfl, _, rfl, _, _, rfl, rfl, _, rfl, if_bl (fun z => ?_) (fun z => ?_)⟩
  · rw [if_pos (show m > T' from of_decide_eq_true z)] at q; exact q
  · rw [if_neg (show ¬ m > T' from of_decide_eq_false z)] at q; exact q
def sp_jumps (K : PySem.W.Frag) : Sp := fun vs H Q _ => ∃ (r : Addr) (hs : List HR) (bs : List BR) (late : Option Nat), vs = [.ref r, lateV late] ∧ RoomAt H r hs bs ∧ RoomOk hs bs ∧
  ∀ (p : Addr) (sv : List V) (H' : Hp), H' p = some (.lst sv) → All2 (StepAt H') sv (jumpsOf hs late) → Same H H' → Q (.ref p) H'
theorem ok_jumps {f : Addr} {fd : FuncData} (F : Fun K "jumps" "jumps" s_jumps f fd) (T : Top K mg) : FnOk P w K mg base CX0 2 f fd ["room", "late"] (sp_jumps K) := by
  obtain ⟨f_doors_out, fd_doors_out, F_doors_out, b_doors_out, m_doors_out⟩ := T.d_doors_out
  have G_doors_out := ok_doors_out (P := P) (w := w) (base := base) F_doors_out T
  obtain ⟨f_doors_in, fd_doors_in, F_doors_in, b_doors_in, m_doors_in⟩ := T.d_doors_in
  have G_doors_in := ok_doors_in (P := P) (w := w) (base := base) F_doors_in T
  refine F.ok sc_jumps (fun vs H Q E h => ?_) (fun cdv A outer s H vs Q E hr h => ?_)
  · obtain ⟨r, hs, bs, late, rfl, _⟩ := h
    rfl
  obtain ⟨r, hs, bs, late, rfl, hR, ok, q⟩ := h
  have lh := ok.hands
  refine ⟨_, (pss_cons (ps_if (pt_cmpR op_isN (pv 1) pe_non (nomark _)) (pss_one (ps_ret (pe_lst pa_nil))) pss_nil)
      (pss_one (ps_ret (pe_lc2 (own := [("door", 2), ("other", 3)]) (vs1 := [3]) (g := gName 2) (g1 := gName 3) (tt := tYes) (tt1 := tYes) (by rfl) sc_jumps.nd (pi_listK K rfl (pe_call G_doors_out (hr.mono (by decide)) (by rfl) m_doors_out F_doors_out.kp b_doors_out .nil pass0 (pa_cons (pv 0) pa_nil))) (blkOk_by (own := [("door", 2), ("other", 3)]) (N := N_jumps) (sc := defScope s_jumps) (by decide +kernel)) (by decide) (fun _ _ _ _ _ => (pg_name (i := 2) sc_jumps.nd rfl (Or.inl rfl))) (fun _ _ _ _ _ => pts_nil) (fun _ _ _ _ _ => (pi_listK K rfl (pe_call G_doors_in (hr.mono (by decide)) (by rfl) m_doors_in F_doors_in.kp b_doors_in .nil pass0 (pa_cons (pv 0) pa_nil)))) (fun _ _ _ _ _ => (pg_name (i := 3) sc_jumps.nd rfl (Or.inl rfl))) (fun _ _ _ _ _ => pts_nil) (fun _ _ _ _ _ => (pe_tup (pa_cons (pv 2) (pa_cons (pv 3) (pa_cons (pe_un un_neg (pv 1)) pa_nil))))))))), ?_⟩
  cases late with
  | none =>
    refine ⟨_, rfl, rfl, _, rfl, if_bl (fun _ => ?_) (fun z => absurd rfl (of_decide_eq_false z))⟩
    exact ⟨(by show 0 ≤ sizeLine; decide), fun p np => q p [] _ upd_same .nil (same_new np)⟩
  | some l =>
  refine ⟨_, rfl, rfl, _, rfl, if_bl (fun z => absurd (of_decide_eq_true z) (fun y => nomatch y)) (fun _ => ?_)⟩
  refine ⟨_, rfl, r, hs, bs, rfl, hR, by omega, ok.good, fun ol H1 nol hol s1 => ?_⟩
  have d1 := doors_len (z := "out") (hs := hs)
  have d2 := doors_len (z := "in") (hs := hs)
  refine ⟨ol, rfl, ⟨_, SqL.of hol⟩, fun D nD => ⟨fun i m H5 => m = (doorsOf "out" hs).length - i ∧ i ≤ (doorsOf "out" hs).length ∧ ∃ sv, H5 D = some (.lst sv) ∧ All2 (StepAt H5) sv (((doorsOf "out" hs).take i).flatMap fun d => (doorsOf "in" hs).map fun o => ⟨d, o, -((l : Nat) : Int)⟩) ∧ sv.length ≤ 12 * i ∧ Same H1 H5, ⟨_, rfl, Nat.zero_le _, [], upd_same, .nil, Nat.le_refl _, same_new nD⟩, ?_⟩⟩
  rintro i m H5 ⟨rfl, hi, sv, hD, al, lsv, s5⟩
  have hol5 := s5 _ _ hol
  by_cases hlt : i < (doorsOf "out" hs).length
  · have ed : (doorsOf "out" hs)[i]? = some (doorsOf "out" hs)[i] := List.getElem?_eq_getElem hlt
    refine .inr ⟨⟨_, _, SqL.of hol5, by rw [List.getElem?_map, ed]; rfl⟩, fun H' => ∃ m', m' < (doorsOf "out" hs).length - i ∧ m' = (doorsOf "out" hs).length - (i + 1) ∧ i + 1 ≤ (doorsOf "out" hs).length ∧ ∃ sv, H' D = some (.lst sv) ∧ All2 (StepAt H') sv (((doorsOf "out" hs).take (i + 1)).flatMap fun d => (doorsOf "in" hs).map fun o => ⟨d, o, -((l : Nat) : Int)⟩) ∧ sv.length ≤ 12 * (i + 1) ∧ Same H1 H', fun H' h => h, ?_⟩
    rintro x H6 ⟨rfl, ey⟩
    have ex : x = nV (doorsOf "out" hs)[i] := by
      have := ey _ (SqL.of hol5)
      rw [List.getElem?_map, ed] at this
      exact (Option.some.inj this).symm
    subst ex
    refine ⟨rfl, yes_in ⟨_, rfl, r, hs, bs, rfl, (hR.keep (TK.same s1)).keep (TK.same s5), by omega, ok.good, fun il H7 nil_ hil s7 => ?_⟩⟩
    have hD7 := s7 _ _ hD
    refine ⟨il, rfl, ⟨_, SqL.of hil⟩, fun j k H8 => k = (doorsOf "in" hs).length - j ∧ j ≤ (doorsOf "in" hs).length ∧ ∃ sv', H8 D = some (.lst sv') ∧ All2 (StepAt H8) sv' ((((doorsOf "out" hs).take i).flatMap fun d => (doorsOf "in" hs).map fun o => ⟨d, o, -((l : Nat) : Int)⟩) ++ ((doorsOf "in" hs).take j).map fun o => ⟨(doorsOf "out" hs)[i], o, -((l : Nat) : Int)⟩) ∧ sv'.length ≤ 12 * i + j ∧ Same H1 H8 ∧ H8 il = some (.lst ((doorsOf "in" hs).map nV)), ⟨_, rfl, Nat.zero_le _, sv, hD7, by rw [List.take_zero, List.map_nil, List.append_nil]; exact al.imp fun _ _ z => z.keep (TK.same s7), by omega, s5.trans s7, hil⟩, ?_⟩
    rintro j k H8 ⟨rfl, hj, sv', hD8, al8, l8, s8, hil8⟩
    have ilD : il ≠ D := (ne_of_none hD nil_).symm
    by_cases jlt : j < (doorsOf "in" hs).length
    · have eo : (doorsOf "in" hs)[j]? = some (doorsOf "in" hs)[j] := List.getElem?_eq_getElem jlt
      refine .inr ⟨⟨_, _, SqL.of hil8, by rw [List.getElem?_map, eo]; rfl⟩, fun H' => ∃ k', k' < (doorsOf "in" hs).length - j ∧ k' = (doorsOf "in" hs).length - (j + 1) ∧ j + 1 ≤ (doorsOf "in" hs).length ∧ ∃ sv', H' D = some (.lst sv') ∧ All2 (StepAt H') sv' ((((doorsOf "out" hs).take i).flatMap fun d => (doorsOf "in" hs).map fun o => ⟨d, o, -((l : Nat) : Int)⟩) ++ ((doorsOf "in" hs).take (j + 1)).map fun o => ⟨(doorsOf "out" hs)[i], o, -((l : Nat) : Int)⟩) ∧ sv'.length ≤ 12 * i + (j + 1) ∧ Same H1 H' ∧ H' il = some (.lst ((doorsOf "in" hs).map nV)), fun H' h => h, ?_⟩
      rintro x H9 ⟨rfl, ey⟩
      have ex : x = nV (doorsOf "in" hs)[j] := by
        have := ey _ (SqL.of hil8)
        rw [List.getElem?_map, eo] at this
        exact (Option.some.inj this).symm
      subst ex
      refine ⟨rfl, yes_in ⟨_, rfl, _, rfl, _, rfl, _, rfl, (by show 3 ≤ sizeLine; decide), fun t nt => ?_⟩⟩
      have hD9 := same_new (o := .tup [nV (doorsOf "out" hs)[i], nV (doorsOf "in" hs)[j], V.int (-((l : Nat) : Int))]) nt _ _ hD8
      refine ⟨sv', hD9, small1000 (by omega), _, by omega, rfl, by omega, sv' ++ [V.ref t], upd_same, ?_, by rw [List.length_append]; show sv'.length + 1 ≤ _; omega, Same.own (s8.trans (same_new nt)) nD, by rw [upd_ne ilD]; exact same_new nt _ _ hil8⟩
      rw [show ((doorsOf "in" hs).take (j + 1)).map (fun o => (⟨(doorsOf "out" hs)[i], o, -((l : Nat) : Int)⟩ : St3)) = ((doorsOf "in" hs).take j).map (fun o => (⟨(doorsOf "out" hs)[i], o, -((l : Nat) : Int)⟩ : St3)) ++ [⟨(doorsOf "out" hs)[i], (doorsOf "in" hs)[j], -((l : Nat) : Int)⟩] by rw [List.take_add_one, eo, List.map_append]; rfl, ← List.append_assoc]
      exact ((al8.imp fun _ _ z => z.keep (TK.new nt)).snoc ⟨t, rfl, upd_same⟩).imp fun _ _ z => z.keep (TK.lst hD9)
    · have e : j = (doorsOf "in" hs).length := by omega
      subst e
      refine .inl ⟨⟨_, SqL.of hil8, by rw [List.length_map]; exact Nat.le_refl _⟩, _, by omega, rfl, by omega, sv', hD8, ?_, by omega, s8⟩
      rw [List.take_length] at al8
      rw [show ((doorsOf "out" hs).take (i + 1)).flatMap (fun d => (doorsOf "in" hs).map fun o => (⟨d, o, -((l : Nat) : Int)⟩ : St3)) = (((doorsOf "out" hs).take i).flatMap fun d => (doorsOf "in" hs).map fun o => (⟨d, o, -((l : Nat) : Int)⟩ : St3)) ++ (doorsOf "in" hs).map fun o => (⟨(doorsOf "out" hs)[i], o, -((l : Nat) : Int)⟩ : St3) by rw [List.take_add_one, ed, List.flatMap_append]; simp]
      exact al8
  · have e : i = (doorsOf "out" hs).length := by omega
    subst e
    refine .inl ⟨⟨_, SqL.of hol5, by rw [List.length_map]; exact Nat.le_refl _⟩, q D sv H5 hD ?_ (s1.trans s5)⟩
    rw [List.take_length] at al
    exact al
end
theorem lev_set {n : Nat} {f : Nat → Int} {j : Nat} {z : Int} (hj : j < n) : (levL n f).set j (V.int z) = levL n fun k => if k = j then z else f k := by
  refine List.ext_getElem? fun m => ?_
  by_cases e : m = j
  · subst e
    rw [List.getElem?_set_self (by rw [List.length_map, List.length_range]; exact hj), rg_at hj]
    show _ = some (V.int (if m = m then z else f m))
    rw [if_pos rfl]
  · rw [List.getElem?_set_ne (fun z => e z.symm)]
    by_cases l : m < n
    · rw [rg_at l, rg_at l]
      show _ = some (V.int (if m = j then z else f m))
      rw [if_neg e]
    · rw [List.getElem?_eq_none (by rw [List.length_map, List.length_range]; omega), List.getElem?_eq_none (by rw [List.length_map, List.length_range]; omega)]
theorem take_if {l : List Nat} {i j : Nat} {z : Int} {f : Nat → Int} (e : l[i]? = some j) : (fun k => if k = j then z else if k ∈ l.take i then z else f k) = fun k => if k ∈ l.take (i + 1) then z else f k := by
  funext k
  rw [List.take_add_one, e]
  show _ = if k ∈ l.take i ++ [j] then z else f k
  by_cases a : k = j
  · rw [if_pos a, if_pos (by rw [a]; exact List.mem_append_right _ (List.mem_singleton.mpr rfl))]
  · rw [if_neg a]
    by_cases b : k ∈ l.take i
    · rw [if_pos b, if_pos (List.mem_append_left _ b)]
    · rw [if_neg b, if_neg fun c => (List.mem_append.mp c).elim b fun d => a (List.mem_singleton.mp d)]
/-- what the shifts are, by levels -/
def ShOf (hs : List HR) (late : Option Nat) (lv sh : Nat → Int) : Prop := ∃ gr to : Int, (∀ k ∈ doorsOf "in" hs, sh k = 0 ∧ gr ≤ lv k) ∧ (∀ k ∈ doorsOf "out" hs, sh k = to) ∧ (∀ k, k ∉ doorsOf "in" hs → k ∉ doorsOf "out" hs → sh k = lv k - gr) ∧
  (∀ l : Nat, late = some l → to = ((l : Nat) : Int) ∧ ((∃ o ∈ doorsOf "in" hs, gr = lv o) ∨ (doorsOf "in" hs = [] ∧ ∀ d ∈ doorsOf "out" hs, lv d - ((l : Nat) : Int) ≤ gr))) ∧ (late = none → (∀ d ∈ doorsOf "out" hs, lv d ≤ to) ∧ ((∃ o ∈ doorsOf "in" hs, gr = lv o) ∨ gr = 0))
theorem door_one {hs : List HR} {k : Nat} (a : k ∈ doorsOf "in" hs) (b : k ∈ doorsOf "out" hs) : False := by
  obtain ⟨h, e1, e2⟩ := mem_doors.mp a
  obtain ⟨h', e3, e4⟩ := mem_doors.mp b
  rw [e1] at e3
  cases e3
  rw [e2] at e4
  exact absurd e4 (by decide +kernel)
section
variable {P : Program} {w : World} {K : PySem.W.Frag} {mg : Str → Option Value} {base : Heap}
def sp_shifts_by (K : PySem.W.Frag) : Sp := fun vs H Q _ => ∃ (r ll : Addr) (hs : List HR) (bs : List BR) (late : Option Nat) (lv : Nat → Int), vs = [.ref r, lateV late, .ref ll] ∧ RoomAt H r hs bs ∧ RoomOk hs bs ∧ H ll = some (.lst (levL hs.length lv)) ∧
  ∀ (p : Addr) (sh : Nat → Int) (H' : Hp), H' p = some (.tup (levL hs.length sh)) → ShOf hs late lv sh → Same H H' → Q (.ref p) H'
theorem ok_shifts_by {f : Addr} {fd : FuncData} (F : Fun K "shifts_by" "shifts_by" s_shifts_by f fd) (T : Top K mg) : FnOk P w K mg base CX0 2 f fd ["room", "late", "levels"] (sp_shifts_by K) := by
  obtain ⟨f_doors_in, fd_doors_in, F_doors_in, b_doors_in, m_doors_in⟩ := T.d_doors_in
  have G_doors_in := ok_doors_in (P := P) (w := w) (base := base) F_doors_in T
  obtain ⟨f_doors_out, fd_doors_out, F_doors_out, b_doors_out, m_doors_out⟩ := T.d_doors_out
  have G_doors_out := ok_doors_out (P := P) (w := w) (base := base) F_doors_out T
  refine F.ok sc_shifts_by (fun vs H Q E h => ?_) (fun cdv A outer s H vs Q E hr h => ?_)
  · obtain ⟨r, ll, hs, bs, late, lv, rfl, _⟩ := h
    rfl
  obtain ⟨r, ll, hs, bs, late, lv, rfl, hR, ok, hll, q⟩ := h
  have lh := ok.hands
  have d1 := doors_len (z := "out") (hs := hs)
  have d2 := doors_len (z := "in") (hs := hs)
  let R1 : TS := fun D' σ' H' => D'.rt = Q ∧ ∃ (il ol : Addr) (hi : Int), σ' = [some (.ref r), some (lateV late), some (.ref ll), some (.ref il), some (.ref ol), some (.int hi), none, none, none, none, none, none] ∧ H' il = some (.lst ((doorsOf "in" hs).map nV)) ∧ H' ol = some (.lst ((doorsOf "out" hs).map nV)) ∧ (∀ d ∈ doorsOf "out" hs, lv d ≤ hi) ∧ Same H H'
  let R2 : TS := fun D' σ' H' => D'.rt = Q ∧ ∃ (il ol : Addr) (hi to : Int), σ' = [some (.ref r), some (lateV late), some (.ref ll), some (.ref il), some (.ref ol), some (.int hi), none, some (.int to), none, none, none, none] ∧ H' il = some (.lst ((doorsOf "in" hs).map nV)) ∧ H' ol = some (.lst ((doorsOf "out" hs).map nV)) ∧ (∀ d ∈ doorsOf "out" hs, lv d ≤ hi) ∧ (late = none → to = hi) ∧ ((∀ l : Nat, late = some l → to = ((l : Nat) : Int)) ∧ (late = none → ∀ d ∈ doorsOf "out" hs, lv d ≤ to)) ∧ Same H H'
  let R3 : TS := fun D' σ' H' => D'.rt = Q ∧ ∃ (il ol : Addr) (hi to fr : Int), σ' = [some (.ref r), some (lateV late), some (.ref ll), some (.ref il), some (.ref ol), some (.int hi), none, some (.int to), some (.int fr), none, none, none] ∧ H' il = some (.lst ((doorsOf "in" hs).map nV)) ∧ H' ol = some (.lst ((doorsOf "out" hs).map nV)) ∧ ((∀ l : Nat, late = some l → to = ((l : Nat) : Int)) ∧ (late = none → ∀ d ∈ doorsOf "out" hs, lv d ≤ to)) ∧ ((∀ l : Nat, late = some l → ∀ d ∈ doorsOf "out" hs, lv d - ((l : Nat) : Int) ≤ fr) ∧ (late = none → fr = 0)) ∧ Same H H'
  let R4 : TS := fun D' σ' H' => D'.rt = Q ∧ ∃ (il ol : Addr) (hi to fr gr : Int), σ' = [some (.ref r), some (lateV late), some (.ref ll), some (.ref il), some (.ref ol), some (.int hi), none, some (.int to), some (.int fr), some (.int gr), none, none] ∧ H' il = some (.lst ((doorsOf "in" hs).map nV)) ∧ H' ol = some (.lst ((doorsOf "out" hs).map nV)) ∧ ((∀ l : Nat, late = some l → to = ((l : Nat) : Int)) ∧ (late = none → ∀ d ∈ doorsOf "out" hs, lv d ≤ to)) ∧ ((∀ l : Nat, late = some l → ∀ d ∈ doorsOf "out" hs, lv d - ((l : Nat) : Int) ≤ fr) ∧ (late = none → fr = 0)) ∧ (∀ k ∈ doorsOf "in" hs, gr ≤ lv k) ∧ ((∃ o ∈ doorsOf "in" hs, gr = lv o) ∨ (doorsOf "in" hs = [] ∧ gr = fr)) ∧ Same H H'
  refine ⟨_, (pss_cons (ps_set (i := 3) sc_shifts_by.nd rfl (Or.inl rfl) (pe_call G_doors_in (hr.mono (by decide)) (by rfl) m_doors_in F_doors_in.kp b_doors_in .nil pass0 (pa_cons (pv 0) pa_nil)))
      (pss_cons (ps_set (i := 4) sc_shifts_by.nd rfl (Or.inl rfl) (pe_call G_doors_out (hr.mono (by decide)) (by rfl) m_doors_out F_doors_out.kp b_doors_out .nil pass0 (pa_cons (pv 0) pa_nil)))
      (pss_cons (ps_set (i := 5) sc_shifts_by.nd rfl (Or.inl rfl) (pe_callBK (cr_maxDf K rfl rfl) (by rfl) T.m_max (by decide +kernel) (pa_cons (pe_lc (own := [("door", 6)]) (g := gName 6) (tt := tYes) (by rfl) sc_shifts_by.nd (pi_listK K rfl (pv 4)) (blkOk_by (own := [("door", 6)]) (N := N_shifts_by) (sc := defScope s_shifts_by) (by decide +kernel)) (fun _ _ _ _ _ => (pg_name (i := 6) sc_shifts_by.nd rfl (Or.inl rfl))) (fun _ _ _ _ _ => pts_nil) (fun _ _ _ _ _ => (pe_ix (ix_listK K rfl) (pv 2) (pv 6) (fun _ _ => rfl)))) pa_nil) (pk_cons pe_int pk_nil)))
      (PSs.to (pss_cons (ps_set (i := 7) sc_shifts_by.nd rfl (Or.inl rfl) (pe_ifExp (pt_cmpR op_isN (pv 1) pe_non (nomark _)) (pv 5) (pv 1)))
      (PSs.to (pss_cons (ps_set (i := 8) sc_shifts_by.nd rfl (Or.inl rfl) (pe_ifExp (pt_truthK K rfl (pv 4) (by intro _; rfl)) (pe_op op_sub (pv 5) (pv 7)) pe_int))
      (PSs.to (pss_cons (ps_set (i := 9) sc_shifts_by.nd rfl (Or.inr rfl) (pe_callBK (cr_minDf K rfl rfl) (by rfl) T.m_min (by decide +kernel) (pa_cons (pe_lc (own := [("door", 6)]) (g := gName 6) (tt := tYes) (by rfl) sc_shifts_by.nd (pi_listK K rfl (pv 3)) (blkOk_by (own := [("door", 6)]) (N := N_shifts_by) (sc := defScope s_shifts_by) (by decide +kernel)) (fun _ _ _ _ _ => (pg_name (i := 6) sc_shifts_by.nd rfl (Or.inl rfl))) (fun _ _ _ _ _ => pts_nil) (fun _ _ _ _ _ => (pe_ix (ix_listK K rfl) (pv 2) (pv 6) (fun _ _ => rfl)))) pa_nil) (pk_cons (pv 8) pk_nil)))
      (PSs.to (pss_cons (ps_setLc (i := 10) (own := [("level", 11)]) (g := gName 11) (tt := tYes) (by rfl) sc_shifts_by.nd rfl rfl (sw_true rfl rfl rfl (by decide +kernel)) (pi_listK K rfl (pv 2)) (blkOk_by (own := [("level", 11)]) (N := N_shifts_by) (sc := defScope s_shifts_by) (by decide +kernel)) (fun _ _ _ _ _ => (pg_name (i := 11) sc_shifts_by.nd rfl (Or.inl rfl))) (fun _ _ _ _ _ => pts_nil) (fun _ _ _ _ _ => (pe_op op_sub (pv 11) (pv 9))))
      (pss_cons (ps_for PassesOwn.never rfl (pi_listK K rfl (pv 3)) (pg_name (i := 6) sc_shifts_by.nd rfl (Or.inl rfl))
        (pss_one (ps_asg pe_int (pg_sub (pv 10) (pv 6) set_list))))
      (pss_cons (ps_for PassesOwn.never rfl (pi_listK K rfl (pv 4)) (pg_name (i := 6) sc_shifts_by.nd rfl (Or.inl rfl))
        (pss_one (ps_asg (pv 7) (pg_sub (pv 10) (pv 6) set_list))))
      (pss_one (ps_ret (pe_callTy (call_tuple_ofK K rfl) (by rfl) T.m_tuple (by decide +kernel) (pa_cons (pv 10) pa_nil))))))) R4 ?tail4)) R3 ?tail3)) R2 ?tail2)) R1 ?tail1)))), ?_⟩
  case tail4 =>
    rintro D' σ' H1 ⟨eD, il, ol, hi, to, fr, gr, rfl, hil, hol, P2, P3, P4, P5, s1⟩
    refine ⟨_, rfl, ll, rfl, ⟨_, SqL.of (s1 _ _ hll)⟩, fun D nD => lc_list (K := K) (a := ll) (xs := levL hs.length lv) (fun i H5 => H5 D = some (.lst (levL i fun k => lv k - gr)) ∧ Same H1 H5) ⟨upd_same, same_new nD⟩ (fun i H5 _ ⟨_, s5⟩ => SqL.of (s5 _ _ (s1 _ _ hll))) ?_ ?_⟩
    · rintro i x H5 hx ⟨hD, s5⟩
      have il2 := (List.getElem?_eq_some_iff.mp hx).1
      rw [List.length_map, List.length_range] at il2
      rw [rg_at il2] at hx
      obtain rfl : V.int (lv i) = x := Option.some.inj hx
      refine ⟨rfl, yes_in ⟨_, rfl, _, rfl, _, _, rfl, rfl, _, hD, by rw [List.length_map, List.length_range]; exact small1000 (by omega), ?_, Same.own s5 nD⟩⟩
      rw [upd_same]
      show _ = some (HO.lst ((List.range (i + 1)).map fun p => V.int (lv p - gr)))
      rw [List.range_succ, List.map_append]; rfl
    · rintro H2 ⟨hD, s2⟩
      rw [List.length_map, List.length_range] at hD
      have ilD : il ≠ D := ne_of_none hil nD
      have olD : ol ≠ D := ne_of_none hol nD
      refine ⟨_, rfl, il, rfl, ⟨_, SqL.of (s2 _ _ hil)⟩, for_list (K := K) (a := il) (xs := (doorsOf "in" hs).map nV) (fun i σ H3 => ∃ (v6 : Option V), σ = [some (.ref r), some (lateV late), some (.ref ll), some (.ref il), some (.ref ol), some (.int hi), v6, some (.int to), some (.int fr), some (.int gr), some (.ref D), none] ∧ H3 D = some (.lst (levL hs.length fun k => if k ∈ (doorsOf "in" hs).take i then 0 else lv k - gr)) ∧ Same H1 H3)
        ⟨none, rfl, hD, s2⟩ (fun i σ H3 _ ⟨_, _, _, s3⟩ => SqL.of (s3 _ _ hil)) ?_ ?_⟩
      · rintro i x σ H3 hx ⟨v6, rfl, hD3, s3⟩
        obtain ⟨k, ek, rfl⟩ := nats_at hx
        have kl := door_lt (List.mem_of_getElem? ek)
        refine ⟨_, rfl, _, rfl, D, _, _, k, rfl, rfl, hD3, ixN_nat (by rw [List.length_map, List.length_range]; exact kl), _, rfl, ?_, Same.own s3 nD⟩
        rw [upd_same, lev_set kl, take_if ek]
      · rintro σ H3 ⟨v6, rfl, hD3, s3⟩
        rw [List.length_map, List.take_length] at hD3
        refine ⟨_, rfl, ol, rfl, ⟨_, SqL.of (s3 _ _ hol)⟩, for_list (K := K) (a := ol) (xs := (doorsOf "out" hs).map nV) (fun i σ H3 => ∃ (v6 : Option V), σ = [some (.ref r), some (lateV late), some (.ref ll), some (.ref il), some (.ref ol), some (.int hi), v6, some (.int to), some (.int fr), some (.int gr), some (.ref D), none] ∧ H3 D = some (.lst (levL hs.length fun k => if k ∈ (doorsOf "out" hs).take i then to else if k ∈ doorsOf "in" hs then 0 else lv k - gr)) ∧ Same H1 H3)
          ⟨v6, rfl, hD3, s3⟩ (fun i σ H3 _ ⟨_, _, _, s3⟩ => SqL.of (s3 _ _ hol)) ?_ ?_⟩
        · rintro i x σ H3 hx ⟨v6, rfl, hD3, s3⟩
          obtain ⟨k, ek, rfl⟩ := nats_at hx
          have kl := door_lt (List.mem_of_getElem? ek)
          refine ⟨_, rfl, _, rfl, _, rfl, D, _, _, k, rfl, rfl, hD3, ixN_nat (by rw [List.length_map, List.length_range]; exact kl), _, rfl, ?_, Same.own s3 nD⟩
          rw [upd_same, lev_set kl, take_if ek]
        · rintro σ H3 ⟨v6, rfl, hD3, s3⟩
          rw [List.length_map, List.take_length] at hD3
          refine ⟨_, rfl, D, _, rfl, .inl ⟨SqL.of hD3, fun p np => ?_⟩⟩
          rw [eD]
          refine q p _ _ upd_same ⟨gr, to, fun k hk => ⟨?_, P4 k hk⟩, fun k hk => ?_, fun k k1 k2 => ?_, fun l el => ⟨P2.1 l el, ?_⟩, fun ln => ⟨P2.2 ln, ?_⟩⟩ ((s1.trans s3).trans (same_new np))
          · show (if k ∈ doorsOf "out" hs then to else if k ∈ doorsOf "in" hs then 0 else lv k - gr) = 0
            rw [if_neg fun z => door_one hk z, if_pos hk]
          · show (if k ∈ doorsOf "out" hs then to else if k ∈ doorsOf "in" hs then 0 else lv k - gr) = _
            rw [if_pos hk]
          · show (if k ∈ doorsOf "out" hs then to else if k ∈ doorsOf "in" hs then 0 else lv k - gr) = _
            rw [if_neg k2, if_neg k1]
          · rcases P5 with z | ⟨z, e⟩
            · exact .inl z
            · exact .inr ⟨z, fun d hd => by rw [e]; exact P3.1 l el d hd⟩
          · rcases P5 with z | ⟨z, e⟩
            · exact .inl z
            · exact .inr (by rw [e]; exact P3.2 ln)
  case tail3 =>
    rintro D' σ' H1 ⟨eD, il, ol, hi, to, fr, rfl, hil, hol, P2, P3, s1⟩
    refine ⟨_, rfl, il, rfl, ⟨_, SqL.of hil⟩, fun D nD => lc_list (K := K) (a := il) (xs := (doorsOf "in" hs).map nV) (fun i H5 => H5 D = some (.lst ((((doorsOf "in" hs).take i).map lv).map V.int)) ∧ Same H1 H5) ⟨upd_same, same_new nD⟩ (fun i H5 _ ⟨_, s5⟩ => SqL.of (s5 _ _ hil)) ?_ ?_⟩
    · rintro i x H5 hx ⟨hD, s5⟩
      obtain ⟨k, ek, rfl⟩ := nats_at hx
      have kl := door_lt (List.mem_of_getElem? ek)
      have il2 := (List.getElem?_eq_some_iff.mp ek).1
      refine ⟨rfl, yes_in ⟨_, rfl, _, rfl, ll, _, _, _, rfl, rfl, SqL.of (s5 _ _ (s1 _ _ hll)), atI_nat (rg_at kl), _, hD, by rw [List.length_map, List.length_map, List.length_take]; exact small1000 (by omega), ?_, Same.own s5 nD⟩⟩
      rw [upd_same, List.take_add_one, ek, List.map_append, List.map_append]; rfl
    · rintro H5 ⟨hD, s5⟩
      rw [List.length_map, List.take_length] at hD
      refine ⟨_, rfl, D, _, V.int fr, rfl, rfl, SqL.of hD, fun e => ?_, fun m hm hle => ?_⟩
      · have e : doorsOf "in" hs = [] := List.map_eq_nil_iff.mp e
        exact ⟨eD, il, ol, hi, to, fr, fr, rfl, s5 _ _ hil, s5 _ _ hol, P2, P3, (fun k hk => by rw [e] at hk; cases hk), .inr ⟨e, rfl⟩, s1.trans s5⟩
      · obtain ⟨o, ho, eo⟩ := List.mem_map.mp hm
        exact ⟨eD, il, ol, hi, to, fr, m, rfl, s5 _ _ hil, s5 _ _ hol, P2, P3, (fun k hk => hle _ (List.mem_map.mpr ⟨k, hk, rfl⟩)), .inl ⟨o, ho, eo.symm⟩, s1.trans s5⟩
  case tail2 =>
    rintro D' σ' H1 ⟨eD, il, ol, hi, to, rfl, hil, hol, P1, P0, P2, s1⟩
    refine ⟨_, rfl, _, .inl ⟨_, SqL.of hol, rfl⟩, if_bl (fun _ => ?_) (fun c => ?_)⟩
    · refine ⟨_, rfl, _, rfl, _, _, rfl, rfl, eD, il, ol, hi, to, hi - to, rfl, hil, hol, P2, ⟨fun l el d hd => ?_, fun ln => ?_⟩, s1⟩
      · have := P1 d hd
        have := P2.1 l el
        omega
      · have := P0 ln
        omega
    · have e : doorsOf "out" hs = [] := by
        cases e : doorsOf "out" hs with
        | nil => rfl
        | cons x l => rw [e] at c; exact absurd c (by simp)
      exact ⟨eD, il, ol, hi, to, 0, rfl, hil, hol, P2, ⟨(fun l el d hd => by rw [e] at hd; cases hd), fun _ => rfl⟩, s1⟩
  case tail1 =>
    rintro D' σ' H1 ⟨eD, il, ol, hi, rfl, hil, hol, P1, s1⟩
    cases late with
    | none => exact ⟨_, rfl, rfl, _, rfl, if_bl (fun _ => ⟨_, rfl, eD, il, ol, hi, hi, rfl, hil, hol, P1, fun _ => rfl, ⟨(fun l el => nomatch el), fun _ => P1⟩, s1⟩) (fun z => absurd rfl (of_decide_eq_false z))⟩
    | some l => exact ⟨_, rfl, rfl, _, rfl, if_bl (fun z => absurd (of_decide_eq_true z) (fun y => nomatch y)) (fun _ => ⟨_, rfl, eD, il, ol, hi, _, rfl, hil, hol, P1, (fun z => nomatch z), ⟨(fun l' el => by cases el; rfl), fun z => nomatch z⟩, s1⟩)⟩
  refine ⟨_, rfl, r, hs, bs, rfl, hR, by omega, ok.good, fun il H1 nil_ hil s1 => ?_⟩
  refine ⟨_, rfl, r, hs, bs, rfl, hR.keep (TK.same s1), by omega, ok.good, fun ol H2 nol hol s2 => ?_⟩
  have s12 := s1.trans s2
  refine ⟨_, rfl, ol, rfl, ⟨_, SqL.of hol⟩, fun D nD => lc_list (K := K) (a := ol) (xs := (doorsOf "out" hs).map nV) (fun i H5 => H5 D = some (.lst ((((doorsOf "out" hs).take i).map lv).map V.int)) ∧ Same H2 H5) ⟨upd_same, same_new nD⟩ (fun i H5 _ ⟨_, s5⟩ => SqL.of (s5 _ _ hol)) ?_ ?_⟩
  · rintro i x H5 hx ⟨hD, s5⟩
    obtain ⟨k, ek, rfl⟩ := nats_at hx
    have kl := door_lt (List.mem_of_getElem? ek)
    have il2 := (List.getElem?_eq_some_iff.mp ek).1
    refine ⟨rfl, yes_in ⟨_, rfl, _, rfl, ll, _, _, _, rfl, rfl, SqL.of (s5 _ _ (s12 _ _ hll)), atI_nat (rg_at kl), _, hD, by rw [List.length_map, List.length_map, List.length_take]; exact small1000 (by omega), ?_, Same.own s5 nD⟩⟩
    rw [upd_same, List.take_add_one, ek, List.map_append, List.map_append]; rfl
  · rintro H5 ⟨hD, s5⟩
    rw [List.length_map, List.take_length] at hD
    refine ⟨D, _, V.int 0, rfl, rfl, SqL.of hD, fun e => ?_, fun m hm hle => ?_⟩
    · have e : doorsOf "out" hs = [] := List.map_eq_nil_iff.mp e
      exact ⟨rfl, il, ol, 0, rfl, s5 _ _ (s2 _ _ hil), s5 _ _ hol, (fun d hd => by rw [e] at hd; cases hd), s12.trans s5⟩
    · exact ⟨rfl, il, ol, m, rfl, s5 _ _ (s2 _ _ hil), s5 _ _ hol, (fun d hd => hle _ (List.mem_map.mpr ⟨d, hd, rfl⟩)), s12.trans s5⟩
end
/-! ### bars -/
def ndS (T : Int) (ws : List Wy) : Int := (ws.map fun y => ndd y.c.2 T).sum
def jmpN (late : Option Nat) (e o : Nat) : Int := if e = o then 0 else match late with
  | some l => ((l : Nat) : Int)
  | none => 0
theorem jmpN_self {late : Option Nat} {e : Nat} : jmpN late e e = 0 := if_pos rfl
def costW (late : Option Nat) : Nat → List Wy → Int
  | _, [] => 0
  | e, y :: ws => jmpN late e y.one + y.c.1 + costW late y.e ws
def lastE : Nat → List Wy → Nat
  | e, [] => e
  | _, y :: ws => lastE y.e ws
theorem lastE_any : ∀ {ws : List Wy} {e e' : Nat}, ws ≠ [] → lastE e ws = lastE e' ws
  | [], _, _, h => absurd rfl h
  | y :: ws, _, _, _ => rfl
/-- a step from e to o is none, or a jump -/
def Jmp (hs : List HR) (late : Option Nat) (e o : Nat) : Prop := e = o ∨ (late.isSome = true ∧ e ∈ doorsOf "out" hs ∧ o ∈ doorsOf "in" hs)
def okW (hs : List HR) (late : Option Nat) : Nat → List Wy → Prop
  | _, [] => True
  | e, y :: ws => Jmp hs late e y.one ∧ okW hs late y.e ws
structure Bar (hs : List HR) (bs : List BR) (late : Option Nat) (T : Int) (ws : List Wy) : Prop where
  ne : ws ≠ []
  ok : ∀ y ∈ ws, WyOk hs bs y
  go : okW hs late (lastE 0 ws) ws
  hv : costW late (lastE 0 ws) ws < ndS T ws
def waysOf (ys : List Wy) (ks : List Nat) : List Wy := ks.filterMap fun k => ys[k]?
theorem waysOf_some {ys : List Wy} {k : Nat} {ks : List Nat} {y : Wy} (e : ys[k]? = some y) : waysOf ys (k :: ks) = y :: waysOf ys ks := by
  unfold waysOf
  rw [List.filterMap_cons, e]
theorem waysOf_none {ys : List Wy} {k : Nat} {ks : List Nat} (e : ys[k]? = none) : waysOf ys (k :: ks) = waysOf ys ks := by
  unfold waysOf
  rw [List.filterMap_cons, e]
theorem wS_some {st : List St3} {k : Nat} {s : St3} (e : st[k]? = some s) : wS st k = s.w := by
  unfold wS
  rw [e]
theorem door_one' {hs : List HR} {k : Nat} (a : k ∈ doorsOf "in" hs) (b : k ∈ doorsOf "out" hs) : False := by
  obtain ⟨h, e1, e2⟩ := mem_doors.mp a
  obtain ⟨h', e3, e4⟩ := mem_doors.mp b
  rw [e1] at e3
  cases e3
  rw [e2] at e4
  exact absurd e4 (by decide +kernel)
theorem scan {hs : List HR} {ys : List Wy} {late : Option Nat} {T : Int} : ∀ (ks : List Nat) (p q e : Nat), stepEnd (stepsOf hs ys late T) p ks = some q → Jmp hs late e p →
    Jmp hs late (lastE e (waysOf ys ks)) q ∧ okW hs late e (waysOf ys ks) ∧ costW late e (waysOf ys ks) + jmpN late (lastE e (waysOf ys ks)) q + (ks.map (wS (stepsOf hs ys late T))).sum = ndS T (waysOf ys ks) + jmpN late e p
  | [], p, q, e, h, j => by
    cases h
    refine ⟨j, trivial, ?_⟩
    show (0 : Int) + jmpN late e p + 0 = 0 + jmpN late e p
    omega
  | k :: ks, p, q, e, h, j => by
    cases es : (stepsOf hs ys late T)[k]? with
    | none =>
      have : stepEnd (stepsOf hs ys late T) p (k :: ks) = none := by
        show (match (stepsOf hs ys late T)[k]? with | some s => if s.u = p then stepEnd (stepsOf hs ys late T) s.v ks else none | none => none) = none
        rw [es]
      rw [this] at h; cases h
    | some s =>
    rw [stepEnd_cons es] at h
    by_cases z : s.u = p
    · rw [if_pos z] at h
      rw [List.map_cons, List.sum_cons, wS_some es]
      cases ey : ys[k]? with
      | some y =>
        have kl := (List.getElem?_eq_some_iff.mp ey).1
        have e1 : (stepsOf hs ys late T)[k]? = some (wStep T y) := by
          unfold stepsOf
          rw [List.getElem?_append_left (by rw [List.length_map]; exact kl), List.getElem?_map, ey]
          rfl
        rw [e1] at es
        cases es
        have z : y.one = p := z
        obtain ⟨i1, i2, i3⟩ := scan ks y.e q y.e h (.inl rfl)
        rw [waysOf_some ey]
        refine ⟨i1, ⟨by rw [z]; exact j, i2⟩, ?_⟩
        rw [jmpN_self] at i3
        show jmpN late e y.one + y.c.1 + costW late y.e (waysOf ys ks) + jmpN late (lastE y.e (waysOf ys ks)) q + ((ndd y.c.2 T - y.c.1) + (ks.map (wS (stepsOf hs ys late T))).sum) = ((y :: waysOf ys ks).map fun y => ndd y.c.2 T).sum + jmpN late e p
        rw [List.map_cons, List.sum_cons, z]
        have i3' : costW late y.e (waysOf ys ks) + jmpN late (lastE y.e (waysOf ys ks)) q + (ks.map (wS (stepsOf hs ys late T))).sum = ((waysOf ys ks).map fun y => ndd y.c.2 T).sum + 0 := i3
        omega
      | none =>
        have kl : ys.length ≤ k := List.getElem?_eq_none_iff.mp ey
        have e1 : (jumpsOf hs late)[k - ys.length]? = some s := by
          unfold stepsOf at es
          rw [List.getElem?_append_right (by rw [List.length_map]; exact kl), List.length_map] at es
          exact es
        have m := List.mem_of_getElem? e1
        cases late with
        | none => exact nomatch m
        | some l =>
        obtain ⟨d, hd, h2⟩ := List.mem_flatMap.mp m
        obtain ⟨o, ho, rfl⟩ := List.mem_map.mp h2
        have z : d = p := z
        subst z
        have ed : e = d := by
          rcases j with j | ⟨_, _, j⟩
          · exact j
          · exact (door_one' j hd).elim
        subst ed
        have ne : e ≠ o := fun c => door_one' ho (c ▸ hd)
        obtain ⟨i1, i2, i3⟩ := scan ks o q e h (.inr ⟨rfl, hd, ho⟩)
        rw [waysOf_none ey]
        refine ⟨i1, i2, ?_⟩
        have e2 : jmpN (some l) e o = ((l : Nat) : Int) := if_neg ne
        rw [e2] at i3
        rw [jmpN_self]
        show costW (some l) e (waysOf ys ks) + jmpN (some l) (lastE e (waysOf ys ks)) q + (-((l : Nat) : Int) + _) = _
        omega
    · rw [if_neg z] at h; cases h
theorem RingOk.bar {hs : List HR} {bs : List BR} {ys : List Wy} {late : Option Nat} {T : Int} {ks : List Nat} (aw : AllWays hs bs ys) (r : RingOk (stepsOf hs ys late T) ks) : Bar hs bs late T (waysOf ys ks) := by
  obtain ⟨p, hp⟩ := r.cl
  have pos := r.pos
  obtain ⟨a1, a2, a3⟩ := scan ks p p p hp (.inl rfl)
  have ne : waysOf ys ks ≠ [] := fun z => by
    rw [z] at a3
    have a3 : (0 : Int) + jmpN late p p + _ = 0 + jmpN late p p := a3
    rw [jmpN_self] at a3
    omega
  rw [lastE_any ne (e' := 0)] at a1
  obtain ⟨b1, b2, b3⟩ := scan ks p p (lastE 0 (waysOf ys ks)) hp a1
  rw [lastE_any (e := lastE 0 (waysOf ys ks)) (e' := 0) ne] at b3
  refine ⟨ne, fun y hy => ?_, b2, by omega⟩
  obtain ⟨k, _, hk⟩ := List.mem_filterMap.mp hy
  exact aw.ok y (List.mem_of_getElem? hk)
def FAl (hs : List HR) (bs : List BR) (late : Option Nat) (T : Int) (lv : Nat → Int) : Prop := (∀ one e c, one < hs.length → best hs bs one e = some c → lv one + (ndd c.2 T - c.1) ≤ lv e) ∧ ∀ l, late = some l → ∀ d ∈ doorsOf "out" hs, ∀ o ∈ doorsOf "in" hs, lv d - ((l : Nat) : Int) ≤ lv o
theorem feas_lv {hs : List HR} {bs : List BR} {ys : List Wy} {late : Option Nat} {T : Int} {lv : Nat → Int} (aw : AllWays hs bs ys) (f : ∀ s ∈ stepsOf hs ys late T, lv s.u + s.w ≤ lv s.v) : FAl hs bs late T lv := by
  refine ⟨fun one e c h1 h2 => ?_, fun l el d hd o ho => ?_⟩
  · obtain ⟨y, y1, rfl, rfl⟩ := aw.all one e c h1 h2
    have := (aw.ok y y1).b
    rw [h2] at this
    cases this
    exact f (wStep T y) (List.mem_append_left _ (List.mem_map.mpr ⟨y, y1, rfl⟩))
  · subst el
    have := f ⟨d, o, -((l : Nat) : Int)⟩ (List.mem_append_right _ (List.mem_flatMap.mpr ⟨d, hd, List.mem_map.mpr ⟨o, ho, rfl⟩⟩))
    have : lv d + -((l : Nat) : Int) ≤ lv o := this
    omega
/-- shifts that come of levels -/
def Shf (hs : List HR) (bs : List BR) (late : Option Nat) (T : Int) (sh : Nat → Int) : Prop := ∃ lv : Nat → Int, FAl hs bs late T lv ∧ ShOf hs late lv sh ∧ ∀ q, 0 ≤ lv q
theorem Shf.fa {hs : List HR} {bs : List BR} {late : Option Nat} {T : Int} {sh : Nat → Int} (h : Shf hs bs late T sh) : FA hs bs late T := by
  obtain ⟨lv, f, _⟩ := h
  exact ⟨lv, f⟩
theorem ndd_le {m T T' : Int} (h : T ≤ T') : ndd m T' ≤ ndd m T := by
  unfold ndd
  split <;> split <;> omega
theorem FA.mono {hs : List HR} {bs : List BR} {late : Option Nat} {T T' : Int} (h : T ≤ T') (f : FA hs bs late T) : FA hs bs late T' := by
  obtain ⟨lv, f, g⟩ := f
  refine ⟨lv, fun one e c h1 h2 => ?_, g⟩
  have := f one e c h1 h2
  have := ndd_le (m := c.2) h
  omega
theorem best_tr {hs : List HR} {bs : List BR} {rk : Nat → Int} {one e : Nat} {c : Co} (hrk : ∀ b ∈ bs, b.th = [] → rk b.one < rk b.to) (h : best hs bs one e = some c) : 0 ≤ c.1 := by
  obtain ⟨ns, w1, w2⟩ := cfI_snd _ e c h
  have := (way_rank hrk w1).1
  rw [← w2]
  exact this
theorem FA.high {hs : List HR} {bs : List BR} {rk : Nat → Int} {late : Option Nat} {T : Int} (hrk : ∀ b ∈ bs, b.th = [] → rk b.one < rk b.to) (h : ∀ one e c, one < hs.length → best hs bs one e = some c → c.1 = 0 → c.2 ≤ T) : FA hs bs late T := by
  refine ⟨fun _ => 0, fun one e c h1 h2 => ?_, fun l _ d _ o _ => by show (0 : Int) - ((l : Nat) : Int) ≤ 0; omega⟩
  have t := best_tr hrk h2
  have := h one e c h1 h2
  show (0 : Int) + (ndd c.2 T - c.1) ≤ 0
  unfold ndd
  split <;> omega
/-- a way at its place -/
def PrAt (H : Hp) (v : V) (y : Wy) : Prop := ∃ p : Addr, v = .ref p ∧ PairAt H p y.one y.ns
theorem PrAt.keep {H H' : Hp} {v : V} {y : Wy} (h : PrAt H v y) (k : TK H H') : PrAt H' v y := by
  obtain ⟨p, e, h2⟩ := h
  exact ⟨p, e, h2.keep k⟩
theorem waysOf_take {ys : List Wy} {ks : List Nat} {i k : Nat} (e : ks[i]? = some k) : waysOf ys (ks.take (i + 1)) = waysOf ys (ks.take i) ++ (ys[k]?).toList := by
  unfold waysOf
  rw [List.take_add_one, e, List.filterMap_append]
  cases h : ys[k]? <;> simp [h]
theorem waysOf_len {ys : List Wy} {ks : List Nat} : (waysOf ys ks).length ≤ ks.length := List.length_filterMap_le ..
section
variable {P : Program} {w : World} {K : PySem.W.Frag} {mg : Str → Option Value} {base : Heap}
def sp_paper_by (K : PySem.W.Frag) : Sp := fun vs H Q _ => ∃ (r wl : Addr) (hs : List HR) (bs : List BR) (late : Option Nat) (T : Int) (yv : List V) (ys : List Wy), vs = [.ref r, lateV late, .int T, .ref wl] ∧ RoomAt H r hs bs ∧ RoomOk hs bs ∧ H wl = some (.lst yv) ∧ All2 (WyAt H) yv ys ∧ AllWays hs bs ys ∧
  (∀ (p p' : Addr) (sh : Nat → Int) (H' : Hp), H' p = some (.tup [.str "shifts", .ref p']) → H' p' = some (.tup (levL hs.length sh)) → Shf hs bs late T sh → Same H H' → Q (.ref p) H') ∧ ∀ (p p' : Addr) (pv : List V) (ws : List Wy) (H' : Hp), H' p = some (.tup [.str "bar", .ref p']) → H' p' = some (.tup pv) → All2 (PrAt H') pv ws → ws.length ≤ hs.length → Bar hs bs late T ws → ¬ FA hs bs late T → Same H H' → Q (.ref p) H'
theorem ok_paper_by {f : Addr} {fd : FuncData} (F : Fun K "paper_by" "paper_by" s_paper_by f fd) (T : Top K mg) : FnOk P w K mg base CX0 3 f fd ["room", "late", "time", "ways"] (sp_paper_by K) := by
  obtain ⟨f_levels_or_ring, fd_levels_or_ring, F_levels_or_ring, b_levels_or_ring, m_levels_or_ring⟩ := T.d_levels_or_ring
  have G_levels_or_ring := ok_levels_or_ring (P := P) (w := w) (base := base) F_levels_or_ring T
  obtain ⟨f_jumps, fd_jumps, F_jumps, b_jumps, m_jumps⟩ := T.d_jumps
  have G_jumps := ok_jumps (P := P) (w := w) (base := base) F_jumps T
  obtain ⟨f_shifts_by, fd_shifts_by, F_shifts_by, b_shifts_by, m_shifts_by⟩ := T.d_shifts_by
  have G_shifts_by := ok_shifts_by (P := P) (w := w) (base := base) F_shifts_by T
  obtain ⟨f_needed, fd_needed, F_needed, b_needed, m_needed⟩ := T.d_needed
  have G_needed := ok_needed (P := P) (w := w) (base := base) F_needed T
  refine F.ok sc_paper_by (fun vs H Q E h => ?_) (fun cdv A outer s H vs Q E hr h => ?_)
  · obtain ⟨r, wl, hs, bs, late, T', yv, ys, rfl, _⟩ := h
    rfl
  obtain ⟨r, wl, hs, bs, late, T', yv, ys, rfl, hR, ok, hwl, aly, aw, q1, q2⟩ := h
  obtain ⟨ha, ba, hv, bv, er, eh, eb, alh, alb⟩ := hR.ex
  have lhv := alh.length
  have lh := ok.hands
  have lys := aly.length
  have few := aw.few
  have hto : ∀ b ∈ bs, b.to < hs.length := fun b hb => (ok.ends b hb).2
  let R1 : TS := fun D' σ' H' => D'.rt = Q ∧ σ' = [some (.ref r), some (lateV late), some (.int T'), some (.ref wl), none, none, none, none, none, none, none, none] ∧ H' = H
  refine ⟨_, (PSs.to (pss_cons (ps_setLc (i := 4) (own := [("trays", 5), ("moments", 6), ("way", 7), ("end", 8)]) (g := gTup K 4 (gCons (gName 5) (gCons (gName 6) (gCons (gName 7) (gCons (gName 8) gNil))))) (tt := tYes) (by rfl) sc_paper_by.nd rfl rfl (sw_true rfl rfl rfl (by decide +kernel)) (pi_listK K rfl (pv 3)) (blkOk_by (own := [("trays", 5), ("moments", 6), ("way", 7), ("end", 8)]) (N := N_paper_by) (sc := defScope s_paper_by) (by decide +kernel)) (fun _ _ _ _ _ => (pg_tupK K rfl rfl (pgs_cons (pg_name (i := 5) sc_paper_by.nd rfl (Or.inl rfl)) (pgs_cons (pg_name (i := 6) sc_paper_by.nd rfl (Or.inl rfl)) (pgs_cons (pg_name (i := 7) sc_paper_by.nd rfl (Or.inl rfl)) (pgs_cons (pg_name (i := 8) sc_paper_by.nd rfl (Or.inl rfl)) pgs_nil)))))) (fun _ _ _ _ _ => pts_nil) (fun _ _ _ _ _ => (pe_tup (pa_cons (pe_ix (ix_tupK K rfl) (pv 7) pe_int (fun _ _ => rfl)) (pa_cons (pv 8) (pa_cons (pe_op op_sub (pe_call G_needed (hr.mono (by decide)) (by rfl) m_needed F_needed.kp b_needed .nil pass0 (pa_cons (pv 6) (pa_cons (pv 2) pa_nil))) (pv 5)) pa_nil))))))
      (pss_cons (ps_expr (pe_bmK K rfl PySem.F.plainAttrs_list PySem.F.slot_list_extend PySem.F.type_list_extend mt_extend (pv 4) (pa_cons (pe_call G_jumps (hr.mono (by decide)) (by rfl) m_jumps F_jumps.kp b_jumps .nil pass0 (pa_cons (pv 0) (pa_cons (pv 1) pa_nil))) pa_nil)))
      (pss_cons (ps_asg (pe_call G_levels_or_ring (hr.mono (by decide)) (by rfl) m_levels_or_ring F_levels_or_ring.kp b_levels_or_ring .nil pass0 (pa_cons (pe_callB (call_len_seqK K rfl) (by rfl) T.m_len (by decide +kernel) (pa_cons (pe_ix (ix_tupK K rfl) (pv 0) pe_int (fun _ _ => rfl)) pa_nil)) (pa_cons (pv 4) pa_nil))) (pg_tupK K rfl rfl (pgs_cons (pg_name (i := 9) sc_paper_by.nd rfl (Or.inl rfl)) (pgs_cons (pg_name (i := 10) sc_paper_by.nd rfl (Or.inl rfl)) pgs_nil))))
      (pss_cons (ps_if (pt_cmpR op_isN (pv 10) pe_non (nomark _)) (pss_one (ps_ret (pe_tup (pa_cons pe_str (pa_cons (pe_call G_shifts_by (hr.mono (by decide)) (by rfl) m_shifts_by F_shifts_by.kp b_shifts_by .nil pass0 (pa_cons (pv 0) (pa_cons (pv 1) (pa_cons (pv 9) pa_nil)))) pa_nil))))) pss_nil)
      (pss_one (ps_ret (pe_tup (pa_cons pe_str (pa_cons (pe_callTy (call_tuple_ofK K rfl) (by rfl) T.m_tuple (by decide +kernel) (pa_cons (pe_lc (own := [("number", 11)]) (g := gName 11) (by rfl) sc_paper_by.nd (pi_listK K rfl (pv 10)) (blkOk_by (own := [("number", 11)]) (N := N_paper_by) (sc := defScope s_paper_by) (by decide +kernel)) (fun _ _ _ _ _ => (pg_name (i := 11) sc_paper_by.nd rfl (Or.inl rfl))) (fun _ _ _ _ _ => pts_one (pt_cmpR op_lt (pv 11) (pe_callB (call_len_seqK K rfl) (by rfl) T.m_len (by decide +kernel) (pa_cons (pv 3) pa_nil)) (nomark _))) (fun _ _ _ _ _ => (pe_ix (ix_tupK K rfl) (pe_ix (ix_listK K rfl) (pv 3) (pv 11) (fun _ _ => rfl)) pe_int (fun _ _ => rfl)))) pa_nil)) pa_nil))))))))) R1 ?tail1), ⟨rfl, rfl, rfl⟩⟩
  rintro D' σ' H0 ⟨eD, rfl, rfl⟩
  refine ⟨_, rfl, wl, rfl, ⟨_, SqL.of hwl⟩, fun D nD => lc_list (K := K) (a := wl) (xs := yv) (fun i H5 => ∃ sv : List V, H5 D = some (.lst sv) ∧ All2 (StepAt H5) sv ((ys.take i).map (wStep T')) ∧ Same H0 H5) ⟨[], upd_same, .nil, same_new nD⟩ (fun i H5 _ ⟨_, _, _, s5⟩ => SqL.of (s5 _ _ hwl)) ?_ ?_⟩
  · rintro i x H5 hx ⟨sv, hD, al, s5⟩
    obtain ⟨y, ey, ⟨t, p, rfl, ht, ⟨g, ep, eg⟩⟩⟩ := aly.getL hx
    have il := (List.getElem?_eq_some_iff.mp ey).1
    refine ⟨t, _, rfl, SqT.of (s5 _ _ ht), rfl, ?_⟩
    refine ⟨_, _, rfl, ?_⟩
    refine ⟨_, _, rfl, ?_⟩
    refine ⟨_, _, rfl, ?_⟩
    refine ⟨_, _, rfl, rfl, ?_⟩
    refine ⟨rfl, ?_⟩
    refine yes_in ?_
    refine ⟨_, rfl, p, _, _, _, rfl, rfl, SqT.of (s5 _ _ ep), atI_nat (j := 0) rfl, _, rfl, _, rfl, _, rfl, y.c.2, T', rfl, _, rfl, _, _, rfl, rfl, (by show 3 ≤ sizeLine; decide), fun t3 nt3 => ?_⟩
    have hD6 := same_new (o := .tup [nV y.one, nV y.e, V.int (ndd y.c.2 T' - y.c.1)]) nt3 _ _ hD
    refine ⟨sv, hD6, ?_, sv ++ [V.ref t3], upd_same, ?_, Same.own (s5.trans (same_new nt3)) nD⟩
    · have := al.length
      rw [List.length_map, List.length_take] at this
      exact small1000 (by omega)
    · rw [show (ys.take (i + 1)).map (wStep T') = (ys.take i).map (wStep T') ++ [wStep T' y] by rw [List.take_add_one, ey, List.map_append]; rfl]
      exact ((al.imp fun _ _ z => z.keep (TK.new nt3)).snoc ⟨t3, rfl, upd_same⟩).imp fun _ _ z => z.keep (TK.lst hD6)
  rintro H1 ⟨sv, hD, al, s1⟩
  rw [lys, List.take_length] at al
  have lsv := al.length
  rw [List.length_map] at lsv
  refine ⟨_, rfl, .inl ⟨rfl, _, SqL.of hD⟩, _, rfl, _, rfl, r, hs, bs, late, rfl, hR.keep (TK.same s1), ok, fun jl sv2 H2 hjl al2 s2 => ?_⟩
  have jn := jumps_len (late := late) lh
  have lsv2 := al2.length
  have hD2 := s2 _ _ hD
  refine ⟨D, jl, sv, sv2, rfl, rfl, hD2, hjl, little (by omega), ?_⟩
  have s3 : Same H0 (upd H2 D (.lst (sv ++ sv2))) := Same.own (s1.trans s2) nD
  have k3 : TK H2 (upd H2 D (.lst (sv ++ sv2))) := TK.lst hD2
  have All2.app : ∀ {R : V → St3 → Prop} {as cs : List V} {bs ds : List St3}, All2 R as bs → All2 R cs ds → All2 R (as ++ cs) (bs ++ ds) := fun {R as cs bs ds} a b => by
    induction a with
    | nil => exact b
    | cons h t ih => exact .cons h ih
  have st3 : StepsAt (upd H2 D (.lst (sv ++ sv2))) D (stepsOf hs ys late T') := ⟨_, upd_same, All2.app (al.imp fun _ _ z => z.keep ((TK.same s2).trans k3)) (al2.imp fun _ _ z => z.keep k3)⟩
  have bd : ∀ s ∈ stepsOf hs ys late T', s.u < hv.length ∧ s.v < hv.length := fun s hs' => by
    rw [lhv]
    rcases List.mem_append.mp hs' with h | h
    · obtain ⟨y, y1, rfl⟩ := List.mem_map.mp h
      have o := aw.ok y y1
      exact ⟨o.lt, best_lt hto o.lt o.b⟩
    · exact jumps_bd s h
  have ls : (stepsOf hs ys late T').length ≤ 400 := by
    unfold stepsOf
    rw [List.length_append, List.length_map]
    omega
  refine ⟨_, rfl, r, _, _, _, rfl, rfl, SqT.of (s3 _ _ er), atI_nat (j := 0) rfl, ha, _, rfl, .inr (SqT.of (s3 _ _ eh)), _, rfl, D, hv.length, stepsOf hs ys late T', rfl, st3, bd, ls, by omega, fun p ll lv H4 hp hll fe nn s4 => ?_, fun p rl ks H4 hp hrl ring lk s4 => ?_⟩
  · refine ⟨p, _, rfl, SqT.of hp, rfl, _, _, rfl, _, _, rfl, rfl, ?_⟩
    refine ⟨_, rfl, rfl, _, rfl, if_bl (fun _ => ?_) (fun z => absurd rfl (of_decide_eq_false z))⟩
    have s04 := s3.trans s4
    rw [lhv] at hll
    refine ⟨_, rfl, _, rfl, _, rfl, r, ll, hs, bs, late, lv, rfl, hR.keep (TK.same s04), ok, hll, fun p3 sh H5 hp3 so s5 => ⟨(by show 2 ≤ sizeLine; decide), fun p4 np4 => ?_⟩⟩
    rw [eD]; exact q1 p4 p3 sh _ upd_same (same_new np4 _ _ hp3) ⟨lv, feas_lv aw fe, so, nn⟩ ((s04.trans s5).trans (same_new np4))
  · refine ⟨p, _, rfl, SqT.of hp, rfl, _, _, rfl, _, _, rfl, rfl, ?_⟩
    refine ⟨_, rfl, rfl, _, rfl, if_bl (fun z => absurd (of_decide_eq_true z) (fun y => nomatch y)) (fun _ => ?_)⟩
    have s04 := s3.trans s4
    refine ⟨_, rfl, rl, rfl, ⟨_, SqL.of hrl⟩, fun D2 nD2 => lc_list (K := K) (a := rl) (xs := ks.map nV) (fun i H5 => ∃ bv : List V, H5 D2 = some (.lst bv) ∧ All2 (PrAt H5) bv (waysOf ys (ks.take i)) ∧ Same H4 H5) ⟨[], upd_same, .nil, same_new nD2⟩ (fun i H5 _ ⟨_, _, _, s5⟩ => SqL.of (s5 _ _ hrl)) ?_ ?_⟩
    · rintro i x H5 hx ⟨bv', hD2, lb, s5⟩
      obtain ⟨k, ek, rfl⟩ := nats_at hx
      have il := (List.getElem?_eq_some_iff.mp ek).1
      have s05 := s04.trans s5
      have hwl5 := s05 _ _ hwl
      have lbv := lb.length
      have lw := waysOf_len (ys := ys) (ks := ks.take i)
      rw [List.length_take] at lw
      refine ⟨rfl, _, rfl, _, rfl, wl, _, rfl, .inl (SqL.of hwl5), _, _, rfl, rfl, _, rfl, if_bl (fun c => ?_) (fun c => ⟨bv', hD2, ?_, s5⟩)⟩
      · have c : ((k : Nat) : Int) < ((yv.length : Nat) : Int) := of_decide_eq_true c
        have ekv : yv[k]? = some yv[k] := List.getElem?_eq_getElem (by omega)
        obtain ⟨y, ey, ⟨t, p', e1, ht, hP⟩⟩ := aly.getL ekv
        rw [e1] at ekv
        refine ⟨_, rfl, _, rfl, wl, _, _, _, rfl, rfl, SqL.of hwl5, atI_nat ekv, t, _, _, _, rfl, rfl, SqT.of (s05 _ _ ht), atI_nat (j := 2) rfl, bv', hD2, small1000 (by omega), bv' ++ [V.ref p'], upd_same, ?_, Same.own s5 nD2⟩
        rw [waysOf_take ek, ey]
        exact (lb.snoc ⟨p', rfl, hP.keep (TK.same s05)⟩).imp fun _ _ z => z.keep (TK.lst hD2)
      · have c : ¬ ((k : Nat) : Int) < ((yv.length : Nat) : Int) := of_decide_eq_false c
        have : ys[k]? = none := List.getElem?_eq_none_iff.mpr (by omega)
        rw [waysOf_take ek, this]
        show All2 (PrAt H5) bv' (waysOf ys (ks.take i) ++ [])
        rw [List.append_nil]
        exact lb
    · rintro H5 ⟨bv', hD2, lb, s5⟩
      rw [List.length_map, List.take_length] at lb
      refine ⟨D2, _, rfl, .inl ⟨SqL.of hD2, fun p3 np3 => ⟨(by show 2 ≤ sizeLine; decide), fun p4 np4 => ?_⟩⟩⟩
      have lw := waysOf_len (ys := ys) (ks := ks)
      rw [eD]; exact q2 p4 p3 _ (waysOf ys ks) _ upd_same (same_new np4 _ _ upd_same) (lb.imp fun _ _ z => z.keep ((TK.new np3).trans (TK.new np4))) (by omega) (ring.bar aw) (fun f => ring.not_feas ((feas_iff aw).mpr f)) (((s04.trans s5).trans (same_new np3)).trans (same_new np4))
end
/-! ### ways and levels -/
theorem best_way {hs : List HR} {bs : List BR} (ok : RoomOk hs bs) {one e : Nat} {ns : List Nat} (ho : one < hs.length) (h : wayEnd bs one ns = some e) : ∃ c, best hs bs one e = some c ∧ coLe c (wayCo hs bs one ns) := by
  obtain ⟨rk, hrk⟩ := ok.rank
  obtain ⟨ms, l, h1, h2⟩ := way_short (hs := hs) hrk (fun b hb => (ok.ends b hb).2) ho ns.length ns e (Nat.le_refl _) h
  obtain ⟨c, h3, h4⟩ := cfI_cpl (hs := hs) (bs := bs) (one := one) hs.length ms e l h1
  exact ⟨c, h3, h4.trans h2⟩
def Wl (hs : List HR) (bs : List BR) (T : Int) (lv : Nat → Int) : Prop := ∀ one ns e, one < hs.length → wayEnd bs one ns = some e → lv one + (ndd (wayCo hs bs one ns).2 T - (wayCo hs bs one ns).1) ≤ lv e
def Dl (hs : List HR) (late : Option Nat) (lv : Nat → Int) : Prop := ∀ l, late = some l → ∀ d ∈ doorsOf "out" hs, ∀ o ∈ doorsOf "in" hs, lv d - ((l : Nat) : Int) ≤ lv o
theorem fal_iff {hs : List HR} {bs : List BR} {late : Option Nat} {T : Int} {lv : Nat → Int} (ok : RoomOk hs bs) : FAl hs bs late T lv ↔ Wl hs bs T lv ∧ Dl hs late lv := by
  constructor
  · rintro ⟨f, g⟩
    refine ⟨fun one ns e ho h => ?_, g⟩
    obtain ⟨c, h1, h2⟩ := best_way ok ho h
    have := f one e c ho h1
    unfold ndd at *
    unfold coLe at h2
    split at this <;> split <;> omega
  · rintro ⟨f, g⟩
    refine ⟨fun one e c ho h => ?_, g⟩
    obtain ⟨ns, w1, w2⟩ := cfI_snd _ e c h
    have := f one ns e ho w1
    rw [w2] at this
    exact this
theorem wayEnd_none {bs : List BR} {n k : Nat} {ns : List Nat} (e : bs[n]? = none) : wayEnd bs k (n :: ns) = none := by
  show (match bs[n]? with | some b => if b.one = k then wayEnd bs b.to ns else none | none => none) = none
  rw [e]
theorem to_in {hs : List HR} {bs : List BR} (ok : RoomOk hs bs) {b : BR} (hb : b ∈ bs) : b.to ∉ doorsOf "in" hs := fun z => by
  obtain ⟨h, e1, e2⟩ := mem_doors.mp z
  have c := ok.count b.to h e1
  have p := List.count_pos_iff.mpr (List.mem_map.mpr ⟨b, hb, rfl⟩ : b.to ∈ bs.map BR.to)
  rw [e2, show needs "in" = 0 by decide +kernel] at c
  omega
theorem one_out {hs : List HR} {bs : List BR} (ok : RoomOk hs bs) {b : BR} (hb : b ∈ bs) : b.one ∉ doorsOf "out" hs := fun z => by
  obtain ⟨h, e1, e2⟩ := mem_doors.mp z
  exact ok.out b hb h e1 e2
/-- shifts that reach a time by a lateness, or any -/
structure Rch (hs : List HR) (bs : List BR) (late : Option Nat) (T : Int) (sh : Nat → Int) : Prop where
  ins : ∀ k ∈ doorsOf "in" hs, sh k = 0
  outs : ∃ to : Int, (∀ k ∈ doorsOf "out" hs, sh k = to) ∧ (∀ l : Nat, late = some l → to = ((l : Nat) : Int)) ∧ (late = none → doorsOf "out" hs ≠ [] → 0 ≤ to)
  ways : Wl hs bs T sh
theorem Shf.rch {hs : List HR} {bs : List BR} {late : Option Nat} {T : Int} {sh : Nat → Int} (ok : RoomOk hs bs) (s : Shf hs bs late T sh) : Rch hs bs late T sh := by
  obtain ⟨lv, f, ⟨gr, to, g1, g2, g3, g4, g5⟩, nn⟩ := s
  have f := (fal_iff ok).mp f
  -- out doors lie no lower than their levels
  have low : ∀ d ∈ doorsOf "out" hs, lv d - gr ≤ to := fun d hd => by
    cases late with
    | some l =>
      obtain ⟨e, z⟩ := g4 l rfl
      rcases z with ⟨o, ho, eo⟩ | ⟨_, g6⟩
      · have := f.2 l rfl d hd o ho; omega
      · have := g6 d hd; omega
    | none =>
      obtain ⟨e, z⟩ := g5 rfl
      have := e d hd
      rcases z with ⟨o, ho, eo⟩ | z
      · have := nn o; omega
      · omega
  refine ⟨fun k hk => (g1 k hk).1, ⟨to, g2, fun l el => (g4 l el).1, fun ln ne => ?_⟩, fun one ns e ho h => ?_⟩
  · obtain ⟨d, hd⟩ := List.exists_mem_of_ne_nil _ ne
    have := (g5 ln).1 d hd
    have := nn d
    omega
  have st := f.1 one ns e ho h
  rcases ns with _ | ⟨n, ns⟩
  · cases h
    omega
  · have no1 : one ∉ doorsOf "out" hs := by
      cases eb : bs[n]? with
      | none =>
        rw [wayEnd_none eb] at h; cases h
      | some b =>
        rw [wayEnd_cons eb] at h
        by_cases z : b.one = one
        · rw [← z]; exact one_out ok (List.mem_of_getElem? eb)
        · rw [if_neg z] at h; cases h
    have no2 : e ∉ doorsOf "in" hs := by
      rcases List.eq_nil_or_concat (n :: ns) with z | ⟨ms, n', z⟩
      · cases z
      · rw [z, List.concat_eq_append] at h
        obtain ⟨b, eb, _, h2⟩ := wayEnd_unsnoc h
        rw [← h2]; exact to_in ok (List.mem_of_getElem? eb)
    have a1 : sh one ≤ lv one - gr := by
      by_cases z : one ∈ doorsOf "in" hs
      · have := g1 one z; omega
      · rw [g3 one z no1]; omega
    have a2 : lv e - gr ≤ sh e := by
      by_cases z : e ∈ doorsOf "out" hs
      · rw [g2 e z]; exact low e z
      · rw [g3 e no2 z]; omega
    omega
def trS (sh : Nat → Int) (b : BR) : Int := (b.th.length : Int) + sh b.to - sh b.one
theorem Rch.trays {hs : List HR} {bs : List BR} {l : Option Nat} {T : Int} {sh : Nat → Int} (ok : RoomOk hs bs) (r : Rch hs bs l T sh) {b : BR} (hb : b ∈ bs) : 0 ≤ trS sh b := by
  obtain ⟨n, hn⟩ := List.getElem?_of_mem hb
  have := r.ways b.one [n] b.to (ok.ends b hb).1 (by rw [wayEnd_cons hn, if_pos rfl]; rfl)
  have e : (wayCo hs bs b.one [n]).1 = (b.th.length : Int) := by
    show ([n].map (trB bs)).sum = _
    have h1 : trB bs n = (b.th.length : Int) := by unfold trB; rw [hn]
    simp [h1]
  rw [e] at this
  unfold trS
  unfold ndd at this
  split at this <;> omega
/-- what a hand may come to: moments of a way whose trays are gone -/
def Vl (hs : List HR) (bs : List BR) (sh : Nat → Int) (k : Nat) (x : Int) : Prop := ∃ one ns, one < hs.length ∧ wayEnd bs one ns = some k ∧ (wayCo hs bs one ns).1 + sh k - sh one = 0 ∧ (wayCo hs bs one ns).2 = x
theorem Vl.nil {hs : List HR} {bs : List BR} {sh : Nat → Int} {k : Nat} (h : k < hs.length) : Vl hs bs sh k (momH hs k) := by
  refine ⟨k, [], h, rfl, ?_, ?_⟩ <;> rw [wayCo_nil]
  show (0 : Int) + sh k - sh k = 0
  omega
theorem Vl.go {hs : List HR} {bs : List BR} {sh : Nat → Int} {b : BR} {x : Int} (hb : b ∈ bs) (z : trS sh b = 0) (v : Vl hs bs sh b.one x) : Vl hs bs sh b.to (x + momH hs b.to) := by
  obtain ⟨n, hn⟩ := List.getElem?_of_mem hb
  obtain ⟨one, ns, h1, h2, h3, h4⟩ := v
  refine ⟨one, ns ++ [n], h1, wayEnd_snoc h2 hn rfl, ?_, ?_⟩ <;> rw [wayCo_snoc hn]
  · show (wayCo hs bs one ns).1 + (b.th.length : Int) + sh b.to - sh one = 0
    unfold trS at z
    omega
  · show (wayCo hs bs one ns).2 + momH hs b.to = _
    rw [h4]
theorem Rch.vl {hs : List HR} {bs : List BR} {l : Option Nat} {T : Int} {sh : Nat → Int} (r : Rch hs bs l T sh) {k : Nat} {x : Int} (v : Vl hs bs sh k x) : x ≤ T := by
  obtain ⟨one, ns, h1, h2, h3, h4⟩ := v
  have := r.ways one ns k h1 h2
  rw [h4] at this
  unfold ndd at this
  split at this <;> omega
section
variable {P : Program} {w : World} {K : PySem.W.Frag} {mg : Str → Option Value} {base : Heap}
/-- what is told: shifts, or a bar -/
def Tld (hs : List HR) (bs : List BR) (late : Option Nat) (T : Int) (H : Hp) (p : Addr) : Prop :=
  (∃ (p' : Addr) (sh : Nat → Int), H p = some (.tup [.str "shifts", .ref p']) ∧ H p' = some (.tup (levL hs.length sh)) ∧ Shf hs bs late T sh) ∨
  ∃ (p' : Addr) (pv : List V) (ws : List Wy), H p = some (.tup [.str "bar", .ref p']) ∧ H p' = some (.tup pv) ∧ All2 (PrAt H) pv ws ∧ ws.length ≤ hs.length ∧ Bar hs bs late T ws ∧ ¬ FA hs bs late T
theorem Tld.keep {hs : List HR} {bs : List BR} {late : Option Nat} {T : Int} {H H' : Hp} {p : Addr} (h : Tld hs bs late T H p) (k : TK H H') : Tld hs bs late T H' p := by
  rcases h with ⟨p', sh, h1, h2, h3⟩ | ⟨p', pv, ws, h1, h2, h3, h4⟩
  · exact .inl ⟨p', sh, k _ _ h1, k _ _ h2, h3⟩
  · exact .inr ⟨p', pv, ws, k _ _ h1, k _ _ h2, h3.imp fun _ _ z => z.keep k, h4⟩
def sp_shifts_or_bar (K : PySem.W.Frag) : Sp := fun vs H Q _ => ∃ (r : Addr) (hs : List HR) (bs : List BR) (late : Option Nat) (T : Int), vs = [.ref r, lateV late, .int T] ∧ RoomAt H r hs bs ∧ RoomOk hs bs ∧ 0 < hs.length ∧
  ∀ (p : Addr) (H' : Hp), Tld hs bs late T H' p → Same H H' → Q (.ref p) H'
theorem ok_shifts_or_bar {f : Addr} {fd : FuncData} (F : Fun K "shifts_or_bar" "shifts_or_bar" s_shifts_or_bar f fd) (T : Top K mg) : FnOk P w K mg base CX0 4 f fd ["room", "late", "time"] (sp_shifts_or_bar K) := by
  obtain ⟨f_paper_by, fd_paper_by, F_paper_by, b_paper_by, m_paper_by⟩ := T.d_paper_by
  have G_paper_by := ok_paper_by (P := P) (w := w) (base := base) F_paper_by T
  obtain ⟨f_least_ways, fd_least_ways, F_least_ways, b_least_ways, m_least_ways⟩ := T.d_least_ways
  have G_least_ways := ok_least_ways (P := P) (w := w) (base := base) F_least_ways T
  refine F.ok sc_shifts_or_bar (fun vs H Q E h => ?_) (fun cdv A outer s H vs Q E hr h => ?_)
  · obtain ⟨r, hs, bs, late, T', rfl, _⟩ := h
    rfl
  obtain ⟨r, hs, bs, late, T', rfl, hR, ok, pos, q⟩ := h
  refine ⟨_, (pss_one (ps_ret (pe_call G_paper_by (hr.mono (by decide)) (by rfl) m_paper_by F_paper_by.kp b_paper_by .nil pass0 (pa_cons (pv 0) (pa_cons (pv 1) (pa_cons (pv 2) (pa_cons (pe_call G_least_ways (hr.mono (by decide)) (by rfl) m_least_ways F_least_ways.kp b_least_ways .nil pass0 (pa_cons (pv 0) pa_nil)) pa_nil))))))), ?_⟩
  refine ⟨_, rfl, _, rfl, _, rfl, _, rfl, r, hs, bs, rfl, hR, ok, fun wl yv ys H1 nwl hwl aly aw s1 => ?_⟩
  refine ⟨r, wl, hs, bs, late, T', yv, ys, rfl, hR.keep (TK.same s1), ok, hwl, aly, aw, fun p p' sh H2 h1 h2 h3 s2 => ?_, fun p p' pv ws H2 h1 h2 h3 h4 h5 h6 s2 => ?_⟩
  · exact q p H2 (.inl ⟨p', sh, h1, h2, h3⟩) (s1.trans s2)
  · exact q p H2 (.inr ⟨p', pv, ws, h1, h2, h3, h4, h5, h6⟩) (s1.trans s2)
end
/-- how many bells shifts wait -/
structure Wait (n : Nat) (sh : Nat → Int) (w : Int) : Prop where
  nn : 0 ≤ w
  le : ∀ k, k < n → sh k ≤ w
  at_ : w = 0 ∨ ∃ k, k < n ∧ sh k = w
/-! ### the ground: steps between places -/
def plH (hs : List HR) (k : Nat) : Nat := if k ∈ doorsOf "in" hs ∨ k ∈ doorsOf "out" hs then hs.length else k
def abH (hs : List HR) (l : Nat) (k : Nat) : Int := if k ∈ doorsOf "out" hs then ((l : Nat) : Int) else 0
abbrev gYs (hs : List HR) (ys : List Wy) : List Wy := ys.filter fun y => decide (plH hs y.one ≠ plH hs y.e)
def gStep (hs : List HR) (l : Nat) (T : Int) (y : Wy) : St3 := ⟨plH hs y.one, plH hs y.e, ndd y.c.2 T - y.c.1 - abH hs l y.e⟩
abbrev gSt (hs : List HR) (ys : List Wy) (l : Nat) (T : Int) : List St3 := (gYs hs ys).map (gStep hs l T)
def capsOf (n : Nat) (M : Int) : List St3 := (List.range n).map fun k => ⟨k, n, -M⟩
theorem pl_in {hs : List HR} {k : Nat} (h : k ∈ doorsOf "in" hs) : plH hs k = hs.length := if_pos (.inl h)
theorem pl_out {hs : List HR} {k : Nat} (h : k ∈ doorsOf "out" hs) : plH hs k = hs.length := if_pos (.inr h)
theorem pl_hand {hs : List HR} {k : Nat} (h1 : k ∉ doorsOf "in" hs) (h2 : k ∉ doorsOf "out" hs) : plH hs k = k := if_neg fun z => z.elim h1 h2
theorem pl_le {hs : List HR} {k : Nat} (h : k < hs.length) : plH hs k ≤ hs.length := by unfold plH; split <;> omega
theorem pl_lt {hs : List HR} {k : Nat} (h : plH hs k < hs.length) : k ∉ doorsOf "in" hs ∧ k ∉ doorsOf "out" hs ∧ plH hs k = k := by
  by_cases a : k ∈ doorsOf "in" hs
  · rw [pl_in a] at h; omega
  · by_cases b : k ∈ doorsOf "out" hs
    · rw [pl_out b] at h; omega
    · exact ⟨a, b, pl_hand a b⟩
theorem pl_top {hs : List HR} {k : Nat} (kl : k < hs.length) (h : plH hs k = hs.length) : k ∈ doorsOf "in" hs ∨ k ∈ doorsOf "out" hs := by
  by_cases z : k ∈ doorsOf "in" hs ∨ k ∈ doorsOf "out" hs
  · exact z
  · unfold plH at h; rw [if_neg z] at h; omega
theorem ab_in {hs : List HR} {l k : Nat} (h : k ∈ doorsOf "in" hs) : abH hs l k = 0 := if_neg fun z => door_one h z
theorem ab_out {hs : List HR} {l k : Nat} (h : k ∈ doorsOf "out" hs) : abH hs l k = ((l : Nat) : Int) := if_pos h
theorem ab_no {hs : List HR} {l k : Nat} (h : k ∉ doorsOf "out" hs) : abH hs l k = 0 := if_neg h
theorem best_end {hs : List HR} {bs : List BR} (ok : RoomOk hs bs) {y : Wy} (o : WyOk hs bs y) : y.e < hs.length := way_lt (fun b hb => (ok.ends b hb).2) o.lt o.we
/-- no way but the one without belts begins at an out door, or ends at an in door -/
theorem way_out {hs : List HR} {bs : List BR} (ok : RoomOk hs bs) {one e : Nat} {ns : List Nat} (h : wayEnd bs one ns = some e) (z : one ∈ doorsOf "out" hs) : ns = [] ∧ e = one := by
  cases ns with
  | nil => cases h; exact ⟨rfl, rfl⟩
  | cons n ns =>
    cases eb : bs[n]? with
    | none => rw [wayEnd_none eb] at h; cases h
    | some b =>
      rw [wayEnd_cons eb] at h
      by_cases y : b.one = one
      · exact absurd (y ▸ z) (one_out ok (List.mem_of_getElem? eb))
      · rw [if_neg y] at h; cases h
theorem way_in {hs : List HR} {bs : List BR} (ok : RoomOk hs bs) {one e : Nat} {ns : List Nat} (h : wayEnd bs one ns = some e) (z : e ∈ doorsOf "in" hs) : ns = [] ∧ e = one := by
  rcases List.eq_nil_or_concat ns with rfl | ⟨ms, n, rfl⟩
  · cases h; exact ⟨rfl, rfl⟩
  · rw [List.concat_eq_append] at h
    obtain ⟨b, eb, _, h2⟩ := wayEnd_unsnoc h
    exact absurd (h2 ▸ z) (to_in ok (List.mem_of_getElem? eb))
/-- levels of the ground from shifts -/
def lvS (hs : List HR) (sh : Nat → Int) (k : Nat) : Int := if k ∈ doorsOf "in" hs ∨ k ∈ doorsOf "out" hs ∨ k = hs.length then 0 else sh k
theorem sh_pl {hs : List HR} {bs : List BR} {l : Nat} {T : Int} {sh : Nat → Int} (r : Rch hs bs (some l) T sh) {k : Nat} (kl : k < hs.length) : sh k = lvS hs sh (plH hs k) + abH hs l k := by
  have top : lvS hs sh hs.length = 0 := if_pos (.inr (.inr rfl))
  by_cases a : k ∈ doorsOf "in" hs
  · rw [pl_in a, ab_in a, top, r.ins k a]; rfl
  · by_cases b : k ∈ doorsOf "out" hs
    · obtain ⟨to, o1, o2, _⟩ := r.outs
      rw [pl_out b, ab_out b, top, o1 k b, o2 l rfl]; omega
    · rw [pl_hand a b, ab_no b]
      unfold lvS
      rw [if_neg fun z => z.elim a fun z => z.elim b fun z => by omega]
      omega
theorem gy_mem {hs : List HR} {ys : List Wy} {y : Wy} (h : y ∈ gYs hs ys) : y ∈ ys ∧ plH hs y.one ≠ plH hs y.e := by
  obtain ⟨h1, h2⟩ := List.mem_filter.mp h
  exact ⟨h1, of_decide_eq_true h2⟩
theorem gy_one {hs : List HR} {bs : List BR} {ys : List Wy} (ok : RoomOk hs bs) (aw : AllWays hs bs ys) {y : Wy} (h : y ∈ gYs hs ys) : y.one ∉ doorsOf "out" hs ∧ y.e ∉ doorsOf "in" hs := by
  obtain ⟨h1, h2⟩ := gy_mem h
  have o := aw.ok y h1
  exact ⟨fun z => h2 (by rw [(way_out ok o.we z).2]), fun z => h2 (by rw [(way_in ok o.we z).2])⟩
theorem ground_fits {hs : List HR} {bs : List BR} {ys : List Wy} {l : Nat} {T : Int} {sh : Nat → Int} (ok : RoomOk hs bs) (aw : AllWays hs bs ys) (r : Rch hs bs (some l) T sh) : ∀ s ∈ gSt hs ys l T, lvS hs sh s.u + s.w ≤ lvS hs sh s.v := fun s h => by
  obtain ⟨y, hy, rfl⟩ := List.mem_map.mp h
  obtain ⟨h1, h2⟩ := gy_mem hy
  have o := aw.ok y h1
  have q := r.ways y.one y.ns y.e o.lt o.we
  rw [o.wc, sh_pl r o.lt, sh_pl r (best_end ok o), ab_no (gy_one ok aw hy).1] at q
  show lvS hs sh (plH hs y.one) + (ndd y.c.2 T - y.c.1 - abH hs l y.e) ≤ lvS hs sh (plH hs y.e)
  omega
/-- shifts from levels of the ground -/
def shL (hs : List HR) (l : Nat) (lv : Nat → Int) (k : Nat) : Int := lv (plH hs k) + abH hs l k - lv hs.length
theorem ground_rch {hs : List HR} {bs : List BR} {ys : List Wy} {l : Nat} {T : Int} {s0 lv : Nat → Int} (ok : RoomOk hs bs) (aw : AllWays hs bs ys) (r : Rch hs bs (some l) T s0) (f : ∀ s ∈ gSt hs ys l T, lv s.u + s.w ≤ lv s.v) : Rch hs bs (some l) T (shL hs l lv) := by
  refine ⟨fun k hk => by unfold shL; rw [pl_in hk, ab_in hk]; omega, ⟨((l : Nat) : Int), fun k hk => by unfold shL; rw [pl_out hk, ab_out hk]; omega, fun _ e => by cases e; rfl, fun z => nomatch z⟩, fun one ns e ho h => ?_⟩
  obtain ⟨c, b1, b2⟩ := best_way ok ho h
  obtain ⟨y, hy, rfl, rfl⟩ := aw.all one e c ho b1
  have o := aw.ok y hy
  have ec : y.c = c := Option.some.inj (o.b.symm.trans b1)
  subst ec
  have q0 := r.ways y.one y.ns y.e o.lt o.we
  rw [o.wc] at q0
  have main : shL hs l lv y.one + (ndd y.c.2 T - y.c.1) ≤ shL hs l lv y.e := by
    by_cases z : plH hs y.one = plH hs y.e
    · rw [sh_pl r o.lt, sh_pl r (best_end ok o), z] at q0
      unfold shL
      rw [z]
      omega
    · have m : y ∈ gYs hs ys := List.mem_filter.mpr ⟨hy, decide_eq_true z⟩
      have q := f _ (List.mem_map.mpr ⟨y, m, rfl⟩)
      have q : lv (plH hs y.one) + (ndd y.c.2 T - y.c.1 - abH hs l y.e) ≤ lv (plH hs y.e) := q
      unfold shL
      rw [ab_no (gy_one ok aw m).1]
      omega
  unfold ndd at *
  unfold coLe at b2
  split at main <;> split <;> omega
/-! ### a ring with a cap, and the path that is left -/
theorem stepEnd_app {st : List St3} : ∀ {ks ms : List Nat} {p q : Nat}, stepEnd st p ks = some q → stepEnd st p (ks ++ ms) = stepEnd st q ms
  | [], ms, p, q, h => by cases h; rfl
  | k :: ks, ms, p, q, h => by
    cases e : st[k]? with
    | none =>
      have : stepEnd st p (k :: ks) = none := by
        show (match st[k]? with | some s => if s.u = p then stepEnd st s.v ks else none | none => none) = none
        rw [e]
      rw [this] at h; cases h
    | some s =>
      rw [stepEnd_cons e] at h
      rw [List.cons_append, stepEnd_cons e]
      by_cases z : s.u = p
      · rw [if_pos z] at h ⊢
        exact stepEnd_app h
      · rw [if_neg z] at h; cases h
theorem stepEnd_split {st : List St3} : ∀ {ks ms : List Nat} {p q : Nat}, stepEnd st p (ks ++ ms) = some q → ∃ m, stepEnd st p ks = some m ∧ stepEnd st m ms = some q
  | [], ms, p, q, h => ⟨p, rfl, h⟩
  | k :: ks, ms, p, q, h => by
    cases e : st[k]? with
    | none =>
      have : stepEnd st p (k :: ks ++ ms) = none := by
        show (match st[k]? with | some s => if s.u = p then stepEnd st s.v (ks ++ ms) else none | none => none) = none
        rw [e]
      rw [this] at h; cases h
    | some s =>
      rw [List.cons_append, stepEnd_cons e] at h
      rw [stepEnd_cons e]
      by_cases z : s.u = p
      · rw [if_pos z] at h ⊢
        exact stepEnd_split h
      · rw [if_neg z] at h; cases h
theorem stepEnd_left {st cs : List St3} : ∀ {ks : List Nat} {p q : Nat}, (∀ k ∈ ks, k < st.length) → stepEnd (st ++ cs) p ks = some q → stepEnd st p ks = some q
  | [], p, q, _, h => h
  | k :: ks, p, q, l, h => by
    have kl := l k (List.mem_cons_self ..)
    have e : st[k]? = some st[k] := List.getElem?_eq_getElem kl
    have e2 : (st ++ cs)[k]? = some st[k] := by rw [List.getElem?_append_left kl]; exact e
    rw [stepEnd_cons e2] at h
    rw [stepEnd_cons e]
    by_cases z : st[k].u = p
    · rw [if_pos z] at h ⊢
      exact stepEnd_left (fun j hj => l j (List.mem_cons_of_mem _ hj)) h
    · rw [if_neg z] at h; cases h
theorem wS_left {st cs : List St3} {ks : List Nat} (l : ∀ k ∈ ks, k < st.length) : ks.map (wS (st ++ cs)) = ks.map (wS st) := List.map_congr_left fun k hk => by
  unfold wS
  rw [List.getElem?_append_left (l k hk)]
/-- a path from the ground to a hand, of more than many -/
structure PathOk (n : Nat) (st : List St3) (M : Int) (ks : List Nat) : Prop where
  lt : ∀ k ∈ ks, k < st.length
  ln : ks.length ≤ n
  go : ∃ h, h < n ∧ stepEnd st n ks = some h
  gt : M < (ks.map (wS st)).sum
theorem cap_path {n : Nat} {st : List St3} {M : Int} {A B : List Nat} {c : Nat} (fs : Feas st) (r : RingOk (st ++ capsOf n M) (A ++ c :: B)) (big : ∀ k ∈ A ++ c :: B, k ≤ c) (ln : (A ++ c :: B).length ≤ n + 1) : PathOk n st M (B ++ A) ∧ st.length ≤ c := by
  have lc : (capsOf n M).length = n := by unfold capsOf; rw [List.length_map, List.length_range]
  have capat : ∀ k, st.length ≤ k → k < (st ++ capsOf n M).length → (st ++ capsOf n M)[k]? = some ⟨k - st.length, n, -M⟩ := fun k h1 h2 => by
    rw [List.length_append, lc] at h2
    rw [List.getElem?_append_right h1]
    unfold capsOf
    rw [List.getElem?_map, List.getElem?_range (by omega)]
    rfl
  have cl : st.length ≤ c := by
    refine Nat.le_of_not_lt fun z => ?_
    have all : ∀ k ∈ A ++ c :: B, k < st.length := fun k hk => by have := big k hk; omega
    obtain ⟨p, hp⟩ := r.cl
    refine RingOk.not_feas (st := st) (ks := A ++ c :: B) ⟨r.ne, all, ⟨p, stepEnd_left all hp⟩, ?_, ?_⟩ fs
    · have := r.pos
      rw [wS_left all] at this
      exact this
    · have := r.nd
      rw [show (A ++ c :: B).map (toS (st ++ capsOf n M)) = (A ++ c :: B).map (toS st) from List.map_congr_left fun k hk => by unfold toS; rw [List.getElem?_append_left (all k hk)]] at this
      exact this
  have cm : c ∈ A ++ c :: B := List.mem_append_right _ (List.mem_cons_self ..)
  have ec := capat c cl (r.lt c cm)
  have only : ∀ k ∈ B ++ A, k < st.length := fun k hk => by
    refine Nat.lt_of_not_le fun z => ?_
    have km : k ∈ A ++ c :: B := by
      rcases List.mem_append.mp hk with y | y
      · exact List.mem_append_right _ (List.mem_cons_of_mem _ y)
      · exact List.mem_append_left _ y
    have ek := capat k z (r.lt k km)
    have nd := r.nd
    rw [List.map_append, List.map_cons, toS_some ec] at nd
    obtain ⟨n1, n2, n3⟩ := List.nodup_append.mp nd
    have vk : toS (st ++ capsOf n M) k = n := toS_some ek
    rcases List.mem_append.mp hk with y | y
    · exact (List.nodup_cons.mp n2).1 (List.mem_map.mpr ⟨k, y, vk⟩)
    · exact n3 n (List.mem_map.mpr ⟨k, y, vk⟩) n (List.mem_cons_self ..) rfl
  obtain ⟨p, hp⟩ := r.cl
  obtain ⟨m, h1, h2⟩ := stepEnd_split hp
  rw [stepEnd_cons ec] at h2
  by_cases z : c - st.length = m
  · rw [if_pos z] at h2
    have cb := r.lt c cm
    rw [List.length_append, lc] at cb
    refine ⟨⟨only, by rw [List.length_append] at ln ⊢; rw [List.length_cons] at ln; omega, ⟨m, by omega, stepEnd_left only ((stepEnd_app h2).trans h1)⟩, ?_⟩, cl⟩
    have pos := r.pos
    rw [List.map_append, List.map_cons, List.sum_append, List.sum_cons, wS_some ec] at pos
    rw [← wS_left (cs := capsOf n M) only, List.map_append, List.sum_append]
    have pos : 0 < (A.map (wS (st ++ capsOf n M))).sum + (-M + (B.map (wS (st ++ capsOf n M))).sum) := pos
    omega
  · rw [if_neg z] at h2; cases h2
/-- a walk from an in door, of just so many more than its trays -/
structure Wk (hs : List HR) (bs : List BR) (l : Nat) (T : Int) (M : Int) (y : Wy) (ws : List Wy) : Prop where
  ok : ∀ x ∈ y :: ws, WyOk hs bs x
  in_ : y.one ∈ doorsOf "in" hs
  go : okW hs (some l) y.one (y :: ws)
  num : ndS T (y :: ws) - costW (some l) y.one (y :: ws) = M
theorem path_scan {hs : List HR} {bs : List BR} {ys : List Wy} {l : Nat} {T : Int} (ok : RoomOk hs bs) (aw : AllWays hs bs ys) : ∀ (ks : List Nat) (p q e : Nat), (∀ k ∈ ks, k < (gSt hs ys l T).length) → stepEnd (gSt hs ys l T) p ks = some q → e < hs.length → e ∉ doorsOf "in" hs → plH hs e = p → q < hs.length →
    okW hs (some l) e (waysOf (gYs hs ys) ks) ∧ (ks.map (wS (gSt hs ys l T))).sum = ndS T (waysOf (gYs hs ys) ks) - costW (some l) e (waysOf (gYs hs ys) ks) + abH hs l e
  | [], p, q, e, _, h, el, ei, ep, ql => by
    cases h
    refine ⟨trivial, ?_⟩
    rw [← ep] at ql
    rw [ab_no (pl_lt ql).2.1]
    show (0 : Int) = 0 - 0 + 0
    omega
  | k :: ks, p, q, e, lt, h, el, ei, ep, ql => by
    have kl := lt k (List.mem_cons_self ..)
    rw [List.length_map] at kl
    have ey : (gYs hs ys)[k]? = some (gYs hs ys)[k] := List.getElem?_eq_getElem kl
    generalize (gYs hs ys)[k] = y at ey
    have ym := List.mem_of_getElem? ey
    have o := aw.ok y (gy_mem ym).1
    have es : (gSt hs ys l T)[k]? = some (gStep hs l T y) := by rw [List.getElem?_map, ey]; rfl
    rw [stepEnd_cons es] at h
    have h : (if plH hs y.one = p then stepEnd (gSt hs ys l T) (plH hs y.e) ks else none) = some q := h
    by_cases z : plH hs y.one = p
    · rw [if_pos z] at h
      obtain ⟨no, ne⟩ := gy_one ok aw ym
      obtain ⟨i1, i2⟩ := path_scan ok aw ks _ q y.e (fun j hj => lt j (List.mem_cons_of_mem _ hj)) h (best_end ok o) ne rfl ql
      rw [waysOf_some ey, List.map_cons, List.sum_cons, wS_some es, i2]
      have z2 : plH hs y.one = plH hs e := z.trans ep.symm
      have jm : Jmp hs (some l) e y.one ∧ jmpN (some l) e y.one = abH hs l e := by
        by_cases t : plH hs e = hs.length
        · have eo : e ∈ doorsOf "out" hs := (pl_top el t).elim (fun w => absurd w ei) id
          have yi : y.one ∈ doorsOf "in" hs := (pl_top o.lt (z2.trans t)).elim id (fun w => absurd w no)
          have dif : e ≠ y.one := fun w => no (w ▸ eo)
          exact ⟨.inr ⟨rfl, eo, yi⟩, by unfold jmpN; rw [if_neg dif, ab_out eo]⟩
        · have l1 : plH hs e < hs.length := by have := pl_le el; omega
          obtain ⟨_, b2, b3⟩ := pl_lt l1
          obtain ⟨_, _, c3⟩ := pl_lt (z2 ▸ l1 : plH hs y.one < hs.length)
          have e1 : e = y.one := by rw [← b3, ← c3, z2]
          exact ⟨.inl e1, by rw [e1, jmpN_self, ab_no (e1 ▸ b2)]⟩
      refine ⟨⟨jm.1, i1⟩, ?_⟩
      show ndd y.c.2 T - y.c.1 - abH hs l y.e + (ndS T (waysOf (gYs hs ys) ks) - costW (some l) y.e (waysOf (gYs hs ys) ks) + abH hs l y.e) = ((y :: waysOf (gYs hs ys) ks).map fun y => ndd y.c.2 T).sum - (jmpN (some l) e y.one + y.c.1 + costW (some l) y.e (waysOf (gYs hs ys) ks)) + abH hs l e
      rw [List.map_cons, List.sum_cons, jm.2]
      unfold ndS
      omega
    · rw [if_neg z] at h; cases h
theorem path_walk {hs : List HR} {bs : List BR} {ys : List Wy} {l : Nat} {T M : Int} {ks : List Nat} (ok : RoomOk hs bs) (aw : AllWays hs bs ys) (p : PathOk hs.length (gSt hs ys l T) M ks) : ∃ y ws, waysOf (gYs hs ys) ks = y :: ws ∧ Wk hs bs l T (ks.map (wS (gSt hs ys l T))).sum y ws := by
  obtain ⟨h, hl, he⟩ := p.go
  cases ks with
  | nil => cases he; omega
  | cons k ks =>
    have kl := p.lt k (List.mem_cons_self ..)
    rw [List.length_map] at kl
    have ey : (gYs hs ys)[k]? = some (gYs hs ys)[k] := List.getElem?_eq_getElem kl
    generalize (gYs hs ys)[k] = y at ey
    have ym := List.mem_of_getElem? ey
    have o := aw.ok y (gy_mem ym).1
    have es : (gSt hs ys l T)[k]? = some (gStep hs l T y) := by rw [List.getElem?_map, ey]; rfl
    rw [stepEnd_cons es] at he
    have he : (if plH hs y.one = hs.length then stepEnd (gSt hs ys l T) (plH hs y.e) ks else none) = some h := he
    by_cases z : plH hs y.one = hs.length
    · rw [if_pos z] at he
      obtain ⟨no, ne⟩ := gy_one ok aw ym
      have yi : y.one ∈ doorsOf "in" hs := (pl_top o.lt z).elim id (fun w => absurd w no)
      obtain ⟨i1, i2⟩ := path_scan ok aw ks _ h y.e (fun j hj => p.lt j (List.mem_cons_of_mem _ hj)) he (best_end ok o) ne rfl hl
      refine ⟨y, waysOf (gYs hs ys) ks, waysOf_some ey, fun x hx => ?_, yi, ⟨.inl rfl, i1⟩, ?_⟩
      · rw [← waysOf_some ey] at hx
        obtain ⟨j, _, hj⟩ := List.mem_filterMap.mp hx
        exact aw.ok x (gy_mem (List.mem_of_getElem? hj)).1
      · rw [List.map_cons, List.sum_cons, wS_some es, i2]
        show ((y :: waysOf (gYs hs ys) ks).map fun y => ndd y.c.2 T).sum - (jmpN (some l) y.one y.one + y.c.1 + costW (some l) y.e (waysOf (gYs hs ys) ks)) = ndd y.c.2 T - y.c.1 - abH hs l y.e + (ndS T (waysOf (gYs hs ys) ks) - costW (some l) y.e (waysOf (gYs hs ys) ks) + abH hs l y.e)
        rw [List.map_cons, List.sum_cons, jmpN_self]
        unfold ndS
        omega
    · rw [if_neg z] at he; cases he
/-- no shifts that reach the time wait for less than a path asks -/
theorem path_low {hs : List HR} {bs : List BR} {ys : List Wy} {l : Nat} {T M : Int} {ks : List Nat} {sh : Nat → Int} {W : Int} (ok : RoomOk hs bs) (aw : AllWays hs bs ys) (p : PathOk hs.length (gSt hs ys l T) M ks) (r : Rch hs bs (some l) T sh) (w0 : 0 ≤ W) (wle : ∀ k, k < hs.length → sh k ≤ W) : (ks.map (wS (gSt hs ys l T))).sum ≤ W := by
  obtain ⟨h, hl, he⟩ := p.go
  have q := step_sum (ground_fits ok aw r) he
  have top : lvS hs sh hs.length = 0 := if_pos (.inr (.inr rfl))
  have le : lvS hs sh h ≤ W := by
    unfold lvS
    split
    · exact w0
    · exact wle h hl
  omega
theorem Wait.ex (sh : Nat → Int) : ∀ n : Nat, ∃ w, Wait n sh w
  | 0 => ⟨0, ⟨Int.le_refl _, fun k h => absurd h (Nat.not_lt_zero _), .inl rfl⟩⟩
  | n + 1 => by
    obtain ⟨w, a, b, c⟩ := Wait.ex sh n
    by_cases z : sh n ≤ w
    · refine ⟨w, a, fun k hk => ?_, c.imp id fun ⟨k, h1, h2⟩ => ⟨k, by omega, h2⟩⟩
      by_cases y : k = n
      · rw [y]; exact z
      · exact b k (by omega)
    · refine ⟨sh n, by omega, fun k hk => ?_, .inr ⟨n, by omega, rfl⟩⟩
      by_cases y : k = n
      · rw [y]; exact Int.le_refl _
      · have := b k (by omega); omega
def baseW (hs : List HR) (l : Nat) : Int := if doorsOf "out" hs = [] then 0 else ((l : Nat) : Int)
theorem base_nn {hs : List HR} {l : Nat} : 0 ≤ baseW hs l := by unfold baseW; split <;> omega
theorem base_le {hs : List HR} {bs : List BR} {l : Nat} {T W : Int} {sh : Nat → Int} (r : Rch hs bs (some l) T sh) (w : Wait hs.length sh W) : baseW hs l ≤ W := by
  unfold baseW
  split
  · exact w.nn
  · rename_i ne
    obtain ⟨d, hd⟩ := List.exists_mem_of_ne_nil _ ne
    obtain ⟨to, o1, o2, _⟩ := r.outs
    have := w.le d (door_lt hd)
    rw [o1 d hd, o2 l rfl] at this
    exact this
/-- the told walk: none where nothing bars fewer than the doors do -/
def WkV (hs : List HR) (bs : List BR) (l : Nat) (T M : Int) (H : Hp) (y : V) : Prop := (M = baseW hs l ∧ y = .non) ∨ (baseW hs l < M ∧ ∃ (p : Addr) (qv : List V) (x : Wy) (ws : List Wy), y = .ref p ∧ H p = some (.tup qv) ∧ All2 (PrAt H) qv (x :: ws) ∧ ws.length < hs.length ∧ Wk hs bs l T M x ws)
theorem WkV.keep {hs : List HR} {bs : List BR} {l : Nat} {T M : Int} {H H' : Hp} {y : V} (h : WkV hs bs l T M H y) (k : TK H H') : WkV hs bs l T M H' y := by
  rcases h with h | ⟨h0, p, qv, x, ws, h1, h2, h3, h4⟩
  · exact .inl h
  · exact .inr ⟨h0, p, qv, x, ws, h1, k _ _ h2, h3.imp fun _ _ z => z.keep k, h4⟩
def PlAt (H : Hp) (v : V) (p : Nat × Int) : Prop := ∃ t : Addr, v = .ref t ∧ H t = some (.tup [nV p.1, .int p.2])
theorem PlAt.keep {H H' : Hp} {v : V} {p : Nat × Int} (h : PlAt H v p) (k : TK H H') : PlAt H' v p := by
  obtain ⟨t, e, h⟩ := h
  exact ⟨t, e, k _ _ h⟩
abbrev plL (hs : List HR) (l : Nat) : List (Nat × Int) := (List.range hs.length).map fun k => (plH hs k, abH hs l k)
theorem pl_at {hs : List HR} {l k : Nat} (h : k < hs.length) : (plL hs l)[k]? = some (plH hs k, abH hs l k) := by
  rw [List.getElem?_map, List.getElem?_range h]; rfl
section
variable {P : Program} {w : World} {K : PySem.W.Frag} {mg : Str → Option Value} {base : Heap}
def sp_hand_places (K : PySem.W.Frag) : Sp := fun vs H Q _ => ∃ (r : Addr) (hs : List HR) (bs : List BR) (l : Nat), vs = [.ref r, nV l] ∧ RoomAt H r hs bs ∧ RoomOk hs bs ∧
  ∀ (p : Addr) (pv : List V) (H' : Hp), H p = none → H' p = some (.lst pv) → All2 (PlAt H') pv (plL hs l) → Same H H' → Q (.ref p) H'
theorem ok_hand_places {f : Addr} {fd : FuncData} (F : Fun K "hand_places" "hand_places" s_hand_places f fd) (T : Top K mg) : FnOk P w K mg base CX0 1 f fd ["room", "late"] (sp_hand_places K) := by
  refine F.ok sc_hand_places (fun vs H Q E h => ?_) (fun cdv A outer s H vs Q E hr h => ?_)
  · obtain ⟨r, hs, bs, l, rfl, _⟩ := h
    rfl
  obtain ⟨aI, mI, hI⟩ := T.x_in
  obtain ⟨aO, mO, hO⟩ := T.x_out
  obtain ⟨r, hs, bs, l, rfl, hR, ok, q⟩ := h
  obtain ⟨ha, ba, hv, bv, er, eh, eb, alh, alb⟩ := hR.ex
  have lhv := alh.length
  have lh := ok.hands
  refine ⟨_, (pss_cons (ps_set (i := 2) sc_hand_places.nd rfl (Or.inl rfl) (pe_callB (call_len_seqK K rfl) (by rfl) T.m_len (by decide +kernel) (pa_cons (pe_ix (ix_tupK K rfl) (pv 0) pe_int (fun _ _ => rfl)) pa_nil)))
      (pss_cons (ps_set (i := 3) sc_hand_places.nd rfl (Or.inl rfl) (pe_lst pa_nil))
      (pss_cons (ps_for PassesOwn.never rfl (pi_enumT K rfl (by rfl) T.m_enumerate (pa_cons (pe_ix (ix_tupK K rfl) (pv 0) pe_int (fun _ _ => rfl)) pa_nil)) (pg_tupK K rfl rfl (pgs_cons (pg_name (i := 4) sc_hand_places.nd rfl (Or.inl rfl)) (pgs_cons (pg_tupK K rfl rfl (pgs_cons (pg_name (i := 5) sc_hand_places.nd rfl (Or.inl rfl)) (pgs_cons (pg_name (i := 6) sc_hand_places.nd rfl (Or.inl rfl)) pgs_nil))) pgs_nil)))
        (pss_one (ps_if (pt_cmpR (op_eqDK K rfl hr.units) (pv 5) (pe_glob (v := .ref aI) (by rfl) mI rfl) (nomark _)) (pss_one (ps_expr (pe_bmK K rfl PySem.F.plainAttrs_list PySem.F.slot_list_append PySem.F.type_list_append mt_append (pv 3) (pa_cons (pe_tup (pa_cons (pv 2) (pa_cons pe_int pa_nil))) pa_nil)))) (pss_one (ps_if (pt_cmpR (op_eqDK K rfl hr.units) (pv 5) (pe_glob (v := .ref aO) (by rfl) mO rfl) (nomark _)) (pss_one (ps_expr (pe_bmK K rfl PySem.F.plainAttrs_list PySem.F.slot_list_append PySem.F.type_list_append mt_append (pv 3) (pa_cons (pe_tup (pa_cons (pv 2) (pa_cons (pv 1) pa_nil))) pa_nil)))) (pss_one (ps_expr (pe_bmK K rfl PySem.F.plainAttrs_list PySem.F.slot_list_append PySem.F.type_list_append mt_append (pv 3) (pa_cons (pe_tup (pa_cons (pv 4) (pa_cons pe_int pa_nil))) pa_nil)))))))))
      (pss_one (ps_ret (pv 3)))))), ?_⟩
  refine ⟨_, rfl, r, _, _, _, rfl, rfl, SqT.of er, atI_nat (j := 0) rfl, ha, _, rfl, .inr (SqT.of eh), ?_⟩
  refine ⟨(by show 0 ≤ sizeLine; decide), fun pl npl => ?_⟩
  have s1 := same_new (o := .lst []) npl
  have hpl : (upd H pl (.lst [])) pl = some (.lst []) := upd_same
  generalize upd H pl (.lst []) = H1 at s1 hpl ⊢
  refine ⟨_, rfl, r, _, _, _, rfl, rfl, SqT.of (s1 _ _ er), atI_nat (j := 0) rfl, ha, hv, rfl, SqT.of (s1 _ _ eh), for_it (J := IteT K ha hv) (n := hv.length) (fun i σ H5 => ∃ (pv : List V) (v4 v5 v6 : Option V), σ = [some (.ref r), some (nV l), some (.int ((hv.length : Nat) : Int)), some (.ref pl), v4, v5, v6] ∧ H5 pl = some (.lst pv) ∧ All2 (PlAt H5) pv ((List.range i).map fun k => (plH hs k, abH hs l k)) ∧ (∀ b o, H b = some o → H5 b = some o)) ⟨[], none, none, none, rfl, hpl, .nil, fun b o e => s1 _ _ e⟩ ?_ ?_ ?_ ?_⟩
  · rintro i σ H5 hi ⟨pv, v4, v5, v6, rfl, h5, al, s5⟩
    exact ⟨SqT.of (s5 _ _ eh), hi⟩
  · rintro σ H5 ⟨pv, v4, v5, v6, rfl, h5, al, s5⟩
    exact ⟨SqT.of (s5 _ _ eh), rfl⟩
  · rintro i x σ H5 H6 hi ⟨pv, v4, v5, v6, rfl, h5, al, s5⟩ ⟨t, y, rfl, nt, rfl, ey⟩
    obtain ⟨hh, eb2, ⟨t2, g, rfl, e1, e2⟩⟩ := alh.getL ey
    have gh := ok.good _ (List.mem_of_getElem? eb2)
    have il := (List.getElem?_eq_some_iff.mp eb2).1
    have s56 := same_new (o := .tup [V.int ((i : Nat) : Int), V.ref t2]) nt
    have s6 : Same H _ := Same.trans s5 s56
    have h6 := s56 _ _ h5
    have lpv := al.length
    rw [List.length_map, List.length_range] at lpv
    have inn : i ∈ doorsOf "in" hs ↔ hh.wd = "in" := ⟨fun z => by obtain ⟨h', q1, q2⟩ := mem_doors.mp z; rw [eb2] at q1; cases q1; exact q2, fun z => mem_doors.mpr ⟨hh, eb2, z⟩⟩
    have out : i ∈ doorsOf "out" hs ↔ hh.wd = "out" := ⟨fun z => by obtain ⟨h', q1, q2⟩ := mem_doors.mp z; rw [eb2] at q1; cases q1; exact q2, fun z => mem_doors.mpr ⟨hh, eb2, z⟩⟩
    refine ⟨t, _, rfl, SqT.of upd_same, rfl, _, _, rfl, _, _, rfl, t2, _, rfl, SqT.of (s6 _ _ e1), rfl, _, _, rfl, _, _, rfl, rfl, rfl, ?_⟩
    generalize upd H5 t (.tup [V.int ((i : Nat) : Int), V.ref t2]) = H6 at s56 s6 h6 ⊢
    -- what is appended
    have fin : ∀ (tt : Addr) (H7 : Hp) (p : Nat × Int), Same H6 H7 → H7 tt = some (.tup [nV p.1, .int p.2]) → p = (plH hs i, abH hs l i) → ∃ pv', upd H7 pl (.lst (pv ++ [V.ref tt])) pl = some (.lst pv') ∧ All2 (PlAt (upd H7 pl (.lst (pv ++ [V.ref tt])))) pv' ((List.range (i + 1)).map fun k => (plH hs k, abH hs l k)) ∧ (∀ b o, H b = some o → upd H7 pl (.lst (pv ++ [V.ref tt])) b = some o) := fun tt H7 p s7 ht ep => by
      have kk : TK H7 (upd H7 pl (.lst (pv ++ [V.ref tt]))) := TK.lst (s7 _ _ h6)
      refine ⟨_, upd_same, ?_, fun b o e => ?_⟩
      · rw [List.range_succ, List.map_append]
        exact ((al.imp fun _ _ z => z.keep (TK.same (s56.trans s7))).snoc ⟨tt, rfl, by rw [ht, ep]⟩).imp fun _ _ z => z.keep kk
      · rw [upd_ne (ne_of_none e npl)]
        exact s7 _ _ (s6 _ _ e)
    refine ⟨_, rfl, _, _, rule_dp (s6 _ _ e2), .tup (hI _) (.cons (.str _) .nil), rule_shaped gh.lay, one_shaped (by decide +kernel), _, rfl, ?_⟩
    rw [rule_eqv, gh.door "in" (.inl rfl)]
    by_cases c : hh.wd = "in"
    · rw [decide_eq_true c]
      refine if_bl (fun _ => ?_) (fun z => nomatch z)
      refine ⟨_, rfl, .inl ⟨rfl, _, SqL.of h6⟩, _, rfl, (by show 2 ≤ sizeLine; decide), fun tt ntt => ⟨pl, _, _, rfl, rfl, same_new ntt _ _ h6, small1000 (by omega), ?_⟩⟩
      obtain ⟨pv', q1, q2, q3⟩ := fin tt _ (hs.length, 0) (same_new (o := .tup [nV hv.length, V.int 0]) ntt) (by rw [upd_same, lhv]) (by rw [pl_in (inn.mpr c), ab_in (inn.mpr c)])
      exact ⟨pv', _, _, _, rfl, q1, q2, q3⟩
    · rw [decide_eq_false c]
      refine if_bl (fun z => nomatch z) (fun _ => ?_)
      refine ⟨_, rfl, _, _, rule_dp (s6 _ _ e2), .tup (hO _) (.cons (.str _) .nil), rule_shaped gh.lay, one_shaped (by decide +kernel), _, rfl, ?_⟩
      rw [rule_eqv, gh.door "out" (.inr rfl)]
      by_cases c2 : hh.wd = "out"
      · rw [decide_eq_true c2]
        refine if_bl (fun _ => ?_) (fun z => nomatch z)
        refine ⟨_, rfl, .inl ⟨rfl, _, SqL.of h6⟩, _, rfl, _, rfl, (by show 2 ≤ sizeLine; decide), fun tt ntt => ⟨pl, _, _, rfl, rfl, same_new ntt _ _ h6, small1000 (by omega), ?_⟩⟩
        obtain ⟨pv', q1, q2, q3⟩ := fin tt _ (hs.length, ((l : Nat) : Int)) (same_new (o := .tup [nV hv.length, nV l]) ntt) (by rw [upd_same, lhv]) (by rw [pl_out (out.mpr c2), ab_out (out.mpr c2)])
        exact ⟨pv', _, _, _, rfl, q1, q2, q3⟩
      · rw [decide_eq_false c2]
        refine if_bl (fun z => nomatch z) (fun _ => ?_)
        refine ⟨_, rfl, .inl ⟨rfl, _, SqL.of h6⟩, _, rfl, (by show 2 ≤ sizeLine; decide), fun tt ntt => ⟨pl, _, _, rfl, rfl, same_new ntt _ _ h6, small1000 (by omega), ?_⟩⟩
        obtain ⟨pv', q1, q2, q3⟩ := fin tt _ (i, 0) (same_new (o := .tup [nV i, V.int 0]) ntt) upd_same (by rw [pl_hand (fun z => c (inn.mp z)) (fun z => c2 (out.mp z)), ab_no fun z => c2 (out.mp z)])
        exact ⟨pv', _, _, _, rfl, q1, q2, q3⟩
  · rintro σ H5 ⟨pv, v4, v5, v6, rfl, h5, al, s5⟩
    rw [lhv] at al
    exact ⟨_, rfl, q pl pv H5 npl h5 al s5⟩
def sp_ground_steps (K : PySem.W.Frag) : Sp := fun vs H Q _ => ∃ (r : Addr) (hs : List HR) (bs : List BR) (l : Nat) (T : Int), vs = [.ref r, nV l, .int T] ∧ RoomAt H r hs bs ∧ RoomOk hs bs ∧
  ∀ (p wl sl : Addr) (wv sv : List V) (ys : List Wy) (H' : Hp), H' p = some (.tup [.ref wl, .ref sl]) → H' wl = some (.lst wv) → All2 (PrAt H') wv (gYs hs ys) → H' sl = some (.lst sv) → All2 (StepAt H') sv (gSt hs ys l T) → AllWays hs bs ys → Same H H' → Q (.ref p) H'
theorem ok_ground_steps {f : Addr} {fd : FuncData} (F : Fun K "ground_steps" "ground_steps" s_ground_steps f fd) (T : Top K mg) : FnOk P w K mg base CX0 3 f fd ["room", "late", "time"] (sp_ground_steps K) := by
  obtain ⟨f_hand_places, fd_hand_places, F_hand_places, b_hand_places, m_hand_places⟩ := T.d_hand_places
  have G_hand_places := ok_hand_places (P := P) (w := w) (base := base) F_hand_places T
  obtain ⟨f_least_ways, fd_least_ways, F_least_ways, b_least_ways, m_least_ways⟩ := T.d_least_ways
  have G_least_ways := ok_least_ways (P := P) (w := w) (base := base) F_least_ways T
  obtain ⟨f_needed, fd_needed, F_needed, b_needed, m_needed⟩ := T.d_needed
  have G_needed := ok_needed (P := P) (w := w) (base := base) F_needed T
  refine F.ok sc_ground_steps (fun vs H Q E h => ?_) (fun cdv A outer s H vs Q E hr h => ?_)
  · obtain ⟨r, hs, bs, l, T', rfl, _⟩ := h
    rfl
  obtain ⟨r, hs, bs, l, T', rfl, hR, ok, q⟩ := h
  have lh := ok.hands
  refine ⟨_, (pss_cons (ps_set (i := 3) sc_ground_steps.nd rfl (Or.inl rfl) (pe_call G_hand_places (hr.mono (by decide)) (by rfl) m_hand_places F_hand_places.kp b_hand_places .nil pass0 (pa_cons (pv 0) (pa_cons (pv 1) pa_nil))))
      (pss_cons (ps_set (i := 4) sc_ground_steps.nd rfl (Or.inl rfl) (pe_lst pa_nil))
      (pss_cons (ps_set (i := 5) sc_ground_steps.nd rfl (Or.inl rfl) (pe_lst pa_nil))
      (pss_cons (ps_for PassesOwn.never rfl (pi_listK K rfl (pe_call G_least_ways (hr.mono (by decide)) (by rfl) m_least_ways F_least_ways.kp b_least_ways .nil pass0 (pa_cons (pv 0) pa_nil))) (pg_tupK K rfl rfl (pgs_cons (pg_name (i := 6) sc_ground_steps.nd rfl (Or.inl rfl)) (pgs_cons (pg_name (i := 7) sc_ground_steps.nd rfl (Or.inl rfl)) (pgs_cons (pg_name (i := 8) sc_ground_steps.nd rfl (Or.inl rfl)) (pgs_cons (pg_name (i := 9) sc_ground_steps.nd rfl (Or.inl rfl)) pgs_nil)))))
        (pss_cons (ps_set (i := 10) sc_ground_steps.nd rfl (Or.inl rfl) (pe_ix (ix_tupK K rfl) (pe_ix (ix_listK K rfl) (pv 3) (pe_ix (ix_tupK K rfl) (pv 8) pe_int (fun _ _ => rfl)) (fun _ _ => rfl)) pe_int (fun _ _ => rfl)))
      (pss_cons (ps_asg (pe_ix (ix_listK K rfl) (pv 3) (pv 9) (fun _ _ => rfl)) (pg_tupK K rfl rfl (pgs_cons (pg_name (i := 11) sc_ground_steps.nd rfl (Or.inl rfl)) (pgs_cons (pg_name (i := 12) sc_ground_steps.nd rfl (Or.inl rfl)) pgs_nil))))
      (pss_one (ps_if (pt_cmpR op_ne (pv 10) (pv 11) (nomark _)) (pss_cons (ps_expr (pe_bmK K rfl PySem.F.plainAttrs_list PySem.F.slot_list_append PySem.F.type_list_append mt_append (pv 4) (pa_cons (pv 8) pa_nil)))
      (pss_one (ps_expr (pe_bmK K rfl PySem.F.plainAttrs_list PySem.F.slot_list_append PySem.F.type_list_append mt_append (pv 5) (pa_cons (pe_tup (pa_cons (pv 10) (pa_cons (pv 11) (pa_cons (pe_op op_sub (pe_op op_sub (pe_call G_needed (hr.mono (by decide)) (by rfl) m_needed F_needed.kp b_needed .nil pass0 (pa_cons (pv 7) (pa_cons (pv 2) pa_nil))) (pv 6)) (pv 12)) pa_nil)))) pa_nil))))) pss_nil)))))
      (pss_one (ps_ret (pe_tup (pa_cons (pv 4) (pa_cons (pv 5) pa_nil))))))))), ?_⟩
  refine ⟨_, rfl, _, rfl, r, hs, bs, l, rfl, hR, ok, fun pl pv H1 npl hpl alp s1 => ?_⟩
  refine ⟨(by show 0 ≤ sizeLine; decide), fun wl nwl => ?_⟩
  have s12 := same_new (o := .lst []) nwl
  have hwl : (upd H1 wl (.lst [])) wl = some (.lst []) := upd_same
  generalize upd H1 wl (.lst []) = H2 at s12 hwl ⊢
  refine ⟨(by show 0 ≤ sizeLine; decide), fun sl nsl => ?_⟩
  have s23 := same_new (o := .lst []) nsl
  have hsl : (upd H2 sl (.lst [])) sl = some (.lst []) := upd_same
  have hwl3 := s23 _ _ hwl
  generalize upd H2 sl (.lst []) = H3 at s23 hsl hwl3 ⊢
  have s3 := (s1.trans s12).trans s23
  have wsl : wl ≠ sl := ne_of_none hwl nsl
  have plw : pl ≠ wl := ne_of_none hpl nwl
  have pls : pl ≠ sl := ne_of_none (s12 _ _ hpl) nsl
  refine ⟨_, rfl, r, hs, bs, rfl, hR.keep (TK.same s3), ok, fun yl yv ys H4 nyl hyl aly aw s4 => ?_⟩
  have lys := aly.length
  have few := aw.few
  have hsl4 := s4 _ _ hsl
  have hwl4 := s4 _ _ hwl3
  have yls : yl ≠ sl := fun z => by rw [z, hsl] at nyl; cases nyl
  have ylw : yl ≠ wl := fun z => by rw [z, hwl3] at nyl; cases nyl
  have hpl4 := s4 _ _ (s23 _ _ (s12 _ _ hpl))
  have alp4 := alp.imp fun _ _ z => z.keep (TK.same ((s12.trans s23).trans s4))
  have s04 := s3.trans s4
  refine ⟨yl, rfl, ⟨_, SqL.of hyl⟩, for_list (K := K) (a := yl) (xs := yv) (fun i σ H5 => ∃ (wv sv : List V) (v6 v7 v8 v9 v10 v11 v12 : Option V), σ = [some (.ref r), some (nV l), some (.int T'), some (.ref pl), some (.ref wl), some (.ref sl), v6, v7, v8, v9, v10, v11, v12] ∧ H5 wl = some (.lst wv) ∧ All2 (PrAt H5) wv (gYs hs (ys.take i)) ∧ H5 sl = some (.lst sv) ∧ All2 (StepAt H5) sv (gSt hs (ys.take i) l T') ∧ (∀ b o, H4 b = some o → b ≠ wl → b ≠ sl → H5 b = some o)) ⟨[], [], none, none, none, none, none, none, none, rfl, hwl4, .nil, hsl4, .nil, fun b o e _ _ => e⟩ (fun i σ H5 _ ⟨_, _, _, _, _, _, _, _, _, _, _, _, _, _, f5⟩ => SqL.of (f5 _ _ hyl ylw yls)) ?_ ?_⟩
  · rintro i x σ H5 hx ⟨wv, sv, v6, v7, v8, v9, v10, v11, v12, rfl, hw5, alw, hs5, als, f5⟩
    obtain ⟨y, ey, ⟨t, p, rfl, ht, g, hp, hg⟩⟩ := aly.getL hx
    have il := (List.getElem?_eq_some_iff.mp ey).1
    have o := aw.ok y (List.mem_of_getElem? ey)
    have el := best_end ok o
    have tpl : ∀ {b : Addr} {xs : List V}, H4 b = some (.tup xs) → H5 b = some (.tup xs) := fun e => f5 _ _ e (ne_of e hwl4 (fun z => nomatch z)) (ne_of e hsl4 (fun z => nomatch z))
    have hpl5 := f5 _ _ hpl4 plw pls
    obtain ⟨x1, ex1, ⟨t1, rfl, h1⟩⟩ := alp4.get (pl_at (l := l) o.lt)
    obtain ⟨x2, ex2, ⟨t2, rfl, h2⟩⟩ := alp4.get (pl_at (l := l) el)
    have lwv := alw.length
    have lsv := als.length
    rw [List.length_map] at lsv
    have lg : (gYs hs (ys.take i)).length ≤ 144 := Nat.le_trans (List.length_filter_le ..) (by rw [List.length_take]; omega)
    have tke : gYs hs (ys.take (i + 1)) = gYs hs (ys.take i) ++ if plH hs y.one ≠ plH hs y.e then [y] else [] := by
      show (ys.take (i + 1)).filter _ = (ys.take i).filter _ ++ _
      rw [List.take_add_one, ey, List.filter_append]
      congr 1
      show [y].filter _ = _
      rw [List.filter_cons]
      by_cases z : plH hs y.one ≠ plH hs y.e
      · rw [if_pos (decide_eq_true z), if_pos z]; rfl
      · rw [if_neg (by rw [decide_eq_false z]; exact Bool.false_ne_true), if_neg z]; rfl
    refine ⟨t, _, rfl, SqT.of (tpl ht), rfl, _, _, rfl, _, _, rfl, _, _, rfl, _, _, rfl, rfl, ?_⟩
    refine ⟨_, rfl, _, rfl, p, _, _, _, rfl, rfl, SqT.of (tpl hp), atI_nat (j := 0) rfl, pl, _, _, _, rfl, rfl, SqL.of hpl5, atI_nat ex1, t1, _, _, _, rfl, rfl, SqT.of (tpl h1), atI_nat (j := 0) rfl, ?_⟩
    refine ⟨_, rfl, _, rfl, pl, _, _, _, rfl, rfl, SqL.of hpl5, atI_nat ex2, t2, _, rfl, SqT.of (tpl h2), rfl, _, _, rfl, _, _, rfl, rfl, ?_⟩
    refine ⟨_, rfl, _, rfl, rfl, _, rfl, if_bl (fun z => ?_) (fun z => ?_)⟩
    · have ne : plH hs y.one ≠ plH hs y.e := fun c => by
        have z : (!decide (nV (plH hs y.one) = nV (plH hs y.e))) = true := z
        rw [c, decide_eq_true rfl] at z
        cases z
      rw [if_pos ne] at tke
      refine ⟨_, rfl, .inl ⟨rfl, _, SqL.of hw5⟩, _, rfl, wl, _, _, rfl, rfl, hw5, small1000 (by omega), ?_⟩
      have k6 : TK H5 (upd H5 wl (.lst (wv ++ [V.ref p]))) := TK.lst hw5
      have hs6 : (upd H5 wl (.lst (wv ++ [V.ref p]))) sl = some (.lst sv) := by rw [upd_ne wsl.symm]; exact hs5
      have hw6 : (upd H5 wl (.lst (wv ++ [V.ref p]))) wl = some (.lst (wv ++ [V.ref p])) := upd_same
      have f6 : ∀ b o, H4 b = some o → b ≠ wl → b ≠ sl → (upd H5 wl (.lst (wv ++ [V.ref p]))) b = some o := fun b o e n1 n2 => by rw [upd_ne n1]; exact f5 b o e n1 n2
      generalize upd H5 wl (.lst (wv ++ [V.ref p])) = H6 at k6 hs6 hw6 f6 ⊢
      refine ⟨_, rfl, .inl ⟨rfl, _, SqL.of hs6⟩, _, rfl, _, rfl, _, rfl, _, rfl, y.c.2, T', rfl, _, rfl, _, _, rfl, rfl, _, rfl, _, _, rfl, rfl, (by show 3 ≤ sizeLine; decide), fun tt ntt => ?_⟩
      have s7 := same_new (o := .tup [nV (plH hs y.one), nV (plH hs y.e), V.int (ndd y.c.2 T' - y.c.1 - abH hs l y.e)]) ntt
      have htt : (upd H6 tt (.tup [nV (plH hs y.one), nV (plH hs y.e), V.int (ndd y.c.2 T' - y.c.1 - abH hs l y.e)])) tt = some (.tup [nV (plH hs y.one), nV (plH hs y.e), V.int (ndd y.c.2 T' - y.c.1 - abH hs l y.e)]) := upd_same
      refine ⟨sl, _, _, rfl, rfl, s7 _ _ hs6, small1000 (by omega), ?_⟩
      generalize upd H6 tt _ = H7 at s7 htt ⊢
      have k8 : TK H7 (upd H7 sl (.lst (sv ++ [V.ref tt]))) := TK.lst (s7 _ _ hs6)
      have k58 := (k6.trans (TK.same s7)).trans k8
      refine ⟨wv ++ [V.ref p], sv ++ [V.ref tt], _, _, _, _, _, _, _, rfl, by rw [upd_ne wsl]; exact s7 _ _ hw6, ?_, upd_same, ?_, fun b o e n1 n2 => by rw [upd_ne n2]; exact s7 _ _ (f6 b o e n1 n2)⟩
      · rw [tke]
        exact (alw.imp fun _ _ z => z.keep k58).snoc ⟨p, rfl, g, k58 _ _ (tpl hp), k58 _ _ (tpl hg)⟩
      · show All2 _ _ ((gYs hs (ys.take (i + 1))).map (gStep hs l T'))
        rw [tke, List.map_append]
        exact (als.imp fun _ _ z => z.keep k58).snoc ⟨tt, rfl, k8 _ _ htt⟩
    · have eq : ¬ plH hs y.one ≠ plH hs y.e := fun c => by
        have z : (!decide (nV (plH hs y.one) = nV (plH hs y.e))) = false := z
        rw [decide_eq_false (fun y => c (by have := V.int.inj y; omega))] at z
        cases z
      rw [if_neg eq, List.append_nil] at tke
      exact ⟨wv, sv, _, _, _, _, _, _, _, rfl, hw5, by rw [tke]; exact alw, hs5, by show All2 _ _ ((gYs hs (ys.take (i + 1))).map (gStep hs l T')); rw [tke]; exact als, f5⟩
  · rintro σ H5 ⟨wv, sv, v6, v7, v8, v9, v10, v11, v12, rfl, hw5, alw, hs5, als, f5⟩
    rw [lys, List.take_length] at alw als
    refine ⟨_, rfl, _, rfl, (by show 2 ≤ sizeLine; decide), fun p np => ?_⟩
    have s6 := same_new (o := .tup [V.ref wl, V.ref sl]) np
    have wl0 : H wl = none := same_none s1 nwl
    have sl0 : H sl = none := same_none (s1.trans s12) nsl
    exact q p wl sl wv sv ys _ upd_same (s6 _ _ hw5) (alw.imp fun _ _ z => z.keep (TK.same s6)) (s6 _ _ hs5) (als.imp fun _ _ z => z.keep (TK.same s6)) aw (fun b o e => s6 _ _ (f5 _ _ (s04 _ _ e) (ne_of_none e wl0) (ne_of_none e sl0)))
def sp_ground_shifts (K : PySem.W.Frag) : Sp := fun vs H Q _ => ∃ (r ll : Addr) (hs : List HR) (bs : List BR) (l : Nat) (lv : Nat → Int), vs = [.ref r, nV l, .ref ll] ∧ RoomAt H r hs bs ∧ RoomOk hs bs ∧ H ll = some (.lst (levL (hs.length + 1) lv)) ∧
  ∀ (p : Addr) (H' : Hp), H' p = some (.tup (levL hs.length (shL hs l lv))) → Same H H' → Q (.ref p) H'
theorem ok_ground_shifts {f : Addr} {fd : FuncData} (F : Fun K "ground_shifts" "ground_shifts" s_ground_shifts f fd) (T : Top K mg) : FnOk P w K mg base CX0 2 f fd ["room", "late", "levels"] (sp_ground_shifts K) := by
  obtain ⟨f_hand_places, fd_hand_places, F_hand_places, b_hand_places, m_hand_places⟩ := T.d_hand_places
  have G_hand_places := ok_hand_places (P := P) (w := w) (base := base) F_hand_places T
  refine F.ok sc_ground_shifts (fun vs H Q E h => ?_) (fun cdv A outer s H vs Q E hr h => ?_)
  · obtain ⟨r, ll, hs, bs, l, lv, rfl, _⟩ := h
    rfl
  obtain ⟨r, ll, hs, bs, l, lv, rfl, hR, ok, hll, q⟩ := h
  obtain ⟨ha, ba, hv, bv, er, eh, eb, alh, alb⟩ := id hR.ex
  have lhv := alh.length
  have lh := ok.hands
  refine ⟨_, (pss_cons (ps_set (i := 3) sc_ground_shifts.nd rfl (Or.inr rfl) (pe_ix (ix_listK K rfl) (pv 2) (pe_callB (call_len_seqK K rfl) (by rfl) T.m_len (by decide +kernel) (pa_cons (pe_ix (ix_tupK K rfl) (pv 0) pe_int (fun _ _ => rfl)) pa_nil)) (fun _ _ => rfl)))
      (pss_one (ps_ret (pe_callTy (call_tuple_ofK K rfl) (by rfl) T.m_tuple (by decide +kernel) (pa_cons (pe_lc (own := [("place", 4), ("above", 5)]) (g := gTup K 2 (gCons (gName 4) (gCons (gName 5) gNil))) (tt := tYes) (by rfl) sc_ground_shifts.nd (pi_listK K rfl (pe_call G_hand_places (hr.mono (by decide)) (by rfl) m_hand_places F_hand_places.kp b_hand_places .nil pass0 (pa_cons (pv 0) (pa_cons (pv 1) pa_nil)))) (blkOk_by (own := [("place", 4), ("above", 5)]) (N := N_ground_shifts) (sc := defScope s_ground_shifts) (by decide +kernel)) (fun _ _ _ _ _ => (pg_tupK K rfl rfl (pgs_cons (pg_name (i := 4) sc_ground_shifts.nd rfl (Or.inl rfl)) (pgs_cons (pg_name (i := 5) sc_ground_shifts.nd rfl (Or.inl rfl)) pgs_nil)))) (fun _ _ _ _ _ => pts_nil) (fun _ _ _ _ _ => (pe_op op_sub (pe_op op_add (pe_ix (ix_listK K rfl) (pv 2) (pv 4) (fun _ _ => rfl)) (pv 5)) (pv 3)))) pa_nil))))), ?_⟩
  refine ⟨_, rfl, _, rfl, r, _, _, _, rfl, rfl, SqT.of er, atI_nat (j := 0) rfl, ha, _, rfl, .inr (SqT.of eh), ll, _, _, _, rfl, rfl, SqL.of hll, by rw [lhv]; exact atI_nat (rg_at (by omega)), ?_⟩
  refine ⟨_, rfl, _, rfl, r, hs, bs, l, rfl, hR, ok, fun pl pv H1 npl hpl alp s1 => ?_⟩
  have lpv := alp.length
  rw [List.length_map, List.length_range] at lpv
  refine ⟨pl, rfl, ⟨_, SqL.of hpl⟩, fun D nD => lc_list (K := K) (a := pl) (xs := pv) (fun i H5 => H5 D = some (.lst ((List.range i).map fun k => V.int (shL hs l lv k))) ∧ Same H1 H5) ⟨upd_same, same_new nD⟩ (fun i H5 _ ⟨_, s5⟩ => SqL.of (s5 _ _ hpl)) ?_ ?_⟩
  · rintro i x H5 hx ⟨hD, s5⟩
    obtain ⟨pa, epa, ⟨t, rfl, ht⟩⟩ := alp.getL hx
    have il := (List.getElem?_eq_some_iff.mp epa).1
    rw [List.length_map, List.length_range] at il
    rw [pl_at il] at epa
    cases epa
    have pll := pl_le il
    refine ⟨t, _, rfl, SqT.of (s5 _ _ ht), rfl, _, _, rfl, _, _, rfl, rfl, rfl, yes_in ?_⟩
    refine ⟨_, rfl, _, rfl, ll, _, _, _, rfl, rfl, SqL.of (s5 _ _ (s1 _ _ hll)), atI_nat (rg_at (by omega)), _, rfl, _, _, rfl, rfl, _, rfl, _, _, rfl, rfl, _, hD, by rw [List.length_map, List.length_range]; exact small1000 (by omega), ?_, Same.own s5 nD⟩
    rw [upd_same, List.range_succ, List.map_append]
    rfl
  rintro H5 ⟨hD, s5⟩
  rw [lpv] at hD
  refine ⟨D, _, rfl, .inl ⟨SqL.of hD, fun p np => ?_⟩⟩
  exact q p _ upd_same ((s1.trans s5).trans (same_new np))
theorem index_nat {K : PySem.W.Frag} {H : Hp} {od : Addr} {ord : List Nat} {k : Nat} {Q : VK} (h : H od = some (.lst (ord.map nV))) (m : k ∈ ord) (q : Q (nV (ord.idxOf k)) H) : rIndex K (.ref od) [nV k] H Q := by
  have il := List.idxOf_lt_length_of_mem m
  refine ⟨od, _, nV k, ord.idxOf k, nV k, rfl, rfl, SqL.of h, rfl, ?_, ?_, ?_, fun i z hi hz => ?_, q⟩
  · rw [List.all_map]
    exact List.all_eq_true.mpr fun _ _ => rfl
  · rw [List.getElem?_map, List.getElem?_eq_getElem il, List.getElem_idxOf]; rfl
  · show (((k : Nat) : Int) == ((k : Nat) : Int)) = true
    exact beq_self_eq_true _
  · have il' : i < ord.length := by omega
    rw [List.getElem?_map, List.getElem?_eq_getElem il'] at hz
    obtain rfl : nV ord[i] = z := Option.some.inj hz
    show (((ord[i] : Nat) : Int) == ((k : Nat) : Int)) = false
    have ne : ord[i] ≠ k := by
      have := List.not_of_lt_findIdx (p := (· == k)) (xs := ord) (i := i) (by exact hi)
      simpa using this
    exact beq_eq_false_iff_ne.mpr fun z => ne (by omega)
theorem mt_indexK {X : Cx} (K : PySem.W.Frag) (h : X.K = K) : MtR X "list.index" (rIndex K) := by subst h; exact mt_index
theorem idx_cut {l : List Nat} {c : Nat} (m : c ∈ l) : l = l.take (l.idxOf c) ++ c :: l.drop (l.idxOf c + 1) := by
  have il := List.idxOf_lt_length_of_mem m
  have := List.take_append_drop (l.idxOf c) l
  rw [List.drop_eq_getElem_cons il, List.getElem_idxOf] at this
  exact this.symm
def sp_levels_or_path (K : PySem.W.Frag) : Sp := fun vs H Q _ => ∃ (r sl : Addr) (hs : List HR) (bs : List BR) (st : List St3) (M : Int), vs = [.ref r, .ref sl, .int M] ∧ RoomAt H r hs bs ∧ RoomOk hs bs ∧ StepsAt H sl st ∧ (∀ s ∈ st, s.u < hs.length + 1 ∧ s.v < hs.length + 1) ∧ st.length ≤ 144 ∧ Feas st ∧
  (∀ (p ll : Addr) (lv : Nat → Int) (H' : Hp), H' p = some (.tup [.ref ll, .non]) → H' ll = some (.lst (levL (hs.length + 1) lv)) → (∀ s ∈ st, lv s.u + s.w ≤ lv s.v) → (∀ k, k < hs.length → lv k - M ≤ lv hs.length) → Same H H' → Q (.ref p) H') ∧
  ∀ (p rl : Addr) (ks : List Nat) (H' : Hp), H' p = some (.tup [.non, .ref rl]) → H' rl = some (.lst (ks.map nV)) → PathOk hs.length st M ks → Same H H' → Q (.ref p) H'
theorem ok_levels_or_path {f : Addr} {fd : FuncData} (F : Fun K "levels_or_path" "levels_or_path" s_levels_or_path f fd) (T : Top K mg) : FnOk P w K mg base CX0 3 f fd ["room", "steps", "many"] (sp_levels_or_path K) := by
  obtain ⟨f_levels_or_ring, fd_levels_or_ring, F_levels_or_ring, b_levels_or_ring, m_levels_or_ring⟩ := T.d_levels_or_ring
  have G_levels_or_ring := ok_levels_or_ring (P := P) (w := w) (base := base) F_levels_or_ring T
  refine F.ok sc_levels_or_path (fun vs H Q E h => ?_) (fun cdv A outer s H vs Q E hr h => ?_)
  · obtain ⟨r, sl, hs, bs, st, M, rfl, _⟩ := h
    rfl
  obtain ⟨r, sl, hs, bs, st, M, rfl, hR, ok, ⟨sv, hsl, als⟩, bd, few, fs, q1, q2⟩ := h
  obtain ⟨ha, ba, hv, bv, er, eh, eb, alh, alb⟩ := id hR.ex
  have lhv := alh.length
  have lh := ok.hands
  have lsv := als.length
  refine ⟨_, (pss_cons (ps_set (i := 3) sc_levels_or_path.nd rfl (Or.inr rfl) (pe_callB (call_len_seqK K rfl) (by rfl) T.m_len (by decide +kernel) (pa_cons (pe_ix (ix_tupK K rfl) (pv 0) pe_int (fun _ _ => rfl)) pa_nil)))
      (pss_cons (ps_setLc (i := 4) (own := [("hand", 5)]) (g := gName 5) (tt := tYes) (by rfl) sc_levels_or_path.nd rfl rfl (sw_true rfl rfl rfl (by decide +kernel)) (pi_range1 (by rfl) T.m_range (pa_cons (pv 3) pa_nil)) (blkOk_by (own := [("hand", 5)]) (N := N_levels_or_path) (sc := defScope s_levels_or_path) (by decide +kernel)) (fun _ _ _ _ _ => (pg_name (i := 5) sc_levels_or_path.nd rfl (Or.inl rfl))) (fun _ _ _ _ _ => pts_nil) (fun _ _ _ _ _ => (pe_tup (pa_cons (pv 5) (pa_cons (pv 3) (pa_cons (pe_un un_neg (pv 2)) pa_nil))))))
      (pss_cons (ps_asg (pe_call G_levels_or_ring (hr.mono (by decide)) (by rfl) m_levels_or_ring F_levels_or_ring.kp b_levels_or_ring .nil pass0 (pa_cons (pe_op op_add (pv 3) pe_int) (pa_cons (pe_op op_cat (pv 1) (pv 4)) pa_nil))) (pg_tupK K rfl rfl (pgs_cons (pg_name (i := 6) sc_levels_or_path.nd rfl (Or.inl rfl)) (pgs_cons (pg_name (i := 7) sc_levels_or_path.nd rfl (Or.inl rfl)) pgs_nil))))
      (pss_cons (ps_if (pt_cmpR op_isN (pv 7) pe_non (nomark _)) (pss_one (ps_ret (pe_tup (pa_cons (pv 6) (pa_cons pe_non pa_nil))))) pss_nil)
      (pss_cons (ps_set (i := 8) sc_levels_or_path.nd rfl (Or.inl rfl) (pe_callB (cr_maxKK K rfl rfl) (by rfl) T.m_max (by decide +kernel) (pa_cons (pv 7) pa_nil)))
      (pss_cons (ps_set (i := 9) sc_levels_or_path.nd rfl (Or.inl rfl) (pe_op op_add (pe_bmK K rfl PySem.F.plainAttrs_list PySem.F.slot_list_index PySem.F.type_list_index (mt_indexK K rfl) (pv 7) (pa_cons (pv 8) pa_nil)) pe_int))
      (pss_one (ps_ret (pe_tup (pa_cons pe_non (pa_cons (pe_op op_cat (pe_slice (sl_listK K rfl) (pv 7) (po_some (pv 9)) po_none) (pe_slice (sl_listK K rfl) (pv 7) po_none (po_some (pe_op op_sub (pv 9) pe_int)))) pa_nil))))))))))), ?_⟩
  refine ⟨_, rfl, r, _, _, _, rfl, rfl, SqT.of er, atI_nat (j := 0) rfl, ha, _, rfl, .inr (SqT.of eh), ?_⟩
  refine ⟨_, rfl, _, rfl, by omega, by omega, fun D nD => lc_range (lo := 0) (n := ((hv.length : Nat) : Int).toNat) (fun i H5 => ∃ cv : List V, H5 D = some (.lst cv) ∧ All2 (StepAt H5) cv ((List.range i).map fun k => ⟨k, hs.length, -M⟩) ∧ Same H H5) ⟨[], upd_same, .nil, same_new nD⟩ ?_ ?_⟩
  · rintro i H5 hi ⟨cv, hD, al, s5⟩
    have lcv := al.length
    rw [List.length_map, List.length_range] at lcv
    refine ⟨rfl, yes_in ⟨_, rfl, _, rfl, _, rfl, _, rfl, (by show 3 ≤ sizeLine; decide), fun t nt => ?_⟩⟩
    have s6 := same_new (o := .tup [V.int (0 + ((i : Nat) : Int)), V.int ((hv.length : Nat) : Int), V.int (-M)]) nt
    have hD6 := s6 _ _ hD
    refine ⟨cv, hD6, small1000 (by omega), cv ++ [V.ref t], upd_same, ?_, Same.own (s5.trans s6) nD⟩
    rw [List.range_succ, List.map_append]
    exact ((al.imp fun _ _ z => z.keep (TK.same s6)).snoc ⟨t, rfl, by rw [upd_same, Int.zero_add, lhv]⟩).imp fun _ _ z => z.keep (TK.lst hD6)
  rintro H1 ⟨cv, hD, alc, s1⟩
  rw [Int.toNat_natCast, lhv] at alc
  have lcv := alc.length
  rw [List.length_map, List.length_range] at lcv
  refine ⟨_, rfl, _, _, rfl, rfl, _, rfl, _, rfl, sl, D, _, _, rfl, rfl, s1 _ _ hsl, hD, little (by omega), fun cl ncl => ?_⟩
  have s2 := same_new (o := .lst (sv ++ cv)) ncl
  have hcl : (upd H1 cl (.lst (sv ++ cv))) cl = some (.lst (sv ++ cv)) := upd_same
  generalize upd H1 cl (.lst (sv ++ cv)) = H2 at s2 hcl ⊢
  have All2.app : ∀ {R : V → St3 → Prop} {as cs : List V} {bs ds : List St3}, All2 R as bs → All2 R cs ds → All2 R (as ++ cs) (bs ++ ds) := fun {R as cs bs ds} a b => by
    induction a with
    | nil => exact b
    | cons h t ih => exact .cons h ih
  have st2 : StepsAt H2 cl (st ++ capsOf hs.length M) := ⟨_, hcl, All2.app (als.imp fun _ _ z => z.keep (TK.same (s1.trans s2))) (alc.imp fun _ _ z => z.keep (TK.same s2))⟩
  have bd2 : ∀ s ∈ st ++ capsOf hs.length M, s.u < hs.length + 1 ∧ s.v < hs.length + 1 := fun s hs' => by
    rcases List.mem_append.mp hs' with h | h
    · exact bd s h
    · obtain ⟨k, hk, rfl⟩ := List.mem_map.mp h
      have := List.mem_range.mp hk
      exact ⟨by show k < _; omega, by show hs.length < _; omega⟩
  have lc : (capsOf hs.length M).length = hs.length := by unfold capsOf; rw [List.length_map, List.length_range]
  have s02 := s1.trans s2
  refine ⟨cl, hs.length + 1, st ++ capsOf hs.length M, by rw [lhv]; rfl, st2, bd2, by rw [List.length_append, lc]; omega, by omega, fun p ll lv H3 hp hll fe nn s3 => ?_, fun p rl ks H3 hp hrl ring lk s3 => ?_⟩
  · refine ⟨p, _, rfl, SqT.of hp, rfl, _, _, rfl, _, _, rfl, rfl, ?_⟩
    refine ⟨_, rfl, rfl, _, rfl, if_bl (fun _ => ?_) (fun z => absurd rfl (of_decide_eq_false z))⟩
    refine ⟨_, rfl, (by show 2 ≤ sizeLine; decide), fun p2 np2 => ?_⟩
    have s4 := same_new (o := .tup [V.ref ll, V.non]) np2
    exact q1 p2 ll lv _ upd_same (s4 _ _ hll) (fun s h => fe s (List.mem_append_left _ h)) (fun k hk => by
      have := fe _ (List.mem_append_right _ (List.mem_map.mpr ⟨k, List.mem_range.mpr hk, rfl⟩ : (⟨k, hs.length, -M⟩ : St3) ∈ capsOf hs.length M))
      have this : lv k + -M ≤ lv hs.length := this
      omega) ((s02.trans s3).trans s4)
  · refine ⟨p, _, rfl, SqT.of hp, rfl, _, _, rfl, _, _, rfl, rfl, ?_⟩
    refine ⟨_, rfl, rfl, _, rfl, if_bl (fun z => absurd (of_decide_eq_true z) (fun y => nomatch y)) (fun _ => ?_)⟩
    have en : ks.map nV = (ks.map fun k => ((k : Nat) : Int)).map V.int := by rw [List.map_map]; rfl
    refine ⟨_, rfl, rl, ks.map fun k => ((k : Nat) : Int), rfl, SqL.of (by rw [← en]; exact hrl), by rw [List.length_map]; exact List.length_pos_iff.mpr ring.ne, fun m hm hle => ?_⟩
    obtain ⟨c, cm, rfl⟩ := List.mem_map.mp hm
    have big : ∀ k ∈ ks, k ≤ c := fun k hk => by have := hle _ (List.mem_map.mpr ⟨k, hk, rfl⟩); omega
    refine ⟨_, rfl, .inl ⟨rfl, _, SqL.of hrl⟩, _, rfl, ?_⟩
    dsimp only [tNil]
    refine index_nat hrl cm ?_
    have il := List.idxOf_lt_length_of_mem cm
    have cut := idx_cut cm
    generalize ks.idxOf c = j at il cut
    refine ⟨_, _, rfl, rfl, ?_⟩
    refine ⟨_, rfl, _, rfl, _, rfl, ?_⟩
    dsimp only [tNoPart]
    refine ⟨rl, _, rfl, SqL.of hrl, fun x1 nx1 => ?_⟩
    rw [show cutV (ks.map nV) (some (((j : Nat) : Int) + 1)) none = (ks.drop (j + 1)).map nV by rw [show ((j : Nat) : Int) + 1 = ((j + 1 : Nat) : Int) from rfl, cut_drop, List.map_drop]]
    have s4 := same_new (o := .lst ((ks.drop (j + 1)).map nV)) nx1
    have hx1 : (upd H3 x1 (.lst ((ks.drop (j + 1)).map nV))) x1 = some (.lst ((ks.drop (j + 1)).map nV)) := upd_same
    generalize upd H3 x1 _ = H4 at s4 hx1 ⊢
    refine ⟨_, rfl, ?_⟩
    dsimp only [tNoPart]
    refine ⟨_, rfl, _, _, rfl, rfl, _, rfl, rl, _, rfl, SqL.of (s4 _ _ hrl), fun x2 nx2 => ?_⟩
    rw [show cutV (ks.map nV) none (some (((j : Nat) : Int) + 1 - 1)) = (ks.take j).map nV by rw [show ((j : Nat) : Int) + 1 - 1 = ((j : Nat) : Int) by omega, cut_take, List.map_take]]
    have s5 := same_new (o := .lst ((ks.take j).map nV)) nx2
    have hx2 : (upd H4 x2 (.lst ((ks.take j).map nV))) x2 = some (.lst ((ks.take j).map nV)) := upd_same
    have hx15 := s5 _ _ hx1
    generalize upd H4 x2 _ = H5 at s5 hx2 hx15 ⊢
    refine ⟨x1, x2, _, _, rfl, rfl, hx15, hx2, by rw [List.length_map, List.length_map, List.length_drop, List.length_take]; exact little (by omega), fun x3 nx3 => ?_⟩
    have s6 := same_new (o := .lst ((ks.drop (j + 1)).map nV ++ (ks.take j).map nV)) nx3
    have hx3 : (upd H5 x3 (.lst ((ks.drop (j + 1)).map nV ++ (ks.take j).map nV))) x3 = some (.lst ((ks.drop (j + 1) ++ ks.take j).map nV)) := by rw [upd_same, List.map_append]
    generalize upd H5 x3 _ = H6 at s6 hx3 ⊢
    refine ⟨(by show 2 ≤ sizeLine; decide), fun p2 np2 => ?_⟩
    have s7 := same_new (o := .tup [V.non, V.ref x3]) np2
    rw [cut] at ring big lk
    exact q2 p2 x3 (ks.drop (j + 1) ++ ks.take j) _ upd_same (s7 _ _ hx3) (cap_path fs ring big lk).1 ((((s02.trans s3).trans s4).trans s5).trans (s6.trans s7))
end
section
variable {P : Program} {w : World} {K : PySem.W.Frag} {mg : Str → Option Value} {base : Heap}
/-- levels that fit the ground's steps with no hand more than many above, or a path that asks for more -/
def LpV (n : Nat) (st : List St3) (M : Int) (H : Hp) (x y : V) : Prop := (∃ (ll : Addr) (lv : Nat → Int), x = .ref ll ∧ y = .non ∧ H ll = some (.lst (levL (n + 1) lv)) ∧ (∀ s ∈ st, lv s.u + s.w ≤ lv s.v) ∧ ∀ k, k < n → lv k - M ≤ lv n) ∨
  ∃ (rl : Addr) (ks : List Nat), x = .non ∧ y = .ref rl ∧ H rl = some (.lst (ks.map nV)) ∧ PathOk n st M ks
def sp_soonest (K : PySem.W.Frag) : Sp := fun vs H Q _ => ∃ (r : Addr) (hs : List HR) (bs : List BR) (l : Nat) (T : Int), vs = [.ref r, nV l, .int T] ∧ RoomAt H r hs bs ∧ RoomOk hs bs ∧ 0 < hs.length ∧
  (∀ H', ¬ FA hs bs (some l) T → Same H H' → Q .non H') ∧
  ∀ (p p' : Addr) (sh : Nat → Int) (M : Int) (y : V) (H' : Hp), H' p = some (.tup [.int M, .ref p', y]) → H' p' = some (.tup (levL hs.length sh)) → FA hs bs (some l) T → Rch hs bs (some l) T sh → Wait hs.length sh M → (∀ sh' W, Rch hs bs (some l) T sh' → Wait hs.length sh' W → M ≤ W) → WkV hs bs l T M H' y → Same H H' → Q (.ref p) H'
theorem ok_soonest {f : Addr} {fd : FuncData} (F : Fun K "soonest" "soonest" s_soonest f fd) (T : Top K mg) : FnOk P w K mg base CX0 5 f fd ["room", "late", "time"] (sp_soonest K) := by
  obtain ⟨f_ground_steps, fd_ground_steps, F_ground_steps, b_ground_steps, m_ground_steps⟩ := T.d_ground_steps
  have G_ground_steps := ok_ground_steps (P := P) (w := w) (base := base) F_ground_steps T
  obtain ⟨f_levels_or_path, fd_levels_or_path, F_levels_or_path, b_levels_or_path, m_levels_or_path⟩ := T.d_levels_or_path
  have G_levels_or_path := ok_levels_or_path (P := P) (w := w) (base := base) F_levels_or_path T
  obtain ⟨f_doors_out, fd_doors_out, F_doors_out, b_doors_out, m_doors_out⟩ := T.d_doors_out
  have G_doors_out := ok_doors_out (P := P) (w := w) (base := base) F_doors_out T
  obtain ⟨f_ground_shifts, fd_ground_shifts, F_ground_shifts, b_ground_shifts, m_ground_shifts⟩ := T.d_ground_shifts
  have G_ground_shifts := ok_ground_shifts (P := P) (w := w) (base := base) F_ground_shifts T
  obtain ⟨f_shifts_or_bar, fd_shifts_or_bar, F_shifts_or_bar, b_shifts_or_bar, m_shifts_or_bar⟩ := T.d_shifts_or_bar
  have G_shifts_or_bar := ok_shifts_or_bar (P := P) (w := w) (base := base) F_shifts_or_bar T
  refine F.ok sc_soonest (fun vs H Q E h => ?_) (fun cdv A outer s H vs Q E hr h => ?_)
  · obtain ⟨r, hs, bs, l, T', rfl, _⟩ := h
    rfl
  obtain ⟨r, hs, bs, l, T', rfl, hR, ok, pos, q1, q2⟩ := h
  have lh := ok.hands
  let sg : Addr → Addr → Int → V → Option V → Option V → L2.St := fun wl sl M y v7 v8 => [some (.ref r), some (nV l), some (.int T'), some (.ref wl), some (.ref sl), some (.int M), some y, v7, v8, none]
  let R1 : TS := fun D' σ' H' => D'.rt = Q ∧ ∃ (wl sl : Addr) (wv sv : List V) (ys : List Wy) (s0 : Nat → Int), σ' = [some (.ref r), some (nV l), some (.int T'), some (.ref wl), some (.ref sl), none, none, none, none, none] ∧ H' wl = some (.lst wv) ∧ All2 (PrAt H') wv (gYs hs ys) ∧ H' sl = some (.lst sv) ∧ All2 (StepAt H') sv (gSt hs ys l T') ∧ AllWays hs bs ys ∧ FA hs bs (some l) T' ∧ Rch hs bs (some l) T' s0 ∧ Same H H'
  let R2 : TS := fun D' σ' H' => D'.rt = Q ∧ ∃ (wl sl : Addr) (wv sv : List V) (ys : List Wy) (s0 : Nat → Int), σ' = [some (.ref r), some (nV l), some (.int T'), some (.ref wl), some (.ref sl), some (.int (baseW hs l)), none, none, none, none] ∧ H' wl = some (.lst wv) ∧ All2 (PrAt H') wv (gYs hs ys) ∧ H' sl = some (.lst sv) ∧ All2 (StepAt H') sv (gSt hs ys l T') ∧ AllWays hs bs ys ∧ FA hs bs (some l) T' ∧ Rch hs bs (some l) T' s0 ∧ Same H H'
  refine ⟨_, (pss_cons (ps_if (pt_cmpR op_eq (pe_ix (ix_tupK K rfl) (pe_call G_shifts_or_bar (hr.mono (by decide)) (by rfl) m_shifts_or_bar F_shifts_or_bar.kp b_shifts_or_bar .nil pass0 (pa_cons (pv 0) (pa_cons (pv 1) (pa_cons (pv 2) pa_nil)))) pe_int (fun _ _ => rfl)) pe_str (nomark _)) (pss_one (ps_ret pe_non)) pss_nil)
      (pss_cons (ps_asg (pe_call G_ground_steps (hr.mono (by decide)) (by rfl) m_ground_steps F_ground_steps.kp b_ground_steps .nil pass0 (pa_cons (pv 0) (pa_cons (pv 1) (pa_cons (pv 2) pa_nil)))) (pg_tupK K rfl rfl (pgs_cons (pg_name (i := 3) sc_soonest.nd rfl (Or.inr rfl)) (pgs_cons (pg_name (i := 4) sc_soonest.nd rfl (Or.inr rfl)) pgs_nil))))
      (PSs.to (pss_cons (ps_set (i := 5) sc_soonest.nd rfl (Or.inl rfl) (pe_ifExp (pt_truthK K rfl (pe_call G_doors_out (hr.mono (by decide)) (by rfl) m_doors_out F_doors_out.kp b_doors_out .nil pass0 (pa_cons (pv 0) pa_nil)) (by intro _; rfl)) (pv 1) pe_int))
      (PSs.to (pss_cons (ps_set (i := 6) sc_soonest.nd rfl (Or.inl rfl) pe_non)
      (pss_cons (ps_asg (pe_call G_levels_or_path (hr.mono (by decide)) (by rfl) m_levels_or_path F_levels_or_path.kp b_levels_or_path .nil pass0 (pa_cons (pv 0) (pa_cons (pv 4) (pa_cons (pv 5) pa_nil)))) (pg_tupK K rfl rfl (pgs_cons (pg_name (i := 7) sc_soonest.nd rfl (Or.inl rfl)) (pgs_cons (pg_name (i := 8) sc_soonest.nd rfl (Or.inl rfl)) pgs_nil))))
      (pss_cons (ps_while PassesOwn.never (pt_cmpR op_notN (pv 8) pe_non (nomark _))
        (pss_cons (ps_set (i := 6) sc_soonest.nd rfl (Or.inl rfl) (pe_callTy (call_tuple_ofK K rfl) (by rfl) T.m_tuple (by decide +kernel) (pa_cons (pe_lc (own := [("number", 9)]) (g := gName 9) (tt := tYes) (by rfl) sc_soonest.nd (pi_listK K rfl (pv 8)) (blkOk_by (own := [("number", 9)]) (N := N_soonest) (sc := defScope s_soonest) (by decide +kernel)) (fun _ _ _ _ _ => (pg_name (i := 9) sc_soonest.nd rfl (Or.inl rfl))) (fun _ _ _ _ _ => pts_nil) (fun _ _ _ _ _ => (pe_ix (ix_listK K rfl) (pv 3) (pv 9) (fun _ _ => rfl)))) pa_nil)))
      (pss_cons (ps_set (i := 5) sc_soonest.nd rfl (Or.inl rfl) (pe_callB (cr_sumK K rfl rfl) (by rfl) T.m_sum (by decide +kernel) (pa_cons (pe_lc (own := [("number", 9)]) (g := gName 9) (tt := tYes) (by rfl) sc_soonest.nd (pi_listK K rfl (pv 8)) (blkOk_by (own := [("number", 9)]) (N := N_soonest) (sc := defScope s_soonest) (by decide +kernel)) (fun _ _ _ _ _ => (pg_name (i := 9) sc_soonest.nd rfl (Or.inl rfl))) (fun _ _ _ _ _ => pts_nil) (fun _ _ _ _ _ => (pe_ix (ix_tupK K rfl) (pe_ix (ix_listK K rfl) (pv 4) (pv 9) (fun _ _ => rfl)) pe_int (fun _ _ => rfl)))) pa_nil)))
      (pss_one (ps_asg (pe_call G_levels_or_path (hr.mono (by decide)) (by rfl) m_levels_or_path F_levels_or_path.kp b_levels_or_path .nil pass0 (pa_cons (pv 0) (pa_cons (pv 4) (pa_cons (pv 5) pa_nil)))) (pg_tupK K rfl rfl (pgs_cons (pg_name (i := 7) sc_soonest.nd rfl (Or.inl rfl)) (pgs_cons (pg_name (i := 8) sc_soonest.nd rfl (Or.inl rfl)) pgs_nil))))))))
      (pss_one (ps_ret (pe_tup (pa_cons (pv 5) (pa_cons (pe_call G_ground_shifts (hr.mono (by decide)) (by rfl) m_ground_shifts F_ground_shifts.kp b_ground_shifts .nil pass0 (pa_cons (pv 0) (pa_cons (pv 1) (pa_cons (pv 7) pa_nil)))) (pa_cons (pv 6) pa_nil))))))))) R2 ?tail2)) R1 ?tail1))), ?_⟩
  case tail1 =>
    rintro D' σ' H1 ⟨eD, wl, sl, wv, sv, ys, s0, rfl, hwl, alw, hsl, als, aw, fa, rc, s1⟩
    refine ⟨_, rfl, r, hs, bs, rfl, hR.keep (TK.same s1), by omega, ok.good, fun ol H2 nol hol s2 => ?_⟩
    have k2 := TK.same s2
    have rest : ∀ x, baseW hs l = x → R2 D' [some (.ref r), some (nV l), some (.int T'), some (.ref wl), some (.ref sl), some (.int x), none, none, none, none] H2 := fun x e => by
      subst e
      exact ⟨eD, wl, sl, wv, sv, ys, s0, rfl, s2 _ _ hwl, alw.imp fun _ _ z => z.keep k2, s2 _ _ hsl, als.imp fun _ _ z => z.keep k2, aw, fa, rc, s1.trans s2⟩
    refine ⟨_, .inl ⟨_, SqL.of hol, rfl⟩, if_bl (fun c => ?_) (fun c => ?_)⟩
    · refine ⟨_, rfl, rest _ ?_⟩
      unfold baseW
      rw [if_neg fun z => by rw [z] at c; cases c]
    · refine rest _ ?_
      have e : doorsOf "out" hs = [] := by
        cases e : doorsOf "out" hs with
        | nil => rfl
        | cons a b => rw [e] at c; cases c
      unfold baseW
      rw [if_pos e]
  case tail2 =>
    rintro D' σ' H1 ⟨eD, wl, sl, wv, sv, ys, s0, rfl, hwl, alw, hsl, als, aw, fa, rc, s1⟩
    obtain ⟨W0, w0⟩ := Wait.ex s0 hs.length
    have lwv := alw.length
    have lsv := als.length
    have lst : (gSt hs ys l T').length ≤ 144 := by rw [List.length_map]; exact Nat.le_trans (List.length_filter_le ..) aw.few
    have fs : Feas (gSt hs ys l T') := ⟨_, ground_fits ok aw rc⟩
    have bd : ∀ s ∈ gSt hs ys l T', s.u < hs.length + 1 ∧ s.v < hs.length + 1 := fun s hs' => by
      obtain ⟨y, hy, rfl⟩ := List.mem_map.mp hs'
      have o := aw.ok y (gy_mem hy).1
      exact ⟨Nat.lt_succ_of_le (pl_le o.lt), Nat.lt_succ_of_le (pl_le (best_end ok o))⟩
    -- levels or a path, asked
    have ask : ∀ (M : Int) (H2 : Hp) (Q2 : VK), Same H1 H2 → (∀ (p : Addr) (x y : V) (H3 : Hp), H3 p = some (.tup [x, y]) → LpV hs.length (gSt hs ys l T') M H3 x y → Same H2 H3 → Q2 (.ref p) H3) → sp_levels_or_path K [.ref r, .ref sl, .int M] H2 Q2 E0 := fun M H2 Q2 s2 q => by
      refine ⟨r, sl, hs, bs, gSt hs ys l T', M, rfl, hR.keep (TK.same (s1.trans s2)), ok, ⟨_, s2 _ _ hsl, als.imp fun _ _ z => z.keep (TK.same s2)⟩, bd, lst, fs, fun p ll lv H3 hp hll f cp s3 => ?_, fun p rl ks H3 hp hrl po s3 => ?_⟩
      · exact q p _ _ H3 hp (.inl ⟨ll, lv, rfl, rfl, hll, f, cp⟩) s3
      · exact q p _ _ H3 hp (.inr ⟨rl, ks, rfl, rfl, hrl, po⟩) s3
    refine ⟨_, rfl, _, rfl, _, rfl, ?_⟩
    dsimp only [tNil]
    refine ask _ _ _ (fun _ _ e => e) fun p x y H2 hp lp s2 => ?_
    refine ⟨p, _, rfl, SqT.of hp, rfl, _, _, rfl, _, _, rfl, rfl, ?_⟩
    refine ⟨fun m σ H3 => ∃ (M : Int) (wk x y : V), σ = sg wl sl M wk (some x) (some y) ∧ LpV hs.length (gSt hs ys l T') M H3 x y ∧ WkV hs bs l T' M H3 wk ∧ baseW hs l ≤ M ∧ (∀ sh' W, Rch hs bs (some l) T' sh' → Wait hs.length sh' W → M ≤ W) ∧ m = (W0 - M).toNat ∧ Same H1 H3, ⟨_, baseW hs l, .non, x, y, rfl, lp, .inl ⟨rfl, rfl⟩, Int.le_refl _, fun sh' W r' w' => base_le r' w', rfl, s2⟩, ?_⟩
    rintro m σ H3 ⟨M, wk, x, y, rfl, lp, wv1, bM, low, rfl, s3⟩
    have s13 := s1.trans s3
    rcases lp with ⟨ll, lv, rfl, rfl, hll, f, cp⟩ | ⟨rl, ks, rfl, rfl, hrl, po⟩
    · refine ⟨_, rfl, rfl, _, rfl, if_bl (fun z => nomatch z) (fun _ => ?_)⟩
      refine ⟨_, rfl, _, rfl, _, rfl, _, rfl, r, ll, hs, bs, l, lv, rfl, hR.keep (TK.same s13), ok, hll, fun p2 H4 hp2 s4 => ?_⟩
      refine ⟨_, rfl, (by show 3 ≤ sizeLine; decide), fun p3 np3 => ?_⟩
      have s5 := same_new (o := .tup [V.int M, V.ref p2, wk]) np3
      have rs := ground_rch ok aw rc f
      have le : ∀ k, k < hs.length → shL hs l lv k ≤ M := fun k hk => by
        have nn := base_nn (hs := hs) (l := l)
        by_cases a : k ∈ doorsOf "in" hs
        · rw [rs.ins k a]; omega
        · by_cases b : k ∈ doorsOf "out" hs
          · obtain ⟨to, o1, o2, _⟩ := rs.outs
            rw [o1 k b, o2 l rfl]
            have : baseW hs l = ((l : Nat) : Int) := by unfold baseW; rw [if_neg fun z => by rw [z] at b; cases b]
            omega
          · unfold shL
            rw [pl_hand a b, ab_no b]
            have := cp k hk
            omega
      have wt : Wait hs.length (shL hs l lv) M := by
        obtain ⟨W', w'⟩ := Wait.ex (shL hs l lv) hs.length
        have h1 := low _ _ rs w'
        have h2 : W' ≤ M := by
          rcases w'.at_ with z | ⟨k, kl, z⟩
          · have := base_nn (hs := hs) (l := l); omega
          · rw [← z]; exact le k kl
        have : M = W' := Int.le_antisymm h1 h2
        rw [this]
        exact w'
      rw [eD]
      exact q2 p3 p2 _ M wk _ upd_same (s5 _ _ hp2) fa rs wt low (wv1.keep ((TK.same s4).trans (TK.same s5))) ((s13.trans s4).trans s5)
    · refine ⟨_, rfl, rfl, _, rfl, if_bl (fun _ => ?_) (fun z => nomatch z)⟩
      refine ⟨_, fun σ' H' h => h, ?_⟩
      obtain ⟨fy, fw, efw, walk⟩ := path_walk ok aw po
      have lks : ks.length ≤ 12 := Nat.le_trans po.ln lh
      refine ⟨_, rfl, rl, rfl, ⟨_, SqL.of hrl⟩, fun D nD => lc_list (K := K) (a := rl) (xs := ks.map nV) (fun i H5 => ∃ qv : List V, H5 D = some (.lst qv) ∧ All2 (PrAt H5) qv (waysOf (gYs hs ys) (ks.take i)) ∧ Same H3 H5) ⟨[], upd_same, .nil, same_new nD⟩ (fun i H5 _ ⟨_, _, _, s5⟩ => SqL.of (s5 _ _ hrl)) ?_ ?_⟩
      · rintro i v H5 hx ⟨qv, hD, al, s5⟩
        obtain ⟨k, ek, rfl⟩ := nats_at hx
        have il := (List.getElem?_eq_some_iff.mp ek).1
        have kl := po.lt k (List.mem_of_getElem? ek)
        rw [List.length_map] at kl
        have ey : (gYs hs ys)[k]? = some (gYs hs ys)[k] := List.getElem?_eq_getElem kl
        obtain ⟨x, ex, px⟩ := alw.get ey
        have lqv := al.length
        have lw := waysOf_len (ys := gYs hs ys) (ks := ks.take i)
        rw [List.length_take] at lw
        refine ⟨rfl, yes_in ⟨_, rfl, _, rfl, wl, _, _, _, rfl, rfl, SqL.of (s5 _ _ (s3 _ _ hwl)), atI_nat ex, _, hD, small1000 (by omega), qv ++ [x], upd_same, ?_, Same.own s5 nD⟩⟩
        rw [waysOf_take ek, ey]
        exact (al.snoc (px.keep (TK.same (s3.trans s5)))).imp fun _ _ z => z.keep (TK.lst hD)
      rintro H4 ⟨qv, hD, al, s4⟩
      rw [List.length_map, List.take_length] at al
      refine ⟨D, _, rfl, .inl ⟨SqL.of hD, fun wk2 nwk2 => ?_⟩⟩
      have s5 := s4.trans (same_new (o := .tup qv) nwk2)
      have hwk2 : (upd H4 wk2 (.tup qv)) wk2 = some (.tup qv) := upd_same
      have al5 := al.imp fun _ _ z => z.keep (TK.same (same_new (o := .tup qv) nwk2))
      generalize upd H4 wk2 (.tup qv) = H5 at s5 hwk2 al5 ⊢
      refine ⟨_, rfl, rl, rfl, ⟨_, SqL.of (s5 _ _ hrl)⟩, fun D2 nD2 => lc_list (K := K) (a := rl) (xs := ks.map nV) (fun i H6 => H6 D2 = some (.lst (((ks.take i).map (wS (gSt hs ys l T'))).map V.int)) ∧ Same H5 H6) ⟨upd_same, same_new nD2⟩ (fun i H6 _ ⟨_, s6⟩ => SqL.of (s6 _ _ (s5 _ _ hrl))) ?_ ?_⟩
      · rintro i v H6 hx ⟨hD2, s6⟩
        obtain ⟨k, ek, rfl⟩ := nats_at hx
        have il := (List.getElem?_eq_some_iff.mp ek).1
        have kl := po.lt k (List.mem_of_getElem? ek)
        have es : (gSt hs ys l T')[k]? = some (gSt hs ys l T')[k] := List.getElem?_eq_getElem kl
        obtain ⟨x, ex, ⟨t, rfl, ht⟩⟩ := als.get es
        have s16 := (s3.trans s5).trans s6
        refine ⟨rfl, yes_in ⟨_, rfl, _, rfl, sl, _, _, _, rfl, rfl, SqL.of (s16 _ _ hsl), atI_nat ex, t, _, _, _, rfl, rfl, SqT.of (s16 _ _ ht), atI_nat (j := 2) rfl, _, hD2, by rw [List.length_map, List.length_map, List.length_take]; exact small1000 (by omega), ?_, Same.own s6 nD2⟩⟩
        rw [upd_same, List.take_add_one, ek, List.map_append, List.map_append]
        show _ = some (HO.lst (_ ++ [V.int (wS (gSt hs ys l T') k)]))
        rw [wS_some es]
      rintro H6 ⟨hD2, s6⟩
      rw [List.length_map, List.take_length] at hD2
      refine ⟨D2, _, rfl, SqL.of hD2, ?_⟩
      have s36 := s5.trans s6
      have sum_gt := po.gt
      have lowN : ∀ sh' W, Rch hs bs (some l) T' sh' → Wait hs.length sh' W → (ks.map (wS (gSt hs ys l T'))).sum ≤ W := fun sh' W r' w' => path_low ok aw po r' w'.nn w'.le
      generalize (ks.map (wS (gSt hs ys l T'))).sum = M' at sum_gt lowN walk
      refine ⟨_, rfl, _, rfl, _, rfl, ?_⟩
      dsimp only [tNil]
      refine ask _ _ _ (s3.trans s36) fun p x y H7 hp lp s7 => ?_
      refine ⟨p, _, rfl, SqT.of hp, rfl, _, _, rfl, _, _, rfl, rfl, ?_⟩
      have M0 := lowN _ _ rc w0
      refine ⟨_, ?_, M', .ref wk2, x, y, rfl, lp, .inr ⟨by omega, wk2, qv, fy, fw, rfl, s7 _ _ (s6 _ _ hwk2), ?_, ?_, walk⟩, by omega, lowN, rfl, (s3.trans s36).trans s7⟩
      · omega
      · rw [← efw]
        exact al5.imp fun _ _ z => z.keep (TK.same (s6.trans s7))
      · have := waysOf_len (ys := gYs hs ys) (ks := ks)
        rw [efw] at this
        have := po.ln
        simp only [List.length_cons] at *
        omega
  refine ⟨_, rfl, _, rfl, _, rfl, r, hs, bs, some l, T', rfl, hR, ok, pos, fun p H1 tl s1 => ?_⟩
  rcases tl with ⟨p', sh, h1, h2, sf⟩ | ⟨p', pv, ws, h1, h2, h3, h4, h5, nf⟩
  · refine ⟨p, _, _, _, rfl, rfl, SqT.of h1, atI_nat (j := 0) rfl, rfl, _, rfl, if_bl (fun z => ?_) (fun _ => ?_)⟩
    · exact absurd (V.str.inj (of_decide_eq_true z)) (by decide +kernel)
    refine ⟨_, rfl, _, rfl, _, rfl, r, hs, bs, l, T', rfl, hR.keep (TK.same s1), ok, fun p2 wl sl wv sv ys H2 hp2 hwl alw hsl als aw s2 => ?_⟩
    refine ⟨p2, _, rfl, SqT.of hp2, rfl, _, _, rfl, _, _, rfl, rfl, ?_⟩
    exact ⟨rfl, wl, sl, wv, sv, ys, sh, rfl, hwl, alw, hsl, als, aw, sf.fa, sf.rch ok, s1.trans s2⟩
  · refine ⟨p, _, _, _, rfl, rfl, SqT.of h1, atI_nat (j := 0) rfl, rfl, _, rfl, if_bl (fun _ => ?_) (fun z => ?_)⟩
    · exact q1 H1 nf s1
    · exact absurd rfl (of_decide_eq_false z)
end
theorem All2.take {α β : Type} {R : α → β → Prop} : ∀ {as : List α} {bs : List β}, All2 R as bs → ∀ n, All2 R (as.take n) (bs.take n)
  | _, _, .nil, n => by rw [List.take_nil, List.take_nil]; exact .nil
  | _, _, .cons h t, 0 => .nil
  | _, _, .cons h t, n + 1 => .cons h (t.take n)
theorem All2.drop {α β : Type} {R : α → β → Prop} : ∀ {as : List α} {bs : List β}, All2 R as bs → ∀ n, All2 R (as.drop n) (bs.drop n)
  | _, _, .nil, n => by rw [List.drop_nil, List.drop_nil]; exact .nil
  | _, _, .cons h t, 0 => .cons h t
  | _, _, .cons h t, n + 1 => t.drop n
theorem All2.app {α β : Type} {R : α → β → Prop} {as : List α} {bs : List β} (h : All2 R as bs) {cs : List α} {ds : List β} (g : All2 R cs ds) : All2 R (as ++ cs) (bs ++ ds) := by
  induction h with
  | nil => exact g
  | cons a _ ih => exact .cons a ih
section
variable {P : Program} {w : World} {K : PySem.W.Frag} {mg : Str → Option Value} {base : Heap}
def sp_way_end (K : PySem.W.Frag) : Sp := fun vs H Q _ => ∃ (r t : Addr) (hs : List HR) (bs : List BR) (k : Nat) (ns : List Nat), vs = [.ref r, .ref t] ∧ RoomAt H r hs bs ∧ PairAt H t k ns ∧ k < hs.length ∧ (∀ n ∈ ns, n < bs.length) ∧ ∀ H', Same H H' → Q (onV (wayEnd bs k ns)) H'
theorem ok_way_end {f : Addr} {fd : FuncData} (F : Fun K "way_end" "way_end" s_way_end f fd) (T : Top K mg) : FnOk P w K mg base CX0 1 f fd ["room", "pair"] (sp_way_end K) := by
  refine F.ok sc_way_end (fun vs H Q E h => ?_) (fun cdv A outer s H vs Q E hr h => ?_)
  · obtain ⟨r, t, hs, bs, k, ns, rfl, _⟩ := h
    rfl
  obtain ⟨r, t, hs, bs, k, ns, rfl, hR, ⟨g, et, eg⟩, hk, hn, q⟩ := h
  obtain ⟨ha, ba, hv, bv, er, eh, eb, alh, alb⟩ := hR.ex
  have lhv := alh.length
  have lbv := alb.length
  refine ⟨_, (pss_cons (ps_asg (pv 0) (pg_tupK K rfl rfl (pgs_cons (pg_name (i := 2) sc_way_end.nd rfl (Or.inl rfl)) (pgs_cons (pg_name (i := 3) sc_way_end.nd rfl (Or.inl rfl)) pgs_nil))))
      (pss_cons (ps_asg (pv 1) (pg_tupK K rfl rfl (pgs_cons (pg_name (i := 4) sc_way_end.nd rfl (Or.inl rfl)) (pgs_cons (pg_name (i := 5) sc_way_end.nd rfl (Or.inl rfl)) pgs_nil))))
      (pss_cons (ps_if (pt_not (pt_chain op_le op_lt pe_int (pv 4) (pe_callB (call_len_seqK K rfl) (by rfl) T.m_len (by decide +kernel) (pa_cons (pv 2) pa_nil)))) (pss_one (ps_ret pe_non)) pss_nil)
      (pss_cons (ps_for PassesOwn.never rfl (pi_tupK K rfl (pv 5)) (pg_name (i := 6) sc_way_end.nd rfl (Or.inl rfl))
        (pss_cons (ps_if (PW.pt (pw_or (pt_not (pt_chain op_le op_lt pe_int (pv 6) (pe_callB (call_len_seqK K rfl) (by rfl) T.m_len (by decide +kernel) (pa_cons (pv 3) pa_nil)))) (pw_or1 (pt_cmpR op_ne (pe_ix (ix_tupK K rfl) (pe_ix (ix_tupK K rfl) (pv 3) (pv 6) (fun _ _ => rfl)) pe_int (fun _ _ => rfl)) (pv 4) (nomark _))))) (pss_one (ps_ret pe_non)) pss_nil)
      (pss_one (ps_set (i := 4) sc_way_end.nd rfl (Or.inl rfl) (pe_ix (ix_tupK K rfl) (pe_ix (ix_tupK K rfl) (pv 3) (pv 6) (fun _ _ => rfl)) pe_int (fun _ _ => rfl))))))
      (pss_one (ps_ret (pv 4))))))), ?_⟩
  refine ⟨_, rfl, r, _, rfl, SqT.of er, rfl, _, _, rfl, _, _, rfl, rfl, ?_⟩
  refine ⟨_, rfl, t, _, rfl, SqT.of et, rfl, _, _, rfl, _, _, rfl, rfl, ?_⟩
  refine ⟨_, rfl, _, _, rfl, rfl, _, rfl, if_bl (fun _ => ?_) (fun z => absurd (show (0 : Int) ≤ ((k : Nat) : Int) by omega) (of_decide_eq_false z))⟩
  refine ⟨_, rfl, ha, _, rfl, .inr (SqT.of eh), _, _, rfl, rfl, _, rfl, ?_⟩
  rw [decide_eq_true (show ((k : Nat) : Int) < ((hv.length : Nat) : Int) by omega)]
  refine if_bl (fun z => nomatch z) (fun _ => ?_)
  refine ⟨_, rfl, g, rfl, ⟨_, SqT.of eg⟩, for_tup (K := K) (a := g) (xs := ns.map nV) (fun i σ H2 => ∃ (cur : Nat) (v6 : Option V), σ = [some (.ref r), some (.ref t), some (.ref ha), some (.ref ba), some (nV cur), some (.ref g), v6] ∧ wayEnd bs k ns = wayEnd bs cur (ns.drop i) ∧ Same H H2)
    ⟨k, none, rfl, rfl, Same.refl _⟩ (fun i σ H2 _ ⟨_, _, _, _, s2⟩ => SqT.of (s2 _ _ eg)) ?_ ?_⟩
  · rintro i x σ H2 hx ⟨cur, v6, rfl, hw, s2⟩
    obtain ⟨n, en, rfl⟩ := nats_at hx
    have nb := hn n (List.mem_of_getElem? en)
    have ebn : bs[n]? = some bs[n] := List.getElem?_eq_getElem nb
    obtain ⟨x, ex, ⟨t2, g2, rfl, e1, e2⟩⟩ := alb.get ebn
    rw [drop_at en, wayEnd_cons ebn] at hw
    refine ⟨_, rfl, _, _, rfl, rfl, _, rfl, if_bl (fun _ => ?_) (fun z => absurd (show (0 : Int) ≤ ((n : Nat) : Int) by omega) (of_decide_eq_false z))⟩
    refine ⟨_, rfl, ba, _, rfl, .inr (SqT.of (s2 _ _ eb)), _, _, rfl, rfl, _, rfl, ?_⟩
    rw [decide_eq_true (show ((n : Nat) : Int) < ((bv.length : Nat) : Int) by omega)]
    refine if_bl (fun z => nomatch z) (fun _ => ?_)
    refine ⟨_, rfl, _, rfl, ba, _, _, _, rfl, rfl, SqT.of (s2 _ _ eb), atI_nat ex, t2, _, _, _, rfl, rfl, SqT.of (s2 _ _ e1), atI_nat (j := 0) rfl, _, rfl, rfl, _, rfl, ?_⟩
    by_cases c : bs[n].one = cur
    · rw [decide_eq_true (show nV bs[n].one = nV cur by rw [c])]
      rw [if_pos c] at hw
      refine if_bl (fun z => nomatch z) (fun _ => ?_)
      exact ⟨_, rfl, _, rfl, ba, _, _, _, rfl, rfl, SqT.of (s2 _ _ eb), atI_nat ex, t2, _, _, _, rfl, rfl, SqT.of (s2 _ _ e1), atI_nat (j := 1) rfl, _, _, rfl, hw, s2⟩
    · rw [decide_eq_false (show ¬ nV bs[n].one = nV cur from fun z => c (by have := V.int.inj z; omega))]
      rw [if_neg c] at hw
      refine if_bl (fun _ => ?_) (fun z => nomatch z)
      have := q _ s2
      rw [hw] at this
      exact this
  · rintro σ H2 ⟨cur, v6, rfl, hw, s2⟩
    rw [List.length_map, List.drop_length] at hw
    have := q _ s2
    rw [hw] at this
    exact ⟨_, rfl, this⟩
end
section
variable {P : Program} {w : World} {K : PySem.W.Frag} {mg : Str → Option Value} {base : Heap}
def sp_trays_on (K : PySem.W.Frag) : Sp := fun vs H Q _ => ∃ (r t : Addr) (hs : List HR) (bs : List BR) (k : Nat) (ns : List Nat), vs = [.ref r, .ref t] ∧ RoomAt H r hs bs ∧ PairAt H t k ns ∧ (∀ n ∈ ns, n < bs.length) ∧ ns.length ≤ 400 ∧ ∀ H', Same H H' → Q (.int (ns.map (trB bs)).sum) H'
theorem ok_trays_on {f : Addr} {fd : FuncData} (F : Fun K "trays_on" "trays_on" s_trays_on f fd) (T : Top K mg) : FnOk P w K mg base CX0 1 f fd ["room", "way"] (sp_trays_on K) := by
  refine F.ok sc_trays_on (fun vs H Q E h => ?_) (fun cdv A outer s H vs Q E hr h => ?_)
  · obtain ⟨r, t, hs, bs, k, ns, rfl, _⟩ := h
    rfl
  obtain ⟨r, t, hs, bs, k, ns, rfl, hR, ⟨g, et, eg⟩, hn, ln, q⟩ := h
  obtain ⟨ha, ba, hv, bv, er, eh, eb, alh, alb⟩ := hR.ex
  refine ⟨_, (pss_one (ps_ret (pe_callB (cr_sumK K rfl rfl) (by rfl) T.m_sum (by decide +kernel) (pa_cons (pe_lc (own := [("number", 2)]) (g := gName 2) (tt := tYes) (by rfl) sc_trays_on.nd (pi_tupK K rfl (pe_ix (ix_tupK K rfl) (pv 1) pe_int (fun _ _ => rfl))) (blkOk_by (own := [("number", 2)]) (N := N_trays_on) (sc := defScope s_trays_on) (by decide +kernel)) (fun _ _ _ _ _ => (pg_name (i := 2) sc_trays_on.nd rfl (Or.inl rfl))) (fun _ _ _ _ _ => pts_nil) (fun _ _ _ _ _ => (pe_callB (call_len_seqK K rfl) (by rfl) T.m_len (by decide +kernel) (pa_cons (pe_ix (ix_tupK K rfl) (pe_ix (ix_tupK K rfl) (pe_ix (ix_tupK K rfl) (pv 0) pe_int (fun _ _ => rfl)) (pv 2) (fun _ _ => rfl)) pe_int (fun _ _ => rfl)) pa_nil)))) pa_nil)))), ?_⟩
  refine ⟨_, rfl, t, _, _, _, rfl, rfl, SqT.of et, atI_nat (j := 1) rfl, g, rfl, ⟨_, SqT.of eg⟩, fun D nD => lc_tup (K := K) (a := g) (xs := ns.map nV) (fun i H5 => H5 D = some (.lst (((ns.take i).map (trB bs)).map V.int)) ∧ Same H H5) ⟨upd_same, same_new nD⟩ (fun i H5 _ ⟨_, s5⟩ => SqT.of (s5 _ _ eg)) ?_ ?_⟩
  · rintro i x H5 hx ⟨hD, s5⟩
    obtain ⟨n, en, rfl⟩ := nats_at hx
    have il := (List.getElem?_eq_some_iff.mp en).1
    have nb := hn n (List.mem_of_getElem? en)
    have ebn : bs[n]? = some bs[n] := List.getElem?_eq_getElem nb
    obtain ⟨x, ex, ⟨t2, g2, rfl, e1, e2⟩⟩ := alb.get ebn
    refine ⟨rfl, yes_in ⟨_, rfl, r, _, _, _, rfl, rfl, SqT.of (s5 _ _ er), atI_nat (j := 1) rfl, _, rfl, ba, _, _, _, rfl, rfl, SqT.of (s5 _ _ eb), atI_nat ex, t2, _, _, _, rfl, rfl, SqT.of (s5 _ _ e1), atI_nat (j := 2) rfl, g2, _, rfl, .inr (SqT.of (s5 _ _ e2)), _, hD, ?_, ?_, Same.own s5 nD⟩⟩
    · rw [List.length_map, List.length_map, List.length_take]; exact small1000 (by omega)
    · rw [upd_same, List.take_add_one, en, List.map_append, List.map_append, List.length_map]
      show _ = some (HO.lst (_ ++ [V.int (trB bs n)]))
      unfold trB
      rw [ebn]
  · rintro H5 ⟨hD, s5⟩
    rw [List.length_map, List.take_length] at hD
    exact ⟨D, _, rfl, SqL.of hD, q _ s5⟩
def sp_moments_on (K : PySem.W.Frag) : Sp := fun vs H Q _ => ∃ (r t : Addr) (hs : List HR) (bs : List BR) (k : Nat) (ns : List Nat), vs = [.ref r, .ref t] ∧ RoomAt H r hs bs ∧ (∀ b ∈ bs, b.to < hs.length) ∧ PairAt H t k ns ∧ k < hs.length ∧ (∀ n ∈ ns, n < bs.length) ∧ ns.length ≤ 400 ∧ ∀ H', Same H H' → Q (.int (momW hs bs k ns)) H'
theorem ok_moments_on {f : Addr} {fd : FuncData} (F : Fun K "moments_on" "moments_on" s_moments_on f fd) (T : Top K mg) : FnOk P w K mg base CX0 1 f fd ["room", "way"] (sp_moments_on K) := by
  refine F.ok sc_moments_on (fun vs H Q E h => ?_) (fun cdv A outer s H vs Q E hr h => ?_)
  · obtain ⟨r, t, hs, bs, k, ns, rfl, _⟩ := h
    rfl
  obtain ⟨r, t, hs, bs, k, ns, rfl, hR, hto, ⟨g, et, eg⟩, hk, hn, ln, q⟩ := h
  obtain ⟨ha, ba, hv, bv, er, eh, eb, alh, alb⟩ := hR.ex
  refine ⟨_, (pss_cons (ps_asg (pv 0) (pg_tupK K rfl rfl (pgs_cons (pg_name (i := 2) sc_moments_on.nd rfl (Or.inr rfl)) (pgs_cons (pg_name (i := 3) sc_moments_on.nd rfl (Or.inr rfl)) pgs_nil))))
      (pss_cons (ps_asg (pv 1) (pg_tupK K rfl rfl (pgs_cons (pg_name (i := 4) sc_moments_on.nd rfl (Or.inl rfl)) (pgs_cons (pg_name (i := 5) sc_moments_on.nd rfl (Or.inl rfl)) pgs_nil))))
      (pss_one (ps_ret (pe_op op_add (pe_ix (ix_tupK K rfl) (pe_ix (ix_tupK K rfl) (pv 2) (pv 4) (fun _ _ => rfl)) pe_int (fun _ _ => rfl)) (pe_callB (cr_sumK K rfl rfl) (by rfl) T.m_sum (by decide +kernel) (pa_cons (pe_lc (own := [("number", 6)]) (g := gName 6) (tt := tYes) (by rfl) sc_moments_on.nd (pi_tupK K rfl (pv 5)) (blkOk_by (own := [("number", 6)]) (N := N_moments_on) (sc := defScope s_moments_on) (by decide +kernel)) (fun _ _ _ _ _ => (pg_name (i := 6) sc_moments_on.nd rfl (Or.inl rfl))) (fun _ _ _ _ _ => pts_nil) (fun _ _ _ _ _ => (pe_ix (ix_tupK K rfl) (pe_ix (ix_tupK K rfl) (pv 2) (pe_ix (ix_tupK K rfl) (pe_ix (ix_tupK K rfl) (pv 3) (pv 6) (fun _ _ => rfl)) pe_int (fun _ _ => rfl)) (fun _ _ => rfl)) pe_int (fun _ _ => rfl)))) pa_nil))))))), ?_⟩
  refine ⟨_, rfl, r, _, rfl, SqT.of er, rfl, _, _, rfl, _, _, rfl, rfl, ?_⟩
  refine ⟨_, rfl, t, _, rfl, SqT.of et, rfl, _, _, rfl, _, _, rfl, rfl, ?_⟩
  have ehk : hs[k]? = some hs[k] := List.getElem?_eq_getElem hk
  obtain ⟨x0, ex0, ⟨t0, r0, rfl, e01, e02⟩⟩ := alh.get ehk
  refine ⟨_, rfl, _, rfl, ha, _, _, _, rfl, rfl, SqT.of eh, atI_nat ex0, t0, _, _, _, rfl, rfl, SqT.of e01, atI_nat (j := 1) rfl, ?_⟩
  refine ⟨_, rfl, g, rfl, ⟨_, SqT.of eg⟩, fun D nD => lc_tup (K := K) (a := g) (xs := ns.map nV) (fun i H5 => H5 D = some (.lst (((ns.take i).map fun n => momH hs (toB bs n)).map V.int)) ∧ Same H H5) ⟨upd_same, same_new nD⟩ (fun i H5 _ ⟨_, s5⟩ => SqT.of (s5 _ _ eg)) ?_ ?_⟩
  · rintro i x H5 hx ⟨hD, s5⟩
    obtain ⟨n, en, rfl⟩ := nats_at hx
    have il := (List.getElem?_eq_some_iff.mp en).1
    have nb := hn n (List.mem_of_getElem? en)
    have ebn : bs[n]? = some bs[n] := List.getElem?_eq_getElem nb
    obtain ⟨x, ex, ⟨t2, g2, rfl, e1, e2⟩⟩ := alb.get ebn
    have tb := hto _ (List.getElem_mem nb)
    have eht : hs[bs[n].to]? = some hs[bs[n].to] := List.getElem?_eq_getElem tb
    obtain ⟨y, ey, ⟨t3, r3, rfl, e31, e32⟩⟩ := alh.get eht
    refine ⟨rfl, yes_in ⟨_, rfl, _, rfl, _, rfl, ba, _, _, _, rfl, rfl, SqT.of (s5 _ _ eb), atI_nat ex, t2, _, _, _, rfl, rfl, SqT.of (s5 _ _ e1), atI_nat (j := 1) rfl, ha, _, _, _, rfl, rfl, SqT.of (s5 _ _ eh), atI_nat ey, t3, _, _, _, rfl, rfl, SqT.of (s5 _ _ e31), atI_nat (j := 1) rfl, _, hD, ?_, ?_, Same.own s5 nD⟩⟩
    · rw [List.length_map, List.length_map, List.length_take]; exact small1000 (by omega)
    · rw [upd_same, List.take_add_one, en, List.map_append, List.map_append]
      show _ = some (HO.lst (_ ++ [V.int (momH hs (toB bs n))]))
      unfold momH toB
      rw [ebn]
      dsimp only
      rw [eht]
  · rintro H5 ⟨hD, s5⟩
    rw [List.length_map, List.take_length] at hD
    refine ⟨D, _, rfl, SqL.of hD, _, _, rfl, rfl, ?_⟩
    have := q _ s5
    unfold momW at this
    rw [show momH hs k = hs[k].mom by unfold momH; rw [ehk]] at this
    exact this
end
def RgAt (H : Hp) (v : V) (x : Nat × List Nat) : Prop := ∃ p : Addr, v = .ref p ∧ PairAt H p x.1 x.2
theorem RgAt.keep {H H' : Hp} {v : V} {x : Nat × List Nat} (a : RgAt H v x) (k : TK H H') : RgAt H' v x := by
  obtain ⟨p, e, h⟩ := a
  exact ⟨p, e, h.keep k⟩
theorem wayEnd_no {bs : List BR} {n k : Nat} {ns : List Nat} (e : bs[n]? = none) : wayEnd bs k (n :: ns) = none := by
  show (match bs[n]? with | some b => if b.one = k then wayEnd bs b.to ns else none | none => none) = none
  rw [e]
/-! ### walks looked at, whatever they are -/
abbrev Wq := Nat × List Nat
structure WkOk (hs : List HR) (bs : List BR) (x : Wq) : Prop where
  k : x.1 < hs.length
  lt : ∀ n ∈ x.2, n < bs.length
  ln : x.2.length ≤ 60
def endO (bs : List BR) (x : Wq) : Option Nat := wayEnd bs x.1 x.2
def enD (bs : List BR) (x : Wq) : Nat := (endO bs x).getD 0
def oI : Option Int → V
  | none => .non
  | some i => .int i
def stepT (hs : List HR) (late : Option Nat) (e o : Nat) : Option Int := if o = e then some 0 else match late with
  | none => none
  | some l => if e ∈ doorsOf "out" hs ∧ o ∈ doorsOf "in" hs then some ((l : Nat) : Int) else none
def sumO : List (Option Int) → Option Int
  | [] => some 0
  | o :: os => match o, sumO os with
    | some a, some b => some (a + b)
    | _, _ => none
theorem sumO_none {l : List (Option Int)} (h : none ∈ l) : sumO l = none := by
  induction l with
  | nil => cases h
  | cons o os ih =>
    rcases List.mem_cons.mp h with rfl | h
    · rfl
    · show (match o, sumO os with | some a, some b => some (a + b) | _, _ => none) = none
      rw [ih h]
      cases o <;> rfl
theorem sumO_some {l : List (Option Int)} (h : none ∉ l) : sumO l = some (l.map fun o => o.getD 0).sum := by
  induction l with
  | nil => rfl
  | cons o os ih =>
    have ih := ih fun z => h (List.mem_cons_of_mem _ z)
    cases o with
    | none => exact absurd (List.mem_cons_self ..) h
    | some a =>
      show (match some a, sumO os with | some a, some b => some (a + b) | _, _ => none) = _
      rw [ih]
      rfl
theorem sumO_snoc (l : List (Option Int)) (o : Option Int) : sumO (l ++ [o]) = match sumO l, o with
    | some a, some b => some (a + b)
    | _, _ => none := by
  by_cases hn : none ∈ l
  · rw [sumO_none hn, sumO_none (List.mem_append_left _ hn)]
  · rw [sumO_some hn]
    cases o with
    | none => rw [sumO_none (List.mem_append_right _ (List.mem_singleton.mpr rfl))]
    | some b =>
      have h2 : none ∉ l ++ [some b] := fun z => (List.mem_append.mp z).elim hn fun z => by cases List.mem_singleton.mp z
      rw [sumO_some h2, List.map_append, List.sum_append]
      show some (_ + (b + 0)) = some (_ + b)
      rw [Int.add_zero]
def trW (bs : List BR) (ws : List Wq) : Int := (ws.map fun x => (x.2.map (trB bs)).sum).sum
abbrev later (ws : List Wq) : List Wq := ws.drop 1 ++ ws.take 1
theorem later_len {ws : List Wq} : (later ws).length = ws.length := by
  rw [List.length_append, List.length_drop, List.length_take]
  omega
def pS (hs : List HR) (bs : List BR) (late : Option Nat) (ps : List (Wq × Wq)) : List (Option Int) := ps.map fun p => stepT hs late (enD bs p.1) p.2.1
def allE (bs : List BR) (ws : List Wq) : Prop := ∀ x ∈ ws, (endO bs x).isSome = true
instance {bs : List BR} {ws : List Wq} : Decidable (allE bs ws) := List.decidableBAll _ _
def addT (t : Int) : Option Int → Option Int
  | some s => some (s + t)
  | none => none
def openT (hs : List HR) (bs : List BR) (late : Option Nat) (ws : List Wq) : Option Int := if ws = [] ∨ ¬ allE bs ws then none else addT (trW bs ws) (sumO (pS hs bs late (ws.zip (ws.drop 1))))
def closT (hs : List HR) (bs : List BR) (late : Option Nat) (ws : List Wq) : Option Int := if ws = [] ∨ ¬ allE bs ws then none else addT (trW bs ws) (sumO (pS hs bs late (ws.zip (later ws))))
theorem zip_later {y : Wq} : ∀ (ws : List Wq) (x z : Wq), (x :: ws).zip (ws ++ [z]) = (x :: ws).zip ws ++ [((x :: ws).getLast (List.cons_ne_nil _ _), z)]
  | [], x, z => rfl
  | u :: ws, x, z => by
    show (x, u) :: (u :: ws).zip (ws ++ [z]) = (x, u) :: (u :: ws).zip ws ++ _
    rw [zip_later (y := y) ws u z]
    rfl
theorem closT_open {hs : List HR} {bs : List BR} {late : Option Nat} {ws : List Wq} {x y : Wq} (h0 : ws[0]? = some y) (h1 : ws[ws.length - 1]? = some x) : closT hs bs late ws = match openT hs bs late ws, stepT hs late (enD bs x) y.1 with
    | some a, some b => some (a + b)
    | _, _ => none := by
  cases ws with
  | nil => cases h0
  | cons u ws =>
    obtain rfl : u = y := Option.some.inj h0
    have el : (u :: ws).getLast (List.cons_ne_nil _ _) = x := by
      rw [List.getLast_eq_getElem]
      have h1 := (List.getElem?_eq_some_iff.mp h1)
      obtain ⟨_, h1⟩ := h1
      exact h1
    unfold closT openT
    by_cases c : u :: ws = [] ∨ ¬ allE bs (u :: ws)
    · rw [if_pos c, if_pos c]
    · rw [if_neg c, if_neg c]
      have e : (u :: ws).zip (later (u :: ws)) = (u :: ws).zip ((u :: ws).drop 1) ++ [(x, u)] := by
        show (u :: ws).zip (ws ++ [u]) = (u :: ws).zip ws ++ [(x, u)]
        rw [zip_later (y := u) ws u u, el]
      rw [e]
      unfold pS
      rw [List.map_append]
      show addT _ (sumO (_ ++ [stepT hs late (enD bs x) u.1])) = _
      rw [sumO_snoc]
      generalize sumO ((List.map (fun p => stepT hs late (enD bs p.1) p.2.1) ((u :: ws).zip ((u :: ws).drop 1)))) = s
      cases s with
      | none => rfl
      | some s =>
        cases stepT hs late (enD bs x) u.1 with
        | none => rfl
        | some b =>
          show some (s + b + _) = some (s + _ + b)
          congr 1
          omega
theorem inV_non {α : Type} {f : α → V} {l : List α} : inV .non (l.map f) = l.any fun x => eqV (f x) .non := by
  unfold inV
  rw [List.any_map]
  rfl
theorem wayEnd_lt57 {hs : List HR} {bs : List BR} (hto : ∀ b ∈ bs, b.to < hs.length) : ∀ {ns : List Nat} {k e : Nat}, k < hs.length → wayEnd bs k ns = some e → e < hs.length
  | [], k, e, hk, w => by cases w; exact hk
  | n :: ns, k, e, hk, w => by
    cases eb : bs[n]? with
    | none => rw [wayEnd_no eb] at w; cases w
    | some b =>
      rw [wayEnd_cons eb] at w
      by_cases z : b.one = k
      · rw [if_pos z] at w; exact wayEnd_lt57 hto (hto b (List.mem_of_getElem? eb)) w
      · rw [if_neg z] at w; cases w
section
variable {P : Program} {w : World} {K : PySem.W.Frag} {mg : Str → Option Value} {base : Heap}
def sp_step_trays (K : PySem.W.Frag) : Sp := fun vs H Q _ => ∃ (r : Addr) (hs : List HR) (bs : List BR) (late : Option Nat) (e o : Nat), vs = [.ref r, lateV late, nV e, nV o] ∧ RoomAt H r hs bs ∧ (∀ h ∈ hs, GoodHand h) ∧ e < hs.length ∧ o < hs.length ∧ Q (oI (stepT hs late e o)) H
theorem ok_step_trays {f : Addr} {fd : FuncData} (F : Fun K "step_trays" "step_trays" s_step_trays f fd) (T : Top K mg) : FnOk P w K mg base CX0 1 f fd ["room", "late", "end", "begin"] (sp_step_trays K) := by
  refine F.ok sc_step_trays (fun vs H Q E h => ?_) (fun cdv A outer s H vs Q E hr h => ?_)
  · obtain ⟨r, hs, bs, late, e, o, rfl, _⟩ := h
    rfl
  obtain ⟨aI, mI, hI⟩ := T.x_in
  obtain ⟨aO, mO, hO⟩ := T.x_out
  obtain ⟨r, hs, bs, late, e, o, rfl, hR, good, el, ol, q⟩ := h
  obtain ⟨ha, ba, hv, bv, er, eh, eb, alh, alb⟩ := id hR.ex
  refine ⟨_, (pss_cons (ps_if (pt_cmpR op_eq (pv 3) (pv 2) (nomark _)) (pss_one (ps_ret pe_int)) pss_nil)
      (pss_cons (ps_if (PW.pt (pw_and (pt_cmpR op_notN (pv 1) pe_non (nomark _)) (pw_and (pt_cmpR (op_eqDK K rfl hr.units) (pe_ix (ix_tupK K rfl) (pe_ix (ix_tupK K rfl) (pe_ix (ix_tupK K rfl) (pv 0) pe_int (fun _ _ => rfl)) (pv 2) (fun _ _ => rfl)) pe_int (fun _ _ => rfl)) (pe_glob (v := .ref aO) (by rfl) mO rfl) (nomark _)) (pw_and1 (pt_cmpR (op_eqDK K rfl hr.units) (pe_ix (ix_tupK K rfl) (pe_ix (ix_tupK K rfl) (pe_ix (ix_tupK K rfl) (pv 0) pe_int (fun _ _ => rfl)) (pv 3) (fun _ _ => rfl)) pe_int (fun _ _ => rfl)) (pe_glob (v := .ref aI) (by rfl) mI rfl) (nomark _)))))) (pss_one (ps_ret (pv 1))) pss_nil)
      (pss_one (ps_ret pe_non)))), ?_⟩
  unfold stepT at q
  refine ⟨_, rfl, _, rfl, rfl, _, rfl, if_bl (fun z => ?_) (fun z => ?_)⟩
  · have z : o = e := by
      have := V.int.inj (of_decide_eq_true z : V.int ((o : Nat) : Int) = V.int ((e : Nat) : Int))
      omega
    rw [if_pos z] at q
    exact q
  have ne : ¬ o = e := fun y => by
    have z : decide (V.int ((o : Nat) : Int) = V.int ((e : Nat) : Int)) = false := z
    rw [y, decide_eq_true rfl] at z
    cases z
  rw [if_neg ne] at q
  cases late with
  | none => exact ⟨_, rfl, rfl, _, rfl, if_bl (fun z => nomatch z) (fun _ => if_bl (fun z => nomatch z) (fun _ => q))⟩
  | some l =>
  have q : Q (oI (if e ∈ doorsOf "out" hs ∧ o ∈ doorsOf "in" hs then some ((l : Nat) : Int) else none)) H := q
  have ee : hs[e]? = some hs[e] := List.getElem?_eq_getElem el
  have eo : hs[o]? = some hs[o] := List.getElem?_eq_getElem ol
  obtain ⟨x1, ex1, ⟨t1, r1, rfl, e11, e12⟩⟩ := alh.get ee
  obtain ⟨x2, ex2, ⟨t2, r2, rfl, e21, e22⟩⟩ := alh.get eo
  have g1 := good _ (List.getElem_mem el)
  have g2 := good _ (List.getElem_mem ol)
  have m1 : e ∈ doorsOf "out" hs ↔ hs[e].wd = "out" := by
    rw [mem_doors]
    exact ⟨fun ⟨h, e', w⟩ => by rw [ee] at e'; cases e'; exact w, fun h => ⟨_, ee, h⟩⟩
  have m2 : o ∈ doorsOf "in" hs ↔ hs[o].wd = "in" := by
    rw [mem_doors]
    exact ⟨fun ⟨h, e', w⟩ => by rw [eo] at e'; cases e'; exact w, fun h => ⟨_, eo, h⟩⟩
  refine ⟨_, rfl, rfl, _, rfl, if_bl (fun _ => ?_) (fun z => nomatch z)⟩
  refine ⟨_, rfl, r, _, _, _, rfl, rfl, SqT.of er, atI_nat (j := 0) rfl, _, rfl, ha, _, _, _, rfl, rfl, SqT.of eh, atI_nat ex1, t1, _, _, _, rfl, rfl, SqT.of e11, atI_nat (j := 0) rfl, ?_⟩
  refine ⟨_, _, rule_dp e12, .tup (hO _) (.cons (.str _) .nil), rule_shaped g1.lay, one_shaped (by decide +kernel), _, rfl, ?_⟩
  rw [rule_eqv, g1.door "out" (.inr rfl)]
  by_cases c1 : hs[e].wd = "out"
  · rw [decide_eq_true c1]
    refine if_bl (fun _ => ?_) (fun z => nomatch z)
    refine ⟨_, rfl, r, _, _, _, rfl, rfl, SqT.of er, atI_nat (j := 0) rfl, _, rfl, ha, _, _, _, rfl, rfl, SqT.of eh, atI_nat ex2, t2, _, _, _, rfl, rfl, SqT.of e21, atI_nat (j := 0) rfl, ?_⟩
    refine ⟨_, _, rule_dp e22, .tup (hI _) (.cons (.str _) .nil), rule_shaped g2.lay, one_shaped (by decide +kernel), _, rfl, ?_⟩
    rw [rule_eqv, g2.door "in" (.inl rfl)]
    by_cases c2 : hs[o].wd = "in"
    · rw [decide_eq_true c2]
      rw [if_pos ⟨m1.mpr c1, m2.mpr c2⟩] at q
      exact if_bl (fun _ => ⟨_, rfl, q⟩) (fun z => nomatch z)
    · rw [decide_eq_false c2]
      rw [if_neg fun z => c2 (m2.mp z.2)] at q
      exact if_bl (fun z => nomatch z) (fun _ => q)
  · rw [decide_eq_false c1]
    rw [if_neg fun z => c1 (m1.mp z.1)] at q
    exact if_bl (fun z => nomatch z) (fun _ => if_bl (fun z => nomatch z) (fun _ => q))
def sp_walk_trays (K : PySem.W.Frag) : Sp := fun vs H Q _ => ∃ (r wp : Addr) (hs : List HR) (bs : List BR) (late : Option Nat) (qv : List V) (ws : List Wq), vs = [.ref r, lateV late, .ref wp] ∧ RoomAt H r hs bs ∧ (∀ h ∈ hs, GoodHand h) ∧ (∀ b ∈ bs, b.to < hs.length) ∧ H wp = some (.tup qv) ∧ All2 (RgAt H) qv ws ∧ ws.length ≤ 60 ∧ (∀ x ∈ ws, WkOk hs bs x) ∧ ∀ H', Same H H' → Q (oI (openT hs bs late ws)) H'
theorem ok_walk_trays {f : Addr} {fd : FuncData} (F : Fun K "walk_trays" "walk_trays" s_walk_trays f fd) (T : Top K mg) : FnOk P w K mg base CX0 2 f fd ["room", "late", "walk"] (sp_walk_trays K) := by
  obtain ⟨f_way_end, fd_way_end, F_way_end, b_way_end, m_way_end⟩ := T.d_way_end
  have G_way_end := ok_way_end (P := P) (w := w) (base := base) F_way_end T
  obtain ⟨f_step_trays, fd_step_trays, F_step_trays, b_step_trays, m_step_trays⟩ := T.d_step_trays
  have G_step_trays := ok_step_trays (P := P) (w := w) (base := base) F_step_trays T
  obtain ⟨f_trays_on, fd_trays_on, F_trays_on, b_trays_on, m_trays_on⟩ := T.d_trays_on
  have G_trays_on := ok_trays_on (P := P) (w := w) (base := base) F_trays_on T
  refine F.ok sc_walk_trays (fun vs H Q E h => ?_) (fun cdv A outer s H vs Q E hr h => ?_)
  · obtain ⟨r, wp, hs, bs, late, qv, ws, rfl, _⟩ := h
    rfl
  obtain ⟨r, wp, hs, bs, late, qv, ws, rfl, hR, good, hto, hw, alp, lws, wok, q⟩ := h
  have lqv := alp.length
  let R1 : TS := fun D' σ' H' => D'.rt = Q ∧ ∃ (el : Addr), σ' = [some (.ref r), some (lateV late), some (.ref wp), some (.ref el), none, none, none] ∧ H' el = some (.lst (ws.map fun x => onV (endO bs x))) ∧ Same H H'
  let R2 : TS := fun D' σ' H' => D'.rt = Q ∧ ∃ (el sl : Addr), σ' = [some (.ref r), some (lateV late), some (.ref wp), some (.ref el), none, some (.ref sl), none] ∧ ws ≠ [] ∧ allE bs ws ∧ H' sl = some (.lst ((pS hs bs late (ws.zip (ws.drop 1))).map oI)) ∧ Same H H'
  refine ⟨_, (pss_cons (ps_setLc (i := 3) (own := [("way", 4)]) (g := gName 4) (tt := tYes) (by rfl) sc_walk_trays.nd rfl rfl (sw_true rfl rfl rfl (by decide +kernel)) (pi_tupK K rfl (pv 2)) (blkOk_by (own := [("way", 4)]) (N := N_walk_trays) (sc := defScope s_walk_trays) (by decide +kernel)) (fun _ _ _ _ _ => (pg_name (i := 4) sc_walk_trays.nd rfl (Or.inl rfl))) (fun _ _ _ _ _ => pts_nil) (fun _ _ _ _ _ => (pe_call G_way_end (hr.mono (by decide)) (by rfl) m_way_end F_way_end.kp b_way_end .nil pass0 (pa_cons (pv 0) (pa_cons (pv 4) pa_nil)))))
      (PSs.to (pss_cons (ps_if (PW.pt (pw_or (pt_not (pt_truthK K rfl (pv 3) (by intro _; rfl))) (pw_or1 (pt_cmpR (op_in_seqK K rfl) pe_non (pv 3) (by with_unfolding_all rfl))))) (pss_one (ps_ret pe_non)) pss_nil)
      (pss_cons (ps_setLc (i := 5) (own := [("end", 6), ("way", 4)]) (g := gTup K 2 (gCons (gName 6) (gCons (gName 4) gNil))) (tt := tYes) (by rfl) sc_walk_trays.nd rfl rfl (sw_true rfl rfl rfl (by decide +kernel)) (pi_zipLT K rfl (by rfl) T.m_zip (pa_cons (pv 3) (pa_cons (pe_slice (sl_tupAK K rfl) (pv 2) (po_some pe_int) po_none) pa_nil))) (blkOk_by (own := [("end", 6), ("way", 4)]) (N := N_walk_trays) (sc := defScope s_walk_trays) (by decide +kernel)) (fun _ _ _ _ _ => (pg_tupK K rfl rfl (pgs_cons (pg_name (i := 6) sc_walk_trays.nd rfl (Or.inl rfl)) (pgs_cons (pg_name (i := 4) sc_walk_trays.nd rfl (Or.inl rfl)) pgs_nil)))) (fun _ _ _ _ _ => pts_nil) (fun _ _ _ _ _ => (pe_call G_step_trays (hr.mono (by decide)) (by rfl) m_step_trays F_step_trays.kp b_step_trays .nil pass0 (pa_cons (pv 0) (pa_cons (pv 1) (pa_cons (pv 6) (pa_cons (pe_ix (ix_tupK K rfl) (pv 4) pe_int (fun _ _ => rfl)) pa_nil)))))))
      (PSs.to (pss_cons (ps_if (pt_cmpR (op_in_seqK K rfl) pe_non (pv 5) (by with_unfolding_all rfl)) (pss_one (ps_ret pe_non)) pss_nil)
      (pss_one (ps_ret (pe_op op_add (pe_callB (cr_sumK K rfl rfl) (by rfl) T.m_sum (by decide +kernel) (pa_cons (pv 5) pa_nil)) (pe_callB (cr_sumK K rfl rfl) (by rfl) T.m_sum (by decide +kernel) (pa_cons (pe_lc (own := [("way", 4)]) (g := gName 4) (tt := tYes) (by rfl) sc_walk_trays.nd (pi_tupK K rfl (pv 2)) (blkOk_by (own := [("way", 4)]) (N := N_walk_trays) (sc := defScope s_walk_trays) (by decide +kernel)) (fun _ _ _ _ _ => (pg_name (i := 4) sc_walk_trays.nd rfl (Or.inl rfl))) (fun _ _ _ _ _ => pts_nil) (fun _ _ _ _ _ => (pe_call G_trays_on (hr.mono (by decide)) (by rfl) m_trays_on F_trays_on.kp b_trays_on .nil pass0 (pa_cons (pv 0) (pa_cons (pv 4) pa_nil))))) pa_nil)))))) R2 ?tail2))) R1 ?tail1)), ?_⟩
  case tail2 =>
    rintro D' σ' H1 ⟨eD, el, sl, rfl, wne, ae, hsl, s1⟩
    have flat : ((pS hs bs late (ws.zip (ws.drop 1))).map oI).all flatV = true := by
      rw [List.all_map]
      exact List.all_eq_true.mpr fun o _ => by cases o <;> rfl
    have q := fun H' s => q H' s
    unfold openT at q
    rw [if_neg (fun z => z.elim wne fun y => y ae)] at q
    have ez : (ws.zip (ws.drop 1)).length ≤ ws.length := by rw [List.length_zip]; exact Nat.min_le_left _ _
    refine ⟨_, rfl, sl, _, rfl, .inl (SqL.of hsl), rfl, flat, _, rfl, ?_⟩
    rw [inV_non]
    by_cases hn : none ∈ pS hs bs late (ws.zip (ws.drop 1))
    · rw [show ((pS hs bs late (ws.zip (ws.drop 1))).any fun x => eqV (oI x) .non) = true from List.any_eq_true.mpr ⟨none, hn, rfl⟩]
      refine if_bl (fun _ => ?_) (fun z => nomatch z)
      rw [sumO_none hn] at q
      rw [eD]
      exact q H1 s1
    · rw [show ((pS hs bs late (ws.zip (ws.drop 1))).any fun x => eqV (oI x) .non) = false from List.any_eq_false.mpr fun o ho => by
        cases o with
        | none => exact absurd ho hn
        | some i => exact Bool.false_ne_true]
      refine if_bl (fun z => nomatch z) (fun _ => ?_)
      rw [sumO_some hn] at q
      generalize epl : pS hs bs late (ws.zip (ws.drop 1)) = pl at hsl hn q
      have em : pl.map oI = (pl.map fun o => o.getD 0).map V.int := by
        rw [List.map_map]
        refine List.map_congr_left fun o ho => ?_
        cases o with
        | none => exact absurd ho hn
        | some i => rfl
      refine ⟨_, rfl, sl, pl.map fun o => o.getD 0, rfl, SqL.of (by rw [← em]; exact hsl), ?_⟩
      have hw1 := s1 _ _ hw
      refine ⟨_, rfl, wp, rfl, ⟨_, SqT.of hw1⟩, fun D nD => lc_tup (K := K) (a := wp) (xs := qv) (fun i H5 => H5 D = some (.lst (((ws.take i).map fun x => (x.2.map (trB bs)).sum).map V.int)) ∧ Same H1 H5) ⟨upd_same, same_new nD⟩ (fun i H5 _ ⟨_, s5⟩ => SqT.of (s5 _ _ hw1)) ?_ ?_⟩
      · rintro i x H5 hx ⟨hD, s5⟩
        obtain ⟨y, ey, ⟨p1, rfl, hp1⟩⟩ := alp.getL hx
        have wo := wok _ (List.mem_of_getElem? ey)
        have il := (List.getElem?_eq_some_iff.mp ey).1
        have s15 := s1.trans s5
        refine ⟨rfl, yes_in ⟨_, rfl, _, rfl, r, p1, hs, bs, y.1, y.2, rfl, hR.keep (TK.same s15), hp1.keep (TK.same s15), wo.lt, by have := wo.ln; omega, fun H6 s6 => ⟨_, s6 _ _ hD, by rw [List.length_map, List.length_map, List.length_take]; exact small1000 (by omega), ?_, Same.own (s5.trans s6) nD⟩⟩⟩
        rw [upd_same, List.take_add_one, ey, List.map_append, List.map_append]
        rfl
      · rintro H5 ⟨hD, s5⟩
        rw [lqv, List.take_length] at hD
        refine ⟨D, _, rfl, SqL.of hD, _, _, rfl, rfl, ?_⟩
        rw [eD]
        exact q H5 (s1.trans s5)
  case tail1 =>
    rintro D' σ' H1 ⟨eD, el, rfl, hel, s1⟩
    have flat : (ws.map fun x => onV (endO bs x)).all flatV = true := by
      rw [List.all_map]
      exact List.all_eq_true.mpr fun x _ => by
        show flatV (onV (endO bs x)) = true
        cases endO bs x <;> rfl
    have stop : ws = [] ∨ ¬ allE bs ws → D'.rt .non H1 := fun h => by
      rw [eD]
      have := q H1 s1
      unfold openT at this
      rw [if_pos h] at this
      exact this
    refine ⟨_, rfl, _, .inl ⟨_, SqL.of hel, rfl⟩, if_bl (fun z => ?_) (fun z => ?_)⟩
    · refine if_bl (fun _ => stop (.inl ?_)) (fun z => nomatch z)
      cases ws with
      | nil => rfl
      | cons y ws => simp at z
    have wne : ws ≠ [] := fun e => by
      subst e
      simp at z
    refine ⟨_, rfl, el, _, rfl, .inl (SqL.of hel), rfl, flat, _, rfl, ?_⟩
    rw [inV_non]
    by_cases ae : allE bs ws
    · rw [show (ws.any fun x => eqV (onV (endO bs x)) .non) = false from List.any_eq_false.mpr fun x hx => by
        have := ae x hx
        cases e : endO bs x with
        | none => rw [e] at this; cases this
        | some k => exact Bool.false_ne_true]
      refine if_bl (fun z => nomatch z) (fun _ => ?_)
      refine ⟨_, rfl, _, rfl, ?_⟩
      dsimp only [tNoPart]
      have hw1 := s1 _ _ hw
      refine ⟨_, rfl, slA_of hw1 fun p1 H2 h1 s2 => ?_⟩
      have h1 : H2 p1 = some (.tup (cutV qv (some ((1 : Nat) : Int)) none)) := h1
      rw [cut_drop] at h1
      have s12 := s1.trans s2
      have hel2 := s2 _ _ hel
      have al2 := alp.imp fun _ _ z => z.keep (TK.same s12)
      have pos := List.length_pos_iff.mpr wne
      refine ⟨el, p1, _, _, rfl, SqL.of hel2, SqT.of h1, fun D nD => lc_it (J := IzLT K el p1 (ws.map fun x => onV (endO bs x)) (qv.drop 1)) (n := ws.length - 1) (fun i H5 => H5 D = some (.lst ((pS hs bs late ((ws.zip (ws.drop 1)).take i)).map oI)) ∧ Same H2 H5) ⟨upd_same, same_new nD⟩ ?_ ?_ ?_ ?_⟩
      · rintro i H5 hi ⟨hD, s5⟩
        exact ⟨SqL.of (s5 _ _ hel2), SqT.of (s5 _ _ h1), by rw [List.length_map]; omega, by rw [List.length_drop]; omega⟩
      · rintro H5 ⟨hD, s5⟩
        exact ⟨SqL.of (s5 _ _ hel2), SqT.of (s5 _ _ h1), by rw [List.length_map]; omega, by rw [List.length_drop]; omega, .inr (by rw [List.length_drop]; omega)⟩
      · rintro i x H5 H6 hi ⟨hD, s5⟩ ⟨T', x1, y1, rfl, nT, rfl, hx1, hy1⟩
        have ey : ws[i]? = some (ws[i]'(by omega)) := List.getElem?_eq_getElem (by omega)
        rw [List.getElem?_map, ey] at hx1
        obtain rfl : onV (endO bs (ws[i]'(by omega))) = x1 := Option.some.inj hx1
        generalize (ws[i]'(by omega)) = y at ey nT hD
        have ym := List.mem_of_getElem? ey
        have aey := ae y ym
        obtain ⟨e, ee⟩ : ∃ e, endO bs y = some e := Option.isSome_iff_exists.mp aey
        have elt : e < hs.length := wayEnd_lt57 hto (wok y ym).k ee
        rw [List.getElem?_drop] at hy1
        obtain ⟨u, eu, ⟨p2, rfl, ⟨g2, e21, e22⟩⟩⟩ := al2.getL hy1
        have ult := (wok u (List.mem_of_getElem? eu)).k
        have ezi : (ws.zip (ws.drop 1))[i]? = some (y, u) := by
          rw [List.getElem?_zip_eq_some]
          exact ⟨ey, by rw [List.getElem?_drop]; exact eu⟩
        rw [ee]
        have t := same_new (o := .tup [onV (some e), V.ref p2]) nT
        have s6 := s5.trans t
        have hD6 := t _ _ hD
        refine ⟨T', _, rfl, SqT.of upd_same, rfl, _, _, rfl, _, _, rfl, rfl, rfl, ?_⟩
        refine yes_in ⟨_, rfl, _, rfl, _, rfl, _, rfl, p2, _, _, _, rfl, rfl, SqT.of (s6 _ _ e21), atI_nat (j := 0) rfl, r, hs, bs, late, e, u.1, rfl, hR.keep (TK.same (s12.trans s6)), good, elt, ult, ?_⟩
        refine ⟨_, hD6, ?_, ?_, Same.own s6 nD⟩
        · unfold pS
          rw [List.length_map, List.length_map, List.length_take]
          exact small1000 (by omega)
        · unfold pS
          rw [upd_same, List.take_add_one, ezi, List.map_append, List.map_append]
          have : enD bs y = e := by unfold enD; rw [ee]; rfl
          show _ = some (HO.lst (_ ++ [oI (stepT hs late (enD bs y) u.1)]))
          rw [this]
      · rintro H5 ⟨hD, s5⟩
        rw [show ws.length - 1 = (ws.zip (ws.drop 1)).length by rw [List.length_zip, List.length_drop]; omega, List.take_length] at hD
        exact ⟨eD, el, D, rfl, wne, ae, hD, s12.trans s5⟩
    · rw [show (ws.any fun x => eqV (onV (endO bs x)) .non) = true by
        refine Classical.byContradiction fun n => ae fun x hx => ?_
        have n := List.any_eq_false.mp (Bool.eq_false_iff.mpr n) x hx
        cases e : endO bs x with
        | none => rw [e] at n; exact absurd rfl n
        | some k => rfl]
      exact if_bl (fun _ => stop (.inr ae)) (fun z => nomatch z)
  refine ⟨_, rfl, wp, rfl, ⟨_, SqT.of hw⟩, fun D nD => lc_tup (K := K) (a := wp) (xs := qv) (fun i H5 => H5 D = some (.lst ((ws.take i).map fun x => onV (endO bs x))) ∧ Same H H5) ⟨upd_same, same_new nD⟩ (fun i H5 _ ⟨_, s5⟩ => SqT.of (s5 _ _ hw)) ?_ ?_⟩
  · rintro i x H5 hx ⟨hD, s5⟩
    obtain ⟨y, ey, ⟨p1, rfl, hp1⟩⟩ := alp.getL hx
    have wo := wok _ (List.mem_of_getElem? ey)
    have il := (List.getElem?_eq_some_iff.mp ey).1
    refine ⟨rfl, yes_in ⟨_, rfl, _, rfl, r, p1, hs, bs, y.1, y.2, rfl, hR.keep (TK.same s5), hp1.keep (TK.same s5), wo.k, wo.lt, fun H6 s6 => ?_⟩⟩
    refine ⟨_, s6 _ _ hD, by rw [List.length_map, List.length_take]; exact small1000 (by omega), ?_, Same.own (s5.trans s6) nD⟩
    rw [upd_same, List.take_add_one, ey, List.map_append]
    rfl
  · rintro H2 ⟨hD, s2⟩
    rw [lqv, List.take_length] at hD
    exact ⟨rfl, D, rfl, hD, s2⟩
def hvN (hs : List HR) (bs : List BR) (T : Int) (ws : List Wq) : Nat := (ws.filter fun x => decide (momW hs bs x.1 x.2 > T)).length
theorem take_fil {p : Wq → Bool} {l : List Wq} {i : Nat} {x : Wq} (e : l[i]? = some x) : (l.take (i + 1)).filter p = (l.take i).filter p ++ if p x = true then [x] else [] := by
  rw [List.take_add_one, e, List.filter_append]
  show _ ++ [x].filter p = _
  rw [List.filter_cons, List.filter_nil]
def spHv : Sp := fun vs H Q _ => ∃ (r wp : Addr) (hs : List HR) (bs : List BR) (T : Int) (qv : List V) (ws : List Wq), vs = [.ref r, .int T, .ref wp] ∧ RoomAt H r hs bs ∧ (∀ b ∈ bs, b.to < hs.length) ∧ H wp = some (.tup qv) ∧ All2 (RgAt H) qv ws ∧ ws.length ≤ 60 ∧ (∀ x ∈ ws, WkOk hs bs x) ∧ ∀ H', Same H H' → Q (.int (hvN hs bs T ws : Nat)) H'
abbrev sp_heavy_ways (K : PySem.W.Frag) : Sp := spHv
abbrev sp_law_heavies (K : PySem.W.Frag) : Sp := spHv
def inW (hs : List HR) : List Wq → Bool
  | [] => false
  | x :: _ => decide (hs[x.1]?.map HR.wd = some ("in" : Str))
def whB (hs : List HR) (bs : List BR) (late : Option Nat) (T m : Int) (ws : List Wq) : Bool := match openT hs bs late ws with
  | none => false
  | some t => inW hs ws && decide (((hvN hs bs T ws : Nat) : Int) = t + m)
theorem int_dec {a b : Int} : decide (V.int a = V.int b) = decide (a = b) := decide_eq_decide.mpr ⟨fun z => V.int.inj z, congrArg V.int⟩
theorem openT_nil {hs : List HR} {bs : List BR} {late : Option Nat} : openT hs bs late [] = none := if_pos (.inl rfl)
def spWh : Sp := fun vs H Q _ => ∃ (r wp : Addr) (hs : List HR) (bs : List BR) (late : Option Nat) (T m : Int) (qv : List V) (ws : List Wq), vs = [.ref r, lateV late, .int T, .int m, .ref wp] ∧ RoomAt H r hs bs ∧ (∀ h ∈ hs, GoodHand h) ∧ (∀ b ∈ bs, b.to < hs.length) ∧ H wp = some (.tup qv) ∧ All2 (RgAt H) qv ws ∧ ws.length ≤ 60 ∧ (∀ x ∈ ws, WkOk hs bs x) ∧ ∀ H', Same H H' → Q (.bl (whB hs bs late T m ws)) H'
abbrev sp_walk_holds (K : PySem.W.Frag) : Sp := spWh
abbrev sp_law_due (K : PySem.W.Frag) : Sp := spWh
theorem ok_heavy_ways {f : Addr} {fd : FuncData} (F : Fun K "heavy_ways" "heavy_ways" s_heavy_ways f fd) (T : Top K mg) : FnOk P w K mg base CX0 2 f fd ["room", "time", "walk"] (sp_heavy_ways K) := by
  obtain ⟨f_moments_on, fd_moments_on, F_moments_on, b_moments_on, m_moments_on⟩ := T.d_moments_on
  have G_moments_on := ok_moments_on (P := P) (w := w) (base := base) F_moments_on T
  refine F.ok sc_heavy_ways (fun vs H Q E h => ?_) (fun cdv A outer s H vs Q E hr h => ?_)
  · obtain ⟨r, wp, hs, bs, T', qv, ws, rfl, _⟩ := h
    rfl
  obtain ⟨r, wp, hs, bs, T', qv, ws, rfl, hR, hto, hw, alp, lws, wok, q⟩ := h
  have lqv := alp.length
  refine ⟨_, (pss_one (ps_ret (pe_callB (call_len_seqK K rfl) (by rfl) T.m_len (by decide +kernel) (pa_cons (pe_lc (own := [("way", 3)]) (g := gName 3) (by rfl) sc_heavy_ways.nd (pi_tupK K rfl (pv 2)) (blkOk_by (own := [("way", 3)]) (N := N_heavy_ways) (sc := defScope s_heavy_ways) (by decide +kernel)) (fun _ _ _ _ _ => (pg_name (i := 3) sc_heavy_ways.nd rfl (Or.inl rfl))) (fun _ _ _ _ _ => pts_one (pt_cmpR op_gt (pe_call G_moments_on (hr.mono (by decide)) (by rfl) m_moments_on F_moments_on.kp b_moments_on .nil pass0 (pa_cons (pv 0) (pa_cons (pv 3) pa_nil))) (pv 1) (nomark _))) (fun _ _ _ _ _ => (pv 3))) pa_nil)))), ?_⟩
  refine ⟨_, rfl, wp, rfl, ⟨_, SqT.of hw⟩, fun D nD => lc_tup (K := K) (a := wp) (xs := qv) (fun i H5 => (∃ dv : List V, H5 D = some (.lst dv) ∧ dv.length = ((ws.take i).filter fun x => decide (momW hs bs x.1 x.2 > T')).length) ∧ Same H H5) ⟨⟨[], upd_same, rfl⟩, same_new nD⟩ (fun i H5 _ ⟨_, s5⟩ => SqT.of (s5 _ _ hw)) ?_ ?_⟩
  · rintro i x H5 hx ⟨⟨dv, hD, ld⟩, s5⟩
    obtain ⟨y, ey, ⟨p1, rfl, hp1⟩⟩ := alp.getL hx
    have wo := wok _ (List.mem_of_getElem? ey)
    have il := (List.getElem?_eq_some_iff.mp ey).1
    have few := List.length_filter_le (fun x : Wq => decide (momW hs bs x.1 x.2 > T')) (ws.take i)
    rw [List.length_take] at few
    refine ⟨rfl, _, rfl, _, rfl, r, p1, hs, bs, y.1, y.2, rfl, hR.keep (TK.same s5), hto, hp1.keep (TK.same s5), wo.k, wo.lt, by have := wo.ln; omega, fun H6 s6 => ?_⟩
    refine ⟨_, rfl, _, _, rfl, rfl, _, rfl, if_bl (fun z => ?_) (fun z => ?_)⟩
    · refine ⟨_, rfl, dv, s6 _ _ hD, small1000 (by omega), ⟨_, upd_same, ?_⟩, Same.own (s5.trans s6) nD⟩
      rw [List.length_append, take_fil ey, if_pos z, List.length_append, ld]
      rfl
    · refine ⟨⟨dv, s6 _ _ hD, ?_⟩, s5.trans s6⟩
      rw [take_fil ey, if_neg (by rw [z]; exact Bool.false_ne_true), List.append_nil, ld]
  · rintro H5 ⟨⟨dv, hD, ld⟩, s5⟩
    rw [lqv, List.take_length] at ld
    refine ⟨D, _, rfl, .inl (SqL.of hD), ?_⟩
    rw [ld]
    exact q H5 s5
theorem ok_walk_holds {f : Addr} {fd : FuncData} (F : Fun K "walk_holds" "walk_holds" s_walk_holds f fd) (T : Top K mg) : FnOk P w K mg base CX0 3 f fd ["room", "late", "time", "many", "walk"] (sp_walk_holds K) := by
  obtain ⟨f_walk_trays, fd_walk_trays, F_walk_trays, b_walk_trays, m_walk_trays⟩ := T.d_walk_trays
  have G_walk_trays := ok_walk_trays (P := P) (w := w) (base := base) F_walk_trays T
  obtain ⟨f_heavy_ways, fd_heavy_ways, F_heavy_ways, b_heavy_ways, m_heavy_ways⟩ := T.d_heavy_ways
  have G_heavy_ways := ok_heavy_ways (P := P) (w := w) (base := base) F_heavy_ways T
  refine F.ok sc_walk_holds (fun vs H Q E h => ?_) (fun cdv A outer s H vs Q E hr h => ?_)
  · obtain ⟨r, wp, hs, bs, late, T', m, qv, ws, rfl, _⟩ := h
    rfl
  obtain ⟨aI, mI, hI⟩ := T.x_in
  obtain ⟨r, wp, hs, bs, late, T', m, qv, ws, rfl, hR, good, hto, hw, alp, lws, wok, q⟩ := h
  obtain ⟨ha, ba, hv, bv, er, eh, eb, alh, alb⟩ := id hR.ex
  refine ⟨_, (pss_cons (ps_set (i := 5) sc_walk_holds.nd rfl (Or.inl rfl) (pe_call G_walk_trays (hr.mono (by decide)) (by rfl) m_walk_trays F_walk_trays.kp b_walk_trays .nil pass0 (pa_cons (pv 0) (pa_cons (pv 1) (pa_cons (pv 4) pa_nil)))))
      (pss_cons (ps_if (PW.pt (pw_or (pt_cmpR op_isN (pv 5) pe_non (nomark _)) (pw_or1 (pt_cmpR (op_neDK K rfl hr.units) (pe_ix (ix_tupK K rfl) (pe_ix (ix_tupK K rfl) (pe_ix (ix_tupK K rfl) (pv 0) pe_int (fun _ _ => rfl)) (pe_ix (ix_tupK K rfl) (pe_ix (ix_tupK K rfl) (pv 4) pe_int (fun _ _ => rfl)) pe_int (fun _ _ => rfl)) (fun _ _ => rfl)) pe_int (fun _ _ => rfl)) (pe_glob (v := .ref aI) (by rfl) mI rfl) (nomark _))))) (pss_one (ps_ret pe_bl)) pss_nil)
      (pss_one (ps_ret (pe_cmpR op_eq (pe_call G_heavy_ways (hr.mono (by decide)) (by rfl) m_heavy_ways F_heavy_ways.kp b_heavy_ways .nil pass0 (pa_cons (pv 0) (pa_cons (pv 2) (pa_cons (pv 4) pa_nil)))) (pe_op op_add (pv 5) (pv 3)) (nomark _)))))), ?_⟩
  refine ⟨_, rfl, _, rfl, _, rfl, r, wp, hs, bs, late, qv, ws, rfl, hR, good, hto, hw, alp, lws, wok, fun H1 s1 => ?_⟩
  cases ec : openT hs bs late ws with
  | none =>
    have e : whB hs bs late T' m ws = false := by unfold whB; rw [ec]
    rw [e] at q
    exact ⟨_, rfl, rfl, _, rfl, if_bl (fun _ => if_bl (fun _ => q H1 s1) (fun z => nomatch z)) (fun z => absurd rfl (of_decide_eq_false z))⟩
  | some t =>
    cases ws with
    | nil => rw [openT_nil] at ec; cases ec
    | cons x ws' =>
    have wo := wok x (List.mem_cons_self ..)
    obtain ⟨x0, ex0, ⟨p0, rfl, ⟨g0, h01, h02⟩⟩⟩ := alp.get (show (x :: ws')[0]? = some x from rfl)
    have eh1 : hs[x.1]? = some (hs[x.1]'wo.k) := List.getElem?_eq_getElem wo.k
    obtain ⟨x1, ex1, ⟨t1, r1, rfl, e11, e12⟩⟩ := alh.get eh1
    have g1 := good _ (List.mem_of_getElem? eh1)
    have ew : whB hs bs late T' m (x :: ws') = (decide ((hs[x.1]'wo.k).wd = "in") && decide (((hvN hs bs T' (x :: ws') : Nat) : Int) = t + m)) := by
      have iw : inW hs (x :: ws') = decide ((hs[x.1]'wo.k).wd = "in") := by
        show decide (hs[x.1]?.map HR.wd = some ("in" : Str)) = _
        rw [eh1]
        exact decide_eq_decide.mpr ⟨fun z => Option.some.inj z, fun z => congrArg some z⟩
      unfold whB
      rw [ec, iw]
    rw [ew] at q
    refine ⟨_, rfl, rfl, _, rfl, if_bl (fun z => absurd (of_decide_eq_true z) (fun y => nomatch y)) (fun _ => ?_)⟩
    refine ⟨_, rfl, r, _, _, _, rfl, rfl, SqT.of (s1 _ _ er), atI_nat (j := 0) rfl, _, rfl, wp, _, _, _, rfl, rfl, SqT.of (s1 _ _ hw), atI_nat (j := 0) ex0, p0, _, _, _, rfl, rfl, SqT.of (s1 _ _ h01), atI_nat (j := 0) rfl, ha, _, _, _, rfl, rfl, SqT.of (s1 _ _ eh), atI_nat ex1, t1, _, _, _, rfl, rfl, SqT.of (s1 _ _ e11), atI_nat (j := 0) rfl, ?_⟩
    refine ⟨_, _, rule_dp (s1 _ _ e12), .tup (hI _) (.cons (.str _) .nil), rule_shaped g1.lay, one_shaped (by decide +kernel), _, rfl, ?_⟩
    generalize H1 = H2 at s1 ⊢
    rw [rule_eqv, g1.door "in" (.inl rfl)]
    by_cases c : (hs[x.1]'wo.k).wd = "in"
    case neg =>
      rw [decide_eq_false c] at q ⊢
      exact if_bl (fun _ => q _ s1) (fun z => nomatch z)
    rw [decide_eq_true c] at q ⊢
    refine if_bl (fun z => nomatch z) (fun _ => ?_)
    refine ⟨_, rfl, _, rfl, _, rfl, r, wp, hs, bs, T', qv, x :: ws', rfl, hR.keep (TK.same s1), hto, s1 _ _ hw, alp.imp fun _ _ z => z.keep (TK.same s1), lws, wok, fun H3 s3 => ⟨_, rfl, _, rfl, _, _, rfl, rfl, rfl, ?_⟩⟩
    have := q H3 (s1.trans s3)
    rw [Bool.true_and, ← int_dec] at this
    exact this
end
theorem sumO_comm (l : List (Option Int)) (o : Option Int) : sumO (o :: l) = sumO (l ++ [o]) := by
  rw [sumO_snoc]
  show (match o, sumO l with | some a, some b => some (a + b) | _, _ => none) = _
  cases o with
  | none => cases sumO l <;> rfl
  | some a =>
    cases sumO l with
    | none => rfl
    | some b =>
      show some (a + b) = some (b + a)
      rw [Int.add_comm]
theorem stepT_ne {hs : List HR} {late : Option Nat} {e o : Nat} (h : ¬ e = o) : stepT hs late e o = match late with
  | none => none
  | some l => if e ∈ doorsOf "out" hs ∧ o ∈ doorsOf "in" hs then some ((l : Nat) : Int) else none := by
  unfold stepT
  exact if_neg fun z => h z.symm
theorem stepT_eq {hs : List HR} {late : Option Nat} {e : Nat} : stepT hs late e e = some 0 := by
  unfold stepT
  rw [if_pos rfl]
theorem pS_none {hs : List HR} {bs : List BR} {late : Option Nat} {ps : List (Wq × Wq)} {i : Nat} {y u : Wq} (e : ps[i]? = some (y, u)) (h : stepT hs late (enD bs y) u.1 = none) : sumO (pS hs bs late ps) = none :=
  sumO_none (List.mem_map.mpr ⟨(y, u), List.mem_of_getElem? e, h⟩)
theorem pS_next {hs : List HR} {bs : List BR} {late : Option Nat} {ps : List (Wq × Wq)} {i : Nat} {y u : Wq} {s c : Int} (e : ps[i]? = some (y, u)) (h : stepT hs late (enD bs y) u.1 = some c) (hs' : sumO (pS hs bs late (ps.take i)) = some s) : sumO (pS hs bs late (ps.take (i + 1))) = some (s + c) := by
  unfold pS at hs' ⊢
  rw [List.take_add_one, e, List.map_append]
  show sumO (_ ++ [stepT hs late (enD bs y) u.1]) = _
  rw [sumO_snoc, hs', h]
section
variable {P : Program} {w : World} {K : PySem.W.Frag} {mg : Str → Option Value} {base : Heap}
def sp_law_end (K : PySem.W.Frag) : Sp := fun vs H Q _ => ∃ (r t : Addr) (hs : List HR) (bs : List BR) (k : Nat) (ns : List Nat), vs = [.ref r, .ref t] ∧ RoomAt H r hs bs ∧ PairAt H t k ns ∧ (∀ n ∈ ns, n < bs.length) ∧ Q (onV (wayEnd bs k ns)) H
theorem ok_law_end {f : Addr} {fd : FuncData} (F : Fun K "_law_end" "_law_end" s_law_end f fd) (T : Top K mg) : FnOk P w K mg base CX0 1 f fd ["_law_room_here", "_law_way"] (sp_law_end K) := by
  refine F.ok sc_law_end (fun vs H Q E h => ?_) (fun cdv A outer s H vs Q E hr h => ?_)
  · obtain ⟨r, t, hs, bs, k, ns, rfl, _⟩ := h
    rfl
  obtain ⟨r, t, hs, bs, k, ns, rfl, hR, ⟨g, et, eg⟩, hn, q⟩ := h
  obtain ⟨ha, ba, hv, bv, er, eh, eb, alh, alb⟩ := hR.ex
  refine ⟨_, (pss_cons (ps_set (i := 2) sc_law_end.nd rfl (Or.inl rfl) (pe_ix (ix_tupK K rfl) (pv 1) pe_int (fun _ _ => rfl)))
      (pss_cons (ps_for PassesOwn.never rfl (pi_tupK K rfl (pe_ix (ix_tupK K rfl) (pv 1) pe_int (fun _ _ => rfl))) (pg_name (i := 3) sc_law_end.nd rfl (Or.inl rfl))
        (pss_cons (ps_if (pt_cmpR op_ne (pe_ix (ix_tupK K rfl) (pe_ix (ix_tupK K rfl) (pe_ix (ix_tupK K rfl) (pv 0) pe_int (fun _ _ => rfl)) (pv 3) (fun _ _ => rfl)) pe_int (fun _ _ => rfl)) (pv 2) (nomark _)) (pss_one (ps_ret pe_non)) pss_nil)
      (pss_one (ps_set (i := 2) sc_law_end.nd rfl (Or.inl rfl) (pe_ix (ix_tupK K rfl) (pe_ix (ix_tupK K rfl) (pe_ix (ix_tupK K rfl) (pv 0) pe_int (fun _ _ => rfl)) (pv 3) (fun _ _ => rfl)) pe_int (fun _ _ => rfl))))))
      (pss_one (ps_ret (pv 2))))), ?_⟩
  refine ⟨_, rfl, t, _, _, _, rfl, rfl, SqT.of et, atI_nat (j := 0) rfl, ?_⟩
  refine ⟨_, rfl, t, _, _, _, rfl, rfl, SqT.of et, atI_nat (j := 1) rfl, g, rfl, ⟨_, SqT.of eg⟩, for_tup (K := K) (a := g) (xs := ns.map nV) (fun i σ H2 => H2 = H ∧ ∃ (cur : Nat) (v3 : Option V), σ = [some (.ref r), some (.ref t), some (nV cur), v3] ∧ wayEnd bs k ns = wayEnd bs cur (ns.drop i)) ⟨rfl, k, _, rfl, rfl⟩ (fun i σ H2 _ ⟨e2, _⟩ => by rw [e2]; exact SqT.of eg) ?_ ?_⟩
  · rintro i x σ H2 hx ⟨rfl, cur, v3, rfl, hc⟩
    obtain ⟨n, en, rfl⟩ := nats_at hx
    have nb := hn n (List.mem_of_getElem? en)
    have ebn : bs[n]? = some bs[n] := List.getElem?_eq_getElem nb
    obtain ⟨x1, ex1, ⟨t1, g1, rfl, e1, e2⟩⟩ := alb.get ebn
    rw [drop_at en, wayEnd_cons ebn] at hc
    refine ⟨_, rfl, r, _, _, _, rfl, rfl, SqT.of er, atI_nat (j := 1) rfl, _, rfl, ba, _, _, _, rfl, rfl, SqT.of eb, atI_nat ex1, t1, _, _, _, rfl, rfl, SqT.of e1, atI_nat (j := 0) rfl, _, rfl, rfl, _, rfl, ?_⟩
    by_cases cc : bs[n].one = cur
    · rw [if_pos cc] at hc
      refine if_bl (fun z => ?_) (fun _ => ?_)
      · have z : (!decide (V.int ((bs[n].one : Nat) : Int) = nV cur)) = true := z
        rw [decide_eq_true (show V.int ((bs[n].one : Nat) : Int) = nV cur by rw [cc])] at z
        cases z
      refine ⟨_, rfl, r, _, _, _, rfl, rfl, SqT.of er, atI_nat (j := 1) rfl, _, rfl, ba, _, _, _, rfl, rfl, SqT.of eb, atI_nat ex1, t1, _, _, _, rfl, rfl, SqT.of e1, atI_nat (j := 1) rfl, ?_⟩
      exact ⟨rfl, _, _, rfl, hc⟩
    · rw [if_neg cc] at hc
      refine if_bl (fun _ => ?_) (fun z => ?_)
      · rw [hc] at q
        exact q
      · have z : (!decide (V.int ((bs[n].one : Nat) : Int) = nV cur)) = false := z
        rw [decide_eq_false (show ¬ V.int ((bs[n].one : Nat) : Int) = nV cur from fun e => cc (by have := V.int.inj e; omega))] at z
        cases z
  · rintro σ H2 ⟨rfl, cur, v3, rfl, hc⟩
    rw [List.length_map, List.drop_length] at hc
    rw [hc] at q
    exact ⟨_, rfl, q⟩
def sp_law_moments_on (K : PySem.W.Frag) : Sp := fun vs H Q _ => ∃ (r p : Addr) (hs : List HR) (bs : List BR) (one : Nat) (ns : List Nat), vs = [.ref r, .ref p] ∧ RoomAt H r hs bs ∧ (∀ b ∈ bs, b.to < hs.length) ∧ PairAt H p one ns ∧ one < hs.length ∧ (∀ n ∈ ns, n < bs.length) ∧ ns.length ≤ 400 ∧ ∀ H', Same H H' → Q (.int (momW hs bs one ns)) H'
theorem ok_law_moments_on {f : Addr} {fd : FuncData} (F : Fun K "_law_moments_on" "_law_moments_on" s_law_moments_on f fd) (T : Top K mg) : FnOk P w K mg base CX0 1 f fd ["_law_room_here", "_law_way"] (sp_law_moments_on K) := by
  refine F.ok sc_law_moments_on (fun vs H Q E h => ?_) (fun cdv A outer s H vs Q E hr h => ?_)
  · obtain ⟨r, p, hs, bs, one, ns, rfl, _⟩ := h
    rfl
  obtain ⟨r, p, hs, bs, one, ns, rfl, hR, hto, ⟨g, ep, eg⟩, ho, hn, ln, q⟩ := h
  obtain ⟨ha, ba, hv, bv, er, eh, eb, alh, alb⟩ := hR.ex
  have mom : ∀ k, k < hs.length → ∃ (t g : Addr) (v : V), hv[k]? = some (.ref t) ∧ H t = some (.tup [v, .int (momH hs k)]) := fun k hk => by
    have e1 : hs[k]? = some hs[k] := List.getElem?_eq_getElem hk
    obtain ⟨x, ex, ⟨t, g, rfl, e2, e3⟩⟩ := alh.get e1
    refine ⟨t, g, .ref g, ex, ?_⟩
    have : momH hs k = hs[k].mom := by unfold momH; rw [e1]
    rw [this]; exact e2
  obtain ⟨t0, g0, v0, ex0, em0⟩ := mom one ho
  refine ⟨_, (pss_one (ps_ret (pe_op op_add (pe_ix (ix_tupK K rfl) (pe_ix (ix_tupK K rfl) (pe_ix (ix_tupK K rfl) (pv 0) pe_int (fun _ _ => rfl)) (pe_ix (ix_tupK K rfl) (pv 1) pe_int (fun _ _ => rfl)) (fun _ _ => rfl)) pe_int (fun _ _ => rfl)) (pe_callB (cr_sumK K rfl rfl) (by rfl) T.m_sum (by decide +kernel) (pa_cons (pe_lc (own := [("_law_b", 2)]) (g := gName 2) (tt := tYes) (by rfl) sc_law_moments_on.nd (pi_tupK K rfl (pe_ix (ix_tupK K rfl) (pv 1) pe_int (fun _ _ => rfl))) (blkOk_by (own := [("_law_b", 2)]) (N := N_law_moments_on) (sc := defScope s_law_moments_on) (by decide +kernel)) (fun _ _ _ _ _ => (pg_name (i := 2) sc_law_moments_on.nd rfl (Or.inl rfl))) (fun _ _ _ _ _ => pts_nil) (fun _ _ _ _ _ => (pe_ix (ix_tupK K rfl) (pe_ix (ix_tupK K rfl) (pe_ix (ix_tupK K rfl) (pv 0) pe_int (fun _ _ => rfl)) (pe_ix (ix_tupK K rfl) (pe_ix (ix_tupK K rfl) (pe_ix (ix_tupK K rfl) (pv 0) pe_int (fun _ _ => rfl)) (pv 2) (fun _ _ => rfl)) pe_int (fun _ _ => rfl)) (fun _ _ => rfl)) pe_int (fun _ _ => rfl)))) pa_nil))))), ?_⟩
  refine ⟨_, rfl, r, _, _, _, rfl, rfl, SqT.of er, atI_nat (j := 0) rfl, _, rfl, p, _, _, _, rfl, rfl, SqT.of ep, atI_nat (j := 0) rfl, ha, _, _, _, rfl, rfl, SqT.of eh, atI_nat ex0, t0, _, _, _, rfl, rfl, SqT.of em0, atI_nat (j := 1) rfl, ?_⟩
  refine ⟨_, rfl, p, _, _, _, rfl, rfl, SqT.of ep, atI_nat (j := 1) rfl, g, rfl, ⟨_, SqT.of eg⟩, fun D nD => lc_tup (K := K) (a := g) (xs := ns.map nV) (fun i H5 => H5 D = some (.lst (((ns.take i).map fun n => momH hs (toB bs n)).map V.int)) ∧ Same H H5) ⟨upd_same, same_new nD⟩ (fun i H5 _ ⟨_, s5⟩ => SqT.of (s5 _ _ eg)) ?_ ?_⟩
  · rintro i x H5 hx ⟨hD, s5⟩
    obtain ⟨n, en, rfl⟩ := nats_at hx
    have il := (List.getElem?_eq_some_iff.mp en).1
    have nb := hn n (List.mem_of_getElem? en)
    have ebn : bs[n]? = some bs[n] := List.getElem?_eq_getElem nb
    obtain ⟨x1, ex1, ⟨t, g1, rfl, e1, e2⟩⟩ := alb.get ebn
    have eto : toB bs n = bs[n].to := by unfold toB; rw [ebn]
    obtain ⟨t3, g3, v3, ex3, em3⟩ := mom bs[n].to (hto _ (List.getElem_mem nb))
    refine ⟨rfl, yes_in ⟨_, rfl, r, _, _, _, rfl, rfl, SqT.of (s5 _ _ er), atI_nat (j := 0) rfl, _, rfl, r, _, _, _, rfl, rfl, SqT.of (s5 _ _ er), atI_nat (j := 1) rfl, _, rfl, ba, _, _, _, rfl, rfl, SqT.of (s5 _ _ eb), atI_nat ex1, t, _, _, _, rfl, rfl, SqT.of (s5 _ _ e1), atI_nat (j := 1) rfl, ha, _, _, _, rfl, rfl, SqT.of (s5 _ _ eh), atI_nat ex3, t3, _, _, _, rfl, rfl, SqT.of (s5 _ _ em3), atI_nat (j := 1) rfl, _, hD, by rw [List.length_map, List.length_map, List.length_take]; exact small1000 (by omega), ?_, Same.own s5 nD⟩⟩
    rw [upd_same, List.take_add_one, en, List.map_append, List.map_append]
    show _ = some (HO.lst (_ ++ [V.int (momH hs (toB bs n))]))
    rw [eto]
  · rintro H5 ⟨hD, s5⟩
    rw [List.length_map, List.take_length] at hD
    exact ⟨D, _, rfl, SqL.of hD, _, _, rfl, rfl, q _ s5⟩
theorem ok_law_heavies {f : Addr} {fd : FuncData} (F : Fun K "_law_heavies" "_law_heavies" s_law_heavies f fd) (T : Top K mg) : FnOk P w K mg base CX0 2 f fd ["_law_room_here", "_law_time", "_law_walk"] (sp_law_heavies K) := by
  obtain ⟨f_law_moments_on, fd_law_moments_on, F_law_moments_on, b_law_moments_on, m_law_moments_on⟩ := T.d_law_moments_on
  have G_law_moments_on := ok_law_moments_on (P := P) (w := w) (base := base) F_law_moments_on T
  refine F.ok sc_law_heavies (fun vs H Q E h => ?_) (fun cdv A outer s H vs Q E hr h => ?_)
  · obtain ⟨r, wp, hs, bs, T', qv, ws, rfl, _⟩ := h
    rfl
  obtain ⟨r, wp, hs, bs, T', qv, ws, rfl, hR, hto, hw, alp, lws, wok, q⟩ := h
  have lqv := alp.length
  refine ⟨_, (pss_one (ps_ret (pe_callB (call_len_seqK K rfl) (by rfl) T.m_len (by decide +kernel) (pa_cons (pe_lc (own := [("_law_way", 3)]) (g := gName 3) (by rfl) sc_law_heavies.nd (pi_tupK K rfl (pv 2)) (blkOk_by (own := [("_law_way", 3)]) (N := N_law_heavies) (sc := defScope s_law_heavies) (by decide +kernel)) (fun _ _ _ _ _ => (pg_name (i := 3) sc_law_heavies.nd rfl (Or.inl rfl))) (fun _ _ _ _ _ => pts_one (pt_cmpR op_gt (pe_call G_law_moments_on (hr.mono (by decide)) (by rfl) m_law_moments_on F_law_moments_on.kp b_law_moments_on .nil pass0 (pa_cons (pv 0) (pa_cons (pv 3) pa_nil))) (pv 1) (nomark _))) (fun _ _ _ _ _ => (pv 3))) pa_nil)))), ?_⟩
  refine ⟨_, rfl, wp, rfl, ⟨_, SqT.of hw⟩, fun D nD => lc_tup (K := K) (a := wp) (xs := qv) (fun i H5 => (∃ dv : List V, H5 D = some (.lst dv) ∧ dv.length = ((ws.take i).filter fun x => decide (momW hs bs x.1 x.2 > T')).length) ∧ Same H H5) ⟨⟨[], upd_same, rfl⟩, same_new nD⟩ (fun i H5 _ ⟨_, s5⟩ => SqT.of (s5 _ _ hw)) ?_ ?_⟩
  · rintro i x H5 hx ⟨⟨dv, hD, ld⟩, s5⟩
    obtain ⟨y, ey, ⟨p1, rfl, hp1⟩⟩ := alp.getL hx
    have wo := wok _ (List.mem_of_getElem? ey)
    have il := (List.getElem?_eq_some_iff.mp ey).1
    have few := List.length_filter_le (fun x : Wq => decide (momW hs bs x.1 x.2 > T')) (ws.take i)
    rw [List.length_take] at few
    refine ⟨rfl, _, rfl, _, rfl, r, p1, hs, bs, y.1, y.2, rfl, hR.keep (TK.same s5), hto, hp1.keep (TK.same s5), wo.k, wo.lt, by have := wo.ln; omega, fun H6 s6 => ?_⟩
    refine ⟨_, rfl, _, _, rfl, rfl, _, rfl, if_bl (fun z => ?_) (fun z => ?_)⟩
    · refine ⟨_, rfl, dv, s6 _ _ hD, small1000 (by omega), ⟨_, upd_same, ?_⟩, Same.own (s5.trans s6) nD⟩
      rw [List.length_append, take_fil ey, if_pos z, List.length_append, ld]
      rfl
    · refine ⟨⟨dv, s6 _ _ hD, ?_⟩, s5.trans s6⟩
      rw [take_fil ey, if_neg (by rw [z]; exact Bool.false_ne_true), List.append_nil, ld]
  · rintro H5 ⟨⟨dv, hD, ld⟩, s5⟩
    rw [lqv, List.take_length] at ld
    refine ⟨D, _, rfl, .inl (SqL.of hD), ?_⟩
    rw [ld]
    exact q H5 s5
end
theorem at_prev {xs : List V} {v : V} {k : Nat} (hk : k < xs.length) (h0 : k = 0 → xs[xs.length - 1]? = some v) (h1 : ∀ j, k = j + 1 → xs[j]? = some v) : atI xs (0 + ((k : Nat) : Int) - 1) = some v := by
  cases k with
  | zero =>
    unfold atI ixN
    rw [if_neg (by omega), if_pos (by omega)]
    show xs[_]? = some v
    rw [← h0 rfl]
    congr 1
    omega
  | succ j =>
    rw [show (0 + (((j + 1 : Nat)) : Int) - 1) = ((j : Nat) : Int) by omega]
    exact atI_nat (h1 j rfl)
theorem at1 {xs : List V} {i : Nat} {v : V} (h : xs[i + 1]? = some v) : atI xs (1 + ((i : Nat) : Int)) = some v := by
  rw [show 1 + ((i : Nat) : Int) = ((i + 1 : Nat) : Int) by omega]
  exact atI_nat h
section
variable {P : Program} {w : World} {K : PySem.W.Frag} {mg : Str → Option Value} {base : Heap}
def sp_law_walk_trays (K : PySem.W.Frag) : Sp := fun vs H Q _ => ∃ (r wp : Addr) (hs : List HR) (bs : List BR) (late : Option Nat) (qv : List V) (ws : List Wq), vs = [.ref r, lateV late, .ref wp, .bl false] ∧ RoomAt H r hs bs ∧ (∀ h ∈ hs, GoodHand h) ∧ (∀ b ∈ bs, b.to < hs.length) ∧ H wp = some (.tup qv) ∧ All2 (RgAt H) qv ws ∧ ws.length ≤ 60 ∧ (∀ x ∈ ws, WkOk hs bs x) ∧ ∀ H', Same H H' → Q (oI (openT hs bs late ws)) H'
theorem ok_law_walk_trays {f : Addr} {fd : FuncData} (F : Fun K "_law_walk_trays" "_law_walk_trays" s_law_walk_trays f fd) (T : Top K mg) : FnOk P w K mg base CX0 2 f fd ["_law_room_here", "_law_late", "_law_walk", "_law_closed"] (sp_law_walk_trays K) := by
  obtain ⟨f_law_end, fd_law_end, F_law_end, b_law_end, m_law_end⟩ := T.d_law_end
  have G_law_end := ok_law_end (P := P) (w := w) (base := base) F_law_end T
  refine F.ok sc_law_walk_trays (fun vs H Q E h => ?_) (fun cdv A outer s H vs Q E hr h => ?_)
  · obtain ⟨r, wp, hs, bs, late, qv, ws, rfl, _⟩ := h
    rfl
  obtain ⟨r, wp, hs, bs, late, qv, ws, rfl, hR, good, hto, hw, alp, lws, wok, q⟩ := h
  obtain ⟨ha, ba, hv, bv, er, eh, eb, alh, alb⟩ := id hR.ex
  have lqv := alp.length
  let R1 : TS := fun D' σ' H' => D'.rt = Q ∧ ∃ (el : Addr), σ' = [some (.ref r), some (lateV late), some (.ref wp), some (.bl false), some (.ref el), none, none, none, none] ∧ H' el = some (.lst (ws.map fun x => onV (endO bs x))) ∧ Same H H'
  let R2 : TS := fun D' σ' H' => D'.rt = Q ∧ ws ≠ [] ∧ allE bs ws ∧ ∃ (el : Addr), σ' = [some (.ref r), some (lateV late), some (.ref wp), some (.bl false), some (.ref el), none, some (.int 0), none, none] ∧ H' el = some (.lst (ws.map fun x => onV (endO bs x))) ∧ Same H H'
  let R3 : TS := fun D' σ' H' => D'.rt = Q ∧ ws ≠ [] ∧ allE bs ws ∧ ∃ (el : Addr) (v5 v7 : Option V), σ' = [some (.ref r), some (lateV late), some (.ref wp), some (.bl false), some (.ref el), v5, some (.int (trW bs ws)), v7, none] ∧ H' el = some (.lst (ws.map fun x => onV (endO bs x))) ∧ Same H H'
  refine ⟨_, (pss_cons (ps_setLc (i := 4) (own := [("_law_way", 5)]) (g := gName 5) (tt := tYes) (by rfl) sc_law_walk_trays.nd rfl rfl (sw_true rfl rfl rfl (by decide +kernel)) (pi_tupK K rfl (pv 2)) (blkOk_by (own := [("_law_way", 5)]) (N := N_law_walk_trays) (sc := defScope s_law_walk_trays) (by decide +kernel)) (fun _ _ _ _ _ => (pg_name (i := 5) sc_law_walk_trays.nd rfl (Or.inl rfl))) (fun _ _ _ _ _ => pts_nil) (fun _ _ _ _ _ => (pe_call G_law_end (hr.mono (by decide)) (by rfl) m_law_end F_law_end.kp b_law_end .nil pass0 (pa_cons (pv 0) (pa_cons (pv 5) pa_nil)))))
      (PSs.to (pss_cons (ps_if (PW.pt (pw_or (pt_cmpR op_eq (pe_callB (call_len_seqK K rfl) (by rfl) T.m_len (by decide +kernel) (pa_cons (pv 2) pa_nil)) pe_int (nomark _)) (pw_or1 (pt_cmpR (op_in_seqK K rfl) pe_non (pv 4) (by with_unfolding_all rfl))))) (pss_one (ps_ret pe_non)) pss_nil)
      (pss_cons (ps_set (i := 6) sc_law_walk_trays.nd rfl (Or.inl rfl) pe_int)
      (PSs.to (pss_cons (ps_for PassesOwn.never rfl (pi_tupK K rfl (pv 2)) (pg_name (i := 5) sc_law_walk_trays.nd rfl (Or.inl rfl))
        (pss_one (ps_set (i := 6) sc_law_walk_trays.nd rfl (Or.inl rfl) (pe_op op_add (pv 6) (pe_callB (cr_sumK K rfl rfl) (by rfl) T.m_sum (by decide +kernel) (pa_cons (pe_lc (own := [("_law_b", 7)]) (g := gName 7) (tt := tYes) (by rfl) sc_law_walk_trays.nd (pi_tupK K rfl (pe_ix (ix_tupK K rfl) (pv 5) pe_int (fun _ _ => rfl))) (blkOk_by (own := [("_law_b", 7)]) (N := N_law_walk_trays) (sc := defScope s_law_walk_trays) (by decide +kernel)) (fun _ _ _ _ _ => (pg_name (i := 7) sc_law_walk_trays.nd rfl (Or.inl rfl))) (fun _ _ _ _ _ => pts_nil) (fun _ _ _ _ _ => (pe_callB (call_len_seqK K rfl) (by rfl) T.m_len (by decide +kernel) (pa_cons (pe_ix (ix_tupK K rfl) (pe_ix (ix_tupK K rfl) (pe_ix (ix_tupK K rfl) (pv 0) pe_int (fun _ _ => rfl)) (pv 7) (fun _ _ => rfl)) pe_int (fun _ _ => rfl)) pa_nil)))) pa_nil))))))
      (PSs.to (pss_cons (ps_for PassesOwn.never rfl (pi_range2 (by rfl) T.m_range (pa_cons (pe_callTy call_int1 (by rfl) T.m_int (by decide +kernel) (pa_cons (pe_not (pv 3)) pa_nil)) (pa_cons (pe_callB (call_len_seqK K rfl) (by rfl) T.m_len (by decide +kernel) (pa_cons (pv 2) pa_nil)) pa_nil))) (pg_name (i := 8) sc_law_walk_trays.nd rfl (Or.inl rfl))
        (pss_one (ps_if (pt_cmpR op_ne (pe_ix (ix_listK K rfl) (pv 4) (pe_op op_sub (pv 8) pe_int) (fun _ _ => rfl)) (pe_ix (ix_tupK K rfl) (pe_ix (ix_tupK K rfl) (pv 2) (pv 8) (fun _ _ => rfl)) pe_int (fun _ _ => rfl)) (nomark _)) (pss_cons (ps_if (PW.pt (pw_or (pt_cmpR op_isN (pv 1) pe_non (nomark _)) (pw_or (pt_cmpR (op_neDK K rfl hr.units) (pe_ix (ix_tupK K rfl) (pe_ix (ix_tupK K rfl) (pe_ix (ix_tupK K rfl) (pv 0) pe_int (fun _ _ => rfl)) (pe_ix (ix_listK K rfl) (pv 4) (pe_op op_sub (pv 8) pe_int) (fun _ _ => rfl)) (fun _ _ => rfl)) pe_int (fun _ _ => rfl)) (pe_tup (pa_cons pe_str pa_nil)) (nomark _)) (pw_or1 (pt_cmpR (op_neDK K rfl hr.units) (pe_ix (ix_tupK K rfl) (pe_ix (ix_tupK K rfl) (pe_ix (ix_tupK K rfl) (pv 0) pe_int (fun _ _ => rfl)) (pe_ix (ix_tupK K rfl) (pe_ix (ix_tupK K rfl) (pv 2) (pv 8) (fun _ _ => rfl)) pe_int (fun _ _ => rfl)) (fun _ _ => rfl)) pe_int (fun _ _ => rfl)) (pe_tup (pa_cons pe_str pa_nil)) (nomark _)))))) (pss_one (ps_ret pe_non)) pss_nil)
      (pss_one (ps_set (i := 6) sc_law_walk_trays.nd rfl (Or.inl rfl) (pe_op op_add (pv 6) (pv 1))))) pss_nil)))
      (pss_one (ps_ret (pv 6)))) R3 ?tail3)) R2 ?tail2))) R1 ?tail1)), ?_⟩
  case tail3 =>
    rintro D' σ' H1 ⟨eD, wne, ae, el, v5, v7, rfl, hel, s1⟩
    have hw1 := s1 _ _ hw
    have pos := List.length_pos_iff.mpr wne
    unfold openT at q
    rw [if_neg (fun z => z.elim wne fun y => y ae)] at q
    refine ⟨_, rfl, _, rfl, .inr ⟨_, rfl, _, rfl, wp, _, rfl, .inr (SqT.of hw1), _, _, rfl, ⟨by decide, by decide, by omega, by omega⟩, for_range (lo := 1) (n := (((qv.length : Nat) : Int) - 1).toNat) (fun i σ H2 => ∃ (v5 v7 v8 : Option V) (s : Int), σ = [some (.ref r), some (lateV late), some (.ref wp), some (.bl false), some (.ref el), v5, some (.int (trW bs ws + s)), v7, v8] ∧ sumO (pS hs bs late ((ws.zip (ws.drop 1)).take i)) = some s ∧ Same H1 H2) ⟨v5, v7, none, 0, by rw [Int.add_zero], rfl, fun _ _ z => z⟩ ?_ ?_⟩⟩
    · rintro i σ H2 hi ⟨v5, v7, v8, s, rfl, es, s2⟩
      have il : i + 1 < ws.length := by omega
      have ey : ws[i]? = some ws[i] := List.getElem?_eq_getElem (by omega)
      have eu : ws[i + 1]? = some ws[i + 1] := List.getElem?_eq_getElem il
      obtain ⟨x, ex, ⟨p, rfl, ⟨g, ep, eg⟩⟩⟩ := alp.get eu
      have uo := wok _ (List.mem_of_getElem? eu)
      have ezi : (ws.zip (ws.drop 1))[i]? = some (ws[i], ws[i + 1]) := by
        rw [List.getElem?_zip_eq_some]
        exact ⟨ey, by rw [List.getElem?_drop, Nat.add_comm]; exact eu⟩
      have aep : atI (ws.map fun y => onV (endO bs y)) (1 + ((i : Nat) : Int) - 1) = some (onV (endO bs ws[i])) := by
        rw [show 1 + ((i : Nat) : Int) - 1 = ((i : Nat) : Int) by omega]
        exact atI_nat (by rw [List.getElem?_map, ey]; rfl)
      have ym : ws[i] ∈ ws := List.mem_of_getElem? ey
      have yo := wok _ ym
      generalize ws[i] = y at ey ezi aep ym yo
      generalize ws[i + 1] = u at eu ezi uo ep
      obtain ⟨e, ee⟩ : ∃ e, endO bs y = some e := Option.isSome_iff_exists.mp (ae _ ym)
      have elt : e < hs.length := wayEnd_lt57 hto yo.k ee
      have end_ : enD bs y = e := by unfold enD; rw [ee]; rfl
      rw [ee] at aep
      have s12 := s1.trans s2
      refine ⟨_, rfl, _, rfl, _, _, rfl, rfl, el, _, _, _, rfl, rfl, SqL.of (s2 _ _ hel), aep, _, rfl, _, rfl, wp, _, _, _, rfl, rfl, SqT.of (s12 _ _ hw), at1 ex, p, _, _, _, rfl, rfl, SqT.of (s12 _ _ ep), atI_nat (j := 0) rfl, rfl, _, rfl, if_bl (fun c => ?_) (fun c => ?_)⟩
      · have c : e ≠ u.1 := fun z => by
          have c : (!decide (nV e = nV u.1)) = true := c
          rw [z, decide_eq_true rfl] at c
          cases c
        have st := stepT_ne (hs := hs) (late := late) c
        rw [← end_] at st
        cases late with
        | none =>
          refine ⟨_, rfl, rfl, _, rfl, if_bl (fun _ => if_bl (fun _ => ?_) (fun z => nomatch z)) (fun z => absurd rfl (of_decide_eq_false z))⟩
          have := q H2 s12
          rw [pS_none ezi st] at this
          rw [eD]
          exact this
        | some l =>
        have st : stepT hs (some l) (enD bs y) u.1 = if enD bs y ∈ doorsOf "out" hs ∧ u.1 ∈ doorsOf "in" hs then some ((l : Nat) : Int) else none := st
        rw [end_] at st
        have fail : ¬ (e ∈ doorsOf "out" hs ∧ u.1 ∈ doorsOf "in" hs) → ∀ H8, Same H H8 → D'.rt .non H8 := fun n H8 s8 => by
          rw [if_neg n, ← end_] at st
          have := q H8 s8
          rw [pS_none ezi st] at this
          rw [eD]
          exact this
        have eh1 : hs[e]? = some hs[e] := List.getElem?_eq_getElem elt
        have eh2 : hs[u.1]? = some (hs[u.1]'uo.k) := List.getElem?_eq_getElem uo.k
        obtain ⟨x1, ex1, ⟨t1, r1, rfl, e11, e12⟩⟩ := alh.get eh1
        obtain ⟨x2, ex2, ⟨t2, r2, rfl, e21', e22'⟩⟩ := alh.get eh2
        have g1 := good _ (List.mem_of_getElem? eh1)
        have g2' := good _ (List.mem_of_getElem? eh2)
        have m1 : e ∈ doorsOf "out" hs ↔ hs[e].wd = "out" := by
          rw [mem_doors]
          exact ⟨fun ⟨h, e', w⟩ => by rw [eh1] at e'; cases e'; exact w, fun h => ⟨_, eh1, h⟩⟩
        have m2 : u.1 ∈ doorsOf "in" hs ↔ (hs[u.1]'uo.k).wd = "in" := by
          rw [mem_doors]
          exact ⟨fun ⟨h, e', w⟩ => by rw [eh2] at e'; cases e'; exact w, fun h => ⟨_, eh2, h⟩⟩
        refine ⟨_, rfl, rfl, _, rfl, if_bl (fun z => absurd (of_decide_eq_true z) (fun y => nomatch y)) (fun _ => ?_)⟩
        refine ⟨_, rfl, r, _, _, _, rfl, rfl, SqT.of (s12 _ _ er), atI_nat (j := 0) rfl, _, rfl, _, rfl, _, _, rfl, rfl, el, _, _, _, rfl, rfl, SqL.of (s2 _ _ hel), aep, ha, _, _, _, rfl, rfl, SqT.of (s12 _ _ eh), atI_nat ex1, t1, _, _, _, rfl, rfl, SqT.of (s12 _ _ e11), atI_nat (j := 0) rfl, (by show 1 ≤ sizeLine; decide), fun o1 no1 => ?_⟩
        have v1 := same_new (o := .tup [V.str "out"]) no1
        have s3 := s2.trans v1
        have s18 := s12.trans v1
        refine ⟨_, _, rule_dp (s18 _ _ e12), .tup (SqT.of upd_same) (.cons (.str _) .nil), rule_shaped g1.lay, one_shaped (by decide +kernel), _, rfl, ?_⟩
        rw [rule_eqv, g1.door "out" (.inr rfl)]
        by_cases c1 : hs[e].wd = "out"
        case neg =>
          rw [decide_eq_false c1]
          exact if_bl (fun _ => if_bl (fun _ => fail (fun z => c1 (m1.mp z.1)) _ s18) (fun z => nomatch z)) (fun z => nomatch z)
        rw [decide_eq_true c1]
        refine if_bl (fun z => nomatch z) (fun _ => ?_)
        refine ⟨_, rfl, r, _, _, _, rfl, rfl, SqT.of (s18 _ _ er), atI_nat (j := 0) rfl, _, rfl, _, rfl, wp, _, _, _, rfl, rfl, SqT.of (s18 _ _ hw), at1 ex, p, _, _, _, rfl, rfl, SqT.of (s18 _ _ ep), atI_nat (j := 0) rfl, ha, _, _, _, rfl, rfl, SqT.of (s18 _ _ eh), atI_nat ex2, t2, _, _, _, rfl, rfl, SqT.of (s18 _ _ e21'), atI_nat (j := 0) rfl, (by show 1 ≤ sizeLine; decide), fun o2 no2 => ?_⟩
        have v2 := same_new (o := .tup [V.str "in"]) no2
        have s19 := s18.trans v2
        refine ⟨_, _, rule_dp (s19 _ _ e22'), .tup (SqT.of upd_same) (.cons (.str _) .nil), rule_shaped g2'.lay, one_shaped (by decide +kernel), _, rfl, ?_⟩
        rw [rule_eqv, g2'.door "in" (.inl rfl)]
        by_cases c2 : (hs[u.1]'uo.k).wd = "in"
        case neg =>
          rw [decide_eq_false c2]
          exact if_bl (fun _ => fail (fun z => c2 (m2.mp z.2)) _ s19) (fun z => nomatch z)
        rw [decide_eq_true c2]
        refine if_bl (fun z => nomatch z) (fun _ => ?_)
        rw [if_pos ⟨m1.mpr c1, m2.mpr c2⟩, ← end_] at st
        refine ⟨_, rfl, _, rfl, _, _, rfl, rfl, v5, v7, some (.int (1 + ((i : Nat) : Int))), s + ((l : Nat) : Int), ?_, pS_next ezi st es, s3.trans v2⟩
        rw [← Int.add_assoc]
        rfl
      · have c : e = u.1 := by
          have c : (!decide (nV e = nV u.1)) = false := c
          have c2 : decide (nV e = nV u.1) = true := by
            cases h : decide (nV e = nV u.1) with
            | true => rfl
            | false => rw [h] at c; cases c
          have := V.int.inj (of_decide_eq_true c2)
          omega
        have st : stepT hs late (enD bs y) u.1 = some 0 := by rw [end_, c]; exact stepT_eq
        exact ⟨v5, v7, some (.int (1 + ((i : Nat) : Int))), s, rfl, by rw [pS_next ezi st es, Int.add_zero], s2⟩
    · rintro σ H2 ⟨v5, v7, v8, s, rfl, es, s2⟩
      rw [show (((qv.length : Nat) : Int) - 1).toNat = (ws.zip (ws.drop 1)).length by rw [List.length_zip, List.length_drop]; omega, List.take_length] at es
      refine ⟨_, rfl, ?_⟩
      have := q _ (s1.trans s2)
      rw [es] at this
      rw [eD, Int.add_comm]
      exact this
  case tail2 =>
    rintro D' σ' H1 ⟨eD, wne, ae, el, rfl, hel, s1⟩
    refine ⟨_, rfl, wp, rfl, ⟨_, SqT.of (s1 _ _ hw)⟩, for_tup (K := K) (a := wp) (xs := qv) (fun i σ H2 => ∃ (v5 v7 : Option V), σ = [some (.ref r), some (lateV late), some (.ref wp), some (.bl false), some (.ref el), v5, some (.int (trW bs (ws.take i))), v7, none] ∧ Same H1 H2) ⟨_, _, rfl, fun _ _ z => z⟩ (fun i σ H2 _ ⟨_, _, _, s2⟩ => SqT.of (s2 _ _ (s1 _ _ hw))) ?_ ?_⟩
    · rintro i x σ H2 hx ⟨v5, v7, rfl, s2⟩
      obtain ⟨y, ey, ⟨p, rfl, ⟨g, ep, eg⟩⟩⟩ := alp.getL hx
      have yo := wok y (List.mem_of_getElem? ey)
      have s12 := s1.trans s2
      have ly := yo.ln
      refine ⟨_, rfl, _, rfl, p, _, _, _, rfl, rfl, SqT.of (s12 _ _ ep), atI_nat (j := 1) rfl, g, rfl, ⟨_, SqT.of (s12 _ _ eg)⟩, fun D nD => lc_tup (K := K) (a := g) (xs := y.2.map nV) (fun j H5 => H5 D = some (.lst (((y.2.take j).map (trB bs)).map V.int)) ∧ Same H2 H5) ⟨upd_same, same_new nD⟩ (fun j H5 _ ⟨_, s5⟩ => SqT.of (s5 _ _ (s12 _ _ eg))) ?_ ?_⟩
      · rintro j x H5 hx ⟨hD, s5⟩
        obtain ⟨n, en, rfl⟩ := nats_at hx
        have jl := (List.getElem?_eq_some_iff.mp en).1
        have nb := yo.lt n (List.mem_of_getElem? en)
        have ebn : bs[n]? = some bs[n] := List.getElem?_eq_getElem nb
        obtain ⟨x1, ex1, ⟨t, g1, rfl, e1, e2⟩⟩ := alb.get ebn
        have etr : trB bs n = (bs[n].th.length : Int) := by unfold trB; rw [ebn]
        have s15 := s12.trans s5
        refine ⟨rfl, yes_in ⟨_, rfl, r, _, _, _, rfl, rfl, SqT.of (s15 _ _ er), atI_nat (j := 1) rfl, _, rfl, ba, _, _, _, rfl, rfl, SqT.of (s15 _ _ eb), atI_nat ex1, t, _, _, _, rfl, rfl, SqT.of (s15 _ _ e1), atI_nat (j := 2) rfl, g1, _, rfl, .inr (SqT.of (s15 _ _ e2)), _, hD, by rw [List.length_map, List.length_map, List.length_take]; exact small1000 (by omega), ?_, Same.own s5 nD⟩⟩
        rw [upd_same, List.take_add_one, en, List.map_append, List.map_append]
        show _ = some (HO.lst (_ ++ [V.int (trB bs n)]))
        rw [etr, List.length_map]
      · rintro H5 ⟨hD, s5⟩
        rw [List.length_map, List.take_length] at hD
        refine ⟨D, _, rfl, SqL.of hD, _, _, rfl, rfl, some (.ref p), v7, ?_, s2.trans s5⟩
        have e3 : trW bs (ws.take (i + 1)) = trW bs (ws.take i) + (y.2.map (trB bs)).sum := by
          unfold trW
          rw [List.take_add_one, ey, List.map_append, List.sum_append]
          show _ + (_ + 0) = _
          rw [Int.add_zero]
        rw [e3]
        rfl
    · rintro σ H2 ⟨v5, v7, rfl, s2⟩
      rw [lqv, List.take_length]
      exact ⟨eD, wne, ae, el, _, _, rfl, s2 _ _ hel, s1.trans s2⟩
  case tail1 =>
    rintro D' σ' H1 ⟨eD, el, rfl, hel, s1⟩
    have stop : ws = [] ∨ ¬ allE bs ws → D'.rt .non H1 := fun h => by
      have := q H1 s1
      unfold openT at this
      rw [if_pos h] at this
      rw [eD]
      exact this
    refine ⟨_, rfl, wp, _, rfl, .inr (SqT.of (s1 _ _ hw)), rfl, _, rfl, if_bl (fun z => ?_) (fun z => ?_)⟩
    · have z := V.int.inj (of_decide_eq_true z)
      exact if_bl (fun _ => stop (.inl (List.eq_nil_of_length_eq_zero (by omega)))) (fun z => nomatch z)
    have wne : ws ≠ [] := fun e => by
      subst e
      have e2 : qv = [] := List.eq_nil_of_length_eq_zero lqv
      subst e2
      exact absurd rfl (of_decide_eq_false z)
    refine ⟨_, rfl, el, _, rfl, .inl (SqL.of hel), rfl, ?_, _, rfl, ?_⟩
    · rw [List.all_eq_true]
      intro v hv
      obtain ⟨y, _, rfl⟩ := List.mem_map.mp hv
      cases endO bs y <;> rfl
    rw [show (if false = true then !inV V.non (ws.map fun y => onV (endO bs y)) else inV V.non (ws.map fun y => onV (endO bs y))) = inV V.non (ws.map fun y => onV (endO bs y)) from if_neg (by decide), inV_non]
    by_cases ae : allE bs ws
    · rw [show (ws.any fun x => eqV (onV (endO bs x)) .non) = false by
        rw [List.any_eq_false]
        intro x hx
        have := ae x hx
        cases e : endO bs x with
        | none => rw [e] at this; cases this
        | some k => exact Bool.false_ne_true]
      exact if_bl (fun z => nomatch z) (fun _ => ⟨eD, wne, ae, el, rfl, hel, s1⟩)
    · rw [show (ws.any fun x => eqV (onV (endO bs x)) .non) = true by
        refine Classical.byContradiction fun n => ae fun x hx => ?_
        have n := List.any_eq_false.mp (Bool.eq_false_iff.mpr n) x hx
        cases e : endO bs x with
        | none => exact absurd (show eqV (onV (endO bs x)) .non = true by rw [e]; rfl) n
        | some k => rfl]
      exact if_bl (fun _ => stop (.inr ae)) (fun z => nomatch z)
  refine ⟨_, rfl, wp, rfl, ⟨_, SqT.of hw⟩, fun D nD => lc_tup (K := K) (a := wp) (xs := qv) (fun i H5 => H5 D = some (.lst ((ws.take i).map fun x => onV (endO bs x))) ∧ Same H H5) ⟨upd_same, same_new nD⟩ (fun i H5 _ ⟨_, s5⟩ => SqT.of (s5 _ _ hw)) ?_ ?_⟩
  · rintro i x H5 hx ⟨hD, s5⟩
    obtain ⟨y, ey, ⟨p, rfl, hP⟩⟩ := alp.getL hx
    have il := (List.getElem?_eq_some_iff.mp ey).1
    have yo := wok y (List.mem_of_getElem? ey)
    refine ⟨rfl, yes_in ⟨_, rfl, _, rfl, r, p, hs, bs, y.1, y.2, rfl, hR.keep (TK.same s5), hP.keep (TK.same s5), yo.lt, _, hD, by rw [List.length_map, List.length_take]; exact small1000 (by omega), ?_, Same.own s5 nD⟩⟩
    rw [upd_same, List.take_add_one, ey, List.map_append]
    rfl
  · rintro H5 ⟨hD, s5⟩
    rw [lqv, List.take_length] at hD
    exact ⟨rfl, D, rfl, hD, s5⟩
theorem ok_law_due {f : Addr} {fd : FuncData} (F : Fun K "_law_due" "_law_due" s_law_due f fd) (T : Top K mg) : FnOk P w K mg base CX0 3 f fd ["_law_room_here", "_law_late", "_law_time", "_law_many", "_law_walk"] (sp_law_due K) := by
  obtain ⟨f_law_walk_trays, fd_law_walk_trays, F_law_walk_trays, b_law_walk_trays, m_law_walk_trays⟩ := T.d_law_walk_trays
  have G_law_walk_trays := ok_law_walk_trays (P := P) (w := w) (base := base) F_law_walk_trays T
  obtain ⟨f_law_heavies, fd_law_heavies, F_law_heavies, b_law_heavies, m_law_heavies⟩ := T.d_law_heavies
  have G_law_heavies := ok_law_heavies (P := P) (w := w) (base := base) F_law_heavies T
  refine F.ok sc_law_due (fun vs H Q E h => ?_) (fun cdv A outer s H vs Q E hr h => ?_)
  · obtain ⟨r, wp, hs, bs, late, T', m, qv, ws, rfl, _⟩ := h
    rfl
  obtain ⟨r, wp, hs, bs, late, T', m, qv, ws, rfl, hR, good, hto, hw, alp, lws, wok, q⟩ := h
  obtain ⟨ha, ba, hv, bv, er, eh, eb, alh, alb⟩ := id hR.ex
  refine ⟨_, (pss_cons (ps_set (i := 5) sc_law_due.nd rfl (Or.inl rfl) (pe_call G_law_walk_trays (hr.mono (by decide)) (by rfl) m_law_walk_trays F_law_walk_trays.kp b_law_walk_trays .nil pass0 (pa_cons (pv 0) (pa_cons (pv 1) (pa_cons (pv 4) (pa_cons pe_bl pa_nil))))))
      (pss_cons (ps_if (PW.pt (pw_or (pt_cmpR op_isN (pv 5) pe_non (nomark _)) (pw_or1 (pt_cmpR (op_neDK K rfl hr.units) (pe_ix (ix_tupK K rfl) (pe_ix (ix_tupK K rfl) (pe_ix (ix_tupK K rfl) (pv 0) pe_int (fun _ _ => rfl)) (pe_ix (ix_tupK K rfl) (pe_ix (ix_tupK K rfl) (pv 4) pe_int (fun _ _ => rfl)) pe_int (fun _ _ => rfl)) (fun _ _ => rfl)) pe_int (fun _ _ => rfl)) (pe_tup (pa_cons pe_str pa_nil)) (nomark _))))) (pss_one (ps_ret pe_bl)) pss_nil)
      (pss_one (ps_ret (pe_cmpR op_eq (pe_op op_sub (pe_call G_law_heavies (hr.mono (by decide)) (by rfl) m_law_heavies F_law_heavies.kp b_law_heavies .nil pass0 (pa_cons (pv 0) (pa_cons (pv 2) (pa_cons (pv 4) pa_nil)))) (pv 5)) (pv 3) (nomark _)))))), ?_⟩
  refine ⟨_, rfl, _, rfl, _, rfl, r, wp, hs, bs, late, qv, ws, rfl, hR, good, hto, hw, alp, lws, wok, fun H1 s1 => ?_⟩
  cases ec : openT hs bs late ws with
  | none =>
    have e : whB hs bs late T' m ws = false := by unfold whB; rw [ec]
    rw [e] at q
    exact ⟨_, rfl, rfl, _, rfl, if_bl (fun _ => if_bl (fun _ => q H1 s1) (fun z => nomatch z)) (fun z => absurd rfl (of_decide_eq_false z))⟩
  | some t =>
    cases ws with
    | nil => rw [openT_nil] at ec; cases ec
    | cons x ws' =>
    have wo := wok x (List.mem_cons_self ..)
    obtain ⟨x0, ex0, ⟨p0, rfl, ⟨g0, h01, h02⟩⟩⟩ := alp.get (show (x :: ws')[0]? = some x from rfl)
    have eh1 : hs[x.1]? = some (hs[x.1]'wo.k) := List.getElem?_eq_getElem wo.k
    obtain ⟨x1, ex1, ⟨t1, r1, rfl, e11, e12⟩⟩ := alh.get eh1
    have g1 := good _ (List.mem_of_getElem? eh1)
    have ew : whB hs bs late T' m (x :: ws') = (decide ((hs[x.1]'wo.k).wd = "in") && decide (((hvN hs bs T' (x :: ws') : Nat) : Int) = t + m)) := by
      have iw : inW hs (x :: ws') = decide ((hs[x.1]'wo.k).wd = "in") := by
        show decide (hs[x.1]?.map HR.wd = some ("in" : Str)) = _
        rw [eh1]
        exact decide_eq_decide.mpr ⟨fun z => Option.some.inj z, fun z => congrArg some z⟩
      unfold whB
      rw [ec, iw]
    rw [ew] at q
    refine ⟨_, rfl, rfl, _, rfl, if_bl (fun z => absurd (of_decide_eq_true z) (fun y => nomatch y)) (fun _ => ?_)⟩
    refine ⟨_, rfl, r, _, _, _, rfl, rfl, SqT.of (s1 _ _ er), atI_nat (j := 0) rfl, _, rfl, wp, _, _, _, rfl, rfl, SqT.of (s1 _ _ hw), atI_nat (j := 0) ex0, p0, _, _, _, rfl, rfl, SqT.of (s1 _ _ h01), atI_nat (j := 0) rfl, ha, _, _, _, rfl, rfl, SqT.of (s1 _ _ eh), atI_nat ex1, t1, _, _, _, rfl, rfl, SqT.of (s1 _ _ e11), atI_nat (j := 0) rfl, (by show 1 ≤ sizeLine; decide), fun o1 no1 => ?_⟩
    have s1 := s1.trans (same_new (o := .tup [V.str "in"]) no1)
    refine ⟨_, _, rule_dp (s1 _ _ e12), .tup (SqT.of upd_same) (.cons (.str _) .nil), rule_shaped g1.lay, one_shaped (by decide +kernel), _, rfl, ?_⟩
    generalize (upd H1 o1 (.tup [V.str "in"])) = H2 at s1 ⊢
    rw [rule_eqv, g1.door "in" (.inl rfl)]
    by_cases c : (hs[x.1]'wo.k).wd = "in"
    case neg =>
      rw [decide_eq_false c] at q ⊢
      exact if_bl (fun _ => q _ s1) (fun z => nomatch z)
    rw [decide_eq_true c] at q ⊢
    refine if_bl (fun z => nomatch z) (fun _ => ?_)
    refine ⟨_, rfl, _, rfl, _, rfl, r, wp, hs, bs, T', qv, x :: ws', rfl, hR.keep (TK.same s1), hto, s1 _ _ hw, alp.imp fun _ _ z => z.keep (TK.same s1), lws, wok, fun H3 s3 => ⟨_, rfl, _, _, rfl, rfl, _, rfl, rfl, ?_⟩⟩
    have := q H3 (s1.trans s3)
    rw [Bool.true_and, show decide (((hvN hs bs T' (x :: ws') : Nat) : Int) = t + m) = decide (((hvN hs bs T' (x :: ws') : Nat) : Int) - t = m) from decide_eq_decide.mpr ⟨fun z => by omega, fun z => by omega⟩, ← int_dec] at this
    exact this
end
structure WkN (hs : List HR) (bs : List BR) (N : Nat) (x : Wq) : Prop where
  k : x.1 < hs.length
  lt : ∀ n ∈ x.2, n < bs.length
  ln : x.2.length ≤ N
theorem WkN.mono {hs : List HR} {bs : List BR} {N M : Nat} {x : Wq} (h : WkN hs bs N x) (m : N ≤ M) : WkN hs bs M x := ⟨h.k, h.lt, Nat.le_trans h.ln m⟩
theorem WkN.ok {hs : List HR} {bs : List BR} {N : Nat} {x : Wq} (h : WkN hs bs N x) (m : N ≤ 60) : WkOk hs bs x := ⟨h.k, h.lt, Nat.le_trans h.ln m⟩
def oneB (bs : List BR) (n : Nat) : Nat := (bs[n]?.map BR.one).getD 0
section
variable {P : Program} {w : World} {K : PySem.W.Frag} {mg : Str → Option Value} {base : Heap}
def sp_law_open_walk (K : PySem.W.Frag) : Sp := fun vs H Q _ => ∃ (f c r : Addr) (hs : List HR) (bs : List BR), vs = [.ref f, .ref r] ∧ Flow H f c ∧ RoomAt H r hs bs ∧ RoomOk hs bs ∧ 0 < hs.length ∧
  ∀ (p : Addr) (qv : List V) (ws : List Wq) (H' : Hp), H' p = some (.tup qv) → All2 (RgAt H') qv ws → ws.length ≤ 15 → 0 < ws.length → (∀ x ∈ ws, WkN hs bs 11 x) → Flow H' f c → But f H H' → Q (.ref p) H'
theorem ok_law_open_walk {f : Addr} {fd : FuncData} (F : Fun K "_law_open_walk" "_law_open_walk" s_law_open_walk f fd) (T : Top K mg) : FnOk P w K mg base CX0 2 f fd ["_law_flow_here", "_law_room_here"] (sp_law_open_walk K) := by
  obtain ⟨f_law_pick, fd_law_pick, F_law_pick, b_law_pick, m_law_pick⟩ := T.d_law_pick
  have G_law_pick := ok_law_pick (P := P) (w := w) (base := base) F_law_pick T
  refine F.ok sc_law_open_walk (fun vs H Q E h => ?_) (fun cdv A outer s H vs Q E hr h => ?_)
  · obtain ⟨f, c, r, hs, bs, rfl, _⟩ := h
    rfl
  obtain ⟨f, c, r, hs, bs, rfl, hF, hR, ok, pos, q⟩ := h
  obtain ⟨ha, ba, hv, bv, er, eh, eb, alh, alb⟩ := id hR.ex
  have lhv := alh.length
  have lbv := alb.length
  have lh := ok.hands
  have lb := ok.many
  let R1 : TS := fun D' σ' H' => D'.rt = Q ∧ ∃ (D : Addr) (ds : List Nat) (cur : Nat) (v3 : Option V), σ' = [some (.ref f), some (.ref r), some (.ref D), v3, some (nV cur), none, none, none, none, none, none, none, none] ∧ D ≠ f ∧ H' D = some (.lst (ds.map nV)) ∧ ds.length ≤ 12 ∧ (∀ d ∈ ds, d < hs.length) ∧ cur < hs.length ∧ Flow H' f c ∧ But f H H'
  let R2 : TS := R1
  let R3 : TS := fun D' σ' H' => D'.rt = Q ∧ ∃ (D W : Addr) (ds : List Nat) (cur : Nat) (v3 : Option V), σ' = [some (.ref f), some (.ref r), some (.ref D), v3, some (nV cur), some (.ref W), none, none, none, none, none, none, none] ∧ H W = none ∧ W ≠ f ∧ W ≠ c ∧ D ≠ f ∧ D ≠ W ∧ H' D = some (.lst (ds.map nV)) ∧ H' W = some (.lst []) ∧ ds.length ≤ 12 ∧ (∀ d ∈ ds, d < hs.length) ∧ cur < hs.length ∧ Flow H' f c ∧ But f H H'
  let R4 : TS := fun D' σ' H' => D'.rt = Q ∧ ∃ (D W : Addr) (cur : Nat) (v3 v6 v7 v8 v9 v10 v11 v12 : Option V) (qv : List V) (ws : List Wq), σ' = [some (.ref f), some (.ref r), some (.ref D), v3, some (nV cur), some (.ref W), v6, v7, v8, v9, v10, v11, v12] ∧ W ≠ f ∧ H' W = some (.lst qv) ∧ All2 (RgAt H') qv ws ∧ 0 < ws.length ∧ ws.length ≤ 4 ∧ (∀ x ∈ ws, WkN hs bs 11 x) ∧ cur < hs.length ∧ Flow H' f c ∧ But f H H'
  refine ⟨_, (pss_cons (ps_setLc (i := 2) (own := [("_law_k", 3)]) (g := gName 3) (by rfl) sc_law_open_walk.nd rfl rfl (sw_true rfl rfl rfl (by decide +kernel)) (pi_range1 (by rfl) T.m_range (pa_cons (pe_callB (call_len_seqK K rfl) (by rfl) T.m_len (by decide +kernel) (pa_cons (pe_ix (ix_tupK K rfl) (pv 1) pe_int (fun _ _ => rfl)) pa_nil)) pa_nil)) (blkOk_by (own := [("_law_k", 3)]) (N := N_law_open_walk) (sc := defScope s_law_open_walk) (by decide +kernel)) (fun _ _ _ _ _ => (pg_name (i := 3) sc_law_open_walk.nd rfl (Or.inl rfl))) (fun _ _ _ _ _ => pts_one (pt_cmpR (op_eqDK K rfl hr.units) (pe_ix (ix_tupK K rfl) (pe_ix (ix_tupK K rfl) (pe_ix (ix_tupK K rfl) (pv 1) pe_int (fun _ _ => rfl)) (pv 3) (fun _ _ => rfl)) pe_int (fun _ _ => rfl)) (pe_tup (pa_cons pe_str pa_nil)) (nomark _))) (fun _ _ _ _ _ => (pv 3)))
      (pss_cons (ps_set (i := 4) sc_law_open_walk.nd rfl (Or.inr rfl) (pe_call G_law_pick (hr.mono (by decide)) (by rfl) m_law_pick F_law_pick.kp b_law_pick .nil pass0 (pa_cons (pv 0) (pa_cons (pe_callB (call_len_seqK K rfl) (by rfl) T.m_len (by decide +kernel) (pa_cons (pe_ix (ix_tupK K rfl) (pv 1) pe_int (fun _ _ => rfl)) pa_nil)) pa_nil))))
      (PSs.to (pss_cons (ps_if (PW.pt (pw_and (pt_cmpR op_gt (pe_callB (call_len_seqK K rfl) (by rfl) T.m_len (by decide +kernel) (pa_cons (pv 2) pa_nil)) pe_int (nomark _)) (pw_and1 (pt_cmpR op_gt (pe_call G_law_pick (hr.mono (by decide)) (by rfl) m_law_pick F_law_pick.kp b_law_pick .nil pass0 (pa_cons (pv 0) (pa_cons pe_int pa_nil))) pe_int (nomark _))))) (pss_one (ps_set (i := 4) sc_law_open_walk.nd rfl (Or.inr rfl) (pe_ix (ix_listK K rfl) (pv 2) (pe_call G_law_pick (hr.mono (by decide)) (by rfl) m_law_pick F_law_pick.kp b_law_pick .nil pass0 (pa_cons (pv 0) (pa_cons (pe_callB (call_len_seqK K rfl) (by rfl) T.m_len (by decide +kernel) (pa_cons (pv 2) pa_nil)) pa_nil))) (fun _ _ => rfl)))) pss_nil)
      (PSs.to (pss_cons (ps_set (i := 5) sc_law_open_walk.nd rfl (Or.inl rfl) (pe_lst pa_nil))
      (PSs.to (pss_cons (ps_for PassesOwn.never rfl (pi_range1 (by rfl) T.m_range (pa_cons (pe_op op_add pe_int (pe_call G_law_pick (hr.mono (by decide)) (by rfl) m_law_pick F_law_pick.kp b_law_pick .nil pass0 (pa_cons (pv 0) (pa_cons pe_int pa_nil)))) pa_nil)) (pg_name (i := 6) sc_law_open_walk.nd rfl (Or.inl rfl))
        (pss_cons (ps_set (i := 7) sc_law_open_walk.nd rfl (Or.inl rfl) (pv 4))
      (pss_cons (ps_set (i := 8) sc_law_open_walk.nd rfl (Or.inl rfl) (pe_lst pa_nil))
      (pss_cons (ps_for PassesOwn.never rfl (pi_range1 (by rfl) T.m_range (pa_cons (pe_call G_law_pick (hr.mono (by decide)) (by rfl) m_law_pick F_law_pick.kp b_law_pick .nil pass0 (pa_cons (pv 0) (pa_cons pe_int pa_nil))) pa_nil)) (pg_name (i := 9) sc_law_open_walk.nd rfl (Or.inl rfl))
        (pss_cons (ps_setLc (i := 10) (own := [("_law_b", 11), ("_law_belt", 12)]) (g := gTup K 2 (gCons (gName 11) (gCons (gName 12) gNil))) (by rfl) sc_law_open_walk.nd rfl rfl (sw_true rfl rfl rfl (by decide +kernel)) (pi_enumT K rfl (by rfl) T.m_enumerate (pa_cons (pe_ix (ix_tupK K rfl) (pv 1) pe_int (fun _ _ => rfl)) pa_nil)) (blkOk_by (own := [("_law_b", 11), ("_law_belt", 12)]) (N := N_law_open_walk) (sc := defScope s_law_open_walk) (by decide +kernel)) (fun _ _ _ _ _ => (pg_tupK K rfl rfl (pgs_cons (pg_name (i := 11) sc_law_open_walk.nd rfl (Or.inl rfl)) (pgs_cons (pg_name (i := 12) sc_law_open_walk.nd rfl (Or.inl rfl)) pgs_nil)))) (fun _ _ _ _ _ => pts_one (pt_cmpR op_eq (pe_ix (ix_tupK K rfl) (pv 12) pe_int (fun _ _ => rfl)) (pv 4) (nomark _))) (fun _ _ _ _ _ => (pv 11)))
      (pss_one (ps_if (pt_cmpR op_gt (pe_callB (call_len_seqK K rfl) (by rfl) T.m_len (by decide +kernel) (pa_cons (pv 10) pa_nil)) pe_int (nomark _)) (pss_cons (ps_expr (pe_bmK K rfl PySem.F.plainAttrs_list PySem.F.slot_list_append PySem.F.type_list_append mt_append (pv 8) (pa_cons (pe_ix (ix_listK K rfl) (pv 10) (pe_call G_law_pick (hr.mono (by decide)) (by rfl) m_law_pick F_law_pick.kp b_law_pick .nil pass0 (pa_cons (pv 0) (pa_cons (pe_callB (call_len_seqK K rfl) (by rfl) T.m_len (by decide +kernel) (pa_cons (pv 10) pa_nil)) pa_nil))) (fun _ _ => rfl)) pa_nil)))
      (pss_one (ps_set (i := 4) sc_law_open_walk.nd rfl (Or.inr rfl) (pe_ix (ix_tupK K rfl) (pe_ix (ix_tupK K rfl) (pe_ix (ix_tupK K rfl) (pv 1) pe_int (fun _ _ => rfl)) (pe_ix (ix_listK K rfl) (pv 8) (pe_un un_neg pe_int) (fun _ _ => rfl)) (fun _ _ => rfl)) pe_int (fun _ _ => rfl))))) pss_nil))))
      (pss_cons (ps_expr (pe_bmK K rfl PySem.F.plainAttrs_list PySem.F.slot_list_append PySem.F.type_list_append mt_append (pv 5) (pa_cons (pe_tup (pa_cons (pv 7) (pa_cons (pe_callTy (call_tuple_ofK K rfl) (by rfl) T.m_tuple (by decide +kernel) (pa_cons (pv 8) pa_nil)) pa_nil))) pa_nil)))
      (pss_one (ps_if (PW.pt (pw_and (pt_cmpR (op_eqDK K rfl hr.units) (pe_ix (ix_tupK K rfl) (pe_ix (ix_tupK K rfl) (pe_ix (ix_tupK K rfl) (pv 1) pe_int (fun _ _ => rfl)) (pv 4) (fun _ _ => rfl)) pe_int (fun _ _ => rfl)) (pe_tup (pa_cons pe_str pa_nil)) (nomark _)) (pw_and1 (pt_cmpR op_gt (pe_callB (call_len_seqK K rfl) (by rfl) T.m_len (by decide +kernel) (pa_cons (pv 2) pa_nil)) pe_int (nomark _))))) (pss_one (ps_set (i := 4) sc_law_open_walk.nd rfl (Or.inr rfl) (pe_ix (ix_listK K rfl) (pv 2) (pe_call G_law_pick (hr.mono (by decide)) (by rfl) m_law_pick F_law_pick.kp b_law_pick .nil pass0 (pa_cons (pv 0) (pa_cons (pe_callB (call_len_seqK K rfl) (by rfl) T.m_len (by decide +kernel) (pa_cons (pv 2) pa_nil)) pa_nil))) (fun _ _ => rfl)))) pss_nil)))))))
      (PSs.to (pss_one (ps_ret (pe_callTy (call_tuple_ofK K rfl) (by rfl) T.m_tuple (by decide +kernel) (pa_cons (pv 5) pa_nil)))) R4 ?tail4)) R3 ?tail3)) R2 ?tail2)) R1 ?tail1))), ?_⟩
  case tail4 =>
    rintro D' σ' H1 ⟨eD, D, W, cur, v3, v6, v7, v8, v9, v10, v11, v12, qv, ws, rfl, Wf, hW, alw, w0, w4, wok, cl, F1, B1⟩
    refine ⟨_, rfl, W, _, rfl, .inl ⟨SqL.of hW, fun p np => ?_⟩⟩
    rw [eD]
    have t := same_new (o := .tup qv) np
    exact q p qv ws _ upd_same (alw.imp fun _ _ z => z.keep (TK.same t)) (by omega) w0 wok (F1.same t) (B1.same t)
  case tail3 =>
    rintro D' σ' H1 ⟨eD, D, W, ds, cur, v3, rfl, nW, Wf, Wc, Df, DW, hD, hW, l12, dlt, cl, F1, B1⟩
    refine ⟨_, rfl, f, c, 4, rfl, by decide, by decide +kernel, F1, fun v H2 v0 v1 F2 B2 => ⟨_, _, rfl, rfl, _, rfl, by show -(2 ^ 62) ≤ 1 + v; omega, by show 1 + v < 2 ^ 62; omega, ?_⟩⟩
    refine for_range (lo := 0) (n := (1 + v).toNat) (fun i σ H3 => ∃ (cur : Nat) (v6 v7 v8 v9 v10 v11 v12 : Option V) (qv : List V) (ws : List Wq), σ = [some (.ref f), some (.ref r), some (.ref D), v3, some (nV cur), some (.ref W), v6, v7, v8, v9, v10, v11, v12] ∧ H3 D = some (.lst (ds.map nV)) ∧ H3 W = some (.lst qv) ∧ All2 (RgAt H3) qv ws ∧ ws.length = i ∧ (∀ x ∈ ws, WkN hs bs 11 x) ∧ cur < hs.length ∧ Flow H3 f c ∧ But f H H3) ⟨cur, none, none, none, none, none, none, none, [], [], rfl, B2 _ _ hD Df, B2 _ _ hW Wf, .nil, rfl, (fun _ z => nomatch z), cl, F2, B1.trans B2⟩ ?_ ?_
    · rintro i σ H3 hi ⟨cur, v6, v7, v8, v9, v10, v11, v12, qv, ws, rfl, hD, hW, alw, lw, wok, cl, F3, B3⟩
      have lqv := alw.length
      refine ⟨_, rfl, (by show 0 ≤ sizeLine; decide), fun B nB => ?_⟩
      have u1 := same_new (o := .lst []) nB
      have Bf := F3.ne nB
      have Bc := F3.nec nB
      have BW : B ≠ W := (ne_of_none hW nB).symm
      refine ⟨_, rfl, f, c, 4, rfl, by decide, by decide +kernel, F3.new nB, fun v' H4 v0' v1' F4 B4 => ⟨_, rfl, by omega, by omega, ?_⟩⟩
      have B34 : But f H3 H4 := (But.of u1).trans B4
      obtain ⟨cur0, ec0⟩ : ∃ k, k = cur := ⟨cur, rfl⟩
      rw [show some (nV cur) = some (nV cur0) by rw [ec0]]
      refine for_range (lo := 0) (n := v'.toNat) (fun j σ H5 => ∃ (cur : Nat) (v9 v10 v11 v12 : Option V) (ns : List Nat), σ = [some (.ref f), some (.ref r), some (.ref D), v3, some (nV cur), some (.ref W), some (.int (0 + ((i : Nat) : Int))), some (nV cur0), some (.ref B), v9, v10, v11, v12] ∧ H5 B = some (.lst (ns.map nV)) ∧ ns.length ≤ j ∧ (∀ n ∈ ns, n < bs.length) ∧ cur < hs.length ∧ Flow H5 f c ∧ But f H3 H5) ⟨cur, v9, v10, v11, v12, [], by rw [ec0]; rfl, B4 _ _ upd_same Bf, Nat.le_refl _, (fun _ z => nomatch z), cl, F4, B34⟩ ?_ ?_
      · rintro j σ H5 hj ⟨cur, v9, v10, v11, v12, ns, rfl, hB, ln, nb, cl, F5, B5⟩
        have K5 := TK.but hF (B3.trans B5)
        refine ⟨_, rfl, r, _, _, _, rfl, rfl, SqT.of (K5 _ _ er), atI_nat (j := 1) rfl, ba, bv, rfl, SqT.of (K5 _ _ eb), fun L nL => lc_it (J := IteT K ba bv) (n := bv.length) (fun k H6 => ∃ ls : List Nat, H6 L = some (.lst (ls.map nV)) ∧ ls.length ≤ k ∧ (∀ n ∈ ls, n < bs.length) ∧ Same H5 H6) ⟨[], upd_same, Nat.le_refl _, (fun _ z => nomatch z), same_new nL⟩ ?_ ?_ ?_ ?_⟩
        · rintro k H6 hk ⟨ls, hL, ll, lt, s6⟩
          exact ⟨SqT.of (s6 _ _ (K5 _ _ eb)), hk⟩
        · rintro H6 ⟨ls, hL, ll, lt, s6⟩
          exact ⟨SqT.of (s6 _ _ (K5 _ _ eb)), rfl⟩
        · rintro k x H6 H7 hk ⟨ls, hL, ll, lt, s6⟩ ⟨t, y, rfl, nt, rfl, ey⟩
          obtain ⟨b, eb2, ⟨t2, g, rfl, e1, e2⟩⟩ := alb.getL ey
          have kl := (List.getElem?_eq_some_iff.mp eb2).1
          have s7 := s6.trans (same_new (o := .tup [V.int ((k : Nat) : Int), V.ref t2]) nt)
          have hL7 := same_new (o := .tup [V.int ((k : Nat) : Int), V.ref t2]) nt _ _ hL
          refine ⟨t, _, rfl, SqT.of upd_same, rfl, _, _, rfl, _, _, rfl, rfl, rfl, _, rfl, t2, _, _, _, rfl, rfl, SqT.of (s7 _ _ (K5 _ _ e1)), atI_nat (j := 0) rfl, _, rfl, rfl, _, rfl, if_bl (fun _ => ?_) (fun _ => ?_)⟩
          · refine ⟨_, rfl, _, hL7, by rw [List.length_map]; exact small1000 (by omega), ls ++ [k], by rw [upd_same, List.map_append]; rfl, by rw [List.length_append]; show _ + 1 ≤ _; omega, fun n hn => ?_, Same.own s7 nL⟩
            rcases List.mem_append.mp hn with hn | hn
            · exact lt n hn
            · rw [List.mem_singleton.mp hn]; exact kl
          · exact ⟨ls, hL7, by omega, lt, s7⟩
        · rintro H6 ⟨ls, hL, ll, lt, s6⟩
          have F6 := F5.same s6
          have B6 := B5.same s6
          have Lf := F5.ne nL
          have LB : L ≠ B := (ne_of_none hB nL).symm
          refine ⟨_, rfl, L, _, rfl, .inl (SqL.of hL), _, _, rfl, rfl, _, rfl, if_bl (fun cc => ?_) (fun _ => ?_)⟩
          · have cc : (((ls.map nV).length : Nat) : Int) > 0 := of_decide_eq_true cc
            rw [List.length_map] at cc
            have hB6 := s6 _ _ hB
            refine ⟨_, rfl, .inl ⟨rfl, _, SqL.of hB6⟩, _, rfl, _, rfl, _, rfl, L, _, rfl, .inl (SqL.of hL), f, c, _, rfl, by rw [List.length_map]; omega, log_small (by rw [List.length_map]; omega), F6, fun a H7 a0 a1 F7 B7 => ?_⟩
            obtain ⟨a, rfl⟩ : ∃ k : Nat, a = ((k : Nat) : Int) := ⟨a.toNat, by omega⟩
            rw [List.length_map] at a1
            have al : a < ls.length := by omega
            have ea : ls[a]? = some ls[a] := List.getElem?_eq_getElem al
            have gl := lt _ (List.getElem_mem al)
            have hL7 := B7 _ _ hL Lf
            have hB7 := B7 _ _ hB6 Bf
            refine ⟨L, _, _, _, rfl, rfl, SqL.of hL7, atI_nat (by rw [List.getElem?_map, ea]; rfl), B, _, _, rfl, rfl, hB7, by rw [List.length_map]; exact small1000 (by omega), ?_⟩
            have B8 : But f H3 (upd H7 B (.lst (ns.map nV ++ [nV ls[a]]))) := But.own (B6.trans B7) nB
            have K8 := TK.but hF (B3.trans B8)
            have ebn : bs[ls[a]]? = some bs[ls[a]] := List.getElem?_eq_getElem gl
            obtain ⟨x1, ex1, ⟨t, g1, rfl, e1, e2⟩⟩ := alb.get ebn
            refine ⟨_, rfl, r, _, _, _, rfl, rfl, SqT.of (K8 _ _ er), atI_nat (j := 1) rfl, _, rfl, 1, rfl, B, _, -1, _, rfl, rfl, SqL.of upd_same, atI_last _ _, ba, _, _, _, rfl, rfl, SqT.of (K8 _ _ eb), atI_nat ex1, t, _, _, _, rfl, rfl, SqT.of (K8 _ _ e1), atI_nat (j := 1) rfl, ?_⟩
            refine ⟨bs[ls[a]].to, _, _, _, _, ns ++ [ls[a]], rfl, by rw [upd_same, List.map_append]; rfl, by rw [List.length_append]; show _ + 1 ≤ _; omega, fun n hn => ?_, (ok.ends _ (List.getElem_mem gl)).2, F7.lst Bf Bc, B8⟩
            rcases List.mem_append.mp hn with hn | hn
            · exact nb n hn
            · rw [List.mem_singleton.mp hn]; exact gl
          · exact ⟨cur, _, _, _, _, ns, rfl, s6 _ _ hB, by omega, nb, cl, F6, B6⟩
      · rintro σ H5 ⟨cur, v9, v10, v11, v12, ns, rfl, hB, ln, nb, cl, F5, B5⟩
        have hW5 := B5 _ _ hW Wf
        have hD5 := B5 _ _ hD Df
        refine ⟨_, rfl, .inl ⟨rfl, _, SqL.of hW5⟩, _, rfl, _, rfl, B, _, rfl, .inl ⟨SqL.of hB, fun p1 np1 => ⟨(by show 2 ≤ sizeLine; decide), fun p2 np2 => ?_⟩⟩⟩
        have t1 := same_new (o := .tup (ns.map nV)) np1
        have t2 := same_new (o := .tup [nV cur0, V.ref p1]) np2
        have t12 := t1.trans t2
        have hW7 := t12 _ _ hW5
        refine ⟨W, _, _, rfl, rfl, hW7, small1000 (by omega), ?_⟩
        have k7 : TK H5 (upd (upd (upd H5 p1 (.tup (ns.map nV))) p2 (.tup [nV cur0, V.ref p1])) W (.lst (qv ++ [V.ref p2]))) := (TK.same t12).trans (TK.lst hW7)
        have alw7 : All2 (RgAt (upd (upd (upd H5 p1 (.tup (ns.map nV))) p2 (.tup [nV cur0, V.ref p1])) W (.lst (qv ++ [V.ref p2])))) (qv ++ [V.ref p2]) (ws ++ [(cur0, ns)]) := by
          refine (alw.imp fun _ _ z => (z.keep (TK.but F3 B5)).keep k7).snoc ⟨p2, rfl, p1, ?_, ?_⟩
          · exact TK.lst hW7 _ _ upd_same
          · exact TK.lst hW7 _ _ (t2 _ _ upd_same)
        have hW8 : (upd (upd (upd H5 p1 (.tup (ns.map nV))) p2 (.tup [nV cur0, V.ref p1])) W (.lst (qv ++ [V.ref p2]))) W = some (.lst (qv ++ [V.ref p2])) := upd_same
        have hD8 : (upd (upd (upd H5 p1 (.tup (ns.map nV))) p2 (.tup [nV cur0, V.ref p1])) W (.lst (qv ++ [V.ref p2]))) D = some (.lst (ds.map nV)) := by rw [upd_ne DW]; exact t12 _ _ hD5
        have F8 : Flow (upd (upd (upd H5 p1 (.tup (ns.map nV))) p2 (.tup [nV cur0, V.ref p1])) W (.lst (qv ++ [V.ref p2]))) f c := (F5.same t12).lst Wf Wc
        have B8 : But f H (upd (upd (upd H5 p1 (.tup (ns.map nV))) p2 (.tup [nV cur0, V.ref p1])) W (.lst (qv ++ [V.ref p2]))) := But.own ((B3.trans B5).same t12) nW
        generalize (upd (upd (upd H5 p1 (.tup (ns.map nV))) p2 (.tup [nV cur0, V.ref p1])) W (.lst (qv ++ [V.ref p2]))) = H8 at alw7 hW8 hD8 F8 B8 ⊢
        have wok8 : ∀ x ∈ ws ++ [(cur0, ns)], WkN hs bs 11 x := fun x hx => by
          rcases List.mem_append.mp hx with hx | hx
          · exact wok x hx
          · obtain rfl := List.mem_singleton.mp hx
            exact ⟨by show cur0 < _; rw [ec0]; assumption, nb, by show ns.length ≤ 11; omega⟩
        have lw8 : (ws ++ [(cur0, ns)]).length = i + 1 := by rw [List.length_append, lw]; rfl
        have K8 := TK.but hF B8
        have eec : hs[cur]? = some hs[cur] := List.getElem?_eq_getElem cl
        obtain ⟨x1, ex1, ⟨t1', r1, rfl, e11, e12⟩⟩ := alh.get eec
        have g1 := ok.good _ (List.getElem_mem cl)
        refine ⟨_, rfl, r, _, _, _, rfl, rfl, SqT.of (K8 _ _ er), atI_nat (j := 0) rfl, _, rfl, ha, _, _, _, rfl, rfl, SqT.of (K8 _ _ eh), atI_nat ex1, t1', _, _, _, rfl, rfl, SqT.of (K8 _ _ e11), atI_nat (j := 0) rfl, (by show 1 ≤ sizeLine; decide), fun o1 no1 => ?_⟩
        have y1 := same_new (o := .tup [V.str "out"]) no1
        have k9 : TK H8 (upd H8 o1 (.tup [V.str "out"])) := TK.same y1
        have idle : ∃ (cu : Nat) (v6 v7 v8 v9' v10' v11' v12' : Option V) (qv' : List V) (ws' : List Wq), [some (V.ref f), some (.ref r), some (.ref D), v3, some (nV cur), some (.ref W), some (.int (0 + ((i : Nat) : Int))), some (nV cur0), some (.ref B), v9, v10, v11, v12] = [some (.ref f), some (.ref r), some (.ref D), v3, some (nV cu), some (.ref W), v6, v7, v8, v9', v10', v11', v12'] ∧ (upd H8 o1 (.tup [V.str "out"])) D = some (.lst (ds.map nV)) ∧ (upd H8 o1 (.tup [V.str "out"])) W = some (.lst qv') ∧ All2 (RgAt (upd H8 o1 (.tup [V.str "out"]))) qv' ws' ∧ ws'.length = i + 1 ∧ (∀ x ∈ ws', WkN hs bs 11 x) ∧ cu < hs.length ∧ Flow (upd H8 o1 (.tup [V.str "out"])) f c ∧ But f H (upd H8 o1 (.tup [V.str "out"])) :=
          ⟨cur, _, _, _, _, _, _, _, _, _, rfl, y1 _ _ hD8, y1 _ _ hW8, alw7.imp fun _ _ z => z.keep k9, lw8, wok8, cl, F8.same y1, B8.same y1⟩
        refine ⟨_, _, rule_dp (k9 _ _ (K8 _ _ e12)), .tup (SqT.of upd_same) (.cons (.str _) .nil), rule_shaped g1.lay, one_shaped (by decide +kernel), _, rfl, if_bl (fun _ => ?_) (fun _ => ?_)⟩
        · refine ⟨_, rfl, D, _, rfl, .inl (SqL.of (y1 _ _ hD8)), _, _, rfl, rfl, _, rfl, if_bl (fun cc => ?_) (fun _ => ?_)⟩
          · have cc : (((ds.map nV).length : Nat) : Int) > 0 := of_decide_eq_true cc
            rw [List.length_map] at cc
            refine ⟨_, rfl, _, rfl, _, rfl, D, _, rfl, .inl (SqL.of (y1 _ _ hD8)), f, c, _, rfl, by rw [List.length_map]; omega, log_small (by rw [List.length_map]; omega), F8.same y1, fun a H9 a0 a1 F9 B9 => ?_⟩
            obtain ⟨a, rfl⟩ : ∃ k : Nat, a = ((k : Nat) : Int) := ⟨a.toNat, by omega⟩
            rw [List.length_map] at a1
            have al : a < ds.length := by omega
            have ea : ds[a]? = some ds[a] := List.getElem?_eq_getElem al
            have hD9 := B9 _ _ (y1 _ _ hD8) Df
            refine ⟨D, _, _, _, rfl, rfl, SqL.of hD9, atI_nat (by rw [List.getElem?_map, ea]; rfl), ?_⟩
            exact ⟨ds[a], _, _, _, _, _, _, _, _, _, rfl, hD9, B9 _ _ (y1 _ _ hW8) Wf, alw7.imp fun _ _ z => (z.keep k9).keep (TK.but (F8.same y1) B9), lw8, wok8, dlt _ (List.getElem_mem al), F9, (B8.same y1).trans B9⟩
          · exact idle
        · exact idle
    · rintro σ H3 ⟨cur, v6, v7, v8, v9, v10, v11, v12, qv, ws, rfl, hD, hW, alw, lw, wok, cl, F3, B3⟩
      exact ⟨eD, D, W, cur, _, _, _, _, _, _, _, _, qv, ws, rfl, Wf, hW, alw, by omega, by omega, wok, cl, F3, B3⟩
  case tail2 =>
    rintro D' σ' H1 ⟨eD, D, ds, cur, v3, rfl, Df, hD, l12, dlt, cl, F1, B1⟩
    refine ⟨(by show 0 ≤ sizeLine; decide), fun W nW => ?_⟩
    have u := same_new (o := .lst []) nW
    have Wf := F1.ne nW
    exact ⟨eD, D, W, ds, cur, _, rfl, B1.none nW Wf, Wf, F1.nec nW, Df, ne_of_none hD nW, u _ _ hD, upd_same, l12, dlt, cl, F1.new nW, B1.same u⟩
  case tail1 =>
    rintro D' σ' H1 ⟨eD, D, ds, cur, v3, rfl, Df, hD, l12, dlt, cl, F1, B1⟩
    refine ⟨_, rfl, D, _, rfl, .inl (SqL.of hD), _, _, rfl, rfl, _, rfl, if_bl (fun cc => ?_) (fun _ => ⟨eD, D, ds, cur, _, rfl, Df, hD, l12, dlt, cl, F1, B1⟩)⟩
    have cc : (((ds.map nV).length : Nat) : Int) > 0 := of_decide_eq_true cc
    rw [List.length_map] at cc
    refine ⟨_, rfl, f, c, 4, rfl, by decide, by decide +kernel, F1, fun v H2 v0 v1 F2 B2 => ⟨_, _, rfl, rfl, _, rfl, ?_⟩⟩
    have hD2 := B2 _ _ hD Df
    refine if_bl (fun _ => ?_) (fun _ => ⟨eD, D, ds, cur, _, rfl, Df, hD2, l12, dlt, cl, F2, B1.trans B2⟩)
    refine ⟨_, rfl, _, rfl, _, rfl, D, _, rfl, .inl (SqL.of hD2), f, c, _, rfl, by rw [List.length_map]; omega, log_small (by rw [List.length_map]; omega), F2, fun a H9 a0 a1 F9 B9 => ?_⟩
    obtain ⟨a, rfl⟩ : ∃ k : Nat, a = ((k : Nat) : Int) := ⟨a.toNat, by omega⟩
    rw [List.length_map] at a1
    have al : a < ds.length := by omega
    have ea : ds[a]? = some ds[a] := List.getElem?_eq_getElem al
    have hD9 := B9 _ _ hD2 Df
    refine ⟨D, _, _, _, rfl, rfl, SqL.of hD9, atI_nat (by rw [List.getElem?_map, ea]; rfl), ?_⟩
    exact ⟨eD, D, ds, ds[a], _, rfl, Df, hD9, l12, dlt, dlt _ (List.getElem_mem al), F9, (B1.trans B2).trans B9⟩
  refine ⟨_, rfl, r, _, _, _, rfl, rfl, SqT.of er, atI_nat (j := 0) rfl, ?_⟩
  refine ⟨ha, _, rfl, .inr (SqT.of eh), _, rfl, by omega, by omega, fun D nD => lc_range (lo := 0) (n := hv.length) (fun i H5 => ∃ ds : List Nat, H5 D = some (.lst (ds.map nV)) ∧ ds.length ≤ i ∧ (∀ d ∈ ds, d < hs.length) ∧ Same H H5) ⟨[], upd_same, Nat.le_refl _, (fun _ z => nomatch z), same_new nD⟩ ?_ ?_⟩
  · rintro i H5 hi ⟨ds, hD, ld, dl, s5⟩
    have ehv : hv[i]? = some hv[i] := List.getElem?_eq_getElem hi
    obtain ⟨hh, ehi, ⟨t, rr, ex, e1, e2⟩⟩ := alh.getL ehv
    have gh := ok.good _ (List.mem_of_getElem? ehi)
    rw [ex] at ehv
    refine ⟨rfl, _, rfl, r, _, _, _, rfl, rfl, SqT.of (s5 _ _ er), atI_nat (j := 0) rfl, _, rfl, ha, _, _, _, rfl, rfl, SqT.of (s5 _ _ eh), at0 ehv, t, _, _, _, rfl, rfl, SqT.of (s5 _ _ e1), atI_nat (j := 0) rfl, (by show 1 ≤ sizeLine; decide), fun o1 no1 => ?_⟩
    have s6 := s5.trans (same_new (o := .tup [V.str "in"]) no1)
    have hD6 := same_new (o := .tup [V.str "in"]) no1 _ _ hD
    refine ⟨_, _, rule_dp (s6 _ _ e2), .tup (SqT.of upd_same) (.cons (.str _) .nil), rule_shaped gh.lay, one_shaped (by decide +kernel), _, rfl, if_bl (fun _ => ?_) (fun _ => ?_)⟩
    · refine ⟨_, rfl, _, hD6, by rw [List.length_map]; exact small1000 (by omega), ds ++ [i], by rw [upd_same, List.map_append, Int.zero_add]; rfl, by rw [List.length_append]; show _ + 1 ≤ _; omega, fun d hd => ?_, Same.own s6 nD⟩
      rcases List.mem_append.mp hd with hd | hd
      · exact dl d hd
      · rw [List.mem_singleton.mp hd]; omega
    · exact ⟨ds, hD6, by omega, dl, s6⟩
  rintro H1 ⟨ds, hD, ld, dl, s1⟩
  have F1 := hF.same s1
  have Df := hF.ne nD
  refine ⟨_, rfl, _, rfl, r, _, _, _, rfl, rfl, SqT.of (s1 _ _ er), atI_nat (j := 0) rfl, ha, _, rfl, .inr (SqT.of (s1 _ _ eh)), f, c, ((hv.length : Nat) : Int), rfl, by omega, log_small (by omega), F1, fun a H2 a0 a1 F2 B2 => ?_⟩
  obtain ⟨a, rfl⟩ : ∃ k : Nat, a = ((k : Nat) : Int) := ⟨a.toNat, by omega⟩
  have hD2 := B2 _ _ hD Df
  exact ⟨rfl, D, ds, a, _, rfl, Df, hD2, by omega, dl, by omega, F2, (But.of s1).trans B2⟩
end
theorem at_before {xs : List V} {a : Nat} (h : a < xs.length) : ∃ (j : Nat) (x : V), xs[j]? = some x ∧ atI xs (((a : Nat) : Int) - 1) = some x := by
  cases a with
  | zero =>
    have e : xs[xs.length - 1]? = some xs[xs.length - 1] := List.getElem?_eq_getElem (by omega)
    refine ⟨xs.length - 1, _, e, ?_⟩
    have := at_prev (xs := xs) (k := 0) h (fun _ => e) (fun j z => by cases z)
    rw [← this]
    congr 1
  | succ a =>
    have e : xs[a]? = some xs[a] := List.getElem?_eq_getElem (by omega)
    refine ⟨a, _, e, ?_⟩
    rw [show (((a + 1 : Nat)) : Int) - 1 = ((a : Nat) : Int) by omega]
    exact atI_nat e
section
variable {P : Program} {w : World} {K : PySem.W.Frag} {mg : Str → Option Value} {base : Heap}
def sp_law_spoilt_walk (K : PySem.W.Frag) : Sp := fun vs H Q _ => ∃ (f c r wp : Addr) (hs : List HR) (bs : List BR) (way : Int) (qv : List V) (ws : List Wq) (N : Nat), vs = [.ref f, .int way, .ref r, .ref wp] ∧ Flow H f c ∧ RoomAt H r hs bs ∧ RoomOk hs bs ∧ 0 < hs.length ∧ H wp = some (.tup qv) ∧ All2 (RgAt H) qv ws ∧ ws.length ≤ 50 ∧ 1 ≤ N ∧ N ≤ 30 ∧ (∀ x ∈ ws, WkN hs bs N x) ∧
  ∀ (p : Addr) (qv' : List V) (ws' : List Wq) (H' : Hp), H' p = some (.tup qv') → All2 (RgAt H') qv' ws' → ws'.length ≤ ws.length + 1 → (∀ x ∈ ws', WkN hs bs (2 * N) x) → Flow H' f c → But f H H' → Q (.ref p) H'
theorem ok_law_spoilt_walk {f : Addr} {fd : FuncData} (F : Fun K "_law_spoilt_walk" "_law_spoilt_walk" s_law_spoilt_walk f fd) (T : Top K mg) : FnOk P w K mg base CX0 2 f fd ["_law_flow_here", "_law_way", "_law_room_here", "_law_walk"] (sp_law_spoilt_walk K) := by
  obtain ⟨f_law_pick, fd_law_pick, F_law_pick, b_law_pick, m_law_pick⟩ := T.d_law_pick
  have G_law_pick := ok_law_pick (P := P) (w := w) (base := base) F_law_pick T
  obtain ⟨f_law_end, fd_law_end, F_law_end, b_law_end, m_law_end⟩ := T.d_law_end
  have G_law_end := ok_law_end (P := P) (w := w) (base := base) F_law_end T
  refine F.ok sc_law_spoilt_walk (fun vs H Q E h => ?_) (fun cdv A outer s H vs Q E hr h => ?_)
  · obtain ⟨f, c, r, wp, hs, bs, way, qv, ws, N, rfl, _⟩ := h
    rfl
  obtain ⟨f, c, r, wp, hs, bs, way, qv, ws, N, rfl, hF, hR, ok, pos, hw, alp, lws, N1, N30, wok, q⟩ := h
  obtain ⟨ha, ba, hv, bv, er, eh, eb, alh, alb⟩ := id hR.ex
  have lhv := alh.length
  have lbv := alb.length
  have lh := ok.hands
  have lb := ok.many
  have lqv := alp.length
  have hto : ∀ b ∈ bs, b.to < hs.length := fun b hb => (ok.ends b hb).2
  have up : ∀ x ∈ ws, WkN hs bs (2 * N) x := fun x hx => (wok x hx).mono (by omega)
  have fin : ∀ (H5 : Hp) (p : Addr) (a : Nat) (mv : List V) (cs : List Wq) (a' : Nat), a < ws.length → (a' = a ∧ cs.length ≤ 1 ∨ a' = a + 1 ∧ cs.length ≤ 2) → H5 p = some (.tup (qv.take a ++ mv ++ qv.drop a')) → All2 (RgAt H5) mv cs → (∀ x ∈ cs, WkN hs bs (2 * N) x) → TK H H5 → Flow H5 f c → But f H H5 → Q (.ref p) H5 := fun H5 p a mv cs a' al hc h am ac k F B => by
    have al5 := alp.imp fun _ _ z => z.keep k
    refine q p _ (ws.take a ++ cs ++ ws.drop a') H5 h (((al5.take a).app am).app (al5.drop a')) (by rw [List.length_append, List.length_append, List.length_take, List.length_drop]; omega) (fun x hx => ?_) F B
    rcases List.mem_append.mp hx with hx | hx
    · rcases List.mem_append.mp hx with hx | hx
      · exact up x (List.mem_of_mem_take hx)
      · exact ac x hx
    · exact up x (List.mem_of_mem_drop hx)
  let R0 : TS := fun D' σ' H' => D'.rt = Q ∧ ∃ (a kk : Nat) (g p0 : Addr) (one : Nat) (ns : List Nat) (v9 : Option V), σ' = [some (.ref f), some (.int way), some (.ref r), some (.ref wp), some (nV a), some (nV one), some (.ref g), some (nV kk), none, v9, none, none] ∧ a < ws.length ∧ ws[a]? = some (one, ns) ∧ qv[a]? = some (.ref p0) ∧ H' p0 = some (.tup [nV one, .ref g]) ∧ H' g = some (.tup (ns.map nV)) ∧ kk ≤ ns.length ∧ TK H H' ∧ Flow H' f c ∧ But f H H'
  let R1 : TS := R0
  let R2 : TS := R0
  let R3 : TS := R0
  refine ⟨_, (pss_cons (ps_if (pt_cmpR op_eq (pe_callB (call_len_seqK K rfl) (by rfl) T.m_len (by decide +kernel) (pa_cons (pv 3) pa_nil)) pe_int (nomark _)) (pss_one (ps_ret (pv 3))) pss_nil)
      (pss_cons (ps_set (i := 4) sc_law_spoilt_walk.nd rfl (Or.inl rfl) (pe_call G_law_pick (hr.mono (by decide)) (by rfl) m_law_pick F_law_pick.kp b_law_pick .nil pass0 (pa_cons (pv 0) (pa_cons (pe_callB (call_len_seqK K rfl) (by rfl) T.m_len (by decide +kernel) (pa_cons (pv 3) pa_nil)) pa_nil))))
      (pss_cons (ps_asg (pe_ix (ix_tupK K rfl) (pv 3) (pv 4) (fun _ _ => rfl)) (pg_tupK K rfl rfl (pgs_cons (pg_name (i := 5) sc_law_spoilt_walk.nd rfl (Or.inl rfl)) (pgs_cons (pg_name (i := 6) sc_law_spoilt_walk.nd rfl (Or.inl rfl)) pgs_nil))))
      (pss_cons (ps_set (i := 7) sc_law_spoilt_walk.nd rfl (Or.inl rfl) (pe_call G_law_pick (hr.mono (by decide)) (by rfl) m_law_pick F_law_pick.kp b_law_pick .nil pass0 (pa_cons (pv 0) (pa_cons (pe_op op_add (pe_callB (call_len_seqK K rfl) (by rfl) T.m_len (by decide +kernel) (pa_cons (pv 6) pa_nil)) pe_int) pa_nil))))
      (PSs.to (pss_cons (ps_if (pt_cmpR op_eq (pv 1) pe_int (nomark _)) (pss_one (ps_ret (pe_op (op_catAK K rfl) (pe_slice (sl_tupAK K rfl) (pv 3) po_none (po_some (pv 4))) (pe_slice (sl_tupAK K rfl) (pv 3) (po_some (pe_op op_add (pv 4) pe_int)) po_none)))) pss_nil)
      (pss_cons (ps_if (pt_cmpR op_eq (pv 1) pe_int (nomark _)) (pss_one (ps_ret (pe_op (op_catAK K rfl) (pe_op (op_catAK K rfl) (pe_slice (sl_tupAK K rfl) (pv 3) po_none (po_some (pv 4))) (pe_tup (pa_cons (pe_ix (ix_tupK K rfl) (pv 3) (pv 4) (fun _ _ => rfl)) pa_nil))) (pe_slice (sl_tupAK K rfl) (pv 3) (po_some (pv 4)) po_none)))) pss_nil)
      (pss_cons (ps_if (PW.pt (pw_and (pt_cmpR op_eq (pv 1) pe_int (nomark _)) (pw_and1 (pt_cmpR op_gt (pe_callB (call_len_seqK K rfl) (by rfl) T.m_len (by decide +kernel) (pa_cons (pe_ix (ix_tupK K rfl) (pv 2) pe_int (fun _ _ => rfl)) pa_nil)) pe_int (nomark _))))) (pss_cons (ps_set (i := 8) sc_law_spoilt_walk.nd rfl (Or.inl rfl) (pe_op (op_catAK K rfl) (pe_op (op_catAK K rfl) (pe_slice (sl_tupAK K rfl) (pv 6) po_none (po_some (pv 7))) (pe_tup (pa_cons (pe_call G_law_pick (hr.mono (by decide)) (by rfl) m_law_pick F_law_pick.kp b_law_pick .nil pass0 (pa_cons (pv 0) (pa_cons (pe_callB (call_len_seqK K rfl) (by rfl) T.m_len (by decide +kernel) (pa_cons (pe_ix (ix_tupK K rfl) (pv 2) pe_int (fun _ _ => rfl)) pa_nil)) pa_nil))) pa_nil))) (pe_slice (sl_tupAK K rfl) (pv 6) (po_some (pe_op op_add (pv 7) pe_int)) po_none)))
      (pss_one (ps_ret (pe_op (op_catAK K rfl) (pe_op (op_catAK K rfl) (pe_slice (sl_tupAK K rfl) (pv 3) po_none (po_some (pv 4))) (pe_tup (pa_cons (pe_tup (pa_cons (pv 5) (pa_cons (pv 8) pa_nil))) pa_nil))) (pe_slice (sl_tupAK K rfl) (pv 3) (po_some (pe_op op_add (pv 4) pe_int)) po_none))))) pss_nil)
      (PSs.to (pss_cons (ps_if (pt_cmpR op_eq (pv 1) pe_int (nomark _)) (pss_one (ps_ret (pe_op (op_catAK K rfl) (pe_op (op_catAK K rfl) (pe_slice (sl_tupAK K rfl) (pv 3) po_none (po_some (pv 4))) (pe_tup (pa_cons (pe_tup (pa_cons (pe_call G_law_pick (hr.mono (by decide)) (by rfl) m_law_pick F_law_pick.kp b_law_pick .nil pass0 (pa_cons (pv 0) (pa_cons (pe_callB (call_len_seqK K rfl) (by rfl) T.m_len (by decide +kernel) (pa_cons (pe_ix (ix_tupK K rfl) (pv 2) pe_int (fun _ _ => rfl)) pa_nil)) pa_nil))) (pa_cons (pv 6) pa_nil))) pa_nil))) (pe_slice (sl_tupAK K rfl) (pv 3) (po_some (pe_op op_add (pv 4) pe_int)) po_none)))) pss_nil)
      (pss_cons (ps_if (pt_cmpR op_eq (pv 1) pe_int (nomark _)) (pss_cons (ps_set (i := 9) sc_law_spoilt_walk.nd rfl (Or.inl rfl) (pe_call G_law_end (hr.mono (by decide)) (by rfl) m_law_end F_law_end.kp b_law_end .nil pass0 (pa_cons (pv 2) (pa_cons (pe_tup (pa_cons (pv 5) (pa_cons (pe_slice (sl_tupAK K rfl) (pv 6) po_none (po_some (pv 7))) pa_nil))) pa_nil))))
      (pss_one (ps_if (pt_cmpR op_notN (pv 9) pe_non (nomark _)) (pss_cons (ps_set (i := 10) sc_law_spoilt_walk.nd rfl (Or.inl rfl) (pe_tup (pa_cons (pe_tup (pa_cons (pv 5) (pa_cons (pe_slice (sl_tupAK K rfl) (pv 6) po_none (po_some (pv 7))) pa_nil))) (pa_cons (pe_tup (pa_cons (pv 9) (pa_cons (pe_slice (sl_tupAK K rfl) (pv 6) (po_some (pv 7)) po_none) pa_nil))) pa_nil))))
      (pss_one (ps_ret (pe_op (op_catAK K rfl) (pe_op (op_catAK K rfl) (pe_slice (sl_tupAK K rfl) (pv 3) po_none (po_some (pv 4))) (pv 10)) (pe_slice (sl_tupAK K rfl) (pv 3) (po_some (pe_op op_add (pv 4) pe_int)) po_none))))) pss_nil))) pss_nil)
      (PSs.to (pss_cons (ps_if (pt_cmpR op_eq (pv 1) pe_int (nomark _)) (pss_one (ps_ret (pe_op (op_catAK K rfl) (pe_slice (sl_tupAK K rfl) (pv 3) (po_some (pv 4)) po_none) (pe_slice (sl_tupAK K rfl) (pv 3) po_none (po_some (pv 4)))))) pss_nil)
      (pss_cons (ps_if (pt_cmpR op_eq (pv 1) pe_int (nomark _)) (pss_cons (ps_set (i := 11) sc_law_spoilt_walk.nd rfl (Or.inl rfl) (pe_tup (pa_cons (pv 5) (pa_cons (pe_op (op_catAK K rfl) (pv 6) (pe_ix (ix_tupK K rfl) (pe_ix (ix_tupK K rfl) (pv 3) (pe_op op_sub (pv 4) pe_int) (fun _ _ => rfl)) pe_int (fun _ _ => rfl))) pa_nil))))
      (pss_one (ps_ret (pe_op (op_catAK K rfl) (pe_op (op_catAK K rfl) (pe_slice (sl_tupAK K rfl) (pv 3) po_none (po_some (pv 4))) (pe_tup (pa_cons (pe_ix (ix_tupK K rfl) (pv 3) (pv 4) (fun _ _ => rfl)) (pa_cons (pv 11) pa_nil)))) (pe_slice (sl_tupAK K rfl) (pv 3) (po_some (pe_op op_add (pv 4) pe_int)) po_none))))) pss_nil)
      (pss_cons (ps_if (pt_cmpR op_eq (pv 1) pe_int (nomark _)) (pss_one (ps_ret (pe_op (op_catAK K rfl) (pe_op (op_catAK K rfl) (pe_slice (sl_tupAK K rfl) (pv 3) po_none (po_some (pv 4))) (pe_tup (pa_cons (pe_tup (pa_cons (pv 5) (pa_cons (pe_tup pa_nil) pa_nil))) pa_nil))) (pe_slice (sl_tupAK K rfl) (pv 3) (po_some (pv 4)) po_none)))) pss_nil)
      (pss_one (ps_ret (pv 3)))))) R3 ?tail3))) R2 ?tail2)))) R1 ?tail1))))), ?_⟩
  case tail3 =>
    rintro D' σ' H1 ⟨eD, a, kk, g, p0, one, ns, v9, rfl, al, ea, eqa, h0, hg, kl, K1, F1, B1⟩
    have wo := wok _ (List.mem_of_getElem? ea)
    have wk : one < hs.length := wo.k
    have wlt : ∀ n ∈ ns, n < bs.length := wo.lt
    have wln : ns.length ≤ N := wo.ln
    have hw1 := K1 _ _ hw
    have fin := fin
    rw [← eD] at fin
    have cd1 : cutV qv (some (((a : Nat) : Int) + 1)) none = qv.drop (a + 1) := by rw [show ((a : Nat) : Int) + 1 = ((a + 1 : Nat) : Int) by omega, cut_drop]
    have ck1 : cutV (ns.map nV) (some (((kk : Nat) : Int) + 1)) none = (ns.drop (kk + 1)).map nV := by rw [show ((kk : Nat) : Int) + 1 = ((kk + 1 : Nat) : Int) by omega, cut_drop, List.map_drop]
    refine ⟨_, rfl, rfl, _, rfl, if_bl (fun _ => ?_) (fun _ => ?_)⟩
    · skip
      refine ⟨_, rfl, _, rfl, ?_⟩
      dsimp only [tNoPart]
      refine ⟨_, rfl, slA_of hw1 fun p1 H3 h1 s3 => ?_⟩
      rw [cut_drop] at h1
      refine ⟨_, rfl, ?_⟩
      dsimp only [tNoPart]
      refine ⟨_, rfl, _, rfl, slA_of (s3 _ _ hw1) fun p2 H4 h2 s4 => ?_⟩
      rw [cut_take] at h2
      refine catA_of (s4 _ _ h1) h2 (by simp only [List.length_append, List.length_take, List.length_drop, List.length_cons, List.length_nil, List.length_map]; omega) fun p3 H5 h3 s5 => ?_
      have s := (s3.trans s4).trans s5
      have al5 := alp.imp fun _ _ z => z.keep (K1.trans (TK.same s))
      rw [eD]
      refine q p3 _ (ws.drop a ++ ws.take a) H5 h3 ((al5.drop a).app (al5.take a)) (by rw [List.length_append, List.length_take, List.length_drop]; omega) (fun x hx => ?_) (F1.same s) (B1.same s)
      exact up x ((List.mem_append.mp hx).elim List.mem_of_mem_drop List.mem_of_mem_take)
    refine ⟨_, rfl, rfl, _, rfl, if_bl (fun _ => ?_) (fun _ => ?_)⟩
    · obtain ⟨j, xj, ej, aj⟩ := at_before (xs := qv) (a := a) (by omega)
      obtain ⟨y, ey, ⟨py, rfl, ⟨gy, hy1, hy2⟩⟩⟩ := alp.getL ej
      have yo := wok _ (List.mem_of_getElem? ey)
      refine ⟨_, rfl, _, rfl, _, rfl, _, rfl, _, _, rfl, rfl, wp, _, _, _, rfl, rfl, SqT.of hw1, aj, py, _, _, _, rfl, rfl, SqT.of (K1 _ _ hy1), atI_nat (j := 1) rfl, ?_⟩
      refine catA_of hg (K1 _ _ hy2) (by rw [List.length_map, List.length_map]; have := yo.ln; omega) fun g2 H2 hg2 s2 => ⟨(by show 2 ≤ sizeLine; decide), fun pl npl => ?_⟩
      have t1 := same_new (o := .tup [nV one, V.ref g2]) npl
      have s2 := s2.trans t1
      have hg2 := t1 _ _ hg2
      have hpl : (upd H2 pl (.tup [nV one, V.ref g2])) pl = some (.tup [nV one, V.ref g2]) := upd_same
      generalize (upd H2 pl (.tup [nV one, V.ref g2])) = H2' at s2 hg2 hpl t1 ⊢
      refine ⟨_, rfl, ?_⟩
      dsimp only [tNoPart]
      refine ⟨_, rfl, _, rfl, slA_of (s2 _ _ hw1) fun p1 H3 h1 s3 => ?_⟩
      rw [cut_take] at h1
      have s23 := s2.trans s3
      refine ⟨_, rfl, _, rfl, wp, _, _, _, rfl, rfl, SqT.of (s23 _ _ hw1), atI_nat eqa, _, rfl, (by show 2 ≤ sizeLine; decide), fun p2 np2 => ?_⟩
      have t2 := same_new (o := .tup [V.ref p0, V.ref pl]) np2
      refine catA_of (t2 _ _ h1) upd_same (by simp only [List.length_append, List.length_take, List.length_drop, List.length_cons, List.length_nil, List.length_map]; omega) fun p3 H5 h3 s5 => ?_
      have s25 := (s23.trans t2).trans s5
      refine ⟨_, rfl, _, rfl, _, _, rfl, rfl, ?_⟩
      dsimp only [tNoPart]
      refine ⟨_, rfl, slA_of (s25 _ _ hw1) fun p4 H6 h4 s6 => ?_⟩
      rw [cd1] at h4
      refine catA_of (s6 _ _ h3) h4 (by simp only [List.length_append, List.length_take, List.length_drop, List.length_cons, List.length_nil, List.length_map]; omega) fun p5 H7 h5 s7 => ?_
      have s37 := ((s3.trans t2).trans s5).trans (s6.trans s7)
      have s := s2.trans s37
      refine fin H7 p5 a [.ref p0, .ref pl] [(one, ns), (one, ns ++ y.2)] (a + 1) al (.inr ⟨rfl, by simp⟩) h5 (.cons ⟨p0, rfl, g, s _ _ h0, s _ _ hg⟩ (.cons ⟨pl, rfl, g2, s37 _ _ hpl, by rw [List.map_append]; exact s37 _ _ hg2⟩ .nil)) (fun x hx => ?_) (K1.trans (TK.same s)) (F1.same s) (B1.same s)
      rcases List.mem_cons.mp hx with rfl | hx
      · exact wo.mono (by omega)
      · obtain rfl := List.mem_singleton.mp hx
        exact ⟨wk, fun n hn => (List.mem_append.mp hn).elim (wlt n) (yo.lt n), by show (ns ++ y.2).length ≤ _; rw [List.length_append]; have := yo.ln; omega⟩
    refine ⟨_, rfl, rfl, _, rfl, if_bl (fun _ => ?_) (fun _ => ?_)⟩
    · skip
      refine ⟨_, rfl, ?_⟩
      dsimp only [tNoPart]
      refine ⟨_, rfl, _, rfl, slA_of hw1 fun p1 H3 h1 s3 => ?_⟩
      rw [cut_take] at h1
      refine ⟨_, rfl, (by show 0 ≤ sizeLine; decide), fun e1 ne1 => ⟨(by show 2 ≤ sizeLine; decide), fun e2 ne2 => ⟨(by show 1 ≤ sizeLine; decide), fun e3 ne3 => ?_⟩⟩⟩
      have t1 := same_new (o := .tup []) ne1
      have t2 := same_new (o := .tup [nV one, V.ref e1]) ne2
      have t3 := same_new (o := .tup [V.ref e2]) ne3
      have t13 := (t1.trans t2).trans t3
      refine catA_of (t13 _ _ h1) upd_same (by simp only [List.length_append, List.length_take, List.length_drop, List.length_cons, List.length_nil, List.length_map]; omega) fun p3 H5 h3 s5 => ?_
      have s25 := (s3.trans t13).trans s5
      refine ⟨_, rfl, _, rfl, ?_⟩
      dsimp only [tNoPart]
      refine ⟨_, rfl, slA_of (s25 _ _ hw1) fun p4 H6 h4 s6 => ?_⟩
      rw [cut_drop] at h4
      refine catA_of (s6 _ _ h3) h4 (by simp only [List.length_append, List.length_take, List.length_drop, List.length_cons, List.length_nil, List.length_map]; omega) fun p5 H7 h5 s7 => ?_
      have s57 := s5.trans (s6.trans s7)
      have s := s25.trans (s6.trans s7)
      refine fin H7 p5 a [.ref e2] [(one, [])] a al (.inl ⟨rfl, by simp⟩) h5 (.cons ⟨e2, rfl, e1, (t3.trans s57) _ _ upd_same, ((t2.trans t3).trans s57) _ _ upd_same⟩ .nil) (fun x hx => ?_) (K1.trans (TK.same s)) (F1.same s) (B1.same s)
      obtain rfl := List.mem_singleton.mp hx
      exact ⟨wk, (fun _ z => nomatch z), Nat.zero_le _⟩
    refine ⟨_, rfl, ?_⟩
    rw [eD]
    exact q wp qv ws H1 hw1 (alp.imp fun _ _ z => z.keep K1) (by omega) up F1 B1
  case tail2 =>
    rintro D' σ' H1 ⟨eD, a, kk, g, p0, one, ns, v9, rfl, al, ea, eqa, h0, hg, kl, K1, F1, B1⟩
    have wo := wok _ (List.mem_of_getElem? ea)
    have wk : one < hs.length := wo.k
    have wlt : ∀ n ∈ ns, n < bs.length := wo.lt
    have wln : ns.length ≤ N := wo.ln
    have hw1 := K1 _ _ hw
    have fin := fin
    rw [← eD] at fin
    have cd1 : cutV qv (some (((a : Nat) : Int) + 1)) none = qv.drop (a + 1) := by rw [show ((a : Nat) : Int) + 1 = ((a + 1 : Nat) : Int) by omega, cut_drop]
    have ck1 : cutV (ns.map nV) (some (((kk : Nat) : Int) + 1)) none = (ns.drop (kk + 1)).map nV := by rw [show ((kk : Nat) : Int) + 1 = ((kk + 1 : Nat) : Int) by omega, cut_drop, List.map_drop]
    refine ⟨_, rfl, rfl, _, rfl, if_bl (fun _ => ?_) (fun _ => ?_)⟩
    · skip
      refine ⟨_, rfl, ?_⟩
      dsimp only [tNoPart]
      refine ⟨_, rfl, _, rfl, slA_of hw1 fun p1 H3 h1 s3 => ?_⟩
      rw [cut_take] at h1
      have K3 := K1.trans (TK.same s3)
      refine ⟨_, rfl, _, rfl, r, _, _, _, rfl, rfl, SqT.of (K3 _ _ er), atI_nat (j := 0) rfl, ha, _, rfl, .inr (SqT.of (K3 _ _ eh)), f, c, ((hv.length : Nat) : Int), rfl, by omega, log_small (by omega), F1.same s3, fun v H4 v0 v1 F4 B4 => ?_⟩
      obtain ⟨v, rfl⟩ : ∃ k : Nat, v = ((k : Nat) : Int) := ⟨v.toNat, by omega⟩
      have K34 := TK.but (F1.same s3) B4
      refine ⟨_, rfl, (by show 2 ≤ sizeLine; decide), fun e2 ne2 => ⟨(by show 1 ≤ sizeLine; decide), fun e3 ne3 => ?_⟩⟩
      have t2 := same_new (o := .tup [V.int ((v : Nat) : Int), V.ref g]) ne2
      have t3 := same_new (o := .tup [V.ref e2]) ne3
      have t13 := t2.trans t3
      refine catA_of (t13 _ _ (K34 _ _ h1)) upd_same (by simp only [List.length_append, List.length_take, List.length_drop, List.length_cons, List.length_nil, List.length_map]; omega) fun p3 H5 h3 s5 => ?_
      have t15 := t13.trans s5
      have K15 := ((TK.same s3).trans K34).trans (TK.same t15)
      have hw5 := K15 _ _ hw1
      refine ⟨_, rfl, _, rfl, _, _, rfl, rfl, ?_⟩
      dsimp only [tNoPart]
      refine ⟨_, rfl, slA_of hw5 fun p4 H6 h4 s6 => ?_⟩
      rw [cd1] at h4
      refine catA_of (s6 _ _ h3) h4 (by simp only [List.length_append, List.length_take, List.length_drop, List.length_cons, List.length_nil, List.length_map]; omega) fun p5 H7 h5 s7 => ?_
      have s57 := s5.trans (s6.trans s7)
      have s := t13.trans s57
      have K17 := ((TK.same s3).trans K34).trans (TK.same s)
      refine fin H7 p5 a [.ref e2] [(v, ns)] (a + 1) al (.inr ⟨rfl, by simp⟩) h5 (.cons ⟨e2, rfl, g, (t3.trans s57) _ _ upd_same, K17 _ _ hg⟩ .nil) (fun x hx => ?_) (K1.trans K17) (F4.same s) (((B1.same s3).trans B4).same s)
      obtain rfl := List.mem_singleton.mp hx
      exact ⟨by show v < _; omega, wlt, by show ns.length ≤ _; omega⟩
    refine ⟨_, rfl, rfl, _, rfl, if_bl (fun _ => ?_) (fun _ => ⟨eD, a, kk, g, p0, one, ns, v9, rfl, al, ea, eqa, h0, hg, kl, K1, F1, B1⟩)⟩
    refine ⟨_, rfl, _, rfl, _, rfl, ?_⟩
    dsimp only [tNoPart]
    refine ⟨_, rfl, _, rfl, slA_of hg fun q1 H3 h1 s3 => ?_⟩
    rw [cut_take] at h1
    rw [← List.map_take] at h1
    refine ⟨(by show 2 ≤ sizeLine; decide), fun q2 nq2 => ?_⟩
    have t2 := same_new (o := .tup [nV one, V.ref q1]) nq2
    have s32 := s3.trans t2
    have K32 := K1.trans (TK.same s32)
    refine ⟨r, q2, hs, bs, one, ns.take kk, rfl, hR.keep K32, ⟨q1, upd_same, t2 _ _ h1⟩, fun n hn => wlt n (List.mem_of_mem_take hn), ?_⟩
    have tk1 : ∀ n ∈ ns.take kk, n < bs.length := fun n hn => wlt n (List.mem_of_mem_take hn)
    generalize (upd H3 q2 (.tup [nV one, V.ref q1])) = H4 at s32 K32 ⊢
    cases em : wayEnd bs one (ns.take kk) with
    | none => exact ⟨_, rfl, rfl, _, rfl, if_bl (fun z => absurd z (by intro z; cases z)) (fun _ => ⟨eD, a, kk, g, p0, one, ns, _, rfl, al, ea, eqa, s32 _ _ h0, s32 _ _ hg, kl, K32, F1.same s32, B1.same s32⟩)⟩
    | some m =>
      have ml := wayEnd_lt57 hto wk em
      refine ⟨_, rfl, rfl, _, rfl, if_bl (fun _ => ?_) (fun z => absurd z (by intro z; cases z))⟩
      refine ⟨_, rfl, _, rfl, ?_⟩
      dsimp only [tNoPart]
      refine ⟨_, rfl, _, rfl, slA_of (s32 _ _ hg) fun u1 H5 k1 s5 => ?_⟩
      rw [cut_take] at k1
      rw [← List.map_take] at k1
      refine ⟨(by show 2 ≤ sizeLine; decide), fun u2 nu2 => ?_⟩
      have t5 := same_new (o := .tup [nV one, V.ref u1]) nu2
      have s35 := (s32.trans s5).trans t5
      refine ⟨_, rfl, _, rfl, _, rfl, ?_⟩
      dsimp only [tNoPart]
      refine ⟨_, rfl, slA_of (s35 _ _ hg) fun u3 H6 k3 s6 => ?_⟩
      rw [cut_drop] at k3
      rw [← List.map_drop] at k3
      refine ⟨(by show 2 ≤ sizeLine; decide), fun u4 nu4 => ⟨(by show 2 ≤ sizeLine; decide), fun u5 nu5 => ?_⟩⟩
      have t6 := same_new (o := .tup [onV (some m), V.ref u3]) nu4
      have t7 := same_new (o := .tup [V.ref u2, V.ref u4]) nu5
      have hu1 := (((t5.trans s6).trans t6).trans t7) _ _ k1
      have hu2 := ((s6.trans t6).trans t7) _ _ (upd_same (H := H5) (a := u2) (o := HO.tup [nV one, V.ref u1]))
      have hu3 := (t6.trans t7) _ _ k3
      have hu4 := t7 _ _ (upd_same (H := H6) (a := u4) (o := HO.tup [onV (some m), V.ref u3]))
      have hu5 : (upd (upd H6 u4 (.tup [onV (some m), V.ref u3])) u5 (.tup [V.ref u2, V.ref u4])) u5 = some (.tup [V.ref u2, V.ref u4]) := upd_same
      have s7 := ((s35.trans s6).trans t6).trans t7
      generalize (upd (upd H6 u4 (.tup [onV (some m), V.ref u3])) u5 (.tup [V.ref u2, V.ref u4])) = H7 at hu1 hu2 hu3 hu4 hu5 s7 ⊢
      refine ⟨_, rfl, ?_⟩
      dsimp only [tNoPart]
      refine ⟨_, rfl, _, rfl, slA_of (s7 _ _ hw1) fun p1 H8 h8 s8 => ?_⟩
      rw [cut_take] at h8
      refine ⟨_, rfl, catA_of h8 (s8 _ _ hu5) (by simp only [List.length_append, List.length_take, List.length_drop, List.length_cons, List.length_nil, List.length_map]; omega) fun p3 H9 h3 s9 => ?_⟩
      have s79 := (s7.trans s8).trans s9
      refine ⟨_, rfl, _, rfl, _, _, rfl, rfl, ?_⟩
      dsimp only [tNoPart]
      refine ⟨_, rfl, slA_of (s79 _ _ hw1) fun p4 H10 h4 s10 => ?_⟩
      rw [cd1] at h4
      refine catA_of (s10 _ _ h3) h4 (by simp only [List.length_append, List.length_take, List.length_drop, List.length_cons, List.length_nil, List.length_map]; omega) fun p5 H11 h5 s11 => ?_
      have s8b := (s8.trans s9).trans (s10.trans s11)
      have s := s7.trans s8b
      refine fin H11 p5 a [.ref u2, .ref u4] [(one, ns.take kk), (m, ns.drop kk)] (a + 1) al (.inr ⟨rfl, by simp⟩) h5 (.cons ⟨u2, rfl, u1, s8b _ _ hu2, s8b _ _ hu1⟩ (.cons ⟨u4, rfl, u3, s8b _ _ hu4, s8b _ _ hu3⟩ .nil)) (fun x hx => ?_) (K1.trans (TK.same s)) (F1.same s) (B1.same s)
      rcases List.mem_cons.mp hx with rfl | hx
      · exact ⟨wk, tk1, by show (ns.take kk).length ≤ _; rw [List.length_take]; omega⟩
      · obtain rfl := List.mem_singleton.mp hx
        exact ⟨ml, fun n hn => wlt n (List.mem_of_mem_drop hn), by show (ns.drop kk).length ≤ _; rw [List.length_drop]; omega⟩
  case tail1 =>
    rintro D' σ' H1 ⟨eD, a, kk, g, p0, one, ns, v9, rfl, al, ea, eqa, h0, hg, kl, K1, F1, B1⟩
    have wo := wok _ (List.mem_of_getElem? ea)
    have wk : one < hs.length := wo.k
    have wlt : ∀ n ∈ ns, n < bs.length := wo.lt
    have wln : ns.length ≤ N := wo.ln
    have hw1 := K1 _ _ hw
    have fin := fin
    rw [← eD] at fin
    have cd1 : cutV qv (some (((a : Nat) : Int) + 1)) none = qv.drop (a + 1) := by rw [show ((a : Nat) : Int) + 1 = ((a + 1 : Nat) : Int) by omega, cut_drop]
    have ck1 : cutV (ns.map nV) (some (((kk : Nat) : Int) + 1)) none = (ns.drop (kk + 1)).map nV := by rw [show ((kk : Nat) : Int) + 1 = ((kk + 1 : Nat) : Int) by omega, cut_drop, List.map_drop]
    refine ⟨_, rfl, rfl, _, rfl, if_bl (fun _ => ?_) (fun _ => ?_)⟩
    · skip
      refine ⟨_, rfl, ?_⟩
      dsimp only [tNoPart]
      refine ⟨_, rfl, _, rfl, slA_of hw1 fun p1 H3 h1 s3 => ?_⟩
      rw [cut_take] at h1
      refine ⟨_, rfl, _, rfl, _, _, rfl, rfl, ?_⟩
      dsimp only [tNoPart]
      refine ⟨_, rfl, slA_of (s3 _ _ hw1) fun p2 H4 h2 s4 => ?_⟩
      rw [cd1] at h2
      refine catA_of (s4 _ _ h1) h2 (by simp only [List.length_append, List.length_take, List.length_drop, List.length_cons, List.length_nil, List.length_map]; omega) fun p3 H5 h3 s5 => ?_
      have s := (s3.trans s4).trans s5
      exact fin H5 p3 a [] [] (a + 1) al (.inr ⟨rfl, by simp⟩) (by rw [List.append_nil]; exact h3) .nil (fun _ z => nomatch z) (K1.trans (TK.same s)) (F1.same s) (B1.same s)
    refine ⟨_, rfl, rfl, _, rfl, if_bl (fun _ => ?_) (fun _ => ?_)⟩
    · skip
      refine ⟨_, rfl, ?_⟩
      dsimp only [tNoPart]
      refine ⟨_, rfl, _, rfl, slA_of hw1 fun p1 H3 h1 s3 => ?_⟩
      rw [cut_take] at h1
      refine ⟨_, rfl, _, rfl, wp, _, _, _, rfl, rfl, SqT.of (s3 _ _ hw1), atI_nat eqa, (by show 1 ≤ sizeLine; decide), fun p2 np2 => ?_⟩
      have t2 := same_new (o := .tup [V.ref p0]) np2
      refine catA_of (t2 _ _ h1) upd_same (by simp only [List.length_append, List.length_take, List.length_drop, List.length_cons, List.length_nil, List.length_map]; omega) fun p3 H5 h3 s5 => ?_
      have s25 := (s3.trans t2).trans s5
      refine ⟨_, rfl, _, rfl, ?_⟩
      dsimp only [tNoPart]
      refine ⟨_, rfl, slA_of (s25 _ _ hw1) fun p4 H6 h4 s6 => ?_⟩
      rw [cut_drop] at h4
      refine catA_of (s6 _ _ h3) h4 (by simp only [List.length_append, List.length_take, List.length_drop, List.length_cons, List.length_nil, List.length_map]; omega) fun p5 H7 h5 s7 => ?_
      have s := s25.trans (s6.trans s7)
      refine fin H7 p5 a [.ref p0] [(one, ns)] a al (.inl ⟨rfl, by simp⟩) h5 (.cons ⟨p0, rfl, g, s _ _ h0, s _ _ hg⟩ .nil) (fun x hx => ?_) (K1.trans (TK.same s)) (F1.same s) (B1.same s)
      obtain rfl := List.mem_singleton.mp hx
      exact wo.mono (by omega)
    refine ⟨_, rfl, rfl, _, rfl, if_bl (fun _ => ?_) (fun _ => ⟨eD, a, kk, g, p0, one, ns, v9, rfl, al, ea, eqa, h0, hg, kl, K1, F1, B1⟩)⟩
    refine ⟨_, rfl, r, _, _, _, rfl, rfl, SqT.of (K1 _ _ er), atI_nat (j := 1) rfl, ba, _, rfl, .inr (SqT.of (K1 _ _ eb)), _, _, rfl, rfl, _, rfl, if_bl (fun cc => ?_) (fun _ => ⟨eD, a, kk, g, p0, one, ns, v9, rfl, al, ea, eqa, h0, hg, kl, K1, F1, B1⟩)⟩
    have cc : ((bv.length : Nat) : Int) > 0 := of_decide_eq_true cc
    refine ⟨_, rfl, ?_⟩
    dsimp only [tNoPart]
    refine ⟨_, rfl, _, rfl, slA_of hg fun q1 H3 h1 s3 => ?_⟩
    rw [cut_take] at h1
    have K3 := K1.trans (TK.same s3)
    refine ⟨_, rfl, _, rfl, r, _, _, _, rfl, rfl, SqT.of (K3 _ _ er), atI_nat (j := 1) rfl, ba, _, rfl, .inr (SqT.of (K3 _ _ eb)), f, c, ((bv.length : Nat) : Int), rfl, by omega, log_small (by omega), F1.same s3, fun v H4 v0 v1 F4 B4 => ?_⟩
    obtain ⟨v, rfl⟩ : ∃ k : Nat, v = ((k : Nat) : Int) := ⟨v.toNat, by omega⟩
    have K34 := TK.but (F1.same s3) B4
    refine ⟨(by show 1 ≤ sizeLine; decide), fun e3 ne3 => ?_⟩
    have t3 := same_new (o := .tup [V.int ((v : Nat) : Int)]) ne3
    refine catA_of (t3 _ _ (K34 _ _ h1)) upd_same (by simp only [List.length_append, List.length_take, List.length_drop, List.length_cons, List.length_nil, List.length_map]; omega) fun p3 H5 h3 s5 => ?_
    have t15 := t3.trans s5
    have K15 := ((TK.same s3).trans K34).trans (TK.same t15)
    have hg5 := K15 _ _ hg
    refine ⟨_, rfl, _, rfl, _, _, rfl, rfl, ?_⟩
    dsimp only [tNoPart]
    refine ⟨_, rfl, slA_of hg5 fun p4 H6 h4 s6 => ?_⟩
    rw [ck1] at h4
    refine catA_of (s6 _ _ h3) h4 (by simp only [List.length_append, List.length_take, List.length_drop, List.length_cons, List.length_nil, List.length_map]; omega) fun og H7 hog s7 => ?_
    have hog : H7 og = some (.tup ((ns.take kk ++ [v] ++ ns.drop (kk + 1)).map nV)) := by
      rw [List.map_append, List.map_append, List.map_take]
      exact hog
    have s37 := t15.trans (s6.trans s7)
    have K17 := ((TK.same s3).trans K34).trans (TK.same s37)
    have hw7 := K17 _ _ hw1
    have F7 := F4.same s37
    have B7 := ((B1.same s3).trans B4).same s37
    refine ⟨_, rfl, ?_⟩
    dsimp only [tNoPart]
    refine ⟨_, rfl, _, rfl, slA_of hw7 fun p6 H8 h6 s8 => ?_⟩
    rw [cut_take] at h6
    refine ⟨_, rfl, _, rfl, (by show 2 ≤ sizeLine; decide), fun e2 ne2 => ⟨(by show 1 ≤ sizeLine; decide), fun e4 ne4 => ?_⟩⟩
    have t2 := same_new (o := .tup [nV one, V.ref og]) ne2
    have t4 := same_new (o := .tup [V.ref e2]) ne4
    have t24 := t2.trans t4
    refine catA_of (t24 _ _ h6) upd_same (by simp only [List.length_append, List.length_take, List.length_drop, List.length_cons, List.length_nil, List.length_map]; omega) fun p8 H9 h8 s9 => ?_
    have s79 := (s8.trans t24).trans s9
    refine ⟨_, rfl, _, rfl, _, _, rfl, rfl, ?_⟩
    dsimp only [tNoPart]
    refine ⟨_, rfl, slA_of (s79 _ _ hw7) fun p9 H10 h9 s10 => ?_⟩
    rw [cd1] at h9
    refine catA_of (s10 _ _ h8) h9 (by simp only [List.length_append, List.length_take, List.length_drop, List.length_cons, List.length_nil, List.length_map]; omega) fun p10 H11 h10 s11 => ?_
    have s9b := s9.trans (s10.trans s11)
    have s := (s8.trans t24).trans s9b
    refine fin H11 p10 a [.ref e2] [(one, ns.take kk ++ [v] ++ ns.drop (kk + 1))] (a + 1) al (.inr ⟨rfl, by simp⟩) h10 (.cons ⟨e2, rfl, og, (t4.trans s9b) _ _ upd_same, s _ _ hog⟩ .nil) (fun x hx => ?_) ((K1.trans K17).trans (TK.same s)) (F7.same s) (B7.same s)
    obtain rfl := List.mem_singleton.mp hx
    refine ⟨wk, fun n hn => ?_, by show (ns.take kk ++ [v] ++ ns.drop (kk + 1)).length ≤ _; simp only [List.length_append, List.length_take, List.length_drop, List.length_cons, List.length_nil]; omega⟩
    rcases List.mem_append.mp hn with hn | hn
    · rcases List.mem_append.mp hn with hn | hn
      · exact wlt n (List.mem_of_mem_take hn)
      · rw [List.mem_singleton.mp hn]; omega
    · exact wlt n (List.mem_of_mem_drop hn)
  refine ⟨_, rfl, wp, _, rfl, .inr (SqT.of hw), rfl, _, rfl, if_bl (fun _ => ?_) (fun z => ?_)⟩
  · exact ⟨_, rfl, q wp qv ws H hw alp (by omega) up hF But.refl⟩
  have lp : 0 < ws.length := by
    refine Nat.pos_of_ne_zero fun e => of_decide_eq_false z ?_
    show V.int ((qv.length : Nat) : Int) = V.int 0
    rw [lqv, e]
    rfl
  refine ⟨_, rfl, _, rfl, wp, _, rfl, .inr (SqT.of hw), f, c, ((qv.length : Nat) : Int), rfl, by omega, log_small (by omega), hF, fun a H1 a0 a1 F1 B1 => ?_⟩
  obtain ⟨a, rfl⟩ : ∃ k : Nat, a = ((k : Nat) : Int) := ⟨a.toNat, by omega⟩
  have al : a < ws.length := by omega
  have ea : ws[a]? = some ws[a] := List.getElem?_eq_getElem al
  obtain ⟨x, ex, ⟨p0, rfl, ⟨g, h0, hg⟩⟩⟩ := alp.get ea
  have wo := wok _ (List.getElem_mem al)
  have K1 := TK.but hF B1
  refine ⟨_, rfl, _, rfl, wp, _, _, _, rfl, rfl, SqT.of (K1 _ _ hw), atI_nat ex, p0, _, rfl, SqT.of (K1 _ _ h0), rfl, _, _, rfl, _, _, rfl, rfl, ?_⟩
  have lg : (((ws[a].2.map nV).length : Nat) : Int) + 1 = (((ws[a].2.length + 1 : Nat)) : Int) := by rw [List.length_map]; omega
  refine ⟨_, rfl, _, rfl, g, _, rfl, .inr (SqT.of (K1 _ _ hg)), _, _, rfl, rfl, f, c, _, rfl, ?_, ?_, F1, fun kk H2 k0 k1 F2 B2 => ?_⟩
  · show (0 : Int) < (((ws[a].2.map nV).length : Nat) : Int) + 1
    omega
  · show (((((ws[a].2.map nV).length : Nat) : Int) + 1).natAbs.log2 < 9000)
    rw [lg]
    exact log_small (by have := wo.ln; omega)
  have k1 : kk < (((ws[a].2.map nV).length : Nat) : Int) + 1 := k1
  rw [List.length_map] at k1
  obtain ⟨kk, rfl⟩ : ∃ k : Nat, kk = ((k : Nat) : Int) := ⟨kk.toNat, by omega⟩
  have K2 := K1.trans (TK.but F1 B2)
  exact ⟨rfl, a, kk, g, p0, ws[a].1, ws[a].2, none, rfl, al, ea, ex, K2 _ _ h0, K2 _ _ hg, by omega, K2, F2, B1.trans B2⟩
end
section
variable {P : Program} {w : World} {K : PySem.W.Frag} {mg : Str → Option Value} {base : Heap}
def sp_law_time_of (K : PySem.W.Frag) : Sp := fun vs H Q _ => ∃ (r tl : Addr) (hs : List HR) (bs : List BR) (sh : Nat → Int), vs = [.ref r, .ref tl] ∧ RoomAt H r hs bs ∧ RoomOk hs bs ∧ H tl = some (.lst (bs.map fun b => V.int (trS sh b))) ∧
  ∀ (T : Int) (H' : Hp), 0 ≤ T → (∀ T', 0 ≤ T' → (∀ k x, Vl hs bs sh k x → x ≤ T') → T ≤ T') → T ≤ 7230 → Same H H' → Q (.int T) H'
theorem ok_law_time_of {f : Addr} {fd : FuncData} (F : Fun K "_law_time_of" "_law_time_of" s_law_time_of f fd) (T : Top K mg) : FnOk P w K mg base CX0 1 f fd ["_law_room_here", "_law_trays"] (sp_law_time_of K) := by
  refine F.ok sc_law_time_of (fun vs H Q E h => ?_) (fun cdv A outer s H vs Q E hr h => ?_)
  · obtain ⟨r, tl, hs, bs, sh, rfl, _⟩ := h
    rfl
  obtain ⟨r, tl, hs, bs, sh, rfl, hR, ok, htl, q⟩ := h
  obtain ⟨ha, ba, hv, bv, er, eh, eb, alh, alb⟩ := hR.ex
  have lhv := alh.length
  have lbv := alb.length
  have lh := ok.hands
  have lbm := ok.many
  have mom30 : ∀ k, momH hs k ≤ 30 := fun k => by
    unfold momH
    cases e : hs[k]? with
    | none => decide
    | some h => exact (ok.good h (List.mem_of_getElem? e)).2.2
  refine ⟨_, (pss_cons (ps_asg (pv 0) (pg_tupK K rfl rfl (pgs_cons (pg_name (i := 2) sc_law_time_of.nd rfl (Or.inl rfl)) (pgs_cons (pg_name (i := 3) sc_law_time_of.nd rfl (Or.inl rfl)) pgs_nil))))
      (pss_cons (ps_setLc (i := 4) (own := [("_law_hand", 5)]) (g := gName 5) (tt := tYes) (by rfl) sc_law_time_of.nd rfl rfl (sw_true rfl rfl rfl (by decide +kernel)) (pi_tupK K rfl (pv 2)) (blkOk_by (own := [("_law_hand", 5)]) (N := N_law_time_of) (sc := defScope s_law_time_of) (by decide +kernel)) (fun _ _ _ _ _ => (pg_name (i := 5) sc_law_time_of.nd rfl (Or.inl rfl))) (fun _ _ _ _ _ => pts_nil) (fun _ _ _ _ _ => (pe_ix (ix_tupK K rfl) (pv 5) pe_int (fun _ _ => rfl))))
      (pss_cons (ps_for PassesOwn.never rfl (pi_range1 (by rfl) T.m_range (pa_cons (pe_callB (call_len_seqK K rfl) (by rfl) T.m_len (by decide +kernel) (pa_cons (pv 2) pa_nil)) pa_nil)) (pg_name (i := 6) sc_law_time_of.nd rfl (Or.inl rfl))
        (pss_one (ps_for PassesOwn.never rfl (pi_zipTL K rfl (by rfl) T.m_zip (pa_cons (pv 3) (pa_cons (pv 1) pa_nil))) (pg_tupK K rfl rfl (pgs_cons (pg_name (i := 7) sc_law_time_of.nd rfl (Or.inl rfl)) (pgs_cons (pg_name (i := 8) sc_law_time_of.nd rfl (Or.inl rfl)) pgs_nil)))
        (pss_one (ps_if (pt_cmpR op_eq (pv 8) pe_int (nomark _)) (pss_one (ps_asg (pe_callB (call_max2 rfl) (by rfl) T.m_max (by decide +kernel) (pa_cons (pe_ix (ix_listK K rfl) (pv 4) (pe_ix (ix_tupK K rfl) (pv 7) pe_int (fun _ _ => rfl)) (fun _ _ => rfl)) (pa_cons (pe_op op_add (pe_ix (ix_listK K rfl) (pv 4) (pe_ix (ix_tupK K rfl) (pv 7) pe_int (fun _ _ => rfl)) (fun _ _ => rfl)) (pe_ix (ix_tupK K rfl) (pe_ix (ix_tupK K rfl) (pv 2) (pe_ix (ix_tupK K rfl) (pv 7) pe_int (fun _ _ => rfl)) (fun _ _ => rfl)) pe_int (fun _ _ => rfl))) pa_nil))) (pg_sub (pv 4) (pe_ix (ix_tupK K rfl) (pv 7) pe_int (fun _ _ => rfl)) set_list))) pss_nil)))))
      (pss_one (ps_ret (pe_callB (cr_maxKK K rfl rfl) (by rfl) T.m_max (by decide +kernel) (pa_cons (pe_op op_cat (pe_lst (pa_cons pe_int pa_nil)) (pv 4)) pa_nil))))))), ?_⟩
  refine ⟨_, rfl, r, _, rfl, SqT.of er, rfl, _, _, rfl, _, _, rfl, rfl, ?_⟩
  refine ⟨_, rfl, ha, rfl, ⟨_, SqT.of eh⟩, fun D nD => lc_tup (K := K) (a := ha) (xs := hv) (fun i H5 => H5 D = some (.lst ((List.range i).map fun k => V.int (momH hs k))) ∧ Same H H5) ⟨upd_same, same_new nD⟩ (fun i H5 _ ⟨_, s5⟩ => SqT.of (s5 _ _ eh)) ?_ ?_⟩
  · rintro i x H5 hx ⟨hD, s5⟩
    obtain ⟨h, ehi, ⟨t, rr, rfl, e1, e2⟩⟩ := alh.getL hx
    have il := (List.getElem?_eq_some_iff.mp ehi).1
    have mom : momH hs i = h.mom := by unfold momH; rw [ehi]
    refine ⟨rfl, yes_in ⟨_, rfl, t, _, _, _, rfl, rfl, SqT.of (s5 _ _ e1), atI_nat (j := 1) rfl, _, hD, by rw [List.length_map, List.length_range]; exact small1000 (by omega), ?_, Same.own s5 nD⟩⟩
    rw [upd_same, List.range_succ, List.map_append, List.map_cons, List.map_nil, mom]
  rintro H1 ⟨hD, s1⟩
  have AT : ∀ (tf : Nat → Int) (j : Nat), j < hs.length → ((List.range hs.length).map fun k => V.int (tf k))[j]? = some (V.int (tf j)) := fun tf j hj => by
    rw [List.getElem?_map, List.getElem?_range hj]; rfl
  have tlD : tl ≠ D := ne_of_none htl nD
  rw [lhv] at hD
  refine ⟨_, rfl, ha, _, rfl, .inr (SqT.of (s1 _ _ eh)), _, rfl, by omega, by omega, for_range (lo := 0) (n := hv.length) (fun i σ H2 => ∃ (v5 v6 v7 v8 : Option V) (tf : Nat → Int), σ = [some (.ref r), some (.ref tl), some (.ref ha), some (.ref ba), some (.ref D), v5, v6, v7, v8] ∧ H2 D = some (.lst (levL hs.length tf)) ∧ (∀ k, k < hs.length → Vl hs bs sh k (tf k) ∧ tf k ≤ 30 * (1 + 20 * ((i : Nat) : Int))) ∧ Same H H2)
    ⟨_, _, _, _, _, rfl, hD, fun k hk => ⟨Vl.nil hk, by have := mom30 k; omega⟩, s1⟩ ?_ ?_⟩
  · rintro i σ H2 hi ⟨v5, v6, v7, v8, tf, rfl, hD, hv0, s⟩
    refine ⟨_, rfl, _, rfl, ba, tl, bv, _, rfl, SqT.of (s _ _ eb), SqL.of (s _ _ htl), for_it (n := bs.length) (fun j σ H3 => ∃ (v5 v6 v7 v8 : Option V) (tf : Nat → Int), σ = [some (.ref r), some (.ref tl), some (.ref ha), some (.ref ba), some (.ref D), v5, v6, v7, v8] ∧ H3 D = some (.lst (levL hs.length tf)) ∧ (∀ k, k < hs.length → Vl hs bs sh k (tf k) ∧ tf k ≤ 30 * (1 + 20 * ((i : Nat) : Int) + ((j : Nat) : Int))) ∧ Same H H3)
      ⟨_, _, _, _, tf, rfl, hD, fun k hk => ⟨(hv0 k hk).1, by have := (hv0 k hk).2; omega⟩, s⟩ (fun j σ H3 hj ⟨_, _, _, _, _, _, _, _, s⟩ => ⟨SqT.of (s _ _ eb), SqL.of (s _ _ htl), by omega, by rw [List.length_map]; exact hj⟩) (fun σ H3 ⟨_, _, _, _, _, _, _, _, s⟩ => ⟨SqT.of (s _ _ eb), SqL.of (s _ _ htl), by omega, by rw [List.length_map]; exact Nat.le_refl _, .inl (by omega)⟩) ?_ ?_⟩
    · rintro j x σ H3 H4 hj ⟨v5, v6, v7, v8, tf, rfl, hD, hv1, s⟩ ⟨T, x1, y1, rfl, nT, rfl, hx1, hy1⟩
      obtain ⟨b, ebj, ⟨t2, g, rfl, e1, e2⟩⟩ := alb.getL hx1
      have hb := List.mem_of_getElem? ebj
      have ob := (ok.ends b hb).1
      have tb := (ok.ends b hb).2
      obtain rfl : y1 = V.int (trS sh b) := by
        rw [List.getElem?_map, ebj] at hy1
        exact (Option.some.inj hy1).symm
      have s4 := s.trans (same_new (o := .tup [V.ref t2, V.int (trS sh b)]) nT)
      have hD4 := same_new (o := .tup [V.ref t2, V.int (trS sh b)]) nT _ _ hD
      refine ⟨T, _, rfl, SqT.of upd_same, rfl, _, _, rfl, _, _, rfl, rfl, _, rfl, rfl, _, rfl, if_bl (fun c => ?_) (fun c => ?_)⟩
      · have c : trS sh b = 0 := V.int.inj (of_decide_eq_true c)
        have eht : hs[b.to]? = some hs[b.to] := List.getElem?_eq_getElem tb
        have mom2 : momH hs b.to = hs[b.to].mom := by unfold momH; rw [eht]
        obtain ⟨x3, ex3, ⟨t3, r3, rfl, e31, e32⟩⟩ := alh.get eht
        refine ⟨_, rfl, _, rfl, t2, _, _, _, rfl, rfl, SqT.of (s4 _ _ e1), atI_nat (j := 1) rfl, D, _, _, _, rfl, rfl, SqL.of hD4, atI_nat (AT tf b.to tb), ?_⟩
        refine ⟨_, rfl, _, rfl, t2, _, _, _, rfl, rfl, SqT.of (s4 _ _ e1), atI_nat (j := 0) rfl, D, _, _, _, rfl, rfl, SqL.of hD4, atI_nat (AT tf b.one ob), ?_⟩
        refine ⟨_, rfl, _, rfl, t2, _, _, _, rfl, rfl, SqT.of (s4 _ _ e1), atI_nat (j := 1) rfl, ha, _, _, _, rfl, rfl, SqT.of (s4 _ _ eh), atI_nat ex3, t3, _, _, _, rfl, rfl, SqT.of (s4 _ _ e31), atI_nat (j := 1) rfl, _, _, rfl, rfl, ?_⟩
        refine ⟨_, _, rfl, ?_⟩
        refine ⟨_, rfl, _, rfl, t2, _, _, _, rfl, rfl, SqT.of (s4 _ _ e1), atI_nat (j := 1) rfl, D, _, _, b.to, rfl, rfl, hD4, ixN_nat (by rw [List.length_map, List.length_range]; exact tb), ?_⟩
        refine ⟨_, _, _, _, _, rfl, by rw [upd_same, lev_set tb], fun k hk => ?_, Same.own s4 nD⟩
        by_cases e : k = b.to
        · rw [if_pos e, e]
          have g1 := hv1 _ tb
          have g2 := Vl.go hb c (hv1 _ ob).1
          have g3 := (hv1 _ ob).2
          have g4 := mom30 b.to
          rw [mom2] at g2 g4
          show Vl hs bs sh b.to (if _ then _ else _) ∧ (if _ then _ else _) ≤ _
          split
          · exact ⟨g2, Int.le_trans (Int.add_le_add g3 g4) (by omega)⟩
          · exact ⟨g1.1, by have := g1.2; omega⟩
        · rw [if_neg e]
          exact ⟨(hv1 k hk).1, by have := (hv1 k hk).2; omega⟩
      · exact ⟨_, _, _, _, tf, rfl, hD4, fun k hk => ⟨(hv1 k hk).1, by have := (hv1 k hk).2; omega⟩, s4⟩
    · rintro σ H3 ⟨v5, v6, v7, v8, tf, rfl, hD, hv1, s⟩
      exact ⟨_, _, _, _, tf, rfl, hD, fun k hk => ⟨(hv1 k hk).1, by have := (hv1 k hk).2; omega⟩, s⟩
  · rintro σ H2 ⟨v5, v6, v7, v8, tf, rfl, hD, hv1, s⟩
    refine ⟨(by show 1 ≤ sizeLine; decide), fun l nl => ?_⟩
    have s3 := s.trans (same_new (o := .lst [V.int 0]) nl)
    have hD3 := same_new (o := .lst [V.int 0]) nl _ _ hD
    refine ⟨_, rfl, l, D, _, _, rfl, rfl, upd_same, hD3, by show 1 + ((List.range hs.length).map fun k => V.int (tf k)).length ≤ sizeLine; rw [List.length_map, List.length_range]; exact little (by omega), fun p np => ?_⟩
    refine ⟨p, 0 :: (List.range hs.length).map tf, rfl, SqL.of ?_, by simp, fun m hm hle => ?_⟩
    · rw [upd_same, List.map_cons, List.map_map]
      rfl
    · refine q m _ (hle 0 (List.mem_cons_self ..)) ?_ ?_ (s3.trans (same_new np))
      · intro T' T0 vl
        rcases List.mem_cons.mp hm with rfl | hm
        · exact T0
        · obtain ⟨k, hk, rfl⟩ := List.mem_map.mp hm
          exact vl k _ (hv1 k (List.mem_range.mp hk)).1
      · rcases List.mem_cons.mp hm with rfl | hm
        · decide
        · obtain ⟨k, hk, rfl⟩ := List.mem_map.mp hm
          have := (hv1 k (List.mem_range.mp hk)).2
          omega
end
theorem way_belts {bs : List BR} : ∀ {ns : List Nat} {k e : Nat}, wayEnd bs k ns = some e → ∀ n ∈ ns, n < bs.length
  | m :: ns, k, e, h, n, hn => by
    cases eb : bs[m]? with
    | none =>
      have : wayEnd bs k (m :: ns) = none := by
        show (match bs[m]? with | some b => if b.one = k then wayEnd bs b.to ns else none | none => none) = none
        rw [eb]
      rw [this] at h; cases h
    | some b =>
      rw [wayEnd_cons eb] at h
      by_cases z : b.one = k
      · rw [if_pos z] at h
        rcases List.mem_cons.mp hn with rfl | hn
        · exact (List.getElem?_eq_some_iff.mp eb).1
        · exact way_belts h n hn
      · rw [if_neg z] at h; cases h
theorem PrAt.rg {H : Hp} : ∀ {pv : List V} {ws : List Wy}, All2 (PrAt H) pv ws → All2 (RgAt H) pv (ws.map fun y => (y.one, y.ns))
  | _, _, .nil => .nil
  | _, _, .cons h t => .cons h (PrAt.rg t)
theorem whB_nil {hs : List HR} {bs : List BR} {late : Option Nat} {T m : Int} : whB hs bs late T m [] = false := by
  unfold whB
  rw [openT_nil]
def S42 (a : Addr) (m n : Nat) (σ : L2.St) (H : Hp) : Prop := ∃ (f c wl r wp : Addr) (hs : List HR) (bs : List BR) (l : Nat) (T : Int) (ch : Nat) (td : Bool) (w1 w2 : Int) (qv : List V) (ws : List Wq) (v10 v11 : Option V), σ = [some (.ref a), some (.ref f), some (nV ch), some (.ref wl), some (.bl td), some (.ref r), some (nV l), some (.int T), none, some (.ref wp), v10, v11, none, none, none, none] ∧ ch ≤ 2 ∧ H wl = some (.lst [.int w1, .int w2]) ∧ wl ≠ f ∧ Flow H f c ∧ RoomAt H r hs bs ∧ RoomOk hs bs ∧ 0 < hs.length ∧ H wp = some (.tup qv) ∧ All2 (RgAt H) qv ws ∧ ws.length ≤ m ∧ ∀ x ∈ ws, WkN hs bs n x
section
variable {P : Program} {w : World} {K : PySem.W.Frag} {mg : Str → Option Value} {base : Heap}
def sp_law_whole (K : PySem.W.Frag) : Sp := fun vs H Q _ => ∃ n : Int, vs = [.int n] ∧ Q (.bl true) H
theorem ok_law_whole {f : Addr} {fd : FuncData} (F : Fun K "_law_whole" "_law_whole" s_law_whole f fd) (T : Top K mg) : FnOk P w K mg base CX0 1 f fd ["_law_thing_here"] (sp_law_whole K) := by
  refine F.ok sc_law_whole (fun vs H Q E h => ?_) (fun cdv A outer s H vs Q E hr h => ?_)
  · obtain ⟨n, rfl, _⟩ := h
    rfl
  obtain ⟨n, rfl, q⟩ := h
  refine ⟨_, (pss_one (ps_ret (pe_and (pe_callB (call_isiKK K rfl) (by rfl) T.m_isinstance (by decide +kernel) (pa_cons (pv 0) (pa_cons (pe_bltn (v := .ty "int") (by rfl) T.m_int (by decide +kernel) rfl) pa_nil))) (pe_one (pe_not (pe_callB (call_isiKK K rfl) (by rfl) T.m_isinstance (by decide +kernel) (pa_cons (pv 0) (pa_cons (pe_bltn (v := .ty "bool") (by rfl) T.m_bool (by decide +kernel) rfl) pa_nil)))))))), ?_⟩
  refine ⟨_, rfl, _, _, _, _, true, rfl, .ty "int", .base (.int _), kit_ty (by decide +kernel), _, rfl, if_bl (fun _ => ?_) (fun z => nomatch z)⟩
  exact ⟨_, rfl, _, _, _, _, false, rfl, .ty "bool", .base (.int _), kit_ty (by decide +kernel), _, rfl, q⟩
def sp_law_is_walk (K : PySem.W.Frag) : Sp := fun vs H Q _ => ∃ (r wp : Addr) (hs : List HR) (bs : List BR) (qv : List V) (ws : List Wy), vs = [.ref r, .ref wp] ∧ RoomAt H r hs bs ∧ RoomOk hs bs ∧ H wp = some (.tup qv) ∧ All2 (PrAt H) qv ws ∧ (∀ y ∈ ws, WyOk hs bs y) ∧ ∀ H', Same H H' → Q (.bl true) H'
theorem ok_law_is_walk {f : Addr} {fd : FuncData} (F : Fun K "_law_is_walk" "_law_is_walk" s_law_is_walk f fd) (T : Top K mg) : FnOk P w K mg base CX0 2 f fd ["_law_room_here", "_law_walk"] (sp_law_is_walk K) := by
  obtain ⟨f_law_whole, fd_law_whole, F_law_whole, b_law_whole, m_law_whole⟩ := T.d_law_whole
  have G_law_whole := ok_law_whole (P := P) (w := w) (base := base) F_law_whole T
  refine F.ok sc_law_is_walk (fun vs H Q E h => ?_) (fun cdv A outer s H vs Q E hr h => ?_)
  · obtain ⟨r, wp, hs, bs, qv, ws, rfl, _⟩ := h
    rfl
  obtain ⟨r, wp, hs, bs, qv, ws, rfl, hR, ok, hw, alp, wok, q⟩ := h
  obtain ⟨ha, ba, hv, bv, er, eh, eb, alh, alb⟩ := hR.ex
  have lqv := alp.length
  have lhv := alh.length
  have lbv := alb.length
  have lh := ok.hands
  refine ⟨_, (pss_cons (ps_if (pt_not (pt_val (pe_callB (call_isiKK K rfl) (by rfl) T.m_isinstance (by decide +kernel) (pa_cons (pv 1) (pa_cons (pe_bltn (v := .ty "tuple") (by rfl) T.m_tuple (by decide +kernel) rfl) pa_nil))))) (pss_one (ps_ret pe_bl)) pss_nil)
      (pss_cons (ps_for PassesOwn.never rfl (pi_tupK K rfl (pv 1)) (pg_name (i := 2) sc_law_is_walk.nd rfl (Or.inl rfl))
        (pss_cons (ps_if (PW.pt (pw_or (pt_not (pt_val (pe_callB (call_isiKK K rfl) (by rfl) T.m_isinstance (by decide +kernel) (pa_cons (pv 2) (pa_cons (pe_bltn (v := .ty "tuple") (by rfl) T.m_tuple (by decide +kernel) rfl) pa_nil))))) (pw_or1 (pt_cmpR op_ne (pe_callB (call_len_seqK K rfl) (by rfl) T.m_len (by decide +kernel) (pa_cons (pv 2) pa_nil)) pe_int (nomark _))))) (pss_one (ps_ret pe_bl)) pss_nil)
      (pss_cons (ps_if (PW.pt (pw_or (pt_not (pt_val (pe_callB (call_isiKK K rfl) (by rfl) T.m_isinstance (by decide +kernel) (pa_cons (pe_ix (ix_tupK K rfl) (pv 2) pe_int (fun _ _ => rfl)) (pa_cons (pe_bltn (v := .ty "tuple") (by rfl) T.m_tuple (by decide +kernel) rfl) pa_nil))))) (pw_or (pt_not (pt_val (pe_call G_law_whole (hr.mono (by decide)) (by rfl) m_law_whole F_law_whole.kp b_law_whole .nil pass0 (pa_cons (pe_ix (ix_tupK K rfl) (pv 2) pe_int (fun _ _ => rfl)) pa_nil)))) (pw_or1 (pt_not (pt_chain op_le op_lt pe_int (pe_ix (ix_tupK K rfl) (pv 2) pe_int (fun _ _ => rfl)) (pe_callB (call_len_seqK K rfl) (by rfl) T.m_len (by decide +kernel) (pa_cons (pe_ix (ix_tupK K rfl) (pv 0) pe_int (fun _ _ => rfl)) pa_nil)))))))) (pss_one (ps_ret pe_bl)) pss_nil)
      (pss_one (ps_if (pt_not (pt_val (pe_callB (cr_allK K rfl rfl) (by rfl) T.m_all (by decide +kernel) (pa_cons (pe_lc (own := [("_law_b", 3)]) (g := gName 3) (tt := tYes) (by rfl) sc_law_is_walk.nd (pi_tupK K rfl (pe_ix (ix_tupK K rfl) (pv 2) pe_int (fun _ _ => rfl))) (blkOk_by (own := [("_law_b", 3)]) (N := N_law_is_walk) (sc := defScope s_law_is_walk) (by decide +kernel)) (fun _ _ _ _ _ => (pg_name (i := 3) sc_law_is_walk.nd rfl (Or.inl rfl))) (fun _ _ _ _ _ => pts_nil) (fun _ _ _ _ _ => (pe_and (pe_call G_law_whole (hr.mono (by decide)) (by rfl) m_law_whole F_law_whole.kp b_law_whole .nil pass0 (pa_cons (pv 3) pa_nil)) (pe_one (pe_chain op_le op_lt pe_int (pv 3) (pe_callB (call_len_seqK K rfl) (by rfl) T.m_len (by decide +kernel) (pa_cons (pe_ix (ix_tupK K rfl) (pv 0) pe_int (fun _ _ => rfl)) pa_nil))))))) pa_nil)))) (pss_one (ps_ret pe_bl)) pss_nil)))))
      (pss_one (ps_ret pe_bl)))), ?_⟩
  refine ⟨_, rfl, _, _, _, _, true, rfl, .ty "tuple", .base (.tup hw), kit_ty (by decide +kernel), _, rfl, if_bl (fun z => nomatch z) (fun _ => ?_)⟩
  refine ⟨_, rfl, wp, rfl, ⟨_, SqT.of hw⟩, for_tup (K := K) (a := wp) (xs := qv) (fun i σ H2 => ∃ (v2 v3 : Option V), σ = [some (.ref r), some (.ref wp), v2, v3] ∧ Same H H2) ⟨_, _, rfl, fun _ _ z => z⟩ (fun i σ H2 _ ⟨_, _, _, s2⟩ => SqT.of (s2 _ _ hw)) ?_ ?_⟩
  · rintro i x σ H2 hx ⟨v2, v3, rfl, s2⟩
    obtain ⟨y, ey, ⟨p, rfl, ⟨g, ep, eg⟩⟩⟩ := alp.getL hx
    have yo := wok y (List.mem_of_getElem? ey)
    have ly := yo.ln
    have ep2 := s2 _ _ ep
    have eg2 := s2 _ _ eg
    refine ⟨_, rfl, _, _, _, _, true, rfl, .ty "tuple", .base (.tup ep2), kit_ty (by decide +kernel), _, rfl, if_bl (fun z => nomatch z) (fun _ => ?_)⟩
    refine ⟨_, rfl, p, _, rfl, .inr (SqT.of ep2), rfl, _, rfl, if_bl (fun z => nomatch z) (fun _ => ?_)⟩
    refine ⟨_, rfl, p, _, _, _, rfl, rfl, SqT.of ep2, atI_nat (j := 1) rfl, _, _, _, _, true, rfl, .ty "tuple", .base (.tup eg2), kit_ty (by decide +kernel), _, rfl, if_bl (fun z => nomatch z) (fun _ => ?_)⟩
    refine ⟨_, rfl, p, _, _, _, rfl, rfl, SqT.of ep2, atI_nat (j := 0) rfl, _, rfl, _, rfl, if_bl (fun z => nomatch z) (fun _ => ?_)⟩
    have lo : (0 : Int) ≤ ((y.one : Nat) : Int) := by omega
    have hi : ((y.one : Nat) : Int) < ((hv.length : Nat) : Int) := by have := yo.lt; omega
    refine ⟨_, rfl, p, _, _, _, rfl, rfl, SqT.of ep2, atI_nat (j := 0) rfl, _, _, rfl, rfl, _, rfl, if_bl (fun _ => ?_) (fun z => absurd lo (of_decide_eq_false z))⟩
    refine ⟨_, rfl, r, _, _, _, rfl, rfl, SqT.of (s2 _ _ er), atI_nat (j := 0) rfl, ha, _, rfl, .inr (SqT.of (s2 _ _ eh)), _, _, rfl, rfl, _, rfl, ?_⟩
    rw [decide_eq_true hi]
    refine if_bl (fun z => nomatch z) (fun _ => ?_)
    refine ⟨_, rfl, p, _, _, _, rfl, rfl, SqT.of ep2, atI_nat (j := 1) rfl, g, rfl, ⟨_, SqT.of eg2⟩, fun D nD => lc_tup (K := K) (a := g) (xs := y.ns.map nV) (fun j H5 => H5 D = some (.lst ((List.replicate j true).map V.bl)) ∧ Same H2 H5) ⟨upd_same, same_new nD⟩ (fun j H5 _ ⟨_, s5⟩ => SqT.of (s5 _ _ eg2)) ?_ ?_⟩
    · rintro j x H5 hx ⟨hD, s5⟩
      obtain ⟨n, en, rfl⟩ := nats_at hx
      have jl := (List.getElem?_eq_some_iff.mp en).1
      have nl := way_belts yo.we n (List.mem_of_getElem? en)
      have s25 := s2.trans s5
      refine ⟨rfl, yes_in ⟨_, rfl, _, rfl, _, rfl, if_bl (fun _ => ?_) (fun z => nomatch z)⟩⟩
      refine ⟨_, rfl, _, _, rfl, rfl, _, rfl, if_bl (fun _ => ?_) (fun z => absurd (show (0 : Int) ≤ ((n : Nat) : Int) by omega) (of_decide_eq_false z))⟩
      refine ⟨_, rfl, r, _, _, _, rfl, rfl, SqT.of (s25 _ _ er), atI_nat (j := 1) rfl, ba, _, rfl, .inr (SqT.of (s25 _ _ eb)), _, _, rfl, rfl, _, hD, by rw [List.length_map, List.length_replicate]; exact small1000 (by omega), ?_, Same.own s5 nD⟩
      rw [upd_same, List.replicate_succ', List.map_append]
      show some (HO.lst (_ ++ [V.bl (decide (((n : Nat) : Int) < ((bv.length : Nat) : Int)))])) = _
      rw [decide_eq_true (show ((n : Nat) : Int) < ((bv.length : Nat) : Int) by omega)]
      rfl
    · rintro H5 ⟨hD, s5⟩
      refine ⟨D, _, rfl, SqL.of hD, _, rfl, ?_⟩
      rw [show (List.replicate (y.ns.map nV).length true).all id = true by rw [List.all_eq_true]; intro x hx; rw [List.eq_of_mem_replicate hx]; rfl]
      exact if_bl (fun z => nomatch z) (fun _ => ⟨_, _, rfl, s2.trans s5⟩)
  · rintro σ H2 ⟨v2, v3, rfl, s2⟩
    exact q _ s2
def sp_law (K : PySem.W.Frag) : Sp := fun vs H Q _ => ∃ (a : Addr) (ns : List Int), vs = [.ref a] ∧ SqL K H a (ns.map V.int) ∧ ns.length ≤ 63 ∧ ∀ H', Q (.bl true) H'
theorem ok_law {f : Addr} {fd : FuncData} (F : Fun K "law" "law" s_law f fd) (T : Top K mg) : FnOk P w K mg base CX0 6 f fd ["_law_script"] (sp_law K) := by
  obtain ⟨f_law_flow, fd_law_flow, F_law_flow, b_law_flow, m_law_flow⟩ := T.d_law_flow
  have G_law_flow := ok_law_flow (P := P) (w := w) (base := base) F_law_flow T
  obtain ⟨f_law_room, fd_law_room, F_law_room, b_law_room, m_law_room⟩ := T.d_law_room
  have G_law_room := ok_law_room (P := P) (w := w) (base := base) F_law_room T
  obtain ⟨f_law_pick, fd_law_pick, F_law_pick, b_law_pick, m_law_pick⟩ := T.d_law_pick
  have G_law_pick := ok_law_pick (P := P) (w := w) (base := base) F_law_pick T
  obtain ⟨f_law_open_walk, fd_law_open_walk, F_law_open_walk, b_law_open_walk, m_law_open_walk⟩ := T.d_law_open_walk
  have G_law_open_walk := ok_law_open_walk (P := P) (w := w) (base := base) F_law_open_walk T
  obtain ⟨f_law_walk_trays, fd_law_walk_trays, F_law_walk_trays, b_law_walk_trays, m_law_walk_trays⟩ := T.d_law_walk_trays
  have G_law_walk_trays := ok_law_walk_trays (P := P) (w := w) (base := base) F_law_walk_trays T
  obtain ⟨f_soonest, fd_soonest, F_soonest, b_soonest, m_soonest⟩ := T.d_soonest
  have G_soonest := ok_soonest (P := P) (w := w) (base := base) F_soonest T
  obtain ⟨f_law_spoilt_walk, fd_law_spoilt_walk, F_law_spoilt_walk, b_law_spoilt_walk, m_law_spoilt_walk⟩ := T.d_law_spoilt_walk
  have G_law_spoilt_walk := ok_law_spoilt_walk (P := P) (w := w) (base := base) F_law_spoilt_walk T
  obtain ⟨f_walk_holds, fd_walk_holds, F_walk_holds, b_walk_holds, m_walk_holds⟩ := T.d_walk_holds
  have G_walk_holds := ok_walk_holds (P := P) (w := w) (base := base) F_walk_holds T
  obtain ⟨f_law_time_of, fd_law_time_of, F_law_time_of, b_law_time_of, m_law_time_of⟩ := T.d_law_time_of
  have G_law_time_of := ok_law_time_of (P := P) (w := w) (base := base) F_law_time_of T
  obtain ⟨f_law_is_walk, fd_law_is_walk, F_law_is_walk, b_law_is_walk, m_law_is_walk⟩ := T.d_law_is_walk
  have G_law_is_walk := ok_law_is_walk (P := P) (w := w) (base := base) F_law_is_walk T
  obtain ⟨f_law_heavies, fd_law_heavies, F_law_heavies, b_law_heavies, m_law_heavies⟩ := T.d_law_heavies
  have G_law_heavies := ok_law_heavies (P := P) (w := w) (base := base) F_law_heavies T
  obtain ⟨f_law_due, fd_law_due, F_law_due, b_law_due, m_law_due⟩ := T.d_law_due
  have G_law_due := ok_law_due (P := P) (w := w) (base := base) F_law_due T
  refine F.ok sc_law (fun vs H Q E h => ?_) (fun cdv A outer s H vs Q E hr h => ?_)
  · obtain ⟨a, ns, rfl, _⟩ := h
    rfl
  obtain ⟨a, ns, rfl, hS, hlen, q⟩ := h
  let R1 : TS := fun D' σ' H' => D'.rt = Q ∧ S42 a 15 12 σ' H'
  let R2 : TS := fun D' σ' H' => D'.rt = Q ∧ S42 a 15 12 σ' H'
  let R3 : TS := fun D' σ' H' => D'.rt = Q ∧ S42 a 17 48 σ' H'
  let R4 : TS := fun D' σ' H' => D'.rt = Q ∧ ∃ (f c r wp : Addr) (hs : List HR) (bs : List BR) (l : Nat) (T mo : Int) (qv : List V) (ws : List Wq) (v2 v3 v4 v10 v11 v12 v14 v15 : Option V), σ' = [some (.ref a), some (.ref f), v2, v3, v4, some (.ref r), some (nV l), some (.int T), none, some (.ref wp), v10, v11, v12, some (.int mo), v14, v15] ∧ Flow H' f c ∧ RoomAt H' r hs bs ∧ RoomOk hs bs ∧ H' wp = some (.tup qv) ∧ All2 (RgAt H') qv ws ∧ ws.length ≤ 60 ∧ (∀ x ∈ ws, WkOk hs bs x)
  let R5 : TS := fun D' σ' H' => D'.rt = Q ∧ ∃ (r wp : Addr) (hs : List HR) (bs : List BR) (l : Nat) (T : Int) (v1 v2 v3 v4 v10 v11 v12 v13 v14 v15 : Option V), σ' = [some (.ref a), v1, v2, v3, v4, some (.ref r), some (nV l), some (.int T), none, some (.ref wp), v10, v11, v12, v13, v14, v15] ∧ RoomAt H' r hs bs ∧ RoomOk hs bs
  refine ⟨_, (pss_cons (ps_set (i := 1) sc_law.nd rfl (Or.inl rfl) (pe_call G_law_flow (hr.mono (by decide)) (by rfl) m_law_flow F_law_flow.kp b_law_flow .nil pass0 (pa_cons (pv 0) pa_nil)))
      (pss_cons (ps_set (i := 2) sc_law.nd rfl (Or.inl rfl) (pe_ix (ix_listK K rfl) (pe_lst (pa_cons pe_int (pa_cons pe_int (pa_cons pe_int (pa_cons pe_int (pa_cons pe_int pa_nil)))))) (pe_call G_law_pick (hr.mono (by decide)) (by rfl) m_law_pick F_law_pick.kp b_law_pick .nil pass0 (pa_cons (pv 1) (pa_cons pe_int pa_nil))) (fun _ _ => rfl)))
      (pss_cons (ps_set (i := 3) sc_law.nd rfl (Or.inl rfl) (pe_lst (pa_cons (pe_op op_add pe_int (pe_call G_law_pick (hr.mono (by decide)) (by rfl) m_law_pick F_law_pick.kp b_law_pick .nil pass0 (pa_cons (pv 1) (pa_cons pe_int pa_nil)))) (pa_cons (pe_op op_add pe_int (pe_call G_law_pick (hr.mono (by decide)) (by rfl) m_law_pick F_law_pick.kp b_law_pick .nil pass0 (pa_cons (pv 1) (pa_cons pe_int pa_nil)))) pa_nil))))
      (pss_cons (ps_set (i := 4) sc_law.nd rfl (Or.inl rfl) (pe_cmpR op_eq (pe_call G_law_pick (hr.mono (by decide)) (by rfl) m_law_pick F_law_pick.kp b_law_pick .nil pass0 (pa_cons (pv 1) (pa_cons pe_int pa_nil))) pe_int (nomark _)))
      (pss_cons (ps_set (i := 5) sc_law.nd rfl (Or.inl rfl) (pe_call G_law_room (hr.mono (by decide)) (by rfl) m_law_room F_law_room.kp b_law_room .nil pass0 (pa_cons (pv 1) (pa_cons pe_int pa_nil))))
      (pss_cons (ps_set (i := 6) sc_law.nd rfl (Or.inl rfl) (pe_ix (ix_listK K rfl) (pe_lst (pa_cons pe_int (pa_cons pe_int (pa_cons pe_int (pa_cons pe_int (pa_cons pe_int (pa_cons pe_int pa_nil))))))) (pe_call G_law_pick (hr.mono (by decide)) (by rfl) m_law_pick F_law_pick.kp b_law_pick .nil pass0 (pa_cons (pv 1) (pa_cons pe_int pa_nil))) (fun _ _ => rfl)))
      (pss_cons (ps_set (i := 7) sc_law.nd rfl (Or.inl rfl) (pe_call G_law_pick (hr.mono (by decide)) (by rfl) m_law_pick F_law_pick.kp b_law_pick .nil pass0 (pa_cons (pv 1) (pa_cons (pe_op op_add pe_int (pe_call G_law_time_of (hr.mono (by decide)) (by rfl) m_law_time_of F_law_time_of.kp b_law_time_of .nil pass0 (pa_cons (pv 5) (pa_cons (pe_lc (own := [("_law_belt", 8)]) (g := gName 8) (tt := tYes) (by rfl) sc_law.nd (pi_tupK K rfl (pe_ix (ix_tupK K rfl) (pv 5) pe_int (fun _ _ => rfl))) (blkOk_by (own := [("_law_belt", 8)]) (N := N_law) (sc := defScope s_law) (by decide +kernel)) (fun _ _ _ _ _ => (pg_name (i := 8) sc_law.nd rfl (Or.inl rfl))) (fun _ _ _ _ _ => pts_nil) (fun _ _ _ _ _ => (pe_callB (call_len_seqK K rfl) (by rfl) T.m_len (by decide +kernel) (pa_cons (pe_ix (ix_tupK K rfl) (pv 8) pe_int (fun _ _ => rfl)) pa_nil)))) pa_nil)))) pa_nil))))
      (pss_cons (ps_set (i := 9) sc_law.nd rfl (Or.inl rfl) (pe_call G_law_open_walk (hr.mono (by decide)) (by rfl) m_law_open_walk F_law_open_walk.kp b_law_open_walk .nil pass0 (pa_cons (pv 1) (pa_cons (pv 5) pa_nil))))
      (PSs.to (pss_cons (ps_if (pt_truthK K rfl (pv 4) (by intro _; rfl)) (pss_cons (ps_set (i := 10) sc_law.nd rfl (Or.inl rfl) (pe_call G_soonest (hr.mono (by decide)) (by rfl) m_soonest F_soonest.kp b_soonest .nil pass0 (pa_cons (pv 5) (pa_cons (pv 6) (pa_cons (pv 7) pa_nil)))))
      (pss_one (ps_if (PW.pt (pw_and (pt_cmpR op_notN (pv 10) pe_non (nomark _)) (pw_and (pt_cmpR op_notN (pe_ix (ix_tupK K rfl) (pv 10) pe_int (fun _ _ => rfl)) pe_non (nomark _)) (pw_and1 (pt_val (pe_call G_law_is_walk (hr.mono (by decide)) (by rfl) m_law_is_walk F_law_is_walk.kp b_law_is_walk .nil pass0 (pa_cons (pv 5) (pa_cons (pe_ix (ix_tupK K rfl) (pv 10) pe_int (fun _ _ => rfl)) pa_nil)))))))) (pss_one (ps_set (i := 9) sc_law.nd rfl (Or.inl rfl) (pe_ix (ix_tupK K rfl) (pv 10) pe_int (fun _ _ => rfl)))) pss_nil))) pss_nil)
      (PSs.to (pss_cons (ps_for PassesOwn.never rfl (pi_listK K rfl (pe_slice (sl_listK K rfl) (pv 3) po_none (po_some (pv 2)))) (pg_name (i := 11) sc_law.nd rfl (Or.inl rfl))
        (pss_one (ps_set (i := 9) sc_law.nd rfl (Or.inl rfl) (pe_call G_law_spoilt_walk (hr.mono (by decide)) (by rfl) m_law_spoilt_walk F_law_spoilt_walk.kp b_law_spoilt_walk .nil pass0 (pa_cons (pv 1) (pa_cons (pv 11) (pa_cons (pv 5) (pa_cons (pv 9) pa_nil))))))))
      (PSs.to (pss_cons (ps_set (i := 12) sc_law.nd rfl (Or.inl rfl) (pe_call G_law_walk_trays (hr.mono (by decide)) (by rfl) m_law_walk_trays F_law_walk_trays.kp b_law_walk_trays .nil pass0 (pa_cons (pv 5) (pa_cons (pv 6) (pa_cons (pv 9) (pa_cons pe_bl pa_nil))))))
      (pss_cons (ps_set (i := 13) sc_law.nd rfl (Or.inl rfl) pe_int)
      (pss_cons (ps_if (pt_cmpR op_notN (pv 12) pe_non (nomark _)) (pss_one (ps_set (i := 13) sc_law.nd rfl (Or.inl rfl) (pe_callB (call_max2 rfl) (by rfl) T.m_max (by decide +kernel) (pa_cons pe_int (pa_cons (pe_op op_sub (pe_call G_law_heavies (hr.mono (by decide)) (by rfl) m_law_heavies F_law_heavies.kp b_law_heavies .nil pass0 (pa_cons (pv 5) (pa_cons (pv 7) (pa_cons (pv 9) pa_nil)))) (pv 12)) pa_nil))))) pss_nil)
      (PSs.to (pss_cons (ps_for PassesOwn.never rfl (pi_listK K rfl (pe_lst (pa_cons pe_int (pa_cons (pv 13) (pa_cons (pe_op op_add (pv 13) pe_int) (pa_cons (pe_op op_add pe_int (pe_call G_law_pick (hr.mono (by decide)) (by rfl) m_law_pick F_law_pick.kp b_law_pick .nil pass0 (pa_cons (pv 1) (pa_cons pe_int pa_nil)))) (pa_cons (pv 13) pa_nil))))))) (pg_name (i := 14) sc_law.nd rfl (Or.inl rfl))
        (pss_cons (ps_set (i := 15) sc_law.nd rfl (Or.inl rfl) (pe_call G_walk_holds (hr.mono (by decide)) (by rfl) m_walk_holds F_walk_holds.kp b_walk_holds .nil pass0 (pa_cons (pv 5) (pa_cons (pv 6) (pa_cons (pv 7) (pa_cons (pv 14) (pa_cons (pv 9) pa_nil)))))))
      (pss_one (ps_if (PW.pt (pw_or (pt_not (pt_val (pe_callB (call_isiKK K rfl) (by rfl) T.m_isinstance (by decide +kernel) (pa_cons (pv 15) (pa_cons (pe_bltn (v := .ty "bool") (by rfl) T.m_bool (by decide +kernel) rfl) pa_nil))))) (pw_or1 (pt_cmpR op_ne (pv 15) (pe_call G_law_due (hr.mono (by decide)) (by rfl) m_law_due F_law_due.kp b_law_due .nil pass0 (pa_cons (pv 5) (pa_cons (pv 6) (pa_cons (pv 7) (pa_cons (pv 14) (pa_cons (pv 9) pa_nil)))))) (nomark _))))) (pss_one (ps_ret pe_bl)) pss_nil))))
      (PSs.to (pss_one (ps_ret (pe_cmpR op_isB (pe_call G_walk_holds (hr.mono (by decide)) (by rfl) m_walk_holds F_walk_holds.kp b_walk_holds .nil pass0 (pa_cons (pv 5) (pa_cons (pv 6) (pa_cons (pv 7) (pa_cons pe_int (pa_cons (pe_tup pa_nil) pa_nil)))))) pe_bl (nomark _)))) R5 ?tail5)) R4 ?tail4)))) R3 ?tail3)) R2 ?tail2)) R1 ?tail1))))))))), ?_⟩
  case tail5 =>
    rintro D' σ' H1 ⟨eD, r, wp, hs, bs, l, T', v1, v2, v3, v4, v10, v11, v12, v13, v14, v15, rfl, hR, ok⟩
    refine ⟨_, rfl, _, rfl, _, rfl, (by show 0 ≤ sizeLine; decide), fun e ne => ?_⟩
    have t := same_new (o := .tup []) ne
    refine ⟨r, e, hs, bs, some l, T', 1, [], [], rfl, hR.keep (TK.same t), ok.good, (fun b hb => (ok.ends b hb).2), upd_same, .nil, (by decide), (fun _ z => nomatch z), fun H2 s2 => ⟨_, _, rfl, rfl, ?_⟩⟩
    rw [whB_nil, eD]
    exact q H2
  case tail4 =>
    rintro D' σ' H1 ⟨eD, f, c, r, wp, hs, bs, l, T', mo, qv, ws, v2, v3, v4, v10, v11, v12, v14, v15, rfl, F1, hR, ok, hw, alp, lws, wok⟩
    refine ⟨_, rfl, _, rfl, _, _, rfl, rfl, _, rfl, f, c, 4, rfl, by decide, by decide +kernel, F1, fun v H2 v0 v1 F2 B2 => ⟨_, _, rfl, rfl, _, rfl, (by show 5 ≤ sizeLine; decide), fun l1 nl1 => ?_⟩⟩
    have k2 := TK.but F1 B2
    have t1 := same_new (o := .lst ([1, mo, mo + 1, 1 + v, mo].map V.int)) nl1
    have hl : (upd H2 l1 (.lst ([1, mo, mo + 1, 1 + v, mo].map V.int))) l1 = some (.lst ([1, mo, mo + 1, 1 + v, mo].map V.int)) := upd_same
    have k3 := k2.trans (TK.same t1)
    refine ⟨l1, rfl, ⟨_, SqL.of hl⟩, for_list (D := { D' with nx := R5 D' }) (K := K) (a := l1) (xs := [1, mo, mo + 1, 1 + v, mo].map V.int) (fun i σ H5 => ∃ v14 v15 : Option V, σ = [some (.ref a), some (.ref f), v2, v3, v4, some (.ref r), some (nV l), some (.int T'), none, some (.ref wp), v10, v11, v12, some (.int mo), v14, v15] ∧ Same (upd H2 l1 (.lst ([1, mo, mo + 1, 1 + v, mo].map V.int))) H5) ⟨_, _, rfl, Same.refl _⟩ (fun i σ H5 _ ⟨_, _, _, s5⟩ => SqL.of (s5 _ _ hl)) ?_ ?_⟩
    · rintro i x σ H5 hx ⟨v14, v15, rfl, s5⟩
      obtain ⟨o, rfl⟩ : ∃ o : Int, x = .int o := by
        obtain ⟨o, _, e⟩ := List.mem_map.mp (List.mem_of_getElem? hx)
        exact ⟨o, e.symm⟩
      have k5 := k3.trans (TK.same s5)
      refine ⟨_, rfl, _, rfl, _, rfl, _, rfl, _, rfl, r, wp, hs, bs, some l, T', o, qv, ws, rfl, hR.keep k5, ok.good, (fun b hb => (ok.ends b hb).2), k5 _ _ hw, alp.imp fun _ _ z => z.keep k5, lws, wok, fun H6 s6 => ?_⟩
      have k6 := k5.trans (TK.same s6)
      refine ⟨_, rfl, _, _, _, _, true, rfl, .ty "bool", .base (.bl _), kit_ty (by decide +kernel), _, rfl, if_bl (fun z => nomatch z) (fun _ => ?_)⟩
      refine ⟨_, rfl, _, rfl, _, rfl, _, rfl, _, rfl, _, rfl, r, wp, hs, bs, some l, T', o, qv, ws, rfl, hR.keep k6, ok.good, (fun b hb => (ok.ends b hb).2), k6 _ _ hw, alp.imp fun _ _ z => z.keep k6, lws, wok, fun H7 s7 => ?_⟩
      refine ⟨rfl, _, rfl, if_bl (fun z => ?_) (fun _ => ⟨_, _, rfl, (s5.trans s6).trans s7⟩)⟩
      have z : (!decide (V.bl (whB hs bs (some l) T' o ws) = V.bl (whB hs bs (some l) T' o ws))) = true := z
      rw [decide_eq_true rfl] at z
      cases z
    · rintro σ H5 ⟨v14, v15, rfl, s5⟩
      exact ⟨eD, r, wp, hs, bs, l, T', _, v2, v3, v4, v10, v11, v12, _, _, _, rfl, hR.keep (k3.trans (TK.same s5)), ok⟩
  case tail3 =>
    rintro D' σ' H1 ⟨eD, f, c, wl, r, wp, hs, bs, l, T', ch, td, w1, w2, qv, ws, v10, v11, rfl, ch2, hwl, wlf, F1, hR, ok, pos, hw, alp, lws, wok⟩
    have wo : ∀ x ∈ ws, WkOk hs bs x := fun x hx => (wok x hx).ok (by decide)
    refine ⟨_, rfl, _, rfl, _, rfl, r, wp, hs, bs, some l, qv, ws, rfl, hR, ok.good, (fun b hb => (ok.ends b hb).2), hw, alp, by omega, wo, fun H2 s2 => ?_⟩
    have k2 := TK.same s2
    cases eo : openT hs bs (some l) ws with
    | none =>
      exact ⟨_, rfl, rfl, _, rfl, if_bl (fun z => absurd z (by intro z; cases z)) (fun _ => ⟨eD, f, c, r, wp, hs, bs, l, T', 1, qv, ws, _, _, _, _, _, _, _, _, rfl, F1.same s2, hR.keep k2, ok, s2 _ _ hw, alp.imp fun _ _ z => z.keep k2, by omega, wo⟩)⟩
    | some t =>
      refine ⟨_, rfl, rfl, _, rfl, if_bl (fun _ => ?_) (fun z => absurd z (by intro z; cases z))⟩
      refine ⟨_, rfl, _, rfl, _, rfl, r, wp, hs, bs, T', qv, ws, rfl, hR.keep k2, (fun b hb => (ok.ends b hb).2), s2 _ _ hw, alp.imp fun _ _ z => z.keep k2, by omega, wo, fun H3 s3 => ⟨_, rfl, _, _, rfl, rfl, _, _, rfl, ?_⟩⟩
      have s23 := s2.trans s3
      have k3 := TK.same s23
      exact ⟨eD, f, c, r, wp, hs, bs, l, T', _, qv, ws, _, _, _, _, _, _, _, _, rfl, F1.same s23, hR.keep k3, ok, s23 _ _ hw, alp.imp fun _ _ z => z.keep k3, by omega, wo⟩
  case tail2 =>
    rintro D' σ' H1 ⟨eD, f, c, wl, r, wp, hs, bs, l, T', ch, td, w1, w2, qv, ws, v10, v11, rfl, ch2, hwl, wlf, F1, hR, ok, pos, hw, alp, lws, wok⟩
    refine ⟨_, rfl, ?_⟩
    dsimp only [tNoPart]
    refine ⟨_, rfl, _, rfl, wl, _, rfl, SqL.of hwl, fun l1 nl => ?_⟩
    have t1 := same_new (o := .lst (cutV [V.int w1, V.int w2] none (some ((ch : Nat) : Int)))) nl
    have hl : (upd H1 l1 (.lst (cutV [V.int w1, V.int w2] none (some ((ch : Nat) : Int))))) l1 = some (.lst ([V.int w1, V.int w2].take ch)) := by rw [upd_same, cut_take]
    have lf := F1.ne nl
    generalize (upd H1 l1 (.lst (cutV [V.int w1, V.int w2] none (some ((ch : Nat) : Int))))) = H2 at t1 hl ⊢
    have few : ([V.int w1, V.int w2].take ch).length ≤ 2 := by rw [List.length_take]; show min ch 2 ≤ 2; omega
    refine ⟨l1, rfl, ⟨_, SqL.of hl⟩, for_list (D := { D' with nx := R3 D' }) (K := K) (a := l1) (xs := [V.int w1, V.int w2].take ch) (fun i σ H5 => ∃ (wp : Addr) (qv : List V) (ws : List Wq) (v11 : Option V), σ = [some (.ref a), some (.ref f), some (nV ch), some (.ref wl), some (.bl td), some (.ref r), some (nV l), some (.int T'), none, some (.ref wp), v10, v11, none, none, none, none] ∧ Flow H5 f c ∧ But f H2 H5 ∧ H5 wp = some (.tup qv) ∧ All2 (RgAt H5) qv ws ∧ ws.length ≤ 15 + i ∧ ∀ x ∈ ws, WkN hs bs (12 * 2 ^ i) x) ⟨wp, qv, ws, v11, rfl, F1.same t1, But.refl, t1 _ _ hw, alp.imp fun _ _ z => z.keep (TK.same t1), lws, wok⟩ (fun i σ H5 _ ⟨_, _, _, _, _, _, B5, _⟩ => SqL.of (B5 _ _ hl lf)) ?_ ?_⟩
    · rintro i x σ H5 hx ⟨wp, qv, ws, v11, rfl, F5, B5, hw5, al5, l5, wok5⟩
      have il := (List.getElem?_eq_some_iff.mp hx).1
      obtain ⟨o, rfl⟩ : ∃ o : Int, x = .int o := by
        have m := List.mem_of_mem_take (List.mem_of_getElem? hx)
        rcases List.mem_cons.mp m with rfl | m
        · exact ⟨w1, rfl⟩
        · exact ⟨w2, List.mem_singleton.mp m⟩
      have b1 : 1 ≤ 12 * 2 ^ i ∧ 12 * 2 ^ i ≤ 30 := by
        rcases (show i = 0 ∨ i = 1 by omega) with rfl | rfl <;> decide
      refine ⟨_, rfl, _, rfl, _, rfl, _, rfl, f, c, r, wp, hs, bs, o, qv, ws, 12 * 2 ^ i, rfl, F5, hR.keep ((TK.same t1).trans (TK.but (F1.same t1) B5)), ok, pos, hw5, al5, by omega, b1.1, b1.2, wok5, fun p qv' ws' H6 h6 al6 l6 wok6 F6 B6 => ?_⟩
      exact ⟨p, qv', ws', _, rfl, F6, B5.trans B6, h6, al6, by omega, fun x hx => by
        have := wok6 x hx
        rw [show 12 * 2 ^ (i + 1) = 2 * (12 * 2 ^ i) by rw [Nat.pow_succ]; omega]
        exact this⟩
    · rintro σ H5 ⟨wp, qv, ws, v11, rfl, F5, B5, hw5, al5, l5, wok5⟩
      refine ⟨eD, f, c, wl, r, wp, hs, bs, l, T', ch, td, w1, w2, qv, ws, v10, _, rfl, ch2, B5 _ _ (t1 _ _ hwl) wlf, wlf, F5, hR.keep ((TK.same t1).trans (TK.but (F1.same t1) B5)), ok, pos, hw5, al5, by omega, fun x hx => (wok5 x hx).mono ?_⟩
      rcases (show ([V.int w1, V.int w2].take ch).length = 0 ∨ ([V.int w1, V.int w2].take ch).length = 1 ∨ ([V.int w1, V.int w2].take ch).length = 2 by omega) with e | e | e <;> rw [e] <;> decide
  case tail1 =>
    rintro D' σ' H1 ⟨eD, f, c, wl, r, wp, hs, bs, l, T', ch, td, w1, w2, qv, ws, v10, v11, rfl, ch2, hwl, wlf, F1, hR, ok, pos, hw, alp, lws, wok⟩
    refine ⟨_, rfl, _, rfl, if_bl (fun _ => ?_) (fun _ => ?_)⟩
    · have stay : ∀ (x : Option V) (H2 : Hp), Same H1 H2 → R2 D' [some (.ref a), some (.ref f), some (nV ch), some (.ref wl), some (.bl td), some (.ref r), some (nV l), some (.int T'), none, some (.ref wp), x, v11, none, none, none, none] H2 := fun x H2 s2 =>
        ⟨eD, f, c, wl, r, wp, hs, bs, l, T', ch, td, w1, w2, qv, ws, x, v11, rfl, ch2, s2 _ _ hwl, wlf, F1.same s2, hR.keep (TK.same s2), ok, pos, s2 _ _ hw, alp.imp fun _ _ z => z.keep (TK.same s2), lws, wok⟩
      refine ⟨_, rfl, _, rfl, _, rfl, r, hs, bs, l, T', rfl, hR, ok, pos, fun H2 _ s2 => ?_, fun p p' sh M y H2 hp hp' _ _ _ _ wv s2 => ?_⟩
      · exact ⟨_, rfl, rfl, _, rfl, if_bl (fun z => absurd z (by intro z; cases z)) (fun _ => stay _ _ s2)⟩
      · refine ⟨_, rfl, rfl, _, rfl, if_bl (fun _ => ?_) (fun z => absurd z (by intro z; cases z))⟩
        rcases wv with ⟨_, rfl⟩ | ⟨_, p2, qv2, x, ws2, rfl, h2, al2, lw2, wk⟩
        · exact ⟨_, rfl, p, _, _, _, rfl, rfl, SqT.of hp, atI_nat (j := 2) rfl, rfl, _, rfl, if_bl (fun z => absurd z (by intro z; cases z)) (fun _ => stay _ _ s2)⟩
        · refine ⟨_, rfl, p, _, _, _, rfl, rfl, SqT.of hp, atI_nat (j := 2) rfl, rfl, _, rfl, if_bl (fun _ => ?_) (fun z => absurd z (by intro z; cases z))⟩
          have wyok : ∀ y ∈ x :: ws2, WyOk hs bs y := wk.ok
          refine ⟨_, rfl, _, rfl, p, _, _, _, rfl, rfl, SqT.of hp, atI_nat (j := 2) rfl, r, p2, hs, bs, qv2, x :: ws2, rfl, hR.keep (TK.same s2), ok, h2, al2, wyok, fun H3 s3 => ⟨_, rfl, if_bl (fun _ => ?_) (fun z => nomatch z)⟩⟩
          have s23 := s2.trans s3
          have lh := ok.hands
          refine ⟨_, rfl, p, _, _, _, rfl, rfl, SqT.of (s3 _ _ hp), atI_nat (j := 2) rfl, eD, f, c, wl, r, p2, hs, bs, l, T', ch, td, w1, w2, qv2, (x :: ws2).map fun y => (y.one, y.ns), _, v11, rfl, ch2, s23 _ _ hwl, wlf, F1.same s23, hR.keep (TK.same s23), ok, pos, s3 _ _ h2, (PrAt.rg al2).imp fun _ _ z => z.keep (TK.same s3), by rw [List.length_map, List.length_cons]; omega, fun z hz => ?_⟩
          obtain ⟨y, hy, rfl⟩ := List.mem_map.mp hz
          have yo := wyok y hy
          exact ⟨yo.lt, way_belts yo.we, by show y.ns.length ≤ 12; have := yo.ln; omega⟩
    · exact ⟨eD, f, c, wl, r, wp, hs, bs, l, T', ch, td, w1, w2, qv, ws, v10, v11, rfl, ch2, hwl, wlf, F1, hR, ok, pos, hw, alp, lws, wok⟩
  refine ⟨_, rfl, a, ns, rfl, hS, fun f c H1 nf nc F1 s1 => ?_⟩
  refine ⟨(by show 5 ≤ sizeLine; decide), fun l0 nl0 => ?_⟩
  have F2 := F1.new (o := .lst [V.int 0, V.int 0, V.int 1, V.int 1, V.int 2]) nl0
  refine ⟨_, rfl, f, c, 5, rfl, by decide, by decide +kernel, F2, fun v H3 v0 v1 F3 B3 => ?_⟩
  obtain ⟨ch, hch, ch2⟩ : ∃ ch : Nat, atI [V.int 0, V.int 0, V.int 1, V.int 1, V.int 2] v = some (nV ch) ∧ ch ≤ 2 := by
    rcases (show v = 0 ∨ v = 1 ∨ v = 2 ∨ v = 3 ∨ v = 4 by omega) with rfl | rfl | rfl | rfl | rfl
    · exact ⟨0, rfl, by decide⟩
    · exact ⟨0, rfl, by decide⟩
    · exact ⟨1, rfl, by decide⟩
    · exact ⟨1, rfl, by decide⟩
    · exact ⟨2, rfl, by decide⟩
  refine ⟨l0, _, _, _, rfl, rfl, SqL.of (B3 _ _ upd_same (F1.ne nl0)), hch, ?_⟩
  refine ⟨_, rfl, f, c, 8, rfl, by decide, by decide +kernel, F3, fun w1 H4 _ _ F4 B4 => ⟨_, _, rfl, rfl, ?_⟩⟩
  refine ⟨_, rfl, f, c, 8, rfl, by decide, by decide +kernel, F4, fun w2 H5 _ _ F5 B5 => ⟨_, _, rfl, rfl, (by show 2 ≤ sizeLine; decide), fun wl nwl => ?_⟩⟩
  have F6 := F5.new (o := .lst [V.int (1 + w1), V.int (1 + w2)]) nwl
  have wlf := F5.ne nwl
  have hwl6 : (upd H5 wl (.lst [V.int (1 + w1), V.int (1 + w2)])) wl = some (.lst [V.int (1 + w1), V.int (1 + w2)]) := upd_same
  refine ⟨_, rfl, f, c, 3, rfl, by decide, by decide +kernel, F6, fun x1 H8 _ _ F8 B8 => ⟨rfl, ?_⟩⟩
  have hwl8 := B8 _ _ hwl6 wlf
  refine ⟨_, rfl, f, c, 4, rfl, by decide, by decide, F8, fun r hs bs H9 hR ok pos th6 F9 B9 => ?_⟩
  have hwl9 := B9 _ _ hwl8 wlf
  refine ⟨(by show 6 ≤ sizeLine; decide), fun l2 nl2 => ?_⟩
  have t9 := same_new (o := .lst [V.int 0, V.int 0, V.int 1, V.int 2, V.int 3, V.int 6]) nl2
  have F9' := F9.same t9
  refine ⟨_, rfl, f, c, 6, rfl, by decide, by decide +kernel, F9', fun z H10 z0 z1 F10 B10 => ?_⟩
  obtain ⟨l, hl⟩ : ∃ l : Nat, atI [V.int 0, V.int 0, V.int 1, V.int 2, V.int 3, V.int 6] z = some (nV l) := by
    rcases (show z = 0 ∨ z = 1 ∨ z = 2 ∨ z = 3 ∨ z = 4 ∨ z = 5 by omega) with rfl | rfl | rfl | rfl | rfl | rfl
    · exact ⟨0, rfl⟩
    · exact ⟨0, rfl⟩
    · exact ⟨1, rfl⟩
    · exact ⟨2, rfl⟩
    · exact ⟨3, rfl⟩
    · exact ⟨6, rfl⟩
  refine ⟨l2, _, _, _, rfl, rfl, SqL.of (B10 _ _ upd_same (F9.ne nl2)), hl, ?_⟩
  have hwl10 := B10 _ _ (t9 _ _ hwl9) wlf
  have hR10 := hR.keep ((TK.same t9).trans (TK.but F9' B10))
  obtain ⟨ha, ba, hv, bv, er, eh, eb, alh, alb⟩ := id hR10.ex
  have lbv := alb.length
  have lb := ok.many
  refine ⟨_, rfl, _, rfl, _, rfl, r, _, _, _, rfl, rfl, SqT.of er, atI_nat (j := 1) rfl, ba, rfl, ⟨_, SqT.of eb⟩, fun D nD => lc_tup (K := K) (a := ba) (xs := bv) (fun i H11 => H11 D = some (.lst ((bs.take i).map fun b => V.int (trS (fun _ => 0) b))) ∧ Same H10 H11) ⟨upd_same, same_new nD⟩ (fun i H11 _ ⟨_, s5⟩ => SqT.of (s5 _ _ eb)) ?_ ?_⟩
  · rintro i x H11 hx ⟨hD, s5⟩
    obtain ⟨b, ebi, ⟨t, g, rfl, e1, e2⟩⟩ := alb.getL hx
    have il := (List.getElem?_eq_some_iff.mp ebi).1
    refine ⟨rfl, yes_in ⟨_, rfl, t, _, _, _, rfl, rfl, SqT.of (s5 _ _ e1), atI_nat (j := 2) rfl, g, _, rfl, .inr (SqT.of (s5 _ _ e2)), _, hD, by rw [List.length_map, List.length_take]; exact small1000 (by omega), ?_, Same.own s5 nD⟩⟩
    rw [upd_same, List.take_add_one, ebi, List.map_append, List.length_map]
    show _ = some (HO.lst (_ ++ [V.int (trS (fun _ => 0) b)]))
    unfold trS
    rw [Int.add_zero, Int.sub_zero]
  rintro H11 ⟨hD, s11⟩
  rw [lbv, List.take_length] at hD
  refine ⟨r, D, hs, bs, (fun _ => 0), rfl, hR10.keep (TK.same s11), ok, hD, fun T' H12 T0 _ T7 s12 => ⟨_, _, rfl, rfl, ?_⟩⟩
  have s02 := s11.trans s12
  refine ⟨f, c, 2 + T', rfl, by omega, Nat.lt_of_le_of_lt (Nat.log2_le_self _) (by omega), F10.same s02, fun T2 H13 _ _ F13 B13 => ?_⟩
  have hwl13 := B13 _ _ (s02 _ _ hwl10) wlf
  have hR13 := hR10.keep ((TK.same s02).trans (TK.but (F10.same s02) B13))
  refine ⟨_, rfl, _, rfl, f, c, r, hs, bs, rfl, F13, hR13, ok, pos, fun p qv ws H14 hp alp l15 l0' wok F14 B14 => ?_⟩
  exact ⟨rfl, f, c, wl, r, p, hs, bs, l, T2, ch, _, 1 + w1, 1 + w2, qv, ws, none, none, rfl, ch2, B14 _ _ hwl13 wlf, wlf, F14, hR13.keep (TK.but F13 B14), ok, pos, hp, alp, l15, fun x hx => (wok x hx).mono (by decide)⟩
end
set_option maxHeartbeats 0 in
theorem all_mk {l : PySem.W.OpenLaw} {w : World} {K : PySem.W.Frag} {h : Heap} {mg : Str → Option Value} {fa f1 f2 f3 f4 f5 f6 f7 f8 f9 f10 f11 f12 f13 f14 f15 f16 f17 f18 f19 f20 f21 f22 f23 f24 f25 f26 f27 f28 f29 f30 f31 f32 f33 f34 f35 f36 f37 f38 f39 f40 f41 f42 f43 f44 : Addr} (X : K.In h) (G : h.Ns mainGlobals mg) (hfa : mg "law" = some (.ref fa))
    {od1 an1 od2 an2 od3 an3 od4 an4 od5 an5 od6 an6 od7 an7 od8 an8 od9 an9 od10 an10 od11 an11 od12 an12 od13 an13 od14 an14 od15 an15 od16 an16 od17 an17 od18 an18 od19 an19 od20 an20 od21 an21 od22 an22 od23 an23 od24 an24 od25 an25 od26 an26 od27 an27 od28 an28 od29 an29 od30 an30 od31 an31 od32 an32 od33 an33 od34 an34 od35 an35 od36 an36 od37 an37 od38 an38 od39 an39 od40 an40 od41 an41 od42 an42 od43 an43 od44 an44 : Option Addr} {sl1 sl2 sl3 sl4 sl5 sl6 sl7 sl8 sl9 sl10 sl11 sl12 sl13 sl14 sl15 sl16 sl17 sl18 sl19 sl20 sl21 sl22 sl23 sl24 sl25 sl26 sl27 sl28 sl29 sl30 sl31 sl32 sl33 sl34 sl35 sl36 sl37 sl38 sl39 sl40 sl41 sl42 sl43 sl44 : Array (Option Value)} {oc1 kV1 dc1 pm1 cd1 ct1 oc2 kV2 dc2 pm2 cd2 ct2 oc3 kV3 dc3 pm3 cd3 ct3 oc4 kV4 dc4 pm4 cd4 ct4 oc5 kV5 dc5 pm5 cd5 ct5 oc6 kV6 dc6 pm6 cd6 ct6 oc7 kV7 dc7 pm7 cd7 ct7 oc8 kV8 dc8 pm8 cd8 ct8 oc9 kV9 dc9 pm9 cd9 ct9 oc10 kV10 dc10 pm10 cd10 ct10 oc11 kV11 dc11 pm11 cd11 ct11 oc12 kV12 dc12 pm12 cd12 ct12 oc13 kV13 dc13 pm13 cd13 ct13 oc14 kV14 dc14 pm14 cd14 ct14 oc15 kV15 dc15 pm15 cd15 ct15 oc16 kV16 dc16 pm16 cd16 ct16 oc17 kV17 dc17 pm17 cd17 ct17 oc18 kV18 dc18 pm18 cd18 ct18 oc19 kV19 dc19 pm19 cd19 ct19 oc20 kV20 dc20 pm20 cd20 ct20 oc21 kV21 dc21 pm21 cd21 ct21 oc22 kV22 dc22 pm22 cd22 ct22 oc23 kV23 dc23 pm23 cd23 ct23 oc24 kV24 dc24 pm24 cd24 ct24 oc25 kV25 dc25 pm25 cd25 ct25 oc26 kV26 dc26 pm26 cd26 ct26 oc27 kV27 dc27 pm27 cd27 ct27 oc28 kV28 dc28 pm28 cd28 ct28 oc29 kV29 dc29 pm29 cd29 ct29 oc30 kV30 dc30 pm30 cd30 ct30 oc31 kV31 dc31 pm31 cd31 ct31 oc32 kV32 dc32 pm32 cd32 ct32 oc33 kV33 dc33 pm33 cd33 ct33 oc34 kV34 dc34 pm34 cd34 ct34 oc35 kV35 dc35 pm35 cd35 ct35 oc36 kV36 dc36 pm36 cd36 ct36 oc37 kV37 dc37 pm37 cd37 ct37 oc38 kV38 dc38 pm38 cd38 ct38 oc39 kV39 dc39 pm39 cd39 ct39 oc40 kV40 dc40 pm40 cd40 ct40 oc41 kV41 dc41 pm41 cd41 ct41 oc42 kV42 dc42 pm42 cd42 ct42 oc43 kV43 dc43 pm43 cd43 ct43 oc44 kV44 dc44 pm44 cd44 ct44 : Value}
    (a1 : PySem.W.nsIn K mainGlobals "levels_or_ring" = some (some (.ref f1))) (l1 : K.lookup f1 = some ⟨oc1, od1, .func (PySem.W.fnOf "levels_or_ring" "levels_or_ring" (defArgs s_levels_or_ring) (defBody s_levels_or_ring) (defScope s_levels_or_ring) .none kV1 dc1 pm1 an1 cd1 ct1), sl1⟩) (c1 : PySem.W.codeIn K cd1 "levels_or_ring" = true) (k1 : PySem.W.keepIn K (.ref f1) = true)
    (a2 : PySem.W.nsIn K mainGlobals "raise_levels" = some (some (.ref f2))) (l2 : K.lookup f2 = some ⟨oc2, od2, .func (PySem.W.fnOf "raise_levels" "raise_levels" (defArgs s_raise_levels) (defBody s_raise_levels) (defScope s_raise_levels) .none kV2 dc2 pm2 an2 cd2 ct2), sl2⟩) (c2 : PySem.W.codeIn K cd2 "raise_levels" = true) (k2 : PySem.W.keepIn K (.ref f2) = true)
    (a3 : PySem.W.nsIn K mainGlobals "ring_behind" = some (some (.ref f3))) (l3 : K.lookup f3 = some ⟨oc3, od3, .func (PySem.W.fnOf "ring_behind" "ring_behind" (defArgs s_ring_behind) (defBody s_ring_behind) (defScope s_ring_behind) .none kV3 dc3 pm3 an3 cd3 ct3), sl3⟩) (c3 : PySem.W.codeIn K cd3 "ring_behind" = true) (k3 : PySem.W.keepIn K (.ref f3) = true)
    (a4 : PySem.W.nsIn K mainGlobals "doors_in" = some (some (.ref f4))) (l4 : K.lookup f4 = some ⟨oc4, od4, .func (PySem.W.fnOf "doors_in" "doors_in" (defArgs s_doors_in) (defBody s_doors_in) (defScope s_doors_in) .none kV4 dc4 pm4 an4 cd4 ct4), sl4⟩) (c4 : PySem.W.codeIn K cd4 "doors_in" = true) (k4 : PySem.W.keepIn K (.ref f4) = true)
    (a5 : PySem.W.nsIn K mainGlobals "doors_out" = some (some (.ref f5))) (l5 : K.lookup f5 = some ⟨oc5, od5, .func (PySem.W.fnOf "doors_out" "doors_out" (defArgs s_doors_out) (defBody s_doors_out) (defScope s_doors_out) .none kV5 dc5 pm5 an5 cd5 ct5), sl5⟩) (c5 : PySem.W.codeIn K cd5 "doors_out" = true) (k5 : PySem.W.keepIn K (.ref f5) = true)
    (a6 : PySem.W.nsIn K mainGlobals "trays_on" = some (some (.ref f6))) (l6 : K.lookup f6 = some ⟨oc6, od6, .func (PySem.W.fnOf "trays_on" "trays_on" (defArgs s_trays_on) (defBody s_trays_on) (defScope s_trays_on) .none kV6 dc6 pm6 an6 cd6 ct6), sl6⟩) (c6 : PySem.W.codeIn K cd6 "trays_on" = true) (k6 : PySem.W.keepIn K (.ref f6) = true)
    (a7 : PySem.W.nsIn K mainGlobals "moments_on" = some (some (.ref f7))) (l7 : K.lookup f7 = some ⟨oc7, od7, .func (PySem.W.fnOf "moments_on" "moments_on" (defArgs s_moments_on) (defBody s_moments_on) (defScope s_moments_on) .none kV7 dc7 pm7 an7 cd7 ct7), sl7⟩) (c7 : PySem.W.codeIn K cd7 "moments_on" = true) (k7 : PySem.W.keepIn K (.ref f7) = true)
    (a8 : PySem.W.nsIn K mainGlobals "way_end" = some (some (.ref f8))) (l8 : K.lookup f8 = some ⟨oc8, od8, .func (PySem.W.fnOf "way_end" "way_end" (defArgs s_way_end) (defBody s_way_end) (defScope s_way_end) .none kV8 dc8 pm8 an8 cd8 ct8), sl8⟩) (c8 : PySem.W.codeIn K cd8 "way_end" = true) (k8 : PySem.W.keepIn K (.ref f8) = true)
    (a9 : PySem.W.nsIn K mainGlobals "way_back" = some (some (.ref f9))) (l9 : K.lookup f9 = some ⟨oc9, od9, .func (PySem.W.fnOf "way_back" "way_back" (defArgs s_way_back) (defBody s_way_back) (defScope s_way_back) .none kV9 dc9 pm9 an9 cd9 ct9), sl9⟩) (c9 : PySem.W.codeIn K cd9 "way_back" = true) (k9 : PySem.W.keepIn K (.ref f9) = true)
    (a10 : PySem.W.nsIn K mainGlobals "least_costs" = some (some (.ref f10))) (l10 : K.lookup f10 = some ⟨oc10, od10, .func (PySem.W.fnOf "least_costs" "least_costs" (defArgs s_least_costs) (defBody s_least_costs) (defScope s_least_costs) .none kV10 dc10 pm10 an10 cd10 ct10), sl10⟩) (c10 : PySem.W.codeIn K cd10 "least_costs" = true) (k10 : PySem.W.keepIn K (.ref f10) = true)
    (a11 : PySem.W.nsIn K mainGlobals "shifts_or_bar" = some (some (.ref f11))) (l11 : K.lookup f11 = some ⟨oc11, od11, .func (PySem.W.fnOf "shifts_or_bar" "shifts_or_bar" (defArgs s_shifts_or_bar) (defBody s_shifts_or_bar) (defScope s_shifts_or_bar) .none kV11 dc11 pm11 an11 cd11 ct11), sl11⟩) (c11 : PySem.W.codeIn K cd11 "shifts_or_bar" = true) (k11 : PySem.W.keepIn K (.ref f11) = true)
    (a12 : PySem.W.nsIn K mainGlobals "least_ways" = some (some (.ref f12))) (l12 : K.lookup f12 = some ⟨oc12, od12, .func (PySem.W.fnOf "least_ways" "least_ways" (defArgs s_least_ways) (defBody s_least_ways) (defScope s_least_ways) .none kV12 dc12 pm12 an12 cd12 ct12), sl12⟩) (c12 : PySem.W.codeIn K cd12 "least_ways" = true) (k12 : PySem.W.keepIn K (.ref f12) = true)
    (a13 : PySem.W.nsIn K mainGlobals "paper_by" = some (some (.ref f13))) (l13 : K.lookup f13 = some ⟨oc13, od13, .func (PySem.W.fnOf "paper_by" "paper_by" (defArgs s_paper_by) (defBody s_paper_by) (defScope s_paper_by) .none kV13 dc13 pm13 an13 cd13 ct13), sl13⟩) (c13 : PySem.W.codeIn K cd13 "paper_by" = true) (k13 : PySem.W.keepIn K (.ref f13) = true)
    (a14 : PySem.W.nsIn K mainGlobals "needed" = some (some (.ref f14))) (l14 : K.lookup f14 = some ⟨oc14, od14, .func (PySem.W.fnOf "needed" "needed" (defArgs s_needed) (defBody s_needed) (defScope s_needed) .none kV14 dc14 pm14 an14 cd14 ct14), sl14⟩) (c14 : PySem.W.codeIn K cd14 "needed" = true) (k14 : PySem.W.keepIn K (.ref f14) = true)
    (a15 : PySem.W.nsIn K mainGlobals "jumps" = some (some (.ref f15))) (l15 : K.lookup f15 = some ⟨oc15, od15, .func (PySem.W.fnOf "jumps" "jumps" (defArgs s_jumps) (defBody s_jumps) (defScope s_jumps) .none kV15 dc15 pm15 an15 cd15 ct15), sl15⟩) (c15 : PySem.W.codeIn K cd15 "jumps" = true) (k15 : PySem.W.keepIn K (.ref f15) = true)
    (a16 : PySem.W.nsIn K mainGlobals "shifts_by" = some (some (.ref f16))) (l16 : K.lookup f16 = some ⟨oc16, od16, .func (PySem.W.fnOf "shifts_by" "shifts_by" (defArgs s_shifts_by) (defBody s_shifts_by) (defScope s_shifts_by) .none kV16 dc16 pm16 an16 cd16 ct16), sl16⟩) (c16 : PySem.W.codeIn K cd16 "shifts_by" = true) (k16 : PySem.W.keepIn K (.ref f16) = true)
    (a17 : PySem.W.nsIn K mainGlobals "hand_places" = some (some (.ref f17))) (l17 : K.lookup f17 = some ⟨oc17, od17, .func (PySem.W.fnOf "hand_places" "hand_places" (defArgs s_hand_places) (defBody s_hand_places) (defScope s_hand_places) .none kV17 dc17 pm17 an17 cd17 ct17), sl17⟩) (c17 : PySem.W.codeIn K cd17 "hand_places" = true) (k17 : PySem.W.keepIn K (.ref f17) = true)
    (a18 : PySem.W.nsIn K mainGlobals "ground_steps" = some (some (.ref f18))) (l18 : K.lookup f18 = some ⟨oc18, od18, .func (PySem.W.fnOf "ground_steps" "ground_steps" (defArgs s_ground_steps) (defBody s_ground_steps) (defScope s_ground_steps) .none kV18 dc18 pm18 an18 cd18 ct18), sl18⟩) (c18 : PySem.W.codeIn K cd18 "ground_steps" = true) (k18 : PySem.W.keepIn K (.ref f18) = true)
    (a19 : PySem.W.nsIn K mainGlobals "ground_shifts" = some (some (.ref f19))) (l19 : K.lookup f19 = some ⟨oc19, od19, .func (PySem.W.fnOf "ground_shifts" "ground_shifts" (defArgs s_ground_shifts) (defBody s_ground_shifts) (defScope s_ground_shifts) .none kV19 dc19 pm19 an19 cd19 ct19), sl19⟩) (c19 : PySem.W.codeIn K cd19 "ground_shifts" = true) (k19 : PySem.W.keepIn K (.ref f19) = true)
    (a20 : PySem.W.nsIn K mainGlobals "walk_trays" = some (some (.ref f20))) (l20 : K.lookup f20 = some ⟨oc20, od20, .func (PySem.W.fnOf "walk_trays" "walk_trays" (defArgs s_walk_trays) (defBody s_walk_trays) (defScope s_walk_trays) .none kV20 dc20 pm20 an20 cd20 ct20), sl20⟩) (c20 : PySem.W.codeIn K cd20 "walk_trays" = true) (k20 : PySem.W.keepIn K (.ref f20) = true)
    (a21 : PySem.W.nsIn K mainGlobals "step_trays" = some (some (.ref f21))) (l21 : K.lookup f21 = some ⟨oc21, od21, .func (PySem.W.fnOf "step_trays" "step_trays" (defArgs s_step_trays) (defBody s_step_trays) (defScope s_step_trays) .none kV21 dc21 pm21 an21 cd21 ct21), sl21⟩) (c21 : PySem.W.codeIn K cd21 "step_trays" = true) (k21 : PySem.W.keepIn K (.ref f21) = true)
    (a22 : PySem.W.nsIn K mainGlobals "heavy_ways" = some (some (.ref f22))) (l22 : K.lookup f22 = some ⟨oc22, od22, .func (PySem.W.fnOf "heavy_ways" "heavy_ways" (defArgs s_heavy_ways) (defBody s_heavy_ways) (defScope s_heavy_ways) .none kV22 dc22 pm22 an22 cd22 ct22), sl22⟩) (c22 : PySem.W.codeIn K cd22 "heavy_ways" = true) (k22 : PySem.W.keepIn K (.ref f22) = true)
    (a23 : PySem.W.nsIn K mainGlobals "soonest" = some (some (.ref f23))) (l23 : K.lookup f23 = some ⟨oc23, od23, .func (PySem.W.fnOf "soonest" "soonest" (defArgs s_soonest) (defBody s_soonest) (defScope s_soonest) .none kV23 dc23 pm23 an23 cd23 ct23), sl23⟩) (c23 : PySem.W.codeIn K cd23 "soonest" = true) (k23 : PySem.W.keepIn K (.ref f23) = true)
    (a24 : PySem.W.nsIn K mainGlobals "levels_or_path" = some (some (.ref f24))) (l24 : K.lookup f24 = some ⟨oc24, od24, .func (PySem.W.fnOf "levels_or_path" "levels_or_path" (defArgs s_levels_or_path) (defBody s_levels_or_path) (defScope s_levels_or_path) .none kV24 dc24 pm24 an24 cd24 ct24), sl24⟩) (c24 : PySem.W.codeIn K cd24 "levels_or_path" = true) (k24 : PySem.W.keepIn K (.ref f24) = true)
    (a25 : PySem.W.nsIn K mainGlobals "walk_holds" = some (some (.ref f25))) (l25 : K.lookup f25 = some ⟨oc25, od25, .func (PySem.W.fnOf "walk_holds" "walk_holds" (defArgs s_walk_holds) (defBody s_walk_holds) (defScope s_walk_holds) .none kV25 dc25 pm25 an25 cd25 ct25), sl25⟩) (c25 : PySem.W.codeIn K cd25 "walk_holds" = true) (k25 : PySem.W.keepIn K (.ref f25) = true)
    (a26 : PySem.W.nsIn K mainGlobals "_law_flow" = some (some (.ref f26))) (l26 : K.lookup f26 = some ⟨oc26, od26, .func (PySem.W.fnOf "_law_flow" "_law_flow" (defArgs s_law_flow) (defBody s_law_flow) (defScope s_law_flow) .none kV26 dc26 pm26 an26 cd26 ct26), sl26⟩) (c26 : PySem.W.codeIn K cd26 "_law_flow" = true) (k26 : PySem.W.keepIn K (.ref f26) = true)
    (a27 : PySem.W.nsIn K mainGlobals "_law_pick" = some (some (.ref f27))) (l27 : K.lookup f27 = some ⟨oc27, od27, .func (PySem.W.fnOf "_law_pick" "_law_pick" (defArgs s_law_pick) (defBody s_law_pick) (defScope s_law_pick) .none kV27 dc27 pm27 an27 cd27 ct27), sl27⟩) (c27 : PySem.W.codeIn K cd27 "_law_pick" = true) (k27 : PySem.W.keepIn K (.ref f27) = true)
    (a28 : PySem.W.nsIn K mainGlobals "_law_thing" = some (some (.ref f28))) (l28 : K.lookup f28 = some ⟨oc28, od28, .func (PySem.W.fnOf "_law_thing" "_law_thing" (defArgs s_law_thing) (defBody s_law_thing) (defScope s_law_thing) .none kV28 dc28 pm28 an28 cd28 ct28), sl28⟩) (c28 : PySem.W.codeIn K cd28 "_law_thing" = true) (k28 : PySem.W.keepIn K (.ref f28) = true)
    (a29 : PySem.W.nsIn K mainGlobals "_law_needs" = some (some (.ref f29))) (l29 : K.lookup f29 = some ⟨oc29, od29, .func (PySem.W.fnOf "_law_needs" "_law_needs" (defArgs s_law_needs) (defBody s_law_needs) (defScope s_law_needs) .none kV29 dc29 pm29 an29 cd29 ct29), sl29⟩) (c29 : PySem.W.codeIn K cd29 "_law_needs" = true) (k29 : PySem.W.keepIn K (.ref f29) = true)
    (a30 : PySem.W.nsIn K mainGlobals "_law_rule" = some (some (.ref f30))) (l30 : K.lookup f30 = some ⟨oc30, od30, .func (PySem.W.fnOf "_law_rule" "_law_rule" (defArgs s_law_rule) (defBody s_law_rule) (defScope s_law_rule) .none kV30 dc30 pm30 an30 cd30 ct30), sl30⟩) (c30 : PySem.W.codeIn K cd30 "_law_rule" = true) (k30 : PySem.W.keepIn K (.ref f30) = true)
    (a31 : PySem.W.nsIn K mainGlobals "_law_shuffled" = some (some (.ref f31))) (l31 : K.lookup f31 = some ⟨oc31, od31, .func (PySem.W.fnOf "_law_shuffled" "_law_shuffled" (defArgs s_law_shuffled) (defBody s_law_shuffled) (defScope s_law_shuffled) .none kV31 dc31 pm31 an31 cd31 ct31), sl31⟩) (c31 : PySem.W.codeIn K cd31 "_law_shuffled" = true) (k31 : PySem.W.keepIn K (.ref f31) = true)
    (a32 : PySem.W.nsIn K mainGlobals "_law_hands" = some (some (.ref f32))) (l32 : K.lookup f32 = some ⟨oc32, od32, .func (PySem.W.fnOf "_law_hands" "_law_hands" (defArgs s_law_hands) (defBody s_law_hands) (defScope s_law_hands) .none kV32 dc32 pm32 an32 cd32 ct32), sl32⟩) (c32 : PySem.W.codeIn K cd32 "_law_hands" = true) (k32 : PySem.W.keepIn K (.ref f32) = true)
    (a33 : PySem.W.nsIn K mainGlobals "_law_room" = some (some (.ref f33))) (l33 : K.lookup f33 = some ⟨oc33, od33, .func (PySem.W.fnOf "_law_room" "_law_room" (defArgs s_law_room) (defBody s_law_room) (defScope s_law_room) .none kV33 dc33 pm33 an33 cd33 ct33), sl33⟩) (c33 : PySem.W.codeIn K cd33 "_law_room" = true) (k33 : PySem.W.keepIn K (.ref f33) = true)
    (a34 : PySem.W.nsIn K mainGlobals "_law_whole" = some (some (.ref f34))) (l34 : K.lookup f34 = some ⟨oc34, od34, .func (PySem.W.fnOf "_law_whole" "_law_whole" (defArgs s_law_whole) (defBody s_law_whole) (defScope s_law_whole) .none kV34 dc34 pm34 an34 cd34 ct34), sl34⟩) (c34 : PySem.W.codeIn K cd34 "_law_whole" = true) (k34 : PySem.W.keepIn K (.ref f34) = true)
    (a35 : PySem.W.nsIn K mainGlobals "_law_time_of" = some (some (.ref f35))) (l35 : K.lookup f35 = some ⟨oc35, od35, .func (PySem.W.fnOf "_law_time_of" "_law_time_of" (defArgs s_law_time_of) (defBody s_law_time_of) (defScope s_law_time_of) .none kV35 dc35 pm35 an35 cd35 ct35), sl35⟩) (c35 : PySem.W.codeIn K cd35 "_law_time_of" = true) (k35 : PySem.W.keepIn K (.ref f35) = true)
    (a36 : PySem.W.nsIn K mainGlobals "_law_end" = some (some (.ref f36))) (l36 : K.lookup f36 = some ⟨oc36, od36, .func (PySem.W.fnOf "_law_end" "_law_end" (defArgs s_law_end) (defBody s_law_end) (defScope s_law_end) .none kV36 dc36 pm36 an36 cd36 ct36), sl36⟩) (c36 : PySem.W.codeIn K cd36 "_law_end" = true) (k36 : PySem.W.keepIn K (.ref f36) = true)
    (a37 : PySem.W.nsIn K mainGlobals "_law_moments_on" = some (some (.ref f37))) (l37 : K.lookup f37 = some ⟨oc37, od37, .func (PySem.W.fnOf "_law_moments_on" "_law_moments_on" (defArgs s_law_moments_on) (defBody s_law_moments_on) (defScope s_law_moments_on) .none kV37 dc37 pm37 an37 cd37 ct37), sl37⟩) (c37 : PySem.W.codeIn K cd37 "_law_moments_on" = true) (k37 : PySem.W.keepIn K (.ref f37) = true)
    (a38 : PySem.W.nsIn K mainGlobals "_law_walk_trays" = some (some (.ref f38))) (l38 : K.lookup f38 = some ⟨oc38, od38, .func (PySem.W.fnOf "_law_walk_trays" "_law_walk_trays" (defArgs s_law_walk_trays) (defBody s_law_walk_trays) (defScope s_law_walk_trays) .none kV38 dc38 pm38 an38 cd38 ct38), sl38⟩) (c38 : PySem.W.codeIn K cd38 "_law_walk_trays" = true) (k38 : PySem.W.keepIn K (.ref f38) = true)
    (a39 : PySem.W.nsIn K mainGlobals "_law_heavies" = some (some (.ref f39))) (l39 : K.lookup f39 = some ⟨oc39, od39, .func (PySem.W.fnOf "_law_heavies" "_law_heavies" (defArgs s_law_heavies) (defBody s_law_heavies) (defScope s_law_heavies) .none kV39 dc39 pm39 an39 cd39 ct39), sl39⟩) (c39 : PySem.W.codeIn K cd39 "_law_heavies" = true) (k39 : PySem.W.keepIn K (.ref f39) = true)
    (a40 : PySem.W.nsIn K mainGlobals "_law_is_walk" = some (some (.ref f40))) (l40 : K.lookup f40 = some ⟨oc40, od40, .func (PySem.W.fnOf "_law_is_walk" "_law_is_walk" (defArgs s_law_is_walk) (defBody s_law_is_walk) (defScope s_law_is_walk) .none kV40 dc40 pm40 an40 cd40 ct40), sl40⟩) (c40 : PySem.W.codeIn K cd40 "_law_is_walk" = true) (k40 : PySem.W.keepIn K (.ref f40) = true)
    (a41 : PySem.W.nsIn K mainGlobals "_law_spoilt_walk" = some (some (.ref f41))) (l41 : K.lookup f41 = some ⟨oc41, od41, .func (PySem.W.fnOf "_law_spoilt_walk" "_law_spoilt_walk" (defArgs s_law_spoilt_walk) (defBody s_law_spoilt_walk) (defScope s_law_spoilt_walk) .none kV41 dc41 pm41 an41 cd41 ct41), sl41⟩) (c41 : PySem.W.codeIn K cd41 "_law_spoilt_walk" = true) (k41 : PySem.W.keepIn K (.ref f41) = true)
    (a42 : PySem.W.nsIn K mainGlobals "_law_open_walk" = some (some (.ref f42))) (l42 : K.lookup f42 = some ⟨oc42, od42, .func (PySem.W.fnOf "_law_open_walk" "_law_open_walk" (defArgs s_law_open_walk) (defBody s_law_open_walk) (defScope s_law_open_walk) .none kV42 dc42 pm42 an42 cd42 ct42), sl42⟩) (c42 : PySem.W.codeIn K cd42 "_law_open_walk" = true) (k42 : PySem.W.keepIn K (.ref f42) = true)
    (a43 : PySem.W.nsIn K mainGlobals "_law_due" = some (some (.ref f43))) (l43 : K.lookup f43 = some ⟨oc43, od43, .func (PySem.W.fnOf "_law_due" "_law_due" (defArgs s_law_due) (defBody s_law_due) (defScope s_law_due) .none kV43 dc43 pm43 an43 cd43 ct43), sl43⟩) (c43 : PySem.W.codeIn K cd43 "_law_due" = true) (k43 : PySem.W.keepIn K (.ref f43) = true)
    (a44 : PySem.W.nsIn K mainGlobals "law" = some (some (.ref f44))) (l44 : K.lookup f44 = some ⟨oc44, od44, .func (PySem.W.fnOf "law" "law" (defArgs s_law) (defBody s_law) (defScope s_law) .none kV44 dc44 pm44 an44 cd44 ct44), sl44⟩) (c44 : PySem.W.codeIn K cd44 "law" = true) (k44 : PySem.W.keepIn K (.ref f44) = true)
    (z1 : PySem.W.nsIn K mainGlobals "all" = some none)    (z2 : PySem.W.nsIn K mainGlobals "bool" = some none)    (z3 : PySem.W.nsIn K mainGlobals "enumerate" = some none)    (z4 : PySem.W.nsIn K mainGlobals "int" = some none)    (z5 : PySem.W.nsIn K mainGlobals "isinstance" = some none)    (z6 : PySem.W.nsIn K mainGlobals "len" = some none)    (z7 : PySem.W.nsIn K mainGlobals "list" = some none)    (z8 : PySem.W.nsIn K mainGlobals "max" = some none)    (z9 : PySem.W.nsIn K mainGlobals "min" = some none)    (z10 : PySem.W.nsIn K mainGlobals "range" = some none)    (z11 : PySem.W.nsIn K mainGlobals "sum" = some none)    (z12 : PySem.W.nsIn K mainGlobals "tuple" = some none)    (z13 : PySem.W.nsIn K mainGlobals "zip" = some none)
    {aI aO : Addr} {odI odO : Option Addr} {tI tO : Tok} {nI nO : Nat} {slI slO : Array (Option Value)} (gI : PySem.W.nsIn K mainGlobals "IN_RULE" = some (some (.ref aI)))
    (lI : K.lookup aI = some ⟨.type "tuple", odI, .seq #[.str "in" tI] nI, slI⟩)
    (gO : PySem.W.nsIn K mainGlobals "OUT_RULE" = some (some (.ref aO)))
    (lO : K.lookup aO = some ⟨.type "tuple", odO, .seq #[.str "out" tO] nO, slO⟩) :
    ∃ fd : FuncData, (∀ (s : Shared) (v : Value), BindsTo s fd ⟨[v], []⟩ [("_law_script", v)]) ∧ ∀ base : Heap, K.In base → base.Ns mainGlobals mg → FnOk l.prog w K mg base CX0 6 fa fd ["_law_script"] (sp_law K) := by
  have e := hfa.symm.trans (PySem.W.mg_of X G a44)
  cases e
  have F1 := fun_mk (st := s_levels_or_ring) l1 c1 k1
  have b1 := F1.binds (ps := ["many", "steps"]) fun _ _ _ _ _ _ us hl => match us, hl with | [_, _], _ => rfl
  have F2 := fun_mk (st := s_raise_levels) l2 c2 k2
  have b2 := F2.binds (ps := ["levels", "last", "steps"]) fun _ _ _ _ _ _ us hl => match us, hl with | [_, _, _], _ => rfl
  have F3 := fun_mk (st := s_ring_behind) l3 c3 k3
  have b3 := F3.binds (ps := ["place", "last", "steps"]) fun _ _ _ _ _ _ us hl => match us, hl with | [_, _, _], _ => rfl
  have F4 := fun_mk (st := s_doors_in) l4 c4 k4
  have b4 := F4.binds (ps := ["room"]) fun _ _ _ _ _ _ us hl => match us, hl with | [_], _ => rfl
  have F5 := fun_mk (st := s_doors_out) l5 c5 k5
  have b5 := F5.binds (ps := ["room"]) fun _ _ _ _ _ _ us hl => match us, hl with | [_], _ => rfl
  have F6 := fun_mk (st := s_trays_on) l6 c6 k6
  have b6 := F6.binds (ps := ["room", "way"]) fun _ _ _ _ _ _ us hl => match us, hl with | [_, _], _ => rfl
  have F7 := fun_mk (st := s_moments_on) l7 c7 k7
  have b7 := F7.binds (ps := ["room", "way"]) fun _ _ _ _ _ _ us hl => match us, hl with | [_, _], _ => rfl
  have F8 := fun_mk (st := s_way_end) l8 c8 k8
  have b8 := F8.binds (ps := ["room", "pair"]) fun _ _ _ _ _ _ us hl => match us, hl with | [_, _], _ => rfl
  have F9 := fun_mk (st := s_way_back) l9 c9 k9
  have b9 := F9.binds (ps := ["room", "end", "last"]) fun _ _ _ _ _ _ us hl => match us, hl with | [_, _, _], _ => rfl
  have F10 := fun_mk (st := s_least_costs) l10 c10 k10
  have b10 := F10.binds (ps := ["room", "one"]) fun _ _ _ _ _ _ us hl => match us, hl with | [_, _], _ => rfl
  have F11 := fun_mk (st := s_shifts_or_bar) l11 c11 k11
  have b11 := F11.binds (ps := ["room", "late", "time"]) fun _ _ _ _ _ _ us hl => match us, hl with | [_, _, _], _ => rfl
  have F12 := fun_mk (st := s_least_ways) l12 c12 k12
  have b12 := F12.binds (ps := ["room"]) fun _ _ _ _ _ _ us hl => match us, hl with | [_], _ => rfl
  have F13 := fun_mk (st := s_paper_by) l13 c13 k13
  have b13 := F13.binds (ps := ["room", "late", "time", "ways"]) fun _ _ _ _ _ _ us hl => match us, hl with | [_, _, _, _], _ => rfl
  have F14 := fun_mk (st := s_needed) l14 c14 k14
  have b14 := F14.binds (ps := ["moments", "time"]) fun _ _ _ _ _ _ us hl => match us, hl with | [_, _], _ => rfl
  have F15 := fun_mk (st := s_jumps) l15 c15 k15
  have b15 := F15.binds (ps := ["room", "late"]) fun _ _ _ _ _ _ us hl => match us, hl with | [_, _], _ => rfl
  have F16 := fun_mk (st := s_shifts_by) l16 c16 k16
  have b16 := F16.binds (ps := ["room", "late", "levels"]) fun _ _ _ _ _ _ us hl => match us, hl with | [_, _, _], _ => rfl
  have F17 := fun_mk (st := s_hand_places) l17 c17 k17
  have b17 := F17.binds (ps := ["room", "late"]) fun _ _ _ _ _ _ us hl => match us, hl with | [_, _], _ => rfl
  have F18 := fun_mk (st := s_ground_steps) l18 c18 k18
  have b18 := F18.binds (ps := ["room", "late", "time"]) fun _ _ _ _ _ _ us hl => match us, hl with | [_, _, _], _ => rfl
  have F19 := fun_mk (st := s_ground_shifts) l19 c19 k19
  have b19 := F19.binds (ps := ["room", "late", "levels"]) fun _ _ _ _ _ _ us hl => match us, hl with | [_, _, _], _ => rfl
  have F20 := fun_mk (st := s_walk_trays) l20 c20 k20
  have b20 := F20.binds (ps := ["room", "late", "walk"]) fun _ _ _ _ _ _ us hl => match us, hl with | [_, _, _], _ => rfl
  have F21 := fun_mk (st := s_step_trays) l21 c21 k21
  have b21 := F21.binds (ps := ["room", "late", "end", "begin"]) fun _ _ _ _ _ _ us hl => match us, hl with | [_, _, _, _], _ => rfl
  have F22 := fun_mk (st := s_heavy_ways) l22 c22 k22
  have b22 := F22.binds (ps := ["room", "time", "walk"]) fun _ _ _ _ _ _ us hl => match us, hl with | [_, _, _], _ => rfl
  have F23 := fun_mk (st := s_soonest) l23 c23 k23
  have b23 := F23.binds (ps := ["room", "late", "time"]) fun _ _ _ _ _ _ us hl => match us, hl with | [_, _, _], _ => rfl
  have F24 := fun_mk (st := s_levels_or_path) l24 c24 k24
  have b24 := F24.binds (ps := ["room", "steps", "many"]) fun _ _ _ _ _ _ us hl => match us, hl with | [_, _, _], _ => rfl
  have F25 := fun_mk (st := s_walk_holds) l25 c25 k25
  have b25 := F25.binds (ps := ["room", "late", "time", "many", "walk"]) fun _ _ _ _ _ _ us hl => match us, hl with | [_, _, _, _, _], _ => rfl
  have F26 := fun_mk (st := s_law_flow) l26 c26 k26
  have b26 := F26.binds (ps := ["_law_script"]) fun _ _ _ _ _ _ us hl => match us, hl with | [_], _ => rfl
  have F27 := fun_mk (st := s_law_pick) l27 c27 k27
  have b27 := F27.binds (ps := ["_law_flow_here", "_law_many"]) fun _ _ _ _ _ _ us hl => match us, hl with | [_, _], _ => rfl
  have F28 := fun_mk (st := s_law_thing) l28 c28 k28
  have b28 := F28.binds (ps := ["_law_flow_here"]) fun _ _ _ _ _ _ us hl => match us, hl with | [_], _ => rfl
  have F29 := fun_mk (st := s_law_needs) l29 c29 k29
  have b29 := F29.binds (ps := ["_law_rule_here"]) fun _ _ _ _ _ _ us hl => match us, hl with | [_], _ => rfl
  have F30 := fun_mk (st := s_law_rule) l30 c30 k30
  have b30 := F30.binds (ps := ["_law_flow_here", "_law_most"]) fun _ _ _ _ _ _ us hl => match us, hl with | [_, _], _ => rfl
  have F31 := fun_mk (st := s_law_shuffled) l31 c31 k31
  have b31 := F31.binds (ps := ["_law_flow_here", "_law_some"]) fun _ _ _ _ _ _ us hl => match us, hl with | [_, _], _ => rfl
  have F32 := fun_mk (st := s_law_hands) l32 c32 k32
  have b32 := F32.binds (ps := ["_law_flow_here", "_law_many"]) fun _ _ _ _ _ _ us hl => match us, hl with | [_, _], _ => rfl
  have F33 := fun_mk (st := s_law_room) l33 c33 k33
  have b33 := F33.binds (ps := ["_law_flow_here", "_law_most"]) fun _ _ _ _ _ _ us hl => match us, hl with | [_, _], _ => rfl
  have F34 := fun_mk (st := s_law_whole) l34 c34 k34
  have b34 := F34.binds (ps := ["_law_thing_here"]) fun _ _ _ _ _ _ us hl => match us, hl with | [_], _ => rfl
  have F35 := fun_mk (st := s_law_time_of) l35 c35 k35
  have b35 := F35.binds (ps := ["_law_room_here", "_law_trays"]) fun _ _ _ _ _ _ us hl => match us, hl with | [_, _], _ => rfl
  have F36 := fun_mk (st := s_law_end) l36 c36 k36
  have b36 := F36.binds (ps := ["_law_room_here", "_law_way"]) fun _ _ _ _ _ _ us hl => match us, hl with | [_, _], _ => rfl
  have F37 := fun_mk (st := s_law_moments_on) l37 c37 k37
  have b37 := F37.binds (ps := ["_law_room_here", "_law_way"]) fun _ _ _ _ _ _ us hl => match us, hl with | [_, _], _ => rfl
  have F38 := fun_mk (st := s_law_walk_trays) l38 c38 k38
  have b38 := F38.binds (ps := ["_law_room_here", "_law_late", "_law_walk", "_law_closed"]) fun _ _ _ _ _ _ us hl => match us, hl with | [_, _, _, _], _ => rfl
  have F39 := fun_mk (st := s_law_heavies) l39 c39 k39
  have b39 := F39.binds (ps := ["_law_room_here", "_law_time", "_law_walk"]) fun _ _ _ _ _ _ us hl => match us, hl with | [_, _, _], _ => rfl
  have F40 := fun_mk (st := s_law_is_walk) l40 c40 k40
  have b40 := F40.binds (ps := ["_law_room_here", "_law_walk"]) fun _ _ _ _ _ _ us hl => match us, hl with | [_, _], _ => rfl
  have F41 := fun_mk (st := s_law_spoilt_walk) l41 c41 k41
  have b41 := F41.binds (ps := ["_law_flow_here", "_law_way", "_law_room_here", "_law_walk"]) fun _ _ _ _ _ _ us hl => match us, hl with | [_, _, _, _], _ => rfl
  have F42 := fun_mk (st := s_law_open_walk) l42 c42 k42
  have b42 := F42.binds (ps := ["_law_flow_here", "_law_room_here"]) fun _ _ _ _ _ _ us hl => match us, hl with | [_, _], _ => rfl
  have F43 := fun_mk (st := s_law_due) l43 c43 k43
  have b43 := F43.binds (ps := ["_law_room_here", "_law_late", "_law_time", "_law_many", "_law_walk"]) fun _ _ _ _ _ _ us hl => match us, hl with | [_, _, _, _, _], _ => rfl
  have F44 := fun_mk (st := s_law) l44 c44 k44
  have T : Top K mg := ⟨⟨f1, _, F1, b1, PySem.W.mg_of X G a1⟩, ⟨f2, _, F2, b2, PySem.W.mg_of X G a2⟩, ⟨f3, _, F3, b3, PySem.W.mg_of X G a3⟩, ⟨f4, _, F4, b4, PySem.W.mg_of X G a4⟩, ⟨f5, _, F5, b5, PySem.W.mg_of X G a5⟩, ⟨f6, _, F6, b6, PySem.W.mg_of X G a6⟩, ⟨f7, _, F7, b7, PySem.W.mg_of X G a7⟩, ⟨f8, _, F8, b8, PySem.W.mg_of X G a8⟩, ⟨f9, _, F9, b9, PySem.W.mg_of X G a9⟩, ⟨f10, _, F10, b10, PySem.W.mg_of X G a10⟩, ⟨f11, _, F11, b11, PySem.W.mg_of X G a11⟩, ⟨f12, _, F12, b12, PySem.W.mg_of X G a12⟩, ⟨f13, _, F13, b13, PySem.W.mg_of X G a13⟩, ⟨f14, _, F14, b14, PySem.W.mg_of X G a14⟩, ⟨f15, _, F15, b15, PySem.W.mg_of X G a15⟩, ⟨f16, _, F16, b16, PySem.W.mg_of X G a16⟩, ⟨f17, _, F17, b17, PySem.W.mg_of X G a17⟩, ⟨f18, _, F18, b18, PySem.W.mg_of X G a18⟩, ⟨f19, _, F19, b19, PySem.W.mg_of X G a19⟩, ⟨f20, _, F20, b20, PySem.W.mg_of X G a20⟩, ⟨f21, _, F21, b21, PySem.W.mg_of X G a21⟩, ⟨f22, _, F22, b22, PySem.W.mg_of X G a22⟩, ⟨f23, _, F23, b23, PySem.W.mg_of X G a23⟩, ⟨f24, _, F24, b24, PySem.W.mg_of X G a24⟩, ⟨f25, _, F25, b25, PySem.W.mg_of X G a25⟩, ⟨f26, _, F26, b26, PySem.W.mg_of X G a26⟩, ⟨f27, _, F27, b27, PySem.W.mg_of X G a27⟩, ⟨f28, _, F28, b28, PySem.W.mg_of X G a28⟩, ⟨f29, _, F29, b29, PySem.W.mg_of X G a29⟩, ⟨f30, _, F30, b30, PySem.W.mg_of X G a30⟩, ⟨f31, _, F31, b31, PySem.W.mg_of X G a31⟩, ⟨f32, _, F32, b32, PySem.W.mg_of X G a32⟩, ⟨f33, _, F33, b33, PySem.W.mg_of X G a33⟩, ⟨f34, _, F34, b34, PySem.W.mg_of X G a34⟩, ⟨f35, _, F35, b35, PySem.W.mg_of X G a35⟩, ⟨f36, _, F36, b36, PySem.W.mg_of X G a36⟩, ⟨f37, _, F37, b37, PySem.W.mg_of X G a37⟩, ⟨f38, _, F38, b38, PySem.W.mg_of X G a38⟩, ⟨f39, _, F39, b39, PySem.W.mg_of X G a39⟩, ⟨f40, _, F40, b40, PySem.W.mg_of X G a40⟩, ⟨f41, _, F41, b41, PySem.W.mg_of X G a41⟩, ⟨f42, _, F42, b42, PySem.W.mg_of X G a42⟩, ⟨f43, _, F43, b43, PySem.W.mg_of X G a43⟩, PySem.W.mg_none_of X G z1, PySem.W.mg_none_of X G z2, PySem.W.mg_none_of X G z3, PySem.W.mg_none_of X G z4, PySem.W.mg_none_of X G z5, PySem.W.mg_none_of X G z6, PySem.W.mg_none_of X G z7, PySem.W.mg_none_of X G z8, PySem.W.mg_none_of X G z9, PySem.W.mg_none_of X G z10, PySem.W.mg_none_of X G z11, PySem.W.mg_none_of X G z12, PySem.W.mg_none_of X G z13, ⟨aI, PySem.W.mg_of X G gI, one_at lI⟩, ⟨aO, PySem.W.mg_of X G gO, one_at lO⟩⟩
  exact ⟨PySem.W.fnOf "law" "law" (defArgs s_law) (defBody s_law) (defScope s_law) .none kV44 dc44 pm44 an44 cd44 ct44, fun s v => .of_eq rfl, fun base _ _ => ok_law F44 T⟩
end Mine
open PySem PySem.W PyProof.Rows
set_option maxRecDepth 100000 in
set_option maxHeartbeats 0 in
theorem PySem.Challenge.cw_beltshift_k42_walks_looked_at_holds : PySem.Challenge.rw_beltshift_k42_walks_looked_at.Holds := by
  w_on; o_law; k_head; (case hw => w_witness2)
  k_fill
  refine L2.walk_of (l := PySem.Challenge.rw_beltshift_k42_walks_looked_at) (n := 63) (k := 6) (x := "_law_script") (CX := fun _ => L2.CX0) (sp := fun w => Mine.sp_law _) rfl (by decide) rfl ⟨rfl, by decide, by decide⟩ (fun w h Y => PySem.W.kIn_of Y) ?F (fun _ _ a ns hl _ hS => ⟨a, ns, rfl, hS, hl, fun _ => rfl⟩) (fun _ _ _ _ _ h => h)
  case F =>
    intro w mg fa h KX G hmg
    refine' Mine.all_mk KX G hmg ?a1 ?l1 ?c1 ?k1 ?a2 ?l2 ?c2 ?k2 ?a3 ?l3 ?c3 ?k3 ?a4 ?l4 ?c4 ?k4 ?a5 ?l5 ?c5 ?k5 ?a6 ?l6 ?c6 ?k6 ?a7 ?l7 ?c7 ?k7 ?a8 ?l8 ?c8 ?k8 ?a9 ?l9 ?c9 ?k9 ?a10 ?l10 ?c10 ?k10 ?a11 ?l11 ?c11 ?k11 ?a12 ?l12 ?c12 ?k12 ?a13 ?l13 ?c13 ?k13 ?a14 ?l14 ?c14 ?k14 ?a15 ?l15 ?c15 ?k15 ?a16 ?l16 ?c16 ?k16 ?a17 ?l17 ?c17 ?k17 ?a18 ?l18 ?c18 ?k18 ?a19 ?l19 ?c19 ?k19 ?a20 ?l20 ?c20 ?k20 ?a21 ?l21 ?c21 ?k21 ?a22 ?l22 ?c22 ?k22 ?a23 ?l23 ?c23 ?k23 ?a24 ?l24 ?c24 ?k24 ?a25 ?l25 ?c25 ?k25 ?a26 ?l26 ?c26 ?k26 ?a27 ?l27 ?c27 ?k27 ?a28 ?l28 ?c28 ?k28 ?a29 ?l29 ?c29 ?k29 ?a30 ?l30 ?c30 ?k30 ?a31 ?l31 ?c31 ?k31 ?a32 ?l32 ?c32 ?k32 ?a33 ?l33 ?c33 ?k33 ?a34 ?l34 ?c34 ?k34 ?a35 ?l35 ?c35 ?k35 ?a36 ?l36 ?c36 ?k36 ?a37 ?l37 ?c37 ?k37 ?a38 ?l38 ?c38 ?k38 ?a39 ?l39 ?c39 ?k39 ?a40 ?l40 ?c40 ?k40 ?a41 ?l41 ?c41 ?k41 ?a42 ?l42 ?c42 ?k42 ?a43 ?l43 ?c43 ?k43 ?a44 ?l44 ?c44 ?k44 ?z1 ?z2 ?z3 ?z4 ?z5 ?z6 ?z7 ?z8 ?z9 ?z10 ?z11 ?z12 ?z13 ?gI ?lI ?gO ?lO
    (case a1 => k_is)
    (case l1 => k_is)
    (case c1 => k_is)
    (case k1 => k_is)
    (case a2 => k_is)
    (case l2 => k_is)
    (case c2 => k_is)
    (case k2 => k_is)
    (case a3 => k_is)
    (case l3 => k_is)
    (case c3 => k_is)
    (case k3 => k_is)
    (case a4 => k_is)
    (case l4 => k_is)
    (case c4 => k_is)
    (case k4 => k_is)
    (case a5 => k_is)
    (case l5 => k_is)
    (case c5 => k_is)
    (case k5 => k_is)
    (case a6 => k_is)
    (case l6 => k_is)
    (case c6 => k_is)
    (case k6 => k_is)
    (case a7 => k_is)
    (case l7 => k_is)
    (case c7 => k_is)
    (case k7 => k_is)
    (case a8 => k_is)
    (case l8 => k_is)
    (case c8 => k_is)
    (case k8 => k_is)
    (case a9 => k_is)
    (case l9 => k_is)
    (case c9 => k_is)
    (case k9 => k_is)
    (case a10 => k_is)
    (case l10 => k_is)
    (case c10 => k_is)
    (case k10 => k_is)
    (case a11 => k_is)
    (case l11 => k_is)
    (case c11 => k_is)
    (case k11 => k_is)
    (case a12 => k_is)
    (case l12 => k_is)
    (case c12 => k_is)
    (case k12 => k_is)
    (case a13 => k_is)
    (case l13 => k_is)
    (case c13 => k_is)
    (case k13 => k_is)
    (case a14 => k_is)
    (case l14 => k_is)
    (case c14 => k_is)
    (case k14 => k_is)
    (case a15 => k_is)
    (case l15 => k_is)
    (case c15 => k_is)
    (case k15 => k_is)
    (case a16 => k_is)
    (case l16 => k_is)
    (case c16 => k_is)
    (case k16 => k_is)
    (case a17 => k_is)
    (case l17 => k_is)
    (case c17 => k_is)
    (case k17 => k_is)
    (case a18 => k_is)
    (case l18 => k_is)
    (case c18 => k_is)
    (case k18 => k_is)
    (case a19 => k_is)
    (case l19 => k_is)
    (case c19 => k_is)
    (case k19 => k_is)
    (case a20 => k_is)
    (case l20 => k_is)
    (case c20 => k_is)
    (case k20 => k_is)
    (case a21 => k_is)
    (case l21 => k_is)
    (case c21 => k_is)
    (case k21 => k_is)
    (case a22 => k_is)
    (case l22 => k_is)
    (case c22 => k_is)
    (case k22 => k_is)
    (case a23 => k_is)
    (case l23 => k_is)
    (case c23 => k_is)
    (case k23 => k_is)
    (case a24 => k_is)
    (case l24 => k_is)
    (case c24 => k_is)
    (case k24 => k_is)
    (case a25 => k_is)
    (case l25 => k_is)
    (case c25 => k_is)
    (case k25 => k_is)
    (case a26 => k_is)
    (case l26 => k_is)
    (case c26 => k_is)
    (case k26 => k_is)
    (case a27 => k_is)
    (case l27 => k_is)
    (case c27 => k_is)
    (case k27 => k_is)
    (case a28 => k_is)
    (case l28 => k_is)
    (case c28 => k_is)
    (case k28 => k_is)
    (case a29 => k_is)
    (case l29 => k_is)
    (case c29 => k_is)
    (case k29 => k_is)
    (case a30 => k_is)
    (case l30 => k_is)
    (case c30 => k_is)
    (case k30 => k_is)
    (case a31 => k_is)
    (case l31 => k_is)
    (case c31 => k_is)
    (case k31 => k_is)
    (case a32 => k_is)
    (case l32 => k_is)
    (case c32 => k_is)
    (case k32 => k_is)
    (case a33 => k_is)
    (case l33 => k_is)
    (case c33 => k_is)
    (case k33 => k_is)
    (case a34 => k_is)
    (case l34 => k_is)
    (case c34 => k_is)
    (case k34 => k_is)
    (case a35 => k_is)
    (case l35 => k_is)
    (case c35 => k_is)
    (case k35 => k_is)
    (case a36 => k_is)
    (case l36 => k_is)
    (case c36 => k_is)
    (case k36 => k_is)
    (case a37 => k_is)
    (case l37 => k_is)
    (case c37 => k_is)
    (case k37 => k_is)
    (case a38 => k_is)
    (case l38 => k_is)
    (case c38 => k_is)
    (case k38 => k_is)
    (case a39 => k_is)
    (case l39 => k_is)
    (case c39 => k_is)
    (case k39 => k_is)
    (case a40 => k_is)
    (case l40 => k_is)
    (case c40 => k_is)
    (case k40 => k_is)
    (case a41 => k_is)
    (case l41 => k_is)
    (case c41 => k_is)
    (case k41 => k_is)
    (case a42 => k_is)
    (case l42 => k_is)
    (case c42 => k_is)
    (case k42 => k_is)
    (case a43 => k_is)
    (case l43 => k_is)
    (case c43 => k_is)
    (case k43 => k_is)
    (case a44 => k_is)
    (case l44 => k_is)
    (case c44 => k_is)
    (case k44 => k_is)
    (case z1 => k_is)
    (case z2 => k_is)
    (case z3 => k_is)
    (case z4 => k_is)
    (case z5 => k_is)
    (case z6 => k_is)
    (case z7 => k_is)
    (case z8 => k_is)
    (case z9 => k_is)
    (case z10 => k_is)
    (case z11 => k_is)
    (case z12 => k_is)
    (case z13 => k_is)
    (case gI => k_is)
    (case lI => k_is)
    (case gO => k_is)
    (case lO => k_is)

