import PyProof.Rows.All
import HandS.TupMul
import Wide.All
import OpenK.AllK
import Wide.FinOn
import HandS.ForMost
import HandS.Wide
import HandS.Style
import HandS.IsInst
import HandS.TupAny
import HandS.NoneIn
import HandS.SetFor
import HandS.Conv
import HandS.Zip
import HandS.SortKw
import HandS.Deep
import KE.DataMinMax
import KE.GoesMore
import KE.KDictZip
import KE.GoesZip
import KE.GoesEnum
import HandS.AnyAll
import HandS.Words
import HandS.EndTab
import HandS.Lambda
import KE.KLam
import KE.DataMinKey
import HandS.HeadWalk
import HandS.Defaults
import HandS.Head0
import HandS.Head1
import HandS.Head2
import HandS.HeadEnd
import HandS.HeadHook1
import HandS.HeadHook2
import HandS.HeadHook3
import HandS.HeadHook4
import KE.KStateDown
import KE.KIsAll
import KE.KNestM
import PyProof.GenCompD
import PyProof.WalksMore
import PySem.Challenge.RW_beltshift_k67_whole_beat_and_works
set_option Elab.async false
set_option linter.all false
set_option maxRecDepth 100000
namespace Mine
open PySem PyProof.Rows L2
def topS (i : Nat) : Stmt := PySem.Challenge.pw_beltshift_k67_whole_beat_and_works.main.body.getD i (.Pass ⟨0, 0, 0, 0⟩)
abbrev s_work_order : Stmt := topS 1
abbrev N_work_order : List Str := ["room", "hands", "belts", "loose", "giver", "taker", "things", "owed", "left", "order", "ready", "hand"]
theorem sc_work_order : FnScope N_work_order ["room"] (defScope s_work_order) := ⟨rfl, rfl, rfl, by decide +kernel, rfl, by decide +kernel, by decide +kernel⟩
abbrev s_comings : Stmt := topS 5
abbrev N_comings : List Str := ["room", "hand", "number", "belt"]
theorem sc_comings : FnScope N_comings ["room", "hand"] (defScope s_comings) := ⟨rfl, rfl, rfl, by decide +kernel, rfl, by decide +kernel, by decide +kernel⟩
abbrev s_doors_in : Stmt := topS 6
abbrev N_doors_in : List Str := ["room", "number", "hand"]
theorem sc_doors_in : FnScope N_doors_in ["room"] (defScope s_doors_in) := ⟨rfl, rfl, rfl, by decide +kernel, rfl, by decide +kernel, by decide +kernel⟩
abbrev s_doors_out : Stmt := topS 7
abbrev N_doors_out : List Str := ["room", "number", "hand"]
theorem sc_doors_out : FnScope N_doors_out ["room"] (defScope s_doors_out) := ⟨rfl, rfl, rfl, by decide +kernel, rfl, by decide +kernel, by decide +kernel⟩
abbrev s_earliest : Stmt := topS 9
abbrev N_earliest : List Str := ["room", "many", "plan", "hand", "begins", "work", "coming"]
theorem sc_earliest : FnScope N_earliest ["room", "many"] (defScope s_earliest) := ⟨rfl, rfl, rfl, by decide +kernel, rfl, by decide +kernel, by decide +kernel⟩
abbrev s_first_moment : Stmt := topS 10
abbrev N_first_moment : List Str := ["room", "begins", "hand", "coming", "work", "moments", "number", "giver", "taker", "things"]
theorem sc_first_moment : FnScope N_first_moment ["room", "begins", "hand", "coming"] (defScope s_first_moment) := ⟨rfl, rfl, rfl, by decide +kernel, rfl, by decide +kernel, by decide +kernel⟩
abbrev s_over_at : Stmt := topS 11
abbrev N_over_at : List Str := ["room", "begins", "hand", "work"]
theorem sc_over_at : FnScope N_over_at ["room", "begins", "hand", "work"] (defScope s_over_at) := ⟨rfl, rfl, rfl, by decide +kernel, rfl, by decide +kernel, by decide +kernel⟩
abbrev s_levels_or_ring : Stmt := topS 13
abbrev N_levels_or_ring : List Str := ["many", "steps", "levels", "last", "raised", "turn"]
theorem sc_levels_or_ring : FnScope N_levels_or_ring ["many", "steps"] (defScope s_levels_or_ring) := ⟨rfl, rfl, rfl, by decide +kernel, rfl, by decide +kernel, by decide +kernel⟩
abbrev s_raise_levels : Stmt := topS 14
abbrev N_raise_levels : List Str := ["levels", "last", "steps", "raised", "number", "begin", "end", "need"]
theorem sc_raise_levels : FnScope N_raise_levels ["levels", "last", "steps"] (defScope s_raise_levels) := ⟨rfl, rfl, rfl, by decide +kernel, rfl, by decide +kernel, by decide +kernel⟩
abbrev s_ring_behind : Stmt := topS 15
abbrev N_ring_behind : List Str := ["place", "last", "steps", "turn", "ring", "here"]
theorem sc_ring_behind : FnScope N_ring_behind ["place", "last", "steps"] (defScope s_ring_behind) := ⟨rfl, rfl, rfl, by decide +kernel, rfl, by decide +kernel, by decide +kernel⟩
abbrev s_trays_on : Stmt := topS 17
abbrev N_trays_on : List Str := ["room", "way", "number"]
theorem sc_trays_on : FnScope N_trays_on ["room", "way"] (defScope s_trays_on) := ⟨rfl, rfl, rfl, by decide +kernel, rfl, by decide +kernel, by decide +kernel⟩
abbrev s_moments_on : Stmt := topS 18
abbrev N_moments_on : List Str := ["room", "way", "hands", "belts", "first", "numbers", "number"]
theorem sc_moments_on : FnScope N_moments_on ["room", "way"] (defScope s_moments_on) := ⟨rfl, rfl, rfl, by decide +kernel, rfl, by decide +kernel, by decide +kernel⟩
abbrev s_way_back : Stmt := topS 19
abbrev N_way_back : List Str := ["room", "end", "last", "numbers", "hand"]
theorem sc_way_back : FnScope N_way_back ["room", "end", "last"] (defScope s_way_back) := ⟨rfl, rfl, rfl, by decide +kernel, rfl, by decide +kernel, by decide +kernel⟩
abbrev s_least_costs : Stmt := topS 20
abbrev N_least_costs : List Str := ["room", "one", "hands", "belts", "costs", "last", "changed", "number", "giver", "taker", "things", "trays", "less", "cost"]
theorem sc_least_costs : FnScope N_least_costs ["room", "one"] (defScope s_least_costs) := ⟨rfl, rfl, rfl, by decide +kernel, rfl, by decide +kernel, by decide +kernel⟩
abbrev s_beat : Stmt := topS 22
abbrev N_beat : List Str := ["room", "fraction", "way", "numbers"]
theorem sc_beat : FnScope N_beat ["room"] (defScope s_beat) := ⟨rfl, rfl, rfl, by decide +kernel, rfl, by decide +kernel, by decide +kernel⟩
abbrev s_holder : Stmt := topS 23
abbrev N_holder : List Str := ["room", "fraction", "way", "numbers"]
theorem sc_holder : FnScope N_holder ["room"] (defScope s_holder) := ⟨rfl, rfl, rfl, by decide +kernel, rfl, by decide +kernel, by decide +kernel⟩
abbrev s_holding : Stmt := topS 24
abbrev N_holding : List Str := ["room", "fraction", "way", "numbers"]
theorem sc_holding : FnScope N_holding ["room"] (defScope s_holding) := ⟨rfl, rfl, rfl, by decide +kernel, rfl, by decide +kernel, by decide +kernel⟩
abbrev s_beat_papers : Stmt := topS 25
abbrev N_beat_papers : List Str := ["room", "hands", "belts", "slowest", "way", "fraction", "levels", "ring"]
theorem sc_beat_papers : FnScope N_beat_papers ["room"] (defScope s_beat_papers) := ⟨rfl, rfl, rfl, by decide +kernel, rfl, by decide +kernel, by decide +kernel⟩
abbrev s_beat_steps : Stmt := topS 26
abbrev N_beat_steps : List Str := ["room", "fraction", "a", "b", "hands", "belts", "giver", "taker", "things"]
theorem sc_beat_steps : FnScope N_beat_steps ["room", "fraction"] (defScope s_beat_steps) := ⟨rfl, rfl, rfl, by decide +kernel, rfl, by decide +kernel, by decide +kernel⟩
abbrev s_ring_moments : Stmt := topS 27
abbrev N_ring_moments : List Str := ["room", "way"]
theorem sc_ring_moments : FnScope N_ring_moments ["room", "way"] (defScope s_ring_moments) := ⟨rfl, rfl, rfl, by decide +kernel, rfl, by decide +kernel, by decide +kernel⟩
abbrev s_in_least_terms : Stmt := topS 28
abbrev N_in_least_terms : List Str := ["a", "b", "divisor", "left"]
theorem sc_in_least_terms : FnScope N_in_least_terms ["a", "b"] (defScope s_in_least_terms) := ⟨rfl, rfl, rfl, by decide +kernel, rfl, by decide +kernel, by decide +kernel⟩
abbrev s_least_time : Stmt := topS 30
abbrev N_least_time : List Str := ["room", "late", "ways", "low", "high", "trays", "moments", "way", "end", "word", "shifts", "bar", "middle", "paper"]
theorem sc_least_time : FnScope N_least_time ["room", "late"] (defScope s_least_time) := ⟨rfl, rfl, rfl, by decide +kernel, rfl, by decide +kernel, by decide +kernel⟩
abbrev s_least_ways : Stmt := topS 31
abbrev N_least_ways : List Str := ["room", "found", "one", "costs", "last", "end", "trays", "less"]
theorem sc_least_ways : FnScope N_least_ways ["room"] (defScope s_least_ways) := ⟨rfl, rfl, rfl, by decide +kernel, rfl, by decide +kernel, by decide +kernel⟩
abbrev s_paper_by : Stmt := topS 32
abbrev N_paper_by : List Str := ["room", "late", "time", "ways", "steps", "trays", "moments", "way", "end", "levels", "ring", "number"]
theorem sc_paper_by : FnScope N_paper_by ["room", "late", "time", "ways"] (defScope s_paper_by) := ⟨rfl, rfl, rfl, by decide +kernel, rfl, by decide +kernel, by decide +kernel⟩
abbrev s_needed : Stmt := topS 33
abbrev N_needed : List Str := ["moments", "time"]
theorem sc_needed : FnScope N_needed ["moments", "time"] (defScope s_needed) := ⟨rfl, rfl, rfl, by decide +kernel, rfl, by decide +kernel, by decide +kernel⟩
abbrev s_jumps : Stmt := topS 34
abbrev N_jumps : List Str := ["room", "late", "door", "other"]
theorem sc_jumps : FnScope N_jumps ["room", "late"] (defScope s_jumps) := ⟨rfl, rfl, rfl, by decide +kernel, rfl, by decide +kernel, by decide +kernel⟩
abbrev s_shifts_by : Stmt := topS 35
abbrev N_shifts_by : List Str := ["room", "late", "levels", "ins", "outs", "highest", "door", "told", "free", "ground", "shifts", "level"]
theorem sc_shifts_by : FnScope N_shifts_by ["room", "late", "levels"] (defScope s_shifts_by) := ⟨rfl, rfl, rfl, by decide +kernel, rfl, by decide +kernel, by decide +kernel⟩
abbrev s_law_flow : Stmt := topS 37
abbrev N_law_flow : List Str := ["_law_script"]
theorem sc_law_flow : FnScope N_law_flow ["_law_script"] (defScope s_law_flow) := ⟨rfl, rfl, rfl, by decide +kernel, rfl, by decide +kernel, by decide +kernel⟩
abbrev s_law_pick : Stmt := topS 38
abbrev N_law_pick : List Str := ["_law_flow_here", "_law_many", "_law_cell", "_law_digit"]
theorem sc_law_pick : FnScope N_law_pick ["_law_flow_here", "_law_many"] (defScope s_law_pick) := ⟨rfl, rfl, rfl, by decide +kernel, rfl, by decide +kernel, by decide +kernel⟩
abbrev s_law_thing : Stmt := topS 39
abbrev N_law_thing : List Str := ["_law_flow_here"]
theorem sc_law_thing : FnScope N_law_thing ["_law_flow_here"] (defScope s_law_thing) := ⟨rfl, rfl, rfl, by decide +kernel, rfl, by decide +kernel, by decide +kernel⟩
abbrev s_law_needs : Stmt := topS 40
abbrev N_law_needs : List Str := ["_law_rule_here"]
theorem sc_law_needs : FnScope N_law_needs ["_law_rule_here"] (defScope s_law_needs) := ⟨rfl, rfl, rfl, by decide +kernel, rfl, by decide +kernel, by decide +kernel⟩
abbrev s_law_rule : Stmt := topS 41
abbrev N_law_rule : List Str := ["_law_flow_here", "_law_most", "_law_words", "_law_word"]
theorem sc_law_rule : FnScope N_law_rule ["_law_flow_here", "_law_most"] (defScope s_law_rule) := ⟨rfl, rfl, rfl, by decide +kernel, rfl, by decide +kernel, by decide +kernel⟩
abbrev s_law_shuffled : Stmt := topS 42
abbrev N_law_shuffled : List Str := ["_law_flow_here", "_law_some", "_law_left", "_law_k"]
theorem sc_law_shuffled : FnScope N_law_shuffled ["_law_flow_here", "_law_some"] (defScope s_law_shuffled) := ⟨rfl, rfl, rfl, by decide +kernel, rfl, by decide +kernel, by decide +kernel⟩
abbrev s_law_hands : Stmt := topS 43
abbrev N_law_hands : List Str := ["_law_flow_here", "_law_many", "_law_sorts", "_law_left", "_law_hands_here", "_law_k", "_law_sort", "_law_behind", "_law_other", "_law_rule_here"]
theorem sc_law_hands : FnScope N_law_hands ["_law_flow_here", "_law_many"] (defScope s_law_hands) := ⟨rfl, rfl, rfl, by decide +kernel, rfl, by decide +kernel, by decide +kernel⟩
abbrev s_law_room : Stmt := topS 44
abbrev N_law_room : List Str := ["_law_flow_here", "_law_most", "_law_hands_here", "_law_ranks", "_law_givers", "_law_k", "_law_takers", "_law_belts", "_law_to", "_law_one", "_law_trays_here"]
theorem sc_law_room : FnScope N_law_room ["_law_flow_here", "_law_most"] (defScope s_law_room) := ⟨rfl, rfl, rfl, by decide +kernel, rfl, by decide +kernel, by decide +kernel⟩
abbrev s_law_doors_room : Stmt := topS 45
abbrev N_law_doors_room : List Str := ["_law_flow_here", "_law_ins", "_law_outs", "_law_sorts", "_law_givers", "_law_k", "_law_sort", "_law_belts", "_law_things", "_law_j"]
theorem sc_law_doors_room : FnScope N_law_doors_room ["_law_flow_here"] (defScope s_law_doors_room) := ⟨rfl, rfl, rfl, by decide +kernel, rfl, by decide +kernel, by decide +kernel⟩
abbrev s_law_any_room : Stmt := topS 46
abbrev N_law_any_room : List Str := ["_law_flow_here", "_law_form", "_law_found"]
theorem sc_law_any_room : FnScope N_law_any_room ["_law_flow_here"] (defScope s_law_any_room) := ⟨rfl, rfl, rfl, by decide +kernel, rfl, by decide +kernel, by decide +kernel⟩
abbrev s_law_trays : Stmt := topS 47
abbrev N_law_trays : List Str := ["_law_room_here", "_law_way", "_law_b"]
theorem sc_law_trays : FnScope N_law_trays ["_law_room_here", "_law_way"] (defScope s_law_trays) := ⟨rfl, rfl, rfl, by decide +kernel, rfl, by decide +kernel, by decide +kernel⟩
abbrev s_law_moments : Stmt := topS 48
abbrev N_law_moments : List Str := ["_law_room_here", "_law_way", "_law_b"]
theorem sc_law_moments : FnScope N_law_moments ["_law_room_here", "_law_way"] (defScope s_law_moments) := ⟨rfl, rfl, rfl, by decide +kernel, rfl, by decide +kernel, by decide +kernel⟩
abbrev s_law_ring_moments : Stmt := topS 49
abbrev N_law_ring_moments : List Str := ["_law_room_here", "_law_way"]
theorem sc_law_ring_moments : FnScope N_law_ring_moments ["_law_room_here", "_law_way"] (defScope s_law_ring_moments) := ⟨rfl, rfl, rfl, by decide +kernel, rfl, by decide +kernel, by decide +kernel⟩
abbrev s_law_held_up : Stmt := topS 50
abbrev N_law_held_up : List Str := ["_law_room_here", "_law_way", "_law_begins", "_law_hands_here", "_law_b", "_law_trays_here", "_law_moments_here", "_law_k", "_law_at"]
theorem sc_law_held_up : FnScope N_law_held_up ["_law_room_here", "_law_way", "_law_begins"] (defScope s_law_held_up) := ⟨rfl, rfl, rfl, by decide +kernel, rfl, by decide +kernel, by decide +kernel⟩
abbrev s_law_held_down : Stmt := topS 51
abbrev N_law_held_down : List Str := ["_law_fraction", "_law_numbers", "_law_begins", "_law_a", "_law_b", "_law_number", "_law_row", "_law_at", "_law_begin"]
theorem sc_law_held_down : FnScope N_law_held_down ["_law_fraction", "_law_numbers", "_law_begins"] (defScope s_law_held_down) := ⟨rfl, rfl, rfl, by decide +kernel, rfl, by decide +kernel, by decide +kernel⟩
abbrev s_law : Stmt := topS 52
abbrev N_law : List Str := ["_law_script", "_law_flow_here", "_law_room_here", "_law_begins", "_law_fraction", "_law_a", "_law_b", "_law_least", "_law_most", "_law_hand"]
theorem sc_law : FnScope N_law ["_law_script"] (defScope s_law) := ⟨rfl, rfl, rfl, by decide +kernel, rfl, by decide +kernel, by decide +kernel⟩

/-- a def of the text stands, binds and is bound -/
def Dd (K : PySem.W.Frag) (mg : Str → Option Value) (name : Str) (st : Stmt) (ps : List Str) : Prop :=
  ∃ (f : Addr) (fd : FuncData), Fun K name name st f fd ∧ Binds K fd ps [] ∧ mg name = some (.ref f)
structure Top (K : PySem.W.Frag) (mg : Str → Option Value) : Prop where
  d_work_order : Dd K mg "work_order" s_work_order ["room"]
  d_comings : Dd K mg "comings" s_comings ["room", "hand"]
  d_doors_in : Dd K mg "doors_in" s_doors_in ["room"]
  d_doors_out : Dd K mg "doors_out" s_doors_out ["room"]
  d_earliest : Dd K mg "earliest" s_earliest ["room", "many"]
  d_first_moment : Dd K mg "first_moment" s_first_moment ["room", "begins", "hand", "coming"]
  d_over_at : Dd K mg "over_at" s_over_at ["room", "begins", "hand", "work"]
  d_levels_or_ring : Dd K mg "levels_or_ring" s_levels_or_ring ["many", "steps"]
  d_raise_levels : Dd K mg "raise_levels" s_raise_levels ["levels", "last", "steps"]
  d_ring_behind : Dd K mg "ring_behind" s_ring_behind ["place", "last", "steps"]
  d_trays_on : Dd K mg "trays_on" s_trays_on ["room", "way"]
  d_moments_on : Dd K mg "moments_on" s_moments_on ["room", "way"]
  d_way_back : Dd K mg "way_back" s_way_back ["room", "end", "last"]
  d_least_costs : Dd K mg "least_costs" s_least_costs ["room", "one"]
  d_beat : Dd K mg "beat" s_beat ["room"]
  d_holder : Dd K mg "holder" s_holder ["room"]
  d_holding : Dd K mg "holding" s_holding ["room"]
  d_beat_papers : Dd K mg "beat_papers" s_beat_papers ["room"]
  d_beat_steps : Dd K mg "beat_steps" s_beat_steps ["room", "fraction"]
  d_ring_moments : Dd K mg "ring_moments" s_ring_moments ["room", "way"]
  d_in_least_terms : Dd K mg "in_least_terms" s_in_least_terms ["a", "b"]
  d_least_time : Dd K mg "least_time" s_least_time ["room", "late"]
  d_least_ways : Dd K mg "least_ways" s_least_ways ["room"]
  d_paper_by : Dd K mg "paper_by" s_paper_by ["room", "late", "time", "ways"]
  d_needed : Dd K mg "needed" s_needed ["moments", "time"]
  d_jumps : Dd K mg "jumps" s_jumps ["room", "late"]
  d_shifts_by : Dd K mg "shifts_by" s_shifts_by ["room", "late", "levels"]
  d_law_flow : Dd K mg "_law_flow" s_law_flow ["_law_script"]
  d_law_pick : Dd K mg "_law_pick" s_law_pick ["_law_flow_here", "_law_many"]
  d_law_thing : Dd K mg "_law_thing" s_law_thing ["_law_flow_here"]
  d_law_needs : Dd K mg "_law_needs" s_law_needs ["_law_rule_here"]
  d_law_rule : Dd K mg "_law_rule" s_law_rule ["_law_flow_here", "_law_most"]
  d_law_shuffled : Dd K mg "_law_shuffled" s_law_shuffled ["_law_flow_here", "_law_some"]
  d_law_hands : Dd K mg "_law_hands" s_law_hands ["_law_flow_here", "_law_many"]
  d_law_room : Dd K mg "_law_room" s_law_room ["_law_flow_here", "_law_most"]
  d_law_doors_room : Dd K mg "_law_doors_room" s_law_doors_room ["_law_flow_here"]
  d_law_any_room : Dd K mg "_law_any_room" s_law_any_room ["_law_flow_here"]
  d_law_trays : Dd K mg "_law_trays" s_law_trays ["_law_room_here", "_law_way"]
  d_law_moments : Dd K mg "_law_moments" s_law_moments ["_law_room_here", "_law_way"]
  d_law_ring_moments : Dd K mg "_law_ring_moments" s_law_ring_moments ["_law_room_here", "_law_way"]
  d_law_held_up : Dd K mg "_law_held_up" s_law_held_up ["_law_room_here", "_law_way", "_law_begins"]
  d_law_held_down : Dd K mg "_law_held_down" s_law_held_down ["_law_fraction", "_law_numbers", "_law_begins"]
  m_any : mg "any" = none
  m_enumerate : mg "enumerate" = none
  m_int : mg "int" = none
  m_len : mg "len" = none
  m_list : mg "list" = none
  m_max : mg "max" = none
  m_min : mg "min" = none
  m_range : mg "range" = none
  m_sum : mg "sum" = none
  m_tuple : mg "tuple" = none
  m_zip : mg "zip" = none
  x_in : ∃ aI : Addr, mg "IN_RULE" = some (.ref aI) ∧ ∀ H : Hp, SqT K H aI [.str "in"]
  x_out : ∃ aO : Addr, mg "OUT_RULE" = some (.ref aO) ∧ ∀ H : Hp, SqT K H aO [.str "out"]

/-! ### heaps -/
def But (f : Addr) (H H' : Hp) : Prop := ∀ b o, H b = some o → b ≠ f → H' b = some o
theorem But.refl {f : Addr} {H : Hp} : But f H H := fun _ _ e _ => e
theorem But.trans {f : Addr} {H H1 H2 : Hp} (a : But f H H1) (b : But f H1 H2) : But f H H2 := fun x o e n => b x o (a x o e n) n
theorem But.upd {f : Addr} {H H1 : Hp} {o : HO} (a : But f H H1) : But f H (upd H1 f o) := fun x u e n => by rw [upd_ne n]; exact a x u e n
theorem But.new {f p : Addr} {H H1 : Hp} {o : HO} (a : But f H H1) (h : H1 p = none) : But f H (L2.upd H1 p o) := fun x u e n => by
  have e1 := a x u e n
  rw [upd_ne (ne_of_none e1 h)]
  exact e1
theorem same_new {H : Hp} {p : Addr} {o : HO} (h : H p = none) : Same H (upd H p o) := fun b u q => by rw [upd_ne (ne_of_none q h)]; exact q
theorem But.same {f : Addr} {H H1 H2 : Hp} (a : But f H H1) (b : Same H1 H2) : But f H H2 := fun x o e n => b x o (a x o e n)
theorem But.seqT {K : PySem.W.Frag} {f a : Addr} {H H1 : Hp} {xs : List V} (b : But f H H1) (h : SqT K H a xs) (n : a ≠ f) : SqT K H1 a xs := by
  rcases h with h | h
  · left
    rcases h with h | ⟨o, h⟩
    · exact .inl (b _ _ h n)
    · exact .inr ⟨o, b _ _ h n⟩
  · exact .inr h
/-- a comprehension without a test -/
theorem yes_in {σ : L2.St} {H : Hp} {A B : Hp → Prop} (h : A H) : tYes σ H (fun b H3 => if b = true then A H3 else B H3) := by
  show (if true = true then A H else B H)
  rw [if_pos rfl]
  exact h
/-! ### the draw -/
/-- the list of the law's draws at f, the script's copy at c -/
def Flow (H : Hp) (f c : Addr) : Prop := ∃ (ns : List Int) (i p q r : Int), H f = some (.lst [.ref c, .int i, .int p, .int q, .int r]) ∧ H c = some (.lst (ns.map V.int)) ∧ 0 ≤ i ∧ 0 ≤ p ∧ 0 ≤ q ∧ q < 2147483647
theorem Flow.new {H : Hp} {f c p : Addr} {o : HO} (h : Flow H f c) (n : H p = none) : Flow (upd H p o) f c := by
  obtain ⟨ns, i, a, q, r, e1, e2, e⟩ := h
  exact ⟨ns, i, a, q, r, same_new n _ _ e1, same_new n _ _ e2, e⟩
theorem Flow.ne {H : Hp} {f c p : Addr} (h : Flow H f c) (n : H p = none) : p ≠ f := by
  obtain ⟨ns, i, a, q, r, e1, _⟩ := h
  exact fun e => by rw [e, e1] at n; cases n
theorem Flow.nec {H : Hp} {f c p : Addr} (h : Flow H f c) (n : H p = none) : p ≠ c := by
  obtain ⟨ns, i, a, q, r, _, e1, _⟩ := h
  exact fun e => by rw [e, e1] at n; cases n
theorem Flow.lst {H : Hp} {f c p : Addr} {o : HO} (h : Flow H f c) (n1 : p ≠ f) (n2 : p ≠ c) : Flow (upd H p o) f c := by
  obtain ⟨ns, i, a, q, r, e1, e2, e⟩ := h
  exact ⟨ns, i, a, q, r, by rw [upd_ne n1.symm]; exact e1, by rw [upd_ne n2.symm]; exact e2, e⟩
theorem Flow.same {H H' : Hp} {f c : Addr} (h : Flow H f c) (s : Same H H') : Flow H' f c := by
  obtain ⟨ns, i, a, q, r, e1, e2, e⟩ := h
  exact ⟨ns, i, a, q, r, s _ _ e1, s _ _ e2, e⟩
theorem Flow.tup {H : Hp} {f c p : Addr} {xs : List V} (h : Flow H f c) (e : H p = some (.tup xs)) : p ≠ f := by
  obtain ⟨ns, i, a, q, r, e1, _⟩ := h
  exact ne_of e e1 (by intro z; cases z)
theorem at_ints {ns : List Int} {i : Int} (h0 : 0 ≤ i) (h1 : i < (ns.length : Int)) : ∃ v : Int, atI (ns.map V.int) i = some (.int v) := by
  have hk : i.toNat < ns.length := by omega
  have ek : i = ((i.toNat : Nat) : Int) := by omega
  have q : atI (ns.map V.int) ((i.toNat : Nat) : Int) = some (.int ns[i.toNat]) := atI_nat (by rw [List.getElem?_map, List.getElem?_eq_getElem hk]; rfl)
  rw [← ek] at q
  exact ⟨_, q⟩
/-- a block by less than it asks -/
theorem PSs.to {X : Cx} {ss : List Stmt} {t : TS} (h : PSs X ss t) (u : TS) (k : ∀ D σ H, u D σ H → t D σ H) : PSs X ss u := ⟨fun pins s σ H D I q => h.run pins s σ H D I (k D σ H q)⟩
theorem if_bl {b : Bool} {A B : Prop} (h1 : b = true → A) (h2 : b = false → B) : if b = true then A else B := by
  cases b
  · rw [if_neg Bool.false_ne_true]; exact h2 rfl
  · rw [if_pos rfl]; exact h1 rfl
/-! ### lists, two by two -/
inductive All2 {α β : Type} (R : α → β → Prop) : List α → List β → Prop
  | nil : All2 R [] []
  | cons {a b as bs} : R a b → All2 R as bs → All2 R (a :: as) (b :: bs)
theorem All2.imp {α β : Type} {R S : α → β → Prop} (h : ∀ a b, R a b → S a b) : ∀ {as bs}, All2 R as bs → All2 S as bs
  | _, _, .nil => .nil
  | _, _, .cons a b => .cons (h _ _ a) (All2.imp h b)
theorem All2.length {α β : Type} {R : α → β → Prop} : ∀ {as bs}, All2 R as bs → as.length = bs.length
  | _, _, .nil => rfl
  | _, _, .cons _ b => congrArg (· + 1) (All2.length b)
theorem All2.snoc {α β : Type} {R : α → β → Prop} {a b} (r : R a b) : ∀ {as bs}, All2 R as bs → All2 R (as ++ [a]) (bs ++ [b])
  | _, _, .nil => .cons r .nil
  | _, _, .cons h t => .cons h (All2.snoc r t)
theorem All2.get {α β : Type} {R : α → β → Prop} {as : List α} {bs : List β} (h : All2 R as bs) : ∀ {i : Nat} {b : β}, bs[i]? = some b → ∃ a, as[i]? = some a ∧ R a b := by
  induction h with
  | nil => intro i b e; cases e
  | cons r t ih =>
    intro i b e
    cases i with
    | zero => cases e; exact ⟨_, rfl, r⟩
    | succ i => exact ih e
theorem All2.getL {α β : Type} {R : α → β → Prop} {as : List α} {bs : List β} (h : All2 R as bs) : ∀ {i : Nat} {a : α}, as[i]? = some a → ∃ b, bs[i]? = some b ∧ R a b := by
  induction h with
  | nil => intro i b e; cases e
  | cons r t ih =>
    intro i b e
    cases i with
    | zero => cases e; exact ⟨_, rfl, r⟩
    | succ i => exact ih e
/-! ### tuples stay -/
def TK (H H' : Hp) : Prop := ∀ b xs, H b = some (.tup xs) → H' b = some (.tup xs)
theorem TK.refl {H : Hp} : TK H H := fun _ _ e => e
theorem TK.trans {H H1 H2 : Hp} (a : TK H H1) (b : TK H1 H2) : TK H H2 := fun x xs e => b x xs (a x xs e)
theorem TK.same {H H' : Hp} (s : Same H H') : TK H H' := fun x xs e => s _ _ e
theorem TK.new {H : Hp} {p : Addr} {o : HO} (n : H p = none) : TK H (upd H p o) := fun x xs e => same_new n _ _ e
theorem TK.lst {H : Hp} {p : Addr} {xs ys : List V} (h : H p = some (.lst xs)) : TK H (upd H p (.lst ys)) := fun x zs e => by
  rw [upd_ne (ne_of e h (by intro z; cases z))]
  exact e
theorem TK.but {H H' : Hp} {f c : Addr} (F : Flow H f c) (b : But f H H') : TK H H' := fun x xs e => b _ _ e (F.tup e)
theorem same_none {H H' : Hp} {p : Addr} (s : Same H H') (n : H' p = none) : H p = none := by
  cases e : H p with
  | none => rfl
  | some o => rw [s _ _ e] at n; cases n
theorem But.none {f p : Addr} {H H' : Hp} (b : But f H H') (n : H' p = Option.none) (h : p ≠ f) : H p = Option.none := by
  cases e : H p with
  | none => rfl
  | some o => rw [b _ _ e h] at n; cases n
theorem But.of {f : Addr} {H H' : Hp} (s : Same H H') : But f H H' := fun _ _ e _ => s _ _ e
/-- a list that was not there is written: what was stays -/
theorem But.own {f p : Addr} {H H1 : Hp} {o : HO} (a : But f H H1) (h : H p = Option.none) : But f H (L2.upd H1 p o) := fun x u e n => by
  rw [upd_ne (ne_of_none e h)]
  exact a x u e n
theorem Same.own {p : Addr} {H H1 : Hp} {o : HO} (a : Same H H1) (h : H p = Option.none) : Same H (L2.upd H1 p o) := fun x u e => by
  rw [upd_ne (ne_of_none e h)]
  exact a x u e
/-! ### loops over any iterator -/
theorem for_it {J : It} {n : Nat} {g : TG} {tb : TS} {D : Ends} {σ : L2.St} {H : Hp} (Pv : Nat → L2.St → Hp → Prop) (h0 : Pv 0 σ H) (go : ∀ i σ H, i < n → Pv i σ H → J.go i H) (st : ∀ σ H, Pv n σ H → J.stop n H)
    (hs : ∀ i x σ H H', i < n → Pv i σ H → J.yld i H x H' → g x σ H' fun σ2 H2 => tb { D with nx := Pv (i + 1), ct := Pv (i + 1), bk := D.nx } σ2 H2) (hd : ∀ σ H, Pv n σ H → D.nx σ H) :
    ∃ W : Nat → Nat → L2.St → Hp → Prop, (∃ m, W 0 m σ H) ∧ ∀ i m σ H, W i m σ H →
      (J.stop i H ∧ D.nx σ H) ∨ (J.go i H ∧ ∃ N : L2.St → Hp → Prop, (∀ σ' H', N σ' H' → ∃ m', m' < m ∧ W (i + 1) m' σ' H') ∧ ∀ x H', J.yld i H x H' → g x σ H' fun σ2 H2 => tb { D with nx := N, ct := N, bk := D.nx } σ2 H2) := by
  refine ⟨fun i m σ H => i + m = n ∧ Pv i σ H, ⟨n, by omega, h0⟩, fun i m σ H ⟨e, p⟩ => ?_⟩
  by_cases k : i < n
  · exact .inr ⟨go i σ H k p, Pv (i + 1), fun σ' H' p' => ⟨m - 1, by omega, by omega, p'⟩, fun x H' y => hs i x σ H H' k p y⟩
  · have z : i = n := by omega
    subst z
    exact .inl ⟨st σ H p, hd σ H p⟩
theorem lc_it {J : It} {n : Nat} {g : TG} {tt : TT} {te : TE} {vs : List Nat} {σ : L2.St} {H1 : Hp} {D : Addr} {Qd : Hp → Prop} (Pv : Nat → Hp → Prop) (h0 : Pv 0 (upd H1 D (.lst []))) (go : ∀ i H, i < n → Pv i H → J.go i H) (st : ∀ H, Pv n H → J.stop n H)
    (hs : ∀ i x H H', i < n → Pv i H → J.yld i H x H' → g x (wipe σ vs) H' fun σ2 H2 => wipe σ2 vs = wipe σ vs ∧ tt σ2 H2 fun b H3 =>
      if b = true then te σ2 H3 fun y H4 => ∃ acc, H4 D = some (.lst acc) ∧ acc.length < sizeLine ∧ Pv (i + 1) (upd H4 D (.lst (acc ++ [y]))) else Pv (i + 1) H3) (hd : ∀ H, Pv n H → Qd H) :
    ∃ W : Nat → Nat → Hp → Prop, (∃ m, W 0 m (upd H1 D (.lst []))) ∧ ∀ i m H, W i m H →
      (J.stop i H ∧ Qd H) ∨ (J.go i H ∧ ∃ Nx : Hp → Prop, (∀ H', Nx H' → ∃ m', m' < m ∧ W (i + 1) m' H') ∧ ∀ x H', J.yld i H x H' → g x (wipe σ vs) H' fun σ2 H2 => wipe σ2 vs = wipe σ vs ∧ tt σ2 H2 fun b H3 =>
        if b = true then te σ2 H3 fun y H4 => ∃ acc, H4 D = some (.lst acc) ∧ acc.length < sizeLine ∧ Nx (upd H4 D (.lst (acc ++ [y]))) else Nx H3) := by
  refine ⟨fun i m H => i + m = n ∧ Pv i H, ⟨n, by omega, h0⟩, fun i m H ⟨e, p⟩ => ?_⟩
  by_cases k : i < n
  · exact .inr ⟨go i H k p, Pv (i + 1), fun H' p' => ⟨m - 1, by omega, by omega, p'⟩, fun x H' y => hs i x H H' k p y⟩
  · have z : i = n := by omega
    subst z
    exact .inl ⟨st H p, hd H p⟩
/-! ### tests -/
theorem if_str {x z : Str} {A B : Prop} (h1 : x = z → A) (h2 : x ≠ z → B) : if decide (V.str x = V.str z) = true then A else B :=
  if_bl (fun e => h1 (V.str.inj (of_decide_eq_true e))) (fun e => h2 (fun q => of_decide_eq_false e (congrArg V.str q)))
theorem inV_strs {x : Str} {zs : List Str} : inV (.str x) (zs.map V.str) = true ↔ x ∈ zs := by
  unfold inV
  induction zs with
  | nil => simp
  | cons z zs ih =>
    rw [List.map_cons, List.any_cons, Bool.or_eq_true, ih, List.mem_cons]
    constructor
    · rintro (h | h)
      · exact .inl (by simpa [eqV] using (show (z == x) = true from h) |> fun k => (eq_of_beq k).symm)
      · exact .inr h
    · rintro (h | h)
      · exact .inl (show (z == x) = true by rw [h]; exact beq_self_eq_true z)
      · exact .inr h
theorem if_in {x : Str} {zs : List Str} {A B : Prop} (h1 : x ∈ zs → A) (h2 : x ∉ zs → B) : if (if false = true then !inV (.str x) (zs.map V.str) else inV (.str x) (zs.map V.str)) = true then A else B := by
  have e : (if false = true then !inV (.str x) (zs.map V.str) else inV (.str x) (zs.map V.str)) = inV (.str x) (zs.map V.str) := if_neg Bool.false_ne_true
  rw [e]
  exact if_bl (fun c => h1 (inV_strs.mp c)) (fun c => h2 (fun k => by rw [inV_strs.mpr k] at c; cases c))
theorem same_seqT {K : PySem.W.Frag} {a : Addr} {H H1 : Hp} {xs : List V} (b : Same H H1) (h : SqT K H a xs) : SqT K H1 a xs := by
  rcases h with h | h
  · left
    rcases h with h | ⟨o, h⟩
    · exact .inl (b _ _ h)
    · exact .inr ⟨o, b _ _ h⟩
  · exact .inr h
theorem little {n : Nat} (h : n ≤ 1000) : n ≤ sizeLine := Nat.le_of_lt (small1000 h)
/-! ### xs[i] op= e -/
def rGetL (K : PySem.W.Frag) : V → V → Hp → VK → Prop := fun o i H Q => ∃ (p : Addr) (xs : List V) (j : Nat) (v : V), o = .ref p ∧ i = .int (j : Nat) ∧ SqL K H p xs ∧ xs[j]? = some v ∧ Q v H
theorem get_list {X : Cx} : PGet X (rGetL X.K) := by
  intro pins st σ H o i ov iv Q J ro ri asked
  obtain ⟨p, xs, j, v, rfl, rfl, hq, hj, now⟩ := asked
  cases ro
  obtain ⟨t, rfl⟩ := ri
  obtain ⟨its, r, pl, hz⟩ := J.list hq
  obtain ⟨u, eu, ru⟩ := r.get hj
  have n1 := (List.getElem?_eq_some_iff.mp hj).1
  have n2 := line63
  exact wpAny_getItem_list pl.isList (by omega) (by omega) (by simpa using eu) ⟨v, H, J, ru, now⟩
/-! ### the same rules, the written part named (so that they fit within comprehensions) -/
section
variable {X : Cx}
theorem ix_listK (K : PySem.W.Frag) (h : X.K = K) : IxR X (rIxL K) := by subst h; exact ix_list
theorem ix_tupK (K : PySem.W.Frag) (h : X.K = K) : IxR X (rIxT K) := by subst h; exact ix_tup
def rLenK (K : PySem.W.Frag) : List V → Hp → VK → Prop := fun xs H Q => ∃ (p : Addr) (ys : List V), xs = [.ref p] ∧ (SqL K H p ys ∨ SqT K H p ys) ∧ Q (.int (ys.length : Nat)) H
theorem call_len_seqK (K : PySem.W.Frag) (h : X.K = K) : CallR X (.builtin "len") (rLenK K) := by subst h; exact call_len_seq
def rListOfK (K : PySem.W.Frag) : List V → Hp → VK → Prop := fun xs H Q => ∃ (p : Addr) (ys : List V), xs = [.ref p] ∧ (SqL K H p ys ∨ SqT K H p ys) ∧ ∀ l, H l = none → Q (.ref l) (upd H l (.lst ys))
theorem call_list_ofK (K : PySem.W.Frag) (h : X.K = K) : CallR X (.type "list") (rListOfK K) := by subst h; exact call_list_of
def rTupOfK (K : PySem.W.Frag) : List V → Hp → VK → Prop := fun xs H Q => ∃ (p : Addr) (ys : List V), xs = [.ref p] ∧ ((SqL K H p ys ∧ ∀ l, H l = none → Q (.ref l) (upd H l (.tup ys))) ∨ (SqT K H p ys ∧ Q (.ref p) H))
theorem call_tuple_ofK (K : PySem.W.Frag) (h : X.K = K) : CallR X (.type "tuple") (rTupOfK K) := by subst h; exact call_tuple_of
theorem op_in_seqK (K : PySem.W.Frag) (h : X.K = K) : OpR X (compareOp .In) (rIn K false) := by subst h; exact op_in_seq
theorem op_notIn_seqK (K : PySem.W.Frag) (h : X.K = K) : OpR X (compareOp .NotIn) (rIn K true) := by subst h; exact op_notIn_seq
theorem sl_listK (K : PySem.W.Frag) (h : X.K = K) : SlR X (rSlL K) := by subst h; exact sl_list
theorem sl_tupAK (K : PySem.W.Frag) (h : X.K = K) : SlR X (rSlA K) := by subst h; exact sl_tupA
theorem op_eqDK (K : PySem.W.Frag) (h : X.K = K) (hu : X.A.units + 64 < cLine) : OpR X (compareOp .Eq) (rEqD K) := by subst h; exact op_eqD hu
theorem op_neDK (K : PySem.W.Frag) (h : X.K = K) (hu : X.A.units + 64 < cLine) : OpR X (compareOp .NotEq) (rNeD K) := by subst h; exact op_neD hu
theorem call_isiKK (K : PySem.W.Frag) (h : X.K = K) : CallR X (.builtin "isinstance") (rIsi K) := by subst h; exact call_isi
theorem cr_allK (K : PySem.W.Frag) (h : X.K = K) (hc : X.calm = true) : CallR X (.builtin "all") (rAll K) := by subst h; exact cr_all hc
theorem cr_anyK (K : PySem.W.Frag) (h : X.K = K) (hc : X.calm = true) : CallR X (.builtin "any") (rAny K) := by subst h; exact cr_any hc
theorem cr_minKK (K : PySem.W.Frag) (h : X.K = K) (hc : X.calm = true) : CallR X (.builtin "min") (rMin K) := by subst h; exact cr_min hc
theorem cr_maxKK (K : PySem.W.Frag) (h : X.K = K) (hc : X.calm = true) : CallR X (.builtin "max") (rMax K) := by subst h; exact cr_max hc
def tTruK (K : PySem.W.Frag) (ta : TE) : TT := fun σ H Q => ta σ H fun x H' => ∃ k, TruV K x H' k ∧ Q k H'
theorem pt_truthK (K : PySem.W.Frag) (h : X.K = K) {a : Expr} {ta : TE} (ha : PE X a ta) (he : ∀ whole, isTrue a X.env whole = (do let v ← whole; standAt a.pos; holding [v] (truthy v))) : PT X a (tTruK K ta) := by subst h; exact pt_truth ha he
theorem get_listK (K : PySem.W.Frag) (h : X.K = K) : PGet X (rGetL K) := by subst h; exact get_list
theorem pg_tupK (K : PySem.W.Frag) (h : X.K = K) {es : List Expr} {k n : Nat} {t : TGs} {pos : Pos} (hc : X.calm = true) (g : PGs X es t)
    (hn : (assignEach es X.env).length = n := by rfl) (hst : (assignEach es X.env).findIdx? (·.1) = none := by rfl) : PG X (.Tuple es k pos) (gTup K n t) := by subst h; exact pg_tup hc g hn hst
theorem pg_unlK (K : PySem.W.Frag) (h : X.K = K) {es : List Expr} {k n : Nat} {t : TGs} {pos : Pos} (hc : X.calm = true) (g : PGs X es t)
    (hn : (assignEach es X.env).length = n := by rfl) (hst : (assignEach es X.env).findIdx? (·.1) = none := by rfl) : PG X (.Tuple es k pos) (gUnl K n t) := by subst h; exact pg_unl hc g hn hst
theorem pi_listK (K : PySem.W.Frag) (h : X.K = K) {tg e : Expr} {te : TE} (he : PE X e te) : PI X tg e (iList K te) := by subst h; exact pi_list he
theorem pi_tupK (K : PySem.W.Frag) (h : X.K = K) {tg e : Expr} {te : TE} (he : PE X e te) : PI X tg e (iTup K te) := by subst h; exact pi_tup he
theorem pe_revLK (K : PySem.W.Frag) (h : X.K = K) {e : Expr} {te : TE} {k : Nat} {p1 p2 p3 pos : Pos} (he : PE X e te) : PE X (.Subscript e (.Slice none none (some (.UnaryOp .USub (.Constant (.int 1) k p1) p2)) p3) pos) (tRevL K te) := by subst h; exact pe_revL he
theorem pe_bmK (K : PySem.W.Frag) (h : X.K = K) {o e : Expr} {es : List Expr} {to : TE} {t : TA} {name : Str} {apos cpos : Pos} {T id : String} {r : V → List V → Hp → VK → Prop}
    (pa : PlainAttrs T) (slot : Slot T name id) (hty : typeOf (.builtin id) = pure (.type "method_descriptor")) (hm : MtR X id r) (ho : PE X o to) (ha : PA X (e :: es) t)
    (n1 : attributeBase o name X.env (eval o X.env) = eval o X.env := by rfl)
    (n2 : ((backTo cpos (starEach (e :: es) X.env)).all (fun x => !x.1) && (backToKw cpos (keywordEach [] X.env)).all (fun x => x.1.isSome) && decide ((e :: es).length + ([] : List Keyword).length + (if ([] : List Keyword).isEmpty then 0 else 1) < 30)) = true := by rfl)
    (n3 : (apos.endLine == cpos.line) = true := by rfl) (n4 : starEach (e :: es) X.env = (false, eval e X.env) :: starEach es X.env := by rfl) (n5 : (backTo cpos (starEach es X.env)).any (·.1) = false := by rfl) :
    PE X (.Call (.Attribute o name apos) (e :: es) [] cpos) (tBM K T r to t) := by subst h; exact pe_bm pa slot hty hm ho ha n1 n2 n3 n4 n5
theorem pe_bm0K (K : PySem.W.Frag) (h : X.K = K) {o : Expr} {to : TE} {name : Str} {apos cpos : Pos} {T id : String} {r : V → List V → Hp → VK → Prop}
    (pa : PlainAttrs T) (slot : Slot T name id) (hty : typeOf (.builtin id) = pure (.type "method_descriptor")) (hm : MtR X id r) (ho : PE X o to)
    (n1 : attributeBase o name X.env (eval o X.env) = eval o X.env := by rfl) (n3 : (apos.endLine == cpos.line) = true := by rfl) : PE X (.Call (.Attribute o name apos) [] [] cpos) (tBM0 K T r to) := by subst h; exact pe_bm0 pa slot hty hm ho n1 n3
theorem op_catAK (K : PySem.W.Frag) (h : X.K = K) : OpR X (binaryOp .Add) (rCatA K) := by subst h; exact op_catA
theorem call_isiTK (K : PySem.W.Frag) (h : X.K = K) : CallR X (.builtin "isinstance") (rIsiT K) := by subst h; exact call_isiT
theorem pi_zipAK (K : PySem.W.Frag) (h : X.K = K) {e e2 : Expr} {ta : TA} {p pos tpos : Pos} {elts : List Expr} {kk : Nat} (hg : Gl X "zip") (hm : X.mg "zip" = none) (ha : PA X [e, e2] ta)
    (hs : starEach [e, e2] X.env = (false, eval e X.env) :: starEach [e2] X.env := by rfl) (hpl : (backTo pos (starEach [e2] X.env)).any (·.1) = false := by rfl) :
    PI X (.Tuple elts kk tpos) (.Call (.Name "zip" p) [e, e2] [] pos) (RZ.iZipA K ta) := by subst h; exact RZ.pi_zipA hg hm ha hs hpl
theorem pi_or {tg e : Expr} {t1 t2 : TI} (h1 : PI X tg e t1) (h2 : PI X tg e t2) : PI X tg e (fun σ H R => t1 σ H R ∨ t2 σ H R) := ⟨fun pins s σ H R I h => h.elim (h1.run pins s σ H R I) (h2.run pins s σ H R I)⟩
end
section
variable {X : Cx}
theorem cr_sumK (K : PySem.W.Frag) (h : X.K = K) (hc : X.calm = true) : CallR X (.builtin "sum") (rSum K) := by subst h; exact cr_sum hc
end
section
variable {X : Cx}
theorem op_ltTK (K : PySem.W.Frag) (h : X.K = K) (hu : X.A.units < cLine) : OpR X (compareOp .Lt) (rLtT K) := by subst h; exact op_ltT hu
end
section
variable {X : Cx}
theorem cr_sortedRevK (K : PySem.W.Frag) (h : X.K = K) {b : Bool} : CallRK X (.builtin "sorted") [Str.ofString "reverse"] (rSortedKw K b [.bl b]) := by subst h; exact cr_sortedRev
theorem op_inDK (K : PySem.W.Frag) (h : X.K = K) (hu : X.A.units + 65 < cLine) : OpR X (compareOp .In) (rInD K) := by subst h; exact op_inD hu
end
theorem hu65 {A : Around} {k : Nat} (hr : Room k A) : A.units + 65 < cLine := by have := hr.un; omega
section
variable {X : Cx}
/-- x not in t, t a tuple of data of any depth -/
def rNotInDT (K : PySem.W.Frag) : R2 := fun x y H Q => ∃ d ds, Dp K H x d ∧ Dp K H y (.tuple ds) ∧ SeqAt.shaped d = true ∧ SeqAt.shaped (.tuple ds) = true ∧ Q (.bl (!ds.any fun z => PyData.eqv z d)) H
theorem op_notInDTK (K : PySem.W.Frag) (same : X.K = K) (room : X.A.units + 65 < cLine) : OpR X (compareOp .NotIn) (rNotInDT K) := by
  subst same
  intro pins st σ H one many ov mv Q J ro rm asked
  have ⟨d, ds, dpO, dpM, shO, shM, done⟩ := asked
  have ⟨_, readO⟩ := Dp.reads J d one ov dpO ro
  have ⟨_, readM⟩ := Dp.reads J (.tuple ds) many mv dpM rm
  exact SeqAt.notIn_tuple_reads readM readO (SeqAt.canLay_of_shaped shM) (SeqAt.canLay_of_shaped shO) (room_in_shaped shO room) ⟨.bl _, H, J, rfl, done⟩
end
/-! ### for x, y in zip(t, l), t a tuple, l a list -/
def IzTL (K : PySem.W.Frag) (a b : Addr) (xs ys : List V) : It :=
  ⟨fun i H => SqT K H a xs ∧ SqL K H b ys ∧ i < xs.length ∧ i < ys.length, fun i H v H' => ∃ T x y, v = .ref T ∧ H T = none ∧ H' = upd H T (.tup [x, y]) ∧ xs[i]? = some x ∧ ys[i]? = some y, fun i H => SqT K H a xs ∧ SqL K H b ys ∧ i ≤ xs.length ∧ i ≤ ys.length ∧ (i = xs.length ∨ i = ys.length)⟩
theorem turn_zipTL {P : Program} {w : World} {K : PySem.W.Frag} {elts : List Expr} {kk : Nat} {tpos : Pos} {a b z TI TO i1 i2 : Addr} (S : ZipSep2 z TI TO i1 i2 [i1, a] [i2, b]) (na : a ≠ i1) (nb : b ≠ i2) (xs ys : List V) :
    Turn P w K (.Tuple elts kk tpos) (IzTL K a b xs ys) [z, TI, TO, i1, i2] z (fun i h => IsZip h z TI TO .none ∧ IsTupOf2 h TI (.ref i1) (.ref i2) ∧ (∃ x y, IsTupOf2 h TO x y) ∧ h.IsTupleIter i1 a i ∧ h.IsListIter i2 b i) where
  mem := by simp
  obj := fun i h stt c hc => by
    obtain ⟨hz, hI, ⟨x, y, hO⟩, ⟨o1, e1, _, d1⟩, ⟨o2, e2, _, d2⟩⟩ := stt
    have any : c = z ∨ c = TI ∨ c = TO ∨ c = i1 ∨ c = i2 := by simpa using hc
    rcases any with q | q | q | q | q <;> subst q
    · exact ⟨_, hz, fun v q => nomatch q⟩
    · exact ⟨_, hI, fun v q => nomatch q⟩
    · exact ⟨_, hO, fun v q => nomatch q⟩
    · exact ⟨o1, e1, fun v q => by rw [d1] at q; cases q⟩
    · exact ⟨o2, e2, fun v q => by rw [d2] at q; cases q⟩
  keep := fun i h h' stt k => by
    obtain ⟨hz, hI, ⟨x, y, hO⟩, k1, k2⟩ := stt
    exact ⟨k z (by simp) _ hz, k TI (by simp) _ hI, ⟨x, y, k TO (by simp) _ hO⟩, k1.at fun o q => k i1 (by simp) o q, k2.at fun o q => k i2 (by simp) o q⟩
  item := by
    intro X hP hw hK hc i pins st σ H E J hf stt going
    subst hP hw hK
    obtain ⟨hz, hI, ⟨x0, y0, hO⟩, k1, k2⟩ := stt
    obtain ⟨hq1, hq2, l1, l2⟩ := going
    obtain ⟨its, rv, tup, _⟩ := J.tuple hq1
    obtain ⟨its2, rv2, lst, _⟩ := J.list hq2
    have len1 := rv.length
    have len2 := rv2.length
    have zl : z < st.heap.objs.size := Heap.lt_size hz
    have D1 := Draws.tuple (prog := X.prog) (w := X.w) (A := X.A.in1) (J.ok.hd hc) i1 a na its.toArray
    have D2 := Draws.list (prog := X.prog) (w := X.w) (A := X.A.in1) (J.ok.hd hc) i2 b nb its2.toArray
    refine wpAny_pyNext_zipD2_item S D1 D2 hz hI hO ⟨k1, tup⟩ ⟨k2, lst.isList⟩ (by rw [List.size_toArray]; omega) (by rw [List.size_toArray]; omega) fun u1 u2 h' tk p1 p2 out hO' s1 s2 new size kp => ?_
    refine ⟨_, rfl, wpAny_letOwnedTupleGo_zip (s := { st with heap := h', toks := tk }) out fun h'' out' sb => ?_⟩
    obtain ⟨x, hx⟩ : ∃ x, xs[i]? = some x := ⟨_, List.getElem?_eq_getElem l1⟩
    obtain ⟨y, hy⟩ : ∃ y, ys[i]? = some y := ⟨_, List.getElem?_eq_getElem l2⟩
    obtain ⟨w1, hw1, r1⟩ := rv.get hx
    obtain ⟨w2, hw2, r2⟩ := rv2.get hy
    have e1 : w1 = u1 := by
      have p1 : its.toArray[i]? = some u1 := p1
      rw [List.getElem?_toArray, hw1] at p1
      exact Option.some.inj p1
    have e2 : w2 = u2 := by
      have p2 : its2.toArray[i]? = some u2 := p2
      rw [List.getElem?_toArray, hw2] at p2
      exact Option.some.inj p2
    subst e1 e2
    have there : h''.get? st.heap.objs.size = some { cls := .type "tuple", data := .seq #[w1, w2] } := (sb.2 _ (Nat.ne_of_gt zl)).trans new
    have good : ObjOk X.prog X.w (upd H st.heap.objs.size (.tup [x, y])) h'' st.heap.objs.size (.tup [x, y]) :=
      ⟨by show 2 ≤ sizeLine; decide, [w1, w2], .cons r1 (.cons r2 .nil), ⟨_, there, rfl, _, rfl⟩⟩
    have J1 : Inv X pins σ (upd H st.heap.objs.size (.tup [x, y])) { st with heap := h'', toks := tk } :=
      J.turnedNew (ch := [z, TI, TO, i1, i2]) (fun c o hb q => (sb.2 c (fun q' => hb (by simp [q']))).trans (kp c o (fun q' => hb (by simp [q'])) (fun q' => hb (by simp [q'])) (fun q' => hb (by simp [q'])) (fun q' => hb (by simp [q'])) q)) hf (Nat.le_refl _) good
    have i1z : i1 ≠ z := fun q => S.zf1 (by simp [q])
    have i2z : i2 ≠ z := fun q => S.zf2 (by simp [q])
    refine ⟨.ref st.heap.objs.size, _, J1, rfl, ⟨_, x, y, rfl, J.hok.fresh (Nat.le_refl _), rfl, hx, hy⟩, ⟨out', ?_, ⟨w1, w2, ?_⟩, ?_, ?_⟩, fun c hcm => ?_⟩
    · exact (sb.2 _ S.TIz).trans (kp _ _ S.TIz S.TITO S.TIi1 S.TIi2 hI)
    · exact (sb.2 _ S.TOz).trans hO'
    · exact s1.1.at fun o q => (sb.2 _ i1z).trans q
    · exact s2.1.at fun o q => (sb.2 _ i2z).trans q
    · have low : c < st.heap.objs.size := by
        have any : c = z ∨ c = TI ∨ c = TO ∨ c = i1 ∨ c = i2 := by simpa using hcm
        rcases any with q | q | q | q | q
        · rw [q]; exact zl
        · rw [q]; exact Heap.lt_size hI
        · rw [q]; exact Heap.lt_size hO
        · rw [q]; obtain ⟨_, q1, _⟩ := k1; exact Heap.lt_size q1
        · rw [q]; obtain ⟨_, q2, _⟩ := k2; exact Heap.lt_size q2
      rw [upd_ne (Nat.ne_of_lt low)]
      exact (hf c hcm).1
  done := by
    intro X hP hw hK hc i pins st σ H E J hf stt over
    subst hP hw hK
    obtain ⟨hz, hI, ⟨x0, y0, hO⟩, k1, k2⟩ := stt
    obtain ⟨hq1, hq2, l1, l2, fin⟩ := over
    obtain ⟨its, rv, tup, _⟩ := J.tuple hq1
    obtain ⟨its2, rv2, lst, _⟩ := J.list hq2
    have len1 := rv.length
    have len2 := rv2.length
    have D1 := Draws.tuple (prog := X.prog) (w := X.w) (A := X.A.in1) (J.ok.hd hc) i1 a na its.toArray
    have D2 := Draws.list (prog := X.prog) (w := X.w) (A := X.A.in1) (J.ok.hd hc) i2 b nb its2.toArray
    refine wpAny_pyNext_zipD2_end S D1 D2 hz hI hO ⟨k1, tup⟩ ⟨k2, lst.isList⟩ (by rw [List.size_toArray]; omega) (by rw [List.size_toArray]; omega) (by rw [List.size_toArray, List.size_toArray]; omega) fun h' tk kp => ⟨rfl, ?_⟩
    exact J.turnedL (t' := tk) (ch := [z, TI, TO, i1, i2]) (fun c o hb q => kp c o (fun q' => hb (by simp [q'])) (fun q' => hb (by simp [q'])) (fun q' => hb (by simp [q'])) (fun q' => hb (by simp [q'])) q) hf
  self := fun A i st Q E stt now => wpAny_pyIter_zip stt.1 now
def iZipTL (K : PySem.W.Frag) (ta : TA) : TI := fun σ H R => ta σ H fun vs H1 => ∃ a b xs ys, vs = [.ref a, .ref b] ∧ SqT K H1 a xs ∧ SqL K H1 b ys ∧ R (IzTL K a b xs ys) H1
theorem pi_zipTL (K : PySem.W.Frag) {X : Cx} (hk : X.K = K) {e e2 : Expr} {ta : TA} {p pos tpos : Pos} {elts : List Expr} {kk : Nat} (hg : Gl X "zip") (hm : X.mg "zip" = none) (ha : PA X [e, e2] ta)
    (hs : starEach [e, e2] X.env = (false, eval e X.env) :: starEach [e2] X.env := by rfl) (hpl : (backTo pos (starEach [e2] X.env)).any (·.1) = false := by rfl) : PI X (.Tuple elts kk tpos) (.Call (.Name "zip" p) [e, e2] [] pos) (iZipTL K ta) := by
  subst hk
  refine ⟨fun pins st σ H R J asked => ?_⟩
  refine Call_ (ld_blt J hg hm PyProof.Rows.boot_zip (PyProof.Rows.callWith_type1 (thn (ha.run pos pins st σ H _ J asked) fun us st1 ⟨vs, H1, J1, rel, now⟩ => ?_) hs hpl))
  obtain ⟨a, b, xs, ys, ex, hq1, hq2, now⟩ := now
  subst ex
  obtain ⟨u1, u2, rfl, r1, r2⟩ := vals2 rel
  obtain rfl : u1 = Value.ref a := r1
  obtain rfl : u2 = Value.ref b := r2
  obtain ⟨its, rv, tup, _⟩ := J1.tuple hq1
  obtain ⟨its2, rv2, lst, _⟩ := J1.list hq2
  have al : a < st1.heap.objs.size := by obtain ⟨o, ho, _⟩ := id tup; exact Heap.lt_size ho
  have bl : b < st1.heap.objs.size := by obtain ⟨o, ho, _⟩ := id lst.isList; exact Heap.lt_size ho
  refine zip_begins2 (begins_tuple a its.toArray) (begins_list b its2.toArray) tup lst.isList fun h' hz hI hO g1 g2 size kp => wpAny_pyIter_zip hz ?_
  have J2 : Inv X pins σ H1 { st1 with heap := h' } := J1.kept (t' := st1.toks) kp
  generalize hn : st1.heap.objs.size = n at *
  have S : ZipSep2 (n + 4) (n + 2) (n + 3) n (n + 1) [n, a] [n + 1, b] :=
    zip_sep2 (fun c hc => by rw [List.mem_singleton.mp hc]; exact al) (fun c hc => by rw [List.mem_singleton.mp hc]; exact bl)
  refine ⟨n + 4, [n + 4, n + 2, n + 3, n, n + 1], _, _, H1, rfl, J2, turn_zipTL S (Nat.ne_of_lt al) (Nat.ne_of_lt (Nat.lt_succ_of_lt bl)) xs ys, ⟨hz, hI, ⟨_, _, hO⟩, ⟨_, g1, rfl, rfl⟩, ⟨_, g2, rfl, rfl⟩⟩, fun c hcm => ?_, now⟩
  have low : n ≤ c := by
    have any : c = n + 4 ∨ c = n + 2 ∨ c = n + 3 ∨ c = n ∨ c = n + 1 := by simpa using hcm
    rcases any with q | q | q | q | q <;> rw [q]
    · exact Nat.le_add_right ..
    · exact Nat.le_add_right ..
    · exact Nat.le_add_right ..
    · exact Nat.le_refl _
    · exact Nat.le_add_right ..
  rw [← hn] at low
  exact J1.fpOk low (J1.hok.fresh low)
/-! ### for i, x in enumerate(t), t a tuple -/
section
open Sem (wp)
open AutoSeq1 (wpAny_loadPart')
theorem enum_of_tup (t : Addr) (its : Array Value) (n : Nat) (dct : Option Addr) (sl : Array (Option Value)) :
    Meets (Builtin.«enumerate.__new__» ⟨[.type "enumerate", .ref t], []⟩) (fun _ R st => st.heap.get? t = some { cls := .type "tuple", dict := dct, data := .seq its n, slots := sl } ∧
      R (.ok (.ret (.ref (st.heap.push { cls := .type "tuple_iterator", data := .fields #[.ref t, .int 0 0] }).objs.size)))
        { st with heap := (st.heap.push { cls := .type "tuple_iterator", data := .fields #[.ref t, .int 0 0] }).push { cls := .type "enumerate", data := .fields #[.none, .bool false, .ref st.heap.objs.size, rawInt 0, .none, .none] } }) :=
  .of_wp fun prog w A R st asked => by
    obtain ⟨hp, g, d, tk, os⟩ := st; obtain ⟨at_, asked⟩ := asked
    have sub := sub_enumerate
    have hT : Heap.IsTuple (Shared.heap ⟨hp, g, d, tk, os⟩) t its := ⟨_, at_, rfl, n, rfl⟩
    wp_walk using wpAny_loadPart' at_
    refine wpAny_stack_any fun stk => wpAny_pure ?_
    split
    · rename_i c _ _ _ _ _
      cases (c == Value.type "enumerate")
      · wp_walk using wpAny_loadPart' at_, wpAny_pyIter_tuple hT
        exact ⟨_, rfl, asked⟩
      · wp_walk using wpAny_loadPart' at_, wpAny_pyIter_tuple hT
        exact ⟨_, rfl, asked⟩
    · wp_walk using wpAny_loadPart' at_, wpAny_pyIter_tuple hT
      exact ⟨_, rfl, asked⟩
theorem call_enum_tup {prog : Program} {w : World} {A : Around} {E : Value → Shared → Prop} {st : Shared} {t : Addr} {its : Array Value} {Q : Value → Shared → Prop} (hT : st.heap.IsTuple t its)
    (now : ∀ h', IsEnum h' (st.heap.objs.size + 1) st.heap.objs.size 0 .none → h'.IsTupleIter st.heap.objs.size t 0 → h'.objs.size = st.heap.objs.size + 2 →
      (∀ b o, st.heap.get? b = some o → h'.get? b = some o) → Q (.ref (st.heap.objs.size + 1)) { st with heap := h' }) :
    wpAny (model prog w) A (call (.type "enumerate") [.ref t]) Q E st := by
  obtain ⟨⟨c, dct, dt, sl⟩, at_, hc, n, hd⟩ := hT
  replace hc : c = .type "tuple" := hc
  replace hd : dt = .seq its n := hd
  subst hc hd
  refine callType_new F.called_enumerate (by decide) (F.typeCall_enumerate_1 _) (F.newCall_enumerate_1 _) (fun obj => F.args_object_init_2 obj _) F.entry_enumerate_new (enum_of_tup t its n dct sl) ⟨at_, ?_⟩
  have size1 : (st.heap.push { cls := .type "tuple_iterator", data := .fields #[.ref t, .int 0 0] }).objs.size = st.heap.objs.size + 1 := Heap.size_push ..
  show _ ∧ _
  rw [size1]
  have made := Heap.get?_push_size (st.heap.push { cls := .type "tuple_iterator", data := .fields #[.ref t, .int 0 0] }) (o := { cls := .type "enumerate", data := .fields #[.none, .bool false, .ref st.heap.objs.size, rawInt 0, .none, .none] }) rfl
  rw [size1] at made
  exact ⟨⟨_, made, rfl⟩, now _ made ⟨_, Heap.get?_push_of_some _ (Heap.get?_push_size _ rfl), rfl, rfl⟩ (by rw [Heap.size_push, size1]) fun b o e => Heap.get?_push_of_some _ (Heap.get?_push_of_some _ e)⟩
end
/-- the tuple at a, each item in a new pair -/
def IteT (K : PySem.W.Frag) (a : Addr) (xs : List V) : It :=
  ⟨fun i H => SqT K H a xs ∧ i < xs.length, fun i H v H' => ∃ T x, v = .ref T ∧ H T = none ∧ H' = upd H T (.tup [.int (i : Nat), x]) ∧ xs[i]? = some x, fun i H => SqT K H a xs ∧ i = xs.length⟩
theorem turn_enumT {P : Program} {w : World} {K : PySem.W.Frag} {elts : List Expr} {kk : Nat} {tpos : Pos} (a e it : Addr) (xs : List V) :
    Turn P w K (.Tuple elts kk tpos) (IteT K a xs) [e, it] e (fun i h => (∃ old, IsEnum h e it ((i : Nat) : Int) old) ∧ h.IsTupleIter it a i ∧ e ≠ it ∧ a ≠ it ∧ a ≠ e) where
  mem := by simp
  obj := fun i h st b hb => by
    obtain ⟨⟨old, he⟩, ⟨o, ho, hc, hd⟩, _⟩ := st
    have either : b = e ∨ b = it := by simpa using hb
    rcases either with z | z
    · rw [z]; exact ⟨_, he, fun v q => nomatch q⟩
    · rw [z]; exact ⟨o, ho, fun v q => by rw [hd] at q; cases q⟩
  keep := fun i h h' st k => let ⟨⟨old, he⟩, hi, apart⟩ := st; ⟨⟨old, k e (by simp) _ he⟩, hi.at fun o q => k it (by simp) o q, apart⟩
  item := by
    intro X hP hw hK hc i pins st σ H E J hf stt going
    subst hP hw hK
    obtain ⟨⟨old, he⟩, hit, n1, n2, n3⟩ := stt
    obtain ⟨hq, hi⟩ := going
    obtain ⟨its, rv, tup, hz⟩ := J.tuple hq
    have len := rv.length
    have el : e < st.heap.objs.size := Heap.lt_size he
    have il : it < st.heap.objs.size := by obtain ⟨_, q, _⟩ := hit; exact Heap.lt_size q
    have D := Draws.tuple (prog := X.prog) (w := X.w) (A := X.A.in1) (J.ok.hd hc) it a n2 its.toArray
    refine wpAny_pyNext_enum_itemD D he ⟨hit, tup⟩ (by rw [List.size_toArray]; omega) n1 (by simp [n1, n3.symm]) fun u h' tk px out stt' new size kp => ?_
    refine ⟨_, rfl, wpAny_letOwnedTupleGo_enum (s := { st with heap := h', toks := tk + 1 }) out fun h'' he' sb => ?_⟩
    obtain ⟨x, hx⟩ : ∃ x, xs[i]? = some x := ⟨_, List.getElem?_eq_getElem hi⟩
    obtain ⟨u', hu', ru⟩ := rv.get hx
    have eu : u' = u := by
      have px : its.toArray[i]? = some u := px
      rw [List.getElem?_toArray, hu'] at px
      exact Option.some.inj px
    subst eu
    have there : h''.get? st.heap.objs.size = some { cls := .type "tuple", data := .seq #[.int i tk, u'] } := (sb.2 _ (Nat.ne_of_gt el)).trans new
    have ok2 : ObjOk X.prog X.w (upd H st.heap.objs.size (.tup [.int (i : Nat), x])) h'' st.heap.objs.size (.tup [.int (i : Nat), x]) :=
      ⟨by show 2 ≤ sizeLine; decide, [.int i tk, u'], .cons ⟨_, rfl⟩ (.cons ru .nil), ⟨_, there, rfl, _, rfl⟩⟩
    have J1 : Inv X pins σ (upd H st.heap.objs.size (.tup [.int (i : Nat), x])) { st with heap := h'', toks := tk + 1 } :=
      J.turnedNew (ch := [e, it]) (fun b ob hb q => (sb.2 b (fun z => hb (by simp [z]))).trans (kp b ob (fun z => hb (by simp [z])) (fun z => hb (by simp [z])) q)) hf (Nat.le_refl _) ok2
    refine ⟨.ref st.heap.objs.size, _, J1, rfl, ⟨_, x, rfl, J.hok.fresh (Nat.le_refl _), rfl, hx⟩, ⟨⟨u', ?_⟩, stt'.1.at fun o q => (sb.2 it (Ne.symm n1)).trans q, n1, n2, n3⟩, fun b hb => ?_⟩
    · rw [show ((i + 1 : Nat) : Int) = (i : Int) + 1 by omega]
      exact he'
    · have bl : b < st.heap.objs.size := by
        have either : b = e ∨ b = it := by simpa using hb
        rcases either with z | z
        · rw [z]; exact el
        · rw [z]; exact il
      rw [upd_ne (Nat.ne_of_lt bl)]
      exact (hf b hb).1
  done := by
    intro X hP hw hK hc i pins st σ H E J hf stt over
    subst hP hw hK
    obtain ⟨⟨old, he⟩, hit, n1, n2, n3⟩ := stt
    obtain ⟨hq, hi⟩ := over
    obtain ⟨its, rv, tup, hz⟩ := J.tuple hq
    obtain ⟨f0, f1, f2, f3, f4, f5⟩ := hf it (by simp)
    have len := rv.length
    have D := Draws.tuple (prog := X.prog) (w := X.w) (A := X.A.in1) (J.ok.hd hc) it a n2 its.toArray
    have ei : its.toArray.size = i := by rw [List.size_toArray]; omega
    exact wpAny_pyNext_enum_endD D he ⟨by rw [ei]; exact hit, tup⟩ fun h' eb => ⟨rfl, J.turned (t' := st.toks) (fun b o hb q => eb b o hb q) f0 f1 f3 f4 f5⟩
  self := fun A i st Q E stt now => let ⟨⟨_, he⟩, _⟩ := stt; wpAny_pyIter_enum he now
def iEnumT (K : PySem.W.Frag) (ta : TA) : TI := fun σ H R => ta σ H fun vs H1 => ∃ a xs, vs = [.ref a] ∧ SqT K H1 a xs ∧ R (IteT K a xs) H1
theorem pi_enumT (K : PySem.W.Frag) {X : Cx} (hk : X.K = K) {e : Expr} {ta : TA} {p pos tpos : Pos} {elts : List Expr} {kk : Nat} (hg : Gl X "enumerate") (hm : X.mg "enumerate" = none) (ha : PA X [e] ta) (hs : starEach [e] X.env = [(false, eval e X.env)] := by rfl) :
    PI X (.Tuple elts kk tpos) (.Call (.Name "enumerate" p) [e] [] pos) (iEnumT K ta) := by
  subst hk
  refine ⟨fun pins st σ H R J asked => ?_⟩
  refine Call_ (ld_blt J hg hm boot_enumerate (PyProof.Rows.callWith_type1 (thn (ha.run pos pins st σ H _ J asked) fun us st1 ⟨vs, H1, J1, rel, now⟩ => ?_) hs rfl))
  obtain ⟨a, xs, ex, hq, now⟩ := now
  subst ex
  obtain ⟨u, rfl, ru⟩ := vals1 rel
  obtain rfl : u = Value.ref a := ru
  obtain ⟨its, rv, tup, hz⟩ := J1.tuple hq
  have al : a < st1.heap.objs.size := by obtain ⟨o, ho, _⟩ := tup; exact Heap.lt_size ho
  refine call_enum_tup tup fun h' he hit size kp => wpAny_pyIter_enum he ?_
  have J2 : Inv X pins σ H1 { st1 with heap := h' } := J1.kept (t' := st1.toks) kp
  refine ⟨st1.heap.objs.size + 1, [st1.heap.objs.size + 1, st1.heap.objs.size], _, _, H1, rfl, J2, turn_enumT a (st1.heap.objs.size + 1) st1.heap.objs.size xs, ⟨⟨.none, he⟩, hit, Nat.succ_ne_self _, Nat.ne_of_lt al, Nat.ne_of_lt (Nat.lt_succ_of_lt al)⟩, fun b hb => ?_, now⟩
  have either : b = st1.heap.objs.size + 1 ∨ b = st1.heap.objs.size := by simpa using hb
  have low : st1.heap.objs.size ≤ b := by
    rcases either with z | z
    · rw [z]; exact Nat.le_add_right _ _
    · rw [z]; exact Nat.le_refl _
  exact J1.fpOk low (J1.hok.fresh low)
theorem one_at {K : PySem.W.Frag} {a : Addr} {od : Option Addr} {z : Str} {t1 : Tok} {n : Nat} {sl : Array (Option Value)} (l : K.lookup a = some ⟨.type "tuple", od, .seq #[.str z t1] n, sl⟩) (H : Hp) : SqT K H a [.str z] :=
  .inr ⟨_, _, _, l, rfl, rfl, (show 1 ≤ sizeLine by decide), .cons ⟨_, rfl⟩ .nil⟩
section
variable {P : Program} {w : World} {K : PySem.W.Frag} {mg : Str → Option Value} {base : Heap}
def sp_law_flow (K : PySem.W.Frag) : Sp := fun vs H Q _ => ∃ (a : Addr) (ns : List Int), vs = [.ref a] ∧ SqL K H a (ns.map V.int) ∧ ∀ (f c : Addr) (H' : Hp), H f = none → H c = none → Flow H' f c → Same H H' → Q (.ref f) H'
theorem ok_law_flow {f : Addr} {fd : FuncData} (F : Fun K "_law_flow" "_law_flow" s_law_flow f fd) (T : Top K mg) : FnOk P w K mg base CX0 1 f fd ["_law_script"] (sp_law_flow K) := by
  refine F.ok sc_law_flow (fun vs H Q E h => ?_) (fun cdv A outer s H vs Q E hr h => ?_)
  · obtain ⟨a, ns, rfl, _⟩ := h
    rfl
  obtain ⟨a, ns, rfl, hS, q⟩ := h
  refine ⟨_, (pss_one (ps_ret (pe_lst (pa_cons (pe_callTy (call_list_ofK K rfl) (by rfl) T.m_list (by decide +kernel) (pa_cons (pv 0) pa_nil)) (pa_cons pe_int (pa_cons pe_int (pa_cons pe_int (pa_cons pe_int pa_nil)))))))), ?_⟩
  refine ⟨_, rfl, a, _, rfl, .inl hS, fun c hc => ?_⟩
  refine ⟨(by show 5 ≤ sizeLine; decide), fun f hf => ?_⟩
  have nf : H f = none := by
    cases e : H f with
    | none => rfl
    | some o => rw [same_new hc _ _ e] at hf; cases hf
  have s1 := same_new (o := .lst (ns.map V.int)) hc
  refine q f c _ nf hc ⟨ns, 0, 0, 1, 0, upd_same, same_new hf _ _ upd_same, by decide, by decide, by decide, by decide⟩ fun b o e => same_new hf _ _ (s1 _ _ e)
def sp_law_pick (K : PySem.W.Frag) : Sp := fun vs H Q _ => ∃ (f c : Addr) (m : Int), vs = [.ref f, .int m] ∧ 0 < m ∧ m.natAbs.log2 < 9000 ∧ Flow H f c ∧
  ∀ (v : Int) (H' : Hp), 0 ≤ v → v < m → Flow H' f c → But f H H' → Q (.int v) H'
theorem ok_law_pick {f : Addr} {fd : FuncData} (F : Fun K "_law_pick" "_law_pick" s_law_pick f fd) (T : Top K mg) : FnOk P w K mg base CX0 1 f fd ["_law_flow_here", "_law_many"] (sp_law_pick K) := by
  refine F.ok sc_law_pick (fun vs H Q E h => ?_) (fun cdv A outer s H vs Q E hr h => ?_)
  · obtain ⟨f, c, m, rfl, _⟩ := h
    rfl
  obtain ⟨f, c, m, rfl, m0, m9, hF, q⟩ := h
  obtain ⟨ns, i, p, z, r, hf, hc, hi, hp, hz, hz2⟩ := hF
  have ncf : c ≠ f := ne_of hc hf (by intro e; injection e with e; cases ns with | nil => cases e | cons x l => cases e)
  let R1 : TS := fun D' σ' H' => D'.rt = Q ∧ ∃ x2 : Option V, σ' = [some (.ref f), some (.int m), x2, none] ∧ (∃ (i p z r : Int), H' f = some (.lst [.ref c, .int i, .int p, .int z, .int r]) ∧ H' c = some (.lst (ns.map V.int)) ∧ 0 ≤ i ∧ 0 ≤ p ∧ 0 ≤ z ∧ z < 2147483647) ∧ But f H H'
  refine ⟨_, (pss_cons (ps_if (PW.pt (pw_and (pt_cmpR op_eq (pe_ix (ix_listK K rfl) (pv 0) pe_int (fun _ _ => rfl)) pe_int (nomark _)) (pw_and1 (pt_cmpR op_lt (pe_ix (ix_listK K rfl) (pv 0) pe_int (fun _ _ => rfl)) (pe_callB (call_len_seqK K rfl) (by rfl) T.m_len (by decide +kernel) (pa_cons (pe_ix (ix_listK K rfl) (pv 0) pe_int (fun _ _ => rfl)) pa_nil)) (nomark _))))) (pss_cons (ps_set (i := 2) sc_law_pick.nd rfl (Or.inl rfl) (pe_ix (ix_listK K rfl) (pe_ix (ix_listK K rfl) (pv 0) pe_int (fun _ _ => rfl)) (pe_ix (ix_listK K rfl) (pv 0) pe_int (fun _ _ => rfl)) (fun _ _ => rfl)))
      (pss_cons (ps_asg (pe_op op_add (pe_ix (ix_listK K rfl) (pv 0) pe_int (fun _ _ => rfl)) pe_int) (pg_sub (pv 0) pe_int set_list))
      (pss_one (ps_if (pt_cmpR op_ge (pv 2) (pe_op op_pow pe_int pe_int) (nomark _)) (pss_one (ps_asg (pv 2) (pg_sub (pv 0) pe_int set_list))) (pss_one (ps_asg (pe_op op_mod (pe_op op_add (pe_op op_add (pe_op op_mul (pe_ix (ix_listK K rfl) (pv 0) pe_int (fun _ _ => rfl)) pe_int) (pe_op op_mod (pv 2) pe_int)) pe_int) pe_int) (pg_sub (pv 0) pe_int set_list))))))) pss_nil)
      (PSs.to (pss_cons (ps_if (pt_cmpR op_gt (pe_ix (ix_listK K rfl) (pv 0) pe_int (fun _ _ => rfl)) pe_int (nomark _)) (pss_cons (ps_set (i := 3) sc_law_pick.nd rfl (Or.inl rfl) (pe_op op_mod (pe_ix (ix_listK K rfl) (pv 0) pe_int (fun _ _ => rfl)) (pv 1)))
      (pss_cons (ps_asg (pe_op op_fdivW (pe_ix (ix_listK K rfl) (pv 0) pe_int (fun _ _ => rfl)) (pv 1)) (pg_sub (pv 0) pe_int set_list))
      (pss_one (ps_ret (pv 3))))) pss_nil)
      (pss_cons (ps_asg (pe_op op_add (pe_ix (ix_listK K rfl) (pv 0) pe_int (fun _ _ => rfl)) pe_int) (pg_sub (pv 0) pe_int set_list))
      (pss_cons (ps_asg (pe_op op_mod (pe_op op_add (pe_op op_add (pe_op op_mul (pe_ix (ix_listK K rfl) (pv 0) pe_int (fun _ _ => rfl)) pe_int) pe_int) (pe_ix (ix_listK K rfl) (pv 0) pe_int (fun _ _ => rfl))) pe_int) (pg_sub (pv 0) pe_int set_list))
      (pss_one (ps_ret (pe_op op_mod (pe_op op_fdiv (pe_op op_mod (pe_op op_mul (pe_op op_add (pe_op op_mod (pe_ix (ix_listK K rfl) (pv 0) pe_int (fun _ _ => rfl)) pe_int) pe_int) (pe_op op_add (pe_op op_fdiv (pe_ix (ix_listK K rfl) (pv 0) pe_int (fun _ _ => rfl)) pe_int) pe_int)) pe_int) pe_int) (pv 1))))))) R1 ?tail1)), ?_⟩
  case tail1 =>
    rintro D' σ' H1 ⟨eD, x2, rfl, ⟨i, p, z, r, hf, hc, hi, hp, hz, hz2⟩, bt⟩
    refine ⟨_, rfl, f, _, _, _, rfl, rfl, SqL.of hf, atI_nat (j := 2) rfl, _, _, rfl, rfl, _, rfl, if_bl (fun c1 => ?_) (fun c1 => ?_)⟩
    · refine ⟨_, rfl, f, _, _, _, rfl, rfl, SqL.of hf, atI_nat (j := 2) rfl, _, rfl, _, _, rfl, rfl, m0, ?_⟩
      refine ⟨_, rfl, f, _, _, _, rfl, rfl, SqL.of hf, atI_nat (j := 2) rfl, _, rfl, _, _, rfl, rfl, ⟨m0, m9⟩, _, rfl, f, _, _, 2, rfl, rfl, hf, rfl, ?_⟩
      refine ⟨_, rfl, ?_⟩
      rw [eD]
      exact q _ _ (Int.emod_nonneg _ (by omega)) (Int.emod_lt_of_pos _ m0) ⟨ns, i, p / m, z, r, upd_same, (by rw [upd_ne ncf]; exact hc), hi, Int.ediv_nonneg hp (by omega), hz, hz2⟩ bt.upd
    · refine ⟨_, rfl, f, _, _, _, rfl, rfl, SqL.of hf, atI_nat (j := 4) rfl, _, _, rfl, rfl, _, rfl, f, _, _, 4, rfl, rfl, hf, rfl, ?_⟩
      have hf2 : upd H1 f (.lst ([V.ref c, V.int i, V.int p, V.int z, V.int r].set 4 (V.int (r + 1)))) f = some (.lst [.ref c, .int i, .int p, .int z, .int (r + 1)]) := upd_same
      refine ⟨_, rfl, f, _, _, _, rfl, rfl, SqL.of hf2, atI_nat (j := 3) rfl, _, _, rfl, rfl, .inl ⟨by omega, by omega⟩, _, _, rfl, rfl, _, rfl, f, _, _, _, rfl, rfl, SqL.of hf2, atI_nat (j := 4) rfl, _, _, rfl, rfl, _, _, rfl, rfl, (by show (0 : Int) < 2147483647; decide), _, rfl, f, _, _, 3, rfl, rfl, hf2, rfl, ?_⟩
      have z0 : 0 ≤ (z * 48271 + 12820163 + (r + 1)) % 2147483647 := Int.emod_nonneg _ (by decide)
      have z1 : (z * 48271 + 12820163 + (r + 1)) % 2147483647 < 2147483647 := Int.emod_lt_of_pos _ (by decide)
      have hf3 : upd (upd H1 f (.lst ([V.ref c, V.int i, V.int p, V.int z, V.int r].set 4 (V.int (r + 1))))) f (.lst ([V.ref c, V.int i, V.int p, V.int z, V.int (r + 1)].set 3 (V.int ((z * 48271 + 12820163 + (r + 1)) % 2147483647)))) f =
        some (.lst [.ref c, .int i, .int p, .int ((z * 48271 + 12820163 + (r + 1)) % 2147483647), .int (r + 1)]) := upd_same
      have hc3 : upd (upd H1 f (.lst ([V.ref c, V.int i, V.int p, V.int z, V.int r].set 4 (V.int (r + 1))))) f (.lst ([V.ref c, V.int i, V.int p, V.int z, V.int (r + 1)].set 3 (V.int ((z * 48271 + 12820163 + (r + 1)) % 2147483647)))) c = some (.lst (ns.map V.int)) := by
        rw [upd_ne ncf, upd_ne ncf]
        exact hc
      refine ⟨_, rfl, f, _, _, _, rfl, rfl, SqL.of hf3, atI_nat (j := 3) rfl, _, _, rfl, rfl, (by show (0 : Int) < 65521; decide), _, _, rfl, rfl, _, rfl, f, _, _, _, rfl, rfl, SqL.of hf3, atI_nat (j := 3) rfl, _, _, rfl, rfl, ⟨by decide, by decide⟩, _, _, rfl, rfl, _, _, rfl, rfl, .inl ⟨?_, ?_⟩, _, _, rfl, rfl, (by show (0 : Int) < 1000003; decide), _, _, rfl, rfl, ⟨by decide, by decide⟩, _, rfl, _, _, rfl, rfl, m0, ?_⟩
      · omega
      · omega
      · rw [eD]
        exact q _ _ (Int.emod_nonneg _ (by omega)) (Int.emod_lt_of_pos _ m0) ⟨ns, i, p, _, r + 1, hf3, hc3, hi, hp, z0, z1⟩ bt.upd.upd
  refine ⟨_, rfl, f, _, _, _, rfl, rfl, SqL.of hf, atI_nat (j := 2) rfl, rfl, _, rfl, if_bl (fun c1 => ?_) (fun c1 => ?_)⟩
  · refine ⟨_, rfl, f, _, _, _, rfl, rfl, SqL.of hf, atI_nat (j := 1) rfl, _, rfl, f, _, _, _, rfl, rfl, SqL.of hf, atI_nat (j := 0) rfl, c, _, rfl, .inl (SqL.of hc), _, _, rfl, rfl, _, rfl, if_bl (fun c2 => ?_) (fun c2 => ?_)⟩
    · have c3 : i < ((ns.map V.int).length : Int) := of_decide_eq_true c2
      rw [List.length_map] at c3
      obtain ⟨v, hv⟩ := at_ints hi c3
      refine ⟨_, rfl, f, _, _, _, rfl, rfl, SqL.of hf, atI_nat (j := 0) rfl, _, rfl, f, _, _, _, rfl, rfl, SqL.of hf, atI_nat (j := 1) rfl, c, _, i, _, rfl, rfl, SqL.of hc, hv, ?_⟩
      refine ⟨_, rfl, f, _, _, _, rfl, rfl, SqL.of hf, atI_nat (j := 1) rfl, _, _, rfl, rfl, _, rfl, f, _, _, 1, rfl, rfl, hf, rfl, ?_⟩
      have hf2 : upd H f (.lst ([V.ref c, V.int i, V.int p, V.int z, V.int r].set 1 (V.int (i + 1)))) f = some (.lst [.ref c, .int (i + 1), .int p, .int z, .int r]) := upd_same
      refine ⟨_, rfl, _, _, rfl, rfl, ⟨by decide, by decide, by decide⟩, _, _, rfl, rfl, _, rfl, if_bl (fun c4 => ?_) (fun c4 => ?_)⟩
      · have c5 : (10 : Int) ^ (18 : Int).toNat ≤ v := of_decide_eq_true c4
        have c6 : (0 : Int) ≤ (10 : Int) ^ (18 : Int).toNat := by decide
        refine ⟨_, rfl, _, rfl, f, _, _, 2, rfl, rfl, hf2, rfl, rfl, _, rfl, ⟨i + 1, v, z, r, upd_same, ?_, by omega, by omega, hz, hz2⟩, But.refl.upd.upd⟩
        rw [upd_ne ncf, upd_ne ncf]
        exact hc
      · refine ⟨_, rfl, f, _, _, _, rfl, rfl, SqL.of hf2, atI_nat (j := 3) rfl, _, _, rfl, rfl, .inl ⟨by omega, by omega⟩, _, rfl, _, _, rfl, rfl, (by show (0 : Int) < 1000003; decide), _, _, rfl, rfl, _, _, rfl, rfl, _, _, rfl, rfl, (by show (0 : Int) < 2147483647; decide), _, rfl, f, _, _, 3, rfl, rfl, hf2, rfl, rfl, _, rfl, ⟨i + 1, p, _, r, upd_same, ?_, by omega, hp, Int.emod_nonneg _ (by decide), Int.emod_lt_of_pos _ (by decide)⟩, But.refl.upd.upd⟩
        rw [upd_ne ncf, upd_ne ncf]
        exact hc
    · exact ⟨rfl, _, rfl, ⟨i, p, z, r, hf, hc, hi, hp, hz, hz2⟩, But.refl⟩
  · exact ⟨rfl, _, rfl, ⟨i, p, z, r, hf, hc, hi, hp, hz, hz2⟩, But.refl⟩
end
/-! ### rooms: what they are -/
/-- a hand: its rule's word, its number if it has one, its moments -/
structure HR where
  wd : Str
  no : Option Int
  mom : Int
/-- a belt -/
structure BR where
  one : Nat
  to : Nat
  th : List Int
abbrev ruleL (h : HR) : List V := .str h.wd :: (match h.no with | none => [] | some n => [.int n])
def HandAt (H : Hp) (v : V) (h : HR) : Prop := ∃ t r : Addr, v = .ref t ∧ H t = some (.tup [.ref r, .int h.mom]) ∧ H r = some (.tup (ruleL h))
def BeltAt (H : Hp) (v : V) (b : BR) : Prop := ∃ t g : Addr, v = .ref t ∧ H t = some (.tup [.int (b.one : Nat), .int (b.to : Nat), .ref g]) ∧ H g = some (.tup (b.th.map V.int))
theorem HandAt.keep {H H' : Hp} {v : V} {h : HR} (a : HandAt H v h) (k : TK H H') : HandAt H' v h := by
  obtain ⟨t, r, e, e1, e2⟩ := a
  exact ⟨t, r, e, k _ _ e1, k _ _ e2⟩
theorem BeltAt.keep {H H' : Hp} {v : V} {b : BR} (a : BeltAt H v b) (k : TK H H') : BeltAt H' v b := by
  obtain ⟨t, r, e, e1, e2⟩ := a
  exact ⟨t, r, e, k _ _ e1, k _ _ e2⟩
def nine : List Str := ["always", "same", "times", "sum", "gap", "below", "most", "least", "pick"]
def needs (wd : Str) : Int := if wd ∈ (["in", "always"] : List Str) then 0 else if wd ∈ (["out", "same", "times"] : List Str) then 1 else 2 + (if wd = "pick" then 1 else 0)
/-- a rule of one of the nine words -/
structure GoodRule (h : HR) : Prop where
  wd : h.wd ∈ nine
  no : h.no.isSome = true ↔ h.wd = "times" ∨ h.wd = "always"
  big : ∀ n, h.no = some n → -1000000 ≤ n ∧ n ≤ 1000000
def GoodHand (h : HR) : Prop := (GoodRule h ∨ ((h.wd = "in" ∨ h.wd = "out") ∧ h.no = none)) ∧ 0 ≤ h.mom ∧ h.mom ≤ 30
def Small (v : Int) : Prop := -1000000 ≤ v ∧ v ≤ 1000000
section
variable {P : Program} {w : World} {K : PySem.W.Frag} {mg : Str → Option Value} {base : Heap}
def sp_law_thing (K : PySem.W.Frag) : Sp := fun vs H Q _ => ∃ f c : Addr, vs = [.ref f] ∧ Flow H f c ∧ ∀ (v : Int) (H' : Hp), Small v → Flow H' f c → But f H H' → Q (.int v) H'
theorem ok_law_thing {f : Addr} {fd : FuncData} (F : Fun K "_law_thing" "_law_thing" s_law_thing f fd) (T : Top K mg) : FnOk P w K mg base CX0 2 f fd ["_law_flow_here"] (sp_law_thing K) := by
  obtain ⟨f_law_pick, fd_law_pick, F_law_pick, b_law_pick, m_law_pick⟩ := T.d_law_pick
  have G_law_pick := ok_law_pick (P := P) (w := w) (base := base) F_law_pick T
  refine F.ok sc_law_thing (fun vs H Q E h => ?_) (fun cdv A outer s H vs Q E hr h => ?_)
  · obtain ⟨f, c, rfl, _⟩ := h
    rfl
  obtain ⟨f, c, rfl, hF, q⟩ := h
  refine ⟨_, (pss_cons (ps_if (pt_cmpR op_gt (pe_call G_law_pick (hr.mono (by decide)) (by rfl) m_law_pick F_law_pick.kp b_law_pick .nil pass0 (pa_cons (pv 0) (pa_cons pe_int pa_nil))) pe_int (nomark _)) (pss_one (ps_ret (pe_op op_sub (pe_call G_law_pick (hr.mono (by decide)) (by rfl) m_law_pick F_law_pick.kp b_law_pick .nil pass0 (pa_cons (pv 0) (pa_cons pe_int pa_nil))) pe_int))) pss_nil)
      (pss_one (ps_ret (pe_op op_sub (pe_call G_law_pick (hr.mono (by decide)) (by rfl) m_law_pick F_law_pick.kp b_law_pick .nil pass0 (pa_cons (pv 0) (pa_cons pe_int pa_nil))) pe_int)))), ?_⟩
  refine ⟨_, rfl, f, c, 3, rfl, by decide, by decide +kernel, hF, fun v1 H1 a1 b1 F1 B1 => ⟨_, _, rfl, rfl, _, rfl, if_bl (fun _ => ?_) (fun _ => ?_)⟩⟩
  · exact ⟨_, rfl, f, c, 7, rfl, by decide, by decide +kernel, F1, fun v2 H2 a2 b2 F2 B2 => ⟨_, _, rfl, rfl, q _ _ ⟨by omega, by omega⟩ F2 (B1.trans B2)⟩⟩
  · exact ⟨_, rfl, f, c, 2000001, rfl, by decide, by decide +kernel, F1, fun v2 H2 a2 b2 F2 B2 => ⟨_, _, rfl, rfl, q _ _ ⟨by omega, by omega⟩ F2 (B1.trans B2)⟩⟩
def sp_law_needs (K : PySem.W.Frag) : Sp := fun vs H Q _ => ∃ (r : Addr) (wd : Str) (l : List V), vs = [.ref r] ∧ SqT K H r (.str wd :: l) ∧ ∀ H', Same H H' → Q (.int (needs wd)) H'
theorem ok_law_needs {f : Addr} {fd : FuncData} (F : Fun K "_law_needs" "_law_needs" s_law_needs f fd) (T : Top K mg) : FnOk P w K mg base CX0 1 f fd ["_law_rule_here"] (sp_law_needs K) := by
  refine F.ok sc_law_needs (fun vs H Q E h => ?_) (fun cdv A outer s H vs Q E hr h => ?_)
  · obtain ⟨r, wd, l, rfl, _⟩ := h
    rfl
  obtain ⟨r, wd, l, rfl, hR, q⟩ := h
  unfold needs at q
  refine ⟨_, (pss_cons (ps_if (pt_cmpR (op_in_seqK K rfl) (pe_ix (ix_tupK K rfl) (pv 0) pe_int (fun _ _ => rfl)) (pe_tup (pa_cons pe_str (pa_cons pe_str pa_nil))) (by with_unfolding_all rfl)) (pss_one (ps_ret pe_int)) pss_nil)
      (pss_cons (ps_if (pt_cmpR (op_in_seqK K rfl) (pe_ix (ix_tupK K rfl) (pv 0) pe_int (fun _ _ => rfl)) (pe_tup (pa_cons pe_str (pa_cons pe_str (pa_cons pe_str pa_nil)))) (by with_unfolding_all rfl)) (pss_one (ps_ret pe_int)) pss_nil)
      (pss_one (ps_ret (pe_op op_add pe_int (pe_callTy call_int1 (by rfl) T.m_int (by decide +kernel) (pa_cons (pe_cmpR op_eq (pe_ix (ix_tupK K rfl) (pv 0) pe_int (fun _ _ => rfl)) pe_str (nomark _)) pa_nil))))))), ?_⟩
  refine ⟨_, rfl, r, _, _, _, rfl, rfl, hR, atI_nat (j := 0) rfl, (by show 2 ≤ sizeLine; decide), fun p np => ⟨p, _, rfl, .inr (SqT.of upd_same), rfl, rfl, _, rfl, if_in (zs := ["in", "always"]) (fun e => ?_) (fun e => ?_)⟩⟩
  · have q := q _ (same_new (o := .tup [V.str "in", V.str "always"]) np)
    rw [if_pos e] at q
    exact q
  have s1 := same_new (o := .tup [V.str "in", V.str "always"]) np
  refine ⟨_, rfl, r, _, _, _, rfl, rfl, same_seqT s1 hR, atI_nat (j := 0) rfl, (by show 3 ≤ sizeLine; decide), fun p2 np2 => ⟨p2, _, rfl, .inr (SqT.of upd_same), rfl, rfl, _, rfl, if_in (zs := ["out", "same", "times"]) (fun e2 => ?_) (fun e2 => ?_)⟩⟩
  · have q := q _ (s1.trans (same_new (o := .tup [V.str "out", V.str "same", V.str "times"]) np2))
    rw [if_neg e, if_pos e2] at q
    exact q
  have s2 := s1.trans (same_new (o := .tup [V.str "out", V.str "same", V.str "times"]) np2)
  have q := q _ s2
  rw [if_neg e, if_neg e2] at q
  refine ⟨_, rfl, r, _, _, _, rfl, rfl, same_seqT s2 hR, atI_nat (j := 0) rfl, rfl, .inr ⟨_, rfl, _, _, rfl, rfl, ?_⟩⟩
  by_cases k : wd = "pick"
  · rw [if_pos k] at q
    rw [decide_eq_true (show V.str wd = V.str "pick" by rw [k])]
    exact q
  · rw [if_neg k] at q
    rw [decide_eq_false (show ¬ V.str wd = V.str "pick" from fun z => k (V.str.inj z))]
    exact q
theorem nine_at {m : Int} (h0 : 0 ≤ m) (h9 : m < 9) : ∃ wd : Str, wd ∈ nine ∧ atI (nine.map V.str) m = some (.str wd) ∧ (m < 1 → needs wd ≤ 0) ∧ (m < 3 → needs wd ≤ 1) ∧ (m < 8 → needs wd ≤ 2) ∧ needs wd ≤ 3 ∧ 0 ≤ needs wd := by
  have : m = 0 ∨ m = 1 ∨ m = 2 ∨ m = 3 ∨ m = 4 ∨ m = 5 ∨ m = 6 ∨ m = 7 ∨ m = 8 := by omega
  rcases this with rfl | rfl | rfl | rfl | rfl | rfl | rfl | rfl | rfl
  · exact ⟨"always", by decide +kernel, rfl, by decide +kernel, by decide +kernel, by decide +kernel, by decide +kernel, by decide +kernel⟩
  · exact ⟨"same", by decide +kernel, rfl, by decide +kernel, by decide +kernel, by decide +kernel, by decide +kernel, by decide +kernel⟩
  · exact ⟨"times", by decide +kernel, rfl, by decide +kernel, by decide +kernel, by decide +kernel, by decide +kernel, by decide +kernel⟩
  · exact ⟨"sum", by decide +kernel, rfl, by decide +kernel, by decide +kernel, by decide +kernel, by decide +kernel, by decide +kernel⟩
  · exact ⟨"gap", by decide +kernel, rfl, by decide +kernel, by decide +kernel, by decide +kernel, by decide +kernel, by decide +kernel⟩
  · exact ⟨"below", by decide +kernel, rfl, by decide +kernel, by decide +kernel, by decide +kernel, by decide +kernel, by decide +kernel⟩
  · exact ⟨"most", by decide +kernel, rfl, by decide +kernel, by decide +kernel, by decide +kernel, by decide +kernel, by decide +kernel⟩
  · exact ⟨"least", by decide +kernel, rfl, by decide +kernel, by decide +kernel, by decide +kernel, by decide +kernel, by decide +kernel⟩
  · exact ⟨"pick", by decide +kernel, rfl, by decide +kernel, by decide +kernel, by decide +kernel, by decide +kernel, by decide +kernel⟩
def sp_law_rule (K : PySem.W.Frag) : Sp := fun vs H Q _ => ∃ (f c : Addr) (m : Int), vs = [.ref f, .int m] ∧ 0 ≤ m ∧ Flow H f c ∧
  ∀ (r : Addr) (h : HR) (H' : Hp), H' r = some (.tup (ruleL h)) → GoodRule h → needs h.wd ≤ m → 0 ≤ needs h.wd → h.mom = 0 → Flow H' f c → But f H H' → Q (.ref r) H'
theorem ok_law_rule {f : Addr} {fd : FuncData} (F : Fun K "_law_rule" "_law_rule" s_law_rule f fd) (T : Top K mg) : FnOk P w K mg base CX0 3 f fd ["_law_flow_here", "_law_most"] (sp_law_rule K) := by
  obtain ⟨f_law_pick, fd_law_pick, F_law_pick, b_law_pick, m_law_pick⟩ := T.d_law_pick
  have G_law_pick := ok_law_pick (P := P) (w := w) (base := base) F_law_pick T
  obtain ⟨f_law_thing, fd_law_thing, F_law_thing, b_law_thing, m_law_thing⟩ := T.d_law_thing
  have G_law_thing := ok_law_thing (P := P) (w := w) (base := base) F_law_thing T
  refine F.ok sc_law_rule (fun vs H Q E h => ?_) (fun cdv A outer s H vs Q E hr h => ?_)
  · obtain ⟨f, c, m, rfl, _⟩ := h
    rfl
  obtain ⟨f, c, m, rfl, m0, hF, q⟩ := h
  refine ⟨_, (pss_cons (ps_set (i := 2) sc_law_rule.nd rfl (Or.inl rfl) (pe_lst (pa_cons pe_str (pa_cons pe_str (pa_cons pe_str (pa_cons pe_str (pa_cons pe_str (pa_cons pe_str (pa_cons pe_str (pa_cons pe_str (pa_cons pe_str pa_nil)))))))))))
      (pss_cons (ps_set (i := 3) sc_law_rule.nd rfl (Or.inl rfl) (pe_ix (ix_listK K rfl) (pv 2) (pe_call G_law_pick (hr.mono (by decide)) (by rfl) m_law_pick F_law_pick.kp b_law_pick .nil pass0 (pa_cons (pv 0) (pa_cons (pe_ix (ix_listK K rfl) (pe_lst (pa_cons pe_int (pa_cons pe_int (pa_cons pe_int (pa_cons pe_int pa_nil))))) (pe_callB (call_min2 rfl) (by rfl) T.m_min (by decide +kernel) (pa_cons pe_int (pa_cons (pv 1) pa_nil))) (fun _ _ => rfl)) pa_nil))) (fun _ _ => rfl)))
      (pss_cons (ps_if (pt_cmpR op_eq (pv 3) pe_str (nomark _)) (pss_one (ps_ret (pe_tup (pa_cons (pv 3) (pa_cons (pe_op op_sub (pe_call G_law_pick (hr.mono (by decide)) (by rfl) m_law_pick F_law_pick.kp b_law_pick .nil pass0 (pa_cons (pv 0) (pa_cons pe_int pa_nil))) pe_int) pa_nil))))) pss_nil)
      (pss_cons (ps_if (pt_cmpR op_eq (pv 3) pe_str (nomark _)) (pss_one (ps_ret (pe_tup (pa_cons (pv 3) (pa_cons (pe_call G_law_thing (hr.mono (by decide)) (by rfl) m_law_thing F_law_thing.kp b_law_thing .nil pass0 (pa_cons (pv 0) pa_nil)) pa_nil))))) pss_nil)
      (pss_one (ps_ret (pe_tup (pa_cons (pv 3) pa_nil)))))))), ?_⟩
  refine ⟨(by show 9 ≤ sizeLine; decide), fun wl nwl => ?_⟩
  have F1 : Flow (upd H wl (.lst (nine.map V.str))) f c := hF.new nwl
  refine ⟨_, rfl, _, rfl, (by show 4 ≤ sizeLine; decide), fun cl ncl => ?_⟩
  have F2 : Flow (upd (upd H wl (.lst (nine.map V.str))) cl (.lst [V.int 1, V.int 3, V.int 8, V.int 9])) f c := F1.new ncl
  have B2 : But f H (upd (upd H wl (.lst (nine.map V.str))) cl (.lst [V.int 1, V.int 3, V.int 8, V.int 9])) := (But.refl.new nwl).new ncl
  obtain ⟨j, hj, j1, j9, jn⟩ : ∃ j : Int, atI [V.int 1, V.int 3, V.int 8, V.int 9] (if m < 3 then m else 3) = some (.int j) ∧ 1 ≤ j ∧ j ≤ 9 ∧ ((j = 1 ∧ m = 0) ∨ (j = 3 ∧ m = 1) ∨ (j = 8 ∧ m = 2) ∨ (j = 9 ∧ 3 ≤ m)) := by
    by_cases k : m < 3
    · rw [if_pos k]
      have : m = 0 ∨ m = 1 ∨ m = 2 := by omega
      rcases this with rfl | rfl | rfl
      · exact ⟨1, rfl, by decide, by decide, by decide⟩
      · exact ⟨3, rfl, by decide, by decide, by decide⟩
      · exact ⟨8, rfl, by decide, by decide, by decide⟩
    · rw [if_neg k]
      exact ⟨9, rfl, by decide, by decide, by omega⟩
  refine ⟨_, rfl, _, _, rfl, cl, _, _, _, rfl, rfl, SqL.of upd_same, hj, f, c, j, rfl, by omega, ?_, F2, fun v H1 v0 v1 F3 B3 => ?_⟩
  · have : j = 1 ∨ j = 3 ∨ j = 8 ∨ j = 9 := by omega
    rcases this with rfl | rfl | rfl | rfl <;> decide +kernel
  obtain ⟨wd, hw, hat, n1, n3, n8, n9, n0⟩ := nine_at v0 (by omega)
  have hn : needs wd ≤ m := by
    rcases jn with ⟨rfl, rfl⟩ | ⟨rfl, rfl⟩ | ⟨rfl, rfl⟩ | ⟨rfl, k⟩
    · exact n1 v1
    · exact n3 v1
    · exact n8 v1
    · omega
  have hwl : H1 wl = some (.lst (nine.map V.str)) := B3 _ _ (same_new ncl _ _ upd_same) (hF.ne nwl)
  refine ⟨wl, _, _, _, rfl, rfl, SqL.of hwl, hat, ?_⟩
  have BB := B2.trans B3
  refine ⟨_, rfl, rfl, _, rfl, if_str (fun e => ?_) (fun e => ?_)⟩
  · refine ⟨_, rfl, _, rfl, f, c, 19, rfl, by decide, by decide +kernel, F3, fun v2 H2 a2 b2 F4 B4 => ⟨_, _, rfl, rfl, (by show 2 ≤ sizeLine; decide), fun r nr => ?_⟩⟩
    exact q r ⟨wd, some (v2 - 9), 0⟩ _ upd_same ⟨hw, ⟨fun _ => .inl e, fun _ => rfl⟩, fun n en => by cases en; exact ⟨by omega, by omega⟩⟩ hn n0 rfl (F4.new nr) ((BB.trans B4).new nr)
  refine ⟨_, rfl, rfl, _, rfl, if_str (fun e2 => ?_) (fun e2 => ?_)⟩
  · refine ⟨_, rfl, _, rfl, f, c, rfl, F3, fun v2 H2 s2 F4 B4 => ⟨(by show 2 ≤ sizeLine; decide), fun r nr => ?_⟩⟩
    exact q r ⟨wd, some v2, 0⟩ _ upd_same ⟨hw, ⟨fun _ => .inr e2, fun _ => rfl⟩, fun n en => by cases en; exact s2⟩ hn n0 rfl (F4.new nr) ((BB.trans B4).new nr)
  · refine ⟨_, rfl, (by show 1 ≤ sizeLine; decide), fun r nr => ?_⟩
    exact q r ⟨wd, none, 0⟩ _ upd_same ⟨hw, ⟨(fun z => nomatch z), fun z => absurd z (fun z => z.elim e e2)⟩, (fun n en => nomatch en)⟩ hn n0 rfl (F3.new nr) (BB.new nr)
def sp_law_shuffled (K : PySem.W.Frag) : Sp := fun vs H Q _ => ∃ (f c l : Addr) (xs : List V), vs = [.ref f, .ref l] ∧ SqL K H l xs ∧ l ≠ f ∧ xs.length ≤ 500 ∧ Flow H f c ∧
  ∀ (p : Addr) (ys : List V) (H' : Hp), ys.Perm xs → H p = none → H' p = some (.lst ys) → Flow H' f c → But f H H' → Q (.ref p) H'
theorem But.seqL {K : PySem.W.Frag} {f a : Addr} {H H1 : Hp} {xs : List V} (b : But f H H1) (h : SqL K H a xs) (n : a ≠ f) : SqL K H1 a xs := by
  rcases h with h | h
  · left
    rcases h with h | ⟨o, h⟩
    · exact .inl (b _ _ h n)
    · exact .inr ⟨o, b _ _ h n⟩
  · exact .inr h
theorem same_seqL {K : PySem.W.Frag} {a : Addr} {H H1 : Hp} {xs : List V} (b : Same H H1) (h : SqL K H a xs) : SqL K H1 a xs := by
  rcases h with h | h
  · left
    rcases h with h | ⟨o, h⟩
    · exact .inl (b _ _ h)
    · exact .inr ⟨o, b _ _ h⟩
  · exact .inr h
theorem log_small {m : Nat} (h : m ≤ 500) : ((m : Int)).natAbs.log2 < 9000 := by
  rw [Int.natAbs_natCast]
  exact Nat.lt_of_le_of_lt (Nat.log2_le_self m) (by omega)
theorem perm_erase {α : Type} : ∀ {l : List α} {j : Nat} {y : α}, l[j]? = some y → (y :: l.eraseIdx j).Perm l
  | [], _, _, h => nomatch h
  | a :: l, 0, y, h => by
    cases h
    exact List.Perm.refl _
  | a :: l, j + 1, y, h => by
    have ih : (y :: l.eraseIdx j).Perm l := perm_erase h
    exact (List.Perm.swap a y _).trans (ih.cons a)
theorem ok_law_shuffled {f : Addr} {fd : FuncData} (F : Fun K "_law_shuffled" "_law_shuffled" s_law_shuffled f fd) (T : Top K mg) : FnOk P w K mg base CX0 2 f fd ["_law_flow_here", "_law_some"] (sp_law_shuffled K) := by
  obtain ⟨f_law_pick, fd_law_pick, F_law_pick, b_law_pick, m_law_pick⟩ := T.d_law_pick
  have G_law_pick := ok_law_pick (P := P) (w := w) (base := base) F_law_pick T
  refine F.ok sc_law_shuffled (fun vs H Q E h => ?_) (fun cdv A outer s H vs Q E hr h => ?_)
  · obtain ⟨f, c, l, xs, rfl, _⟩ := h
    rfl
  obtain ⟨f, c, l, xs, rfl, hL, nl, hlen, hF, q⟩ := h
  refine ⟨_, (pss_cons (ps_set (i := 2) sc_law_shuffled.nd rfl (Or.inr rfl) (pe_callTy (call_list_ofK K rfl) (by rfl) T.m_list (by decide +kernel) (pa_cons (pv 1) pa_nil)))
      (pss_one (ps_ret (pe_lc (own := [("_law_k", 3)]) (g := gName 3) (tt := tYes) (by rfl) sc_law_shuffled.nd (pi_range1 (by rfl) T.m_range (pa_cons (pe_callB (call_len_seqK K rfl) (by rfl) T.m_len (by decide +kernel) (pa_cons (pv 1) pa_nil)) pa_nil)) (blkOk_by (own := [("_law_k", 3)]) (N := N_law_shuffled) (sc := defScope s_law_shuffled) (by decide +kernel)) (fun _ _ _ _ _ => (pg_name (i := 3) sc_law_shuffled.nd rfl (Or.inl rfl))) (fun _ _ _ _ _ => pts_nil) (fun _ _ _ _ _ => (pe_bmK K rfl PySem.F.plainAttrs_list PySem.F.slot_list_pop PySem.F.type_list_pop mt_popAt (pv 2) (pa_cons (pe_call G_law_pick (hr.mono (by decide)) (by rfl) m_law_pick F_law_pick.kp b_law_pick .nil pass0 (pa_cons (pv 0) (pa_cons (pe_callB (call_len_seqK K rfl) (by rfl) T.m_len (by decide +kernel) (pa_cons (pv 2) pa_nil)) pa_nil))) pa_nil))))))), ?_⟩
  refine ⟨_, rfl, l, _, rfl, .inl hL, fun lf nlf => ?_⟩
  refine ⟨_, rfl, l, _, rfl, .inl (same_seqL (same_new nlf) hL), _, rfl, by omega, (by omega), fun D nD => ?_⟩
  have F1 : Flow (upd H lf (.lst xs)) f c := hF.new nlf
  have dl : D ≠ lf := (ne_of_none upd_same nD).symm
  refine lc_range (lo := 0) (n := xs.length) (fun i H5 => ∃ acc rest : List V, H5 D = some (.lst acc) ∧ H5 lf = some (.lst rest) ∧ acc.length = i ∧ rest.length + i = xs.length ∧ (acc ++ rest).Perm xs ∧ Flow H5 f c ∧ But f H H5)
    ⟨[], xs, upd_same, by rw [upd_ne dl.symm]; exact upd_same, rfl, by omega, List.Perm.refl _, F1.new nD, (But.refl.new nlf).new nD⟩ ?_ ?_
  · rintro i H5 hi ⟨acc, rest, hD, hl, ha, hr2, hp, F5, B5⟩
    refine ⟨rfl, yes_in ?_⟩
    refine ⟨_, rfl, .inl ⟨rfl, _, SqL.of hl⟩, _, rfl, _, rfl, lf, _, rfl, .inl (SqL.of hl), f, c, ((rest.length : Nat) : Int), rfl, by omega, log_small (by omega), F5, fun v H6 v0 v1 F6 B6 => ?_⟩
    have hl6 := B6 _ _ hl (hF.ne nlf)
    have hv : v.toNat < rest.length := by omega
    have e1 : seqIndex? v rest.length = some v.toNat := by
      rw [seqIndex_of v0 (by omega)]
    refine ⟨lf, rest, v, v.toNat, rest[v.toNat], rfl, rfl, hl6, by omega, by omega, e1, List.getElem?_eq_getElem hv, ?_⟩
    have hD6 := B6 _ _ hD (fun e => by rw [e] at nD; rw [show upd H lf (.lst xs) f = H f from upd_ne (hF.ne nlf).symm] at nD; obtain ⟨_, _, _, _, _, e1, _⟩ := hF; rw [e1] at nD; cases nD)
    refine ⟨acc, by rw [upd_ne dl]; exact hD6, small1000 (by omega), acc ++ [rest[v.toNat]], rest.eraseIdx v.toNat, upd_same, by rw [upd_ne dl.symm]; exact upd_same, by rw [List.length_append, ha]; rfl, ?_, ?_, ?_, ?_⟩
    · rw [List.length_eraseIdx, if_pos hv]
      omega
    · refine List.Perm.trans ?_ hp
      rw [List.append_assoc]
      exact List.Perm.append_left acc (perm_erase (List.getElem?_eq_getElem hv))
    · have dc : D ≠ c := fun e => by
        rw [e] at nD
        obtain ⟨_, _, _, _, _, _, e1, _⟩ := F1
        rw [e1] at nD
        cases nD
      exact (F6.lst (hF.ne nlf) (hF.nec nlf)).lst (F1.ne nD) dc
    · exact ((B5.trans B6).own nlf).own (same_none (same_new nlf) nD)
  · rintro H5 ⟨acc, rest, hD, hl, ha, hr2, hp, F5, B5⟩
    have er : rest = [] := by
      cases rest with
      | nil => rfl
      | cons a l => simp at hr2
    subst er
    rw [List.append_nil] at hp
    exact q D acc H5 hp (same_none (same_new nlf) nD) hD F5 B5
end
/-! ### the hands of a drawn room -/
def unS : V → Str
  | .str s => s
  | _ => ""
theorem perm_strs {ys : List V} {zs : List Str} (h : ys.Perm (zs.map V.str)) : ∃ ss : List Str, ys = ss.map V.str ∧ ss.Perm zs := by
  refine ⟨ys.map unS, ?_, ?_⟩
  · rw [List.map_map]
    symm
    refine (List.map_congr_left (g := id) fun y hy => ?_).trans (List.map_id _)
    obtain ⟨z, _, e⟩ := List.mem_map.mp (h.mem_iff.mp hy)
    subst e
    rfl
  · have q := h.map unS
    rw [List.map_map] at q
    have e : zs.map (unS ∘ V.str) = zs := (List.map_congr_left (g := id) fun z _ => rfl).trans (List.map_id _)
    rw [e] at q
    exact q
theorem flat_rep {α : Type} (x : α) : ∀ n : Nat, (List.replicate n [x]).flatten = List.replicate n x
  | 0 => rfl
  | n + 1 => by
    rw [List.replicate_succ, List.flatten_cons, flat_rep x n]
    rfl
def cnt (ss : List Str) : Nat := (ss.filter fun s => !decide (s = ("in" : Str))).length
theorem cnt_le (ss : List Str) : cnt ss ≤ ss.length := List.length_filter_le ..
theorem cut_drop (xs : List V) (k : Nat) : cutV xs (some ((k : Nat) : Int)) none = xs.drop k := by
  unfold cutV
  rw [HT.sIx_nat, HT.sIx_none]
  by_cases h : k ≤ xs.length
  · rw [Nat.min_eq_left h]
    exact List.take_of_length_le (by rw [List.length_drop]; exact Nat.le_refl _)
  · rw [Nat.min_eq_right (by omega), Nat.sub_self, List.take_zero, List.drop_eq_nil_of_le (by omega)]
structure HInv (f c sl hh : Addr) (ss : List Str) (H0 H : Hp) (i : Nat) (vs : List V) (hs : List HR) (left : Int) : Prop where
  fl : Flow H f c
  bt : But f H0 H
  hsl : H sl = some (.lst (ss.map V.str))
  hhh : H hh = some (.lst vs)
  al : All2 (HandAt H) vs hs
  len : hs.length = i
  good : ∀ h ∈ hs, GoodHand h
  lf : (cnt (ss.drop i) : Int) ≤ left
  sum : (hs.map fun h => needs h.wd).sum + left = 20
  nz : ∀ h ∈ hs, 0 ≤ needs h.wd
  one : ("hand" : Str) ∈ ss.take i → ∃ h ∈ hs, h.wd ≠ "out"
  n1 : sl ≠ f
  n2 : sl ≠ hh
  n3 : hh ≠ f
  n4 : hh ≠ c
  n5 : H0 hh = none
section
variable {f c sl hh : Addr} {ss : List Str} {H0 H H' : Hp} {i : Nat} {vs : List V} {hs : List HR} {left : Int}
theorem HInv.but (s : HInv f c sl hh ss H0 H i vs hs left) (F : Flow H' f c) (b : But f H H') : HInv f c sl hh ss H0 H' i vs hs left :=
  { s with fl := F, bt := s.bt.trans b, hsl := b _ _ s.hsl s.n1, hhh := b _ _ s.hhh s.n3, al := s.al.imp fun _ _ k => k.keep (TK.but s.fl b) }
theorem HInv.new {p : Addr} {o : HO} (s : HInv f c sl hh ss H0 H i vs hs left) (n : H p = none) : HInv f c sl hh ss H0 (upd H p o) i vs hs left :=
  { s with fl := s.fl.new n, bt := s.bt.new n, hsl := same_new n _ _ s.hsl, hhh := same_new n _ _ s.hhh, al := s.al.imp fun _ _ k => k.keep (TK.new n) }
theorem HInv.same (s : HInv f c sl hh ss H0 H i vs hs left) (k : Same H H') : HInv f c sl hh ss H0 H' i vs hs left :=
  { s with fl := s.fl.same k, bt := s.bt.same k, hsl := k _ _ s.hsl, hhh := k _ _ s.hhh, al := s.al.imp fun _ _ z => z.keep (TK.same k) }
theorem HInv.step {x : V} {h : HR} {sd : Str} (s : HInv f c sl hh ss H0 H i vs hs left) (hx : HandAt H x h) (g : GoodHand h) (z : 0 ≤ needs h.wd) (k : needs h.wd + (cnt (ss.drop (i + 1)) : Int) ≤ left) (e : ss[i]? = some sd) (o : sd = "hand" → h.wd ≠ "out") :
    HInv f c sl hh ss H0 (upd H hh (.lst (vs ++ [x]))) (i + 1) (vs ++ [x]) (hs ++ [h]) (left - needs h.wd) := by
  refine { s with fl := s.fl.lst s.n3 s.n4, bt := s.bt.own s.n5, hsl := by rw [upd_ne s.n2]; exact s.hsl, hhh := upd_same, al := (s.al.snoc hx).imp fun _ _ z => z.keep (TK.lst s.hhh), len := by rw [List.length_append, s.len]; rfl, good := ?_, lf := by omega, sum := ?_, nz := ?_, one := ?_ }
  · intro y hy
    rcases List.mem_append.mp hy with hy | hy
    · exact s.good y hy
    · obtain rfl : y = h := by simpa using hy
      exact g
  · have := s.sum
    rw [List.map_append, List.sum_append]
    simp only [List.map_cons, List.map_nil, List.sum_cons, List.sum_nil]
    omega
  · intro y hy
    rcases List.mem_append.mp hy with hy | hy
    · exact s.nz y hy
    · obtain rfl : y = h := by simpa using hy
      exact z
  · intro hm
    rw [List.take_add_one, e] at hm
    rcases List.mem_append.mp hm with hm | hm
    · obtain ⟨y, h1, h2⟩ := s.one hm
      exact ⟨y, List.mem_append_left _ h1, h2⟩
    · have e2 : ("hand" : Str) = sd := by simpa using hm
      exact ⟨h, List.mem_append_right _ (by simp), o e2.symm⟩
end
theorem cnt_cons {ss : List Str} {i : Nat} {sd : Str} (e : ss[i]? = some sd) : cnt (ss.drop i) = (if sd = "in" then 0 else 1) + cnt (ss.drop (i + 1)) := by
  have hi := (List.getElem?_eq_some_iff.mp e).1
  have e2 : ss.drop i = sd :: ss.drop (i + 1) := by
    rw [List.drop_eq_getElem_cons hi, (List.getElem?_eq_some_iff.mp e).2]
  rw [e2]
  unfold cnt
  rw [List.filter_cons]
  by_cases k : sd = "in"
  · rw [if_pos k, decide_eq_true k]
    simp
  · rw [if_neg k, decide_eq_false k]
    simp only [Bool.not_false, if_true, List.length_cons]
    omega
section
variable {P : Program} {w : World} {K : PySem.W.Frag} {mg : Str → Option Value} {base : Heap}
structure HandsOk (hs : List HR) : Prop where
  len : hs.length ≤ 12
  good : ∀ h ∈ hs, GoodHand h
  sum : (hs.map fun h => needs h.wd).sum ≤ 20
  nz : ∀ h ∈ hs, 0 ≤ needs h.wd
  one : ∃ h ∈ hs, h.wd ≠ "out"
def sp_law_hands (K : PySem.W.Frag) : Sp := fun vs H Q _ => ∃ (f c : Addr) (m : Int), vs = [.ref f, .int m] ∧ 1 ≤ m ∧ m ≤ 8 ∧ Flow H f c ∧
  ∀ (p : Addr) (xs : List V) (hs : List HR) (H' : Hp), H p = none → H' p = some (.lst xs) → All2 (HandAt H') xs hs → HandsOk hs → Flow H' f c → But f H H' → Q (.ref p) H'
theorem ok_law_hands {f : Addr} {fd : FuncData} (F : Fun K "_law_hands" "_law_hands" s_law_hands f fd) (T : Top K mg) : FnOk P w K mg base CX0 4 f fd ["_law_flow_here", "_law_many"] (sp_law_hands K) := by
  obtain ⟨f_law_shuffled, fd_law_shuffled, F_law_shuffled, b_law_shuffled, m_law_shuffled⟩ := T.d_law_shuffled
  have G_law_shuffled := ok_law_shuffled (P := P) (w := w) (base := base) F_law_shuffled T
  obtain ⟨f_law_rule, fd_law_rule, F_law_rule, b_law_rule, m_law_rule⟩ := T.d_law_rule
  have G_law_rule := ok_law_rule (P := P) (w := w) (base := base) F_law_rule T
  obtain ⟨f_law_needs, fd_law_needs, F_law_needs, b_law_needs, m_law_needs⟩ := T.d_law_needs
  have G_law_needs := ok_law_needs (P := P) (w := w) (base := base) F_law_needs T
  obtain ⟨f_law_pick, fd_law_pick, F_law_pick, b_law_pick, m_law_pick⟩ := T.d_law_pick
  have G_law_pick := ok_law_pick (P := P) (w := w) (base := base) F_law_pick T
  refine F.ok sc_law_hands (fun vs H Q E h => ?_) (fun cdv A outer s H vs Q E hr h => ?_)
  · obtain ⟨f, c, m, rfl, _⟩ := h
    rfl
  obtain ⟨f, c, m, rfl, m1, m8, hF, q⟩ := h
  let R1 : TS := fun D' σ' H' => D'.rt = Q ∧ ∃ (sl : Addr) (ss : List Str), σ' = [some (.ref f), some (.int m), some (.ref sl), none, none, none, none, none, none, none] ∧ H' sl = some (.lst (ss.map V.str)) ∧ sl ≠ f ∧ ss.length ≤ 12 ∧ ("hand" : Str) ∈ ss ∧ (∀ s ∈ ss, s = "in" ∨ s = "out" ∨ s = "hand") ∧ Flow H' f c ∧ But f H H'
  refine ⟨_, (pss_cons (ps_set (i := 2) sc_law_hands.nd rfl (Or.inl rfl) (pe_op op_cat (pe_op op_cat (pe_op op_rep (pe_lst (pa_cons pe_str pa_nil)) (pe_call G_law_pick (hr.mono (by decide)) (by rfl) m_law_pick F_law_pick.kp b_law_pick .nil pass0 (pa_cons (pv 0) (pa_cons pe_int pa_nil)))) (pe_op op_rep (pe_lst (pa_cons pe_str pa_nil)) (pe_call G_law_pick (hr.mono (by decide)) (by rfl) m_law_pick F_law_pick.kp b_law_pick .nil pass0 (pa_cons (pv 0) (pa_cons pe_int pa_nil))))) (pe_op op_rep (pe_lst (pa_cons pe_str pa_nil)) (pv 1))))
      (pss_cons (ps_set (i := 2) sc_law_hands.nd rfl (Or.inl rfl) (pe_call G_law_shuffled (hr.mono (by decide)) (by rfl) m_law_shuffled F_law_shuffled.kp b_law_shuffled .nil pass0 (pa_cons (pv 0) (pa_cons (pv 2) pa_nil))))
      (PSs.to (pss_cons (ps_set (i := 3) sc_law_hands.nd rfl (Or.inl rfl) pe_int)
      (pss_cons (ps_set (i := 4) sc_law_hands.nd rfl (Or.inl rfl) (pe_lst pa_nil))
      (pss_cons (ps_for PassesOwn.never rfl (pi_enum (by rfl) T.m_enumerate (pa_cons (pv 2) pa_nil)) (pg_tupK K rfl rfl (pgs_cons (pg_name (i := 5) sc_law_hands.nd rfl (Or.inl rfl)) (pgs_cons (pg_name (i := 6) sc_law_hands.nd rfl (Or.inl rfl)) pgs_nil)))
        (pss_cons (ps_if (pt_cmpR op_eq (pv 6) pe_str (nomark _)) (pss_cons (ps_set (i := 7) sc_law_hands.nd rfl (Or.inl rfl) (pe_callB (call_len_seqK K rfl) (by rfl) T.m_len (by decide +kernel) (pa_cons (pe_lc (own := [("_law_other", 8)]) (g := gName 8) (by rfl) sc_law_hands.nd (pi_listK K rfl (pe_slice (sl_listK K rfl) (pv 2) (po_some (pe_op op_add (pv 5) pe_int)) po_none)) (blkOk_by (own := [("_law_other", 8)]) (N := N_law_hands) (sc := defScope s_law_hands) (by decide +kernel)) (fun _ _ _ _ _ => (pg_name (i := 8) sc_law_hands.nd rfl (Or.inl rfl))) (fun _ _ _ _ _ => pts_one (pt_cmpR op_ne (pv 8) pe_str (nomark _))) (fun _ _ _ _ _ => (pv 8))) pa_nil)))
      (pss_cons (ps_set (i := 9) sc_law_hands.nd rfl (Or.inl rfl) (pe_call G_law_rule (hr.mono (by decide)) (by rfl) m_law_rule F_law_rule.kp b_law_rule .nil pass0 (pa_cons (pv 0) (pa_cons (pe_op op_sub (pv 3) (pv 7)) pa_nil))))
      (pss_one (ps_expr (pe_bmK K rfl PySem.F.plainAttrs_list PySem.F.slot_list_append PySem.F.type_list_append mt_append (pv 4) (pa_cons (pe_tup (pa_cons (pv 9) (pa_cons (pe_call G_law_pick (hr.mono (by decide)) (by rfl) m_law_pick F_law_pick.kp b_law_pick .nil pass0 (pa_cons (pv 0) (pa_cons (pe_ix (ix_listK K rfl) (pe_lst (pa_cons pe_int (pa_cons pe_int (pa_cons pe_int pa_nil)))) (pe_call G_law_pick (hr.mono (by decide)) (by rfl) m_law_pick F_law_pick.kp b_law_pick .nil pass0 (pa_cons (pv 0) (pa_cons pe_int pa_nil))) (fun _ _ => rfl)) pa_nil))) pa_nil))) pa_nil)))))) (pss_one (ps_expr (pe_bmK K rfl PySem.F.plainAttrs_list PySem.F.slot_list_append PySem.F.type_list_append mt_append (pv 4) (pa_cons (pe_tup (pa_cons (pe_tup (pa_cons (pv 6) pa_nil)) (pa_cons pe_int pa_nil))) pa_nil)))))
      (pss_one (ps_set (i := 3) sc_law_hands.nd rfl (Or.inl rfl) (pe_op op_sub (pv 3) (pe_call G_law_needs (hr.mono (by decide)) (by rfl) m_law_needs F_law_needs.kp b_law_needs .nil pass0 (pa_cons (pe_ix (ix_tupK K rfl) (pe_ix (ix_listK K rfl) (pv 4) (pe_un un_neg pe_int) (fun _ _ => rfl)) pe_int (fun _ _ => rfl)) pa_nil)))))))
      (pss_one (ps_ret (pv 4)))))) R1 ?tail1))), ?_⟩
  case tail1 =>
    rintro D' σ' H1 ⟨eD, sl, ss, rfl, hsl, nsl, hlen, hhand, hall, F1, B1⟩
    refine ⟨(by show 0 ≤ sizeLine; decide), fun hh nhh => ?_⟩
    have I0 : HInv f c sl hh ss H (upd H1 hh (.lst [])) 0 [] [] 20 :=
      { fl := F1.new nhh, bt := B1.new nhh, hsl := same_new nhh _ _ hsl, hhh := upd_same, al := .nil, len := rfl, good := (fun _ h => nomatch h), lf := by have := cnt_le (ss.drop 0); rw [List.length_drop] at this; omega, sum := rfl, nz := (fun _ h => nomatch h), one := (fun h => nomatch h), n1 := nsl, n2 := ne_of_none hsl nhh, n3 := F1.ne nhh, n4 := F1.nec nhh, n5 := B1.none nhh (F1.ne nhh) }
    refine ⟨_, rfl, sl, _, rfl, SqL.of I0.hsl, for_it (n := ss.length) (fun i σ H2 => ∃ (vs : List V) (hs : List HR) (left : Int) (v5 v6 v7 v8 v9 : Option V), σ = [some (.ref f), some (.int m), some (.ref sl), some (.int left), some (.ref hh), v5, v6, v7, v8, v9] ∧ HInv f c sl hh ss H H2 i vs hs left)
      ⟨[], [], 20, none, none, none, none, none, rfl, I0⟩ ?_ ?_ ?_ ?_⟩
    · rintro i σ H2 hi ⟨vs, hs, left, v5, v6, v7, v8, v9, rfl, I⟩
      exact ⟨_, _, SqL.of I.hsl, by rw [List.getElem?_map, List.getElem?_eq_getElem hi]; rfl⟩
    · rintro σ H2 ⟨vs, hs, left, v5, v6, v7, v8, v9, rfl, I⟩
      exact ⟨_, SqL.of I.hsl, by rw [List.length_map]; exact Nat.le_refl _⟩
    · rintro i x σ H2 H3 hi ⟨vs, hs, left, v5, v6, v7, v8, v9, rfl, I⟩ ⟨t, y, rfl, nt, rfl, fy⟩
      have ei : ss[i]? = some ss[i] := List.getElem?_eq_getElem hi
      obtain ⟨sd, hsd⟩ : ∃ sd, sd = ss[i] := ⟨_, rfl⟩
      rw [← hsd] at ei
      have ey : y = V.str sd := by
        have := fy _ (SqL.of I.hsl)
        rw [List.getElem?_map, ei] at this
        exact (Option.some.inj this).symm
      subst ey
      have I1 := I.new (o := .tup [V.int ((i : Nat) : Int), V.str sd]) nt
      have hc1 := cnt_cons ei
      have hl := I.lf
      have sz : vs.length < sizeLine := small1000 (by rw [I.al.length, I.len]; omega)
      refine ⟨t, _, rfl, SqT.of upd_same, rfl, _, _, rfl, _, _, rfl, rfl, ?_⟩
      refine ⟨_, rfl, rfl, _, rfl, if_str (fun e => ?_) (fun e => ?_)⟩
      · -- a hand
        refine ⟨_, rfl, _, rfl, _, _, rfl, rfl, _, rfl, sl, _, rfl, SqL.of I1.hsl, fun cp ncp => ?_⟩
        have I2 := I1.new (o := .lst (cutV (ss.map V.str) (some (((i : Nat) : Int) + 1)) none)) ncp
        have ecut : cutV (ss.map V.str) (some (((i : Nat) : Int) + 1)) none = (ss.drop (i + 1)).map V.str := by
          rw [show ((i : Nat) : Int) + 1 = ((i + 1 : Nat) : Int) by omega, cut_drop, List.map_drop]
        refine ⟨cp, rfl, ⟨_, SqL.of upd_same⟩, fun D nD => lc_list (K := K) (a := cp) (xs := cutV (ss.map V.str) (some (((i : Nat) : Int) + 1)) none) (fun j H5 => ∃ acc : List V, H5 D = some (.lst acc) ∧ acc.length = cnt ((ss.drop (i + 1)).take j) ∧ H5 cp = some (.lst (cutV (ss.map V.str) (some (((i : Nat) : Int) + 1)) none)) ∧ HInv f c sl hh ss H H5 i vs hs left ∧ D ≠ cp ∧ D ≠ f ∧ D ≠ c ∧ D ≠ sl ∧ D ≠ hh ∧ H D = Option.none)
          ⟨[], upd_same, rfl, same_new nD _ _ upd_same, I2.new nD, (ne_of_none upd_same nD).symm, I2.fl.ne nD, I2.fl.nec nD, (ne_of_none I2.hsl nD).symm, (ne_of_none I2.hhh nD).symm, I2.bt.none nD (I2.fl.ne nD)⟩ (fun j H5 _ ⟨_, _, _, h, _⟩ => SqL.of h) ?_ ?_⟩
        · rintro j z H5 hz ⟨acc, hD, hacc, hcp, I5, d1, d2, d3, d4, d5, d6⟩
          rw [ecut, List.getElem?_map] at hz
          cases ez : (ss.drop (i + 1))[j]? with
          | none => rw [ez] at hz; cases hz
          | some so =>
            rw [ez] at hz
            obtain rfl : V.str so = z := Option.some.inj hz
            refine ⟨rfl, _, rfl, rfl, _, rfl, if_bl (fun k => ?_) (fun k => ?_)⟩
            · have k2 : ¬ so = "in" := fun y => by
                rw [y] at k
                exact absurd k (by decide +kernel)
              refine ⟨_, rfl, acc, hD, ?_, acc ++ [V.str so], upd_same, ?_, by rw [upd_ne d1.symm]; exact hcp, ?_, d1, d2, d3, d4, d5, d6⟩
              · rw [hacc]
                have := cnt_le ((ss.drop (i + 1)).take j)
                rw [List.length_take, List.length_drop] at this
                exact small1000 (by omega)
              · rw [List.length_append, hacc, List.take_add_one, ez]
                unfold cnt
                rw [List.filter_append, List.length_append]
                simp [k2]
              · exact { I5 with fl := I5.fl.lst d2 d3, bt := I5.bt.own d6, hsl := by rw [upd_ne d4.symm]; exact I5.hsl, hhh := by rw [upd_ne d5.symm]; exact I5.hhh, al := I5.al.imp fun _ _ y => y.keep (TK.lst hD) }
            · have k2 : so = "in" := by
                by_cases y : so = "in"
                · exact y
                · have k3 : (!decide (V.str so = V.str "in")) = false := k
                  rw [decide_eq_false (fun y2 => y (V.str.inj y2))] at k3
                  cases k3
              refine ⟨acc, hD, ?_, hcp, I5, d1, d2, d3, d4, d5, d6⟩
              rw [hacc, List.take_add_one, ez]
              unfold cnt
              rw [List.filter_append, List.length_append]
              simp [k2]
        · rintro H5 ⟨acc, hD, hacc, hcp, I5, d1, d2, d3, d4, d5, d6⟩
          have hacc2 : acc.length = cnt (ss.drop (i + 1)) := by
            rw [hacc, List.take_of_length_le]
            rw [ecut, List.length_map]
            exact Nat.le_refl _
          have hm0 : 0 ≤ left - ((acc.length : Nat) : Int) := by
            have hne : ¬ sd = "in" := by rw [e]; decide +kernel
            rw [hacc2]
            rw [hc1, if_neg hne] at hl
            omega
          refine ⟨D, _, rfl, .inl (SqL.of hD), ?_⟩
          refine ⟨_, rfl, _, rfl, _, rfl, _, _, rfl, rfl, f, c, _, rfl, hm0, I5.fl, fun r hR H6 hr6 gR n1 n0 mo F6 B6 => ?_⟩
          have I6 := I5.but F6 B6
          refine ⟨_, rfl, .inl ⟨rfl, _, SqL.of I6.hhh⟩, _, rfl, _, rfl, (by show 3 ≤ sizeLine; decide), fun ml nml => ?_⟩
          have I7 := I6.new (o := .lst [V.int 5, V.int 5, V.int 31]) nml
          refine ⟨_, rfl, f, c, 3, rfl, by decide, by decide +kernel, I7.fl, fun z H8 z0 z3 F8 B8 => ?_⟩
          have I8 := I7.but F8 B8
          have hml := B8 _ _ upd_same (I6.fl.ne nml)
          obtain ⟨mm, hmm, mk⟩ : ∃ mm : Int, atI [V.int 5, V.int 5, V.int 31] z = some (.int mm) ∧ (mm = 5 ∨ mm = 31) := by
            have : z = 0 ∨ z = 1 ∨ z = 2 := by omega
            rcases this with rfl | rfl | rfl
            · exact ⟨5, rfl, .inl rfl⟩
            · exact ⟨5, rfl, .inl rfl⟩
            · exact ⟨31, rfl, .inr rfl⟩
          refine ⟨ml, _, _, _, rfl, rfl, SqL.of hml, hmm, f, c, mm, rfl, by omega, (by rcases mk with rfl | rfl <;> decide +kernel), I8.fl, fun mo2 H9 o0 o1 F9 B9 => ?_⟩
          have I9 := I8.but F9 B9
          refine ⟨(by show 2 ≤ sizeLine; decide), fun t2 nt2 => ?_⟩
          have I10 := I9.new (o := .tup [V.ref r, V.int mo2]) nt2
          have sz10 : vs.length < sizeLine := sz
          refine ⟨hh, _, _, rfl, rfl, I10.hhh, sz10, ?_⟩
          have k9 : TK H6 H9 := ((TK.new nml).trans (TK.but I7.fl B8)).trans (TK.but I8.fl B9)
          have hx : HandAt (upd H9 t2 (.tup [V.ref r, V.int mo2])) (V.ref t2) ⟨hR.wd, hR.no, mo2⟩ := ⟨t2, r, rfl, upd_same, TK.new nt2 _ _ (k9 _ _ hr6)⟩
          have gd : GoodHand ⟨hR.wd, hR.no, mo2⟩ := ⟨.inl ⟨gR.wd, gR.no, gR.big⟩, o0, (show mo2 ≤ 30 by omega)⟩
          have nout : hR.wd ≠ "out" := fun y => by
            have := gR.wd
            rw [y] at this
            exact absurd this (by decide +kernel)
          have I11 := I10.step (h := ⟨hR.wd, hR.no, mo2⟩) hx gd n0 (by show needs hR.wd + _ ≤ left; rw [hacc2] at n1; omega) ei (fun _ => nout)
          refine ⟨_, rfl, _, rfl, 1, rfl, hh, _, -1, _, rfl, rfl, SqL.of I11.hhh, atI_last _ _, t2, _, _, _, rfl, rfl, SqT.of (TK.lst I10.hhh _ _ upd_same), atI_nat (j := 0) rfl, r, hR.wd, _, rfl, SqT.of (TK.lst I10.hhh _ _ (TK.new nt2 _ _ (k9 _ _ hr6))), fun H12 s12 => ⟨_, _, rfl, rfl, ?_⟩⟩
          exact ⟨_, _, _, _, _, _, _, _, rfl, I11.same s12⟩
      · -- a door
        refine ⟨_, rfl, .inl ⟨rfl, _, SqL.of I1.hhh⟩, _, rfl, (by show 1 ≤ sizeLine; decide), fun r nr => ⟨(by show 2 ≤ sizeLine; decide), fun t2 nt2 => ?_⟩⟩
        have I2 := (I1.new (o := .tup [V.str sd]) nr).new (o := .tup [V.ref r, V.int 0]) nt2
        refine ⟨hh, _, _, rfl, rfl, I2.hhh, sz, ?_⟩
        have hsd2 : sd = "in" ∨ sd = "out" := by
          rcases hall sd (List.mem_of_getElem? ei) with y | y | y
          · exact .inl y
          · exact .inr y
          · exact absurd y e
        have hn : needs sd = (if sd = "in" then 0 else 1) := by
          rcases hsd2 with y | y <;> rw [y] <;> decide +kernel
        have hx : HandAt (upd (upd (upd H2 t (.tup [V.int ((i : Nat) : Int), V.str sd])) r (.tup [V.str sd])) t2 (.tup [V.ref r, V.int 0])) (V.ref t2) ⟨sd, none, 0⟩ := ⟨t2, r, rfl, upd_same, same_new nt2 _ _ upd_same⟩
        have I3 := I2.step (h := ⟨sd, none, 0⟩) hx ⟨.inr ⟨hsd2, rfl⟩, (show (0 : Int) ≤ 0 by decide), (show (0 : Int) ≤ 30 by decide)⟩ (by show 0 ≤ needs sd; rw [hn]; split <;> decide) (by
          show needs sd + _ ≤ left
          rw [hn]
          rw [hc1] at hl
          by_cases y : sd = "in"
          · rw [if_pos y] at hl ⊢; omega
          · rw [if_neg y] at hl ⊢; omega) ei (fun y => absurd y e)
        refine ⟨_, rfl, _, rfl, 1, rfl, hh, _, -1, _, rfl, rfl, SqL.of I3.hhh, atI_last _ _, t2, _, _, _, rfl, rfl, SqT.of (TK.lst I2.hhh _ _ upd_same), atI_nat (j := 0) rfl, r, sd, _, rfl, SqT.of (TK.lst I2.hhh _ _ (same_new nt2 _ _ upd_same)), fun H12 s12 => ⟨_, _, rfl, rfl, ?_⟩⟩
        exact ⟨_, _, _, _, _, _, _, _, rfl, I3.same s12⟩
    · rintro σ H2 ⟨vs, hs, left, v5, v6, v7, v8, v9, rfl, I⟩
      refine ⟨_, rfl, ?_⟩
      rw [eD]
      refine q hh vs hs H2 I.n5 I.hhh I.al ⟨by rw [I.len]; exact hlen, I.good, ?_, I.nz, I.one (by rw [List.take_length]; exact hhand)⟩ I.fl I.bt
      have := I.sum
      have := I.lf
      omega
  refine ⟨(by show 1 ≤ sizeLine; decide), fun l1 nl1 => ?_⟩
  refine ⟨_, rfl, f, c, 3, rfl, by decide, by decide +kernel, hF.new nl1, fun v1 H1 a1 b1 F1 B1 => ?_⟩
  have g1 := B1 _ _ upd_same (hF.ne nl1)
  have small : ∀ v : Int, 0 ≤ v → v ≤ 8 → [V.str "in"].length * v.toNat ≤ sizeLine := fun v v0 v8 => little (by show 1 * v.toNat ≤ 1000; omega)
  refine ⟨l1, v1, _, rfl, rfl, g1, by omega, by omega, small v1 a1 (by omega), fun p1 np1 => ?_⟩
  rw [flat_rep]
  have F2 := F1.new (o := .lst (List.replicate v1.toNat (V.str "in"))) np1
  refine ⟨(by show 1 ≤ sizeLine; decide), fun l2 nl2 => ?_⟩
  refine ⟨_, rfl, f, c, 3, rfl, by decide, by decide +kernel, F2.new nl2, fun v2 H3 a2 b2 F3 B3 => ?_⟩
  have g2 := B3 _ _ upd_same (F2.ne nl2)
  have h1 := B3 _ _ (same_new nl2 _ _ upd_same) (F1.ne np1)
  refine ⟨l2, v2, _, rfl, rfl, g2, by omega, by omega, small v2 a2 (by omega), fun p2 np2 => ?_⟩
  rw [flat_rep]
  have F4 := F3.new (o := .lst (List.replicate v2.toNat (V.str "out"))) np2
  refine ⟨p1, p2, _, _, rfl, rfl, same_new np2 _ _ h1, upd_same, ?_, fun p3 np3 => ?_⟩
  · rw [List.length_replicate, List.length_replicate]; exact little (by omega)
  have F5 := F4.new (o := .lst (List.replicate v1.toNat (V.str "in") ++ List.replicate v2.toNat (V.str "out"))) np3
  refine ⟨(by show 1 ≤ sizeLine; decide), fun l4 nl4 => ⟨_, rfl, l4, m, _, rfl, rfl, upd_same, by omega, by omega, small m (by omega) m8, fun p5 np5 => ?_⟩⟩
  rw [flat_rep]
  have F6 := F5.new (o := .lst [V.str "hand"]) nl4
  have F7 := F6.new (o := .lst (List.replicate m.toNat (V.str "hand"))) np5
  refine ⟨p3, p5, _, _, rfl, rfl, same_new np5 _ _ (same_new nl4 _ _ upd_same), upd_same, ?_, fun p6 np6 => ?_⟩
  · rw [List.length_append, List.length_replicate, List.length_replicate, List.length_replicate]; exact little (by omega)
  refine ⟨_, rfl, _, rfl, f, c, p6, _, rfl, SqL.of upd_same, F7.ne np6, ?_, F7.new np6, fun p ys H8 hp np hy F8 B8 => ?_⟩
  · rw [List.length_append, List.length_append, List.length_replicate, List.length_replicate, List.length_replicate]; omega
  have ez : (List.replicate v1.toNat (V.str "in") ++ List.replicate v2.toNat (V.str "out")) ++ List.replicate m.toNat (V.str "hand") = ((List.replicate v1.toNat ("in" : Str) ++ List.replicate v2.toNat ("out" : Str)) ++ List.replicate m.toNat ("hand" : Str)).map V.str := by
    rw [List.map_append, List.map_append, List.map_replicate, List.map_replicate, List.map_replicate]
  rw [ez] at hp
  obtain ⟨ss, rfl, hss⟩ := perm_strs hp
  have pf : p ≠ f := fun y => by
    rw [y] at np
    obtain ⟨_, _, _, _, _, e1, _⟩ := F7.new (o := .lst ((List.replicate v1.toNat (V.str "in") ++ List.replicate v2.toNat (V.str "out")) ++ List.replicate m.toNat (V.str "hand"))) np6
    rw [e1] at np
    cases np
  refine ⟨rfl, p, ss, rfl, hy, pf, ?_, ?_, ?_, F8, But.trans ((((((((((But.refl.new nl1).trans B1).new np1).new nl2).trans B3).new np2).new np3).new nl4).new np5).new np6) B8⟩
  · rw [hss.length_eq, List.length_append, List.length_append, List.length_replicate, List.length_replicate, List.length_replicate]; omega
  · refine hss.mem_iff.mpr (List.mem_append_right _ (List.mem_replicate.mpr ⟨by omega, rfl⟩))
  · intro s hs
    rcases List.mem_append.mp (hss.mem_iff.mp hs) with hs | hs
    · rcases List.mem_append.mp hs with hs | hs
      · exact .inl (List.mem_replicate.mp hs).2
      · exact .inr (.inl (List.mem_replicate.mp hs).2)
    · exact .inr (.inr (List.mem_replicate.mp hs).2)
end
/-! ### rules as data -/
abbrev ruleD (h : HR) : List PyData := .str h.wd :: (match h.no with | none => [] | some n => [.int n])
theorem rule_dp {K : PySem.W.Frag} {H : Hp} {r : Addr} {h : HR} (e : H r = some (.tup (ruleL h))) : Dp K H (.ref r) (.tuple (ruleD h)) := by
  obtain ⟨wd, no, mom⟩ := h
  cases no with
  | none => exact .tup (SqT.of e) (.cons (.str _) .nil)
  | some n => exact .tup (SqT.of e) (.cons (.str _) (.cons (.int _) .nil))
theorem rule_shaped {h : HR} (k : PyData.canLay0 (.str h.wd) = true) : SeqAt.shaped (.tuple (ruleD h)) = true := by
  obtain ⟨wd, no, mom⟩ := h
  have k : PyData.canLay0 (.str wd) = true := k
  cases no <;> simp [SeqAt.shaped, PyData.canLay0, PyData.canLayAll0, PyData.depth, PyData.depthAll] <;> simpa [PyData.canLay0] using k
theorem GoodHand.lay {h : HR} (g : GoodHand h) : PyData.canLay0 (.str h.wd) = true := by
  have : h.wd ∈ nine ∨ h.wd = "in" ∨ h.wd = "out" := g.1.elim (fun k => .inl k.wd) (fun k => .inr k.1)
  rcases this with k | k | k
  · unfold nine at k
    simp only [List.mem_cons, List.not_mem_nil, or_false] at k
    rcases k with k | k | k | k | k | k | k | k | k <;> rw [k] <;> decide +kernel
  · rw [k]; decide +kernel
  · rw [k]; decide +kernel
theorem one_shaped {z : Str} (k : PyData.canLay0 (.str z) = true) : SeqAt.shaped (.tuple [.str z]) = true := rule_shaped (h := ⟨z, none, 0⟩) k
theorem at0 {xs : List V} {i : Nat} {v : V} (h : xs[i]? = some v) : atI xs (0 + ((i : Nat) : Int)) = some v := by
  rw [Int.zero_add]
  exact atI_nat h
theorem rule_eqv (h : HR) (z : Str) : PyData.eqv (.tuple (ruleD h)) (.tuple [.str z]) = (decide (h.wd = z) && h.no.isNone) := by
  obtain ⟨wd, no, mom⟩ := h
  have e : (wd == z) = decide (wd = z) := by
    by_cases k : wd = z
    · rw [k, decide_eq_true rfl]; exact beq_self_eq_true z
    · rw [decide_eq_false k]; exact beq_eq_false_iff_ne.mpr k
  cases no with
  | none =>
    show (wd == z && true) = (decide (wd = z) && true)
    rw [e]
  | some n =>
    show (wd == z && false) = (decide (wd = z) && false)
    rw [Bool.and_false, Bool.and_false]
theorem GoodHand.door {h : HR} (g : GoodHand h) (z : Str) (hz : z = "in" ∨ z = "out") : (decide (h.wd = z) && h.no.isNone) = decide (h.wd = z) := by
  by_cases k : h.wd = z
  · rw [decide_eq_true k, Bool.true_and]
    rcases g.1 with g | g
    · have := g.wd
      rw [k] at this
      rcases hz with rfl | rfl <;> exact absurd this (by decide +kernel)
    · rw [g.2]; rfl
  · rw [decide_eq_false k]; rfl
/-! ### numbers in lists -/
abbrev nV (n : Nat) : V := .int (n : Nat)
def unN : V → Nat
  | .int i => i.toNat
  | _ => 0
def unI : V → Int
  | .int i => i
  | _ => 0
theorem perm_inv {α : Type} {f : α → V} {g : V → α} (k : ∀ a, g (f a) = a) {ys : List V} {zs : List α} (h : ys.Perm (zs.map f)) : ∃ ss : List α, ys = ss.map f ∧ ss.Perm zs := by
  refine ⟨ys.map g, ?_, ?_⟩
  · rw [List.map_map]
    symm
    refine (List.map_congr_left (g := id) fun y hy => ?_).trans (List.map_id _)
    obtain ⟨z, _, e⟩ := List.mem_map.mp (h.mem_iff.mp hy)
    subst e
    show f (g (f z)) = f z
    rw [k]
  · have q := h.map g
    rw [List.map_map] at q
    have e : zs.map (g ∘ f) = zs := (List.map_congr_left (g := id) fun z _ => k z).trans (List.map_id _)
    rw [e] at q
    exact q
def nd (hs : List HR) (j : Nat) : Nat := match hs[j]? with | some h => (needs h.wd).toNat | none => 0
def tkTo (hs : List HR) : Nat → List Nat
  | 0 => []
  | n + 1 => tkTo hs n ++ List.replicate (nd hs n) n
theorem tk_count (hs : List HR) (k : Nat) : ∀ n, (tkTo hs n).count k = if k < n then nd hs k else 0
  | 0 => by simp [tkTo]
  | n + 1 => by
    unfold tkTo
    rw [List.count_append, tk_count hs k n, List.count_replicate]
    by_cases h1 : k < n
    · have h2 : ¬ (n == k) = true := by simp; omega
      rw [if_pos h1, if_neg h2, if_pos (show k < n + 1 by omega), Nat.add_zero]
    · by_cases h2 : n = k
      · subst h2
        rw [if_neg h1, if_pos (beq_self_eq_true n), if_pos (show n < n + 1 by omega), Nat.zero_add]
      · have h3 : ¬ (n == k) = true := by simpa using h2
        rw [if_neg h1, if_neg h3, if_neg (show ¬ k < n + 1 by omega)]
theorem tk_mem (hs : List HR) : ∀ n k, k ∈ tkTo hs n → k < n
  | 0, k, h => nomatch h
  | n + 1, k, h => by
    rcases List.mem_append.mp h with h | h
    · exact Nat.lt_succ_of_lt (tk_mem hs n k h)
    · rw [(List.mem_replicate.mp h).2]; exact Nat.lt_succ_self n
theorem tk_len (hs : List HR) (z : ∀ h ∈ hs, 0 ≤ needs h.wd) : ∀ n, n ≤ hs.length → ((tkTo hs n).length : Int) = ((hs.take n).map fun h => needs h.wd).sum
  | 0, _ => rfl
  | n + 1, hn => by
    have e : hs[n]? = some hs[n] := List.getElem?_eq_getElem (by omega)
    unfold tkTo
    rw [List.length_append, List.length_replicate, List.take_add_one, e, List.map_append, List.sum_append, Int.natCast_add, tk_len hs z n (by omega)]
    unfold nd
    rw [e]
    have := z hs[n] (List.getElem_mem _)
    simp only [Option.toList, List.map_cons, List.map_nil, List.sum_cons, List.sum_nil]
    omega
structure RoomOk (hs : List HR) (bs : List BR) : Prop where
  hands : hs.length ≤ 12
  good : ∀ h ∈ hs, GoodHand h
  ends : ∀ b ∈ bs, b.one < hs.length ∧ b.to < hs.length
  out : ∀ b ∈ bs, ∀ h, hs[b.one]? = some h → h.wd ≠ "out"
  th : ∀ b ∈ bs, b.th.length ≤ 6 ∧ ∀ x ∈ b.th, Small x
  rank : ∃ rk : Nat → Int, ∀ b ∈ bs, b.th = [] → rk b.one < rk b.to
  count : ∀ k h, hs[k]? = some h → (((bs.map BR.to).count k : Nat) : Int) = needs h.wd
  many : bs.length ≤ 20
structure RoomAt (H : Hp) (r : Addr) (hs : List HR) (bs : List BR) : Prop where
  ex : ∃ (ha ba : Addr) (hv bv : List V), H r = some (.tup [.ref ha, .ref ba]) ∧ H ha = some (.tup hv) ∧ H ba = some (.tup bv) ∧ All2 (HandAt H) hv hs ∧ All2 (BeltAt H) bv bs
theorem RoomAt.keep {H H' : Hp} {r : Addr} {hs : List HR} {bs : List BR} (a : RoomAt H r hs bs) (k : TK H H') : RoomAt H' r hs bs := by
  obtain ⟨ha, ba, hv, bv, e1, e2, e3, a1, a2⟩ := a.ex
  exact ⟨ha, ba, hv, bv, k _ _ e1, k _ _ e2, k _ _ e3, a1.imp fun _ _ z => z.keep k, a2.imp fun _ _ z => z.keep k⟩
section
variable {P : Program} {w : World} {K : PySem.W.Frag} {mg : Str → Option Value} {base : Heap}
def sp_law_room (K : PySem.W.Frag) : Sp := fun vs H Q _ => ∃ (f c : Addr) (m : Int), vs = [.ref f, .int m] ∧ 1 ≤ m ∧ m ≤ 8 ∧ Flow H f c ∧
  ∀ (r : Addr) (hs : List HR) (bs : List BR) (H' : Hp), RoomAt H' r hs bs → RoomOk hs bs → 0 < hs.length → Flow H' f c → But f H H' → Q (.ref r) H'
/-- what stands while a room is drawn: the draws, the list of its hands -/
structure RI (f c hh : Addr) (H0 H : Hp) (xs : List V) (hs : List HR) : Prop where
  fl : Flow H f c
  bt : But f H0 H
  lh : H hh = some (.lst xs)
  al : All2 (HandAt H) xs hs
  n1 : hh ≠ f
  n2 : H0 hh = none
section
variable {f c hh : Addr} {H0 H H' : Hp} {xs : List V} {hs : List HR}
theorem RI.but (s : RI f c hh H0 H xs hs) (F : Flow H' f c) (b : But f H H') : RI f c hh H0 H' xs hs :=
  { s with fl := F, bt := s.bt.trans b, lh := b _ _ s.lh s.n1, al := s.al.imp fun _ _ k => k.keep (TK.but s.fl b) }
theorem RI.new {p : Addr} {o : HO} (s : RI f c hh H0 H xs hs) (n : H p = none) : RI f c hh H0 (upd H p o) xs hs :=
  { s with fl := s.fl.new n, bt := s.bt.new n, lh := same_new n _ _ s.lh, al := s.al.imp fun _ _ k => k.keep (TK.new n) }
theorem RI.same (s : RI f c hh H0 H xs hs) (k : Same H H') : RI f c hh H0 H' xs hs :=
  { s with fl := s.fl.same k, bt := s.bt.same k, lh := k _ _ s.lh, al := s.al.imp fun _ _ z => z.keep (TK.same k) }
theorem RI.lst {D : Addr} {as bs : List V} (s : RI f c hh H0 H xs hs) (h : H D = some (.lst as)) (d1 : D ≠ f) (d2 : D ≠ c) (d3 : D ≠ hh) (d4 : H0 D = none) : RI f c hh H0 (upd H D (.lst bs)) xs hs :=
  { s with fl := s.fl.lst d1 d2, bt := s.bt.own d4, lh := by rw [upd_ne d3.symm]; exact s.lh, al := s.al.imp fun _ _ z => z.keep (TK.lst h) }
end
theorem ok_law_room {f : Addr} {fd : FuncData} (F : Fun K "_law_room" "_law_room" s_law_room f fd) (T : Top K mg) : FnOk P w K mg base CX0 5 f fd ["_law_flow_here", "_law_most"] (sp_law_room K) := by
  obtain ⟨f_law_hands, fd_law_hands, F_law_hands, b_law_hands, m_law_hands⟩ := T.d_law_hands
  have G_law_hands := ok_law_hands (P := P) (w := w) (base := base) F_law_hands T
  obtain ⟨f_law_shuffled, fd_law_shuffled, F_law_shuffled, b_law_shuffled, m_law_shuffled⟩ := T.d_law_shuffled
  have G_law_shuffled := ok_law_shuffled (P := P) (w := w) (base := base) F_law_shuffled T
  obtain ⟨f_law_pick, fd_law_pick, F_law_pick, b_law_pick, m_law_pick⟩ := T.d_law_pick
  have G_law_pick := ok_law_pick (P := P) (w := w) (base := base) F_law_pick T
  obtain ⟨f_law_needs, fd_law_needs, F_law_needs, b_law_needs, m_law_needs⟩ := T.d_law_needs
  have G_law_needs := ok_law_needs (P := P) (w := w) (base := base) F_law_needs T
  obtain ⟨f_law_thing, fd_law_thing, F_law_thing, b_law_thing, m_law_thing⟩ := T.d_law_thing
  have G_law_thing := ok_law_thing (P := P) (w := w) (base := base) F_law_thing T
  refine F.ok sc_law_room (fun vs H Q E h => ?_) (fun cdv A outer s H vs Q E hr h => ?_)
  · obtain ⟨f, c, m, rfl, _⟩ := h
    rfl
  obtain ⟨f, c, m, rfl, m1, m8, hF, q⟩ := h
  have hm9 : m.natAbs.log2 < 9000 := by
    obtain ⟨j, rfl⟩ : ∃ j : Nat, m = (j : Int) := ⟨m.toNat, by omega⟩
    exact log_small (by omega)
  let R1 : TS := fun D' σ' H' => D'.rt = Q ∧ ∃ (hh rk gv : Addr) (xs : List V) (hs : List HR) (is : List Int) (gs : List Nat), σ' = [some (.ref f), some (.int m), some (.ref hh), some (.ref rk), some (.ref gv), none, none, none, none, none, none] ∧ RI f c hh H H' xs hs ∧ HandsOk hs ∧ H' rk = some (.lst (is.map V.int)) ∧ is.length = hs.length ∧ H' gv = some (.lst (gs.map nV)) ∧ gs ≠ [] ∧ gs.length ≤ 12 ∧ (∀ k ∈ gs, ∃ h, hs[k]? = some h ∧ h.wd ≠ "out") ∧ rk ≠ f ∧ gv ≠ f
  let R2 : TS := fun D' σ' H' => D'.rt = Q ∧ ∃ (hh rk gv tk : Addr) (xs : List V) (hs : List HR) (is : List Int) (gs ts : List Nat) (v5 : Option V), σ' = [some (.ref f), some (.int m), some (.ref hh), some (.ref rk), some (.ref gv), v5, some (.ref tk), none, none, none, none] ∧ RI f c hh H H' xs hs ∧ HandsOk hs ∧ H' rk = some (.lst (is.map V.int)) ∧ is.length = hs.length ∧ H' gv = some (.lst (gs.map nV)) ∧ gs ≠ [] ∧ gs.length ≤ 12 ∧ (∀ k ∈ gs, ∃ h, hs[k]? = some h ∧ h.wd ≠ "out") ∧ rk ≠ f ∧ gv ≠ f ∧ tk ≠ f ∧ H' tk = some (.lst (ts.map nV)) ∧ ts = tkTo hs hs.length
  refine ⟨_, (pss_cons (ps_set (i := 2) sc_law_room.nd rfl (Or.inr rfl) (pe_call G_law_hands (hr.mono (by decide)) (by rfl) m_law_hands F_law_hands.kp b_law_hands .nil pass0 (pa_cons (pv 0) (pa_cons (pe_op op_add pe_int (pe_call G_law_pick (hr.mono (by decide)) (by rfl) m_law_pick F_law_pick.kp b_law_pick .nil pass0 (pa_cons (pv 0) (pa_cons (pv 1) pa_nil)))) pa_nil))))
      (pss_cons (ps_set (i := 3) sc_law_room.nd rfl (Or.inl rfl) (pe_call G_law_shuffled (hr.mono (by decide)) (by rfl) m_law_shuffled F_law_shuffled.kp b_law_shuffled .nil pass0 (pa_cons (pv 0) (pa_cons (pe_listRg rfl (by rfl) T.m_list (prg_1 (by rfl) T.m_range (pe_callB (call_len_seqK K rfl) (by rfl) T.m_len (by decide +kernel) (pa_cons (pv 2) pa_nil)))) pa_nil))))
      (pss_cons (ps_setLc (i := 4) (own := [("_law_k", 5)]) (g := gName 5) (by rfl) sc_law_room.nd rfl rfl (sw_true rfl rfl rfl (by decide +kernel)) (pi_range1 (by rfl) T.m_range (pa_cons (pe_callB (call_len_seqK K rfl) (by rfl) T.m_len (by decide +kernel) (pa_cons (pv 2) pa_nil)) pa_nil)) (blkOk_by (own := [("_law_k", 5)]) (N := N_law_room) (sc := defScope s_law_room) (by decide +kernel)) (fun _ _ _ _ _ => (pg_name (i := 5) sc_law_room.nd rfl (Or.inl rfl))) (fun _ _ _ _ _ => pts_one (pt_cmpR (op_neDK K rfl hr.units) (pe_ix (ix_tupK K rfl) (pe_ix (ix_listK K rfl) (pv 2) (pv 5) (fun _ _ => rfl)) pe_int (fun _ _ => rfl)) (pe_tup (pa_cons pe_str pa_nil)) (nomark _))) (fun _ _ _ _ _ => (pv 5)))
      (PSs.to (pss_cons (ps_set (i := 6) sc_law_room.nd rfl (Or.inl rfl) (pe_lst pa_nil))
      (pss_cons (ps_for PassesOwn.never rfl (pi_range1 (by rfl) T.m_range (pa_cons (pe_callB (call_len_seqK K rfl) (by rfl) T.m_len (by decide +kernel) (pa_cons (pv 2) pa_nil)) pa_nil)) (pg_name (i := 5) sc_law_room.nd rfl (Or.inl rfl))
        (pss_one (ps_set (i := 6) sc_law_room.nd rfl (Or.inl rfl) (pe_op op_cat (pv 6) (pe_op op_rep (pe_lst (pa_cons (pv 5) pa_nil)) (pe_call G_law_needs (hr.mono (by decide)) (by rfl) m_law_needs F_law_needs.kp b_law_needs .nil pass0 (pa_cons (pe_ix (ix_tupK K rfl) (pe_ix (ix_listK K rfl) (pv 2) (pv 5) (fun _ _ => rfl)) pe_int (fun _ _ => rfl)) pa_nil)))))))
      (PSs.to (pss_cons (ps_set (i := 7) sc_law_room.nd rfl (Or.inl rfl) (pe_lst pa_nil))
      (pss_cons (ps_for PassesOwn.never rfl (pi_listK K rfl (pe_call G_law_shuffled (hr.mono (by decide)) (by rfl) m_law_shuffled F_law_shuffled.kp b_law_shuffled .nil pass0 (pa_cons (pv 0) (pa_cons (pv 6) pa_nil)))) (pg_name (i := 8) sc_law_room.nd rfl (Or.inl rfl))
        (pss_cons (ps_set (i := 9) sc_law_room.nd rfl (Or.inl rfl) (pe_ix (ix_listK K rfl) (pv 4) (pe_call G_law_pick (hr.mono (by decide)) (by rfl) m_law_pick F_law_pick.kp b_law_pick .nil pass0 (pa_cons (pv 0) (pa_cons (pe_callB (call_len_seqK K rfl) (by rfl) T.m_len (by decide +kernel) (pa_cons (pv 4) pa_nil)) pa_nil))) (fun _ _ => rfl)))
      (pss_cons (ps_set (i := 10) sc_law_room.nd rfl (Or.inl rfl) (pe_ix (ix_listK K rfl) (pe_lst (pa_cons pe_int (pa_cons pe_int (pa_cons pe_int (pa_cons pe_int (pa_cons pe_int (pa_cons pe_int (pa_cons pe_int (pa_cons pe_int pa_nil))))))))) (pe_call G_law_pick (hr.mono (by decide)) (by rfl) m_law_pick F_law_pick.kp b_law_pick .nil pass0 (pa_cons (pv 0) (pa_cons pe_int pa_nil))) (fun _ _ => rfl)))
      (pss_cons (ps_if (pt_cmpR op_ge (pe_ix (ix_listK K rfl) (pv 3) (pv 9) (fun _ _ => rfl)) (pe_ix (ix_listK K rfl) (pv 3) (pv 8) (fun _ _ => rfl)) (nomark _)) (pss_one (ps_set (i := 10) sc_law_room.nd rfl (Or.inl rfl) (pe_callB (call_max2 rfl) (by rfl) T.m_max (by decide +kernel) (pa_cons pe_int (pa_cons (pv 10) pa_nil))))) pss_nil)
      (pss_one (ps_expr (pe_bmK K rfl PySem.F.plainAttrs_list PySem.F.slot_list_append PySem.F.type_list_append mt_append (pv 7) (pa_cons (pe_tup (pa_cons (pv 9) (pa_cons (pv 8) (pa_cons (pe_callTy (call_tuple_ofK K rfl) (by rfl) T.m_tuple (by decide +kernel) (pa_cons (pe_lc (own := [("_law_k", 5)]) (g := gName 5) (tt := tYes) (by rfl) sc_law_room.nd (pi_range1 (by rfl) T.m_range (pa_cons (pv 10) pa_nil)) (blkOk_by (own := [("_law_k", 5)]) (N := N_law_room) (sc := defScope s_law_room) (by decide +kernel)) (fun _ _ _ _ _ => (pg_name (i := 5) sc_law_room.nd rfl (Or.inl rfl))) (fun _ _ _ _ _ => pts_nil) (fun _ _ _ _ _ => (pe_call G_law_thing (hr.mono (by decide)) (by rfl) m_law_thing F_law_thing.kp b_law_thing .nil pass0 (pa_cons (pv 0) pa_nil)))) pa_nil)) pa_nil)))) pa_nil))))))))
      (pss_one (ps_ret (pe_tup (pa_cons (pe_callTy (call_tuple_ofK K rfl) (by rfl) T.m_tuple (by decide +kernel) (pa_cons (pv 2) pa_nil)) (pa_cons (pe_callTy (call_tuple_ofK K rfl) (by rfl) T.m_tuple (by decide +kernel) (pa_cons (pv 7) pa_nil)) pa_nil))))))) R2 ?tail2))) R1 ?tail1)))), ?_⟩
  case tail2 =>
    rintro D' σ' H1 ⟨eD, hh, rk, gv, tk, xs, hs, is, gs, ts, v5, rfl, I1, ok, hrk, lis, hgv, gne, glen, gok, nrk, ngv, ntk, htk, ets⟩
    have hx : xs.length = hs.length := I1.al.length
    have len12 := ok.len
    have lts : ts.length ≤ 20 := by
      have a := tk_len hs ok.nz hs.length (Nat.le_refl _)
      rw [List.take_length, ← ets] at a
      have := ok.sum
      omega
    refine ⟨(by show 0 ≤ sizeLine; decide), fun bl nbl => ?_⟩
    have I2 := I1.new (o := .lst []) nbl
    refine ⟨_, rfl, _, rfl, f, c, tk, _, rfl, SqL.of (same_new nbl _ _ htk), ntk, by rw [List.length_map]; omega, I2.fl, fun sh ys H3 hp nsh hsh F3 B3 => ?_⟩
    obtain ⟨tt, rfl, htt⟩ := perm_inv (f := nV) (g := unN) (fun n => by show ((n : Nat) : Int).toNat = n; omega) hp
    have I3 := I2.but F3 B3
    have bf : bl ≠ f := I1.fl.ne nbl
    have bc : bl ≠ c := I1.fl.nec nbl
    have hbl3 := B3 _ _ upd_same bf
    have bsh : bl ≠ sh := fun e => by rw [← e, upd_same] at nsh; cases nsh
    have bnone : H bl = Option.none := I1.bt.none nbl bf
    have rank : Nat → Int := fun k => is.getD k 0
    refine ⟨sh, rfl, ⟨_, SqL.of hsh⟩, for_list (K := K) (a := sh) (xs := tt.map nV) (fun i σ H4 => ∃ (bv : List V) (bs : List BR) (v5 v8 v9 v10 : Option V), σ = [some (.ref f), some (.int m), some (.ref hh), some (.ref rk), some (.ref gv), v5, some (.ref tk), some (.ref bl), v8, v9, v10] ∧ RI f c hh H H4 xs hs ∧ H4 rk = some (.lst (is.map V.int)) ∧ H4 gv = some (.lst (gs.map nV)) ∧ H4 sh = some (.lst (tt.map nV)) ∧ H4 bl = some (.lst bv) ∧ All2 (BeltAt H4) bv bs ∧ bs.map BR.to = tt.take i ∧
        (∀ b ∈ bs, b.one < hs.length ∧ (∀ h, hs[b.one]? = some h → h.wd ≠ "out") ∧ b.th.length ≤ 6 ∧ (∀ x ∈ b.th, Small x) ∧ (b.th = [] → is.getD b.one 0 < is.getD b.to 0)))
      ⟨[], [], v5, none, none, none, rfl, I3, B3 _ _ (same_new nbl _ _ hrk) nrk, B3 _ _ (same_new nbl _ _ hgv) ngv, hsh, hbl3, .nil, rfl, (fun _ h => nomatch h)⟩ (fun i σ H4 _ ⟨_, _, _, _, _, _, _, _, _, _, h, _⟩ => SqL.of h) ?_ ?_⟩
    · rintro i y σ H4 hi ⟨bv, bs, v5, v8, v9, v10, rfl, I4, hrk4, hgv4, hsh4, hbl4, al, em, hb⟩
      rw [List.getElem?_map] at hi
      cases et : tt[i]? with
      | none => rw [et] at hi; cases hi
      | some to =>
      rw [et] at hi
      obtain rfl : nV to = y := Option.some.inj hi
      have toL : to < hs.length := tk_mem hs _ _ (by rw [← ets]; exact htt.mem_iff.mp (List.mem_of_getElem? et))
      have il : i < 20 := by have := (List.getElem?_eq_some_iff.mp et).1; rw [htt.length_eq] at this; omega
      have lb : bs.length = i := by
        have := congrArg List.length em
        rw [List.length_map, List.length_take, Nat.min_eq_left (Nat.le_of_lt (List.getElem?_eq_some_iff.mp et).1)] at this
        exact this
      have g0 : 0 < gs.length := List.length_pos_iff.mpr gne
      refine ⟨_, rfl, _, rfl, _, rfl, gv, _, rfl, .inl (SqL.of hgv4), f, c, _, rfl, (by rw [List.length_map]; omega), (by rw [List.length_map]; exact log_small (by omega)), I4.fl, fun z H5 z0 z1 F5 B5 => ?_⟩
      rw [List.length_map] at z1
      have I5 := I4.but F5 B5
      have hgv5 := B5 _ _ hgv4 ngv
      obtain ⟨one, eo, ho⟩ : ∃ one, atI (gs.map nV) z = some (nV one) ∧ one ∈ gs := by
        have hk : z.toNat < gs.length := by omega
        have ek : z = ((z.toNat : Nat) : Int) := by omega
        refine ⟨gs[z.toNat], ?_, List.getElem_mem _⟩
        have q2 : atI (gs.map nV) ((z.toNat : Nat) : Int) = some (nV gs[z.toNat]) := atI_nat (by rw [List.getElem?_map, List.getElem?_eq_getElem hk]; rfl)
        rw [← ek] at q2
        exact q2
      obtain ⟨ho1, eh1, hout⟩ := gok one ho
      have oneL : one < hs.length := (List.getElem?_eq_some_iff.mp eh1).1
      refine ⟨gv, _, _, _, rfl, rfl, SqL.of hgv5, eo, ?_⟩
      refine ⟨(by show 8 ≤ sizeLine; decide), fun tl ntl => ?_⟩
      have I6 := I5.new (o := .lst [V.int 0, V.int 0, V.int 0, V.int 1, V.int 1, V.int 2, V.int 3, V.int 6]) ntl
      refine ⟨_, rfl, f, c, 8, rfl, by decide, by decide +kernel, I6.fl, fun y2 H7 y0 y8 F7 B7 => ?_⟩
      have I7 := I6.but F7 B7
      have htl := B7 _ _ upd_same (I5.fl.ne ntl)
      obtain ⟨tr, htr, tr0, tr6⟩ : ∃ tr : Int, atI [V.int 0, V.int 0, V.int 0, V.int 1, V.int 1, V.int 2, V.int 3, V.int 6] y2 = some (.int tr) ∧ 0 ≤ tr ∧ tr ≤ 6 := by
        have : y2 = 0 ∨ y2 = 1 ∨ y2 = 2 ∨ y2 = 3 ∨ y2 = 4 ∨ y2 = 5 ∨ y2 = 6 ∨ y2 = 7 := by omega
        rcases this with rfl | rfl | rfl | rfl | rfl | rfl | rfl | rfl
        · exact ⟨0, rfl, by decide, by decide⟩
        · exact ⟨0, rfl, by decide, by decide⟩
        · exact ⟨0, rfl, by decide, by decide⟩
        · exact ⟨1, rfl, by decide, by decide⟩
        · exact ⟨1, rfl, by decide, by decide⟩
        · exact ⟨2, rfl, by decide, by decide⟩
        · exact ⟨3, rfl, by decide, by decide⟩
        · exact ⟨6, rfl, by decide, by decide⟩
      refine ⟨tl, _, _, _, rfl, rfl, SqL.of htl, htr, ?_⟩
      have k7 : But f H4 H7 := (B5.new ntl).trans B7
      have hrk7 := k7 _ _ hrk4 nrk
      have hgv7 := k7 _ _ hgv4 ngv
      have shf : sh ≠ f := fun e => by rw [e] at nsh; obtain ⟨_, _, _, _, _, e1, _⟩ := I2.fl; rw [e1] at nsh; cases nsh
      have hsh7 := k7 _ _ hsh4 shf
      have hbl7 := k7 _ _ hbl4 bf
      have tk7 : TK H4 H7 := (TK.but I4.fl B5).trans ((TK.new ntl).trans (TK.but I6.fl B7))
      have al7 : All2 (BeltAt H7) bv bs := al.imp fun _ _ z => z.keep tk7
      have r1 : (is.map V.int)[one]? = some (.int (is.getD one 0)) := by
        rw [List.getElem?_map, List.getD_eq_getElem?_getD, List.getElem?_eq_getElem (by omega)]; rfl
      have r2 : (is.map V.int)[to]? = some (.int (is.getD to 0)) := by
        rw [List.getElem?_map, List.getD_eq_getElem?_getD, List.getElem?_eq_getElem (by omega)]; rfl
      have bvl : bv.length = i := by rw [al.length, lb]
      -- the end of a turn, with so many trays
      refine ⟨_, rfl, _, rfl, rk, _, _, _, rfl, rfl, SqL.of hrk7, atI_nat r1, _, rfl, _, rfl, rk, _, _, _, rfl, rfl, SqL.of hrk7, atI_nat r2, _, _, rfl, rfl, _, rfl, if_bl (fun kk => ?_) (fun kk => ?_)⟩
      · refine ⟨_, rfl, _, _, rfl, ?_⟩
        generalize ht : (if tr > 1 then tr else 1) = tn
        have tn0 : 0 ≤ tn := by rw [← ht]; split <;> omega
        have tn6 : tn ≤ 6 := by rw [← ht]; split <;> omega
        have ttt : tn.toNat = 0 → is.getD one 0 < is.getD to 0 := fun e => by
          exfalso
          have : 1 ≤ tn := by rw [← ht]; split <;> omega
          omega
        refine ⟨_, rfl, .inl ⟨rfl, _, SqL.of hbl7⟩, _, rfl, _, rfl, _, rfl, _, rfl, by omega, by omega, fun D nD => lc_range (lo := 0) (n := tn.toNat) (fun j H8 => ∃ vs : List Int, vs.length = j ∧ H8 D = some (.lst (vs.map V.int)) ∧ (∀ x ∈ vs, Small x) ∧ RI f c hh H H8 xs hs ∧ But f H7 H8 ∧ TK H7 H8 ∧ D ≠ f ∧ D ≠ c ∧ D ≠ hh ∧ H D = Option.none ∧ H7 D = Option.none)
          ⟨[], rfl, upd_same, (fun _ h => nomatch h), I7.new nD, But.refl.new nD, TK.new nD, I7.fl.ne nD, I7.fl.nec nD, (ne_of_none I7.lh nD).symm, I7.bt.none nD (I7.fl.ne nD), nD⟩ ?_ ?_⟩
        · rintro j H8 hj ⟨vs, lv, hD, sm, I8, b8, t8, d1, d2, d3, d4, d5⟩
          refine ⟨rfl, yes_in ⟨_, rfl, f, c, rfl, I8.fl, fun x H9 sx F9 B9 => ⟨_, B9 _ _ hD d1, ?_, vs ++ [x], by rw [List.length_append, lv]; rfl, ?_, ?_, (I8.but F9 B9).lst (B9 _ _ hD d1) d1 d2 d3 d4, (b8.trans B9).own d5, (t8.trans (TK.but I8.fl B9)).trans (TK.lst (B9 _ _ hD d1)), d1, d2, d3, d4, d5⟩⟩⟩
          · rw [List.length_map, lv]; exact small1000 (by omega)
          · rw [upd_same, List.map_append]; rfl
          · intro y hy
            rcases List.mem_append.mp hy with hy | hy
            · exact sm y hy
            · obtain rfl : y = x := by simpa using hy
              exact sx
        · rintro H8 ⟨vs, lv, hD, sm, I8, b8, t8, d1, d2, d3, d4, d5⟩
          refine ⟨D, _, rfl, .inl ⟨SqL.of hD, fun g ng => ⟨(by show 3 ≤ sizeLine; decide), fun t nt => ?_⟩⟩⟩
          have I9 := (I8.new (o := .tup (vs.map V.int)) ng).new (o := .tup [nV one, nV to, V.ref g]) nt
          have hbl8 := same_new (o := .tup [nV one, nV to, V.ref g]) nt _ _ (same_new (o := .tup (vs.map V.int)) ng _ _ (b8 _ _ hbl7 bf))
          have t9 : TK H7 (upd (upd H8 g (.tup (vs.map V.int))) t (.tup [nV one, nV to, V.ref g])) := (t8.trans (TK.new ng)).trans (TK.new nt)
          have s9 : ∀ b o, H7 b = some o → b ≠ f → (upd (upd H8 g (.tup (vs.map V.int))) t (.tup [nV one, nV to, V.ref g])) b = some o := fun b o e n => same_new nt _ _ (same_new ng _ _ (b8 _ _ e n))
          have bh : bl ≠ hh := fun e => by
            have h1 := I1.lh
            rw [← e, nbl] at h1
            cases h1
          have brk : bl ≠ rk := fun e => by
            have h1 := hrk
            rw [← e, nbl] at h1
            cases h1
          have bgv : bl ≠ gv := fun e => by
            have h1 := hgv
            rw [← e, nbl] at h1
            cases h1
          refine ⟨bl, _, _, rfl, rfl, hbl8, small1000 (by rw [bvl]; omega), ?_⟩
          refine ⟨bv ++ [V.ref t], bs ++ [⟨one, to, vs⟩], _, _, _, _, rfl, I9.lst hbl8 bf bc bh bnone, ?_, ?_, ?_, upd_same, ?_, ?_, ?_⟩
          · rw [upd_ne brk.symm]; exact s9 _ _ hrk7 nrk
          · rw [upd_ne bgv.symm]; exact s9 _ _ hgv7 ngv
          · rw [upd_ne bsh.symm]; exact s9 _ _ hsh7 shf
          · exact ((al7.imp fun _ _ z => z.keep t9).snoc ⟨t, g, rfl, upd_same, same_new nt _ _ upd_same⟩).imp fun _ _ z => z.keep (TK.lst hbl8)
          · rw [List.map_append, em, List.take_add_one, et]; rfl
          · intro b hb2
            rcases List.mem_append.mp hb2 with hb2 | hb2
            · exact hb b hb2
            · obtain rfl : b = ⟨one, to, vs⟩ := by simpa using hb2
              refine ⟨oneL, fun h e => ?_, by show vs.length ≤ 6; omega, sm, fun e => ?_⟩
              · have e : hs[one]? = some h := e
                rw [eh1] at e
                cases e
                exact hout
              · have e : vs = [] := e
                rw [e] at lv
                exact ttt (by simpa using lv.symm)
      · obtain ⟨tn, ht⟩ : ∃ tn, tn = tr := ⟨_, rfl⟩
        rw [← ht]
        have tn0 : 0 ≤ tn := by omega
        have tn6 : tn ≤ 6 := by omega
        have ttt : tn.toNat = 0 → is.getD one 0 < is.getD to 0 := fun _ => by
          have : ¬ is.getD to 0 ≤ is.getD one 0 := of_decide_eq_false kk
          omega
        refine ⟨_, rfl, .inl ⟨rfl, _, SqL.of hbl7⟩, _, rfl, _, rfl, _, rfl, _, rfl, by omega, by omega, fun D nD => lc_range (lo := 0) (n := tn.toNat) (fun j H8 => ∃ vs : List Int, vs.length = j ∧ H8 D = some (.lst (vs.map V.int)) ∧ (∀ x ∈ vs, Small x) ∧ RI f c hh H H8 xs hs ∧ But f H7 H8 ∧ TK H7 H8 ∧ D ≠ f ∧ D ≠ c ∧ D ≠ hh ∧ H D = Option.none ∧ H7 D = Option.none)
          ⟨[], rfl, upd_same, (fun _ h => nomatch h), I7.new nD, But.refl.new nD, TK.new nD, I7.fl.ne nD, I7.fl.nec nD, (ne_of_none I7.lh nD).symm, I7.bt.none nD (I7.fl.ne nD), nD⟩ ?_ ?_⟩
        · rintro j H8 hj ⟨vs, lv, hD, sm, I8, b8, t8, d1, d2, d3, d4, d5⟩
          refine ⟨rfl, yes_in ⟨_, rfl, f, c, rfl, I8.fl, fun x H9 sx F9 B9 => ⟨_, B9 _ _ hD d1, ?_, vs ++ [x], by rw [List.length_append, lv]; rfl, ?_, ?_, (I8.but F9 B9).lst (B9 _ _ hD d1) d1 d2 d3 d4, (b8.trans B9).own d5, (t8.trans (TK.but I8.fl B9)).trans (TK.lst (B9 _ _ hD d1)), d1, d2, d3, d4, d5⟩⟩⟩
          · rw [List.length_map, lv]; exact small1000 (by omega)
          · rw [upd_same, List.map_append]; rfl
          · intro y hy
            rcases List.mem_append.mp hy with hy | hy
            · exact sm y hy
            · obtain rfl : y = x := by simpa using hy
              exact sx
        · rintro H8 ⟨vs, lv, hD, sm, I8, b8, t8, d1, d2, d3, d4, d5⟩
          refine ⟨D, _, rfl, .inl ⟨SqL.of hD, fun g ng => ⟨(by show 3 ≤ sizeLine; decide), fun t nt => ?_⟩⟩⟩
          have I9 := (I8.new (o := .tup (vs.map V.int)) ng).new (o := .tup [nV one, nV to, V.ref g]) nt
          have hbl8 := same_new (o := .tup [nV one, nV to, V.ref g]) nt _ _ (same_new (o := .tup (vs.map V.int)) ng _ _ (b8 _ _ hbl7 bf))
          have t9 : TK H7 (upd (upd H8 g (.tup (vs.map V.int))) t (.tup [nV one, nV to, V.ref g])) := (t8.trans (TK.new ng)).trans (TK.new nt)
          have s9 : ∀ b o, H7 b = some o → b ≠ f → (upd (upd H8 g (.tup (vs.map V.int))) t (.tup [nV one, nV to, V.ref g])) b = some o := fun b o e n => same_new nt _ _ (same_new ng _ _ (b8 _ _ e n))
          have bh : bl ≠ hh := fun e => by
            have h1 := I1.lh
            rw [← e, nbl] at h1
            cases h1
          have brk : bl ≠ rk := fun e => by
            have h1 := hrk
            rw [← e, nbl] at h1
            cases h1
          have bgv : bl ≠ gv := fun e => by
            have h1 := hgv
            rw [← e, nbl] at h1
            cases h1
          refine ⟨bl, _, _, rfl, rfl, hbl8, small1000 (by rw [bvl]; omega), ?_⟩
          refine ⟨bv ++ [V.ref t], bs ++ [⟨one, to, vs⟩], _, _, _, _, rfl, I9.lst hbl8 bf bc bh bnone, ?_, ?_, ?_, upd_same, ?_, ?_, ?_⟩
          · rw [upd_ne brk.symm]; exact s9 _ _ hrk7 nrk
          · rw [upd_ne bgv.symm]; exact s9 _ _ hgv7 ngv
          · rw [upd_ne bsh.symm]; exact s9 _ _ hsh7 shf
          · exact ((al7.imp fun _ _ z => z.keep t9).snoc ⟨t, g, rfl, upd_same, same_new nt _ _ upd_same⟩).imp fun _ _ z => z.keep (TK.lst hbl8)
          · rw [List.map_append, em, List.take_add_one, et]; rfl
          · intro b hb2
            rcases List.mem_append.mp hb2 with hb2 | hb2
            · exact hb b hb2
            · obtain rfl : b = ⟨one, to, vs⟩ := by simpa using hb2
              refine ⟨oneL, fun h e => ?_, by show vs.length ≤ 6; omega, sm, fun e => ?_⟩
              · have e : hs[one]? = some h := e
                rw [eh1] at e
                cases e
                exact hout
              · have e : vs = [] := e
                rw [e] at lv
                exact ttt (by simpa using lv.symm)
    · rintro σ H4 ⟨bv, bs, v5, v8, v9, v10, rfl, I4, hrk4, hgv4, hsh4, hbl4, al, em, hb⟩
      rw [List.length_map, List.take_length] at em
      have lb : bs.length = ts.length := by
        have := congrArg List.length em
        rw [List.length_map] at this
        rw [this, htt.length_eq]
      refine ⟨_, rfl, hh, _, rfl, .inl ⟨SqL.of I4.lh, fun a1 na1 => ⟨_, rfl, bl, _, rfl, .inl ⟨SqL.of (same_new na1 _ _ hbl4), fun a2 na2 => ⟨(by show 2 ≤ sizeLine; decide), fun a3 na3 => ?_⟩⟩⟩⟩⟩
      rw [eD]
      have k1 : TK H4 (upd (upd (upd H4 a1 (.tup xs)) a2 (.tup bv)) a3 (.tup [V.ref a1, V.ref a2])) := ((TK.new na1).trans (TK.new na2)).trans (TK.new na3)
      refine q a3 hs bs _ ⟨a1, a2, xs, bv, upd_same, same_new na3 _ _ (same_new na2 _ _ upd_same), same_new na3 _ _ upd_same, I4.al.imp fun _ _ z => z.keep k1, al.imp fun _ _ z => z.keep k1⟩ ⟨ok.len, ok.good, fun b hb2 => ⟨(hb b hb2).1, ?_⟩, fun b hb2 => (hb b hb2).2.1, fun b hb2 => ⟨(hb b hb2).2.2.1, (hb b hb2).2.2.2.1⟩, ⟨fun k => is.getD k 0, fun b hb2 => (hb b hb2).2.2.2.2⟩, fun k h hk => ?_, by omega⟩ (by obtain ⟨h1, hm1, _⟩ := ok.one; exact List.length_pos_of_mem hm1) (((I4.fl.new na1).new na2).new na3) (((I4.bt.new na1).new na2).new na3)
      · have : b.to ∈ bs.map BR.to := List.mem_map.mpr ⟨b, hb2, rfl⟩
        rw [em] at this
        exact tk_mem hs _ _ (by rw [← ets]; exact htt.mem_iff.mp this)
      · rw [em, htt.count_eq, ets, tk_count, if_pos (List.getElem?_eq_some_iff.mp hk).1]
        unfold nd
        rw [hk]
        have := ok.nz h (List.mem_of_getElem? hk)
        show (((needs h.wd).toNat : Nat) : Int) = needs h.wd
        omega
  case tail1 =>
    rintro D' σ' H1 ⟨eD, hh, rk, gv, xs, hs, is, gs, rfl, I1, ok, hrk, lis, hgv, gne, glen, gok, nrk, ngv⟩
    refine ⟨(by show 0 ≤ sizeLine; decide), fun tk ntk => ?_⟩
    have I2 := I1.new (o := .lst []) ntk
    have hx : xs.length = hs.length := I1.al.length
    refine ⟨_, rfl, hh, _, rfl, .inl (SqL.of I2.lh), _, rfl, by omega, (by rw [hx]; have := ok.len; omega), for_range (lo := 0) (n := xs.length) (fun i σ H2 => ∃ (tk : Addr) (v5 : Option V), σ = [some (.ref f), some (.int m), some (.ref hh), some (.ref rk), some (.ref gv), v5, some (.ref tk), none, none, none, none] ∧ RI f c hh H H2 xs hs ∧ H2 rk = some (.lst (is.map V.int)) ∧ H2 gv = some (.lst (gs.map nV)) ∧ tk ≠ f ∧ H2 tk = some (.lst ((tkTo hs i).map nV)))
      ⟨tk, none, rfl, I2, same_new ntk _ _ hrk, same_new ntk _ _ hgv, I1.fl.ne ntk, upd_same⟩ ?_ ?_⟩
    · rintro i σ H2 hi ⟨tk, v5, rfl, I3, hrk3, hgv3, tf, htk⟩
      have eh : hs[i]? = some hs[i] := List.getElem?_eq_getElem (by omega)
      obtain ⟨x, ex, ⟨t, r, rfl, e1, e2⟩⟩ := I3.al.get eh
      have z0 := ok.nz _ (List.mem_of_getElem? eh)
      have zs : needs hs[i].wd ≤ 3 := by
        unfold needs
        split
        · decide
        · split
          · decide
          · split <;> decide
      have sz : (tkTo hs i).length ≤ 20 := by
        have a := tk_len hs ok.nz i (by omega)
        have b : ((hs.take i).map fun h => needs h.wd).sum ≤ (hs.map fun h => needs h.wd).sum := by
          have e : hs.map (fun h => needs h.wd) = (hs.take i).map (fun h => needs h.wd) ++ (hs.drop i).map (fun h => needs h.wd) := by rw [← List.map_append, List.take_append_drop]
          rw [e, List.sum_append]
          have : 0 ≤ ((hs.drop i).map fun h => needs h.wd).sum := by
            have hz : ∀ h ∈ hs.drop i, 0 ≤ needs h.wd := fun h hh => ok.nz h (List.mem_of_mem_drop hh)
            revert hz
            generalize hs.drop i = l
            intro hz
            induction l with
            | nil => decide
            | cons a l ih =>
              have := hz a (List.mem_cons_self ..)
              have := ih fun h hh => hz h (List.mem_cons_of_mem _ hh)
              rw [List.map_cons, List.sum_cons]
              omega
          omega
        have := ok.sum
        omega
      refine ⟨_, rfl, _, rfl, (by show 1 ≤ sizeLine; decide), fun l1 nl1 => ?_⟩
      have I4 := I3.new (o := .lst [V.int (0 + ((i : Nat) : Int))]) nl1
      refine ⟨_, rfl, _, rfl, hh, _, _, _, rfl, rfl, SqL.of I4.lh, at0 ex, t, _, _, _, rfl, rfl, SqT.of (same_new nl1 _ _ e1), atI_nat (j := 0) rfl, r, hs[i].wd, _, rfl, SqT.of (same_new nl1 _ _ e2), fun H5 s5 => ?_⟩
      have I5 := I4.same s5
      have g1 := s5 _ _ upd_same
      have g2 := s5 _ _ (same_new nl1 _ _ htk)
      refine ⟨l1, _, _, rfl, rfl, g1, by omega, by omega, little (by show 1 * (needs hs[i].wd).toNat ≤ 1000; omega), fun l2 nl2 => ?_⟩
      rw [flat_rep]
      have I6 := I5.new (o := .lst (List.replicate (needs hs[i].wd).toNat (V.int (0 + ((i : Nat) : Int))))) nl2
      refine ⟨tk, l2, _, _, rfl, rfl, same_new nl2 _ _ g2, upd_same, ?_, fun l3 nl3 => ?_⟩
      · rw [List.length_map, List.length_replicate]; exact little (by omega)
      refine ⟨l3, _, rfl, I6.new nl3, same_new nl3 _ _ (same_new nl2 _ _ (s5 _ _ (same_new nl1 _ _ hrk3))), same_new nl3 _ _ (same_new nl2 _ _ (s5 _ _ (same_new nl1 _ _ hgv3))), I6.fl.ne nl3, ?_⟩
      rw [upd_same]
      have e : nd hs i = (needs hs[i].wd).toNat := by unfold nd; rw [eh]
      rw [show tkTo hs (i + 1) = tkTo hs i ++ List.replicate (nd hs i) i from rfl, List.map_append, List.map_replicate, e, Int.zero_add]
    · rintro σ H2 ⟨tk, v5, rfl, I3, hrk3, hgv3, tf, htk⟩
      exact ⟨eD, hh, rk, gv, tk, xs, hs, is, gs, _, v5, rfl, I3, ok, hrk3, lis, hgv3, gne, glen, gok, nrk, ngv, tf, htk, by rw [hx]⟩
  refine ⟨_, rfl, _, rfl, _, rfl, f, c, m, rfl, by omega, hm9, hF, fun v1 H1 a1 b1 F1 B1 => ?_⟩
  refine ⟨_, _, rfl, rfl, f, c, _, rfl, by omega, by omega, F1, fun hh xs hs H2 nhh hhh al ok F2 B2 => ?_⟩
  have hx : xs.length = hs.length := al.length
  have len12 := ok.len
  have nf : hh ≠ f := F1.ne nhh
  have I2 : RI f c hh H H2 xs hs := ⟨F2, B1.trans B2, hhh, al, nf, B1.none nhh nf⟩
  -- ranks
  refine ⟨_, rfl, _, rfl, hh, _, rfl, .inl (SqL.of I2.lh), _, rfl, ⟨by omega, by omega, by omega, by omega, by omega⟩, fun rg nrg => ?_⟩
  have I3 := I2.new (o := .lst (rgV 0 ((xs.length : Nat) : Int))) nrg
  refine ⟨f, c, rg, _, rfl, SqL.of upd_same, I2.fl.ne nrg, ?_, I3.fl, fun rk ys H4 hp nrk hrk F4 B4 => ?_⟩
  · rw [rgV_length]; omega
  have erg : rgV 0 ((xs.length : Nat) : Int) = ((List.range xs.length).map fun i => ((i : Nat) : Int)).map V.int := by
    unfold rgV
    rw [List.map_map, show (((xs.length : Nat) : Int) - 0).toNat = xs.length by omega]
    refine List.map_congr_left fun i _ => ?_
    show V.int (0 + ((i : Nat) : Int)) = V.int ((i : Nat) : Int)
    rw [Int.zero_add]
  rw [erg] at hp
  obtain ⟨is, rfl, his⟩ := perm_inv (f := V.int) (g := unI) (fun _ => rfl) hp
  have lis : is.length = hs.length := by rw [his.length_eq, List.length_map, List.length_range, hx]
  have I4 := I3.but F4 B4
  have rkf : rk ≠ f := I3.fl.ne nrk
  -- givers
  refine ⟨_, rfl, hh, _, rfl, .inl (SqL.of I4.lh), _, rfl, by omega, by omega, fun D nD => lc_range (lo := 0) (n := xs.length) (fun i H5 => ∃ gs : List Nat, H5 D = some (.lst (gs.map nV)) ∧ gs.length ≤ i ∧ RI f c hh H H5 xs hs ∧ H5 rk = some (.lst (is.map V.int)) ∧ (∀ k ∈ gs, ∃ h, hs[k]? = some h ∧ h.wd ≠ "out") ∧ (∀ k h, k < i → hs[k]? = some h → h.wd ≠ "out" → gs ≠ []) ∧ D ≠ f ∧ D ≠ c ∧ D ≠ hh ∧ D ≠ rk ∧ H D = Option.none)
    ⟨[], upd_same, Nat.le_refl _, I4.new nD, same_new nD _ _ hrk, (fun _ h => nomatch h), (fun k h hk => absurd hk (Nat.not_lt_zero _)), I4.fl.ne nD, I4.fl.nec nD, (ne_of_none I4.lh nD).symm, (ne_of_none hrk nD).symm, I4.bt.none nD (I4.fl.ne nD)⟩ ?_ ?_⟩
  · rintro i H5 hi ⟨gs, hD, lg, I5, hrk5, g1, g2, d1, d2, d3, d4, d5⟩
    have eh : hs[i]? = some hs[i] := List.getElem?_eq_getElem (by omega)
    obtain ⟨x, ex, ⟨t, r, rfl, e1, e2⟩⟩ := I5.al.get eh
    have gh := ok.good _ (List.mem_of_getElem? eh)
    refine ⟨rfl, _, rfl, _, rfl, hh, _, _, _, rfl, rfl, SqL.of I5.lh, at0 ex, t, _, _, _, rfl, rfl, SqT.of e1, atI_nat (j := 0) rfl, (by show 1 ≤ sizeLine; decide), fun o1 no1 => ?_⟩
    have I6 := I5.new (o := .tup [V.str "out"]) no1
    have hD6 : (upd H5 o1 (.tup [V.str "out"])) D = some (.lst (gs.map nV)) := same_new no1 _ _ hD
    refine ⟨_, _, rule_dp (same_new no1 _ _ e2), .tup (SqT.of upd_same) (.cons (.str _) .nil), rule_shaped gh.lay, one_shaped (by decide +kernel), _, rfl, ?_⟩
    rw [rule_eqv, gh.door "out" (.inr rfl)]
    by_cases k : hs[i].wd = "out"
    · rw [decide_eq_true k]
      refine if_bl (fun z => absurd z (by decide)) (fun _ => ⟨gs, hD6, by omega, I6, same_new no1 _ _ hrk5, g1, fun k' h' hk hk2 hk3 => ?_, d1, d2, d3, d4, d5⟩)
      by_cases y : k' = i
      · subst y
        rw [eh] at hk2
        cases hk2
        exact absurd k hk3
      · exact g2 k' h' (by omega) hk2 hk3
    · rw [decide_eq_false k]
      refine if_bl (fun _ => ⟨_, rfl, _, hD6, ?_, gs ++ [i], ?_, ?_, I6.lst hD6 d1 d2 d3 d5, ?_, ?_, fun _ _ _ _ _ z => by simp at z, d1, d2, d3, d4, d5⟩) (fun z => absurd z (by decide))
      · rw [List.length_map]; exact small1000 (by omega)
      · rw [upd_same, List.map_append, Int.zero_add]; rfl
      · rw [List.length_append]; show gs.length + 1 ≤ i + 1; omega
      · rw [upd_ne d4.symm]; exact same_new no1 _ _ hrk5
      · intro k' hk
        rcases List.mem_append.mp hk with hk | hk
        · exact g1 k' hk
        · obtain rfl : k' = i := by simpa using hk
          exact ⟨_, eh, k⟩
  · rintro H5 ⟨gs, hD, lg, I5, hrk5, g1, g2, d1, d2, d3, d4, d5⟩
    obtain ⟨h1, hm1, hm2⟩ := ok.one
    obtain ⟨k1, hk1⟩ := List.getElem?_of_mem hm1
    have k1l := (List.getElem?_eq_some_iff.mp hk1).1
    exact ⟨rfl, hh, rk, D, xs, hs, is, gs, rfl, I5, ok, hrk5, lis, hD, g2 k1 h1 (by omega) hk1 hm2, by omega, g1, rkf, d1⟩
end
/-! ### max, min of a list with a default -/
def rMaxDf (K : PySem.W.Frag) : List V → List V → Hp → VK → Prop := fun xs zs H Q => ∃ (a : Addr) (ns : List Int) (d : V), xs = [.ref a] ∧ zs = [d] ∧ SqL K H a (ns.map V.int) ∧ (ns = [] → Q d H) ∧ ∀ m, m ∈ ns → (∀ y ∈ ns, y ≤ m) → Q (.int m) H
def rMinDf (K : PySem.W.Frag) : List V → List V → Hp → VK → Prop := fun xs zs H Q => ∃ (a : Addr) (ns : List Int) (d : V), xs = [.ref a] ∧ zs = [d] ∧ SqL K H a (ns.map V.int) ∧ (ns = [] → Q d H) ∧ ∀ m, m ∈ ns → (∀ y ∈ ns, m ≤ y) → Q (.int m) H
theorem ints_val {ns : List Int} {its : List Value} (rv : Vals (ns.map V.int) its) : ∀ i v, its.toArray[i]? = some v → ∃ t, v = Value.int (ns.getD i 0) t := fun i v e => by
  rw [List.getElem?_toArray] at e
  have il : i < ns.length := by
    have h1 := (List.getElem?_eq_some_iff.mp e).1
    have h2 := rv.length
    rw [List.length_map] at h2
    omega
  obtain ⟨u, eu, t, ru⟩ := rv.get (i := i) (x := .int ns[i]) (by rw [List.getElem?_map, List.getElem?_eq_getElem il]; rfl)
  rw [e] at eu
  cases eu
  exact ⟨t, by rw [ru, List.getD_eq_getElem?_getD, List.getElem?_eq_getElem il]; rfl⟩
section
variable {X : Cx}
theorem cr_maxDf (K : PySem.W.Frag) (hk : X.K = K) (hc : X.calm = true) : CallRK X (.builtin "max") ["default"] (rMaxDf K) := by
  subst hk
  intro pins s σ H xs zs us ws Q I r r2 h
  obtain ⟨a, ns, d, rfl, rfl, hs, q0, q1⟩ := h
  obtain ⟨its, rv, hl, _⟩ := I.list hs
  rw [Vals.ref1 r]
  obtain ⟨dv, rfl, rd⟩ := vals1 r2
  have hh := I.ok.hd hc
  have ln : its.length = ns.length := by rw [← rv.length, List.length_map]
  show wpAny _ _ (call (.builtin "max") [.ref a] [(Str.ofString "default", dv)]) _ _ s
  refine PySem.call_max_walkD (PySem.W.iter_listW (A := X.A.in1) hh hl.isList fun s₂ e W st hfp hw hk => ?_)
  refine ⟨_, _, _, _, _, _, _, s.heap, (fun i j => decide (ns.getD i 0 > ns.getD j 0)), rfl, W, st, hfp, hw, hk, fun hz s' m => ?_, fun hp => ⟨fun i j vi vj s3 Q3 E3 _ p1 p2 q3 => ?_, fun v s' hP m => ?_⟩⟩
  · obtain ⟨h', tk, rfl, hk'⟩ := PySem.W.moved_old e rfl m
    refine ⟨d, H, I.kept hk', rd, q0 ?_⟩
    exact List.eq_nil_of_length_eq_zero (by have : its.toArray.size = 0 := hz; rw [List.size_toArray] at this; omega)
  · exact (CmpOf.ints_gt (fun i => ns.getD i 0) (ints_val rv)) i j vi vj s3 Q3 E3 p1 p2 q3
  · obtain ⟨h', tk, rfl, hk'⟩ := PySem.W.moved_old e rfl m
    have hp : 0 < its.length := by have : 0 < its.toArray.size := hp; rw [List.size_toArray] at this; exact this
    have hsz : its.toArray.size = its.length := List.size_toArray
    obtain ⟨t, rfl⟩ := ints_val rv _ v hP
    obtain ⟨h1, h2⟩ := argBest_gt (fun i => ns.getD i 0) (its.toArray.size - 1)
    refine ⟨.int _, H, I.kept hk', ⟨_, rfl⟩, q1 _ ?_ fun y hy => ?_⟩
    · have il : argBest (fun i j => decide (ns.getD i 0 > ns.getD j 0)) (its.toArray.size - 1) < ns.length := by omega
      rw [List.getD_eq_getElem?_getD, List.getElem?_eq_getElem il]
      exact List.getElem_mem _
    · obtain ⟨j, hj⟩ := List.getElem?_of_mem hy
      have jl := (List.getElem?_eq_some_iff.mp hj).1
      have := h2 j (by omega)
      rw [show ns.getD j 0 = y by rw [List.getD_eq_getElem?_getD, hj]; rfl] at this
      exact this
theorem cr_minDf (K : PySem.W.Frag) (hk : X.K = K) (hc : X.calm = true) : CallRK X (.builtin "min") ["default"] (rMinDf K) := by
  subst hk
  intro pins s σ H xs zs us ws Q I r r2 h
  obtain ⟨a, ns, d, rfl, rfl, hs, q0, q1⟩ := h
  obtain ⟨its, rv, hl, _⟩ := I.list hs
  rw [Vals.ref1 r]
  obtain ⟨dv, rfl, rd⟩ := vals1 r2
  have hh := I.ok.hd hc
  have ln : its.length = ns.length := by rw [← rv.length, List.length_map]
  show wpAny _ _ (call (.builtin "min") [.ref a] [(Str.ofString "default", dv)]) _ _ s
  refine PySem.call_min_walkD (PySem.W.iter_listW (A := X.A.in1) hh hl.isList fun s₂ e W st hfp hw hk => ?_)
  refine ⟨_, _, _, _, _, _, _, s.heap, (fun i j => decide (ns.getD i 0 < ns.getD j 0)), rfl, W, st, hfp, hw, hk, fun hz s' m => ?_, fun hp => ⟨fun i j vi vj s3 Q3 E3 _ p1 p2 q3 => ?_, fun v s' hP m => ?_⟩⟩
  · obtain ⟨h', tk, rfl, hk'⟩ := PySem.W.moved_old e rfl m
    refine ⟨d, H, I.kept hk', rd, q0 ?_⟩
    exact List.eq_nil_of_length_eq_zero (by have : its.toArray.size = 0 := hz; rw [List.size_toArray] at this; omega)
  · exact (CmpOf.ints_lt (fun i => ns.getD i 0) (ints_val rv)) i j vi vj s3 Q3 E3 p1 p2 q3
  · obtain ⟨h', tk, rfl, hk'⟩ := PySem.W.moved_old e rfl m
    have hp : 0 < its.length := by have : 0 < its.toArray.size := hp; rw [List.size_toArray] at this; exact this
    have hsz : its.toArray.size = its.length := List.size_toArray
    obtain ⟨t, rfl⟩ := ints_val rv _ v hP
    obtain ⟨h1, h2⟩ := argBest_lt (fun i => ns.getD i 0) (its.toArray.size - 1)
    refine ⟨.int _, H, I.kept hk', ⟨_, rfl⟩, q1 _ ?_ fun y hy => ?_⟩
    · have il : argBest (fun i j => decide (ns.getD i 0 < ns.getD j 0)) (its.toArray.size - 1) < ns.length := by omega
      rw [List.getD_eq_getElem?_getD, List.getElem?_eq_getElem il]
      exact List.getElem_mem _
    · obtain ⟨j, hj⟩ := List.getElem?_of_mem hy
      have jl := (List.getElem?_eq_some_iff.mp hj).1
      have := h2 j (by omega)
      rw [show ns.getD j 0 = y by rw [List.getD_eq_getElem?_getD, hj]; rfl] at this
      exact this
end
/-! ### the order of work -/
/-- the belts without trays, their ends -/
def looseOf (bs : List BR) : List (Nat × Nat) := (bs.filter fun b => b.th.isEmpty).map fun b => (b.one, b.to)
def free (ls : List (Nat × Nat)) (left : List Nat) (k : Nat) : Prop := ∀ p ∈ ls, p.2 = k → p.1 ∉ left
/-- each stands as soon as it can -/
inductive Soon (ls : List (Nat × Nat)) : List Nat → List Nat → Prop
  | nil : Soon ls [] []
  | cons {left ord : List Nat} {k : Nat} : k ∈ left → free ls left k → (∀ j ∈ left, free ls left j → k ≤ j) → Soon ls (left.erase k) ord → Soon ls left (k :: ord)
def cN (p : Nat × Nat → Bool) (l : List (Nat × Nat)) : Int := ((l.filter p).length : Nat)
theorem cN_snoc (p : Nat × Nat → Bool) (l : List (Nat × Nat)) (x : Nat × Nat) : cN p (l ++ [x]) = cN p l + (if p x = true then 1 else 0) := by
  unfold cN
  rw [List.filter_append, List.length_append]
  cases h : p x <;> simp [h]
theorem cN_zero {p : Nat × Nat → Bool} {l : List (Nat × Nat)} : cN p l = 0 ↔ ∀ x ∈ l, p x = false := by
  unfold cN
  constructor
  · intro h x hx
    have e : (l.filter p).length = 0 := by omega
    have e2 := List.eq_nil_of_length_eq_zero e
    cases k : p x with
    | false => rfl
    | true =>
      have : x ∈ l.filter p := List.mem_filter.mpr ⟨hx, k⟩
      rw [e2] at this
      cases this
  · intro h
    have e : l.filter p = [] := List.filter_eq_nil_iff.mpr fun x hx => by rw [h x hx]; decide
    rw [e]
    rfl
abbrev owing (left : List Nat) (k : Nat) : Nat × Nat → Bool := fun p => decide (p.2 = k) && decide (p.1 ∈ left)
theorem owing_free {ls : List (Nat × Nat)} {left : List Nat} {k : Nat} : cN (owing left k) ls = 0 ↔ free ls left k := by
  rw [cN_zero]
  constructor
  · intro h p hp e1 e2
    have := h p hp
    have this : (decide (p.2 = k) && decide (p.1 ∈ left)) = false := this
    rw [decide_eq_true e1, decide_eq_true e2] at this
    cases this
  · intro h p hp
    show (decide (p.2 = k) && decide (p.1 ∈ left)) = false
    by_cases e1 : p.2 = k
    · rw [decide_eq_false (h p hp e1), Bool.and_false]
    · rw [decide_eq_false e1, Bool.false_and]
theorem cN_erase {ls : List (Nat × Nat)} {left : List Nat} {k r : Nat} (nd : left.Nodup) (hr : r ∈ left) : cN (owing left k) ls - cN (fun p => decide (p.1 = r) && decide (p.2 = k)) ls = cN (owing (left.erase r) k) ls := by
  induction ls with
  | nil => rfl
  | cons x l ih =>
    have e : ∀ q : Nat × Nat → Bool, cN q (x :: l) = (if q x = true then 1 else 0) + cN q l := fun q => by
      unfold cN
      rw [List.filter_cons]
      cases h : q x <;> simp [h] <;> omega
    have h1 : x.1 ∈ left.erase r ↔ x.1 ≠ r ∧ x.1 ∈ left := nd.mem_erase_iff
    have key : (if owing left k x = true then (1 : Int) else 0) - (if (decide (x.1 = r) && decide (x.2 = k)) = true then 1 else 0) = (if owing (left.erase r) k x = true then 1 else 0) := by
      by_cases a : x.2 = k
      · by_cases b : x.1 = r
        · have d : ¬ r ∈ left.erase r := fun z => (nd.mem_erase_iff.mp z).1 rfl
          simp [owing, a, b, hr, d]
        · by_cases c : x.1 ∈ left
          · have d : x.1 ∈ left.erase r := h1.mpr ⟨b, c⟩
            simp [owing, a, b, c, d]
          · have d : ¬ x.1 ∈ left.erase r := fun z => c (h1.mp z).2
            simp [owing, a, b, c, d]
      · simp [owing, a]
    rw [e, e, e, ← ih]
    omega
/-- some hand is free, where the belts without trays go up -/
theorem some_free {ls : List (Nat × Nat)} {rk : Nat → Int} (hr : ∀ p ∈ ls, rk p.1 < rk p.2) : ∀ {left : List Nat}, left ≠ [] → ∃ k ∈ left, free ls left k := by
  have low : ∀ left : List Nat, left ≠ [] → ∃ k ∈ left, ∀ j ∈ left, rk k ≤ rk j := by
    intro left
    induction left with
    | nil => intro h; exact absurd rfl h
    | cons a l ih =>
      intro _
      cases l with
      | nil => exact ⟨a, by simp, fun j hj => by have : j = a := by simpa using hj
                                                 rw [this]; exact Int.le_refl _⟩
      | cons b l =>
        obtain ⟨k, hk, h⟩ := ih (by simp)
        by_cases c : rk a ≤ rk k
        · exact ⟨a, by simp, fun j hj => by
            rcases List.mem_cons.mp hj with e | e
            · rw [e]; exact Int.le_refl _
            · exact Int.le_trans c (h j e)⟩
        · exact ⟨k, List.mem_cons_of_mem _ hk, fun j hj => by
            rcases List.mem_cons.mp hj with e | e
            · rw [e]; omega
            · exact h j e⟩
  intro left hl
  obtain ⟨k, hk, h⟩ := low left hl
  refine ⟨k, hk, fun p hp e hm => ?_⟩
  have h1 := h _ hm
  have h2 := hr p hp
  rw [e] at h2
  omega
theorem erase_map {α β : Type} (f : α → β) : ∀ (l : List α) (j : Nat), (l.map f).eraseIdx j = (l.eraseIdx j).map f
  | [], _ => rfl
  | _ :: _, 0 => rfl
  | a :: l, j + 1 => congrArg (f a :: ·) (erase_map f l j)
abbrev fL (n : Nat) (F : Nat → Int) : List V := (List.range n).map fun k => V.int (F k)
theorem fL_get {n k : Nat} {F : Nat → Int} (h : k < n) : (fL n F)[k]? = some (.int (F k)) := by
  rw [List.getElem?_map, List.getElem?_range h]; rfl
theorem fL_set {n k : Nat} {F : Nat → Int} {z : Int} : (fL n F).set k (.int z) = fL n fun j => if j = k then z else F j := by
  apply List.ext_getElem?
  intro i
  rw [List.getElem?_set]
  by_cases h : i < n
  · rw [fL_get h, fL_get h]
    by_cases e : k = i
    · subst e
      rw [if_pos rfl, if_pos rfl, if_pos (by rw [List.length_map, List.length_range]; exact h)]
    · rw [if_neg e, if_neg (fun z => e z.symm)]
  · have h1 : (fL n F)[i]? = none := List.getElem?_eq_none (by rw [List.length_map, List.length_range]; omega)
    have h2 : (fL n fun j => if j = k then z else F j)[i]? = none := List.getElem?_eq_none (by rw [List.length_map, List.length_range]; omega)
    rw [h1, h2]
    by_cases e : k = i
    · rw [if_pos e, if_neg (by rw [List.length_map, List.length_range]; omega)]
    · rw [if_neg e]
def PairAt (H : Hp) (v : V) (p : Nat × Nat) : Prop := ∃ t : Addr, v = .ref t ∧ H t = some (.tup [nV p.1, nV p.2])
theorem PairAt.keep {H H' : Hp} {v : V} {p : Nat × Nat} (a : PairAt H v p) (k : TK H H') : PairAt H' v p := by
  obtain ⟨t, e, h⟩ := a
  exact ⟨t, e, k _ _ h⟩
section
variable {P : Program} {w : World} {K : PySem.W.Frag} {mg : Str → Option Value} {base : Heap}
def sp_work_order (K : PySem.W.Frag) : Sp := fun vs H Q _ => ∃ (r : Addr) (hs : List HR) (bs : List BR) (rk : Nat → Int), vs = [.ref r] ∧ RoomAt H r hs bs ∧ hs.length ≤ 400 ∧ bs.length ≤ 400 ∧ (∀ b ∈ bs, b.one < hs.length ∧ b.to < hs.length) ∧ (∀ p ∈ looseOf bs, rk p.1 < rk p.2) ∧
  ∀ (p : Addr) (ord : List Nat) (H' : Hp), H p = none → H' p = some (.lst (ord.map nV)) → Same H H' → Soon (looseOf bs) (List.range hs.length) ord → Q (.ref p) H'
theorem ok_work_order {f : Addr} {fd : FuncData} (F : Fun K "work_order" "work_order" s_work_order f fd) (T : Top K mg) : FnOk P w K mg base CX0 1 f fd ["room"] (sp_work_order K) := by
  refine F.ok sc_work_order (fun vs H Q E h => ?_) (fun cdv A outer s H vs Q E hr h => ?_)
  · obtain ⟨r, hs, bs, rk, rfl, _⟩ := h
    rfl
  obtain ⟨r, hs, bs, rk, rfl, hR, lh, lb, ends, hrk, q⟩ := h
  obtain ⟨ha, ba, hv, bv, er, eh, eb, alh, alb⟩ := hR.ex
  have lhv := alh.length
  have lbv := alb.length
  have lls : (looseOf bs).length ≤ 400 := by
    unfold looseOf
    rw [List.length_map]
    exact Nat.le_trans (List.length_filter_le ..) lb
  have pls : ∀ p ∈ looseOf bs, p.1 < hs.length ∧ p.2 < hs.length := by
    intro p hp
    obtain ⟨b, hb, e⟩ := List.mem_map.mp hp
    have := ends b (List.mem_filter.mp hb).1
    rw [← e]
    exact this
  let R1 : TS := fun D' σ' H' => D'.rt = Q ∧ ∃ (lo : Addr) (lv : List V), σ' = [some (.ref r), some (.ref ha), some (.ref ba), some (.ref lo), none, none, none, none, none, none, none, none] ∧ H' lo = some (.lst lv) ∧ All2 (PairAt H') lv (looseOf bs) ∧ Same H H' ∧ H lo = none
  let R2 : TS := fun D' σ' H' => D'.rt = Q ∧ ∃ (lo ow : Addr) (lv : List V) (v4 v5 : Option V), σ' = [some (.ref r), some (.ref ha), some (.ref ba), some (.ref lo), v4, v5, none, some (.ref ow), none, none, none, none] ∧ H' lo = some (.lst lv) ∧ All2 (PairAt H') lv (looseOf bs) ∧ Same H H' ∧ H lo = none ∧ H ow = none ∧ lo ≠ ow ∧ H' ow = some (.lst (fL hs.length fun k => cN (owing (List.range hs.length) k) (looseOf bs)))
  refine ⟨_, (pss_cons (ps_asg (pv 0) (pg_tupK K rfl rfl (pgs_cons (pg_name (i := 1) sc_work_order.nd rfl (Or.inl rfl)) (pgs_cons (pg_name (i := 2) sc_work_order.nd rfl (Or.inl rfl)) pgs_nil))))
      (pss_cons (ps_setLc (i := 3) (own := [("giver", 4), ("taker", 5), ("things", 6)]) (g := gTup K 3 (gCons (gName 4) (gCons (gName 5) (gCons (gName 6) gNil)))) (by rfl) sc_work_order.nd rfl rfl (sw_true rfl rfl rfl (by decide +kernel)) (pi_tupK K rfl (pv 2)) (blkOk_by (own := [("giver", 4), ("taker", 5), ("things", 6)]) (N := N_work_order) (sc := defScope s_work_order) (by decide +kernel)) (fun _ _ _ _ _ => (pg_tupK K rfl rfl (pgs_cons (pg_name (i := 4) sc_work_order.nd rfl (Or.inl rfl)) (pgs_cons (pg_name (i := 5) sc_work_order.nd rfl (Or.inl rfl)) (pgs_cons (pg_name (i := 6) sc_work_order.nd rfl (Or.inl rfl)) pgs_nil))))) (fun _ _ _ _ _ => pts_one (pt_not (pt_truthK K rfl (pv 6) (by intro _; rfl)))) (fun _ _ _ _ _ => (pe_tup (pa_cons (pv 4) (pa_cons (pv 5) pa_nil)))))
      (PSs.to (pss_cons (ps_set (i := 7) sc_work_order.nd rfl (Or.inr rfl) (pe_op op_rep (pe_lst (pa_cons pe_int pa_nil)) (pe_callB (call_len_seqK K rfl) (by rfl) T.m_len (by decide +kernel) (pa_cons (pv 1) pa_nil))))
      (pss_cons (ps_for PassesOwn.never rfl (pi_listK K rfl (pv 3)) (pg_tupK K rfl rfl (pgs_cons (pg_name (i := 4) sc_work_order.nd rfl (Or.inl rfl)) (pgs_cons (pg_name (i := 5) sc_work_order.nd rfl (Or.inl rfl)) pgs_nil)))
        (pss_one (ps_augS (pv 7) (pv 5) (get_listK K rfl) pe_int ip_add set_list)))
      (PSs.to (pss_cons (ps_set (i := 8) sc_work_order.nd rfl (Or.inl rfl) (pe_listRg rfl (by rfl) T.m_list (prg_1 (by rfl) T.m_range (pe_callB (call_len_seqK K rfl) (by rfl) T.m_len (by decide +kernel) (pa_cons (pv 1) pa_nil)))))
      (pss_cons (ps_set (i := 9) sc_work_order.nd rfl (Or.inl rfl) (pe_lst pa_nil))
      (pss_cons (ps_while PassesOwn.never (pt_truthK K rfl (pv 8) (by intro _; rfl))
        (pss_cons (ps_set (i := 10) sc_work_order.nd rfl (Or.inl rfl) (pe_callB (cr_minKK K rfl rfl) (by rfl) T.m_min (by decide +kernel) (pa_cons (pe_lc (own := [("hand", 11)]) (g := gName 11) (by rfl) sc_work_order.nd (pi_listK K rfl (pv 8)) (blkOk_by (own := [("hand", 11)]) (N := N_work_order) (sc := defScope s_work_order) (by decide +kernel)) (fun _ _ _ _ _ => (pg_name (i := 11) sc_work_order.nd rfl (Or.inl rfl))) (fun _ _ _ _ _ => pts_one (pt_cmpR op_eq (pe_ix (ix_listK K rfl) (pv 7) (pv 11) (fun _ _ => rfl)) pe_int (nomark _))) (fun _ _ _ _ _ => (pv 11))) pa_nil)))
      (pss_cons (ps_expr (pe_bmK K rfl PySem.F.plainAttrs_list PySem.F.slot_list_remove PySem.F.type_list_remove mt_remove (pv 8) (pa_cons (pv 10) pa_nil)))
      (pss_cons (ps_expr (pe_bmK K rfl PySem.F.plainAttrs_list PySem.F.slot_list_append PySem.F.type_list_append mt_append (pv 9) (pa_cons (pv 10) pa_nil)))
      (pss_one (ps_for PassesOwn.never rfl (pi_listK K rfl (pv 3)) (pg_tupK K rfl rfl (pgs_cons (pg_name (i := 4) sc_work_order.nd rfl (Or.inl rfl)) (pgs_cons (pg_name (i := 5) sc_work_order.nd rfl (Or.inl rfl)) pgs_nil)))
        (pss_one (ps_if (pt_cmpR op_eq (pv 4) (pv 10) (nomark _)) (pss_one (ps_augS (pv 7) (pv 5) (get_listK K rfl) pe_int ip_sub set_list)) pss_nil))))))))
      (pss_one (ps_ret (pv 9)))))) R2 ?tail2))) R1 ?tail1))), ?_⟩
  case tail2 =>
    rintro D' σ' H1 ⟨eD, lo, ow, lv, v4, v5, rfl, hlo, al, s1, nlo, now, low, how⟩
    refine ⟨_, rfl, ha, _, rfl, .inr (SqT.of (s1 _ _ eh)), _, rfl, ⟨by omega, by omega, by omega, by omega, by omega⟩, fun lf nlf => ?_⟩
    refine ⟨(by show 0 ≤ sizeLine; decide), fun od nod => ?_⟩
    have erg : rgV 0 ((hv.length : Nat) : Int) = (List.range hs.length).map nV := by
      unfold rgV
      rw [show (((hv.length : Nat) : Int) - 0).toNat = hs.length by omega]
      refine List.map_congr_left fun i _ => ?_
      show V.int (0 + ((i : Nat) : Int)) = V.int ((i : Nat) : Int)
      rw [Int.zero_add]
    rw [erg] at nod ⊢
    have lf0 : H lf = none := same_none s1 nlf
    have od0 : H od = none := same_none (s1.trans (same_new nlf)) nod
    have lfod : lf ≠ od := ne_of_none upd_same nod
    have lflo : lo ≠ lf := ne_of_none hlo nlf
    have lfow : ow ≠ lf := ne_of_none how nlf
    have odlo : lo ≠ od := ne_of_none (same_new nlf _ _ hlo) nod
    have odow : ow ≠ od := ne_of_none (same_new nlf _ _ how) nod
    have tk2 : TK H1 (upd (upd H1 lf (.lst ((List.range hs.length).map nV))) od (.lst [])) := (TK.new nlf).trans (TK.new nod)
    let W : Nat → L2.St → Hp → Prop := fun mm σ H2 => ∃ (left ord : List Nat) (v4 v5 v10 v11 : Option V), σ = [some (.ref r), some (.ref ha), some (.ref ba), some (.ref lo), v4, v5, none, some (.ref ow), some (.ref lf), some (.ref od), v10, v11] ∧ mm = left.length ∧ left.Nodup ∧ (∀ k ∈ left, k < hs.length) ∧ H2 lo = some (.lst lv) ∧ All2 (PairAt H2) lv (looseOf bs) ∧ Same H H2 ∧ H2 lf = some (.lst (left.map nV)) ∧ H2 od = some (.lst (ord.map nV)) ∧ ord.length + left.length = hs.length ∧ H2 ow = some (.lst (fL hs.length fun k => cN (owing left k) (looseOf bs))) ∧ (∀ rest, Soon (looseOf bs) left rest → Soon (looseOf bs) (List.range hs.length) (ord ++ rest))
    refine ⟨W, ⟨_, List.range hs.length, [], v4, v5, none, none, rfl, rfl, List.nodup_range, fun k hk => List.mem_range.mp hk, same_new nod _ _ (same_new nlf _ _ hlo), al.imp fun _ _ z => z.keep tk2, (s1.trans (same_new nlf)).trans (same_new nod), same_new nod _ _ upd_same, upd_same, by rw [List.length_range]; exact Nat.zero_add _, same_new nod _ _ (same_new nlf _ _ how), fun rest h => h⟩, ?_⟩
    rintro mm σ H2 ⟨left, ord, w4, w5, w10, w11, rfl, rfl, ndl, hll, hlo2, al2, s2, hlf, hod, lol, how2, soon⟩
    refine ⟨_, rfl, _, .inl ⟨_, SqL.of hlf, rfl⟩, ?_⟩
    by_cases ne : left = []
    · subst ne
      refine if_bl (fun z => nomatch z) (fun _ => ⟨_, rfl, ?_⟩)
      rw [eD]
      have := soon [] .nil
      rw [List.append_nil] at this
      exact q od ord H2 od0 hod s2 this
    · have nb : (!(left.map nV).isEmpty) = true := by
        cases left with
        | nil => exact absurd rfl ne
        | cons a l => rfl
      refine if_bl (fun _ => ⟨W (left.length - 1), fun σ' H' hW => ⟨left.length - 1, by have := List.length_pos_iff.mpr ne; omega, hW⟩, ?_⟩) (fun z => by rw [nb] at z; cases z)
      obtain ⟨k0, hk0, fk0⟩ := some_free hrk ne
      -- the free ones
      refine ⟨_, rfl, lf, rfl, ⟨_, SqL.of hlf⟩, fun D nD => lc_list (K := K) (a := lf) (xs := left.map nV) (fun i H5 => ∃ fs : List Nat, H5 D = some (.lst (fs.map nV)) ∧ H5 lf = some (.lst (left.map nV)) ∧ H5 ow = some (.lst (fL hs.length fun k => cN (owing left k) (looseOf bs))) ∧ Same H2 H5 ∧ fs.length ≤ i ∧ (∀ k, k ∈ fs ↔ k ∈ left.take i ∧ free (looseOf bs) left k)) ⟨[], upd_same, same_new nD _ _ hlf, same_new nD _ _ how2, same_new nD, Nat.le_refl _, fun k => ⟨(fun z => nomatch z), (fun z => nomatch z.1)⟩⟩ (fun i H5 _ ⟨_, _, h, _⟩ => SqL.of h) ?_ ?_⟩
      · rintro i x H5 hx ⟨fs, hD, hlf5, how5, s5, lf5, mem⟩
        rw [List.getElem?_map] at hx
        cases ek : left[i]? with
        | none => rw [ek] at hx; cases hx
        | some k =>
        rw [ek] at hx
        obtain rfl : nV k = x := Option.some.inj hx
        have kl := hll k (List.mem_of_getElem? ek)
        refine ⟨rfl, _, rfl, _, rfl, ow, _, _, _, rfl, rfl, SqL.of how5, atI_nat (fL_get kl), rfl, _, rfl, if_bl (fun kk => ?_) (fun kk => ?_)⟩
        · have fk : free (looseOf bs) left k := owing_free.mp (V.int.inj (of_decide_eq_true kk))
          refine ⟨_, rfl, _, hD, ?_, fs ++ [k], ?_, ?_, ?_, Same.own s5 nD, by rw [List.length_append]; show fs.length + 1 ≤ i + 1; omega, fun j => ?_⟩
          · rw [List.length_map]
            have := (List.getElem?_eq_some_iff.mp ek).1
            exact small1000 (by omega)
          · rw [upd_same, List.map_append]; rfl
          · rw [upd_ne (ne_of_none hlf nD)]; exact hlf5
          · rw [upd_ne (ne_of_none how2 nD)]; exact how5
          · rw [List.mem_append, mem, List.take_add_one, ek, List.mem_append]
            constructor
            · rintro (h | h)
              · exact ⟨.inl h.1, h.2⟩
              · obtain rfl : j = k := by simpa using h
                exact ⟨.inr (by simp), fk⟩
            · rintro ⟨h | h, f⟩
              · exact .inl ⟨h, f⟩
              · obtain rfl : j = k := by simpa using h
                exact .inr (by simp)
        · have fk : ¬ free (looseOf bs) left k := fun z => of_decide_eq_false kk (congrArg V.int (owing_free.mpr z))
          refine ⟨fs, hD, hlf5, how5, s5, by omega, fun j => ?_⟩
          rw [mem, List.take_add_one, ek, List.mem_append]
          constructor
          · rintro ⟨h, f⟩
            exact ⟨.inl h, f⟩
          · rintro ⟨h | h, f⟩
            · exact ⟨h, f⟩
            · obtain rfl : j = k := by simpa using h
              exact absurd f fk
      · rintro H5 ⟨fs, hD, hlf5, how5, s5, lf5, mem⟩
        rw [List.length_map, List.take_length] at mem
        have hk0f : k0 ∈ fs := (mem k0).mpr ⟨hk0, fk0⟩
        refine ⟨D, fs.map fun k => ((k : Nat) : Int), rfl, SqL.of (by rw [hD, List.map_map]; rfl), by rw [List.length_map]; exact List.length_pos_of_mem hk0f, fun m hm hmin => ?_⟩
        obtain ⟨k, hk, rfl⟩ := List.mem_map.mp hm
        obtain ⟨hkl, fk⟩ := (mem k).mp hk
        have least : ∀ j ∈ left, free (looseOf bs) left j → k ≤ j := fun j h1 h2 => by
          have := hmin ((j : Nat) : Int) (List.mem_map.mpr ⟨j, (mem j).mpr ⟨h1, h2⟩, rfl⟩)
          omega
        have kl := hll k hkl
        obtain ⟨j, hj, hfirst, ees⟩ : ∃ j : Nat, left[j]? = some k ∧ (∀ m : Nat, m < j → left[m]? ≠ some k) ∧ left.eraseIdx j = left.erase k := by
          refine ⟨left.idxOf k, ?_, fun m hm => ?_, (List.erase_eq_eraseIdx_of_idxOf (rfl : left.idxOf k = left.idxOf k)).symm⟩
          · rw [List.getElem?_eq_getElem (List.idxOf_lt_length_of_mem hkl), List.getElem_idxOf]
          · intro e
            have := List.idxOf_lt_length_of_mem hkl
            have e1 : left[m] = k := (List.getElem?_eq_some_iff.mp e).2
            have e2 : left[left.idxOf k] = k := List.getElem_idxOf this
            have := (List.getElem_inj ndl (h₀ := by omega) (h₁ := this)).mp (e1.trans e2.symm)
            omega
        have elf : left.map nV = (left.map fun k => ((k : Nat) : Int)).map V.int := by rw [List.map_map]; rfl
        refine ⟨_, rfl, .inl ⟨rfl, _, SqL.of hlf5⟩, _, rfl, lf, left.map (fun k => ((k : Nat) : Int)), ((k : Nat) : Int), j, rfl, rfl, by rw [hlf5, elf], by rw [List.getElem?_map, hj]; rfl, fun m hm => ?_, ?_⟩
        · rw [List.getElem?_map]
          intro e
          cases em : left[m]? with
          | none => rw [em] at e; cases e
          | some y =>
            rw [em] at e
            have e : ((y : Nat) : Int) = ((k : Nat) : Int) := Option.some.inj e
            exact hfirst m hm (by rw [em]; congr 1; omega)
        have eer : ((left.map fun k => ((k : Nat) : Int)).eraseIdx j).map V.int = (left.erase k).map nV := by
          rw [← ees, erase_map, List.map_map]; rfl
        rw [eer]
        have hod5 := s5 _ _ hod
        have tk5 := TK.same s5
        have hlo5 := s5 _ _ hlo2
        have s6 : Same H (upd H5 lf (.lst ((left.erase k).map nV))) := Same.own (s2.trans s5) lf0
        have hod6 : (upd H5 lf (.lst ((left.erase k).map nV))) od = some (.lst (ord.map nV)) := by rw [upd_ne lfod.symm]; exact hod5
        have ll := lol
        have hlp := List.length_pos_of_mem hkl
        refine ⟨_, rfl, .inl ⟨rfl, _, SqL.of hod6⟩, _, rfl, od, _, _, rfl, rfl, hod6, by rw [List.length_map]; exact small1000 (by omega), ?_⟩
        have tk7 : TK H2 (upd (upd H5 lf (.lst ((left.erase k).map nV))) od (.lst (ord.map nV ++ [nV k]))) := (tk5.trans (TK.lst hlf5)).trans (TK.lst hod6)
        have hlo7 : (upd (upd H5 lf (.lst ((left.erase k).map nV))) od (.lst (ord.map nV ++ [nV k]))) lo = some (.lst lv) := by
          rw [upd_ne odlo, upd_ne lflo]; exact hlo5
        refine ⟨_, rfl, lo, rfl, ⟨_, SqL.of hlo7⟩, for_list (K := K) (a := lo) (xs := lv) (fun i σ H3 => ∃ v4 v5 : Option V, σ = [some (.ref r), some (.ref ha), some (.ref ba), some (.ref lo), v4, v5, none, some (.ref ow), some (.ref lf), some (.ref od), some (nV k), w11] ∧ H3 lo = some (.lst lv) ∧ All2 (PairAt H3) lv (looseOf bs) ∧ Same H H3 ∧ H3 lf = some (.lst ((left.erase k).map nV)) ∧ H3 od = some (.lst ((ord ++ [k]).map nV)) ∧ H3 ow = some (.lst (fL hs.length fun z => cN (owing left z) (looseOf bs) - cN (fun p => decide (p.1 = k) && decide (p.2 = z)) ((looseOf bs).take i))))
          ⟨w4, w5, rfl, hlo7, al2.imp fun _ _ z => z.keep tk7, Same.own s6 od0, by rw [upd_ne lfod, upd_same], by rw [upd_same, List.map_append]; rfl, ?_⟩ (fun i σ H3 _ ⟨_, _, _, h, _⟩ => SqL.of h) ?_ ?_⟩
        · rw [upd_ne odow, upd_ne lfow, how5]
          congr 2
        · rintro i x σ H3 hx ⟨u4, u5, rfl, hlo3, al3, s3, hlf3, hod3, how3⟩
          obtain ⟨p, ep, ⟨t, rfl, e1⟩⟩ := al3.getL hx
          have hp := pls p (List.mem_of_getElem? ep)
          have etk : (looseOf bs).take (i + 1) = (looseOf bs).take i ++ [p] := by rw [List.take_add_one, ep]; rfl
          refine ⟨t, _, rfl, SqT.of e1, rfl, _, _, rfl, _, _, rfl, rfl, ?_⟩
          refine ⟨_, rfl, _, rfl, rfl, _, rfl, if_bl (fun kk => ?_) (fun kk => ?_)⟩
          · have pk : p.1 = k := by have := V.int.inj (of_decide_eq_true kk); omega
            refine ⟨_, rfl, _, rfl, ow, _, p.2, _, rfl, rfl, SqL.of how3, fL_get hp.2, _, _, rfl, rfl, ow, _, _, p.2, rfl, rfl, how3, ?_, ?_⟩
            · unfold ixN
              rw [if_pos (by omega), if_pos (by rw [List.length_map, List.length_range]; omega), Int.toNat_natCast]
            · refine ⟨_, _, rfl, ?_, al3.imp fun _ _ z => z.keep (TK.lst how3), Same.own s3 now, ?_, ?_, ?_⟩
              · rw [upd_ne low]; exact hlo3
              · rw [upd_ne lfow.symm]; exact hlf3
              · rw [upd_ne odow.symm]; exact hod3
              · rw [upd_same, fL_set]
                congr 2
                refine List.map_congr_left fun z _ => ?_
                show V.int (if z = p.2 then (cN (owing left p.2) (looseOf bs) - cN (fun q => decide (q.1 = k) && decide (q.2 = p.2)) ((looseOf bs).take i)) - 1 else cN (owing left z) (looseOf bs) - cN (fun q => decide (q.1 = k) && decide (q.2 = z)) ((looseOf bs).take i)) = V.int (cN (owing left z) (looseOf bs) - cN (fun q => decide (q.1 = k) && decide (q.2 = z)) ((looseOf bs).take (i + 1)))
                rw [etk, cN_snoc]
                by_cases e : z = p.2
                · subst e
                  simp [pk]
                  omega
                · have : ¬ p.2 = z := fun y => e y.symm
                  simp [e, this]
          · have pk : ¬ p.1 = k := fun e => of_decide_eq_false kk (by rw [e])
            refine ⟨_, _, rfl, hlo3, al3, s3, hlf3, hod3, ?_⟩
            rw [how3]
            congr 2
            refine List.map_congr_left fun z _ => ?_
            show V.int (_ - cN _ _) = V.int (_ - cN _ _)
            rw [etk, cN_snoc]
            simp [pk]
        · rintro σ H3 ⟨u4, u5, rfl, hlo3, al3, s3, hlf3, hod3, how3⟩
          have le : (left.erase k).length = left.length - 1 := List.length_erase_of_mem hkl
          refine ⟨left.erase k, ord ++ [k], u4, u5, _, _, rfl, le.symm, ndl.erase k, fun y hy => hll y (List.mem_of_mem_erase hy), hlo3, al3, s3, hlf3, hod3, by rw [List.length_append, le]; show ord.length + 1 + (left.length - 1) = hs.length; omega, ?_, fun rest h => ?_⟩
          · rw [how3, List.take_of_length_le (by rw [← al3.length]; exact Nat.le_refl _)]
            congr 2
            refine List.map_congr_left fun z _ => ?_
            show V.int (_ - cN _ _) = V.int (cN _ _)
            rw [cN_erase ndl hkl]
          · have := soon (k :: rest) (.cons hkl fk least h)
            rw [List.append_assoc]
            exact this
  case tail1 =>
    rintro D' σ' H1 ⟨eD, lo, lv, rfl, hlo, al, s1, nlo⟩
    refine ⟨(by show 1 ≤ sizeLine; decide), fun l1 nl1 => ⟨_, rfl, ha, _, rfl, .inr (SqT.of (same_new nl1 _ _ (s1 _ _ eh))), l1, _, _, rfl, rfl, upd_same, by omega, by omega, little (by show 1 * _ ≤ 1000; omega), fun ow now => ?_⟩⟩
    have s2 : Same H _ := (s1.trans (same_new (o := .lst [V.int 0]) nl1)).trans (same_new (o := .lst (fL hs.length fun _ => 0)) now)
    have now0 : H ow = none := same_none (s1.trans (same_new nl1)) now
    have hlo2 := same_new (o := .lst (fL hs.length fun _ => 0)) now _ _ (same_new (o := .lst [V.int 0]) nl1 _ _ hlo)
    have low : lo ≠ ow := ne_of_none (same_new nl1 _ _ hlo) now
    have e0 : (List.replicate ((hv.length : Nat) : Int).toNat [V.int 0]).flatten = fL hs.length fun _ => 0 := by
      rw [flat_rep, Int.toNat_natCast, lhv]
      symm
      show (List.range hs.length).map (fun _ => V.int 0) = _
      rw [List.map_const', List.length_range]
    rw [e0]
    refine ⟨_, rfl, lo, rfl, ⟨_, SqL.of hlo2⟩, for_list (K := K) (a := lo) (xs := lv) (fun i σ H3 => ∃ v4 v5 : Option V, σ = [some (.ref r), some (.ref ha), some (.ref ba), some (.ref lo), v4, v5, none, some (.ref ow), none, none, none, none] ∧ H3 lo = some (.lst lv) ∧ All2 (PairAt H3) lv (looseOf bs) ∧ Same H H3 ∧ H3 ow = some (.lst (fL hs.length fun k => cN (fun p => decide (p.2 = k)) ((looseOf bs).take i))))
      ⟨none, none, rfl, hlo2, al.imp fun _ _ z => z.keep ((TK.new nl1).trans (TK.new now)), s2, upd_same⟩ (fun i σ H3 _ ⟨_, _, _, h, _⟩ => SqL.of h) ?_ ?_⟩
    · rintro i x σ H3 hx ⟨v4, v5, rfl, hlo3, al3, s3, how⟩
      obtain ⟨p, ep, ⟨t, rfl, e1⟩⟩ := al3.getL hx
      have hp := pls p (List.mem_of_getElem? ep)
      refine ⟨t, _, rfl, SqT.of e1, rfl, _, _, rfl, _, _, rfl, rfl, ?_⟩
      refine ⟨_, rfl, _, rfl, ow, _, p.2, _, rfl, rfl, SqL.of how, fL_get hp.2, _, _, rfl, rfl, ow, _, _, p.2, rfl, rfl, how, ?_, ?_⟩
      · unfold ixN
        rw [if_pos (by omega), if_pos (by rw [List.length_map, List.length_range]; omega), Int.toNat_natCast]
      · refine ⟨_, _, rfl, ?_, al3.imp fun _ _ z => z.keep (TK.lst how), Same.own s3 now0, ?_⟩
        · rw [upd_ne low]; exact hlo3
        · rw [upd_same, fL_set]
          congr 2
          refine List.map_congr_left fun k _ => ?_
          show V.int (if k = p.2 then cN (fun q => decide (q.2 = p.2)) ((looseOf bs).take i) + 1 else cN (fun q => decide (q.2 = k)) ((looseOf bs).take i)) = V.int (cN (fun q => decide (q.2 = k)) ((looseOf bs).take (i + 1)))
          rw [List.take_add_one, ep, show (some p).toList = [p] from rfl, cN_snoc]
          by_cases e : k = p.2
          · subst e
            simp
          · have : ¬ p.2 = k := fun z => e z.symm
            simp [e, this]
    · rintro σ H3 ⟨v4, v5, rfl, hlo3, al3, s3, how⟩
      refine ⟨eD, lo, ow, lv, v4, v5, rfl, hlo3, al3, s3, nlo, now0, low, ?_⟩
      rw [how, List.take_of_length_le (by rw [← al3.length]; exact Nat.le_refl _)]
      congr 2
      refine List.map_congr_left fun k _ => ?_
      show V.int (cN (fun q => decide (q.2 = k)) (looseOf bs)) = V.int (cN (owing (List.range hs.length) k) (looseOf bs))
      have e : (looseOf bs).filter (fun q => decide (q.2 = k)) = (looseOf bs).filter (owing (List.range hs.length) k) := List.filter_congr fun p hp => by
        have := (pls p hp).1
        show decide (p.2 = k) = (decide (p.2 = k) && decide (p.1 ∈ List.range hs.length))
        rw [decide_eq_true (List.mem_range.mpr this), Bool.and_true]
      unfold cN
      rw [e]
  refine ⟨_, rfl, r, _, rfl, SqT.of er, rfl, _, _, rfl, _, _, rfl, rfl, ?_⟩
  refine ⟨_, rfl, ba, rfl, ⟨_, SqT.of eb⟩, fun D nD => lc_tup (K := K) (a := ba) (xs := bv) (fun i H5 => ∃ lv : List V, H5 D = some (.lst lv) ∧ All2 (PairAt H5) lv (looseOf (bs.take i)) ∧ Same H H5) ⟨[], upd_same, .nil, same_new nD⟩ (fun i H5 _ ⟨_, _, _, s5⟩ => SqT.of (s5 _ _ eb)) ?_ ?_⟩
  · rintro i x H5 hx ⟨lv, hD, al, s5⟩
    obtain ⟨b, eb2, ⟨t, g, rfl, e1, e2⟩⟩ := alb.getL hx
    have il : i < bs.length := (List.getElem?_eq_some_iff.mp eb2).1
    have elo : looseOf (bs.take (i + 1)) = looseOf (bs.take i) ++ (if b.th.isEmpty = true then [(b.one, b.to)] else []) := by
      unfold looseOf
      rw [List.take_add_one, eb2, List.filter_append, List.map_append]
      congr 1
      cases h : b.th.isEmpty <;> simp [h]
    refine ⟨t, _, rfl, SqT.of (s5 _ _ e1), rfl, _, _, rfl, _, _, rfl, _, _, rfl, rfl, rfl, _, rfl, _, .inr (.inl ⟨_, SqT.of (s5 _ _ e2), rfl⟩), ?_⟩
    have lvl : lv.length ≤ 400 := by
      rw [al.length]
      unfold looseOf
      rw [List.length_map]
      refine Nat.le_trans (List.length_filter_le ..) ?_
      rw [List.length_take]
      omega
    refine if_bl (fun kk => ?_) (fun kk => ?_)
    · have ke : b.th.isEmpty = true := by
        cases h : b.th with
        | nil => rfl
        | cons a l => rw [h] at kk; cases kk
      refine ⟨_, rfl, _, rfl, (by show 2 ≤ sizeLine; decide), fun u nu => ⟨lv, same_new nu _ _ hD, small1000 (by omega), lv ++ [V.ref u], upd_same, ?_, ?_⟩⟩
      · rw [elo, if_pos ke]
        exact ((al.imp fun _ _ z => z.keep (TK.new nu)).snoc ⟨u, rfl, upd_same⟩).imp fun _ _ z => z.keep (TK.lst (same_new nu _ _ hD))
      · exact Same.own (s5.trans (same_new nu)) nD
    · have ke : ¬ b.th.isEmpty = true := by
        cases h : b.th with
        | nil => rw [h] at kk; cases kk
        | cons a l => intro z; cases z
      refine ⟨lv, hD, ?_, s5⟩
      rw [elo, if_neg ke, List.append_nil]
      exact al
  · rintro H5 ⟨lv, hD, al, s5⟩
    rw [List.take_of_length_le (by omega)] at al
    exact ⟨rfl, D, lv, rfl, hD, al, s5, nD⟩
end
/-! ### what rules make, bells -/
def mk2 (wd : Str) (a b : Int) : Int :=
  if wd = "sum" then a + b else if wd = "gap" then a - b else if wd = "below" then (if a < b then 1 else 0) else if wd = "most" then (if b > a then b else a) else (if b < a then b else a)
def mk (wd : Str) (n a b c : Int) : Int :=
  if wd = "always" then n else if wd = "times" then n * a else if wd = "pick" then (if a = 0 then c else b) else if wd = "same" ∨ wd = "out" then a else mk2 wd a b
def mkR (h : HR) (xs : List Int) : Int := mk h.wd (h.no.getD 0) (xs.getD 0 0) (xs.getD 1 0) (xs.getD 2 0)
/-- the hands whose rule is this door's -/
def doorsOf (z : Str) (hs : List HR) : List Nat := (List.range hs.length).filter fun i => decide (hs[i]?.map HR.wd = some z)
theorem mem_doors {z : Str} {hs : List HR} {k : Nat} : k ∈ doorsOf z hs ↔ ∃ h, hs[k]? = some h ∧ h.wd = z := by
  unfold doorsOf
  rw [List.mem_filter, List.mem_range, decide_eq_true_eq]
  constructor
  · rintro ⟨a, b⟩
    rw [List.getElem?_eq_getElem a] at b
    exact ⟨_, List.getElem?_eq_getElem a, Option.some.inj b⟩
  · rintro ⟨h, a, b⟩
    refine ⟨(List.getElem?_eq_some_iff.mp a).1, ?_⟩
    rw [a, ← b]
    rfl
theorem doors_nodup {z : Str} {hs : List HR} : (doorsOf z hs).Nodup := List.nodup_range.filter _
theorem doors_len {z : Str} {hs : List HR} : (doorsOf z hs).length ≤ hs.length := by
  refine Nat.le_trans (List.length_filter_le ..) ?_
  rw [List.length_range]
  exact Nat.le_refl _
abbrev gD (m : List Int) (k : Nat) : Int := m.getD k 0
def valB (f : Nat → Int) (b : BR) : Int := match b.th with | [] => f b.one | x :: _ => x
def takes (cur : List BR) (f : Nat → Int) (k : Nat) : List Int := (cur.filter fun b => decide (b.to = k)).map (valB f)
theorem valB_nil {f : Nat → Int} {b : BR} (h : b.th = []) : valB f b = f b.one := by unfold valB; rw [h]
theorem takes_ext {cur : List BR} {f g : Nat → Int} {k : Nat} (h : ∀ b ∈ cur, b.to = k → b.th = [] → f b.one = g b.one) : takes cur f k = takes cur g k := by
  unfold takes
  refine List.map_congr_left fun b hb => ?_
  have hb := List.mem_filter.mp hb
  cases e : b.th with
  | nil => rw [valB_nil e, valB_nil e]; exact h b hb.1 (of_decide_eq_true hb.2) e
  | cons x l => unfold valB; rw [e]
structure IsBell (hs : List HR) (cur : List BR) (ins m : List Int) : Prop where
  len : m.length = hs.length
  door : ∀ j k : Nat, (doorsOf "in" hs)[j]? = some k → m[k]? = ins[j]?
  hand : ∀ (k : Nat) (h : HR), hs[k]? = some h → h.wd ≠ "in" → m[k]? = some (mkR h (takes cur (gD m) k))
theorem mem_loose {cur : List BR} {b : BR} (h : b ∈ cur) (e : b.th = []) : (b.one, b.to) ∈ looseOf cur := List.mem_map.mpr ⟨b, List.mem_filter.mpr ⟨h, by rw [e]; rfl⟩, rfl⟩
theorem bell_one {hs : List HR} {cur : List BR} {ins m m' : List Int} {rk : Nat → Int} (hr : ∀ p ∈ looseOf cur, rk p.1 < rk p.2) (a : IsBell hs cur ins m) (b : IsBell hs cur ins m') : m = m' := by
  have off : ∀ k, ¬ k < hs.length → m[k]? = m'[k]? := fun k hk => by
    rw [List.getElem?_eq_none (by have := a.len; omega), List.getElem?_eq_none (by have := b.len; omega)]
  obtain ⟨D, hD⟩ : ∃ D, D = (List.range hs.length).filter fun k => decide (m[k]? ≠ m'[k]?) := ⟨_, rfl⟩
  have mD : ∀ k, k ∉ D → m[k]? = m'[k]? := fun k hk => by
    by_cases l : k < hs.length
    · by_cases e : m[k]? = m'[k]?
      · exact e
      · refine absurd ?_ hk
        rw [hD, List.mem_filter]
        exact ⟨List.mem_range.mpr l, decide_eq_true e⟩
    · exact off k l
  by_cases e : D = []
  · refine List.ext_getElem? fun k => mD k ?_
    rw [e]
    exact fun z => nomatch z
  · exfalso
    obtain ⟨k, hk, fr⟩ := some_free hr e
    have hk2 := hk
    rw [hD, List.mem_filter] at hk2
    have kl := List.mem_range.mp hk2.1
    have ne : m[k]? ≠ m'[k]? := of_decide_eq_true hk2.2
    have eh : hs[k]? = some hs[k] := List.getElem?_eq_getElem kl
    by_cases w : hs[k].wd = "in"
    · obtain ⟨j, hj⟩ := List.getElem?_of_mem (mem_doors.mpr ⟨_, eh, w⟩)
      exact ne ((a.door j k hj).trans (b.door j k hj).symm)
    · refine ne ((a.hand k _ eh w).trans ((b.hand k _ eh w).trans ?_).symm)
      rw [takes_ext (g := gD m) fun c hc et en => ?_]
      have := mD c.one (fr _ (mem_loose hc en) et)
      show m'.getD c.one 0 = m.getD c.one 0
      rw [List.getD_eq_getElem?_getD, List.getD_eq_getElem?_getD, this]
/-- what some hands have made already -/
structure Part (hs : List HR) (cur : List BR) (ins : List Int) (pm : Nat → Option Int) : Prop where
  dom : ∀ k v, pm k = some v → k < hs.length
  door : ∀ j k : Nat, (doorsOf "in" hs)[j]? = some k → pm k = ins[j]?
  hand : ∀ (k : Nat) (h : HR) (v : Int), hs[k]? = some h → h.wd ≠ "in" → pm k = some v → v = mkR h (takes cur (fun j => (pm j).getD 0) k) ∧ ∀ b ∈ cur, b.to = k → b.th = [] → (pm b.one).isSome = true
abbrev putM (pm : Nat → Option Int) (k : Nat) (v : Int) : Nat → Option Int := fun j => if j = k then some v else pm j
theorem Part.put {hs : List HR} {cur : List BR} {ins : List Int} {pm : Nat → Option Int} (p : Part hs cur ins pm) {k : Nat} {h : HR} (eh : hs[k]? = some h) (w : h.wd ≠ "in") (new : pm k = none)
    (there : ∀ b ∈ cur, b.to = k → b.th = [] → (pm b.one).isSome = true) : Part hs cur ins (putM pm k (mkR h (takes cur (fun j => (pm j).getD 0) k))) := by
  have old : ∀ j, (pm j).isSome = true → ∀ v, putM pm k v j = pm j := fun j hj v => if_neg fun e => by rw [e, new] at hj; cases hj
  have same : ∀ j v, (∀ b ∈ cur, b.to = j → b.th = [] → (pm b.one).isSome = true) → takes cur (fun i => (pm i).getD 0) j = takes cur (fun i => (putM pm k v i).getD 0) j := fun j v hb => takes_ext fun b b1 b2 b3 => by
    show (pm b.one).getD 0 = (putM pm k v b.one).getD 0
    rw [old _ (hb b b1 b2 b3)]
  refine ⟨fun j v e => ?_, fun i j e => ?_, fun j h' v e1 e2 e3 => ?_⟩
  · by_cases z : j = k
    · rw [z]; exact (List.getElem?_eq_some_iff.mp eh).1
    · exact p.dom j v ((if_neg z).symm.trans e)
  · have z : j ≠ k := fun z => by
      obtain ⟨h2, q1, q2⟩ := mem_doors.mp (List.mem_of_getElem? e)
      rw [z, eh] at q1
      cases q1
      exact w q2
    exact (if_neg z).trans (p.door i j e)
  · by_cases z : j = k
    · subst z
      rw [eh] at e1
      cases e1
      have e4 := Option.some.inj ((if_pos rfl).symm.trans e3)
      refine ⟨?_, fun b b1 b2 b3 => ?_⟩
      · exact e4.symm.trans (congrArg (mkR h) (same _ _ there))
      · rw [old _ (there b b1 b2 b3)]
        exact there b b1 b2 b3
    · have e4 : pm j = some v := (if_neg z).symm.trans e3
      obtain ⟨q1, q2⟩ := p.hand j h' v e1 e2 e4
      refine ⟨?_, fun b b1 b2 b3 => ?_⟩
      · exact q1.trans (congrArg (mkR h') (same _ _ q2))
      · rw [old _ (q2 b b1 b2 b3)]
        exact q2 b b1 b2 b3
abbrev fullM (n : Nat) (pm : Nat → Option Int) : List Int := (List.range n).map fun k => (pm k).getD 0
theorem fullM_get {n k : Nat} {pm : Nat → Option Int} (h : k < n) : (fullM n pm)[k]? = some ((pm k).getD 0) := by
  rw [List.getElem?_map, List.getElem?_range h]; rfl
theorem Part.full {hs : List HR} {cur : List BR} {ins : List Int} {pm : Nat → Option Int} (p : Part hs cur ins pm) (all : ∀ k, k < hs.length → (pm k).isSome = true) : IsBell hs cur ins (fullM hs.length pm) := by
  have at_ : ∀ k, k < hs.length → ∃ v, pm k = some v ∧ (fullM hs.length pm)[k]? = some v := fun k hk => by
    obtain ⟨v, hv⟩ := Option.isSome_iff_exists.mp (all k hk)
    exact ⟨v, hv, by rw [fullM_get hk, hv]; rfl⟩
  refine ⟨by rw [List.length_map, List.length_range], fun j k e => ?_, fun k h e w => ?_⟩
  · obtain ⟨h, q, _⟩ := mem_doors.mp (List.mem_of_getElem? e)
    obtain ⟨v, e1, e2⟩ := at_ k (List.getElem?_eq_some_iff.mp q).1
    rw [e2, ← e1]
    exact p.door j k e
  · obtain ⟨v, e1, e2⟩ := at_ k (List.getElem?_eq_some_iff.mp e).1
    obtain ⟨q1, q2⟩ := p.hand k h v e w e1
    rw [e2, q1]
    congr 2
    refine takes_ext fun b b1 b2 b3 => ?_
    obtain ⟨x, hx⟩ := Option.isSome_iff_exists.mp (q2 b b1 b2 b3)
    obtain ⟨y, e3, e4⟩ := at_ b.one (p.dom _ _ hx)
    show (pm b.one).getD 0 = (fullM hs.length pm).getD b.one 0
    rw [List.getD_eq_getElem?_getD, e4, e3]
/-! ### the dict of what was made -/
abbrev kN (k : Nat) : Key := .inl ((k : Nat) : Int)
def DM (kvs : List (Key × V)) (pm : Nat → Option Int) : Prop := ∀ k : Nat, valV kvs (kN k) = (pm k).map V.int
theorem kN_inj {a b : Nat} (h : kN a = kN b) : a = b := by
  have : ((a : Nat) : Int) = ((b : Nat) : Int) := Sum.inl.inj h
  omega
theorem DM.put {kvs : List (Key × V)} {pm : Nat → Option Int} (d : DM kvs pm) (k : Nat) (v : Int) : DM (putK kvs (kN k) (.int v)) (putM pm k v) := fun j => by
  rw [valV_put]
  by_cases e : j = k
  · subst e
    rw [if_pos rfl, show putM pm j v j = some v from if_pos rfl]
    rfl
  · rw [if_neg fun z => e (kN_inj z), show putM pm k v j = pm j from if_neg e]
    exact d j
theorem merge_off {k : Nat} : ∀ (ks : List Nat) (xs : List Int) (acc : List (Key × V)), k ∉ ks → valV (mergeK acc ((ks.map kN).zip (xs.map V.int))) (kN k) = valV acc (kN k)
  | [], _, _, _ => rfl
  | _ :: _, [], _, _ => rfl
  | a :: ks, x :: xs, acc, h => by
    have h1 : k ≠ a := fun e => h (by rw [e]; exact List.mem_cons_self ..)
    have h2 : k ∉ ks := fun e => h (List.mem_cons_of_mem _ e)
    show valV (mergeK (putK acc (kN a) (V.int x)) ((ks.map kN).zip (xs.map V.int))) (kN k) = _
    rw [merge_off ks xs _ h2, valV_put, if_neg fun z => h1 (kN_inj z)]
theorem merge_on {k : Nat} {v : Int} : ∀ (ks : List Nat) (xs : List Int) (acc : List (Key × V)) (j : Nat), ks.Nodup → ks[j]? = some k → xs[j]? = some v → valV (mergeK acc ((ks.map kN).zip (xs.map V.int))) (kN k) = some (.int v)
  | [], _, _, _, _, h, _ => nomatch h
  | _ :: _, [], _, _, _, _, h => nomatch h
  | a :: ks, x :: xs, acc, 0, nd, h1, h2 => by
    cases h1
    cases h2
    show valV (mergeK (putK acc (kN k) (V.int v)) ((ks.map kN).zip (xs.map V.int))) (kN k) = _
    rw [merge_off ks xs _ (List.nodup_cons.mp nd).1, valV_put, if_pos rfl]
  | a :: ks, x :: xs, acc, j + 1, nd, h1, h2 => merge_on ks xs _ j (List.nodup_cons.mp nd).2 h1 h2
/-- what the in doors have made -/
def doorM (hs : List HR) (ins : List Int) : Nat → Option Int := fun k => if k ∈ doorsOf "in" hs then ins[(doorsOf "in" hs).idxOf k]? else none
theorem idx_at {l : List Nat} (nd : l.Nodup) {j k : Nat} (h : l[j]? = some k) : l.idxOf k = j := by
  have jl := (List.getElem?_eq_some_iff.mp h).1
  have m := List.mem_of_getElem? h
  have il := List.idxOf_lt_length_of_mem m
  exact (List.getElem_inj nd (h₀ := il) (h₁ := jl)).mp ((List.getElem_idxOf il).trans (List.getElem?_eq_some_iff.mp h).2.symm)
theorem doorM_dm {hs : List HR} {ins : List Int} (hl : ins.length = (doorsOf "in" hs).length) : DM (mergeK [] (((doorsOf "in" hs).map kN).zip (ins.map V.int))) (doorM hs ins) := fun k => by
  unfold doorM
  by_cases e : k ∈ doorsOf "in" hs
  · rw [if_pos e]
    have il := List.idxOf_lt_length_of_mem e
    have e1 : (doorsOf "in" hs)[(doorsOf "in" hs).idxOf k]? = some k := by rw [List.getElem?_eq_getElem il, List.getElem_idxOf]
    have e2 : ins[(doorsOf "in" hs).idxOf k]? = some ins[(doorsOf "in" hs).idxOf k] := List.getElem?_eq_getElem (by omega)
    rw [merge_on _ _ _ _ doors_nodup e1 e2, e2]
    rfl
  · rw [if_neg e, merge_off _ _ _ e]
    rfl
theorem doorM_part {hs : List HR} {cur : List BR} {ins : List Int} : Part hs cur ins (doorM hs ins) := by
  refine ⟨fun k v e => ?_, fun j k e => ?_, fun k h v e w e2 => ?_⟩
  · unfold doorM at e
    by_cases m : k ∈ doorsOf "in" hs
    · obtain ⟨h, q, _⟩ := mem_doors.mp m
      exact (List.getElem?_eq_some_iff.mp q).1
    · rw [if_neg m] at e
      cases e
  · unfold doorM
    rw [if_pos (List.mem_of_getElem? e), idx_at doors_nodup e]
  · unfold doorM at e2
    rw [if_neg fun m => by
      obtain ⟨h2, q1, q2⟩ := mem_doors.mp m
      rw [e] at q1
      cases q1
      exact w q2] at e2
    cases e2
theorem doorM_all {hs : List HR} {ins : List Int} (hl : ins.length = (doorsOf "in" hs).length) {k : Nat} {h : HR} (e : hs[k]? = some h) (w : h.wd = "in") : (doorM hs ins k).isSome = true := by
  have m := mem_doors.mpr ⟨h, e, w⟩
  unfold doorM
  rw [if_pos m]
  have il := List.idxOf_lt_length_of_mem m
  rw [List.getElem?_eq_getElem (by omega)]
  rfl
/-! ### belts as they stand behind some bells -/
def nextB (m : List Int) (b : BR) : BR := if b.th = [] then b else ⟨b.one, b.to, b.th.drop 1 ++ [gD m b.one]⟩
def standB (ms : List (List Int)) (b : BR) : BR := if b.th = [] then b else ⟨b.one, b.to, (b.th ++ ms.map fun m => gD m b.one).drop ms.length⟩
abbrev stand (bs : List BR) (ms : List (List Int)) : List BR := bs.map (standB ms)
theorem stand_one (ms : List (List Int)) (b : BR) : (standB ms b).one = b.one := by unfold standB; split <;> rfl
theorem stand_to (ms : List (List Int)) (b : BR) : (standB ms b).to = b.to := by unfold standB; split <;> rfl
theorem stand_len (ms : List (List Int)) (b : BR) : (standB ms b).th.length = b.th.length := by
  unfold standB
  split
  · rfl
  · rw [List.length_drop, List.length_append, List.length_map]; omega
theorem nil_len {l l' : List Int} (h : l.length = l'.length) : l = [] ↔ l' = [] := by
  cases l <;> cases l' <;> simp at h ⊢
theorem stand_th (ms : List (List Int)) (b : BR) : (standB ms b).th = [] ↔ b.th = [] := nil_len (stand_len ms b)
theorem stand_zero (bs : List BR) : stand bs [] = bs := by
  refine (List.map_congr_left (g := id) fun b _ => ?_).trans (List.map_id _)
  unfold standB
  split
  · rfl
  · show (⟨b.one, b.to, (b.th ++ []).drop 0⟩ : BR) = b
    rw [List.append_nil]
    rfl
theorem stand_next (bs : List BR) (ms : List (List Int)) (m : List Int) : (stand bs ms).map (nextB m) = stand bs (ms ++ [m]) := by
  rw [List.map_map]
  refine List.map_congr_left fun b _ => ?_
  show nextB m (standB ms b) = standB (ms ++ [m]) b
  have hn := stand_th ms b
  by_cases e : b.th = []
  · rw [show nextB m (standB ms b) = standB ms b from if_pos (hn.mpr e)]
    rw [show standB ms b = b from if_pos e, show standB (ms ++ [m]) b = b from if_pos e]
  · rw [show nextB m (standB ms b) = ⟨(standB ms b).one, (standB ms b).to, (standB ms b).th.drop 1 ++ [gD m (standB ms b).one]⟩ from if_neg fun z => e (hn.mp z)]
    rw [stand_one, stand_to, show standB ms b = ⟨b.one, b.to, (b.th ++ ms.map fun m => gD m b.one).drop ms.length⟩ from if_neg e,
      show standB (ms ++ [m]) b = ⟨b.one, b.to, (b.th ++ (ms ++ [m]).map fun m => gD m b.one).drop (ms ++ [m]).length⟩ from if_neg e]
    show (⟨b.one, b.to, ((b.th ++ ms.map fun m => gD m b.one).drop ms.length).drop 1 ++ [gD m b.one]⟩ : BR) = _
    rw [List.drop_drop, List.map_append, ← List.append_assoc, List.length_append]
    congr 1
    refine (List.drop_append_of_le_length ?_).symm
    have := List.length_pos_iff.mpr e
    rw [List.length_append, List.length_map]
    show ms.length + 1 ≤ _
    omega
theorem loose_stand (bs : List BR) (ms : List (List Int)) : looseOf (stand bs ms) = looseOf bs := by
  unfold looseOf
  induction bs with
  | nil => rfl
  | cons b bs ih =>
    have e : (standB ms b).th.isEmpty = b.th.isEmpty := by
      have h := stand_th ms b
      cases h1 : (standB ms b).th <;> cases h2 : b.th <;> simp [h1, h2] at h ⊢
    show List.map _ (List.filter _ (standB ms b :: stand bs ms)) = _
    rw [List.filter_cons, List.filter_cons, e]
    cases b.th.isEmpty
    · exact ih
    · show ((standB ms b).one, (standB ms b).to) :: _ = (b.one, b.to) :: _
      rw [ih, stand_one, stand_to]
/-- what is taken from a belt with trays -/
theorem stand_head {ms : List (List Int)} {b : BR} (f : Nat → Int) (e : b.th ≠ []) : valB f (standB ms b) = (b.th ++ ms.map fun m => gD m b.one).getD ms.length 0 := by
  have hl := stand_len ms b
  have pos := List.length_pos_iff.mpr e
  have et : (standB ms b).th = (b.th ++ ms.map fun m => gD m b.one).drop ms.length := by unfold standB; rw [if_neg e]
  unfold valB
  cases q : (standB ms b).th with
  | nil => rw [q] at hl; simp at hl; omega
  | cons x l =>
    rw [q] at et
    have : ((b.th ++ ms.map fun m => gD m b.one).drop ms.length)[0]? = some x := by rw [← et]; rfl
    rw [List.getElem?_drop, Nat.add_zero] at this
    rw [List.getD_eq_getElem?_getD, this]
    rfl
/-! ### many bells -/
structure WS (hs : List HR) (bs : List BR) (rows ms : List (List Int)) : Prop where
  len : ms.length = rows.length
  at_ : ∀ (t : Nat) (r m : List Int), rows[t]? = some r → ms[t]? = some m → IsBell hs (stand bs (ms.take t)) r m
theorem WS.nil {hs : List HR} {bs : List BR} : WS hs bs [] [] := ⟨rfl, fun t r m e => nomatch e⟩
theorem WS.snoc {hs : List HR} {bs : List BR} {rows ms : List (List Int)} {r m : List Int} (h : WS hs bs rows ms) (b : IsBell hs (stand bs ms) r m) : WS hs bs (rows ++ [r]) (ms ++ [m]) := by
  refine ⟨by rw [List.length_append, List.length_append, h.len]; rfl, fun t r' m' e1 e2 => ?_⟩
  by_cases l : t < ms.length
  · have l2 : t < rows.length := by rw [← h.len]; exact l
    rw [List.getElem?_append_left l2] at e1
    rw [List.getElem?_append_left l] at e2
    rw [List.take_append_of_le_length (Nat.le_of_lt l)]
    exact h.at_ t r' m' e1 e2
  · have tl := (List.getElem?_eq_some_iff.mp e2).1
    rw [List.length_append] at tl
    have et : t = ms.length := by simp at tl; omega
    subst et
    rw [List.getElem?_append_right (Nat.le_refl _), Nat.sub_self] at e2
    rw [h.len, List.getElem?_append_right (Nat.le_refl _), Nat.sub_self] at e1
    cases e1
    cases e2
    rw [List.take_append_of_le_length (Nat.le_refl _), List.take_length]
    exact b
theorem WS.one {hs : List HR} {bs : List BR} {rows ms ms' : List (List Int)} {rk : Nat → Int} (hr : ∀ p ∈ looseOf bs, rk p.1 < rk p.2) (a : WS hs bs rows ms) (b : WS hs bs rows ms') : ms = ms' := by
  have key : ∀ t, ms.take t = ms'.take t := by
    intro t
    induction t with
    | zero => rfl
    | succ t ih =>
      rw [List.take_add_one, List.take_add_one, ih]
      by_cases l : t < rows.length
      · have l1 : t < ms.length := by have := a.len; omega
        have l2 : t < ms'.length := by have := b.len; omega
        have e1 : ms[t]? = some ms[t] := List.getElem?_eq_getElem l1
        have e2 : ms'[t]? = some ms'[t] := List.getElem?_eq_getElem l2
        have e3 : rows[t]? = some rows[t] := List.getElem?_eq_getElem l
        have q1 := a.at_ t _ _ e3 e1
        have q2 := b.at_ t _ _ e3 e2
        rw [ih] at q1
        have := bell_one (rk := rk) (by rw [loose_stand]; exact hr) q1 q2
        rw [e1, e2, this]
      · rw [List.getElem?_eq_none (by have := a.len; omega), List.getElem?_eq_none (by have := b.len; omega)]
  have h1 := key rows.length
  rw [List.take_of_length_le (by rw [a.len]; exact Nat.le_refl _), List.take_of_length_le (by rw [b.len]; exact Nat.le_refl _)] at h1
  exact h1
theorem WS.row {hs : List HR} {bs : List BR} {rows ms : List (List Int)} (h : WS hs bs rows ms) : ∀ m ∈ ms, m.length = hs.length := fun m hm => by
  obtain ⟨t, e⟩ := List.getElem?_of_mem hm
  have tl := (List.getElem?_eq_some_iff.mp e).1
  have e3 : rows[t]? = some (rows[t]'(by rw [← h.len]; exact tl)) := List.getElem?_eq_getElem _
  exact (h.at_ t _ _ e3 e).len
/-- the belts that come to a hand -/
def comingN (bs : List BR) (k : Nat) : List Nat := (List.range bs.length).filter fun i => decide (bs[i]?.map BR.to = some k)
def outsOf (hs : List HR) (m : List Int) : List Int := (doorsOf "out" hs).map (gD m)
section
variable {P : Program} {w : World} {K : PySem.W.Frag} {mg : Str → Option Value} {base : Heap}
theorem filt_succ {p : Nat → Bool} (i : Nat) : (List.range (i + 1)).filter p = (List.range i).filter p ++ (if p i = true then [i] else []) := by
  rw [List.range_succ, List.filter_append]
  cases h : p i <;> simp [h]
theorem filt_len {p : Nat → Bool} (i : Nat) : ((List.range i).filter p).length ≤ i := by
  refine Nat.le_trans (List.length_filter_le ..) ?_
  rw [List.length_range]
  exact Nat.le_refl _
def sp_comings (K : PySem.W.Frag) : Sp := fun vs H Q _ => ∃ (r : Addr) (hs : List HR) (bs : List BR) (k : Nat), vs = [.ref r, nV k] ∧ RoomAt H r hs bs ∧ bs.length ≤ 400 ∧ ∀ (p : Addr) (H' : Hp), H p = none → H' p = some (.lst ((comingN bs k).map nV)) → Same H H' → Q (.ref p) H'
theorem ok_comings {f : Addr} {fd : FuncData} (F : Fun K "comings" "comings" s_comings f fd) (T : Top K mg) : FnOk P w K mg base CX0 1 f fd ["room", "hand"] (sp_comings K) := by
  refine F.ok sc_comings (fun vs H Q E h => ?_) (fun cdv A outer s H vs Q E hr h => ?_)
  · obtain ⟨r, hs, bs, k, rfl, _⟩ := h
    rfl
  obtain ⟨r, hs, bs, k, rfl, hR, lb, q⟩ := h
  obtain ⟨ha, ba, hv, bv, er, eh, eb, alh, alb⟩ := hR.ex
  have lbv := alb.length
  refine ⟨_, (pss_one (ps_ret (pe_lc (own := [("number", 2), ("belt", 3)]) (g := gTup K 2 (gCons (gName 2) (gCons (gName 3) gNil))) (by rfl) sc_comings.nd (pi_enumT K rfl (by rfl) T.m_enumerate (pa_cons (pe_ix (ix_tupK K rfl) (pv 0) pe_int (fun _ _ => rfl)) pa_nil)) (blkOk_by (own := [("number", 2), ("belt", 3)]) (N := N_comings) (sc := defScope s_comings) (by decide +kernel)) (fun _ _ _ _ _ => (pg_tupK K rfl rfl (pgs_cons (pg_name (i := 2) sc_comings.nd rfl (Or.inl rfl)) (pgs_cons (pg_name (i := 3) sc_comings.nd rfl (Or.inl rfl)) pgs_nil)))) (fun _ _ _ _ _ => pts_one (pt_cmpR op_eq (pe_ix (ix_tupK K rfl) (pv 3) pe_int (fun _ _ => rfl)) (pv 1) (nomark _))) (fun _ _ _ _ _ => (pv 2))))), ?_⟩
  refine ⟨_, rfl, r, _, _, _, rfl, rfl, SqT.of er, atI_nat (j := 1) rfl, ba, bv, rfl, SqT.of eb, fun D nD => lc_it (J := IteT K ba bv) (n := bv.length) (fun i H5 => H5 D = some (.lst (((List.range i).filter fun j => decide (bs[j]?.map BR.to = some k)).map nV)) ∧ Same H H5) ⟨upd_same, same_new nD⟩ ?_ ?_ ?_ ?_⟩
  · rintro i H5 hi ⟨hD, s5⟩
    exact ⟨SqT.of (s5 _ _ eb), hi⟩
  · rintro H5 ⟨hD, s5⟩
    exact ⟨SqT.of (s5 _ _ eb), rfl⟩
  · rintro i x H5 H6 hi ⟨hD, s5⟩ ⟨t, y, rfl, nt, rfl, ey⟩
    obtain ⟨b, eb2, ⟨t2, g, rfl, e1, e2⟩⟩ := alb.getL ey
    have s6 := s5.trans (same_new (o := .tup [V.int ((i : Nat) : Int), V.ref t2]) nt)
    have hD6 := same_new (o := .tup [V.int ((i : Nat) : Int), V.ref t2]) nt _ _ hD
    have few := filt_len (p := fun j => decide (bs[j]?.map BR.to = some k)) i
    refine ⟨t, _, rfl, SqT.of upd_same, rfl, _, _, rfl, _, _, rfl, rfl, rfl, _, rfl, t2, _, _, _, rfl, rfl, SqT.of (s6 _ _ e1), atI_nat (j := 1) rfl, _, rfl, rfl, _, rfl, if_bl (fun c => ?_) (fun c => ?_)⟩
    · have c : b.to = k := by have := V.int.inj (of_decide_eq_true c); omega
      refine ⟨_, rfl, _, hD6, by rw [List.length_map]; exact small1000 (by omega), ?_, Same.own s6 nD⟩
      rw [upd_same, filt_succ, if_pos (decide_eq_true (by rw [eb2, ← c]; rfl)), List.map_append]
      rfl
    · have c : ¬ b.to = k := fun z => of_decide_eq_false c (by rw [z])
      refine ⟨?_, s6⟩
      rw [filt_succ, if_neg fun z => c (by have := of_decide_eq_true z; rw [eb2] at this; exact Option.some.inj this), List.append_nil]
      exact hD6
  · rintro H5 ⟨hD, s5⟩
    refine q D H5 nD ?_ s5
    rw [hD, lbv]
    rfl
end
theorem soon_one {ls : List (Nat × Nat)} : ∀ {left o1 o2 : List Nat}, Soon ls left o1 → Soon ls left o2 → o1 = o2 := by
  intro left o1 o2 h
  induction h generalizing o2 with
  | nil =>
    intro h2
    cases h2 with
    | nil => rfl
    | cons a => cases a
  | cons a b c d ih =>
    intro h2
    cases h2 with
    | nil => cases a
    | @cons _ ord k2 a2 b2 c2 d2 =>
      have e := Nat.le_antisymm (c _ a2 b2) (c2 _ a b)
      subst e
      rw [ih d2]
theorem soon_len {ls : List (Nat × Nat)} {left ord : List Nat} (h : Soon ls left ord) : ord.length = left.length := by
  induction h with
  | nil => rfl
  | cons a b c d ih =>
    rw [List.length_cons, ih, List.length_erase_of_mem a]
    have := List.length_pos_of_mem a
    omega
theorem soon_mem {ls : List (Nat × Nat)} {left ord : List Nat} (h : Soon ls left ord) : ∀ x ∈ ord, x ∈ left := by
  induction h with
  | nil => exact fun _ z => nomatch z
  | cons a b c d ih =>
    intro x hx
    rcases List.mem_cons.mp hx with e | e
    · rw [e]; exact a
    · exact List.mem_of_mem_erase (ih x e)
section
variable {P : Program} {w : World} {K : PySem.W.Frag} {mg : Str → Option Value} {base : Heap}
/-- a hand and the belts that come to it -/
def PlanAt (Z : Hp) (D : Addr) (bs : List BR) (H : Hp) (v : V) (k : Nat) : Prop := ∃ t l : Addr, v = .ref t ∧ H t = some (.tup [nV k, .ref l]) ∧ H l = some (.lst ((comingN bs k).map nV)) ∧ l ≠ D ∧ Z t = none ∧ Z l = none
theorem PlanAt.same {Z : Hp} {D : Addr} {bs : List BR} {H H' : Hp} {v : V} {k : Nat} (a : PlanAt Z D bs H v k) (s : Same H H') : PlanAt Z D bs H' v k := by
  obtain ⟨t, l, e, h1, h2, n⟩ := a
  exact ⟨t, l, e, s _ _ h1, s _ _ h2, n⟩
theorem PlanAt.own {Z : Hp} {D : Addr} {bs : List BR} {H : Hp} {v : V} {k : Nat} {xs ys : List V} (a : PlanAt Z D bs H v k) (h : H D = some (.lst xs)) : PlanAt Z D bs (upd H D (.lst ys)) v k := by
  obtain ⟨t, l, e, h1, h2, n⟩ := a
  exact ⟨t, l, e, TK.lst h _ _ h1, by rw [upd_ne n.1]; exact h2, n⟩
end
/-! ### a loop over any iterator, whatever its turn does -/
theorem it_loop {J : It} {n : Nat} {B : V → Hp → (Hp → Prop) → Prop} {H0 : Hp} {Qd : Hp → Prop} (Pv : Nat → Hp → Prop) (h0 : Pv 0 H0) (go : ∀ i H, i < n → Pv i H → J.go i H) (st : ∀ H, Pv n H → J.stop n H)
    (hs : ∀ i x H H', i < n → Pv i H → J.yld i H x H' → B x H' (Pv (i + 1))) (hd : ∀ H, Pv n H → Qd H) :
    ∃ W : Nat → Nat → Hp → Prop, (∃ m, W 0 m H0) ∧ ∀ i m H, W i m H → (J.stop i H ∧ Qd H) ∨ (J.go i H ∧ ∃ Nx : Hp → Prop, (∀ H', Nx H' → ∃ m', m' < m ∧ W (i + 1) m' H') ∧ ∀ x H', J.yld i H x H' → B x H' Nx) := by
  refine ⟨fun i m H => i + m = n ∧ Pv i H, ⟨n, by omega, h0⟩, fun i m H ⟨e, p⟩ => ?_⟩
  by_cases k : i < n
  · exact .inr ⟨go i H k p, Pv (i + 1), fun H' p' => ⟨m - 1, by omega, by omega, p'⟩, fun x H' y => hs i x H H' k p y⟩
  · have z : i = n := by omega
    subst z
    exact .inl ⟨st H p, hd H p⟩
theorem r_at0 {xs : List V} {k : Nat} {x : V} (h : xs[k]? = some x) : atI xs (0 + (k : Int)) = some x := by
  rw [Int.zero_add]
  exact atI_nat h
/-! ### when works begin: the moments, by their number -/
def momN (hs : List HR) (k : Nat) : Int := match hs[k]? with | some h => h.mom | none => 0
def dueL (hs : List HR) (bs : List BR) (e : Nat → Nat → Int) (k t : Nat) : List Int :=
  [0] ++ (if t = 0 then [] else [e k (t - 1) + momN hs k]) ++ (bs.filter fun b => decide (b.to = k) && decide (b.th.length ≤ t)).map fun b => e b.one (t - b.th.length) + momN hs b.one
def gtst (l : List Int) : Int := l.foldl max 0
theorem gtst_aux : ∀ (l : List Int) (a : Int), a ≤ l.foldl max a ∧ (∀ x ∈ l, x ≤ l.foldl max a) ∧ (l.foldl max a = a ∨ l.foldl max a ∈ l)
  | [], a => ⟨Int.le_refl _, (fun _ z => nomatch z), .inl rfl⟩
  | y :: l, a => by
    obtain ⟨h1, h2, h3⟩ := gtst_aux l (max a y)
    refine ⟨?_, fun x hx => ?_, ?_⟩
    · show a ≤ l.foldl max (max a y)
      omega
    · show x ≤ l.foldl max (max a y)
      rcases List.mem_cons.mp hx with rfl | hx
      · omega
      · exact h2 x hx
    · show l.foldl max (max a y) = a ∨ l.foldl max (max a y) ∈ y :: l
      rcases h3 with h3 | h3
      · by_cases z : a ≤ y
        · right
          rw [h3, Int.max_eq_right z]
          exact List.mem_cons_self ..
        · left
          rw [h3]
          omega
      · exact .inr (List.mem_cons_of_mem _ h3)
theorem gtst_le {l : List Int} {x : Int} (h : x ∈ l) : x ≤ gtst l := (gtst_aux l 0).2.1 x h
theorem gtst_mem {l : List Int} (h : 0 ∈ l) : gtst l ∈ l := by
  rcases (gtst_aux l 0).2.2 with e | e
  · unfold gtst
    rw [e]
    exact h
  · exact e
theorem gtst_one {l : List Int} {m : Int} (h0 : 0 ∈ l) (hm : m ∈ l) (hg : ∀ y ∈ l, y ≤ m) : m = gtst l := Int.le_antisymm (gtst_le hm) (hg _ (gtst_mem h0))
def eF (hs : List HR) (bs : List BR) : Nat → Nat → Nat → Int
  | 0, _, _ => 0
  | n + 1, k, t => gtst (dueL hs bs (eF hs bs n) k t)
theorem due_ext {hs : List HR} {bs : List BR} {e e' : Nat → Nat → Int} {k t : Nat} (h1 : t ≠ 0 → e k (t - 1) = e' k (t - 1)) (h2 : ∀ b ∈ bs, b.to = k → b.th.length ≤ t → e b.one (t - b.th.length) = e' b.one (t - b.th.length)) : dueL hs bs e k t = dueL hs bs e' k t := by
  unfold dueL
  have a : (if t = 0 then [] else [e k (t - 1) + momN hs k]) = if t = 0 then [] else [e' k (t - 1) + momN hs k] := by
    by_cases z : t = 0
    · rw [if_pos z, if_pos z]
    · rw [if_neg z, if_neg z, h1 z]
  rw [a]
  refine congrArg (_ ++ ·) (List.map_congr_left fun b hb => ?_)
  obtain ⟨hb, z⟩ := List.mem_filter.mp hb
  obtain ⟨z1, z2⟩ := Bool.and_eq_true_iff.mp z
  rw [h2 b hb (of_decide_eq_true z1) (of_decide_eq_true z2)]
theorem filt_lt {α : Type} {p q : α → Bool} : ∀ {l : List α}, (∀ x ∈ l, p x = true → q x = true) → (∃ x ∈ l, q x = true ∧ p x = false) → (l.filter p).length < (l.filter q).length
  | [], _, ⟨_, h, _⟩ => nomatch h
  | a :: l, h, ⟨x, hx, qx, px⟩ => by
    have le : (l.filter p).length ≤ (l.filter q).length := by
      have : ∀ {l : List α}, (∀ x ∈ l, p x = true → q x = true) → (l.filter p).length ≤ (l.filter q).length := by
        intro l
        induction l with
        | nil => intro _; exact Nat.le_refl _
        | cons b l ih =>
          intro h
          have ih := ih fun x hx => h x (List.mem_cons_of_mem _ hx)
          by_cases pb : p b = true
          · rw [List.filter_cons_of_pos pb, List.filter_cons_of_pos (h b (List.mem_cons_self ..) pb)]
            exact Nat.succ_le_succ ih
          · rw [List.filter_cons_of_neg pb]
            by_cases qb : q b = true
            · rw [List.filter_cons_of_pos qb]; exact Nat.le_succ_of_le ih
            · rw [List.filter_cons_of_neg qb]; exact ih
      exact this fun x hx => h x (List.mem_cons_of_mem _ hx)
    rcases List.mem_cons.mp hx with rfl | hx
    · rw [List.filter_cons_of_neg (by rw [px]; exact Bool.false_ne_true), List.filter_cons_of_pos qx]
      exact Nat.lt_succ_of_le le
    · have ih := filt_lt (fun x hx => h x (List.mem_cons_of_mem _ hx)) ⟨x, hx, qx, px⟩
      by_cases pb : p a = true
      · rw [List.filter_cons_of_pos pb, List.filter_cons_of_pos (h a (List.mem_cons_self ..) pb)]
        exact Nat.succ_lt_succ ih
      · rw [List.filter_cons_of_neg pb]
        by_cases qb : q a = true
        · rw [List.filter_cons_of_pos qb]; exact Nat.lt_succ_of_lt ih
        · rw [List.filter_cons_of_neg qb]; exact ih
def dep (rk : Nat → Int) (n k : Nat) : Nat := ((List.range n).filter fun j => decide (rk j < rk k)).length
theorem dep_le {rk : Nat → Int} {n k : Nat} : dep rk n k ≤ n := by
  unfold dep
  refine Nat.le_trans (List.length_filter_le ..) ?_
  rw [List.length_range]
  exact Nat.le_refl _
theorem dep_lt {rk : Nat → Int} {n a b : Nat} (ha : a < n) (h : rk a < rk b) : dep rk n a < dep rk n b := by
  refine filt_lt (fun x _ z => decide_eq_true (Int.lt_trans (of_decide_eq_true z) h)) ⟨a, List.mem_range.mpr ha, decide_eq_true h, decide_eq_false (Int.lt_irrefl _)⟩
def mu (rk : Nat → Int) (n k t : Nat) : Nat := t * (n + 1) + dep rk n k
theorem mu_own {rk : Nat → Int} {n k t : Nat} (h : t ≠ 0) : mu rk n k (t - 1) < mu rk n k t := by
  obtain ⟨s, rfl⟩ := Nat.exists_eq_succ_of_ne_zero h
  unfold mu
  rw [Nat.succ_sub_one, Nat.succ_mul]
  omega
theorem mu_belt {rk : Nat → Int} {n : Nat} {b : BR} (hr : b.th = [] → rk b.one < rk b.to) (ho : b.one < n) {t : Nat} (ht : b.th.length ≤ t) : mu rk n b.one (t - b.th.length) < mu rk n b.to t := by
  unfold mu
  by_cases z : b.th = []
  · rw [z, List.length_nil, Nat.sub_zero]
    have := dep_lt (n := n) ho (hr z)
    omega
  · have l : 0 < b.th.length := List.length_pos_iff.mpr z
    have d := dep_le (rk := rk) (n := n) (k := b.one)
    have : (t - b.th.length + 1) * (n + 1) ≤ t * (n + 1) := Nat.mul_le_mul_right _ (by omega)
    rw [Nat.add_mul, Nat.one_mul] at this
    omega
theorem eF_stay {hs : List HR} {bs : List BR} {rk : Nat → Int} (hr : ∀ b ∈ bs, b.th = [] → rk b.one < rk b.to) (he : ∀ b ∈ bs, b.one < hs.length ∧ b.to < hs.length) :
    ∀ n m k t, k < hs.length → mu rk hs.length k t < n → mu rk hs.length k t < m → eF hs bs n k t = eF hs bs m k t
  | 0, _, _, _, _, h, _ => absurd h (Nat.not_lt_zero _)
  | _ + 1, 0, _, _, _, _, h => absurd h (Nat.not_lt_zero _)
  | n + 1, m + 1, k, t, hk, h1, h2 => by
    show gtst _ = gtst _
    rw [due_ext (e := eF hs bs n) (e' := eF hs bs m)]
    · intro z
      have := mu_own (rk := rk) (n := hs.length) (k := k) z
      exact eF_stay hr he n m k (t - 1) hk (by omega) (by omega)
    · intro b hb ht hl
      have := mu_belt (rk := rk) (n := hs.length) (hr b hb) (he b hb).1 hl
      rw [ht] at this
      exact eF_stay hr he n m b.one _ (he b hb).1 (by omega) (by omega)
/-- the moment at which the work of number t of hand k begins -/
def erl (hs : List HR) (bs : List BR) (k t : Nat) : Int := eF hs bs ((t + 1) * (hs.length + 1)) k t
theorem erl_is {hs : List HR} {bs : List BR} {rk : Nat → Int} (hr : ∀ b ∈ bs, b.th = [] → rk b.one < rk b.to) (he : ∀ b ∈ bs, b.one < hs.length ∧ b.to < hs.length) {k t : Nat} (hk : k < hs.length) : erl hs bs k t = gtst (dueL hs bs (erl hs bs) k t) := by
  have mul : ∀ k t, mu rk hs.length k t < (t + 1) * (hs.length + 1) := fun k t => by
    unfold mu
    have := dep_le (rk := rk) (n := hs.length) (k := k)
    rw [Nat.add_mul, Nat.one_mul]
    omega
  have m0 := mul k t
  unfold erl
  obtain ⟨n, en⟩ : ∃ n, (t + 1) * (hs.length + 1) = n + 1 := Nat.exists_eq_succ_of_ne_zero (by omega)
  rw [en] at m0 ⊢
  show gtst _ = gtst _
  rw [due_ext (e := eF hs bs n) (e' := fun k t => eF hs bs ((t + 1) * (hs.length + 1)) k t)]
  · intro z
    have := mu_own (rk := rk) (n := hs.length) (k := k) z
    exact eF_stay hr he _ _ k (t - 1) hk (by omega) (mul _ _)
  · intro b hb ht hl
    have := mu_belt (rk := rk) (n := hs.length) (hr b hb) (he b hb).1 hl
    rw [ht] at this
    exact eF_stay hr he _ _ b.one _ (he b hb).1 (by omega) (mul _ _)
theorem due_zero {hs : List HR} {bs : List BR} {e : Nat → Nat → Int} {k t : Nat} : 0 ∈ dueL hs bs e k t := by
  unfold dueL
  exact List.mem_append_left _ (List.mem_append_left _ (List.mem_singleton.mpr rfl))
theorem due_mem {hs : List HR} {bs : List BR} {e : Nat → Nat → Int} {k t : Nat} {x : Int} : x ∈ dueL hs bs e k t ↔ x = 0 ∨ (t ≠ 0 ∧ x = e k (t - 1) + momN hs k) ∨ ∃ b ∈ bs, b.to = k ∧ b.th.length ≤ t ∧ x = e b.one (t - b.th.length) + momN hs b.one := by
  unfold dueL
  rw [List.mem_append, List.mem_append, List.mem_singleton, List.mem_map]
  constructor
  · rintro ((h | h) | ⟨b, hb, rfl⟩)
    · exact .inl h
    · by_cases z : t = 0
      · rw [if_pos z] at h; cases h
      · rw [if_neg z] at h
        exact .inr (.inl ⟨z, List.mem_singleton.mp h⟩)
    · obtain ⟨hb', z⟩ := List.mem_filter.mp hb
      obtain ⟨z1, z2⟩ := Bool.and_eq_true_iff.mp z
      exact .inr (.inr ⟨b, hb', of_decide_eq_true z1, of_decide_eq_true z2, rfl⟩)
  · rintro (h | ⟨z, h⟩ | ⟨b, hb, h1, h2, rfl⟩)
    · exact .inl (.inl h)
    · exact .inl (.inr (by rw [if_neg z]; exact List.mem_singleton.mpr h))
    · exact .inr ⟨b, List.mem_filter.mpr ⟨hb, by rw [decide_eq_true h1, decide_eq_true h2]; rfl⟩, rfl⟩
theorem due_le {hs : List HR} {bs : List BR} {e e' : Nat → Nat → Int} {k t : Nat} (h1 : t ≠ 0 → e k (t - 1) ≤ e' k (t - 1)) (h2 : ∀ b ∈ bs, b.to = k → b.th.length ≤ t → e b.one (t - b.th.length) ≤ e' b.one (t - b.th.length)) : gtst (dueL hs bs e k t) ≤ gtst (dueL hs bs e' k t) := by
  rcases due_mem.mp (gtst_mem (due_zero (hs := hs) (bs := bs) (e := e) (k := k) (t := t))) with m | ⟨z, m⟩ | ⟨b, hb, z1, z2, m⟩
  · rw [m]
    exact gtst_le due_zero
  · rw [m]
    exact Int.le_trans (Int.add_le_add_right (h1 z) _) (gtst_le (due_mem.mpr (.inr (.inl ⟨z, rfl⟩))))
  · rw [m]
    exact Int.le_trans (Int.add_le_add_right (h2 b hb z1 z2) _) (gtst_le (due_mem.mpr (.inr (.inr ⟨b, hb, z1, z2, rfl⟩))))
/-- what meets all that is asked is nowhere less -/
theorem erl_least {hs : List HR} {bs : List BR} {rk : Nat → Int} (hr : ∀ b ∈ bs, b.th = [] → rk b.one < rk b.to) (he : ∀ b ∈ bs, b.one < hs.length ∧ b.to < hs.length) {e : Nat → Nat → Int} {N : Nat} (h : ∀ k t, k < hs.length → t < N → gtst (dueL hs bs e k t) ≤ e k t) :
    ∀ n k t, k < hs.length → t < N → mu rk hs.length k t < n → erl hs bs k t ≤ e k t
  | 0, _, _, _, _, h => absurd h (Nat.not_lt_zero _)
  | n + 1, k, t, hk, ht, hn => by
    rw [erl_is hr he hk]
    refine Int.le_trans (due_le (fun z => ?_) (fun b hb hto hl => ?_)) (h k t hk ht)
    · have := mu_own (rk := rk) (n := hs.length) (k := k) z
      exact erl_least hr he h n k (t - 1) hk (by omega) (by omega)
    · have := mu_belt (rk := rk) (n := hs.length) (hr b hb) (he b hb).1 hl
      rw [hto] at this
      exact erl_least hr he h n b.one _ (he b hb).1 (by omega) (by omega)
/-! ### lists in a list -/
structure BG (H : Hp) (B : Addr) (rs : List Addr) (L : Nat) (cnt : Nat → Nat) (e : Nat → Nat → Int) : Prop where
  b : H B = some (.lst (rs.map V.ref))
  n : rs.length = L
  nd : rs.Nodup
  out : B ∉ rs
  row : ∀ j a, rs[j]? = some a → H a = some (.lst (fL (cnt j) (e j)))
theorem BG.same {H H' : Hp} {B : Addr} {rs : List Addr} {L : Nat} {cnt : Nat → Nat} {e : Nat → Nat → Int} (g : BG H B rs L cnt e) (s : Same H H') : BG H' B rs L cnt e := ⟨s _ _ g.b, g.n, g.nd, g.out, fun j a h => s _ _ (g.row j a h)⟩
theorem BG.but {H H' : Hp} {f B : Addr} {rs : List Addr} {L : Nat} {cnt : Nat → Nat} {e : Nat → Nat → Int} (g : BG H B rs L cnt e) (s : But f H H') (n1 : B ≠ f) (n2 : f ∉ rs) : BG H' B rs L cnt e :=
  ⟨s _ _ g.b n1, g.n, g.nd, g.out, fun j a h => s _ _ (g.row j a h) (fun z => n2 (z ▸ List.mem_of_getElem? h))⟩
theorem BG.at {H : Hp} {B : Addr} {rs : List Addr} {L : Nat} {cnt : Nat → Nat} {e : Nat → Nat → Int} (g : BG H B rs L cnt e) {k : Nat} (hk : k < L) : ∃ a, rs[k]? = some a ∧ (rs.map V.ref)[k]? = some (.ref a) ∧ H a = some (.lst (fL (cnt k) (e k))) := by
  have hk : k < rs.length := by rw [g.n]; exact hk
  have h : rs[k]? = some rs[k] := List.getElem?_eq_getElem hk
  exact ⟨_, h, by rw [List.getElem?_map, h]; rfl, g.row k _ h⟩
theorem fL_ext {n : Nat} {F G : Nat → Int} (h : ∀ t, t < n → F t = G t) : fL n F = fL n G := List.map_congr_left fun t ht => by rw [h t (List.mem_range.mp ht)]
theorem BG.congr {H : Hp} {B : Addr} {rs : List Addr} {L : Nat} {cnt cnt' : Nat → Nat} {e e' : Nat → Nat → Int} (g : BG H B rs L cnt e) (h1 : ∀ j, j < L → cnt j = cnt' j) (h2 : ∀ j t, j < L → t < cnt j → e j t = e' j t) : BG H B rs L cnt' e' := by
  refine ⟨g.b, g.n, g.nd, g.out, fun j a h => ?_⟩
  have jl : j < L := by rw [← g.n]; exact (List.getElem?_eq_some_iff.mp h).1
  rw [g.row j a h, ← h1 j jl, fL_ext (h2 j · jl)]
theorem nd_at {α : Type} {l : List α} (nd : l.Nodup) {i j : Nat} {a : α} (h1 : l[i]? = some a) (h2 : l[j]? = some a) : i = j := by
  have i1 := (List.getElem?_eq_some_iff.mp h1)
  have i2 := (List.getElem?_eq_some_iff.mp h2)
  obtain ⟨l1, e1⟩ := i1
  obtain ⟨l2, e2⟩ := i2
  exact (List.getElem_inj nd).mp (e1.trans e2.symm)
theorem BG.put {H : Hp} {B : Addr} {rs : List Addr} {L : Nat} {cnt : Nat → Nat} {e : Nat → Nat → Int} (g : BG H B rs L cnt e) {k c : Nat} {a : Addr} {F : Nat → Int} (hk : rs[k]? = some a) : BG (upd H a (.lst (fL c F))) B rs L (fun j => if j = k then c else cnt j) (fun j => if j = k then F else e j) := by
  have nb : B ≠ a := fun z => g.out (z ▸ List.mem_of_getElem? hk)
  refine ⟨by rw [upd_ne nb]; exact g.b, g.n, g.nd, g.out, fun j x h => ?_⟩
  by_cases z : j = k
  · subst z
    rw [hk] at h
    cases h
    rw [upd_same, if_pos rfl, if_pos rfl]
  · rw [if_neg z, if_neg z]
    have : x ≠ a := fun w => z (nd_at g.nd h (w ▸ hk))
    rw [upd_ne this]
    exact g.row j x h
theorem fL_len {n : Nat} {F : Nat → Int} : (fL n F).length = n := by rw [List.length_map, List.length_range]
theorem fL_succ {n : Nat} {F : Nat → Int} : fL (n + 1) F = fL n F ++ [.int (F n)] := by
  show ((List.range (n + 1)).map _) = _
  rw [List.range_succ, List.map_append]
  rfl
theorem soon_all {ls : List (Nat × Nat)} {left ord : List Nat} (h : Soon ls left ord) : ∀ x ∈ left, x ∈ ord := by
  induction h with
  | nil => exact fun _ z => z
  | @cons left ord k a b c d ih =>
    intro x hx
    by_cases z : x = k
    · rw [z]; exact List.mem_cons_self ..
    · exact List.mem_cons_of_mem _ (ih x ((List.mem_erase_of_ne z).mpr hx))
theorem soon_nd {ls : List (Nat × Nat)} {left ord : List Nat} (h : Soon ls left ord) (nd : left.Nodup) : ord.Nodup := by
  induction h with
  | nil => exact List.nodup_nil
  | cons a b c d ih => exact List.nodup_cons.mpr ⟨fun z => ((nd.mem_erase_iff).mp (soon_mem d _ z)).1 rfl, ih (nd.erase _)⟩
theorem soon_pre {ls : List (Nat × Nat)} {left ord : List Nat} (h : Soon ls left ord) : ∀ {i : Nat} {k a : Nat}, ord[i]? = some k → (a, k) ∈ ls → a ∈ left → a ∈ ord.take i := by
  induction h with
  | nil => intro i k a z; cases z
  | @cons left ord k0 x y z d ih =>
    intro i k a hk hp ha
    cases i with
    | zero =>
      cases hk
      exact absurd ha (y _ hp rfl)
    | succ i =>
      rw [List.take_succ_cons]
      by_cases e : a = k0
      · rw [e]; exact List.mem_cons_self ..
      · exact List.mem_cons_of_mem _ (ih hk hp ((List.mem_erase_of_ne e).mpr ha))
theorem mem_coming {bs : List BR} {k j : Nat} {b : BR} (e : bs[j]? = some b) : j ∈ comingN bs k ↔ b.to = k := by
  unfold comingN
  rw [List.mem_filter]
  constructor
  · intro h
    have := of_decide_eq_true h.2
    rw [e] at this
    exact Option.some.inj this
  · intro h
    exact ⟨List.mem_range.mpr (List.getElem?_eq_some_iff.mp e).1, decide_eq_true (by rw [e, ← h]; rfl)⟩
theorem coming_at {bs : List BR} {k j : Nat} (h : j ∈ comingN bs k) : ∃ b, bs[j]? = some b ∧ b.to = k := by
  have := of_decide_eq_true (List.mem_filter.mp h).2
  cases e : bs[j]? with
  | none => rw [e] at this; cases this
  | some b => rw [e] at this; exact ⟨b, rfl, Option.some.inj this⟩
theorem mom_at {hs : List HR} {k : Nat} {h : HR} (e : hs[k]? = some h) : momN hs k = h.mom := by unfold momN; rw [e]
section
variable {P : Program} {w : World} {K : PySem.W.Frag} {mg : Str → Option Value} {base : Heap}
def sp_over_at (K : PySem.W.Frag) : Sp := fun vs H Q _ => ∃ (r B : Addr) (hs : List HR) (bs : List BR) (rs : List Addr) (cnt : Nat → Nat) (e : Nat → Nat → Int) (k t : Nat), vs = [.ref r, .ref B, nV k, nV t] ∧ RoomAt H r hs bs ∧ BG H B rs hs.length cnt e ∧ k < hs.length ∧ t < cnt k ∧ Q (.int (e k t + momN hs k)) H
theorem ok_over_at {f : Addr} {fd : FuncData} (F : Fun K "over_at" "over_at" s_over_at f fd) (T : Top K mg) : FnOk P w K mg base CX0 1 f fd ["room", "begins", "hand", "work"] (sp_over_at K) := by
  refine F.ok sc_over_at (fun vs H Q E h => ?_) (fun cdv A outer s H vs Q E hr h => ?_)
  · obtain ⟨r, B, hs, bs, rs, cnt, e, k, t, rfl, _⟩ := h
    rfl
  obtain ⟨r, B, hs, bs, rs, cnt, e, k, t, rfl, hR, g, hk, ht, q⟩ := h
  obtain ⟨ha, ba, hv, bv, er, eh, eb, alh, alb⟩ := hR.ex
  obtain ⟨a, _, ea, hrow⟩ := g.at hk
  obtain ⟨h, ehk⟩ : ∃ h, hs[k]? = some h := ⟨_, List.getElem?_eq_getElem hk⟩
  obtain ⟨x, ex, t1, t2, rfl, e1, e2⟩ := alh.get ehk
  rw [mom_at ehk] at q
  refine ⟨_, (pss_one (ps_ret (pe_op op_add (pe_ix (ix_listK K rfl) (pe_ix (ix_listK K rfl) (pv 1) (pv 2) (fun _ _ => rfl)) (pv 3) (fun _ _ => rfl)) (pe_ix (ix_tupK K rfl) (pe_ix (ix_tupK K rfl) (pe_ix (ix_tupK K rfl) (pv 0) pe_int (fun _ _ => rfl)) (pv 2) (fun _ _ => rfl)) pe_int (fun _ _ => rfl))))), ?_⟩
  exact ⟨_, rfl, _, rfl, B, _, _, _, rfl, rfl, SqL.of g.b, atI_nat ea, _, rfl, a, _, _, _, rfl, rfl, SqL.of hrow, atI_nat (fL_get ht), _, rfl, r, _, _, _, rfl, rfl, SqT.of er, atI_nat (j := 0) rfl, _, rfl, ha, _, _, _, rfl, rfl, SqT.of eh, atI_nat ex, t1, _, _, _, rfl, rfl, SqT.of e1, atI_nat (j := 1) rfl, _, _, rfl, rfl, q⟩
def sp_first_moment (K : PySem.W.Frag) : Sp := fun vs H Q _ => ∃ (r B cl : Addr) (hs : List HR) (bs : List BR) (rs : List Addr) (cnt : Nat → Nat) (e : Nat → Nat → Int) (k : Nat), vs = [.ref r, .ref B, nV k, .ref cl] ∧ RoomAt H r hs bs ∧ bs.length ≤ 100 ∧ (∀ b ∈ bs, b.one < hs.length) ∧ BG H B rs hs.length cnt e ∧ k < hs.length ∧ H cl = some (.lst ((comingN bs k).map nV)) ∧
  (∀ b ∈ bs, b.to = k → b.th.length ≤ cnt k → cnt k - b.th.length < cnt b.one) ∧ ∀ H', Same H H' → Q (.int (gtst (dueL hs bs e k (cnt k)))) H'
theorem ok_first_moment {f : Addr} {fd : FuncData} (F : Fun K "first_moment" "first_moment" s_first_moment f fd) (T : Top K mg) : FnOk P w K mg base CX0 2 f fd ["room", "begins", "hand", "coming"] (sp_first_moment K) := by
  obtain ⟨f_over_at, fd_over_at, F_over_at, b_over_at, m_over_at⟩ := T.d_over_at
  have G_over_at := ok_over_at (P := P) (w := w) (base := base) F_over_at T
  refine F.ok sc_first_moment (fun vs H Q E h => ?_) (fun cdv A outer s H vs Q E hr h => ?_)
  · obtain ⟨r, B, cl, hs, bs, rs, cnt, e, k, rfl, _⟩ := h
    rfl
  obtain ⟨r, B, cl, hs, bs, rs, cnt, e, k, rfl, hR, lb, ends, g, hk, hcl, have_, q⟩ := h
  obtain ⟨ha, ba, hv, bv, er, eh, eb, alh, alb⟩ := hR.ex
  obtain ⟨a, _, ea, hrow⟩ := g.at hk
  obtain ⟨wk, ew⟩ : ∃ wk, cnt k = wk := ⟨_, rfl⟩
  let R1 : TS := fun D' σ' H' => D'.rt = Q ∧ ∃ (M : Addr) (ms : List Int), σ' = [some (.ref r), some (.ref B), some (nV k), some (.ref cl), some (nV wk), some (.ref M), none, none, none, none] ∧ H' M = some (.lst (ms.map V.int)) ∧ H M = none ∧ ms.length ≤ 2 ∧ 0 ∈ ms ∧ (∀ x, x ∈ ms ↔ x = 0 ∨ (wk ≠ 0 ∧ x = e k (wk - 1) + momN hs k)) ∧ Same H H'
  refine ⟨_, (pss_cons (ps_set (i := 4) sc_first_moment.nd rfl (Or.inl rfl) (pe_callB (call_len_seqK K rfl) (by rfl) T.m_len (by decide +kernel) (pa_cons (pe_ix (ix_listK K rfl) (pv 1) (pv 2) (fun _ _ => rfl)) pa_nil)))
      (pss_cons (ps_set (i := 5) sc_first_moment.nd rfl (Or.inl rfl) (pe_lst (pa_cons pe_int pa_nil)))
      (pss_cons (ps_if (pt_cmpR op_gt (pv 4) pe_int (nomark _)) (pss_one (ps_expr (pe_bmK K rfl PySem.F.plainAttrs_list PySem.F.slot_list_append PySem.F.type_list_append mt_append (pv 5) (pa_cons (pe_call G_over_at (hr.mono (by decide)) (by rfl) m_over_at F_over_at.kp b_over_at .nil pass0 (pa_cons (pv 0) (pa_cons (pv 1) (pa_cons (pv 2) (pa_cons (pe_op op_sub (pv 4) pe_int) pa_nil))))) pa_nil)))) pss_nil)
      (PSs.to (pss_cons (ps_for PassesOwn.never rfl (pi_listK K rfl (pv 3)) (pg_name (i := 6) sc_first_moment.nd rfl (Or.inl rfl))
        (pss_cons (ps_asg (pe_ix (ix_tupK K rfl) (pe_ix (ix_tupK K rfl) (pv 0) pe_int (fun _ _ => rfl)) (pv 6) (fun _ _ => rfl)) (pg_tupK K rfl rfl (pgs_cons (pg_name (i := 7) sc_first_moment.nd rfl (Or.inl rfl)) (pgs_cons (pg_name (i := 8) sc_first_moment.nd rfl (Or.inl rfl)) (pgs_cons (pg_name (i := 9) sc_first_moment.nd rfl (Or.inl rfl)) pgs_nil)))))
      (pss_one (ps_if (pt_cmpR op_ge (pv 4) (pe_callB (call_len_seqK K rfl) (by rfl) T.m_len (by decide +kernel) (pa_cons (pv 9) pa_nil)) (nomark _)) (pss_one (ps_expr (pe_bmK K rfl PySem.F.plainAttrs_list PySem.F.slot_list_append PySem.F.type_list_append mt_append (pv 5) (pa_cons (pe_call G_over_at (hr.mono (by decide)) (by rfl) m_over_at F_over_at.kp b_over_at .nil pass0 (pa_cons (pv 0) (pa_cons (pv 1) (pa_cons (pv 7) (pa_cons (pe_op op_sub (pv 4) (pe_callB (call_len_seqK K rfl) (by rfl) T.m_len (by decide +kernel) (pa_cons (pv 9) pa_nil))) pa_nil))))) pa_nil)))) pss_nil))))
      (pss_one (ps_ret (pe_callB (cr_maxKK K rfl rfl) (by rfl) T.m_max (by decide +kernel) (pa_cons (pv 5) pa_nil))))) R1 ?tail1)))), ?_⟩
  case tail1 =>
    rintro D' σ' H1 ⟨eD, M, ms, rfl, hM, nM, lms, z0, mms, s1⟩
    have lcm : (comingN bs k).length ≤ 100 := Nat.le_trans (filt_len _) lb
    refine ⟨_, rfl, cl, rfl, ⟨_, SqL.of (s1 _ _ hcl)⟩, for_list (K := K) (a := cl) (xs := (comingN bs k).map nV) (fun i σ H2 => (∃ v6 v7 v8 v9 : Option V, σ = [some (.ref r), some (.ref B), some (nV k), some (.ref cl), some (nV wk), some (.ref M), v6, v7, v8, v9]) ∧ ∃ ms : List Int, H2 M = some (.lst (ms.map V.int)) ∧ ms.length ≤ 2 + i ∧ 0 ∈ ms ∧ (∀ x, x ∈ ms ↔ (x = 0 ∨ (wk ≠ 0 ∧ x = e k (wk - 1) + momN hs k)) ∨ ∃ j ∈ (comingN bs k).take i, ∃ b, bs[j]? = some b ∧ b.th.length ≤ wk ∧ x = e b.one (wk - b.th.length) + momN hs b.one) ∧ Same H H2)
      ⟨⟨_, _, _, _, rfl⟩, ms, hM, lms, z0, fun x => by rw [mms x]; exact ⟨.inl, fun z => z.elim id fun ⟨_, h, _⟩ => nomatch h⟩, s1⟩ (fun i σ H2 _ ⟨_, _, _, _, _, _, s2⟩ => SqL.of (s2 _ _ hcl)) ?_ ?_⟩
    · rintro i x σ H2 hx ⟨⟨v6, v7, v8, v9, rfl⟩, ms, hM, lms, z0, mms, s2⟩
      rw [List.getElem?_map] at hx
      obtain ⟨j, ej⟩ : ∃ j, (comingN bs k)[i]? = some j := by
        cases z : (comingN bs k)[i]? with
        | none => rw [z] at hx; cases hx
        | some j => exact ⟨j, rfl⟩
      rw [ej] at hx
      obtain rfl : nV j = x := Option.some.inj hx
      have il := (List.getElem?_eq_some_iff.mp ej).1
      obtain ⟨b, eb2, hto⟩ := coming_at (List.mem_of_getElem? ej)
      have hb := List.mem_of_getElem? eb2
      obtain ⟨y, ey, t1, g1, rfl, e1, e2⟩ := alb.get eb2
      have step : ∀ x, (∃ j' ∈ (comingN bs k).take (i + 1), ∃ b, bs[j']? = some b ∧ b.th.length ≤ wk ∧ x = e b.one (wk - b.th.length) + momN hs b.one) ↔ (∃ j' ∈ (comingN bs k).take i, ∃ b, bs[j']? = some b ∧ b.th.length ≤ wk ∧ x = e b.one (wk - b.th.length) + momN hs b.one) ∨ (b.th.length ≤ wk ∧ x = e b.one (wk - b.th.length) + momN hs b.one) := fun x => by
        rw [List.take_add_one, ej]
        constructor
        · rintro ⟨j', h, b', hb', hl, rfl⟩
          rcases List.mem_append.mp h with h | h
          · exact .inl ⟨j', h, b', hb', hl, rfl⟩
          · obtain rfl : j' = j := by simpa using h
            rw [eb2] at hb'
            cases hb'
            exact .inr ⟨hl, rfl⟩
        · rintro (⟨j', h, z⟩ | ⟨hl, rfl⟩)
          · exact ⟨j', List.mem_append_left _ h, z⟩
          · exact ⟨j, List.mem_append_right _ (by simp), b, eb2, hl, rfl⟩
      refine ⟨_, rfl, r, _, _, _, rfl, rfl, SqT.of (s2 _ _ er), atI_nat (j := 1) rfl, _, rfl, ba, _, _, _, rfl, rfl, SqT.of (s2 _ _ eb), atI_nat ey, t1, _, rfl, SqT.of (s2 _ _ e1), rfl, _, _, rfl, _, _, rfl, _, _, rfl, rfl, ?_⟩
      refine ⟨_, rfl, _, rfl, g1, _, rfl, .inr (SqT.of (s2 _ _ e2)), _, _, rfl, rfl, _, rfl, if_bl (fun z => ?_) (fun z => ?_)⟩
      · have z : b.th.length ≤ wk := by have := of_decide_eq_true z; rw [List.length_map] at this; omega
        refine ⟨_, rfl, .inl ⟨rfl, _, SqL.of hM⟩, _, rfl, _, rfl, _, rfl, _, rfl, _, rfl, g1, _, rfl, .inr (SqT.of (s2 _ _ e2)), _, _, rfl, rfl, r, B, hs, bs, rs, cnt, e, b.one, wk - b.th.length, ?_, hR.keep (TK.same s2), g.same s2, ends b hb, by rw [← ew]; exact have_ b hb hto (by rw [ew]; exact z), M, _, _, rfl, rfl, hM, by rw [List.length_map]; exact small1000 (by omega), ?_⟩
        · rw [List.length_map]
          show [V.ref r, V.ref B, nV b.one, V.int ((wk : Int) - (b.th.length : Int))] = [V.ref r, V.ref B, nV b.one, V.int ((wk - b.th.length : Nat) : Int)]
          rw [show (wk : Int) - (b.th.length : Int) = ((wk - b.th.length : Nat) : Int) by omega]
        refine ⟨⟨_, _, _, _, rfl⟩, ms ++ [e b.one (wk - b.th.length) + momN hs b.one], by rw [upd_same, List.map_append]; rfl, by rw [List.length_append]; show ms.length + 1 ≤ _; omega, List.mem_append_left _ z0, fun x => ?_, Same.own s2 nM⟩
        rw [List.mem_append, mms x, step x, List.mem_singleton, or_assoc]
        exact ⟨fun h => h.imp id (fun h => h.imp id fun h => ⟨z, h⟩), fun h => h.imp id (fun h => h.imp id fun h => h.2)⟩
      · have z : ¬ b.th.length ≤ wk := fun y => of_decide_eq_false z (by rw [List.length_map]; omega)
        refine ⟨⟨_, _, _, _, rfl⟩, ms, hM, by omega, z0, fun x => ?_, s2⟩
        rw [mms x, step x]
        exact ⟨fun h => h.imp id .inl, fun h => h.imp id fun h => h.elim id fun h => absurd h.1 z⟩
    · rintro σ H2 ⟨⟨v6, v7, v8, v9, rfl⟩, ms, hM, lms, z0, mms, s2⟩
      refine ⟨_, rfl, M, ms, rfl, SqL.of hM, List.length_pos_of_mem z0, fun m hm hg => ?_⟩
      have all : ∀ x, x ∈ ms ↔ x ∈ dueL hs bs e k wk := fun x => by
        rw [mms x, due_mem, List.length_map, List.take_length, or_assoc]
        refine or_congr Iff.rfl (or_congr Iff.rfl ⟨?_, ?_⟩)
        · rintro ⟨j, hj, b, hb, hl, rfl⟩
          exact ⟨b, List.mem_of_getElem? hb, (mem_coming hb).mp hj, hl, rfl⟩
        · rintro ⟨b, hb, hto, hl, rfl⟩
          obtain ⟨j, hj⟩ := List.mem_iff_getElem?.mp hb
          exact ⟨j, (mem_coming hj).mpr hto, b, hj, hl, rfl⟩
      rw [eD, gtst_one due_zero ((all m).mp hm) fun y hy => hg y ((all y).mpr hy), ← ew]
      exact q _ s2
  refine ⟨_, rfl, _, rfl, B, _, _, _, rfl, rfl, SqL.of g.b, atI_nat ea, a, _, rfl, .inl (SqL.of hrow), ?_⟩
  refine ⟨(by show 1 ≤ sizeLine; decide), fun M nM => ?_⟩
  rw [fL_len, ew]
  have s1 := same_new (H := H) (o := .lst [V.int 0]) nM
  refine ⟨_, rfl, _, _, rfl, rfl, _, rfl, if_bl (fun z => ?_) (fun z => ?_)⟩
  · have z : 0 < wk := by have := of_decide_eq_true z; omega
    refine ⟨_, rfl, .inl ⟨rfl, _, SqL.of upd_same⟩, _, rfl, _, rfl, _, rfl, _, rfl, _, _, rfl, rfl, r, B, hs, bs, rs, cnt, e, k, wk - 1, ?_, hR.keep (TK.same s1), g.same s1, hk, by omega, M, _, _, rfl, rfl, upd_same, (by show 1 < sizeLine; decide), ?_⟩
    · show [V.ref r, V.ref B, nV k, V.int ((wk : Int) - 1)] = [V.ref r, V.ref B, nV k, V.int ((wk - 1 : Nat) : Int)]
      rw [show (wk : Int) - 1 = ((wk - 1 : Nat) : Int) by omega]
    refine ⟨rfl, M, [0, e k (wk - 1) + momN hs k], rfl, upd_same, nM, Nat.le_refl _, List.mem_cons_self .., fun x => ?_, Same.own s1 nM⟩
    rw [List.mem_cons, List.mem_singleton]
    exact ⟨fun h => h.imp id fun h => ⟨by omega, h⟩, fun h => h.imp id fun h => h.2⟩
  · have z : wk = 0 := by have := of_decide_eq_false z; omega
    refine ⟨rfl, M, [0], rfl, upd_same, nM, by decide, List.mem_cons_self .., fun x => ?_, s1⟩
    rw [List.mem_singleton]
    exact ⟨.inl, fun h => h.elim id fun h => absurd z h.1⟩
def sp_earliest (K : PySem.W.Frag) : Sp := fun vs H Q _ => ∃ (r : Addr) (hs : List HR) (bs : List BR) (N : Nat), vs = [.ref r, nV N] ∧ RoomAt H r hs bs ∧ RoomOk hs bs ∧ N ≤ 100 ∧
  ∀ (B : Addr) (rs : List Addr) (H' : Hp), BG H' B rs hs.length (fun _ => N) (erl hs bs) → H B = none → (∀ a ∈ rs, H a = none) → Same H H' → Q (.ref B) H'
theorem ok_earliest {f : Addr} {fd : FuncData} (F : Fun K "earliest" "earliest" s_earliest f fd) (T : Top K mg) : FnOk P w K mg base CX0 3 f fd ["room", "many"] (sp_earliest K) := by
  obtain ⟨f_comings, fd_comings, F_comings, b_comings, m_comings⟩ := T.d_comings
  have G_comings := ok_comings (P := P) (w := w) (base := base) F_comings T
  obtain ⟨f_work_order, fd_work_order, F_work_order, b_work_order, m_work_order⟩ := T.d_work_order
  have G_work_order := ok_work_order (P := P) (w := w) (base := base) F_work_order T
  obtain ⟨f_first_moment, fd_first_moment, F_first_moment, b_first_moment, m_first_moment⟩ := T.d_first_moment
  have G_first_moment := ok_first_moment (P := P) (w := w) (base := base) F_first_moment T
  refine F.ok sc_earliest (fun vs H Q E h => ?_) (fun cdv A outer s H vs Q E hr h => ?_)
  · obtain ⟨r, hs, bs, N, rfl, _⟩ := h
    rfl
  obtain ⟨r, hs, bs, N, rfl, hR, ok, lN, q⟩ := h
  obtain ⟨ha, ba, hv, bv, er, eh, eb, alh, alb⟩ := hR.ex
  have lhv := alh.length
  have lh := ok.hands
  have lb := ok.many
  obtain ⟨rk, hrk⟩ := ok.rank
  have loose : ∀ p ∈ looseOf bs, rk p.1 < rk p.2 := fun p hp => by
    obtain ⟨b, hb, rfl⟩ := List.mem_map.mp hp
    exact hrk b (List.mem_filter.mp hb).1 (List.isEmpty_iff.mp (List.mem_filter.mp hb).2)
  refine ⟨_, (pss_cons (ps_setLc (i := 2) (own := [("hand", 3)]) (g := gName 3) (tt := tYes) (by rfl) sc_earliest.nd rfl rfl (sw_true rfl rfl rfl (by decide +kernel)) (pi_listK K rfl (pe_call G_work_order (hr.mono (by decide)) (by rfl) m_work_order F_work_order.kp b_work_order .nil pass0 (pa_cons (pv 0) pa_nil))) (blkOk_by (own := [("hand", 3)]) (N := N_earliest) (sc := defScope s_earliest) (by decide +kernel)) (fun _ _ _ _ _ => (pg_name (i := 3) sc_earliest.nd rfl (Or.inl rfl))) (fun _ _ _ _ _ => pts_nil) (fun _ _ _ _ _ => (pe_tup (pa_cons (pv 3) (pa_cons (pe_call G_comings (hr.mono (by decide)) (by rfl) m_comings F_comings.kp b_comings .nil pass0 (pa_cons (pv 0) (pa_cons (pv 3) pa_nil))) pa_nil)))))
      (pss_cons (ps_setLc (i := 4) (own := [("hand", 3)]) (g := gName 3) (tt := tYes) (by rfl) sc_earliest.nd rfl rfl (sw_true rfl rfl rfl (by decide +kernel)) (pi_tupK K rfl (pe_ix (ix_tupK K rfl) (pv 0) pe_int (fun _ _ => rfl))) (blkOk_by (own := [("hand", 3)]) (N := N_earliest) (sc := defScope s_earliest) (by decide +kernel)) (fun _ _ _ _ _ => (pg_name (i := 3) sc_earliest.nd rfl (Or.inl rfl))) (fun _ _ _ _ _ => pts_nil) (fun _ _ _ _ _ => (pe_lst pa_nil)))
      (pss_cons (ps_for PassesOwn.never rfl (pi_range1 (by rfl) T.m_range (pa_cons (pv 1) pa_nil)) (pg_name (i := 5) sc_earliest.nd rfl (Or.inl rfl))
        (pss_one (ps_for PassesOwn.never rfl (pi_listK K rfl (pv 2)) (pg_tupK K rfl rfl (pgs_cons (pg_name (i := 3) sc_earliest.nd rfl (Or.inl rfl)) (pgs_cons (pg_name (i := 6) sc_earliest.nd rfl (Or.inl rfl)) pgs_nil)))
        (pss_one (ps_expr (pe_bmK K rfl PySem.F.plainAttrs_list PySem.F.slot_list_append PySem.F.type_list_append mt_append (pe_ix (ix_listK K rfl) (pv 4) (pv 3) (fun _ _ => rfl)) (pa_cons (pe_call G_first_moment (hr.mono (by decide)) (by rfl) m_first_moment F_first_moment.kp b_first_moment .nil pass0 (pa_cons (pv 0) (pa_cons (pv 4) (pa_cons (pv 3) (pa_cons (pv 6) pa_nil))))) pa_nil)))))))
      (pss_one (ps_ret (pv 4)))))), ?_⟩
  refine ⟨_, rfl, r, hs, bs, rk, rfl, hR, by omega, by omega, ok.ends, loose, fun od ord H1 nod hod s1 soon => ?_⟩
  have lo := soon_len soon
  rw [List.length_range] at lo
  refine ⟨od, rfl, ⟨_, SqL.of hod⟩, fun D nD => lc_list (K := K) (a := od) (xs := ord.map nV) (fun i H5 => ∃ pv : List V, H5 D = some (.lst pv) ∧ All2 (PlanAt H D bs H5) pv (ord.take i) ∧ Same H1 H5) ⟨[], upd_same, .nil, same_new nD⟩ (fun i H5 _ ⟨_, _, _, s5⟩ => SqL.of (s5 _ _ hod)) ?_ ?_⟩
  · rintro i x H5 hx ⟨pv, hD, al, s5⟩
    rw [List.getElem?_map] at hx
    cases ek : ord[i]? with
    | none => rw [ek] at hx; cases hx
    | some k =>
    rw [ek] at hx
    obtain rfl : nV k = x := Option.some.inj hx
    have il := (List.getElem?_eq_some_iff.mp ek).1
    refine ⟨rfl, yes_in ⟨_, rfl, _, rfl, _, rfl, r, hs, bs, k, rfl, hR.keep (TK.same (s1.trans s5)), by omega, fun l H6 nl hl s6 => ⟨(by show 2 ≤ sizeLine; decide), fun t nt => ⟨pv, same_new nt _ _ (s6 _ _ hD), ?_, pv ++ [V.ref t], upd_same, ?_, Same.own ((s5.trans s6).trans (same_new nt)) nD⟩⟩⟩⟩
    · have := al.length
      rw [List.length_take] at this
      exact small1000 (by omega)
    · rw [List.take_add_one, ek]
      have h6 : All2 (PlanAt H D bs (upd H6 t (.tup [nV k, V.ref l]))) (pv ++ [V.ref t]) (ord.take i ++ [k]) := (al.imp fun _ _ z => z.same (s6.trans (same_new nt))).snoc ⟨t, l, rfl, upd_same, same_new nt _ _ hl, (ne_of_none hD nl).symm, same_none ((s1.trans s5).trans s6) nt, same_none (s1.trans s5) nl⟩
      exact h6.imp fun _ _ z => z.own (same_new nt _ _ (s6 _ _ hD))
  · rintro H2 ⟨pv, hD, al, s2⟩
    rw [List.length_map, List.take_length] at al
    have s12 := s1.trans s2
    refine ⟨_, rfl, r, _, _, _, rfl, rfl, SqT.of (s12 _ _ er), atI_nat (j := 0) rfl, ha, rfl, ⟨_, SqT.of (s12 _ _ eh)⟩, fun B nB => lc_tup (K := K) (a := ha) (xs := hv) (fun i H5 => ∃ rs : List Addr, BG H5 B rs i (fun _ => 0) (erl hs bs) ∧ (∀ a ∈ rs, H2 a = none) ∧ Same H2 H5) ⟨[], ⟨upd_same, rfl, List.nodup_nil, (fun z => nomatch z), (fun _ _ z => nomatch z)⟩, (fun _ z => nomatch z), same_new nB⟩ (fun i H5 _ ⟨_, _, _, s5⟩ => SqT.of (s5 _ _ (s12 _ _ eh))) ?_ ?_⟩
    · rintro i x H5 hx ⟨rs, g, fr, s5⟩
      have il := (List.getElem?_eq_some_iff.mp hx).1
      refine ⟨rfl, yes_in ⟨(by show 0 ≤ sizeLine; decide), fun a na => ?_⟩⟩
      have aB : a ≠ B := (ne_of_none g.b na).symm
      have ars : a ∉ rs := fun z => by
        obtain ⟨j, hj⟩ := List.mem_iff_getElem?.mp z
        rw [g.row j a hj] at na
        cases na
      refine ⟨_, same_new na _ _ g.b, by rw [List.length_map, g.n]; exact small1000 (by omega), rs ++ [a], ⟨by rw [upd_same, List.map_append]; rfl, by rw [List.length_append, g.n]; rfl, ?_, ?_, fun j y hj => ?_⟩, fun y hy => ?_, Same.own (s5.trans (same_new na)) nB⟩
      · exact List.nodup_append.mpr ⟨g.nd, (List.nodup_cons.mpr ⟨(fun z => nomatch z), List.nodup_nil⟩), fun x hx y hy => by rw [List.mem_singleton.mp hy]; exact fun z => ars (z ▸ hx)⟩
      · intro z
        rcases List.mem_append.mp z with z | z
        · exact g.out z
        · exact aB (List.mem_singleton.mp z).symm
      · by_cases jl : j < rs.length
        · rw [List.getElem?_append_left jl] at hj
          have yB : y ≠ B := fun z => g.out (z ▸ List.mem_of_getElem? hj)
          rw [upd_ne yB]
          exact same_new na _ _ (g.row j y hj)
        · rw [List.getElem?_append_right (by omega)] at hj
          obtain rfl : a = y := by
            cases z : j - rs.length with
            | zero => rw [z] at hj; exact Option.some.inj hj
            | succ n => rw [z] at hj; cases hj
          rw [upd_ne aB]
          exact upd_same
      · rcases List.mem_append.mp hy with hy | hy
        · exact fr y hy
        · rw [List.mem_singleton.mp hy]
          exact same_none s5 na
    · rintro H3 ⟨rs, g, fr, s3⟩
      rw [lhv] at g
      refine ⟨_, rfl, _, rfl, by omega, by omega, for_range (lo := 0) (n := N) (fun i σ H5 => (∃ v3 v5 v6 : Option V, σ = [some (.ref r), some (nV N), some (.ref D), v3, some (.ref B), v5, v6]) ∧ BG H5 B rs hs.length (fun _ => i) (erl hs bs) ∧ Same H2 H5) ⟨⟨_, _, _, rfl⟩, g, s3⟩ ?_ ?_⟩
      · rintro i σ H5 hi ⟨⟨v3, v5, v6, rfl⟩, g5, s5⟩
        refine ⟨_, rfl, D, rfl, ⟨_, SqL.of (s5 _ _ hD)⟩, for_list (K := K) (a := D) (xs := pv) (fun j σ H6 => (∃ v3 v5 v6 : Option V, σ = [some (.ref r), some (nV N), some (.ref D), v3, some (.ref B), v5, v6]) ∧ BG H6 B rs hs.length (fun k => if k ∈ ord.take j then i + 1 else i) (erl hs bs) ∧ Same H2 H6) ⟨⟨_, _, _, rfl⟩, g5.congr (fun k _ => by rw [if_neg (fun z => nomatch z)]) (fun _ _ _ _ => rfl), s5⟩ (fun j σ H6 _ ⟨_, _, s6⟩ => SqL.of (s6 _ _ hD)) ?_ ?_⟩
        · rintro j x σ H6 hx ⟨⟨v3, v5, v6, rfl⟩, g6, s6⟩
          obtain ⟨k, ek, t, l, rfl, et, el, _, zt, zl⟩ := al.getL hx
          have kl : k < hs.length := List.mem_range.mp (soon_mem soon k (List.mem_of_getElem? ek))
          have knot : k ∉ ord.take j := fun z => by
            obtain ⟨m, hm⟩ := List.mem_iff_getElem?.mp z
            have ml := (List.getElem?_eq_some_iff.mp hm).1
            rw [List.length_take] at ml
            rw [List.getElem?_take_of_lt (by omega)] at hm
            have := nd_at (soon_nd soon List.nodup_range) hm ek
            omega
          refine ⟨t, _, rfl, SqT.of (s6 _ _ et), rfl, _, _, rfl, _, _, rfl, rfl, ?_⟩
          obtain ⟨a, ea, ea2, hrow⟩ := g6.at kl
          simp only [if_neg knot] at hrow
          have nBa : H2 a = none := fr a (List.mem_of_getElem? ea)
          refine ⟨_, rfl, _, rfl, B, _, _, _, rfl, rfl, SqL.of g6.b, atI_nat ea2, .inl ⟨rfl, _, SqL.of hrow⟩, _, rfl, _, rfl, _, rfl, _, rfl, r, B, l, hs, bs, rs, _, erl hs bs, k, rfl, hR.keep ((TK.same s12).trans (TK.same s6)), by omega, fun b hb => (ok.ends b hb).1, g6, kl, s6 _ _ el, fun b hb hto hl => ?_, fun H7 s7 => ?_⟩
          · simp only [if_neg knot] at hl ⊢
            by_cases z : b.th = []
            · have : b.one ∈ ord.take j := soon_pre soon ek (hto ▸ mem_loose hb z) (List.mem_range.mpr (ok.ends b hb).1)
              rw [if_pos this, z, List.length_nil]
              omega
            · have : 0 < b.th.length := List.length_pos_iff.mpr z
              split <;> omega
          · simp only [if_neg knot]
            rw [← erl_is hrk ok.ends kl]
            refine ⟨a, _, _, rfl, rfl, s7 _ _ hrow, by rw [fL_len]; exact small1000 (by omega), ⟨_, _, _, rfl⟩, ?_, Same.own (s6.trans s7) nBa⟩
            rw [← fL_succ]
            refine ((g6.same s7).put (c := i + 1) (F := erl hs bs k) ea).congr (fun m hm => ?_) (fun m t _ _ => ?_)
            · rw [List.take_add_one, ek]
              by_cases z : m = k
              · rw [if_pos z, if_pos (List.mem_append_right _ (by simp [z]))]
              · rw [if_neg z]
                by_cases y : m ∈ ord.take j
                · rw [if_pos y, if_pos (List.mem_append_left _ y)]
                · rw [if_neg y, if_neg fun x => (List.mem_append.mp x).elim y (fun x => z (by simpa using x))]
            · by_cases z : m = k
              · rw [if_pos z, z]
              · rw [if_neg z]
        · rintro σ H6 ⟨⟨v3, v5, v6, rfl⟩, g6, s6⟩
          refine ⟨⟨_, _, _, rfl⟩, g6.congr (fun k hk => ?_) (fun _ _ _ _ => rfl), s6⟩
          rw [al.length, List.take_length, if_pos (soon_all soon k (List.mem_range.mpr hk))]
      · rintro σ H5 ⟨⟨v3, v5, v6, rfl⟩, g5, s5⟩
        exact ⟨_, rfl, q B rs H5 g5 (same_none s12 nB) (fun a ha => same_none s12 (fr a ha)) (s12.trans s5)⟩
end
/-! ### slices and sums of tuples, whatever they are -/
theorem slA_of {K : PySem.W.Frag} {H : Hp} {a : Addr} {xs : List V} {lo hi : Option Int} {Q : VK} (h : H a = some (.tup xs)) (k : ∀ (p : Addr) (H' : Hp), H' p = some (.tup (cutV xs lo hi)) → Same H H' → Q (.ref p) H') : rSlA K (.ref a) lo hi H Q := by
  refine ⟨a, xs, rfl, SqT.of h, fun z => k a H ?_ (Same.refl _), fun _ p np => k p _ upd_same (same_new np)⟩
  unfold cutV
  rw [z.1, z.2, List.drop_zero, Nat.sub_zero, List.take_length]
  exact h
theorem catA_of {K : PySem.W.Frag} {H : Hp} {a b : Addr} {xs ys : List V} {Q : VK} (h : H a = some (.tup xs)) (g : H b = some (.tup ys)) (l : xs.length + ys.length ≤ 1000) (k : ∀ (p : Addr) (H' : Hp), H' p = some (.tup (xs ++ ys)) → Same H H' → Q (.ref p) H') : rCatA K (.ref a) (.ref b) H Q := by
  refine ⟨a, b, xs, ys, rfl, rfl, SqT.of h, SqT.of g, little l, fun e => k b H ?_ (Same.refl _), fun _ e => k a H ?_ (Same.refl _), fun _ _ p np => k p _ upd_same (same_new np)⟩
  · rw [e]; exact g
  · rw [e, List.append_nil]; exact h
theorem cut_take (xs : List V) (k : Nat) : cutV xs none (some ((k : Nat) : Int)) = xs.take k := by
  unfold cutV
  rw [HT.sIx_nat, HT.sIx_none, List.drop_zero, Nat.sub_zero]
  by_cases h : k ≤ xs.length
  · rw [Nat.min_eq_left h]
  · rw [Nat.min_eq_right (by omega), List.take_length, List.take_of_length_le (by omega)]
theorem cut_part {xs : List V} {lo hi : Option Int} : ∀ x ∈ cutV xs lo hi, x ∈ xs := fun x hx => List.mem_of_mem_drop (List.mem_of_mem_take hx)
theorem cut_nats {ns : List Nat} {lo hi : Option Int} : ∃ ms : List Nat, cutV (ns.map nV) lo hi = ms.map nV ∧ ms.length ≤ ns.length ∧ ∀ x ∈ ms, x ∈ ns := by
  refine ⟨(ns.drop (HT.sIx (ns.map nV).length 0 lo)).take (HT.sIx (ns.map nV).length (ns.map nV).length hi - HT.sIx (ns.map nV).length 0 lo), ?_, ?_, fun x hx => List.mem_of_mem_drop (List.mem_of_mem_take hx)⟩
  · unfold cutV
    rw [List.map_take, List.map_drop]
  · rw [List.length_take, List.length_drop]
    omega
/-! ### ways -/
def WayAt (H : Hp) (t : Addr) (k : Nat) (ns : List Nat) : Prop := ∃ g : Addr, H t = some (.tup [nV k, .ref g]) ∧ H g = some (.tup (ns.map nV))
theorem WayAt.keep {H H' : Hp} {t : Addr} {k : Nat} {ns : List Nat} (h : WayAt H t k ns) (s : TK H H') : WayAt H' t k ns := by
  obtain ⟨g, e1, e2⟩ := h
  exact ⟨g, s _ _ e1, s _ _ e2⟩
def momH (hs : List HR) (k : Nat) : Int := match hs[k]? with | some h => h.mom | none => 0
def trB (bs : List BR) (n : Nat) : Int := match bs[n]? with | some b => (b.th.length : Int) | none => 0
def toB (bs : List BR) (n : Nat) : Nat := match bs[n]? with | some b => b.to | none => 0
def wayEnd (bs : List BR) : Nat → List Nat → Option Nat
  | k, [] => some k
  | k, n :: ns => match bs[n]? with | some b => if b.one = k then wayEnd bs b.to ns else none | none => none
theorem wayEnd_cons {bs : List BR} {n k : Nat} {b : BR} {ns : List Nat} (e : bs[n]? = some b) : wayEnd bs k (n :: ns) = if b.one = k then wayEnd bs b.to ns else none := by
  show (match bs[n]? with | some b => if b.one = k then wayEnd bs b.to ns else none | none => none) = _
  rw [e]
theorem drop_at {α : Type} {ns : List α} {i : Nat} {n : α} (e : ns[i]? = some n) : ns.drop i = n :: ns.drop (i + 1) := by
  obtain ⟨h, z⟩ := List.getElem?_eq_some_iff.mp e
  rw [List.drop_eq_getElem_cons h, z]
def onV : Option Nat → V
  | none => .non
  | some k => nV k
theorem nats_at {ns : List Nat} {i : Nat} {x : V} (h : (ns.map nV)[i]? = some x) : ∃ n : Nat, ns[i]? = some n ∧ x = nV n := by
  rw [List.getElem?_map] at h
  cases e : ns[i]? with
  | none => rw [e] at h; cases h
  | some n => rw [e] at h; exact ⟨n, rfl, (Option.some.inj h).symm⟩
def momW (hs : List HR) (bs : List BR) (k : Nat) (ns : List Nat) : Int := momH hs k + (ns.map fun n => momH hs (toB bs n)).sum
/-! ### the least ways: mathematics -/
abbrev Co := Int × Int
def coLe (a b : Co) : Prop := a.1 < b.1 ∨ (a.1 = b.1 ∧ b.2 ≤ a.2)
def coLt (a b : Co) : Prop := a.1 < b.1 ∨ (a.1 = b.1 ∧ b.2 < a.2)
instance {a b : Co} : Decidable (coLt a b) := by unfold coLt; infer_instance
theorem coLe.refl (a : Co) : coLe a a := .inr ⟨rfl, Int.le_refl _⟩
theorem coLe.trans {a b c : Co} (h : coLe a b) (g : coLe b c) : coLe a c := by
  unfold coLe at *
  omega
theorem coLe.antisymm {a b : Co} (h : coLe a b) (g : coLe b a) : a = b := by
  unfold coLe at *
  have : a.1 = b.1 ∧ a.2 = b.2 := by omega
  exact Prod.ext this.1 this.2
theorem coLe_of_not {a b : Co} (h : ¬ coLt a b) : coLe b a := by
  unfold coLe coLt at *
  omega
theorem coLt.le {a b : Co} (h : coLt a b) : coLe a b := by
  unfold coLe coLt at *
  omega
theorem coLt.not_le {a b : Co} (h : coLt a b) : ¬ coLe b a := by
  unfold coLe coLt at *
  omega
def coAdd (hs : List HR) (c : Co) (b : BR) : Co := (c.1 + (b.th.length : Int), c.2 + momH hs b.to)
theorem coAdd_mono {hs : List HR} {c d : Co} {b : BR} (h : coLe c d) : coLe (coAdd hs c b) (coAdd hs d b) := by
  unfold coLe coAdd at *
  dsimp only
  omega
def wayCo (hs : List HR) (bs : List BR) (k : Nat) (ns : List Nat) : Co := ((ns.map (trB bs)).sum, momW hs bs k ns)
theorem wayEnd_append {bs : List BR} : ∀ {k : Nat} {ns ms : List Nat}, wayEnd bs k (ns ++ ms) = (wayEnd bs k ns).bind fun e => wayEnd bs e ms
  | k, [], ms => rfl
  | k, n :: ns, ms => by
    show (match bs[n]? with | some b => if b.one = k then wayEnd bs b.to (ns ++ ms) else none | none => none) = Option.bind (match bs[n]? with | some b => if b.one = k then wayEnd bs b.to ns else none | none => none) _
    cases bs[n]? with
    | none => rfl
    | some b =>
      dsimp only
      by_cases h : b.one = k
      · rw [if_pos h, if_pos h, wayEnd_append]
      · rw [if_neg h, if_neg h]; rfl
theorem wayEnd_snoc {bs : List BR} {k e n : Nat} {ns : List Nat} {b : BR} (h : wayEnd bs k ns = some e) (eb : bs[n]? = some b) (ho : b.one = e) : wayEnd bs k (ns ++ [n]) = some b.to := by
  rw [wayEnd_append, h]
  show wayEnd bs e [n] = _
  rw [wayEnd_cons eb, if_pos ho]
  rfl
theorem wayEnd_unsnoc {bs : List BR} {k e n : Nat} {ns : List Nat} (h : wayEnd bs k (ns ++ [n]) = some e) : ∃ b, bs[n]? = some b ∧ wayEnd bs k ns = some b.one ∧ b.to = e := by
  rw [wayEnd_append] at h
  cases hk : wayEnd bs k ns with
  | none => rw [hk] at h; cases h
  | some d =>
    rw [hk] at h
    have h : wayEnd bs d [n] = some e := h
    cases eb : bs[n]? with
    | none =>
      have : wayEnd bs d [n] = none := by
        show (match bs[n]? with | some b => if b.one = d then wayEnd bs b.to [] else none | none => none) = none
        rw [eb]
      rw [this] at h; cases h
    | some b =>
      rw [wayEnd_cons eb] at h
      by_cases z : b.one = d
      · rw [if_pos z] at h
        exact ⟨b, rfl, by rw [z], Option.some.inj h⟩
      · rw [if_neg z] at h; cases h
theorem wayCo_snoc {hs : List HR} {bs : List BR} {k n : Nat} {ns : List Nat} {b : BR} (eb : bs[n]? = some b) : wayCo hs bs k (ns ++ [n]) = coAdd hs (wayCo hs bs k ns) b := by
  unfold wayCo coAdd momW
  rw [List.map_append, List.map_append, List.sum_append, List.sum_append]
  have h1 : trB bs n = (b.th.length : Int) := by unfold trB; rw [eb]
  have h2 : toB bs n = b.to := by unfold toB; rw [eb]
  simp only [List.map_cons, List.map_nil, List.sum_cons, List.sum_nil]
  rw [h1, h2]
  refine Prod.ext ?_ ?_
  · show _ + (_ + 0) = _ + _
    omega
  · show _ + (_ + (_ + 0)) = _ + _ + _
    omega
/-- a way without trays goes up in rank -/
theorem way_rank {bs : List BR} {rk : Nat → Int} (hrk : ∀ b ∈ bs, b.th = [] → rk b.one < rk b.to) : ∀ {ns : List Nat} {k e : Nat}, wayEnd bs k ns = some e → 0 ≤ (ns.map (trB bs)).sum ∧ ((ns.map (trB bs)).sum = 0 → (ns = [] ∧ e = k) ∨ rk k < rk e)
  | [], k, e, h => ⟨Int.le_refl _, fun _ => .inl ⟨rfl, (Option.some.inj h).symm⟩⟩
  | n :: ns, k, e, h => by
    cases eb : bs[n]? with
    | none =>
      have : wayEnd bs k (n :: ns) = none := by
        show (match bs[n]? with | some b => if b.one = k then wayEnd bs b.to ns else none | none => none) = none
        rw [eb]
      rw [this] at h; cases h
    | some b =>
      rw [wayEnd_cons eb] at h
      by_cases z : b.one = k
      · rw [if_pos z] at h
        have ih := way_rank hrk h
        have h1 : trB bs n = (b.th.length : Int) := by unfold trB; rw [eb]
        rw [List.map_cons, List.sum_cons, h1]
        refine ⟨by omega, fun t => .inr ?_⟩
        have bt : b.th = [] := List.length_eq_zero_iff.mp (by omega)
        have r1 := hrk b (List.mem_of_getElem? eb) bt
        rw [z] at r1
        rcases ih.2 (by omega) with ⟨_, r2⟩ | r2
        · rw [r2]; exact r1
        · omega
      · rw [if_neg z] at h; cases h
theorem way_closed {bs : List BR} {rk : Nat → Int} (hrk : ∀ b ∈ bs, b.th = [] → rk b.one < rk b.to) {ns : List Nat} {k : Nat} (h : wayEnd bs k ns = some k) (hn : ns ≠ []) : 1 ≤ (ns.map (trB bs)).sum := by
  obtain ⟨h0, h1⟩ := way_rank hrk h
  by_cases z : (ns.map (trB bs)).sum = 0
  · rcases h1 z with ⟨e, _⟩ | e
    · exact absurd e hn
    · omega
  · omega
theorem nodup_len : ∀ (n : Nat) (l : List Nat), l.Nodup → (∀ x ∈ l, x < n) → l.length ≤ n
  | 0, l, _, h => by
    cases l with
    | nil => exact Nat.le_refl _
    | cons a l => exact absurd (h a (List.mem_cons_self ..)) (Nat.not_lt_zero _)
  | n + 1, l, nd, h => by
    by_cases m : n ∈ l
    · have ih := nodup_len n (l.erase n) (nd.erase n) fun x hx => by
        have hx := (List.Nodup.mem_erase_iff nd).mp hx
        have := h x hx.2
        have := hx.1
        omega
      rw [List.length_erase_of_mem m] at ih
      omega
    · have ih := nodup_len n l nd fun x hx => by
        have h1 := h x hx
        have : x ≠ n := fun z => m (z ▸ hx)
        omega
      omega
theorem pigeon {n : Nat} {g : Nat → Nat} {m : Nat} (h : ∀ i, i < m → g i < n) (hm : n < m) : ∃ i j, i < j ∧ j < m ∧ g i = g j := by
  refine Classical.byContradiction fun no => ?_
  have nd : ((List.range m).map g).Nodup := by
    unfold List.Nodup
    rw [List.pairwise_map]
    exact List.Pairwise.imp_of_mem (fun ha hb lt e => no ⟨_, _, lt, List.mem_range.mp hb, e⟩) List.pairwise_lt_range
  have := nodup_len n _ nd fun x hx => by
    obtain ⟨i, hi, rfl⟩ := List.mem_map.mp hx
    exact h i (List.mem_range.mp hi)
  rw [List.length_map, List.length_range] at this
  omega
theorem way_lt {bs : List BR} {n : Nat} (hto : ∀ b ∈ bs, b.to < n) : ∀ {ns : List Nat} {k e : Nat}, k < n → wayEnd bs k ns = some e → e < n
  | [], k, e, hk, h => by cases h; exact hk
  | m :: ns, k, e, hk, h => by
    cases eb : bs[m]? with
    | none =>
      have : wayEnd bs k (m :: ns) = none := by
        show (match bs[m]? with | some b => if b.one = k then wayEnd bs b.to ns else none | none => none) = none
        rw [eb]
      rw [this] at h; cases h
    | some b =>
      rw [wayEnd_cons eb] at h
      by_cases z : b.one = k
      · rw [if_pos z] at h; exact way_lt hto (hto b (List.mem_of_getElem? eb)) h
      · rw [if_neg z] at h; cases h
/-- each way has one with few belts that is no worse -/
theorem way_short {hs : List HR} {bs : List BR} {rk : Nat → Int} {n one : Nat} (hrk : ∀ b ∈ bs, b.th = [] → rk b.one < rk b.to) (hto : ∀ b ∈ bs, b.to < n) (ho : one < n) : ∀ (m : Nat) (ns : List Nat) (k : Nat), ns.length ≤ m → wayEnd bs one ns = some k → ∃ ms : List Nat, ms.length ≤ n ∧ wayEnd bs one ms = some k ∧ coLe (wayCo hs bs one ms) (wayCo hs bs one ns)
  | 0, ns, k, hm, h => ⟨ns, by omega, h, coLe.refl _⟩
  | m + 1, ns, k, hm, h => by
    by_cases short : ns.length ≤ n
    · exact ⟨ns, short, h, coLe.refl _⟩
    have ends : ∀ i, ∃ e, wayEnd bs one (ns.take i) = some e ∧ wayEnd bs e (ns.drop i) = some k := fun i => by
      have := h
      rw [← List.take_append_drop i ns, wayEnd_append] at this
      cases z : wayEnd bs one (ns.take i) with
      | none => rw [z] at this; cases this
      | some e => rw [z] at this; exact ⟨e, rfl, this⟩
    obtain ⟨i, j, ij, jl, e⟩ := pigeon (n := n) (g := fun i => (wayEnd bs one (ns.take i)).getD 0) (m := ns.length) (fun i _ => by
      obtain ⟨e, h1, _⟩ := ends i
      rw [h1]
      exact way_lt hto ho h1) (by omega)
    obtain ⟨e1, a1, a2⟩ := ends i
    obtain ⟨e2, b1, b2⟩ := ends j
    rw [a1, b1] at e
    have e : e1 = e2 := e
    subst e
    -- the ring between
    have part : ns.take j = ns.take i ++ (ns.drop i).take (j - i) := by
      rw [show j = i + (j - i) by omega, List.take_add, show i + (j - i) - i = j - i by omega]
    have ring : wayEnd bs e1 ((ns.drop i).take (j - i)) = some e1 := by
      rw [part, wayEnd_append, a1] at b1
      exact b1
    have rne : (ns.drop i).take (j - i) ≠ [] := fun z => by
      have := congrArg List.length z
      rw [List.length_take, List.length_drop] at this
      have : min (j - i) (ns.length - i) = 0 := this
      omega
    have r1 := way_closed hrk ring rne
    have new : wayEnd bs one (ns.take i ++ ns.drop j) = some k := by
      rw [wayEnd_append, a1]
      exact b2
    obtain ⟨ms, l1, l2, l3⟩ := way_short hrk hto ho m (ns.take i ++ ns.drop j) k (by rw [List.length_append, List.length_take, List.length_drop]; omega) new
    refine ⟨ms, l1, l2, l3.trans (.inl ?_)⟩
    show ((ns.take i ++ ns.drop j).map (trB bs)).sum < (ns.map (trB bs)).sum
    have : (ns.map (trB bs)).sum = ((ns.take i).map (trB bs)).sum + (((ns.drop i).take (j - i)).map (trB bs)).sum + ((ns.drop j).map (trB bs)).sum := by
      rw [← List.sum_append, ← List.map_append, ← part, ← List.sum_append, ← List.map_append, List.take_append_drop]
    rw [this, List.map_append, List.sum_append]
    omega
/-- one belt looked at -/
def relax (hs : List HR) (cf : Nat → Option Co) (b : BR) : Nat → Option Co := match cf b.one with
  | none => cf
  | some c => match cf b.to with
    | none => fun k => if k = b.to then some (coAdd hs c b) else cf k
    | some d => if coLt (coAdd hs c b) d then fun k => if k = b.to then some (coAdd hs c b) else cf k else cf
theorem relax_none {hs : List HR} {cf : Nat → Option Co} {b : BR} (h : cf b.one = none) : relax hs cf b = cf := by unfold relax; rw [h]
theorem relax_new {hs : List HR} {cf : Nat → Option Co} {b : BR} {c : Co} (h : cf b.one = some c) (g : cf b.to = none) : relax hs cf b = fun k => if k = b.to then some (coAdd hs c b) else cf k := by unfold relax; rw [h]; dsimp only; rw [g]
theorem relax_lt {hs : List HR} {cf : Nat → Option Co} {b : BR} {c d : Co} (h : cf b.one = some c) (g : cf b.to = some d) (l : coLt (coAdd hs c b) d) : relax hs cf b = fun k => if k = b.to then some (coAdd hs c b) else cf k := by unfold relax; rw [h]; dsimp only; rw [g]; dsimp only; rw [if_pos l]
theorem relax_ge {hs : List HR} {cf : Nat → Option Co} {b : BR} {c d : Co} (h : cf b.one = some c) (g : cf b.to = some d) (l : ¬ coLt (coAdd hs c b) d) : relax hs cf b = cf := by unfold relax; rw [h]; dsimp only; rw [g]; dsimp only; rw [if_neg l]
/-- what is set, or nothing -/
theorem relax_cases (hs : List HR) (cf : Nat → Option Co) (b : BR) : (relax hs cf b = cf ∧ ∀ c, cf b.one = some c → ∃ d, cf b.to = some d ∧ coLe d (coAdd hs c b)) ∨
    ∃ c, cf b.one = some c ∧ (relax hs cf b = fun k => if k = b.to then some (coAdd hs c b) else cf k) ∧ ∀ d, cf b.to = some d → coLt (coAdd hs c b) d := by
  cases h : cf b.one with
  | none => exact .inl ⟨relax_none h, fun c z => nomatch z⟩
  | some c =>
    cases g : cf b.to with
    | none => exact .inr ⟨c, rfl, relax_new h g, fun d z => nomatch z⟩
    | some d =>
      by_cases l : coLt (coAdd hs c b) d
      · exact .inr ⟨c, rfl, relax_lt h g l, fun d' z => by cases z; exact l⟩
      · exact .inl ⟨relax_ge h g l, fun c' z => ⟨d, rfl, by cases z; exact coLe_of_not l⟩⟩
theorem relax_mono {hs : List HR} {cf : Nat → Option Co} {b : BR} {k : Nat} {c : Co} (h : cf k = some c) : ∃ d, relax hs cf b k = some d ∧ coLe d c := by
  rcases relax_cases hs cf b with ⟨e, _⟩ | ⟨c', h1, e, l⟩
  · rw [e]; exact ⟨c, h, coLe.refl _⟩
  · rw [e]
    by_cases z : k = b.to
    · exact ⟨_, if_pos z, (l c (z ▸ h)).le⟩
    · exact ⟨c, (if_neg z).trans h, coLe.refl _⟩
theorem relax_done {hs : List HR} {cf : Nat → Option Co} {b : BR} {c : Co} (h : cf b.one = some c) : ∃ d, relax hs cf b b.to = some d ∧ coLe d (coAdd hs c b) := by
  rcases relax_cases hs cf b with ⟨e, g⟩ | ⟨c', h1, e, l⟩
  · rw [e]; exact g c h
  · rw [h] at h1
    cases h1
    rw [e]
    exact ⟨_, if_pos rfl, coLe.refl _⟩
abbrev roundF (hs : List HR) (bs : List BR) (cf : Nat → Option Co) : Nat → Option Co := bs.foldl (relax hs) cf
theorem fold_mono {hs : List HR} {k : Nat} : ∀ {l : List BR} {cf : Nat → Option Co} {c : Co}, cf k = some c → ∃ d, l.foldl (relax hs) cf k = some d ∧ coLe d c
  | [], cf, c, h => ⟨c, h, coLe.refl _⟩
  | b :: l, cf, c, h => by
    obtain ⟨d, h1, h2⟩ := relax_mono (hs := hs) (b := b) h
    obtain ⟨e, h3, h4⟩ := fold_mono (l := l) h1
    exact ⟨e, h3, h4.trans h2⟩
theorem fold_done {hs : List HR} {b : BR} : ∀ {l : List BR} {cf : Nat → Option Co} {c : Co}, b ∈ l → cf b.one = some c → ∃ d, l.foldl (relax hs) cf b.to = some d ∧ coLe d (coAdd hs c b)
  | a :: l, cf, c, hb, h => by
    rcases List.mem_cons.mp hb with rfl | hb
    · obtain ⟨d, h1, h2⟩ := relax_done (hs := hs) h
      obtain ⟨e, h3, h4⟩ := fold_mono (l := l) h1
      exact ⟨e, h3, h4.trans h2⟩
    · obtain ⟨d, h1, h2⟩ := relax_mono (hs := hs) (b := a) h
      obtain ⟨e, h3, h4⟩ := fold_done hb h1
      exact ⟨e, h3, h4.trans (coAdd_mono h2)⟩
def Snd (hs : List HR) (bs : List BR) (one : Nat) (cf : Nat → Option Co) : Prop := ∀ k c, cf k = some c → ∃ ns, wayEnd bs one ns = some k ∧ wayCo hs bs one ns = c
def Cpl (hs : List HR) (bs : List BR) (one : Nat) (cf : Nat → Option Co) (i : Nat) : Prop := ∀ ns k, ns.length ≤ i → wayEnd bs one ns = some k → ∃ c, cf k = some c ∧ coLe c (wayCo hs bs one ns)
def Stab (hs : List HR) (bs : List BR) (cf : Nat → Option Co) : Prop := ∀ b ∈ bs, ∀ c, cf b.one = some c → ∃ d, cf b.to = some d ∧ coLe d (coAdd hs c b)
theorem Snd.relax {hs : List HR} {bs : List BR} {one : Nat} {cf : Nat → Option Co} {b : BR} (s : Snd hs bs one cf) (hb : b ∈ bs) : Snd hs bs one (Mine.relax hs cf b) := fun k c h => by
  rcases relax_cases hs cf b with ⟨e, _⟩ | ⟨c', h1, e, l⟩
  · rw [e] at h; exact s k c h
  · rw [e] at h
    by_cases z : k = b.to
    · have h : some (coAdd hs c' b) = some c := by rw [← h]; exact (if_pos z).symm
      cases h
      obtain ⟨ns, w1, w2⟩ := s b.one c' h1
      obtain ⟨n, hn⟩ := List.getElem?_of_mem hb
      exact ⟨ns ++ [n], by rw [z]; exact wayEnd_snoc w1 hn rfl, by rw [wayCo_snoc hn, w2]⟩
    · exact s k c (by rw [← h]; exact (if_neg z).symm)
theorem Snd.fold {hs : List HR} {bs : List BR} {one : Nat} : ∀ {l : List BR} {cf : Nat → Option Co}, (∀ b ∈ l, b ∈ bs) → Snd hs bs one cf → Snd hs bs one (l.foldl (Mine.relax hs) cf)
  | [], _, _, s => s
  | b :: l, _, h, s => Snd.fold (l := l) (fun x hx => h x (List.mem_cons_of_mem _ hx)) (s.relax (h b (List.mem_cons_self ..)))
theorem Cpl.round {hs : List HR} {bs : List BR} {one : Nat} {cf : Nat → Option Co} {i : Nat} (c : Cpl hs bs one cf i) : Cpl hs bs one (roundF hs bs cf) (i + 1) := fun ns k hl h => by
  rcases List.eq_nil_or_concat ns with rfl | ⟨ms, n, rfl⟩
  · obtain ⟨d, h1, h2⟩ := c [] k (Nat.zero_le _) h
    obtain ⟨e, h3, h4⟩ := fold_mono (hs := hs) (l := bs) h1
    exact ⟨e, h3, h4.trans h2⟩
  · rw [List.concat_eq_append] at h hl ⊢
    obtain ⟨b, eb, h1, rfl⟩ := wayEnd_unsnoc h
    rw [List.length_append] at hl
    obtain ⟨d, h2, h3⟩ := c ms b.one (by have : ms.length + 1 ≤ i + 1 := hl; omega) h1
    obtain ⟨e, h4, h5⟩ := fold_done (hs := hs) (List.mem_of_getElem? eb) h2
    exact ⟨e, h4, by rw [wayCo_snoc eb]; exact h5.trans (coAdd_mono h3)⟩
def cf0 (hs : List HR) (one : Nat) : Nat → Option Co := fun k => if k = one then some (0, momH hs one) else none
def cfI (hs : List HR) (bs : List BR) (one : Nat) : Nat → (Nat → Option Co)
  | 0 => cf0 hs one
  | i + 1 => roundF hs bs (cfI hs bs one i)
theorem wayCo_nil {hs : List HR} {bs : List BR} {one : Nat} : wayCo hs bs one [] = (0, momH hs one) := by
  refine Prod.ext rfl ?_
  show momH hs one + 0 = momH hs one
  omega
theorem cfI_snd {hs : List HR} {bs : List BR} {one : Nat} : ∀ i, Snd hs bs one (cfI hs bs one i)
  | 0 => fun k c h => by
    by_cases z : k = one
    · have h : some ((0 : Int), momH hs one) = some c := by rw [← h]; exact (if_pos z).symm
      exact ⟨[], by rw [z]; rfl, by rw [wayCo_nil]; exact Option.some.inj h⟩
    · have h : none = some c := by rw [← h]; exact (if_neg z).symm
      cases h
  | i + 1 => Snd.fold (fun _ h => h) (cfI_snd i)
theorem cfI_cpl {hs : List HR} {bs : List BR} {one : Nat} : ∀ i, Cpl hs bs one (cfI hs bs one i) i
  | 0 => fun ns k hl h => by
    obtain rfl : ns = [] := List.length_eq_zero_iff.mp (by omega)
    obtain rfl : one = k := Option.some.inj h
    exact ⟨(0, momH hs one), if_pos rfl, by rw [wayCo_nil]; exact coLe.refl _⟩
  | i + 1 => (cfI_cpl i).round
theorem stab_relax {hs : List HR} {bs : List BR} {cf : Nat → Option Co} {b : BR} (s : Stab hs bs cf) (hb : b ∈ bs) : relax hs cf b = cf := by
  rcases relax_cases hs cf b with ⟨e, _⟩ | ⟨c', h1, e, l⟩
  · exact e
  · obtain ⟨d, h2, h3⟩ := s b hb c' h1
    exact absurd h3 (l d h2).not_le
theorem stab_fold {hs : List HR} {bs : List BR} {cf : Nat → Option Co} (s : Stab hs bs cf) : ∀ {l : List BR}, (∀ b ∈ l, b ∈ bs) → l.foldl (relax hs) cf = cf
  | [], _ => rfl
  | b :: l, h => by
    rw [List.foldl_cons, stab_relax s (h b (List.mem_cons_self ..))]
    exact stab_fold s fun x hx => h x (List.mem_cons_of_mem _ hx)
theorem stab_at {hs : List HR} {bs : List BR} {rk : Nat → Int} {n one : Nat} (hrk : ∀ b ∈ bs, b.th = [] → rk b.one < rk b.to) (hto : ∀ b ∈ bs, b.to < n) (ho : one < n) {i : Nat} (hi : n ≤ i) : Stab hs bs (cfI hs bs one i) := fun b hb c h => by
  obtain ⟨ns, w1, w2⟩ := cfI_snd i b.one c h
  obtain ⟨m, hm⟩ := List.getElem?_of_mem hb
  obtain ⟨ms, l1, l2, l3⟩ := way_short (hs := hs) hrk hto ho _ (ns ++ [m]) b.to (Nat.le_refl _) (wayEnd_snoc w1 hm rfl)
  obtain ⟨d, h1, h2⟩ := cfI_cpl (hs := hs) i ms b.to (by omega) l2
  refine ⟨d, h1, h2.trans ?_⟩
  rw [wayCo_snoc hm, w2] at l3
  exact l3
theorem cfI_stay {hs : List HR} {bs : List BR} {one i : Nat} (s : Stab hs bs (cfI hs bs one i)) : ∀ j, cfI hs bs one (i + j) = cfI hs bs one i
  | 0 => rfl
  | j + 1 => by
    show roundF hs bs (cfI hs bs one (i + j)) = _
    rw [cfI_stay s j]
    exact stab_fold s fun _ h => h
/-- the least ways of all, by rounds -/
abbrev best (hs : List HR) (bs : List BR) (one : Nat) : Nat → Option Co := cfI hs bs one hs.length
theorem cfI_best {hs : List HR} {bs : List BR} {rk : Nat → Int} {one i : Nat} (hrk : ∀ b ∈ bs, b.th = [] → rk b.one < rk b.to) (hto : ∀ b ∈ bs, b.to < hs.length) (ho : one < hs.length) (s : Stab hs bs (cfI hs bs one i)) : cfI hs bs one i = best hs bs one := by
  by_cases h : i ≤ hs.length
  · show cfI hs bs one i = cfI hs bs one hs.length
    have := cfI_stay s (hs.length - i)
    rw [show i + (hs.length - i) = hs.length by omega] at this
    exact this.symm
  · have := cfI_stay (hs := hs) (stab_at (hs := hs) (n := hs.length) hrk hto ho (Nat.le_refl _)) (i - hs.length)
    rw [show hs.length + (i - hs.length) = i by omega] at this
    exact this
/-- the last belts: from each hand that is come to one leads on to it -/
structure LaOk (hs : List HR) (bs : List BR) (one : Nat) (cf : Nat → Option Co) (la : Nat → Option Nat) : Prop where
  go : ∀ k n, la k = some n → ∃ b c d, bs[n]? = some b ∧ b.to = k ∧ cf b.one = some c ∧ cf k = some d ∧ coLe (coAdd hs c b) d
  fst : la one = none
  has : ∀ k c, cf k = some c → k = one ∨ (la k).isSome = true
theorem cf_one {hs : List HR} {bs : List BR} {rk : Nat → Int} {one : Nat} {cf : Nat → Option Co} (hrk : ∀ b ∈ bs, b.th = [] → rk b.one < rk b.to) (s : Snd hs bs one cf) (h1 : cf one = some (0, momH hs one)) {b : BR} (hb : b ∈ bs) {c : Co} (h : cf b.one = some c) (e : b.to = one) : ¬ coLt (coAdd hs c b) (0, momH hs one) := by
  obtain ⟨ns, w1, w2⟩ := s _ _ h
  obtain ⟨m, hm⟩ := List.getElem?_of_mem hb
  have w := wayEnd_snoc w1 hm rfl
  rw [e] at w
  have t := way_closed hrk w (by simp)
  have e2 := wayCo_snoc (hs := hs) (k := one) (ns := ns) hm
  rw [w2] at e2
  have e3 : (coAdd hs c b).1 = ((ns ++ [m]).map (trB bs)).sum := by rw [← e2]; rfl
  unfold coLt
  rw [e3]
  show ¬ (_ < (0 : Int) ∨ (_ = (0 : Int) ∧ _))
  omega
/-- along the last belts something falls -/
def redLt (rk : Nat → Int) (cf : Nat → Option Co) (j k : Nat) : Prop := ∃ c d, cf j = some c ∧ cf k = some d ∧ (c.1 < d.1 ∨ (c.1 = d.1 ∧ -c.2 + 31 * rk j < -d.2 + 31 * rk k))
theorem redLt_irr {rk : Nat → Int} {cf : Nat → Option Co} {k : Nat} : ¬ redLt rk cf k k := fun ⟨c, d, h1, h2, h3⟩ => by
  rw [h1] at h2
  cases h2
  omega
theorem redLt_tr {rk : Nat → Int} {cf : Nat → Option Co} {i j k : Nat} (a : redLt rk cf i j) (b : redLt rk cf j k) : redLt rk cf i k := by
  obtain ⟨c, d, h1, h2, h3⟩ := a
  obtain ⟨d', e, h4, h5, h6⟩ := b
  rw [h2] at h4
  cases h4
  exact ⟨c, e, h1, h5, by omega⟩
open Classical in
noncomputable def meas (rk : Nat → Int) (cf : Nat → Option Co) (n k : Nat) : Nat := ((List.range n).filter fun j => decide (redLt rk cf j k)).length
theorem filter_lt {α : Type} {p q : α → Bool} (h : ∀ x, p x = true → q x = true) {x : α} (qx : q x = true) (px : p x = false) : ∀ {l : List α}, x ∈ l → (l.filter p).length < (l.filter q).length
  | a :: l, hx => by
    have le : ∀ l : List α, (l.filter p).length ≤ (l.filter q).length := fun l => by
      induction l with
      | nil => exact Nat.le_refl _
      | cons a l ih =>
        rw [List.filter_cons, List.filter_cons]
        by_cases pa : p a = true
        · rw [if_pos pa, if_pos (h a pa), List.length_cons, List.length_cons]; omega
        · rw [if_neg pa]
          by_cases qa : q a = true
          · rw [if_pos qa, List.length_cons]; omega
          · rw [if_neg qa]; exact ih
    rw [List.filter_cons, List.filter_cons]
    rcases List.mem_cons.mp hx with e | hx
    · subst e
      rw [if_neg (by rw [px]; exact Bool.false_ne_true), if_pos qx, List.length_cons]
      have := le l
      omega
    · have ih := filter_lt h qx px hx
      by_cases pa : p a = true
      · rw [if_pos pa, if_pos (h a pa), List.length_cons, List.length_cons]; omega
      · rw [if_neg pa]
        by_cases qa : q a = true
        · rw [if_pos qa, List.length_cons]; omega
        · rw [if_neg qa]; exact ih
open Classical in
theorem meas_lt {rk : Nat → Int} {cf : Nat → Option Co} {n j k : Nat} (hj : j < n) (h : redLt rk cf j k) : meas rk cf n j < meas rk cf n k := by
  unfold meas
  exact filter_lt (p := fun x => decide (redLt rk cf x j)) (q := fun x => decide (redLt rk cf x k)) (fun x hx => decide_eq_true (redLt_tr (of_decide_eq_true hx) h)) (decide_eq_true h) (decide_eq_false redLt_irr) (List.mem_range.mpr hj)
theorem meas_le {rk : Nat → Int} {cf : Nat → Option Co} {n k : Nat} : meas rk cf n k ≤ n := by
  unfold meas
  refine Nat.le_trans (List.length_filter_le ..) ?_
  rw [List.length_range]
  exact Nat.le_refl _
theorem last_lt {hs : List HR} {bs : List BR} {rk : Nat → Int} {cf : Nat → Option Co} {b : BR} {k : Nat} {c d : Co} (hrk : ∀ b ∈ bs, b.th = [] → rk b.one < rk b.to) (mom : ∀ k, momH hs k ≤ 30) (hb : b ∈ bs) (e : b.to = k) (h1 : cf b.one = some c) (h2 : cf k = some d) (l : coLe (coAdd hs c b) d) : redLt rk cf b.one k := by
  refine ⟨c, d, h1, h2, ?_⟩
  have m := mom b.to
  unfold coLe coAdd at l
  dsimp only at l
  by_cases z : b.th = []
  · have r := hrk b hb z
    rw [z] at l
    rw [e] at r l m
    have l : c.1 + (0 : Int) < d.1 ∨ c.1 + (0 : Int) = d.1 ∧ d.2 ≤ c.2 + momH hs k := l
    omega
  · have : 0 < b.th.length := List.length_pos_iff.mpr z
    omega
/-! ### levels: mathematics -/
structure St3 where
  u : Nat
  v : Nat
  w : Int
def Feas (st : List St3) : Prop := ∃ lv : Nat → Int, ∀ s ∈ st, lv s.u + s.w ≤ lv s.v
structure Lv (st : List St3) (i j : Nat) (lv : Nat → Int) (la : Nat → Option Nat) (r t : Nat → Nat) (now : Nat) : Prop where
  bk : ∀ p k, la p = some k → ∃ s, st[k]? = some s ∧ s.v = p ∧ lv p ≤ lv s.u + s.w ∧ (t p ≤ t s.u → lv p < lv s.u + s.w) ∧ r p ≤ r s.u + 1
  has : ∀ p, 1 ≤ r p → ∃ k, la p = some k
  tn : ∀ p, t p ≤ now
  rl : ∀ p, r p ≤ i
  sat : ∀ k s, st[k]? = some s → lv s.u + s.w ≤ lv s.v ∨ (if k < j then i else i - 1) ≤ r s.u
def put {α : Type} (f : Nat → α) (p : Nat) (x : α) : Nat → α := fun q => if q = p then x else f q
theorem put_at {α : Type} {f : Nat → α} {p : Nat} {x : α} : put f p x p = x := if_pos rfl
theorem put_ne {α : Type} {f : Nat → α} {p q : Nat} {x : α} (h : q ≠ p) : put f p x q = f q := if_neg h
theorem Lv.start {st : List St3} : Lv st 1 0 (fun _ => 0) (fun _ => none) (fun _ => 0) (fun _ => 0) 0 :=
  ⟨(fun _ _ z => nomatch z), fun p z => absurd z (by decide), fun _ => Nat.le_refl _, fun _ => Nat.zero_le _, fun k s _ => .inr (by rw [if_neg (Nat.not_lt_zero _)]; exact Nat.le_refl _)⟩
theorem Lv.idle {st : List St3} {i j : Nat} {lv : Nat → Int} {la : Nat → Option Nat} {r t : Nat → Nat} {now : Nat} (L : Lv st i j lv la r t now) {s : St3} (es : st[j]? = some s) (h : ¬ lv s.u + s.w > lv s.v) : Lv st i (j + 1) lv la r t now := by
  refine { L with sat := fun k s2 e => ?_ }
  by_cases z : k = j
  · subst z
    rw [es] at e
    cases e
    exact .inl (by omega)
  · rcases L.sat k s2 e with y | y
    · exact .inl y
    · refine .inr ?_
      by_cases x : k < j
      · rw [if_pos x] at y; rw [if_pos (by omega)]; exact y
      · rw [if_neg x] at y; rw [if_neg (by omega)]; exact y
theorem Lv.lift {st : List St3} {i j : Nat} {lv : Nat → Int} {la : Nat → Option Nat} {r t : Nat → Nat} {now : Nat} (L : Lv st i j lv la r t now) {s : St3} (es : st[j]? = some s) (h : lv s.u + s.w > lv s.v) :
    Lv st i (j + 1) (put lv s.v (lv s.u + s.w)) (put la s.v (some j)) (put r s.v i) (put t s.v (now + 1)) (now + 1) := by
  have ru : i ≤ r s.u + 1 := by
    rcases L.sat j s es with y | y
    · omega
    · rw [if_neg (Nat.lt_irrefl _)] at y; omega
  have rge : ∀ p, r p ≤ put r s.v i p := fun p => by
    by_cases z : p = s.v
    · rw [z, put_at]; exact L.rl _
    · rw [put_ne z]; exact Nat.le_refl _
  have lge : ∀ p, lv p ≤ put lv s.v (lv s.u + s.w) p := fun p => by
    by_cases z : p = s.v
    · rw [z, put_at]; omega
    · rw [put_ne z]; exact Int.le_refl _
  refine ⟨fun p k e => ?_, fun p z => ?_, fun p => ?_, fun p => ?_, fun k s2 e => ?_⟩
  · by_cases z : p = s.v
    · subst z
      rw [put_at] at e
      cases e
      refine ⟨s, es, rfl, ?_, fun y => ?_, ?_⟩
      · rw [put_at]
        have := lge s.u
        omega
      · rw [put_at] at y ⊢
        by_cases x : s.u = s.v
        · rw [x, put_at]
          rw [x] at h
          omega
        · rw [put_ne x] at y
          have := L.tn s.u
          omega
      · rw [put_at]
        have := rge s.u
        omega
    · rw [put_ne z] at e
      obtain ⟨s2, e1, e2, e3, e4, e5⟩ := L.bk p k e
      refine ⟨s2, e1, e2, ?_, fun y => ?_, ?_⟩
      · rw [put_ne z]
        have := lge s2.u
        omega
      · rw [put_ne z]
        by_cases x : s2.u = s.v
        · rw [x, put_at]
          rw [x] at e3
          omega
        · rw [put_ne x]
          rw [put_ne x, put_ne z] at y
          exact e4 y
      · rw [put_ne z]
        have := rge s2.u
        omega
  · by_cases y : p = s.v
    · exact ⟨j, by rw [y, put_at]⟩
    · rw [put_ne y] at z ⊢
      exact L.has p z
  · by_cases y : p = s.v
    · rw [y, put_at]; exact Nat.le_refl _
    · rw [put_ne y]; exact Nat.le_succ_of_le (L.tn p)
  · by_cases y : p = s.v
    · rw [y, put_at]; exact Nat.le_refl _
    · rw [put_ne y]; exact L.rl p
  · by_cases x : s2.u = s.v
    · refine .inr ?_
      rw [x, put_at]
      split <;> omega
    · rw [put_ne x, put_ne x]
      by_cases z : k = j
      · subst z
        rw [es] at e
        cases e
        exact .inl (by rw [put_at]; exact Int.le_refl _)
      · rcases L.sat k s2 e with y | y
        · exact .inl (Int.le_trans y (lge _))
        · refine .inr ?_
          by_cases q : k < j
          · rw [if_pos q] at y; rw [if_pos (by omega)]; exact y
          · rw [if_neg q] at y; rw [if_neg (by omega)]; exact y
theorem Lv.next {st : List St3} {i : Nat} {lv : Nat → Int} {la : Nat → Option Nat} {r t : Nat → Nat} {now : Nat} (L : Lv st i st.length lv la r t now) : Lv st (i + 1) 0 lv la r t now := by
  refine { L with rl := fun p => Nat.le_succ_of_le (L.rl p), sat := fun k s e => ?_ }
  rcases L.sat k s e with y | y
  · exact .inl y
  · refine .inr ?_
    rw [if_pos (List.getElem?_eq_some_iff.mp e).1] at y
    rw [if_neg (Nat.not_lt_zero _)]
    exact y
theorem Lv.feas {st : List St3} {i : Nat} {lv : Nat → Int} {la : Nat → Option Nat} {r t : Nat → Nat} {now : Nat} (L : Lv st i st.length lv la r t now) (h : ∀ p, r p < i) : ∀ s ∈ st, lv s.u + s.w ≤ lv s.v := fun s hs => by
  obtain ⟨k, e⟩ := List.getElem?_of_mem hs
  rcases L.sat k s e with y | y
  · exact y
  · rw [if_pos (List.getElem?_eq_some_iff.mp e).1] at y
    have := h s.u
    omega
/-- one step back -/
def back (st : List St3) (la : Nat → Option Nat) (p : Nat) : Nat := match la p with
  | none => p
  | some k => match st[k]? with
    | none => p
    | some s => s.u
def backs (st : List St3) (la : Nat → Option Nat) (p : Nat) : Nat → Nat
  | 0 => p
  | k + 1 => back st la (backs st la p k)
theorem backs_add {st : List St3} {la : Nat → Option Nat} {p : Nat} : ∀ {a b k : Nat}, backs st la p a = backs st la p b → backs st la p (a + k) = backs st la p (b + k)
  | _, _, 0, h => h
  | a, b, k + 1, h => by
    show back st la (backs st la p (a + k)) = back st la (backs st la p (b + k))
    rw [backs_add h]
theorem Lv.back_r {st : List St3} {i j : Nat} {lv : Nat → Int} {la : Nat → Option Nat} {r t : Nat → Nat} {now : Nat} (L : Lv st i j lv la r t now) (p : Nat) : r p ≤ r (back st la p) + 1 := by
  unfold back
  cases e : la p with
  | none => dsimp only; omega
  | some k =>
    obtain ⟨s, e1, _, _, _, e5⟩ := L.bk p k e
    dsimp only
    rw [e1]
    exact e5
theorem Lv.backs_r {st : List St3} {i j : Nat} {lv : Nat → Int} {la : Nat → Option Nat} {r t : Nat → Nat} {now : Nat} (L : Lv st i j lv la r t now) (p : Nat) : ∀ k, r p ≤ r (backs st la p k) + k
  | 0 => Nat.le_refl _
  | k + 1 => by
    have := L.backs_r p k
    have := L.back_r (backs st la p k)
    show r p ≤ r (back st la (backs st la p k)) + (k + 1)
    omega
/-- from a place that was raised in the last of as many rounds as there are places the steps back lead onto a ring -/
theorem Lv.ring {st : List St3} {n : Nat} {lv : Nat → Int} {la : Nat → Option Nat} {r t : Nat → Nat} {now : Nat} (L : Lv st n st.length lv la r t now) (hu : ∀ s ∈ st, s.u < n) {p : Nat} (hp : p < n) (hr : r p = n) :
    ∃ c, 1 ≤ c ∧ c ≤ n ∧ backs st la p (n + c) = backs st la p n ∧ (∀ k, n ≤ k → ∃ m, la (backs st la p k) = some m) ∧ (∀ k, backs st la p k < n) ∧ ∀ k, k < n → ∃ m, la (backs st la p k) = some m := by
  have lt : ∀ k, backs st la p k < n := fun k => by
    induction k with
    | zero => exact hp
    | succ k ih =>
      show back st la (backs st la p k) < n
      unfold back
      cases e : la (backs st la p k) with
      | none => exact ih
      | some m =>
        obtain ⟨s, e1, _⟩ := L.bk _ m e
        dsimp only
        rw [e1]
        exact hu s (List.mem_of_getElem? e1)
  have some_ : ∀ k, k < n → ∃ m, la (backs st la p k) = some m := fun k hk => by
    have := L.backs_r p k
    exact L.has _ (by omega)
  obtain ⟨a, b, ab, bn, e⟩ := pigeon (n := n) (g := backs st la p) (m := n + 1) (fun i _ => lt i) (by omega)
  have per : ∀ k, a ≤ k → backs st la p (k + (b - a)) = backs st la p k := fun k hk => by
    have := backs_add (k := k - a) e
    rw [show a + (k - a) = k by omega, show b + (k - a) = k + (b - a) by omega] at this
    exact this.symm
  refine ⟨b - a, by omega, by omega, per n (by omega), fun k hk => ?_, lt, some_⟩
  have low : ∀ d k, k ≤ d → a ≤ k → ∃ j, j < n ∧ backs st la p k = backs st la p j := fun d => by
    induction d with
    | zero => exact fun k h1 h2 => ⟨k, by omega, rfl⟩
    | succ d ih =>
      intro k h1 h2
      by_cases z : k < n
      · exact ⟨k, z, rfl⟩
      · obtain ⟨j, j1, j2⟩ := ih (k - (b - a)) (by omega) (by omega)
        have := per (k - (b - a)) (by omega)
        rw [show k - (b - a) + (b - a) = k by omega] at this
        exact ⟨j, j1, by rw [this, j2]⟩
  obtain ⟨j, j1, j2⟩ := low k k (Nat.le_refl _) (by omega)
  rw [j2]
  exact some_ j j1
/-- the need of the step back from a place -/
def need (st : List St3) (la : Nat → Option Nat) (p : Nat) : Int := match la p with
  | none => 0
  | some k => match st[k]? with
    | none => 0
    | some s => s.w
def needs3 (st : List St3) (la : Nat → Option Nat) (p : Nat) (a : Nat) : Nat → Int
  | 0 => 0
  | k + 1 => needs3 st la p a k + need st la (backs st la p (a + k))
theorem Lv.sum_pos {st : List St3} {i j : Nat} {lv : Nat → Int} {la : Nat → Option Nat} {r t : Nat → Nat} {now : Nat} (L : Lv st i j lv la r t now) {p a c : Nat} (hc : 1 ≤ c) (e : backs st la p (a + c) = backs st la p a) (hs : ∀ k, a ≤ k → ∃ m, la (backs st la p k) = some m) : 0 < needs3 st la p a c := by
  have go : ∀ k, lv (backs st la p a) ≤ lv (backs st la p (a + k)) + needs3 st la p a k ∧ (lv (backs st la p a) < lv (backs st la p (a + k)) + needs3 st la p a k ∨ t (backs st la p (a + k)) + k ≤ t (backs st la p a)) := fun k => by
    induction k with
    | zero => exact ⟨by show lv (backs st la p a) ≤ lv (backs st la p a) + 0; omega, .inr (Nat.le_refl _)⟩
    | succ k ih =>
      obtain ⟨m, em⟩ := hs (a + k) (by omega)
      obtain ⟨s, e1, e2, e3, e4, e5⟩ := L.bk _ m em
      have eb : backs st la p (a + (k + 1)) = s.u := by
        show back st la (backs st la p (a + k)) = s.u
        unfold back
        rw [em]
        dsimp only
        rw [e1]
      have en : needs3 st la p a (k + 1) = needs3 st la p a k + s.w := by
        show needs3 st la p a k + need st la (backs st la p (a + k)) = _
        unfold need
        rw [em]
        dsimp only
        rw [e1]
      rw [eb, en]
      refine ⟨by omega, ?_⟩
      rcases ih.2 with y | y
      · exact .inl (by omega)
      · by_cases z : t (backs st la p (a + k)) ≤ t s.u
        · exact .inl (by have := e4 z; omega)
        · exact .inr (by omega)
  obtain ⟨g1, g2⟩ := go c
  rw [e] at g1 g2
  rcases g2 with y | y
  · omega
  · omega
theorem needs3_le {st : List St3} {la : Nat → Option Nat} {p a : Nat} {lv : Nat → Int} (f : ∀ s ∈ st, lv s.u + s.w ≤ lv s.v) (bk : ∀ p k, la p = some k → ∃ s, st[k]? = some s ∧ s.v = p) (hs : ∀ k, a ≤ k → ∃ m, la (backs st la p k) = some m) : ∀ k, needs3 st la p a k ≤ lv (backs st la p a) - lv (backs st la p (a + k))
  | 0 => by show (0 : Int) ≤ lv (backs st la p a) - lv (backs st la p a); omega
  | k + 1 => by
    have ih := needs3_le f bk hs k
    obtain ⟨m, em⟩ := hs (a + k) (by omega)
    obtain ⟨s, e1, e2⟩ := bk _ m em
    have eb : backs st la p (a + (k + 1)) = s.u := by
      show back st la (backs st la p (a + k)) = s.u
      unfold back
      rw [em]
      dsimp only
      rw [e1]
    have en : needs3 st la p a (k + 1) = needs3 st la p a k + s.w := by
      show needs3 st la p a k + need st la (backs st la p (a + k)) = _
      unfold need
      rw [em]
      dsimp only
      rw [e1]
    have := f s (List.mem_of_getElem? e1)
    rw [eb, en]
    rw [e2] at this
    omega
theorem Lv.not_feas {st : List St3} {n : Nat} {lv : Nat → Int} {la : Nat → Option Nat} {r t : Nat → Nat} {now : Nat} (L : Lv st n st.length lv la r t now) (hu : ∀ s ∈ st, s.u < n) {p : Nat} (hp : p < n) (hr : r p = n) : ¬ Feas st := fun ⟨lv0, f⟩ => by
  obtain ⟨c, c1, c2, e, hs, _⟩ := L.ring hu hp hr
  have h1 := L.sum_pos c1 e hs
  have h2 := needs3_le f (fun p k z => by obtain ⟨s, e1, e2, _⟩ := L.bk p k z; exact ⟨s, e1, e2⟩) hs c
  rw [e] at h2
  omega
theorem ixN_nat {n k : Nat} (h : k < n) : ixN n ((k : Nat) : Int) = some k := by
  unfold ixN
  rw [if_pos (by omega), if_pos (by omega)]
  simp
/-! ### levels: the program -/
def oV : Option Nat → V
  | none => .non
  | some k => nV k
abbrev levL (n : Nat) (lv : Nat → Int) : List V := (List.range n).map fun p => V.int (lv p)
abbrev lasL (n : Nat) (la : Nat → Option Nat) : List V := (List.range n).map fun p => oV (la p)
theorem rg_at {n p : Nat} {f : Nat → V} (h : p < n) : ((List.range n).map f)[p]? = some (f p) := by
  rw [List.getElem?_map, List.getElem?_range h]; rfl
theorem rg_set {n p : Nat} {α : Type} {f : Nat → α} {g : α → V} {x : α} : ((List.range n).map fun q => g (f q)).set p (g x) = (List.range n).map fun q => g (put f p x q) := by
  refine List.ext_getElem? fun i => ?_
  by_cases e : i = p
  · subst e
    by_cases l : i < n
    · rw [List.getElem?_set_self (by rw [List.length_map, List.length_range]; exact l), rg_at l, put_at]
    · rw [List.getElem?_eq_none (by rw [List.length_set, List.length_map, List.length_range]; omega), List.getElem?_eq_none (by rw [List.length_map, List.length_range]; omega)]
  · rw [List.getElem?_set_ne (fun z => e z.symm)]
    by_cases l : i < n
    · rw [rg_at l, rg_at (f := fun q => g (put f p x q)) l, put_ne e]
    · rw [List.getElem?_eq_none (by rw [List.length_map, List.length_range]; omega), List.getElem?_eq_none (by rw [List.length_map, List.length_range]; omega)]
def StepAt (H : Hp) (v : V) (s : St3) : Prop := ∃ t : Addr, v = .ref t ∧ H t = some (.tup [nV s.u, nV s.v, .int s.w])
theorem StepAt.keep {H H' : Hp} {v : V} {s : St3} (h : StepAt H v s) (k : TK H H') : StepAt H' v s := by
  obtain ⟨t, e, h⟩ := h
  exact ⟨t, e, k _ _ h⟩
def StepsAt (H : Hp) (sl : Addr) (st : List St3) : Prop := ∃ sv : List V, H sl = some (.lst sv) ∧ All2 (StepAt H) sv st
def stepEnd (st : List St3) : Nat → List Nat → Option Nat
  | p, [] => some p
  | p, k :: ks => match st[k]? with | some s => if s.u = p then stepEnd st s.v ks else none | none => none
theorem stepEnd_cons {st : List St3} {k p : Nat} {s : St3} {ks : List Nat} (e : st[k]? = some s) : stepEnd st p (k :: ks) = if s.u = p then stepEnd st s.v ks else none := by
  show (match st[k]? with | some s => if s.u = p then stepEnd st s.v ks else none | none => none) = _
  rw [e]
def wS (st : List St3) (k : Nat) : Int := match st[k]? with | some s => s.w | none => 0
/-- a ring of steps that needs more than nothing -/
structure RingOk (st : List St3) (ks : List Nat) : Prop where
  ne : ks ≠ []
  lt : ∀ k ∈ ks, k < st.length
  cl : ∃ p, stepEnd st p ks = some p
  pos : 0 < (ks.map (wS st)).sum
theorem step_sum {st : List St3} {lv : Nat → Int} (f : ∀ s ∈ st, lv s.u + s.w ≤ lv s.v) : ∀ {ks : List Nat} {p q : Nat}, stepEnd st p ks = some q → lv p + (ks.map (wS st)).sum ≤ lv q
  | [], p, q, h => by cases h; show lv p + 0 ≤ lv p; omega
  | k :: ks, p, q, h => by
    cases e : st[k]? with
    | none =>
      have : stepEnd st p (k :: ks) = none := by
        show (match st[k]? with | some s => if s.u = p then stepEnd st s.v ks else none | none => none) = none
        rw [e]
      rw [this] at h; cases h
    | some s =>
      rw [stepEnd_cons e] at h
      by_cases z : s.u = p
      · rw [if_pos z] at h
        have ih := step_sum f h
        have := f s (List.mem_of_getElem? e)
        rw [List.map_cons, List.sum_cons, show wS st k = s.w by unfold wS; rw [e]]
        rw [z] at this
        omega
      · rw [if_neg z] at h; cases h
theorem RingOk.not_feas {st : List St3} {ks : List Nat} (r : RingOk st ks) : ¬ Feas st := fun ⟨lv, f⟩ => by
  obtain ⟨p, e⟩ := r.cl
  have := step_sum f e
  have := r.pos
  omega
section
variable {P : Program} {w : World} {K : PySem.W.Frag} {mg : Str → Option Value} {base : Heap}
def sp_raise_levels (K : PySem.W.Frag) : Sp := fun vs H Q _ => ∃ (ll lb sl : Addr) (n i : Nat) (st : List St3) (lv : Nat → Int) (la : Nat → Option Nat) (r t : Nat → Nat) (now : Nat), vs = [.ref ll, .ref lb, .ref sl] ∧ H ll = some (.lst (levL n lv)) ∧ H lb = some (.lst (lasL n la)) ∧ StepsAt H sl st ∧ ll ≠ lb ∧ sl ≠ ll ∧ sl ≠ lb ∧ (∀ s ∈ st, s.u < n ∧ s.v < n) ∧ st.length ≤ 400 ∧ Lv st i 0 lv la r t now ∧ (∀ p, r p < i) ∧
  ∀ (lv' : Nat → Int) (la' : Nat → Option Nat) (r' t' : Nat → Nat) (now' : Nat) (v : Option Nat) (H' : Hp), H' ll = some (.lst (levL n lv')) → H' lb = some (.lst (lasL n la')) → Lv st i st.length lv' la' r' t' now' → (v = none → ∀ p, r' p < i) → (∀ x, v = some x → x < n ∧ r' x = i) → (∀ p, lv p ≤ lv' p) → (∀ b o, H b = some o → b ≠ ll → b ≠ lb → H' b = some o) → Q (oV v) H'
theorem ok_raise_levels {f : Addr} {fd : FuncData} (F : Fun K "raise_levels" "raise_levels" s_raise_levels f fd) (T : Top K mg) : FnOk P w K mg base CX0 1 f fd ["levels", "last", "steps"] (sp_raise_levels K) := by
  refine F.ok sc_raise_levels (fun vs H Q E h => ?_) (fun cdv A outer s H vs Q E hr h => ?_)
  · obtain ⟨ll, lb, sl, n, i, st, lv, la, r, t, now, rfl, _⟩ := h
    rfl
  obtain ⟨ll, lb, sl, n, i, st, lv, la, r, t, now, rfl, hll, hlb, ⟨sv, hsl, als⟩, llb, sll, slb, bd, few, L, rlt, q⟩ := h
  have lsv := als.length
  refine ⟨_, (pss_cons (ps_set (i := 3) sc_raise_levels.nd rfl (Or.inl rfl) pe_non)
      (pss_cons (ps_for PassesOwn.never rfl (pi_enum (by rfl) T.m_enumerate (pa_cons (pv 2) pa_nil)) (pg_tupK K rfl rfl (pgs_cons (pg_name (i := 4) sc_raise_levels.nd rfl (Or.inl rfl)) (pgs_cons (pg_tupK K rfl rfl (pgs_cons (pg_name (i := 5) sc_raise_levels.nd rfl (Or.inl rfl)) (pgs_cons (pg_name (i := 6) sc_raise_levels.nd rfl (Or.inl rfl)) (pgs_cons (pg_name (i := 7) sc_raise_levels.nd rfl (Or.inl rfl)) pgs_nil)))) pgs_nil)))
        (pss_one (ps_if (pt_cmpR op_gt (pe_op op_add (pe_ix (ix_listK K rfl) (pv 0) (pv 5) (fun _ _ => rfl)) (pv 7)) (pe_ix (ix_listK K rfl) (pv 0) (pv 6) (fun _ _ => rfl)) (nomark _)) (pss_cons (ps_asg (pe_op op_add (pe_ix (ix_listK K rfl) (pv 0) (pv 5) (fun _ _ => rfl)) (pv 7)) (pg_sub (pv 0) (pv 6) set_list))
      (pss_cons (ps_asg (pv 4) (pg_sub (pv 1) (pv 6) set_list))
      (pss_one (ps_set (i := 3) sc_raise_levels.nd rfl (Or.inl rfl) (pv 6))))) pss_nil)))
      (pss_one (ps_ret (pv 3))))), ?_⟩
  refine ⟨_, rfl, sl, _, rfl, SqL.of hsl, for_it (n := sv.length) (fun j σ H2 => ∃ (lv' : Nat → Int) (la' : Nat → Option Nat) (r' t' : Nat → Nat) (now' : Nat) (v : Option Nat) (v4 v5 v6 v7 : Option V), σ = [some (.ref ll), some (.ref lb), some (.ref sl), some (oV v), v4, v5, v6, v7] ∧ H2 ll = some (.lst (levL n lv')) ∧ H2 lb = some (.lst (lasL n la')) ∧ Lv st i j lv' la' r' t' now' ∧ (v = none → ∀ p, r' p < i) ∧ (∀ x, v = some x → x < n ∧ r' x = i) ∧ (∀ p, lv p ≤ lv' p) ∧ (∀ b o, H b = some o → b ≠ ll → b ≠ lb → H2 b = some o))
    ⟨lv, la, r, t, now, none, none, none, none, none, rfl, hll, hlb, L, (fun _ => rlt), (fun _ z => nomatch z), (fun _ => Int.le_refl _), (fun _ _ e _ _ => e)⟩ ?_ ?_ ?_ ?_⟩
  · rintro j σ H2 hj ⟨lv', la', r', t', now', v, v4, v5, v6, v7, rfl, h1, h2, L, f1, f2, f3, fr⟩
    exact ⟨_, _, SqL.of (fr _ _ hsl sll slb), List.getElem?_eq_getElem hj⟩
  · rintro σ H2 ⟨lv', la', r', t', now', v, v4, v5, v6, v7, rfl, h1, h2, L, f1, f2, f3, fr⟩
    exact ⟨_, SqL.of (fr _ _ hsl sll slb), Nat.le_refl _⟩
  · rintro j x σ H2 H3 hj ⟨lv', la', r', t', now', v, v4, v5, v6, v7, rfl, h1, h2, L, f1, f2, f3, fr⟩ ⟨tt, y, rfl, ntt, rfl, fy⟩
    have ey := fy _ (SqL.of (fr _ _ hsl sll slb))
    obtain ⟨s, es, ⟨t2, rfl, e1⟩⟩ := als.getL ey
    obtain ⟨ul, vl⟩ := bd s (List.mem_of_getElem? es)
    have t2l : t2 ≠ ll := ne_of e1 hll (fun z => nomatch z)
    have t2b : t2 ≠ lb := ne_of e1 hlb (fun z => nomatch z)
    have e13 := same_new (o := .tup [V.int ((j : Nat) : Int), V.ref t2]) ntt _ _ (fr _ _ e1 t2l t2b)
    have h13 := same_new (o := .tup [V.int ((j : Nat) : Int), V.ref t2]) ntt _ _ h1
    have h23 := same_new (o := .tup [V.int ((j : Nat) : Int), V.ref t2]) ntt _ _ h2
    refine ⟨tt, _, rfl, SqT.of upd_same, rfl, _, _, rfl, _, _, rfl, t2, _, rfl, SqT.of e13, rfl, _, _, rfl, _, _, rfl, _, _, rfl, rfl, rfl, ?_⟩
    refine ⟨_, rfl, _, rfl, ll, _, _, _, rfl, rfl, SqL.of h13, atI_nat (rg_at ul), _, rfl, _, _, rfl, rfl, _, rfl, _, rfl, ll, _, _, _, rfl, rfl, SqL.of h13, atI_nat (rg_at vl), _, _, rfl, rfl, _, rfl, if_bl (fun c => ?_) (fun c => ?_)⟩
    · have c : lv' s.v < lv' s.u + s.w := of_decide_eq_true c
      refine ⟨_, rfl, _, rfl, ll, _, _, _, rfl, rfl, SqL.of h13, atI_nat (rg_at ul), _, rfl, _, _, rfl, rfl, _, rfl, _, rfl, ll, _, _, s.v, rfl, rfl, h13, ixN_nat (by rw [List.length_map, List.length_range]; exact vl), ?_⟩
      refine ⟨_, rfl, _, rfl, _, rfl, lb, _, _, s.v, rfl, rfl, (by rw [upd_ne llb.symm]; exact h23), ixN_nat (by rw [List.length_map, List.length_range]; exact vl), ?_⟩
      refine ⟨_, rfl, ?_⟩
      refine ⟨put lv' s.v (lv' s.u + s.w), put la' s.v (some j), put r' s.v i, put t' s.v (now' + 1), now' + 1, some s.v, _, _, _, _, rfl, ?_, ?_, L.lift es c, (fun z => nomatch z), (fun x z => ?_), fun p => ?_, fun b o e n1 n2 => ?_⟩
      · rw [upd_ne llb, upd_same]
        exact congrArg (fun l => some (HO.lst l)) (rg_set (g := V.int))
      · rw [upd_same]
        exact congrArg (fun l => some (HO.lst l)) (rg_set (g := oV) (x := some j))
      · cases z
        exact ⟨vl, put_at⟩
      · have := f3 p
        by_cases z : p = s.v
        · rw [z, put_at]; rw [z] at this; omega
        · rw [put_ne z]; exact this
      · rw [upd_ne n2, upd_ne n1]
        exact same_new ntt _ _ (fr b o e n1 n2)
    · have c : ¬ lv' s.v < lv' s.u + s.w := of_decide_eq_false c
      exact ⟨lv', la', r', t', now', v, _, _, _, _, rfl, h13, h23, L.idle es c, f1, f2, f3, fun b o e n1 n2 => same_new ntt _ _ (fr b o e n1 n2)⟩
  · rintro σ H2 ⟨lv', la', r', t', now', v, v4, v5, v6, v7, rfl, h1, h2, L, f1, f2, f3, fr⟩
    rw [lsv] at L
    exact ⟨_, rfl, q lv' la' r' t' now' v H2 h1 h2 L f1 f2 f3 fr⟩
def sp_ring_behind (K : PySem.W.Frag) : Sp := fun vs H Q _ => ∃ (lb sl : Addr) (n p : Nat) (st : List St3) (lv : Nat → Int) (la : Nat → Option Nat) (r t : Nat → Nat) (now : Nat), vs = [nV p, .ref lb, .ref sl] ∧ H lb = some (.lst (lasL n la)) ∧ StepsAt H sl st ∧ (∀ s ∈ st, s.u < n ∧ s.v < n) ∧ st.length ≤ 400 ∧ n ≤ 100 ∧ Lv st n st.length lv la r t now ∧ p < n ∧ r p = n ∧
  ∀ (pr : Addr) (ks : List Nat) (H' : Hp), H' pr = some (.lst (ks.map nV)) → RingOk st ks → ks.length ≤ n → Same H H' → Q (.ref pr) H'
theorem ok_ring_behind {f : Addr} {fd : FuncData} (F : Fun K "ring_behind" "ring_behind" s_ring_behind f fd) (T : Top K mg) : FnOk P w K mg base CX0 1 f fd ["place", "last", "steps"] (sp_ring_behind K) := by
  refine F.ok sc_ring_behind (fun vs H Q E h => ?_) (fun cdv A outer s H vs Q E hr h => ?_)
  · obtain ⟨lb, sl, n, p, st, lv, la, r, t, now, rfl, _⟩ := h
    rfl
  obtain ⟨lb, sl, n, p, st, lv, la, r, t, now, rfl, hlb, ⟨sv, hsl, als⟩, bd, few, n100, L, hp, hrp, q⟩ := h
  obtain ⟨c, c1, cn, cyc, hs, lt, hs0⟩ := L.ring (fun s z => (bd s z).1) hp hrp
  have lsv := als.length
  -- one step back, in the program
  have step : ∀ (k m : Nat), la (backs st la p k) = some m → ∃ s x t2, st[m]? = some s ∧ s.v = backs st la p k ∧ backs st la p (k + 1) = s.u ∧ sv[m]? = some x ∧ x = V.ref t2 ∧ H t2 = some (.tup [nV s.u, nV s.v, .int s.w]) := fun k m e => by
    obtain ⟨s, e1, e2, _⟩ := L.bk _ m e
    obtain ⟨x, ex, t2, rfl, h2⟩ := als.get e1
    refine ⟨s, _, t2, e1, e2, ?_, ex, rfl, h2⟩
    show back st la (backs st la p k) = s.u
    unfold back
    rw [e]
    dsimp only
    rw [e1]
  refine ⟨_, (pss_cons (ps_for PassesOwn.never rfl (pi_range1 (by rfl) T.m_range (pa_cons (pe_callB (call_len_seqK K rfl) (by rfl) T.m_len (by decide +kernel) (pa_cons (pv 1) pa_nil)) pa_nil)) (pg_name (i := 3) sc_ring_behind.nd rfl (Or.inl rfl))
        (pss_one (ps_set (i := 0) sc_ring_behind.nd rfl (Or.inl rfl) (pe_ix (ix_tupK K rfl) (pe_ix (ix_listK K rfl) (pv 2) (pe_ix (ix_listK K rfl) (pv 1) (pv 0) (fun _ _ => rfl)) (fun _ _ => rfl)) pe_int (fun _ _ => rfl)))))
      (pss_cons (ps_set (i := 4) sc_ring_behind.nd rfl (Or.inl rfl) (pe_lst (pa_cons (pe_ix (ix_listK K rfl) (pv 1) (pv 0) (fun _ _ => rfl)) pa_nil)))
      (pss_cons (ps_set (i := 5) sc_ring_behind.nd rfl (Or.inl rfl) (pe_ix (ix_tupK K rfl) (pe_ix (ix_listK K rfl) (pv 2) (pe_ix (ix_listK K rfl) (pv 1) (pv 0) (fun _ _ => rfl)) (fun _ _ => rfl)) pe_int (fun _ _ => rfl)))
      (pss_cons (ps_while PassesOwn.never (pt_cmpR op_ne (pv 5) (pv 0) (nomark _))
        (pss_cons (ps_expr (pe_bmK K rfl PySem.F.plainAttrs_list PySem.F.slot_list_append PySem.F.type_list_append mt_append (pv 4) (pa_cons (pe_ix (ix_listK K rfl) (pv 1) (pv 5) (fun _ _ => rfl)) pa_nil)))
      (pss_one (ps_set (i := 5) sc_ring_behind.nd rfl (Or.inl rfl) (pe_ix (ix_tupK K rfl) (pe_ix (ix_listK K rfl) (pv 2) (pe_ix (ix_listK K rfl) (pv 1) (pv 5) (fun _ _ => rfl)) (fun _ _ => rfl)) pe_int (fun _ _ => rfl))))))
      (pss_one (ps_ret (pe_revLK K rfl (pv 4)))))))), ?_⟩
  refine ⟨_, rfl, lb, _, rfl, .inl (SqL.of hlb), _, rfl, by rw [List.length_map, List.length_range]; omega, by rw [List.length_map, List.length_range]; omega, for_range (lo := 0) (n := (lasL n la).length) (fun k σ H2 => ∃ v3 v4 v5 : Option V, σ = [some (nV (backs st la p k)), some (.ref lb), some (.ref sl), v3, v4, v5] ∧ Same H H2) ⟨none, none, none, rfl, Same.refl _⟩ ?_ ?_⟩
  · rintro k σ H2 hk ⟨v3, v4, v5, rfl, s2⟩
    rw [List.length_map, List.length_range] at hk
    obtain ⟨m, em⟩ := hs0 k hk
    obtain ⟨s, x, t2, e1, e2, e3, ex, rfl, h2⟩ := step k m em
    have al : (lasL n la)[backs st la p k]? = some (nV m) := by rw [rg_at (lt k), em]; rfl
    refine ⟨_, rfl, _, rfl, _, rfl, lb, _, _, _, rfl, rfl, SqL.of (s2 _ _ hlb), atI_nat al, sl, _, _, _, rfl, rfl, SqL.of (s2 _ _ hsl), atI_nat ex, t2, _, _, _, rfl, rfl, SqT.of (s2 _ _ h2), atI_nat (j := 0) rfl, ?_⟩
    exact ⟨_, _, _, by rw [e3]; rfl, s2⟩
  rintro σ H2 ⟨v3, v4, v5, rfl, s2⟩
  have ln : (lasL n la).length = n := by rw [List.length_map, List.length_range]
  rw [ln]
  obtain ⟨m, em⟩ := hs n (Nat.le_refl _)
  obtain ⟨s, x, t2, e1, e2, e3, ex, rfl, h2⟩ := step n m em
  have al : (lasL n la)[backs st la p n]? = some (nV m) := by rw [rg_at (lt n), em]; rfl
  refine ⟨_, rfl, _, rfl, lb, _, _, _, rfl, rfl, SqL.of (s2 _ _ hlb), atI_nat al, (by show 1 ≤ sizeLine; decide), fun rl nrl => ?_⟩
  have s3 := s2.trans (same_new (o := .lst [nV m]) nrl)
  refine ⟨_, rfl, _, rfl, _, rfl, lb, _, _, _, rfl, rfl, SqL.of (s3 _ _ hlb), atI_nat al, sl, _, _, _, rfl, rfl, SqL.of (s3 _ _ hsl), atI_nat ex, t2, _, _, _, rfl, rfl, SqT.of (s3 _ _ h2), atI_nat (j := 0) rfl, ?_⟩
  refine ⟨fun z σ H4 => ∃ (j : Nat) (ks : List Nat), σ = [some (nV (backs st la p n)), some (.ref lb), some (.ref sl), v3, some (.ref rl), some (nV (backs st la p (n + 1 + j)))] ∧ H4 rl = some (.lst (ks.reverse.map nV)) ∧ ks.length = j + 1 ∧ (∀ k ∈ ks, k < st.length) ∧ stepEnd st (backs st la p (n + 1 + j)) ks = some (backs st la p n) ∧ (ks.map (wS st)).sum = needs3 st la p n (j + 1) ∧ j + 1 ≤ c ∧ z = c - (j + 1) ∧ Same H H4,
    ⟨_, 0, [m], ?_, upd_same, rfl, fun k hk => ?_, ?_, ?_, c1, rfl, s3⟩, ?_⟩
  · rw [show n + 1 + 0 = n + 1 by omega, e3]; rfl
  · obtain rfl : k = m := by simpa using hk
    exact (List.getElem?_eq_some_iff.mp e1).1
  · rw [show n + 1 + 0 = n + 1 by omega, e3, stepEnd_cons e1, if_pos rfl, e2]; rfl
  · show wS st m + 0 = 0 + need st la (backs st la p (n + 0))
    have hw : wS st m = s.w := by unfold wS; rw [e1]
    have hn : need st la (backs st la p n) = s.w := by unfold need; rw [em]; dsimp only; rw [e1]
    rw [show n + 0 = n by omega, hw, hn]
    omega
  rintro z σ H4 ⟨j, ks, rfl, hrl, lk, kl, se, sm, jc, rfl, s4⟩
  refine ⟨_, rfl, _, rfl, rfl, _, rfl, ?_⟩
  by_cases cl : backs st la p (n + 1 + j) = backs st la p n
  · rw [decide_eq_true (show nV (backs st la p (n + 1 + j)) = nV (backs st la p n) by rw [cl])]
    refine if_bl (fun z => nomatch z) (fun _ => ?_)
    refine ⟨_, rfl, rl, _, rfl, SqL.of hrl, fun r2 nr2 => ?_⟩
    refine q r2 ks _ ?_ ⟨fun z => ?_, kl, ⟨backs st la p n, by rw [cl] at se; exact se⟩, ?_⟩ (by omega) (s4.trans (same_new nr2))
    · rw [upd_same, ← List.map_reverse, List.reverse_reverse]
    · rw [z] at lk; cases lk
    · rw [sm]
      exact L.sum_pos (by omega) (by rw [show n + (j + 1) = n + 1 + j by omega]; exact cl) hs
  · rw [decide_eq_false (show ¬ nV (backs st la p (n + 1 + j)) = nV (backs st la p n) from fun y => cl (by have := V.int.inj y; omega))]
    refine if_bl (fun _ => ?_) (fun z => nomatch z)
    have jlt : j + 1 < c := by
      refine Nat.lt_of_le_of_ne jc fun y => cl ?_
      rw [show n + 1 + j = n + (j + 1) by omega, y]
      exact cyc
    refine ⟨_, fun σ' H' h => h, ?_⟩
    obtain ⟨m, em⟩ := hs (n + 1 + j) (by omega)
    obtain ⟨s, x, t2, e1, e2, e3, ex, rfl, h2⟩ := step (n + 1 + j) m em
    have al : (lasL n la)[backs st la p (n + 1 + j)]? = some (nV m) := by rw [rg_at (lt _), em]; rfl
    refine ⟨_, rfl, .inl ⟨rfl, _, SqL.of hrl⟩, _, rfl, _, rfl, lb, _, _, _, rfl, rfl, SqL.of (s4 _ _ hlb), atI_nat al, rl, _, _, rfl, rfl, hrl, by rw [List.length_map, List.length_reverse]; exact small1000 (by omega), ?_⟩
    have rl0 : H rl = none := same_none s2 nrl
    have s5 : Same H (upd H4 rl (.lst (ks.reverse.map nV ++ [nV m]))) := Same.own s4 rl0
    refine ⟨_, rfl, _, rfl, _, rfl, lb, _, _, _, rfl, rfl, SqL.of (s5 _ _ hlb), atI_nat al, sl, _, _, _, rfl, rfl, SqL.of (s5 _ _ hsl), atI_nat ex, t2, _, _, _, rfl, rfl, SqT.of (s5 _ _ h2), atI_nat (j := 0) rfl, ?_⟩
    refine ⟨c - (j + 1 + 1), by omega, j + 1, m :: ks, ?_, ?_, by rw [List.length_cons, lk], fun k hk => ?_, ?_, ?_, by omega, rfl, s5⟩
    · rw [show n + 1 + (j + 1) = n + 1 + j + 1 by omega, e3]; rfl
    · rw [upd_same, List.reverse_cons, List.map_append]; rfl
    · rcases List.mem_cons.mp hk with rfl | hk
      · exact (List.getElem?_eq_some_iff.mp e1).1
      · exact kl k hk
    · rw [show n + 1 + (j + 1) = n + 1 + j + 1 by omega, e3, stepEnd_cons e1, if_pos rfl, e2]; exact se
    · show wS st m + (ks.map (wS st)).sum = needs3 st la p n (j + 1) + need st la (backs st la p (n + (j + 1)))
      have hw : wS st m = s.w := by unfold wS; rw [e1]
      have hn : need st la (backs st la p (n + 1 + j)) = s.w := by unfold need; rw [em]; dsimp only; rw [e1]
      rw [sm, show n + (j + 1) = n + 1 + j by omega, hw, hn]
      omega
def sp_levels_or_ring (K : PySem.W.Frag) : Sp := fun vs H Q _ => ∃ (sl : Addr) (n : Nat) (st : List St3), vs = [nV n, .ref sl] ∧ StepsAt H sl st ∧ (∀ s ∈ st, s.u < n ∧ s.v < n) ∧ st.length ≤ 400 ∧ n ≤ 100 ∧
  (∀ (p ll : Addr) (lv : Nat → Int) (H' : Hp), H' p = some (.tup [.ref ll, .non]) → H' ll = some (.lst (levL n lv)) → (∀ s ∈ st, lv s.u + s.w ≤ lv s.v) → (∀ q, 0 ≤ lv q) → Same H H' → Q (.ref p) H') ∧
  ∀ (p rl : Addr) (ks : List Nat) (H' : Hp), H' p = some (.tup [.non, .ref rl]) → H' rl = some (.lst (ks.map nV)) → RingOk st ks → ks.length ≤ n → Same H H' → Q (.ref p) H'
theorem ok_levels_or_ring {f : Addr} {fd : FuncData} (F : Fun K "levels_or_ring" "levels_or_ring" s_levels_or_ring f fd) (T : Top K mg) : FnOk P w K mg base CX0 2 f fd ["many", "steps"] (sp_levels_or_ring K) := by
  obtain ⟨f_raise_levels, fd_raise_levels, F_raise_levels, b_raise_levels, m_raise_levels⟩ := T.d_raise_levels
  have G_raise_levels := ok_raise_levels (P := P) (w := w) (base := base) F_raise_levels T
  obtain ⟨f_ring_behind, fd_ring_behind, F_ring_behind, b_ring_behind, m_ring_behind⟩ := T.d_ring_behind
  have G_ring_behind := ok_ring_behind (P := P) (w := w) (base := base) F_ring_behind T
  refine F.ok sc_levels_or_ring (fun vs H Q E h => ?_) (fun cdv A outer s H vs Q E hr h => ?_)
  · obtain ⟨sl, n, st, rfl, _⟩ := h
    rfl
  obtain ⟨sl, n, st, rfl, ⟨sv, hsl, als⟩, bd, few, n100, q1, q2⟩ := h
  let R1 : TS := fun D' σ' H' => D'.rt = Q ∧ ∃ (ll lb : Addr) (lv : Nat → Int) (la : Nat → Option Nat) (r t : Nat → Nat) (now : Nat) (v : Option Nat) (v5 : Option V), σ' = [some (nV n), some (.ref sl), some (.ref ll), some (.ref lb), some (oV v), v5] ∧ H' ll = some (.lst (levL n lv)) ∧ H' lb = some (.lst (lasL n la)) ∧ Same H H' ∧ (∀ p, 0 ≤ lv p) ∧ (v = none → ∀ s ∈ st, lv s.u + s.w ≤ lv s.v) ∧ ∀ x, v = some x → x < n ∧ r x = n ∧ Lv st n st.length lv la r t now
  refine ⟨_, (pss_cons (ps_set (i := 2) sc_levels_or_ring.nd rfl (Or.inl rfl) (pe_op op_rep (pe_lst (pa_cons pe_int pa_nil)) (pv 0)))
      (pss_cons (ps_set (i := 3) sc_levels_or_ring.nd rfl (Or.inl rfl) (pe_op op_rep (pe_lst (pa_cons pe_non pa_nil)) (pv 0)))
      (pss_cons (ps_set (i := 4) sc_levels_or_ring.nd rfl (Or.inl rfl) pe_non)
      (pss_cons (ps_for PassesOwn.never rfl (pi_range1 (by rfl) T.m_range (pa_cons (pv 0) pa_nil)) (pg_name (i := 5) sc_levels_or_ring.nd rfl (Or.inl rfl))
        (pss_cons (ps_set (i := 4) sc_levels_or_ring.nd rfl (Or.inl rfl) (pe_call G_raise_levels (hr.mono (by decide)) (by rfl) m_raise_levels F_raise_levels.kp b_raise_levels .nil pass0 (pa_cons (pv 2) (pa_cons (pv 3) (pa_cons (pv 1) pa_nil)))))
      (pss_one (ps_if (pt_cmpR op_isN (pv 4) pe_non (nomark _)) (pss_one ps_break) pss_nil))))
      (PSs.to (pss_cons (ps_if (pt_cmpR op_isN (pv 4) pe_non (nomark _)) (pss_one (ps_ret (pe_tup (pa_cons (pv 2) (pa_cons pe_non pa_nil))))) pss_nil)
      (pss_one (ps_ret (pe_tup (pa_cons pe_non (pa_cons (pe_call G_ring_behind (hr.mono (by decide)) (by rfl) m_ring_behind F_ring_behind.kp b_ring_behind .nil pass0 (pa_cons (pv 4) (pa_cons (pv 3) (pa_cons (pv 1) pa_nil)))) pa_nil)))))) R1 ?tail1))))), ?_⟩
  case tail1 =>
    rintro D' σ' H1 ⟨eD, ll, lb, lv, la, r, t, now, v, v5, rfl, hll, hlb, s1, nn, f1, f2⟩
    cases v with
    | none =>
      refine ⟨_, rfl, rfl, _, rfl, if_bl (fun _ => ?_) (fun z => absurd rfl (of_decide_eq_false z))⟩
      refine ⟨_, rfl, (by show 2 ≤ sizeLine; decide), fun p np => ?_⟩
      rw [eD]
      exact q1 p ll lv _ upd_same (same_new np _ _ hll) (f1 rfl) nn (s1.trans (same_new np))
    | some x =>
      obtain ⟨xl, rx, L⟩ := f2 x rfl
      refine ⟨_, rfl, rfl, _, rfl, if_bl (fun z => absurd (of_decide_eq_true z) (fun y => nomatch y)) (fun _ => ?_)⟩
      refine ⟨_, rfl, _, rfl, _, rfl, lb, sl, n, x, st, lv, la, r, t, now, rfl, hlb, ⟨sv, s1 _ _ hsl, als.imp fun _ _ z => z.keep (TK.same s1)⟩, bd, few, n100, L, xl, rx, fun pr ks H2 hpr ring lk s2 => ⟨(by show 2 ≤ sizeLine; decide), fun p np => ?_⟩⟩
      rw [eD]
      exact q2 p pr ks _ upd_same (same_new np _ _ hpr) ring lk ((s1.trans s2).trans (same_new np))
  refine ⟨(by show 1 ≤ sizeLine; decide), fun z1 nz1 => ⟨_, rfl, z1, ((n : Nat) : Int), _, rfl, rfl, upd_same, by omega, by omega, (by show 1 * ((n : Nat) : Int).toNat ≤ sizeLine; exact little (by omega)), fun ll nll => ?_⟩⟩
  have eL : (List.replicate ((n : Nat) : Int).toNat [V.int 0]).flatten = levL n (fun _ => 0) := by
    rw [flat_rep, Int.toNat_natCast]
    exact (List.map_const' .. ▸ by rw [List.length_range] : List.replicate n (V.int 0) = (List.range n).map fun _ => V.int 0)
  rw [eL]
  refine ⟨(by show 1 ≤ sizeLine; decide), fun z2 nz2 => ⟨_, rfl, z2, ((n : Nat) : Int), _, rfl, rfl, upd_same, by omega, by omega, (by show 1 * ((n : Nat) : Int).toNat ≤ sizeLine; exact little (by omega)), fun lb nlb => ?_⟩⟩
  have eB : (List.replicate ((n : Nat) : Int).toNat [V.non]).flatten = lasL n (fun _ => none) := by
    rw [flat_rep, Int.toNat_natCast]
    exact (List.map_const' .. ▸ by rw [List.length_range] : List.replicate n V.non = (List.range n).map fun _ => V.non)
  rw [eB]
  have sA := ((same_new (o := .lst [V.int 0]) nz1).trans (same_new (o := .lst (levL n (fun _ => 0))) nll))
  have s0 : Same H _ := (sA.trans (same_new (o := .lst [V.non]) nz2)).trans (same_new (o := .lst (lasL n (fun _ => none))) nlb)
  have ll0 : H ll = none := same_none (same_new nz1) nll
  have lb0 : H lb = none := same_none (sA.trans (same_new nz2)) nlb
  have hll0 := same_new (o := .lst (lasL n (fun _ => none))) nlb _ _ (same_new (o := .lst [V.non]) nz2 _ _ (upd_same (H := upd H z1 (.lst [V.int 0])) (a := ll) (o := .lst (levL n (fun _ => 0)))))
  have llb : ll ≠ lb := ne_of_none (same_new (o := .lst [V.non]) nz2 _ _ (upd_same (H := upd H z1 (.lst [V.int 0])) (a := ll) (o := .lst (levL n (fun _ => 0))))) nlb
  have sll : sl ≠ ll := ne_of_none hsl ll0
  have slb : sl ≠ lb := ne_of_none hsl lb0
  refine ⟨_, rfl, _, rfl, by omega, by omega, for_range (lo := 0) (n := ((n : Nat) : Int).toNat) (fun i σ H2 => ∃ (lv : Nat → Int) (la : Nat → Option Nat) (r t : Nat → Nat) (now : Nat) (v : Option Nat) (v5 : Option V), σ = [some (nV n), some (.ref sl), some (.ref ll), some (.ref lb), some (oV v), v5] ∧ H2 ll = some (.lst (levL n lv)) ∧ H2 lb = some (.lst (lasL n la)) ∧ Same H H2 ∧ (∀ p, 0 ≤ lv p) ∧ Lv st (i + 1) 0 lv la r t now ∧ (∀ p, r p < i + 1) ∧ ((i = 0 ∧ v = none) ∨ ∃ x, v = some x ∧ x < n ∧ r x = i ∧ Lv st i st.length lv la r t now))
    ⟨fun _ => 0, fun _ => none, fun _ => 0, fun _ => 0, 0, none, none, rfl, hll0, upd_same, s0, (fun _ => Int.le_refl _), Lv.start, (fun _ => Nat.zero_lt_one), .inl ⟨rfl, rfl⟩⟩ ?_ ?_⟩
  · rintro i σ H2 hi ⟨lv, la, r, t, now, v, v5, rfl, hll, hlb, s, nn, L, rl, _⟩
    have hsl2 := s _ _ hsl
    refine ⟨_, rfl, _, rfl, _, rfl, ll, lb, sl, n, i + 1, st, lv, la, r, t, now, rfl, hll, hlb, ⟨sv, hsl2, als.imp fun _ _ z => z.keep (TK.same s)⟩, llb, sll, slb, bd, few, L, rl, fun lv' la' r' t' now' v' H3 h1 h2 L' f1 f2 f3 fr => ?_⟩
    have s3 : Same H H3 := fun b o e => fr b o (s _ _ e) (ne_of_none e ll0) (ne_of_none e lb0)
    have nn' : ∀ p, 0 ≤ lv' p := fun p => Int.le_trans (nn p) (f3 p)
    cases v' with
    | none =>
      refine ⟨_, rfl, rfl, _, rfl, if_bl (fun _ => ?_) (fun z => absurd rfl (of_decide_eq_false z))⟩
      exact ⟨rfl, ll, lb, lv', la', r', t', now', none, _, rfl, h1, h2, s3, nn', (fun _ => L'.feas (f1 rfl)), (fun _ z => nomatch z)⟩
    | some x =>
      obtain ⟨xl, rx⟩ := f2 x rfl
      refine ⟨_, rfl, rfl, _, rfl, if_bl (fun z => absurd (of_decide_eq_true z) (fun y => nomatch y)) (fun _ => ?_)⟩
      exact ⟨lv', la', r', t', now', some x, _, rfl, h1, h2, s3, nn', L'.next, fun p => Nat.lt_succ_of_le (L'.rl p), .inr ⟨x, rfl, xl, rx, L'⟩⟩
  · rintro σ H2 ⟨lv, la, r, t, now, v, v5, rfl, hll, hlb, s, nn, L, rl, fl⟩
    rw [Int.toNat_natCast] at fl
    rcases fl with ⟨z, rfl⟩ | ⟨x, rfl, xl, rx, L'⟩
    · exact ⟨rfl, ll, lb, lv, la, r, t, now, none, _, rfl, hll, hlb, s, nn, (fun _ s hs => absurd (bd s hs).1 (by omega)), (fun _ z => nomatch z)⟩
    · exact ⟨rfl, ll, lb, lv, la, r, t, now, some x, _, rfl, hll, hlb, s, nn, (fun z => nomatch z), fun y z => by cases z; exact ⟨xl, rx, L'⟩⟩
end
theorem dget_of {H : Hp} {a : Addr} {kvs : List (Key × V)} {k : Nat} {o : Option V} (e : H a = some (.dK kvs)) (h : valV kvs (kN k) = o) : DGet H a (nV k) o := h ▸ DGet.k (k := kN k) e
def CoAt (H : Hp) (v : V) (c : Co) : Prop := ∃ t : Addr, v = .ref t ∧ H t = some (.tup [.int c.1, .int (-c.2)])
def DC (H : Hp) (kvs : List (Key × V)) (cf : Nat → Option Co) : Prop := (∀ k : Nat, (cf k = none ∧ valV kvs (kN k) = none) ∨ ∃ c v, cf k = some c ∧ valV kvs (kN k) = some v ∧ CoAt H v c) ∧ ∃ ks : List Nat, kvs.map Prod.fst = ks.map kN ∧ ks.Nodup
theorem DC.keep {H H' : Hp} {kvs : List (Key × V)} {cf : Nat → Option Co} (d : DC H kvs cf) (s : TK H H') : DC H' kvs cf := ⟨fun k => by
  rcases d.1 k with h | ⟨c, v, h1, h2, t, h3, h4⟩
  · exact .inl h
  · exact .inr ⟨c, v, h1, h2, t, h3, s _ _ h4⟩, d.2⟩
theorem keys_put {kvs : List (Key × V)} {k : Nat} {v : V} (h : ∃ ks : List Nat, kvs.map Prod.fst = ks.map kN ∧ ks.Nodup) : ∃ ks : List Nat, (putK kvs (kN k) v).map Prod.fst = ks.map kN ∧ ks.Nodup := by
  obtain ⟨ks, e, nd⟩ := h
  unfold putK
  by_cases a : (kvs.any fun kv => decide (kv.1 = kN k)) = true
  · rw [if_pos a]
    refine ⟨ks, ?_, nd⟩
    rw [List.map_map, ← e]
    refine List.map_congr_left fun kv _ => ?_
    show (if kv.1 = kN k then (kv.1, v) else kv).1 = kv.1
    split <;> rfl
  · rw [if_neg a]
    refine ⟨ks ++ [k], by rw [List.map_append, List.map_append, e]; rfl, ?_⟩
    rw [List.nodup_append]
    refine ⟨nd, by simp, fun x hx y hy z => ?_⟩
    obtain rfl : y = k := by simpa using hy
    subst z
    have : kN x ∈ kvs.map Prod.fst := by rw [e]; exact List.mem_map.mpr ⟨x, hx, rfl⟩
    obtain ⟨kv, h1, h2⟩ := List.mem_map.mp this
    exact a (List.any_eq_true.mpr ⟨kv, h1, decide_eq_true h2⟩)
theorem DC.put {H : Hp} {kvs : List (Key × V)} {cf : Nat → Option Co} (d : DC H kvs cf) {k : Nat} {v : V} {c : Co} (h : CoAt H v c) : DC H (putK kvs (kN k) v) (fun j => if j = k then some c else cf j) := ⟨fun j => by
  rw [valV_put]
  show ((if j = k then some c else cf j) = none ∧ _) ∨ ∃ c' v', (if j = k then some c else cf j) = some c' ∧ _
  by_cases e : j = k
  · rw [if_pos e, if_pos (show kN j = kN k by rw [e])]
    exact .inr ⟨c, v, rfl, rfl, h⟩
  · rw [if_neg e, if_neg (show ¬ kN j = kN k from fun z => e (kN_inj z))]
    exact d.1 j, keys_put d.2⟩
theorem DL.put {lvs : List (Key × V)} {la : Nat → Option Nat} (d : ∀ k, valV lvs (kN k) = (la k).map nV) (k n : Nat) : ∀ j, valV (putK lvs (kN k) (nV n)) (kN j) = ((fun j => if j = k then some n else la j) j).map nV := fun j => by
  rw [valV_put]
  by_cases e : j = k
  · rw [if_pos (by rw [e])]
    show _ = Option.map nV (if j = k then some n else la j)
    rw [if_pos e]; rfl
  · rw [if_neg (fun z => e (kN_inj z))]
    show _ = Option.map nV (if j = k then some n else la j)
    rw [if_neg e]; exact d j
theorem putK_le (c : List (Key × V)) (k : Key) (x : V) : (putK c k x).length ≤ c.length + 1 := by
  unfold putK
  split
  · rw [List.length_map]; omega
  · rw [List.length_append]; exact Nat.le_refl _
theorem lex_co (c d : Co) : HT.lexLt [c.1, -c.2] [d.1, -d.2] = decide (coLt c d) := by
  rw [HT.lexLt_cons, HT.lexLt_cons, HT.lexLt_nil_nil]
  unfold coLt
  by_cases e : c.1 = d.1
  · rw [if_pos e]
    by_cases e2 : -c.2 = -d.2
    · rw [if_pos e2]
      exact (decide_eq_false (by omega)).symm
    · rw [if_neg e2]
      by_cases e3 : -c.2 < -d.2
      · rw [decide_eq_true e3]; exact (decide_eq_true (by omega)).symm
      · rw [decide_eq_false e3]; exact (decide_eq_false (by omega)).symm
  · rw [if_neg e]
    by_cases e3 : c.1 < d.1
    · rw [decide_eq_true e3]; exact (decide_eq_true (by omega)).symm
    · rw [decide_eq_false e3]; exact (decide_eq_false (by omega)).symm
theorem LaOk.put {hs : List HR} {bs : List BR} {rk : Nat → Int} {one : Nat} {cf : Nat → Option Co} {la : Nat → Option Nat} (L : LaOk hs bs one cf la) (hrk : ∀ b ∈ bs, b.th = [] → rk b.one < rk b.to) (s : Snd hs bs one cf) (h1 : cf one = some (0, momH hs one)) {j : Nat} {b : BR} {c : Co} (eb : bs[j]? = some b) (h : cf b.one = some c) (l : ∀ d, cf b.to = some d → coLt (coAdd hs c b) d) :
    LaOk hs bs one (fun k => if k = b.to then some (coAdd hs c b) else cf k) (fun k => if k = b.to then some j else la k) ∧ b.to ≠ one := by
  have hb := List.mem_of_getElem? eb
  have ne1 : b.to ≠ one := fun z => cf_one hrk s h1 hb h z (l _ (by rw [z]; exact h1))
  have ne2 : b.one ≠ b.to := fun z => by
    have := l c (by rw [← z]; exact h)
    unfold coLt coAdd at this
    dsimp only at this
    by_cases y : b.th = []
    · have := hrk b hb y
      rw [z] at this
      omega
    · have : 0 < b.th.length := List.length_pos_iff.mpr y
      omega
  have newc : ∀ k c2, cf k = some c2 → ∃ c3, (fun k => if k = b.to then some (coAdd hs c b) else cf k) k = some c3 ∧ coLe c3 c2 := fun k c2 e => by
    by_cases z : k = b.to
    · exact ⟨_, if_pos z, (l c2 (z ▸ e)).le⟩
    · exact ⟨c2, (if_neg z).trans e, coLe.refl _⟩
  refine ⟨⟨fun k n e => ?_, ?_, fun k d e => ?_⟩, ne1⟩
  · by_cases z : k = b.to
    · have e : some j = some n := by rw [← e]; exact (if_pos z).symm
      cases e
      exact ⟨b, c, coAdd hs c b, eb, z.symm, (if_neg ne2).trans h, if_pos z, coLe.refl _⟩
    · have e : la k = some n := by rw [← e]; exact (if_neg z).symm
      obtain ⟨b2, c2, d2, g1, g2, g3, g4, g5⟩ := L.go k n e
      obtain ⟨c3, g6, g7⟩ := newc _ _ g3
      exact ⟨b2, c3, d2, g1, g2, g6, (if_neg z).trans g4, (coAdd_mono g7).trans g5⟩
  · exact (if_neg ne1.symm).trans L.fst
  · by_cases z : k = b.to
    · exact .inr (by show (if k = b.to then some j else la k).isSome = true; rw [if_pos z]; rfl)
    · have e : cf k = some d := by rw [← e]; exact (if_neg z).symm
      rcases L.has k d e with y | y
      · exact .inl y
      · exact .inr (by show (if k = b.to then some j else la k).isSome = true; rw [if_neg z]; exact y)
theorem TK.dic {H : Hp} {p : Addr} {kvs lvs : List (Key × V)} (h : H p = some (.dK kvs)) : TK H (upd H p (.dK lvs)) := fun x zs e => by
  rw [upd_ne (ne_of e h (fun z => nomatch z))]
  exact e
section
variable {P : Program} {w : World} {K : PySem.W.Frag} {mg : Str → Option Value} {base : Heap}
def sp_least_costs (K : PySem.W.Frag) : Sp := fun vs H Q _ => ∃ (r : Addr) (hs : List HR) (bs : List BR) (one : Nat), vs = [.ref r, nV one] ∧ RoomAt H r hs bs ∧ RoomOk hs bs ∧ one < hs.length ∧
  ∀ (p cd ld : Addr) (kvs lvs : List (Key × V)) (la : Nat → Option Nat) (H' : Hp), H' p = some (.tup [.ref cd, .ref ld]) → cd ≠ ld → H' cd = some (.dK kvs) → DC H' kvs (best hs bs one) → H' ld = some (.dK lvs) → (∀ k, valV lvs (kN k) = (la k).map nV) → LaOk hs bs one (best hs bs one) la → Same H H' → Q (.ref p) H'
theorem ok_least_costs {f : Addr} {fd : FuncData} (F : Fun K "least_costs" "least_costs" s_least_costs f fd) (T : Top K mg) : FnOk P w K mg base CX0 1 f fd ["room", "one"] (sp_least_costs K) := by
  refine F.ok sc_least_costs (fun vs H Q E h => ?_) (fun cdv A outer s H vs Q E hr h => ?_)
  · obtain ⟨r, hs, bs, one, rfl, _⟩ := h
    rfl
  obtain ⟨r, hs, bs, one, rfl, hR, ok, ho, q⟩ := h
  obtain ⟨ha, ba, hv, bv, er, eh, eb, alh, alb⟩ := hR.ex
  have lhv := alh.length
  have lbv := alb.length
  have lh := ok.hands
  have lb := ok.many
  obtain ⟨rk, hrk⟩ := ok.rank
  have hto : ∀ b ∈ bs, b.to < hs.length := fun b hb => (ok.ends b hb).2
  have ehk : hs[one]? = some hs[one] := List.getElem?_eq_getElem ho
  have mom1 : momH hs one = hs[one].mom := by unfold momH; rw [ehk]
  obtain ⟨x0, ex0, ⟨t0, r0, rfl, e01, e02⟩⟩ := alh.get ehk
  refine ⟨_, (pss_cons (ps_asg (pv 0) (pg_tupK K rfl rfl (pgs_cons (pg_name (i := 2) sc_least_costs.nd rfl (Or.inl rfl)) (pgs_cons (pg_name (i := 3) sc_least_costs.nd rfl (Or.inl rfl)) pgs_nil))))
      (pss_cons (ps_set (i := 4) sc_least_costs.nd rfl (Or.inl rfl) (pe_disp (pps_cons (pv 1) (pe_tup (pa_cons pe_int (pa_cons (pe_un un_neg (pe_ix (ix_tupK K rfl) (pe_ix (ix_tupK K rfl) (pv 2) (pv 1) (fun _ _ => rfl)) pe_int (fun _ _ => rfl))) pa_nil))) pps_nil) (by rfl) (by rfl) (fun z => by cases z) (by decide)))
      (pss_cons (ps_set (i := 5) sc_least_costs.nd rfl (Or.inl rfl) pe_dnewK)
      (pss_cons (ps_set (i := 6) sc_least_costs.nd rfl (Or.inl rfl) pe_bl)
      (pss_cons (ps_while PassesOwn.never (pt_val (pv 6))
        (pss_cons (ps_set (i := 6) sc_least_costs.nd rfl (Or.inl rfl) pe_bl)
      (pss_one (ps_for PassesOwn.never rfl (pi_enumT K rfl (by rfl) T.m_enumerate (pa_cons (pv 3) pa_nil)) (pg_tupK K rfl rfl (pgs_cons (pg_name (i := 7) sc_least_costs.nd rfl (Or.inl rfl)) (pgs_cons (pg_tupK K rfl rfl (pgs_cons (pg_name (i := 8) sc_least_costs.nd rfl (Or.inl rfl)) (pgs_cons (pg_name (i := 9) sc_least_costs.nd rfl (Or.inl rfl)) (pgs_cons (pg_name (i := 10) sc_least_costs.nd rfl (Or.inl rfl)) pgs_nil)))) pgs_nil)))
        (pss_one (ps_if (pt_cmp (pc_din (hu_of hr) (pv 8) (pv 4)) (by with_unfolding_all rfl)) (pss_cons (ps_asg (pe_dget (hu_of hr) (pv 4) (pv 8) (fun _ _ => rfl)) (pg_tupK K rfl rfl (pgs_cons (pg_name (i := 11) sc_least_costs.nd rfl (Or.inl rfl)) (pgs_cons (pg_name (i := 12) sc_least_costs.nd rfl (Or.inl rfl)) pgs_nil))))
      (pss_cons (ps_set (i := 13) sc_least_costs.nd rfl (Or.inl rfl) (pe_tup (pa_cons (pe_op op_add (pv 11) (pe_callB (call_len_seqK K rfl) (by rfl) T.m_len (by decide +kernel) (pa_cons (pv 10) pa_nil))) (pa_cons (pe_op op_sub (pv 12) (pe_ix (ix_tupK K rfl) (pe_ix (ix_tupK K rfl) (pv 2) (pv 9) (fun _ _ => rfl)) pe_int (fun _ _ => rfl))) pa_nil))))
      (pss_one (ps_if (PW.pt (pw_or (pt_cmp (pc_dnotin (hu_of hr) (pv 9) (pv 4)) (by with_unfolding_all rfl)) (pw_or1 (pt_cmpR (op_ltTK K rfl (Nat.lt_of_succ_lt (hu_of hr))) (pv 13) (pe_dget (hu_of hr) (pv 4) (pv 9) (fun _ _ => rfl)) (nomark _))))) (pss_cons (ps_dput (hu_of hr) (pv 4) (pv 9) (pv 13) (by rfl))
      (pss_cons (ps_dput (hu_of hr) (pv 5) (pv 9) (pv 7) (by rfl))
      (pss_one (ps_set (i := 6) sc_least_costs.nd rfl (Or.inl rfl) pe_bl)))) pss_nil)))) pss_nil))))))
      (pss_one (ps_ret (pe_tup (pa_cons (pv 4) (pa_cons (pv 5) pa_nil)))))))))), ?_⟩
  refine ⟨_, rfl, r, _, rfl, SqT.of er, rfl, _, _, rfl, _, _, rfl, rfl, ?_⟩
  refine fun cd ncd => ?_
  have s1 := same_new (o := .dK []) ncd
  refine ⟨_, rfl, _, rfl, _, rfl, ha, _, _, _, rfl, rfl, SqT.of (s1 _ _ eh), atI_nat ex0, t0, _, _, _, rfl, rfl, SqT.of (s1 _ _ e01), atI_nat (j := 1) rfl, _, rfl, (by show 2 ≤ sizeLine; decide), fun t nt => ?_⟩
  have hcd1 := same_new (o := .tup [V.int 0, V.int (-hs[one].mom)]) nt _ _ (upd_same (H := H) (a := cd) (o := .dK []))
  refine ⟨hcd1, [(kN one, V.ref t)], rfl, (by show 1 ≤ 15; decide), ?_⟩
  have k1 := TK.dic (lvs := mergeK [] [(kN one, V.ref t)]) hcd1
  have ht : upd (upd (upd H cd (.dK [])) t (.tup [V.int 0, V.int (-hs[one].mom)])) cd (.dK (mergeK [] [(kN one, V.ref t)])) t = some (.tup [V.int 0, V.int (-hs[one].mom)]) := k1 _ _ upd_same
  have s2 : Same H (upd (upd (upd H cd (.dK [])) t (.tup [V.int 0, V.int (-hs[one].mom)])) cd (.dK (mergeK [] [(kN one, V.ref t)]))) := Same.own (s1.trans (same_new nt)) ncd
  refine fun ld nld => ?_
  have s3 := s2.trans (same_new (o := .dK []) nld)
  have cdld : cd ≠ ld := fun z => by rw [← z, upd_same] at nld; cases nld
  have ld0 : H ld = none := same_none s2 nld
  have L0 : LaOk hs bs one (cfI hs bs one 0) (fun _ => none) := ⟨(fun _ _ z => nomatch z), rfl, fun k c e => by
    by_cases z : k = one
    · exact .inl z
    · have e : none = some c := by rw [← e]; exact (if_neg z).symm
      cases e⟩
  have D0 : DC (upd (upd (upd (upd H cd (.dK [])) t (.tup [V.int 0, V.int (-hs[one].mom)])) cd (.dK (mergeK [] [(kN one, V.ref t)]))) ld (.dK [])) (mergeK [] [(kN one, V.ref t)]) (cfI hs bs one 0) := by
    have : DC (upd (upd (upd (upd H cd (.dK [])) t (.tup [V.int 0, V.int (-hs[one].mom)])) cd (.dK (mergeK [] [(kN one, V.ref t)]))) ld (.dK [])) [] (fun _ => none) := ⟨fun k => .inl ⟨rfl, rfl⟩, [], rfl, List.nodup_nil⟩
    exact this.put (k := one) (v := V.ref t) (c := (0, momH hs one)) ⟨t, rfl, by rw [mom1]; exact same_new nld _ _ ht⟩
  refine ⟨fun m σ H2 => ∃ (i : Nat) (ch : Bool) (kvs lvs : List (Key × V)) (la : Nat → Option Nat) (v7 v8 v9 v10 v11 v12 v13 : Option V), σ = [some (.ref r), some (nV one), some (.ref ha), some (.ref ba), some (.ref cd), some (.ref ld), some (.bl ch), v7, v8, v9, v10, v11, v12, v13] ∧ H2 cd = some (.dK kvs) ∧ DC H2 kvs (cfI hs bs one i) ∧ kvs.length ≤ 1 + 20 * i ∧ H2 ld = some (.dK lvs) ∧ lvs.length ≤ 20 * i ∧ (∀ k, valV lvs (kN k) = (la k).map nV) ∧ LaOk hs bs one (cfI hs bs one i) la ∧ cfI hs bs one i one = some (0, momH hs one) ∧ Same H H2 ∧ ((ch = true ∧ i ≤ hs.length ∧ m = hs.length + 1 - i) ∨ (ch = false ∧ Stab hs bs (cfI hs bs one i) ∧ m = 0)),
    ⟨_, 0, true, _, _, fun _ => none, _, _, _, _, _, _, _, rfl, same_new nld _ _ upd_same, D0, (by show 1 ≤ 1; decide), upd_same, (by show 0 ≤ 0; decide), (fun _ => rfl), L0, if_pos rfl, s3, .inl ⟨rfl, Nat.zero_le _, rfl⟩⟩, ?_⟩
  rintro m σ H2 ⟨i, ch, kvs, lvs, la, v7, v8, v9, v10, v11, v12, v13, rfl, hcd, dc, lk, hld, ll, dl, L, c1, s, flag⟩
  refine ⟨_, rfl, _, rfl, ?_⟩
  rcases flag with ⟨rfl, hi, rfl⟩ | ⟨rfl, st, rfl⟩
  · refine if_bl (fun _ => ?_) (fun z => nomatch z)
    refine ⟨_, fun σ' H' h => h, ?_⟩
    refine ⟨_, rfl, ba, bv, rfl, SqT.of (s _ _ eb), for_it (J := IteT K ba bv) (n := bv.length) (fun j σ H3 => ∃ (ch : Bool) (kvs lvs : List (Key × V)) (la : Nat → Option Nat) (v7 v8 v9 v10 v11 v12 v13 : Option V), σ = [some (.ref r), some (nV one), some (.ref ha), some (.ref ba), some (.ref cd), some (.ref ld), some (.bl ch), v7, v8, v9, v10, v11, v12, v13] ∧ H3 cd = some (.dK kvs) ∧ DC H3 kvs ((bs.take j).foldl (relax hs) (cfI hs bs one i)) ∧ kvs.length ≤ 1 + 20 * i + j ∧ H3 ld = some (.dK lvs) ∧ lvs.length ≤ 20 * i + j ∧ (∀ k, valV lvs (kN k) = (la k).map nV) ∧ LaOk hs bs one ((bs.take j).foldl (relax hs) (cfI hs bs one i)) la ∧ (bs.take j).foldl (relax hs) (cfI hs bs one i) one = some (0, momH hs one) ∧ Same H H3 ∧ (ch = false → (bs.take j).foldl (relax hs) (cfI hs bs one i) = cfI hs bs one i ∧ ∀ b ∈ bs.take j, ∀ c, cfI hs bs one i b.one = some c → ∃ d, cfI hs bs one i b.to = some d ∧ coLe d (coAdd hs c b)) ∧ (ch = true → ¬ Stab hs bs (cfI hs bs one i)))
      ⟨false, kvs, lvs, la, _, _, _, _, _, _, _, rfl, hcd, dc, by omega, hld, by omega, dl, L, c1, s, (fun _ => ⟨rfl, (fun _ z => nomatch z)⟩), (fun z => nomatch z)⟩ ?_ ?_ ?_ ?_⟩
    · rintro j σ H3 hj ⟨ch, kvs, lvs, la, v7, v8, v9, v10, v11, v12, v13, rfl, hcd, dc, lk, hld, ll, dl, L, c1, s, f1, f2⟩
      exact ⟨SqT.of (s _ _ eb), hj⟩
    · rintro σ H3 ⟨ch, kvs, lvs, la, v7, v8, v9, v10, v11, v12, v13, rfl, hcd, dc, lk, hld, ll, dl, L, c1, s, f1, f2⟩
      exact ⟨SqT.of (s _ _ eb), rfl⟩
    · rintro j x σ H3 H4 hj ⟨ch, kvs, lvs, la, v7, v8, v9, v10, v11, v12, v13, rfl, hcd, dc, lk, hld, ll, dl, L, c1, s, f1, f2⟩ ⟨tt, y, rfl, ntt, rfl, ey⟩
      obtain ⟨b, ebj, ⟨t2, g, rfl, e1, e2⟩⟩ := alb.getL ey
      have hb := List.mem_of_getElem? ebj
      have nx : (bs.take (j + 1)).foldl (relax hs) (cfI hs bs one i) = relax hs ((bs.take j).foldl (relax hs) (cfI hs bs one i)) b := by
        rw [List.take_add_one, ebj, List.foldl_append]; rfl
      have sound : Snd hs bs one ((bs.take j).foldl (relax hs) (cfI hs bs one i)) := Snd.fold (fun _ h => List.mem_of_mem_take h) (cfI_snd i)
      obtain ⟨cf, ecf⟩ : ∃ cf, cf = (bs.take j).foldl (relax hs) (cfI hs bs one i) := ⟨_, rfl⟩
      rw [← ecf] at dc L c1 f1 nx sound
      have s4 := s.trans (same_new (o := .tup [V.int ((j : Nat) : Int), V.ref t2]) ntt)
      have hcd4 := same_new (o := .tup [V.int ((j : Nat) : Int), V.ref t2]) ntt _ _ hcd
      have hld4 := same_new (o := .tup [V.int ((j : Nat) : Int), V.ref t2]) ntt _ _ hld
      have dc4 := dc.keep (TK.new (o := .tup [V.int ((j : Nat) : Int), V.ref t2]) ntt)
      refine ⟨tt, _, rfl, SqT.of upd_same, rfl, _, _, rfl, _, _, rfl, t2, _, rfl, SqT.of (s4 _ _ e1), rfl, _, _, rfl, _, _, rfl, _, _, rfl, rfl, rfl, ?_⟩
      -- nothing changes
      have idle : ∀ (v11 v12 v13 : Option V) (H5 : Hp), relax hs cf b = cf → (∀ c, cf b.one = some c → ∃ d, cf b.to = some d ∧ coLe d (coAdd hs c b)) → Same (upd H3 tt (.tup [V.int ((j : Nat) : Int), V.ref t2])) H5 → ∃ (ch' : Bool) (kvs' lvs' : List (Key × V)) (la' : Nat → Option Nat) (w7 w8 w9 w10 w11 w12 w13 : Option V), [some (.ref r), some (nV one), some (.ref ha), some (.ref ba), some (.ref cd), some (.ref ld), some (.bl ch), some (V.int ((j : Nat) : Int)), some (nV b.one), some (nV b.to), some (.ref g), v11, v12, v13] = [some (.ref r), some (nV one), some (.ref ha), some (.ref ba), some (.ref cd), some (.ref ld), some (.bl ch'), w7, w8, w9, w10, w11, w12, w13] ∧ H5 cd = some (.dK kvs') ∧ DC H5 kvs' ((bs.take (j + 1)).foldl (relax hs) (cfI hs bs one i)) ∧ kvs'.length ≤ 1 + 20 * i + (j + 1) ∧ H5 ld = some (.dK lvs') ∧ lvs'.length ≤ 20 * i + (j + 1) ∧ (∀ k, valV lvs' (kN k) = (la' k).map nV) ∧ LaOk hs bs one ((bs.take (j + 1)).foldl (relax hs) (cfI hs bs one i)) la' ∧ (bs.take (j + 1)).foldl (relax hs) (cfI hs bs one i) one = some (0, momH hs one) ∧ Same H H5 ∧ (ch' = false → (bs.take (j + 1)).foldl (relax hs) (cfI hs bs one i) = cfI hs bs one i ∧ ∀ b ∈ bs.take (j + 1), ∀ c, cfI hs bs one i b.one = some c → ∃ d, cfI hs bs one i b.to = some d ∧ coLe d (coAdd hs c b)) ∧ (ch' = true → ¬ Stab hs bs (cfI hs bs one i)) := fun v11 v12 v13 H5 er1 er2 s5 => by
        rw [er1] at nx
        rw [nx]
        refine ⟨ch, kvs, lvs, la, _, _, _, _, _, _, _, rfl, s5 _ _ hcd4, dc4.keep (TK.same s5), by omega, s5 _ _ hld4, by omega, dl, L, c1, s4.trans s5, fun z => ?_, f2⟩
        obtain ⟨g1, g2⟩ := f1 z
        refine ⟨g1, fun b' hb' => ?_⟩
        rw [List.take_add_one, ebj] at hb'
        rcases List.mem_append.mp hb' with hb' | hb'
        · exact g2 b' hb'
        · obtain rfl : b' = b := by simpa using hb'
          rw [← g1]
          exact er2
      rcases dc4.1 b.one with ⟨d1, d2⟩ | ⟨c, v, d1, d2, tc, rfl, htc⟩
      · refine ⟨_, rfl, _, rfl, cd, _, rfl, dget_of hcd4 d2, _, rfl, if_bl (fun z => nomatch z) (fun _ => ?_)⟩
        exact idle _ _ _ _ (relax_none d1) (fun c z => by rw [d1] at z; cases z) (Same.refl _)
      refine ⟨_, rfl, _, rfl, cd, _, rfl, dget_of hcd4 d2, _, rfl, if_bl (fun _ => ?_) (fun z => nomatch z)⟩
      have tb := hto b hb
      have eht : hs[b.to]? = some hs[b.to] := List.getElem?_eq_getElem tb
      have mom2 : momH hs b.to = hs[b.to].mom := by unfold momH; rw [eht]
      obtain ⟨x3, ex3, ⟨t3, r3, rfl, e31, e32⟩⟩ := alh.get eht
      refine ⟨_, rfl, _, rfl, cd, _, rfl, dget_of hcd4 d2, tc, _, rfl, SqT.of htc, rfl, _, _, rfl, _, _, rfl, rfl, ?_⟩
      refine ⟨_, rfl, _, rfl, g, _, rfl, .inr (SqT.of (s4 _ _ e2)), _, _, rfl, rfl, _, rfl, _, rfl, _, rfl, ha, _, _, _, rfl, rfl, SqT.of (s4 _ _ eh), atI_nat ex3, t3, _, _, _, rfl, rfl, SqT.of (s4 _ _ e31), atI_nat (j := 1) rfl, _, _, rfl, rfl, (by show 2 ≤ sizeLine; decide), fun tn ntn => ?_⟩
      have enew : [V.int (c.1 + (((b.th.map V.int).length : Nat) : Int)), V.int (-c.2 - hs[b.to].mom)] = [V.int (coAdd hs c b).1, V.int (-(coAdd hs c b).2)] := by
        unfold coAdd
        dsimp only
        rw [List.length_map, mom2, show -c.2 - hs[b.to].mom = -(c.2 + hs[b.to].mom) by omega]
      rw [enew]
      have s5 := same_new (o := .tup [V.int (coAdd hs c b).1, V.int (-(coAdd hs c b).2)]) ntn
      have hcd5 := s5 _ _ hcd4
      have hld5 := s5 _ _ hld4
      have dc5 := dc4.keep (TK.same s5)
      -- something changes
      have put : (∀ d, cf b.to = some d → coLt (coAdd hs c b) d) → (relax hs cf b = fun k => if k = b.to then some (coAdd hs c b) else cf k) → ∃ (ch' : Bool) (kvs' lvs' : List (Key × V)) (la' : Nat → Option Nat) (w7 w8 w9 w10 w11 w12 w13 : Option V), [some (.ref r), some (nV one), some (.ref ha), some (.ref ba), some (.ref cd), some (.ref ld), some (.bl true), some (V.int ((j : Nat) : Int)), some (nV b.one), some (nV b.to), some (.ref g), some (V.int c.1), some (V.int (-c.2)), some (.ref tn)] = [some (.ref r), some (nV one), some (.ref ha), some (.ref ba), some (.ref cd), some (.ref ld), some (.bl ch'), w7, w8, w9, w10, w11, w12, w13] ∧ (upd (upd (upd (upd H3 tt (.tup [V.int ((j : Nat) : Int), V.ref t2])) tn (.tup [V.int (coAdd hs c b).1, V.int (-(coAdd hs c b).2)])) cd (.dK (putK kvs (kN b.to) (V.ref tn)))) ld (.dK (putK lvs (kN b.to) (nV j)))) cd = some (.dK kvs') ∧ DC (upd (upd (upd (upd H3 tt (.tup [V.int ((j : Nat) : Int), V.ref t2])) tn (.tup [V.int (coAdd hs c b).1, V.int (-(coAdd hs c b).2)])) cd (.dK (putK kvs (kN b.to) (V.ref tn)))) ld (.dK (putK lvs (kN b.to) (nV j)))) kvs' ((bs.take (j + 1)).foldl (relax hs) (cfI hs bs one i)) ∧ kvs'.length ≤ 1 + 20 * i + (j + 1) ∧ (upd (upd (upd (upd H3 tt (.tup [V.int ((j : Nat) : Int), V.ref t2])) tn (.tup [V.int (coAdd hs c b).1, V.int (-(coAdd hs c b).2)])) cd (.dK (putK kvs (kN b.to) (V.ref tn)))) ld (.dK (putK lvs (kN b.to) (nV j)))) ld = some (.dK lvs') ∧ lvs'.length ≤ 20 * i + (j + 1) ∧ (∀ k, valV lvs' (kN k) = (la' k).map nV) ∧ LaOk hs bs one ((bs.take (j + 1)).foldl (relax hs) (cfI hs bs one i)) la' ∧ (bs.take (j + 1)).foldl (relax hs) (cfI hs bs one i) one = some (0, momH hs one) ∧ Same H (upd (upd (upd (upd H3 tt (.tup [V.int ((j : Nat) : Int), V.ref t2])) tn (.tup [V.int (coAdd hs c b).1, V.int (-(coAdd hs c b).2)])) cd (.dK (putK kvs (kN b.to) (V.ref tn)))) ld (.dK (putK lvs (kN b.to) (nV j)))) ∧ (ch' = false → (bs.take (j + 1)).foldl (relax hs) (cfI hs bs one i) = cfI hs bs one i ∧ ∀ b ∈ bs.take (j + 1), ∀ c, cfI hs bs one i b.one = some c → ∃ d, cfI hs bs one i b.to = some d ∧ coLe d (coAdd hs c b)) ∧ (ch' = true → ¬ Stab hs bs (cfI hs bs one i)) := fun l er1 => by
        rw [er1] at nx
        obtain ⟨L', ne1⟩ := L.put hrk sound c1 ebj d1 l
        rw [nx]
        have pl := putK_le kvs (kN b.to) (V.ref tn)
        have pl2 := putK_le lvs (kN b.to) (nV j)
        have hld6 : upd (upd (upd H3 tt (.tup [V.int ((j : Nat) : Int), V.ref t2])) tn (.tup [V.int (coAdd hs c b).1, V.int (-(coAdd hs c b).2)])) cd (.dK (putK kvs (kN b.to) (V.ref tn))) ld = some (.dK lvs) := by rw [upd_ne cdld.symm]; exact hld5
        refine ⟨true, putK kvs (kN b.to) (V.ref tn), putK lvs (kN b.to) (nV j), fun k => if k = b.to then some j else la k, _, _, _, _, _, _, _, rfl, by rw [upd_ne cdld, upd_same], ?_, by omega, upd_same, by omega, DL.put dl b.to j, L', (if_neg ne1.symm).trans c1, Same.own (Same.own (s4.trans s5) ncd) ld0, (fun z => nomatch z), fun _ stb => ?_⟩
        · exact ((dc5.put (k := b.to) ⟨tn, rfl, upd_same⟩).keep (TK.dic hcd5)).keep (TK.dic hld6)
        · -- the state ahead was not at rest
          have rest := stab_fold stb (l := bs.take j) fun x hx => List.mem_of_mem_take hx
          rw [rest] at ecf
          obtain ⟨d, y1, y2⟩ := stb b hb c (by rw [← ecf]; exact d1)
          exact absurd y2 (l d (by rw [ecf]; exact y1)).not_le
      rcases dc5.1 b.to with ⟨f3, f4⟩ | ⟨d, v, f3, f4, td, rfl, htd⟩
      · refine ⟨_, rfl, _, rfl, cd, _, rfl, dget_of hcd5 f4, _, rfl, if_bl (fun _ => if_bl (fun _ => ?_) (fun z => nomatch z)) (fun z => nomatch z)⟩
        refine ⟨_, rfl, _, rfl, _, rfl, cd, _, rfl, DPut.k (k := kN b.to) hcd5 (small1000 (by omega)), ?_⟩
        refine ⟨_, rfl, _, rfl, _, rfl, ld, _, rfl, DPut.k (k := kN b.to) (by rw [upd_ne cdld.symm]; exact hld5) (small1000 (by omega)), ?_⟩
        exact put (fun d z => by rw [f3] at z; cases z) (relax_new d1 f3)
      · refine ⟨_, rfl, _, rfl, cd, _, rfl, dget_of hcd5 f4, _, rfl, if_bl (fun z => nomatch z) (fun _ => ?_)⟩
        refine ⟨_, rfl, _, rfl, _, rfl, cd, _, rfl, dget_of hcd5 f4, tn, td, [(coAdd hs c b).1, -(coAdd hs c b).2], [d.1, -d.2], rfl, rfl, SqT.of upd_same, SqT.of htd, _, rfl, ?_⟩
        rw [lex_co]
        by_cases l : coLt (coAdd hs c b) d
        · rw [decide_eq_true l]
          refine if_bl (fun _ => ?_) (fun z => nomatch z)
          refine ⟨_, rfl, _, rfl, _, rfl, cd, _, rfl, DPut.k (k := kN b.to) hcd5 (small1000 (by omega)), ?_⟩
          refine ⟨_, rfl, _, rfl, _, rfl, ld, _, rfl, DPut.k (k := kN b.to) (by rw [upd_ne cdld.symm]; exact hld5) (small1000 (by omega)), ?_⟩
          exact put (fun d' z => by rw [f3] at z; cases z; exact l) (relax_lt d1 f3 l)
        · rw [decide_eq_false l]
          refine if_bl (fun z => nomatch z) (fun _ => ?_)
          exact idle _ _ _ _ (relax_ge d1 f3 l) (fun c' z => ⟨d, f3, by rw [d1] at z; cases z; exact coLe_of_not l⟩) s5
    · rintro σ H3 ⟨ch, kvs, lvs, la, v7, v8, v9, v10, v11, v12, v13, rfl, hcd, dc, lk, hld, ll, dl, L, c1, s, f1, f2⟩
      rw [lbv, List.take_length] at dc L c1 f1
      cases ch with
      | false =>
        obtain ⟨g1, g2⟩ := f1 rfl
        refine ⟨0, by omega, i + 1, false, kvs, lvs, la, _, _, _, _, _, _, _, rfl, hcd, dc, by omega, hld, by omega, dl, L, c1, s, .inr ⟨rfl, ?_, rfl⟩⟩
        show Stab hs bs (bs.foldl (relax hs) (cfI hs bs one i))
        rw [g1]
        exact g2
      | true =>
        have := f2 rfl
        have il : i < hs.length := by
          refine Nat.lt_of_not_le fun z => this (stab_at hrk hto ho z)
        exact ⟨hs.length + 1 - (i + 1), by omega, i + 1, true, kvs, lvs, la, _, _, _, _, _, _, _, rfl, hcd, dc, by omega, hld, by omega, dl, L, c1, s, .inl ⟨rfl, by omega, rfl⟩⟩
  · refine if_bl (fun z => nomatch z) (fun _ => ?_)
    have eb2 := cfI_best hrk hto ho st
    rw [eb2] at dc L
    refine ⟨_, rfl, _, rfl, (by show 2 ≤ sizeLine; decide), fun p np => ?_⟩
    exact q p cd ld kvs lvs la _ upd_same cdld (same_new np _ _ hcd) (dc.keep (TK.new np)) (same_new np _ _ hld) dl L (s.trans (same_new np))
end
theorem wayCo_cons {hs : List HR} {bs : List BR} {k n : Nat} {ns : List Nat} {b : BR} (eb : bs[n]? = some b) : ((n :: ns).map (trB bs)).sum = (b.th.length : Int) + (ns.map (trB bs)).sum ∧ ((n :: ns).map fun n => momH hs (toB bs n)).sum = momH hs b.to + (ns.map fun n => momH hs (toB bs n)).sum := by
  have h1 : trB bs n = (b.th.length : Int) := by unfold trB; rw [eb]
  have h2 : toB bs n = b.to := by unfold toB; rw [eb]
  rw [List.map_cons, List.map_cons, List.sum_cons, List.sum_cons, h1, h2]
  exact ⟨rfl, rfl⟩
/-- what least_costs tells -/
structure Told (hs : List HR) (bs : List BR) (one : Nat) (H : Hp) (ld : Addr) (lvs : List (Key × V)) (la : Nat → Option Nat) : Prop where
  dic : H ld = some (.dK lvs)
  dl : ∀ k, valV lvs (kN k) = (la k).map nV
  la : LaOk hs bs one (best hs bs one) la
theorem best_lt {hs : List HR} {bs : List BR} {one k : Nat} {c : Co} (hto : ∀ b ∈ bs, b.to < hs.length) (ho : one < hs.length) (h : best hs bs one k = some c) : k < hs.length := by
  obtain ⟨ns, w1, _⟩ := cfI_snd _ k c h
  exact way_lt hto ho w1
theorem best_one {hs : List HR} {bs : List BR} {rk : Nat → Int} {one : Nat} (hrk : ∀ b ∈ bs, b.th = [] → rk b.one < rk b.to) : best hs bs one one = some (0, momH hs one) := by
  obtain ⟨c, h1, h2⟩ := cfI_cpl (hs := hs) (bs := bs) hs.length [] one (Nat.zero_le _) rfl
  obtain ⟨ns, w1, w2⟩ := cfI_snd _ one c h1
  rw [wayCo_nil] at h2
  have : c = (0, momH hs one) := by
    by_cases e : ns = []
    · rw [← w2, e, wayCo_nil]
    · have t := way_closed hrk w1 e
      have t2 : c.1 = (ns.map (trB bs)).sum := by rw [← w2]; rfl
      unfold coLe at h2
      dsimp only at h2
      omega
  show cfI hs bs one hs.length one = _
  rw [h1, this]
theorem mom_le {hs : List HR} (good : ∀ h ∈ hs, GoodHand h) (k : Nat) : momH hs k ≤ 30 := by
  unfold momH
  cases e : hs[k]? with
  | none => exact (by decide)
  | some h => exact (good h (List.mem_of_getElem? e)).2.2
section
variable {P : Program} {w : World} {K : PySem.W.Frag} {mg : Str → Option Value} {base : Heap}
def sp_way_back (K : PySem.W.Frag) : Sp := fun vs H Q _ => ∃ (r ld : Addr) (hs : List HR) (bs : List BR) (one e : Nat) (c : Co) (lvs : List (Key × V)) (la : Nat → Option Nat), vs = [.ref r, nV e, .ref ld] ∧ RoomAt H r hs bs ∧ RoomOk hs bs ∧ one < hs.length ∧ Told hs bs one H ld lvs la ∧ best hs bs one e = some c ∧
  ∀ (p : Addr) (ns : List Nat) (H' : Hp), WayAt H' p one ns → wayEnd bs one ns = some e → wayCo hs bs one ns = c → ns.length ≤ hs.length → Same H H' → Q (.ref p) H'
theorem ok_way_back {f : Addr} {fd : FuncData} (F : Fun K "way_back" "way_back" s_way_back f fd) (T : Top K mg) : FnOk P w K mg base CX0 1 f fd ["room", "end", "last"] (sp_way_back K) := by
  refine F.ok sc_way_back (fun vs H Q E h => ?_) (fun cdv A outer s H vs Q E hr h => ?_)
  · obtain ⟨r, ld, hs, bs, one, e, c, lvs, la, rfl, _⟩ := h
    rfl
  obtain ⟨r, ld, hs, bs, one, e, ce, lvs, la, rfl, hR, ok, ho, ⟨hld, dl, L⟩, he, q⟩ := h
  obtain ⟨ha, ba, hv, bv, er, eh, eb, alh, alb⟩ := hR.ex
  have lh := ok.hands
  obtain ⟨rk, hrk⟩ := ok.rank
  have hto : ∀ b ∈ bs, b.to < hs.length := fun b hb => (ok.ends b hb).2
  have stb := stab_at (hs := hs) hrk hto ho (Nat.le_refl _)
  refine ⟨_, (pss_cons (ps_set (i := 3) sc_way_back.nd rfl (Or.inl rfl) (pe_lst pa_nil))
      (pss_cons (ps_set (i := 4) sc_way_back.nd rfl (Or.inl rfl) (pv 1))
      (pss_cons (ps_while PassesOwn.never (pt_cmp (pc_din (hu_of hr) (pv 4) (pv 2)) (by with_unfolding_all rfl))
        (pss_cons (ps_expr (pe_bmK K rfl PySem.F.plainAttrs_list PySem.F.slot_list_append PySem.F.type_list_append mt_append (pv 3) (pa_cons (pe_dget (hu_of hr) (pv 2) (pv 4) (fun _ _ => rfl)) pa_nil)))
      (pss_one (ps_set (i := 4) sc_way_back.nd rfl (Or.inl rfl) (pe_ix (ix_tupK K rfl) (pe_ix (ix_tupK K rfl) (pe_ix (ix_tupK K rfl) (pv 0) pe_int (fun _ _ => rfl)) (pe_dget (hu_of hr) (pv 2) (pv 4) (fun _ _ => rfl)) (fun _ _ => rfl)) pe_int (fun _ _ => rfl))))))
      (pss_one (ps_ret (pe_tup (pa_cons (pv 4) (pa_cons (pe_callTy (call_tuple_ofK K rfl) (by rfl) T.m_tuple (by decide +kernel) (pa_cons (pe_revLK K rfl (pv 3)) pa_nil)) pa_nil)))))))), ?_⟩
  refine ⟨(by show 0 ≤ sizeLine; decide), fun nl nnl => ?_⟩
  refine ⟨_, rfl, ?_⟩
  refine ⟨fun m σ H2 => ∃ (k : Nat) (ns : List Nat) (c : Co), σ = [some (.ref r), some (nV e), some (.ref ld), some (.ref nl), some (nV k)] ∧ H2 nl = some (.lst (ns.reverse.map nV)) ∧ wayEnd bs k ns = some e ∧ best hs bs one k = some c ∧ c.1 + (ns.map (trB bs)).sum = ce.1 ∧ c.2 + (ns.map fun n => momH hs (toB bs n)).sum = ce.2 ∧ ns.length + m ≤ hs.length ∧ m = meas rk (best hs bs one) hs.length k ∧ Same H H2,
    ⟨_, e, [], ce, rfl, upd_same, rfl, he, by show ce.1 + 0 = ce.1; omega, by show ce.2 + 0 = ce.2; omega, by show 0 + _ ≤ _; have := meas_le (rk := rk) (cf := best hs bs one) (n := hs.length) (k := e); omega, rfl, same_new nnl⟩, ?_⟩
  rintro m σ H2 ⟨k, ns, c, rfl, hnl, we, hk, t1, t2, ln, rfl, s2⟩
  refine ⟨_, rfl, _, rfl, ld, _, rfl, dget_of (s2 _ _ hld) (dl k), _, rfl, ?_⟩
  cases elk : la k with
  | none =>
    refine if_bl (fun z => nomatch z) (fun _ => ?_)
    have k1 : k = one := by
      rcases L.has k c hk with z | z
      · exact z
      · rw [elk] at z; cases z
    subst k1
    rw [best_one hrk] at hk
    cases hk
    refine ⟨_, rfl, _, rfl, nl, _, rfl, SqL.of hnl, fun l2 nl2 => ⟨l2, _, rfl, .inl ⟨SqL.of upd_same, fun p np => ⟨(by show 2 ≤ sizeLine; decide), fun p2 np2 => ?_⟩⟩⟩⟩
    refine q p2 ns _ ⟨p, upd_same, ?_⟩ we ?_ (by omega) (((s2.trans (same_new nl2)).trans (same_new np)).trans (same_new np2))
    · rw [same_new np2 _ _ upd_same, ← List.map_reverse, List.reverse_reverse]
    · refine Prod.ext ?_ ?_
      · show (ns.map (trB bs)).sum = ce.1
        omega
      · show momH hs k + _ = ce.2
        omega
  | some n =>
    refine if_bl (fun _ => ?_) (fun z => nomatch z)
    obtain ⟨b, c', d, ebn, ebt, h1, h2, h3⟩ := L.go k n elk
    have hb := List.mem_of_getElem? ebn
    rw [hk] at h2
    cases h2
    obtain ⟨d', h4, h5⟩ := stb b hb c' h1
    rw [ebt] at h4
    have h4 : best hs bs one k = some d' := h4
    rw [hk] at h4
    cases h4
    have ec := h5.antisymm h3
    have dn : valV lvs (kN k) = some (nV n) := by rw [dl k, elk]; rfl
    have lt := meas_lt (n := hs.length) (best_lt hto ho h1) (last_lt hrk (mom_le ok.good) hb ebt h1 hk h3)
    refine ⟨_, fun σ' H' h => h, ?_⟩
    refine ⟨_, rfl, .inl ⟨rfl, _, SqL.of hnl⟩, _, rfl, _, rfl, ld, _, rfl, dget_of (s2 _ _ hld) dn, nl, _, _, rfl, rfl, hnl, by rw [List.length_map, List.length_reverse]; exact small1000 (by omega), ?_⟩
    have s3 : Same H (upd H2 nl (.lst (ns.reverse.map nV ++ [nV n]))) := Same.own s2 nnl
    obtain ⟨x, ex, ⟨t2', g2, rfl, e1, e2⟩⟩ := alb.get ebn
    refine ⟨_, rfl, r, _, _, _, rfl, rfl, SqT.of (s3 _ _ er), atI_nat (j := 1) rfl, _, rfl, _, rfl, ld, _, rfl, dget_of (s3 _ _ hld) dn, ba, _, _, _, rfl, rfl, SqT.of (s3 _ _ eb), atI_nat ex, t2', _, _, _, rfl, rfl, SqT.of (s3 _ _ e1), atI_nat (j := 0) rfl, ?_⟩
    obtain ⟨w1, w2⟩ := wayCo_cons (hs := hs) (k := k) (ns := ns) ebn
    have ec1 : c.1 = c'.1 + (b.th.length : Int) := by rw [ec]; rfl
    have ec2 : c.2 = c'.2 + momH hs b.to := by rw [ec]; rfl
    refine ⟨_, lt, b.one, n :: ns, c', rfl, ?_, ?_, h1, by rw [w1]; omega, by rw [w2]; omega, by rw [List.length_cons]; omega, rfl, s3⟩
    · rw [upd_same, List.reverse_cons, List.map_append]; rfl
    · rw [wayEnd_cons ebn, if_pos rfl, ebt]; exact we
end
section
variable {P : Program} {w : World} {K : PySem.W.Frag} {mg : Str → Option Value} {base : Heap}
def sp_doors (z : Str) : Sp := fun vs H Q _ => ∃ (r : Addr) (hs : List HR) (bs : List BR), vs = [.ref r] ∧ RoomAt H r hs bs ∧ hs.length ≤ 400 ∧ (∀ h ∈ hs, GoodHand h) ∧ ∀ (p : Addr) (H' : Hp), H p = none → H' p = some (.lst ((doorsOf z hs).map nV)) → Same H H' → Q (.ref p) H'
abbrev sp_doors_in (K : PySem.W.Frag) : Sp := sp_doors "in"
abbrev sp_doors_out (K : PySem.W.Frag) : Sp := sp_doors "out"
theorem ok_doors_in {f : Addr} {fd : FuncData} (F : Fun K "doors_in" "doors_in" s_doors_in f fd) (T : Top K mg) : FnOk P w K mg base CX0 1 f fd ["room"] (sp_doors_in K) := by
  refine F.ok sc_doors_in (fun vs H Q E h => ?_) (fun cdv A outer s H vs Q E hr h => ?_)
  · obtain ⟨r, hs, bs, rfl, _⟩ := h
    rfl
  obtain ⟨aI, mI, hI⟩ := T.x_in
  obtain ⟨r, hs, bs, rfl, hR, lb, good, q⟩ := h
  obtain ⟨ha, ba, hv, bv, er, eh, eb, alh, alb⟩ := hR.ex
  have lhv := alh.length
  refine ⟨_, (pss_one (ps_ret (pe_lc (own := [("number", 1), ("hand", 2)]) (g := gTup K 2 (gCons (gName 1) (gCons (gName 2) gNil))) (by rfl) sc_doors_in.nd (pi_enumT K rfl (by rfl) T.m_enumerate (pa_cons (pe_ix (ix_tupK K rfl) (pv 0) pe_int (fun _ _ => rfl)) pa_nil)) (blkOk_by (own := [("number", 1), ("hand", 2)]) (N := N_doors_in) (sc := defScope s_doors_in) (by decide +kernel)) (fun _ _ _ _ _ => (pg_tupK K rfl rfl (pgs_cons (pg_name (i := 1) sc_doors_in.nd rfl (Or.inl rfl)) (pgs_cons (pg_name (i := 2) sc_doors_in.nd rfl (Or.inl rfl)) pgs_nil)))) (fun _ _ _ _ _ => pts_one (pt_cmpR (op_eqDK K rfl hr.units) (pe_ix (ix_tupK K rfl) (pv 2) pe_int (fun _ _ => rfl)) (pe_glob (v := .ref aI) (by rfl) mI rfl) (nomark _))) (fun _ _ _ _ _ => (pv 1))))), ?_⟩
  refine ⟨_, rfl, r, _, _, _, rfl, rfl, SqT.of er, atI_nat (j := 0) rfl, ha, hv, rfl, SqT.of eh, fun D nD => lc_it (J := IteT K ha hv) (n := hv.length) (fun i H5 => H5 D = some (.lst (((List.range i).filter fun j => decide (hs[j]?.map HR.wd = some ("in" : Str))).map nV)) ∧ Same H H5) ⟨upd_same, same_new nD⟩ ?_ ?_ ?_ ?_⟩
  · rintro i H5 hi ⟨hD, s5⟩
    exact ⟨SqT.of (s5 _ _ eh), hi⟩
  · rintro H5 ⟨hD, s5⟩
    exact ⟨SqT.of (s5 _ _ eh), rfl⟩
  · rintro i x H5 H6 hi ⟨hD, s5⟩ ⟨t, y, rfl, nt, rfl, ey⟩
    obtain ⟨hh, eb2, ⟨t2, g, rfl, e1, e2⟩⟩ := alh.getL ey
    have gh := good _ (List.mem_of_getElem? eb2)
    have s6 := s5.trans (same_new (o := .tup [V.int ((i : Nat) : Int), V.ref t2]) nt)
    have hD6 := same_new (o := .tup [V.int ((i : Nat) : Int), V.ref t2]) nt _ _ hD
    have few := filt_len (p := fun j => decide (hs[j]?.map HR.wd = some ("in" : Str))) i
    refine ⟨t, _, rfl, SqT.of upd_same, rfl, _, _, rfl, _, _, rfl, rfl, rfl, _, rfl, t2, _, _, _, rfl, rfl, SqT.of (s6 _ _ e1), atI_nat (j := 0) rfl, ?_⟩
    refine ⟨_, _, rule_dp (s6 _ _ e2), .tup (hI _) (.cons (.str _) .nil), rule_shaped gh.lay, one_shaped (by decide +kernel), _, rfl, ?_⟩
    rw [rule_eqv, gh.door "in" (.inl rfl)]
    by_cases c : hh.wd = "in"
    · rw [decide_eq_true c]
      refine if_bl (fun _ => ⟨_, rfl, _, hD6, by rw [List.length_map]; exact small1000 (by omega), ?_, Same.own s6 nD⟩) (fun z => nomatch z)
      rw [upd_same, filt_succ, if_pos (decide_eq_true (by rw [eb2, ← c]; rfl)), List.map_append]
      rfl
    · rw [decide_eq_false c]
      refine if_bl (fun z => nomatch z) (fun _ => ⟨?_, s6⟩)
      rw [filt_succ, if_neg fun z => c (by have := of_decide_eq_true z; rw [eb2] at this; exact Option.some.inj this), List.append_nil]
      exact hD6
  · rintro H5 ⟨hD, s5⟩
    refine q D H5 nD ?_ s5
    rw [hD, lhv]
    rfl
end
section
variable {P : Program} {w : World} {K : PySem.W.Frag} {mg : Str → Option Value} {base : Heap}
theorem ok_doors_out {f : Addr} {fd : FuncData} (F : Fun K "doors_out" "doors_out" s_doors_out f fd) (T : Top K mg) : FnOk P w K mg base CX0 1 f fd ["room"] (sp_doors_out K) := by
  refine F.ok sc_doors_out (fun vs H Q E h => ?_) (fun cdv A outer s H vs Q E hr h => ?_)
  · obtain ⟨r, hs, bs, rfl, _⟩ := h
    rfl
  obtain ⟨aO, mO, hI⟩ := T.x_out
  obtain ⟨r, hs, bs, rfl, hR, lb, good, q⟩ := h
  obtain ⟨ha, ba, hv, bv, er, eh, eb, alh, alb⟩ := hR.ex
  have lhv := alh.length
  refine ⟨_, (pss_one (ps_ret (pe_lc (own := [("number", 1), ("hand", 2)]) (g := gTup K 2 (gCons (gName 1) (gCons (gName 2) gNil))) (by rfl) sc_doors_out.nd (pi_enumT K rfl (by rfl) T.m_enumerate (pa_cons (pe_ix (ix_tupK K rfl) (pv 0) pe_int (fun _ _ => rfl)) pa_nil)) (blkOk_by (own := [("number", 1), ("hand", 2)]) (N := N_doors_out) (sc := defScope s_doors_out) (by decide +kernel)) (fun _ _ _ _ _ => (pg_tupK K rfl rfl (pgs_cons (pg_name (i := 1) sc_doors_out.nd rfl (Or.inl rfl)) (pgs_cons (pg_name (i := 2) sc_doors_out.nd rfl (Or.inl rfl)) pgs_nil)))) (fun _ _ _ _ _ => pts_one (pt_cmpR (op_eqDK K rfl hr.units) (pe_ix (ix_tupK K rfl) (pv 2) pe_int (fun _ _ => rfl)) (pe_glob (v := .ref aO) (by rfl) mO rfl) (nomark _))) (fun _ _ _ _ _ => (pv 1))))), ?_⟩
  refine ⟨_, rfl, r, _, _, _, rfl, rfl, SqT.of er, atI_nat (j := 0) rfl, ha, hv, rfl, SqT.of eh, fun D nD => lc_it (J := IteT K ha hv) (n := hv.length) (fun i H5 => H5 D = some (.lst (((List.range i).filter fun j => decide (hs[j]?.map HR.wd = some ("out" : Str))).map nV)) ∧ Same H H5) ⟨upd_same, same_new nD⟩ ?_ ?_ ?_ ?_⟩
  · rintro i H5 hi ⟨hD, s5⟩
    exact ⟨SqT.of (s5 _ _ eh), hi⟩
  · rintro H5 ⟨hD, s5⟩
    exact ⟨SqT.of (s5 _ _ eh), rfl⟩
  · rintro i x H5 H6 hi ⟨hD, s5⟩ ⟨t, y, rfl, nt, rfl, ey⟩
    obtain ⟨hh, eb2, ⟨t2, g, rfl, e1, e2⟩⟩ := alh.getL ey
    have gh := good _ (List.mem_of_getElem? eb2)
    have s6 := s5.trans (same_new (o := .tup [V.int ((i : Nat) : Int), V.ref t2]) nt)
    have hD6 := same_new (o := .tup [V.int ((i : Nat) : Int), V.ref t2]) nt _ _ hD
    have few := filt_len (p := fun j => decide (hs[j]?.map HR.wd = some ("out" : Str))) i
    refine ⟨t, _, rfl, SqT.of upd_same, rfl, _, _, rfl, _, _, rfl, rfl, rfl, _, rfl, t2, _, _, _, rfl, rfl, SqT.of (s6 _ _ e1), atI_nat (j := 0) rfl, ?_⟩
    refine ⟨_, _, rule_dp (s6 _ _ e2), .tup (hI _) (.cons (.str _) .nil), rule_shaped gh.lay, one_shaped (by decide +kernel), _, rfl, ?_⟩
    rw [rule_eqv, gh.door "out" (.inr rfl)]
    by_cases c : hh.wd = "out"
    · rw [decide_eq_true c]
      refine if_bl (fun _ => ⟨_, rfl, _, hD6, by rw [List.length_map]; exact small1000 (by omega), ?_, Same.own s6 nD⟩) (fun z => nomatch z)
      rw [upd_same, filt_succ, if_pos (decide_eq_true (by rw [eb2, ← c]; rfl)), List.map_append]
      rfl
    · rw [decide_eq_false c]
      refine if_bl (fun z => nomatch z) (fun _ => ⟨?_, s6⟩)
      rw [filt_succ, if_neg fun z => c (by have := of_decide_eq_true z; rw [eb2] at this; exact Option.some.inj this), List.append_nil]
      exact hD6
  · rintro H5 ⟨hD, s5⟩
    refine q D H5 nD ?_ s5
    rw [hD, lhv]
    rfl
end
structure Wy where
  one : Nat
  c : Co
  ns : List Nat
  e : Nat
def WyAt (H : Hp) (v : V) (y : Wy) : Prop := ∃ t p : Addr, v = .ref t ∧ H t = some (.tup [.int y.c.1, .int y.c.2, .ref p, nV y.e]) ∧ WayAt H p y.one y.ns
theorem WyAt.keep {H H' : Hp} {v : V} {y : Wy} (h : WyAt H v y) (k : TK H H') : WyAt H' v y := by
  obtain ⟨t, p, e, h1, h2⟩ := h
  exact ⟨t, p, e, k _ _ h1, h2.keep k⟩
structure WyOk (hs : List HR) (bs : List BR) (y : Wy) : Prop where
  lt : y.one < hs.length
  b : best hs bs y.one y.e = some y.c
  we : wayEnd bs y.one y.ns = some y.e
  wc : wayCo hs bs y.one y.ns = y.c
  ln : y.ns.length ≤ hs.length
structure AllWays (hs : List HR) (bs : List BR) (ys : List Wy) : Prop where
  ok : ∀ y ∈ ys, WyOk hs bs y
  all : ∀ one e c, one < hs.length → best hs bs one e = some c → ∃ y ∈ ys, y.one = one ∧ y.e = e
  few : ys.length ≤ 144
theorem TK.frz {H : Hp} {p : Addr} {o : Obj} {kvs : List (Key × V)} (h : H p = some (.dK kvs)) : TK H (upd H p (.frz o (.dK kvs))) := fun x zs e => by
  rw [upd_ne (ne_of e h (fun z => nomatch z))]
  exact e
theorem TK.unfrz {H : Hp} {p : Addr} {o : Obj} {kvs : List (Key × V)} (h : H p = some (.frz o (.dK kvs))) : TK H (upd H p (.dK kvs)) := fun x zs e => by
  rw [upd_ne (ne_of e h (fun z => nomatch z))]
  exact e
section
variable {P : Program} {w : World} {K : PySem.W.Frag} {mg : Str → Option Value} {base : Heap}
def sp_least_ways (K : PySem.W.Frag) : Sp := fun vs H Q _ => ∃ (r : Addr) (hs : List HR) (bs : List BR), vs = [.ref r] ∧ RoomAt H r hs bs ∧ RoomOk hs bs ∧
  ∀ (p : Addr) (yv : List V) (ys : List Wy) (H' : Hp), H p = none → H' p = some (.lst yv) → All2 (WyAt H') yv ys → AllWays hs bs ys → Same H H' → Q (.ref p) H'
theorem ok_least_ways {f : Addr} {fd : FuncData} (F : Fun K "least_ways" "least_ways" s_least_ways f fd) (T : Top K mg) : FnOk P w K mg base CX0 2 f fd ["room"] (sp_least_ways K) := by
  obtain ⟨f_least_costs, fd_least_costs, F_least_costs, b_least_costs, m_least_costs⟩ := T.d_least_costs
  have G_least_costs := ok_least_costs (P := P) (w := w) (base := base) F_least_costs T
  obtain ⟨f_way_back, fd_way_back, F_way_back, b_way_back, m_way_back⟩ := T.d_way_back
  have G_way_back := ok_way_back (P := P) (w := w) (base := base) F_way_back T
  refine F.ok sc_least_ways (fun vs H Q E h => ?_) (fun cdv A outer s H vs Q E hr h => ?_)
  · obtain ⟨r, hs, bs, rfl, _⟩ := h
    rfl
  obtain ⟨r, hs, bs, rfl, hR, ok, q⟩ := h
  obtain ⟨ha, ba, hv, bv, er, eh, eb, alh, alb⟩ := hR.ex
  have lhv := alh.length
  have lh := ok.hands
  have hto : ∀ b ∈ bs, b.to < hs.length := fun b hb => (ok.ends b hb).2
  refine ⟨_, (pss_cons (ps_set (i := 1) sc_least_ways.nd rfl (Or.inl rfl) (pe_lst pa_nil))
      (pss_cons (ps_for PassesOwn.never rfl (pi_range1 (by rfl) T.m_range (pa_cons (pe_callB (call_len_seqK K rfl) (by rfl) T.m_len (by decide +kernel) (pa_cons (pe_ix (ix_tupK K rfl) (pv 0) pe_int (fun _ _ => rfl)) pa_nil)) pa_nil)) (pg_name (i := 2) sc_least_ways.nd rfl (Or.inl rfl))
        (pss_cons (ps_asg (pe_call G_least_costs (hr.mono (by decide)) (by rfl) m_least_costs F_least_costs.kp b_least_costs .nil pass0 (pa_cons (pv 0) (pa_cons (pv 2) pa_nil))) (pg_tupK K rfl rfl (pgs_cons (pg_name (i := 3) sc_least_ways.nd rfl (Or.inl rfl)) (pgs_cons (pg_name (i := 4) sc_least_ways.nd rfl (Or.inl rfl)) pgs_nil))))
      (pss_one (ps_lock (ps_for PassesOwn.never rfl (pi_keys (pv 3)) (pg_name (i := 5) sc_least_ways.nd rfl (Or.inl rfl))
        (pss_cons (ps_asg (pe_dget (hu_of hr) (pv 3) (pv 5) (fun _ _ => rfl)) (pg_tupK K rfl rfl (pgs_cons (pg_name (i := 6) sc_least_ways.nd rfl (Or.inl rfl)) (pgs_cons (pg_name (i := 7) sc_least_ways.nd rfl (Or.inl rfl)) pgs_nil))))
      (pss_one (ps_expr (pe_bmK K rfl PySem.F.plainAttrs_list PySem.F.slot_list_append PySem.F.type_list_append mt_append (pv 1) (pa_cons (pe_tup (pa_cons (pv 6) (pa_cons (pe_un un_neg (pv 7)) (pa_cons (pe_call G_way_back (hr.mono (by decide)) (by rfl) m_way_back F_way_back.kp b_way_back .nil pass0 (pa_cons (pv 0) (pa_cons (pv 5) (pa_cons (pv 4) pa_nil)))) (pa_cons (pv 5) pa_nil))))) pa_nil))))))))))
      (pss_one (ps_ret (pv 1))))), ?_⟩
  refine ⟨(by show 0 ≤ sizeLine; decide), fun fl nfl => ?_⟩
  have s0 := same_new (o := .lst []) nfl
  refine ⟨_, rfl, r, _, _, _, rfl, rfl, SqT.of (s0 _ _ er), atI_nat (j := 0) rfl, ha, _, rfl, .inr (SqT.of (s0 _ _ eh)), _, rfl, by omega, by omega, for_range (lo := 0) (n := hv.length) (fun i σ H2 => ∃ (yv : List V) (ys : List Wy) (v2 v3 v4 v5 v6 v7 : Option V), σ = [some (.ref r), some (.ref fl), v2, v3, v4, v5, v6, v7] ∧ H2 fl = some (.lst yv) ∧ All2 (WyAt H2) yv ys ∧ (∀ y ∈ ys, WyOk hs bs y) ∧ (∀ one e c, one < i → best hs bs one e = some c → ∃ y ∈ ys, y.one = one ∧ y.e = e) ∧ ys.length ≤ 12 * i ∧ Same H H2)
    ⟨[], [], _, _, _, _, _, _, rfl, upd_same, .nil, (fun _ z => nomatch z), (fun _ _ _ z => absurd z (Nat.not_lt_zero _)), Nat.le_refl _, s0⟩ ?_ ?_⟩
  · rintro i σ H2 hi ⟨yv, ys, v2, v3, v4, v5, v6, v7, rfl, hfl, aly, oky, ally, lys, s2⟩
    have ho : i < hs.length := by omega
    refine ⟨_, rfl, _, rfl, r, hs, bs, i, (by show [V.ref r, V.int (0 + ((i : Nat) : Int))] = _; rw [Int.zero_add]), hR.keep (TK.same s2), ok, ho, fun p cd ld kvs lvs la H3 hp cdld hcd dc hld dl L s3 => ?_⟩
    refine ⟨p, _, rfl, SqT.of hp, rfl, _, _, rfl, _, _, rfl, rfl, ?_⟩
    have s03 := s2.trans s3
    have hfl3 := s3 _ _ hfl
    have flcd : fl ≠ cd := ne_of hfl3 hcd (fun z => nomatch z)
    obtain ⟨ks, eks, ndk⟩ := dc.2
    have lkv : kvs.length = ks.length := by
      have := congrArg List.length eks
      rw [List.length_map, List.length_map] at this
      exact this
    -- each key is a hand that is come to
    have keyv : ∀ (j : Nat) (kv : Key × V), kvs[j]? = some kv → ∃ (e : Nat) (c : Co) (t : Addr), kv.1 = kN e ∧ ks[j]? = some e ∧ best hs bs i e = some c ∧ valV kvs (kN e) = some (V.ref t) ∧ H3 t = some (.tup [.int c.1, .int (-c.2)]) := fun j kv ej => by
      have e1 : (kvs.map Prod.fst)[j]? = some kv.1 := by rw [List.getElem?_map, ej]; rfl
      rw [eks, List.getElem?_map] at e1
      cases ek : ks[j]? with
      | none => rw [ek] at e1; cases e1
      | some e =>
        rw [ek] at e1
        have e1 : kN e = kv.1 := Option.some.inj e1
        have isS : (valV kvs (kN e)).isSome = true := by
          rw [← valV_any (kN e) kvs]
          exact List.any_eq_true.mpr ⟨kv, List.mem_of_getElem? ej, decide_eq_true e1.symm⟩
        rcases dc.1 e with ⟨_, d2⟩ | ⟨c, v, d1, d2, t, rfl, ht⟩
        · rw [d2] at isS; cases isS
        · exact ⟨e, c, t, e1.symm, rfl, d1, d2, ht⟩
    have few : kvs.length ≤ 12 := by
      have : ks.length ≤ hs.length := nodup_len _ ks ndk fun x hx => by
        obtain ⟨j, hj⟩ := List.getElem?_of_mem hx
        have jl := (List.getElem?_eq_some_iff.mp hj).1
        obtain ⟨e, c, t, _, e2, e3, _⟩ := keyv j kvs[j] (List.getElem?_eq_getElem (by omega))
        rw [hj] at e2
        cases e2
        exact best_lt hto ho e3
      omega
    refine ⟨cd, .dK kvs, hcd, trivial, fun od => ?_⟩
    have k4 : TK H3 (upd H3 cd (.frz od (.dK kvs))) := TK.frz hcd
    have b4 : But cd H3 (upd H3 cd (.frz od (.dK kvs))) := But.refl.upd
    refine ⟨_, rfl, cd, od, rfl, .inl ⟨kvs, upd_same, for_it (J := Itk cd od kvs) (n := kvs.length) (fun j σ H5 => ∃ (yv : List V) (ys : List Wy) (v5 v6 v7 : Option V), σ = [some (.ref r), some (.ref fl), some (V.int (0 + ((i : Nat) : Int))), some (.ref cd), some (.ref ld), v5, v6, v7] ∧ H5 fl = some (.lst yv) ∧ All2 (WyAt H5) yv ys ∧ (∀ y ∈ ys, WyOk hs bs y) ∧ (∀ one e c, one < i → best hs bs one e = some c → ∃ y ∈ ys, y.one = one ∧ y.e = e) ∧ (∀ j' e, j' < j → ks[j']? = some e → ∃ y ∈ ys, y.one = i ∧ y.e = e) ∧ ys.length ≤ 12 * i + j ∧ H5 cd = some (.frz od (.dK kvs)) ∧ (∀ b o, H3 b = some o → b ≠ cd → b ≠ fl → H5 b = some o) ∧ TK H3 H5)
      ⟨yv, ys, _, _, _, rfl, b4 _ _ hfl3 flcd, aly.imp fun _ _ z => z.keep ((TK.same s3).trans k4), oky, ally, (fun _ _ z => absurd z (Nat.not_lt_zero _)), by omega, upd_same, (fun b o e n1 _ => b4 b o e n1), k4⟩ ?_ ?_ ?_ ?_⟩⟩
    · rintro j σ H5 hj ⟨yv, ys, v5, v6, v7, rfl, hfl5, aly5, oky5, ally5, new5, l5, hcd5, fr5, k5⟩
      exact ⟨hcd5, hj⟩
    · rintro σ H5 ⟨yv, ys, v5, v6, v7, rfl, hfl5, aly5, oky5, ally5, new5, l5, hcd5, fr5, k5⟩
      exact ⟨hcd5, Nat.le_refl _⟩
    · rintro j x σ H5 H6 hj ⟨yv, ys, v5, v6, v7, rfl, hfl5, aly5, oky5, ally5, new5, l5, hcd5, fr5, k5⟩ ⟨rfl, k, v, ek, rfl⟩
      obtain ⟨e, c, t, rfl, ekj, bc, vv, ht⟩ := keyv j (k, v) ek
      refine ⟨_, rfl, _, rfl, cd, _, rfl, .inl ⟨kvs, kN e, .inr ⟨od, hcd5⟩, rfl, vv.symm⟩, t, _, rfl, SqT.of (k5 _ _ ht), rfl, _, _, rfl, _, _, rfl, rfl, ?_⟩
      have R5 := (hR.keep (TK.same s03)).keep k5
      have ldfl : ld ≠ fl := ne_of hld hfl3 (fun z => nomatch z)
      have hld5 : H6 ld = some (.dK lvs) := fr5 _ _ hld cdld.symm ldfl
      refine ⟨_, rfl, .inl ⟨rfl, _, SqL.of hfl5⟩, _, rfl, _, rfl, _, rfl, _, rfl, _, rfl, _, rfl, r, ld, hs, bs, i, e, c, lvs, la, rfl, R5, ok, ho, ⟨hld5, dl, L⟩, bc, fun p2 ns H7 hP we wc lns s7 => ?_⟩
      refine ⟨_, rfl, (by show 4 ≤ sizeLine; decide), fun t4 nt4 => ?_⟩
      have s8 := s7.trans (same_new (o := .tup [V.int c.1, V.int (- -c.2), V.ref p2, nV e]) nt4)
      have hfl8 := s8 _ _ hfl5
      refine ⟨fl, _, _, rfl, rfl, hfl8, by rw [aly5.length]; exact small1000 (by omega), ?_⟩
      have k8 := TK.lst (ys := yv ++ [V.ref t4]) hfl8
      refine ⟨yv ++ [V.ref t4], ys ++ [⟨i, c, ns, e⟩], _, _, _, rfl, upd_same, ?_, fun y hy => ?_, fun one e' c' h1 h2 => ?_, fun j' e' h1 h2 => ?_, by rw [List.length_append]; show ys.length + 1 ≤ _; omega, by rw [upd_ne flcd.symm]; exact s8 _ _ hcd5, fun b o eb n1 n2 => by rw [upd_ne n2]; exact s8 _ _ (fr5 b o eb n1 n2), (k5.trans (TK.same s8)).trans k8⟩
      · refine ((aly5.imp fun _ _ z => z.keep (TK.same s8)).snoc ⟨t4, p2, rfl, ?_, hP.keep (TK.new nt4)⟩).imp fun _ _ z => z.keep k8
        show upd H7 t4 _ t4 = some (HO.tup [V.int c.1, V.int c.2, V.ref p2, nV e])
        rw [upd_same, Int.neg_neg]
      · rcases List.mem_append.mp hy with hy | hy
        · exact oky5 y hy
        · obtain rfl : y = ⟨i, c, ns, e⟩ := by simpa using hy
          exact ⟨ho, bc, we, wc, lns⟩
      · obtain ⟨y, y1, y2⟩ := ally5 one e' c' h1 h2
        exact ⟨y, List.mem_append_left _ y1, y2⟩
      · by_cases z : j' = j
        · subst z
          rw [ekj] at h2
          cases h2
          exact ⟨⟨i, c, ns, e⟩, List.mem_append_right _ (List.mem_singleton.mpr rfl), rfl, rfl⟩
        · obtain ⟨y, y1, y2⟩ := new5 j' e' (by omega) h2
          exact ⟨y, List.mem_append_left _ y1, y2⟩
    · rintro σ H5 ⟨yv, ys, v5, v6, v7, rfl, hfl5, aly5, oky5, ally5, new5, l5, hcd5, fr5, k5⟩
      have s56 : Same H (upd H5 cd (.dK kvs)) := fun b o e => by
        by_cases z : b = cd
        · subst z
          have := s03 _ _ e
          rw [hcd] at this
          rw [upd_same, ← this]
        · rw [upd_ne z]
          exact fr5 _ _ (s03 _ _ e) z (ne_of_none e nfl)
      refine ⟨hcd5, yv, ys, _, _, _, _, _, _, rfl, by rw [upd_ne flcd]; exact hfl5, aly5.imp fun _ _ z => z.keep (TK.unfrz hcd5), oky5, fun one e c h1 h2 => ?_, by omega, s56⟩
      by_cases z : one = i
      · subst z
        rcases dc.1 e with ⟨d1, _⟩ | ⟨c', v, d1, d2, _⟩
        · rw [d1] at h2; cases h2
        · -- the key is among the keys
          have isS : (valV kvs (kN e)).isSome = true := by rw [d2]; rfl
          rw [← valV_any (kN e) kvs] at isS
          obtain ⟨kv, m1, m2⟩ := List.any_eq_true.mp isS
          have : kN e ∈ ks.map kN := by rw [← eks]; exact List.mem_map.mpr ⟨kv, m1, of_decide_eq_true m2⟩
          obtain ⟨e', m3, m4⟩ := List.mem_map.mp this
          obtain rfl := kN_inj m4
          obtain ⟨j, hj⟩ := List.getElem?_of_mem m3
          have jl := (List.getElem?_eq_some_iff.mp hj).1
          exact new5 j _ (by omega) hj
      · exact ally5 one e c (by omega) h2
  · rintro σ H2 ⟨yv, ys, v2, v3, v4, v5, v6, v7, rfl, hfl, aly, oky, ally, lys, s2⟩
    exact ⟨_, rfl, q fl yv ys H2 nfl hfl aly ⟨oky, fun one e c h1 h2 => ally one e c (by omega) h2, by omega⟩ s2⟩
end
def ndd (m T : Int) : Int := if m > T then 1 else 0
def lateV : Option Nat → V
  | none => .non
  | some l => nV l
def jumpsOf (hs : List HR) : Option Nat → List St3
  | none => []
  | some l => (doorsOf "out" hs).flatMap fun d => (doorsOf "in" hs).map fun o => ⟨d, o, -((l : Nat) : Int)⟩
def wStep (T : Int) (y : Wy) : St3 := ⟨y.one, y.e, ndd y.c.2 T - y.c.1⟩
def stepsOf (hs : List HR) (ys : List Wy) (late : Option Nat) (T : Int) : List St3 := ys.map (wStep T) ++ jumpsOf hs late
/-- some shifts reach the time -/
def FA (hs : List HR) (bs : List BR) (late : Option Nat) (T : Int) : Prop := ∃ lv : Nat → Int, (∀ one e c, one < hs.length → best hs bs one e = some c → lv one + (ndd c.2 T - c.1) ≤ lv e) ∧ ∀ l, late = some l → ∀ d ∈ doorsOf "out" hs, ∀ o ∈ doorsOf "in" hs, lv d - ((l : Nat) : Int) ≤ lv o
theorem feas_iff {hs : List HR} {bs : List BR} {ys : List Wy} {late : Option Nat} {T : Int} (aw : AllWays hs bs ys) : Feas (stepsOf hs ys late T) ↔ FA hs bs late T := by
  constructor
  · rintro ⟨lv, f⟩
    refine ⟨lv, fun one e c h1 h2 => ?_, fun l el d hd o ho => ?_⟩
    · obtain ⟨y, y1, rfl, rfl⟩ := aw.all one e c h1 h2
      have := (aw.ok y y1).b
      rw [h2] at this
      cases this
      exact f (wStep T y) (List.mem_append_left _ (List.mem_map.mpr ⟨y, y1, rfl⟩))
    · subst el
      have := f ⟨d, o, -((l : Nat) : Int)⟩ (List.mem_append_right _ (List.mem_flatMap.mpr ⟨d, hd, List.mem_map.mpr ⟨o, ho, rfl⟩⟩))
      have : lv d + -((l : Nat) : Int) ≤ lv o := this
      omega
  · rintro ⟨lv, f, g⟩
    refine ⟨lv, fun s hs' => ?_⟩
    rcases List.mem_append.mp hs' with h | h
    · obtain ⟨y, y1, rfl⟩ := List.mem_map.mp h
      exact f y.one y.e y.c (aw.ok y y1).lt (aw.ok y y1).b
    · cases late with
      | none => exact nomatch h
      | some l =>
        obtain ⟨d, hd, h2⟩ := List.mem_flatMap.mp h
        obtain ⟨o, ho, rfl⟩ := List.mem_map.mp h2
        have := g l rfl d hd o ho
        show lv d + -((l : Nat) : Int) ≤ lv o
        omega
theorem door_lt {z : Str} {hs : List HR} {k : Nat} (h : k ∈ doorsOf z hs) : k < hs.length := by
  obtain ⟨x, e, _⟩ := mem_doors.mp h
  exact (List.getElem?_eq_some_iff.mp e).1
theorem jumps_bd {hs : List HR} {late : Option Nat} : ∀ s ∈ jumpsOf hs late, s.u < hs.length ∧ s.v < hs.length := fun s h => by
  cases late with
  | none => exact nomatch h
  | some l =>
    obtain ⟨d, hd, h2⟩ := List.mem_flatMap.mp h
    obtain ⟨o, ho, rfl⟩ := List.mem_map.mp h2
    exact ⟨door_lt hd, door_lt ho⟩
theorem jumps_len {hs : List HR} {late : Option Nat} (h : hs.length ≤ 12) : (jumpsOf hs late).length ≤ 144 := by
  cases late with
  | none => exact Nat.zero_le _
  | some l =>
    have d1 := doors_len (z := "out") (hs := hs)
    have d2 := doors_len (z := "in") (hs := hs)
    have key : ∀ ds : List Nat, (ds.flatMap fun d => (doorsOf "in" hs).map fun o => (⟨d, o, -((l : Nat) : Int)⟩ : St3)).length = ds.length * (doorsOf "in" hs).length := fun ds => by
      induction ds with
      | nil => exact (Nat.zero_mul _).symm
      | cons d ds ih => rw [List.flatMap_cons, List.length_append, List.length_map, ih, List.length_cons, Nat.succ_mul]; omega
    show ((doorsOf "out" hs).flatMap _).length ≤ 144
    rw [key]
    exact Nat.le_trans (Nat.mul_le_mul (show _ ≤ 12 by omega) (show _ ≤ 12 by omega)) (by decide)
section
variable {P : Program} {w : World} {K : PySem.W.Frag} {mg : Str → Option Value} {base : Heap}
def sp_needed (K : PySem.W.Frag) : Sp := fun vs H Q _ => ∃ m T : Int, vs = [.int m, .int T] ∧ Q (.int (ndd m T)) H
theorem ok_needed {f : Addr} {fd : FuncData} (F : Fun K "needed" "needed" s_needed f fd) (T : Top K mg) : FnOk P w K mg base CX0 1 f fd ["moments", "time"] (sp_needed K) := by
  refine F.ok sc_needed (fun vs H Q E h => ?_) (fun cdv A outer s H vs Q E hr h => ?_)
  · obtain ⟨m, T, rfl, _⟩ := h
    rfl
  obtain ⟨m, T', rfl, q⟩ := h
  refine ⟨_, (pss_one (ps_ret (pe_ifExp (pt_cmpR op_gt (pv 0) (pv 1) (nomark _)) pe_int pe_int))), ?_⟩
  unfold ndd at q
  refine ⟨_, rfl, _, rfl, _, _, rfl, rfl, _, rfl, if_bl (fun z => ?_) (fun z => ?_)⟩
  · rw [if_pos (show m > T' from of_decide_eq_true z)] at q; exact q
  · rw [if_neg (show ¬ m > T' from of_decide_eq_false z)] at q; exact q
def sp_jumps (K : PySem.W.Frag) : Sp := fun vs H Q _ => ∃ (r : Addr) (hs : List HR) (bs : List BR) (late : Option Nat), vs = [.ref r, lateV late] ∧ RoomAt H r hs bs ∧ RoomOk hs bs ∧
  ∀ (p : Addr) (sv : List V) (H' : Hp), H' p = some (.lst sv) → All2 (StepAt H') sv (jumpsOf hs late) → Same H H' → Q (.ref p) H'
theorem ok_jumps {f : Addr} {fd : FuncData} (F : Fun K "jumps" "jumps" s_jumps f fd) (T : Top K mg) : FnOk P w K mg base CX0 2 f fd ["room", "late"] (sp_jumps K) := by
  obtain ⟨f_doors_out, fd_doors_out, F_doors_out, b_doors_out, m_doors_out⟩ := T.d_doors_out
  have G_doors_out := ok_doors_out (P := P) (w := w) (base := base) F_doors_out T
  obtain ⟨f_doors_in, fd_doors_in, F_doors_in, b_doors_in, m_doors_in⟩ := T.d_doors_in
  have G_doors_in := ok_doors_in (P := P) (w := w) (base := base) F_doors_in T
  refine F.ok sc_jumps (fun vs H Q E h => ?_) (fun cdv A outer s H vs Q E hr h => ?_)
  · obtain ⟨r, hs, bs, late, rfl, _⟩ := h
    rfl
  obtain ⟨r, hs, bs, late, rfl, hR, ok, q⟩ := h
  have lh := ok.hands
  refine ⟨_, (pss_cons (ps_if (pt_cmpR op_isN (pv 1) pe_non (nomark _)) (pss_one (ps_ret (pe_lst pa_nil))) pss_nil)
      (pss_one (ps_ret (pe_lc2 (own := [("door", 2), ("other", 3)]) (vs1 := [3]) (g := gName 2) (g1 := gName 3) (tt := tYes) (tt1 := tYes) (by rfl) sc_jumps.nd (pi_listK K rfl (pe_call G_doors_out (hr.mono (by decide)) (by rfl) m_doors_out F_doors_out.kp b_doors_out .nil pass0 (pa_cons (pv 0) pa_nil))) (blkOk_by (own := [("door", 2), ("other", 3)]) (N := N_jumps) (sc := defScope s_jumps) (by decide +kernel)) (by decide) (fun _ _ _ _ _ => (pg_name (i := 2) sc_jumps.nd rfl (Or.inl rfl))) (fun _ _ _ _ _ => pts_nil) (fun _ _ _ _ _ => (pi_listK K rfl (pe_call G_doors_in (hr.mono (by decide)) (by rfl) m_doors_in F_doors_in.kp b_doors_in .nil pass0 (pa_cons (pv 0) pa_nil)))) (fun _ _ _ _ _ => (pg_name (i := 3) sc_jumps.nd rfl (Or.inl rfl))) (fun _ _ _ _ _ => pts_nil) (fun _ _ _ _ _ => (pe_tup (pa_cons (pv 2) (pa_cons (pv 3) (pa_cons (pe_un un_neg (pv 1)) pa_nil))))))))), ?_⟩
  cases late with
  | none =>
    refine ⟨_, rfl, rfl, _, rfl, if_bl (fun _ => ?_) (fun z => absurd rfl (of_decide_eq_false z))⟩
    exact ⟨(by show 0 ≤ sizeLine; decide), fun p np => q p [] _ upd_same .nil (same_new np)⟩
  | some l =>
  refine ⟨_, rfl, rfl, _, rfl, if_bl (fun z => absurd (of_decide_eq_true z) (fun y => nomatch y)) (fun _ => ?_)⟩
  refine ⟨_, rfl, r, hs, bs, rfl, hR, by omega, ok.good, fun ol H1 nol hol s1 => ?_⟩
  have d1 := doors_len (z := "out") (hs := hs)
  have d2 := doors_len (z := "in") (hs := hs)
  refine ⟨ol, rfl, ⟨_, SqL.of hol⟩, fun D nD => ⟨fun i m H5 => m = (doorsOf "out" hs).length - i ∧ i ≤ (doorsOf "out" hs).length ∧ ∃ sv, H5 D = some (.lst sv) ∧ All2 (StepAt H5) sv (((doorsOf "out" hs).take i).flatMap fun d => (doorsOf "in" hs).map fun o => ⟨d, o, -((l : Nat) : Int)⟩) ∧ sv.length ≤ 12 * i ∧ Same H1 H5, ⟨_, rfl, Nat.zero_le _, [], upd_same, .nil, Nat.le_refl _, same_new nD⟩, ?_⟩⟩
  rintro i m H5 ⟨rfl, hi, sv, hD, al, lsv, s5⟩
  have hol5 := s5 _ _ hol
  by_cases hlt : i < (doorsOf "out" hs).length
  · have ed : (doorsOf "out" hs)[i]? = some (doorsOf "out" hs)[i] := List.getElem?_eq_getElem hlt
    refine .inr ⟨⟨_, _, SqL.of hol5, by rw [List.getElem?_map, ed]; rfl⟩, fun H' => ∃ m', m' < (doorsOf "out" hs).length - i ∧ m' = (doorsOf "out" hs).length - (i + 1) ∧ i + 1 ≤ (doorsOf "out" hs).length ∧ ∃ sv, H' D = some (.lst sv) ∧ All2 (StepAt H') sv (((doorsOf "out" hs).take (i + 1)).flatMap fun d => (doorsOf "in" hs).map fun o => ⟨d, o, -((l : Nat) : Int)⟩) ∧ sv.length ≤ 12 * (i + 1) ∧ Same H1 H', fun H' h => h, ?_⟩
    rintro x H6 ⟨rfl, ey⟩
    have ex : x = nV (doorsOf "out" hs)[i] := by
      have := ey _ (SqL.of hol5)
      rw [List.getElem?_map, ed] at this
      exact (Option.some.inj this).symm
    subst ex
    refine ⟨rfl, yes_in ⟨_, rfl, r, hs, bs, rfl, (hR.keep (TK.same s1)).keep (TK.same s5), by omega, ok.good, fun il H7 nil_ hil s7 => ?_⟩⟩
    have hD7 := s7 _ _ hD
    refine ⟨il, rfl, ⟨_, SqL.of hil⟩, fun j k H8 => k = (doorsOf "in" hs).length - j ∧ j ≤ (doorsOf "in" hs).length ∧ ∃ sv', H8 D = some (.lst sv') ∧ All2 (StepAt H8) sv' ((((doorsOf "out" hs).take i).flatMap fun d => (doorsOf "in" hs).map fun o => ⟨d, o, -((l : Nat) : Int)⟩) ++ ((doorsOf "in" hs).take j).map fun o => ⟨(doorsOf "out" hs)[i], o, -((l : Nat) : Int)⟩) ∧ sv'.length ≤ 12 * i + j ∧ Same H1 H8 ∧ H8 il = some (.lst ((doorsOf "in" hs).map nV)), ⟨_, rfl, Nat.zero_le _, sv, hD7, by rw [List.take_zero, List.map_nil, List.append_nil]; exact al.imp fun _ _ z => z.keep (TK.same s7), by omega, s5.trans s7, hil⟩, ?_⟩
    rintro j k H8 ⟨rfl, hj, sv', hD8, al8, l8, s8, hil8⟩
    have ilD : il ≠ D := (ne_of_none hD nil_).symm
    by_cases jlt : j < (doorsOf "in" hs).length
    · have eo : (doorsOf "in" hs)[j]? = some (doorsOf "in" hs)[j] := List.getElem?_eq_getElem jlt
      refine .inr ⟨⟨_, _, SqL.of hil8, by rw [List.getElem?_map, eo]; rfl⟩, fun H' => ∃ k', k' < (doorsOf "in" hs).length - j ∧ k' = (doorsOf "in" hs).length - (j + 1) ∧ j + 1 ≤ (doorsOf "in" hs).length ∧ ∃ sv', H' D = some (.lst sv') ∧ All2 (StepAt H') sv' ((((doorsOf "out" hs).take i).flatMap fun d => (doorsOf "in" hs).map fun o => ⟨d, o, -((l : Nat) : Int)⟩) ++ ((doorsOf "in" hs).take (j + 1)).map fun o => ⟨(doorsOf "out" hs)[i], o, -((l : Nat) : Int)⟩) ∧ sv'.length ≤ 12 * i + (j + 1) ∧ Same H1 H' ∧ H' il = some (.lst ((doorsOf "in" hs).map nV)), fun H' h => h, ?_⟩
      rintro x H9 ⟨rfl, ey⟩
      have ex : x = nV (doorsOf "in" hs)[j] := by
        have := ey _ (SqL.of hil8)
        rw [List.getElem?_map, eo] at this
        exact (Option.some.inj this).symm
      subst ex
      refine ⟨rfl, yes_in ⟨_, rfl, _, rfl, _, rfl, _, rfl, (by show 3 ≤ sizeLine; decide), fun t nt => ?_⟩⟩
      have hD9 := same_new (o := .tup [nV (doorsOf "out" hs)[i], nV (doorsOf "in" hs)[j], V.int (-((l : Nat) : Int))]) nt _ _ hD8
      refine ⟨sv', hD9, small1000 (by omega), _, by omega, rfl, by omega, sv' ++ [V.ref t], upd_same, ?_, by rw [List.length_append]; show sv'.length + 1 ≤ _; omega, Same.own (s8.trans (same_new nt)) nD, by rw [upd_ne ilD]; exact same_new nt _ _ hil8⟩
      rw [show ((doorsOf "in" hs).take (j + 1)).map (fun o => (⟨(doorsOf "out" hs)[i], o, -((l : Nat) : Int)⟩ : St3)) = ((doorsOf "in" hs).take j).map (fun o => (⟨(doorsOf "out" hs)[i], o, -((l : Nat) : Int)⟩ : St3)) ++ [⟨(doorsOf "out" hs)[i], (doorsOf "in" hs)[j], -((l : Nat) : Int)⟩] by rw [List.take_add_one, eo, List.map_append]; rfl, ← List.append_assoc]
      exact ((al8.imp fun _ _ z => z.keep (TK.new nt)).snoc ⟨t, rfl, upd_same⟩).imp fun _ _ z => z.keep (TK.lst hD9)
    · have e : j = (doorsOf "in" hs).length := by omega
      subst e
      refine .inl ⟨⟨_, SqL.of hil8, by rw [List.length_map]; exact Nat.le_refl _⟩, _, by omega, rfl, by omega, sv', hD8, ?_, by omega, s8⟩
      rw [List.take_length] at al8
      rw [show ((doorsOf "out" hs).take (i + 1)).flatMap (fun d => (doorsOf "in" hs).map fun o => (⟨d, o, -((l : Nat) : Int)⟩ : St3)) = (((doorsOf "out" hs).take i).flatMap fun d => (doorsOf "in" hs).map fun o => (⟨d, o, -((l : Nat) : Int)⟩ : St3)) ++ (doorsOf "in" hs).map fun o => (⟨(doorsOf "out" hs)[i], o, -((l : Nat) : Int)⟩ : St3) by rw [List.take_add_one, ed, List.flatMap_append]; simp]
      exact al8
  · have e : i = (doorsOf "out" hs).length := by omega
    subst e
    refine .inl ⟨⟨_, SqL.of hol5, by rw [List.length_map]; exact Nat.le_refl _⟩, q D sv H5 hD ?_ (s1.trans s5)⟩
    rw [List.take_length] at al
    exact al
end
theorem lev_set {n : Nat} {f : Nat → Int} {j : Nat} {z : Int} (hj : j < n) : (levL n f).set j (V.int z) = levL n fun k => if k = j then z else f k := by
  refine List.ext_getElem? fun m => ?_
  by_cases e : m = j
  · subst e
    rw [List.getElem?_set_self (by rw [List.length_map, List.length_range]; exact hj), rg_at hj]
    show _ = some (V.int (if m = m then z else f m))
    rw [if_pos rfl]
  · rw [List.getElem?_set_ne (fun z => e z.symm)]
    by_cases l : m < n
    · rw [rg_at l, rg_at l]
      show _ = some (V.int (if m = j then z else f m))
      rw [if_neg e]
    · rw [List.getElem?_eq_none (by rw [List.length_map, List.length_range]; omega), List.getElem?_eq_none (by rw [List.length_map, List.length_range]; omega)]
theorem take_if {l : List Nat} {i j : Nat} {z : Int} {f : Nat → Int} (e : l[i]? = some j) : (fun k => if k = j then z else if k ∈ l.take i then z else f k) = fun k => if k ∈ l.take (i + 1) then z else f k := by
  funext k
  rw [List.take_add_one, e]
  show _ = if k ∈ l.take i ++ [j] then z else f k
  by_cases a : k = j
  · rw [if_pos a, if_pos (by rw [a]; exact List.mem_append_right _ (List.mem_singleton.mpr rfl))]
  · rw [if_neg a]
    by_cases b : k ∈ l.take i
    · rw [if_pos b, if_pos (List.mem_append_left _ b)]
    · rw [if_neg b, if_neg fun c => (List.mem_append.mp c).elim b fun d => a (List.mem_singleton.mp d)]
/-- what the shifts are, by levels -/
def ShOf (hs : List HR) (late : Option Nat) (lv sh : Nat → Int) : Prop := ∃ gr to : Int, (∀ k ∈ doorsOf "in" hs, sh k = 0 ∧ gr ≤ lv k) ∧ (∀ k ∈ doorsOf "out" hs, sh k = to) ∧ (∀ k, k ∉ doorsOf "in" hs → k ∉ doorsOf "out" hs → sh k = lv k - gr) ∧
  (∀ l : Nat, late = some l → to = ((l : Nat) : Int) ∧ ((∃ o ∈ doorsOf "in" hs, gr = lv o) ∨ (doorsOf "in" hs = [] ∧ ∀ d ∈ doorsOf "out" hs, lv d - ((l : Nat) : Int) ≤ gr))) ∧ (late = none → (∀ d ∈ doorsOf "out" hs, lv d ≤ to) ∧ ((∃ o ∈ doorsOf "in" hs, gr = lv o) ∨ gr = 0))
theorem door_one {hs : List HR} {k : Nat} (a : k ∈ doorsOf "in" hs) (b : k ∈ doorsOf "out" hs) : False := by
  obtain ⟨h, e1, e2⟩ := mem_doors.mp a
  obtain ⟨h', e3, e4⟩ := mem_doors.mp b
  rw [e1] at e3
  cases e3
  rw [e2] at e4
  exact absurd e4 (by decide +kernel)
section
variable {P : Program} {w : World} {K : PySem.W.Frag} {mg : Str → Option Value} {base : Heap}
def sp_shifts_by (K : PySem.W.Frag) : Sp := fun vs H Q _ => ∃ (r ll : Addr) (hs : List HR) (bs : List BR) (late : Option Nat) (lv : Nat → Int), vs = [.ref r, lateV late, .ref ll] ∧ RoomAt H r hs bs ∧ RoomOk hs bs ∧ H ll = some (.lst (levL hs.length lv)) ∧
  ∀ (p : Addr) (sh : Nat → Int) (H' : Hp), H' p = some (.tup (levL hs.length sh)) → ShOf hs late lv sh → Same H H' → Q (.ref p) H'
theorem ok_shifts_by {f : Addr} {fd : FuncData} (F : Fun K "shifts_by" "shifts_by" s_shifts_by f fd) (T : Top K mg) : FnOk P w K mg base CX0 2 f fd ["room", "late", "levels"] (sp_shifts_by K) := by
  obtain ⟨f_doors_in, fd_doors_in, F_doors_in, b_doors_in, m_doors_in⟩ := T.d_doors_in
  have G_doors_in := ok_doors_in (P := P) (w := w) (base := base) F_doors_in T
  obtain ⟨f_doors_out, fd_doors_out, F_doors_out, b_doors_out, m_doors_out⟩ := T.d_doors_out
  have G_doors_out := ok_doors_out (P := P) (w := w) (base := base) F_doors_out T
  refine F.ok sc_shifts_by (fun vs H Q E h => ?_) (fun cdv A outer s H vs Q E hr h => ?_)
  · obtain ⟨r, ll, hs, bs, late, lv, rfl, _⟩ := h
    rfl
  obtain ⟨r, ll, hs, bs, late, lv, rfl, hR, ok, hll, q⟩ := h
  have lh := ok.hands
  have d1 := doors_len (z := "out") (hs := hs)
  have d2 := doors_len (z := "in") (hs := hs)
  let R1 : TS := fun D' σ' H' => D'.rt = Q ∧ ∃ (il ol : Addr) (hi : Int), σ' = [some (.ref r), some (lateV late), some (.ref ll), some (.ref il), some (.ref ol), some (.int hi), none, none, none, none, none, none] ∧ H' il = some (.lst ((doorsOf "in" hs).map nV)) ∧ H' ol = some (.lst ((doorsOf "out" hs).map nV)) ∧ (∀ d ∈ doorsOf "out" hs, lv d ≤ hi) ∧ Same H H'
  let R2 : TS := fun D' σ' H' => D'.rt = Q ∧ ∃ (il ol : Addr) (hi to : Int), σ' = [some (.ref r), some (lateV late), some (.ref ll), some (.ref il), some (.ref ol), some (.int hi), none, some (.int to), none, none, none, none] ∧ H' il = some (.lst ((doorsOf "in" hs).map nV)) ∧ H' ol = some (.lst ((doorsOf "out" hs).map nV)) ∧ (∀ d ∈ doorsOf "out" hs, lv d ≤ hi) ∧ (late = none → to = hi) ∧ ((∀ l : Nat, late = some l → to = ((l : Nat) : Int)) ∧ (late = none → ∀ d ∈ doorsOf "out" hs, lv d ≤ to)) ∧ Same H H'
  let R3 : TS := fun D' σ' H' => D'.rt = Q ∧ ∃ (il ol : Addr) (hi to fr : Int), σ' = [some (.ref r), some (lateV late), some (.ref ll), some (.ref il), some (.ref ol), some (.int hi), none, some (.int to), some (.int fr), none, none, none] ∧ H' il = some (.lst ((doorsOf "in" hs).map nV)) ∧ H' ol = some (.lst ((doorsOf "out" hs).map nV)) ∧ ((∀ l : Nat, late = some l → to = ((l : Nat) : Int)) ∧ (late = none → ∀ d ∈ doorsOf "out" hs, lv d ≤ to)) ∧ ((∀ l : Nat, late = some l → ∀ d ∈ doorsOf "out" hs, lv d - ((l : Nat) : Int) ≤ fr) ∧ (late = none → fr = 0)) ∧ Same H H'
  let R4 : TS := fun D' σ' H' => D'.rt = Q ∧ ∃ (il ol : Addr) (hi to fr gr : Int), σ' = [some (.ref r), some (lateV late), some (.ref ll), some (.ref il), some (.ref ol), some (.int hi), none, some (.int to), some (.int fr), some (.int gr), none, none] ∧ H' il = some (.lst ((doorsOf "in" hs).map nV)) ∧ H' ol = some (.lst ((doorsOf "out" hs).map nV)) ∧ ((∀ l : Nat, late = some l → to = ((l : Nat) : Int)) ∧ (late = none → ∀ d ∈ doorsOf "out" hs, lv d ≤ to)) ∧ ((∀ l : Nat, late = some l → ∀ d ∈ doorsOf "out" hs, lv d - ((l : Nat) : Int) ≤ fr) ∧ (late = none → fr = 0)) ∧ (∀ k ∈ doorsOf "in" hs, gr ≤ lv k) ∧ ((∃ o ∈ doorsOf "in" hs, gr = lv o) ∨ (doorsOf "in" hs = [] ∧ gr = fr)) ∧ Same H H'
  refine ⟨_, (pss_cons (ps_set (i := 3) sc_shifts_by.nd rfl (Or.inl rfl) (pe_call G_doors_in (hr.mono (by decide)) (by rfl) m_doors_in F_doors_in.kp b_doors_in .nil pass0 (pa_cons (pv 0) pa_nil)))
      (pss_cons (ps_set (i := 4) sc_shifts_by.nd rfl (Or.inl rfl) (pe_call G_doors_out (hr.mono (by decide)) (by rfl) m_doors_out F_doors_out.kp b_doors_out .nil pass0 (pa_cons (pv 0) pa_nil)))
      (pss_cons (ps_set (i := 5) sc_shifts_by.nd rfl (Or.inl rfl) (pe_callBK (cr_maxDf K rfl rfl) (by rfl) T.m_max (by decide +kernel) (pa_cons (pe_lc (own := [("door", 6)]) (g := gName 6) (tt := tYes) (by rfl) sc_shifts_by.nd (pi_listK K rfl (pv 4)) (blkOk_by (own := [("door", 6)]) (N := N_shifts_by) (sc := defScope s_shifts_by) (by decide +kernel)) (fun _ _ _ _ _ => (pg_name (i := 6) sc_shifts_by.nd rfl (Or.inl rfl))) (fun _ _ _ _ _ => pts_nil) (fun _ _ _ _ _ => (pe_ix (ix_listK K rfl) (pv 2) (pv 6) (fun _ _ => rfl)))) pa_nil) (pk_cons pe_int pk_nil)))
      (PSs.to (pss_cons (ps_set (i := 7) sc_shifts_by.nd rfl (Or.inl rfl) (pe_ifExp (pt_cmpR op_isN (pv 1) pe_non (nomark _)) (pv 5) (pv 1)))
      (PSs.to (pss_cons (ps_set (i := 8) sc_shifts_by.nd rfl (Or.inl rfl) (pe_ifExp (pt_truthK K rfl (pv 4) (by intro _; rfl)) (pe_op op_sub (pv 5) (pv 7)) pe_int))
      (PSs.to (pss_cons (ps_set (i := 9) sc_shifts_by.nd rfl (Or.inr rfl) (pe_callBK (cr_minDf K rfl rfl) (by rfl) T.m_min (by decide +kernel) (pa_cons (pe_lc (own := [("door", 6)]) (g := gName 6) (tt := tYes) (by rfl) sc_shifts_by.nd (pi_listK K rfl (pv 3)) (blkOk_by (own := [("door", 6)]) (N := N_shifts_by) (sc := defScope s_shifts_by) (by decide +kernel)) (fun _ _ _ _ _ => (pg_name (i := 6) sc_shifts_by.nd rfl (Or.inl rfl))) (fun _ _ _ _ _ => pts_nil) (fun _ _ _ _ _ => (pe_ix (ix_listK K rfl) (pv 2) (pv 6) (fun _ _ => rfl)))) pa_nil) (pk_cons (pv 8) pk_nil)))
      (PSs.to (pss_cons (ps_setLc (i := 10) (own := [("level", 11)]) (g := gName 11) (tt := tYes) (by rfl) sc_shifts_by.nd rfl rfl (sw_true rfl rfl rfl (by decide +kernel)) (pi_listK K rfl (pv 2)) (blkOk_by (own := [("level", 11)]) (N := N_shifts_by) (sc := defScope s_shifts_by) (by decide +kernel)) (fun _ _ _ _ _ => (pg_name (i := 11) sc_shifts_by.nd rfl (Or.inl rfl))) (fun _ _ _ _ _ => pts_nil) (fun _ _ _ _ _ => (pe_op op_sub (pv 11) (pv 9))))
      (pss_cons (ps_for PassesOwn.never rfl (pi_listK K rfl (pv 3)) (pg_name (i := 6) sc_shifts_by.nd rfl (Or.inl rfl))
        (pss_one (ps_asg pe_int (pg_sub (pv 10) (pv 6) set_list))))
      (pss_cons (ps_for PassesOwn.never rfl (pi_listK K rfl (pv 4)) (pg_name (i := 6) sc_shifts_by.nd rfl (Or.inl rfl))
        (pss_one (ps_asg (pv 7) (pg_sub (pv 10) (pv 6) set_list))))
      (pss_one (ps_ret (pe_callTy (call_tuple_ofK K rfl) (by rfl) T.m_tuple (by decide +kernel) (pa_cons (pv 10) pa_nil))))))) R4 ?tail4)) R3 ?tail3)) R2 ?tail2)) R1 ?tail1)))), ?_⟩
  case tail4 =>
    rintro D' σ' H1 ⟨eD, il, ol, hi, to, fr, gr, rfl, hil, hol, P2, P3, P4, P5, s1⟩
    refine ⟨_, rfl, ll, rfl, ⟨_, SqL.of (s1 _ _ hll)⟩, fun D nD => lc_list (K := K) (a := ll) (xs := levL hs.length lv) (fun i H5 => H5 D = some (.lst (levL i fun k => lv k - gr)) ∧ Same H1 H5) ⟨upd_same, same_new nD⟩ (fun i H5 _ ⟨_, s5⟩ => SqL.of (s5 _ _ (s1 _ _ hll))) ?_ ?_⟩
    · rintro i x H5 hx ⟨hD, s5⟩
      have il2 := (List.getElem?_eq_some_iff.mp hx).1
      rw [List.length_map, List.length_range] at il2
      rw [rg_at il2] at hx
      obtain rfl : V.int (lv i) = x := Option.some.inj hx
      refine ⟨rfl, yes_in ⟨_, rfl, _, rfl, _, _, rfl, rfl, _, hD, by rw [List.length_map, List.length_range]; exact small1000 (by omega), ?_, Same.own s5 nD⟩⟩
      rw [upd_same]
      show _ = some (HO.lst ((List.range (i + 1)).map fun p => V.int (lv p - gr)))
      rw [List.range_succ, List.map_append]; rfl
    · rintro H2 ⟨hD, s2⟩
      rw [List.length_map, List.length_range] at hD
      have ilD : il ≠ D := ne_of_none hil nD
      have olD : ol ≠ D := ne_of_none hol nD
      refine ⟨_, rfl, il, rfl, ⟨_, SqL.of (s2 _ _ hil)⟩, for_list (K := K) (a := il) (xs := (doorsOf "in" hs).map nV) (fun i σ H3 => ∃ (v6 : Option V), σ = [some (.ref r), some (lateV late), some (.ref ll), some (.ref il), some (.ref ol), some (.int hi), v6, some (.int to), some (.int fr), some (.int gr), some (.ref D), none] ∧ H3 D = some (.lst (levL hs.length fun k => if k ∈ (doorsOf "in" hs).take i then 0 else lv k - gr)) ∧ Same H1 H3)
        ⟨none, rfl, hD, s2⟩ (fun i σ H3 _ ⟨_, _, _, s3⟩ => SqL.of (s3 _ _ hil)) ?_ ?_⟩
      · rintro i x σ H3 hx ⟨v6, rfl, hD3, s3⟩
        obtain ⟨k, ek, rfl⟩ := nats_at hx
        have kl := door_lt (List.mem_of_getElem? ek)
        refine ⟨_, rfl, _, rfl, D, _, _, k, rfl, rfl, hD3, ixN_nat (by rw [List.length_map, List.length_range]; exact kl), _, rfl, ?_, Same.own s3 nD⟩
        rw [upd_same, lev_set kl, take_if ek]
      · rintro σ H3 ⟨v6, rfl, hD3, s3⟩
        rw [List.length_map, List.take_length] at hD3
        refine ⟨_, rfl, ol, rfl, ⟨_, SqL.of (s3 _ _ hol)⟩, for_list (K := K) (a := ol) (xs := (doorsOf "out" hs).map nV) (fun i σ H3 => ∃ (v6 : Option V), σ = [some (.ref r), some (lateV late), some (.ref ll), some (.ref il), some (.ref ol), some (.int hi), v6, some (.int to), some (.int fr), some (.int gr), some (.ref D), none] ∧ H3 D = some (.lst (levL hs.length fun k => if k ∈ (doorsOf "out" hs).take i then to else if k ∈ doorsOf "in" hs then 0 else lv k - gr)) ∧ Same H1 H3)
          ⟨v6, rfl, hD3, s3⟩ (fun i σ H3 _ ⟨_, _, _, s3⟩ => SqL.of (s3 _ _ hol)) ?_ ?_⟩
        · rintro i x σ H3 hx ⟨v6, rfl, hD3, s3⟩
          obtain ⟨k, ek, rfl⟩ := nats_at hx
          have kl := door_lt (List.mem_of_getElem? ek)
          refine ⟨_, rfl, _, rfl, _, rfl, D, _, _, k, rfl, rfl, hD3, ixN_nat (by rw [List.length_map, List.length_range]; exact kl), _, rfl, ?_, Same.own s3 nD⟩
          rw [upd_same, lev_set kl, take_if ek]
        · rintro σ H3 ⟨v6, rfl, hD3, s3⟩
          rw [List.length_map, List.take_length] at hD3
          refine ⟨_, rfl, D, _, rfl, .inl ⟨SqL.of hD3, fun p np => ?_⟩⟩
          rw [eD]
          refine q p _ _ upd_same ⟨gr, to, fun k hk => ⟨?_, P4 k hk⟩, fun k hk => ?_, fun k k1 k2 => ?_, fun l el => ⟨P2.1 l el, ?_⟩, fun ln => ⟨P2.2 ln, ?_⟩⟩ ((s1.trans s3).trans (same_new np))
          · show (if k ∈ doorsOf "out" hs then to else if k ∈ doorsOf "in" hs then 0 else lv k - gr) = 0
            rw [if_neg fun z => door_one hk z, if_pos hk]
          · show (if k ∈ doorsOf "out" hs then to else if k ∈ doorsOf "in" hs then 0 else lv k - gr) = _
            rw [if_pos hk]
          · show (if k ∈ doorsOf "out" hs then to else if k ∈ doorsOf "in" hs then 0 else lv k - gr) = _
            rw [if_neg k2, if_neg k1]
          · rcases P5 with z | ⟨z, e⟩
            · exact .inl z
            · exact .inr ⟨z, fun d hd => by rw [e]; exact P3.1 l el d hd⟩
          · rcases P5 with z | ⟨z, e⟩
            · exact .inl z
            · exact .inr (by rw [e]; exact P3.2 ln)
  case tail3 =>
    rintro D' σ' H1 ⟨eD, il, ol, hi, to, fr, rfl, hil, hol, P2, P3, s1⟩
    refine ⟨_, rfl, il, rfl, ⟨_, SqL.of hil⟩, fun D nD => lc_list (K := K) (a := il) (xs := (doorsOf "in" hs).map nV) (fun i H5 => H5 D = some (.lst ((((doorsOf "in" hs).take i).map lv).map V.int)) ∧ Same H1 H5) ⟨upd_same, same_new nD⟩ (fun i H5 _ ⟨_, s5⟩ => SqL.of (s5 _ _ hil)) ?_ ?_⟩
    · rintro i x H5 hx ⟨hD, s5⟩
      obtain ⟨k, ek, rfl⟩ := nats_at hx
      have kl := door_lt (List.mem_of_getElem? ek)
      have il2 := (List.getElem?_eq_some_iff.mp ek).1
      refine ⟨rfl, yes_in ⟨_, rfl, _, rfl, ll, _, _, _, rfl, rfl, SqL.of (s5 _ _ (s1 _ _ hll)), atI_nat (rg_at kl), _, hD, by rw [List.length_map, List.length_map, List.length_take]; exact small1000 (by omega), ?_, Same.own s5 nD⟩⟩
      rw [upd_same, List.take_add_one, ek, List.map_append, List.map_append]; rfl
    · rintro H5 ⟨hD, s5⟩
      rw [List.length_map, List.take_length] at hD
      refine ⟨_, rfl, D, _, V.int fr, rfl, rfl, SqL.of hD, fun e => ?_, fun m hm hle => ?_⟩
      · have e : doorsOf "in" hs = [] := List.map_eq_nil_iff.mp e
        exact ⟨eD, il, ol, hi, to, fr, fr, rfl, s5 _ _ hil, s5 _ _ hol, P2, P3, (fun k hk => by rw [e] at hk; cases hk), .inr ⟨e, rfl⟩, s1.trans s5⟩
      · obtain ⟨o, ho, eo⟩ := List.mem_map.mp hm
        exact ⟨eD, il, ol, hi, to, fr, m, rfl, s5 _ _ hil, s5 _ _ hol, P2, P3, (fun k hk => hle _ (List.mem_map.mpr ⟨k, hk, rfl⟩)), .inl ⟨o, ho, eo.symm⟩, s1.trans s5⟩
  case tail2 =>
    rintro D' σ' H1 ⟨eD, il, ol, hi, to, rfl, hil, hol, P1, P0, P2, s1⟩
    refine ⟨_, rfl, _, .inl ⟨_, SqL.of hol, rfl⟩, if_bl (fun _ => ?_) (fun c => ?_)⟩
    · refine ⟨_, rfl, _, rfl, _, _, rfl, rfl, eD, il, ol, hi, to, hi - to, rfl, hil, hol, P2, ⟨fun l el d hd => ?_, fun ln => ?_⟩, s1⟩
      · have := P1 d hd
        have := P2.1 l el
        omega
      · have := P0 ln
        omega
    · have e : doorsOf "out" hs = [] := by
        cases e : doorsOf "out" hs with
        | nil => rfl
        | cons x l => rw [e] at c; exact absurd c (by simp)
      exact ⟨eD, il, ol, hi, to, 0, rfl, hil, hol, P2, ⟨(fun l el d hd => by rw [e] at hd; cases hd), fun _ => rfl⟩, s1⟩
  case tail1 =>
    rintro D' σ' H1 ⟨eD, il, ol, hi, rfl, hil, hol, P1, s1⟩
    cases late with
    | none => exact ⟨_, rfl, rfl, _, rfl, if_bl (fun _ => ⟨_, rfl, eD, il, ol, hi, hi, rfl, hil, hol, P1, fun _ => rfl, ⟨(fun l el => nomatch el), fun _ => P1⟩, s1⟩) (fun z => absurd rfl (of_decide_eq_false z))⟩
    | some l => exact ⟨_, rfl, rfl, _, rfl, if_bl (fun z => absurd (of_decide_eq_true z) (fun y => nomatch y)) (fun _ => ⟨_, rfl, eD, il, ol, hi, _, rfl, hil, hol, P1, (fun z => nomatch z), ⟨(fun l' el => by cases el; rfl), fun z => nomatch z⟩, s1⟩)⟩
  refine ⟨_, rfl, r, hs, bs, rfl, hR, by omega, ok.good, fun il H1 nil_ hil s1 => ?_⟩
  refine ⟨_, rfl, r, hs, bs, rfl, hR.keep (TK.same s1), by omega, ok.good, fun ol H2 nol hol s2 => ?_⟩
  have s12 := s1.trans s2
  refine ⟨_, rfl, ol, rfl, ⟨_, SqL.of hol⟩, fun D nD => lc_list (K := K) (a := ol) (xs := (doorsOf "out" hs).map nV) (fun i H5 => H5 D = some (.lst ((((doorsOf "out" hs).take i).map lv).map V.int)) ∧ Same H2 H5) ⟨upd_same, same_new nD⟩ (fun i H5 _ ⟨_, s5⟩ => SqL.of (s5 _ _ hol)) ?_ ?_⟩
  · rintro i x H5 hx ⟨hD, s5⟩
    obtain ⟨k, ek, rfl⟩ := nats_at hx
    have kl := door_lt (List.mem_of_getElem? ek)
    have il2 := (List.getElem?_eq_some_iff.mp ek).1
    refine ⟨rfl, yes_in ⟨_, rfl, _, rfl, ll, _, _, _, rfl, rfl, SqL.of (s5 _ _ (s12 _ _ hll)), atI_nat (rg_at kl), _, hD, by rw [List.length_map, List.length_map, List.length_take]; exact small1000 (by omega), ?_, Same.own s5 nD⟩⟩
    rw [upd_same, List.take_add_one, ek, List.map_append, List.map_append]; rfl
  · rintro H5 ⟨hD, s5⟩
    rw [List.length_map, List.take_length] at hD
    refine ⟨D, _, V.int 0, rfl, rfl, SqL.of hD, fun e => ?_, fun m hm hle => ?_⟩
    · have e : doorsOf "out" hs = [] := List.map_eq_nil_iff.mp e
      exact ⟨rfl, il, ol, 0, rfl, s5 _ _ (s2 _ _ hil), s5 _ _ hol, (fun d hd => by rw [e] at hd; cases hd), s12.trans s5⟩
    · exact ⟨rfl, il, ol, m, rfl, s5 _ _ (s2 _ _ hil), s5 _ _ hol, (fun d hd => hle _ (List.mem_map.mpr ⟨d, hd, rfl⟩)), s12.trans s5⟩
end
/-! ### bars -/
def ndS (T : Int) (ws : List Wy) : Int := (ws.map fun y => ndd y.c.2 T).sum
def jmpN (late : Option Nat) (e o : Nat) : Int := if e = o then 0 else match late with
  | some l => ((l : Nat) : Int)
  | none => 0
theorem jmpN_self {late : Option Nat} {e : Nat} : jmpN late e e = 0 := if_pos rfl
def costW (late : Option Nat) : Nat → List Wy → Int
  | _, [] => 0
  | e, y :: ws => jmpN late e y.one + y.c.1 + costW late y.e ws
def lastE : Nat → List Wy → Nat
  | e, [] => e
  | _, y :: ws => lastE y.e ws
theorem lastE_any : ∀ {ws : List Wy} {e e' : Nat}, ws ≠ [] → lastE e ws = lastE e' ws
  | [], _, _, h => absurd rfl h
  | y :: ws, _, _, _ => rfl
/-- a step from e to o is none, or a jump -/
def Jmp (hs : List HR) (late : Option Nat) (e o : Nat) : Prop := e = o ∨ (late.isSome = true ∧ e ∈ doorsOf "out" hs ∧ o ∈ doorsOf "in" hs)
def okW (hs : List HR) (late : Option Nat) : Nat → List Wy → Prop
  | _, [] => True
  | e, y :: ws => Jmp hs late e y.one ∧ okW hs late y.e ws
structure Bar (hs : List HR) (bs : List BR) (late : Option Nat) (T : Int) (ws : List Wy) : Prop where
  ne : ws ≠ []
  ok : ∀ y ∈ ws, WyOk hs bs y
  go : okW hs late (lastE 0 ws) ws
  hv : costW late (lastE 0 ws) ws < ndS T ws
def waysOf (ys : List Wy) (ks : List Nat) : List Wy := ks.filterMap fun k => ys[k]?
theorem waysOf_some {ys : List Wy} {k : Nat} {ks : List Nat} {y : Wy} (e : ys[k]? = some y) : waysOf ys (k :: ks) = y :: waysOf ys ks := by
  unfold waysOf
  rw [List.filterMap_cons, e]
theorem waysOf_none {ys : List Wy} {k : Nat} {ks : List Nat} (e : ys[k]? = none) : waysOf ys (k :: ks) = waysOf ys ks := by
  unfold waysOf
  rw [List.filterMap_cons, e]
theorem wS_some {st : List St3} {k : Nat} {s : St3} (e : st[k]? = some s) : wS st k = s.w := by
  unfold wS
  rw [e]
theorem door_one' {hs : List HR} {k : Nat} (a : k ∈ doorsOf "in" hs) (b : k ∈ doorsOf "out" hs) : False := by
  obtain ⟨h, e1, e2⟩ := mem_doors.mp a
  obtain ⟨h', e3, e4⟩ := mem_doors.mp b
  rw [e1] at e3
  cases e3
  rw [e2] at e4
  exact absurd e4 (by decide +kernel)
theorem scan {hs : List HR} {ys : List Wy} {late : Option Nat} {T : Int} : ∀ (ks : List Nat) (p q e : Nat), stepEnd (stepsOf hs ys late T) p ks = some q → Jmp hs late e p →
    Jmp hs late (lastE e (waysOf ys ks)) q ∧ okW hs late e (waysOf ys ks) ∧ costW late e (waysOf ys ks) + jmpN late (lastE e (waysOf ys ks)) q + (ks.map (wS (stepsOf hs ys late T))).sum = ndS T (waysOf ys ks) + jmpN late e p
  | [], p, q, e, h, j => by
    cases h
    refine ⟨j, trivial, ?_⟩
    show (0 : Int) + jmpN late e p + 0 = 0 + jmpN late e p
    omega
  | k :: ks, p, q, e, h, j => by
    cases es : (stepsOf hs ys late T)[k]? with
    | none =>
      have : stepEnd (stepsOf hs ys late T) p (k :: ks) = none := by
        show (match (stepsOf hs ys late T)[k]? with | some s => if s.u = p then stepEnd (stepsOf hs ys late T) s.v ks else none | none => none) = none
        rw [es]
      rw [this] at h; cases h
    | some s =>
    rw [stepEnd_cons es] at h
    by_cases z : s.u = p
    · rw [if_pos z] at h
      rw [List.map_cons, List.sum_cons, wS_some es]
      cases ey : ys[k]? with
      | some y =>
        have kl := (List.getElem?_eq_some_iff.mp ey).1
        have e1 : (stepsOf hs ys late T)[k]? = some (wStep T y) := by
          unfold stepsOf
          rw [List.getElem?_append_left (by rw [List.length_map]; exact kl), List.getElem?_map, ey]
          rfl
        rw [e1] at es
        cases es
        have z : y.one = p := z
        obtain ⟨i1, i2, i3⟩ := scan ks y.e q y.e h (.inl rfl)
        rw [waysOf_some ey]
        refine ⟨i1, ⟨by rw [z]; exact j, i2⟩, ?_⟩
        rw [jmpN_self] at i3
        show jmpN late e y.one + y.c.1 + costW late y.e (waysOf ys ks) + jmpN late (lastE y.e (waysOf ys ks)) q + ((ndd y.c.2 T - y.c.1) + (ks.map (wS (stepsOf hs ys late T))).sum) = ((y :: waysOf ys ks).map fun y => ndd y.c.2 T).sum + jmpN late e p
        rw [List.map_cons, List.sum_cons, z]
        have i3' : costW late y.e (waysOf ys ks) + jmpN late (lastE y.e (waysOf ys ks)) q + (ks.map (wS (stepsOf hs ys late T))).sum = ((waysOf ys ks).map fun y => ndd y.c.2 T).sum + 0 := i3
        omega
      | none =>
        have kl : ys.length ≤ k := List.getElem?_eq_none_iff.mp ey
        have e1 : (jumpsOf hs late)[k - ys.length]? = some s := by
          unfold stepsOf at es
          rw [List.getElem?_append_right (by rw [List.length_map]; exact kl), List.length_map] at es
          exact es
        have m := List.mem_of_getElem? e1
        cases late with
        | none => exact nomatch m
        | some l =>
        obtain ⟨d, hd, h2⟩ := List.mem_flatMap.mp m
        obtain ⟨o, ho, rfl⟩ := List.mem_map.mp h2
        have z : d = p := z
        subst z
        have ed : e = d := by
          rcases j with j | ⟨_, _, j⟩
          · exact j
          · exact (door_one' j hd).elim
        subst ed
        have ne : e ≠ o := fun c => door_one' ho (c ▸ hd)
        obtain ⟨i1, i2, i3⟩ := scan ks o q e h (.inr ⟨rfl, hd, ho⟩)
        rw [waysOf_none ey]
        refine ⟨i1, i2, ?_⟩
        have e2 : jmpN (some l) e o = ((l : Nat) : Int) := if_neg ne
        rw [e2] at i3
        rw [jmpN_self]
        show costW (some l) e (waysOf ys ks) + jmpN (some l) (lastE e (waysOf ys ks)) q + (-((l : Nat) : Int) + _) = _
        omega
    · rw [if_neg z] at h; cases h
theorem RingOk.bar {hs : List HR} {bs : List BR} {ys : List Wy} {late : Option Nat} {T : Int} {ks : List Nat} (aw : AllWays hs bs ys) (r : RingOk (stepsOf hs ys late T) ks) : Bar hs bs late T (waysOf ys ks) := by
  obtain ⟨p, hp⟩ := r.cl
  have pos := r.pos
  obtain ⟨a1, a2, a3⟩ := scan ks p p p hp (.inl rfl)
  have ne : waysOf ys ks ≠ [] := fun z => by
    rw [z] at a3
    have a3 : (0 : Int) + jmpN late p p + _ = 0 + jmpN late p p := a3
    rw [jmpN_self] at a3
    omega
  rw [lastE_any ne (e' := 0)] at a1
  obtain ⟨b1, b2, b3⟩ := scan ks p p (lastE 0 (waysOf ys ks)) hp a1
  rw [lastE_any (e := lastE 0 (waysOf ys ks)) (e' := 0) ne] at b3
  refine ⟨ne, fun y hy => ?_, b2, by omega⟩
  obtain ⟨k, _, hk⟩ := List.mem_filterMap.mp hy
  exact aw.ok y (List.mem_of_getElem? hk)
def FAl (hs : List HR) (bs : List BR) (late : Option Nat) (T : Int) (lv : Nat → Int) : Prop := (∀ one e c, one < hs.length → best hs bs one e = some c → lv one + (ndd c.2 T - c.1) ≤ lv e) ∧ ∀ l, late = some l → ∀ d ∈ doorsOf "out" hs, ∀ o ∈ doorsOf "in" hs, lv d - ((l : Nat) : Int) ≤ lv o
theorem feas_lv {hs : List HR} {bs : List BR} {ys : List Wy} {late : Option Nat} {T : Int} {lv : Nat → Int} (aw : AllWays hs bs ys) (f : ∀ s ∈ stepsOf hs ys late T, lv s.u + s.w ≤ lv s.v) : FAl hs bs late T lv := by
  refine ⟨fun one e c h1 h2 => ?_, fun l el d hd o ho => ?_⟩
  · obtain ⟨y, y1, rfl, rfl⟩ := aw.all one e c h1 h2
    have := (aw.ok y y1).b
    rw [h2] at this
    cases this
    exact f (wStep T y) (List.mem_append_left _ (List.mem_map.mpr ⟨y, y1, rfl⟩))
  · subst el
    have := f ⟨d, o, -((l : Nat) : Int)⟩ (List.mem_append_right _ (List.mem_flatMap.mpr ⟨d, hd, List.mem_map.mpr ⟨o, ho, rfl⟩⟩))
    have : lv d + -((l : Nat) : Int) ≤ lv o := this
    omega
/-- shifts that come of levels -/
def Shf (hs : List HR) (bs : List BR) (late : Option Nat) (T : Int) (sh : Nat → Int) : Prop := ∃ lv : Nat → Int, FAl hs bs late T lv ∧ ShOf hs late lv sh ∧ ∀ q, 0 ≤ lv q
theorem Shf.fa {hs : List HR} {bs : List BR} {late : Option Nat} {T : Int} {sh : Nat → Int} (h : Shf hs bs late T sh) : FA hs bs late T := by
  obtain ⟨lv, f, _⟩ := h
  exact ⟨lv, f⟩
theorem ndd_le {m T T' : Int} (h : T ≤ T') : ndd m T' ≤ ndd m T := by
  unfold ndd
  split <;> split <;> omega
theorem FA.mono {hs : List HR} {bs : List BR} {late : Option Nat} {T T' : Int} (h : T ≤ T') (f : FA hs bs late T) : FA hs bs late T' := by
  obtain ⟨lv, f, g⟩ := f
  refine ⟨lv, fun one e c h1 h2 => ?_, g⟩
  have := f one e c h1 h2
  have := ndd_le (m := c.2) h
  omega
theorem best_tr {hs : List HR} {bs : List BR} {rk : Nat → Int} {one e : Nat} {c : Co} (hrk : ∀ b ∈ bs, b.th = [] → rk b.one < rk b.to) (h : best hs bs one e = some c) : 0 ≤ c.1 := by
  obtain ⟨ns, w1, w2⟩ := cfI_snd _ e c h
  have := (way_rank hrk w1).1
  rw [← w2]
  exact this
theorem FA.high {hs : List HR} {bs : List BR} {rk : Nat → Int} {late : Option Nat} {T : Int} (hrk : ∀ b ∈ bs, b.th = [] → rk b.one < rk b.to) (h : ∀ one e c, one < hs.length → best hs bs one e = some c → c.1 = 0 → c.2 ≤ T) : FA hs bs late T := by
  refine ⟨fun _ => 0, fun one e c h1 h2 => ?_, fun l _ d _ o _ => by show (0 : Int) - ((l : Nat) : Int) ≤ 0; omega⟩
  have t := best_tr hrk h2
  have := h one e c h1 h2
  show (0 : Int) + (ndd c.2 T - c.1) ≤ 0
  unfold ndd
  split <;> omega
/-- a way at its place -/
def PrAt (H : Hp) (v : V) (y : Wy) : Prop := ∃ p : Addr, v = .ref p ∧ WayAt H p y.one y.ns
theorem PrAt.keep {H H' : Hp} {v : V} {y : Wy} (h : PrAt H v y) (k : TK H H') : PrAt H' v y := by
  obtain ⟨p, e, h2⟩ := h
  exact ⟨p, e, h2.keep k⟩
theorem waysOf_take {ys : List Wy} {ks : List Nat} {i k : Nat} (e : ks[i]? = some k) : waysOf ys (ks.take (i + 1)) = waysOf ys (ks.take i) ++ (ys[k]?).toList := by
  unfold waysOf
  rw [List.take_add_one, e, List.filterMap_append]
  cases h : ys[k]? <;> simp [h]
theorem waysOf_len {ys : List Wy} {ks : List Nat} : (waysOf ys ks).length ≤ ks.length := List.length_filterMap_le ..
section
variable {P : Program} {w : World} {K : PySem.W.Frag} {mg : Str → Option Value} {base : Heap}
def sp_paper_by (K : PySem.W.Frag) : Sp := fun vs H Q _ => ∃ (r wl : Addr) (hs : List HR) (bs : List BR) (late : Option Nat) (T : Int) (yv : List V) (ys : List Wy), vs = [.ref r, lateV late, .int T, .ref wl] ∧ RoomAt H r hs bs ∧ RoomOk hs bs ∧ H wl = some (.lst yv) ∧ All2 (WyAt H) yv ys ∧ AllWays hs bs ys ∧
  (∀ (p p' : Addr) (sh : Nat → Int) (H' : Hp), H' p = some (.tup [.str "shifts", .ref p']) → H' p' = some (.tup (levL hs.length sh)) → Shf hs bs late T sh → Same H H' → Q (.ref p) H') ∧ ∀ (p p' : Addr) (pv : List V) (ws : List Wy) (H' : Hp), H' p = some (.tup [.str "bar", .ref p']) → H' p' = some (.tup pv) → All2 (PrAt H') pv ws → ws.length ≤ hs.length → Bar hs bs late T ws → ¬ FA hs bs late T → Same H H' → Q (.ref p) H'
theorem ok_paper_by {f : Addr} {fd : FuncData} (F : Fun K "paper_by" "paper_by" s_paper_by f fd) (T : Top K mg) : FnOk P w K mg base CX0 3 f fd ["room", "late", "time", "ways"] (sp_paper_by K) := by
  obtain ⟨f_levels_or_ring, fd_levels_or_ring, F_levels_or_ring, b_levels_or_ring, m_levels_or_ring⟩ := T.d_levels_or_ring
  have G_levels_or_ring := ok_levels_or_ring (P := P) (w := w) (base := base) F_levels_or_ring T
  obtain ⟨f_jumps, fd_jumps, F_jumps, b_jumps, m_jumps⟩ := T.d_jumps
  have G_jumps := ok_jumps (P := P) (w := w) (base := base) F_jumps T
  obtain ⟨f_shifts_by, fd_shifts_by, F_shifts_by, b_shifts_by, m_shifts_by⟩ := T.d_shifts_by
  have G_shifts_by := ok_shifts_by (P := P) (w := w) (base := base) F_shifts_by T
  obtain ⟨f_needed, fd_needed, F_needed, b_needed, m_needed⟩ := T.d_needed
  have G_needed := ok_needed (P := P) (w := w) (base := base) F_needed T
  refine F.ok sc_paper_by (fun vs H Q E h => ?_) (fun cdv A outer s H vs Q E hr h => ?_)
  · obtain ⟨r, wl, hs, bs, late, T', yv, ys, rfl, _⟩ := h
    rfl
  obtain ⟨r, wl, hs, bs, late, T', yv, ys, rfl, hR, ok, hwl, aly, aw, q1, q2⟩ := h
  obtain ⟨ha, ba, hv, bv, er, eh, eb, alh, alb⟩ := hR.ex
  have lhv := alh.length
  have lh := ok.hands
  have lys := aly.length
  have few := aw.few
  have hto : ∀ b ∈ bs, b.to < hs.length := fun b hb => (ok.ends b hb).2
  let R1 : TS := fun D' σ' H' => D'.rt = Q ∧ σ' = [some (.ref r), some (lateV late), some (.int T'), some (.ref wl), none, none, none, none, none, none, none, none] ∧ H' = H
  refine ⟨_, (PSs.to (pss_cons (ps_setLc (i := 4) (own := [("trays", 5), ("moments", 6), ("way", 7), ("end", 8)]) (g := gTup K 4 (gCons (gName 5) (gCons (gName 6) (gCons (gName 7) (gCons (gName 8) gNil))))) (tt := tYes) (by rfl) sc_paper_by.nd rfl rfl (sw_true rfl rfl rfl (by decide +kernel)) (pi_listK K rfl (pv 3)) (blkOk_by (own := [("trays", 5), ("moments", 6), ("way", 7), ("end", 8)]) (N := N_paper_by) (sc := defScope s_paper_by) (by decide +kernel)) (fun _ _ _ _ _ => (pg_tupK K rfl rfl (pgs_cons (pg_name (i := 5) sc_paper_by.nd rfl (Or.inl rfl)) (pgs_cons (pg_name (i := 6) sc_paper_by.nd rfl (Or.inl rfl)) (pgs_cons (pg_name (i := 7) sc_paper_by.nd rfl (Or.inl rfl)) (pgs_cons (pg_name (i := 8) sc_paper_by.nd rfl (Or.inl rfl)) pgs_nil)))))) (fun _ _ _ _ _ => pts_nil) (fun _ _ _ _ _ => (pe_tup (pa_cons (pe_ix (ix_tupK K rfl) (pv 7) pe_int (fun _ _ => rfl)) (pa_cons (pv 8) (pa_cons (pe_op op_sub (pe_call G_needed (hr.mono (by decide)) (by rfl) m_needed F_needed.kp b_needed .nil pass0 (pa_cons (pv 6) (pa_cons (pv 2) pa_nil))) (pv 5)) pa_nil))))))
      (pss_cons (ps_expr (pe_bmK K rfl PySem.F.plainAttrs_list PySem.F.slot_list_extend PySem.F.type_list_extend mt_extend (pv 4) (pa_cons (pe_call G_jumps (hr.mono (by decide)) (by rfl) m_jumps F_jumps.kp b_jumps .nil pass0 (pa_cons (pv 0) (pa_cons (pv 1) pa_nil))) pa_nil)))
      (pss_cons (ps_asg (pe_call G_levels_or_ring (hr.mono (by decide)) (by rfl) m_levels_or_ring F_levels_or_ring.kp b_levels_or_ring .nil pass0 (pa_cons (pe_callB (call_len_seqK K rfl) (by rfl) T.m_len (by decide +kernel) (pa_cons (pe_ix (ix_tupK K rfl) (pv 0) pe_int (fun _ _ => rfl)) pa_nil)) (pa_cons (pv 4) pa_nil))) (pg_tupK K rfl rfl (pgs_cons (pg_name (i := 9) sc_paper_by.nd rfl (Or.inl rfl)) (pgs_cons (pg_name (i := 10) sc_paper_by.nd rfl (Or.inl rfl)) pgs_nil))))
      (pss_cons (ps_if (pt_cmpR op_isN (pv 10) pe_non (nomark _)) (pss_one (ps_ret (pe_tup (pa_cons pe_str (pa_cons (pe_call G_shifts_by (hr.mono (by decide)) (by rfl) m_shifts_by F_shifts_by.kp b_shifts_by .nil pass0 (pa_cons (pv 0) (pa_cons (pv 1) (pa_cons (pv 9) pa_nil)))) pa_nil))))) pss_nil)
      (pss_one (ps_ret (pe_tup (pa_cons pe_str (pa_cons (pe_callTy (call_tuple_ofK K rfl) (by rfl) T.m_tuple (by decide +kernel) (pa_cons (pe_lc (own := [("number", 11)]) (g := gName 11) (by rfl) sc_paper_by.nd (pi_listK K rfl (pv 10)) (blkOk_by (own := [("number", 11)]) (N := N_paper_by) (sc := defScope s_paper_by) (by decide +kernel)) (fun _ _ _ _ _ => (pg_name (i := 11) sc_paper_by.nd rfl (Or.inl rfl))) (fun _ _ _ _ _ => pts_one (pt_cmpR op_lt (pv 11) (pe_callB (call_len_seqK K rfl) (by rfl) T.m_len (by decide +kernel) (pa_cons (pv 3) pa_nil)) (nomark _))) (fun _ _ _ _ _ => (pe_ix (ix_tupK K rfl) (pe_ix (ix_listK K rfl) (pv 3) (pv 11) (fun _ _ => rfl)) pe_int (fun _ _ => rfl)))) pa_nil)) pa_nil))))))))) R1 ?tail1), ⟨rfl, rfl, rfl⟩⟩
  rintro D' σ' H0 ⟨eD, rfl, rfl⟩
  refine ⟨_, rfl, wl, rfl, ⟨_, SqL.of hwl⟩, fun D nD => lc_list (K := K) (a := wl) (xs := yv) (fun i H5 => ∃ sv : List V, H5 D = some (.lst sv) ∧ All2 (StepAt H5) sv ((ys.take i).map (wStep T')) ∧ Same H0 H5) ⟨[], upd_same, .nil, same_new nD⟩ (fun i H5 _ ⟨_, _, _, s5⟩ => SqL.of (s5 _ _ hwl)) ?_ ?_⟩
  · rintro i x H5 hx ⟨sv, hD, al, s5⟩
    obtain ⟨y, ey, ⟨t, p, rfl, ht, ⟨g, ep, eg⟩⟩⟩ := aly.getL hx
    have il := (List.getElem?_eq_some_iff.mp ey).1
    refine ⟨t, _, rfl, SqT.of (s5 _ _ ht), rfl, ?_⟩
    refine ⟨_, _, rfl, ?_⟩
    refine ⟨_, _, rfl, ?_⟩
    refine ⟨_, _, rfl, ?_⟩
    refine ⟨_, _, rfl, rfl, ?_⟩
    refine ⟨rfl, ?_⟩
    refine yes_in ?_
    refine ⟨_, rfl, p, _, _, _, rfl, rfl, SqT.of (s5 _ _ ep), atI_nat (j := 0) rfl, _, rfl, _, rfl, _, rfl, y.c.2, T', rfl, _, rfl, _, _, rfl, rfl, (by show 3 ≤ sizeLine; decide), fun t3 nt3 => ?_⟩
    have hD6 := same_new (o := .tup [nV y.one, nV y.e, V.int (ndd y.c.2 T' - y.c.1)]) nt3 _ _ hD
    refine ⟨sv, hD6, ?_, sv ++ [V.ref t3], upd_same, ?_, Same.own (s5.trans (same_new nt3)) nD⟩
    · have := al.length
      rw [List.length_map, List.length_take] at this
      exact small1000 (by omega)
    · rw [show (ys.take (i + 1)).map (wStep T') = (ys.take i).map (wStep T') ++ [wStep T' y] by rw [List.take_add_one, ey, List.map_append]; rfl]
      exact ((al.imp fun _ _ z => z.keep (TK.new nt3)).snoc ⟨t3, rfl, upd_same⟩).imp fun _ _ z => z.keep (TK.lst hD6)
  rintro H1 ⟨sv, hD, al, s1⟩
  rw [lys, List.take_length] at al
  have lsv := al.length
  rw [List.length_map] at lsv
  refine ⟨_, rfl, .inl ⟨rfl, _, SqL.of hD⟩, _, rfl, _, rfl, r, hs, bs, late, rfl, hR.keep (TK.same s1), ok, fun jl sv2 H2 hjl al2 s2 => ?_⟩
  have jn := jumps_len (late := late) lh
  have lsv2 := al2.length
  have hD2 := s2 _ _ hD
  refine ⟨D, jl, sv, sv2, rfl, rfl, hD2, hjl, little (by omega), ?_⟩
  have s3 : Same H0 (upd H2 D (.lst (sv ++ sv2))) := Same.own (s1.trans s2) nD
  have k3 : TK H2 (upd H2 D (.lst (sv ++ sv2))) := TK.lst hD2
  have All2.app : ∀ {R : V → St3 → Prop} {as cs : List V} {bs ds : List St3}, All2 R as bs → All2 R cs ds → All2 R (as ++ cs) (bs ++ ds) := fun {R as cs bs ds} a b => by
    induction a with
    | nil => exact b
    | cons h t ih => exact .cons h ih
  have st3 : StepsAt (upd H2 D (.lst (sv ++ sv2))) D (stepsOf hs ys late T') := ⟨_, upd_same, All2.app (al.imp fun _ _ z => z.keep ((TK.same s2).trans k3)) (al2.imp fun _ _ z => z.keep k3)⟩
  have bd : ∀ s ∈ stepsOf hs ys late T', s.u < hv.length ∧ s.v < hv.length := fun s hs' => by
    rw [lhv]
    rcases List.mem_append.mp hs' with h | h
    · obtain ⟨y, y1, rfl⟩ := List.mem_map.mp h
      have o := aw.ok y y1
      exact ⟨o.lt, best_lt hto o.lt o.b⟩
    · exact jumps_bd s h
  have ls : (stepsOf hs ys late T').length ≤ 400 := by
    unfold stepsOf
    rw [List.length_append, List.length_map]
    omega
  refine ⟨_, rfl, r, _, _, _, rfl, rfl, SqT.of (s3 _ _ er), atI_nat (j := 0) rfl, ha, _, rfl, .inr (SqT.of (s3 _ _ eh)), _, rfl, D, hv.length, stepsOf hs ys late T', rfl, st3, bd, ls, by omega, fun p ll lv H4 hp hll fe nn s4 => ?_, fun p rl ks H4 hp hrl ring lk s4 => ?_⟩
  · refine ⟨p, _, rfl, SqT.of hp, rfl, _, _, rfl, _, _, rfl, rfl, ?_⟩
    refine ⟨_, rfl, rfl, _, rfl, if_bl (fun _ => ?_) (fun z => absurd rfl (of_decide_eq_false z))⟩
    have s04 := s3.trans s4
    rw [lhv] at hll
    refine ⟨_, rfl, _, rfl, _, rfl, r, ll, hs, bs, late, lv, rfl, hR.keep (TK.same s04), ok, hll, fun p3 sh H5 hp3 so s5 => ⟨(by show 2 ≤ sizeLine; decide), fun p4 np4 => ?_⟩⟩
    rw [eD]; exact q1 p4 p3 sh _ upd_same (same_new np4 _ _ hp3) ⟨lv, feas_lv aw fe, so, nn⟩ ((s04.trans s5).trans (same_new np4))
  · refine ⟨p, _, rfl, SqT.of hp, rfl, _, _, rfl, _, _, rfl, rfl, ?_⟩
    refine ⟨_, rfl, rfl, _, rfl, if_bl (fun z => absurd (of_decide_eq_true z) (fun y => nomatch y)) (fun _ => ?_)⟩
    have s04 := s3.trans s4
    refine ⟨_, rfl, rl, rfl, ⟨_, SqL.of hrl⟩, fun D2 nD2 => lc_list (K := K) (a := rl) (xs := ks.map nV) (fun i H5 => ∃ bv : List V, H5 D2 = some (.lst bv) ∧ All2 (PrAt H5) bv (waysOf ys (ks.take i)) ∧ Same H4 H5) ⟨[], upd_same, .nil, same_new nD2⟩ (fun i H5 _ ⟨_, _, _, s5⟩ => SqL.of (s5 _ _ hrl)) ?_ ?_⟩
    · rintro i x H5 hx ⟨bv', hD2, lb, s5⟩
      obtain ⟨k, ek, rfl⟩ := nats_at hx
      have il := (List.getElem?_eq_some_iff.mp ek).1
      have s05 := s04.trans s5
      have hwl5 := s05 _ _ hwl
      have lbv := lb.length
      have lw := waysOf_len (ys := ys) (ks := ks.take i)
      rw [List.length_take] at lw
      refine ⟨rfl, _, rfl, _, rfl, wl, _, rfl, .inl (SqL.of hwl5), _, _, rfl, rfl, _, rfl, if_bl (fun c => ?_) (fun c => ⟨bv', hD2, ?_, s5⟩)⟩
      · have c : ((k : Nat) : Int) < ((yv.length : Nat) : Int) := of_decide_eq_true c
        have ekv : yv[k]? = some yv[k] := List.getElem?_eq_getElem (by omega)
        obtain ⟨y, ey, ⟨t, p', e1, ht, hP⟩⟩ := aly.getL ekv
        rw [e1] at ekv
        refine ⟨_, rfl, _, rfl, wl, _, _, _, rfl, rfl, SqL.of hwl5, atI_nat ekv, t, _, _, _, rfl, rfl, SqT.of (s05 _ _ ht), atI_nat (j := 2) rfl, bv', hD2, small1000 (by omega), bv' ++ [V.ref p'], upd_same, ?_, Same.own s5 nD2⟩
        rw [waysOf_take ek, ey]
        exact (lb.snoc ⟨p', rfl, hP.keep (TK.same s05)⟩).imp fun _ _ z => z.keep (TK.lst hD2)
      · have c : ¬ ((k : Nat) : Int) < ((yv.length : Nat) : Int) := of_decide_eq_false c
        have : ys[k]? = none := List.getElem?_eq_none_iff.mpr (by omega)
        rw [waysOf_take ek, this]
        show All2 (PrAt H5) bv' (waysOf ys (ks.take i) ++ [])
        rw [List.append_nil]
        exact lb
    · rintro H5 ⟨bv', hD2, lb, s5⟩
      rw [List.length_map, List.take_length] at lb
      refine ⟨D2, _, rfl, .inl ⟨SqL.of hD2, fun p3 np3 => ⟨(by show 2 ≤ sizeLine; decide), fun p4 np4 => ?_⟩⟩⟩
      have lw := waysOf_len (ys := ys) (ks := ks)
      rw [eD]; exact q2 p4 p3 _ (waysOf ys ks) _ upd_same (same_new np4 _ _ upd_same) (lb.imp fun _ _ z => z.keep ((TK.new np3).trans (TK.new np4))) (by omega) (ring.bar aw) (fun f => ring.not_feas ((feas_iff aw).mpr f)) (((s04.trans s5).trans (same_new np3)).trans (same_new np4))
end
/-! ### ways and levels -/
theorem best_way {hs : List HR} {bs : List BR} (ok : RoomOk hs bs) {one e : Nat} {ns : List Nat} (ho : one < hs.length) (h : wayEnd bs one ns = some e) : ∃ c, best hs bs one e = some c ∧ coLe c (wayCo hs bs one ns) := by
  obtain ⟨rk, hrk⟩ := ok.rank
  obtain ⟨ms, l, h1, h2⟩ := way_short (hs := hs) hrk (fun b hb => (ok.ends b hb).2) ho ns.length ns e (Nat.le_refl _) h
  obtain ⟨c, h3, h4⟩ := cfI_cpl (hs := hs) (bs := bs) (one := one) hs.length ms e l h1
  exact ⟨c, h3, h4.trans h2⟩
def Wl (hs : List HR) (bs : List BR) (T : Int) (lv : Nat → Int) : Prop := ∀ one ns e, one < hs.length → wayEnd bs one ns = some e → lv one + (ndd (wayCo hs bs one ns).2 T - (wayCo hs bs one ns).1) ≤ lv e
def Dl (hs : List HR) (late : Option Nat) (lv : Nat → Int) : Prop := ∀ l, late = some l → ∀ d ∈ doorsOf "out" hs, ∀ o ∈ doorsOf "in" hs, lv d - ((l : Nat) : Int) ≤ lv o
theorem fal_iff {hs : List HR} {bs : List BR} {late : Option Nat} {T : Int} {lv : Nat → Int} (ok : RoomOk hs bs) : FAl hs bs late T lv ↔ Wl hs bs T lv ∧ Dl hs late lv := by
  constructor
  · rintro ⟨f, g⟩
    refine ⟨fun one ns e ho h => ?_, g⟩
    obtain ⟨c, h1, h2⟩ := best_way ok ho h
    have := f one e c ho h1
    unfold ndd at *
    unfold coLe at h2
    split at this <;> split <;> omega
  · rintro ⟨f, g⟩
    refine ⟨fun one e c ho h => ?_, g⟩
    obtain ⟨ns, w1, w2⟩ := cfI_snd _ e c h
    have := f one ns e ho w1
    rw [w2] at this
    exact this
theorem wayEnd_none {bs : List BR} {n k : Nat} {ns : List Nat} (e : bs[n]? = none) : wayEnd bs k (n :: ns) = none := by
  show (match bs[n]? with | some b => if b.one = k then wayEnd bs b.to ns else none | none => none) = none
  rw [e]
theorem to_in {hs : List HR} {bs : List BR} (ok : RoomOk hs bs) {b : BR} (hb : b ∈ bs) : b.to ∉ doorsOf "in" hs := fun z => by
  obtain ⟨h, e1, e2⟩ := mem_doors.mp z
  have c := ok.count b.to h e1
  have p := List.count_pos_iff.mpr (List.mem_map.mpr ⟨b, hb, rfl⟩ : b.to ∈ bs.map BR.to)
  rw [e2, show needs "in" = 0 by decide +kernel] at c
  omega
theorem one_out {hs : List HR} {bs : List BR} (ok : RoomOk hs bs) {b : BR} (hb : b ∈ bs) : b.one ∉ doorsOf "out" hs := fun z => by
  obtain ⟨h, e1, e2⟩ := mem_doors.mp z
  exact ok.out b hb h e1 e2
/-- shifts that reach a time by a lateness, or any -/
structure Rch (hs : List HR) (bs : List BR) (late : Option Nat) (T : Int) (sh : Nat → Int) : Prop where
  ins : ∀ k ∈ doorsOf "in" hs, sh k = 0
  outs : ∃ to : Int, (∀ k ∈ doorsOf "out" hs, sh k = to) ∧ (∀ l : Nat, late = some l → to = ((l : Nat) : Int)) ∧ (late = none → doorsOf "out" hs ≠ [] → 0 ≤ to)
  ways : Wl hs bs T sh
theorem Shf.rch {hs : List HR} {bs : List BR} {late : Option Nat} {T : Int} {sh : Nat → Int} (ok : RoomOk hs bs) (s : Shf hs bs late T sh) : Rch hs bs late T sh := by
  obtain ⟨lv, f, ⟨gr, to, g1, g2, g3, g4, g5⟩, nn⟩ := s
  have f := (fal_iff ok).mp f
  -- out doors lie no lower than their levels
  have low : ∀ d ∈ doorsOf "out" hs, lv d - gr ≤ to := fun d hd => by
    cases late with
    | some l =>
      obtain ⟨e, z⟩ := g4 l rfl
      rcases z with ⟨o, ho, eo⟩ | ⟨_, g6⟩
      · have := f.2 l rfl d hd o ho; omega
      · have := g6 d hd; omega
    | none =>
      obtain ⟨e, z⟩ := g5 rfl
      have := e d hd
      rcases z with ⟨o, ho, eo⟩ | z
      · have := nn o; omega
      · omega
  refine ⟨fun k hk => (g1 k hk).1, ⟨to, g2, fun l el => (g4 l el).1, fun ln ne => ?_⟩, fun one ns e ho h => ?_⟩
  · obtain ⟨d, hd⟩ := List.exists_mem_of_ne_nil _ ne
    have := (g5 ln).1 d hd
    have := nn d
    omega
  have st := f.1 one ns e ho h
  rcases ns with _ | ⟨n, ns⟩
  · cases h
    omega
  · have no1 : one ∉ doorsOf "out" hs := by
      cases eb : bs[n]? with
      | none =>
        rw [wayEnd_none eb] at h; cases h
      | some b =>
        rw [wayEnd_cons eb] at h
        by_cases z : b.one = one
        · rw [← z]; exact one_out ok (List.mem_of_getElem? eb)
        · rw [if_neg z] at h; cases h
    have no2 : e ∉ doorsOf "in" hs := by
      rcases List.eq_nil_or_concat (n :: ns) with z | ⟨ms, n', z⟩
      · cases z
      · rw [z, List.concat_eq_append] at h
        obtain ⟨b, eb, _, h2⟩ := wayEnd_unsnoc h
        rw [← h2]; exact to_in ok (List.mem_of_getElem? eb)
    have a1 : sh one ≤ lv one - gr := by
      by_cases z : one ∈ doorsOf "in" hs
      · have := g1 one z; omega
      · rw [g3 one z no1]; omega
    have a2 : lv e - gr ≤ sh e := by
      by_cases z : e ∈ doorsOf "out" hs
      · rw [g2 e z]; exact low e z
      · rw [g3 e no2 z]; omega
    omega
def trS (sh : Nat → Int) (b : BR) : Int := (b.th.length : Int) + sh b.to - sh b.one
theorem Rch.trays {hs : List HR} {bs : List BR} {l : Option Nat} {T : Int} {sh : Nat → Int} (ok : RoomOk hs bs) (r : Rch hs bs l T sh) {b : BR} (hb : b ∈ bs) : 0 ≤ trS sh b := by
  obtain ⟨n, hn⟩ := List.getElem?_of_mem hb
  have := r.ways b.one [n] b.to (ok.ends b hb).1 (by rw [wayEnd_cons hn, if_pos rfl]; rfl)
  have e : (wayCo hs bs b.one [n]).1 = (b.th.length : Int) := by
    show ([n].map (trB bs)).sum = _
    have h1 : trB bs n = (b.th.length : Int) := by unfold trB; rw [hn]
    simp [h1]
  rw [e] at this
  unfold trS
  unfold ndd at this
  split at this <;> omega
/-- what a hand may come to: moments of a way whose trays are gone -/
def Vl (hs : List HR) (bs : List BR) (sh : Nat → Int) (k : Nat) (x : Int) : Prop := ∃ one ns, one < hs.length ∧ wayEnd bs one ns = some k ∧ (wayCo hs bs one ns).1 + sh k - sh one = 0 ∧ (wayCo hs bs one ns).2 = x
theorem Vl.nil {hs : List HR} {bs : List BR} {sh : Nat → Int} {k : Nat} (h : k < hs.length) : Vl hs bs sh k (momH hs k) := by
  refine ⟨k, [], h, rfl, ?_, ?_⟩ <;> rw [wayCo_nil]
  show (0 : Int) + sh k - sh k = 0
  omega
theorem Vl.go {hs : List HR} {bs : List BR} {sh : Nat → Int} {b : BR} {x : Int} (hb : b ∈ bs) (z : trS sh b = 0) (v : Vl hs bs sh b.one x) : Vl hs bs sh b.to (x + momH hs b.to) := by
  obtain ⟨n, hn⟩ := List.getElem?_of_mem hb
  obtain ⟨one, ns, h1, h2, h3, h4⟩ := v
  refine ⟨one, ns ++ [n], h1, wayEnd_snoc h2 hn rfl, ?_, ?_⟩ <;> rw [wayCo_snoc hn]
  · show (wayCo hs bs one ns).1 + (b.th.length : Int) + sh b.to - sh one = 0
    unfold trS at z
    omega
  · show (wayCo hs bs one ns).2 + momH hs b.to = _
    rw [h4]
theorem Rch.vl {hs : List HR} {bs : List BR} {l : Option Nat} {T : Int} {sh : Nat → Int} (r : Rch hs bs l T sh) {k : Nat} {x : Int} (v : Vl hs bs sh k x) : x ≤ T := by
  obtain ⟨one, ns, h1, h2, h3, h4⟩ := v
  have := r.ways one ns k h1 h2
  rw [h4] at this
  unfold ndd at this
  split at this <;> omega
section
variable {P : Program} {w : World} {K : PySem.W.Frag} {mg : Str → Option Value} {base : Heap}
/-- the least time -/
structure Least (hs : List HR) (bs : List BR) (late : Option Nat) (T : Int) : Prop where
  fa : FA hs bs late T
  nn : 0 ≤ T
  no : ∀ T', 0 ≤ T' → T' < T → ¬ FA hs bs late T'
/-- the paper beside: none at 0, else a bar of one moment less -/
def BarV (hs : List HR) (bs : List BR) (late : Option Nat) (T : Int) (H : Hp) (y : V) : Prop := (T = 0 ∧ y = .non) ∨ (0 < T ∧ ∃ (p' : Addr) (qv : List V) (ws : List Wy), y = .ref p' ∧ H p' = some (.tup qv) ∧ All2 (PrAt H) qv ws ∧ ws.length ≤ hs.length ∧ Bar hs bs late (T - 1) ws)
theorem BarV.keep {hs : List HR} {bs : List BR} {late : Option Nat} {T : Int} {H H' : Hp} {y : V} (h : BarV hs bs late T H y) (k : TK H H') : BarV hs bs late T H' y := by
  rcases h with h | ⟨h0, p', qv, ws, h1, h2, h3, h4⟩
  · exact .inl h
  · exact .inr ⟨h0, p', qv, ws, h1, k _ _ h2, h3.imp fun _ _ z => z.keep k, h4⟩
def sp_least_time (K : PySem.W.Frag) : Sp := fun vs H Q _ => ∃ (r : Addr) (hs : List HR) (bs : List BR) (late : Option Nat), vs = [.ref r, lateV late] ∧ RoomAt H r hs bs ∧ RoomOk hs bs ∧
  ∀ (p p' : Addr) (T : Int) (sh : Nat → Int) (y : V) (H' : Hp), H' p = some (.tup [.int T, .ref p', y]) → H' p' = some (.tup (levL hs.length sh)) → Shf hs bs late T sh → Least hs bs late T → BarV hs bs late T H' y → Same H H' → Q (.ref p) H'
theorem ok_least_time {f : Addr} {fd : FuncData} (F : Fun K "least_time" "least_time" s_least_time f fd) (T : Top K mg) : FnOk P w K mg base CX0 4 f fd ["room", "late"] (sp_least_time K) := by
  obtain ⟨f_least_ways, fd_least_ways, F_least_ways, b_least_ways, m_least_ways⟩ := T.d_least_ways
  have G_least_ways := ok_least_ways (P := P) (w := w) (base := base) F_least_ways T
  obtain ⟨f_paper_by, fd_paper_by, F_paper_by, b_paper_by, m_paper_by⟩ := T.d_paper_by
  have G_paper_by := ok_paper_by (P := P) (w := w) (base := base) F_paper_by T
  refine F.ok sc_least_time (fun vs H Q E h => ?_) (fun cdv A outer s H vs Q E hr h => ?_)
  · obtain ⟨r, hs, bs, late, rfl, _⟩ := h
    rfl
  obtain ⟨r, hs, bs, late, rfl, hR, ok, q⟩ := h
  obtain ⟨rk, hrk⟩ := ok.rank
  let R2 : TS := fun D' σ' H' => D'.rt = Q ∧ ∃ (wl : Addr) (yv : List V) (ys : List Wy) (hi : Int), σ' = [some (.ref r), some (lateV late), some (.ref wl), some (.int 0), some (.int hi), none, none, none, none, none, none, none, none, none] ∧ H' wl = some (.lst yv) ∧ All2 (WyAt H') yv ys ∧ AllWays hs bs ys ∧ 0 ≤ hi ∧ FA hs bs late hi ∧ Same H H'
  let R1 : TS := fun D' σ' H' => D'.rt = Q ∧ ∃ (wl : Addr) (yv : List V) (ys : List Wy), σ' = [some (.ref r), some (lateV late), some (.ref wl), some (.int 0), none, none, none, none, none, none, none, none, none, none] ∧ H' wl = some (.lst yv) ∧ All2 (WyAt H') yv ys ∧ AllWays hs bs ys ∧ Same H H'
  refine ⟨_, (pss_cons (ps_set (i := 2) sc_least_time.nd rfl (Or.inl rfl) (pe_call G_least_ways (hr.mono (by decide)) (by rfl) m_least_ways F_least_ways.kp b_least_ways .nil pass0 (pa_cons (pv 0) pa_nil)))
      (pss_cons (ps_set (i := 3) sc_least_time.nd rfl (Or.inl rfl) pe_int)
      (PSs.to (pss_cons (ps_set (i := 4) sc_least_time.nd rfl (Or.inl rfl) (pe_callBK (cr_maxDf K rfl rfl) (by rfl) T.m_max (by decide +kernel) (pa_cons (pe_lc (own := [("trays", 5), ("moments", 6), ("way", 7), ("end", 8)]) (g := gTup K 4 (gCons (gName 5) (gCons (gName 6) (gCons (gName 7) (gCons (gName 8) gNil))))) (tt := tYes) (by rfl) sc_least_time.nd (pi_listK K rfl (pv 2)) (blkOk_by (own := [("trays", 5), ("moments", 6), ("way", 7), ("end", 8)]) (N := N_least_time) (sc := defScope s_least_time) (by decide +kernel)) (fun _ _ _ _ _ => (pg_tupK K rfl rfl (pgs_cons (pg_name (i := 5) sc_least_time.nd rfl (Or.inl rfl)) (pgs_cons (pg_name (i := 6) sc_least_time.nd rfl (Or.inl rfl)) (pgs_cons (pg_name (i := 7) sc_least_time.nd rfl (Or.inl rfl)) (pgs_cons (pg_name (i := 8) sc_least_time.nd rfl (Or.inl rfl)) pgs_nil)))))) (fun _ _ _ _ _ => pts_nil) (fun _ _ _ _ _ => (pv 6))) pa_nil) (pk_cons pe_int pk_nil)))
      (PSs.to (pss_cons (ps_asg (pe_call G_paper_by (hr.mono (by decide)) (by rfl) m_paper_by F_paper_by.kp b_paper_by .nil pass0 (pa_cons (pv 0) (pa_cons (pv 1) (pa_cons (pv 4) (pa_cons (pv 2) pa_nil))))) (pg_tupK K rfl rfl (pgs_cons (pg_name (i := 9) sc_least_time.nd rfl (Or.inl rfl)) (pgs_cons (pg_name (i := 10) sc_least_time.nd rfl (Or.inl rfl)) pgs_nil))))
      (pss_cons (ps_set (i := 11) sc_least_time.nd rfl (Or.inl rfl) pe_non)
      (pss_cons (ps_while PassesOwn.never (pt_cmpR op_lt (pv 3) (pv 4) (nomark _))
        (pss_cons (ps_set (i := 12) sc_least_time.nd rfl (Or.inl rfl) (pe_op op_fdiv (pe_op op_add (pv 3) (pv 4)) pe_int))
      (pss_cons (ps_asg (pe_call G_paper_by (hr.mono (by decide)) (by rfl) m_paper_by F_paper_by.kp b_paper_by .nil pass0 (pa_cons (pv 0) (pa_cons (pv 1) (pa_cons (pv 12) (pa_cons (pv 2) pa_nil))))) (pg_tupK K rfl rfl (pgs_cons (pg_name (i := 9) sc_least_time.nd rfl (Or.inl rfl)) (pgs_cons (pg_name (i := 13) sc_least_time.nd rfl (Or.inl rfl)) pgs_nil))))
      (pss_one (ps_if (pt_cmpR op_eq (pv 9) pe_str (nomark _)) (pss_cons (ps_set (i := 4) sc_least_time.nd rfl (Or.inl rfl) (pv 12))
      (pss_one (ps_set (i := 10) sc_least_time.nd rfl (Or.inl rfl) (pv 13)))) (pss_cons (ps_set (i := 3) sc_least_time.nd rfl (Or.inl rfl) (pe_op op_add (pv 12) pe_int))
      (pss_one (ps_set (i := 11) sc_least_time.nd rfl (Or.inl rfl) (pv 13)))))))))
      (pss_one (ps_ret (pe_tup (pa_cons (pv 4) (pa_cons (pv 10) (pa_cons (pv 11) pa_nil))))))))) R2 ?tail2)) R1 ?tail1))), ?_⟩
  case tail2 =>
    rintro D' σ' H1 ⟨eD, wl, yv, ys, hi, rfl, hwl, aly, aw, hi0, fhi, s1⟩
    refine ⟨_, rfl, _, rfl, _, rfl, _, rfl, r, wl, hs, bs, late, hi, yv, ys, rfl, hR.keep (TK.same s1), ok, hwl, aly, aw, fun p0 q0 sh0 H2 hp0 hq0 so0 s2 => ?_, fun p0 x0 _ _ H2 _ _ _ _ _ nf _ => absurd fhi nf⟩
    refine ⟨p0, _, rfl, SqT.of hp0, rfl, _, _, rfl, _, _, rfl, rfl, ?_⟩
    refine ⟨fun m σ H3 => ∃ (lo hi : Int) (w9 y : V) (qa : Addr) (sh : Nat → Int) (v12 v13 : Option V), σ = [some (.ref r), some (lateV late), some (.ref wl), some (.int lo), some (.int hi), none, none, none, none, some w9, some (.ref qa), some y, v12, v13] ∧ H3 qa = some (.tup (levL hs.length sh)) ∧ 0 ≤ lo ∧ lo ≤ hi ∧ Shf hs bs late hi sh ∧ (∀ T', 0 ≤ T' → T' < lo → ¬ FA hs bs late T') ∧ BarV hs bs late lo H3 y ∧ m = (hi - lo).toNat ∧ Same H1 H3, ⟨_, 0, hi, _, _, q0, sh0, _, _, rfl, hq0, Int.le_refl _, hi0, so0, (fun T' a b => by omega), .inl ⟨rfl, rfl⟩, rfl, s2⟩, ?_⟩
    rintro m σ H3 ⟨lo, hi, w9, y, qa, sh, v12, v13, rfl, hqa, lo0, lohi, fhi, no, bV, rfl, s3⟩
    refine ⟨_, rfl, _, rfl, _, _, rfl, rfl, _, rfl, if_bl (fun c => ?_) (fun c => ?_)⟩
    · have c : lo < hi := of_decide_eq_true c
      refine ⟨_, fun σ' H' h => h, ?_⟩
      refine ⟨_, rfl, _, rfl, _, _, rfl, rfl, _, _, rfl, rfl, ⟨by decide, by decide⟩, ?_⟩
      have mid0 : lo ≤ (lo + hi) / 2 := by omega
      have mid1 : (lo + hi) / 2 < hi := by omega
      refine ⟨_, rfl, _, rfl, _, rfl, _, rfl, r, wl, hs, bs, late, (lo + hi) / 2, yv, ys, rfl, hR.keep (TK.same (s1.trans s3)), ok, s3 _ _ hwl, aly.imp fun _ _ z => z.keep (TK.same s3), aw, fun p1 q1 sh1 H4 hp1 hq1 fa s4 => ?_, fun p1 x1 qv ws H4 hp1 hx1 alw lw br nf s4 => ?_⟩
      · refine ⟨p1, _, rfl, SqT.of hp1, rfl, _, _, rfl, _, _, rfl, rfl, ?_⟩
        refine ⟨_, rfl, rfl, _, rfl, if_bl (fun _ => ?_) (fun z => absurd rfl (of_decide_eq_false z))⟩
        exact ⟨_, rfl, _, rfl, _, by omega, lo, (lo + hi) / 2, _, _, q1, sh1, _, _, rfl, hq1, lo0, mid0, fa, no, bV.keep (TK.same s4), rfl, s3.trans s4⟩
      · refine ⟨p1, _, rfl, SqT.of hp1, rfl, _, _, rfl, _, _, rfl, rfl, ?_⟩
        refine ⟨_, rfl, rfl, _, rfl, if_bl (fun z => ?_) (fun _ => ?_)⟩
        · have := V.str.inj (of_decide_eq_true z)
          exact absurd this (by decide +kernel)
        exact ⟨_, rfl, _, _, rfl, rfl, _, rfl, _, by omega, (lo + hi) / 2 + 1, hi, _, _, qa, sh, _, _, rfl, s4 _ _ hqa, by omega, by omega, fhi, (fun T' a b f => nf (f.mono (by omega))), .inr ⟨by omega, x1, qv, ws, rfl, hx1, alw, lw, by rw [Int.add_sub_cancel]; exact br⟩, rfl, s3.trans s4⟩
    · have c : ¬ lo < hi := of_decide_eq_false c
      refine ⟨_, rfl, _, rfl, _, rfl, (by show 3 ≤ sizeLine; decide), fun p np => ?_⟩
      rw [eD]
      exact q p qa hi sh _ _ upd_same (same_new np _ _ hqa) fhi ⟨fhi.fa, by omega, fun T' a b => no T' a (by omega)⟩ ((show lo = hi by omega) ▸ bV.keep (TK.new np)) ((s1.trans s3).trans (same_new np))
  case tail1 =>
    rintro D' σ' H1 ⟨eD, wl, yv, ys, rfl, hwl, aly, aw, s1⟩
    have lys := aly.length
    have few := aw.few
    refine ⟨_, rfl, wl, rfl, ⟨_, SqL.of hwl⟩, fun D nD => lc_list (K := K) (a := wl) (xs := yv) (fun i H5 => H5 D = some (.lst (((ys.take i).map fun y => y.c.2).map V.int)) ∧ Same H1 H5) ⟨upd_same, same_new nD⟩ (fun i H5 _ ⟨_, s5⟩ => SqL.of (s5 _ _ hwl)) ?_ ?_⟩
    · rintro i x H5 hx ⟨hD, s5⟩
      obtain ⟨y, ey, ⟨t, p, rfl, ht, _⟩⟩ := aly.getL hx
      have il := (List.getElem?_eq_some_iff.mp ey).1
      refine ⟨t, _, rfl, SqT.of (s5 _ _ ht), rfl, ?_⟩
      refine ⟨_, _, rfl, ?_⟩
      refine ⟨_, _, rfl, ?_⟩
      refine ⟨_, _, rfl, ?_⟩
      refine ⟨_, _, rfl, rfl, ?_⟩
      refine ⟨rfl, ?_⟩
      refine yes_in ?_
      refine ⟨_, rfl, _, hD, by rw [List.length_map, List.length_map, List.length_take]; exact small1000 (by omega), ?_, Same.own s5 nD⟩
      rw [upd_same, List.take_add_one, ey, List.map_append, List.map_append]; rfl
    · rintro H5 ⟨hD, s5⟩
      rw [lys, List.take_length] at hD
      have go : ∀ hi : Int, 0 ≤ hi → (∀ y ∈ ys, y.c.2 ≤ hi) → FA hs bs late hi := fun hi _ h => FA.high hrk fun one e c h1 h2 _ => by
        obtain ⟨y, y1, rfl, rfl⟩ := aw.all one e c h1 h2
        have := (aw.ok y y1).b
        rw [h2] at this
        cases this
        exact h y y1
      refine ⟨D, _, V.int 0, rfl, rfl, SqL.of hD, fun e => ?_, fun m hm hle => ?_⟩
      · refine ⟨eD, wl, yv, ys, 0, rfl, s5 _ _ hwl, aly.imp fun _ _ z => z.keep (TK.same s5), aw, Int.le_refl _, go 0 (Int.le_refl _) fun y hy => ?_, s1.trans s5⟩
        have : y.c.2 ∈ ys.map fun y => y.c.2 := List.mem_map.mpr ⟨y, hy, rfl⟩
        rw [e] at this
        cases this
      · have pos : 0 < hs.length := by
          obtain ⟨y, y1, _⟩ := List.mem_map.mp hm
          exact Nat.lt_of_le_of_lt (Nat.zero_le _) (aw.ok y y1).lt
        have m0 : 0 ≤ m := by
          obtain ⟨y, y1, y2⟩ := aw.all 0 0 (0, momH hs 0) pos (best_one hrk)
          have := hle y.c.2 (List.mem_map.mpr ⟨y, y1, rfl⟩)
          have b := (aw.ok y y1).b
          rw [y2.1, y2.2, best_one hrk] at b
          have : (0, momH hs 0) = y.c := Option.some.inj b
          have e2 : y.c.2 = momH hs 0 := by rw [← this]
          have g0 : 0 ≤ momH hs 0 := by
            unfold momH
            rw [List.getElem?_eq_getElem pos]
            exact (ok.good _ (List.getElem_mem _)).2.1
          omega
        exact ⟨eD, wl, yv, ys, m, rfl, s5 _ _ hwl, aly.imp fun _ _ z => z.keep (TK.same s5), aw, m0, go m m0 fun y hy => hle _ (List.mem_map.mpr ⟨y, hy, rfl⟩), s1.trans s5⟩

  refine ⟨_, rfl, r, hs, bs, rfl, hR, ok, fun wl yv ys H1 nwl hwl aly aw s1 => ⟨rfl, wl, yv, ys, rfl, hwl, aly, aw, s1⟩⟩
end
section
variable {P : Program} {w : World} {K : PySem.W.Frag} {mg : Str → Option Value} {base : Heap}
def sp_trays_on (K : PySem.W.Frag) : Sp := fun vs H Q _ => ∃ (r t : Addr) (hs : List HR) (bs : List BR) (k : Nat) (ns : List Nat), vs = [.ref r, .ref t] ∧ RoomAt H r hs bs ∧ WayAt H t k ns ∧ (∀ n ∈ ns, n < bs.length) ∧ ns.length ≤ 400 ∧ ∀ H', Same H H' → Q (.int (ns.map (trB bs)).sum) H'
theorem ok_trays_on {f : Addr} {fd : FuncData} (F : Fun K "trays_on" "trays_on" s_trays_on f fd) (T : Top K mg) : FnOk P w K mg base CX0 1 f fd ["room", "way"] (sp_trays_on K) := by
  refine F.ok sc_trays_on (fun vs H Q E h => ?_) (fun cdv A outer s H vs Q E hr h => ?_)
  · obtain ⟨r, t, hs, bs, k, ns, rfl, _⟩ := h
    rfl
  obtain ⟨r, t, hs, bs, k, ns, rfl, hR, ⟨g, et, eg⟩, hn, ln, q⟩ := h
  obtain ⟨ha, ba, hv, bv, er, eh, eb, alh, alb⟩ := hR.ex
  refine ⟨_, (pss_one (ps_ret (pe_callB (cr_sumK K rfl rfl) (by rfl) T.m_sum (by decide +kernel) (pa_cons (pe_lc (own := [("number", 2)]) (g := gName 2) (tt := tYes) (by rfl) sc_trays_on.nd (pi_tupK K rfl (pe_ix (ix_tupK K rfl) (pv 1) pe_int (fun _ _ => rfl))) (blkOk_by (own := [("number", 2)]) (N := N_trays_on) (sc := defScope s_trays_on) (by decide +kernel)) (fun _ _ _ _ _ => (pg_name (i := 2) sc_trays_on.nd rfl (Or.inl rfl))) (fun _ _ _ _ _ => pts_nil) (fun _ _ _ _ _ => (pe_callB (call_len_seqK K rfl) (by rfl) T.m_len (by decide +kernel) (pa_cons (pe_ix (ix_tupK K rfl) (pe_ix (ix_tupK K rfl) (pe_ix (ix_tupK K rfl) (pv 0) pe_int (fun _ _ => rfl)) (pv 2) (fun _ _ => rfl)) pe_int (fun _ _ => rfl)) pa_nil)))) pa_nil)))), ?_⟩
  refine ⟨_, rfl, t, _, _, _, rfl, rfl, SqT.of et, atI_nat (j := 1) rfl, g, rfl, ⟨_, SqT.of eg⟩, fun D nD => lc_tup (K := K) (a := g) (xs := ns.map nV) (fun i H5 => H5 D = some (.lst (((ns.take i).map (trB bs)).map V.int)) ∧ Same H H5) ⟨upd_same, same_new nD⟩ (fun i H5 _ ⟨_, s5⟩ => SqT.of (s5 _ _ eg)) ?_ ?_⟩
  · rintro i x H5 hx ⟨hD, s5⟩
    obtain ⟨n, en, rfl⟩ := nats_at hx
    have il := (List.getElem?_eq_some_iff.mp en).1
    have nb := hn n (List.mem_of_getElem? en)
    have ebn : bs[n]? = some bs[n] := List.getElem?_eq_getElem nb
    obtain ⟨x, ex, ⟨t2, g2, rfl, e1, e2⟩⟩ := alb.get ebn
    refine ⟨rfl, yes_in ⟨_, rfl, r, _, _, _, rfl, rfl, SqT.of (s5 _ _ er), atI_nat (j := 1) rfl, _, rfl, ba, _, _, _, rfl, rfl, SqT.of (s5 _ _ eb), atI_nat ex, t2, _, _, _, rfl, rfl, SqT.of (s5 _ _ e1), atI_nat (j := 2) rfl, g2, _, rfl, .inr (SqT.of (s5 _ _ e2)), _, hD, ?_, ?_, Same.own s5 nD⟩⟩
    · rw [List.length_map, List.length_map, List.length_take]; exact small1000 (by omega)
    · rw [upd_same, List.take_add_one, en, List.map_append, List.map_append, List.length_map]
      show _ = some (HO.lst (_ ++ [V.int (trB bs n)]))
      unfold trB
      rw [ebn]
  · rintro H5 ⟨hD, s5⟩
    rw [List.length_map, List.take_length] at hD
    exact ⟨D, _, rfl, SqL.of hD, q _ s5⟩
def sp_moments_on (K : PySem.W.Frag) : Sp := fun vs H Q _ => ∃ (r t : Addr) (hs : List HR) (bs : List BR) (k : Nat) (ns : List Nat), vs = [.ref r, .ref t] ∧ RoomAt H r hs bs ∧ (∀ b ∈ bs, b.to < hs.length) ∧ WayAt H t k ns ∧ k < hs.length ∧ (∀ n ∈ ns, n < bs.length) ∧ ns.length ≤ 400 ∧ ∀ H', Same H H' → Q (.int (momW hs bs k ns)) H'
theorem ok_moments_on {f : Addr} {fd : FuncData} (F : Fun K "moments_on" "moments_on" s_moments_on f fd) (T : Top K mg) : FnOk P w K mg base CX0 1 f fd ["room", "way"] (sp_moments_on K) := by
  refine F.ok sc_moments_on (fun vs H Q E h => ?_) (fun cdv A outer s H vs Q E hr h => ?_)
  · obtain ⟨r, t, hs, bs, k, ns, rfl, _⟩ := h
    rfl
  obtain ⟨r, t, hs, bs, k, ns, rfl, hR, hto, ⟨g, et, eg⟩, hk, hn, ln, q⟩ := h
  obtain ⟨ha, ba, hv, bv, er, eh, eb, alh, alb⟩ := hR.ex
  refine ⟨_, (pss_cons (ps_asg (pv 0) (pg_tupK K rfl rfl (pgs_cons (pg_name (i := 2) sc_moments_on.nd rfl (Or.inr rfl)) (pgs_cons (pg_name (i := 3) sc_moments_on.nd rfl (Or.inr rfl)) pgs_nil))))
      (pss_cons (ps_asg (pv 1) (pg_tupK K rfl rfl (pgs_cons (pg_name (i := 4) sc_moments_on.nd rfl (Or.inl rfl)) (pgs_cons (pg_name (i := 5) sc_moments_on.nd rfl (Or.inl rfl)) pgs_nil))))
      (pss_one (ps_ret (pe_op op_add (pe_ix (ix_tupK K rfl) (pe_ix (ix_tupK K rfl) (pv 2) (pv 4) (fun _ _ => rfl)) pe_int (fun _ _ => rfl)) (pe_callB (cr_sumK K rfl rfl) (by rfl) T.m_sum (by decide +kernel) (pa_cons (pe_lc (own := [("number", 6)]) (g := gName 6) (tt := tYes) (by rfl) sc_moments_on.nd (pi_tupK K rfl (pv 5)) (blkOk_by (own := [("number", 6)]) (N := N_moments_on) (sc := defScope s_moments_on) (by decide +kernel)) (fun _ _ _ _ _ => (pg_name (i := 6) sc_moments_on.nd rfl (Or.inl rfl))) (fun _ _ _ _ _ => pts_nil) (fun _ _ _ _ _ => (pe_ix (ix_tupK K rfl) (pe_ix (ix_tupK K rfl) (pv 2) (pe_ix (ix_tupK K rfl) (pe_ix (ix_tupK K rfl) (pv 3) (pv 6) (fun _ _ => rfl)) pe_int (fun _ _ => rfl)) (fun _ _ => rfl)) pe_int (fun _ _ => rfl)))) pa_nil))))))), ?_⟩
  refine ⟨_, rfl, r, _, rfl, SqT.of er, rfl, _, _, rfl, _, _, rfl, rfl, ?_⟩
  refine ⟨_, rfl, t, _, rfl, SqT.of et, rfl, _, _, rfl, _, _, rfl, rfl, ?_⟩
  have ehk : hs[k]? = some hs[k] := List.getElem?_eq_getElem hk
  obtain ⟨x0, ex0, ⟨t0, r0, rfl, e01, e02⟩⟩ := alh.get ehk
  refine ⟨_, rfl, _, rfl, ha, _, _, _, rfl, rfl, SqT.of eh, atI_nat ex0, t0, _, _, _, rfl, rfl, SqT.of e01, atI_nat (j := 1) rfl, ?_⟩
  refine ⟨_, rfl, g, rfl, ⟨_, SqT.of eg⟩, fun D nD => lc_tup (K := K) (a := g) (xs := ns.map nV) (fun i H5 => H5 D = some (.lst (((ns.take i).map fun n => momH hs (toB bs n)).map V.int)) ∧ Same H H5) ⟨upd_same, same_new nD⟩ (fun i H5 _ ⟨_, s5⟩ => SqT.of (s5 _ _ eg)) ?_ ?_⟩
  · rintro i x H5 hx ⟨hD, s5⟩
    obtain ⟨n, en, rfl⟩ := nats_at hx
    have il := (List.getElem?_eq_some_iff.mp en).1
    have nb := hn n (List.mem_of_getElem? en)
    have ebn : bs[n]? = some bs[n] := List.getElem?_eq_getElem nb
    obtain ⟨x, ex, ⟨t2, g2, rfl, e1, e2⟩⟩ := alb.get ebn
    have tb := hto _ (List.getElem_mem nb)
    have eht : hs[bs[n].to]? = some hs[bs[n].to] := List.getElem?_eq_getElem tb
    obtain ⟨y, ey, ⟨t3, r3, rfl, e31, e32⟩⟩ := alh.get eht
    refine ⟨rfl, yes_in ⟨_, rfl, _, rfl, _, rfl, ba, _, _, _, rfl, rfl, SqT.of (s5 _ _ eb), atI_nat ex, t2, _, _, _, rfl, rfl, SqT.of (s5 _ _ e1), atI_nat (j := 1) rfl, ha, _, _, _, rfl, rfl, SqT.of (s5 _ _ eh), atI_nat ey, t3, _, _, _, rfl, rfl, SqT.of (s5 _ _ e31), atI_nat (j := 1) rfl, _, hD, ?_, ?_, Same.own s5 nD⟩⟩
    · rw [List.length_map, List.length_map, List.length_take]; exact small1000 (by omega)
    · rw [upd_same, List.take_add_one, en, List.map_append, List.map_append]
      show _ = some (HO.lst (_ ++ [V.int (momH hs (toB bs n))]))
      unfold momH toB
      rw [ebn]
      dsimp only
      rw [eht]
  · rintro H5 ⟨hD, s5⟩
    rw [List.length_map, List.take_length] at hD
    refine ⟨D, _, rfl, SqL.of hD, _, _, rfl, rfl, ?_⟩
    have := q _ s5
    unfold momW at this
    rw [show momH hs k = hs[k].mom by unfold momH; rw [ehk]] at this
    exact this
end
/-! ### max(xs, key=lambda x: ..), the lambda over a name of the def around it -/
/-- one answer of the lambda: in its own frame, the caller's things as they are -/
def KeyBody (X : Cx) (scope : Scope) (body : Expr) (x : Str) (KA : L2.St → Hp → Int → Int → Prop) : Prop :=
  ∀ (pins : List (Addr × Obj)) (σ : L2.St) (H : Hp) (A' : Around) (env' : Env) (E' : Value → Shared → Prop) (z : Shared) (n k : Int) (t : Tok), Inv X pins σ H z → A'.units + 1 < cLine → env'.scope = scope → env'.cells = cloFrom X.env.cells scope.names [] →
    z.heap.Ns env'.locals (fun y => ([(x, Value.int n t)] : List (Str × Value)).lookup y) → KA σ H n k → wpAny (model X.prog X.w) A' (eval body env') (fun y z' => (∃ t', y = .int k t') ∧ ∃ tk, z' = { z with toks := tk }) E' z
/-- a state that keeps all that stood -/
def Grown (s z : Shared) : Prop := ∃ (h' : Heap) (tk : Nat), z = { s with heap := h', toks := tk } ∧ ∀ b o, s.heap.get? b = some o → h'.get? b = some o
theorem Grown.refl (s : Shared) : Grown s s := ⟨s.heap, s.toks, rfl, fun _ _ e => e⟩
theorem Grown.kp {s z : Shared} (g : Grown s z) : ∀ b o, s.heap.get? b = some o → z.heap.get? b = some o := by
  obtain ⟨h', tk, rfl, k⟩ := g
  exact k
structure LamShape (params : Arguments) (body : Expr) (scope : Scope) (x : Str) : Prop where
  bnd : ∀ (q : Str) (cl : List (Str × Addr)) (pm cdv ct v : Value), bindArgs (PySem.W.kla_fn "<lambda>" q params body scope cl pm cdv ct) ⟨[v], []⟩ = pure [(x, v)]
  loc : scope.names.lookup x = some .local
  co : scope.isCoroutine = false
  gen : scope.isGenerator = false
  kind : scope.kind = .function
  cell : ∀ y ∈ scope.names, y.2 ≠ .cell
theorem lam_call {X : Cx} {pins : List (Addr × Obj)} {σ : L2.St} {H : Hp} {s z : Shared} {A' : Around} {E' : Value → Shared → Prop} {params : Arguments} {body : Expr} {scope : Scope} {x : Str} {KA : L2.St → Hp → Int → Int → Prop} {f c' : Addr} {q : Str} {pm ctv : Value} {n k : Int} {t : Tok}
    (L : LamShape params body scope x) (B : KeyBody X scope body x KA) (I : Inv X pins σ H s) (g : Grown s z) (hf : s.heap.get? f = some (PySem.W.kla_obj "<lambda>" q params body scope (cloFrom X.env.cells scope.names []) pm c' ctv)) (hc : s.heap.CodeRec (.ref c') q)
    (dep : A'.depth < recursionLimit) (un : ∀ e : Env, (A'.deeper e).units + 1 < cLine) (ka : KA σ H n k) :
    wpAny (model X.prog X.w) A' (call (.ref f) [.int n t]) (fun y z' => (∃ t', y = .int k t') ∧ Grown z z') E' z := by
  obtain ⟨h', tk, rfl, kp⟩ := g
  have hc2 : Heap.CodeRec h' (.ref c') q := by
    obtain ⟨c0, oc, vs, tq, e0, e1, e2, e3⟩ := hc
    exact ⟨c0, oc, vs, tq, e0, kp _ _ e1, e2, e3⟩
  refine wpAny_call (PySem.W.kla_callFunE dep (kp _ _ hf) rfl L.co L.gen rfl hc2 ?_)
  rw [L.bnd]
  refine wpAny_pure (wpAny_newFunctionEnv L.cell (fun y hy => ?_) (fun h1 hns hsb => ?_) L.kind)
  · rw [List.mem_singleton.mp hy]
    exact L.loc
  have grew : ∀ b o, h'.get? b = some o → h1.get? b = some o := fun b o e => hsb.extBut b o (Nat.ne_of_lt (Heap.lt_size e)) (Heap.get?_push_of_some _ e)
  have J : Inv X pins σ H { s with heap := h1, toks := tk + 1 } := I.kept fun b o e => grew b o (kp b o e)
  refine ⟨J.nolimit, PySem.W.kla_codeExpr ?_⟩
  refine wpAny_mono (B pins σ H _ _ _ { s with heap := h1, toks := tk + 1 } n k t J (un _) rfl rfl hns ka) (fun y z' r => ?_) fun _ _ e => e
  obtain ⟨e1, tk2, rfl⟩ := r
  exact ⟨e1, h1, tk2, rfl, grew⟩
def tMaxKey (K : PySem.W.Frag) (T : List (Addr × Str)) (KA : L2.St → Hp → Int → Int → Prop) (te : TE) : TE := fun σ H Q => te σ H fun v H1 => ∃ (a : Addr) (ns : List Int) (kf : Int → Int), v = .ref a ∧ SqL K H1 a (ns.map V.int) ∧ 0 < ns.length ∧ LamX.Tabs T H1 ∧
  ∀ H2, LamX.ExtN H1 H2 → LamX.Tabs T H2 → SqL K H2 a (ns.map V.int) ∧ (∀ n ∈ ns, KA σ H2 n (kf n)) ∧ ∀ m, m ∈ ns → (∀ y ∈ ns, kf y ≤ kf m) → Q (.int m) H2
theorem ints_val2 {ns : List Int} {its : List Value} (rv : Vals (ns.map V.int) its) : ∀ i v, its.toArray[i]? = some v → i < ns.length ∧ ∃ t, v = Value.int (ns.getD i 0) t := fun i v e => by
  rw [List.getElem?_toArray] at e
  have il : i < ns.length := by
    have h1 := (List.getElem?_eq_some_iff.mp e).1
    have h2 := rv.length
    rw [List.length_map] at h2
    omega
  obtain ⟨u, eu, t, ru⟩ := rv.get (i := i) (x := .int ns[i]) (by rw [List.getElem?_map, List.getElem?_eq_getElem il]; rfl)
  rw [e] at eu
  cases eu
  exact ⟨il, t, by rw [ru, List.getD_eq_getElem?_getD, List.getElem?_eq_getElem il]; rfl⟩
theorem pe_maxLam {X : Cx} (K : PySem.W.Frag) (hK : X.K = K) {T : List (Addr × Str)} {c P : Addr} {e : Expr} {te : TE} {params : Arguments} {body : Expr} {scope : Scope} {lpos kpos p pos : Pos} {x : Str} {KA : L2.St → Hp → Int → Int → Prop} {k : Nat}
    (hc : X.calm = true) (hr : Room k X.A) (hk : 2 ≤ k) (hg : Gl X "max") (hm : X.mg "max" = none) (TB : LamX.TabB X.base X.mg c P) (hcode : X.env.code = .ref c) (hT1 : (P, X.env.qual ++ "<lambda>") ∈ T) (hT2 : ∀ q ∈ T, q.1 = P → q.2 = X.env.qual ++ "<lambda>")
    (hdef : defaultsOf params X.env = ([], [])) (hfree : ∀ y ∈ scope.names, y.2 = .free → ∃ d, X.env.cells.lookup y.1 = some d) (L : LamShape params body scope x) (B : KeyBody X scope body x KA) (he : PE X e te)
    (hbt : backTo pos (starEach [e] X.env) = (false, eval e X.env) :: backTo pos (starEach [] X.env) := by rfl) (hpl : (backTo pos (starEach [e] X.env)).any (·.1) = false := by rfl) :
    PE X (.Call (.Name "max" p) [e] [⟨some "key", .Lambda params body scope lpos, kpos⟩] pos) (tMaxKey K T KA te) := by
  subst hK
  refine ⟨fun pins s σ H Q I h => ?_⟩
  have hbm : bootBuiltins ("max" : Str) = some (.builtin "max") := by decide +kernel
  refine wpAny_Call_Name_kw (ld_blt I hg hm hbm ?_)
  refine PyProof.Rows.callWith_kw ?_ hbt hpl rfl rfl
  rw [hbt]
  refine Calls.spliced_cons (thn (he.run pins s σ H _ I h) fun u s1 ⟨v, H1, I1, rv, now⟩ => Calls.spliced_nil ?_)
  obtain ⟨a, ns, kf, ev, hq, pos0, tabs, fin⟩ := now
  subst ev
  obtain rfl : u = Value.ref a := rv
  show wpAny _ _ (evalAll [(do let v ← eval (.Lambda params body scope lpos) X.env; standAt pos; pure v)]) _ _ s1
  refine wpAny_evalAll_cons (wpAny_bind (LamX.lam_make2 I1 TB hcode hT1 hT2 tabs hdef hfree fun f c' pm ctv H2 s2 I2 ext tabs2 hf nf nst hco => wpAny_bind (wpAny_standAt (wpAny_pure (wpAny_evalAll_nil ?_)))))
  obtain ⟨hq2, keys, fin⟩ := fin H2 ext tabs2
  obtain ⟨its, rvs, hl, _⟩ := I2.list hq2
  have ln : its.length = ns.length := by rw [← rvs.length, List.length_map]
  have hh := I2.ok.hd hc
  have codeR : s2.heap.CodeRec (.ref c') (X.env.qual ++ "<lambda>") := by
    obtain ⟨⟨oc, vs, tq, g1, g2, g3⟩, _⟩ := I2.hok c' _ hco
    exact ⟨c', oc, vs, tq, rfl, g1, g2, g3⟩
  have dep := hr.dp
  show wpAny _ _ (call (.builtin "max") [.ref a] [(Str.ofString "key", .ref f)]) _ _ s2
  refine PySem.call_max_walkK (PySem.W.iter_listW (A := X.A.in1) hh hl.isList fun s₂ es W st hfp hw hkp => ?_)
  refine ⟨_, _, _, _, _, _, _, Grown s2, (fun i kv _ => ∃ t, kv = Value.int (kf (ns.getD i 0)) t), (fun i j => decide (kf (ns.getD i 0) > kf (ns.getD j 0))), rfl, W, st, hfp, ?_, ⟨fun z z' g m => ?_, fun i kv z z' r _ => r, fun i vi z o Qt Et hi hP g hst hS now => ?_, fun i j ki kj z Qc Ec g ri rj now => ?_⟩, ?_, fun v z hP g => ?_⟩
  · rw [List.size_toArray, ln]; exact pos0
  · obtain ⟨h', tk, rfl, kp⟩ := g
    refine ⟨z'.heap, z'.toks, ?_, fun b o eb => m.heap b o (fun hb => ?_) (kp b o eb)⟩
    · obtain ⟨hp, gs, dr, tk2, os⟩ := z'
      obtain rfl : gs = s2.gens := m.gens
      obtain rfl : dr = s2.drawn := m.drawn
      obtain rfl : os = s2.os := m.os
      rfl
    · have lt := Heap.lt_size eb
      have sz : s₂.heap.objs.size = s2.heap.objs.size + 1 := by rw [es]; exact Heap.size_push ..
      have either : b = s₂.heap.objs.size ∨ b = s2.heap.objs.size := by simpa using hb
      rcases either with w | w
      · rw [w, sz] at lt
        exact Nat.lt_irrefl _ (Nat.lt_trans (Nat.lt_succ_self _) lt)
      · rw [w] at lt
        exact Nat.lt_irrefl _ lt
  · obtain ⟨il, t, rfl⟩ := ints_val2 rvs i vi hP
    have mem : ns.getD i 0 ∈ ns := by
      rw [List.getD_eq_getElem?_getD, List.getElem?_eq_getElem il]
      exact List.getElem_mem _
    refine wpAny_mono (lam_call L B I2 g hf codeR (show X.A.in1.depth < recursionLimit from by show X.A.depth < _; omega) (fun e => by have := hr.un; show X.A.units + 1 + 3 + 1 < cLine; omega) (keys _ mem)) (fun y z' r => ?_) fun _ _ e => e
    obtain ⟨e1, gr⟩ := r
    have kp := gr.kp
    obtain ⟨h', tk, ez, kp0⟩ := g
    obtain ⟨h2, tk2, ez2, _⟩ := gr
    have gz : Grown s2 z' := by
      subst ez
      subst ez2
      exact ⟨h2, tk2, rfl, fun b o q => kp b o (kp0 b o q)⟩
    refine now y z' gz ⟨?_, ?_⟩ (kp _ _ hS) e1 fun j k' q => q
    · obtain ⟨o1, ho1, r1⟩ := hst.1
      exact ⟨o1, kp _ _ ho1, r1⟩
    · obtain ⟨o1, ho1, r1⟩ := hst.2
      exact ⟨o1, kp _ _ ho1, r1⟩
  · exact (CmpOf.ints_gt (P := fun i kv => ∃ t, kv = Value.int (kf (ns.getD i 0)) t) (fun i => kf (ns.getD i 0)) (fun _ _ q => q)) i j ki kj z Qc Ec ri rj now
  · exact ⟨s₂.heap, s2.toks, by rw [es], hkp⟩
  · obtain ⟨h', tk, rfl, kp⟩ := g
    obtain ⟨il, t, rfl⟩ := ints_val2 rvs _ v hP
    obtain ⟨b1, b2⟩ := argBest_gt (fun i => kf (ns.getD i 0)) (its.toArray.size - 1)
    have hsz : its.toArray.size = its.length := List.size_toArray
    refine ⟨.int _, H2, I2.kept kp, ⟨_, rfl⟩, fin _ ?_ fun y hy => ?_⟩
    · rw [List.getD_eq_getElem?_getD, List.getElem?_eq_getElem il]
      exact List.getElem_mem _
    · obtain ⟨j, hj⟩ := List.getElem?_of_mem hy
      have jl := (List.getElem?_eq_some_iff.mp hj).1
      have := b2 j (by omega)
      rw [show ns.getD j 0 = y by rw [List.getD_eq_getElem?_getD, hj]; rfl] at this
      exact this
/-! ### what such lambdas say -/
/-- a name of the def around, as the lambda sees it -/
structure Sees (X : Cx) (scope : Scope) (x y : Str) (i : Nat) : Prop where
  at_ : X.N[i]? = some y
  vis : Vis X.env.scope y
  out : X.env.kindOf y ≠ some .local
  kind : scope.kind = .function
  kx : scope.names.lookup x = some .local
  ky : scope.names.lookup y = some .free
  clo : ∀ cells : List (Str × Addr), (cloFrom cells scope.names []).lookup y = some ((cells.lookup y).getD 0)
  dx : (x == ("__debug__" : Str)) = false
  dy : (y == ("__debug__" : Str)) = false
  cy : (y == ("__classdict__" : Str)) = false
theorem Sees.load {X : Cx} {scope : Scope} {x y : Str} {i : Nat} (S : Sees X scope x y i) {pins : List (Addr × Obj)} {σ : L2.St} {H : Hp} {A' : Around} {env' : Env} {E' : Value → Shared → Prop} {z : Shared} {v : V} {p : Pos} {Q : Value → Shared → Prop} (I : Inv X pins σ H z) (es : env'.scope = scope) (ec : env'.cells = cloFrom X.env.cells scope.names []) (hv : σ[i]? = some (some v))
    (h : ∀ u, RelV v u → Q u z) : wpAny (model X.prog X.w) A' (eval (.Name y p) env') Q E' z := by
  obtain ⟨m, _, look⟩ := I.loc
  obtain ⟨u, ru, l⟩ := look i y v S.at_ hv S.vis
  rcases l with ⟨l, _⟩ | ⟨_, d, hd, hc⟩
  · exact absurd l S.out
  · refine wpAny_Name (wpAny_loadName_free (c := d) (by rw [es]; exact S.kind) (show env'.scope.names.lookup y = _ by rw [es]; exact S.ky) ?_ hc (h u ru) S.cy) S.dy
    rw [ec, S.clo, hd]
    rfl
theorem Sees.arg {X : Cx} {scope : Scope} {x y : Str} {i : Nat} (S : Sees X scope x y i) {A' : Around} {env' : Env} {E' : Value → Shared → Prop} {z : Shared} {n : Int} {t : Tok} {p : Pos} {Q : Value → Shared → Prop} (es : env'.scope = scope) (ns : z.heap.Ns env'.locals (fun y => ([(x, Value.int n t)] : List (Str × Value)).lookup y))
    (h : Q (.int n t) z) : wpAny (model X.prog X.w) A' (eval (.Name x p) env') Q E' z := by
  refine wpAny_Name (wpAny_loadName_local (by rw [es]; exact S.kind) (show env'.scope.names.lookup x = _ by rw [es]; exact S.kx) ns ?_ h) S.dx
  show (match x == x with | true => some (Value.int n t) | false => none) = some (Value.int n t)
  rw [beq_self_eq_true]
/-- lambda x: y[x], y a dict -/
def kaDict (i : Nat) : L2.St → Hp → Int → Int → Prop := fun σ H n k => ∃ (d : Addr) (kvs : List (Key × V)), σ[i]? = some (some (.ref d)) ∧ H d = some (.dK kvs) ∧ valV kvs (.inl n) = some (.int k)
theorem body_dict {X : Cx} {scope : Scope} {x y : Str} {i : Nat} {p1 p2 p3 : Pos} (S : Sees X scope x y i) (ns : NoSl (.Name x p2)) : KeyBody X scope (.Subscript (.Name y p1) (.Name x p2) p3) x (kaDict i) := by
  intro pins σ H A' env' E' z n k t I un es ec nz ka
  obtain ⟨d, kvs, hd, hH, hv⟩ := ka
  refine subD_of PySem.F.slot_dict_getitem.lookup ns (S.load I es ec hd fun u ru => S.arg es nz ?_)
  obtain rfl : u = Value.ref d := ru
  obtain ⟨_, _, vals, kv, dict⟩ := dk_of I.hok hH
  obtain ⟨w', hw, rw'⟩ := RelO.some_of (v := .int k) (o := valueAt vals (.inl n)) (by rw [← hv]; exact kv.val _)
  refine ⟨dict.typeIs, wpAny_getItem_of (kV_is (k := .inl n) ⟨t, rfl⟩) dict.mapOf hw ⟨rw', _, rfl⟩⟩
/-- lambda x: y[x][1], y a tuple of tuples -/
def kaTup (K : PySem.W.Frag) (i : Nat) : L2.St → Hp → Int → Int → Prop := fun σ H n k => ∃ (a b : Addr) (xs ys : List V), σ[i]? = some (some (.ref a)) ∧ SqT K H a xs ∧ atI xs n = some (.ref b) ∧ SqT K H b ys ∧ atI ys 1 = some (.int k)
theorem tup_item {X : Cx} {pins : List (Addr × Obj)} {σ : L2.St} {H : Hp} {A' : Around} {E' : Value → Shared → Prop} {z : Shared} {a : Addr} {xs : List V} {n : Int} {t : Tok} {v : V} {Q : Value → Shared → Prop} (I : Inv X pins σ H z) (hs : SqT X.K H a xs) (hv : atI xs n = some v)
    (h : ∀ u, RelV v u → Q u z) : z.TypeIs (.ref a) "tuple" ∧ wpAny (model X.prog X.w) A' (getItem (.ref a) (.int n t)) Q E' z := by
  obtain ⟨items, rel, tup, small⟩ := I.tuple hs
  obtain ⟨j, i1, i2, i3, i4, i5⟩ := atI_get hv
  obtain ⟨u, hu, ru⟩ := rel.get i2
  have len := rel.length
  have big := line63
  exact ⟨tup.typeIs, PyProof.Rows.getItem_tuple (j := j) tup (by omega) (by omega) (by rw [List.size_toArray, ← len]; exact i1) (by simpa using hu) (h u ru)⟩
theorem body_tup {X : Cx} {scope : Scope} {x y : Str} {i j : Nat} {p1 p2 p3 p4 p5 : Pos} (S : Sees X scope x y i) (n1 : NoSl (.Name x p2)) (n2 : NoSl (.Constant (.int 1) j p4)) : KeyBody X scope (.Subscript (.Subscript (.Name y p1) (.Name x p2) p3) (.Constant (.int 1) j p4) p5) x (kaTup X.K i) := by
  intro pins σ H A' env' E' z n k t I un es ec nz ka
  obtain ⟨a, b, xs, ys, ha, hx, hb, hy, hk⟩ := ka
  refine subD_of slot_tuple_getitem.lookup n2 (subD_of slot_tuple_getitem.lookup n1 (S.load I es ec ha fun u ru => S.arg es nz ?_))
  obtain rfl : u = Value.ref a := ru
  refine tup_item I hx hb fun u2 ru2 => wpAny_Constant_int ?_
  obtain rfl : u2 = Value.ref b := ru2
  exact tup_item (I.tok _) hy hk fun u3 ru3 => ⟨ru3, _, rfl⟩
theorem free_one {names : List (Str × NameKind)} {cells : List (Str × Addr)} {y : Str} {d : Addr} (h : (names.filter fun p => p.2 == NameKind.free) = [(y, NameKind.free)]) (hd : cells.lookup y = some d) : ∀ p ∈ names, p.2 = .free → ∃ d, cells.lookup p.1 = some d := fun p hp e => by
  have : p ∈ names.filter fun p => p.2 == NameKind.free := List.mem_filter.mpr ⟨hp, by rw [e]; rfl⟩
  rw [h] at this
  rw [List.mem_singleton.mp this]
  exact ⟨d, hd⟩
theorem ExtN.tk {H H' : Hp} (e : LamX.ExtN H H') : TK H H' := fun b xs h => e b _ h (fun _ z => nomatch z)
theorem ExtN.lst {H H' : Hp} {a : Addr} {xs : List V} (e : LamX.ExtN H H') (h : H a = some (.lst xs)) : H' a = some (.lst xs) := e a _ h (fun _ z => nomatch z)
theorem ExtN.dic {H H' : Hp} {a : Addr} {kvs : List (Key × V)} (e : LamX.ExtN H H') (h : H a = some (.dK kvs)) : H' a = some (.dK kvs) := e a _ h (fun _ z => nomatch z)
theorem ExtN.flow {H H' : Hp} {f c : Addr} (e : LamX.ExtN H H') (h : Flow H f c) : Flow H' f c := by
  obtain ⟨ns, i, p, q, r, e1, e2, rest⟩ := h
  exact ⟨ns, i, p, q, r, ExtN.lst e e1, ExtN.lst e e2, rest⟩
theorem ExtN.same {H H' : Hp} (s : Same H H') : LamX.ExtN H H' := LamX.ExtN.of s
theorem tabs_same {T : List (Addr × Str)} {H H' : Hp} (t : LamX.Tabs T H) (s : Same H H') : LamX.Tabs T H' := t.ext s
theorem tabs_lst {T : List (Addr × Str)} {H : Hp} {l : Addr} {xs ys : List V} (t : LamX.Tabs T H) (h : H l = some (.lst xs)) : LamX.Tabs T (upd H l (.lst ys)) := fun p hp => by
  obtain ⟨ps, h1, h2, h3⟩ := t p hp
  have ne : ∀ b o, H b = some o → (∀ zs, o ≠ .lst zs) → upd H l (.lst ys) b = some o := fun b o e n => by
    rw [upd_ne (fun z => by rw [z, h] at e; cases e; exact n _ rfl)]
    exact e
  refine ⟨ps, ne _ _ h1 (fun _ z => nomatch z), h2, fun pos cv hc => ?_⟩
  obtain ⟨c, e1, e2⟩ := h3 pos cv hc
  exact ⟨c, e1, ne _ _ e2 (fun zs z => by unfold LamX.CodeO at z; cases z)⟩
theorem tabs_but {T : List (Addr × Str)} {H H' : Hp} {f c : Addr} (t : LamX.Tabs T H) (F : Flow H f c) (b : But f H H') : LamX.Tabs T H' := fun p hp => by
  obtain ⟨ps, h1, h2, h3⟩ := t p hp
  obtain ⟨ns, i, a, q, r, e1, _⟩ := F
  have ne : ∀ d o, H d = some o → (∀ zs, o ≠ .lst zs) → H' d = some o := fun d o e n => b d o e (fun z => by rw [z, e1] at e; cases e; exact n _ rfl)
  refine ⟨ps, ne _ _ h1 (fun _ z => nomatch z), h2, fun pos cv hc => ?_⟩
  obtain ⟨c, g1, g2⟩ := h3 pos cv hc
  exact ⟨c, g1, ne _ _ g2 (fun zs z => by unfold LamX.CodeO at z; cases z)⟩
/-- a def of which the code object is known -/
theorem ok_code {P : Program} {w : World} {K : PySem.W.Frag} {mg : Str → Option Value} {base : Heap} {x qual : Str} {st : Stmt} {f c : Addr} {fd : FuncData} {N ps : List Str} {k : Nat} {sp : Sp} (F : Fun K x qual st f fd) (hc : fd.code = .ref c) (S : FnScope N ps (defScope st)) (len : ∀ vs H Q E, sp vs H Q E → vs.length = ps.length)
    (hbody : ∀ (A : Around) (outer : List Env) (s : Shared) (H : Hp) (vs : List V) (Q : VK) (E : XK), Room k (A.deeper (envOfC qual (defScope st) s.heap.objs.size f (.ref c))) → sp vs H Q E →
      ∃ t, PSs (cxOf CX0 P w K mg base N qual (defScope st) f (.ref c) A outer s H E).nox (defBody st) t ∧ t { nx := fun _ H' => Q .non H', rt := Q } (start N vs) H) : FnOk P w K mg base CX0 (k + 1) f fd ps sp := by
  obtain ⟨kl, kd, kV, dc, pm, an, cv, ct, ks, rfl, look, cin⟩ := F.ex
  obtain rfl : cv = .ref c := hc
  refine fn_of look cin S len fun A outer s H vs Q E hr now => ?_
  obtain ⟨t, h, q⟩ := hbody A outer s H vs Q E hr now
  exact ⟨t, h.nox, q⟩
/-! ### beats: mathematics -/
def oneB (bs : List BR) (n : Nat) : Nat := match bs[n]? with | some b => b.one | none => 0
/-- the steps that belts ask for, where a by b is to be held down -/
def bstep (hs : List HR) (a b : Int) (x : BR) : St3 := ⟨x.one, x.to, b * momH hs x.one - a * (x.th.length : Int)⟩
def rmom (hs : List HR) (bs : List BR) (ns : List Nat) : Int := (ns.map fun n => momH hs (toB bs n)).sum
def rtr (bs : List BR) (ns : List Nat) : Int := (ns.map (trB bs)).sum
theorem bstep_end {hs : List HR} {bs : List BR} {a b : Int} : ∀ {ks : List Nat} {p : Nat}, stepEnd (bs.map (bstep hs a b)) p ks = wayEnd bs p ks
  | [], p => rfl
  | k :: ks, p => by
    cases e : bs[k]? with
    | none =>
      show (match (bs.map (bstep hs a b))[k]? with | some s => if s.u = p then stepEnd (bs.map (bstep hs a b)) s.v ks else none | none => none) = (match bs[k]? with | some b => if b.one = p then wayEnd bs b.to ks else none | none => none)
      rw [List.getElem?_map, e]
      rfl
    | some x =>
      rw [wayEnd_cons e, stepEnd_cons (s := bstep hs a b x) (by rw [List.getElem?_map, e]; rfl)]
      show (if x.one = p then stepEnd (bs.map (bstep hs a b)) x.to ks else none) = _
      rw [bstep_end]
theorem bstep_w {hs : List HR} {bs : List BR} {a b : Int} {k : Nat} (h : k < bs.length) : wS (bs.map (bstep hs a b)) k = b * momH hs (oneB bs k) - a * trB bs k := by
  unfold wS oneB trB
  rw [List.getElem?_map, List.getElem?_eq_getElem h]
  rfl
theorem ones_tos {hs : List HR} {bs : List BR} : ∀ {ns : List Nat} {k e : Nat}, wayEnd bs k ns = some e → (ns.map fun n => momH hs (oneB bs n)).sum + momH hs e = momH hs k + rmom hs bs ns
  | [], k, e, h => by cases h; show 0 + _ = _ + 0; omega
  | n :: ns, k, e, h => by
    cases eb : bs[n]? with
    | none =>
      have : wayEnd bs k (n :: ns) = none := by
        show (match bs[n]? with | some b => if b.one = k then wayEnd bs b.to ns else none | none => none) = none
        rw [eb]
      rw [this] at h; cases h
    | some b =>
      rw [wayEnd_cons eb] at h
      by_cases z : b.one = k
      · rw [if_pos z] at h
        have ih := ones_tos (hs := hs) h
        have e1 : oneB bs n = k := by unfold oneB; rw [eb]; exact z
        have e2 : toB bs n = b.to := by unfold toB; rw [eb]
        unfold rmom at ih ⊢
        rw [List.map_cons, List.sum_cons, List.map_cons, List.sum_cons, e1, e2]
        omega
      · rw [if_neg z] at h; cases h
theorem ring_w {hs : List HR} {bs : List BR} {a b : Int} {ks : List Nat} (lt : ∀ k ∈ ks, k < bs.length) : (ks.map (wS (bs.map (bstep hs a b)))).sum = b * (ks.map fun n => momH hs (oneB bs n)).sum - a * rtr bs ks := by
  induction ks with
  | nil => show (0 : Int) = b * 0 - a * 0; omega
  | cons k ks ih =>
    have ih := ih fun x hx => lt x (List.mem_cons_of_mem _ hx)
    unfold rtr at ih ⊢
    rw [List.map_cons, List.sum_cons, List.map_cons, List.sum_cons, List.map_cons, List.sum_cons, bstep_w (lt k (List.mem_cons_self ..)), ih, Int.mul_add, Int.mul_add]
    omega
theorem trB_nn {bs : List BR} {n : Nat} : 0 ≤ trB bs n := by
  unfold trB
  cases bs[n]? with
  | none => exact Int.le_refl _
  | some b => exact Int.natCast_nonneg _
theorem rtr_nn {bs : List BR} : ∀ {ns : List Nat}, 0 ≤ rtr bs ns
  | [] => Int.le_refl _
  | n :: ns => by
    have ih := rtr_nn (bs := bs) (ns := ns)
    have := trB_nn (bs := bs) (n := n)
    unfold rtr at ih ⊢
    rw [List.map_cons, List.sum_cons]
    omega
theorem bway_rank {bs : List BR} {rk : Nat → Int} (hr : ∀ b ∈ bs, b.th = [] → rk b.one < rk b.to) : ∀ {ns : List Nat} {k e : Nat}, wayEnd bs k ns = some e → rtr bs ns = 0 → rk k + (ns.length : Int) ≤ rk e
  | [], k, e, h, _ => by cases h; show rk k + 0 ≤ rk k; omega
  | n :: ns, k, e, h, t => by
    cases eb : bs[n]? with
    | none =>
      have : wayEnd bs k (n :: ns) = none := by
        show (match bs[n]? with | some b => if b.one = k then wayEnd bs b.to ns else none | none => none) = none
        rw [eb]
      rw [this] at h; cases h
    | some b =>
      rw [wayEnd_cons eb] at h
      by_cases z : b.one = k
      · rw [if_pos z] at h
        have t1 := trB_nn (bs := bs) (n := n)
        have t2 := rtr_nn (bs := bs) (ns := ns)
        have t3 : trB bs n + rtr bs ns = 0 := by unfold rtr at t ⊢; rw [List.map_cons, List.sum_cons] at t; exact t
        have ih := bway_rank hr h (by omega)
        have t4 : trB bs n = (b.th.length : Int) := by unfold trB; rw [eb]
        have e0 : b.th = [] := List.eq_nil_of_length_eq_zero (by omega)
        have := hr b (List.mem_of_getElem? eb) e0
        rw [z] at this
        rw [List.length_cons]
        omega
      · rw [if_neg z] at h; cases h
theorem ring_trays {bs : List BR} {rk : Nat → Int} (hr : ∀ b ∈ bs, b.th = [] → rk b.one < rk b.to) {ns : List Nat} {k : Nat} (h : wayEnd bs k ns = some k) (ne : ns ≠ []) : 0 < rtr bs ns := by
  have t := rtr_nn (bs := bs) (ns := ns)
  rcases Int.lt_or_le 0 (rtr bs ns) with z | z
  · exact z
  · have := bway_rank hr h (by omega)
    cases ns with
    | nil => exact absurd rfl ne
    | cons n ns => rw [List.length_cons] at this; omega
theorem sum_le {f : Nat → Int} {c : Int} (c0 : 0 ≤ c) (h : ∀ n, 0 ≤ f n ∧ f n ≤ c) : ∀ ns : List Nat, 0 ≤ (ns.map f).sum ∧ (ns.map f).sum ≤ c * (ns.length : Int)
  | [] => ⟨Int.le_refl _, by show (0 : Int) ≤ c * 0; omega⟩
  | n :: ns => by
    have ih := sum_le c0 h ns
    have := h n
    rw [List.map_cons, List.sum_cons, List.length_cons]
    have e : c * ((ns.length + 1 : Nat) : Int) = c * (ns.length : Int) + c := by
      rw [show ((ns.length + 1 : Nat) : Int) = (ns.length : Int) + 1 by omega, Int.mul_add, Int.mul_one]
    omega
/-- rooms whose beat is asked -/
structure BOk (hs : List HR) (bs : List BR) : Prop where
  hands : hs.length ≤ 12
  many : bs.length ≤ 20
  ends : ∀ b ∈ bs, b.one < hs.length ∧ b.to < hs.length
  mom : ∀ h ∈ hs, 0 ≤ h.mom ∧ h.mom ≤ 30
  th : ∀ b ∈ bs, b.th.length ≤ 30
  rank : ∃ rk : Nat → Int, ∀ b ∈ bs, b.th = [] → rk b.one < rk b.to
theorem BOk.momH {hs : List HR} {bs : List BR} (ok : BOk hs bs) (k : Nat) : 0 ≤ momH hs k ∧ momH hs k ≤ 30 := by
  unfold Mine.momH
  cases e : hs[k]? with
  | none => exact ⟨Int.le_refl _, by decide⟩
  | some h => exact ok.mom h (List.mem_of_getElem? e)
theorem BOk.trB {hs : List HR} {bs : List BR} (ok : BOk hs bs) (n : Nat) : 0 ≤ trB bs n ∧ trB bs n ≤ 30 := by
  unfold Mine.trB
  cases e : bs[n]? with
  | none => exact ⟨Int.le_refl _, by decide⟩
  | some b =>
    have := ok.th b (List.mem_of_getElem? e)
    exact ⟨Int.natCast_nonneg _, by show (b.th.length : Int) ≤ 30; omega⟩
theorem BOk.rmom {hs : List HR} {bs : List BR} (ok : BOk hs bs) {ns : List Nat} (l : ns.length ≤ 12) : 0 ≤ rmom hs bs ns ∧ rmom hs bs ns ≤ 360 := by
  have := sum_le (f := fun n => Mine.momH hs (toB bs n)) (by decide : (0 : Int) ≤ 30) (fun n => ok.momH _) ns
  unfold Mine.rmom
  omega
theorem BOk.rtr {hs : List HR} {bs : List BR} (ok : BOk hs bs) {ns : List Nat} (l : ns.length ≤ 12) : 0 ≤ rtr bs ns ∧ rtr bs ns ≤ 360 := by
  have := sum_le (f := Mine.trB bs) (by decide : (0 : Int) ≤ 30) (fun n => ok.trB _) ns
  unfold Mine.rtr
  omega
/-- what holds a beat up -/
def Up (hs : List HR) (bs : List BR) (a b : Int) (k : Nat) (ns : List Nat) : Prop := (ns = [] ∧ b * momH hs k = a) ∨ (ns ≠ [] ∧ wayEnd bs k ns = some k ∧ b * rmom hs bs ns = a * rtr bs ns)
/-- what holds a beat down -/
def Down (hs : List HR) (bs : List BR) (a b : Int) (lv : Nat → Int) : Prop := (∀ k, 0 ≤ lv k) ∧ (∀ h ∈ hs, b * h.mom ≤ a) ∧ ∀ x ∈ bs, lv x.one + (b * momH hs x.one - a * (x.th.length : Int)) ≤ lv x.to
structure Beat (hs : List HR) (bs : List BR) (a b : Int) (k : Nat) (ns : List Nat) : Prop where
  a0 : 0 ≤ a
  a9 : a ≤ 360
  b1 : 1 ≤ b
  b9 : b ≤ 360
  low : Nat.gcd a.toNat b.toNat = 1
  kl : k < hs.length
  nl : ∀ n ∈ ns, n < bs.length
  ln : ns.length ≤ 12
  up : Up hs bs a b k ns
  mom : ∀ h ∈ hs, b * h.mom ≤ a
theorem down_ring {hs : List HR} {bs : List BR} {a b : Int} {lv : Nat → Int} (d : Down hs bs a b lv) {ns : List Nat} {k : Nat} (lt : ∀ n ∈ ns, n < bs.length) (h : wayEnd bs k ns = some k) : b * rmom hs bs ns ≤ a * rtr bs ns := by
  have f : ∀ s ∈ bs.map (bstep hs a b), lv s.u + s.w ≤ lv s.v := fun s hs2 => by
    obtain ⟨x, hx, rfl⟩ := List.mem_map.mp hs2
    exact d.2.2 x hx
  have s := step_sum f (ks := ns) (p := k) (q := k) (by rw [bstep_end]; exact h)
  rw [ring_w lt] at s
  have o := ones_tos (hs := hs) h
  rw [show (ns.map fun n => momH hs (oneB bs n)).sum = rmom hs bs ns by omega] at s
  omega
/-- the measure: the fraction, in parts of 360 * 360 -/
def bms (a b : Int) : Int := a * 129600 / b
theorem bms_lt {a b c d : Int} (b1 : 1 ≤ b) (b9 : b ≤ 360) (d1 : 1 ≤ d) (d9 : d ≤ 360) (h : a * d < c * b) : bms a b < bms c d := by
  unfold bms
  have q := Int.mul_ediv_self_le (x := a * 129600) (k := b) (by omega)
  refine Int.lt_of_add_one_le ((Int.le_ediv_iff_mul_le (by omega)).mpr ?_)
  generalize a * 129600 / b = q0 at q
  have bd : b * d ≤ 129600 := Int.le_trans (Int.mul_le_mul b9 d9 (by omega) (by decide)) (by decide)
  have h1 : (a * d + 1) * 129600 ≤ c * b * 129600 := Int.mul_le_mul_of_nonneg_right h (by decide)
  have h2 : b * q0 * d ≤ a * 129600 * d := Int.mul_le_mul_of_nonneg_right q (by omega)
  refine Int.le_of_mul_le_mul_left (a := b) ?_ (by omega)
  have e1 : b * ((q0 + 1) * d) = b * q0 * d + b * d := by rw [Int.add_mul, Int.one_mul, Int.mul_add, Int.mul_assoc]
  have e2 : a * 129600 * d = a * d * 129600 := by rw [Int.mul_assoc, Int.mul_comm 129600 d, Int.mul_assoc]
  have e3 : c * b * 129600 = b * (c * 129600) := by rw [Int.mul_comm c b, Int.mul_assoc]
  have e4 : (a * d + 1) * 129600 = a * d * 129600 + 129600 := by rw [Int.add_mul, Int.one_mul]
  omega
theorem bms_nn {a b : Int} (a0 : 0 ≤ a) (b1 : 1 ≤ b) : 0 ≤ bms a b := Int.ediv_nonneg (by omega) (by omega)
theorem bms_le {a b : Int} (a0 : 0 ≤ a) (a9 : a ≤ 360) (b1 : 1 ≤ b) : bms a b ≤ 360 * 129600 := by
  unfold bms
  refine Int.ediv_le_of_le_mul (by omega) ?_
  have h1 : a * 129600 ≤ 360 * 129600 := Int.mul_le_mul_of_nonneg_right a9 (by decide)
  have h2 : 360 * 129600 * 1 ≤ 360 * 129600 * b := Int.mul_le_mul_of_nonneg_left b1 (by decide)
  omega
/-- a fraction without a common divisor -/
theorem low_terms {A B : Nat} (hB : 0 < B) : 0 < Nat.gcd A B ∧ 1 ≤ B / Nat.gcd A B ∧ Nat.gcd (A / Nat.gcd A B) (B / Nat.gcd A B) = 1 ∧ A / Nat.gcd A B * B = B / Nat.gcd A B * A ∧ A / Nat.gcd A B ≤ A ∧ B / Nat.gcd A B ≤ B := by
  have g := Nat.gcd_pos_of_pos_right A hB
  refine ⟨g, Nat.div_pos (Nat.le_of_dvd hB (Nat.gcd_dvd_right A B)) g, Nat.gcd_div_gcd_div_gcd_of_pos_right hB, ?_, Nat.div_le_self .., Nat.div_le_self ..⟩
  obtain ⟨x, hx⟩ := Nat.gcd_dvd_left A B
  obtain ⟨y, hy⟩ := Nat.gcd_dvd_right A B
  generalize Nat.gcd A B = d at g hx hy
  subst hx hy
  rw [Nat.mul_div_cancel_left _ g, Nat.mul_div_cancel_left _ g, Nat.mul_left_comm, Nat.mul_left_comm y d x, Nat.mul_comm x y]
/-- a ring that needs more than nothing is above the fraction -/
theorem ring_above {hs : List HR} {bs : List BR} {a b : Int} {ks : List Nat} (r : RingOk (bs.map (bstep hs a b)) ks) : ∃ k, wayEnd bs k ks = some k ∧ (∀ n ∈ ks, n < bs.length) ∧ a * rtr bs ks < b * rmom hs bs ks := by
  obtain ⟨ne, lt, ⟨p, cl⟩, pos⟩ := r
  have lt2 : ∀ n ∈ ks, n < bs.length := fun n hn => by have := lt n hn; rwa [List.length_map] at this
  rw [bstep_end] at cl
  rw [ring_w lt2] at pos
  have o := ones_tos (hs := hs) cl
  rw [show (ks.map fun n => momH hs (oneB bs n)).sum = rmom hs bs ks by omega] at pos
  exact ⟨p, cl, lt2, by omega⟩
theorem beat_next {hs : List HR} {bs : List BR} {a b : Int} {ks : List Nat} {k : Nat} {k0 : Nat} {ns0 : List Nat} (ok : BOk hs bs) (B : Beat hs bs a b k0 ns0) (cl : wayEnd bs k ks = some k) (kl : k < hs.length) (lt : ∀ n ∈ ks, n < bs.length) (ln : ks.length ≤ 12) (ne : ks ≠ []) (ab : a * rtr bs ks < b * rmom hs bs ks) :
    0 < rtr bs ks ∧ 0 ≤ rmom hs bs ks ∧ Beat hs bs (((rmom hs bs ks).toNat / Nat.gcd (rmom hs bs ks).toNat (rtr bs ks).toNat : Nat) : Int) (((rtr bs ks).toNat / Nat.gcd (rmom hs bs ks).toNat (rtr bs ks).toNat : Nat) : Int) k ks ∧
      bms a b < bms (((rmom hs bs ks).toNat / Nat.gcd (rmom hs bs ks).toNat (rtr bs ks).toNat : Nat) : Int) (((rtr bs ks).toNat / Nat.gcd (rmom hs bs ks).toNat (rtr bs ks).toNat : Nat) : Int) := by
  obtain ⟨rk, hr⟩ := ok.rank
  have t0 := ring_trays hr cl ne
  have m := ok.rmom (ns := ks) ln
  have t := ok.rtr (ns := ks) ln
  obtain ⟨A, hA⟩ : ∃ A : Nat, rmom hs bs ks = (A : Int) := ⟨(rmom hs bs ks).toNat, by omega⟩
  obtain ⟨B', hB⟩ : ∃ B : Nat, rtr bs ks = (B : Int) := ⟨(rtr bs ks).toNat, by omega⟩
  obtain ⟨g, l1, l2, l3, l4, l5⟩ := low_terms (A := A) (B := B') (by omega)
  have up : (((B' / Nat.gcd A B' : Nat) : Int)) * rmom hs bs ks = ((A / Nat.gcd A B' : Nat) : Int) * rtr bs ks := by
    rw [hA, hB, ← Int.natCast_mul, ← Int.natCast_mul, l3]
  rw [hA, hB] at ab
  rw [show (rmom hs bs ks).toNat = A by omega, show (rtr bs ks).toNat = B' by omega]
  generalize Nat.gcd A B' = d at g l1 l2 l3 l4 l5 up
  have up0 := up
  rw [hA, hB] at up0
  generalize A / d = x at l2 l3 l4 up up0
  generalize B' / d = y at l1 l2 l3 l5 up up0
  have cross : a * (y : Int) < (x : Int) * b := by
    have c1 : (B' : Int) * (a * (y : Int)) < (B' : Int) * ((x : Int) * b) := by
      have h1 : a * (B' : Int) * (y : Int) < b * (A : Int) * (y : Int) := Int.mul_lt_mul_of_pos_right ab (by omega)
      have e1 : (B' : Int) * (a * (y : Int)) = a * (B' : Int) * (y : Int) := by rw [Int.mul_left_comm, Int.mul_assoc]
      have e2 : b * (A : Int) * (y : Int) = b * ((y : Int) * (A : Int)) := by rw [Int.mul_assoc, Int.mul_comm (A : Int)]
      have e3 : (B' : Int) * ((x : Int) * b) = b * ((x : Int) * (B' : Int)) := by rw [Int.mul_comm, Int.mul_comm (x : Int) b, Int.mul_assoc]
      rw [e1, e3, ← up0, ← e2]
      exact h1
    exact Int.lt_of_mul_lt_mul_left c1 (by omega)
  refine ⟨by omega, by omega, ⟨by omega, by omega, by omega, by omega, by simpa using l2, kl, lt, ln, .inr ⟨ne, cl, up⟩, fun h hh => ?_⟩, bms_lt B.b1 B.b9 (by omega) (by omega) cross⟩
  have h1 := B.mom h hh
  have h2 : b * h.mom * (y : Int) ≤ a * (y : Int) := Int.mul_le_mul_of_nonneg_right h1 (by omega)
  refine Int.le_of_mul_le_mul_left (a := b) ?_ (by have := B.b1; omega)
  have e1 : b * ((y : Int) * h.mom) = b * h.mom * (y : Int) := by rw [Int.mul_assoc, Int.mul_comm (y : Int)]
  have e2 : b * (x : Int) = (x : Int) * b := Int.mul_comm ..
  omega
/-- a beat is no greater than another one -/
theorem beat_le {hs : List HR} {bs : List BR} {a b c d : Int} {k : Nat} {ns : List Nat} {lv : Nat → Int} (ok : BOk hs bs) (B : Beat hs bs a b k ns) (D : Down hs bs c d lv) (c0 : 0 ≤ c) : a * d ≤ c * b := by
  rcases B.up with ⟨rfl, e⟩ | ⟨ne, cl, e⟩
  · have kl := B.kl
    have : momH hs k = hs[k].mom := by unfold momH; rw [List.getElem?_eq_getElem kl]
    have h := D.2.1 hs[k] (List.getElem_mem kl)
    rw [← this] at h
    rw [← e]
    have h2 : d * momH hs k * b ≤ c * b := Int.mul_le_mul_of_nonneg_right h (by have := B.b1; omega)
    rw [Int.mul_comm (b * momH hs k) d, Int.mul_left_comm, ← Int.mul_assoc, Int.mul_comm b d, Int.mul_assoc, Int.mul_comm b, ← Int.mul_assoc]
    exact h2
  · obtain ⟨rk, hr⟩ := ok.rank
    have t0 := ring_trays hr cl ne
    have h := down_ring D B.nl cl
    refine Int.le_of_mul_le_mul_left (a := rtr bs ns) ?_ t0
    have h2 : d * rmom hs bs ns * b ≤ c * rtr bs ns * b := Int.mul_le_mul_of_nonneg_right h (by have := B.b1; omega)
    have e1 : rtr bs ns * (a * d) = d * (b * rmom hs bs ns) := by rw [e, Int.mul_comm, Int.mul_comm a d, Int.mul_assoc]
    have e2 : d * (b * rmom hs bs ns) = d * rmom hs bs ns * b := by rw [Int.mul_assoc, Int.mul_comm b]
    have e3 : rtr bs ns * (c * b) = c * rtr bs ns * b := by rw [Int.mul_left_comm, Int.mul_assoc]
    omega
theorem low_one {a b c d : Nat} (hb : 0 < b) (hd : 0 < d) (h : a * d = c * b) (l1 : Nat.gcd a b = 1) (l2 : Nat.gcd c d = 1) : a = c ∧ b = d := by
  have bd : b ∣ d := Nat.Coprime.dvd_of_dvd_mul_left (Nat.Coprime.symm l1 : Nat.Coprime b a) ⟨c, by rw [h, Nat.mul_comm]⟩
  have db : d ∣ b := Nat.Coprime.dvd_of_dvd_mul_left (Nat.Coprime.symm l2 : Nat.Coprime d c) ⟨a, by rw [← h, Nat.mul_comm]⟩
  have e := Nat.dvd_antisymm bd db
  subst e
  exact ⟨Nat.eq_of_mul_eq_mul_right hb h, rfl⟩
/-- there is one beat -/
theorem beat_one {hs : List HR} {bs : List BR} {a b c d : Int} {k k2 : Nat} {ns ns2 : List Nat} {lv lv2 : Nat → Int} (ok : BOk hs bs) (B : Beat hs bs a b k ns) (D : Down hs bs a b lv) (B2 : Beat hs bs c d k2 ns2) (D2 : Down hs bs c d lv2) : a = c ∧ b = d := by
  have h1 := beat_le ok B D2 B2.a0
  have h2 := beat_le ok B2 D B.a0
  have := B.a0
  have := B2.a0
  have := B.b1
  have := B2.b1
  obtain ⟨a', rfl⟩ : ∃ n : Nat, a = (n : Int) := ⟨a.toNat, by omega⟩
  obtain ⟨b', rfl⟩ : ∃ n : Nat, b = (n : Int) := ⟨b.toNat, by omega⟩
  obtain ⟨c', rfl⟩ : ∃ n : Nat, c = (n : Int) := ⟨c.toNat, by omega⟩
  obtain ⟨d', rfl⟩ : ∃ n : Nat, d = (n : Int) := ⟨d.toNat, by omega⟩
  have l1 := B.low
  have l2 := B2.low
  rw [Int.toNat_natCast, Int.toNat_natCast] at l1 l2
  have e : a' * d' = c' * b' := by
    have : ((a' * d' : Nat) : Int) = ((c' * b' : Nat) : Int) := by rw [Int.natCast_mul, Int.natCast_mul]; omega
    omega
  obtain ⟨x, y⟩ := low_one (by omega) (by omega) e l1 l2
  exact ⟨by rw [x], by rw [y]⟩
/-! ### beats: the program -/
/-- the table of beat_papers' code object -/
abbrev TL (PT : Addr) : List (Addr × Str) := [(PT, (("beat_papers" : Str) ++ ".<locals>.") ++ "<lambda>")]
class TabL (K : PySem.W.Frag) (mg : Str → Option Value) (base : Heap) (cT PT : outParam Addr) : Prop where
  tb : LamX.TabB base mg cT PT
  cd : ∀ (f : Addr) (fd : FuncData), Fun K "beat_papers" "beat_papers" s_beat_papers f fd → mg "beat_papers" = some (.ref f) → fd.code = .ref cT
section
variable {P : Program} {w : World} {K : PySem.W.Frag} {mg : Str → Option Value} {base : Heap}
def sp_beat_steps (K : PySem.W.Frag) : Sp := fun vs H Q _ => ∃ (r fp : Addr) (hs : List HR) (bs : List BR) (a b : Int), vs = [.ref r, .ref fp] ∧ RoomAt H r hs bs ∧ H fp = some (.tup [.int a, .int b]) ∧ BOk hs bs ∧
  ∀ (sl : Addr) (H' : Hp), StepsAt H' sl (bs.map (bstep hs a b)) → Same H H' → Q (.ref sl) H'
theorem ok_beat_steps {f : Addr} {fd : FuncData} (F : Fun K "beat_steps" "beat_steps" s_beat_steps f fd) (T : Top K mg) : FnOk P w K mg base CX0 1 f fd ["room", "fraction"] (sp_beat_steps K) := by
  refine F.ok sc_beat_steps (fun vs H Q E h => ?_) (fun cdv A outer s H vs Q E hr h => ?_)
  · obtain ⟨r, fp, hs, bs, a, b, rfl, _⟩ := h
    rfl
  obtain ⟨r, fp, hs, bs, a, b, rfl, hR, hfp, ok, q⟩ := h
  obtain ⟨ha, ba, hv, bv, er, eh, eb, alh, alb⟩ := hR.ex
  have lbv := alb.length
  have lb := ok.many
  let R1 : TS := fun D' σ' H' => D'.rt = Q ∧ H = H' ∧ σ' = [some (.ref r), some (.ref fp), some (.int a), some (.int b), some (.ref ha), some (.ref ba), none, none, none]
  refine ⟨_, (pss_cons (ps_asg (pv 1) (pg_tupK K rfl rfl (pgs_cons (pg_name (i := 2) sc_beat_steps.nd rfl (Or.inr rfl)) (pgs_cons (pg_name (i := 3) sc_beat_steps.nd rfl (Or.inr rfl)) pgs_nil))))
      (pss_cons (ps_asg (pv 0) (pg_tupK K rfl rfl (pgs_cons (pg_name (i := 4) sc_beat_steps.nd rfl (Or.inr rfl)) (pgs_cons (pg_name (i := 5) sc_beat_steps.nd rfl (Or.inl rfl)) pgs_nil))))
      (PSs.to (pss_one (ps_ret (pe_lc (own := [("giver", 6), ("taker", 7), ("things", 8)]) (g := gTup K 3 (gCons (gName 6) (gCons (gName 7) (gCons (gName 8) gNil)))) (tt := tYes) (by rfl) sc_beat_steps.nd (pi_tupK K rfl (pv 5)) (blkOk_by (own := [("giver", 6), ("taker", 7), ("things", 8)]) (N := N_beat_steps) (sc := defScope s_beat_steps) (by decide +kernel)) (fun _ _ _ _ _ => (pg_tupK K rfl rfl (pgs_cons (pg_name (i := 6) sc_beat_steps.nd rfl (Or.inl rfl)) (pgs_cons (pg_name (i := 7) sc_beat_steps.nd rfl (Or.inl rfl)) (pgs_cons (pg_name (i := 8) sc_beat_steps.nd rfl (Or.inl rfl)) pgs_nil))))) (fun _ _ _ _ _ => pts_nil) (fun _ _ _ _ _ => (pe_tup (pa_cons (pv 6) (pa_cons (pv 7) (pa_cons (pe_op op_sub (pe_op op_mul (pv 3) (pe_ix (ix_tupK K rfl) (pe_ix (ix_tupK K rfl) (pv 4) (pv 6) (fun _ _ => rfl)) pe_int (fun _ _ => rfl))) (pe_op op_mul (pv 2) (pe_callB (call_len_seqK K rfl) (by rfl) T.m_len (by decide +kernel) (pa_cons (pv 8) pa_nil)))) pa_nil)))))))) R1 ?tail1))), ?_⟩
  case' tail1 => rintro D' σ' H' ⟨eD, rfl, rfl⟩; rw [tRet, eD]
  rotate_left
  refine ⟨_, rfl, fp, _, rfl, SqT.of hfp, rfl, _, _, rfl, _, _, rfl, rfl, ?_⟩
  exact ⟨_, rfl, r, _, rfl, SqT.of er, rfl, _, _, rfl, _, _, rfl, rfl, rfl, rfl, rfl⟩
  refine ⟨_, rfl, ba, rfl, ⟨_, SqT.of eb⟩, fun D nD => lc_tup (K := K) (a := ba) (xs := bv) (fun i H5 => ∃ sv, H5 D = some (.lst sv) ∧ All2 (StepAt H5) sv ((bs.take i).map (bstep hs a b)) ∧ Same H H5) ⟨[], upd_same, .nil, same_new nD⟩ (fun i H5 _ ⟨_, _, _, s5⟩ => SqT.of (s5 _ _ eb)) ?_ ?_⟩
  · rintro i x H5 hx ⟨sv, hD, al, s5⟩
    obtain ⟨x, ebi, ⟨t, g, rfl, e1, e2⟩⟩ := alb.getL hx
    have il := (List.getElem?_eq_some_iff.mp ebi).1
    have hb := List.mem_of_getElem? ebi
    obtain ⟨l1, l2⟩ := ok.ends x hb
    have ehn : hs[x.one]? = some hs[x.one] := List.getElem?_eq_getElem l1
    obtain ⟨y, ey, ⟨t3, r3, rfl, e31, e32⟩⟩ := alh.get ehn
    have m30 := ok.mom _ (List.getElem_mem l1)
    have t30 := ok.th x hb
    have lsv := al.length
    rw [List.length_map, List.length_take] at lsv
    refine ⟨t, _, rfl, SqT.of (s5 _ _ e1), rfl, _, _, rfl, _, _, rfl, _, _, rfl, rfl, rfl, yes_in ?_⟩
    refine ⟨_, rfl, _, rfl, _, rfl, _, rfl, _, rfl, ha, _, _, _, rfl, rfl, SqT.of (s5 _ _ eh), atI_nat ey, t3, _, _, _, rfl, rfl, SqT.of (s5 _ _ e31), atI_nat (j := 1) rfl, _, _, rfl, rfl, .inr ⟨by omega, by omega⟩, ?_⟩
    refine ⟨_, rfl, _, rfl, g, _, rfl, .inr (SqT.of (s5 _ _ e2)), _, _, rfl, rfl, .inr ⟨by rw [List.length_map]; omega, by rw [List.length_map]; omega⟩, _, _, rfl, rfl, (by show 3 ≤ sizeLine; decide), fun tp ntp => ?_⟩
    have hD6 := same_new (o := .tup [nV x.one, nV x.to, V.int (b * hs[x.one].mom - a * (((x.th.map V.int).length : Nat) : Int))]) ntp _ _ hD
    have s6 := s5.trans (same_new (o := .tup [nV x.one, nV x.to, V.int (b * hs[x.one].mom - a * (((x.th.map V.int).length : Nat) : Int))]) ntp)
    refine ⟨sv, hD6, by rw [lsv]; exact small1000 (by omega), sv ++ [.ref tp], upd_same, ?_, Same.own s6 nD⟩
    rw [List.take_add_one, ebi, List.map_append]
    refine All2.snoc ⟨tp, rfl, ?_⟩ (al.imp fun _ _ z => z.keep ((TK.new ntp).trans (TK.lst hD6)))
    rw [TK.lst hD6 _ _ upd_same]
    show _ = some (HO.tup [nV x.one, nV x.to, V.int (b * momH hs x.one - a * (x.th.length : Int))])
    have : momH hs x.one = hs[x.one].mom := by unfold momH; rw [ehn]
    rw [this, List.length_map]
  · rintro H5 ⟨sv, hD, al, s5⟩
    rw [lbv, List.take_length] at al
    exact q D H5 ⟨sv, hD, al⟩ s5
def sp_ring_moments (K : PySem.W.Frag) : Sp := fun vs H Q _ => ∃ (r t : Addr) (hs : List HR) (bs : List BR) (k : Nat) (ns : List Nat), vs = [.ref r, .ref t] ∧ RoomAt H r hs bs ∧ (∀ b ∈ bs, b.to < hs.length) ∧ WayAt H t k ns ∧ k < hs.length ∧ (∀ n ∈ ns, n < bs.length) ∧ ns.length ≤ 400 ∧ ∀ H', Same H H' → Q (.int (rmom hs bs ns)) H'
theorem ok_ring_moments {f : Addr} {fd : FuncData} (F : Fun K "ring_moments" "ring_moments" s_ring_moments f fd) (T : Top K mg) : FnOk P w K mg base CX0 2 f fd ["room", "way"] (sp_ring_moments K) := by
  obtain ⟨f_moments_on, fd_moments_on, F_moments_on, b_moments_on, m_moments_on⟩ := T.d_moments_on
  have G_moments_on := ok_moments_on (P := P) (w := w) (base := base) F_moments_on T
  refine F.ok sc_ring_moments (fun vs H Q E h => ?_) (fun cdv A outer s H vs Q E hr h => ?_)
  · obtain ⟨r, t, hs, bs, k, ns, rfl, _⟩ := h
    rfl
  obtain ⟨r, t, hs, bs, k, ns, rfl, hR, hto, hp, hk, hn, ln, q⟩ := h
  refine ⟨_, (pss_one (ps_ret (pe_op op_sub (pe_call G_moments_on (hr.mono (by decide)) (by rfl) m_moments_on F_moments_on.kp b_moments_on .nil pass0 (pa_cons (pv 0) (pa_cons (pv 1) pa_nil))) (pe_ix (ix_tupK K rfl) (pe_ix (ix_tupK K rfl) (pe_ix (ix_tupK K rfl) (pv 0) pe_int (fun _ _ => rfl)) (pe_ix (ix_tupK K rfl) (pv 1) pe_int (fun _ _ => rfl)) (fun _ _ => rfl)) pe_int (fun _ _ => rfl))))), ?_⟩
  refine ⟨_, rfl, _, rfl, r, t, hs, bs, k, ns, rfl, hR, hto, hp, hk, hn, ln, fun H1 s1 => ?_⟩
  obtain ⟨ha, ba, hv, bv, er, eh, eb, alh, alb⟩ := hR.ex
  obtain ⟨g, et, eg⟩ := hp
  have ehk : hs[k]? = some hs[k] := List.getElem?_eq_getElem hk
  obtain ⟨x0, ex0, ⟨t0, r0, rfl, e01, e02⟩⟩ := alh.get ehk
  refine ⟨_, rfl, r, _, _, _, rfl, rfl, SqT.of (s1 _ _ er), atI_nat (j := 0) rfl, _, rfl, t, _, _, _, rfl, rfl, SqT.of (s1 _ _ et), atI_nat (j := 0) rfl, ha, _, _, _, rfl, rfl, SqT.of (s1 _ _ eh), atI_nat ex0, t0, _, _, _, rfl, rfl, SqT.of (s1 _ _ e01), atI_nat (j := 1) rfl, _, _, rfl, rfl, ?_⟩
  have := q _ s1
  rw [show rmom hs bs ns = momW hs bs k ns - hs[k].mom by unfold momW rmom momH; rw [ehk]; dsimp only; omega] at this
  exact this
def sp_in_least_terms (K : PySem.W.Frag) : Sp := fun vs H Q _ => ∃ (A B : Nat), vs = [.int (A : Int), .int (B : Int)] ∧ 0 < B ∧ A ≤ 360 ∧ B ≤ 360 ∧ ∀ (p : Addr) (H' : Hp), H' p = some (.tup [.int ((A / Nat.gcd A B : Nat) : Int), .int ((B / Nat.gcd A B : Nat) : Int)]) → Same H H' → Q (.ref p) H'
theorem ok_in_least_terms {f : Addr} {fd : FuncData} (F : Fun K "in_least_terms" "in_least_terms" s_in_least_terms f fd) (T : Top K mg) : FnOk P w K mg base CX0 1 f fd ["a", "b"] (sp_in_least_terms K) := by
  refine F.ok sc_in_least_terms (fun vs H Q E h => ?_) (fun cdv A outer s H vs Q E hr h => ?_)
  · obtain ⟨A, B, rfl, _⟩ := h
    rfl
  obtain ⟨A, B, rfl, hB, a9, b9, q⟩ := h
  refine ⟨_, (pss_cons (ps_par (i := 2) (j := 3) rfl sc_in_least_terms.nd rfl rfl (by decide) rfl rfl (pa_cons (pv 0) (pa_cons (pv 1) pa_nil)) (by rfl))
      (pss_cons (ps_while PassesOwn.never (pt_cmpR op_ne (pv 3) pe_int (nomark _))
        (pss_one (ps_par (i := 2) (j := 3) rfl sc_in_least_terms.nd rfl rfl (by decide) rfl rfl (pa_cons (pv 3) (pa_cons (pe_op op_mod (pv 2) (pv 3)) pa_nil)) (by rfl))))
      (pss_one (ps_ret (pe_tup (pa_cons (pe_op op_fdivW (pv 0) (pv 2)) (pa_cons (pe_op op_fdivW (pv 1) (pv 2)) pa_nil))))))), ?_⟩
  refine ⟨_, rfl, _, rfl, _, _, rfl, ?_⟩
  refine ⟨fun m σ H2 => ∃ d l : Nat, σ = [some (.int (A : Int)), some (.int (B : Int)), some (nV d), some (nV l)] ∧ Nat.gcd d l = Nat.gcd A B ∧ d ≤ 360 ∧ l ≤ 360 ∧ m = l ∧ H = H2, ⟨B, A, B, rfl, rfl, a9, b9, rfl, rfl⟩, ?_⟩
  rintro m σ H2 ⟨d, l, rfl, g, d9, l9, rfl, eH⟩
  subst eH
  refine ⟨_, rfl, rfl, _, rfl, ?_⟩
  cases m with
  | zero =>
    refine if_bl (fun z => nomatch z) (fun _ => ?_)
    rw [Nat.gcd_zero_right] at g
    have gp : 0 < Nat.gcd A B := Nat.gcd_pos_of_pos_right A hB
    have cd : CDivW ((A : Nat) : Int) ((d : Nat) : Int) := wide_div (b := 64) (by omega) (Nat.lt_of_le_of_lt (show _ ≤ 360 by omega) (by decide)) (by decide) (by decide)
    have cd2 : CDivW ((B : Nat) : Int) ((d : Nat) : Int) := cd
    refine ⟨_, rfl, _, rfl, _, _, rfl, rfl, cd, _, rfl, _, rfl, _, _, rfl, rfl, cd2, (by show 2 ≤ sizeLine; decide), fun p np => ?_⟩
    refine q p _ ?_ (same_new np)
    rw [upd_same, ← g]
    rfl
  | succ l =>
    refine if_bl (fun _ => ?_) (fun z => ?_)
    · refine ⟨_, fun σ' H' h => h, ?_⟩
      have ml : d % (l + 1) < l + 1 := Nat.mod_lt _ (Nat.succ_pos _)
      refine ⟨_, rfl, _, rfl, _, rfl, _, _, rfl, rfl, (by omega), _, _, rfl, ?_⟩
      refine ⟨d % (l + 1), ml, l + 1, d % (l + 1), rfl, ?_, l9, by omega, rfl, rfl⟩
      rw [← g, Nat.gcd_comm d, Nat.gcd_rec (l + 1) d, Nat.gcd_comm]
    · have z2 : nV (l + 1) = V.int 0 := by simpa using z
      have := V.int.inj z2
      omega
/-- what beat_papers tells -/
def Papers (hs : List HR) (bs : List BR) (H : Hp) (p : Addr) : Prop := ∃ (fp wp np : Addr) (a b : Int) (k : Nat) (ns : List Nat) (lv : Nat → Int), H p = some (.tup [.ref fp, .ref wp, .ref np]) ∧ H fp = some (.tup [.int a, .int b]) ∧ WayAt H wp k ns ∧ H np = some (.tup (levL hs.length lv)) ∧ Beat hs bs a b k ns ∧ Down hs bs a b lv
def Papers0 (H : Hp) (p : Addr) : Prop := ∃ fp np : Addr, H p = some (.tup [.ref fp, .non, .ref np]) ∧ H fp = some (.tup [.int 0, .int 1]) ∧ H np = some (.tup [])
def sp_beat_papers (K : PySem.W.Frag) (PT : Addr) : Sp := fun vs H Q _ => ∃ (r : Addr) (hs : List HR) (bs : List BR), vs = [.ref r] ∧ RoomAt H r hs bs ∧ BOk hs bs ∧ LamX.Tabs (TL PT) H ∧
  (hs = [] → ∀ (p : Addr) (H' : Hp), Papers0 H' p → LamX.ExtN H H' → LamX.Tabs (TL PT) H' → Q (.ref p) H') ∧
  (0 < hs.length → ∀ (p : Addr) (H' : Hp), Papers hs bs H' p → LamX.ExtN H H' → LamX.Tabs (TL PT) H' → Q (.ref p) H')
/-- what stands ahead of the loop of beat_papers, and behind each turn -/
def PB (hs : List HR) (bs : List BR) (r ha ba PT : Addr) (H : Hp) (a b : Int) (σ' : L2.St) (H' : Hp) : Prop := ∃ (m k : Nat) (ns : List Nat) (fp wp : Addr) (v6 v7 : V), σ' = [some (.ref r), some (.ref ha), some (.ref ba), some (nV m), some (.ref wp), some (.ref fp), some v6, some v7] ∧ H' fp = some (.tup [.int a, .int b]) ∧ WayAt H' wp k ns ∧ Beat hs bs a b k ns ∧ LamX.ExtN H H' ∧ LamX.Tabs (TL PT) H' ∧
  ((v7 = .non ∧ ∃ (ll : Addr) (lv : Nat → Int), v6 = .ref ll ∧ H' ll = some (.lst (levL hs.length lv)) ∧ Down hs bs a b lv) ∨
   ∃ (rl : Addr) (ks : List Nat), v6 = .non ∧ v7 = .ref rl ∧ H' rl = some (.lst (ks.map nV)) ∧ RingOk (bs.map (bstep hs a b)) ks ∧ ks.length ≤ hs.length)
theorem down_of {hs : List HR} {bs : List BR} {a b : Int} {k : Nat} {ns : List Nat} {lv : Nat → Int} (B : Beat hs bs a b k ns) (f : ∀ s ∈ bs.map (bstep hs a b), lv s.u + s.w ≤ lv s.v) (nn : ∀ q, 0 ≤ lv q) : Down hs bs a b lv :=
  ⟨nn, B.mom, fun x hx => f _ (List.mem_map.mpr ⟨x, hx, rfl⟩)⟩
theorem steps_bd {hs : List HR} {bs : List BR} {a b : Int} (ok : BOk hs bs) : ∀ s ∈ bs.map (bstep hs a b), s.u < hs.length ∧ s.v < hs.length := fun s hs2 => by
  obtain ⟨x, hx, rfl⟩ := List.mem_map.mp hs2
  exact ok.ends x hx
variable {cT PT : Addr} [TLI : TabL K mg base cT PT]
include TLI
theorem ok_beat_papers {f : Addr} {fd : FuncData} (F : Fun K "beat_papers" "beat_papers" s_beat_papers f fd) (hcd : fd.code = .ref cT) (T : Top K mg) : FnOk P w K mg base CX0 3 f fd ["room"] (sp_beat_papers K PT) := by
  obtain ⟨f_levels_or_ring, fd_levels_or_ring, F_levels_or_ring, b_levels_or_ring, m_levels_or_ring⟩ := T.d_levels_or_ring
  have G_levels_or_ring := ok_levels_or_ring (P := P) (w := w) (base := base) F_levels_or_ring T
  obtain ⟨f_beat_steps, fd_beat_steps, F_beat_steps, b_beat_steps, m_beat_steps⟩ := T.d_beat_steps
  have G_beat_steps := ok_beat_steps (P := P) (w := w) (base := base) F_beat_steps T
  obtain ⟨f_in_least_terms, fd_in_least_terms, F_in_least_terms, b_in_least_terms, m_in_least_terms⟩ := T.d_in_least_terms
  have G_in_least_terms := ok_in_least_terms (P := P) (w := w) (base := base) F_in_least_terms T
  obtain ⟨f_ring_moments, fd_ring_moments, F_ring_moments, b_ring_moments, m_ring_moments⟩ := T.d_ring_moments
  have G_ring_moments := ok_ring_moments (P := P) (w := w) (base := base) F_ring_moments T
  obtain ⟨f_trays_on, fd_trays_on, F_trays_on, b_trays_on, m_trays_on⟩ := T.d_trays_on
  have G_trays_on := ok_trays_on (P := P) (w := w) (base := base) F_trays_on T
  refine ok_code F hcd sc_beat_papers (fun vs H Q E h => ?_) (fun A outer s H vs Q E hr h => ?_)
  · obtain ⟨r, hs, bs, rfl, _⟩ := h
    rfl
  obtain ⟨r, hs, bs, rfl, hR, ok, tabs, q0, q1⟩ := h
  obtain ⟨ha, ba, hv, bv, er, eh, eb, alh, alb⟩ := hR.ex
  have lhv := alh.length
  have lbv := alb.length
  have lh := ok.hands
  have lb := ok.many
  have hto : ∀ b ∈ bs, b.to < hs.length := fun b hb => (ok.ends b hb).2
  let R1 : TS := fun D' σ' H' => D'.rt = Q ∧ 0 < hs.length ∧ ∃ a b : Int, PB hs bs r ha ba PT H a b σ' H'
  refine ⟨_, (pss_cons (ps_asg (pv 0) (pg_tupK K rfl rfl (pgs_cons (pg_name (i := 1) sc_beat_papers.nd rfl (Or.inr rfl)) (pgs_cons (pg_name (i := 2) sc_beat_papers.nd rfl (Or.inl rfl)) pgs_nil))))
      (pss_cons (ps_if (pt_not (pt_truthK K rfl (pv 1) (by intro _; rfl))) (pss_one (ps_ret (pe_tup (pa_cons (pe_tup (pa_cons pe_int (pa_cons pe_int pa_nil))) (pa_cons pe_non (pa_cons (pe_tup pa_nil) pa_nil)))))) pss_nil)
      (pss_cons (ps_set (i := 3) sc_beat_papers.nd rfl (Or.inl rfl) (pe_maxLam (T := TL PT) K rfl rfl hr (by decide) (by rfl) T.m_max TLI.tb rfl (List.mem_singleton.mpr rfl) (fun q hq _ => by rw [List.mem_singleton.mp hq]; rfl) rfl (free_one rfl rfl) ⟨fun _ _ _ _ _ _ => rfl, rfl, rfl, rfl, rfl, by decide⟩ (body_tup (i := 1) ⟨rfl, .inr (.inl rfl), (fun z => nomatch (show (some NameKind.cell : Option NameKind) = some NameKind.local from z)), rfl, rfl, rfl, fun _ => rfl, by decide, by decide, by decide⟩ (fun _ _ => rfl) (fun _ _ => rfl)) (pe_listRg rfl (by rfl) T.m_list (prg_1 (by rfl) T.m_range (pe_callB (call_len_seqK K rfl) (by rfl) T.m_len (by decide +kernel) (pa_cons (pv 1) pa_nil))))))
      (pss_cons (ps_set (i := 4) sc_beat_papers.nd rfl (Or.inl rfl) (pe_tup (pa_cons (pv 3) (pa_cons (pe_tup pa_nil) pa_nil))))
      (pss_cons (ps_set (i := 5) sc_beat_papers.nd rfl (Or.inl rfl) (pe_tup (pa_cons (pe_ix (ix_tupK K rfl) (pe_ix (ix_tupK K rfl) (pv 1) (pv 3) (fun _ _ => rfl)) pe_int (fun _ _ => rfl)) (pa_cons pe_int pa_nil))))
      (pss_cons (ps_asg (pe_call G_levels_or_ring (hr.mono (by decide)) (by rfl) m_levels_or_ring F_levels_or_ring.kp b_levels_or_ring .nil pass0 (pa_cons (pe_callB (call_len_seqK K rfl) (by rfl) T.m_len (by decide +kernel) (pa_cons (pv 1) pa_nil)) (pa_cons (pe_call G_beat_steps (hr.mono (by decide)) (by rfl) m_beat_steps F_beat_steps.kp b_beat_steps .nil pass0 (pa_cons (pv 0) (pa_cons (pv 5) pa_nil))) pa_nil))) (pg_tupK K rfl rfl (pgs_cons (pg_name (i := 6) sc_beat_papers.nd rfl (Or.inl rfl)) (pgs_cons (pg_name (i := 7) sc_beat_papers.nd rfl (Or.inl rfl)) pgs_nil))))
      (PSs.to (pss_cons (ps_while PassesOwn.never (pt_cmpR op_notN (pv 7) pe_non (nomark _))
        (pss_cons (ps_set (i := 4) sc_beat_papers.nd rfl (Or.inl rfl) (pe_tup (pa_cons (pe_ix (ix_tupK K rfl) (pe_ix (ix_tupK K rfl) (pv 2) (pe_ix (ix_listK K rfl) (pv 7) pe_int (fun _ _ => rfl)) (fun _ _ => rfl)) pe_int (fun _ _ => rfl)) (pa_cons (pe_callTy (call_tuple_ofK K rfl) (by rfl) T.m_tuple (by decide +kernel) (pa_cons (pv 7) pa_nil)) pa_nil))))
      (pss_cons (ps_set (i := 5) sc_beat_papers.nd rfl (Or.inl rfl) (pe_call G_in_least_terms (hr.mono (by decide)) (by rfl) m_in_least_terms F_in_least_terms.kp b_in_least_terms .nil pass0 (pa_cons (pe_call G_ring_moments (hr.mono (by decide)) (by rfl) m_ring_moments F_ring_moments.kp b_ring_moments .nil pass0 (pa_cons (pv 0) (pa_cons (pv 4) pa_nil))) (pa_cons (pe_call G_trays_on (hr.mono (by decide)) (by rfl) m_trays_on F_trays_on.kp b_trays_on .nil pass0 (pa_cons (pv 0) (pa_cons (pv 4) pa_nil))) pa_nil))))
      (pss_one (ps_asg (pe_call G_levels_or_ring (hr.mono (by decide)) (by rfl) m_levels_or_ring F_levels_or_ring.kp b_levels_or_ring .nil pass0 (pa_cons (pe_callB (call_len_seqK K rfl) (by rfl) T.m_len (by decide +kernel) (pa_cons (pv 1) pa_nil)) (pa_cons (pe_call G_beat_steps (hr.mono (by decide)) (by rfl) m_beat_steps F_beat_steps.kp b_beat_steps .nil pass0 (pa_cons (pv 0) (pa_cons (pv 5) pa_nil))) pa_nil))) (pg_tupK K rfl rfl (pgs_cons (pg_name (i := 6) sc_beat_papers.nd rfl (Or.inl rfl)) (pgs_cons (pg_name (i := 7) sc_beat_papers.nd rfl (Or.inl rfl)) pgs_nil))))))))
      (pss_one (ps_ret (pe_tup (pa_cons (pv 5) (pa_cons (pv 4) (pa_cons (pe_callTy (call_tuple_ofK K rfl) (by rfl) T.m_tuple (by decide +kernel) (pa_cons (pv 6) pa_nil)) pa_nil))))))) R1 ?tail1))))))), ?_⟩
  case tail1 =>
    rintro D' σ' H1 ⟨eD, h0, a0, b0, pb⟩
    refine ⟨fun m σ H2 => ∃ a b : Int, PB hs bs r ha ba PT H a b σ H2 ∧ m = (360 * 129600 - bms a b).toNat, ⟨_, a0, b0, pb, rfl⟩, ?_⟩
    rintro m σ H2 ⟨a, b, ⟨m1, k, ns, fp, wp, v6, v7, rfl, hfp, hwp, B, ext, tabs2, kind⟩, rfl⟩
    rcases kind with ⟨rfl, ll, lv, rfl, hll, D⟩ | ⟨rl, ks, rfl, rfl, hrl, ring, lks⟩
    · refine ⟨_, rfl, rfl, _, rfl, if_bl (fun z => nomatch z) (fun _ => ?_)⟩
      refine ⟨_, rfl, _, rfl, _, rfl, ll, _, rfl, .inl ⟨SqL.of hll, fun np nnp => ⟨(by show 3 ≤ sizeLine; decide), fun p np2 => ?_⟩⟩⟩
      have s3 := (same_new (H := H2) (o := .tup (levL hs.length lv)) nnp).trans (same_new (o := .tup [.ref fp, .ref wp, .ref np]) np2)
      rw [eD]
      exact q1 h0 p _ ⟨fp, wp, np, a, b, k, ns, lv, upd_same, s3 _ _ hfp, hwp.keep (TK.same s3), same_new np2 _ _ upd_same, B, D⟩ (ext.trans (ExtN.same s3)) (tabs_same tabs2 s3)
    · refine ⟨_, rfl, rfl, _, rfl, if_bl (fun _ => ?_) (fun z => nomatch z)⟩
      refine ⟨_, fun σ' H' h => h, ?_⟩
      obtain ⟨k2, cl, lt, ab⟩ := ring_above ring
      have ne := ring.ne
      cases ks with
      | nil => exact absurd rfl ne
      | cons n0 ks =>
      have nb := lt n0 (List.mem_cons_self ..)
      have ebn : bs[n0]? = some bs[n0] := List.getElem?_eq_getElem nb
      obtain ⟨x, ex, ⟨t2, g2, rfl, e1, e2⟩⟩ := alb.get ebn
      have eone : bs[n0].one = k2 := by
        rw [wayEnd_cons ebn] at cl
        by_cases z : bs[n0].one = k2
        · exact z
        · rw [if_neg z] at cl; cases cl
      have kl2 : k2 < hs.length := eone ▸ (ok.ends _ (List.getElem_mem nb)).1
      have T2 := ExtN.tk ext
      refine ⟨_, rfl, _, rfl, rl, _, _, _, rfl, rfl, SqL.of hrl, atI_nat (j := 0) rfl, ba, _, _, _, rfl, rfl, SqT.of (T2 _ _ eb), atI_nat ex, t2, _, _, _, rfl, rfl, SqT.of (T2 _ _ e1), atI_nat (j := 0) rfl, _, rfl, rl, _, rfl, .inl ⟨SqL.of hrl, fun tp ntp => ⟨(by show 2 ≤ sizeLine; decide), fun wp2 nwp2 => ?_⟩⟩⟩
      rw [eone]
      have s3 := (same_new (H := H2) (o := .tup ((n0 :: ks).map nV)) ntp).trans (same_new (o := .tup [nV k2, .ref tp]) nwp2)
      have ln12 : (n0 :: ks).length ≤ 12 := by omega
      obtain ⟨t0, m0, B2, lt2⟩ := beat_next ok B cl kl2 lt ln12 ne ab
      have mB := ok.rmom (ns := n0 :: ks) ln12
      have tB := ok.rtr (ns := n0 :: ks) ln12
      have pw : WayAt (upd (upd H2 tp (.tup ((n0 :: ks).map nV))) wp2 (.tup [nV k2, .ref tp])) wp2 k2 (n0 :: ks) := ⟨tp, upd_same, same_new nwp2 _ _ upd_same⟩
      have hR3 := (hR.keep T2).keep (TK.same s3)
      refine ⟨_, rfl, _, rfl, r, wp2, hs, bs, k2, n0 :: ks, rfl, hR3, hto, pw, kl2, lt, by omega, fun H4 s4 => ?_⟩
      refine ⟨_, rfl, _, rfl, r, wp2, hs, bs, k2, n0 :: ks, rfl, hR3.keep (TK.same s4), pw.keep (TK.same s4), lt, by omega, fun H5 s5 => ?_⟩
      refine ⟨(rmom hs bs (n0 :: ks)).toNat, (rtr bs (n0 :: ks)).toNat, ?_, by omega, by omega, by omega, fun p H6 hp s6 => ?_⟩
      · rw [Int.toNat_of_nonneg mB.1, Int.toNat_of_nonneg tB.1]; rfl
      have s36 := s3.trans ((s4.trans s5).trans s6)
      have hR6 := hR3.keep (TK.same ((s4.trans s5).trans s6))
      have pw6 := pw.keep (TK.same ((s4.trans s5).trans s6))
      refine ⟨_, rfl, ha, _, rfl, .inr (SqT.of (s36 _ _ (T2 _ _ eh))), _, rfl, _, rfl, r, p, hs, bs, _, _, rfl, hR6, hp, ok, fun sl H7 hst s7 => ⟨sl, hs.length, _, by rw [lhv]; rfl, hst, steps_bd ok, by rw [List.length_map]; omega, by omega, fun q2 ll lv H8 hq hll f nn s8 => ?_, fun q2 rl ks2 H8 hq hrl ring lk s8 => ?_⟩⟩
      all_goals have s68 := s7.trans s8
      all_goals have bb := B2
      all_goals have x1 := bms_le B2.a0 B2.a9 B2.b1
      · exact ⟨q2, _, rfl, SqT.of hq, rfl, _, _, rfl, _, _, rfl, rfl, _, (by omega), _, _, ⟨m1, k2, n0 :: ks, p, wp2, _, _, rfl, s68 _ _ hp, pw6.keep (TK.same s68), B2, ext.trans (ExtN.same (s36.trans s68)), tabs_same tabs2 (s36.trans s68), .inl ⟨rfl, ll, lv, rfl, hll, down_of B2 f nn⟩⟩, rfl⟩
      · exact ⟨q2, _, rfl, SqT.of hq, rfl, _, _, rfl, _, _, rfl, rfl, _, (by omega), _, _, ⟨m1, k2, n0 :: ks, p, wp2, _, _, rfl, s68 _ _ hp, pw6.keep (TK.same s68), B2, ext.trans (ExtN.same (s36.trans s68)), tabs_same tabs2 (s36.trans s68), .inr ⟨rl, ks2, rfl, rfl, hrl, ring, lk⟩⟩, rfl⟩
  refine ⟨_, rfl, r, _, rfl, SqT.of er, rfl, _, _, rfl, _, _, rfl, rfl, ?_⟩
  refine ⟨_, rfl, _, .inr (.inl ⟨_, SqT.of eh, rfl⟩), if_bl (fun z => ?_) (fun z => ?_)⟩
  · have e0 : hs = [] := by
      cases hv with
      | nil => exact List.eq_nil_of_length_eq_zero lhv.symm
      | cons x l => exact nomatch z
    refine ⟨(by show 2 ≤ sizeLine; decide), fun p1 np1 => ⟨(by show 0 ≤ sizeLine; decide), fun p2 np2 => ⟨(by show 3 ≤ sizeLine; decide), fun p np => ?_⟩⟩⟩
    have s3 := ((same_new (H := H) (o := .tup [.int 0, .int 1]) np1).trans (same_new (o := .tup []) np2)).trans (same_new (o := .tup [.ref p1, .non, .ref p2]) np)
    exact q0 e0 p _ ⟨p1, p2, upd_same, same_new np _ _ (same_new np2 _ _ upd_same), same_new np _ _ upd_same⟩ (ExtN.same s3) (tabs_same tabs s3)
  have h0 : 0 < hs.length := by
    cases hv with
    | nil => exact nomatch z
    | cons x l => rw [← lhv]; exact Nat.succ_pos _
  refine ⟨_, rfl, ha, _, rfl, .inr (SqT.of eh), _, rfl, ⟨by omega, by omega, by omega, by omega, by omega⟩, fun rg nrg => ?_⟩
  have erg : rgV 0 ((hv.length : Nat) : Int) = ((List.range hs.length).map fun i => ((i : Nat) : Int)).map V.int := by
    unfold rgV
    rw [List.map_map, show (((hv.length : Nat) : Int) - 0).toNat = hs.length by omega]
    refine List.map_congr_left fun i _ => ?_
    show V.int (0 + ((i : Nat) : Int)) = V.int ((i : Nat) : Int)
    rw [Int.zero_add]
  have hrg : upd H rg (.lst (rgV 0 ((hv.length : Nat) : Int))) rg = some (.lst (((List.range hs.length).map fun i => ((i : Nat) : Int)).map V.int)) := by rw [upd_same, erg]
  have s1 := same_new (H := H) (o := .lst (rgV 0 ((hv.length : Nat) : Int))) nrg
  refine ⟨rg, (List.range hs.length).map fun i => ((i : Nat) : Int), fun z => momH hs z.toNat, rfl, SqL.of hrg, by rw [List.length_map, List.length_range]; exact h0, tabs_same tabs s1, fun H3 ext tabs3 => ⟨SqL.of (ExtN.lst ext hrg), fun n hn => ?_, fun m hm hg => ?_⟩⟩
  · obtain ⟨j, hj, rfl⟩ := List.mem_map.mp hn
    have jl := List.mem_range.mp hj
    have ehj : hs[j]? = some hs[j] := List.getElem?_eq_getElem jl
    obtain ⟨x0, ex0, ⟨t0, r0, rfl, e01, e02⟩⟩ := alh.get ehj
    refine ⟨ha, t0, hv, _, rfl, SqT.of (ExtN.tk ext _ _ (s1 _ _ eh)), atI_nat ex0, SqT.of (ExtN.tk ext _ _ (s1 _ _ e01)), ?_⟩
    show atI [V.ref r0, V.int hs[j].mom] 1 = some (V.int (momH hs ((j : Nat) : Int).toNat))
    rw [Int.toNat_natCast, show momH hs j = hs[j].mom by unfold momH; rw [ehj]]
    exact atI_nat (j := 1) rfl
  · obtain ⟨e, he, rfl⟩ := List.mem_map.mp hm
    have el := List.mem_range.mp he
    have ehj : hs[e]? = some hs[e] := List.getElem?_eq_getElem el
    obtain ⟨x0, ex0, ⟨t0, r0, rfl, e01, e02⟩⟩ := alh.get ehj
    have ex2 : LamX.ExtN H H3 := (ExtN.same s1).trans ext
    have T3 := ExtN.tk ex2
    have emo : momH hs e = hs[e].mom := by unfold momH; rw [ehj]
    have mo := ok.mom _ (List.getElem_mem el)
    have B : Beat hs bs hs[e].mom 1 e [] := ⟨mo.1, by omega, by omega, by omega, Nat.gcd_one_right _, el, (fun _ z => nomatch z), by show 0 ≤ 12; decide, .inl ⟨rfl, by rw [emo]; omega⟩, fun h hh => by
      obtain ⟨j, hj⟩ := List.getElem?_of_mem hh
      have jl := (List.getElem?_eq_some_iff.mp hj).1
      have : momH hs ((j : Nat) : Int).toNat ≤ momH hs ((e : Nat) : Int).toNat := hg ((j : Nat) : Int) (List.mem_map.mpr ⟨j, List.mem_range.mpr jl, rfl⟩)
      rw [Int.toNat_natCast, Int.toNat_natCast, emo] at this
      have : momH hs j = h.mom := by unfold momH; rw [hj]
      omega⟩
    refine ⟨_, rfl, (by show 0 ≤ sizeLine; decide), fun tp ntp => ⟨(by show 2 ≤ sizeLine; decide), fun wp nwp => ?_⟩⟩
    have s4 := (same_new (H := H3) (o := .tup []) ntp).trans (same_new (o := .tup [nV e, .ref tp]) nwp)
    have pw : WayAt (upd (upd H3 tp (.tup [])) wp (.tup [nV e, .ref tp])) wp e [] := ⟨tp, upd_same, same_new nwp _ _ upd_same⟩
    refine ⟨_, rfl, _, rfl, ha, _, _, _, rfl, rfl, SqT.of (s4 _ _ (T3 _ _ eh)), atI_nat ex0, t0, _, _, _, rfl, rfl, SqT.of (s4 _ _ (T3 _ _ e01)), atI_nat (j := 1) rfl, (by show 2 ≤ sizeLine; decide), fun fp nfp => ?_⟩
    have s5 := same_new (o := .tup [.int hs[e].mom, .int 1]) nfp
    have s45 := s4.trans s5
    refine ⟨_, rfl, ha, _, rfl, .inr (SqT.of (s45 _ _ (T3 _ _ eh))), _, rfl, _, rfl, r, fp, hs, bs, _, _, rfl, (hR.keep T3).keep (TK.same s45), upd_same, ok, fun sl H7 hst s7 => ⟨sl, hs.length, _, by rw [lhv]; rfl, hst, steps_bd ok, by rw [List.length_map]; omega, by omega, fun q2 ll lv H8 hq hll f nn s8 => ?_, fun q2 rl ks2 H8 hq hrl ring lk s8 => ?_⟩⟩
    all_goals have s68 := s7.trans s8
    all_goals have s48 := s45.trans s68
    · exact ⟨q2, _, rfl, SqT.of hq, rfl, _, _, rfl, _, _, rfl, rfl, rfl, h0, _, _, e, e, [], fp, wp, _, _, rfl, s68 _ _ upd_same, (pw.keep (TK.same s5)).keep (TK.same s68), B, ex2.trans (ExtN.same s48), tabs_same tabs3 s48, .inl ⟨rfl, ll, lv, rfl, hll, down_of B f nn⟩⟩
    · exact ⟨q2, _, rfl, SqT.of hq, rfl, _, _, rfl, _, _, rfl, rfl, rfl, h0, _, _, e, e, [], fp, wp, _, _, rfl, s68 _ _ upd_same, (pw.keep (TK.same s5)).keep (TK.same s68), B, ex2.trans (ExtN.same s48), tabs_same tabs3 s48, .inr ⟨rl, ks2, rfl, rfl, hrl, ring, lk⟩⟩
def sp_beat (K : PySem.W.Frag) (PT : Addr) : Sp := fun vs H Q _ => ∃ (r : Addr) (hs : List HR) (bs : List BR), vs = [.ref r] ∧ RoomAt H r hs bs ∧ BOk hs bs ∧ LamX.Tabs (TL PT) H ∧
  (hs = [] → ∀ (p : Addr) (H' : Hp), H' p = some (.tup [.int 0, .int 1]) → LamX.ExtN H H' → LamX.Tabs (TL PT) H' → Q (.ref p) H') ∧
  (0 < hs.length → ∀ (p : Addr) (a b : Int) (k : Nat) (ns : List Nat) (lv : Nat → Int) (H' : Hp), H' p = some (.tup [.int a, .int b]) → Beat hs bs a b k ns → Down hs bs a b lv → LamX.ExtN H H' → LamX.Tabs (TL PT) H' → Q (.ref p) H')
theorem ok_beat {f : Addr} {fd : FuncData} (F : Fun K "beat" "beat" s_beat f fd) (T : Top K mg) : FnOk P w K mg base CX0 4 f fd ["room"] (sp_beat K PT) := by
  obtain ⟨f_beat_papers, fd_beat_papers, F_beat_papers, b_beat_papers, m_beat_papers⟩ := T.d_beat_papers
  have G_beat_papers := ok_beat_papers (P := P) (w := w) (base := base) F_beat_papers (TLI.cd _ _ F_beat_papers m_beat_papers) T
  refine F.ok sc_beat (fun vs H Q E h => ?_) (fun cdv A outer s H vs Q E hr h => ?_)
  · obtain ⟨r, hs, bs, rfl, _⟩ := h
    rfl
  obtain ⟨r, hs, bs, rfl, hR, ok, tabs, q0, q1⟩ := h
  refine ⟨_, (pss_cons (ps_asg (pe_call G_beat_papers (hr.mono (by decide)) (by rfl) m_beat_papers F_beat_papers.kp b_beat_papers .nil pass0 (pa_cons (pv 0) pa_nil)) (pg_tupK K rfl rfl (pgs_cons (pg_name (i := 1) sc_beat.nd rfl (Or.inl rfl)) (pgs_cons (pg_name (i := 2) sc_beat.nd rfl (Or.inl rfl)) (pgs_cons (pg_name (i := 3) sc_beat.nd rfl (Or.inl rfl)) pgs_nil)))))
      (pss_one (ps_ret (pv 1)))), ?_⟩
  refine ⟨_, rfl, r, hs, bs, rfl, hR, ok, tabs, fun h0 p H1 pp ext tb => ?_, fun h0 p H1 pp ext tb => ?_⟩
  · obtain ⟨fp, np, hp, hfp, hnp⟩ := pp
    exact ⟨p, _, rfl, SqT.of hp, rfl, _, _, rfl, _, _, rfl, _, _, rfl, rfl, _, rfl, q0 h0 fp H1 hfp ext tb⟩
  · obtain ⟨fp, wp, np, a, b, k, ns, lv, hp, hfp, hwp, hnp, B, D⟩ := pp
    exact ⟨p, _, rfl, SqT.of hp, rfl, _, _, rfl, _, _, rfl, _, _, rfl, rfl, _, rfl, q1 h0 fp a b k ns lv H1 hfp B D ext tb⟩
def sp_holding (K : PySem.W.Frag) (PT : Addr) : Sp := fun vs H Q _ => ∃ (r : Addr) (hs : List HR) (bs : List BR), vs = [.ref r] ∧ RoomAt H r hs bs ∧ BOk hs bs ∧ LamX.Tabs (TL PT) H ∧
  (hs = [] → ∀ (p : Addr) (H' : Hp), H' p = some (.tup []) → LamX.ExtN H H' → LamX.Tabs (TL PT) H' → Q (.ref p) H') ∧
  (0 < hs.length → ∀ (p : Addr) (a b : Int) (k : Nat) (ns : List Nat) (lv : Nat → Int) (H' : Hp), H' p = some (.tup (levL hs.length lv)) → Beat hs bs a b k ns → Down hs bs a b lv → LamX.ExtN H H' → LamX.Tabs (TL PT) H' → Q (.ref p) H')
theorem ok_holding {f : Addr} {fd : FuncData} (F : Fun K "holding" "holding" s_holding f fd) (T : Top K mg) : FnOk P w K mg base CX0 4 f fd ["room"] (sp_holding K PT) := by
  obtain ⟨f_beat_papers, fd_beat_papers, F_beat_papers, b_beat_papers, m_beat_papers⟩ := T.d_beat_papers
  have G_beat_papers := ok_beat_papers (P := P) (w := w) (base := base) F_beat_papers (TLI.cd _ _ F_beat_papers m_beat_papers) T
  refine F.ok sc_holding (fun vs H Q E h => ?_) (fun cdv A outer s H vs Q E hr h => ?_)
  · obtain ⟨r, hs, bs, rfl, _⟩ := h
    rfl
  obtain ⟨r, hs, bs, rfl, hR, ok, tabs, q0, q1⟩ := h
  refine ⟨_, (pss_cons (ps_asg (pe_call G_beat_papers (hr.mono (by decide)) (by rfl) m_beat_papers F_beat_papers.kp b_beat_papers .nil pass0 (pa_cons (pv 0) pa_nil)) (pg_tupK K rfl rfl (pgs_cons (pg_name (i := 1) sc_holding.nd rfl (Or.inl rfl)) (pgs_cons (pg_name (i := 2) sc_holding.nd rfl (Or.inl rfl)) (pgs_cons (pg_name (i := 3) sc_holding.nd rfl (Or.inl rfl)) pgs_nil)))))
      (pss_one (ps_ret (pv 3)))), ?_⟩
  refine ⟨_, rfl, r, hs, bs, rfl, hR, ok, tabs, fun h0 p H1 pp ext tb => ?_, fun h0 p H1 pp ext tb => ?_⟩
  · obtain ⟨fp, np, hp, hfp, hnp⟩ := pp
    exact ⟨p, _, rfl, SqT.of hp, rfl, _, _, rfl, _, _, rfl, _, _, rfl, rfl, _, rfl, q0 h0 np H1 hnp ext tb⟩
  · obtain ⟨fp, wp, np, a, b, k, ns, lv, hp, hfp, hwp, hnp, B, D⟩ := pp
    exact ⟨p, _, rfl, SqT.of hp, rfl, _, _, rfl, _, _, rfl, _, _, rfl, rfl, _, rfl, q1 h0 np a b k ns lv H1 hnp B D ext tb⟩
end
section
variable {P : Program} {w : World} {K : PySem.W.Frag} {mg : Str → Option Value} {base : Heap}
def sp_holder (K : PySem.W.Frag) (PT : Addr) : Sp := fun vs H Q _ => ∃ (r : Addr) (hs : List HR) (bs : List BR), vs = [.ref r] ∧ RoomAt H r hs bs ∧ BOk hs bs ∧ LamX.Tabs (TL PT) H ∧
  (hs = [] → ∀ (H' : Hp), LamX.ExtN H H' → LamX.Tabs (TL PT) H' → Q .non H') ∧
  (0 < hs.length → ∀ (p : Addr) (a b : Int) (k : Nat) (ns : List Nat) (lv : Nat → Int) (H' : Hp), WayAt H' p k ns → Beat hs bs a b k ns → Down hs bs a b lv → LamX.ExtN H H' → LamX.Tabs (TL PT) H' → Q (.ref p) H')
variable {cT PT : Addr} [TLI : TabL K mg base cT PT]
include TLI
theorem ok_holder {f : Addr} {fd : FuncData} (F : Fun K "holder" "holder" s_holder f fd) (T : Top K mg) : FnOk P w K mg base CX0 4 f fd ["room"] (sp_holder K PT) := by
  obtain ⟨f_beat_papers, fd_beat_papers, F_beat_papers, b_beat_papers, m_beat_papers⟩ := T.d_beat_papers
  have G_beat_papers := ok_beat_papers (P := P) (w := w) (base := base) F_beat_papers (TLI.cd _ _ F_beat_papers m_beat_papers) T
  refine F.ok sc_holder (fun vs H Q E h => ?_) (fun cdv A outer s H vs Q E hr h => ?_)
  · obtain ⟨r, hs, bs, rfl, _⟩ := h
    rfl
  obtain ⟨r, hs, bs, rfl, hR, ok, tabs, q0, q1⟩ := h
  refine ⟨_, (pss_cons (ps_asg (pe_call G_beat_papers (hr.mono (by decide)) (by rfl) m_beat_papers F_beat_papers.kp b_beat_papers .nil pass0 (pa_cons (pv 0) pa_nil)) (pg_tupK K rfl rfl (pgs_cons (pg_name (i := 1) sc_holder.nd rfl (Or.inl rfl)) (pgs_cons (pg_name (i := 2) sc_holder.nd rfl (Or.inl rfl)) (pgs_cons (pg_name (i := 3) sc_holder.nd rfl (Or.inl rfl)) pgs_nil)))))
      (pss_one (ps_ret (pv 2)))), ?_⟩
  refine ⟨_, rfl, r, hs, bs, rfl, hR, ok, tabs, fun h0 p H1 pp ext tb => ?_, fun h0 p H1 pp ext tb => ?_⟩
  · obtain ⟨fp, np, hp, hfp, hnp⟩ := pp
    exact ⟨p, _, rfl, SqT.of hp, rfl, _, _, rfl, _, _, rfl, _, _, rfl, rfl, _, rfl, q0 h0 H1 ext tb⟩
  · obtain ⟨fp, wp, np, a, b, k, ns, lv, hp, hfp, hwp, hnp, B, D⟩ := pp
    exact ⟨p, _, rfl, SqT.of hp, rfl, _, _, rfl, _, _, rfl, _, _, rfl, rfl, _, rfl, q1 h0 wp a b k ns lv H1 hwp B D ext tb⟩
end
/-! ### the beat and the least time -/
theorem int_max {P : Int → Prop} {T : Int} (le : ∀ x, P x → x ≤ T) : ∀ (n : Nat) (x : Int), P x → (T - x).toNat ≤ n → ∃ m, P m ∧ ∀ y, P y → y ≤ m
  | 0, x, h, z => ⟨x, h, fun y hy => by have := le y hy; have := le x h; omega⟩
  | n + 1, x, h, z => by
    by_cases c : ∃ y, P y ∧ x < y
    · obtain ⟨y, hy, xy⟩ := c
      exact int_max le n y hy (by have := le y hy; omega)
    · exact ⟨x, h, fun y hy => by
        rcases Int.lt_or_le x y with k | k
        · exact absurd ⟨y, hy, k⟩ c
        · exact k⟩
section
variable {hs : List HR} {bs : List BR} {T : Int} {lv : Nat → Int}
theorem Wl.vl (r : Wl hs bs T lv) {k : Nat} {x : Int} (v : Vl hs bs lv k x) : x ≤ T := by
  obtain ⟨one, ns, h1, h2, h3, h4⟩ := v
  have := r one ns k h1 h2
  rw [h4] at this
  unfold ndd at this
  split at this <;> omega
theorem Wl.tr (ok : BOk hs bs) (r : Wl hs bs T lv) {b : BR} (hb : b ∈ bs) : 0 ≤ trS lv b := by
  obtain ⟨n, hn⟩ := List.getElem?_of_mem hb
  have := r b.one [n] b.to (ok.ends b hb).1 (by rw [wayEnd_cons hn, if_pos rfl]; rfl)
  have e : (wayCo hs bs b.one [n]).1 = (b.th.length : Int) := by
    show ([n].map (trB bs)).sum = _
    have h1 : trB bs n = (b.th.length : Int) := by unfold trB; rw [hn]
    simp [h1]
  rw [e] at this
  unfold trS
  unfold ndd at this
  split at this <;> omega
theorem Wl.pot (ok : BOk hs bs) (r : Wl hs bs T lv) : ∃ L : Nat → Int, (∀ k, k < hs.length → momH hs k ≤ L k ∧ L k ≤ T) ∧ ∀ b ∈ bs, L b.one + momH hs b.to ≤ L b.to + T * trS lv b := by
  have ex : ∀ k, ∃ m, k < hs.length → Vl hs bs lv k m ∧ ∀ y, Vl hs bs lv k y → y ≤ m := fun k => by
    by_cases h : k < hs.length
    · obtain ⟨m, h1, h2⟩ := int_max (P := Vl hs bs lv k) (fun x v => r.vl v) _ _ (Vl.nil h) (Nat.le_refl _)
      exact ⟨m, fun _ => ⟨h1, h2⟩⟩
    · exact ⟨0, fun z => absurd z h⟩
  obtain ⟨L, hL⟩ := Classical.axiomOfChoice ex
  have lo : ∀ k, k < hs.length → momH hs k ≤ L k ∧ L k ≤ T := fun k hk => ⟨(hL k hk).2 _ (Vl.nil hk), r.vl (hL k hk).1⟩
  refine ⟨L, lo, fun b hb => ?_⟩
  obtain ⟨e1, e2⟩ := ok.ends b hb
  have t0 := r.tr ok hb
  by_cases z : trS lv b = 0
  · have := (hL b.to e2).2 _ (Vl.go hb z (hL b.one e1).1)
    rw [z, Int.mul_zero]
    omega
  · have h1 := lo b.one e1
    have h2 := lo b.to e2
    have m := ok.momH b.one
    have : T * 1 ≤ T * trS lv b := Int.mul_le_mul_of_nonneg_left (by omega) (by omega)
    omega
theorem pot_ring {L : Nat → Int} (h : ∀ b ∈ bs, L b.one + momH hs b.to ≤ L b.to + T * trS lv b) : ∀ {ns : List Nat} {k e : Nat}, wayEnd bs k ns = some e → L k + rmom hs bs ns ≤ L e + T * (rtr bs ns + lv e - lv k)
  | [], k, e, w => by
    cases w
    show L k + 0 ≤ L k + T * (0 + lv k - lv k)
    rw [show (0 : Int) + lv k - lv k = 0 by omega]
    omega
  | n :: ns, k, e, w => by
    cases eb : bs[n]? with
    | none => rw [wayEnd_none eb] at w; cases w
    | some b =>
      rw [wayEnd_cons eb] at w
      by_cases z : b.one = k
      · rw [if_pos z] at w
        have ih := pot_ring h w
        have hb := h b (List.mem_of_getElem? eb)
        have e1 : rmom hs bs (n :: ns) = momH hs b.to + rmom hs bs ns := by
          unfold rmom
          rw [List.map_cons, List.sum_cons, show toB bs n = b.to by unfold toB; rw [eb]]
        have e2 : rtr bs (n :: ns) = (b.th.length : Int) + rtr bs ns := by
          unfold rtr
          rw [List.map_cons, List.sum_cons, show trB bs n = (b.th.length : Int) by unfold trB; rw [eb]]
        have e3 : T * (rtr bs (n :: ns) + lv e - lv k) = T * trS lv b + T * (rtr bs ns + lv e - lv b.to) := by
          rw [e2, ← Int.mul_add]
          unfold trS
          rw [z]
          congr 1
          omega
        rw [e1, e3]
        rw [z] at hb
        omega
      · rw [if_neg z] at w; cases w
theorem beat_fa {a b : Int} {k : Nat} {ns : List Nat} (ok0 : RoomOk hs bs) (ok : BOk hs bs) (B : Beat hs bs a b k ns) (f : FA hs bs none T) : a ≤ b * T := by
  obtain ⟨lv, f⟩ := f
  have W := ((fal_iff ok0).mp f).1
  obtain ⟨L, h1, h2⟩ := W.pot ok
  have b1 := B.b1
  rcases B.up with ⟨rfl, e⟩ | ⟨ne, cl, e⟩
  · have := h1 k B.kl
    rw [← e]
    exact Int.mul_le_mul_of_nonneg_left (by omega) (by omega)
  · have r := pot_ring h2 cl
    rw [show rtr bs ns + lv k - lv k = rtr bs ns by omega] at r
    obtain ⟨rk, hr⟩ := ok.rank
    have t0 := ring_trays hr cl ne
    refine Int.le_of_mul_le_mul_right (a := rtr bs ns) ?_ t0
    rw [← e, Int.mul_assoc]
    exact Int.mul_le_mul_of_nonneg_left (by omega) (by omega)
theorem mom_end (ok : BOk hs bs) : ∀ {ns : List Nat} {k e : Nat}, wayEnd bs k ns = some e → momH hs e ≤ momW hs bs k ns
  | [], k, e, w => by cases w; show momH hs k ≤ momH hs k + 0; omega
  | n :: ns, k, e, w => by
    cases eb : bs[n]? with
    | none => rw [wayEnd_none eb] at w; cases w
    | some b =>
      rw [wayEnd_cons eb] at w
      by_cases z : b.one = k
      · rw [if_pos z] at w
        have ih := mom_end ok w
        have m := ok.momH k
        have e1 : momW hs bs k (n :: ns) = momH hs k + momW hs bs b.to ns := by
          unfold momW
          rw [List.map_cons, List.sum_cons, show toB bs n = b.to by unfold toB; rw [eb]]
        omega
      · rw [if_neg z] at w; cases w
theorem down_way {a b : Int} (D : Down hs bs a b lv) : ∀ {ns : List Nat} {k e : Nat}, wayEnd bs k ns = some e → lv k + b * (momW hs bs k ns - momH hs e) - a * rtr bs ns ≤ lv e
  | [], k, e, w => by
    cases w
    show lv k + b * (momH hs k + 0 - momH hs k) - a * 0 ≤ lv k
    rw [show momH hs k + 0 - momH hs k = 0 by omega]
    omega
  | n :: ns, k, e, w => by
    cases eb : bs[n]? with
    | none => rw [wayEnd_none eb] at w; cases w
    | some x =>
      rw [wayEnd_cons eb] at w
      by_cases z : x.one = k
      · rw [if_pos z] at w
        have ih := down_way D w
        have hb := D.2.2 x (List.mem_of_getElem? eb)
        rw [z] at hb
        have e1 : momW hs bs k (n :: ns) - momH hs e = momH hs k + (momW hs bs x.to ns - momH hs e) := by
          unfold momW
          rw [List.map_cons, List.sum_cons, show toB bs n = x.to by unfold toB; rw [eb]]
          omega
        have e2 : rtr bs (n :: ns) = (x.th.length : Int) + rtr bs ns := by
          unfold rtr
          rw [List.map_cons, List.sum_cons, show trB bs n = (x.th.length : Int) by unfold trB; rw [eb]]
        rw [e1, e2, Int.mul_add, Int.mul_add]
        omega
      · rw [if_neg z] at w; cases w
theorem fa_beat {a b most : Int} {k : Nat} {ns : List Nat} (ok0 : RoomOk hs bs) (ok : BOk hs bs) (B : Beat hs bs a b k ns) (D : Down hs bs a b lv) (a1 : 0 < a) (ms : ∀ k, momH hs k ≤ most) (h : a + b * most ≤ b * T) : FA hs bs none (T - 1) := by
  have b1 := B.b1
  refine ⟨fun j => lv j / a, (fal_iff ok0).mpr ⟨fun one ns e ho w => ?_, (fun _ z => nomatch z)⟩⟩
  have d := down_way D w
  have me := mom_end ok w
  have q1 := Int.mul_ediv_add_emod (lv one) a
  have q2 := Int.mul_ediv_add_emod (lv e) a
  have g1 := Int.emod_nonneg (lv one) (show a ≠ 0 by omega)
  have g2 := Int.emod_lt_of_pos (lv e) a1
  show lv one / a + (ndd (momW hs bs one ns) (T - 1) - rtr bs ns) ≤ lv e / a
  generalize lv one / a = x at *
  generalize lv e / a = y at *
  generalize lv one % a = u at *
  generalize lv e % a = v at *
  have key : b * (momW hs bs one ns - momH hs e) ≤ a * (rtr bs ns + y - x) + (v - u) := by
    have e1 : a * (rtr bs ns + y - x) = a * rtr bs ns + a * y - a * x := by rw [Int.mul_sub, Int.mul_add]
    rw [e1]
    omega
  have nn : 0 ≤ b * (momW hs bs one ns - momH hs e) := Int.mul_nonneg (by omega) (by omega)
  have w0 : 0 ≤ rtr bs ns + y - x := by
    rcases Int.lt_or_le (rtr bs ns + y - x) 0 with z | z
    · have : a * (rtr bs ns + y - x) ≤ a * (-1) := Int.mul_le_mul_of_nonneg_left (by omega) (by omega)
      omega
    · exact z
  unfold ndd
  split
  · rename_i c
    have h1 : b * T ≤ b * momW hs bs one ns := Int.mul_le_mul_of_nonneg_left (by omega) (by omega)
    have h2 : b * momH hs e ≤ b * most := Int.mul_le_mul_of_nonneg_left (ms e) (by omega)
    rw [Int.mul_sub] at key
    have : rtr bs ns + y - x ≠ 0 := fun z => by
      rw [z, Int.mul_zero] at key
      omega
    omega
  · omega
/-- the least time of any lateness and the beat -/
theorem least_beat {a b most : Int} {k : Nat} {ns : List Nat} (ok0 : RoomOk hs bs) (ok : BOk hs bs) (B : Beat hs bs a b k ns) (D : Down hs bs a b lv) (L : Least hs bs none T) (ms : ∀ k, momH hs k ≤ most) (h : 0 < most) (ex : ∃ h ∈ hs, h.mom = most) : a ≤ b * T ∧ b * T < a + b * most := by
  refine ⟨beat_fa ok0 ok B L.fa, ?_⟩
  have b1 := B.b1
  obtain ⟨x, hx, em⟩ := ex
  have a1 := B.mom x hx
  rw [em] at a1
  have bm : b * 1 ≤ b * most := Int.mul_le_mul_of_nonneg_left (by omega) (by omega)
  rcases Int.lt_or_le (b * T) (a + b * most) with z | z
  · exact z
  · have t1 : 0 < T := by
      rcases Int.lt_or_le 0 T with y | y
      · exact y
      · have : b * T ≤ b * 0 := Int.mul_le_mul_of_nonneg_left y (by omega)
        omega
    exact absurd (fa_beat ok0 ok B D (by omega) ms z) (L.no (T - 1) (by omega) (by omega))
end
/-! ### a room of doors alone -/
def insOf (ss : List Str) : List Nat := (List.range ss.length).filter fun j => decide (ss[j]? = some ("in" : Str))
theorem ins_mem {ss : List Str} {k : Nat} (h : k ∈ insOf ss) : ss[k]? = some ("in" : Str) := of_decide_eq_true (List.mem_filter.mp h).2
theorem ins_len {ss : List Str} : (insOf ss).length = ss.count ("in" : Str) := by
  unfold insOf
  have : ∀ n, n ≤ ss.length → ((List.range n).filter fun j => decide (ss[j]? = some ("in" : Str))).length = (ss.take n).count ("in" : Str) := by
    intro n
    induction n with
    | zero => intro _; rfl
    | succ n ih =>
      intro h
      have e : ss[n]? = some ss[n] := List.getElem?_eq_getElem (by omega)
      rw [filt_succ, List.length_append, ih (by omega), List.take_add_one, e, List.count_append]
      by_cases c : ss[n] = "in"
      · rw [if_pos (decide_eq_true (by rw [c]))]
        simp [c]
      · rw [if_neg (by simpa using c)]
        simp [c]
  rw [this _ (Nat.le_refl _), List.take_length]
abbrev doorH (s : Str) : HR := ⟨s, none, 0⟩
theorem door_good {s : Str} (h : s = "in" ∨ s = "out") : GoodHand (doorH s) := ⟨.inr ⟨h, rfl⟩, (show (0 : Int) ≤ 0 by decide), (show (0 : Int) ≤ 30 by decide)⟩
theorem in_out : ("in" : Str) ≠ "out" := by decide +kernel
/-- the belts of a room of doors, as far as hand i -/
structure DB (ss : List Str) (i : Nat) (bs : List BR) : Prop where
  one : ∀ b ∈ bs, ss[b.one]? = some ("in" : Str)
  to : ∀ b ∈ bs, ss[b.to]? = some ("out" : Str) ∧ b.to < i
  th : ∀ b ∈ bs, b.th.length ≤ 6 ∧ ∀ x ∈ b.th, Small x
  cnt : ∀ k, k < i → (bs.map BR.to).count k = if ss[k]? = some ("out" : Str) then 1 else 0
  len : bs.length ≤ i
theorem DB.nil {ss : List Str} : DB ss 0 [] := ⟨(fun _ z => nomatch z), (fun _ z => nomatch z), (fun _ z => nomatch z), fun k h => absurd h (Nat.not_lt_zero _), Nat.le_refl _⟩
theorem DB.none {ss : List Str} {i : Nat} {bs : List BR} (d : DB ss i bs) {k : Nat} (h : i ≤ k) : (bs.map BR.to).count k = 0 := by
  refine List.count_eq_zero.mpr fun hk => ?_
  obtain ⟨b, hb, e⟩ := List.mem_map.mp hk
  have := (d.to b hb).2
  omega
theorem DB.skip {ss : List Str} {i : Nat} {bs : List BR} (d : DB ss i bs) (h : ss[i]? ≠ some ("out" : Str)) : DB ss (i + 1) bs := by
  refine ⟨d.one, fun b hb => ⟨(d.to b hb).1, Nat.lt_succ_of_lt (d.to b hb).2⟩, d.th, fun k hk => ?_, Nat.le_succ_of_le d.len⟩
  by_cases e : k = i
  · subst e
    rw [d.none (Nat.le_refl _), if_neg h]
  · exact d.cnt k (by omega)
theorem DB.more {ss : List Str} {i : Nat} {bs : List BR} (d : DB ss i bs) (h : ss[i]? = some ("out" : Str)) {g : Nat} {th : List Int} (hg : ss[g]? = some ("in" : Str)) (ht : th.length ≤ 6 ∧ ∀ x ∈ th, Small x) : DB ss (i + 1) (bs ++ [⟨g, i, th⟩]) := by
  refine ⟨fun b hb => ?_, fun b hb => ?_, fun b hb => ?_, fun k hk => ?_, by rw [List.length_append]; exact Nat.succ_le_succ d.len⟩
  · rcases List.mem_append.mp hb with hb | hb
    · exact d.one b hb
    · obtain rfl : b = _ := by simpa using hb
      exact hg
  · rcases List.mem_append.mp hb with hb | hb
    · exact ⟨(d.to b hb).1, Nat.lt_succ_of_lt (d.to b hb).2⟩
    · obtain rfl : b = _ := by simpa using hb
      exact ⟨h, Nat.lt_succ_self _⟩
  · rcases List.mem_append.mp hb with hb | hb
    · exact d.th b hb
    · obtain rfl : b = _ := by simpa using hb
      exact ht
  · rw [List.map_append, List.count_append]
    by_cases e : k = i
    · subst e
      rw [d.none (Nat.le_refl _), if_pos h]
      simp
    · rw [d.cnt k (by omega)]
      have : ([(⟨g, i, th⟩ : BR)].map BR.to).count k = 0 := by
        refine List.count_eq_zero.mpr fun z => ?_
        have : k = i := by simpa using z
        exact e this
      rw [this, Nat.add_zero]
theorem DB.ok {ss : List Str} {bs : List BR} (d : DB ss ss.length bs) (hs : ∀ s ∈ ss, s = "in" ∨ s = "out") (l : ss.length ≤ 6) : RoomOk (ss.map doorH) bs := by
  have at_ : ∀ k, (ss.map doorH)[k]? = (ss[k]?).map doorH := fun k => List.getElem?_map ..
  refine ⟨by rw [List.length_map]; omega, fun h hh => ?_, fun b hb => ?_, fun b hb h e => ?_, d.th, ⟨fun k => if ss[k]? = some ("in" : Str) then 0 else 1, fun b hb _ => ?_⟩, fun k h e => ?_, Nat.le_trans d.len (by omega)⟩
  · obtain ⟨s, hm, rfl⟩ := List.mem_map.mp hh
    exact door_good (hs s hm)
  · rw [List.length_map]
    exact ⟨(List.getElem?_eq_some_iff.mp (d.one b hb)).1, (List.getElem?_eq_some_iff.mp (d.to b hb).1).1⟩
  · rw [at_, d.one b hb] at e
    cases e
    exact in_out
  · show (if ss[b.one]? = some ("in" : Str) then (0 : Int) else 1) < (if ss[b.to]? = some ("in" : Str) then (0 : Int) else 1)
    rw [if_pos (d.one b hb), if_neg (by rw [(d.to b hb).1]; exact fun z => in_out (Option.some.inj z).symm)]
    decide
  · rw [at_] at e
    cases q : ss[k]? with
    | none => rw [q] at e; cases e
    | some s =>
      rw [q] at e
      cases e
      have kl := (List.getElem?_eq_some_iff.mp q).1
      rw [d.cnt k kl, q]
      rcases hs s (List.mem_of_getElem? q) with z | z <;> rw [z]
      · rw [if_neg fun z => in_out (Option.some.inj z)]
        decide +kernel
      · rw [if_pos rfl]
        decide +kernel
section
variable {P : Program} {w : World} {K : PySem.W.Frag} {mg : Str → Option Value} {base : Heap}
def sp_law_doors_room (K : PySem.W.Frag) : Sp := fun vs H Q _ => ∃ f c : Addr, vs = [.ref f] ∧ Flow H f c ∧ ∀ (r : Addr) (hs : List HR) (bs : List BR) (H' : Hp), RoomAt H' r hs bs → RoomOk hs bs → Flow H' f c → But f H H' → Q (.ref r) H'
theorem ok_law_doors_room {f : Addr} {fd : FuncData} (F : Fun K "_law_doors_room" "_law_doors_room" s_law_doors_room f fd) (T : Top K mg) : FnOk P w K mg base CX0 3 f fd ["_law_flow_here"] (sp_law_doors_room K) := by
  obtain ⟨f_law_pick, fd_law_pick, F_law_pick, b_law_pick, m_law_pick⟩ := T.d_law_pick
  have G_law_pick := ok_law_pick (P := P) (w := w) (base := base) F_law_pick T
  obtain ⟨f_law_shuffled, fd_law_shuffled, F_law_shuffled, b_law_shuffled, m_law_shuffled⟩ := T.d_law_shuffled
  have G_law_shuffled := ok_law_shuffled (P := P) (w := w) (base := base) F_law_shuffled T
  obtain ⟨f_law_thing, fd_law_thing, F_law_thing, b_law_thing, m_law_thing⟩ := T.d_law_thing
  have G_law_thing := ok_law_thing (P := P) (w := w) (base := base) F_law_thing T
  refine F.ok sc_law_doors_room (fun vs H Q E h => ?_) (fun cdv A outer s H vs Q E hr h => ?_)
  · obtain ⟨f, c, rfl, _⟩ := h
    rfl
  obtain ⟨f, c, rfl, hF, q⟩ := h
  let R1 : TS := fun D' σ' H' => D'.rt = Q ∧ ∃ (iv ov : Int) (sl : Addr) (ss : List Str), σ' = [some (.ref f), some (.int iv), some (.int ov), some (.ref sl), none, none, none, none, none, none] ∧ H' sl = some (.lst (ss.map V.str)) ∧ sl ≠ f ∧ ss.length ≤ 6 ∧ 0 ≤ iv ∧ iv ≤ 3 ∧ ss.count ("in" : Str) = iv.toNat ∧ (ss = [] ∨ 0 < iv) ∧ (∀ s ∈ ss, s = "in" ∨ s = "out") ∧ Flow H' f c ∧ But f H H'
  refine ⟨_, (pss_cons (ps_set (i := 1) sc_law_doors_room.nd rfl (Or.inl rfl) (pe_call G_law_pick (hr.mono (by decide)) (by rfl) m_law_pick F_law_pick.kp b_law_pick .nil pass0 (pa_cons (pv 0) (pa_cons pe_int pa_nil))))
      (pss_cons (ps_set (i := 2) sc_law_doors_room.nd rfl (Or.inl rfl) (pe_ix (ix_listK K rfl) (pe_lst (pa_cons pe_int (pa_cons (pe_op op_add pe_int (pe_call G_law_pick (hr.mono (by decide)) (by rfl) m_law_pick F_law_pick.kp b_law_pick .nil pass0 (pa_cons (pv 0) (pa_cons pe_int pa_nil)))) pa_nil))) (pe_callTy call_int1 (by rfl) T.m_int (by decide +kernel) (pa_cons (pe_cmpR op_gt (pv 1) pe_int (nomark _)) pa_nil)) (fun _ _ => rfl)))
      (pss_cons (ps_set (i := 3) sc_law_doors_room.nd rfl (Or.inl rfl) (pe_call G_law_shuffled (hr.mono (by decide)) (by rfl) m_law_shuffled F_law_shuffled.kp b_law_shuffled .nil pass0 (pa_cons (pv 0) (pa_cons (pe_op op_cat (pe_op op_rep (pe_lst (pa_cons pe_str pa_nil)) (pv 1)) (pe_op op_rep (pe_lst (pa_cons pe_str pa_nil)) (pv 2))) pa_nil))))
      (PSs.to (pss_cons (ps_setLc (i := 4) (own := [("_law_k", 5), ("_law_sort", 6)]) (g := gTup K 2 (gCons (gName 5) (gCons (gName 6) gNil))) (by rfl) sc_law_doors_room.nd rfl rfl (sw_true rfl rfl rfl (by decide +kernel)) (pi_enum (by rfl) T.m_enumerate (pa_cons (pv 3) pa_nil)) (blkOk_by (own := [("_law_k", 5), ("_law_sort", 6)]) (N := N_law_doors_room) (sc := defScope s_law_doors_room) (by decide +kernel)) (fun _ _ _ _ _ => (pg_tupK K rfl rfl (pgs_cons (pg_name (i := 5) sc_law_doors_room.nd rfl (Or.inl rfl)) (pgs_cons (pg_name (i := 6) sc_law_doors_room.nd rfl (Or.inl rfl)) pgs_nil)))) (fun _ _ _ _ _ => pts_one (pt_cmpR op_eq (pv 6) pe_str (nomark _))) (fun _ _ _ _ _ => (pv 5)))
      (pss_cons (ps_set (i := 7) sc_law_doors_room.nd rfl (Or.inl rfl) (pe_lst pa_nil))
      (pss_cons (ps_for PassesOwn.never rfl (pi_enum (by rfl) T.m_enumerate (pa_cons (pv 3) pa_nil)) (pg_tupK K rfl rfl (pgs_cons (pg_name (i := 5) sc_law_doors_room.nd rfl (Or.inl rfl)) (pgs_cons (pg_name (i := 6) sc_law_doors_room.nd rfl (Or.inl rfl)) pgs_nil)))
        (pss_one (ps_if (pt_cmpR op_eq (pv 6) pe_str (nomark _)) (pss_cons (ps_set (i := 8) sc_law_doors_room.nd rfl (Or.inl rfl) (pe_callTy (call_tuple_ofK K rfl) (by rfl) T.m_tuple (by decide +kernel) (pa_cons (pe_lc (own := [("_law_j", 9)]) (g := gName 9) (tt := tYes) (by rfl) sc_law_doors_room.nd (pi_range1 (by rfl) T.m_range (pa_cons (pe_call G_law_pick (hr.mono (by decide)) (by rfl) m_law_pick F_law_pick.kp b_law_pick .nil pass0 (pa_cons (pv 0) (pa_cons pe_int pa_nil))) pa_nil)) (blkOk_by (own := [("_law_j", 9)]) (N := N_law_doors_room) (sc := defScope s_law_doors_room) (by decide +kernel)) (fun _ _ _ _ _ => (pg_name (i := 9) sc_law_doors_room.nd rfl (Or.inl rfl))) (fun _ _ _ _ _ => pts_nil) (fun _ _ _ _ _ => (pe_call G_law_thing (hr.mono (by decide)) (by rfl) m_law_thing F_law_thing.kp b_law_thing .nil pass0 (pa_cons (pv 0) pa_nil)))) pa_nil)))
      (pss_one (ps_expr (pe_bmK K rfl PySem.F.plainAttrs_list PySem.F.slot_list_append PySem.F.type_list_append mt_append (pv 7) (pa_cons (pe_tup (pa_cons (pe_ix (ix_listK K rfl) (pv 4) (pe_call G_law_pick (hr.mono (by decide)) (by rfl) m_law_pick F_law_pick.kp b_law_pick .nil pass0 (pa_cons (pv 0) (pa_cons (pv 1) pa_nil))) (fun _ _ => rfl)) (pa_cons (pv 5) (pa_cons (pv 8) pa_nil)))) pa_nil))))) pss_nil)))
      (pss_one (ps_ret (pe_tup (pa_cons (pe_callTy (call_tuple_ofK K rfl) (by rfl) T.m_tuple (by decide +kernel) (pa_cons (pe_lc (own := [("_law_sort", 6)]) (g := gName 6) (tt := tYes) (by rfl) sc_law_doors_room.nd (pi_listK K rfl (pv 3)) (blkOk_by (own := [("_law_sort", 6)]) (N := N_law_doors_room) (sc := defScope s_law_doors_room) (by decide +kernel)) (fun _ _ _ _ _ => (pg_name (i := 6) sc_law_doors_room.nd rfl (Or.inl rfl))) (fun _ _ _ _ _ => pts_nil) (fun _ _ _ _ _ => (pe_tup (pa_cons (pe_tup (pa_cons (pv 6) pa_nil)) (pa_cons pe_int pa_nil))))) pa_nil)) (pa_cons (pe_callTy (call_tuple_ofK K rfl) (by rfl) T.m_tuple (by decide +kernel) (pa_cons (pv 7) pa_nil)) pa_nil)))))))) R1 ?tail1)))), ?_⟩
  case tail1 =>
    rintro D' σ' H1 ⟨eD, iv, ov, sl, ss, rfl, hsl, nsl, ls, i0, i3, ci, some_, hall, F1, B1⟩
    refine ⟨_, rfl, sl, _, rfl, SqL.of hsl, fun G nG => lc_it (n := ss.length) (fun i H5 => H5 G = some (.lst (((List.range i).filter fun j => decide (ss[j]? = some ("in" : Str))).map nV)) ∧ Same H1 H5) ⟨upd_same, same_new nG⟩ ?_ ?_ ?_ ?_⟩
    · rintro i H5 hi ⟨_, s5⟩
      exact ⟨_, _, SqL.of (s5 _ _ hsl), by rw [List.getElem?_map, List.getElem?_eq_getElem hi]; rfl⟩
    · rintro H5 ⟨_, s5⟩
      exact ⟨_, SqL.of (s5 _ _ hsl), by rw [List.length_map]; exact Nat.le_refl _⟩
    · rintro i x H5 H6 hi ⟨hG, s5⟩ ⟨t, y, rfl, nt, rfl, fy⟩
      obtain ⟨sd, ei⟩ : ∃ sd, ss[i]? = some sd := ⟨_, List.getElem?_eq_getElem hi⟩
      have ey : y = V.str sd := by
        have := fy _ (SqL.of (s5 _ _ hsl))
        rw [List.getElem?_map, ei] at this
        exact (Option.some.inj this).symm
      subst ey
      have hG6 := same_new (o := .tup [.int (i : Nat), V.str sd]) nt _ _ hG
      have few := filt_len (p := fun j => decide (ss[j]? = some ("in" : Str))) i
      refine ⟨t, _, rfl, SqT.of upd_same, rfl, _, _, rfl, _, _, rfl, rfl, rfl, _, rfl, rfl, _, rfl, if_str (fun e => ?_) (fun e => ?_)⟩
      · refine ⟨_, rfl, _, hG6, by rw [List.length_map]; exact small1000 (by omega), ?_, Same.own (s5.trans (same_new nt)) nG⟩
        rw [upd_same, filt_succ, if_pos (decide_eq_true (by rw [ei, e])), List.map_append]
        rfl
      · refine ⟨?_, s5.trans (same_new nt)⟩
        rw [filt_succ, if_neg (fun z => e (by have := of_decide_eq_true z; rw [ei] at this; exact Option.some.inj this)), List.append_nil]
        exact hG6
    · rintro H2 ⟨hG, s2⟩
      have hG : H2 G = some (.lst ((insOf ss).map nV)) := hG
      have F2 := F1.same s2
      have gf : G ≠ f := F1.ne nG
      refine ⟨(by show 0 ≤ sizeLine; decide), fun L nL => ?_⟩
      have lf : L ≠ f := F2.ne nL
      have lc : L ≠ c := F2.nec nL
      have ls_ : L ≠ sl := (ne_of_none (s2 _ _ hsl) nL).symm
      have lg : L ≠ G := (ne_of_none hG nL).symm
      refine ⟨_, rfl, sl, _, rfl, SqL.of (same_new nL _ _ (s2 _ _ hsl)), for_it (n := ss.length) (fun i σ H3 => ∃ (bv : List V) (bs : List BR) (v5 v6 v8 v9 : Option V), σ = [some (.ref f), some (.int iv), some (.int ov), some (.ref sl), some (.ref G), v5, v6, some (.ref L), v8, v9] ∧ H3 L = some (.lst bv) ∧ All2 (BeltAt H3) bv bs ∧ DB ss i bs ∧ H3 sl = some (.lst (ss.map V.str)) ∧ H3 G = some (.lst ((insOf ss).map nV)) ∧ Flow H3 f c ∧ But f H2 H3)
        ⟨[], [], _, _, _, _, rfl, upd_same, .nil, DB.nil, same_new nL _ _ (s2 _ _ hsl), same_new nL _ _ hG, F2.new nL, But.refl.new nL⟩ ?_ ?_ ?_ ?_⟩
      · rintro i σ H3 hi ⟨bv, bs, v5, v6, v8, v9, rfl, hL, al, db, hsl3, hG3, F3, B3⟩
        exact ⟨_, _, SqL.of hsl3, by rw [List.getElem?_map, List.getElem?_eq_getElem hi]; rfl⟩
      · rintro σ H3 ⟨bv, bs, v5, v6, v8, v9, rfl, hL, al, db, hsl3, hG3, F3, B3⟩
        exact ⟨_, SqL.of hsl3, by rw [List.length_map]; exact Nat.le_refl _⟩
      · rintro i x σ H3 H4 hi ⟨bv, bs, v5, v6, v8, v9, rfl, hL, al, db, hsl3, hG3, F3, B3⟩ ⟨t, y, rfl, nt, rfl, fy⟩
        obtain ⟨sd, ei⟩ : ∃ sd, ss[i]? = some sd := ⟨_, List.getElem?_eq_getElem hi⟩
        have ey : y = V.str sd := by
          have := fy _ (SqL.of hsl3)
          rw [List.getElem?_map, ei] at this
          exact (Option.some.inj this).symm
        subst ey
        have F4 := F3.new (o := .tup [.int (i : Nat), V.str sd]) nt
        have B4 := B3.new (o := .tup [.int (i : Nat), V.str sd]) nt
        have s4 := same_new (H := H3) (o := .tup [.int (i : Nat), V.str sd]) nt
        refine ⟨t, _, rfl, SqT.of upd_same, rfl, _, _, rfl, _, _, rfl, rfl, ?_⟩
        refine ⟨_, rfl, rfl, _, rfl, if_str (fun e => ?_) (fun e => ?_)⟩
        · refine ⟨_, rfl, f, c, 7, rfl, by decide, by decide +kernel, F4, fun tv H5 t0 t1 F5 B5 => ?_⟩
          refine ⟨_, rfl, by omega, by omega, fun M nM => lc_range (lo := 0) (n := tv.toNat) (fun j H6 => ∃ vs : List Int, vs.length = j ∧ H6 M = some (.lst (vs.map V.int)) ∧ (∀ y ∈ vs, Small y) ∧ Flow H6 f c ∧ But f H5 H6) ⟨[], rfl, upd_same, (fun _ z => nomatch z), F5.new nM, But.refl.new nM⟩ ?_ ?_⟩
          · rintro j H6 hj ⟨vs, lv, hM, sm, F6, B6⟩
            have mf : M ≠ f := F5.ne nM
            have mc : M ≠ c := F5.nec nM
            refine ⟨rfl, yes_in ⟨_, rfl, f, c, rfl, F6, fun y H7 sy F7 B7 => ⟨_, B7 _ _ hM mf, ?_, vs ++ [y], by rw [List.length_append, lv]; rfl, ?_, ?_, F7.lst mf mc, (B6.trans B7).own nM⟩⟩⟩
            · rw [List.length_map, lv]; exact small1000 (by omega)
            · rw [upd_same, List.map_append]; rfl
            · intro z hz
              rcases List.mem_append.mp hz with hz | hz
              · exact sm z hz
              · obtain rfl : z = y := by simpa using hz
                exact sy
          · rintro H6 ⟨vs, lv, hM, sm, F6, B6⟩
            refine ⟨M, _, rfl, .inl ⟨SqL.of hM, fun tp ntp => ?_⟩⟩
            have F7 := F6.new (o := .tup (vs.map V.int)) ntp
            have B7 : But f H3 (upd H6 tp (.tup (vs.map V.int))) := ((((But.of s4).trans B5).trans B6).new ntp)
            refine ⟨_, rfl, .inl ⟨rfl, _, SqL.of (B7 _ _ hL lf)⟩, _, rfl, _, rfl, _, rfl, f, c, iv, rfl, ?_, ?_, F7, fun gi H8 g0 g1 F8 B8 => ?_⟩
            · rcases some_ with z | z
              · rw [z] at hi; exact absurd hi (Nat.not_lt_zero _)
              · exact z
            · have : iv.natAbs.log2 ≤ iv.natAbs := Nat.log2_le_self _
              omega
            have gl : gi.toNat < (insOf ss).length := by rw [ins_len, ci]; omega
            obtain ⟨g, eg⟩ : ∃ g, (insOf ss)[gi.toNat]? = some g := ⟨_, List.getElem?_eq_getElem gl⟩
            have egi : atI ((insOf ss).map nV) gi = some (nV g) := by
              have : atI ((insOf ss).map nV) ((gi.toNat : Nat) : Int) = some (nV g) := atI_nat (by rw [List.getElem?_map, eg]; rfl)
              rwa [show ((gi.toNat : Nat) : Int) = gi by omega] at this
            have B38 := B7.trans B8
            refine ⟨G, _, _, _, rfl, rfl, SqL.of (B38 _ _ hG3 gf), egi, _, rfl, _, rfl, (by show 3 ≤ sizeLine; decide), fun bt nbt => ⟨L, _, _, rfl, rfl, same_new nbt _ _ (B38 _ _ hL lf), ?_, ?_⟩⟩
            · rw [al.length]
              have := db.len
              exact small1000 (by omega)
            have hL9 := same_new (o := .tup [nV g, .int (i : Nat), V.ref tp]) nbt _ _ (B38 _ _ hL lf)
            have k9 : TK H3 (upd H8 bt (.tup [nV g, .int (i : Nat), V.ref tp])) := (TK.but F3 B38).trans (TK.new nbt)
            refine ⟨bv ++ [.ref bt], bs ++ [⟨g, i, vs⟩], _, _, _, _, rfl, upd_same, ?_, db.more (by rw [ei, e]) (ins_mem (List.mem_of_getElem? eg)) ⟨by omega, sm⟩, ?_, ?_, (F8.new nbt).lst lf lc, ?_⟩
            · refine ((al.imp fun _ _ z => z.keep k9).snoc ⟨bt, tp, rfl, upd_same, same_new nbt _ _ (B8 _ _ upd_same (F6.ne ntp))⟩).imp fun _ _ z => z.keep (TK.lst hL9)
            · rw [upd_ne ls_.symm]; exact same_new nbt _ _ (B38 _ _ hsl3 nsl)
            · rw [upd_ne lg.symm]; exact same_new nbt _ _ (B38 _ _ hG3 gf)
            · exact ((B3.trans B38).new nbt).own nL
        · have k4 : TK H3 _ := TK.new (o := .tup [.int (i : Nat), V.str sd]) nt
          refine ⟨bv, bs, _, _, _, _, rfl, s4 _ _ hL, al.imp fun _ _ z => z.keep k4, db.skip (by rw [ei]; exact fun z => e (Option.some.inj z)), s4 _ _ hsl3, s4 _ _ hG3, F4, B4⟩
      · rintro σ H3 ⟨bv, bs, v5, v6, v8, v9, rfl, hL, al, db, hsl3, hG3, F3, B3⟩
        refine ⟨_, rfl, sl, rfl, ⟨_, SqL.of hsl3⟩, fun E nE => lc_list (K := K) (a := sl) (xs := ss.map V.str) (fun i H4 => ∃ hv, H4 E = some (.lst hv) ∧ All2 (HandAt H4) hv ((ss.take i).map doorH) ∧ Same H3 H4) ⟨[], upd_same, .nil, same_new nE⟩ (fun i H4 _ ⟨_, _, _, s4⟩ => SqL.of (s4 _ _ hsl3)) ?_ ?_⟩
        · rintro i x H4 hx ⟨hv, hE, alh, s4⟩
          have il := (List.getElem?_eq_some_iff.mp hx).1
          rw [List.length_map] at il
          obtain ⟨sd, ei⟩ : ∃ sd, ss[i]? = some sd := ⟨_, List.getElem?_eq_getElem il⟩
          rw [List.getElem?_map, ei] at hx
          cases hx
          refine ⟨rfl, yes_in ⟨_, rfl, (by show 1 ≤ sizeLine; decide), fun a1 na1 => ⟨(by show 2 ≤ sizeLine; decide), fun a2 na2 => ?_⟩⟩⟩
          have s6 : Same H4 _ := (same_new (o := .tup [V.str sd]) na1).trans (same_new (o := .tup [V.ref a1, V.int 0]) na2)
          refine ⟨hv, s6 _ _ hE, ?_, hv ++ [.ref a2], upd_same, ?_, Same.own (s4.trans s6) nE⟩
          · rw [alh.length, List.length_map, List.length_take]; exact small1000 (by omega)
          · rw [List.take_add_one, ei, List.map_append]
            exact ((alh.imp fun _ _ z => z.keep (TK.same s6)).snoc ⟨a2, a1, rfl, upd_same, same_new na2 _ _ upd_same⟩).imp fun _ _ z => z.keep (TK.lst (s6 _ _ hE))
        · rintro H4 ⟨hv, hE, alh, s4⟩
          rw [List.length_map, List.take_length] at alh
          refine ⟨E, _, rfl, .inl ⟨SqL.of hE, fun t1 nt1 => ⟨_, rfl, L, _, rfl, .inl ⟨SqL.of (same_new nt1 _ _ (s4 _ _ hL)), fun t2 nt2 => ⟨(by show 2 ≤ sizeLine; decide), fun t3 nt3 => ?_⟩⟩⟩⟩⟩
          have k : Same H4 (upd (upd (upd H4 t1 (.tup hv)) t2 (.tup bv)) t3 (.tup [V.ref t1, V.ref t2])) := ((same_new nt1).trans (same_new nt2)).trans (same_new nt3)
          rw [eD]
          refine q t3 (ss.map doorH) bs _ ⟨t1, t2, hv, bv, upd_same, same_new nt3 _ _ (same_new nt2 _ _ upd_same), same_new nt3 _ _ upd_same, alh.imp fun _ _ z => z.keep (TK.same k), al.imp fun _ _ z => (z.keep (TK.same s4)).keep (TK.same k)⟩ (db.ok hall ls) (((F3.same s4)).same k) ((((B1.trans (But.of s2)).trans B3).trans (But.of s4)).trans (But.of k))
  refine ⟨_, rfl, f, c, 4, rfl, by decide, by decide +kernel, hF, fun iv H1 i0 i1 F1 B1 => ?_⟩
  refine ⟨_, rfl, f, c, 3, rfl, by decide, by decide +kernel, F1, fun ov H2 o0 o1 F2 B2 => ⟨_, _, rfl, rfl, (by show 2 ≤ sizeLine; decide), fun l nl => ?_⟩⟩
  obtain ⟨o, ho, oz, o2, o3⟩ : ∃ o : Int, atI [V.int 0, V.int (1 + ov)] (if decide (iv > 0) = true then 1 else 0) = some (.int o) ∧ (iv = 0 → o = 0) ∧ 0 ≤ o ∧ o ≤ 3 := by
    by_cases z : iv > 0
    · rw [decide_eq_true z]
      exact ⟨1 + ov, rfl, fun e => by omega, by omega, by omega⟩
    · rw [decide_eq_false z]
      exact ⟨0, rfl, fun _ => rfl, by omega, by omega⟩
  have F3 := F2.new (o := .lst [V.int 0, V.int (1 + ov)]) nl
  refine ⟨_, rfl, _, _, rfl, rfl, .inr ⟨_, rfl, l, _, _, _, rfl, rfl, SqL.of upd_same, ho, ?_⟩⟩
  refine ⟨_, rfl, (by show 1 ≤ sizeLine; decide), fun l1 nl1 => ⟨_, rfl, l1, iv, _, rfl, rfl, upd_same, by omega, by omega, little (by show 1 * iv.toNat ≤ 1000; omega), fun p1 np1 => ?_⟩⟩
  rw [flat_rep]
  have F4 := (F3.new (o := .lst [V.str "in"]) nl1).new (o := .lst (List.replicate iv.toNat (V.str "in"))) np1
  refine ⟨(by show 1 ≤ sizeLine; decide), fun l2 nl2 => ⟨_, rfl, l2, o, _, rfl, rfl, upd_same, by omega, by omega, little (by show 1 * o.toNat ≤ 1000; omega), fun p2 np2 => ?_⟩⟩
  rw [flat_rep]
  have F5 := (F4.new (o := .lst [V.str "out"]) nl2).new (o := .lst (List.replicate o.toNat (V.str "out"))) np2
  refine ⟨p1, p2, _, _, rfl, rfl, same_new np2 _ _ (same_new nl2 _ _ upd_same), upd_same, ?_, fun p3 np3 => ?_⟩
  · rw [List.length_replicate, List.length_replicate]; exact little (by omega)
  have F6 := F5.new (o := .lst (List.replicate iv.toNat (V.str "in") ++ List.replicate o.toNat (V.str "out"))) np3
  refine ⟨f, c, p3, _, rfl, SqL.of upd_same, F5.ne np3, ?_, F6, fun p ys H8 hp np hy F8 B8 => ?_⟩
  · rw [List.length_append, List.length_replicate, List.length_replicate]; omega
  have ez : List.replicate iv.toNat (V.str "in") ++ List.replicate o.toNat (V.str "out") = (List.replicate iv.toNat ("in" : Str) ++ List.replicate o.toNat ("out" : Str)).map V.str := by
    rw [List.map_append, List.map_replicate, List.map_replicate]
  rw [ez] at hp
  obtain ⟨ss, rfl, hss⟩ := perm_strs hp
  refine ⟨rfl, iv, o, p, ss, rfl, hy, F6.ne np, ?_, i0, by omega, ?_, ?_, ?_, F8, But.trans ((((((((B1.trans B2).new nl).new nl1).new np1).new nl2).new np2).new np3)) B8⟩
  · rw [hss.length_eq, List.length_append, List.length_replicate, List.length_replicate]; omega
  · rw [hss.count_eq, List.count_append, List.count_replicate, List.count_replicate, if_pos (beq_self_eq_true _), if_neg (by simpa using in_out.symm), Nat.add_zero]
  · by_cases z : 0 < iv
    · exact .inr z
    · refine .inl (List.eq_nil_of_length_eq_zero ?_)
      rw [hss.length_eq, List.length_append, List.length_replicate, List.length_replicate, oz (by omega)]
      show iv.toNat + 0 = 0
      omega
  · intro s hs
    rcases List.mem_append.mp (hss.mem_iff.mp hs) with hs | hs
    · exact .inl (List.mem_replicate.mp hs).2
    · exact .inr (List.mem_replicate.mp hs).2
def sp_law_any_room (K : PySem.W.Frag) : Sp := fun vs H Q _ => ∃ f c : Addr, vs = [.ref f] ∧ Flow H f c ∧ ∀ (r : Addr) (hs : List HR) (bs : List BR) (H' : Hp), RoomAt H' r hs bs → RoomOk hs bs → 0 < hs.length → Flow H' f c → But f H H' → Q (.ref r) H'
theorem ok_law_any_room {f : Addr} {fd : FuncData} (F : Fun K "_law_any_room" "_law_any_room" s_law_any_room f fd) (T : Top K mg) : FnOk P w K mg base CX0 6 f fd ["_law_flow_here"] (sp_law_any_room K) := by
  obtain ⟨f_law_pick, fd_law_pick, F_law_pick, b_law_pick, m_law_pick⟩ := T.d_law_pick
  have G_law_pick := ok_law_pick (P := P) (w := w) (base := base) F_law_pick T
  obtain ⟨f_law_room, fd_law_room, F_law_room, b_law_room, m_law_room⟩ := T.d_law_room
  have G_law_room := ok_law_room (P := P) (w := w) (base := base) F_law_room T
  obtain ⟨f_law_doors_room, fd_law_doors_room, F_law_doors_room, b_law_doors_room, m_law_doors_room⟩ := T.d_law_doors_room
  have G_law_doors_room := ok_law_doors_room (P := P) (w := w) (base := base) F_law_doors_room T
  refine F.ok sc_law_any_room (fun vs H Q E h => ?_) (fun cdv A outer s H vs Q E hr h => ?_)
  · obtain ⟨f, c, rfl, _⟩ := h
    rfl
  obtain ⟨f, c, rfl, hF, q⟩ := h
  refine ⟨_, (pss_cons (ps_set (i := 1) sc_law_any_room.nd rfl (Or.inl rfl) (pe_call G_law_pick (hr.mono (by decide)) (by rfl) m_law_pick F_law_pick.kp b_law_pick .nil pass0 (pa_cons (pv 0) (pa_cons pe_int pa_nil))))
      (pss_cons (ps_if (pt_cmpR op_eq (pv 1) pe_int (nomark _)) (pss_cons (ps_set (i := 2) sc_law_any_room.nd rfl (Or.inl rfl) (pe_call G_law_doors_room (hr.mono (by decide)) (by rfl) m_law_doors_room F_law_doors_room.kp b_law_doors_room .nil pass0 (pa_cons (pv 0) pa_nil)))
      (pss_one (ps_if (pt_cmpR op_gt (pe_callB (call_len_seqK K rfl) (by rfl) T.m_len (by decide +kernel) (pa_cons (pe_ix (ix_tupK K rfl) (pv 2) pe_int (fun _ _ => rfl)) pa_nil)) pe_int (nomark _)) (pss_one (ps_ret (pv 2))) pss_nil))) pss_nil)
      (pss_one (ps_ret (pe_call G_law_room (hr.mono (by decide)) (by rfl) m_law_room F_law_room.kp b_law_room .nil pass0 (pa_cons (pv 0) (pa_cons (pe_ix (ix_listK K rfl) (pe_lst (pa_cons pe_int (pa_cons pe_int (pa_cons pe_int (pa_cons pe_int (pa_cons pe_int (pa_cons pe_int (pa_cons pe_int (pa_cons pe_int pa_nil))))))))) (pv 1) (fun _ _ => rfl)) pa_nil))))))), ?_⟩
  refine ⟨_, rfl, f, c, 8, rfl, by decide, by decide +kernel, hF, fun v H1 v0 v1 F1 B1 => ?_⟩
  have fin : ∀ (H2 : Hp), Flow H2 f c → But f H H2 → ∀ l, H2 l = none → ∃ (p : Addr) (xs : List V) (i : Int) (u : V), V.ref l = .ref p ∧ V.int v = .int i ∧ SqL K (upd H2 l (.lst [V.int 5, V.int 5, V.int 5, V.int 5, V.int 3, V.int 3, V.int 2, V.int 8])) p xs ∧ atI xs i = some u ∧ sp_law_room K [.ref f, u] (upd H2 l (.lst [V.int 5, V.int 5, V.int 5, V.int 5, V.int 3, V.int 3, V.int 2, V.int 8])) Q E0 := fun H2 F2 B2 l nl => by
    obtain ⟨mm, hmm, m1, m8⟩ : ∃ mm : Int, atI [V.int 5, V.int 5, V.int 5, V.int 5, V.int 3, V.int 3, V.int 2, V.int 8] v = some (.int mm) ∧ 1 ≤ mm ∧ mm ≤ 8 := by
      have : v = 0 ∨ v = 1 ∨ v = 2 ∨ v = 3 ∨ v = 4 ∨ v = 5 ∨ v = 6 ∨ v = 7 := by omega
      rcases this with rfl | rfl | rfl | rfl | rfl | rfl | rfl | rfl
      · exact ⟨5, rfl, by decide, by decide⟩
      · exact ⟨5, rfl, by decide, by decide⟩
      · exact ⟨5, rfl, by decide, by decide⟩
      · exact ⟨5, rfl, by decide, by decide⟩
      · exact ⟨3, rfl, by decide, by decide⟩
      · exact ⟨3, rfl, by decide, by decide⟩
      · exact ⟨2, rfl, by decide, by decide⟩
      · exact ⟨8, rfl, by decide, by decide⟩
    exact ⟨l, _, v, _, rfl, rfl, SqL.of upd_same, hmm, f, c, mm, rfl, m1, m8, F2.new nl, fun r hs bs H3 hR ok h0 F3 B3 => q r hs bs H3 hR ok h0 F3 ((B2.new nl).trans B3)⟩
  refine ⟨_, rfl, rfl, _, rfl, if_bl (fun _ => ?_) (fun _ => ?_)⟩
  · refine ⟨_, rfl, f, c, rfl, F1, fun r hs bs H2 hR ok F2 B2 => ?_⟩
    obtain ⟨ha, ba, hv, bv, er, eh, eb, alh, alb⟩ := hR.ex
    refine ⟨_, rfl, r, _, _, _, rfl, rfl, SqT.of er, atI_nat (j := 0) rfl, ha, _, rfl, .inr (SqT.of eh), _, _, rfl, rfl, _, rfl, if_bl (fun z => ?_) (fun _ => ?_)⟩
    · have z := of_decide_eq_true z
      have lhv := alh.length
      exact ⟨_, rfl, q r hs bs H2 hR ok (by omega) F2 (B1.trans B2)⟩
    · exact ⟨_, rfl, (by show 8 ≤ sizeLine; decide), fun l nl => ⟨_, rfl, fin H2 F2 (B1.trans B2) l nl⟩⟩
  · exact ⟨_, rfl, (by show 8 ≤ sizeLine; decide), fun l nl => ⟨_, rfl, fin H1 F1 B1 l nl⟩⟩
end
/-! ### works and the beat -/
def trN (bs : List BR) (ns : List Nat) : Nat := (ns.map fun n => match bs[n]? with | some b => b.th.length | none => 0).sum
theorem trN_rtr {bs : List BR} : ∀ {ns : List Nat}, ((trN bs ns : Nat) : Int) = rtr bs ns
  | [] => rfl
  | n :: ns => by
    have ih := trN_rtr (bs := bs) (ns := ns)
    unfold trN rtr at ih ⊢
    rw [List.map_cons, List.sum_cons, List.map_cons, List.sum_cons, ← ih]
    unfold trB
    cases bs[n]? with
    | none => show ((0 + _ : Nat) : Int) = 0 + _; omega
    | some b => show ((b.th.length + _ : Nat) : Int) = (b.th.length : Int) + _; omega
section
variable {hs : List HR} {bs : List BR} {rk : Nat → Int}
theorem erl_own (hr : ∀ b ∈ bs, b.th = [] → rk b.one < rk b.to) (he : ∀ b ∈ bs, b.one < hs.length ∧ b.to < hs.length) {k : Nat} (hk : k < hs.length) (t : Nat) : erl hs bs k t + momH hs k ≤ erl hs bs k (t + 1) := by
  rw [erl_is hr he hk (t := t + 1)]
  exact gtst_le (due_mem.mpr (.inr (.inl ⟨Nat.succ_ne_zero _, rfl⟩)))
theorem erl_belt (hr : ∀ b ∈ bs, b.th = [] → rk b.one < rk b.to) (he : ∀ b ∈ bs, b.one < hs.length ∧ b.to < hs.length) {b : BR} (hb : b ∈ bs) (t : Nat) : erl hs bs b.one t + momH hs b.one ≤ erl hs bs b.to (t + b.th.length) := by
  rw [erl_is hr he (he b hb).2 (t := t + b.th.length)]
  refine gtst_le (due_mem.mpr (.inr (.inr ⟨b, hb, rfl, Nat.le_add_left .., ?_⟩)))
  rw [Nat.add_sub_cancel]
  rfl
theorem erl_down (hr : ∀ b ∈ bs, b.th = [] → rk b.one < rk b.to) (he : ∀ b ∈ bs, b.one < hs.length ∧ b.to < hs.length) {a b : Int} {lv : Nat → Int} (D : Down hs bs a b lv) (a0 : 0 ≤ a) (b1 : 0 ≤ b) : ∀ m k t, k < hs.length → mu rk hs.length k t < m → b * erl hs bs k t ≤ lv k + a * (t : Int)
  | 0, _, _, _, h => absurd h (Nat.not_lt_zero _)
  | m + 1, k, t, hk, h => by
    have x := gtst_mem (due_zero (hs := hs) (bs := bs) (e := erl hs bs) (k := k) (t := t))
    rw [← erl_is hr he hk] at x
    rcases due_mem.mp x with z | ⟨t0, z⟩ | ⟨y, hy, e1, e2, z⟩
    · rw [z, Int.mul_zero]
      have := D.1 k
      have : 0 ≤ a * (t : Int) := Int.mul_nonneg a0 (by omega)
      omega
    · rw [z, Int.mul_add]
      have := mu_own (rk := rk) (n := hs.length) (k := k) t0
      have ih := erl_down hr he D a0 b1 m k (t - 1) hk (by omega)
      have mo : b * momN hs k ≤ a := by
        have : momN hs k = hs[k].mom := by unfold momN; rw [List.getElem?_eq_getElem hk]
        rw [this]
        exact D.2.1 _ (List.getElem_mem hk)
      obtain ⟨s, rfl⟩ := Nat.exists_eq_succ_of_ne_zero t0
      have e : a * ((s.succ : Nat) : Int) = a * (s : Int) + a := by
        rw [show ((s.succ : Nat) : Int) = (s : Int) + 1 by omega, Int.mul_add, Int.mul_one]
      rw [Nat.succ_sub_one] at ih ⊢
      omega
    · rw [z, Int.mul_add]
      have := mu_belt (rk := rk) (n := hs.length) (hr y hy) (he y hy).1 e2
      rw [e1] at this
      have ih := erl_down hr he D a0 b1 m y.one (t - y.th.length) (he y hy).1 (by omega)
      have d := D.2.2 y hy
      rw [e1] at d
      have e : a * (t : Int) = a * ((t - y.th.length : Nat) : Int) + a * (y.th.length : Int) := by
        rw [← Int.mul_add]
        congr 1
        omega
      have mm : momN hs y.one = momH hs y.one := rfl
      rw [mm]
      omega
theorem erl_way (hr : ∀ b ∈ bs, b.th = [] → rk b.one < rk b.to) (he : ∀ b ∈ bs, b.one < hs.length ∧ b.to < hs.length) : ∀ {ns : List Nat} {k e : Nat}, wayEnd bs k ns = some e → ∀ t, erl hs bs k t + (ns.map fun n => momH hs (oneB bs n)).sum ≤ erl hs bs e (t + trN bs ns)
  | [], k, e, w, t => by
    cases w
    show erl hs bs k t + 0 ≤ erl hs bs k t
    omega
  | n :: ns, k, e, w, t => by
    cases eb : bs[n]? with
    | none => rw [wayEnd_none eb] at w; cases w
    | some b =>
      rw [wayEnd_cons eb] at w
      by_cases z : b.one = k
      · rw [if_pos z] at w
        have ih := erl_way hr he w (t + b.th.length)
        have hb := erl_belt hr he (List.mem_of_getElem? eb) t
        rw [z] at hb
        have e1 : oneB bs n = k := by unfold oneB; rw [eb]; exact z
        have e2 : trN bs (n :: ns) = b.th.length + trN bs ns := by
          unfold trN
          rw [List.map_cons, List.sum_cons, eb]
        rw [List.map_cons, List.sum_cons, e1, e2, ← Nat.add_assoc]
        omega
      · rw [if_neg z] at w; cases w
theorem wayEnd_app : ∀ {xs ys : List Nat} {k e : Nat}, wayEnd bs k (xs ++ ys) = some e → ∃ m, wayEnd bs k xs = some m ∧ wayEnd bs m ys = some e
  | [], _, k, _, w => ⟨k, rfl, w⟩
  | n :: xs, ys, k, e, w => by
    cases eb : bs[n]? with
    | none => rw [List.cons_append, wayEnd_none eb] at w; cases w
    | some b =>
      rw [List.cons_append, wayEnd_cons eb] at w
      by_cases z : b.one = k
      · rw [if_pos z] at w
        obtain ⟨m, h1, h2⟩ := wayEnd_app w
        exact ⟨m, by rw [wayEnd_cons eb, if_pos z]; exact h1, h2⟩
      · rw [if_neg z] at w; cases w
theorem way_hands : ∀ {ns : List Nat} {k e : Nat}, wayEnd bs k ns = some e → ∀ x ∈ k :: ns.map (toB bs), ∃ xs ys, ns = xs ++ ys ∧ wayEnd bs k xs = some x
  | ns, k, e, w, x, hx => by
    rcases List.mem_cons.mp hx with rfl | hx
    · exact ⟨[], ns, rfl, rfl⟩
    · cases ns with
      | nil => cases hx
      | cons n ns =>
        cases eb : bs[n]? with
        | none => rw [wayEnd_none eb] at w; cases w
        | some b =>
          rw [wayEnd_cons eb] at w
          by_cases z : b.one = k
          · rw [if_pos z] at w
            have e1 : toB bs n = b.to := by unfold toB; rw [eb]
            rw [List.map_cons, e1] at hx
            obtain ⟨xs, ys, h1, h2⟩ := way_hands w x hx
            exact ⟨n :: xs, ys, by rw [h1]; rfl, by rw [wayEnd_cons eb, if_pos z]; exact h2⟩
          · rw [if_neg z] at w; cases w
theorem erl_ring (hr : ∀ b ∈ bs, b.th = [] → rk b.one < rk b.to) (he : ∀ b ∈ bs, b.one < hs.length ∧ b.to < hs.length) {ns : List Nat} {k : Nat} (w : wayEnd bs k ns = some k) {x : Nat} (hx : x ∈ k :: ns.map (toB bs)) (t : Nat) : erl hs bs x t + rmom hs bs ns ≤ erl hs bs x (t + trN bs ns) := by
  obtain ⟨xs, ys, rfl, h1⟩ := way_hands w x hx
  obtain ⟨m, h2, h3⟩ := wayEnd_app w
  rw [h1] at h2
  cases h2
  have a := erl_way hr he h3 t
  have b := erl_way hr he h1 (t + trN bs ys)
  have o := ones_tos (hs := hs) w
  have e : trN bs (xs ++ ys) = trN bs xs + trN bs ys := by unfold trN; rw [List.map_append, List.sum_append]
  rw [List.map_append, List.sum_append] at o
  rw [e, Nat.add_comm (trN bs xs), ← Nat.add_assoc]
  omega
end
section
variable {P : Program} {w : World} {K : PySem.W.Frag} {mg : Str → Option Value} {base : Heap}
def sp_law_trays (K : PySem.W.Frag) : Sp := sp_trays_on K
theorem ok_law_trays {f : Addr} {fd : FuncData} (F : Fun K "_law_trays" "_law_trays" s_law_trays f fd) (T : Top K mg) : FnOk P w K mg base CX0 1 f fd ["_law_room_here", "_law_way"] (sp_law_trays K) := by
  refine F.ok sc_law_trays (fun vs H Q E h => ?_) (fun cdv A outer s H vs Q E hr h => ?_)
  · obtain ⟨r, t, hs, bs, k, ns, rfl, _⟩ := h
    rfl
  obtain ⟨r, t, hs, bs, k, ns, rfl, hR, ⟨g, et, eg⟩, hn, ln, q⟩ := h
  obtain ⟨ha, ba, hv, bv, er, eh, eb, alh, alb⟩ := hR.ex
  refine ⟨_, (pss_one (ps_ret (pe_callB (cr_sumK K rfl rfl) (by rfl) T.m_sum (by decide +kernel) (pa_cons (pe_lc (own := [("_law_b", 2)]) (g := gName 2) (tt := tYes) (by rfl) sc_law_trays.nd (pi_tupK K rfl (pe_ix (ix_tupK K rfl) (pv 1) pe_int (fun _ _ => rfl))) (blkOk_by (own := [("_law_b", 2)]) (N := N_law_trays) (sc := defScope s_law_trays) (by decide +kernel)) (fun _ _ _ _ _ => (pg_name (i := 2) sc_law_trays.nd rfl (Or.inl rfl))) (fun _ _ _ _ _ => pts_nil) (fun _ _ _ _ _ => (pe_callB (call_len_seqK K rfl) (by rfl) T.m_len (by decide +kernel) (pa_cons (pe_ix (ix_tupK K rfl) (pe_ix (ix_tupK K rfl) (pe_ix (ix_tupK K rfl) (pv 0) pe_int (fun _ _ => rfl)) (pv 2) (fun _ _ => rfl)) pe_int (fun _ _ => rfl)) pa_nil)))) pa_nil)))), ?_⟩
  refine ⟨_, rfl, t, _, _, _, rfl, rfl, SqT.of et, atI_nat (j := 1) rfl, g, rfl, ⟨_, SqT.of eg⟩, fun D nD => lc_tup (K := K) (a := g) (xs := ns.map nV) (fun i H5 => H5 D = some (.lst (((ns.take i).map (trB bs)).map V.int)) ∧ Same H H5) ⟨upd_same, same_new nD⟩ (fun i H5 _ ⟨_, s5⟩ => SqT.of (s5 _ _ eg)) ?_ ?_⟩
  · rintro i x H5 hx ⟨hD, s5⟩
    obtain ⟨n, en, rfl⟩ := nats_at hx
    have il := (List.getElem?_eq_some_iff.mp en).1
    have nb := hn n (List.mem_of_getElem? en)
    have ebn : bs[n]? = some bs[n] := List.getElem?_eq_getElem nb
    obtain ⟨x, ex, ⟨t2, g2, rfl, e1, e2⟩⟩ := alb.get ebn
    refine ⟨rfl, yes_in ⟨_, rfl, r, _, _, _, rfl, rfl, SqT.of (s5 _ _ er), atI_nat (j := 1) rfl, _, rfl, ba, _, _, _, rfl, rfl, SqT.of (s5 _ _ eb), atI_nat ex, t2, _, _, _, rfl, rfl, SqT.of (s5 _ _ e1), atI_nat (j := 2) rfl, g2, _, rfl, .inr (SqT.of (s5 _ _ e2)), _, hD, ?_, ?_, Same.own s5 nD⟩⟩
    · rw [List.length_map, List.length_map, List.length_take]; exact small1000 (by omega)
    · rw [upd_same, List.take_add_one, en, List.map_append, List.map_append, List.length_map]
      show _ = some (HO.lst (_ ++ [V.int (trB bs n)]))
      unfold trB
      rw [ebn]
  · rintro H5 ⟨hD, s5⟩
    rw [List.length_map, List.take_length] at hD
    exact ⟨D, _, rfl, SqL.of hD, q _ s5⟩
def sp_law_moments (K : PySem.W.Frag) : Sp := sp_moments_on K
theorem ok_law_moments {f : Addr} {fd : FuncData} (F : Fun K "_law_moments" "_law_moments" s_law_moments f fd) (T : Top K mg) : FnOk P w K mg base CX0 1 f fd ["_law_room_here", "_law_way"] (sp_law_moments K) := by
  refine F.ok sc_law_moments (fun vs H Q E h => ?_) (fun cdv A outer s H vs Q E hr h => ?_)
  · obtain ⟨r, t, hs, bs, k, ns, rfl, _⟩ := h
    rfl
  obtain ⟨r, t, hs, bs, k, ns, rfl, hR, hto, ⟨g, et, eg⟩, hk, hn, ln, q⟩ := h
  obtain ⟨ha, ba, hv, bv, er, eh, eb, alh, alb⟩ := hR.ex
  refine ⟨_, (pss_one (ps_ret (pe_op op_add (pe_ix (ix_tupK K rfl) (pe_ix (ix_tupK K rfl) (pe_ix (ix_tupK K rfl) (pv 0) pe_int (fun _ _ => rfl)) (pe_ix (ix_tupK K rfl) (pv 1) pe_int (fun _ _ => rfl)) (fun _ _ => rfl)) pe_int (fun _ _ => rfl)) (pe_callB (cr_sumK K rfl rfl) (by rfl) T.m_sum (by decide +kernel) (pa_cons (pe_lc (own := [("_law_b", 2)]) (g := gName 2) (tt := tYes) (by rfl) sc_law_moments.nd (pi_tupK K rfl (pe_ix (ix_tupK K rfl) (pv 1) pe_int (fun _ _ => rfl))) (blkOk_by (own := [("_law_b", 2)]) (N := N_law_moments) (sc := defScope s_law_moments) (by decide +kernel)) (fun _ _ _ _ _ => (pg_name (i := 2) sc_law_moments.nd rfl (Or.inl rfl))) (fun _ _ _ _ _ => pts_nil) (fun _ _ _ _ _ => (pe_ix (ix_tupK K rfl) (pe_ix (ix_tupK K rfl) (pe_ix (ix_tupK K rfl) (pv 0) pe_int (fun _ _ => rfl)) (pe_ix (ix_tupK K rfl) (pe_ix (ix_tupK K rfl) (pe_ix (ix_tupK K rfl) (pv 0) pe_int (fun _ _ => rfl)) (pv 2) (fun _ _ => rfl)) pe_int (fun _ _ => rfl)) (fun _ _ => rfl)) pe_int (fun _ _ => rfl)))) pa_nil))))), ?_⟩
  have ehk : hs[k]? = some hs[k] := List.getElem?_eq_getElem hk
  obtain ⟨x0, ex0, ⟨t0, r0, rfl, e01, e02⟩⟩ := alh.get ehk
  refine ⟨_, rfl, r, _, _, _, rfl, rfl, SqT.of er, atI_nat (j := 0) rfl, _, rfl, t, _, _, _, rfl, rfl, SqT.of et, atI_nat (j := 0) rfl, ha, _, _, _, rfl, rfl, SqT.of eh, atI_nat ex0, t0, _, _, _, rfl, rfl, SqT.of e01, atI_nat (j := 1) rfl, ?_⟩
  refine ⟨_, rfl, t, _, _, _, rfl, rfl, SqT.of et, atI_nat (j := 1) rfl, g, rfl, ⟨_, SqT.of eg⟩, fun D nD => lc_tup (K := K) (a := g) (xs := ns.map nV) (fun i H5 => H5 D = some (.lst (((ns.take i).map fun n => momH hs (toB bs n)).map V.int)) ∧ Same H H5) ⟨upd_same, same_new nD⟩ (fun i H5 _ ⟨_, s5⟩ => SqT.of (s5 _ _ eg)) ?_ ?_⟩
  · rintro i x H5 hx ⟨hD, s5⟩
    obtain ⟨n, en, rfl⟩ := nats_at hx
    have il := (List.getElem?_eq_some_iff.mp en).1
    have nb := hn n (List.mem_of_getElem? en)
    have ebn : bs[n]? = some bs[n] := List.getElem?_eq_getElem nb
    obtain ⟨x, ex, ⟨t2, g2, rfl, e1, e2⟩⟩ := alb.get ebn
    have tb := hto _ (List.getElem_mem nb)
    have eht : hs[bs[n].to]? = some hs[bs[n].to] := List.getElem?_eq_getElem tb
    obtain ⟨y, ey, ⟨t3, r3, rfl, e31, e32⟩⟩ := alh.get eht
    refine ⟨rfl, yes_in ⟨_, rfl, r, _, _, _, rfl, rfl, SqT.of (s5 _ _ er), atI_nat (j := 0) rfl, _, rfl, r, _, _, _, rfl, rfl, SqT.of (s5 _ _ er), atI_nat (j := 1) rfl, _, rfl, ba, _, _, _, rfl, rfl, SqT.of (s5 _ _ eb), atI_nat ex, t2, _, _, _, rfl, rfl, SqT.of (s5 _ _ e1), atI_nat (j := 1) rfl, ha, _, _, _, rfl, rfl, SqT.of (s5 _ _ eh), atI_nat ey, t3, _, _, _, rfl, rfl, SqT.of (s5 _ _ e31), atI_nat (j := 1) rfl, _, hD, ?_, ?_, Same.own s5 nD⟩⟩
    · rw [List.length_map, List.length_map, List.length_take]; exact small1000 (by omega)
    · rw [upd_same, List.take_add_one, en, List.map_append, List.map_append]
      show _ = some (HO.lst (_ ++ [V.int (momH hs (toB bs n))]))
      unfold momH toB
      rw [ebn]
      dsimp only
      rw [eht]
  · rintro H5 ⟨hD, s5⟩
    rw [List.length_map, List.take_length] at hD
    refine ⟨D, _, rfl, SqL.of hD, _, _, rfl, rfl, ?_⟩
    have := q _ s5
    unfold momW at this
    rw [show momH hs k = hs[k].mom by unfold momH; rw [ehk]] at this
    exact this
def sp_law_ring_moments (K : PySem.W.Frag) : Sp := sp_ring_moments K
theorem ok_law_ring_moments {f : Addr} {fd : FuncData} (F : Fun K "_law_ring_moments" "_law_ring_moments" s_law_ring_moments f fd) (T : Top K mg) : FnOk P w K mg base CX0 2 f fd ["_law_room_here", "_law_way"] (sp_law_ring_moments K) := by
  obtain ⟨f_law_moments, fd_law_moments, F_law_moments, b_law_moments, m_law_moments⟩ := T.d_law_moments
  have G_law_moments := ok_law_moments (P := P) (w := w) (base := base) F_law_moments T
  refine F.ok sc_law_ring_moments (fun vs H Q E h => ?_) (fun cdv A outer s H vs Q E hr h => ?_)
  · obtain ⟨r, t, hs, bs, k, ns, rfl, _⟩ := h
    rfl
  obtain ⟨r, t, hs, bs, k, ns, rfl, hR, hto, hp, hk, hn, ln, q⟩ := h
  refine ⟨_, (pss_one (ps_ret (pe_op op_sub (pe_call G_law_moments (hr.mono (by decide)) (by rfl) m_law_moments F_law_moments.kp b_law_moments .nil pass0 (pa_cons (pv 0) (pa_cons (pv 1) pa_nil))) (pe_ix (ix_tupK K rfl) (pe_ix (ix_tupK K rfl) (pe_ix (ix_tupK K rfl) (pv 0) pe_int (fun _ _ => rfl)) (pe_ix (ix_tupK K rfl) (pv 1) pe_int (fun _ _ => rfl)) (fun _ _ => rfl)) pe_int (fun _ _ => rfl))))), ?_⟩
  refine ⟨_, rfl, _, rfl, r, t, hs, bs, k, ns, rfl, hR, hto, hp, hk, hn, ln, fun H1 s1 => ?_⟩
  obtain ⟨ha, ba, hv, bv, er, eh, eb, alh, alb⟩ := hR.ex
  obtain ⟨g, et, eg⟩ := hp
  have ehk : hs[k]? = some hs[k] := List.getElem?_eq_getElem hk
  obtain ⟨x0, ex0, ⟨t0, r0, rfl, e01, e02⟩⟩ := alh.get ehk
  refine ⟨_, rfl, r, _, _, _, rfl, rfl, SqT.of (s1 _ _ er), atI_nat (j := 0) rfl, _, rfl, t, _, _, _, rfl, rfl, SqT.of (s1 _ _ et), atI_nat (j := 0) rfl, ha, _, _, _, rfl, rfl, SqT.of (s1 _ _ eh), atI_nat ex0, t0, _, _, _, rfl, rfl, SqT.of (s1 _ _ e01), atI_nat (j := 1) rfl, _, _, rfl, rfl, ?_⟩
  have := q _ s1
  rw [show rmom hs bs ns = momW hs bs k ns - hs[k].mom by unfold momW rmom momH; rw [ehk]; dsimp only; omega] at this
  exact this
def sp_law_held_up (K : PySem.W.Frag) : Sp := fun vs H Q _ => ∃ (r wp B : Addr) (rs : List Addr) (hs : List HR) (bs : List BR) (a b : Int) (k N : Nat) (ns : List Nat), vs = [.ref r, .ref wp, .ref B] ∧ RoomAt H r hs bs ∧ BOk hs bs ∧ WayAt H wp k ns ∧ Beat hs bs a b k ns ∧ BG H B rs hs.length (fun _ => N) (erl hs bs) ∧ N ≤ 100 ∧ ∀ H', Same H H' → Q (.bl true) H'
theorem ok_law_held_up {f : Addr} {fd : FuncData} (F : Fun K "_law_held_up" "_law_held_up" s_law_held_up f fd) (T : Top K mg) : FnOk P w K mg base CX0 3 f fd ["_law_room_here", "_law_way", "_law_begins"] (sp_law_held_up K) := by
  obtain ⟨f_law_trays, fd_law_trays, F_law_trays, b_law_trays, m_law_trays⟩ := T.d_law_trays
  have G_law_trays := ok_law_trays (P := P) (w := w) (base := base) F_law_trays T
  obtain ⟨f_law_ring_moments, fd_law_ring_moments, F_law_ring_moments, b_law_ring_moments, m_law_ring_moments⟩ := T.d_law_ring_moments
  have G_law_ring_moments := ok_law_ring_moments (P := P) (w := w) (base := base) F_law_ring_moments T
  refine F.ok sc_law_held_up (fun vs H Q E h => ?_) (fun cdv A outer s H vs Q E hr h => ?_)
  · obtain ⟨r, wp, B, rs, hs, bs, a, b, k, N, ns, rfl, _⟩ := h
    rfl
  obtain ⟨r, wp, B, rs, hs, bs, a, b, k, N, ns, rfl, hR, ok, hw, Bt, bg, n100, q⟩ := h
  obtain ⟨rk, hrk⟩ := ok.rank
  obtain ⟨ha, ba, hv, bv, er, eh, eb, alh, alb⟩ := hR.ex
  have hw0 := hw
  obtain ⟨g, ew, eg⟩ := hw
  have kl := Bt.kl
  have l12 := Bt.ln
  have hto : ∀ b ∈ bs, b.to < hs.length := fun b hb => (ok.ends b hb).2
  have we : wayEnd bs k ns = some k := by
    rcases Bt.up with ⟨rfl, _⟩ | ⟨_, h, _⟩
    · rfl
    · exact h
  let R1 : TS := fun D' σ' H' => D'.rt = Q ∧ ∃ hl : Addr, σ' = [some (.ref r), some (.ref wp), some (.ref B), some (.ref hl), none, none, none, none, none] ∧ H' hl = some (.lst ((k :: ns.map (toB bs)).map nV)) ∧ Same H H'
  let R2 : TS := fun D' σ' H' => D'.rt = Q ∧ ∃ (hl : Addr) (c : Nat) (m : Int), σ' = [some (.ref r), some (.ref wp), some (.ref B), some (.ref hl), none, some (nV c), some (.int m), none, none] ∧ H' hl = some (.lst ((k :: ns.map (toB bs)).map nV)) ∧ Same H H' ∧ c ≤ 400 ∧ ∀ x ∈ k :: ns.map (toB bs), ∀ t, erl hs bs x t + m ≤ erl hs bs x (t + c)
  refine ⟨_, (pss_cons (ps_set (i := 3) sc_law_held_up.nd rfl (Or.inl rfl) (pe_op op_cat (pe_lst (pa_cons (pe_ix (ix_tupK K rfl) (pv 1) pe_int (fun _ _ => rfl)) pa_nil)) (pe_lc (own := [("_law_b", 4)]) (g := gName 4) (tt := tYes) (by rfl) sc_law_held_up.nd (pi_tupK K rfl (pe_ix (ix_tupK K rfl) (pv 1) pe_int (fun _ _ => rfl))) (blkOk_by (own := [("_law_b", 4)]) (N := N_law_held_up) (sc := defScope s_law_held_up) (by decide +kernel)) (fun _ _ _ _ _ => (pg_name (i := 4) sc_law_held_up.nd rfl (Or.inl rfl))) (fun _ _ _ _ _ => pts_nil) (fun _ _ _ _ _ => (pe_ix (ix_tupK K rfl) (pe_ix (ix_tupK K rfl) (pe_ix (ix_tupK K rfl) (pv 0) pe_int (fun _ _ => rfl)) (pv 4) (fun _ _ => rfl)) pe_int (fun _ _ => rfl))))))
      (PSs.to (pss_cons (ps_par (i := 5) (j := 6) rfl sc_law_held_up.nd rfl rfl (by decide) rfl rfl (pa_cons (pe_call G_law_trays (hr.mono (by decide)) (by rfl) m_law_trays F_law_trays.kp b_law_trays .nil pass0 (pa_cons (pv 0) (pa_cons (pv 1) pa_nil))) (pa_cons (pe_call G_law_ring_moments (hr.mono (by decide)) (by rfl) m_law_ring_moments F_law_ring_moments.kp b_law_ring_moments .nil pass0 (pa_cons (pv 0) (pa_cons (pv 1) pa_nil))) pa_nil)) (by rfl))
      (pss_cons (ps_if (pt_cmpR op_eq (pe_callB (call_len_seqK K rfl) (by rfl) T.m_len (by decide +kernel) (pa_cons (pe_ix (ix_tupK K rfl) (pv 1) pe_int (fun _ _ => rfl)) pa_nil)) pe_int (nomark _)) (pss_one (ps_par (i := 5) (j := 6) rfl sc_law_held_up.nd rfl rfl (by decide) rfl rfl (pa_cons pe_int (pa_cons (pe_ix (ix_tupK K rfl) (pe_ix (ix_tupK K rfl) (pe_ix (ix_tupK K rfl) (pv 0) pe_int (fun _ _ => rfl)) (pe_ix (ix_tupK K rfl) (pv 1) pe_int (fun _ _ => rfl)) (fun _ _ => rfl)) pe_int (fun _ _ => rfl)) pa_nil)) (by rfl))) pss_nil)
      (PSs.to (pss_cons (ps_for PassesOwn.never rfl (pi_listK K rfl (pv 3)) (pg_name (i := 7) sc_law_held_up.nd rfl (Or.inl rfl))
        (pss_one (ps_for PassesOwn.never rfl (pi_range1 (by rfl) T.m_range (pa_cons (pe_op op_sub (pe_callB (call_len_seqK K rfl) (by rfl) T.m_len (by decide +kernel) (pa_cons (pe_ix (ix_listK K rfl) (pv 2) (pv 7) (fun _ _ => rfl)) pa_nil)) (pv 5)) pa_nil)) (pg_name (i := 8) sc_law_held_up.nd rfl (Or.inl rfl))
        (pss_one (ps_if (pt_cmpR op_lt (pe_ix (ix_listK K rfl) (pe_ix (ix_listK K rfl) (pv 2) (pv 7) (fun _ _ => rfl)) (pe_op op_add (pv 8) (pv 5)) (fun _ _ => rfl)) (pe_op op_add (pe_ix (ix_listK K rfl) (pe_ix (ix_listK K rfl) (pv 2) (pv 7) (fun _ _ => rfl)) (pv 8) (fun _ _ => rfl)) (pv 6)) (nomark _)) (pss_one (ps_ret pe_bl)) pss_nil)))))
      (pss_one (ps_ret pe_bl))) R2 ?tail2))) R1 ?tail1)), ?_⟩
  case tail2 =>
    rintro D' σ' H1 ⟨eD, hl, c, m, rfl, hhl, s1, c4, key⟩
    refine ⟨_, rfl, hl, rfl, ⟨_, SqL.of hhl⟩, for_list (K := K) (a := hl) (xs := (k :: ns.map (toB bs)).map nV) (fun i σ H5 => (∃ v7 v8, σ = [some (.ref r), some (.ref wp), some (.ref B), some (.ref hl), none, some (nV c), some (.int m), v7, v8]) ∧ Same H1 H5) ⟨⟨_, _, rfl⟩, Same.refl _⟩ (fun i σ H5 _ ⟨_, s5⟩ => SqL.of (s5 _ _ hhl)) ?_ ?_⟩
    · rintro i x σ H5 hx ⟨⟨v7, v8, rfl⟩, s5⟩
      obtain ⟨n, en, rfl⟩ := nats_at hx
      have hn := List.mem_of_getElem? en
      have nl : n < hs.length := by
        rcases List.mem_cons.mp hn with z | z
        · rw [z]; exact kl
        · obtain ⟨y, hy, rfl⟩ := List.mem_map.mp z
          unfold toB
          rw [List.getElem?_eq_getElem (Bt.nl y hy)]
          exact hto _ (List.getElem_mem _)
      have bg5 := (bg.same s1).same s5
      obtain ⟨ra, _, e2, e3⟩ := bg5.at nl
      refine ⟨_, rfl, _, rfl, B, _, _, _, rfl, rfl, SqL.of bg5.b, atI_nat e2, ra, _, rfl, .inl (SqL.of e3), _, rfl, _, _, rfl, rfl, ?_⟩
      rw [fL_len]
      refine ⟨_, rfl, by omega, by omega, for_range (lo := 0) (n := (((N : Nat) : Int) - ((c : Nat) : Int)).toNat) (fun j σ H6 => (∃ v8, σ = [some (.ref r), some (.ref wp), some (.ref B), some (.ref hl), none, some (nV c), some (.int m), some (nV n), v8]) ∧ Same H5 H6) ⟨⟨_, rfl⟩, Same.refl _⟩ ?_ ?_⟩
      · rintro j σ H6 hj ⟨⟨v8, rfl⟩, s6⟩
        have bg6 := bg5.same s6
        have e36 := s6 _ _ e3
        have j1 : (fL N (erl hs bs n))[j + c]? = some (.int (erl hs bs n (j + c))) := rg_at (f := fun t => V.int (erl hs bs n t)) (by omega)
        have j2 : (fL N (erl hs bs n))[j]? = some (.int (erl hs bs n j)) := rg_at (f := fun t => V.int (erl hs bs n t)) (by omega)
        refine ⟨_, rfl, _, rfl, B, _, _, _, rfl, rfl, SqL.of bg6.b, atI_nat e2, _, rfl, _, rfl, _, _, rfl, rfl, ra, _, _, _, rfl, rfl, SqL.of e36, (by rw [show (0 : Int) + ((j : Nat) : Int) + ((c : Nat) : Int) = ((j + c : Nat) : Int) by omega]; exact atI_nat j1), ?_⟩
        refine ⟨_, rfl, _, rfl, B, _, _, _, rfl, rfl, SqL.of bg6.b, atI_nat e2, _, rfl, ra, _, _, _, rfl, rfl, SqL.of e36, at0 j2, _, rfl, _, _, rfl, rfl, _, _, rfl, rfl, _, rfl, if_bl (fun z => ?_) (fun _ => ⟨⟨_, rfl⟩, s6⟩)⟩
        have z := of_decide_eq_true z
        have := key n hn j
        omega
      · rintro σ H6 ⟨⟨v8, rfl⟩, s6⟩
        exact ⟨⟨_, _, rfl⟩, s5.trans s6⟩
    · rintro σ H5 ⟨⟨v7, v8, rfl⟩, s5⟩
      have e := q _ (s1.trans s5)
      rw [← eD] at e
      exact e
  case tail1 =>
    rintro D' σ' H1 ⟨eD, hl, rfl, hhl, s1⟩
    have hR1 := hR.keep (TK.same s1)
    have hw1 := hw0.keep (TK.same s1)
    refine ⟨_, rfl, _, rfl, r, wp, hs, bs, k, ns, rfl, hR1, hw1, Bt.nl, by omega, fun H2 s2 => ?_⟩
    refine ⟨_, rfl, _, rfl, r, wp, hs, bs, k, ns, rfl, hR1.keep (TK.same s2), hto, hw1.keep (TK.same s2), kl, Bt.nl, by omega, fun H3 s3 => ?_⟩
    have s13 := (s1.trans s2).trans s3
    refine ⟨_, _, rfl, ?_⟩
    refine ⟨_, rfl, wp, _, _, _, rfl, rfl, SqT.of (s13 _ _ ew), atI_nat (j := 1) rfl, g, _, rfl, .inr (SqT.of (s13 _ _ eg)), rfl, _, rfl, if_bl (fun z => ?_) (fun z => ?_)⟩
    · have ehk : hs[k]? = some hs[k] := List.getElem?_eq_getElem kl
      obtain ⟨x0, ex0, ⟨t0, r0, rfl, e01, e02⟩⟩ := alh.get ehk
      refine ⟨_, rfl, r, _, _, _, rfl, rfl, SqT.of (s13 _ _ er), atI_nat (j := 0) rfl, _, rfl, wp, _, _, _, rfl, rfl, SqT.of (s13 _ _ ew), atI_nat (j := 0) rfl, ha, _, _, _, rfl, rfl, SqT.of (s13 _ _ eh), atI_nat ex0, t0, _, _, _, rfl, rfl, SqT.of (s13 _ _ e01), atI_nat (j := 1) rfl, _, _, rfl, ?_⟩
      have e0 : ns = [] := by
        cases ns with
        | nil => rfl
        | cons n ns => exact absurd (of_decide_eq_true z) (by intro y; have := V.int.inj y; rw [List.length_map, List.length_cons] at this; omega)
      refine ⟨eD, hl, 1, hs[k].mom, rfl, (s2.trans s3) _ _ hhl, s13, by decide, fun x hx t => ?_⟩
      subst e0
      obtain rfl : x = k := by simpa using hx
      have := erl_own hrk ok.ends kl t
      rw [show momH hs x = hs[x].mom by unfold momH; rw [ehk]] at this
      exact this
    · have tB := ok.rtr (ns := ns) l12
      have et : ((trN bs ns : Nat) : Int) = rtr bs ns := trN_rtr
      refine ⟨eD, hl, trN bs ns, rmom hs bs ns, ?_, (s2.trans s3) _ _ hhl, s13, by omega, fun x hx t => erl_ring hrk ok.ends we hx t⟩
      show _ = [some (V.ref r), some (V.ref wp), some (V.ref B), some (V.ref hl), none, some (V.int ((trN bs ns : Nat) : Int)), some (V.int (rmom hs bs ns)), none, none]
      rw [et]
      rfl
  refine ⟨_, rfl, wp, _, _, _, rfl, rfl, SqT.of ew, atI_nat (j := 0) rfl, (by show 1 ≤ sizeLine; decide), fun l1 nl1 => ?_⟩
  have s1 := same_new (o := .lst [nV k]) nl1
  refine ⟨_, rfl, wp, _, _, _, rfl, rfl, SqT.of (s1 _ _ ew), atI_nat (j := 1) rfl, g, rfl, ⟨_, SqT.of (s1 _ _ eg)⟩, fun D nD => lc_tup (K := K) (a := g) (xs := ns.map nV) (fun i H5 => H5 D = some (.lst (((ns.take i).map (toB bs)).map nV)) ∧ Same (upd H l1 (.lst [nV k])) H5) ⟨upd_same, same_new nD⟩ (fun i H5 _ ⟨_, s5⟩ => SqT.of (s5 _ _ (s1 _ _ eg))) ?_ ?_⟩
  · rintro i x H5 hx ⟨hD, s5⟩
    obtain ⟨n, en, rfl⟩ := nats_at hx
    have il := (List.getElem?_eq_some_iff.mp en).1
    have nb := Bt.nl n (List.mem_of_getElem? en)
    have ebn : bs[n]? = some bs[n] := List.getElem?_eq_getElem nb
    obtain ⟨x, ex, ⟨t2, g2, rfl, e1, e2⟩⟩ := alb.get ebn
    have s6 := s1.trans s5
    refine ⟨rfl, yes_in ⟨_, rfl, r, _, _, _, rfl, rfl, SqT.of (s6 _ _ er), atI_nat (j := 1) rfl, _, rfl, ba, _, _, _, rfl, rfl, SqT.of (s6 _ _ eb), atI_nat ex, t2, _, _, _, rfl, rfl, SqT.of (s6 _ _ e1), atI_nat (j := 1) rfl, _, hD, ?_, ?_, Same.own s5 nD⟩⟩
    · rw [List.length_map, List.length_map, List.length_take]; exact small1000 (by omega)
    · rw [upd_same, List.take_add_one, en, List.map_append, List.map_append]
      show _ = some (HO.lst (_ ++ [nV (toB bs n)]))
      unfold toB
      rw [ebn]
  · rintro H5 ⟨hD, s5⟩
    rw [List.length_map, List.take_length] at hD
    refine ⟨l1, D, _, _, rfl, rfl, s5 _ _ upd_same, hD, ?_, fun l2 nl2 => ?_⟩
    · rw [List.length_map, List.length_map]; exact little (by show 1 + _ ≤ _; omega)
    exact ⟨rfl, l2, rfl, upd_same, (s1.trans s5).trans (same_new nl2)⟩
def sp_law_held_down (K : PySem.W.Frag) : Sp := fun vs H Q _ => ∃ (fp np B : Addr) (rs : List Addr) (hs : List HR) (bs : List BR) (a b : Int) (N : Nat) (lv : Nat → Int), vs = [.ref fp, .ref np, .ref B] ∧ H fp = some (.tup [.int a, .int b]) ∧ H np = some (.tup (levL hs.length lv)) ∧ BOk hs bs ∧ Down hs bs a b lv ∧ 0 ≤ a ∧ a ≤ 360 ∧ 0 ≤ b ∧ b ≤ 360 ∧ BG H B rs hs.length (fun _ => N) (erl hs bs) ∧ N ≤ 100 ∧ ∀ H', Same H H' → Q (.bl true) H'
theorem ok_law_held_down {f : Addr} {fd : FuncData} (F : Fun K "_law_held_down" "_law_held_down" s_law_held_down f fd) (T : Top K mg) : FnOk P w K mg base CX0 1 f fd ["_law_fraction", "_law_numbers", "_law_begins"] (sp_law_held_down K) := by
  refine F.ok sc_law_held_down (fun vs H Q E h => ?_) (fun cdv A outer s H vs Q E hr h => ?_)
  · obtain ⟨fp, np, B, rs, hs, bs, a, b, N, lv, rfl, _⟩ := h
    rfl
  obtain ⟨fp, np, B, rs, hs, bs, a, b, N, lv, rfl, hfp, hnp, ok, D, a0, a9, b0, b9, bg, n100, q⟩ := h
  obtain ⟨rk, hrk⟩ := ok.rank
  have lh := ok.hands
  let R1 : TS := fun D' σ' H' => D'.rt = Q ∧ H = H' ∧ σ' = [some (.ref fp), some (.ref np), some (.ref B), some (.int a), some (.int b), none, none, none, none]
  refine ⟨_, (pss_cons (ps_asg (pv 0) (pg_tupK K rfl rfl (pgs_cons (pg_name (i := 3) sc_law_held_down.nd rfl (Or.inr rfl)) (pgs_cons (pg_name (i := 4) sc_law_held_down.nd rfl (Or.inr rfl)) pgs_nil))))
      (PSs.to (pss_cons (ps_for PassesOwn.never rfl (pi_zipTL K rfl (by rfl) T.m_zip (pa_cons (pv 1) (pa_cons (pv 2) pa_nil))) (pg_tupK K rfl rfl (pgs_cons (pg_name (i := 5) sc_law_held_down.nd rfl (Or.inr rfl)) (pgs_cons (pg_name (i := 6) sc_law_held_down.nd rfl (Or.inl rfl)) pgs_nil)))
        (pss_one (ps_if (pt_val (pe_callB (cr_anyK K rfl rfl) (by rfl) T.m_any (by decide +kernel) (pa_cons (pe_lc (own := [("_law_at", 7), ("_law_begin", 8)]) (g := gTup K 2 (gCons (gName 7) (gCons (gName 8) gNil))) (tt := tYes) (by rfl) sc_law_held_down.nd (pi_enum (by rfl) T.m_enumerate (pa_cons (pv 6) pa_nil)) (blkOk_by (own := [("_law_at", 7), ("_law_begin", 8)]) (N := N_law_held_down) (sc := defScope s_law_held_down) (by decide +kernel)) (fun _ _ _ _ _ => (pg_tupK K rfl rfl (pgs_cons (pg_name (i := 7) sc_law_held_down.nd rfl (Or.inl rfl)) (pgs_cons (pg_name (i := 8) sc_law_held_down.nd rfl (Or.inl rfl)) pgs_nil)))) (fun _ _ _ _ _ => pts_nil) (fun _ _ _ _ _ => (pe_cmpR op_gt (pe_op op_mul (pv 4) (pv 8)) (pe_op op_add (pv 5) (pe_op op_mul (pv 3) (pv 7))) (nomark _)))) pa_nil))) (pss_one (ps_ret pe_bl)) pss_nil)))
      (pss_one (ps_ret pe_bl))) R1 ?tail1)), ?_⟩
  case tail1 =>
    rintro D' σ' H1 ⟨eD, rfl, rfl⟩
    refine ⟨_, rfl, _, rfl, np, B, levL hs.length lv, _, rfl, SqT.of hnp, SqL.of bg.b, for_it (n := hs.length) (fun j σ H3 => (∃ v5 v6 : Option V, σ = [some (.ref fp), some (.ref np), some (.ref B), some (.int a), some (.int b), v5, v6, none, none]) ∧ Same H H3) ⟨⟨_, _, rfl⟩, Same.refl _⟩ (fun j σ H3 hj ⟨_, s⟩ => ⟨SqT.of (s _ _ hnp), SqL.of (s _ _ bg.b), by rw [List.length_map, List.length_range]; exact hj, by rw [List.length_map, bg.n]; exact hj⟩) (fun σ H3 ⟨_, s⟩ => ⟨SqT.of (s _ _ hnp), SqL.of (s _ _ bg.b), by rw [List.length_map, List.length_range]; exact Nat.le_refl _, by rw [List.length_map, bg.n]; exact Nat.le_refl _, .inl (by rw [List.length_map, List.length_range])⟩) ?_ ?_⟩
    · rintro j x σ H3 H4 hj ⟨⟨v5, v6, rfl⟩, s⟩ ⟨T, x1, y1, rfl, nT, rfl, hx1, hy1⟩
      rw [rg_at hj] at hx1
      cases hx1
      have bg3 := bg.same s
      obtain ⟨ra, _, e2, e3⟩ := bg3.at hj
      rw [e2] at hy1
      cases hy1
      have s4 := s.trans (same_new (o := .tup [V.int (lv j), V.ref ra]) nT)
      have e34 := same_new (o := .tup [V.int (lv j), V.ref ra]) nT _ _ e3
      refine ⟨T, _, rfl, SqT.of upd_same, rfl, _, _, rfl, _, _, rfl, rfl, ?_⟩
      refine ⟨_, rfl, ra, _, rfl, SqL.of e34, fun D2 nD2 => lc_it (n := N) (fun i H5 => H5 D2 = some (.lst ((List.replicate i false).map V.bl)) ∧ Same (upd H3 T (.tup [V.int (lv j), V.ref ra])) H5) ⟨upd_same, same_new nD2⟩ ?_ ?_ ?_ ?_⟩
      · rintro i H5 hi ⟨hD, s5⟩
        exact ⟨_, _, SqL.of (s5 _ _ e34), rg_at (f := fun t => V.int (erl hs bs j t)) hi⟩
      · rintro H5 ⟨hD, s5⟩
        exact ⟨_, SqL.of (s5 _ _ e34), by rw [fL_len]; exact Nat.le_refl _⟩
      · rintro i x H5 H6 hi ⟨hD, s5⟩ ⟨t, y, rfl, nt, rfl, fy⟩
        have ey := fy _ (SqL.of (s5 _ _ e34))
        rw [show (fL N (erl hs bs j))[i]? = some (V.int (erl hs bs j i)) from rg_at (f := fun t => V.int (erl hs bs j t)) hi] at ey
        cases ey
        have s6 := s5.trans (same_new (o := .tup [.int (i : Nat), V.int (erl hs bs j i)]) nt)
        refine ⟨t, _, rfl, SqT.of upd_same, rfl, _, _, rfl, _, _, rfl, rfl, rfl, yes_in ?_⟩
        refine ⟨_, rfl, _, rfl, _, _, rfl, rfl, .inl ⟨by omega, by omega⟩, _, rfl, _, rfl, _, rfl, _, _, rfl, rfl, .inl ⟨by omega, by omega⟩, _, _, rfl, rfl, _, _, rfl, rfl, _, same_new nt _ _ hD, by rw [List.length_map, List.length_replicate]; exact small1000 (by omega), ?_, Same.own s6 nD2⟩
        rw [upd_same, List.replicate_succ', List.map_append]
        show some (HO.lst (_ ++ [V.bl (decide (lv j + a * ((i : Nat) : Int) < b * erl hs bs j i))])) = some (HO.lst (_ ++ [V.bl false]))
        rw [decide_eq_false]
        have := erl_down hrk ok.ends D a0 b0 _ j i hj (Nat.lt_succ_self _)
        omega
      · rintro H5 ⟨hD, s5⟩
        refine ⟨D2, _, rfl, SqL.of hD, _, rfl, ?_⟩
        rw [show (List.replicate N false).any id = false by rw [List.any_eq_false]; intro x hx; rw [List.eq_of_mem_replicate hx]; simp]
        exact if_bl (fun z => nomatch z) (fun _ => ⟨⟨_, _, rfl⟩, s4.trans s5⟩)
    · rintro σ H5 ⟨⟨v7, v8, rfl⟩, s5⟩
      have e := q _ s5
      rw [← eD] at e
      exact e
  exact ⟨_, rfl, fp, _, rfl, SqT.of hfp, rfl, _, _, rfl, _, _, rfl, rfl, rfl, rfl, rfl⟩
end
/-! ### the law -/
theorem bok_of {hs : List HR} {bs : List BR} (ok : RoomOk hs bs) : BOk hs bs := ⟨ok.hands, ok.many, ok.ends, fun h hh => (ok.good h hh).2, fun b hb => Nat.le_trans (ok.th b hb).1 (by decide), ok.rank⟩
theorem BG.ext {H H' : Hp} {B : Addr} {rs : List Addr} {L : Nat} {cnt : Nat → Nat} {e : Nat → Nat → Int} (g : BG H B rs L cnt e) (s : LamX.ExtN H H') : BG H' B rs L cnt e := ⟨ExtN.lst s g.b, g.n, g.nd, g.out, fun j a h => ExtN.lst s (g.row j a h)⟩
section
variable {P : Program} {w : World} {K : PySem.W.Frag} {mg : Str → Option Value} {base : Heap} {cT PT : Addr} [TLI : TabL K mg base cT PT]
include TLI
def sp_law (K : PySem.W.Frag) (PT : Addr) : Sp := fun vs H Q _ => ∃ (a : Addr) (ns : List Int), vs = [.ref a] ∧ SqL K H a (ns.map V.int) ∧ ns.length ≤ 63 ∧ LamX.Tabs (TL PT) H ∧ ∀ H', Q (.bl true) H'
theorem ok_law {f : Addr} {fd : FuncData} (F : Fun K "law" "law" s_law f fd) (T : Top K mg) : FnOk P w K mg base CX0 7 f fd ["_law_script"] (sp_law K PT) := by
  obtain ⟨f_law_flow, fd_law_flow, F_law_flow, b_law_flow, m_law_flow⟩ := T.d_law_flow
  have G_law_flow := ok_law_flow (P := P) (w := w) (base := base) F_law_flow T
  obtain ⟨f_law_any_room, fd_law_any_room, F_law_any_room, b_law_any_room, m_law_any_room⟩ := T.d_law_any_room
  have G_law_any_room := ok_law_any_room (P := P) (w := w) (base := base) F_law_any_room T
  obtain ⟨f_earliest, fd_earliest, F_earliest, b_earliest, m_earliest⟩ := T.d_earliest
  have G_earliest := ok_earliest (P := P) (w := w) (base := base) F_earliest T
  obtain ⟨f_beat, fd_beat, F_beat, b_beat, m_beat⟩ := T.d_beat
  have G_beat := ok_beat (P := P) (w := w) (base := base) F_beat T
  obtain ⟨f_law_pick, fd_law_pick, F_law_pick, b_law_pick, m_law_pick⟩ := T.d_law_pick
  have G_law_pick := ok_law_pick (P := P) (w := w) (base := base) F_law_pick T
  obtain ⟨f_law_held_down, fd_law_held_down, F_law_held_down, b_law_held_down, m_law_held_down⟩ := T.d_law_held_down
  have G_law_held_down := ok_law_held_down (P := P) (w := w) (base := base) F_law_held_down T
  obtain ⟨f_law_held_up, fd_law_held_up, F_law_held_up, b_law_held_up, m_law_held_up⟩ := T.d_law_held_up
  have G_law_held_up := ok_law_held_up (P := P) (w := w) (base := base) F_law_held_up T
  obtain ⟨f_least_time, fd_least_time, F_least_time, b_least_time, m_least_time⟩ := T.d_least_time
  have G_least_time := ok_least_time (P := P) (w := w) (base := base) F_least_time T
  obtain ⟨f_holding, fd_holding, F_holding, b_holding, m_holding⟩ := T.d_holding
  have G_holding := ok_holding (P := P) (w := w) (base := base) F_holding T
  obtain ⟨f_holder, fd_holder, F_holder, b_holder, m_holder⟩ := T.d_holder
  have G_holder := ok_holder (P := P) (w := w) (base := base) F_holder T
  refine F.ok sc_law (fun vs H Q E h => ?_) (fun cdv A outer s H vs Q E hr h => ?_)
  · obtain ⟨a, ns, rfl, _⟩ := h
    rfl
  obtain ⟨a, ns, rfl, hS, hlen, tabs, q⟩ := h
  let R1 : TS := fun D' σ' H' => D'.rt = Q ∧ ∃ (f c r B fp : Addr) (x y : Int) (hs : List HR) (bs : List BR) (k : Nat) (ns : List Nat) (lv : Nat → Int), σ' = [some (.ref a), some (.ref f), some (.ref r), some (.ref B), some (.ref fp), none, none, none, none, none] ∧ RoomAt H' r hs bs ∧ RoomOk hs bs ∧ BOk hs bs ∧ 0 < hs.length ∧ H' fp = some (.tup [.int x, .int y]) ∧ Beat hs bs x y k ns ∧ Down hs bs x y lv ∧ Flow H' f c
  let R2 : TS := fun D' σ' H' => D'.rt = Q ∧ ∃ (f c r B fp : Addr) (x y T m : Int) (hs : List HR) (bs : List BR) (k : Nat) (ns : List Nat) (lv : Nat → Int), σ' = [some (.ref a), some (.ref f), some (.ref r), some (.ref B), some (.ref fp), some (.int x), some (.int y), some (.int T), some (.int m), none] ∧ RoomAt H' r hs bs ∧ RoomOk hs bs ∧ BOk hs bs ∧ Beat hs bs x y k ns ∧ Down hs bs x y lv ∧ Least hs bs none T ∧ (∀ k, momH hs k ≤ m) ∧ (∃ h ∈ hs, h.mom = m) ∧ Flow H' f c
  refine ⟨_, (pss_cons (ps_set (i := 1) sc_law.nd rfl (Or.inl rfl) (pe_call G_law_flow (hr.mono (by decide)) (by rfl) m_law_flow F_law_flow.kp b_law_flow .nil pass0 (pa_cons (pv 0) pa_nil)))
      (pss_cons (ps_set (i := 2) sc_law.nd rfl (Or.inl rfl) (pe_call G_law_any_room (hr.mono (by decide)) (by rfl) m_law_any_room F_law_any_room.kp b_law_any_room .nil pass0 (pa_cons (pv 1) pa_nil)))
      (pss_cons (ps_set (i := 3) sc_law.nd rfl (Or.inl rfl) (pe_call G_earliest (hr.mono (by decide)) (by rfl) m_earliest F_earliest.kp b_earliest .nil pass0 (pa_cons (pv 2) (pa_cons (pe_op op_add pe_int (pe_call G_law_pick (hr.mono (by decide)) (by rfl) m_law_pick F_law_pick.kp b_law_pick .nil pass0 (pa_cons (pv 1) (pa_cons pe_int pa_nil)))) pa_nil))))
      (pss_cons (ps_set (i := 4) sc_law.nd rfl (Or.inl rfl) (pe_call G_beat (hr.mono (by decide)) (by rfl) m_beat F_beat.kp b_beat .nil pass0 (pa_cons (pv 2) pa_nil)))
      (pss_cons (ps_if (PW.pt (pw_or (pt_not (pt_val (pe_call G_law_held_down (hr.mono (by decide)) (by rfl) m_law_held_down F_law_held_down.kp b_law_held_down .nil pass0 (pa_cons (pv 4) (pa_cons (pe_call G_holding (hr.mono (by decide)) (by rfl) m_holding F_holding.kp b_holding .nil pass0 (pa_cons (pv 2) pa_nil)) (pa_cons (pv 3) pa_nil)))))) (pw_or1 (pt_not (pt_val (pe_call G_law_held_up (hr.mono (by decide)) (by rfl) m_law_held_up F_law_held_up.kp b_law_held_up .nil pass0 (pa_cons (pv 2) (pa_cons (pe_call G_holder (hr.mono (by decide)) (by rfl) m_holder F_holder.kp b_holder .nil pass0 (pa_cons (pv 2) pa_nil)) (pa_cons (pv 3) pa_nil))))))))) (pss_one (ps_ret pe_bl)) pss_nil)
      (PSs.to (pss_cons (ps_asg (pv 4) (pg_tupK K rfl rfl (pgs_cons (pg_name (i := 5) sc_law.nd rfl (Or.inl rfl)) (pgs_cons (pg_name (i := 6) sc_law.nd rfl (Or.inl rfl)) pgs_nil))))
      (pss_cons (ps_par (i := 7) (j := 8) rfl sc_law.nd rfl rfl (by decide) rfl rfl (pa_cons (pe_ix (ix_tupK K rfl) (pe_call G_least_time (hr.mono (by decide)) (by rfl) m_least_time F_least_time.kp b_least_time .nil pass0 (pa_cons (pv 2) (pa_cons pe_non pa_nil))) pe_int (fun _ _ => rfl)) (pa_cons (pe_callB (cr_maxKK K rfl rfl) (by rfl) T.m_max (by decide +kernel) (pa_cons (pe_lc (own := [("_law_hand", 9)]) (g := gName 9) (tt := tYes) (by rfl) sc_law.nd (pi_tupK K rfl (pe_ix (ix_tupK K rfl) (pv 2) pe_int (fun _ _ => rfl))) (blkOk_by (own := [("_law_hand", 9)]) (N := N_law) (sc := defScope s_law) (by decide +kernel)) (fun _ _ _ _ _ => (pg_name (i := 9) sc_law.nd rfl (Or.inl rfl))) (fun _ _ _ _ _ => pts_nil) (fun _ _ _ _ _ => (pe_ix (ix_tupK K rfl) (pv 9) pe_int (fun _ _ => rfl)))) pa_nil)) pa_nil)) (by rfl))
      (PSs.to (pss_cons (ps_if (PW.pt (pw_or (pt_cmpR op_lt (pe_op op_mul (pv 6) (pv 7)) (pv 5) (nomark _)) (pw_or1 (pt_cmpR op_lt (pe_ix (ix_tupK K rfl) (pe_call G_least_time (hr.mono (by decide)) (by rfl) m_least_time F_least_time.kp b_least_time .nil pass0 (pa_cons (pv 2) (pa_cons (pe_call G_law_pick (hr.mono (by decide)) (by rfl) m_law_pick F_law_pick.kp b_law_pick .nil pass0 (pa_cons (pv 1) (pa_cons pe_int pa_nil))) pa_nil))) pe_int (fun _ _ => rfl)) (pv 7) (nomark _))))) (pss_one (ps_ret pe_bl)) pss_nil)
      (pss_one (ps_ret (pe_or (pe_cmpR op_eq (pv 8) pe_int (nomark _)) (pe_one (pe_cmpR op_lt (pe_op op_mul (pv 6) (pv 7)) (pe_op op_add (pv 5) (pe_op op_mul (pv 6) (pv 8))) (nomark _))))))) R2 ?tail2))) R1 ?tail1)))))), ?_⟩
  case tail2 =>
    rintro D' σ' H1 ⟨eD, f, c, r, B0, fp, x, y, T, m, hs, bs, k, ns, lv, rfl, hR, ok0, ok, B, D, L, ms, ex, F1⟩
    have b1 := B.b1
    have b9 := B.b9
    have lo : x ≤ y * T := beat_fa ok0 ok B L.fa
    refine ⟨_, rfl, _, rfl, _, _, rfl, rfl, .inl ⟨by omega, by omega⟩, _, rfl, _, _, rfl, rfl, _, rfl, if_bl (fun z => ?_) (fun _ => ?_)⟩
    · have z := of_decide_eq_true z
      omega
    refine ⟨_, rfl, _, rfl, f, c, 7, rfl, by decide, by decide +kernel, F1, fun u H2 u0 u1 F2 B2 => ?_⟩
    obtain ⟨l, rfl⟩ : ∃ l : Nat, u = ((l : Nat) : Int) := ⟨u.toNat, by omega⟩
    have K2 := TK.but F1 B2
    refine ⟨r, hs, bs, some l, rfl, hR.keep K2, ok0, fun p p' T2 sh yv H3 hp hp' shf L2 bar s3 => ?_⟩
    refine ⟨p, _, _, _, rfl, rfl, SqT.of hp, atI_nat (j := 0) rfl, _, rfl, _, _, rfl, rfl, _, rfl, if_bl (fun z => ?_) (fun _ => ?_)⟩
    · have z := of_decide_eq_true z
      obtain ⟨lv2, f2, _⟩ := L2.fa
      exact absurd ⟨lv2, f2, (fun _ z => nomatch z)⟩ (L.no T2 L2.nn z)
    refine ⟨_, rfl, rfl, _, rfl, if_bl (fun _ => ?_) (fun z => ?_)⟩
    · rw [eD]
      exact q _
    · have mne : m ≠ 0 := fun e => of_decide_eq_false z (by rw [e])
      obtain ⟨h, hh, em⟩ := ex
      have m0 := (ok.mom h hh).1
      have m30 := (ok.mom h hh).2
      have hi := (least_beat ok0 ok B D L ms (by omega) ⟨h, hh, em⟩).2
      refine ⟨_, rfl, _, rfl, _, _, rfl, rfl, .inl ⟨by omega, by omega⟩, _, rfl, _, rfl, _, rfl, _, _, rfl, rfl, .inl ⟨by omega, by omega⟩, _, _, rfl, rfl, _, _, rfl, rfl, ?_⟩
      rw [eD]
      show Q (.bl (decide (y * T < x + y * m))) H3
      rw [decide_eq_true hi]
      exact q _
  case tail1 =>
    rintro D' σ' H1 ⟨eD, f, c, r, B0, fp, x, y, hs, bs, k, ns, lv, rfl, hR, ok0, ok, h0, hfp, B, D, F1⟩
    have lh := ok.hands
    refine ⟨_, rfl, fp, _, rfl, SqT.of hfp, rfl, _, _, rfl, _, _, rfl, rfl, ?_⟩
    refine ⟨_, rfl, r, hs, bs, none, rfl, hR, ok0, fun p p' T sh yv H2 hp hp' shf L bar s2 => ?_⟩
    refine ⟨p, _, _, _, rfl, rfl, SqT.of hp, atI_nat (j := 0) rfl, ?_⟩
    obtain ⟨ha, ba, hv, bv, er, eh, eb, alh, alb⟩ := (hR.keep (TK.same s2)).ex
    have lhv := alh.length
    refine ⟨_, rfl, r, _, _, _, rfl, rfl, SqT.of er, atI_nat (j := 0) rfl, ha, rfl, ⟨_, SqT.of eh⟩, fun D2 nD2 => lc_tup (K := K) (a := ha) (xs := hv) (fun i H5 => H5 D2 = some (.lst (((hs.take i).map HR.mom).map V.int)) ∧ Same H2 H5) ⟨upd_same, same_new nD2⟩ (fun i H5 _ ⟨_, s5⟩ => SqT.of (s5 _ _ eh)) ?_ ?_⟩
    · rintro i x H5 hx ⟨hD, s5⟩
      obtain ⟨h, ehi, ⟨t, g, rfl, e1, e2⟩⟩ := alh.getL hx
      have il := (List.getElem?_eq_some_iff.mp ehi).1
      refine ⟨rfl, yes_in ⟨_, rfl, t, _, _, _, rfl, rfl, SqT.of (s5 _ _ e1), atI_nat (j := 1) rfl, _, hD, by rw [List.length_map, List.length_map, List.length_take]; exact small1000 (by omega), ?_, Same.own s5 nD2⟩⟩
      rw [upd_same, List.take_add_one, ehi, List.map_append, List.map_append]
      rfl
    · rintro H5 ⟨hD, s5⟩
      rw [lhv, List.take_length] at hD
      refine ⟨D2, hs.map HR.mom, rfl, SqL.of hD, by rw [List.length_map]; exact h0, fun m hm hle => ?_⟩
      obtain ⟨h, hh, em⟩ := List.mem_map.mp hm
      have mo := ok.mom h hh
      have ms : ∀ k, momH hs k ≤ m := fun k => by
        unfold momH
        cases e : hs[k]? with
        | none => show 0 ≤ m; omega
        | some h2 => exact hle _ (List.mem_map.mpr ⟨h2, List.mem_of_getElem? e, rfl⟩)
      have s25 := s2.trans s5
      exact ⟨_, _, rfl, eD, f, c, r, B0, fp, x, y, T, m, hs, bs, k, ns, lv, rfl, hR.keep (TK.same s25), ok0, ok, B, D, L, ms, ⟨h, hh, em⟩, F1.same s25⟩
  refine ⟨_, rfl, a, ns, rfl, hS, fun f c H1 nf nc F1 s1 => ?_⟩
  refine ⟨_, rfl, f, c, rfl, F1, fun r hs bs H2 hR ok0 h0 F2 B2 => ?_⟩
  have ok := bok_of ok0
  have tb2 := tabs_but (tabs_same tabs s1) F1 B2
  have no : hs = [] → False := fun z => by rw [z] at h0; exact absurd h0 (Nat.not_lt_zero _)
  refine ⟨_, rfl, _, rfl, f, c, 20, rfl, by decide, by decide +kernel, F2, fun u H3 u0 u1 F3 B3 => ?_⟩
  have K3 := TK.but F2 B3
  have tb3 := tabs_but tb2 F2 B3
  obtain ⟨N, hN⟩ : ∃ N : Nat, 1 + u = ((N : Nat) : Int) := ⟨(1 + u).toNat, by omega⟩
  refine ⟨_, _, rfl, rfl, r, hs, bs, N, congrArg (fun z => [V.ref r, V.int z]) hN, hR.keep K3, ok0, by omega, fun Bg rs H4 bg nB nrs s4 => ?_⟩
  have K4 := K3.trans (TK.same s4)
  have tb4 := tabs_same tb3 s4
  refine ⟨_, rfl, r, hs, bs, rfl, hR.keep K4, ok, tb4, fun z => (no z).elim, fun _ fp x y k ns lv H5 hfp B D ext5 tb5 => ?_⟩
  have K5 := K4.trans (ExtN.tk ext5)
  have b1 := B.b1
  refine ⟨_, rfl, _, rfl, r, hs, bs, rfl, hR.keep K5, ok, tb5, fun z => (no z).elim, fun _ p6 x6 y6 k6 ns6 lv6 H6 hp6 B6 D6 ext6 tb6 => ?_⟩
  obtain ⟨rfl, rfl⟩ := beat_one ok B D B6 D6
  have bg6 := (bg.ext ext5).ext ext6
  refine ⟨_, rfl, fp, p6, Bg, rs, hs, bs, x, y, N, lv6, rfl, ExtN.tk ext6 _ _ hfp, hp6, ok, D6, B.a0, B.a9, by omega, B.b9, bg6, by omega, fun H7 s7 => ⟨_, rfl, if_bl (fun z => nomatch z) (fun _ => ?_)⟩⟩
  have K7 := (K5.trans (ExtN.tk ext6)).trans (TK.same s7)
  refine ⟨_, rfl, _, rfl, r, hs, bs, rfl, hR.keep K7, ok, tabs_same tb6 s7, fun z => (no z).elim, fun _ p8 x8 y8 k8 ns8 lv8 H8 hp8 B8 D8 ext8 tb8 => ?_⟩
  have K8 := K7.trans (ExtN.tk ext8)
  refine ⟨_, rfl, r, p8, Bg, rs, hs, bs, x8, y8, k8, N, ns8, rfl, hR.keep K8, ok, hp8, B8, (bg6.same s7).ext ext8, by omega, fun H9 s9 => ⟨_, rfl, if_bl (fun z => nomatch z) (fun _ => ?_)⟩⟩
  have ex9 : LamX.ExtN H5 H9 := ((ext6.trans (ExtN.same s7)).trans ext8).trans (ExtN.same s9)
  exact ⟨rfl, f, c, r, Bg, fp, x, y, hs, bs, k, ns, lv, rfl, hR.keep (K8.trans (TK.same s9)), ok0, ok, h0, ExtN.tk ex9 _ _ hfp, B, D, ExtN.flow (ext5.trans ex9) (F3.same s4)⟩
end
theorem fun_of_D {K : PySem.W.Frag} {x q : Str} {st : Stmt} {f : Addr} {fd : FuncData} (D : FunD K x q (defArgs st) (defBody st) (defScope st) [] [] f fd) : Fun K x q st f fd := by
  obtain ⟨⟨oc, od, dV, kV, doc, pm, an, cdv, ct, osl, e, lk, ci, dfl, _⟩, kp⟩ := D
  have z : dV = .none := by
    rcases dfl with ⟨_, h⟩ | ⟨h, _⟩
    · exact h
    · exact absurd rfl h
  subst z
  exact ⟨⟨oc, od, kV, doc, pm, an, cdv, ct, osl, e, lk, ci⟩, kp⟩
def hd_work_order : He.DefD := ⟨("work_order", none), "work_order", "work_order", defArgs s_work_order, defBody s_work_order, defScope s_work_order, [], []⟩
def hd_comings : He.DefD := ⟨("comings", none), "comings", "comings", defArgs s_comings, defBody s_comings, defScope s_comings, [], []⟩
def hd_doors_in : He.DefD := ⟨("doors_in", none), "doors_in", "doors_in", defArgs s_doors_in, defBody s_doors_in, defScope s_doors_in, [], []⟩
def hd_doors_out : He.DefD := ⟨("doors_out", none), "doors_out", "doors_out", defArgs s_doors_out, defBody s_doors_out, defScope s_doors_out, [], []⟩
def hd_earliest : He.DefD := ⟨("earliest", none), "earliest", "earliest", defArgs s_earliest, defBody s_earliest, defScope s_earliest, [], []⟩
def hd_first_moment : He.DefD := ⟨("first_moment", none), "first_moment", "first_moment", defArgs s_first_moment, defBody s_first_moment, defScope s_first_moment, [], []⟩
def hd_over_at : He.DefD := ⟨("over_at", none), "over_at", "over_at", defArgs s_over_at, defBody s_over_at, defScope s_over_at, [], []⟩
def hd_levels_or_ring : He.DefD := ⟨("levels_or_ring", none), "levels_or_ring", "levels_or_ring", defArgs s_levels_or_ring, defBody s_levels_or_ring, defScope s_levels_or_ring, [], []⟩
def hd_raise_levels : He.DefD := ⟨("raise_levels", none), "raise_levels", "raise_levels", defArgs s_raise_levels, defBody s_raise_levels, defScope s_raise_levels, [], []⟩
def hd_ring_behind : He.DefD := ⟨("ring_behind", none), "ring_behind", "ring_behind", defArgs s_ring_behind, defBody s_ring_behind, defScope s_ring_behind, [], []⟩
def hd_trays_on : He.DefD := ⟨("trays_on", none), "trays_on", "trays_on", defArgs s_trays_on, defBody s_trays_on, defScope s_trays_on, [], []⟩
def hd_moments_on : He.DefD := ⟨("moments_on", none), "moments_on", "moments_on", defArgs s_moments_on, defBody s_moments_on, defScope s_moments_on, [], []⟩
def hd_way_back : He.DefD := ⟨("way_back", none), "way_back", "way_back", defArgs s_way_back, defBody s_way_back, defScope s_way_back, [], []⟩
def hd_least_costs : He.DefD := ⟨("least_costs", none), "least_costs", "least_costs", defArgs s_least_costs, defBody s_least_costs, defScope s_least_costs, [], []⟩
def hd_beat : He.DefD := ⟨("beat", none), "beat", "beat", defArgs s_beat, defBody s_beat, defScope s_beat, [], []⟩
def hd_holder : He.DefD := ⟨("holder", none), "holder", "holder", defArgs s_holder, defBody s_holder, defScope s_holder, [], []⟩
def hd_holding : He.DefD := ⟨("holding", none), "holding", "holding", defArgs s_holding, defBody s_holding, defScope s_holding, [], []⟩
def hd_beat_papers : He.DefD := ⟨("beat_papers", none), "beat_papers", "beat_papers", defArgs s_beat_papers, defBody s_beat_papers, defScope s_beat_papers, [], []⟩
def hd_beat_steps : He.DefD := ⟨("beat_steps", none), "beat_steps", "beat_steps", defArgs s_beat_steps, defBody s_beat_steps, defScope s_beat_steps, [], []⟩
def hd_ring_moments : He.DefD := ⟨("ring_moments", none), "ring_moments", "ring_moments", defArgs s_ring_moments, defBody s_ring_moments, defScope s_ring_moments, [], []⟩
def hd_in_least_terms : He.DefD := ⟨("in_least_terms", none), "in_least_terms", "in_least_terms", defArgs s_in_least_terms, defBody s_in_least_terms, defScope s_in_least_terms, [], []⟩
def hd_least_time : He.DefD := ⟨("least_time", none), "least_time", "least_time", defArgs s_least_time, defBody s_least_time, defScope s_least_time, [], []⟩
def hd_least_ways : He.DefD := ⟨("least_ways", none), "least_ways", "least_ways", defArgs s_least_ways, defBody s_least_ways, defScope s_least_ways, [], []⟩
def hd_paper_by : He.DefD := ⟨("paper_by", none), "paper_by", "paper_by", defArgs s_paper_by, defBody s_paper_by, defScope s_paper_by, [], []⟩
def hd_needed : He.DefD := ⟨("needed", none), "needed", "needed", defArgs s_needed, defBody s_needed, defScope s_needed, [], []⟩
def hd_jumps : He.DefD := ⟨("jumps", none), "jumps", "jumps", defArgs s_jumps, defBody s_jumps, defScope s_jumps, [], []⟩
def hd_shifts_by : He.DefD := ⟨("shifts_by", none), "shifts_by", "shifts_by", defArgs s_shifts_by, defBody s_shifts_by, defScope s_shifts_by, [], []⟩
def hd_law_flow : He.DefD := ⟨("_law_flow", none), "_law_flow", "_law_flow", defArgs s_law_flow, defBody s_law_flow, defScope s_law_flow, [], []⟩
def hd_law_pick : He.DefD := ⟨("_law_pick", none), "_law_pick", "_law_pick", defArgs s_law_pick, defBody s_law_pick, defScope s_law_pick, [], []⟩
def hd_law_thing : He.DefD := ⟨("_law_thing", none), "_law_thing", "_law_thing", defArgs s_law_thing, defBody s_law_thing, defScope s_law_thing, [], []⟩
def hd_law_needs : He.DefD := ⟨("_law_needs", none), "_law_needs", "_law_needs", defArgs s_law_needs, defBody s_law_needs, defScope s_law_needs, [], []⟩
def hd_law_rule : He.DefD := ⟨("_law_rule", none), "_law_rule", "_law_rule", defArgs s_law_rule, defBody s_law_rule, defScope s_law_rule, [], []⟩
def hd_law_shuffled : He.DefD := ⟨("_law_shuffled", none), "_law_shuffled", "_law_shuffled", defArgs s_law_shuffled, defBody s_law_shuffled, defScope s_law_shuffled, [], []⟩
def hd_law_hands : He.DefD := ⟨("_law_hands", none), "_law_hands", "_law_hands", defArgs s_law_hands, defBody s_law_hands, defScope s_law_hands, [], []⟩
def hd_law_room : He.DefD := ⟨("_law_room", none), "_law_room", "_law_room", defArgs s_law_room, defBody s_law_room, defScope s_law_room, [], []⟩
def hd_law_doors_room : He.DefD := ⟨("_law_doors_room", none), "_law_doors_room", "_law_doors_room", defArgs s_law_doors_room, defBody s_law_doors_room, defScope s_law_doors_room, [], []⟩
def hd_law_any_room : He.DefD := ⟨("_law_any_room", none), "_law_any_room", "_law_any_room", defArgs s_law_any_room, defBody s_law_any_room, defScope s_law_any_room, [], []⟩
def hd_law_trays : He.DefD := ⟨("_law_trays", none), "_law_trays", "_law_trays", defArgs s_law_trays, defBody s_law_trays, defScope s_law_trays, [], []⟩
def hd_law_moments : He.DefD := ⟨("_law_moments", none), "_law_moments", "_law_moments", defArgs s_law_moments, defBody s_law_moments, defScope s_law_moments, [], []⟩
def hd_law_ring_moments : He.DefD := ⟨("_law_ring_moments", none), "_law_ring_moments", "_law_ring_moments", defArgs s_law_ring_moments, defBody s_law_ring_moments, defScope s_law_ring_moments, [], []⟩
def hd_law_held_up : He.DefD := ⟨("_law_held_up", none), "_law_held_up", "_law_held_up", defArgs s_law_held_up, defBody s_law_held_up, defScope s_law_held_up, [], []⟩
def hd_law_held_down : He.DefD := ⟨("_law_held_down", none), "_law_held_down", "_law_held_down", defArgs s_law_held_down, defBody s_law_held_down, defScope s_law_held_down, [], []⟩
def hd_law : He.DefD := ⟨("law", none), "law", "law", defArgs s_law, defBody s_law, defScope s_law, [], []⟩
def hFn : List He.DefD := [hd_work_order, hd_comings, hd_doors_in, hd_doors_out, hd_earliest, hd_first_moment, hd_over_at, hd_levels_or_ring, hd_raise_levels, hd_ring_behind, hd_trays_on, hd_moments_on, hd_way_back, hd_least_costs, hd_beat, hd_holder, hd_holding, hd_beat_papers, hd_beat_steps, hd_ring_moments, hd_in_least_terms, hd_least_time, hd_least_ways, hd_paper_by, hd_needed, hd_jumps, hd_shifts_by, hd_law_flow, hd_law_pick, hd_law_thing, hd_law_needs, hd_law_rule, hd_law_shuffled, hd_law_hands, hd_law_room, hd_law_doors_room, hd_law_any_room, hd_law_trays, hd_law_moments, hd_law_ring_moments, hd_law_held_up, hd_law_held_down, hd_law]
def hFa : List He.Fa := [.glo "work_order", .glo "comings", .glo "doors_in", .glo "doors_out", .glo "earliest", .glo "first_moment", .glo "over_at", .glo "levels_or_ring", .glo "raise_levels", .glo "ring_behind", .glo "trays_on", .glo "moments_on", .glo "way_back", .glo "least_costs", .glo "beat", .glo "holder", .glo "holding", .glo "beat_papers", .glo "beat_steps", .glo "ring_moments", .glo "in_least_terms", .glo "least_time", .glo "least_ways", .glo "paper_by", .glo "needed", .glo "jumps", .glo "shifts_by", .glo "_law_flow", .glo "_law_pick", .glo "_law_thing", .glo "_law_needs", .glo "_law_rule", .glo "_law_shuffled", .glo "_law_hands", .glo "_law_room", .glo "_law_doors_room", .glo "_law_any_room", .glo "_law_trays", .glo "_law_moments", .glo "_law_ring_moments", .glo "_law_held_up", .glo "_law_held_down", .glo "law", .free "any", .free "enumerate", .free "int", .free "len", .free "list", .free "max", .free "min", .free "range", .free "sum", .free "tuple", .free "zip", .glo "IN_RULE", .glo "OUT_RULE"]
def hEx (K : PySem.W.Frag) : Bool := He.tupB K "IN_RULE" [.str "in"] && He.tupB K "OUT_RULE" [.str "out"]
def hTf : List (Str × Option Str) := [("beat_papers", none)]
abbrev hR : PySem.W.OpenRow := PySem.W.OpenLaw.row PySem.Challenge.rw_beltshift_k67_whole_beat_and_works
abbrev hk : PySem.W.Hook := He.hookX 4 hFa hFn [] hTf hEx
def hOb (s : PySem.W.SharedT) : He.AlX := He.obsX 4 hFa hFn [] hTf hEx (HandSHeadRun.getT s)
theorem hOb_eq (s : PySem.W.SharedT) : hOb s = hk.obs s.abs := He.obsX_eq (HandSHeadRun.getT_eq s)
def hN0 : List Str := ["work_order", "IN_RULE", "OUT_RULE", "comings", "doors_in", "doors_out", "earliest", "first_moment", "over_at", "levels_or_ring", "raise_levels", "ring_behind", "trays_on", "moments_on", "way_back", "least_costs", "beat", "holder", "holding", "beat_papers", "beat_steps", "ring_moments", "in_least_terms", "least_time", "least_ways", "paper_by", "needed", "jumps", "shifts_by", "_law_flow"]
def hN1 : List Str := ["_law_pick", "_law_thing", "_law_needs", "_law_rule", "_law_shuffled", "_law_hands", "_law_room", "_law_doors_room", "_law_any_room", "_law_trays", "_law_moments", "_law_ring_moments", "_law_held_up", "_law_held_down"]
def hNames : List Str := hN0 ++ hN1
set_option maxHeartbeats 0 in
theorem hRun (w : World) : HandSHeadRun.RunEq hR (PySem.W.view hR.prog [52]) hk hOb 40000 hNames w := by
  intro os
  kernel_rfl
set_option maxHeartbeats 0 in
theorem all_mkX {w : World} {K : PySem.W.Frag} {h : Heap} {mg : Str → Option Value} {fa : Addr} (X : K.In h) (G : h.Ns mainGlobals mg) (hfa : mg "law" = some (.ref fa)) (c : He.SaysX hFa hFn [] hTf hEx w h K) : LamX.LawAtS PySem.Challenge.rw_beltshift_k67_whole_beat_and_works w K CX0 7 63 "_law_script" mg fa h := by
  have cd := c.t.d
  obtain ⟨fd0, D0⟩ := cd.def_ 0 (d := hd_work_order) rfl
  have F0 : Fun K "work_order" "work_order" s_work_order (He.ga K "work_order") fd0 := fun_of_D D0
  have g0 : mg "work_order" = some (.ref (He.ga K "work_order")) := He.glo_ok X G (cd.fact 0 (f := .glo "work_order") rfl)
  have b0 := F0.binds (ps := ["room"]) fun _ _ _ _ _ _ us hl => match us, hl with | [_], _ => rfl
  obtain ⟨fd1, D1⟩ := cd.def_ 1 (d := hd_comings) rfl
  have F1 : Fun K "comings" "comings" s_comings (He.ga K "comings") fd1 := fun_of_D D1
  have g1 : mg "comings" = some (.ref (He.ga K "comings")) := He.glo_ok X G (cd.fact 1 (f := .glo "comings") rfl)
  have b1 := F1.binds (ps := ["room", "hand"]) fun _ _ _ _ _ _ us hl => match us, hl with | [_, _], _ => rfl
  obtain ⟨fd2, D2⟩ := cd.def_ 2 (d := hd_doors_in) rfl
  have F2 : Fun K "doors_in" "doors_in" s_doors_in (He.ga K "doors_in") fd2 := fun_of_D D2
  have g2 : mg "doors_in" = some (.ref (He.ga K "doors_in")) := He.glo_ok X G (cd.fact 2 (f := .glo "doors_in") rfl)
  have b2 := F2.binds (ps := ["room"]) fun _ _ _ _ _ _ us hl => match us, hl with | [_], _ => rfl
  obtain ⟨fd3, D3⟩ := cd.def_ 3 (d := hd_doors_out) rfl
  have F3 : Fun K "doors_out" "doors_out" s_doors_out (He.ga K "doors_out") fd3 := fun_of_D D3
  have g3 : mg "doors_out" = some (.ref (He.ga K "doors_out")) := He.glo_ok X G (cd.fact 3 (f := .glo "doors_out") rfl)
  have b3 := F3.binds (ps := ["room"]) fun _ _ _ _ _ _ us hl => match us, hl with | [_], _ => rfl
  obtain ⟨fd4, D4⟩ := cd.def_ 4 (d := hd_earliest) rfl
  have F4 : Fun K "earliest" "earliest" s_earliest (He.ga K "earliest") fd4 := fun_of_D D4
  have g4 : mg "earliest" = some (.ref (He.ga K "earliest")) := He.glo_ok X G (cd.fact 4 (f := .glo "earliest") rfl)
  have b4 := F4.binds (ps := ["room", "many"]) fun _ _ _ _ _ _ us hl => match us, hl with | [_, _], _ => rfl
  obtain ⟨fd5, D5⟩ := cd.def_ 5 (d := hd_first_moment) rfl
  have F5 : Fun K "first_moment" "first_moment" s_first_moment (He.ga K "first_moment") fd5 := fun_of_D D5
  have g5 : mg "first_moment" = some (.ref (He.ga K "first_moment")) := He.glo_ok X G (cd.fact 5 (f := .glo "first_moment") rfl)
  have b5 := F5.binds (ps := ["room", "begins", "hand", "coming"]) fun _ _ _ _ _ _ us hl => match us, hl with | [_, _, _, _], _ => rfl
  obtain ⟨fd6, D6⟩ := cd.def_ 6 (d := hd_over_at) rfl
  have F6 : Fun K "over_at" "over_at" s_over_at (He.ga K "over_at") fd6 := fun_of_D D6
  have g6 : mg "over_at" = some (.ref (He.ga K "over_at")) := He.glo_ok X G (cd.fact 6 (f := .glo "over_at") rfl)
  have b6 := F6.binds (ps := ["room", "begins", "hand", "work"]) fun _ _ _ _ _ _ us hl => match us, hl with | [_, _, _, _], _ => rfl
  obtain ⟨fd7, D7⟩ := cd.def_ 7 (d := hd_levels_or_ring) rfl
  have F7 : Fun K "levels_or_ring" "levels_or_ring" s_levels_or_ring (He.ga K "levels_or_ring") fd7 := fun_of_D D7
  have g7 : mg "levels_or_ring" = some (.ref (He.ga K "levels_or_ring")) := He.glo_ok X G (cd.fact 7 (f := .glo "levels_or_ring") rfl)
  have b7 := F7.binds (ps := ["many", "steps"]) fun _ _ _ _ _ _ us hl => match us, hl with | [_, _], _ => rfl
  obtain ⟨fd8, D8⟩ := cd.def_ 8 (d := hd_raise_levels) rfl
  have F8 : Fun K "raise_levels" "raise_levels" s_raise_levels (He.ga K "raise_levels") fd8 := fun_of_D D8
  have g8 : mg "raise_levels" = some (.ref (He.ga K "raise_levels")) := He.glo_ok X G (cd.fact 8 (f := .glo "raise_levels") rfl)
  have b8 := F8.binds (ps := ["levels", "last", "steps"]) fun _ _ _ _ _ _ us hl => match us, hl with | [_, _, _], _ => rfl
  obtain ⟨fd9, D9⟩ := cd.def_ 9 (d := hd_ring_behind) rfl
  have F9 : Fun K "ring_behind" "ring_behind" s_ring_behind (He.ga K "ring_behind") fd9 := fun_of_D D9
  have g9 : mg "ring_behind" = some (.ref (He.ga K "ring_behind")) := He.glo_ok X G (cd.fact 9 (f := .glo "ring_behind") rfl)
  have b9 := F9.binds (ps := ["place", "last", "steps"]) fun _ _ _ _ _ _ us hl => match us, hl with | [_, _, _], _ => rfl
  obtain ⟨fd10, D10⟩ := cd.def_ 10 (d := hd_trays_on) rfl
  have F10 : Fun K "trays_on" "trays_on" s_trays_on (He.ga K "trays_on") fd10 := fun_of_D D10
  have g10 : mg "trays_on" = some (.ref (He.ga K "trays_on")) := He.glo_ok X G (cd.fact 10 (f := .glo "trays_on") rfl)
  have b10 := F10.binds (ps := ["room", "way"]) fun _ _ _ _ _ _ us hl => match us, hl with | [_, _], _ => rfl
  obtain ⟨fd11, D11⟩ := cd.def_ 11 (d := hd_moments_on) rfl
  have F11 : Fun K "moments_on" "moments_on" s_moments_on (He.ga K "moments_on") fd11 := fun_of_D D11
  have g11 : mg "moments_on" = some (.ref (He.ga K "moments_on")) := He.glo_ok X G (cd.fact 11 (f := .glo "moments_on") rfl)
  have b11 := F11.binds (ps := ["room", "way"]) fun _ _ _ _ _ _ us hl => match us, hl with | [_, _], _ => rfl
  obtain ⟨fd12, D12⟩ := cd.def_ 12 (d := hd_way_back) rfl
  have F12 : Fun K "way_back" "way_back" s_way_back (He.ga K "way_back") fd12 := fun_of_D D12
  have g12 : mg "way_back" = some (.ref (He.ga K "way_back")) := He.glo_ok X G (cd.fact 12 (f := .glo "way_back") rfl)
  have b12 := F12.binds (ps := ["room", "end", "last"]) fun _ _ _ _ _ _ us hl => match us, hl with | [_, _, _], _ => rfl
  obtain ⟨fd13, D13⟩ := cd.def_ 13 (d := hd_least_costs) rfl
  have F13 : Fun K "least_costs" "least_costs" s_least_costs (He.ga K "least_costs") fd13 := fun_of_D D13
  have g13 : mg "least_costs" = some (.ref (He.ga K "least_costs")) := He.glo_ok X G (cd.fact 13 (f := .glo "least_costs") rfl)
  have b13 := F13.binds (ps := ["room", "one"]) fun _ _ _ _ _ _ us hl => match us, hl with | [_, _], _ => rfl
  obtain ⟨fd14, D14⟩ := cd.def_ 14 (d := hd_beat) rfl
  have F14 : Fun K "beat" "beat" s_beat (He.ga K "beat") fd14 := fun_of_D D14
  have g14 : mg "beat" = some (.ref (He.ga K "beat")) := He.glo_ok X G (cd.fact 14 (f := .glo "beat") rfl)
  have b14 := F14.binds (ps := ["room"]) fun _ _ _ _ _ _ us hl => match us, hl with | [_], _ => rfl
  obtain ⟨fd15, D15⟩ := cd.def_ 15 (d := hd_holder) rfl
  have F15 : Fun K "holder" "holder" s_holder (He.ga K "holder") fd15 := fun_of_D D15
  have g15 : mg "holder" = some (.ref (He.ga K "holder")) := He.glo_ok X G (cd.fact 15 (f := .glo "holder") rfl)
  have b15 := F15.binds (ps := ["room"]) fun _ _ _ _ _ _ us hl => match us, hl with | [_], _ => rfl
  obtain ⟨fd16, D16⟩ := cd.def_ 16 (d := hd_holding) rfl
  have F16 : Fun K "holding" "holding" s_holding (He.ga K "holding") fd16 := fun_of_D D16
  have g16 : mg "holding" = some (.ref (He.ga K "holding")) := He.glo_ok X G (cd.fact 16 (f := .glo "holding") rfl)
  have b16 := F16.binds (ps := ["room"]) fun _ _ _ _ _ _ us hl => match us, hl with | [_], _ => rfl
  obtain ⟨fd17, D17⟩ := cd.def_ 17 (d := hd_beat_papers) rfl
  have F17 : Fun K "beat_papers" "beat_papers" s_beat_papers (He.ga K "beat_papers") fd17 := fun_of_D D17
  have g17 : mg "beat_papers" = some (.ref (He.ga K "beat_papers")) := He.glo_ok X G (cd.fact 17 (f := .glo "beat_papers") rfl)
  have b17 := F17.binds (ps := ["room"]) fun _ _ _ _ _ _ us hl => match us, hl with | [_], _ => rfl
  obtain ⟨fd18, D18⟩ := cd.def_ 18 (d := hd_beat_steps) rfl
  have F18 : Fun K "beat_steps" "beat_steps" s_beat_steps (He.ga K "beat_steps") fd18 := fun_of_D D18
  have g18 : mg "beat_steps" = some (.ref (He.ga K "beat_steps")) := He.glo_ok X G (cd.fact 18 (f := .glo "beat_steps") rfl)
  have b18 := F18.binds (ps := ["room", "fraction"]) fun _ _ _ _ _ _ us hl => match us, hl with | [_, _], _ => rfl
  obtain ⟨fd19, D19⟩ := cd.def_ 19 (d := hd_ring_moments) rfl
  have F19 : Fun K "ring_moments" "ring_moments" s_ring_moments (He.ga K "ring_moments") fd19 := fun_of_D D19
  have g19 : mg "ring_moments" = some (.ref (He.ga K "ring_moments")) := He.glo_ok X G (cd.fact 19 (f := .glo "ring_moments") rfl)
  have b19 := F19.binds (ps := ["room", "way"]) fun _ _ _ _ _ _ us hl => match us, hl with | [_, _], _ => rfl
  obtain ⟨fd20, D20⟩ := cd.def_ 20 (d := hd_in_least_terms) rfl
  have F20 : Fun K "in_least_terms" "in_least_terms" s_in_least_terms (He.ga K "in_least_terms") fd20 := fun_of_D D20
  have g20 : mg "in_least_terms" = some (.ref (He.ga K "in_least_terms")) := He.glo_ok X G (cd.fact 20 (f := .glo "in_least_terms") rfl)
  have b20 := F20.binds (ps := ["a", "b"]) fun _ _ _ _ _ _ us hl => match us, hl with | [_, _], _ => rfl
  obtain ⟨fd21, D21⟩ := cd.def_ 21 (d := hd_least_time) rfl
  have F21 : Fun K "least_time" "least_time" s_least_time (He.ga K "least_time") fd21 := fun_of_D D21
  have g21 : mg "least_time" = some (.ref (He.ga K "least_time")) := He.glo_ok X G (cd.fact 21 (f := .glo "least_time") rfl)
  have b21 := F21.binds (ps := ["room", "late"]) fun _ _ _ _ _ _ us hl => match us, hl with | [_, _], _ => rfl
  obtain ⟨fd22, D22⟩ := cd.def_ 22 (d := hd_least_ways) rfl
  have F22 : Fun K "least_ways" "least_ways" s_least_ways (He.ga K "least_ways") fd22 := fun_of_D D22
  have g22 : mg "least_ways" = some (.ref (He.ga K "least_ways")) := He.glo_ok X G (cd.fact 22 (f := .glo "least_ways") rfl)
  have b22 := F22.binds (ps := ["room"]) fun _ _ _ _ _ _ us hl => match us, hl with | [_], _ => rfl
  obtain ⟨fd23, D23⟩ := cd.def_ 23 (d := hd_paper_by) rfl
  have F23 : Fun K "paper_by" "paper_by" s_paper_by (He.ga K "paper_by") fd23 := fun_of_D D23
  have g23 : mg "paper_by" = some (.ref (He.ga K "paper_by")) := He.glo_ok X G (cd.fact 23 (f := .glo "paper_by") rfl)
  have b23 := F23.binds (ps := ["room", "late", "time", "ways"]) fun _ _ _ _ _ _ us hl => match us, hl with | [_, _, _, _], _ => rfl
  obtain ⟨fd24, D24⟩ := cd.def_ 24 (d := hd_needed) rfl
  have F24 : Fun K "needed" "needed" s_needed (He.ga K "needed") fd24 := fun_of_D D24
  have g24 : mg "needed" = some (.ref (He.ga K "needed")) := He.glo_ok X G (cd.fact 24 (f := .glo "needed") rfl)
  have b24 := F24.binds (ps := ["moments", "time"]) fun _ _ _ _ _ _ us hl => match us, hl with | [_, _], _ => rfl
  obtain ⟨fd25, D25⟩ := cd.def_ 25 (d := hd_jumps) rfl
  have F25 : Fun K "jumps" "jumps" s_jumps (He.ga K "jumps") fd25 := fun_of_D D25
  have g25 : mg "jumps" = some (.ref (He.ga K "jumps")) := He.glo_ok X G (cd.fact 25 (f := .glo "jumps") rfl)
  have b25 := F25.binds (ps := ["room", "late"]) fun _ _ _ _ _ _ us hl => match us, hl with | [_, _], _ => rfl
  obtain ⟨fd26, D26⟩ := cd.def_ 26 (d := hd_shifts_by) rfl
  have F26 : Fun K "shifts_by" "shifts_by" s_shifts_by (He.ga K "shifts_by") fd26 := fun_of_D D26
  have g26 : mg "shifts_by" = some (.ref (He.ga K "shifts_by")) := He.glo_ok X G (cd.fact 26 (f := .glo "shifts_by") rfl)
  have b26 := F26.binds (ps := ["room", "late", "levels"]) fun _ _ _ _ _ _ us hl => match us, hl with | [_, _, _], _ => rfl
  obtain ⟨fd27, D27⟩ := cd.def_ 27 (d := hd_law_flow) rfl
  have F27 : Fun K "_law_flow" "_law_flow" s_law_flow (He.ga K "_law_flow") fd27 := fun_of_D D27
  have g27 : mg "_law_flow" = some (.ref (He.ga K "_law_flow")) := He.glo_ok X G (cd.fact 27 (f := .glo "_law_flow") rfl)
  have b27 := F27.binds (ps := ["_law_script"]) fun _ _ _ _ _ _ us hl => match us, hl with | [_], _ => rfl
  obtain ⟨fd28, D28⟩ := cd.def_ 28 (d := hd_law_pick) rfl
  have F28 : Fun K "_law_pick" "_law_pick" s_law_pick (He.ga K "_law_pick") fd28 := fun_of_D D28
  have g28 : mg "_law_pick" = some (.ref (He.ga K "_law_pick")) := He.glo_ok X G (cd.fact 28 (f := .glo "_law_pick") rfl)
  have b28 := F28.binds (ps := ["_law_flow_here", "_law_many"]) fun _ _ _ _ _ _ us hl => match us, hl with | [_, _], _ => rfl
  obtain ⟨fd29, D29⟩ := cd.def_ 29 (d := hd_law_thing) rfl
  have F29 : Fun K "_law_thing" "_law_thing" s_law_thing (He.ga K "_law_thing") fd29 := fun_of_D D29
  have g29 : mg "_law_thing" = some (.ref (He.ga K "_law_thing")) := He.glo_ok X G (cd.fact 29 (f := .glo "_law_thing") rfl)
  have b29 := F29.binds (ps := ["_law_flow_here"]) fun _ _ _ _ _ _ us hl => match us, hl with | [_], _ => rfl
  obtain ⟨fd30, D30⟩ := cd.def_ 30 (d := hd_law_needs) rfl
  have F30 : Fun K "_law_needs" "_law_needs" s_law_needs (He.ga K "_law_needs") fd30 := fun_of_D D30
  have g30 : mg "_law_needs" = some (.ref (He.ga K "_law_needs")) := He.glo_ok X G (cd.fact 30 (f := .glo "_law_needs") rfl)
  have b30 := F30.binds (ps := ["_law_rule_here"]) fun _ _ _ _ _ _ us hl => match us, hl with | [_], _ => rfl
  obtain ⟨fd31, D31⟩ := cd.def_ 31 (d := hd_law_rule) rfl
  have F31 : Fun K "_law_rule" "_law_rule" s_law_rule (He.ga K "_law_rule") fd31 := fun_of_D D31
  have g31 : mg "_law_rule" = some (.ref (He.ga K "_law_rule")) := He.glo_ok X G (cd.fact 31 (f := .glo "_law_rule") rfl)
  have b31 := F31.binds (ps := ["_law_flow_here", "_law_most"]) fun _ _ _ _ _ _ us hl => match us, hl with | [_, _], _ => rfl
  obtain ⟨fd32, D32⟩ := cd.def_ 32 (d := hd_law_shuffled) rfl
  have F32 : Fun K "_law_shuffled" "_law_shuffled" s_law_shuffled (He.ga K "_law_shuffled") fd32 := fun_of_D D32
  have g32 : mg "_law_shuffled" = some (.ref (He.ga K "_law_shuffled")) := He.glo_ok X G (cd.fact 32 (f := .glo "_law_shuffled") rfl)
  have b32 := F32.binds (ps := ["_law_flow_here", "_law_some"]) fun _ _ _ _ _ _ us hl => match us, hl with | [_, _], _ => rfl
  obtain ⟨fd33, D33⟩ := cd.def_ 33 (d := hd_law_hands) rfl
  have F33 : Fun K "_law_hands" "_law_hands" s_law_hands (He.ga K "_law_hands") fd33 := fun_of_D D33
  have g33 : mg "_law_hands" = some (.ref (He.ga K "_law_hands")) := He.glo_ok X G (cd.fact 33 (f := .glo "_law_hands") rfl)
  have b33 := F33.binds (ps := ["_law_flow_here", "_law_many"]) fun _ _ _ _ _ _ us hl => match us, hl with | [_, _], _ => rfl
  obtain ⟨fd34, D34⟩ := cd.def_ 34 (d := hd_law_room) rfl
  have F34 : Fun K "_law_room" "_law_room" s_law_room (He.ga K "_law_room") fd34 := fun_of_D D34
  have g34 : mg "_law_room" = some (.ref (He.ga K "_law_room")) := He.glo_ok X G (cd.fact 34 (f := .glo "_law_room") rfl)
  have b34 := F34.binds (ps := ["_law_flow_here", "_law_most"]) fun _ _ _ _ _ _ us hl => match us, hl with | [_, _], _ => rfl
  obtain ⟨fd35, D35⟩ := cd.def_ 35 (d := hd_law_doors_room) rfl
  have F35 : Fun K "_law_doors_room" "_law_doors_room" s_law_doors_room (He.ga K "_law_doors_room") fd35 := fun_of_D D35
  have g35 : mg "_law_doors_room" = some (.ref (He.ga K "_law_doors_room")) := He.glo_ok X G (cd.fact 35 (f := .glo "_law_doors_room") rfl)
  have b35 := F35.binds (ps := ["_law_flow_here"]) fun _ _ _ _ _ _ us hl => match us, hl with | [_], _ => rfl
  obtain ⟨fd36, D36⟩ := cd.def_ 36 (d := hd_law_any_room) rfl
  have F36 : Fun K "_law_any_room" "_law_any_room" s_law_any_room (He.ga K "_law_any_room") fd36 := fun_of_D D36
  have g36 : mg "_law_any_room" = some (.ref (He.ga K "_law_any_room")) := He.glo_ok X G (cd.fact 36 (f := .glo "_law_any_room") rfl)
  have b36 := F36.binds (ps := ["_law_flow_here"]) fun _ _ _ _ _ _ us hl => match us, hl with | [_], _ => rfl
  obtain ⟨fd37, D37⟩ := cd.def_ 37 (d := hd_law_trays) rfl
  have F37 : Fun K "_law_trays" "_law_trays" s_law_trays (He.ga K "_law_trays") fd37 := fun_of_D D37
  have g37 : mg "_law_trays" = some (.ref (He.ga K "_law_trays")) := He.glo_ok X G (cd.fact 37 (f := .glo "_law_trays") rfl)
  have b37 := F37.binds (ps := ["_law_room_here", "_law_way"]) fun _ _ _ _ _ _ us hl => match us, hl with | [_, _], _ => rfl
  obtain ⟨fd38, D38⟩ := cd.def_ 38 (d := hd_law_moments) rfl
  have F38 : Fun K "_law_moments" "_law_moments" s_law_moments (He.ga K "_law_moments") fd38 := fun_of_D D38
  have g38 : mg "_law_moments" = some (.ref (He.ga K "_law_moments")) := He.glo_ok X G (cd.fact 38 (f := .glo "_law_moments") rfl)
  have b38 := F38.binds (ps := ["_law_room_here", "_law_way"]) fun _ _ _ _ _ _ us hl => match us, hl with | [_, _], _ => rfl
  obtain ⟨fd39, D39⟩ := cd.def_ 39 (d := hd_law_ring_moments) rfl
  have F39 : Fun K "_law_ring_moments" "_law_ring_moments" s_law_ring_moments (He.ga K "_law_ring_moments") fd39 := fun_of_D D39
  have g39 : mg "_law_ring_moments" = some (.ref (He.ga K "_law_ring_moments")) := He.glo_ok X G (cd.fact 39 (f := .glo "_law_ring_moments") rfl)
  have b39 := F39.binds (ps := ["_law_room_here", "_law_way"]) fun _ _ _ _ _ _ us hl => match us, hl with | [_, _], _ => rfl
  obtain ⟨fd40, D40⟩ := cd.def_ 40 (d := hd_law_held_up) rfl
  have F40 : Fun K "_law_held_up" "_law_held_up" s_law_held_up (He.ga K "_law_held_up") fd40 := fun_of_D D40
  have g40 : mg "_law_held_up" = some (.ref (He.ga K "_law_held_up")) := He.glo_ok X G (cd.fact 40 (f := .glo "_law_held_up") rfl)
  have b40 := F40.binds (ps := ["_law_room_here", "_law_way", "_law_begins"]) fun _ _ _ _ _ _ us hl => match us, hl with | [_, _, _], _ => rfl
  obtain ⟨fd41, D41⟩ := cd.def_ 41 (d := hd_law_held_down) rfl
  have F41 : Fun K "_law_held_down" "_law_held_down" s_law_held_down (He.ga K "_law_held_down") fd41 := fun_of_D D41
  have g41 : mg "_law_held_down" = some (.ref (He.ga K "_law_held_down")) := He.glo_ok X G (cd.fact 41 (f := .glo "_law_held_down") rfl)
  have b41 := F41.binds (ps := ["_law_fraction", "_law_numbers", "_law_begins"]) fun _ _ _ _ _ _ us hl => match us, hl with | [_, _, _], _ => rfl
  obtain ⟨fd42, D42⟩ := cd.def_ 42 (d := hd_law) rfl
  have F42 : Fun K "law" "law" s_law (He.ga K "law") fd42 := fun_of_D D42
  have g42 : mg "law" = some (.ref (He.ga K "law")) := He.glo_ok X G (cd.fact 42 (f := .glo "law") rfl)
  have ex := c.more
  unfold hEx at ex
  simp only [Bool.and_eq_true] at ex
  obtain ⟨ex0, ex1⟩ := ex
  have T : Top K mg := ⟨⟨_, fd0, F0, b0, g0⟩, ⟨_, fd1, F1, b1, g1⟩, ⟨_, fd2, F2, b2, g2⟩, ⟨_, fd3, F3, b3, g3⟩, ⟨_, fd4, F4, b4, g4⟩, ⟨_, fd5, F5, b5, g5⟩, ⟨_, fd6, F6, b6, g6⟩, ⟨_, fd7, F7, b7, g7⟩, ⟨_, fd8, F8, b8, g8⟩, ⟨_, fd9, F9, b9, g9⟩, ⟨_, fd10, F10, b10, g10⟩, ⟨_, fd11, F11, b11, g11⟩, ⟨_, fd12, F12, b12, g12⟩, ⟨_, fd13, F13, b13, g13⟩, ⟨_, fd14, F14, b14, g14⟩, ⟨_, fd15, F15, b15, g15⟩, ⟨_, fd16, F16, b16, g16⟩, ⟨_, fd17, F17, b17, g17⟩, ⟨_, fd18, F18, b18, g18⟩, ⟨_, fd19, F19, b19, g19⟩, ⟨_, fd20, F20, b20, g20⟩, ⟨_, fd21, F21, b21, g21⟩, ⟨_, fd22, F22, b22, g22⟩, ⟨_, fd23, F23, b23, g23⟩, ⟨_, fd24, F24, b24, g24⟩, ⟨_, fd25, F25, b25, g25⟩, ⟨_, fd26, F26, b26, g26⟩, ⟨_, fd27, F27, b27, g27⟩, ⟨_, fd28, F28, b28, g28⟩, ⟨_, fd29, F29, b29, g29⟩, ⟨_, fd30, F30, b30, g30⟩, ⟨_, fd31, F31, b31, g31⟩, ⟨_, fd32, F32, b32, g32⟩, ⟨_, fd33, F33, b33, g33⟩, ⟨_, fd34, F34, b34, g34⟩, ⟨_, fd35, F35, b35, g35⟩, ⟨_, fd36, F36, b36, g36⟩, ⟨_, fd37, F37, b37, g37⟩, ⟨_, fd38, F38, b38, g38⟩, ⟨_, fd39, F39, b39, g39⟩, ⟨_, fd40, F40, b40, g40⟩, ⟨_, fd41, F41, b41, g41⟩, He.free_ok X G (cd.fact 43 (f := .free "any") rfl), He.free_ok X G (cd.fact 44 (f := .free "enumerate") rfl), He.free_ok X G (cd.fact 45 (f := .free "int") rfl), He.free_ok X G (cd.fact 46 (f := .free "len") rfl), He.free_ok X G (cd.fact 47 (f := .free "list") rfl), He.free_ok X G (cd.fact 48 (f := .free "max") rfl), He.free_ok X G (cd.fact 49 (f := .free "min") rfl), He.free_ok X G (cd.fact 50 (f := .free "range") rfl), He.free_ok X G (cd.fact 51 (f := .free "sum") rfl), He.free_ok X G (cd.fact 52 (f := .free "tuple") rfl), He.free_ok X G (cd.fact 53 (f := .free "zip") rfl), ⟨_, He.glo_ok X G (cd.fact 54 (f := .glo "IN_RULE") rfl), fun H => He.tupB_ok ex0 H⟩, ⟨_, He.glo_ok X G (cd.fact 55 (f := .glo "OUT_RULE") rfl), fun H => He.tupB_ok ex1 H⟩⟩
  have e := hfa.symm.trans g42
  cases e
  have law_b : ∀ (s : Shared) (v : Value), BindsTo s fd42 ⟨[v], []⟩ [("_law_script", v)] := fun s v => by
    obtain ⟨_, _, _, _, _, _, _, _, _, rfl, _, _⟩ := F42.ex
    exact .of_eq rfl
  refine ⟨fd42, [He.cT K ("beat_papers", none)], sp_law K (He.cT K ("beat_papers", none)).2, fun p hp => ?_, fun p hp => ?_, fun p hp => ?_, law_b, fun H a ns hl _ hT hS => ⟨a, ns, rfl, hS, hl, (fun p hp => by rw [List.mem_singleton.mp hp]; exact LamX.TabS.nil (hT _ (List.mem_cons_self ..))), fun _ => rfl⟩, fun base _ _ TB => ?_⟩
  · have hin : ∀ p ∈ [He.cT K ("beat_papers", none)], ∃ q ∈ hTf, p = He.cT K q := fun p hp => by
      rcases List.mem_cons.mp hp with rfl | hp
      · exact ⟨_, List.mem_cons_self .., rfl⟩
      cases hp
    obtain ⟨q, hq, rfl⟩ := hin p hp
    exact c.empty _ hq
  · have hin : ∀ p ∈ [He.cT K ("beat_papers", none)], ∃ q ∈ hTf, p = He.cT K q := fun p hp => by
      rcases List.mem_cons.mp hp with rfl | hp
      · exact ⟨_, List.mem_cons_self .., rfl⟩
      cases hp
    obtain ⟨q, hq, rfl⟩ := hin p hp
    exact c.out _ hq
  · have hin : ∀ p ∈ [He.cT K ("beat_papers", none)], ∃ q ∈ hTf, p = He.cT K q := fun p hp => by
      rcases List.mem_cons.mp hp with rfl | hp
      · exact ⟨_, List.mem_cons_self .., rfl⟩
      cases hp
    obtain ⟨q, hq, rfl⟩ := hin p hp
    exact PySem.W.codeHd_of_K X (c.hd _ hq)
  have TB0 := TB _ (List.mem_cons_self ..)
  have TC0 := TB0
  haveI : TabL K mg base _ _ := ⟨TC0, fun f fd F m => by
    have e := m.symm.trans g17
    cases e
    obtain ⟨_, _, _, _, _, _, cdv, _, _, rfl, lk, ci⟩ := F.ex
    obtain ⟨c0, rfl⟩ := He.codeIn_ref ci
    exact congrArg Value.ref (He.codeOf_eq (p := ("beat_papers", none)) lk rfl).symm⟩
  exact ok_law F42 T
end Mine
open PySem PySem.W PySem.Calls PyProof.Rows
set_option maxRecDepth 100000 in
set_option maxHeartbeats 0 in
theorem PySem.Challenge.cw_beltshift_k67_whole_beat_and_works_holds : PySem.Challenge.rw_beltshift_k67_whole_beat_and_works.Holds := by
  w_on; o_law
  refine HandSHeadRun.head_any (r := Mine.hR) (q := view Mine.hR.prog [52]) (H := Mine.hk) (ob := Mine.hOb) (M := 40000) (loose := Mine.hNames) (d := HandSHeadRun.topDef Mine.hR.prog 52) (kwd := []) Mine.hOb_eq (by kernel_rfl) (fun s => by kernel_rfl) Mine.hRun (by kernel_rfl) (by kernel_rfl) (by kernel_rfl) (by rfl) (by first | assumption | decide +kernel) (by decide +kernel) ⟨rfl, rfl, rfl, rfl, rfl, by decide +kernel⟩ ?hw ?hc
  case hw => w_witness2
  case hc =>
    refine LamX.walk_ofTsE (l := PySem.Challenge.rw_beltshift_k67_whole_beat_and_works) (n := 63) (k := 7) (x := "_law_script") (CX := fun _ => L2.CX0) rfl (by decide) (by kernel_rfl) ⟨rfl, by decide, by decide⟩ ?F (fun _ _ _ _ _ z => z)
    intro w mg fa h Y G hmg0
    obtain ⟨K, KX, c⟩ := Y
    have hmg : mg ("law" : PySem.Str) = some (.ref fa) := by
      have e : (HandSHeadRun.topDef Mine.hR.prog 52).name = ("law" : PySem.Str) := by kernel_rfl
      rw [← e]
      exact hmg0
    exact ⟨K, KX, Mine.all_mkX KX G hmg c⟩
