import PyProof.Rows.All
import HandS.TupMul
import Wide.All
import OpenK.AllK
import Wide.FinOn
import HandS.ForMost
import HandS.Wide
import HandS.Style
import HandS.IsInst
import HandS.TupAny
import HandS.NoneIn
import HandS.SetFor
import HandS.Conv
import HandS.Zip
import HandS.SortKw
import HandS.Deep
import KE.DataMinMax
import KE.GoesMore
import KE.KDictZip
import KE.GoesZip
import KE.GoesEnum
import HandS.AnyAll
import HandS.Words
import HandS.EndTab
import HandS.Lambda
import KE.KLam
import KE.DataMinKey
import HandS.HeadWalk
import HandS.Defaults
import HandS.Head0
import HandS.Head1
import HandS.Head2
import HandS.HeadEnd
import HandS.HeadHook1
import HandS.HeadHook2
import HandS.HeadHook3
import HandS.HeadHook4
import KE.KStateDown
import KE.KIsAll
import KE.KNestM
import PyProof.GenCompD
import PyProof.WalksMore
import PySem.Challenge.RW_beltshift_k31_whole_ways_of_rooms_otherw
set_option Elab.async false
set_option linter.all false
set_option maxRecDepth 100000
namespace Mine
open PySem PyProof.Rows L2
def topS (i : Nat) : Stmt := PySem.Challenge.pw_beltshift_k31_whole_ways_of_rooms_otherw.main.body.getD i (.Pass ⟨0, 0, 0, 0⟩)
abbrev s_work_order : Stmt := topS 1
abbrev N_work_order : List Str := ["room", "hands", "belts", "loose", "giver", "taker", "things", "owed", "left", "order", "ready", "hand"]
theorem sc_work_order : FnScope N_work_order ["room"] (defScope s_work_order) := ⟨rfl, rfl, rfl, by decide +kernel, rfl, by decide +kernel, by decide +kernel⟩
abbrev s_made_by : Stmt := topS 3
abbrev N_made_by : List Str := ["rule", "things", "word"]
theorem sc_made_by : FnScope N_made_by ["rule", "things"] (defScope s_made_by) := ⟨rfl, rfl, rfl, by decide +kernel, rfl, by decide +kernel, by decide +kernel⟩
abbrev s_made_of_two : Stmt := topS 4
abbrev N_made_of_two : List Str := ["word", "one", "other"]
theorem sc_made_of_two : FnScope N_made_of_two ["word", "one", "other"] (defScope s_made_of_two) := ⟨rfl, rfl, rfl, by decide +kernel, rfl, by decide +kernel, by decide +kernel⟩
abbrev s_comings : Stmt := topS 7
abbrev N_comings : List Str := ["room", "hand", "number", "belt"]
theorem sc_comings : FnScope N_comings ["room", "hand"] (defScope s_comings) := ⟨rfl, rfl, rfl, by decide +kernel, rfl, by decide +kernel, by decide +kernel⟩
abbrev s_doors_in : Stmt := topS 8
abbrev N_doors_in : List Str := ["room", "number", "hand"]
theorem sc_doors_in : FnScope N_doors_in ["room"] (defScope s_doors_in) := ⟨rfl, rfl, rfl, by decide +kernel, rfl, by decide +kernel, by decide +kernel⟩
abbrev s_trays_on : Stmt := topS 10
abbrev N_trays_on : List Str := ["room", "way", "number"]
theorem sc_trays_on : FnScope N_trays_on ["room", "way"] (defScope s_trays_on) := ⟨rfl, rfl, rfl, by decide +kernel, rfl, by decide +kernel, by decide +kernel⟩
abbrev s_moments_on : Stmt := topS 11
abbrev N_moments_on : List Str := ["room", "way", "hands", "belts", "first", "numbers", "number"]
theorem sc_moments_on : FnScope N_moments_on ["room", "way"] (defScope s_moments_on) := ⟨rfl, rfl, rfl, by decide +kernel, rfl, by decide +kernel, by decide +kernel⟩
abbrev s_time_of : Stmt := topS 12
abbrev N_time_of : List Str := ["room", "way"]
theorem sc_time_of : FnScope N_time_of ["room"] (defScope s_time_of) := ⟨rfl, rfl, rfl, by decide +kernel, rfl, by decide +kernel, by decide +kernel⟩
abbrev s_long_way : Stmt := topS 13
abbrev N_long_way : List Str := ["room", "sums", "last", "end"]
theorem sc_long_way : FnScope N_long_way ["room"] (defScope s_long_way) := ⟨rfl, rfl, rfl, by decide +kernel, rfl, by decide +kernel, by decide +kernel⟩
abbrev s_long_sums : Stmt := topS 14
abbrev N_long_sums : List Str := ["room", "hands", "belts", "sums", "last", "hand", "number", "giver", "taker", "things"]
theorem sc_long_sums : FnScope N_long_sums ["room"] (defScope s_long_sums) := ⟨rfl, rfl, rfl, by decide +kernel, rfl, by decide +kernel, by decide +kernel⟩
abbrev s_way_back : Stmt := topS 15
abbrev N_way_back : List Str := ["room", "end", "last", "numbers", "hand"]
theorem sc_way_back : FnScope N_way_back ["room", "end", "last"] (defScope s_way_back) := ⟨rfl, rfl, rfl, by decide +kernel, rfl, by decide +kernel, by decide +kernel⟩
abbrev s_least_between : Stmt := topS 16
abbrev N_least_between : List Str := ["room", "one", "other", "costs", "last", "trays", "less"]
theorem sc_least_between : FnScope N_least_between ["room", "one", "other"] (defScope s_least_between) := ⟨rfl, rfl, rfl, by decide +kernel, rfl, by decide +kernel, by decide +kernel⟩
abbrev s_least_costs : Stmt := topS 17
abbrev N_least_costs : List Str := ["room", "one", "hands", "belts", "costs", "last", "changed", "number", "giver", "taker", "things", "trays", "less", "cost"]
theorem sc_least_costs : FnScope N_least_costs ["room", "one"] (defScope s_least_costs) := ⟨rfl, rfl, rfl, by decide +kernel, rfl, by decide +kernel, by decide +kernel⟩
abbrev s_worked : Stmt := topS 19
abbrev N_worked : List Str := ["room", "rows", "plan", "stands", "told", "things", "made"]
theorem sc_worked : FnScope N_worked ["room", "rows"] (defScope s_worked) := ⟨rfl, rfl, rfl, by decide +kernel, rfl, by decide +kernel, by decide +kernel⟩
abbrev s_standing : Stmt := topS 20
abbrev N_standing : List Str := ["room", "rows", "stands", "made"]
theorem sc_standing : FnScope N_standing ["room", "rows"] (defScope s_standing) := ⟨rfl, rfl, rfl, by decide +kernel, rfl, by decide +kernel, by decide +kernel⟩
abbrev s_work_plan : Stmt := topS 21
abbrev N_work_plan : List Str := ["room", "hand"]
theorem sc_work_plan : FnScope N_work_plan ["room"] (defScope s_work_plan) := ⟨rfl, rfl, rfl, by decide +kernel, rfl, by decide +kernel, by decide +kernel⟩
abbrev s_made_at_bell : Stmt := topS 22
abbrev N_made_at_bell : List Str := ["room", "plan", "things", "hands", "belts", "made", "hand", "coming", "taken", "number"]
theorem sc_made_at_bell : FnScope N_made_at_bell ["room", "plan", "things"] (defScope s_made_at_bell) := ⟨rfl, rfl, rfl, by decide +kernel, rfl, by decide +kernel, by decide +kernel⟩
abbrev s_thing_taken : Stmt := topS 23
abbrev N_thing_taken : List Str := ["belt", "made", "giver", "taker", "things"]
theorem sc_thing_taken : FnScope N_thing_taken ["belt", "made"] (defScope s_thing_taken) := ⟨rfl, rfl, rfl, by decide +kernel, rfl, by decide +kernel, by decide +kernel⟩
abbrev s_behind_bell : Stmt := topS 24
abbrev N_behind_bell : List Str := ["room", "made", "hands", "belts", "belt"]
theorem sc_behind_bell : FnScope N_behind_bell ["room", "made"] (defScope s_behind_bell) := ⟨rfl, rfl, rfl, by decide +kernel, rfl, by decide +kernel, by decide +kernel⟩
abbrev s_belt_behind_bell : Stmt := topS 25
abbrev N_belt_behind_bell : List Str := ["belt", "made", "giver", "taker", "things"]
theorem sc_belt_behind_bell : FnScope N_belt_behind_bell ["belt", "made"] (defScope s_belt_behind_bell) := ⟨rfl, rfl, rfl, by decide +kernel, rfl, by decide +kernel, by decide +kernel⟩
abbrev s_law_flow : Stmt := topS 27
abbrev N_law_flow : List Str := ["_law_script"]
theorem sc_law_flow : FnScope N_law_flow ["_law_script"] (defScope s_law_flow) := ⟨rfl, rfl, rfl, by decide +kernel, rfl, by decide +kernel, by decide +kernel⟩
abbrev s_law_pick : Stmt := topS 28
abbrev N_law_pick : List Str := ["_law_flow_here", "_law_many", "_law_cell", "_law_digit"]
theorem sc_law_pick : FnScope N_law_pick ["_law_flow_here", "_law_many"] (defScope s_law_pick) := ⟨rfl, rfl, rfl, by decide +kernel, rfl, by decide +kernel, by decide +kernel⟩
abbrev s_law_thing : Stmt := topS 29
abbrev N_law_thing : List Str := ["_law_flow_here"]
theorem sc_law_thing : FnScope N_law_thing ["_law_flow_here"] (defScope s_law_thing) := ⟨rfl, rfl, rfl, by decide +kernel, rfl, by decide +kernel, by decide +kernel⟩
abbrev s_law_needs : Stmt := topS 30
abbrev N_law_needs : List Str := ["_law_rule_here"]
theorem sc_law_needs : FnScope N_law_needs ["_law_rule_here"] (defScope s_law_needs) := ⟨rfl, rfl, rfl, by decide +kernel, rfl, by decide +kernel, by decide +kernel⟩
abbrev s_law_rule : Stmt := topS 31
abbrev N_law_rule : List Str := ["_law_flow_here", "_law_most", "_law_words", "_law_word"]
theorem sc_law_rule : FnScope N_law_rule ["_law_flow_here", "_law_most"] (defScope s_law_rule) := ⟨rfl, rfl, rfl, by decide +kernel, rfl, by decide +kernel, by decide +kernel⟩
abbrev s_law_shuffled : Stmt := topS 32
abbrev N_law_shuffled : List Str := ["_law_flow_here", "_law_some", "_law_left", "_law_k"]
theorem sc_law_shuffled : FnScope N_law_shuffled ["_law_flow_here", "_law_some"] (defScope s_law_shuffled) := ⟨rfl, rfl, rfl, by decide +kernel, rfl, by decide +kernel, by decide +kernel⟩
abbrev s_law_hands : Stmt := topS 33
abbrev N_law_hands : List Str := ["_law_flow_here", "_law_many", "_law_sorts", "_law_left", "_law_hands_here", "_law_k", "_law_sort", "_law_behind", "_law_other", "_law_rule_here"]
theorem sc_law_hands : FnScope N_law_hands ["_law_flow_here", "_law_many"] (defScope s_law_hands) := ⟨rfl, rfl, rfl, by decide +kernel, rfl, by decide +kernel, by decide +kernel⟩
abbrev s_law_room : Stmt := topS 34
abbrev N_law_room : List Str := ["_law_flow_here", "_law_most", "_law_hands_here", "_law_ranks", "_law_givers", "_law_k", "_law_takers", "_law_belts", "_law_to", "_law_one", "_law_trays"]
theorem sc_law_room : FnScope N_law_room ["_law_flow_here", "_law_most"] (defScope s_law_room) := ⟨rfl, rfl, rfl, by decide +kernel, rfl, by decide +kernel, by decide +kernel⟩
abbrev s_law_rows : Stmt := topS 35
abbrev N_law_rows : List Str := ["_law_flow_here", "_law_room_here", "_law_many", "_law_doors", "_law_hand", "_law_door", "_law_k"]
theorem sc_law_rows : FnScope N_law_rows ["_law_flow_here", "_law_room_here", "_law_many"] (defScope s_law_rows) := ⟨rfl, rfl, rfl, by decide +kernel, rfl, by decide +kernel, by decide +kernel⟩
abbrev s_law_turned_room : Stmt := topS 36
abbrev N_law_turned_room : List Str := ["_law_flow_here", "_law_room_here", "_law_hands_here", "_law_belts", "_law_order", "_law_queues", "_law_belt", "_law_k", "_law_found", "_law_turn", "_law_some", "_law_one", "_law_to", "_law_things"]
theorem sc_law_turned_room : FnScope N_law_turned_room ["_law_flow_here", "_law_room_here"] (defScope s_law_turned_room) := ⟨rfl, rfl, rfl, by decide +kernel, rfl, by decide +kernel, by decide +kernel⟩
abbrev s_law_walk : Stmt := topS 37
abbrev N_law_walk : List Str := ["_law_flow_here", "_law_room_here", "_law_most", "_law_hand", "_law_here", "_law_along", "_law_turn", "_law_some", "_law_b"]
theorem sc_law_walk : FnScope N_law_walk ["_law_flow_here", "_law_room_here", "_law_most"] (defScope s_law_walk) := ⟨rfl, rfl, rfl, by decide +kernel, rfl, by decide +kernel, by decide +kernel⟩
abbrev s_law_slower : Stmt := topS 38
abbrev N_law_slower : List Str := ["_law_room_here", "_law_times", "_law_hands_here", "_law_rule_here", "_law_moments"]
theorem sc_law_slower : FnScope N_law_slower ["_law_room_here", "_law_times"] (defScope s_law_slower) := ⟨rfl, rfl, rfl, by decide +kernel, rfl, by decide +kernel, by decide +kernel⟩
abbrev s_law_calm : Stmt := topS 39
abbrev N_law_calm : List Str := ["_law_room_here", "_law_times", "_law_rule_here", "_law_moments"]
theorem sc_law_calm : FnScope N_law_calm ["_law_room_here", "_law_times"] (defScope s_law_calm) := ⟨rfl, rfl, rfl, by decide +kernel, rfl, by decide +kernel, by decide +kernel⟩
abbrev s_law_same : Stmt := topS 40
abbrev N_law_same : List Str := ["_law_room_here", "_law_other", "_law_pairs", "_law_one", "_law_two"]
theorem sc_law_same : FnScope N_law_same ["_law_room_here", "_law_other", "_law_pairs"] (defScope s_law_same) := ⟨rfl, rfl, rfl, by decide +kernel, rfl, by decide +kernel, by decide +kernel⟩
abbrev s_law_times_right : Stmt := topS 41
abbrev N_law_times_right : List Str := ["_law_room_here", "_law_times", "_law_pairs", "_law_calm_here", "_law_slower_here", "_law_one", "_law_two", "_law_told", "_law_other"]
theorem sc_law_times_right : FnScope N_law_times_right ["_law_room_here", "_law_times", "_law_pairs"] (defScope s_law_times_right) := ⟨rfl, rfl, rfl, by decide +kernel, rfl, by decide +kernel, by decide +kernel⟩
abbrev s_law_tray_right : Stmt := topS 42
abbrev N_law_tray_right : List Str := ["_law_room_here", "_law_at", "_law_way", "_law_pairs", "_law_one", "_law_to", "_law_things", "_law_more", "_law_giver", "_law_taker", "_law_told", "_law_other", "_law_times", "_law_b"]
theorem sc_law_tray_right : FnScope N_law_tray_right ["_law_room_here", "_law_at", "_law_way", "_law_pairs"] (defScope s_law_tray_right) := ⟨rfl, rfl, rfl, by decide +kernel, rfl, by decide +kernel, by decide +kernel⟩
abbrev s_law : Stmt := topS 43
abbrev N_law : List Str := ["_law_script", "_law_flow_here", "_law_room_here", "_law_numbers", "_law_pairs", "_law_k", "_law_turned", "_law_order", "_law_one", "_law_two", "_law_rows_here", "_law_at"]
theorem sc_law : FnScope N_law ["_law_script"] (defScope s_law) := ⟨rfl, rfl, rfl, by decide +kernel, rfl, by decide +kernel, by decide +kernel⟩

/-- a def of the text stands, binds and is bound -/
def Dd (K : PySem.W.Frag) (mg : Str → Option Value) (name : Str) (st : Stmt) (ps : List Str) : Prop :=
  ∃ (f : Addr) (fd : FuncData), Fun K name name st f fd ∧ Binds K fd ps [] ∧ mg name = some (.ref f)
structure Top (K : PySem.W.Frag) (mg : Str → Option Value) : Prop where
  d_work_order : Dd K mg "work_order" s_work_order ["room"]
  d_made_by : Dd K mg "made_by" s_made_by ["rule", "things"]
  d_made_of_two : Dd K mg "made_of_two" s_made_of_two ["word", "one", "other"]
  d_comings : Dd K mg "comings" s_comings ["room", "hand"]
  d_doors_in : Dd K mg "doors_in" s_doors_in ["room"]
  d_trays_on : Dd K mg "trays_on" s_trays_on ["room", "way"]
  d_moments_on : Dd K mg "moments_on" s_moments_on ["room", "way"]
  d_time_of : Dd K mg "time_of" s_time_of ["room"]
  d_long_way : Dd K mg "long_way" s_long_way ["room"]
  d_long_sums : Dd K mg "long_sums" s_long_sums ["room"]
  d_way_back : Dd K mg "way_back" s_way_back ["room", "end", "last"]
  d_least_between : Dd K mg "least_between" s_least_between ["room", "one", "other"]
  d_least_costs : Dd K mg "least_costs" s_least_costs ["room", "one"]
  d_worked : Dd K mg "worked" s_worked ["room", "rows"]
  d_standing : Dd K mg "standing" s_standing ["room", "rows"]
  d_work_plan : Dd K mg "work_plan" s_work_plan ["room"]
  d_made_at_bell : Dd K mg "made_at_bell" s_made_at_bell ["room", "plan", "things"]
  d_thing_taken : Dd K mg "thing_taken" s_thing_taken ["belt", "made"]
  d_behind_bell : Dd K mg "behind_bell" s_behind_bell ["room", "made"]
  d_belt_behind_bell : Dd K mg "belt_behind_bell" s_belt_behind_bell ["belt", "made"]
  d_law_flow : Dd K mg "_law_flow" s_law_flow ["_law_script"]
  d_law_pick : Dd K mg "_law_pick" s_law_pick ["_law_flow_here", "_law_many"]
  d_law_thing : Dd K mg "_law_thing" s_law_thing ["_law_flow_here"]
  d_law_needs : Dd K mg "_law_needs" s_law_needs ["_law_rule_here"]
  d_law_rule : Dd K mg "_law_rule" s_law_rule ["_law_flow_here", "_law_most"]
  d_law_shuffled : Dd K mg "_law_shuffled" s_law_shuffled ["_law_flow_here", "_law_some"]
  d_law_hands : Dd K mg "_law_hands" s_law_hands ["_law_flow_here", "_law_many"]
  d_law_room : Dd K mg "_law_room" s_law_room ["_law_flow_here", "_law_most"]
  d_law_rows : Dd K mg "_law_rows" s_law_rows ["_law_flow_here", "_law_room_here", "_law_many"]
  d_law_turned_room : Dd K mg "_law_turned_room" s_law_turned_room ["_law_flow_here", "_law_room_here"]
  d_law_walk : Dd K mg "_law_walk" s_law_walk ["_law_flow_here", "_law_room_here", "_law_most"]
  d_law_slower : Dd K mg "_law_slower" s_law_slower ["_law_room_here", "_law_times"]
  d_law_calm : Dd K mg "_law_calm" s_law_calm ["_law_room_here", "_law_times"]
  d_law_same : Dd K mg "_law_same" s_law_same ["_law_room_here", "_law_other", "_law_pairs"]
  d_law_times_right : Dd K mg "_law_times_right" s_law_times_right ["_law_room_here", "_law_times", "_law_pairs"]
  d_law_tray_right : Dd K mg "_law_tray_right" s_law_tray_right ["_law_room_here", "_law_at", "_law_way", "_law_pairs"]
  m_all : mg "all" = none
  m_dict : mg "dict" = none
  m_enumerate : mg "enumerate" = none
  m_int : mg "int" = none
  m_len : mg "len" = none
  m_list : mg "list" = none
  m_max : mg "max" = none
  m_min : mg "min" = none
  m_range : mg "range" = none
  m_sum : mg "sum" = none
  m_tuple : mg "tuple" = none
  m_zip : mg "zip" = none
  x_in : ∃ aI : Addr, mg "IN_RULE" = some (.ref aI) ∧ ∀ H : Hp, SqT K H aI [.str "in"]

/-! ### heaps -/
def But (f : Addr) (H H' : Hp) : Prop := ∀ b o, H b = some o → b ≠ f → H' b = some o
theorem But.refl {f : Addr} {H : Hp} : But f H H := fun _ _ e _ => e
theorem But.trans {f : Addr} {H H1 H2 : Hp} (a : But f H H1) (b : But f H1 H2) : But f H H2 := fun x o e n => b x o (a x o e n) n
theorem But.upd {f : Addr} {H H1 : Hp} {o : HO} (a : But f H H1) : But f H (upd H1 f o) := fun x u e n => by rw [upd_ne n]; exact a x u e n
theorem But.new {f p : Addr} {H H1 : Hp} {o : HO} (a : But f H H1) (h : H1 p = none) : But f H (L2.upd H1 p o) := fun x u e n => by
  have e1 := a x u e n
  rw [upd_ne (ne_of_none e1 h)]
  exact e1
theorem same_new {H : Hp} {p : Addr} {o : HO} (h : H p = none) : Same H (upd H p o) := fun b u q => by rw [upd_ne (ne_of_none q h)]; exact q
theorem But.same {f : Addr} {H H1 H2 : Hp} (a : But f H H1) (b : Same H1 H2) : But f H H2 := fun x o e n => b x o (a x o e n)
theorem But.seqT {K : PySem.W.Frag} {f a : Addr} {H H1 : Hp} {xs : List V} (b : But f H H1) (h : SqT K H a xs) (n : a ≠ f) : SqT K H1 a xs := by
  rcases h with h | h
  · left
    rcases h with h | ⟨o, h⟩
    · exact .inl (b _ _ h n)
    · exact .inr ⟨o, b _ _ h n⟩
  · exact .inr h
/-- a comprehension without a test -/
theorem yes_in {σ : L2.St} {H : Hp} {A B : Hp → Prop} (h : A H) : tYes σ H (fun b H3 => if b = true then A H3 else B H3) := by
  show (if true = true then A H else B H)
  rw [if_pos rfl]
  exact h
/-! ### the draw -/
/-- the list of the law's draws at f, the script's copy at c -/
def Flow (H : Hp) (f c : Addr) : Prop := ∃ (ns : List Int) (i p q r : Int), H f = some (.lst [.ref c, .int i, .int p, .int q, .int r]) ∧ H c = some (.lst (ns.map V.int)) ∧ 0 ≤ i ∧ 0 ≤ p ∧ 0 ≤ q ∧ q < 2147483647
theorem Flow.new {H : Hp} {f c p : Addr} {o : HO} (h : Flow H f c) (n : H p = none) : Flow (upd H p o) f c := by
  obtain ⟨ns, i, a, q, r, e1, e2, e⟩ := h
  exact ⟨ns, i, a, q, r, same_new n _ _ e1, same_new n _ _ e2, e⟩
theorem Flow.ne {H : Hp} {f c p : Addr} (h : Flow H f c) (n : H p = none) : p ≠ f := by
  obtain ⟨ns, i, a, q, r, e1, _⟩ := h
  exact fun e => by rw [e, e1] at n; cases n
theorem Flow.nec {H : Hp} {f c p : Addr} (h : Flow H f c) (n : H p = none) : p ≠ c := by
  obtain ⟨ns, i, a, q, r, _, e1, _⟩ := h
  exact fun e => by rw [e, e1] at n; cases n
theorem Flow.lst {H : Hp} {f c p : Addr} {o : HO} (h : Flow H f c) (n1 : p ≠ f) (n2 : p ≠ c) : Flow (upd H p o) f c := by
  obtain ⟨ns, i, a, q, r, e1, e2, e⟩ := h
  exact ⟨ns, i, a, q, r, by rw [upd_ne n1.symm]; exact e1, by rw [upd_ne n2.symm]; exact e2, e⟩
theorem Flow.same {H H' : Hp} {f c : Addr} (h : Flow H f c) (s : Same H H') : Flow H' f c := by
  obtain ⟨ns, i, a, q, r, e1, e2, e⟩ := h
  exact ⟨ns, i, a, q, r, s _ _ e1, s _ _ e2, e⟩
theorem Flow.tup {H : Hp} {f c p : Addr} {xs : List V} (h : Flow H f c) (e : H p = some (.tup xs)) : p ≠ f := by
  obtain ⟨ns, i, a, q, r, e1, _⟩ := h
  exact ne_of e e1 (by intro z; cases z)
theorem at_ints {ns : List Int} {i : Int} (h0 : 0 ≤ i) (h1 : i < (ns.length : Int)) : ∃ v : Int, atI (ns.map V.int) i = some (.int v) := by
  have hk : i.toNat < ns.length := by omega
  have ek : i = ((i.toNat : Nat) : Int) := by omega
  have q : atI (ns.map V.int) ((i.toNat : Nat) : Int) = some (.int ns[i.toNat]) := atI_nat (by rw [List.getElem?_map, List.getElem?_eq_getElem hk]; rfl)
  rw [← ek] at q
  exact ⟨_, q⟩
/-- a block by less than it asks -/
theorem PSs.to {X : Cx} {ss : List Stmt} {t : TS} (h : PSs X ss t) (u : TS) (k : ∀ D σ H, u D σ H → t D σ H) : PSs X ss u := ⟨fun pins s σ H D I q => h.run pins s σ H D I (k D σ H q)⟩
theorem if_bl {b : Bool} {A B : Prop} (h1 : b = true → A) (h2 : b = false → B) : if b = true then A else B := by
  cases b
  · rw [if_neg Bool.false_ne_true]; exact h2 rfl
  · rw [if_pos rfl]; exact h1 rfl
/-! ### lists, two by two -/
inductive All2 {α β : Type} (R : α → β → Prop) : List α → List β → Prop
  | nil : All2 R [] []
  | cons {a b as bs} : R a b → All2 R as bs → All2 R (a :: as) (b :: bs)
theorem All2.imp {α β : Type} {R S : α → β → Prop} (h : ∀ a b, R a b → S a b) : ∀ {as bs}, All2 R as bs → All2 S as bs
  | _, _, .nil => .nil
  | _, _, .cons a b => .cons (h _ _ a) (All2.imp h b)
theorem All2.length {α β : Type} {R : α → β → Prop} : ∀ {as bs}, All2 R as bs → as.length = bs.length
  | _, _, .nil => rfl
  | _, _, .cons _ b => congrArg (· + 1) (All2.length b)
theorem All2.snoc {α β : Type} {R : α → β → Prop} {a b} (r : R a b) : ∀ {as bs}, All2 R as bs → All2 R (as ++ [a]) (bs ++ [b])
  | _, _, .nil => .cons r .nil
  | _, _, .cons h t => .cons h (All2.snoc r t)
theorem All2.get {α β : Type} {R : α → β → Prop} {as : List α} {bs : List β} (h : All2 R as bs) : ∀ {i : Nat} {b : β}, bs[i]? = some b → ∃ a, as[i]? = some a ∧ R a b := by
  induction h with
  | nil => intro i b e; cases e
  | cons r t ih =>
    intro i b e
    cases i with
    | zero => cases e; exact ⟨_, rfl, r⟩
    | succ i => exact ih e
theorem All2.getL {α β : Type} {R : α → β → Prop} {as : List α} {bs : List β} (h : All2 R as bs) : ∀ {i : Nat} {a : α}, as[i]? = some a → ∃ b, bs[i]? = some b ∧ R a b := by
  induction h with
  | nil => intro i b e; cases e
  | cons r t ih =>
    intro i b e
    cases i with
    | zero => cases e; exact ⟨_, rfl, r⟩
    | succ i => exact ih e
/-! ### tuples stay -/
def TK (H H' : Hp) : Prop := ∀ b xs, H b = some (.tup xs) → H' b = some (.tup xs)
theorem TK.refl {H : Hp} : TK H H := fun _ _ e => e
theorem TK.trans {H H1 H2 : Hp} (a : TK H H1) (b : TK H1 H2) : TK H H2 := fun x xs e => b x xs (a x xs e)
theorem TK.same {H H' : Hp} (s : Same H H') : TK H H' := fun x xs e => s _ _ e
theorem TK.new {H : Hp} {p : Addr} {o : HO} (n : H p = none) : TK H (upd H p o) := fun x xs e => same_new n _ _ e
theorem TK.lst {H : Hp} {p : Addr} {xs ys : List V} (h : H p = some (.lst xs)) : TK H (upd H p (.lst ys)) := fun x zs e => by
  rw [upd_ne (ne_of e h (by intro z; cases z))]
  exact e
theorem TK.but {H H' : Hp} {f c : Addr} (F : Flow H f c) (b : But f H H') : TK H H' := fun x xs e => b _ _ e (F.tup e)
theorem same_none {H H' : Hp} {p : Addr} (s : Same H H') (n : H' p = none) : H p = none := by
  cases e : H p with
  | none => rfl
  | some o => rw [s _ _ e] at n; cases n
theorem But.none {f p : Addr} {H H' : Hp} (b : But f H H') (n : H' p = Option.none) (h : p ≠ f) : H p = Option.none := by
  cases e : H p with
  | none => rfl
  | some o => rw [b _ _ e h] at n; cases n
theorem But.of {f : Addr} {H H' : Hp} (s : Same H H') : But f H H' := fun _ _ e _ => s _ _ e
/-- a list that was not there is written: what was stays -/
theorem But.own {f p : Addr} {H H1 : Hp} {o : HO} (a : But f H H1) (h : H p = Option.none) : But f H (L2.upd H1 p o) := fun x u e n => by
  rw [upd_ne (ne_of_none e h)]
  exact a x u e n
theorem Same.own {p : Addr} {H H1 : Hp} {o : HO} (a : Same H H1) (h : H p = Option.none) : Same H (L2.upd H1 p o) := fun x u e => by
  rw [upd_ne (ne_of_none e h)]
  exact a x u e
/-! ### loops over any iterator -/
theorem for_it {J : It} {n : Nat} {g : TG} {tb : TS} {D : Ends} {σ : L2.St} {H : Hp} (Pv : Nat → L2.St → Hp → Prop) (h0 : Pv 0 σ H) (go : ∀ i σ H, i < n → Pv i σ H → J.go i H) (st : ∀ σ H, Pv n σ H → J.stop n H)
    (hs : ∀ i x σ H H', i < n → Pv i σ H → J.yld i H x H' → g x σ H' fun σ2 H2 => tb { D with nx := Pv (i + 1), ct := Pv (i + 1), bk := D.nx } σ2 H2) (hd : ∀ σ H, Pv n σ H → D.nx σ H) :
    ∃ W : Nat → Nat → L2.St → Hp → Prop, (∃ m, W 0 m σ H) ∧ ∀ i m σ H, W i m σ H →
      (J.stop i H ∧ D.nx σ H) ∨ (J.go i H ∧ ∃ N : L2.St → Hp → Prop, (∀ σ' H', N σ' H' → ∃ m', m' < m ∧ W (i + 1) m' σ' H') ∧ ∀ x H', J.yld i H x H' → g x σ H' fun σ2 H2 => tb { D with nx := N, ct := N, bk := D.nx } σ2 H2) := by
  refine ⟨fun i m σ H => i + m = n ∧ Pv i σ H, ⟨n, by omega, h0⟩, fun i m σ H ⟨e, p⟩ => ?_⟩
  by_cases k : i < n
  · exact .inr ⟨go i σ H k p, Pv (i + 1), fun σ' H' p' => ⟨m - 1, by omega, by omega, p'⟩, fun x H' y => hs i x σ H H' k p y⟩
  · have z : i = n := by omega
    subst z
    exact .inl ⟨st σ H p, hd σ H p⟩
theorem lc_it {J : It} {n : Nat} {g : TG} {tt : TT} {te : TE} {vs : List Nat} {σ : L2.St} {H1 : Hp} {D : Addr} {Qd : Hp → Prop} (Pv : Nat → Hp → Prop) (h0 : Pv 0 (upd H1 D (.lst []))) (go : ∀ i H, i < n → Pv i H → J.go i H) (st : ∀ H, Pv n H → J.stop n H)
    (hs : ∀ i x H H', i < n → Pv i H → J.yld i H x H' → g x (wipe σ vs) H' fun σ2 H2 => wipe σ2 vs = wipe σ vs ∧ tt σ2 H2 fun b H3 =>
      if b = true then te σ2 H3 fun y H4 => ∃ acc, H4 D = some (.lst acc) ∧ acc.length < sizeLine ∧ Pv (i + 1) (upd H4 D (.lst (acc ++ [y]))) else Pv (i + 1) H3) (hd : ∀ H, Pv n H → Qd H) :
    ∃ W : Nat → Nat → Hp → Prop, (∃ m, W 0 m (upd H1 D (.lst []))) ∧ ∀ i m H, W i m H →
      (J.stop i H ∧ Qd H) ∨ (J.go i H ∧ ∃ Nx : Hp → Prop, (∀ H', Nx H' → ∃ m', m' < m ∧ W (i + 1) m' H') ∧ ∀ x H', J.yld i H x H' → g x (wipe σ vs) H' fun σ2 H2 => wipe σ2 vs = wipe σ vs ∧ tt σ2 H2 fun b H3 =>
        if b = true then te σ2 H3 fun y H4 => ∃ acc, H4 D = some (.lst acc) ∧ acc.length < sizeLine ∧ Nx (upd H4 D (.lst (acc ++ [y]))) else Nx H3) := by
  refine ⟨fun i m H => i + m = n ∧ Pv i H, ⟨n, by omega, h0⟩, fun i m H ⟨e, p⟩ => ?_⟩
  by_cases k : i < n
  · exact .inr ⟨go i H k p, Pv (i + 1), fun H' p' => ⟨m - 1, by omega, by omega, p'⟩, fun x H' y => hs i x H H' k p y⟩
  · have z : i = n := by omega
    subst z
    exact .inl ⟨st H p, hd H p⟩
/-! ### tests -/
theorem if_str {x z : Str} {A B : Prop} (h1 : x = z → A) (h2 : x ≠ z → B) : if decide (V.str x = V.str z) = true then A else B :=
  if_bl (fun e => h1 (V.str.inj (of_decide_eq_true e))) (fun e => h2 (fun q => of_decide_eq_false e (congrArg V.str q)))
theorem inV_strs {x : Str} {zs : List Str} : inV (.str x) (zs.map V.str) = true ↔ x ∈ zs := by
  unfold inV
  induction zs with
  | nil => simp
  | cons z zs ih =>
    rw [List.map_cons, List.any_cons, Bool.or_eq_true, ih, List.mem_cons]
    constructor
    · rintro (h | h)
      · exact .inl (by simpa [eqV] using (show (z == x) = true from h) |> fun k => (eq_of_beq k).symm)
      · exact .inr h
    · rintro (h | h)
      · exact .inl (show (z == x) = true by rw [h]; exact beq_self_eq_true z)
      · exact .inr h
theorem if_in {x : Str} {zs : List Str} {A B : Prop} (h1 : x ∈ zs → A) (h2 : x ∉ zs → B) : if (if false = true then !inV (.str x) (zs.map V.str) else inV (.str x) (zs.map V.str)) = true then A else B := by
  have e : (if false = true then !inV (.str x) (zs.map V.str) else inV (.str x) (zs.map V.str)) = inV (.str x) (zs.map V.str) := if_neg Bool.false_ne_true
  rw [e]
  exact if_bl (fun c => h1 (inV_strs.mp c)) (fun c => h2 (fun k => by rw [inV_strs.mpr k] at c; cases c))
theorem same_seqT {K : PySem.W.Frag} {a : Addr} {H H1 : Hp} {xs : List V} (b : Same H H1) (h : SqT K H a xs) : SqT K H1 a xs := by
  rcases h with h | h
  · left
    rcases h with h | ⟨o, h⟩
    · exact .inl (b _ _ h)
    · exact .inr ⟨o, b _ _ h⟩
  · exact .inr h
theorem little {n : Nat} (h : n ≤ 1000) : n ≤ sizeLine := Nat.le_of_lt (small1000 h)
/-! ### xs[i] op= e -/
def rGetL (K : PySem.W.Frag) : V → V → Hp → VK → Prop := fun o i H Q => ∃ (p : Addr) (xs : List V) (j : Nat) (v : V), o = .ref p ∧ i = .int (j : Nat) ∧ SqL K H p xs ∧ xs[j]? = some v ∧ Q v H
theorem get_list {X : Cx} : PGet X (rGetL X.K) := by
  intro pins st σ H o i ov iv Q J ro ri asked
  obtain ⟨p, xs, j, v, rfl, rfl, hq, hj, now⟩ := asked
  cases ro
  obtain ⟨t, rfl⟩ := ri
  obtain ⟨its, r, pl, hz⟩ := J.list hq
  obtain ⟨u, eu, ru⟩ := r.get hj
  have n1 := (List.getElem?_eq_some_iff.mp hj).1
  have n2 := line63
  exact wpAny_getItem_list pl.isList (by omega) (by omega) (by simpa using eu) ⟨v, H, J, ru, now⟩
/-! ### the same rules, the written part named (so that they fit within comprehensions) -/
section
variable {X : Cx}
theorem ix_listK (K : PySem.W.Frag) (h : X.K = K) : IxR X (rIxL K) := by subst h; exact ix_list
theorem ix_tupK (K : PySem.W.Frag) (h : X.K = K) : IxR X (rIxT K) := by subst h; exact ix_tup
def rLenK (K : PySem.W.Frag) : List V → Hp → VK → Prop := fun xs H Q => ∃ (p : Addr) (ys : List V), xs = [.ref p] ∧ (SqL K H p ys ∨ SqT K H p ys) ∧ Q (.int (ys.length : Nat)) H
theorem call_len_seqK (K : PySem.W.Frag) (h : X.K = K) : CallR X (.builtin "len") (rLenK K) := by subst h; exact call_len_seq
def rListOfK (K : PySem.W.Frag) : List V → Hp → VK → Prop := fun xs H Q => ∃ (p : Addr) (ys : List V), xs = [.ref p] ∧ (SqL K H p ys ∨ SqT K H p ys) ∧ ∀ l, H l = none → Q (.ref l) (upd H l (.lst ys))
theorem call_list_ofK (K : PySem.W.Frag) (h : X.K = K) : CallR X (.type "list") (rListOfK K) := by subst h; exact call_list_of
def rTupOfK (K : PySem.W.Frag) : List V → Hp → VK → Prop := fun xs H Q => ∃ (p : Addr) (ys : List V), xs = [.ref p] ∧ ((SqL K H p ys ∧ ∀ l, H l = none → Q (.ref l) (upd H l (.tup ys))) ∨ (SqT K H p ys ∧ Q (.ref p) H))
theorem call_tuple_ofK (K : PySem.W.Frag) (h : X.K = K) : CallR X (.type "tuple") (rTupOfK K) := by subst h; exact call_tuple_of
theorem op_in_seqK (K : PySem.W.Frag) (h : X.K = K) : OpR X (compareOp .In) (rIn K false) := by subst h; exact op_in_seq
theorem op_notIn_seqK (K : PySem.W.Frag) (h : X.K = K) : OpR X (compareOp .NotIn) (rIn K true) := by subst h; exact op_notIn_seq
theorem sl_listK (K : PySem.W.Frag) (h : X.K = K) : SlR X (rSlL K) := by subst h; exact sl_list
theorem sl_tupAK (K : PySem.W.Frag) (h : X.K = K) : SlR X (rSlA K) := by subst h; exact sl_tupA
theorem op_eqDK (K : PySem.W.Frag) (h : X.K = K) (hu : X.A.units + 64 < cLine) : OpR X (compareOp .Eq) (rEqD K) := by subst h; exact op_eqD hu
theorem op_neDK (K : PySem.W.Frag) (h : X.K = K) (hu : X.A.units + 64 < cLine) : OpR X (compareOp .NotEq) (rNeD K) := by subst h; exact op_neD hu
theorem call_isiKK (K : PySem.W.Frag) (h : X.K = K) : CallR X (.builtin "isinstance") (rIsi K) := by subst h; exact call_isi
theorem cr_allK (K : PySem.W.Frag) (h : X.K = K) (hc : X.calm = true) : CallR X (.builtin "all") (rAll K) := by subst h; exact cr_all hc
theorem cr_anyK (K : PySem.W.Frag) (h : X.K = K) (hc : X.calm = true) : CallR X (.builtin "any") (rAny K) := by subst h; exact cr_any hc
theorem cr_minKK (K : PySem.W.Frag) (h : X.K = K) (hc : X.calm = true) : CallR X (.builtin "min") (rMin K) := by subst h; exact cr_min hc
theorem cr_maxKK (K : PySem.W.Frag) (h : X.K = K) (hc : X.calm = true) : CallR X (.builtin "max") (rMax K) := by subst h; exact cr_max hc
def tTruK (K : PySem.W.Frag) (ta : TE) : TT := fun σ H Q => ta σ H fun x H' => ∃ k, TruV K x H' k ∧ Q k H'
theorem pt_truthK (K : PySem.W.Frag) (h : X.K = K) {a : Expr} {ta : TE} (ha : PE X a ta) (he : ∀ whole, isTrue a X.env whole = (do let v ← whole; standAt a.pos; holding [v] (truthy v))) : PT X a (tTruK K ta) := by subst h; exact pt_truth ha he
theorem get_listK (K : PySem.W.Frag) (h : X.K = K) : PGet X (rGetL K) := by subst h; exact get_list
theorem pg_tupK (K : PySem.W.Frag) (h : X.K = K) {es : List Expr} {k n : Nat} {t : TGs} {pos : Pos} (hc : X.calm = true) (g : PGs X es t)
    (hn : (assignEach es X.env).length = n := by rfl) (hst : (assignEach es X.env).findIdx? (·.1) = none := by rfl) : PG X (.Tuple es k pos) (gTup K n t) := by subst h; exact pg_tup hc g hn hst
theorem pg_unlK (K : PySem.W.Frag) (h : X.K = K) {es : List Expr} {k n : Nat} {t : TGs} {pos : Pos} (hc : X.calm = true) (g : PGs X es t)
    (hn : (assignEach es X.env).length = n := by rfl) (hst : (assignEach es X.env).findIdx? (·.1) = none := by rfl) : PG X (.Tuple es k pos) (gUnl K n t) := by subst h; exact pg_unl hc g hn hst
theorem pi_listK (K : PySem.W.Frag) (h : X.K = K) {tg e : Expr} {te : TE} (he : PE X e te) : PI X tg e (iList K te) := by subst h; exact pi_list he
theorem pi_tupK (K : PySem.W.Frag) (h : X.K = K) {tg e : Expr} {te : TE} (he : PE X e te) : PI X tg e (iTup K te) := by subst h; exact pi_tup he
theorem pe_revLK (K : PySem.W.Frag) (h : X.K = K) {e : Expr} {te : TE} {k : Nat} {p1 p2 p3 pos : Pos} (he : PE X e te) : PE X (.Subscript e (.Slice none none (some (.UnaryOp .USub (.Constant (.int 1) k p1) p2)) p3) pos) (tRevL K te) := by subst h; exact pe_revL he
theorem pe_bmK (K : PySem.W.Frag) (h : X.K = K) {o e : Expr} {es : List Expr} {to : TE} {t : TA} {name : Str} {apos cpos : Pos} {T id : String} {r : V → List V → Hp → VK → Prop}
    (pa : PlainAttrs T) (slot : Slot T name id) (hty : typeOf (.builtin id) = pure (.type "method_descriptor")) (hm : MtR X id r) (ho : PE X o to) (ha : PA X (e :: es) t)
    (n1 : attributeBase o name X.env (eval o X.env) = eval o X.env := by rfl)
    (n2 : ((backTo cpos (starEach (e :: es) X.env)).all (fun x => !x.1) && (backToKw cpos (keywordEach [] X.env)).all (fun x => x.1.isSome) && decide ((e :: es).length + ([] : List Keyword).length + (if ([] : List Keyword).isEmpty then 0 else 1) < 30)) = true := by rfl)
    (n3 : (apos.endLine == cpos.line) = true := by rfl) (n4 : starEach (e :: es) X.env = (false, eval e X.env) :: starEach es X.env := by rfl) (n5 : (backTo cpos (starEach es X.env)).any (·.1) = false := by rfl) :
    PE X (.Call (.Attribute o name apos) (e :: es) [] cpos) (tBM K T r to t) := by subst h; exact pe_bm pa slot hty hm ho ha n1 n2 n3 n4 n5
theorem pe_bm0K (K : PySem.W.Frag) (h : X.K = K) {o : Expr} {to : TE} {name : Str} {apos cpos : Pos} {T id : String} {r : V → List V → Hp → VK → Prop}
    (pa : PlainAttrs T) (slot : Slot T name id) (hty : typeOf (.builtin id) = pure (.type "method_descriptor")) (hm : MtR X id r) (ho : PE X o to)
    (n1 : attributeBase o name X.env (eval o X.env) = eval o X.env := by rfl) (n3 : (apos.endLine == cpos.line) = true := by rfl) : PE X (.Call (.Attribute o name apos) [] [] cpos) (tBM0 K T r to) := by subst h; exact pe_bm0 pa slot hty hm ho n1 n3
theorem op_catAK (K : PySem.W.Frag) (h : X.K = K) : OpR X (binaryOp .Add) (rCatA K) := by subst h; exact op_catA
theorem call_isiTK (K : PySem.W.Frag) (h : X.K = K) : CallR X (.builtin "isinstance") (rIsiT K) := by subst h; exact call_isiT
theorem pi_zipAK (K : PySem.W.Frag) (h : X.K = K) {e e2 : Expr} {ta : TA} {p pos tpos : Pos} {elts : List Expr} {kk : Nat} (hg : Gl X "zip") (hm : X.mg "zip" = none) (ha : PA X [e, e2] ta)
    (hs : starEach [e, e2] X.env = (false, eval e X.env) :: starEach [e2] X.env := by rfl) (hpl : (backTo pos (starEach [e2] X.env)).any (·.1) = false := by rfl) :
    PI X (.Tuple elts kk tpos) (.Call (.Name "zip" p) [e, e2] [] pos) (RZ.iZipA K ta) := by subst h; exact RZ.pi_zipA hg hm ha hs hpl
theorem pi_or {tg e : Expr} {t1 t2 : TI} (h1 : PI X tg e t1) (h2 : PI X tg e t2) : PI X tg e (fun σ H R => t1 σ H R ∨ t2 σ H R) := ⟨fun pins s σ H R I h => h.elim (h1.run pins s σ H R I) (h2.run pins s σ H R I)⟩
theorem pe_fldK (K : PySem.W.Frag) (h : X.K = K) {e : Expr} {ta : TE} {f : Str} {pos : Pos} (he : PE X e ta) (hb : attributeBase e f X.env (eval e X.env) = eval e X.env) : PE X (.Attribute e f pos) (tFld K ta f) := by subst h; exact pe_fld he hb
theorem ps_fldK (K : PySem.W.Frag) (h : X.K = K) {o value : Expr} {ta tv : TE} {f : Str} {pos pos' : Pos} (ha : PE X o ta) (hv : PE X value tv) (hs : swapsWith value (some (.Attribute o f pos')) pos.line X.env = pure false) : PS X (.Assign [.Attribute o f pos'] value pos) (sFld K ta tv f) := by subst h; exact ps_fld ha hv hs
theorem ps_fldaugK (K : PySem.W.Frag) (h : X.K = K) {o value : Expr} {ta tv : TE} {f : Str} {pos tpos : Pos} {op : Operator} {rd : V → V → Hp → VK → Prop} (ha : PE X o ta) (hv : PE X value tv) (hop : InOp X op rd) : PS X (.AugAssign (.Attribute o f tpos) op value pos) (sFldAug K ta tv rd f) := by subst h; exact ps_fldaug ha hv hop
end
section
variable {X : Cx}
theorem cr_sumK (K : PySem.W.Frag) (h : X.K = K) (hc : X.calm = true) : CallR X (.builtin "sum") (rSum K) := by subst h; exact cr_sum hc
end
section
variable {X : Cx}
theorem op_ltTK (K : PySem.W.Frag) (h : X.K = K) (hu : X.A.units < cLine) : OpR X (compareOp .Lt) (rLtT K) := by subst h; exact op_ltT hu
end
/-! ### for i, x in enumerate(t), t a tuple -/
section
open Sem (wp)
open AutoSeq1 (wpAny_loadPart')
theorem enum_of_tup (t : Addr) (its : Array Value) (n : Nat) (dct : Option Addr) (sl : Array (Option Value)) :
    Meets (Builtin.«enumerate.__new__» ⟨[.type "enumerate", .ref t], []⟩) (fun _ R st => st.heap.get? t = some { cls := .type "tuple", dict := dct, data := .seq its n, slots := sl } ∧
      R (.ok (.ret (.ref (st.heap.push { cls := .type "tuple_iterator", data := .fields #[.ref t, .int 0 0] }).objs.size)))
        { st with heap := (st.heap.push { cls := .type "tuple_iterator", data := .fields #[.ref t, .int 0 0] }).push { cls := .type "enumerate", data := .fields #[.none, .bool false, .ref st.heap.objs.size, rawInt 0, .none, .none] } }) :=
  .of_wp fun prog w A R st asked => by
    obtain ⟨hp, g, d, tk, os⟩ := st; obtain ⟨at_, asked⟩ := asked
    have sub := sub_enumerate
    have hT : Heap.IsTuple (Shared.heap ⟨hp, g, d, tk, os⟩) t its := ⟨_, at_, rfl, n, rfl⟩
    wp_walk using wpAny_loadPart' at_
    refine wpAny_stack_any fun stk => wpAny_pure ?_
    split
    · rename_i c _ _ _ _ _
      cases (c == Value.type "enumerate")
      · wp_walk using wpAny_loadPart' at_, wpAny_pyIter_tuple hT
        exact ⟨_, rfl, asked⟩
      · wp_walk using wpAny_loadPart' at_, wpAny_pyIter_tuple hT
        exact ⟨_, rfl, asked⟩
    · wp_walk using wpAny_loadPart' at_, wpAny_pyIter_tuple hT
      exact ⟨_, rfl, asked⟩
theorem call_enum_tup {prog : Program} {w : World} {A : Around} {E : Value → Shared → Prop} {st : Shared} {t : Addr} {its : Array Value} {Q : Value → Shared → Prop} (hT : st.heap.IsTuple t its)
    (now : ∀ h', IsEnum h' (st.heap.objs.size + 1) st.heap.objs.size 0 .none → h'.IsTupleIter st.heap.objs.size t 0 → h'.objs.size = st.heap.objs.size + 2 →
      (∀ b o, st.heap.get? b = some o → h'.get? b = some o) → Q (.ref (st.heap.objs.size + 1)) { st with heap := h' }) :
    wpAny (model prog w) A (call (.type "enumerate") [.ref t]) Q E st := by
  obtain ⟨⟨c, dct, dt, sl⟩, at_, hc, n, hd⟩ := hT
  replace hc : c = .type "tuple" := hc
  replace hd : dt = .seq its n := hd
  subst hc hd
  refine callType_new F.called_enumerate (by decide) (F.typeCall_enumerate_1 _) (F.newCall_enumerate_1 _) (fun obj => F.args_object_init_2 obj _) F.entry_enumerate_new (enum_of_tup t its n dct sl) ⟨at_, ?_⟩
  have size1 : (st.heap.push { cls := .type "tuple_iterator", data := .fields #[.ref t, .int 0 0] }).objs.size = st.heap.objs.size + 1 := Heap.size_push ..
  show _ ∧ _
  rw [size1]
  have made := Heap.get?_push_size (st.heap.push { cls := .type "tuple_iterator", data := .fields #[.ref t, .int 0 0] }) (o := { cls := .type "enumerate", data := .fields #[.none, .bool false, .ref st.heap.objs.size, rawInt 0, .none, .none] }) rfl
  rw [size1] at made
  exact ⟨⟨_, made, rfl⟩, now _ made ⟨_, Heap.get?_push_of_some _ (Heap.get?_push_size _ rfl), rfl, rfl⟩ (by rw [Heap.size_push, size1]) fun b o e => Heap.get?_push_of_some _ (Heap.get?_push_of_some _ e)⟩
end
/-- the tuple at a, each item in a new pair -/
def IteT (K : PySem.W.Frag) (a : Addr) (xs : List V) : It :=
  ⟨fun i H => SqT K H a xs ∧ i < xs.length, fun i H v H' => ∃ T x, v = .ref T ∧ H T = none ∧ H' = upd H T (.tup [.int (i : Nat), x]) ∧ xs[i]? = some x, fun i H => SqT K H a xs ∧ i = xs.length⟩
theorem turn_enumT {P : Program} {w : World} {K : PySem.W.Frag} {elts : List Expr} {kk : Nat} {tpos : Pos} (a e it : Addr) (xs : List V) :
    Turn P w K (.Tuple elts kk tpos) (IteT K a xs) [e, it] e (fun i h => (∃ old, IsEnum h e it ((i : Nat) : Int) old) ∧ h.IsTupleIter it a i ∧ e ≠ it ∧ a ≠ it ∧ a ≠ e) where
  mem := by simp
  obj := fun i h st b hb => by
    obtain ⟨⟨old, he⟩, ⟨o, ho, hc, hd⟩, _⟩ := st
    have either : b = e ∨ b = it := by simpa using hb
    rcases either with z | z
    · rw [z]; exact ⟨_, he, fun v q => nomatch q⟩
    · rw [z]; exact ⟨o, ho, fun v q => by rw [hd] at q; cases q⟩
  keep := fun i h h' st k => let ⟨⟨old, he⟩, hi, apart⟩ := st; ⟨⟨old, k e (by simp) _ he⟩, hi.at fun o q => k it (by simp) o q, apart⟩
  item := by
    intro X hP hw hK hc i pins st σ H E J hf stt going
    subst hP hw hK
    obtain ⟨⟨old, he⟩, hit, n1, n2, n3⟩ := stt
    obtain ⟨hq, hi⟩ := going
    obtain ⟨its, rv, tup, hz⟩ := J.tuple hq
    have len := rv.length
    have el : e < st.heap.objs.size := Heap.lt_size he
    have il : it < st.heap.objs.size := by obtain ⟨_, q, _⟩ := hit; exact Heap.lt_size q
    have D := Draws.tuple (prog := X.prog) (w := X.w) (A := X.A.in1) (J.ok.hd hc) it a n2 its.toArray
    refine wpAny_pyNext_enum_itemD D he ⟨hit, tup⟩ (by rw [List.size_toArray]; omega) n1 (by simp [n1, n3.symm]) fun u h' tk px out stt' new size kp => ?_
    refine ⟨_, rfl, wpAny_letOwnedTupleGo_enum (s := { st with heap := h', toks := tk + 1 }) out fun h'' he' sb => ?_⟩
    obtain ⟨x, hx⟩ : ∃ x, xs[i]? = some x := ⟨_, List.getElem?_eq_getElem hi⟩
    obtain ⟨u', hu', ru⟩ := rv.get hx
    have eu : u' = u := by
      have px : its.toArray[i]? = some u := px
      rw [List.getElem?_toArray, hu'] at px
      exact Option.some.inj px
    subst eu
    have there : h''.get? st.heap.objs.size = some { cls := .type "tuple", data := .seq #[.int i tk, u'] } := (sb.2 _ (Nat.ne_of_gt el)).trans new
    have ok2 : ObjOk X.prog X.w (upd H st.heap.objs.size (.tup [.int (i : Nat), x])) h'' st.heap.objs.size (.tup [.int (i : Nat), x]) :=
      ⟨by show 2 ≤ sizeLine; decide, [.int i tk, u'], .cons ⟨_, rfl⟩ (.cons ru .nil), ⟨_, there, rfl, _, rfl⟩⟩
    have J1 : Inv X pins σ (upd H st.heap.objs.size (.tup [.int (i : Nat), x])) { st with heap := h'', toks := tk + 1 } :=
      J.turnedNew (ch := [e, it]) (fun b ob hb q => (sb.2 b (fun z => hb (by simp [z]))).trans (kp b ob (fun z => hb (by simp [z])) (fun z => hb (by simp [z])) q)) hf (Nat.le_refl _) ok2
    refine ⟨.ref st.heap.objs.size, _, J1, rfl, ⟨_, x, rfl, J.hok.fresh (Nat.le_refl _), rfl, hx⟩, ⟨⟨u', ?_⟩, stt'.1.at fun o q => (sb.2 it (Ne.symm n1)).trans q, n1, n2, n3⟩, fun b hb => ?_⟩
    · rw [show ((i + 1 : Nat) : Int) = (i : Int) + 1 by omega]
      exact he'
    · have bl : b < st.heap.objs.size := by
        have either : b = e ∨ b = it := by simpa using hb
        rcases either with z | z
        · rw [z]; exact el
        · rw [z]; exact il
      rw [upd_ne (Nat.ne_of_lt bl)]
      exact (hf b hb).1
  done := by
    intro X hP hw hK hc i pins st σ H E J hf stt over
    subst hP hw hK
    obtain ⟨⟨old, he⟩, hit, n1, n2, n3⟩ := stt
    obtain ⟨hq, hi⟩ := over
    obtain ⟨its, rv, tup, hz⟩ := J.tuple hq
    obtain ⟨f0, f1, f2, f3, f4, f5⟩ := hf it (by simp)
    have len := rv.length
    have D := Draws.tuple (prog := X.prog) (w := X.w) (A := X.A.in1) (J.ok.hd hc) it a n2 its.toArray
    have ei : its.toArray.size = i := by rw [List.size_toArray]; omega
    exact wpAny_pyNext_enum_endD D he ⟨by rw [ei]; exact hit, tup⟩ fun h' eb => ⟨rfl, J.turned (t' := st.toks) (fun b o hb q => eb b o hb q) f0 f1 f3 f4 f5⟩
  self := fun A i st Q E stt now => let ⟨⟨_, he⟩, _⟩ := stt; wpAny_pyIter_enum he now
def iEnumT (K : PySem.W.Frag) (ta : TA) : TI := fun σ H R => ta σ H fun vs H1 => ∃ a xs, vs = [.ref a] ∧ SqT K H1 a xs ∧ R (IteT K a xs) H1
theorem pi_enumT (K : PySem.W.Frag) {X : Cx} (hk : X.K = K) {e : Expr} {ta : TA} {p pos tpos : Pos} {elts : List Expr} {kk : Nat} (hg : Gl X "enumerate") (hm : X.mg "enumerate" = none) (ha : PA X [e] ta) (hs : starEach [e] X.env = [(false, eval e X.env)] := by rfl) :
    PI X (.Tuple elts kk tpos) (.Call (.Name "enumerate" p) [e] [] pos) (iEnumT K ta) := by
  subst hk
  refine ⟨fun pins st σ H R J asked => ?_⟩
  refine Call_ (ld_blt J hg hm boot_enumerate (PyProof.Rows.callWith_type1 (thn (ha.run pos pins st σ H _ J asked) fun us st1 ⟨vs, H1, J1, rel, now⟩ => ?_) hs rfl))
  obtain ⟨a, xs, ex, hq, now⟩ := now
  subst ex
  obtain ⟨u, rfl, ru⟩ := vals1 rel
  obtain rfl : u = Value.ref a := ru
  obtain ⟨its, rv, tup, hz⟩ := J1.tuple hq
  have al : a < st1.heap.objs.size := by obtain ⟨o, ho, _⟩ := tup; exact Heap.lt_size ho
  refine call_enum_tup tup fun h' he hit size kp => wpAny_pyIter_enum he ?_
  have J2 : Inv X pins σ H1 { st1 with heap := h' } := J1.kept (t' := st1.toks) kp
  refine ⟨st1.heap.objs.size + 1, [st1.heap.objs.size + 1, st1.heap.objs.size], _, _, H1, rfl, J2, turn_enumT a (st1.heap.objs.size + 1) st1.heap.objs.size xs, ⟨⟨.none, he⟩, hit, Nat.succ_ne_self _, Nat.ne_of_lt al, Nat.ne_of_lt (Nat.lt_succ_of_lt al)⟩, fun b hb => ?_, now⟩
  have either : b = st1.heap.objs.size + 1 ∨ b = st1.heap.objs.size := by simpa using hb
  have low : st1.heap.objs.size ≤ b := by
    rcases either with z | z
    · rw [z]; exact Nat.le_add_right _ _
    · rw [z]; exact Nat.le_refl _
  exact J1.fpOk low (J1.hok.fresh low)
/-! ### dict(zip(xs, ys)), xs a list, ys a tuple -/
section
open Sem (wp)
variable {prog : Program} {w : World} {A : Around} {E : Value → Shared → Prop} {st : Shared} {z TI TO T i1 i2 : Addr} {fp1 fp2 : List Addr} {n1 n2 i : Nat} {P1 P2 : Nat → Value → Prop} {S1 S2 : Nat → Heap → Prop} {f : Bool} {oT : Obj}
theorem out_next (S : ZipSep2 z TI TO i1 i2 fp1 fp2) (D1 : Draws prog w A i1 fp1 n1 P1 S1) (D2 : Draws prog w A i2 fp2 n2 P2 S2) {Q : Value → Shared → Prop}
    (out : IsZipHeld st.heap z TI TO T f) (hT : st.heap.get? T = some oT) (both : IsTupOf2 st.heap TI (.ref i1) (.ref i2)) (at1 : S1 i st.heap) (at2 : S2 i st.heap) (l1 : i < n1) (l2 : i < n2)
    (now : ∀ x y h' tk, P1 i x → P2 i y → IsZipHeld h' z TI TO T true → S1 (i + 1) h' → S2 (i + 1) h' → IsTupOf2 h' st.heap.objs.size x y → (∀ c o, c ≠ z → c ≠ i1 → c ≠ i2 → st.heap.get? c = some o → h'.get? c = some o) → Q (.ref st.heap.objs.size) { st with heap := h', toks := tk }) :
    wpAny (model prog w) A (Builtin.«zip.__next__» ⟨[.ref z], []⟩) (fun fin s' => ∃ v, fin = .done (.ret v) ∧ Q v s') E st := by
  obtain ⟨hp, g, d, tk0, os⟩ := st
  show wpAny _ _ (field (.ref z) 2 >>= _) _ _ _; refine wpAny_bind (wpAny_field out rfl (x := .bool false) rfl ?_)
  show wpAny _ _ (field (.ref z) 3 >>= _) _ _ _; refine wpAny_bind (wpAny_field out rfl (x := .ref TI) rfl ?_)
  refine wpAny_bind (wpAny_seqItems both rfl ?_); show wpAny _ _ (Builtin.SmallTypes.ownedTupleIsFree (.ref z) >>= _) _ _ _
  refine wpAny_bind (wpAny_tupleHeld_zip out hT fun g1 out1 b1 => ?_)
  replace b1 : Heap.SameBut z hp g1 := b1
  simp only [Bool.false_eq_true, if_false]; refine wpAny_bind ?_; rw [← Array.forIn_toList]; simp only [List.forIn_cons, List.forIn_nil]
  refine wpAny_bind (wpAny_bind (wpAny_holding ?_)); show wpAny _ _ (Builtin.SmallTypes.nextOf (.ref i1) >>= _) _ _ ⟨g1, g, d, tk0, os⟩
  refine wpAny_bind (D1.item i _ _ _ l1 (D1.over at1 b1 S.zf1) fun x g2 tk1 px n1' b2 => wpAny_pure ?_)
  replace b2 : Heap.SameBut i1 g1 g2 := b2
  refine wpAny_pure ?_; refine wpAny_bind (wpAny_bind (wpAny_holding ?_)); show wpAny _ _ (Builtin.SmallTypes.nextOf (.ref i2) >>= _) _ _ ⟨g2, g, d, tk1, os⟩
  refine wpAny_bind (D2.item i _ _ _ l2 (D2.over (D2.over at2 b1 S.zf2) b2 S.sep1_2) fun y g3 tk2 py n2' b3 => wpAny_pure ?_)
  replace b3 : Heap.SameBut i2 g2 g3 := b3
  refine wpAny_pure (wpAny_pure ?_); show wpAny _ _ (newTuple [x, y] >>= _) _ _ ⟨g3, g, d, tk2, os⟩
  refine wpAny_bind (wpAny_newTuple ?_); refine wpAny_pure ⟨_, rfl, ?_⟩
  have size : g3.objs.size = hp.objs.size := by rw [b3.1, b2.1, b1.1]
  have out3 : IsZipHeld g3 z TI TO T true := b3.extBut _ _ S.zi2 (b2.extBut _ _ S.zi1 out1)
  have new : IsTupOf2 (g3.push { cls := .type "tuple", data := .seq #[x, y] }) g3.objs.size x y := Heap.get?_push_size _ rfl
  show Q (.ref g3.objs.size) _
  rw [size] at new ⊢
  exact now x y _ tk2 px py (Heap.get?_push_of_some _ out3) (D1.frame _ _ _ (D1.over n1' b3 S.sep2_1) fun _ _ _ q => Heap.get?_push_of_some _ q) (D2.frame _ _ _ n2' fun _ _ _ q => Heap.get?_push_of_some _ q) new
    fun c o c1 c2 c3 q => Heap.get?_push_of_some _ (b3.extBut _ _ c3 (b2.extBut _ _ c2 (b1.extBut _ _ c1 q)))
theorem out_end (S : ZipSep2 z TI TO i1 i2 fp1 fp2) (D1 : Draws prog w A i1 fp1 n1 P1 S1) (D2 : Draws prog w A i2 fp2 n2 P2 S2) {Q : Fin → Shared → Prop}
    (out : IsZipHeld st.heap z TI TO T f) (hT : st.heap.get? T = some oT) (both : IsTupOf2 st.heap TI (.ref i1) (.ref i2)) (at1 : S1 i st.heap) (at2 : S2 i st.heap) (l1 : i ≤ n1) (l2 : i ≤ n2) (last : i = n1 ∨ i = n2)
    (now : ∀ h' tk e, (∀ c o, c ≠ z → c ≠ i1 → c ≠ i2 → st.heap.get? c = some o → h'.get? c = some o) → (∃ o, h'.get? e = some o ∧ o.cls = .type "StopIteration") → E (.ref e) { st with heap := h', toks := tk }) :
    wpAny (model prog w) A (Builtin.«zip.__next__» ⟨[.ref z], []⟩) Q E st := by
  obtain ⟨hp, g, d, tk0, os⟩ := st
  show wpAny _ _ (field (.ref z) 2 >>= _) _ _ _; refine wpAny_bind (wpAny_field out rfl (x := .bool false) rfl ?_)
  show wpAny _ _ (field (.ref z) 3 >>= _) _ _ _; refine wpAny_bind (wpAny_field out rfl (x := .ref TI) rfl ?_)
  refine wpAny_bind (wpAny_seqItems both rfl ?_); show wpAny _ _ (Builtin.SmallTypes.ownedTupleIsFree (.ref z) >>= _) _ _ _
  refine wpAny_bind (wpAny_tupleHeld_zip out hT fun g1 out1 b1 => ?_)
  replace b1 : Heap.SameBut z hp g1 := b1
  simp only [Bool.false_eq_true, if_false]; refine wpAny_bind ?_; rw [← Array.forIn_toList]; simp only [List.forIn_cons, List.forIn_nil]
  refine wpAny_bind (wpAny_bind (wpAny_holding ?_)); show wpAny _ _ (Builtin.SmallTypes.nextOf (.ref i1) >>= _) _ _ ⟨g1, g, d, tk0, os⟩
  by_cases more : i < n1
  · refine wpAny_bind (D1.item i _ _ _ more (D1.over at1 b1 S.zf1) fun x g2 tk1 px n1' b2 => wpAny_pure ?_)
    replace b2 : Heap.SameBut i1 g1 g2 := b2
    refine wpAny_pure ?_; refine wpAny_bind (wpAny_bind (wpAny_holding ?_)); show wpAny _ _ (Builtin.SmallTypes.nextOf (.ref i2) >>= _) _ _ ⟨g2, g, d, tk1, os⟩
    have e2 : i = n2 := by omega
    subst e2
    refine wpAny_bind (D2.done _ _ _ (D2.over (D2.over at2 b1 S.zf2) b2 S.sep1_2) fun g3 e b3 he => ?_)
    exact now g3 tk1 e (fun c o c1 c2 c3 q => b3 _ _ c3 (b2.extBut _ _ c2 (b1.extBut _ _ c1 q))) he
  · have e1 : i = n1 := by omega
    subst e1
    refine wpAny_bind (D1.done _ _ _ (D1.over at1 b1 S.zf1) fun g3 e b3 he => ?_)
    exact now g3 tk0 e (fun c o c1 c2 c3 q => b3 _ _ c2 (b1.extBut _ _ c1 q)) he
theorem out_pyNext (S : ZipSep2 z TI TO i1 i2 fp1 fp2) (D1 : Draws prog w A.in1 i1 fp1 n1 P1 S1) (D2 : Draws prog w A.in1 i2 fp2 n2 P2 S2) {Q : Option Value → Shared → Prop}
    (out : IsZipHeld st.heap z TI TO T f) (hT : st.heap.get? T = some oT) (both : IsTupOf2 st.heap TI (.ref i1) (.ref i2)) (at1 : S1 i st.heap) (at2 : S2 i st.heap) (l1 : i < n1) (l2 : i < n2)
    (now : ∀ x y h' tk, P1 i x → P2 i y → IsZipHeld h' z TI TO T true → S1 (i + 1) h' → S2 (i + 1) h' → IsTupOf2 h' st.heap.objs.size x y → (∀ c o, c ≠ z → c ≠ i1 → c ≠ i2 → st.heap.get? c = some o → h'.get? c = some o) → Q (some (.ref st.heap.objs.size)) { st with heap := h', toks := tk }) :
    wpAny (model prog w) A (pyNext (.ref z)) Q E st := by
  have ty : st.TypeIs (.ref z) "zip" := ⟨_, out, rfl⟩
  unfold pyNext
  refine wpAny_bind (wpAny_attempt (wpAny_callSpecial?_slot (name := Str.ofString "__next__") ty F.slot_zip_next (wpAny_call_entry F.slot_zip_next ty F.entry_zip_next (out_next S D1 D2 out hT both at1 at2 l1 l2 ?_) (F.args_zip_next_1 _))))
  exact fun x y h' tk a b c d e g k => wpAny_pure (now x y h' tk a b c d e g k)
theorem out_pyNext_end (S : ZipSep2 z TI TO i1 i2 fp1 fp2) (D1 : Draws prog w A.in1 i1 fp1 n1 P1 S1) (D2 : Draws prog w A.in1 i2 fp2 n2 P2 S2) {Q : Option Value → Shared → Prop}
    (out : IsZipHeld st.heap z TI TO T f) (hT : st.heap.get? T = some oT) (both : IsTupOf2 st.heap TI (.ref i1) (.ref i2)) (at1 : S1 i st.heap) (at2 : S2 i st.heap) (l1 : i ≤ n1) (l2 : i ≤ n2) (last : i = n1 ∨ i = n2)
    (now : ∀ h' tk, (∀ c o, c ≠ z → c ≠ i1 → c ≠ i2 → st.heap.get? c = some o → h'.get? c = some o) → Q none { st with heap := h', toks := tk }) :
    wpAny (model prog w) A (pyNext (.ref z)) Q E st := by
  have ty : st.TypeIs (.ref z) "zip" := ⟨_, out, rfl⟩
  unfold pyNext
  refine wpAny_bind (wpAny_attempt (wpAny_callSpecial?_slot (name := Str.ofString "__next__") ty F.slot_zip_next (wpAny_call_entry F.slot_zip_next ty F.entry_zip_next (out_end S D1 D2 out hT both at1 at2 l1 l2 last ?_) (F.args_zip_next_1 _))))
  rintro h' tk e kp ⟨o, ho, hc⟩
  exact wpAny_bind (wpAny_isInstance (T := "StopIteration") (b := true) ⟨o, ho, hc⟩ isSubtype_stop (wpAny_pure (now _ _ kp)))
/-- the zip of the list l and the tuple t, begun -/
def ZipLT (h : Heap) (z TI TO i1 i2 l t : Addr) (xs ys : Array Value) (n : Nat) : Prop := IsTupOf2 h TI (.ref i1) (.ref i2) ∧ (h.IsListIter i1 l n ∧ h.IsList l xs) ∧ (h.IsTupleIter i2 t n ∧ h.IsTuple t ys)
theorem ZipLT.keep {h h' : Heap} {z TI TO i1 i2 l t : Addr} {xs ys : Array Value} {n : Nat} (q : ZipLT h z TI TO i1 i2 l t xs ys n) (k : ∀ b, b = TI ∨ b = i1 ∨ b = i2 ∨ b = l ∨ b = t → ∀ o, h.get? b = some o → h'.get? b = some o) : ZipLT h' z TI TO i1 i2 l t xs ys n :=
  ⟨k _ (.inl rfl) _ q.1, ⟨q.2.1.1.at fun o e => k _ (.inr (.inl rfl)) o e, q.2.1.2.at fun o e => k _ (.inr (.inr (.inr (.inl rfl)))) o e⟩, ⟨q.2.2.1.at fun o e => k _ (.inr (.inr (.inl rfl))) o e, q.2.2.2.at fun o e => k _ (.inr (.inr (.inr (.inr rfl)))) o e⟩⟩
theorem pairs_LT (z TI TO i1 i2 l t : Addr) (S : ZipSep2 z TI TO i1 i2 [i1, l] [i2, t]) (hl : l ≠ i1) (ht : t ≠ i2) (xs ys : Array Value) :
    PairArg prog w "zip" z [z, TI, TO, i1, i2, l, t] [z, TO, i1, i2] (min xs.size ys.size) (fun i k v => xs[i]? = some k ∧ ys[i]? = some v)
      (fun h => IsZip h z TI TO .none ∧ (∃ a b, IsTupOf2 h TO a b) ∧ ZipLT h z TI TO i1 i2 l t xs ys 0) where
  type := fun s ok => ⟨_, ok.1, rfl⟩
  notDict := by decide
  keep := fun h h' ok k => by
    obtain ⟨a1, ⟨a, b, a2⟩, a3⟩ := ok
    exact ⟨k _ _ a1, ⟨a, b, k _ _ a2⟩, a3.keep fun b _ o e => k b o e⟩
  there := fun h ok b hb => by
    obtain ⟨a1, ⟨a, c, a2⟩, a3, ⟨⟨o1, e1, _⟩, ⟨o2, e2, _⟩⟩, ⟨⟨o3, e3, _⟩, ⟨o4, e4, _⟩⟩⟩ := ok
    have either : b = z ∨ b = TI ∨ b = TO ∨ b = i1 ∨ b = i2 ∨ b = l ∨ b = t := by simpa using hb
    rcases either with q | q | q | q | q | q | q <;> subst q
    · exact ⟨_, a1⟩
    · exact ⟨_, a3⟩
    · exact ⟨_, a2⟩
    · exact ⟨_, e1⟩
    · exact ⟨_, e3⟩
    · exact ⟨_, e2⟩
    · exact ⟨_, e4⟩
  sub := fun b hb => by
    have either : b = z ∨ b = TO ∨ b = i1 ∨ b = i2 := by simpa using hb
    rcases either with q | q | q | q <;> subst q <;> simp
  noKeys := fun A s Q E hA ok now => getAttrOr_miss_zip ok.1 rfl rfl rfl zip_no_keys (by decide +kernel) hA now
  iter := fun A s d Q E hA ok dlt dfar now => by
    obtain ⟨a1, ⟨a, b, a2⟩, a3⟩ := ok
    have far : d ≠ z ∧ d ≠ TI ∧ d ≠ TO ∧ d ≠ i1 ∧ d ≠ i2 ∧ d ≠ l ∧ d ≠ t := by simpa using dfar
    obtain ⟨d1, d2, d3, d4, d5, d6, d7⟩ := far
    have D1 := Draws.list (prog := prog) (w := w) (A := A.in1) hA i1 l hl xs
    have D2 := Draws.tuple (prog := prog) (w := w) (A := A.in1) hA i2 t ht ys
    refine wpAny_pyIter_zip a1 (now z [z, TO, i1, i2] (fun n h => ZipLT h z TI TO i1 i2 l t xs ys n ∧ ((IsZip h z TI TO .none ∧ ∃ a b, IsTupOf2 h TO a b) ∨ ∃ T f oT, IsZipHeld h z TI TO T f ∧ h.get? T = some oT ∧ T ≠ z ∧ T ≠ i1 ∧ T ≠ i2 ∧ T ≠ d)) s.heap s.toks ?_ ⟨a3, .inl ⟨a1, a, b, a2⟩⟩ (fun _ _ e => e) fun b hb => .inl hb)
    refine ⟨fun hm => ?_, fun n h h' q k => ?_, fun n s1 Q1 E1 hn q dl now1 => ?_, fun s1 Q1 E1 q now1 => ?_⟩
    · have either : d = z ∨ d = TO ∨ d = i1 ∨ d = i2 := by simpa using hm
      rcases either with q | q | q | q
      · exact d1 q
      · exact d3 q
      · exact d4 q
      · exact d5 q
    · refine ⟨q.1.keep fun b hb o e => k b o (fun y => ?_) e, ?_⟩
      · rcases hb with q | q | q | q | q <;> rw [q] at y
        · exact d2 y.symm
        · exact d4 y.symm
        · exact d5 y.symm
        · exact d6 y.symm
        · exact d7 y.symm
      · rcases q.2 with ⟨q1, a, b, q2⟩ | ⟨T, f, oT, q1, q2, r1, r2, r3, r4⟩
        · exact .inl ⟨k _ _ (Ne.symm d1) q1, a, b, k _ _ (Ne.symm d3) q2⟩
        · exact .inr ⟨T, f, oT, k _ _ (Ne.symm d1) q1, k _ _ r4 q2, r1, r2, r3, r4⟩
    · obtain ⟨⟨both, at1, at2⟩, q⟩ := q
      have m1 : n < xs.size := Nat.lt_of_lt_of_le hn (Nat.min_le_left ..)
      have m2 : n < ys.size := Nat.lt_of_lt_of_le hn (Nat.min_le_right ..)
      have lt : ∀ {c o}, s1.heap.get? c = some o → s1.heap.objs.size ≠ c := fun e => Nat.ne_of_gt (Heap.lt_size e)
      have j1 : s1.heap.objs.size ≠ i1 := let ⟨_, e⟩ := D1.live _ _ at1; lt e
      have j2 : s1.heap.objs.size ≠ i2 := let ⟨_, e⟩ := D2.live _ _ at2; lt e
      rcases q with ⟨q1, a, b, q2⟩ | ⟨T, f, oT, q1, q2, r1, r2, r3, r4⟩
      · refine wpAny_pyNext_zipD2_item S D1 D2 q1 both q2 at1 at2 m1 m2 fun x y h' tk px py b1 b2 b3 b4 b5 b6 k => ?_
        exact now1 s1.heap.objs.size x y h' tk ⟨px, py⟩ (.inl ⟨_, b5, rfl, _, rfl⟩) ⟨⟨k _ _ S.TIz S.TITO S.TIi1 S.TIi2 both, b3, b4⟩, .inr ⟨_, false, _, b1, b5, lt q1, j1, j2, Nat.ne_of_gt dl⟩⟩
          fun c o hc e => k c o (fun y => hc (by simp [y])) (fun y => hc (by simp [y])) (fun y => hc (by simp [y])) (fun y => hc (by simp [y])) e
      · refine out_pyNext S D1 D2 q1 q2 both at1 at2 m1 m2 fun x y h' tk px py b1 b3 b4 b5 k => ?_
        exact now1 s1.heap.objs.size x y h' tk ⟨px, py⟩ (.inl ⟨_, b5, rfl, _, rfl⟩) ⟨⟨k _ _ S.TIz S.TIi1 S.TIi2 both, b3, b4⟩, .inr ⟨T, true, oT, b1, k _ _ r1 r2 r3 q2, r1, r2, r3, r4⟩⟩
          fun c o hc e => k c o (fun y => hc (by simp [y])) (fun y => hc (by simp [y])) (fun y => hc (by simp [y])) e
    · obtain ⟨⟨both, at1, at2⟩, q⟩ := q
      rcases q with ⟨q1, a, b, q2⟩ | ⟨T, f, oT, q1, q2, r1, r2, r3, r4⟩
      · exact wpAny_pyNext_zipD2_end S D1 D2 q1 both q2 at1 at2 (Nat.min_le_left ..) (Nat.min_le_right ..) (by omega) fun h' tk k => now1 h' tk fun c o hc e => k c o (fun y => hc (by simp [y])) (fun y => hc (by simp [y])) (fun y => hc (by simp [y])) (fun y => hc (by simp [y])) e
      · exact out_pyNext_end S D1 D2 q1 q2 both at1 at2 (Nat.min_le_left ..) (Nat.min_le_right ..) (by omega) fun h' tk k => now1 h' tk fun c o hc e => k c o (fun y => hc (by simp [y])) (fun y => hc (by simp [y])) (fun y => hc (by simp [y])) e
end
/-- dict(zip(e1, e2)): keys from a list, values from a tuple -/
def eDictZip (K : PySem.W.Frag) (ta : TA) : TE := fun σ H Q => ta σ H fun vs H1 => ∃ (a b : Addr) (ks : List Key) (xs : List V), vs = [.ref a, .ref b] ∧ SqL K H1 a (ks.map kV) ∧ SqT K H1 b xs ∧ ∀ p, H1 p = none → Q (.ref p) (upd H1 p (.dK (mergeK [] (ks.zip xs))))
theorem pe_dictZip (K : PySem.W.Frag) {X : Cx} (hk : X.K = K) (hcalm : X.calm = true) {e e2 : Expr} {ta : TA} {p p2 pos pos2 : Pos} (hd : Gl X "dict") (md : X.mg "dict" = none) (hg : Gl X "zip") (hm : X.mg "zip" = none) (ha : PA X [e, e2] ta)
    (hs : starEach [e, e2] X.env = (false, eval e X.env) :: starEach [e2] X.env := by rfl) (hpl : (backTo pos2 (starEach [e2] X.env)).any (·.1) = false := by rfl)
    (hs1 : starEach [.Call (.Name "zip" p2) [e, e2] [] pos2] X.env = [(false, eval (.Call (.Name "zip" p2) [e, e2] [] pos2) X.env)] := by rfl) :
    PE X (.Call (.Name "dict" p) [.Call (.Name "zip" p2) [e, e2] [] pos2] [] pos) (eDictZip K ta) := by
  subst hk
  refine ⟨fun pins st σ H Q J asked => ?_⟩
  refine Call_ (ld_blt J hd md boot_dict (PyProof.Rows.callWith_type1 (args_cons (Call_ (ld_blt J hg hm boot_zip (PyProof.Rows.callWith_type1 (thn (ha.run pos2 pins st σ H _ J asked) fun us st1 ⟨vs, H1, J1, rel, now⟩ => ?_) hs hpl))) hs1) hs1 rfl))
  obtain ⟨a, b, ks, xs, ex, hq1, hq2, now⟩ := now
  subst ex
  cases rel with
  | cons r1 rel =>
  cases rel with
  | cons r2 rel =>
  cases rel
  cases r1
  cases r2
  obtain ⟨its, rv, p1, z1⟩ := J1.list hq1
  obtain ⟨its2, rv2, p2, z2⟩ := J1.tuple hq2
  have al : a < st1.heap.objs.size := p1.lt
  have bl : b < st1.heap.objs.size := by obtain ⟨o, ho, _⟩ := p2; exact Heap.lt_size ho
  have B1 := begins_list a its.toArray
  have B2 := begins_tuple b its2.toArray
  refine zip_begins2 B1 B2 p1.isList p2 fun h' c1 c2 c3 c4 c5 size kp => args_nil ?_
  have S := zip_sep2 (N := st1.heap.objs.size) (fp1 := [a]) (fp2 := [b]) (by simpa using al) (by simpa using bl)
  have P := pairs_LT (prog := X.prog) (w := X.w) _ _ _ _ _ a b S (Nat.ne_of_lt al) (Nat.ne_of_lt (Nat.lt_succ_of_lt bl)) its.toArray its2.toArray
  have n1 := rv.length
  have n2 := rv2.length
  rw [List.length_map] at n1 z1
  have all : ∀ (ks : List Key) (xs : List V) (us vs : List Value), Vals (ks.map kV) us → Vals xs vs → ∃ rs : List (Key × Value), KV (ks.zip xs) rs ∧ rs.length = min us.length vs.length ∧ ∀ (i : Nat) (k v : Value), us[i]? = some k → vs[i]? = some v → ∃ q, rs[i]? = some (q, v) ∧ (mixKind X.prog X.w).is q k = true := by
    intro ks
    induction ks with
    | nil => intro xs us vs r1 r2; cases r1; exact ⟨[], .nil, by simp, fun i k v e => nomatch e⟩
    | cons k ks ih =>
      intro xs us vs r1 r2
      cases r1 with
      | cons h1 t1 =>
      cases r2 with
      | nil => exact ⟨[], .nil, by simp, fun i k v _ e => nomatch e⟩
      | cons h2 t2 =>
        obtain ⟨rs, e1, e2, e3⟩ := ih _ _ _ t1 t2
        refine ⟨(k, _) :: rs, .cons ⟨rfl, h2⟩ e1, by simp only [List.length_cons, e2]; omega, fun i q v e f => ?_⟩
        cases i with
        | zero => cases e; cases f; exact ⟨k, rfl, kV_is h1⟩
        | succ i => exact e3 i q v e f
  obtain ⟨rs, e1, e2, e3⟩ := all ks xs its its2 rv rv2
  have PH : PairsHave (mixKind X.prog X.w) (min its.toArray.size its2.toArray.size) (fun i k v => its.toArray[i]? = some k ∧ its2.toArray[i]? = some v) rs :=
    ⟨by simpa using e2, fun i k v q => e3 i k v (by simpa using q.1) (by simpa using q.2)⟩
  refine _root_.PySem.call_dict_pairs (s := { st1 with heap := h' }) P (J1.ok.hd hcalm) ⟨c1, ⟨_, _, c3⟩, c2, ⟨⟨_, c4, rfl, rfl⟩, B1.keeps _ _ p1.isList kp⟩, ⟨⟨_, c5, rfl, rfl⟩, B2.keeps _ _ p2 kp⟩⟩ PH (by have := n1; have := n2; simp only [List.size_toArray]; omega) fun h2 tk isd kp2 => ?_
  replace isd : h2.DictOf (mixKind X.prog X.w) h'.objs.size (merged [] rs) := isd
  have low : st1.heap.objs.size ≤ h'.objs.size := by rw [size]; exact Nat.le_add_right _ _
  have big : sysModules < h'.objs.size := Nat.lt_of_lt_of_le J1.big low
  have ne : (h'.objs.size == sysModules) = false := beq_eq_false_iff_ne.mpr (Nat.ne_of_gt big)
  have few : (mergeK [] (ks.zip xs)).length ≤ sizeLine := by
    refine Nat.le_trans (length_mergeK _ []) ?_
    rw [List.length_nil, Nat.zero_add, List.length_zip]
    omega
  refine ⟨.ref h'.objs.size, upd H1 h'.objs.size (.dK (mergeK [] (ks.zip xs))), J1.laid (t' := tk) (fun c o q => kp2 c o (fun hm => ?_) (kp c o q)) low (show ObjOk X.prog X.w _ _ _ (.dK (mergeK [] (ks.zip xs))) from ⟨few, ne, merged [] rs, KV.merge e1 .nil, isd⟩), rfl, now _ (J1.hok.fresh low)⟩
  have cl := Heap.lt_size q
  have either : c = st1.heap.objs.size + 4 ∨ c = st1.heap.objs.size + 3 ∨ c = st1.heap.objs.size ∨ c = st1.heap.objs.size + 1 := by simpa using hm
  rcases either with y | y | y | y <;> rw [y] at cl
  · exact absurd cl (Nat.not_lt.mpr (Nat.le_add_right _ _))
  · exact absurd cl (Nat.not_lt.mpr (Nat.le_add_right _ _))
  · exact absurd cl (Nat.lt_irrefl _)
  · exact absurd cl (Nat.not_lt.mpr (Nat.le_add_right _ _))
theorem one_at {K : PySem.W.Frag} {a : Addr} {od : Option Addr} {z : Str} {t1 : Tok} {n : Nat} {sl : Array (Option Value)} (l : K.lookup a = some ⟨.type "tuple", od, .seq #[.str z t1] n, sl⟩) (H : Hp) : SqT K H a [.str z] :=
  .inr ⟨_, _, _, l, rfl, rfl, (show 1 ≤ sizeLine by decide), .cons ⟨_, rfl⟩ .nil⟩
section
variable {P : Program} {w : World} {K : PySem.W.Frag} {mg : Str → Option Value} {base : Heap}
def sp_law_flow (K : PySem.W.Frag) : Sp := fun vs H Q _ => ∃ (a : Addr) (ns : List Int), vs = [.ref a] ∧ SqL K H a (ns.map V.int) ∧ ∀ (f c : Addr) (H' : Hp), H f = none → H c = none → Flow H' f c → Same H H' → Q (.ref f) H'
theorem ok_law_flow {f : Addr} {fd : FuncData} (F : Fun K "_law_flow" "_law_flow" s_law_flow f fd) (T : Top K mg) : FnOk P w K mg base CX0 1 f fd ["_law_script"] (sp_law_flow K) := by
  refine F.ok sc_law_flow (fun vs H Q E h => ?_) (fun cdv A outer s H vs Q E hr h => ?_)
  · obtain ⟨a, ns, rfl, _⟩ := h
    rfl
  obtain ⟨a, ns, rfl, hS, q⟩ := h
  refine ⟨_, (pss_one (ps_ret (pe_lst (pa_cons (pe_callTy (call_list_ofK K rfl) (by rfl) T.m_list (by decide +kernel) (pa_cons (pv 0) pa_nil)) (pa_cons pe_int (pa_cons pe_int (pa_cons pe_int (pa_cons pe_int pa_nil)))))))), ?_⟩
  refine ⟨_, rfl, a, _, rfl, .inl hS, fun c hc => ?_⟩
  refine ⟨(by show 5 ≤ sizeLine; decide), fun f hf => ?_⟩
  have nf : H f = none := by
    cases e : H f with
    | none => rfl
    | some o => rw [same_new hc _ _ e] at hf; cases hf
  have s1 := same_new (o := .lst (ns.map V.int)) hc
  refine q f c _ nf hc ⟨ns, 0, 0, 1, 0, upd_same, same_new hf _ _ upd_same, by decide, by decide, by decide, by decide⟩ fun b o e => same_new hf _ _ (s1 _ _ e)
def sp_law_pick (K : PySem.W.Frag) : Sp := fun vs H Q _ => ∃ (f c : Addr) (m : Int), vs = [.ref f, .int m] ∧ 0 < m ∧ m.natAbs.log2 < 9000 ∧ Flow H f c ∧
  ∀ (v : Int) (H' : Hp), 0 ≤ v → v < m → Flow H' f c → But f H H' → Q (.int v) H'
theorem ok_law_pick {f : Addr} {fd : FuncData} (F : Fun K "_law_pick" "_law_pick" s_law_pick f fd) (T : Top K mg) : FnOk P w K mg base CX0 1 f fd ["_law_flow_here", "_law_many"] (sp_law_pick K) := by
  refine F.ok sc_law_pick (fun vs H Q E h => ?_) (fun cdv A outer s H vs Q E hr h => ?_)
  · obtain ⟨f, c, m, rfl, _⟩ := h
    rfl
  obtain ⟨f, c, m, rfl, m0, m9, hF, q⟩ := h
  obtain ⟨ns, i, p, z, r, hf, hc, hi, hp, hz, hz2⟩ := hF
  have ncf : c ≠ f := ne_of hc hf (by intro e; injection e with e; cases ns with | nil => cases e | cons x l => cases e)
  let R1 : TS := fun D' σ' H' => D'.rt = Q ∧ ∃ x2 : Option V, σ' = [some (.ref f), some (.int m), x2, none] ∧ (∃ (i p z r : Int), H' f = some (.lst [.ref c, .int i, .int p, .int z, .int r]) ∧ H' c = some (.lst (ns.map V.int)) ∧ 0 ≤ i ∧ 0 ≤ p ∧ 0 ≤ z ∧ z < 2147483647) ∧ But f H H'
  refine ⟨_, (pss_cons (ps_if (PW.pt (pw_and (pt_cmpR op_eq (pe_ix (ix_listK K rfl) (pv 0) pe_int (fun _ _ => rfl)) pe_int (nomark _)) (pw_and1 (pt_cmpR op_lt (pe_ix (ix_listK K rfl) (pv 0) pe_int (fun _ _ => rfl)) (pe_callB (call_len_seqK K rfl) (by rfl) T.m_len (by decide +kernel) (pa_cons (pe_ix (ix_listK K rfl) (pv 0) pe_int (fun _ _ => rfl)) pa_nil)) (nomark _))))) (pss_cons (ps_set (i := 2) sc_law_pick.nd rfl (Or.inl rfl) (pe_ix (ix_listK K rfl) (pe_ix (ix_listK K rfl) (pv 0) pe_int (fun _ _ => rfl)) (pe_ix (ix_listK K rfl) (pv 0) pe_int (fun _ _ => rfl)) (fun _ _ => rfl)))
      (pss_cons (ps_asg (pe_op op_add (pe_ix (ix_listK K rfl) (pv 0) pe_int (fun _ _ => rfl)) pe_int) (pg_sub (pv 0) pe_int set_list))
      (pss_one (ps_if (pt_cmpR op_ge (pv 2) (pe_op op_pow pe_int pe_int) (nomark _)) (pss_one (ps_asg (pv 2) (pg_sub (pv 0) pe_int set_list))) (pss_one (ps_asg (pe_op op_mod (pe_op op_add (pe_op op_add (pe_op op_mul (pe_ix (ix_listK K rfl) (pv 0) pe_int (fun _ _ => rfl)) pe_int) (pe_op op_mod (pv 2) pe_int)) pe_int) pe_int) (pg_sub (pv 0) pe_int set_list))))))) pss_nil)
      (PSs.to (pss_cons (ps_if (pt_cmpR op_gt (pe_ix (ix_listK K rfl) (pv 0) pe_int (fun _ _ => rfl)) pe_int (nomark _)) (pss_cons (ps_set (i := 3) sc_law_pick.nd rfl (Or.inl rfl) (pe_op op_mod (pe_ix (ix_listK K rfl) (pv 0) pe_int (fun _ _ => rfl)) (pv 1)))
      (pss_cons (ps_asg (pe_op op_fdivW (pe_ix (ix_listK K rfl) (pv 0) pe_int (fun _ _ => rfl)) (pv 1)) (pg_sub (pv 0) pe_int set_list))
      (pss_one (ps_ret (pv 3))))) pss_nil)
      (pss_cons (ps_asg (pe_op op_add (pe_ix (ix_listK K rfl) (pv 0) pe_int (fun _ _ => rfl)) pe_int) (pg_sub (pv 0) pe_int set_list))
      (pss_cons (ps_asg (pe_op op_mod (pe_op op_add (pe_op op_add (pe_op op_mul (pe_ix (ix_listK K rfl) (pv 0) pe_int (fun _ _ => rfl)) pe_int) pe_int) (pe_ix (ix_listK K rfl) (pv 0) pe_int (fun _ _ => rfl))) pe_int) (pg_sub (pv 0) pe_int set_list))
      (pss_one (ps_ret (pe_op op_mod (pe_op op_fdiv (pe_op op_mod (pe_op op_mul (pe_op op_add (pe_op op_mod (pe_ix (ix_listK K rfl) (pv 0) pe_int (fun _ _ => rfl)) pe_int) pe_int) (pe_op op_add (pe_op op_fdiv (pe_ix (ix_listK K rfl) (pv 0) pe_int (fun _ _ => rfl)) pe_int) pe_int)) pe_int) pe_int) (pv 1))))))) R1 ?tail1)), ?_⟩
  case tail1 =>
    rintro D' σ' H1 ⟨eD, x2, rfl, ⟨i, p, z, r, hf, hc, hi, hp, hz, hz2⟩, bt⟩
    refine ⟨_, rfl, f, _, _, _, rfl, rfl, SqL.of hf, atI_nat (j := 2) rfl, _, _, rfl, rfl, _, rfl, if_bl (fun c1 => ?_) (fun c1 => ?_)⟩
    · refine ⟨_, rfl, f, _, _, _, rfl, rfl, SqL.of hf, atI_nat (j := 2) rfl, _, rfl, _, _, rfl, rfl, m0, ?_⟩
      refine ⟨_, rfl, f, _, _, _, rfl, rfl, SqL.of hf, atI_nat (j := 2) rfl, _, rfl, _, _, rfl, rfl, ⟨m0, m9⟩, _, rfl, f, _, _, 2, rfl, rfl, hf, rfl, ?_⟩
      refine ⟨_, rfl, ?_⟩
      rw [eD]
      exact q _ _ (Int.emod_nonneg _ (by omega)) (Int.emod_lt_of_pos _ m0) ⟨ns, i, p / m, z, r, upd_same, (by rw [upd_ne ncf]; exact hc), hi, Int.ediv_nonneg hp (by omega), hz, hz2⟩ bt.upd
    · refine ⟨_, rfl, f, _, _, _, rfl, rfl, SqL.of hf, atI_nat (j := 4) rfl, _, _, rfl, rfl, _, rfl, f, _, _, 4, rfl, rfl, hf, rfl, ?_⟩
      have hf2 : upd H1 f (.lst ([V.ref c, V.int i, V.int p, V.int z, V.int r].set 4 (V.int (r + 1)))) f = some (.lst [.ref c, .int i, .int p, .int z, .int (r + 1)]) := upd_same
      refine ⟨_, rfl, f, _, _, _, rfl, rfl, SqL.of hf2, atI_nat (j := 3) rfl, _, _, rfl, rfl, .inl ⟨by omega, by omega⟩, _, _, rfl, rfl, _, rfl, f, _, _, _, rfl, rfl, SqL.of hf2, atI_nat (j := 4) rfl, _, _, rfl, rfl, _, _, rfl, rfl, (by show (0 : Int) < 2147483647; decide), _, rfl, f, _, _, 3, rfl, rfl, hf2, rfl, ?_⟩
      have z0 : 0 ≤ (z * 48271 + 12820163 + (r + 1)) % 2147483647 := Int.emod_nonneg _ (by decide)
      have z1 : (z * 48271 + 12820163 + (r + 1)) % 2147483647 < 2147483647 := Int.emod_lt_of_pos _ (by decide)
      have hf3 : upd (upd H1 f (.lst ([V.ref c, V.int i, V.int p, V.int z, V.int r].set 4 (V.int (r + 1))))) f (.lst ([V.ref c, V.int i, V.int p, V.int z, V.int (r + 1)].set 3 (V.int ((z * 48271 + 12820163 + (r + 1)) % 2147483647)))) f =
        some (.lst [.ref c, .int i, .int p, .int ((z * 48271 + 12820163 + (r + 1)) % 2147483647), .int (r + 1)]) := upd_same
      have hc3 : upd (upd H1 f (.lst ([V.ref c, V.int i, V.int p, V.int z, V.int r].set 4 (V.int (r + 1))))) f (.lst ([V.ref c, V.int i, V.int p, V.int z, V.int (r + 1)].set 3 (V.int ((z * 48271 + 12820163 + (r + 1)) % 2147483647)))) c = some (.lst (ns.map V.int)) := by
        rw [upd_ne ncf, upd_ne ncf]
        exact hc
      refine ⟨_, rfl, f, _, _, _, rfl, rfl, SqL.of hf3, atI_nat (j := 3) rfl, _, _, rfl, rfl, (by show (0 : Int) < 65521; decide), _, _, rfl, rfl, _, rfl, f, _, _, _, rfl, rfl, SqL.of hf3, atI_nat (j := 3) rfl, _, _, rfl, rfl, ⟨by decide, by decide⟩, _, _, rfl, rfl, _, _, rfl, rfl, .inl ⟨?_, ?_⟩, _, _, rfl, rfl, (by show (0 : Int) < 1000003; decide), _, _, rfl, rfl, ⟨by decide, by decide⟩, _, rfl, _, _, rfl, rfl, m0, ?_⟩
      · omega
      · omega
      · rw [eD]
        exact q _ _ (Int.emod_nonneg _ (by omega)) (Int.emod_lt_of_pos _ m0) ⟨ns, i, p, _, r + 1, hf3, hc3, hi, hp, z0, z1⟩ bt.upd.upd
  refine ⟨_, rfl, f, _, _, _, rfl, rfl, SqL.of hf, atI_nat (j := 2) rfl, rfl, _, rfl, if_bl (fun c1 => ?_) (fun c1 => ?_)⟩
  · refine ⟨_, rfl, f, _, _, _, rfl, rfl, SqL.of hf, atI_nat (j := 1) rfl, _, rfl, f, _, _, _, rfl, rfl, SqL.of hf, atI_nat (j := 0) rfl, c, _, rfl, .inl (SqL.of hc), _, _, rfl, rfl, _, rfl, if_bl (fun c2 => ?_) (fun c2 => ?_)⟩
    · have c3 : i < ((ns.map V.int).length : Int) := of_decide_eq_true c2
      rw [List.length_map] at c3
      obtain ⟨v, hv⟩ := at_ints hi c3
      refine ⟨_, rfl, f, _, _, _, rfl, rfl, SqL.of hf, atI_nat (j := 0) rfl, _, rfl, f, _, _, _, rfl, rfl, SqL.of hf, atI_nat (j := 1) rfl, c, _, i, _, rfl, rfl, SqL.of hc, hv, ?_⟩
      refine ⟨_, rfl, f, _, _, _, rfl, rfl, SqL.of hf, atI_nat (j := 1) rfl, _, _, rfl, rfl, _, rfl, f, _, _, 1, rfl, rfl, hf, rfl, ?_⟩
      have hf2 : upd H f (.lst ([V.ref c, V.int i, V.int p, V.int z, V.int r].set 1 (V.int (i + 1)))) f = some (.lst [.ref c, .int (i + 1), .int p, .int z, .int r]) := upd_same
      refine ⟨_, rfl, _, _, rfl, rfl, ⟨by decide, by decide, by decide⟩, _, _, rfl, rfl, _, rfl, if_bl (fun c4 => ?_) (fun c4 => ?_)⟩
      · have c5 : (10 : Int) ^ (18 : Int).toNat ≤ v := of_decide_eq_true c4
        have c6 : (0 : Int) ≤ (10 : Int) ^ (18 : Int).toNat := by decide
        refine ⟨_, rfl, _, rfl, f, _, _, 2, rfl, rfl, hf2, rfl, rfl, _, rfl, ⟨i + 1, v, z, r, upd_same, ?_, by omega, by omega, hz, hz2⟩, But.refl.upd.upd⟩
        rw [upd_ne ncf, upd_ne ncf]
        exact hc
      · refine ⟨_, rfl, f, _, _, _, rfl, rfl, SqL.of hf2, atI_nat (j := 3) rfl, _, _, rfl, rfl, .inl ⟨by omega, by omega⟩, _, rfl, _, _, rfl, rfl, (by show (0 : Int) < 1000003; decide), _, _, rfl, rfl, _, _, rfl, rfl, _, _, rfl, rfl, (by show (0 : Int) < 2147483647; decide), _, rfl, f, _, _, 3, rfl, rfl, hf2, rfl, rfl, _, rfl, ⟨i + 1, p, _, r, upd_same, ?_, by omega, hp, Int.emod_nonneg _ (by decide), Int.emod_lt_of_pos _ (by decide)⟩, But.refl.upd.upd⟩
        rw [upd_ne ncf, upd_ne ncf]
        exact hc
    · exact ⟨rfl, _, rfl, ⟨i, p, z, r, hf, hc, hi, hp, hz, hz2⟩, But.refl⟩
  · exact ⟨rfl, _, rfl, ⟨i, p, z, r, hf, hc, hi, hp, hz, hz2⟩, But.refl⟩
end
/-! ### rooms: what they are -/
/-- a hand: its rule's word, its number if it has one, its moments -/
structure HR where
  wd : Str
  no : Option Int
  mom : Int
/-- a belt -/
structure BR where
  one : Nat
  to : Nat
  th : List Int
abbrev ruleL (h : HR) : List V := .str h.wd :: (match h.no with | none => [] | some n => [.int n])
def HandAt (H : Hp) (v : V) (h : HR) : Prop := ∃ t r : Addr, v = .ref t ∧ H t = some (.tup [.ref r, .int h.mom]) ∧ H r = some (.tup (ruleL h))
def BeltAt (H : Hp) (v : V) (b : BR) : Prop := ∃ t g : Addr, v = .ref t ∧ H t = some (.tup [.int (b.one : Nat), .int (b.to : Nat), .ref g]) ∧ H g = some (.tup (b.th.map V.int))
theorem HandAt.keep {H H' : Hp} {v : V} {h : HR} (a : HandAt H v h) (k : TK H H') : HandAt H' v h := by
  obtain ⟨t, r, e, e1, e2⟩ := a
  exact ⟨t, r, e, k _ _ e1, k _ _ e2⟩
theorem BeltAt.keep {H H' : Hp} {v : V} {b : BR} (a : BeltAt H v b) (k : TK H H') : BeltAt H' v b := by
  obtain ⟨t, r, e, e1, e2⟩ := a
  exact ⟨t, r, e, k _ _ e1, k _ _ e2⟩
def nine : List Str := ["always", "same", "times", "sum", "gap", "below", "most", "least", "pick"]
def needs (wd : Str) : Int := if wd ∈ (["in", "always"] : List Str) then 0 else if wd ∈ (["out", "same", "times"] : List Str) then 1 else 2 + (if wd = "pick" then 1 else 0)
/-- a rule of one of the nine words -/
structure GoodRule (h : HR) : Prop where
  wd : h.wd ∈ nine
  no : h.no.isSome = true ↔ h.wd = "times" ∨ h.wd = "always"
  big : ∀ n, h.no = some n → -1000000 ≤ n ∧ n ≤ 1000000
def GoodHand (h : HR) : Prop := (GoodRule h ∨ ((h.wd = "in" ∨ h.wd = "out") ∧ h.no = none)) ∧ 0 ≤ h.mom ∧ h.mom ≤ 30
def Small (v : Int) : Prop := -1000000 ≤ v ∧ v ≤ 1000000
section
variable {P : Program} {w : World} {K : PySem.W.Frag} {mg : Str → Option Value} {base : Heap}
def sp_law_thing (K : PySem.W.Frag) : Sp := fun vs H Q _ => ∃ f c : Addr, vs = [.ref f] ∧ Flow H f c ∧ ∀ (v : Int) (H' : Hp), Small v → Flow H' f c → But f H H' → Q (.int v) H'
theorem ok_law_thing {f : Addr} {fd : FuncData} (F : Fun K "_law_thing" "_law_thing" s_law_thing f fd) (T : Top K mg) : FnOk P w K mg base CX0 2 f fd ["_law_flow_here"] (sp_law_thing K) := by
  obtain ⟨f_law_pick, fd_law_pick, F_law_pick, b_law_pick, m_law_pick⟩ := T.d_law_pick
  have G_law_pick := ok_law_pick (P := P) (w := w) (base := base) F_law_pick T
  refine F.ok sc_law_thing (fun vs H Q E h => ?_) (fun cdv A outer s H vs Q E hr h => ?_)
  · obtain ⟨f, c, rfl, _⟩ := h
    rfl
  obtain ⟨f, c, rfl, hF, q⟩ := h
  refine ⟨_, (pss_cons (ps_if (pt_cmpR op_gt (pe_call G_law_pick (hr.mono (by decide)) (by rfl) m_law_pick F_law_pick.kp b_law_pick .nil pass0 (pa_cons (pv 0) (pa_cons pe_int pa_nil))) pe_int (nomark _)) (pss_one (ps_ret (pe_op op_sub (pe_call G_law_pick (hr.mono (by decide)) (by rfl) m_law_pick F_law_pick.kp b_law_pick .nil pass0 (pa_cons (pv 0) (pa_cons pe_int pa_nil))) pe_int))) pss_nil)
      (pss_one (ps_ret (pe_op op_sub (pe_call G_law_pick (hr.mono (by decide)) (by rfl) m_law_pick F_law_pick.kp b_law_pick .nil pass0 (pa_cons (pv 0) (pa_cons pe_int pa_nil))) pe_int)))), ?_⟩
  refine ⟨_, rfl, f, c, 3, rfl, by decide, by decide +kernel, hF, fun v1 H1 a1 b1 F1 B1 => ⟨_, _, rfl, rfl, _, rfl, if_bl (fun _ => ?_) (fun _ => ?_)⟩⟩
  · exact ⟨_, rfl, f, c, 7, rfl, by decide, by decide +kernel, F1, fun v2 H2 a2 b2 F2 B2 => ⟨_, _, rfl, rfl, q _ _ ⟨by omega, by omega⟩ F2 (B1.trans B2)⟩⟩
  · exact ⟨_, rfl, f, c, 2000001, rfl, by decide, by decide +kernel, F1, fun v2 H2 a2 b2 F2 B2 => ⟨_, _, rfl, rfl, q _ _ ⟨by omega, by omega⟩ F2 (B1.trans B2)⟩⟩
def sp_law_needs (K : PySem.W.Frag) : Sp := fun vs H Q _ => ∃ (r : Addr) (wd : Str) (l : List V), vs = [.ref r] ∧ SqT K H r (.str wd :: l) ∧ ∀ H', Same H H' → Q (.int (needs wd)) H'
theorem ok_law_needs {f : Addr} {fd : FuncData} (F : Fun K "_law_needs" "_law_needs" s_law_needs f fd) (T : Top K mg) : FnOk P w K mg base CX0 1 f fd ["_law_rule_here"] (sp_law_needs K) := by
  refine F.ok sc_law_needs (fun vs H Q E h => ?_) (fun cdv A outer s H vs Q E hr h => ?_)
  · obtain ⟨r, wd, l, rfl, _⟩ := h
    rfl
  obtain ⟨r, wd, l, rfl, hR, q⟩ := h
  unfold needs at q
  refine ⟨_, (pss_cons (ps_if (pt_cmpR (op_in_seqK K rfl) (pe_ix (ix_tupK K rfl) (pv 0) pe_int (fun _ _ => rfl)) (pe_tup (pa_cons pe_str (pa_cons pe_str pa_nil))) (by with_unfolding_all rfl)) (pss_one (ps_ret pe_int)) pss_nil)
      (pss_cons (ps_if (pt_cmpR (op_in_seqK K rfl) (pe_ix (ix_tupK K rfl) (pv 0) pe_int (fun _ _ => rfl)) (pe_tup (pa_cons pe_str (pa_cons pe_str (pa_cons pe_str pa_nil)))) (by with_unfolding_all rfl)) (pss_one (ps_ret pe_int)) pss_nil)
      (pss_one (ps_ret (pe_op op_add pe_int (pe_callTy call_int1 (by rfl) T.m_int (by decide +kernel) (pa_cons (pe_cmpR op_eq (pe_ix (ix_tupK K rfl) (pv 0) pe_int (fun _ _ => rfl)) pe_str (nomark _)) pa_nil))))))), ?_⟩
  refine ⟨_, rfl, r, _, _, _, rfl, rfl, hR, atI_nat (j := 0) rfl, (by show 2 ≤ sizeLine; decide), fun p np => ⟨p, _, rfl, .inr (SqT.of upd_same), rfl, rfl, _, rfl, if_in (zs := ["in", "always"]) (fun e => ?_) (fun e => ?_)⟩⟩
  · have q := q _ (same_new (o := .tup [V.str "in", V.str "always"]) np)
    rw [if_pos e] at q
    exact q
  have s1 := same_new (o := .tup [V.str "in", V.str "always"]) np
  refine ⟨_, rfl, r, _, _, _, rfl, rfl, same_seqT s1 hR, atI_nat (j := 0) rfl, (by show 3 ≤ sizeLine; decide), fun p2 np2 => ⟨p2, _, rfl, .inr (SqT.of upd_same), rfl, rfl, _, rfl, if_in (zs := ["out", "same", "times"]) (fun e2 => ?_) (fun e2 => ?_)⟩⟩
  · have q := q _ (s1.trans (same_new (o := .tup [V.str "out", V.str "same", V.str "times"]) np2))
    rw [if_neg e, if_pos e2] at q
    exact q
  have s2 := s1.trans (same_new (o := .tup [V.str "out", V.str "same", V.str "times"]) np2)
  have q := q _ s2
  rw [if_neg e, if_neg e2] at q
  refine ⟨_, rfl, r, _, _, _, rfl, rfl, same_seqT s2 hR, atI_nat (j := 0) rfl, rfl, .inr ⟨_, rfl, _, _, rfl, rfl, ?_⟩⟩
  by_cases k : wd = "pick"
  · rw [if_pos k] at q
    rw [decide_eq_true (show V.str wd = V.str "pick" by rw [k])]
    exact q
  · rw [if_neg k] at q
    rw [decide_eq_false (show ¬ V.str wd = V.str "pick" from fun z => k (V.str.inj z))]
    exact q
theorem nine_at {m : Int} (h0 : 0 ≤ m) (h9 : m < 9) : ∃ wd : Str, wd ∈ nine ∧ atI (nine.map V.str) m = some (.str wd) ∧ (m < 1 → needs wd ≤ 0) ∧ (m < 3 → needs wd ≤ 1) ∧ (m < 8 → needs wd ≤ 2) ∧ needs wd ≤ 3 ∧ 0 ≤ needs wd := by
  have : m = 0 ∨ m = 1 ∨ m = 2 ∨ m = 3 ∨ m = 4 ∨ m = 5 ∨ m = 6 ∨ m = 7 ∨ m = 8 := by omega
  rcases this with rfl | rfl | rfl | rfl | rfl | rfl | rfl | rfl | rfl
  · exact ⟨"always", by decide +kernel, rfl, by decide +kernel, by decide +kernel, by decide +kernel, by decide +kernel, by decide +kernel⟩
  · exact ⟨"same", by decide +kernel, rfl, by decide +kernel, by decide +kernel, by decide +kernel, by decide +kernel, by decide +kernel⟩
  · exact ⟨"times", by decide +kernel, rfl, by decide +kernel, by decide +kernel, by decide +kernel, by decide +kernel, by decide +kernel⟩
  · exact ⟨"sum", by decide +kernel, rfl, by decide +kernel, by decide +kernel, by decide +kernel, by decide +kernel, by decide +kernel⟩
  · exact ⟨"gap", by decide +kernel, rfl, by decide +kernel, by decide +kernel, by decide +kernel, by decide +kernel, by decide +kernel⟩
  · exact ⟨"below", by decide +kernel, rfl, by decide +kernel, by decide +kernel, by decide +kernel, by decide +kernel, by decide +kernel⟩
  · exact ⟨"most", by decide +kernel, rfl, by decide +kernel, by decide +kernel, by decide +kernel, by decide +kernel, by decide +kernel⟩
  · exact ⟨"least", by decide +kernel, rfl, by decide +kernel, by decide +kernel, by decide +kernel, by decide +kernel, by decide +kernel⟩
  · exact ⟨"pick", by decide +kernel, rfl, by decide +kernel, by decide +kernel, by decide +kernel, by decide +kernel, by decide +kernel⟩
def sp_law_rule (K : PySem.W.Frag) : Sp := fun vs H Q _ => ∃ (f c : Addr) (m : Int), vs = [.ref f, .int m] ∧ 0 ≤ m ∧ Flow H f c ∧
  ∀ (r : Addr) (h : HR) (H' : Hp), H' r = some (.tup (ruleL h)) → GoodRule h → needs h.wd ≤ m → 0 ≤ needs h.wd → h.mom = 0 → Flow H' f c → But f H H' → Q (.ref r) H'
theorem ok_law_rule {f : Addr} {fd : FuncData} (F : Fun K "_law_rule" "_law_rule" s_law_rule f fd) (T : Top K mg) : FnOk P w K mg base CX0 3 f fd ["_law_flow_here", "_law_most"] (sp_law_rule K) := by
  obtain ⟨f_law_pick, fd_law_pick, F_law_pick, b_law_pick, m_law_pick⟩ := T.d_law_pick
  have G_law_pick := ok_law_pick (P := P) (w := w) (base := base) F_law_pick T
  obtain ⟨f_law_thing, fd_law_thing, F_law_thing, b_law_thing, m_law_thing⟩ := T.d_law_thing
  have G_law_thing := ok_law_thing (P := P) (w := w) (base := base) F_law_thing T
  refine F.ok sc_law_rule (fun vs H Q E h => ?_) (fun cdv A outer s H vs Q E hr h => ?_)
  · obtain ⟨f, c, m, rfl, _⟩ := h
    rfl
  obtain ⟨f, c, m, rfl, m0, hF, q⟩ := h
  refine ⟨_, (pss_cons (ps_set (i := 2) sc_law_rule.nd rfl (Or.inl rfl) (pe_lst (pa_cons pe_str (pa_cons pe_str (pa_cons pe_str (pa_cons pe_str (pa_cons pe_str (pa_cons pe_str (pa_cons pe_str (pa_cons pe_str (pa_cons pe_str pa_nil)))))))))))
      (pss_cons (ps_set (i := 3) sc_law_rule.nd rfl (Or.inl rfl) (pe_ix (ix_listK K rfl) (pv 2) (pe_call G_law_pick (hr.mono (by decide)) (by rfl) m_law_pick F_law_pick.kp b_law_pick .nil pass0 (pa_cons (pv 0) (pa_cons (pe_ix (ix_listK K rfl) (pe_lst (pa_cons pe_int (pa_cons pe_int (pa_cons pe_int (pa_cons pe_int pa_nil))))) (pe_callB (call_min2 rfl) (by rfl) T.m_min (by decide +kernel) (pa_cons pe_int (pa_cons (pv 1) pa_nil))) (fun _ _ => rfl)) pa_nil))) (fun _ _ => rfl)))
      (pss_cons (ps_if (pt_cmpR op_eq (pv 3) pe_str (nomark _)) (pss_one (ps_ret (pe_tup (pa_cons (pv 3) (pa_cons (pe_op op_sub (pe_call G_law_pick (hr.mono (by decide)) (by rfl) m_law_pick F_law_pick.kp b_law_pick .nil pass0 (pa_cons (pv 0) (pa_cons pe_int pa_nil))) pe_int) pa_nil))))) pss_nil)
      (pss_cons (ps_if (pt_cmpR op_eq (pv 3) pe_str (nomark _)) (pss_one (ps_ret (pe_tup (pa_cons (pv 3) (pa_cons (pe_call G_law_thing (hr.mono (by decide)) (by rfl) m_law_thing F_law_thing.kp b_law_thing .nil pass0 (pa_cons (pv 0) pa_nil)) pa_nil))))) pss_nil)
      (pss_one (ps_ret (pe_tup (pa_cons (pv 3) pa_nil)))))))), ?_⟩
  refine ⟨(by show 9 ≤ sizeLine; decide), fun wl nwl => ?_⟩
  have F1 : Flow (upd H wl (.lst (nine.map V.str))) f c := hF.new nwl
  refine ⟨_, rfl, _, rfl, (by show 4 ≤ sizeLine; decide), fun cl ncl => ?_⟩
  have F2 : Flow (upd (upd H wl (.lst (nine.map V.str))) cl (.lst [V.int 1, V.int 3, V.int 8, V.int 9])) f c := F1.new ncl
  have B2 : But f H (upd (upd H wl (.lst (nine.map V.str))) cl (.lst [V.int 1, V.int 3, V.int 8, V.int 9])) := (But.refl.new nwl).new ncl
  obtain ⟨j, hj, j1, j9, jn⟩ : ∃ j : Int, atI [V.int 1, V.int 3, V.int 8, V.int 9] (if m < 3 then m else 3) = some (.int j) ∧ 1 ≤ j ∧ j ≤ 9 ∧ ((j = 1 ∧ m = 0) ∨ (j = 3 ∧ m = 1) ∨ (j = 8 ∧ m = 2) ∨ (j = 9 ∧ 3 ≤ m)) := by
    by_cases k : m < 3
    · rw [if_pos k]
      have : m = 0 ∨ m = 1 ∨ m = 2 := by omega
      rcases this with rfl | rfl | rfl
      · exact ⟨1, rfl, by decide, by decide, by decide⟩
      · exact ⟨3, rfl, by decide, by decide, by decide⟩
      · exact ⟨8, rfl, by decide, by decide, by decide⟩
    · rw [if_neg k]
      exact ⟨9, rfl, by decide, by decide, by omega⟩
  refine ⟨_, rfl, _, _, rfl, cl, _, _, _, rfl, rfl, SqL.of upd_same, hj, f, c, j, rfl, by omega, ?_, F2, fun v H1 v0 v1 F3 B3 => ?_⟩
  · have : j = 1 ∨ j = 3 ∨ j = 8 ∨ j = 9 := by omega
    rcases this with rfl | rfl | rfl | rfl <;> decide +kernel
  obtain ⟨wd, hw, hat, n1, n3, n8, n9, n0⟩ := nine_at v0 (by omega)
  have hn : needs wd ≤ m := by
    rcases jn with ⟨rfl, rfl⟩ | ⟨rfl, rfl⟩ | ⟨rfl, rfl⟩ | ⟨rfl, k⟩
    · exact n1 v1
    · exact n3 v1
    · exact n8 v1
    · omega
  have hwl : H1 wl = some (.lst (nine.map V.str)) := B3 _ _ (same_new ncl _ _ upd_same) (hF.ne nwl)
  refine ⟨wl, _, _, _, rfl, rfl, SqL.of hwl, hat, ?_⟩
  have BB := B2.trans B3
  refine ⟨_, rfl, rfl, _, rfl, if_str (fun e => ?_) (fun e => ?_)⟩
  · refine ⟨_, rfl, _, rfl, f, c, 19, rfl, by decide, by decide +kernel, F3, fun v2 H2 a2 b2 F4 B4 => ⟨_, _, rfl, rfl, (by show 2 ≤ sizeLine; decide), fun r nr => ?_⟩⟩
    exact q r ⟨wd, some (v2 - 9), 0⟩ _ upd_same ⟨hw, ⟨fun _ => .inl e, fun _ => rfl⟩, fun n en => by cases en; exact ⟨by omega, by omega⟩⟩ hn n0 rfl (F4.new nr) ((BB.trans B4).new nr)
  refine ⟨_, rfl, rfl, _, rfl, if_str (fun e2 => ?_) (fun e2 => ?_)⟩
  · refine ⟨_, rfl, _, rfl, f, c, rfl, F3, fun v2 H2 s2 F4 B4 => ⟨(by show 2 ≤ sizeLine; decide), fun r nr => ?_⟩⟩
    exact q r ⟨wd, some v2, 0⟩ _ upd_same ⟨hw, ⟨fun _ => .inr e2, fun _ => rfl⟩, fun n en => by cases en; exact s2⟩ hn n0 rfl (F4.new nr) ((BB.trans B4).new nr)
  · refine ⟨_, rfl, (by show 1 ≤ sizeLine; decide), fun r nr => ?_⟩
    exact q r ⟨wd, none, 0⟩ _ upd_same ⟨hw, ⟨(fun z => nomatch z), fun z => absurd z (fun z => z.elim e e2)⟩, (fun n en => nomatch en)⟩ hn n0 rfl (F3.new nr) (BB.new nr)
def sp_law_shuffled (K : PySem.W.Frag) : Sp := fun vs H Q _ => ∃ (f c l : Addr) (xs : List V), vs = [.ref f, .ref l] ∧ SqL K H l xs ∧ l ≠ f ∧ xs.length ≤ 500 ∧ Flow H f c ∧
  ∀ (p : Addr) (ys : List V) (H' : Hp), ys.Perm xs → H p = none → H' p = some (.lst ys) → Flow H' f c → But f H H' → Q (.ref p) H'
theorem But.seqL {K : PySem.W.Frag} {f a : Addr} {H H1 : Hp} {xs : List V} (b : But f H H1) (h : SqL K H a xs) (n : a ≠ f) : SqL K H1 a xs := by
  rcases h with h | h
  · left
    rcases h with h | ⟨o, h⟩
    · exact .inl (b _ _ h n)
    · exact .inr ⟨o, b _ _ h n⟩
  · exact .inr h
theorem same_seqL {K : PySem.W.Frag} {a : Addr} {H H1 : Hp} {xs : List V} (b : Same H H1) (h : SqL K H a xs) : SqL K H1 a xs := by
  rcases h with h | h
  · left
    rcases h with h | ⟨o, h⟩
    · exact .inl (b _ _ h)
    · exact .inr ⟨o, b _ _ h⟩
  · exact .inr h
theorem log_small {m : Nat} (h : m ≤ 500) : ((m : Int)).natAbs.log2 < 9000 := by
  rw [Int.natAbs_natCast]
  exact Nat.lt_of_le_of_lt (Nat.log2_le_self m) (by omega)
theorem perm_erase {α : Type} : ∀ {l : List α} {j : Nat} {y : α}, l[j]? = some y → (y :: l.eraseIdx j).Perm l
  | [], _, _, h => nomatch h
  | a :: l, 0, y, h => by
    cases h
    exact List.Perm.refl _
  | a :: l, j + 1, y, h => by
    have ih : (y :: l.eraseIdx j).Perm l := perm_erase h
    exact (List.Perm.swap a y _).trans (ih.cons a)
theorem ok_law_shuffled {f : Addr} {fd : FuncData} (F : Fun K "_law_shuffled" "_law_shuffled" s_law_shuffled f fd) (T : Top K mg) : FnOk P w K mg base CX0 2 f fd ["_law_flow_here", "_law_some"] (sp_law_shuffled K) := by
  obtain ⟨f_law_pick, fd_law_pick, F_law_pick, b_law_pick, m_law_pick⟩ := T.d_law_pick
  have G_law_pick := ok_law_pick (P := P) (w := w) (base := base) F_law_pick T
  refine F.ok sc_law_shuffled (fun vs H Q E h => ?_) (fun cdv A outer s H vs Q E hr h => ?_)
  · obtain ⟨f, c, l, xs, rfl, _⟩ := h
    rfl
  obtain ⟨f, c, l, xs, rfl, hL, nl, hlen, hF, q⟩ := h
  refine ⟨_, (pss_cons (ps_set (i := 2) sc_law_shuffled.nd rfl (Or.inr rfl) (pe_callTy (call_list_ofK K rfl) (by rfl) T.m_list (by decide +kernel) (pa_cons (pv 1) pa_nil)))
      (pss_one (ps_ret (pe_lc (own := [("_law_k", 3)]) (g := gName 3) (tt := tYes) (by rfl) sc_law_shuffled.nd (pi_range1 (by rfl) T.m_range (pa_cons (pe_callB (call_len_seqK K rfl) (by rfl) T.m_len (by decide +kernel) (pa_cons (pv 1) pa_nil)) pa_nil)) (blkOk_by (own := [("_law_k", 3)]) (N := N_law_shuffled) (sc := defScope s_law_shuffled) (by decide +kernel)) (fun _ _ _ _ _ => (pg_name (i := 3) sc_law_shuffled.nd rfl (Or.inl rfl))) (fun _ _ _ _ _ => pts_nil) (fun _ _ _ _ _ => (pe_bmK K rfl PySem.F.plainAttrs_list PySem.F.slot_list_pop PySem.F.type_list_pop mt_popAt (pv 2) (pa_cons (pe_call G_law_pick (hr.mono (by decide)) (by rfl) m_law_pick F_law_pick.kp b_law_pick .nil pass0 (pa_cons (pv 0) (pa_cons (pe_callB (call_len_seqK K rfl) (by rfl) T.m_len (by decide +kernel) (pa_cons (pv 2) pa_nil)) pa_nil))) pa_nil))))))), ?_⟩
  refine ⟨_, rfl, l, _, rfl, .inl hL, fun lf nlf => ?_⟩
  refine ⟨_, rfl, l, _, rfl, .inl (same_seqL (same_new nlf) hL), _, rfl, by omega, (by omega), fun D nD => ?_⟩
  have F1 : Flow (upd H lf (.lst xs)) f c := hF.new nlf
  have dl : D ≠ lf := (ne_of_none upd_same nD).symm
  refine lc_range (lo := 0) (n := xs.length) (fun i H5 => ∃ acc rest : List V, H5 D = some (.lst acc) ∧ H5 lf = some (.lst rest) ∧ acc.length = i ∧ rest.length + i = xs.length ∧ (acc ++ rest).Perm xs ∧ Flow H5 f c ∧ But f H H5)
    ⟨[], xs, upd_same, by rw [upd_ne dl.symm]; exact upd_same, rfl, by omega, List.Perm.refl _, F1.new nD, (But.refl.new nlf).new nD⟩ ?_ ?_
  · rintro i H5 hi ⟨acc, rest, hD, hl, ha, hr2, hp, F5, B5⟩
    refine ⟨rfl, yes_in ?_⟩
    refine ⟨_, rfl, .inl ⟨rfl, _, SqL.of hl⟩, _, rfl, _, rfl, lf, _, rfl, .inl (SqL.of hl), f, c, ((rest.length : Nat) : Int), rfl, by omega, log_small (by omega), F5, fun v H6 v0 v1 F6 B6 => ?_⟩
    have hl6 := B6 _ _ hl (hF.ne nlf)
    have hv : v.toNat < rest.length := by omega
    have e1 : seqIndex? v rest.length = some v.toNat := by
      rw [seqIndex_of v0 (by omega)]
    refine ⟨lf, rest, v, v.toNat, rest[v.toNat], rfl, rfl, hl6, by omega, by omega, e1, List.getElem?_eq_getElem hv, ?_⟩
    have hD6 := B6 _ _ hD (fun e => by rw [e] at nD; rw [show upd H lf (.lst xs) f = H f from upd_ne (hF.ne nlf).symm] at nD; obtain ⟨_, _, _, _, _, e1, _⟩ := hF; rw [e1] at nD; cases nD)
    refine ⟨acc, by rw [upd_ne dl]; exact hD6, small1000 (by omega), acc ++ [rest[v.toNat]], rest.eraseIdx v.toNat, upd_same, by rw [upd_ne dl.symm]; exact upd_same, by rw [List.length_append, ha]; rfl, ?_, ?_, ?_, ?_⟩
    · rw [List.length_eraseIdx, if_pos hv]
      omega
    · refine List.Perm.trans ?_ hp
      rw [List.append_assoc]
      exact List.Perm.append_left acc (perm_erase (List.getElem?_eq_getElem hv))
    · have dc : D ≠ c := fun e => by
        rw [e] at nD
        obtain ⟨_, _, _, _, _, _, e1, _⟩ := F1
        rw [e1] at nD
        cases nD
      exact (F6.lst (hF.ne nlf) (hF.nec nlf)).lst (F1.ne nD) dc
    · exact ((B5.trans B6).own nlf).own (same_none (same_new nlf) nD)
  · rintro H5 ⟨acc, rest, hD, hl, ha, hr2, hp, F5, B5⟩
    have er : rest = [] := by
      cases rest with
      | nil => rfl
      | cons a l => simp at hr2
    subst er
    rw [List.append_nil] at hp
    exact q D acc H5 hp (same_none (same_new nlf) nD) hD F5 B5
end
/-! ### the hands of a drawn room -/
def unS : V → Str
  | .str s => s
  | _ => ""
theorem perm_strs {ys : List V} {zs : List Str} (h : ys.Perm (zs.map V.str)) : ∃ ss : List Str, ys = ss.map V.str ∧ ss.Perm zs := by
  refine ⟨ys.map unS, ?_, ?_⟩
  · rw [List.map_map]
    symm
    refine (List.map_congr_left (g := id) fun y hy => ?_).trans (List.map_id _)
    obtain ⟨z, _, e⟩ := List.mem_map.mp (h.mem_iff.mp hy)
    subst e
    rfl
  · have q := h.map unS
    rw [List.map_map] at q
    have e : zs.map (unS ∘ V.str) = zs := (List.map_congr_left (g := id) fun z _ => rfl).trans (List.map_id _)
    rw [e] at q
    exact q
theorem flat_rep {α : Type} (x : α) : ∀ n : Nat, (List.replicate n [x]).flatten = List.replicate n x
  | 0 => rfl
  | n + 1 => by
    rw [List.replicate_succ, List.flatten_cons, flat_rep x n]
    rfl
def cnt (ss : List Str) : Nat := (ss.filter fun s => !decide (s = ("in" : Str))).length
theorem cnt_le (ss : List Str) : cnt ss ≤ ss.length := List.length_filter_le ..
theorem cut_drop (xs : List V) (k : Nat) : cutV xs (some ((k : Nat) : Int)) none = xs.drop k := by
  unfold cutV
  rw [HT.sIx_nat, HT.sIx_none]
  by_cases h : k ≤ xs.length
  · rw [Nat.min_eq_left h]
    exact List.take_of_length_le (by rw [List.length_drop]; exact Nat.le_refl _)
  · rw [Nat.min_eq_right (by omega), Nat.sub_self, List.take_zero, List.drop_eq_nil_of_le (by omega)]
structure HInv (f c sl hh : Addr) (ss : List Str) (H0 H : Hp) (i : Nat) (vs : List V) (hs : List HR) (left : Int) : Prop where
  fl : Flow H f c
  bt : But f H0 H
  hsl : H sl = some (.lst (ss.map V.str))
  hhh : H hh = some (.lst vs)
  al : All2 (HandAt H) vs hs
  len : hs.length = i
  good : ∀ h ∈ hs, GoodHand h
  lf : (cnt (ss.drop i) : Int) ≤ left
  sum : (hs.map fun h => needs h.wd).sum + left = 20
  nz : ∀ h ∈ hs, 0 ≤ needs h.wd
  one : ("hand" : Str) ∈ ss.take i → ∃ h ∈ hs, h.wd ≠ "out"
  n1 : sl ≠ f
  n2 : sl ≠ hh
  n3 : hh ≠ f
  n4 : hh ≠ c
  n5 : H0 hh = none
section
variable {f c sl hh : Addr} {ss : List Str} {H0 H H' : Hp} {i : Nat} {vs : List V} {hs : List HR} {left : Int}
theorem HInv.but (s : HInv f c sl hh ss H0 H i vs hs left) (F : Flow H' f c) (b : But f H H') : HInv f c sl hh ss H0 H' i vs hs left :=
  { s with fl := F, bt := s.bt.trans b, hsl := b _ _ s.hsl s.n1, hhh := b _ _ s.hhh s.n3, al := s.al.imp fun _ _ k => k.keep (TK.but s.fl b) }
theorem HInv.new {p : Addr} {o : HO} (s : HInv f c sl hh ss H0 H i vs hs left) (n : H p = none) : HInv f c sl hh ss H0 (upd H p o) i vs hs left :=
  { s with fl := s.fl.new n, bt := s.bt.new n, hsl := same_new n _ _ s.hsl, hhh := same_new n _ _ s.hhh, al := s.al.imp fun _ _ k => k.keep (TK.new n) }
theorem HInv.same (s : HInv f c sl hh ss H0 H i vs hs left) (k : Same H H') : HInv f c sl hh ss H0 H' i vs hs left :=
  { s with fl := s.fl.same k, bt := s.bt.same k, hsl := k _ _ s.hsl, hhh := k _ _ s.hhh, al := s.al.imp fun _ _ z => z.keep (TK.same k) }
theorem HInv.step {x : V} {h : HR} {sd : Str} (s : HInv f c sl hh ss H0 H i vs hs left) (hx : HandAt H x h) (g : GoodHand h) (z : 0 ≤ needs h.wd) (k : needs h.wd + (cnt (ss.drop (i + 1)) : Int) ≤ left) (e : ss[i]? = some sd) (o : sd = "hand" → h.wd ≠ "out") :
    HInv f c sl hh ss H0 (upd H hh (.lst (vs ++ [x]))) (i + 1) (vs ++ [x]) (hs ++ [h]) (left - needs h.wd) := by
  refine { s with fl := s.fl.lst s.n3 s.n4, bt := s.bt.own s.n5, hsl := by rw [upd_ne s.n2]; exact s.hsl, hhh := upd_same, al := (s.al.snoc hx).imp fun _ _ z => z.keep (TK.lst s.hhh), len := by rw [List.length_append, s.len]; rfl, good := ?_, lf := by omega, sum := ?_, nz := ?_, one := ?_ }
  · intro y hy
    rcases List.mem_append.mp hy with hy | hy
    · exact s.good y hy
    · obtain rfl : y = h := by simpa using hy
      exact g
  · have := s.sum
    rw [List.map_append, List.sum_append]
    simp only [List.map_cons, List.map_nil, List.sum_cons, List.sum_nil]
    omega
  · intro y hy
    rcases List.mem_append.mp hy with hy | hy
    · exact s.nz y hy
    · obtain rfl : y = h := by simpa using hy
      exact z
  · intro hm
    rw [List.take_add_one, e] at hm
    rcases List.mem_append.mp hm with hm | hm
    · obtain ⟨y, h1, h2⟩ := s.one hm
      exact ⟨y, List.mem_append_left _ h1, h2⟩
    · have e2 : ("hand" : Str) = sd := by simpa using hm
      exact ⟨h, List.mem_append_right _ (by simp), o e2.symm⟩
end
theorem cnt_cons {ss : List Str} {i : Nat} {sd : Str} (e : ss[i]? = some sd) : cnt (ss.drop i) = (if sd = "in" then 0 else 1) + cnt (ss.drop (i + 1)) := by
  have hi := (List.getElem?_eq_some_iff.mp e).1
  have e2 : ss.drop i = sd :: ss.drop (i + 1) := by
    rw [List.drop_eq_getElem_cons hi, (List.getElem?_eq_some_iff.mp e).2]
  rw [e2]
  unfold cnt
  rw [List.filter_cons]
  by_cases k : sd = "in"
  · rw [if_pos k, decide_eq_true k]
    simp
  · rw [if_neg k, decide_eq_false k]
    simp only [Bool.not_false, if_true, List.length_cons]
    omega
section
variable {P : Program} {w : World} {K : PySem.W.Frag} {mg : Str → Option Value} {base : Heap}
structure HandsOk (hs : List HR) : Prop where
  len : hs.length ≤ 12
  good : ∀ h ∈ hs, GoodHand h
  sum : (hs.map fun h => needs h.wd).sum ≤ 20
  nz : ∀ h ∈ hs, 0 ≤ needs h.wd
  one : ∃ h ∈ hs, h.wd ≠ "out"
def sp_law_hands (K : PySem.W.Frag) : Sp := fun vs H Q _ => ∃ (f c : Addr) (m : Int), vs = [.ref f, .int m] ∧ 1 ≤ m ∧ m ≤ 8 ∧ Flow H f c ∧
  ∀ (p : Addr) (xs : List V) (hs : List HR) (H' : Hp), H p = none → H' p = some (.lst xs) → All2 (HandAt H') xs hs → HandsOk hs → Flow H' f c → But f H H' → Q (.ref p) H'
theorem ok_law_hands {f : Addr} {fd : FuncData} (F : Fun K "_law_hands" "_law_hands" s_law_hands f fd) (T : Top K mg) : FnOk P w K mg base CX0 4 f fd ["_law_flow_here", "_law_many"] (sp_law_hands K) := by
  obtain ⟨f_law_shuffled, fd_law_shuffled, F_law_shuffled, b_law_shuffled, m_law_shuffled⟩ := T.d_law_shuffled
  have G_law_shuffled := ok_law_shuffled (P := P) (w := w) (base := base) F_law_shuffled T
  obtain ⟨f_law_rule, fd_law_rule, F_law_rule, b_law_rule, m_law_rule⟩ := T.d_law_rule
  have G_law_rule := ok_law_rule (P := P) (w := w) (base := base) F_law_rule T
  obtain ⟨f_law_needs, fd_law_needs, F_law_needs, b_law_needs, m_law_needs⟩ := T.d_law_needs
  have G_law_needs := ok_law_needs (P := P) (w := w) (base := base) F_law_needs T
  obtain ⟨f_law_pick, fd_law_pick, F_law_pick, b_law_pick, m_law_pick⟩ := T.d_law_pick
  have G_law_pick := ok_law_pick (P := P) (w := w) (base := base) F_law_pick T
  refine F.ok sc_law_hands (fun vs H Q E h => ?_) (fun cdv A outer s H vs Q E hr h => ?_)
  · obtain ⟨f, c, m, rfl, _⟩ := h
    rfl
  obtain ⟨f, c, m, rfl, m1, m8, hF, q⟩ := h
  let R1 : TS := fun D' σ' H' => D'.rt = Q ∧ ∃ (sl : Addr) (ss : List Str), σ' = [some (.ref f), some (.int m), some (.ref sl), none, none, none, none, none, none, none] ∧ H' sl = some (.lst (ss.map V.str)) ∧ sl ≠ f ∧ ss.length ≤ 12 ∧ ("hand" : Str) ∈ ss ∧ (∀ s ∈ ss, s = "in" ∨ s = "out" ∨ s = "hand") ∧ Flow H' f c ∧ But f H H'
  refine ⟨_, (pss_cons (ps_set (i := 2) sc_law_hands.nd rfl (Or.inl rfl) (pe_op op_cat (pe_op op_cat (pe_op op_rep (pe_lst (pa_cons pe_str pa_nil)) (pe_call G_law_pick (hr.mono (by decide)) (by rfl) m_law_pick F_law_pick.kp b_law_pick .nil pass0 (pa_cons (pv 0) (pa_cons pe_int pa_nil)))) (pe_op op_rep (pe_lst (pa_cons pe_str pa_nil)) (pe_call G_law_pick (hr.mono (by decide)) (by rfl) m_law_pick F_law_pick.kp b_law_pick .nil pass0 (pa_cons (pv 0) (pa_cons pe_int pa_nil))))) (pe_op op_rep (pe_lst (pa_cons pe_str pa_nil)) (pv 1))))
      (pss_cons (ps_set (i := 2) sc_law_hands.nd rfl (Or.inl rfl) (pe_call G_law_shuffled (hr.mono (by decide)) (by rfl) m_law_shuffled F_law_shuffled.kp b_law_shuffled .nil pass0 (pa_cons (pv 0) (pa_cons (pv 2) pa_nil))))
      (PSs.to (pss_cons (ps_set (i := 3) sc_law_hands.nd rfl (Or.inl rfl) pe_int)
      (pss_cons (ps_set (i := 4) sc_law_hands.nd rfl (Or.inl rfl) (pe_lst pa_nil))
      (pss_cons (ps_for PassesOwn.never rfl (pi_enum (by rfl) T.m_enumerate (pa_cons (pv 2) pa_nil)) (pg_tupK K rfl rfl (pgs_cons (pg_name (i := 5) sc_law_hands.nd rfl (Or.inl rfl)) (pgs_cons (pg_name (i := 6) sc_law_hands.nd rfl (Or.inl rfl)) pgs_nil)))
        (pss_cons (ps_if (pt_cmpR op_eq (pv 6) pe_str (nomark _)) (pss_cons (ps_set (i := 7) sc_law_hands.nd rfl (Or.inl rfl) (pe_callB (call_len_seqK K rfl) (by rfl) T.m_len (by decide +kernel) (pa_cons (pe_lc (own := [("_law_other", 8)]) (g := gName 8) (by rfl) sc_law_hands.nd (pi_listK K rfl (pe_slice (sl_listK K rfl) (pv 2) (po_some (pe_op op_add (pv 5) pe_int)) po_none)) (blkOk_by (own := [("_law_other", 8)]) (N := N_law_hands) (sc := defScope s_law_hands) (by decide +kernel)) (fun _ _ _ _ _ => (pg_name (i := 8) sc_law_hands.nd rfl (Or.inl rfl))) (fun _ _ _ _ _ => pts_one (pt_cmpR op_ne (pv 8) pe_str (nomark _))) (fun _ _ _ _ _ => (pv 8))) pa_nil)))
      (pss_cons (ps_set (i := 9) sc_law_hands.nd rfl (Or.inl rfl) (pe_call G_law_rule (hr.mono (by decide)) (by rfl) m_law_rule F_law_rule.kp b_law_rule .nil pass0 (pa_cons (pv 0) (pa_cons (pe_op op_sub (pv 3) (pv 7)) pa_nil))))
      (pss_one (ps_expr (pe_bmK K rfl PySem.F.plainAttrs_list PySem.F.slot_list_append PySem.F.type_list_append mt_append (pv 4) (pa_cons (pe_tup (pa_cons (pv 9) (pa_cons (pe_call G_law_pick (hr.mono (by decide)) (by rfl) m_law_pick F_law_pick.kp b_law_pick .nil pass0 (pa_cons (pv 0) (pa_cons (pe_ix (ix_listK K rfl) (pe_lst (pa_cons pe_int (pa_cons pe_int (pa_cons pe_int pa_nil)))) (pe_call G_law_pick (hr.mono (by decide)) (by rfl) m_law_pick F_law_pick.kp b_law_pick .nil pass0 (pa_cons (pv 0) (pa_cons pe_int pa_nil))) (fun _ _ => rfl)) pa_nil))) pa_nil))) pa_nil)))))) (pss_one (ps_expr (pe_bmK K rfl PySem.F.plainAttrs_list PySem.F.slot_list_append PySem.F.type_list_append mt_append (pv 4) (pa_cons (pe_tup (pa_cons (pe_tup (pa_cons (pv 6) pa_nil)) (pa_cons pe_int pa_nil))) pa_nil)))))
      (pss_one (ps_set (i := 3) sc_law_hands.nd rfl (Or.inl rfl) (pe_op op_sub (pv 3) (pe_call G_law_needs (hr.mono (by decide)) (by rfl) m_law_needs F_law_needs.kp b_law_needs .nil pass0 (pa_cons (pe_ix (ix_tupK K rfl) (pe_ix (ix_listK K rfl) (pv 4) (pe_un un_neg pe_int) (fun _ _ => rfl)) pe_int (fun _ _ => rfl)) pa_nil)))))))
      (pss_one (ps_ret (pv 4)))))) R1 ?tail1))), ?_⟩
  case tail1 =>
    rintro D' σ' H1 ⟨eD, sl, ss, rfl, hsl, nsl, hlen, hhand, hall, F1, B1⟩
    refine ⟨(by show 0 ≤ sizeLine; decide), fun hh nhh => ?_⟩
    have I0 : HInv f c sl hh ss H (upd H1 hh (.lst [])) 0 [] [] 20 :=
      { fl := F1.new nhh, bt := B1.new nhh, hsl := same_new nhh _ _ hsl, hhh := upd_same, al := .nil, len := rfl, good := (fun _ h => nomatch h), lf := by have := cnt_le (ss.drop 0); rw [List.length_drop] at this; omega, sum := rfl, nz := (fun _ h => nomatch h), one := (fun h => nomatch h), n1 := nsl, n2 := ne_of_none hsl nhh, n3 := F1.ne nhh, n4 := F1.nec nhh, n5 := B1.none nhh (F1.ne nhh) }
    refine ⟨_, rfl, sl, _, rfl, SqL.of I0.hsl, for_it (n := ss.length) (fun i σ H2 => ∃ (vs : List V) (hs : List HR) (left : Int) (v5 v6 v7 v8 v9 : Option V), σ = [some (.ref f), some (.int m), some (.ref sl), some (.int left), some (.ref hh), v5, v6, v7, v8, v9] ∧ HInv f c sl hh ss H H2 i vs hs left)
      ⟨[], [], 20, none, none, none, none, none, rfl, I0⟩ ?_ ?_ ?_ ?_⟩
    · rintro i σ H2 hi ⟨vs, hs, left, v5, v6, v7, v8, v9, rfl, I⟩
      exact ⟨_, _, SqL.of I.hsl, by rw [List.getElem?_map, List.getElem?_eq_getElem hi]; rfl⟩
    · rintro σ H2 ⟨vs, hs, left, v5, v6, v7, v8, v9, rfl, I⟩
      exact ⟨_, SqL.of I.hsl, by rw [List.length_map]; exact Nat.le_refl _⟩
    · rintro i x σ H2 H3 hi ⟨vs, hs, left, v5, v6, v7, v8, v9, rfl, I⟩ ⟨t, y, rfl, nt, rfl, fy⟩
      have ei : ss[i]? = some ss[i] := List.getElem?_eq_getElem hi
      obtain ⟨sd, hsd⟩ : ∃ sd, sd = ss[i] := ⟨_, rfl⟩
      rw [← hsd] at ei
      have ey : y = V.str sd := by
        have := fy _ (SqL.of I.hsl)
        rw [List.getElem?_map, ei] at this
        exact (Option.some.inj this).symm
      subst ey
      have I1 := I.new (o := .tup [V.int ((i : Nat) : Int), V.str sd]) nt
      have hc1 := cnt_cons ei
      have hl := I.lf
      have sz : vs.length < sizeLine := small1000 (by rw [I.al.length, I.len]; omega)
      refine ⟨t, _, rfl, SqT.of upd_same, rfl, _, _, rfl, _, _, rfl, rfl, ?_⟩
      refine ⟨_, rfl, rfl, _, rfl, if_str (fun e => ?_) (fun e => ?_)⟩
      · -- a hand
        refine ⟨_, rfl, _, rfl, _, _, rfl, rfl, _, rfl, sl, _, rfl, SqL.of I1.hsl, fun cp ncp => ?_⟩
        have I2 := I1.new (o := .lst (cutV (ss.map V.str) (some (((i : Nat) : Int) + 1)) none)) ncp
        have ecut : cutV (ss.map V.str) (some (((i : Nat) : Int) + 1)) none = (ss.drop (i + 1)).map V.str := by
          rw [show ((i : Nat) : Int) + 1 = ((i + 1 : Nat) : Int) by omega, cut_drop, List.map_drop]
        refine ⟨cp, rfl, ⟨_, SqL.of upd_same⟩, fun D nD => lc_list (K := K) (a := cp) (xs := cutV (ss.map V.str) (some (((i : Nat) : Int) + 1)) none) (fun j H5 => ∃ acc : List V, H5 D = some (.lst acc) ∧ acc.length = cnt ((ss.drop (i + 1)).take j) ∧ H5 cp = some (.lst (cutV (ss.map V.str) (some (((i : Nat) : Int) + 1)) none)) ∧ HInv f c sl hh ss H H5 i vs hs left ∧ D ≠ cp ∧ D ≠ f ∧ D ≠ c ∧ D ≠ sl ∧ D ≠ hh ∧ H D = Option.none)
          ⟨[], upd_same, rfl, same_new nD _ _ upd_same, I2.new nD, (ne_of_none upd_same nD).symm, I2.fl.ne nD, I2.fl.nec nD, (ne_of_none I2.hsl nD).symm, (ne_of_none I2.hhh nD).symm, I2.bt.none nD (I2.fl.ne nD)⟩ (fun j H5 _ ⟨_, _, _, h, _⟩ => SqL.of h) ?_ ?_⟩
        · rintro j z H5 hz ⟨acc, hD, hacc, hcp, I5, d1, d2, d3, d4, d5, d6⟩
          rw [ecut, List.getElem?_map] at hz
          cases ez : (ss.drop (i + 1))[j]? with
          | none => rw [ez] at hz; cases hz
          | some so =>
            rw [ez] at hz
            obtain rfl : V.str so = z := Option.some.inj hz
            refine ⟨rfl, _, rfl, rfl, _, rfl, if_bl (fun k => ?_) (fun k => ?_)⟩
            · have k2 : ¬ so = "in" := fun y => by
                rw [y] at k
                exact absurd k (by decide +kernel)
              refine ⟨_, rfl, acc, hD, ?_, acc ++ [V.str so], upd_same, ?_, by rw [upd_ne d1.symm]; exact hcp, ?_, d1, d2, d3, d4, d5, d6⟩
              · rw [hacc]
                have := cnt_le ((ss.drop (i + 1)).take j)
                rw [List.length_take, List.length_drop] at this
                exact small1000 (by omega)
              · rw [List.length_append, hacc, List.take_add_one, ez]
                unfold cnt
                rw [List.filter_append, List.length_append]
                simp [k2]
              · exact { I5 with fl := I5.fl.lst d2 d3, bt := I5.bt.own d6, hsl := by rw [upd_ne d4.symm]; exact I5.hsl, hhh := by rw [upd_ne d5.symm]; exact I5.hhh, al := I5.al.imp fun _ _ y => y.keep (TK.lst hD) }
            · have k2 : so = "in" := by
                by_cases y : so = "in"
                · exact y
                · have k3 : (!decide (V.str so = V.str "in")) = false := k
                  rw [decide_eq_false (fun y2 => y (V.str.inj y2))] at k3
                  cases k3
              refine ⟨acc, hD, ?_, hcp, I5, d1, d2, d3, d4, d5, d6⟩
              rw [hacc, List.take_add_one, ez]
              unfold cnt
              rw [List.filter_append, List.length_append]
              simp [k2]
        · rintro H5 ⟨acc, hD, hacc, hcp, I5, d1, d2, d3, d4, d5, d6⟩
          have hacc2 : acc.length = cnt (ss.drop (i + 1)) := by
            rw [hacc, List.take_of_length_le]
            rw [ecut, List.length_map]
            exact Nat.le_refl _
          have hm0 : 0 ≤ left - ((acc.length : Nat) : Int) := by
            have hne : ¬ sd = "in" := by rw [e]; decide +kernel
            rw [hacc2]
            rw [hc1, if_neg hne] at hl
            omega
          refine ⟨D, _, rfl, .inl (SqL.of hD), ?_⟩
          refine ⟨_, rfl, _, rfl, _, rfl, _, _, rfl, rfl, f, c, _, rfl, hm0, I5.fl, fun r hR H6 hr6 gR n1 n0 mo F6 B6 => ?_⟩
          have I6 := I5.but F6 B6
          refine ⟨_, rfl, .inl ⟨rfl, _, SqL.of I6.hhh⟩, _, rfl, _, rfl, (by show 3 ≤ sizeLine; decide), fun ml nml => ?_⟩
          have I7 := I6.new (o := .lst [V.int 5, V.int 5, V.int 31]) nml
          refine ⟨_, rfl, f, c, 3, rfl, by decide, by decide +kernel, I7.fl, fun z H8 z0 z3 F8 B8 => ?_⟩
          have I8 := I7.but F8 B8
          have hml := B8 _ _ upd_same (I6.fl.ne nml)
          obtain ⟨mm, hmm, mk⟩ : ∃ mm : Int, atI [V.int 5, V.int 5, V.int 31] z = some (.int mm) ∧ (mm = 5 ∨ mm = 31) := by
            have : z = 0 ∨ z = 1 ∨ z = 2 := by omega
            rcases this with rfl | rfl | rfl
            · exact ⟨5, rfl, .inl rfl⟩
            · exact ⟨5, rfl, .inl rfl⟩
            · exact ⟨31, rfl, .inr rfl⟩
          refine ⟨ml, _, _, _, rfl, rfl, SqL.of hml, hmm, f, c, mm, rfl, by omega, (by rcases mk with rfl | rfl <;> decide +kernel), I8.fl, fun mo2 H9 o0 o1 F9 B9 => ?_⟩
          have I9 := I8.but F9 B9
          refine ⟨(by show 2 ≤ sizeLine; decide), fun t2 nt2 => ?_⟩
          have I10 := I9.new (o := .tup [V.ref r, V.int mo2]) nt2
          have sz10 : vs.length < sizeLine := sz
          refine ⟨hh, _, _, rfl, rfl, I10.hhh, sz10, ?_⟩
          have k9 : TK H6 H9 := ((TK.new nml).trans (TK.but I7.fl B8)).trans (TK.but I8.fl B9)
          have hx : HandAt (upd H9 t2 (.tup [V.ref r, V.int mo2])) (V.ref t2) ⟨hR.wd, hR.no, mo2⟩ := ⟨t2, r, rfl, upd_same, TK.new nt2 _ _ (k9 _ _ hr6)⟩
          have gd : GoodHand ⟨hR.wd, hR.no, mo2⟩ := ⟨.inl ⟨gR.wd, gR.no, gR.big⟩, o0, (show mo2 ≤ 30 by omega)⟩
          have nout : hR.wd ≠ "out" := fun y => by
            have := gR.wd
            rw [y] at this
            exact absurd this (by decide +kernel)
          have I11 := I10.step (h := ⟨hR.wd, hR.no, mo2⟩) hx gd n0 (by show needs hR.wd + _ ≤ left; rw [hacc2] at n1; omega) ei (fun _ => nout)
          refine ⟨_, rfl, _, rfl, 1, rfl, hh, _, -1, _, rfl, rfl, SqL.of I11.hhh, atI_last _ _, t2, _, _, _, rfl, rfl, SqT.of (TK.lst I10.hhh _ _ upd_same), atI_nat (j := 0) rfl, r, hR.wd, _, rfl, SqT.of (TK.lst I10.hhh _ _ (TK.new nt2 _ _ (k9 _ _ hr6))), fun H12 s12 => ⟨_, _, rfl, rfl, ?_⟩⟩
          exact ⟨_, _, _, _, _, _, _, _, rfl, I11.same s12⟩
      · -- a door
        refine ⟨_, rfl, .inl ⟨rfl, _, SqL.of I1.hhh⟩, _, rfl, (by show 1 ≤ sizeLine; decide), fun r nr => ⟨(by show 2 ≤ sizeLine; decide), fun t2 nt2 => ?_⟩⟩
        have I2 := (I1.new (o := .tup [V.str sd]) nr).new (o := .tup [V.ref r, V.int 0]) nt2
        refine ⟨hh, _, _, rfl, rfl, I2.hhh, sz, ?_⟩
        have hsd2 : sd = "in" ∨ sd = "out" := by
          rcases hall sd (List.mem_of_getElem? ei) with y | y | y
          · exact .inl y
          · exact .inr y
          · exact absurd y e
        have hn : needs sd = (if sd = "in" then 0 else 1) := by
          rcases hsd2 with y | y <;> rw [y] <;> decide +kernel
        have hx : HandAt (upd (upd (upd H2 t (.tup [V.int ((i : Nat) : Int), V.str sd])) r (.tup [V.str sd])) t2 (.tup [V.ref r, V.int 0])) (V.ref t2) ⟨sd, none, 0⟩ := ⟨t2, r, rfl, upd_same, same_new nt2 _ _ upd_same⟩
        have I3 := I2.step (h := ⟨sd, none, 0⟩) hx ⟨.inr ⟨hsd2, rfl⟩, (show (0 : Int) ≤ 0 by decide), (show (0 : Int) ≤ 30 by decide)⟩ (by show 0 ≤ needs sd; rw [hn]; split <;> decide) (by
          show needs sd + _ ≤ left
          rw [hn]
          rw [hc1] at hl
          by_cases y : sd = "in"
          · rw [if_pos y] at hl ⊢; omega
          · rw [if_neg y] at hl ⊢; omega) ei (fun y => absurd y e)
        refine ⟨_, rfl, _, rfl, 1, rfl, hh, _, -1, _, rfl, rfl, SqL.of I3.hhh, atI_last _ _, t2, _, _, _, rfl, rfl, SqT.of (TK.lst I2.hhh _ _ upd_same), atI_nat (j := 0) rfl, r, sd, _, rfl, SqT.of (TK.lst I2.hhh _ _ (same_new nt2 _ _ upd_same)), fun H12 s12 => ⟨_, _, rfl, rfl, ?_⟩⟩
        exact ⟨_, _, _, _, _, _, _, _, rfl, I3.same s12⟩
    · rintro σ H2 ⟨vs, hs, left, v5, v6, v7, v8, v9, rfl, I⟩
      refine ⟨_, rfl, ?_⟩
      rw [eD]
      refine q hh vs hs H2 I.n5 I.hhh I.al ⟨by rw [I.len]; exact hlen, I.good, ?_, I.nz, I.one (by rw [List.take_length]; exact hhand)⟩ I.fl I.bt
      have := I.sum
      have := I.lf
      omega
  refine ⟨(by show 1 ≤ sizeLine; decide), fun l1 nl1 => ?_⟩
  refine ⟨_, rfl, f, c, 3, rfl, by decide, by decide +kernel, hF.new nl1, fun v1 H1 a1 b1 F1 B1 => ?_⟩
  have g1 := B1 _ _ upd_same (hF.ne nl1)
  have small : ∀ v : Int, 0 ≤ v → v ≤ 8 → [V.str "in"].length * v.toNat ≤ sizeLine := fun v v0 v8 => little (by show 1 * v.toNat ≤ 1000; omega)
  refine ⟨l1, v1, _, rfl, rfl, g1, by omega, by omega, small v1 a1 (by omega), fun p1 np1 => ?_⟩
  rw [flat_rep]
  have F2 := F1.new (o := .lst (List.replicate v1.toNat (V.str "in"))) np1
  refine ⟨(by show 1 ≤ sizeLine; decide), fun l2 nl2 => ?_⟩
  refine ⟨_, rfl, f, c, 3, rfl, by decide, by decide +kernel, F2.new nl2, fun v2 H3 a2 b2 F3 B3 => ?_⟩
  have g2 := B3 _ _ upd_same (F2.ne nl2)
  have h1 := B3 _ _ (same_new nl2 _ _ upd_same) (F1.ne np1)
  refine ⟨l2, v2, _, rfl, rfl, g2, by omega, by omega, small v2 a2 (by omega), fun p2 np2 => ?_⟩
  rw [flat_rep]
  have F4 := F3.new (o := .lst (List.replicate v2.toNat (V.str "out"))) np2
  refine ⟨p1, p2, _, _, rfl, rfl, same_new np2 _ _ h1, upd_same, ?_, fun p3 np3 => ?_⟩
  · rw [List.length_replicate, List.length_replicate]; exact little (by omega)
  have F5 := F4.new (o := .lst (List.replicate v1.toNat (V.str "in") ++ List.replicate v2.toNat (V.str "out"))) np3
  refine ⟨(by show 1 ≤ sizeLine; decide), fun l4 nl4 => ⟨_, rfl, l4, m, _, rfl, rfl, upd_same, by omega, by omega, small m (by omega) m8, fun p5 np5 => ?_⟩⟩
  rw [flat_rep]
  have F6 := F5.new (o := .lst [V.str "hand"]) nl4
  have F7 := F6.new (o := .lst (List.replicate m.toNat (V.str "hand"))) np5
  refine ⟨p3, p5, _, _, rfl, rfl, same_new np5 _ _ (same_new nl4 _ _ upd_same), upd_same, ?_, fun p6 np6 => ?_⟩
  · rw [List.length_append, List.length_replicate, List.length_replicate, List.length_replicate]; exact little (by omega)
  refine ⟨_, rfl, _, rfl, f, c, p6, _, rfl, SqL.of upd_same, F7.ne np6, ?_, F7.new np6, fun p ys H8 hp np hy F8 B8 => ?_⟩
  · rw [List.length_append, List.length_append, List.length_replicate, List.length_replicate, List.length_replicate]; omega
  have ez : (List.replicate v1.toNat (V.str "in") ++ List.replicate v2.toNat (V.str "out")) ++ List.replicate m.toNat (V.str "hand") = ((List.replicate v1.toNat ("in" : Str) ++ List.replicate v2.toNat ("out" : Str)) ++ List.replicate m.toNat ("hand" : Str)).map V.str := by
    rw [List.map_append, List.map_append, List.map_replicate, List.map_replicate, List.map_replicate]
  rw [ez] at hp
  obtain ⟨ss, rfl, hss⟩ := perm_strs hp
  have pf : p ≠ f := fun y => by
    rw [y] at np
    obtain ⟨_, _, _, _, _, e1, _⟩ := F7.new (o := .lst ((List.replicate v1.toNat (V.str "in") ++ List.replicate v2.toNat (V.str "out")) ++ List.replicate m.toNat (V.str "hand"))) np6
    rw [e1] at np
    cases np
  refine ⟨rfl, p, ss, rfl, hy, pf, ?_, ?_, ?_, F8, But.trans ((((((((((But.refl.new nl1).trans B1).new np1).new nl2).trans B3).new np2).new np3).new nl4).new np5).new np6) B8⟩
  · rw [hss.length_eq, List.length_append, List.length_append, List.length_replicate, List.length_replicate, List.length_replicate]; omega
  · refine hss.mem_iff.mpr (List.mem_append_right _ (List.mem_replicate.mpr ⟨by omega, rfl⟩))
  · intro s hs
    rcases List.mem_append.mp (hss.mem_iff.mp hs) with hs | hs
    · rcases List.mem_append.mp hs with hs | hs
      · exact .inl (List.mem_replicate.mp hs).2
      · exact .inr (.inl (List.mem_replicate.mp hs).2)
    · exact .inr (.inr (List.mem_replicate.mp hs).2)
end
/-! ### rules as data -/
abbrev ruleD (h : HR) : List PyData := .str h.wd :: (match h.no with | none => [] | some n => [.int n])
theorem rule_dp {K : PySem.W.Frag} {H : Hp} {r : Addr} {h : HR} (e : H r = some (.tup (ruleL h))) : Dp K H (.ref r) (.tuple (ruleD h)) := by
  obtain ⟨wd, no, mom⟩ := h
  cases no with
  | none => exact .tup (SqT.of e) (.cons (.str _) .nil)
  | some n => exact .tup (SqT.of e) (.cons (.str _) (.cons (.int _) .nil))
theorem rule_shaped {h : HR} (k : PyData.canLay0 (.str h.wd) = true) : SeqAt.shaped (.tuple (ruleD h)) = true := by
  obtain ⟨wd, no, mom⟩ := h
  have k : PyData.canLay0 (.str wd) = true := k
  cases no <;> simp [SeqAt.shaped, PyData.canLay0, PyData.canLayAll0, PyData.depth, PyData.depthAll] <;> simpa [PyData.canLay0] using k
theorem GoodHand.lay {h : HR} (g : GoodHand h) : PyData.canLay0 (.str h.wd) = true := by
  have : h.wd ∈ nine ∨ h.wd = "in" ∨ h.wd = "out" := g.1.elim (fun k => .inl k.wd) (fun k => .inr k.1)
  rcases this with k | k | k
  · unfold nine at k
    simp only [List.mem_cons, List.not_mem_nil, or_false] at k
    rcases k with k | k | k | k | k | k | k | k | k <;> rw [k] <;> decide +kernel
  · rw [k]; decide +kernel
  · rw [k]; decide +kernel
theorem one_shaped {z : Str} (k : PyData.canLay0 (.str z) = true) : SeqAt.shaped (.tuple [.str z]) = true := rule_shaped (h := ⟨z, none, 0⟩) k
theorem at0 {xs : List V} {i : Nat} {v : V} (h : xs[i]? = some v) : atI xs (0 + ((i : Nat) : Int)) = some v := by
  rw [Int.zero_add]
  exact atI_nat h
theorem rule_eqv (h : HR) (z : Str) : PyData.eqv (.tuple (ruleD h)) (.tuple [.str z]) = (decide (h.wd = z) && h.no.isNone) := by
  obtain ⟨wd, no, mom⟩ := h
  have e : (wd == z) = decide (wd = z) := by
    by_cases k : wd = z
    · rw [k, decide_eq_true rfl]; exact beq_self_eq_true z
    · rw [decide_eq_false k]; exact beq_eq_false_iff_ne.mpr k
  cases no with
  | none =>
    show (wd == z && true) = (decide (wd = z) && true)
    rw [e]
  | some n =>
    show (wd == z && false) = (decide (wd = z) && false)
    rw [Bool.and_false, Bool.and_false]
theorem GoodHand.door {h : HR} (g : GoodHand h) (z : Str) (hz : z = "in" ∨ z = "out") : (decide (h.wd = z) && h.no.isNone) = decide (h.wd = z) := by
  by_cases k : h.wd = z
  · rw [decide_eq_true k, Bool.true_and]
    rcases g.1 with g | g
    · have := g.wd
      rw [k] at this
      rcases hz with rfl | rfl <;> exact absurd this (by decide +kernel)
    · rw [g.2]; rfl
  · rw [decide_eq_false k]; rfl
/-! ### numbers in lists -/
abbrev nV (n : Nat) : V := .int (n : Nat)
def unN : V → Nat
  | .int i => i.toNat
  | _ => 0
def unI : V → Int
  | .int i => i
  | _ => 0
theorem perm_inv {α : Type} {f : α → V} {g : V → α} (k : ∀ a, g (f a) = a) {ys : List V} {zs : List α} (h : ys.Perm (zs.map f)) : ∃ ss : List α, ys = ss.map f ∧ ss.Perm zs := by
  refine ⟨ys.map g, ?_, ?_⟩
  · rw [List.map_map]
    symm
    refine (List.map_congr_left (g := id) fun y hy => ?_).trans (List.map_id _)
    obtain ⟨z, _, e⟩ := List.mem_map.mp (h.mem_iff.mp hy)
    subst e
    show f (g (f z)) = f z
    rw [k]
  · have q := h.map g
    rw [List.map_map] at q
    have e : zs.map (g ∘ f) = zs := (List.map_congr_left (g := id) fun z _ => k z).trans (List.map_id _)
    rw [e] at q
    exact q
def nd (hs : List HR) (j : Nat) : Nat := match hs[j]? with | some h => (needs h.wd).toNat | none => 0
def tkTo (hs : List HR) : Nat → List Nat
  | 0 => []
  | n + 1 => tkTo hs n ++ List.replicate (nd hs n) n
theorem tk_count (hs : List HR) (k : Nat) : ∀ n, (tkTo hs n).count k = if k < n then nd hs k else 0
  | 0 => by simp [tkTo]
  | n + 1 => by
    unfold tkTo
    rw [List.count_append, tk_count hs k n, List.count_replicate]
    by_cases h1 : k < n
    · have h2 : ¬ (n == k) = true := by simp; omega
      rw [if_pos h1, if_neg h2, if_pos (show k < n + 1 by omega), Nat.add_zero]
    · by_cases h2 : n = k
      · subst h2
        rw [if_neg h1, if_pos (beq_self_eq_true n), if_pos (show n < n + 1 by omega), Nat.zero_add]
      · have h3 : ¬ (n == k) = true := by simpa using h2
        rw [if_neg h1, if_neg h3, if_neg (show ¬ k < n + 1 by omega)]
theorem tk_mem (hs : List HR) : ∀ n k, k ∈ tkTo hs n → k < n
  | 0, k, h => nomatch h
  | n + 1, k, h => by
    rcases List.mem_append.mp h with h | h
    · exact Nat.lt_succ_of_lt (tk_mem hs n k h)
    · rw [(List.mem_replicate.mp h).2]; exact Nat.lt_succ_self n
theorem tk_len (hs : List HR) (z : ∀ h ∈ hs, 0 ≤ needs h.wd) : ∀ n, n ≤ hs.length → ((tkTo hs n).length : Int) = ((hs.take n).map fun h => needs h.wd).sum
  | 0, _ => rfl
  | n + 1, hn => by
    have e : hs[n]? = some hs[n] := List.getElem?_eq_getElem (by omega)
    unfold tkTo
    rw [List.length_append, List.length_replicate, List.take_add_one, e, List.map_append, List.sum_append, Int.natCast_add, tk_len hs z n (by omega)]
    unfold nd
    rw [e]
    have := z hs[n] (List.getElem_mem _)
    simp only [Option.toList, List.map_cons, List.map_nil, List.sum_cons, List.sum_nil]
    omega
structure RoomOk (hs : List HR) (bs : List BR) : Prop where
  hands : hs.length ≤ 12
  good : ∀ h ∈ hs, GoodHand h
  ends : ∀ b ∈ bs, b.one < hs.length ∧ b.to < hs.length
  out : ∀ b ∈ bs, ∀ h, hs[b.one]? = some h → h.wd ≠ "out"
  th : ∀ b ∈ bs, b.th.length ≤ 6 ∧ True
  rank : ∃ rk : Nat → Int, ∀ b ∈ bs, b.th = [] → rk b.one < rk b.to
  count : ∀ k h, hs[k]? = some h → (((bs.map BR.to).count k : Nat) : Int) = needs h.wd
  many : bs.length ≤ 20
structure RoomAt (H : Hp) (r : Addr) (hs : List HR) (bs : List BR) : Prop where
  ex : ∃ (ha ba : Addr) (hv bv : List V), H r = some (.tup [.ref ha, .ref ba]) ∧ H ha = some (.tup hv) ∧ H ba = some (.tup bv) ∧ All2 (HandAt H) hv hs ∧ All2 (BeltAt H) bv bs
theorem RoomAt.keep {H H' : Hp} {r : Addr} {hs : List HR} {bs : List BR} (a : RoomAt H r hs bs) (k : TK H H') : RoomAt H' r hs bs := by
  obtain ⟨ha, ba, hv, bv, e1, e2, e3, a1, a2⟩ := a.ex
  exact ⟨ha, ba, hv, bv, k _ _ e1, k _ _ e2, k _ _ e3, a1.imp fun _ _ z => z.keep k, a2.imp fun _ _ z => z.keep k⟩
section
variable {P : Program} {w : World} {K : PySem.W.Frag} {mg : Str → Option Value} {base : Heap}
def sp_law_room (K : PySem.W.Frag) : Sp := fun vs H Q _ => ∃ (f c : Addr) (m : Int), vs = [.ref f, .int m] ∧ 1 ≤ m ∧ m ≤ 8 ∧ Flow H f c ∧
  ∀ (r : Addr) (hs : List HR) (bs : List BR) (H' : Hp), RoomAt H' r hs bs → RoomOk hs bs → 0 < hs.length → Flow H' f c → But f H H' → Q (.ref r) H'
/-- what stands while a room is drawn: the draws, the list of its hands -/
structure RI (f c hh : Addr) (H0 H : Hp) (xs : List V) (hs : List HR) : Prop where
  fl : Flow H f c
  bt : But f H0 H
  lh : H hh = some (.lst xs)
  al : All2 (HandAt H) xs hs
  n1 : hh ≠ f
  n2 : H0 hh = none
section
variable {f c hh : Addr} {H0 H H' : Hp} {xs : List V} {hs : List HR}
theorem RI.but (s : RI f c hh H0 H xs hs) (F : Flow H' f c) (b : But f H H') : RI f c hh H0 H' xs hs :=
  { s with fl := F, bt := s.bt.trans b, lh := b _ _ s.lh s.n1, al := s.al.imp fun _ _ k => k.keep (TK.but s.fl b) }
theorem RI.new {p : Addr} {o : HO} (s : RI f c hh H0 H xs hs) (n : H p = none) : RI f c hh H0 (upd H p o) xs hs :=
  { s with fl := s.fl.new n, bt := s.bt.new n, lh := same_new n _ _ s.lh, al := s.al.imp fun _ _ k => k.keep (TK.new n) }
theorem RI.same (s : RI f c hh H0 H xs hs) (k : Same H H') : RI f c hh H0 H' xs hs :=
  { s with fl := s.fl.same k, bt := s.bt.same k, lh := k _ _ s.lh, al := s.al.imp fun _ _ z => z.keep (TK.same k) }
theorem RI.lst {D : Addr} {as bs : List V} (s : RI f c hh H0 H xs hs) (h : H D = some (.lst as)) (d1 : D ≠ f) (d2 : D ≠ c) (d3 : D ≠ hh) (d4 : H0 D = none) : RI f c hh H0 (upd H D (.lst bs)) xs hs :=
  { s with fl := s.fl.lst d1 d2, bt := s.bt.own d4, lh := by rw [upd_ne d3.symm]; exact s.lh, al := s.al.imp fun _ _ z => z.keep (TK.lst h) }
end
theorem ok_law_room {f : Addr} {fd : FuncData} (F : Fun K "_law_room" "_law_room" s_law_room f fd) (T : Top K mg) : FnOk P w K mg base CX0 5 f fd ["_law_flow_here", "_law_most"] (sp_law_room K) := by
  obtain ⟨f_law_hands, fd_law_hands, F_law_hands, b_law_hands, m_law_hands⟩ := T.d_law_hands
  have G_law_hands := ok_law_hands (P := P) (w := w) (base := base) F_law_hands T
  obtain ⟨f_law_shuffled, fd_law_shuffled, F_law_shuffled, b_law_shuffled, m_law_shuffled⟩ := T.d_law_shuffled
  have G_law_shuffled := ok_law_shuffled (P := P) (w := w) (base := base) F_law_shuffled T
  obtain ⟨f_law_pick, fd_law_pick, F_law_pick, b_law_pick, m_law_pick⟩ := T.d_law_pick
  have G_law_pick := ok_law_pick (P := P) (w := w) (base := base) F_law_pick T
  obtain ⟨f_law_needs, fd_law_needs, F_law_needs, b_law_needs, m_law_needs⟩ := T.d_law_needs
  have G_law_needs := ok_law_needs (P := P) (w := w) (base := base) F_law_needs T
  obtain ⟨f_law_thing, fd_law_thing, F_law_thing, b_law_thing, m_law_thing⟩ := T.d_law_thing
  have G_law_thing := ok_law_thing (P := P) (w := w) (base := base) F_law_thing T
  refine F.ok sc_law_room (fun vs H Q E h => ?_) (fun cdv A outer s H vs Q E hr h => ?_)
  · obtain ⟨f, c, m, rfl, _⟩ := h
    rfl
  obtain ⟨f, c, m, rfl, m1, m8, hF, q⟩ := h
  have hm9 : m.natAbs.log2 < 9000 := by
    obtain ⟨j, rfl⟩ : ∃ j : Nat, m = (j : Int) := ⟨m.toNat, by omega⟩
    exact log_small (by omega)
  let R1 : TS := fun D' σ' H' => D'.rt = Q ∧ ∃ (hh rk gv : Addr) (xs : List V) (hs : List HR) (is : List Int) (gs : List Nat), σ' = [some (.ref f), some (.int m), some (.ref hh), some (.ref rk), some (.ref gv), none, none, none, none, none, none] ∧ RI f c hh H H' xs hs ∧ HandsOk hs ∧ H' rk = some (.lst (is.map V.int)) ∧ is.length = hs.length ∧ H' gv = some (.lst (gs.map nV)) ∧ gs ≠ [] ∧ gs.length ≤ 12 ∧ (∀ k ∈ gs, ∃ h, hs[k]? = some h ∧ h.wd ≠ "out") ∧ rk ≠ f ∧ gv ≠ f
  let R2 : TS := fun D' σ' H' => D'.rt = Q ∧ ∃ (hh rk gv tk : Addr) (xs : List V) (hs : List HR) (is : List Int) (gs ts : List Nat) (v5 : Option V), σ' = [some (.ref f), some (.int m), some (.ref hh), some (.ref rk), some (.ref gv), v5, some (.ref tk), none, none, none, none] ∧ RI f c hh H H' xs hs ∧ HandsOk hs ∧ H' rk = some (.lst (is.map V.int)) ∧ is.length = hs.length ∧ H' gv = some (.lst (gs.map nV)) ∧ gs ≠ [] ∧ gs.length ≤ 12 ∧ (∀ k ∈ gs, ∃ h, hs[k]? = some h ∧ h.wd ≠ "out") ∧ rk ≠ f ∧ gv ≠ f ∧ tk ≠ f ∧ H' tk = some (.lst (ts.map nV)) ∧ ts = tkTo hs hs.length
  refine ⟨_, (pss_cons (ps_set (i := 2) sc_law_room.nd rfl (Or.inr rfl) (pe_call G_law_hands (hr.mono (by decide)) (by rfl) m_law_hands F_law_hands.kp b_law_hands .nil pass0 (pa_cons (pv 0) (pa_cons (pe_op op_add pe_int (pe_call G_law_pick (hr.mono (by decide)) (by rfl) m_law_pick F_law_pick.kp b_law_pick .nil pass0 (pa_cons (pv 0) (pa_cons (pv 1) pa_nil)))) pa_nil))))
      (pss_cons (ps_set (i := 3) sc_law_room.nd rfl (Or.inl rfl) (pe_call G_law_shuffled (hr.mono (by decide)) (by rfl) m_law_shuffled F_law_shuffled.kp b_law_shuffled .nil pass0 (pa_cons (pv 0) (pa_cons (pe_listRg rfl (by rfl) T.m_list (prg_1 (by rfl) T.m_range (pe_callB (call_len_seqK K rfl) (by rfl) T.m_len (by decide +kernel) (pa_cons (pv 2) pa_nil)))) pa_nil))))
      (pss_cons (ps_setLc (i := 4) (own := [("_law_k", 5)]) (g := gName 5) (by rfl) sc_law_room.nd rfl rfl (sw_true rfl rfl rfl (by decide +kernel)) (pi_range1 (by rfl) T.m_range (pa_cons (pe_callB (call_len_seqK K rfl) (by rfl) T.m_len (by decide +kernel) (pa_cons (pv 2) pa_nil)) pa_nil)) (blkOk_by (own := [("_law_k", 5)]) (N := N_law_room) (sc := defScope s_law_room) (by decide +kernel)) (fun _ _ _ _ _ => (pg_name (i := 5) sc_law_room.nd rfl (Or.inl rfl))) (fun _ _ _ _ _ => pts_one (pt_cmpR (op_neDK K rfl hr.units) (pe_ix (ix_tupK K rfl) (pe_ix (ix_listK K rfl) (pv 2) (pv 5) (fun _ _ => rfl)) pe_int (fun _ _ => rfl)) (pe_tup (pa_cons pe_str pa_nil)) (nomark _))) (fun _ _ _ _ _ => (pv 5)))
      (PSs.to (pss_cons (ps_set (i := 6) sc_law_room.nd rfl (Or.inl rfl) (pe_lst pa_nil))
      (pss_cons (ps_for PassesOwn.never rfl (pi_range1 (by rfl) T.m_range (pa_cons (pe_callB (call_len_seqK K rfl) (by rfl) T.m_len (by decide +kernel) (pa_cons (pv 2) pa_nil)) pa_nil)) (pg_name (i := 5) sc_law_room.nd rfl (Or.inl rfl))
        (pss_one (ps_set (i := 6) sc_law_room.nd rfl (Or.inl rfl) (pe_op op_cat (pv 6) (pe_op op_rep (pe_lst (pa_cons (pv 5) pa_nil)) (pe_call G_law_needs (hr.mono (by decide)) (by rfl) m_law_needs F_law_needs.kp b_law_needs .nil pass0 (pa_cons (pe_ix (ix_tupK K rfl) (pe_ix (ix_listK K rfl) (pv 2) (pv 5) (fun _ _ => rfl)) pe_int (fun _ _ => rfl)) pa_nil)))))))
      (PSs.to (pss_cons (ps_set (i := 7) sc_law_room.nd rfl (Or.inl rfl) (pe_lst pa_nil))
      (pss_cons (ps_for PassesOwn.never rfl (pi_listK K rfl (pe_call G_law_shuffled (hr.mono (by decide)) (by rfl) m_law_shuffled F_law_shuffled.kp b_law_shuffled .nil pass0 (pa_cons (pv 0) (pa_cons (pv 6) pa_nil)))) (pg_name (i := 8) sc_law_room.nd rfl (Or.inl rfl))
        (pss_cons (ps_set (i := 9) sc_law_room.nd rfl (Or.inl rfl) (pe_ix (ix_listK K rfl) (pv 4) (pe_call G_law_pick (hr.mono (by decide)) (by rfl) m_law_pick F_law_pick.kp b_law_pick .nil pass0 (pa_cons (pv 0) (pa_cons (pe_callB (call_len_seqK K rfl) (by rfl) T.m_len (by decide +kernel) (pa_cons (pv 4) pa_nil)) pa_nil))) (fun _ _ => rfl)))
      (pss_cons (ps_set (i := 10) sc_law_room.nd rfl (Or.inl rfl) (pe_ix (ix_listK K rfl) (pe_lst (pa_cons pe_int (pa_cons pe_int (pa_cons pe_int (pa_cons pe_int (pa_cons pe_int (pa_cons pe_int (pa_cons pe_int (pa_cons pe_int pa_nil))))))))) (pe_call G_law_pick (hr.mono (by decide)) (by rfl) m_law_pick F_law_pick.kp b_law_pick .nil pass0 (pa_cons (pv 0) (pa_cons pe_int pa_nil))) (fun _ _ => rfl)))
      (pss_cons (ps_if (pt_cmpR op_ge (pe_ix (ix_listK K rfl) (pv 3) (pv 9) (fun _ _ => rfl)) (pe_ix (ix_listK K rfl) (pv 3) (pv 8) (fun _ _ => rfl)) (nomark _)) (pss_one (ps_set (i := 10) sc_law_room.nd rfl (Or.inl rfl) (pe_callB (call_max2 rfl) (by rfl) T.m_max (by decide +kernel) (pa_cons pe_int (pa_cons (pv 10) pa_nil))))) pss_nil)
      (pss_one (ps_expr (pe_bmK K rfl PySem.F.plainAttrs_list PySem.F.slot_list_append PySem.F.type_list_append mt_append (pv 7) (pa_cons (pe_tup (pa_cons (pv 9) (pa_cons (pv 8) (pa_cons (pe_callTy (call_tuple_ofK K rfl) (by rfl) T.m_tuple (by decide +kernel) (pa_cons (pe_lc (own := [("_law_k", 5)]) (g := gName 5) (tt := tYes) (by rfl) sc_law_room.nd (pi_range1 (by rfl) T.m_range (pa_cons (pv 10) pa_nil)) (blkOk_by (own := [("_law_k", 5)]) (N := N_law_room) (sc := defScope s_law_room) (by decide +kernel)) (fun _ _ _ _ _ => (pg_name (i := 5) sc_law_room.nd rfl (Or.inl rfl))) (fun _ _ _ _ _ => pts_nil) (fun _ _ _ _ _ => (pe_call G_law_thing (hr.mono (by decide)) (by rfl) m_law_thing F_law_thing.kp b_law_thing .nil pass0 (pa_cons (pv 0) pa_nil)))) pa_nil)) pa_nil)))) pa_nil))))))))
      (pss_one (ps_ret (pe_tup (pa_cons (pe_callTy (call_tuple_ofK K rfl) (by rfl) T.m_tuple (by decide +kernel) (pa_cons (pv 2) pa_nil)) (pa_cons (pe_callTy (call_tuple_ofK K rfl) (by rfl) T.m_tuple (by decide +kernel) (pa_cons (pv 7) pa_nil)) pa_nil))))))) R2 ?tail2))) R1 ?tail1)))), ?_⟩
  case tail2 =>
    rintro D' σ' H1 ⟨eD, hh, rk, gv, tk, xs, hs, is, gs, ts, v5, rfl, I1, ok, hrk, lis, hgv, gne, glen, gok, nrk, ngv, ntk, htk, ets⟩
    have hx : xs.length = hs.length := I1.al.length
    have len12 := ok.len
    have lts : ts.length ≤ 20 := by
      have a := tk_len hs ok.nz hs.length (Nat.le_refl _)
      rw [List.take_length, ← ets] at a
      have := ok.sum
      omega
    refine ⟨(by show 0 ≤ sizeLine; decide), fun bl nbl => ?_⟩
    have I2 := I1.new (o := .lst []) nbl
    refine ⟨_, rfl, _, rfl, f, c, tk, _, rfl, SqL.of (same_new nbl _ _ htk), ntk, by rw [List.length_map]; omega, I2.fl, fun sh ys H3 hp nsh hsh F3 B3 => ?_⟩
    obtain ⟨tt, rfl, htt⟩ := perm_inv (f := nV) (g := unN) (fun n => by show ((n : Nat) : Int).toNat = n; omega) hp
    have I3 := I2.but F3 B3
    have bf : bl ≠ f := I1.fl.ne nbl
    have bc : bl ≠ c := I1.fl.nec nbl
    have hbl3 := B3 _ _ upd_same bf
    have bsh : bl ≠ sh := fun e => by rw [← e, upd_same] at nsh; cases nsh
    have bnone : H bl = Option.none := I1.bt.none nbl bf
    have rank : Nat → Int := fun k => is.getD k 0
    refine ⟨sh, rfl, ⟨_, SqL.of hsh⟩, for_list (K := K) (a := sh) (xs := tt.map nV) (fun i σ H4 => ∃ (bv : List V) (bs : List BR) (v5 v8 v9 v10 : Option V), σ = [some (.ref f), some (.int m), some (.ref hh), some (.ref rk), some (.ref gv), v5, some (.ref tk), some (.ref bl), v8, v9, v10] ∧ RI f c hh H H4 xs hs ∧ H4 rk = some (.lst (is.map V.int)) ∧ H4 gv = some (.lst (gs.map nV)) ∧ H4 sh = some (.lst (tt.map nV)) ∧ H4 bl = some (.lst bv) ∧ All2 (BeltAt H4) bv bs ∧ bs.map BR.to = tt.take i ∧
        (∀ b ∈ bs, b.one < hs.length ∧ (∀ h, hs[b.one]? = some h → h.wd ≠ "out") ∧ b.th.length ≤ 6 ∧ (∀ x ∈ b.th, Small x) ∧ (b.th = [] → is.getD b.one 0 < is.getD b.to 0)))
      ⟨[], [], v5, none, none, none, rfl, I3, B3 _ _ (same_new nbl _ _ hrk) nrk, B3 _ _ (same_new nbl _ _ hgv) ngv, hsh, hbl3, .nil, rfl, (fun _ h => nomatch h)⟩ (fun i σ H4 _ ⟨_, _, _, _, _, _, _, _, _, _, h, _⟩ => SqL.of h) ?_ ?_⟩
    · rintro i y σ H4 hi ⟨bv, bs, v5, v8, v9, v10, rfl, I4, hrk4, hgv4, hsh4, hbl4, al, em, hb⟩
      rw [List.getElem?_map] at hi
      cases et : tt[i]? with
      | none => rw [et] at hi; cases hi
      | some to =>
      rw [et] at hi
      obtain rfl : nV to = y := Option.some.inj hi
      have toL : to < hs.length := tk_mem hs _ _ (by rw [← ets]; exact htt.mem_iff.mp (List.mem_of_getElem? et))
      have il : i < 20 := by have := (List.getElem?_eq_some_iff.mp et).1; rw [htt.length_eq] at this; omega
      have lb : bs.length = i := by
        have := congrArg List.length em
        rw [List.length_map, List.length_take, Nat.min_eq_left (Nat.le_of_lt (List.getElem?_eq_some_iff.mp et).1)] at this
        exact this
      have g0 : 0 < gs.length := List.length_pos_iff.mpr gne
      refine ⟨_, rfl, _, rfl, _, rfl, gv, _, rfl, .inl (SqL.of hgv4), f, c, _, rfl, (by rw [List.length_map]; omega), (by rw [List.length_map]; exact log_small (by omega)), I4.fl, fun z H5 z0 z1 F5 B5 => ?_⟩
      rw [List.length_map] at z1
      have I5 := I4.but F5 B5
      have hgv5 := B5 _ _ hgv4 ngv
      obtain ⟨one, eo, ho⟩ : ∃ one, atI (gs.map nV) z = some (nV one) ∧ one ∈ gs := by
        have hk : z.toNat < gs.length := by omega
        have ek : z = ((z.toNat : Nat) : Int) := by omega
        refine ⟨gs[z.toNat], ?_, List.getElem_mem _⟩
        have q2 : atI (gs.map nV) ((z.toNat : Nat) : Int) = some (nV gs[z.toNat]) := atI_nat (by rw [List.getElem?_map, List.getElem?_eq_getElem hk]; rfl)
        rw [← ek] at q2
        exact q2
      obtain ⟨ho1, eh1, hout⟩ := gok one ho
      have oneL : one < hs.length := (List.getElem?_eq_some_iff.mp eh1).1
      refine ⟨gv, _, _, _, rfl, rfl, SqL.of hgv5, eo, ?_⟩
      refine ⟨(by show 8 ≤ sizeLine; decide), fun tl ntl => ?_⟩
      have I6 := I5.new (o := .lst [V.int 0, V.int 0, V.int 0, V.int 1, V.int 1, V.int 2, V.int 3, V.int 6]) ntl
      refine ⟨_, rfl, f, c, 8, rfl, by decide, by decide +kernel, I6.fl, fun y2 H7 y0 y8 F7 B7 => ?_⟩
      have I7 := I6.but F7 B7
      have htl := B7 _ _ upd_same (I5.fl.ne ntl)
      obtain ⟨tr, htr, tr0, tr6⟩ : ∃ tr : Int, atI [V.int 0, V.int 0, V.int 0, V.int 1, V.int 1, V.int 2, V.int 3, V.int 6] y2 = some (.int tr) ∧ 0 ≤ tr ∧ tr ≤ 6 := by
        have : y2 = 0 ∨ y2 = 1 ∨ y2 = 2 ∨ y2 = 3 ∨ y2 = 4 ∨ y2 = 5 ∨ y2 = 6 ∨ y2 = 7 := by omega
        rcases this with rfl | rfl | rfl | rfl | rfl | rfl | rfl | rfl
        · exact ⟨0, rfl, by decide, by decide⟩
        · exact ⟨0, rfl, by decide, by decide⟩
        · exact ⟨0, rfl, by decide, by decide⟩
        · exact ⟨1, rfl, by decide, by decide⟩
        · exact ⟨1, rfl, by decide, by decide⟩
        · exact ⟨2, rfl, by decide, by decide⟩
        · exact ⟨3, rfl, by decide, by decide⟩
        · exact ⟨6, rfl, by decide, by decide⟩
      refine ⟨tl, _, _, _, rfl, rfl, SqL.of htl, htr, ?_⟩
      have k7 : But f H4 H7 := (B5.new ntl).trans B7
      have hrk7 := k7 _ _ hrk4 nrk
      have hgv7 := k7 _ _ hgv4 ngv
      have shf : sh ≠ f := fun e => by rw [e] at nsh; obtain ⟨_, _, _, _, _, e1, _⟩ := I2.fl; rw [e1] at nsh; cases nsh
      have hsh7 := k7 _ _ hsh4 shf
      have hbl7 := k7 _ _ hbl4 bf
      have tk7 : TK H4 H7 := (TK.but I4.fl B5).trans ((TK.new ntl).trans (TK.but I6.fl B7))
      have al7 : All2 (BeltAt H7) bv bs := al.imp fun _ _ z => z.keep tk7
      have r1 : (is.map V.int)[one]? = some (.int (is.getD one 0)) := by
        rw [List.getElem?_map, List.getD_eq_getElem?_getD, List.getElem?_eq_getElem (by omega)]; rfl
      have r2 : (is.map V.int)[to]? = some (.int (is.getD to 0)) := by
        rw [List.getElem?_map, List.getD_eq_getElem?_getD, List.getElem?_eq_getElem (by omega)]; rfl
      have bvl : bv.length = i := by rw [al.length, lb]
      -- the end of a turn, with so many trays
      refine ⟨_, rfl, _, rfl, rk, _, _, _, rfl, rfl, SqL.of hrk7, atI_nat r1, _, rfl, _, rfl, rk, _, _, _, rfl, rfl, SqL.of hrk7, atI_nat r2, _, _, rfl, rfl, _, rfl, if_bl (fun kk => ?_) (fun kk => ?_)⟩
      · refine ⟨_, rfl, _, _, rfl, ?_⟩
        generalize ht : (if tr > 1 then tr else 1) = tn
        have tn0 : 0 ≤ tn := by rw [← ht]; split <;> omega
        have tn6 : tn ≤ 6 := by rw [← ht]; split <;> omega
        have ttt : tn.toNat = 0 → is.getD one 0 < is.getD to 0 := fun e => by
          exfalso
          have : 1 ≤ tn := by rw [← ht]; split <;> omega
          omega
        refine ⟨_, rfl, .inl ⟨rfl, _, SqL.of hbl7⟩, _, rfl, _, rfl, _, rfl, _, rfl, by omega, by omega, fun D nD => lc_range (lo := 0) (n := tn.toNat) (fun j H8 => ∃ vs : List Int, vs.length = j ∧ H8 D = some (.lst (vs.map V.int)) ∧ (∀ x ∈ vs, Small x) ∧ RI f c hh H H8 xs hs ∧ But f H7 H8 ∧ TK H7 H8 ∧ D ≠ f ∧ D ≠ c ∧ D ≠ hh ∧ H D = Option.none ∧ H7 D = Option.none)
          ⟨[], rfl, upd_same, (fun _ h => nomatch h), I7.new nD, But.refl.new nD, TK.new nD, I7.fl.ne nD, I7.fl.nec nD, (ne_of_none I7.lh nD).symm, I7.bt.none nD (I7.fl.ne nD), nD⟩ ?_ ?_⟩
        · rintro j H8 hj ⟨vs, lv, hD, sm, I8, b8, t8, d1, d2, d3, d4, d5⟩
          refine ⟨rfl, yes_in ⟨_, rfl, f, c, rfl, I8.fl, fun x H9 sx F9 B9 => ⟨_, B9 _ _ hD d1, ?_, vs ++ [x], by rw [List.length_append, lv]; rfl, ?_, ?_, (I8.but F9 B9).lst (B9 _ _ hD d1) d1 d2 d3 d4, (b8.trans B9).own d5, (t8.trans (TK.but I8.fl B9)).trans (TK.lst (B9 _ _ hD d1)), d1, d2, d3, d4, d5⟩⟩⟩
          · rw [List.length_map, lv]; exact small1000 (by omega)
          · rw [upd_same, List.map_append]; rfl
          · intro y hy
            rcases List.mem_append.mp hy with hy | hy
            · exact sm y hy
            · obtain rfl : y = x := by simpa using hy
              exact sx
        · rintro H8 ⟨vs, lv, hD, sm, I8, b8, t8, d1, d2, d3, d4, d5⟩
          refine ⟨D, _, rfl, .inl ⟨SqL.of hD, fun g ng => ⟨(by show 3 ≤ sizeLine; decide), fun t nt => ?_⟩⟩⟩
          have I9 := (I8.new (o := .tup (vs.map V.int)) ng).new (o := .tup [nV one, nV to, V.ref g]) nt
          have hbl8 := same_new (o := .tup [nV one, nV to, V.ref g]) nt _ _ (same_new (o := .tup (vs.map V.int)) ng _ _ (b8 _ _ hbl7 bf))
          have t9 : TK H7 (upd (upd H8 g (.tup (vs.map V.int))) t (.tup [nV one, nV to, V.ref g])) := (t8.trans (TK.new ng)).trans (TK.new nt)
          have s9 : ∀ b o, H7 b = some o → b ≠ f → (upd (upd H8 g (.tup (vs.map V.int))) t (.tup [nV one, nV to, V.ref g])) b = some o := fun b o e n => same_new nt _ _ (same_new ng _ _ (b8 _ _ e n))
          have bh : bl ≠ hh := fun e => by
            have h1 := I1.lh
            rw [← e, nbl] at h1
            cases h1
          have brk : bl ≠ rk := fun e => by
            have h1 := hrk
            rw [← e, nbl] at h1
            cases h1
          have bgv : bl ≠ gv := fun e => by
            have h1 := hgv
            rw [← e, nbl] at h1
            cases h1
          refine ⟨bl, _, _, rfl, rfl, hbl8, small1000 (by rw [bvl]; omega), ?_⟩
          refine ⟨bv ++ [V.ref t], bs ++ [⟨one, to, vs⟩], _, _, _, _, rfl, I9.lst hbl8 bf bc bh bnone, ?_, ?_, ?_, upd_same, ?_, ?_, ?_⟩
          · rw [upd_ne brk.symm]; exact s9 _ _ hrk7 nrk
          · rw [upd_ne bgv.symm]; exact s9 _ _ hgv7 ngv
          · rw [upd_ne bsh.symm]; exact s9 _ _ hsh7 shf
          · exact ((al7.imp fun _ _ z => z.keep t9).snoc ⟨t, g, rfl, upd_same, same_new nt _ _ upd_same⟩).imp fun _ _ z => z.keep (TK.lst hbl8)
          · rw [List.map_append, em, List.take_add_one, et]; rfl
          · intro b hb2
            rcases List.mem_append.mp hb2 with hb2 | hb2
            · exact hb b hb2
            · obtain rfl : b = ⟨one, to, vs⟩ := by simpa using hb2
              refine ⟨oneL, fun h e => ?_, by show vs.length ≤ 6; omega, sm, fun e => ?_⟩
              · have e : hs[one]? = some h := e
                rw [eh1] at e
                cases e
                exact hout
              · have e : vs = [] := e
                rw [e] at lv
                exact ttt (by simpa using lv.symm)
      · obtain ⟨tn, ht⟩ : ∃ tn, tn = tr := ⟨_, rfl⟩
        rw [← ht]
        have tn0 : 0 ≤ tn := by omega
        have tn6 : tn ≤ 6 := by omega
        have ttt : tn.toNat = 0 → is.getD one 0 < is.getD to 0 := fun _ => by
          have : ¬ is.getD to 0 ≤ is.getD one 0 := of_decide_eq_false kk
          omega
        refine ⟨_, rfl, .inl ⟨rfl, _, SqL.of hbl7⟩, _, rfl, _, rfl, _, rfl, _, rfl, by omega, by omega, fun D nD => lc_range (lo := 0) (n := tn.toNat) (fun j H8 => ∃ vs : List Int, vs.length = j ∧ H8 D = some (.lst (vs.map V.int)) ∧ (∀ x ∈ vs, Small x) ∧ RI f c hh H H8 xs hs ∧ But f H7 H8 ∧ TK H7 H8 ∧ D ≠ f ∧ D ≠ c ∧ D ≠ hh ∧ H D = Option.none ∧ H7 D = Option.none)
          ⟨[], rfl, upd_same, (fun _ h => nomatch h), I7.new nD, But.refl.new nD, TK.new nD, I7.fl.ne nD, I7.fl.nec nD, (ne_of_none I7.lh nD).symm, I7.bt.none nD (I7.fl.ne nD), nD⟩ ?_ ?_⟩
        · rintro j H8 hj ⟨vs, lv, hD, sm, I8, b8, t8, d1, d2, d3, d4, d5⟩
          refine ⟨rfl, yes_in ⟨_, rfl, f, c, rfl, I8.fl, fun x H9 sx F9 B9 => ⟨_, B9 _ _ hD d1, ?_, vs ++ [x], by rw [List.length_append, lv]; rfl, ?_, ?_, (I8.but F9 B9).lst (B9 _ _ hD d1) d1 d2 d3 d4, (b8.trans B9).own d5, (t8.trans (TK.but I8.fl B9)).trans (TK.lst (B9 _ _ hD d1)), d1, d2, d3, d4, d5⟩⟩⟩
          · rw [List.length_map, lv]; exact small1000 (by omega)
          · rw [upd_same, List.map_append]; rfl
          · intro y hy
            rcases List.mem_append.mp hy with hy | hy
            · exact sm y hy
            · obtain rfl : y = x := by simpa using hy
              exact sx
        · rintro H8 ⟨vs, lv, hD, sm, I8, b8, t8, d1, d2, d3, d4, d5⟩
          refine ⟨D, _, rfl, .inl ⟨SqL.of hD, fun g ng => ⟨(by show 3 ≤ sizeLine; decide), fun t nt => ?_⟩⟩⟩
          have I9 := (I8.new (o := .tup (vs.map V.int)) ng).new (o := .tup [nV one, nV to, V.ref g]) nt
          have hbl8 := same_new (o := .tup [nV one, nV to, V.ref g]) nt _ _ (same_new (o := .tup (vs.map V.int)) ng _ _ (b8 _ _ hbl7 bf))
          have t9 : TK H7 (upd (upd H8 g (.tup (vs.map V.int))) t (.tup [nV one, nV to, V.ref g])) := (t8.trans (TK.new ng)).trans (TK.new nt)
          have s9 : ∀ b o, H7 b = some o → b ≠ f → (upd (upd H8 g (.tup (vs.map V.int))) t (.tup [nV one, nV to, V.ref g])) b = some o := fun b o e n => same_new nt _ _ (same_new ng _ _ (b8 _ _ e n))
          have bh : bl ≠ hh := fun e => by
            have h1 := I1.lh
            rw [← e, nbl] at h1
            cases h1
          have brk : bl ≠ rk := fun e => by
            have h1 := hrk
            rw [← e, nbl] at h1
            cases h1
          have bgv : bl ≠ gv := fun e => by
            have h1 := hgv
            rw [← e, nbl] at h1
            cases h1
          refine ⟨bl, _, _, rfl, rfl, hbl8, small1000 (by rw [bvl]; omega), ?_⟩
          refine ⟨bv ++ [V.ref t], bs ++ [⟨one, to, vs⟩], _, _, _, _, rfl, I9.lst hbl8 bf bc bh bnone, ?_, ?_, ?_, upd_same, ?_, ?_, ?_⟩
          · rw [upd_ne brk.symm]; exact s9 _ _ hrk7 nrk
          · rw [upd_ne bgv.symm]; exact s9 _ _ hgv7 ngv
          · rw [upd_ne bsh.symm]; exact s9 _ _ hsh7 shf
          · exact ((al7.imp fun _ _ z => z.keep t9).snoc ⟨t, g, rfl, upd_same, same_new nt _ _ upd_same⟩).imp fun _ _ z => z.keep (TK.lst hbl8)
          · rw [List.map_append, em, List.take_add_one, et]; rfl
          · intro b hb2
            rcases List.mem_append.mp hb2 with hb2 | hb2
            · exact hb b hb2
            · obtain rfl : b = ⟨one, to, vs⟩ := by simpa using hb2
              refine ⟨oneL, fun h e => ?_, by show vs.length ≤ 6; omega, sm, fun e => ?_⟩
              · have e : hs[one]? = some h := e
                rw [eh1] at e
                cases e
                exact hout
              · have e : vs = [] := e
                rw [e] at lv
                exact ttt (by simpa using lv.symm)
    · rintro σ H4 ⟨bv, bs, v5, v8, v9, v10, rfl, I4, hrk4, hgv4, hsh4, hbl4, al, em, hb⟩
      rw [List.length_map, List.take_length] at em
      have lb : bs.length = ts.length := by
        have := congrArg List.length em
        rw [List.length_map] at this
        rw [this, htt.length_eq]
      refine ⟨_, rfl, hh, _, rfl, .inl ⟨SqL.of I4.lh, fun a1 na1 => ⟨_, rfl, bl, _, rfl, .inl ⟨SqL.of (same_new na1 _ _ hbl4), fun a2 na2 => ⟨(by show 2 ≤ sizeLine; decide), fun a3 na3 => ?_⟩⟩⟩⟩⟩
      rw [eD]
      have k1 : TK H4 (upd (upd (upd H4 a1 (.tup xs)) a2 (.tup bv)) a3 (.tup [V.ref a1, V.ref a2])) := ((TK.new na1).trans (TK.new na2)).trans (TK.new na3)
      refine q a3 hs bs _ ⟨a1, a2, xs, bv, upd_same, same_new na3 _ _ (same_new na2 _ _ upd_same), same_new na3 _ _ upd_same, I4.al.imp fun _ _ z => z.keep k1, al.imp fun _ _ z => z.keep k1⟩ ⟨ok.len, ok.good, fun b hb2 => ⟨(hb b hb2).1, ?_⟩, fun b hb2 => (hb b hb2).2.1, fun b hb2 => ⟨(hb b hb2).2.2.1, trivial⟩, ⟨fun k => is.getD k 0, fun b hb2 => (hb b hb2).2.2.2.2⟩, fun k h hk => ?_, by omega⟩ (by obtain ⟨h1, hm1, _⟩ := ok.one; exact List.length_pos_of_mem hm1) (((I4.fl.new na1).new na2).new na3) (((I4.bt.new na1).new na2).new na3)
      · have : b.to ∈ bs.map BR.to := List.mem_map.mpr ⟨b, hb2, rfl⟩
        rw [em] at this
        exact tk_mem hs _ _ (by rw [← ets]; exact htt.mem_iff.mp this)
      · rw [em, htt.count_eq, ets, tk_count, if_pos (List.getElem?_eq_some_iff.mp hk).1]
        unfold nd
        rw [hk]
        have := ok.nz h (List.mem_of_getElem? hk)
        show (((needs h.wd).toNat : Nat) : Int) = needs h.wd
        omega
  case tail1 =>
    rintro D' σ' H1 ⟨eD, hh, rk, gv, xs, hs, is, gs, rfl, I1, ok, hrk, lis, hgv, gne, glen, gok, nrk, ngv⟩
    refine ⟨(by show 0 ≤ sizeLine; decide), fun tk ntk => ?_⟩
    have I2 := I1.new (o := .lst []) ntk
    have hx : xs.length = hs.length := I1.al.length
    refine ⟨_, rfl, hh, _, rfl, .inl (SqL.of I2.lh), _, rfl, by omega, (by rw [hx]; have := ok.len; omega), for_range (lo := 0) (n := xs.length) (fun i σ H2 => ∃ (tk : Addr) (v5 : Option V), σ = [some (.ref f), some (.int m), some (.ref hh), some (.ref rk), some (.ref gv), v5, some (.ref tk), none, none, none, none] ∧ RI f c hh H H2 xs hs ∧ H2 rk = some (.lst (is.map V.int)) ∧ H2 gv = some (.lst (gs.map nV)) ∧ tk ≠ f ∧ H2 tk = some (.lst ((tkTo hs i).map nV)))
      ⟨tk, none, rfl, I2, same_new ntk _ _ hrk, same_new ntk _ _ hgv, I1.fl.ne ntk, upd_same⟩ ?_ ?_⟩
    · rintro i σ H2 hi ⟨tk, v5, rfl, I3, hrk3, hgv3, tf, htk⟩
      have eh : hs[i]? = some hs[i] := List.getElem?_eq_getElem (by omega)
      obtain ⟨x, ex, ⟨t, r, rfl, e1, e2⟩⟩ := I3.al.get eh
      have z0 := ok.nz _ (List.mem_of_getElem? eh)
      have zs : needs hs[i].wd ≤ 3 := by
        unfold needs
        split
        · decide
        · split
          · decide
          · split <;> decide
      have sz : (tkTo hs i).length ≤ 20 := by
        have a := tk_len hs ok.nz i (by omega)
        have b : ((hs.take i).map fun h => needs h.wd).sum ≤ (hs.map fun h => needs h.wd).sum := by
          have e : hs.map (fun h => needs h.wd) = (hs.take i).map (fun h => needs h.wd) ++ (hs.drop i).map (fun h => needs h.wd) := by rw [← List.map_append, List.take_append_drop]
          rw [e, List.sum_append]
          have : 0 ≤ ((hs.drop i).map fun h => needs h.wd).sum := by
            have hz : ∀ h ∈ hs.drop i, 0 ≤ needs h.wd := fun h hh => ok.nz h (List.mem_of_mem_drop hh)
            revert hz
            generalize hs.drop i = l
            intro hz
            induction l with
            | nil => decide
            | cons a l ih =>
              have := hz a (List.mem_cons_self ..)
              have := ih fun h hh => hz h (List.mem_cons_of_mem _ hh)
              rw [List.map_cons, List.sum_cons]
              omega
          omega
        have := ok.sum
        omega
      refine ⟨_, rfl, _, rfl, (by show 1 ≤ sizeLine; decide), fun l1 nl1 => ?_⟩
      have I4 := I3.new (o := .lst [V.int (0 + ((i : Nat) : Int))]) nl1
      refine ⟨_, rfl, _, rfl, hh, _, _, _, rfl, rfl, SqL.of I4.lh, at0 ex, t, _, _, _, rfl, rfl, SqT.of (same_new nl1 _ _ e1), atI_nat (j := 0) rfl, r, hs[i].wd, _, rfl, SqT.of (same_new nl1 _ _ e2), fun H5 s5 => ?_⟩
      have I5 := I4.same s5
      have g1 := s5 _ _ upd_same
      have g2 := s5 _ _ (same_new nl1 _ _ htk)
      refine ⟨l1, _, _, rfl, rfl, g1, by omega, by omega, little (by show 1 * (needs hs[i].wd).toNat ≤ 1000; omega), fun l2 nl2 => ?_⟩
      rw [flat_rep]
      have I6 := I5.new (o := .lst (List.replicate (needs hs[i].wd).toNat (V.int (0 + ((i : Nat) : Int))))) nl2
      refine ⟨tk, l2, _, _, rfl, rfl, same_new nl2 _ _ g2, upd_same, ?_, fun l3 nl3 => ?_⟩
      · rw [List.length_map, List.length_replicate]; exact little (by omega)
      refine ⟨l3, _, rfl, I6.new nl3, same_new nl3 _ _ (same_new nl2 _ _ (s5 _ _ (same_new nl1 _ _ hrk3))), same_new nl3 _ _ (same_new nl2 _ _ (s5 _ _ (same_new nl1 _ _ hgv3))), I6.fl.ne nl3, ?_⟩
      rw [upd_same]
      have e : nd hs i = (needs hs[i].wd).toNat := by unfold nd; rw [eh]
      rw [show tkTo hs (i + 1) = tkTo hs i ++ List.replicate (nd hs i) i from rfl, List.map_append, List.map_replicate, e, Int.zero_add]
    · rintro σ H2 ⟨tk, v5, rfl, I3, hrk3, hgv3, tf, htk⟩
      exact ⟨eD, hh, rk, gv, tk, xs, hs, is, gs, _, v5, rfl, I3, ok, hrk3, lis, hgv3, gne, glen, gok, nrk, ngv, tf, htk, by rw [hx]⟩
  refine ⟨_, rfl, _, rfl, _, rfl, f, c, m, rfl, by omega, hm9, hF, fun v1 H1 a1 b1 F1 B1 => ?_⟩
  refine ⟨_, _, rfl, rfl, f, c, _, rfl, by omega, by omega, F1, fun hh xs hs H2 nhh hhh al ok F2 B2 => ?_⟩
  have hx : xs.length = hs.length := al.length
  have len12 := ok.len
  have nf : hh ≠ f := F1.ne nhh
  have I2 : RI f c hh H H2 xs hs := ⟨F2, B1.trans B2, hhh, al, nf, B1.none nhh nf⟩
  -- ranks
  refine ⟨_, rfl, _, rfl, hh, _, rfl, .inl (SqL.of I2.lh), _, rfl, ⟨by omega, by omega, by omega, by omega, by omega⟩, fun rg nrg => ?_⟩
  have I3 := I2.new (o := .lst (rgV 0 ((xs.length : Nat) : Int))) nrg
  refine ⟨f, c, rg, _, rfl, SqL.of upd_same, I2.fl.ne nrg, ?_, I3.fl, fun rk ys H4 hp nrk hrk F4 B4 => ?_⟩
  · rw [rgV_length]; omega
  have erg : rgV 0 ((xs.length : Nat) : Int) = ((List.range xs.length).map fun i => ((i : Nat) : Int)).map V.int := by
    unfold rgV
    rw [List.map_map, show (((xs.length : Nat) : Int) - 0).toNat = xs.length by omega]
    refine List.map_congr_left fun i _ => ?_
    show V.int (0 + ((i : Nat) : Int)) = V.int ((i : Nat) : Int)
    rw [Int.zero_add]
  rw [erg] at hp
  obtain ⟨is, rfl, his⟩ := perm_inv (f := V.int) (g := unI) (fun _ => rfl) hp
  have lis : is.length = hs.length := by rw [his.length_eq, List.length_map, List.length_range, hx]
  have I4 := I3.but F4 B4
  have rkf : rk ≠ f := I3.fl.ne nrk
  -- givers
  refine ⟨_, rfl, hh, _, rfl, .inl (SqL.of I4.lh), _, rfl, by omega, by omega, fun D nD => lc_range (lo := 0) (n := xs.length) (fun i H5 => ∃ gs : List Nat, H5 D = some (.lst (gs.map nV)) ∧ gs.length ≤ i ∧ RI f c hh H H5 xs hs ∧ H5 rk = some (.lst (is.map V.int)) ∧ (∀ k ∈ gs, ∃ h, hs[k]? = some h ∧ h.wd ≠ "out") ∧ (∀ k h, k < i → hs[k]? = some h → h.wd ≠ "out" → gs ≠ []) ∧ D ≠ f ∧ D ≠ c ∧ D ≠ hh ∧ D ≠ rk ∧ H D = Option.none)
    ⟨[], upd_same, Nat.le_refl _, I4.new nD, same_new nD _ _ hrk, (fun _ h => nomatch h), (fun k h hk => absurd hk (Nat.not_lt_zero _)), I4.fl.ne nD, I4.fl.nec nD, (ne_of_none I4.lh nD).symm, (ne_of_none hrk nD).symm, I4.bt.none nD (I4.fl.ne nD)⟩ ?_ ?_⟩
  · rintro i H5 hi ⟨gs, hD, lg, I5, hrk5, g1, g2, d1, d2, d3, d4, d5⟩
    have eh : hs[i]? = some hs[i] := List.getElem?_eq_getElem (by omega)
    obtain ⟨x, ex, ⟨t, r, rfl, e1, e2⟩⟩ := I5.al.get eh
    have gh := ok.good _ (List.mem_of_getElem? eh)
    refine ⟨rfl, _, rfl, _, rfl, hh, _, _, _, rfl, rfl, SqL.of I5.lh, at0 ex, t, _, _, _, rfl, rfl, SqT.of e1, atI_nat (j := 0) rfl, (by show 1 ≤ sizeLine; decide), fun o1 no1 => ?_⟩
    have I6 := I5.new (o := .tup [V.str "out"]) no1
    have hD6 : (upd H5 o1 (.tup [V.str "out"])) D = some (.lst (gs.map nV)) := same_new no1 _ _ hD
    refine ⟨_, _, rule_dp (same_new no1 _ _ e2), .tup (SqT.of upd_same) (.cons (.str _) .nil), rule_shaped gh.lay, one_shaped (by decide +kernel), _, rfl, ?_⟩
    rw [rule_eqv, gh.door "out" (.inr rfl)]
    by_cases k : hs[i].wd = "out"
    · rw [decide_eq_true k]
      refine if_bl (fun z => absurd z (by decide)) (fun _ => ⟨gs, hD6, by omega, I6, same_new no1 _ _ hrk5, g1, fun k' h' hk hk2 hk3 => ?_, d1, d2, d3, d4, d5⟩)
      by_cases y : k' = i
      · subst y
        rw [eh] at hk2
        cases hk2
        exact absurd k hk3
      · exact g2 k' h' (by omega) hk2 hk3
    · rw [decide_eq_false k]
      refine if_bl (fun _ => ⟨_, rfl, _, hD6, ?_, gs ++ [i], ?_, ?_, I6.lst hD6 d1 d2 d3 d5, ?_, ?_, fun _ _ _ _ _ z => by simp at z, d1, d2, d3, d4, d5⟩) (fun z => absurd z (by decide))
      · rw [List.length_map]; exact small1000 (by omega)
      · rw [upd_same, List.map_append, Int.zero_add]; rfl
      · rw [List.length_append]; show gs.length + 1 ≤ i + 1; omega
      · rw [upd_ne d4.symm]; exact same_new no1 _ _ hrk5
      · intro k' hk
        rcases List.mem_append.mp hk with hk | hk
        · exact g1 k' hk
        · obtain rfl : k' = i := by simpa using hk
          exact ⟨_, eh, k⟩
  · rintro H5 ⟨gs, hD, lg, I5, hrk5, g1, g2, d1, d2, d3, d4, d5⟩
    obtain ⟨h1, hm1, hm2⟩ := ok.one
    obtain ⟨k1, hk1⟩ := List.getElem?_of_mem hm1
    have k1l := (List.getElem?_eq_some_iff.mp hk1).1
    exact ⟨rfl, hh, rk, D, xs, hs, is, gs, rfl, I5, ok, hrk5, lis, hD, g2 k1 h1 (by omega) hk1 hm2, by omega, g1, rkf, d1⟩
end
/-! ### the order of work -/
/-- the belts without trays, their ends -/
def looseOf (bs : List BR) : List (Nat × Nat) := (bs.filter fun b => b.th.isEmpty).map fun b => (b.one, b.to)
def free (ls : List (Nat × Nat)) (left : List Nat) (k : Nat) : Prop := ∀ p ∈ ls, p.2 = k → p.1 ∉ left
/-- each stands as soon as it can -/
inductive Soon (ls : List (Nat × Nat)) : List Nat → List Nat → Prop
  | nil : Soon ls [] []
  | cons {left ord : List Nat} {k : Nat} : k ∈ left → free ls left k → (∀ j ∈ left, free ls left j → k ≤ j) → Soon ls (left.erase k) ord → Soon ls left (k :: ord)
def cN (p : Nat × Nat → Bool) (l : List (Nat × Nat)) : Int := ((l.filter p).length : Nat)
theorem cN_snoc (p : Nat × Nat → Bool) (l : List (Nat × Nat)) (x : Nat × Nat) : cN p (l ++ [x]) = cN p l + (if p x = true then 1 else 0) := by
  unfold cN
  rw [List.filter_append, List.length_append]
  cases h : p x <;> simp [h]
theorem cN_zero {p : Nat × Nat → Bool} {l : List (Nat × Nat)} : cN p l = 0 ↔ ∀ x ∈ l, p x = false := by
  unfold cN
  constructor
  · intro h x hx
    have e : (l.filter p).length = 0 := by omega
    have e2 := List.eq_nil_of_length_eq_zero e
    cases k : p x with
    | false => rfl
    | true =>
      have : x ∈ l.filter p := List.mem_filter.mpr ⟨hx, k⟩
      rw [e2] at this
      cases this
  · intro h
    have e : l.filter p = [] := List.filter_eq_nil_iff.mpr fun x hx => by rw [h x hx]; decide
    rw [e]
    rfl
abbrev owing (left : List Nat) (k : Nat) : Nat × Nat → Bool := fun p => decide (p.2 = k) && decide (p.1 ∈ left)
theorem owing_free {ls : List (Nat × Nat)} {left : List Nat} {k : Nat} : cN (owing left k) ls = 0 ↔ free ls left k := by
  rw [cN_zero]
  constructor
  · intro h p hp e1 e2
    have := h p hp
    have this : (decide (p.2 = k) && decide (p.1 ∈ left)) = false := this
    rw [decide_eq_true e1, decide_eq_true e2] at this
    cases this
  · intro h p hp
    show (decide (p.2 = k) && decide (p.1 ∈ left)) = false
    by_cases e1 : p.2 = k
    · rw [decide_eq_false (h p hp e1), Bool.and_false]
    · rw [decide_eq_false e1, Bool.false_and]
theorem cN_erase {ls : List (Nat × Nat)} {left : List Nat} {k r : Nat} (nd : left.Nodup) (hr : r ∈ left) : cN (owing left k) ls - cN (fun p => decide (p.1 = r) && decide (p.2 = k)) ls = cN (owing (left.erase r) k) ls := by
  induction ls with
  | nil => rfl
  | cons x l ih =>
    have e : ∀ q : Nat × Nat → Bool, cN q (x :: l) = (if q x = true then 1 else 0) + cN q l := fun q => by
      unfold cN
      rw [List.filter_cons]
      cases h : q x <;> simp [h] <;> omega
    have h1 : x.1 ∈ left.erase r ↔ x.1 ≠ r ∧ x.1 ∈ left := nd.mem_erase_iff
    have key : (if owing left k x = true then (1 : Int) else 0) - (if (decide (x.1 = r) && decide (x.2 = k)) = true then 1 else 0) = (if owing (left.erase r) k x = true then 1 else 0) := by
      by_cases a : x.2 = k
      · by_cases b : x.1 = r
        · have d : ¬ r ∈ left.erase r := fun z => (nd.mem_erase_iff.mp z).1 rfl
          simp [owing, a, b, hr, d]
        · by_cases c : x.1 ∈ left
          · have d : x.1 ∈ left.erase r := h1.mpr ⟨b, c⟩
            simp [owing, a, b, c, d]
          · have d : ¬ x.1 ∈ left.erase r := fun z => c (h1.mp z).2
            simp [owing, a, b, c, d]
      · simp [owing, a]
    rw [e, e, e, ← ih]
    omega
/-- some hand is free, where the belts without trays go up -/
theorem some_free {ls : List (Nat × Nat)} {rk : Nat → Int} (hr : ∀ p ∈ ls, rk p.1 < rk p.2) : ∀ {left : List Nat}, left ≠ [] → ∃ k ∈ left, free ls left k := by
  have low : ∀ left : List Nat, left ≠ [] → ∃ k ∈ left, ∀ j ∈ left, rk k ≤ rk j := by
    intro left
    induction left with
    | nil => intro h; exact absurd rfl h
    | cons a l ih =>
      intro _
      cases l with
      | nil => exact ⟨a, by simp, fun j hj => by have : j = a := by simpa using hj
                                                 rw [this]; exact Int.le_refl _⟩
      | cons b l =>
        obtain ⟨k, hk, h⟩ := ih (by simp)
        by_cases c : rk a ≤ rk k
        · exact ⟨a, by simp, fun j hj => by
            rcases List.mem_cons.mp hj with e | e
            · rw [e]; exact Int.le_refl _
            · exact Int.le_trans c (h j e)⟩
        · exact ⟨k, List.mem_cons_of_mem _ hk, fun j hj => by
            rcases List.mem_cons.mp hj with e | e
            · rw [e]; omega
            · exact h j e⟩
  intro left hl
  obtain ⟨k, hk, h⟩ := low left hl
  refine ⟨k, hk, fun p hp e hm => ?_⟩
  have h1 := h _ hm
  have h2 := hr p hp
  rw [e] at h2
  omega
theorem erase_map {α β : Type} (f : α → β) : ∀ (l : List α) (j : Nat), (l.map f).eraseIdx j = (l.eraseIdx j).map f
  | [], _ => rfl
  | _ :: _, 0 => rfl
  | a :: l, j + 1 => congrArg (f a :: ·) (erase_map f l j)
abbrev fL (n : Nat) (F : Nat → Int) : List V := (List.range n).map fun k => V.int (F k)
theorem fL_get {n k : Nat} {F : Nat → Int} (h : k < n) : (fL n F)[k]? = some (.int (F k)) := by
  rw [List.getElem?_map, List.getElem?_range h]; rfl
theorem fL_set {n k : Nat} {F : Nat → Int} {z : Int} : (fL n F).set k (.int z) = fL n fun j => if j = k then z else F j := by
  apply List.ext_getElem?
  intro i
  rw [List.getElem?_set]
  by_cases h : i < n
  · rw [fL_get h, fL_get h]
    by_cases e : k = i
    · subst e
      rw [if_pos rfl, if_pos rfl, if_pos (by rw [List.length_map, List.length_range]; exact h)]
    · rw [if_neg e, if_neg (fun z => e z.symm)]
  · have h1 : (fL n F)[i]? = none := List.getElem?_eq_none (by rw [List.length_map, List.length_range]; omega)
    have h2 : (fL n fun j => if j = k then z else F j)[i]? = none := List.getElem?_eq_none (by rw [List.length_map, List.length_range]; omega)
    rw [h1, h2]
    by_cases e : k = i
    · rw [if_pos e, if_neg (by rw [List.length_map, List.length_range]; omega)]
    · rw [if_neg e]
def PairAt (H : Hp) (v : V) (p : Nat × Nat) : Prop := ∃ t : Addr, v = .ref t ∧ H t = some (.tup [nV p.1, nV p.2])
theorem PairAt.keep {H H' : Hp} {v : V} {p : Nat × Nat} (a : PairAt H v p) (k : TK H H') : PairAt H' v p := by
  obtain ⟨t, e, h⟩ := a
  exact ⟨t, e, k _ _ h⟩
section
variable {P : Program} {w : World} {K : PySem.W.Frag} {mg : Str → Option Value} {base : Heap}
def sp_work_order (K : PySem.W.Frag) : Sp := fun vs H Q _ => ∃ (r : Addr) (hs : List HR) (bs : List BR) (rk : Nat → Int), vs = [.ref r] ∧ RoomAt H r hs bs ∧ hs.length ≤ 400 ∧ bs.length ≤ 400 ∧ (∀ b ∈ bs, b.one < hs.length ∧ b.to < hs.length) ∧ (∀ p ∈ looseOf bs, rk p.1 < rk p.2) ∧
  ∀ (p : Addr) (ord : List Nat) (H' : Hp), H p = none → H' p = some (.lst (ord.map nV)) → Same H H' → Soon (looseOf bs) (List.range hs.length) ord → Q (.ref p) H'
theorem ok_work_order {f : Addr} {fd : FuncData} (F : Fun K "work_order" "work_order" s_work_order f fd) (T : Top K mg) : FnOk P w K mg base CX0 1 f fd ["room"] (sp_work_order K) := by
  refine F.ok sc_work_order (fun vs H Q E h => ?_) (fun cdv A outer s H vs Q E hr h => ?_)
  · obtain ⟨r, hs, bs, rk, rfl, _⟩ := h
    rfl
  obtain ⟨r, hs, bs, rk, rfl, hR, lh, lb, ends, hrk, q⟩ := h
  obtain ⟨ha, ba, hv, bv, er, eh, eb, alh, alb⟩ := hR.ex
  have lhv := alh.length
  have lbv := alb.length
  have lls : (looseOf bs).length ≤ 400 := by
    unfold looseOf
    rw [List.length_map]
    exact Nat.le_trans (List.length_filter_le ..) lb
  have pls : ∀ p ∈ looseOf bs, p.1 < hs.length ∧ p.2 < hs.length := by
    intro p hp
    obtain ⟨b, hb, e⟩ := List.mem_map.mp hp
    have := ends b (List.mem_filter.mp hb).1
    rw [← e]
    exact this
  let R1 : TS := fun D' σ' H' => D'.rt = Q ∧ ∃ (lo : Addr) (lv : List V), σ' = [some (.ref r), some (.ref ha), some (.ref ba), some (.ref lo), none, none, none, none, none, none, none, none] ∧ H' lo = some (.lst lv) ∧ All2 (PairAt H') lv (looseOf bs) ∧ Same H H' ∧ H lo = none
  let R2 : TS := fun D' σ' H' => D'.rt = Q ∧ ∃ (lo ow : Addr) (lv : List V) (v4 v5 : Option V), σ' = [some (.ref r), some (.ref ha), some (.ref ba), some (.ref lo), v4, v5, none, some (.ref ow), none, none, none, none] ∧ H' lo = some (.lst lv) ∧ All2 (PairAt H') lv (looseOf bs) ∧ Same H H' ∧ H lo = none ∧ H ow = none ∧ lo ≠ ow ∧ H' ow = some (.lst (fL hs.length fun k => cN (owing (List.range hs.length) k) (looseOf bs)))
  refine ⟨_, (pss_cons (ps_asg (pv 0) (pg_tupK K rfl rfl (pgs_cons (pg_name (i := 1) sc_work_order.nd rfl (Or.inl rfl)) (pgs_cons (pg_name (i := 2) sc_work_order.nd rfl (Or.inl rfl)) pgs_nil))))
      (pss_cons (ps_setLc (i := 3) (own := [("giver", 4), ("taker", 5), ("things", 6)]) (g := gTup K 3 (gCons (gName 4) (gCons (gName 5) (gCons (gName 6) gNil)))) (by rfl) sc_work_order.nd rfl rfl (sw_true rfl rfl rfl (by decide +kernel)) (pi_tupK K rfl (pv 2)) (blkOk_by (own := [("giver", 4), ("taker", 5), ("things", 6)]) (N := N_work_order) (sc := defScope s_work_order) (by decide +kernel)) (fun _ _ _ _ _ => (pg_tupK K rfl rfl (pgs_cons (pg_name (i := 4) sc_work_order.nd rfl (Or.inl rfl)) (pgs_cons (pg_name (i := 5) sc_work_order.nd rfl (Or.inl rfl)) (pgs_cons (pg_name (i := 6) sc_work_order.nd rfl (Or.inl rfl)) pgs_nil))))) (fun _ _ _ _ _ => pts_one (pt_not (pt_truthK K rfl (pv 6) (by intro _; rfl)))) (fun _ _ _ _ _ => (pe_tup (pa_cons (pv 4) (pa_cons (pv 5) pa_nil)))))
      (PSs.to (pss_cons (ps_set (i := 7) sc_work_order.nd rfl (Or.inr rfl) (pe_op op_rep (pe_lst (pa_cons pe_int pa_nil)) (pe_callB (call_len_seqK K rfl) (by rfl) T.m_len (by decide +kernel) (pa_cons (pv 1) pa_nil))))
      (pss_cons (ps_for PassesOwn.never rfl (pi_listK K rfl (pv 3)) (pg_tupK K rfl rfl (pgs_cons (pg_name (i := 4) sc_work_order.nd rfl (Or.inl rfl)) (pgs_cons (pg_name (i := 5) sc_work_order.nd rfl (Or.inl rfl)) pgs_nil)))
        (pss_one (ps_augS (pv 7) (pv 5) (get_listK K rfl) pe_int ip_add set_list)))
      (PSs.to (pss_cons (ps_set (i := 8) sc_work_order.nd rfl (Or.inl rfl) (pe_listRg rfl (by rfl) T.m_list (prg_1 (by rfl) T.m_range (pe_callB (call_len_seqK K rfl) (by rfl) T.m_len (by decide +kernel) (pa_cons (pv 1) pa_nil)))))
      (pss_cons (ps_set (i := 9) sc_work_order.nd rfl (Or.inl rfl) (pe_lst pa_nil))
      (pss_cons (ps_while PassesOwn.never (pt_truthK K rfl (pv 8) (by intro _; rfl))
        (pss_cons (ps_set (i := 10) sc_work_order.nd rfl (Or.inl rfl) (pe_callB (cr_minKK K rfl rfl) (by rfl) T.m_min (by decide +kernel) (pa_cons (pe_lc (own := [("hand", 11)]) (g := gName 11) (by rfl) sc_work_order.nd (pi_listK K rfl (pv 8)) (blkOk_by (own := [("hand", 11)]) (N := N_work_order) (sc := defScope s_work_order) (by decide +kernel)) (fun _ _ _ _ _ => (pg_name (i := 11) sc_work_order.nd rfl (Or.inl rfl))) (fun _ _ _ _ _ => pts_one (pt_cmpR op_eq (pe_ix (ix_listK K rfl) (pv 7) (pv 11) (fun _ _ => rfl)) pe_int (nomark _))) (fun _ _ _ _ _ => (pv 11))) pa_nil)))
      (pss_cons (ps_expr (pe_bmK K rfl PySem.F.plainAttrs_list PySem.F.slot_list_remove PySem.F.type_list_remove mt_remove (pv 8) (pa_cons (pv 10) pa_nil)))
      (pss_cons (ps_expr (pe_bmK K rfl PySem.F.plainAttrs_list PySem.F.slot_list_append PySem.F.type_list_append mt_append (pv 9) (pa_cons (pv 10) pa_nil)))
      (pss_one (ps_for PassesOwn.never rfl (pi_listK K rfl (pv 3)) (pg_tupK K rfl rfl (pgs_cons (pg_name (i := 4) sc_work_order.nd rfl (Or.inl rfl)) (pgs_cons (pg_name (i := 5) sc_work_order.nd rfl (Or.inl rfl)) pgs_nil)))
        (pss_one (ps_if (pt_cmpR op_eq (pv 4) (pv 10) (nomark _)) (pss_one (ps_augS (pv 7) (pv 5) (get_listK K rfl) pe_int ip_sub set_list)) pss_nil))))))))
      (pss_one (ps_ret (pv 9)))))) R2 ?tail2))) R1 ?tail1))), ?_⟩
  case tail2 =>
    rintro D' σ' H1 ⟨eD, lo, ow, lv, v4, v5, rfl, hlo, al, s1, nlo, now, low, how⟩
    refine ⟨_, rfl, ha, _, rfl, .inr (SqT.of (s1 _ _ eh)), _, rfl, ⟨by omega, by omega, by omega, by omega, by omega⟩, fun lf nlf => ?_⟩
    refine ⟨(by show 0 ≤ sizeLine; decide), fun od nod => ?_⟩
    have erg : rgV 0 ((hv.length : Nat) : Int) = (List.range hs.length).map nV := by
      unfold rgV
      rw [show (((hv.length : Nat) : Int) - 0).toNat = hs.length by omega]
      refine List.map_congr_left fun i _ => ?_
      show V.int (0 + ((i : Nat) : Int)) = V.int ((i : Nat) : Int)
      rw [Int.zero_add]
    rw [erg] at nod ⊢
    have lf0 : H lf = none := same_none s1 nlf
    have od0 : H od = none := same_none (s1.trans (same_new nlf)) nod
    have lfod : lf ≠ od := ne_of_none upd_same nod
    have lflo : lo ≠ lf := ne_of_none hlo nlf
    have lfow : ow ≠ lf := ne_of_none how nlf
    have odlo : lo ≠ od := ne_of_none (same_new nlf _ _ hlo) nod
    have odow : ow ≠ od := ne_of_none (same_new nlf _ _ how) nod
    have tk2 : TK H1 (upd (upd H1 lf (.lst ((List.range hs.length).map nV))) od (.lst [])) := (TK.new nlf).trans (TK.new nod)
    let W : Nat → L2.St → Hp → Prop := fun mm σ H2 => ∃ (left ord : List Nat) (v4 v5 v10 v11 : Option V), σ = [some (.ref r), some (.ref ha), some (.ref ba), some (.ref lo), v4, v5, none, some (.ref ow), some (.ref lf), some (.ref od), v10, v11] ∧ mm = left.length ∧ left.Nodup ∧ (∀ k ∈ left, k < hs.length) ∧ H2 lo = some (.lst lv) ∧ All2 (PairAt H2) lv (looseOf bs) ∧ Same H H2 ∧ H2 lf = some (.lst (left.map nV)) ∧ H2 od = some (.lst (ord.map nV)) ∧ ord.length + left.length = hs.length ∧ H2 ow = some (.lst (fL hs.length fun k => cN (owing left k) (looseOf bs))) ∧ (∀ rest, Soon (looseOf bs) left rest → Soon (looseOf bs) (List.range hs.length) (ord ++ rest))
    refine ⟨W, ⟨_, List.range hs.length, [], v4, v5, none, none, rfl, rfl, List.nodup_range, fun k hk => List.mem_range.mp hk, same_new nod _ _ (same_new nlf _ _ hlo), al.imp fun _ _ z => z.keep tk2, (s1.trans (same_new nlf)).trans (same_new nod), same_new nod _ _ upd_same, upd_same, by rw [List.length_range]; exact Nat.zero_add _, same_new nod _ _ (same_new nlf _ _ how), fun rest h => h⟩, ?_⟩
    rintro mm σ H2 ⟨left, ord, w4, w5, w10, w11, rfl, rfl, ndl, hll, hlo2, al2, s2, hlf, hod, lol, how2, soon⟩
    refine ⟨_, rfl, _, .inl ⟨_, SqL.of hlf, rfl⟩, ?_⟩
    by_cases ne : left = []
    · subst ne
      refine if_bl (fun z => nomatch z) (fun _ => ⟨_, rfl, ?_⟩)
      rw [eD]
      have := soon [] .nil
      rw [List.append_nil] at this
      exact q od ord H2 od0 hod s2 this
    · have nb : (!(left.map nV).isEmpty) = true := by
        cases left with
        | nil => exact absurd rfl ne
        | cons a l => rfl
      refine if_bl (fun _ => ⟨W (left.length - 1), fun σ' H' hW => ⟨left.length - 1, by have := List.length_pos_iff.mpr ne; omega, hW⟩, ?_⟩) (fun z => by rw [nb] at z; cases z)
      obtain ⟨k0, hk0, fk0⟩ := some_free hrk ne
      -- the free ones
      refine ⟨_, rfl, lf, rfl, ⟨_, SqL.of hlf⟩, fun D nD => lc_list (K := K) (a := lf) (xs := left.map nV) (fun i H5 => ∃ fs : List Nat, H5 D = some (.lst (fs.map nV)) ∧ H5 lf = some (.lst (left.map nV)) ∧ H5 ow = some (.lst (fL hs.length fun k => cN (owing left k) (looseOf bs))) ∧ Same H2 H5 ∧ fs.length ≤ i ∧ (∀ k, k ∈ fs ↔ k ∈ left.take i ∧ free (looseOf bs) left k)) ⟨[], upd_same, same_new nD _ _ hlf, same_new nD _ _ how2, same_new nD, Nat.le_refl _, fun k => ⟨(fun z => nomatch z), (fun z => nomatch z.1)⟩⟩ (fun i H5 _ ⟨_, _, h, _⟩ => SqL.of h) ?_ ?_⟩
      · rintro i x H5 hx ⟨fs, hD, hlf5, how5, s5, lf5, mem⟩
        rw [List.getElem?_map] at hx
        cases ek : left[i]? with
        | none => rw [ek] at hx; cases hx
        | some k =>
        rw [ek] at hx
        obtain rfl : nV k = x := Option.some.inj hx
        have kl := hll k (List.mem_of_getElem? ek)
        refine ⟨rfl, _, rfl, _, rfl, ow, _, _, _, rfl, rfl, SqL.of how5, atI_nat (fL_get kl), rfl, _, rfl, if_bl (fun kk => ?_) (fun kk => ?_)⟩
        · have fk : free (looseOf bs) left k := owing_free.mp (V.int.inj (of_decide_eq_true kk))
          refine ⟨_, rfl, _, hD, ?_, fs ++ [k], ?_, ?_, ?_, Same.own s5 nD, by rw [List.length_append]; show fs.length + 1 ≤ i + 1; omega, fun j => ?_⟩
          · rw [List.length_map]
            have := (List.getElem?_eq_some_iff.mp ek).1
            exact small1000 (by omega)
          · rw [upd_same, List.map_append]; rfl
          · rw [upd_ne (ne_of_none hlf nD)]; exact hlf5
          · rw [upd_ne (ne_of_none how2 nD)]; exact how5
          · rw [List.mem_append, mem, List.take_add_one, ek, List.mem_append]
            constructor
            · rintro (h | h)
              · exact ⟨.inl h.1, h.2⟩
              · obtain rfl : j = k := by simpa using h
                exact ⟨.inr (by simp), fk⟩
            · rintro ⟨h | h, f⟩
              · exact .inl ⟨h, f⟩
              · obtain rfl : j = k := by simpa using h
                exact .inr (by simp)
        · have fk : ¬ free (looseOf bs) left k := fun z => of_decide_eq_false kk (congrArg V.int (owing_free.mpr z))
          refine ⟨fs, hD, hlf5, how5, s5, by omega, fun j => ?_⟩
          rw [mem, List.take_add_one, ek, List.mem_append]
          constructor
          · rintro ⟨h, f⟩
            exact ⟨.inl h, f⟩
          · rintro ⟨h | h, f⟩
            · exact ⟨h, f⟩
            · obtain rfl : j = k := by simpa using h
              exact absurd f fk
      · rintro H5 ⟨fs, hD, hlf5, how5, s5, lf5, mem⟩
        rw [List.length_map, List.take_length] at mem
        have hk0f : k0 ∈ fs := (mem k0).mpr ⟨hk0, fk0⟩
        refine ⟨D, fs.map fun k => ((k : Nat) : Int), rfl, SqL.of (by rw [hD, List.map_map]; rfl), by rw [List.length_map]; exact List.length_pos_of_mem hk0f, fun m hm hmin => ?_⟩
        obtain ⟨k, hk, rfl⟩ := List.mem_map.mp hm
        obtain ⟨hkl, fk⟩ := (mem k).mp hk
        have least : ∀ j ∈ left, free (looseOf bs) left j → k ≤ j := fun j h1 h2 => by
          have := hmin ((j : Nat) : Int) (List.mem_map.mpr ⟨j, (mem j).mpr ⟨h1, h2⟩, rfl⟩)
          omega
        have kl := hll k hkl
        obtain ⟨j, hj, hfirst, ees⟩ : ∃ j : Nat, left[j]? = some k ∧ (∀ m : Nat, m < j → left[m]? ≠ some k) ∧ left.eraseIdx j = left.erase k := by
          refine ⟨left.idxOf k, ?_, fun m hm => ?_, (List.erase_eq_eraseIdx_of_idxOf (rfl : left.idxOf k = left.idxOf k)).symm⟩
          · rw [List.getElem?_eq_getElem (List.idxOf_lt_length_of_mem hkl), List.getElem_idxOf]
          · intro e
            have := List.idxOf_lt_length_of_mem hkl
            have e1 : left[m] = k := (List.getElem?_eq_some_iff.mp e).2
            have e2 : left[left.idxOf k] = k := List.getElem_idxOf this
            have := (List.getElem_inj ndl (h₀ := by omega) (h₁ := this)).mp (e1.trans e2.symm)
            omega
        have elf : left.map nV = (left.map fun k => ((k : Nat) : Int)).map V.int := by rw [List.map_map]; rfl
        refine ⟨_, rfl, .inl ⟨rfl, _, SqL.of hlf5⟩, _, rfl, lf, left.map (fun k => ((k : Nat) : Int)), ((k : Nat) : Int), j, rfl, rfl, by rw [hlf5, elf], by rw [List.getElem?_map, hj]; rfl, fun m hm => ?_, ?_⟩
        · rw [List.getElem?_map]
          intro e
          cases em : left[m]? with
          | none => rw [em] at e; cases e
          | some y =>
            rw [em] at e
            have e : ((y : Nat) : Int) = ((k : Nat) : Int) := Option.some.inj e
            exact hfirst m hm (by rw [em]; congr 1; omega)
        have eer : ((left.map fun k => ((k : Nat) : Int)).eraseIdx j).map V.int = (left.erase k).map nV := by
          rw [← ees, erase_map, List.map_map]; rfl
        rw [eer]
        have hod5 := s5 _ _ hod
        have tk5 := TK.same s5
        have hlo5 := s5 _ _ hlo2
        have s6 : Same H (upd H5 lf (.lst ((left.erase k).map nV))) := Same.own (s2.trans s5) lf0
        have hod6 : (upd H5 lf (.lst ((left.erase k).map nV))) od = some (.lst (ord.map nV)) := by rw [upd_ne lfod.symm]; exact hod5
        have ll := lol
        have hlp := List.length_pos_of_mem hkl
        refine ⟨_, rfl, .inl ⟨rfl, _, SqL.of hod6⟩, _, rfl, od, _, _, rfl, rfl, hod6, by rw [List.length_map]; exact small1000 (by omega), ?_⟩
        have tk7 : TK H2 (upd (upd H5 lf (.lst ((left.erase k).map nV))) od (.lst (ord.map nV ++ [nV k]))) := (tk5.trans (TK.lst hlf5)).trans (TK.lst hod6)
        have hlo7 : (upd (upd H5 lf (.lst ((left.erase k).map nV))) od (.lst (ord.map nV ++ [nV k]))) lo = some (.lst lv) := by
          rw [upd_ne odlo, upd_ne lflo]; exact hlo5
        refine ⟨_, rfl, lo, rfl, ⟨_, SqL.of hlo7⟩, for_list (K := K) (a := lo) (xs := lv) (fun i σ H3 => ∃ v4 v5 : Option V, σ = [some (.ref r), some (.ref ha), some (.ref ba), some (.ref lo), v4, v5, none, some (.ref ow), some (.ref lf), some (.ref od), some (nV k), w11] ∧ H3 lo = some (.lst lv) ∧ All2 (PairAt H3) lv (looseOf bs) ∧ Same H H3 ∧ H3 lf = some (.lst ((left.erase k).map nV)) ∧ H3 od = some (.lst ((ord ++ [k]).map nV)) ∧ H3 ow = some (.lst (fL hs.length fun z => cN (owing left z) (looseOf bs) - cN (fun p => decide (p.1 = k) && decide (p.2 = z)) ((looseOf bs).take i))))
          ⟨w4, w5, rfl, hlo7, al2.imp fun _ _ z => z.keep tk7, Same.own s6 od0, by rw [upd_ne lfod, upd_same], by rw [upd_same, List.map_append]; rfl, ?_⟩ (fun i σ H3 _ ⟨_, _, _, h, _⟩ => SqL.of h) ?_ ?_⟩
        · rw [upd_ne odow, upd_ne lfow, how5]
          congr 2
        · rintro i x σ H3 hx ⟨u4, u5, rfl, hlo3, al3, s3, hlf3, hod3, how3⟩
          obtain ⟨p, ep, ⟨t, rfl, e1⟩⟩ := al3.getL hx
          have hp := pls p (List.mem_of_getElem? ep)
          have etk : (looseOf bs).take (i + 1) = (looseOf bs).take i ++ [p] := by rw [List.take_add_one, ep]; rfl
          refine ⟨t, _, rfl, SqT.of e1, rfl, _, _, rfl, _, _, rfl, rfl, ?_⟩
          refine ⟨_, rfl, _, rfl, rfl, _, rfl, if_bl (fun kk => ?_) (fun kk => ?_)⟩
          · have pk : p.1 = k := by have := V.int.inj (of_decide_eq_true kk); omega
            refine ⟨_, rfl, _, rfl, ow, _, p.2, _, rfl, rfl, SqL.of how3, fL_get hp.2, _, _, rfl, rfl, ow, _, _, p.2, rfl, rfl, how3, ?_, ?_⟩
            · unfold ixN
              rw [if_pos (by omega), if_pos (by rw [List.length_map, List.length_range]; omega), Int.toNat_natCast]
            · refine ⟨_, _, rfl, ?_, al3.imp fun _ _ z => z.keep (TK.lst how3), Same.own s3 now, ?_, ?_, ?_⟩
              · rw [upd_ne low]; exact hlo3
              · rw [upd_ne lfow.symm]; exact hlf3
              · rw [upd_ne odow.symm]; exact hod3
              · rw [upd_same, fL_set]
                congr 2
                refine List.map_congr_left fun z _ => ?_
                show V.int (if z = p.2 then (cN (owing left p.2) (looseOf bs) - cN (fun q => decide (q.1 = k) && decide (q.2 = p.2)) ((looseOf bs).take i)) - 1 else cN (owing left z) (looseOf bs) - cN (fun q => decide (q.1 = k) && decide (q.2 = z)) ((looseOf bs).take i)) = V.int (cN (owing left z) (looseOf bs) - cN (fun q => decide (q.1 = k) && decide (q.2 = z)) ((looseOf bs).take (i + 1)))
                rw [etk, cN_snoc]
                by_cases e : z = p.2
                · subst e
                  simp [pk]
                  omega
                · have : ¬ p.2 = z := fun y => e y.symm
                  simp [e, this]
          · have pk : ¬ p.1 = k := fun e => of_decide_eq_false kk (by rw [e])
            refine ⟨_, _, rfl, hlo3, al3, s3, hlf3, hod3, ?_⟩
            rw [how3]
            congr 2
            refine List.map_congr_left fun z _ => ?_
            show V.int (_ - cN _ _) = V.int (_ - cN _ _)
            rw [etk, cN_snoc]
            simp [pk]
        · rintro σ H3 ⟨u4, u5, rfl, hlo3, al3, s3, hlf3, hod3, how3⟩
          have le : (left.erase k).length = left.length - 1 := List.length_erase_of_mem hkl
          refine ⟨left.erase k, ord ++ [k], u4, u5, _, _, rfl, le.symm, ndl.erase k, fun y hy => hll y (List.mem_of_mem_erase hy), hlo3, al3, s3, hlf3, hod3, by rw [List.length_append, le]; show ord.length + 1 + (left.length - 1) = hs.length; omega, ?_, fun rest h => ?_⟩
          · rw [how3, List.take_of_length_le (by rw [← al3.length]; exact Nat.le_refl _)]
            congr 2
            refine List.map_congr_left fun z _ => ?_
            show V.int (_ - cN _ _) = V.int (cN _ _)
            rw [cN_erase ndl hkl]
          · have := soon (k :: rest) (.cons hkl fk least h)
            rw [List.append_assoc]
            exact this
  case tail1 =>
    rintro D' σ' H1 ⟨eD, lo, lv, rfl, hlo, al, s1, nlo⟩
    refine ⟨(by show 1 ≤ sizeLine; decide), fun l1 nl1 => ⟨_, rfl, ha, _, rfl, .inr (SqT.of (same_new nl1 _ _ (s1 _ _ eh))), l1, _, _, rfl, rfl, upd_same, by omega, by omega, little (by show 1 * _ ≤ 1000; omega), fun ow now => ?_⟩⟩
    have s2 : Same H _ := (s1.trans (same_new (o := .lst [V.int 0]) nl1)).trans (same_new (o := .lst (fL hs.length fun _ => 0)) now)
    have now0 : H ow = none := same_none (s1.trans (same_new nl1)) now
    have hlo2 := same_new (o := .lst (fL hs.length fun _ => 0)) now _ _ (same_new (o := .lst [V.int 0]) nl1 _ _ hlo)
    have low : lo ≠ ow := ne_of_none (same_new nl1 _ _ hlo) now
    have e0 : (List.replicate ((hv.length : Nat) : Int).toNat [V.int 0]).flatten = fL hs.length fun _ => 0 := by
      rw [flat_rep, Int.toNat_natCast, lhv]
      symm
      show (List.range hs.length).map (fun _ => V.int 0) = _
      rw [List.map_const', List.length_range]
    rw [e0]
    refine ⟨_, rfl, lo, rfl, ⟨_, SqL.of hlo2⟩, for_list (K := K) (a := lo) (xs := lv) (fun i σ H3 => ∃ v4 v5 : Option V, σ = [some (.ref r), some (.ref ha), some (.ref ba), some (.ref lo), v4, v5, none, some (.ref ow), none, none, none, none] ∧ H3 lo = some (.lst lv) ∧ All2 (PairAt H3) lv (looseOf bs) ∧ Same H H3 ∧ H3 ow = some (.lst (fL hs.length fun k => cN (fun p => decide (p.2 = k)) ((looseOf bs).take i))))
      ⟨none, none, rfl, hlo2, al.imp fun _ _ z => z.keep ((TK.new nl1).trans (TK.new now)), s2, upd_same⟩ (fun i σ H3 _ ⟨_, _, _, h, _⟩ => SqL.of h) ?_ ?_⟩
    · rintro i x σ H3 hx ⟨v4, v5, rfl, hlo3, al3, s3, how⟩
      obtain ⟨p, ep, ⟨t, rfl, e1⟩⟩ := al3.getL hx
      have hp := pls p (List.mem_of_getElem? ep)
      refine ⟨t, _, rfl, SqT.of e1, rfl, _, _, rfl, _, _, rfl, rfl, ?_⟩
      refine ⟨_, rfl, _, rfl, ow, _, p.2, _, rfl, rfl, SqL.of how, fL_get hp.2, _, _, rfl, rfl, ow, _, _, p.2, rfl, rfl, how, ?_, ?_⟩
      · unfold ixN
        rw [if_pos (by omega), if_pos (by rw [List.length_map, List.length_range]; omega), Int.toNat_natCast]
      · refine ⟨_, _, rfl, ?_, al3.imp fun _ _ z => z.keep (TK.lst how), Same.own s3 now0, ?_⟩
        · rw [upd_ne low]; exact hlo3
        · rw [upd_same, fL_set]
          congr 2
          refine List.map_congr_left fun k _ => ?_
          show V.int (if k = p.2 then cN (fun q => decide (q.2 = p.2)) ((looseOf bs).take i) + 1 else cN (fun q => decide (q.2 = k)) ((looseOf bs).take i)) = V.int (cN (fun q => decide (q.2 = k)) ((looseOf bs).take (i + 1)))
          rw [List.take_add_one, ep, show (some p).toList = [p] from rfl, cN_snoc]
          by_cases e : k = p.2
          · subst e
            simp
          · have : ¬ p.2 = k := fun z => e z.symm
            simp [e, this]
    · rintro σ H3 ⟨v4, v5, rfl, hlo3, al3, s3, how⟩
      refine ⟨eD, lo, ow, lv, v4, v5, rfl, hlo3, al3, s3, nlo, now0, low, ?_⟩
      rw [how, List.take_of_length_le (by rw [← al3.length]; exact Nat.le_refl _)]
      congr 2
      refine List.map_congr_left fun k _ => ?_
      show V.int (cN (fun q => decide (q.2 = k)) (looseOf bs)) = V.int (cN (owing (List.range hs.length) k) (looseOf bs))
      have e : (looseOf bs).filter (fun q => decide (q.2 = k)) = (looseOf bs).filter (owing (List.range hs.length) k) := List.filter_congr fun p hp => by
        have := (pls p hp).1
        show decide (p.2 = k) = (decide (p.2 = k) && decide (p.1 ∈ List.range hs.length))
        rw [decide_eq_true (List.mem_range.mpr this), Bool.and_true]
      unfold cN
      rw [e]
  refine ⟨_, rfl, r, _, rfl, SqT.of er, rfl, _, _, rfl, _, _, rfl, rfl, ?_⟩
  refine ⟨_, rfl, ba, rfl, ⟨_, SqT.of eb⟩, fun D nD => lc_tup (K := K) (a := ba) (xs := bv) (fun i H5 => ∃ lv : List V, H5 D = some (.lst lv) ∧ All2 (PairAt H5) lv (looseOf (bs.take i)) ∧ Same H H5) ⟨[], upd_same, .nil, same_new nD⟩ (fun i H5 _ ⟨_, _, _, s5⟩ => SqT.of (s5 _ _ eb)) ?_ ?_⟩
  · rintro i x H5 hx ⟨lv, hD, al, s5⟩
    obtain ⟨b, eb2, ⟨t, g, rfl, e1, e2⟩⟩ := alb.getL hx
    have il : i < bs.length := (List.getElem?_eq_some_iff.mp eb2).1
    have elo : looseOf (bs.take (i + 1)) = looseOf (bs.take i) ++ (if b.th.isEmpty = true then [(b.one, b.to)] else []) := by
      unfold looseOf
      rw [List.take_add_one, eb2, List.filter_append, List.map_append]
      congr 1
      cases h : b.th.isEmpty <;> simp [h]
    refine ⟨t, _, rfl, SqT.of (s5 _ _ e1), rfl, _, _, rfl, _, _, rfl, _, _, rfl, rfl, rfl, _, rfl, _, .inr (.inl ⟨_, SqT.of (s5 _ _ e2), rfl⟩), ?_⟩
    have lvl : lv.length ≤ 400 := by
      rw [al.length]
      unfold looseOf
      rw [List.length_map]
      refine Nat.le_trans (List.length_filter_le ..) ?_
      rw [List.length_take]
      omega
    refine if_bl (fun kk => ?_) (fun kk => ?_)
    · have ke : b.th.isEmpty = true := by
        cases h : b.th with
        | nil => rfl
        | cons a l => rw [h] at kk; cases kk
      refine ⟨_, rfl, _, rfl, (by show 2 ≤ sizeLine; decide), fun u nu => ⟨lv, same_new nu _ _ hD, small1000 (by omega), lv ++ [V.ref u], upd_same, ?_, ?_⟩⟩
      · rw [elo, if_pos ke]
        exact ((al.imp fun _ _ z => z.keep (TK.new nu)).snoc ⟨u, rfl, upd_same⟩).imp fun _ _ z => z.keep (TK.lst (same_new nu _ _ hD))
      · exact Same.own (s5.trans (same_new nu)) nD
    · have ke : ¬ b.th.isEmpty = true := by
        cases h : b.th with
        | nil => rw [h] at kk; cases kk
        | cons a l => intro z; cases z
      refine ⟨lv, hD, ?_, s5⟩
      rw [elo, if_neg ke, List.append_nil]
      exact al
  · rintro H5 ⟨lv, hD, al, s5⟩
    rw [List.take_of_length_le (by omega)] at al
    exact ⟨rfl, D, lv, rfl, hD, al, s5, nD⟩
end
/-! ### what rules make, bells -/
def mk2 (wd : Str) (a b : Int) : Int :=
  if wd = "sum" then a + b else if wd = "gap" then a - b else if wd = "below" then (if a < b then 1 else 0) else if wd = "most" then (if b > a then b else a) else (if b < a then b else a)
def mk (wd : Str) (n a b c : Int) : Int :=
  if wd = "always" then n else if wd = "times" then n * a else if wd = "pick" then (if a = 0 then c else b) else if wd = "same" ∨ wd = "out" then a else mk2 wd a b
def mkR (h : HR) (xs : List Int) : Int := mk h.wd (h.no.getD 0) (xs.getD 0 0) (xs.getD 1 0) (xs.getD 2 0)
/-- the hands whose rule is this door's -/
def doorsOf (z : Str) (hs : List HR) : List Nat := (List.range hs.length).filter fun i => decide (hs[i]?.map HR.wd = some z)
theorem mem_doors {z : Str} {hs : List HR} {k : Nat} : k ∈ doorsOf z hs ↔ ∃ h, hs[k]? = some h ∧ h.wd = z := by
  unfold doorsOf
  rw [List.mem_filter, List.mem_range, decide_eq_true_eq]
  constructor
  · rintro ⟨a, b⟩
    rw [List.getElem?_eq_getElem a] at b
    exact ⟨_, List.getElem?_eq_getElem a, Option.some.inj b⟩
  · rintro ⟨h, a, b⟩
    refine ⟨(List.getElem?_eq_some_iff.mp a).1, ?_⟩
    rw [a, ← b]
    rfl
theorem doors_nodup {z : Str} {hs : List HR} : (doorsOf z hs).Nodup := List.nodup_range.filter _
theorem doors_len {z : Str} {hs : List HR} : (doorsOf z hs).length ≤ hs.length := by
  refine Nat.le_trans (List.length_filter_le ..) ?_
  rw [List.length_range]
  exact Nat.le_refl _
abbrev gD (m : List Int) (k : Nat) : Int := m.getD k 0
def valB (f : Nat → Int) (b : BR) : Int := match b.th with | [] => f b.one | x :: _ => x
def takes (cur : List BR) (f : Nat → Int) (k : Nat) : List Int := (cur.filter fun b => decide (b.to = k)).map (valB f)
theorem valB_nil {f : Nat → Int} {b : BR} (h : b.th = []) : valB f b = f b.one := by unfold valB; rw [h]
theorem takes_ext {cur : List BR} {f g : Nat → Int} {k : Nat} (h : ∀ b ∈ cur, b.to = k → b.th = [] → f b.one = g b.one) : takes cur f k = takes cur g k := by
  unfold takes
  refine List.map_congr_left fun b hb => ?_
  have hb := List.mem_filter.mp hb
  cases e : b.th with
  | nil => rw [valB_nil e, valB_nil e]; exact h b hb.1 (of_decide_eq_true hb.2) e
  | cons x l => unfold valB; rw [e]
structure IsBell (hs : List HR) (cur : List BR) (ins m : List Int) : Prop where
  len : m.length = hs.length
  door : ∀ j k : Nat, (doorsOf "in" hs)[j]? = some k → m[k]? = ins[j]?
  hand : ∀ (k : Nat) (h : HR), hs[k]? = some h → h.wd ≠ "in" → m[k]? = some (mkR h (takes cur (gD m) k))
theorem mem_loose {cur : List BR} {b : BR} (h : b ∈ cur) (e : b.th = []) : (b.one, b.to) ∈ looseOf cur := List.mem_map.mpr ⟨b, List.mem_filter.mpr ⟨h, by rw [e]; rfl⟩, rfl⟩
theorem bell_one {hs : List HR} {cur : List BR} {ins m m' : List Int} {rk : Nat → Int} (hr : ∀ p ∈ looseOf cur, rk p.1 < rk p.2) (a : IsBell hs cur ins m) (b : IsBell hs cur ins m') : m = m' := by
  have off : ∀ k, ¬ k < hs.length → m[k]? = m'[k]? := fun k hk => by
    rw [List.getElem?_eq_none (by have := a.len; omega), List.getElem?_eq_none (by have := b.len; omega)]
  obtain ⟨D, hD⟩ : ∃ D, D = (List.range hs.length).filter fun k => decide (m[k]? ≠ m'[k]?) := ⟨_, rfl⟩
  have mD : ∀ k, k ∉ D → m[k]? = m'[k]? := fun k hk => by
    by_cases l : k < hs.length
    · by_cases e : m[k]? = m'[k]?
      · exact e
      · refine absurd ?_ hk
        rw [hD, List.mem_filter]
        exact ⟨List.mem_range.mpr l, decide_eq_true e⟩
    · exact off k l
  by_cases e : D = []
  · refine List.ext_getElem? fun k => mD k ?_
    rw [e]
    exact fun z => nomatch z
  · exfalso
    obtain ⟨k, hk, fr⟩ := some_free hr e
    have hk2 := hk
    rw [hD, List.mem_filter] at hk2
    have kl := List.mem_range.mp hk2.1
    have ne : m[k]? ≠ m'[k]? := of_decide_eq_true hk2.2
    have eh : hs[k]? = some hs[k] := List.getElem?_eq_getElem kl
    by_cases w : hs[k].wd = "in"
    · obtain ⟨j, hj⟩ := List.getElem?_of_mem (mem_doors.mpr ⟨_, eh, w⟩)
      exact ne ((a.door j k hj).trans (b.door j k hj).symm)
    · refine ne ((a.hand k _ eh w).trans ((b.hand k _ eh w).trans ?_).symm)
      rw [takes_ext (g := gD m) fun c hc et en => ?_]
      have := mD c.one (fr _ (mem_loose hc en) et)
      show m'.getD c.one 0 = m.getD c.one 0
      rw [List.getD_eq_getElem?_getD, List.getD_eq_getElem?_getD, this]
/-- what some hands have made already -/
structure Part (hs : List HR) (cur : List BR) (ins : List Int) (pm : Nat → Option Int) : Prop where
  dom : ∀ k v, pm k = some v → k < hs.length
  door : ∀ j k : Nat, (doorsOf "in" hs)[j]? = some k → pm k = ins[j]?
  hand : ∀ (k : Nat) (h : HR) (v : Int), hs[k]? = some h → h.wd ≠ "in" → pm k = some v → v = mkR h (takes cur (fun j => (pm j).getD 0) k) ∧ ∀ b ∈ cur, b.to = k → b.th = [] → (pm b.one).isSome = true
abbrev putM (pm : Nat → Option Int) (k : Nat) (v : Int) : Nat → Option Int := fun j => if j = k then some v else pm j
theorem Part.put {hs : List HR} {cur : List BR} {ins : List Int} {pm : Nat → Option Int} (p : Part hs cur ins pm) {k : Nat} {h : HR} (eh : hs[k]? = some h) (w : h.wd ≠ "in") (new : pm k = none)
    (there : ∀ b ∈ cur, b.to = k → b.th = [] → (pm b.one).isSome = true) : Part hs cur ins (putM pm k (mkR h (takes cur (fun j => (pm j).getD 0) k))) := by
  have old : ∀ j, (pm j).isSome = true → ∀ v, putM pm k v j = pm j := fun j hj v => if_neg fun e => by rw [e, new] at hj; cases hj
  have same : ∀ j v, (∀ b ∈ cur, b.to = j → b.th = [] → (pm b.one).isSome = true) → takes cur (fun i => (pm i).getD 0) j = takes cur (fun i => (putM pm k v i).getD 0) j := fun j v hb => takes_ext fun b b1 b2 b3 => by
    show (pm b.one).getD 0 = (putM pm k v b.one).getD 0
    rw [old _ (hb b b1 b2 b3)]
  refine ⟨fun j v e => ?_, fun i j e => ?_, fun j h' v e1 e2 e3 => ?_⟩
  · by_cases z : j = k
    · rw [z]; exact (List.getElem?_eq_some_iff.mp eh).1
    · exact p.dom j v ((if_neg z).symm.trans e)
  · have z : j ≠ k := fun z => by
      obtain ⟨h2, q1, q2⟩ := mem_doors.mp (List.mem_of_getElem? e)
      rw [z, eh] at q1
      cases q1
      exact w q2
    exact (if_neg z).trans (p.door i j e)
  · by_cases z : j = k
    · subst z
      rw [eh] at e1
      cases e1
      have e4 := Option.some.inj ((if_pos rfl).symm.trans e3)
      refine ⟨?_, fun b b1 b2 b3 => ?_⟩
      · exact e4.symm.trans (congrArg (mkR h) (same _ _ there))
      · rw [old _ (there b b1 b2 b3)]
        exact there b b1 b2 b3
    · have e4 : pm j = some v := (if_neg z).symm.trans e3
      obtain ⟨q1, q2⟩ := p.hand j h' v e1 e2 e4
      refine ⟨?_, fun b b1 b2 b3 => ?_⟩
      · exact q1.trans (congrArg (mkR h') (same _ _ q2))
      · rw [old _ (q2 b b1 b2 b3)]
        exact q2 b b1 b2 b3
abbrev fullM (n : Nat) (pm : Nat → Option Int) : List Int := (List.range n).map fun k => (pm k).getD 0
theorem fullM_get {n k : Nat} {pm : Nat → Option Int} (h : k < n) : (fullM n pm)[k]? = some ((pm k).getD 0) := by
  rw [List.getElem?_map, List.getElem?_range h]; rfl
theorem Part.full {hs : List HR} {cur : List BR} {ins : List Int} {pm : Nat → Option Int} (p : Part hs cur ins pm) (all : ∀ k, k < hs.length → (pm k).isSome = true) : IsBell hs cur ins (fullM hs.length pm) := by
  have at_ : ∀ k, k < hs.length → ∃ v, pm k = some v ∧ (fullM hs.length pm)[k]? = some v := fun k hk => by
    obtain ⟨v, hv⟩ := Option.isSome_iff_exists.mp (all k hk)
    exact ⟨v, hv, by rw [fullM_get hk, hv]; rfl⟩
  refine ⟨by rw [List.length_map, List.length_range], fun j k e => ?_, fun k h e w => ?_⟩
  · obtain ⟨h, q, _⟩ := mem_doors.mp (List.mem_of_getElem? e)
    obtain ⟨v, e1, e2⟩ := at_ k (List.getElem?_eq_some_iff.mp q).1
    rw [e2, ← e1]
    exact p.door j k e
  · obtain ⟨v, e1, e2⟩ := at_ k (List.getElem?_eq_some_iff.mp e).1
    obtain ⟨q1, q2⟩ := p.hand k h v e w e1
    rw [e2, q1]
    congr 2
    refine takes_ext fun b b1 b2 b3 => ?_
    obtain ⟨x, hx⟩ := Option.isSome_iff_exists.mp (q2 b b1 b2 b3)
    obtain ⟨y, e3, e4⟩ := at_ b.one (p.dom _ _ hx)
    show (pm b.one).getD 0 = (fullM hs.length pm).getD b.one 0
    rw [List.getD_eq_getElem?_getD, e4, e3]
/-! ### the dict of what was made -/
abbrev kN (k : Nat) : Key := .inl ((k : Nat) : Int)
def DM (kvs : List (Key × V)) (pm : Nat → Option Int) : Prop := ∀ k : Nat, valV kvs (kN k) = (pm k).map V.int
theorem kN_inj {a b : Nat} (h : kN a = kN b) : a = b := by
  have : ((a : Nat) : Int) = ((b : Nat) : Int) := Sum.inl.inj h
  omega
theorem DM.put {kvs : List (Key × V)} {pm : Nat → Option Int} (d : DM kvs pm) (k : Nat) (v : Int) : DM (putK kvs (kN k) (.int v)) (putM pm k v) := fun j => by
  rw [valV_put]
  by_cases e : j = k
  · subst e
    rw [if_pos rfl, show putM pm j v j = some v from if_pos rfl]
    rfl
  · rw [if_neg fun z => e (kN_inj z), show putM pm k v j = pm j from if_neg e]
    exact d j
theorem merge_off {k : Nat} : ∀ (ks : List Nat) (xs : List Int) (acc : List (Key × V)), k ∉ ks → valV (mergeK acc ((ks.map kN).zip (xs.map V.int))) (kN k) = valV acc (kN k)
  | [], _, _, _ => rfl
  | _ :: _, [], _, _ => rfl
  | a :: ks, x :: xs, acc, h => by
    have h1 : k ≠ a := fun e => h (by rw [e]; exact List.mem_cons_self ..)
    have h2 : k ∉ ks := fun e => h (List.mem_cons_of_mem _ e)
    show valV (mergeK (putK acc (kN a) (V.int x)) ((ks.map kN).zip (xs.map V.int))) (kN k) = _
    rw [merge_off ks xs _ h2, valV_put, if_neg fun z => h1 (kN_inj z)]
theorem merge_on {k : Nat} {v : Int} : ∀ (ks : List Nat) (xs : List Int) (acc : List (Key × V)) (j : Nat), ks.Nodup → ks[j]? = some k → xs[j]? = some v → valV (mergeK acc ((ks.map kN).zip (xs.map V.int))) (kN k) = some (.int v)
  | [], _, _, _, _, h, _ => nomatch h
  | _ :: _, [], _, _, _, _, h => nomatch h
  | a :: ks, x :: xs, acc, 0, nd, h1, h2 => by
    cases h1
    cases h2
    show valV (mergeK (putK acc (kN k) (V.int v)) ((ks.map kN).zip (xs.map V.int))) (kN k) = _
    rw [merge_off ks xs _ (List.nodup_cons.mp nd).1, valV_put, if_pos rfl]
  | a :: ks, x :: xs, acc, j + 1, nd, h1, h2 => merge_on ks xs _ j (List.nodup_cons.mp nd).2 h1 h2
/-- what the in doors have made -/
def doorM (hs : List HR) (ins : List Int) : Nat → Option Int := fun k => if k ∈ doorsOf "in" hs then ins[(doorsOf "in" hs).idxOf k]? else none
theorem idx_at {l : List Nat} (nd : l.Nodup) {j k : Nat} (h : l[j]? = some k) : l.idxOf k = j := by
  have jl := (List.getElem?_eq_some_iff.mp h).1
  have m := List.mem_of_getElem? h
  have il := List.idxOf_lt_length_of_mem m
  exact (List.getElem_inj nd (h₀ := il) (h₁ := jl)).mp ((List.getElem_idxOf il).trans (List.getElem?_eq_some_iff.mp h).2.symm)
theorem doorM_dm {hs : List HR} {ins : List Int} (hl : ins.length = (doorsOf "in" hs).length) : DM (mergeK [] (((doorsOf "in" hs).map kN).zip (ins.map V.int))) (doorM hs ins) := fun k => by
  unfold doorM
  by_cases e : k ∈ doorsOf "in" hs
  · rw [if_pos e]
    have il := List.idxOf_lt_length_of_mem e
    have e1 : (doorsOf "in" hs)[(doorsOf "in" hs).idxOf k]? = some k := by rw [List.getElem?_eq_getElem il, List.getElem_idxOf]
    have e2 : ins[(doorsOf "in" hs).idxOf k]? = some ins[(doorsOf "in" hs).idxOf k] := List.getElem?_eq_getElem (by omega)
    rw [merge_on _ _ _ _ doors_nodup e1 e2, e2]
    rfl
  · rw [if_neg e, merge_off _ _ _ e]
    rfl
theorem doorM_part {hs : List HR} {cur : List BR} {ins : List Int} : Part hs cur ins (doorM hs ins) := by
  refine ⟨fun k v e => ?_, fun j k e => ?_, fun k h v e w e2 => ?_⟩
  · unfold doorM at e
    by_cases m : k ∈ doorsOf "in" hs
    · obtain ⟨h, q, _⟩ := mem_doors.mp m
      exact (List.getElem?_eq_some_iff.mp q).1
    · rw [if_neg m] at e
      cases e
  · unfold doorM
    rw [if_pos (List.mem_of_getElem? e), idx_at doors_nodup e]
  · unfold doorM at e2
    rw [if_neg fun m => by
      obtain ⟨h2, q1, q2⟩ := mem_doors.mp m
      rw [e] at q1
      cases q1
      exact w q2] at e2
    cases e2
theorem doorM_all {hs : List HR} {ins : List Int} (hl : ins.length = (doorsOf "in" hs).length) {k : Nat} {h : HR} (e : hs[k]? = some h) (w : h.wd = "in") : (doorM hs ins k).isSome = true := by
  have m := mem_doors.mpr ⟨h, e, w⟩
  unfold doorM
  rw [if_pos m]
  have il := List.idxOf_lt_length_of_mem m
  rw [List.getElem?_eq_getElem (by omega)]
  rfl
/-! ### belts as they stand behind some bells -/
def nextB (m : List Int) (b : BR) : BR := if b.th = [] then b else ⟨b.one, b.to, b.th.drop 1 ++ [gD m b.one]⟩
def standB (ms : List (List Int)) (b : BR) : BR := if b.th = [] then b else ⟨b.one, b.to, (b.th ++ ms.map fun m => gD m b.one).drop ms.length⟩
abbrev stand (bs : List BR) (ms : List (List Int)) : List BR := bs.map (standB ms)
theorem stand_one (ms : List (List Int)) (b : BR) : (standB ms b).one = b.one := by unfold standB; split <;> rfl
theorem stand_to (ms : List (List Int)) (b : BR) : (standB ms b).to = b.to := by unfold standB; split <;> rfl
theorem stand_len (ms : List (List Int)) (b : BR) : (standB ms b).th.length = b.th.length := by
  unfold standB
  split
  · rfl
  · rw [List.length_drop, List.length_append, List.length_map]; omega
theorem nil_len {l l' : List Int} (h : l.length = l'.length) : l = [] ↔ l' = [] := by
  cases l <;> cases l' <;> simp at h ⊢
theorem stand_th (ms : List (List Int)) (b : BR) : (standB ms b).th = [] ↔ b.th = [] := nil_len (stand_len ms b)
theorem stand_zero (bs : List BR) : stand bs [] = bs := by
  refine (List.map_congr_left (g := id) fun b _ => ?_).trans (List.map_id _)
  unfold standB
  split
  · rfl
  · show (⟨b.one, b.to, (b.th ++ []).drop 0⟩ : BR) = b
    rw [List.append_nil]
    rfl
theorem stand_next (bs : List BR) (ms : List (List Int)) (m : List Int) : (stand bs ms).map (nextB m) = stand bs (ms ++ [m]) := by
  rw [List.map_map]
  refine List.map_congr_left fun b _ => ?_
  show nextB m (standB ms b) = standB (ms ++ [m]) b
  have hn := stand_th ms b
  by_cases e : b.th = []
  · rw [show nextB m (standB ms b) = standB ms b from if_pos (hn.mpr e)]
    rw [show standB ms b = b from if_pos e, show standB (ms ++ [m]) b = b from if_pos e]
  · rw [show nextB m (standB ms b) = ⟨(standB ms b).one, (standB ms b).to, (standB ms b).th.drop 1 ++ [gD m (standB ms b).one]⟩ from if_neg fun z => e (hn.mp z)]
    rw [stand_one, stand_to, show standB ms b = ⟨b.one, b.to, (b.th ++ ms.map fun m => gD m b.one).drop ms.length⟩ from if_neg e,
      show standB (ms ++ [m]) b = ⟨b.one, b.to, (b.th ++ (ms ++ [m]).map fun m => gD m b.one).drop (ms ++ [m]).length⟩ from if_neg e]
    show (⟨b.one, b.to, ((b.th ++ ms.map fun m => gD m b.one).drop ms.length).drop 1 ++ [gD m b.one]⟩ : BR) = _
    rw [List.drop_drop, List.map_append, ← List.append_assoc, List.length_append]
    congr 1
    refine (List.drop_append_of_le_length ?_).symm
    have := List.length_pos_iff.mpr e
    rw [List.length_append, List.length_map]
    show ms.length + 1 ≤ _
    omega
theorem loose_stand (bs : List BR) (ms : List (List Int)) : looseOf (stand bs ms) = looseOf bs := by
  unfold looseOf
  induction bs with
  | nil => rfl
  | cons b bs ih =>
    have e : (standB ms b).th.isEmpty = b.th.isEmpty := by
      have h := stand_th ms b
      cases h1 : (standB ms b).th <;> cases h2 : b.th <;> simp [h1, h2] at h ⊢
    show List.map _ (List.filter _ (standB ms b :: stand bs ms)) = _
    rw [List.filter_cons, List.filter_cons, e]
    cases b.th.isEmpty
    · exact ih
    · show ((standB ms b).one, (standB ms b).to) :: _ = (b.one, b.to) :: _
      rw [ih, stand_one, stand_to]
/-- what is taken from a belt with trays -/
theorem stand_head {ms : List (List Int)} {b : BR} (f : Nat → Int) (e : b.th ≠ []) : valB f (standB ms b) = (b.th ++ ms.map fun m => gD m b.one).getD ms.length 0 := by
  have hl := stand_len ms b
  have pos := List.length_pos_iff.mpr e
  have et : (standB ms b).th = (b.th ++ ms.map fun m => gD m b.one).drop ms.length := by unfold standB; rw [if_neg e]
  unfold valB
  cases q : (standB ms b).th with
  | nil => rw [q] at hl; simp at hl; omega
  | cons x l =>
    rw [q] at et
    have : ((b.th ++ ms.map fun m => gD m b.one).drop ms.length)[0]? = some x := by rw [← et]; rfl
    rw [List.getElem?_drop, Nat.add_zero] at this
    rw [List.getD_eq_getElem?_getD, this]
    rfl
/-! ### many bells -/
structure WS (hs : List HR) (bs : List BR) (rows ms : List (List Int)) : Prop where
  len : ms.length = rows.length
  at_ : ∀ (t : Nat) (r m : List Int), rows[t]? = some r → ms[t]? = some m → IsBell hs (stand bs (ms.take t)) r m
theorem WS.nil {hs : List HR} {bs : List BR} : WS hs bs [] [] := ⟨rfl, fun t r m e => nomatch e⟩
theorem WS.snoc {hs : List HR} {bs : List BR} {rows ms : List (List Int)} {r m : List Int} (h : WS hs bs rows ms) (b : IsBell hs (stand bs ms) r m) : WS hs bs (rows ++ [r]) (ms ++ [m]) := by
  refine ⟨by rw [List.length_append, List.length_append, h.len]; rfl, fun t r' m' e1 e2 => ?_⟩
  by_cases l : t < ms.length
  · have l2 : t < rows.length := by rw [← h.len]; exact l
    rw [List.getElem?_append_left l2] at e1
    rw [List.getElem?_append_left l] at e2
    rw [List.take_append_of_le_length (Nat.le_of_lt l)]
    exact h.at_ t r' m' e1 e2
  · have tl := (List.getElem?_eq_some_iff.mp e2).1
    rw [List.length_append] at tl
    have et : t = ms.length := by simp at tl; omega
    subst et
    rw [List.getElem?_append_right (Nat.le_refl _), Nat.sub_self] at e2
    rw [h.len, List.getElem?_append_right (Nat.le_refl _), Nat.sub_self] at e1
    cases e1
    cases e2
    rw [List.take_append_of_le_length (Nat.le_refl _), List.take_length]
    exact b
theorem WS.one {hs : List HR} {bs : List BR} {rows ms ms' : List (List Int)} {rk : Nat → Int} (hr : ∀ p ∈ looseOf bs, rk p.1 < rk p.2) (a : WS hs bs rows ms) (b : WS hs bs rows ms') : ms = ms' := by
  have key : ∀ t, ms.take t = ms'.take t := by
    intro t
    induction t with
    | zero => rfl
    | succ t ih =>
      rw [List.take_add_one, List.take_add_one, ih]
      by_cases l : t < rows.length
      · have l1 : t < ms.length := by have := a.len; omega
        have l2 : t < ms'.length := by have := b.len; omega
        have e1 : ms[t]? = some ms[t] := List.getElem?_eq_getElem l1
        have e2 : ms'[t]? = some ms'[t] := List.getElem?_eq_getElem l2
        have e3 : rows[t]? = some rows[t] := List.getElem?_eq_getElem l
        have q1 := a.at_ t _ _ e3 e1
        have q2 := b.at_ t _ _ e3 e2
        rw [ih] at q1
        have := bell_one (rk := rk) (by rw [loose_stand]; exact hr) q1 q2
        rw [e1, e2, this]
      · rw [List.getElem?_eq_none (by have := a.len; omega), List.getElem?_eq_none (by have := b.len; omega)]
  have h1 := key rows.length
  rw [List.take_of_length_le (by rw [a.len]; exact Nat.le_refl _), List.take_of_length_le (by rw [b.len]; exact Nat.le_refl _)] at h1
  exact h1
theorem WS.row {hs : List HR} {bs : List BR} {rows ms : List (List Int)} (h : WS hs bs rows ms) : ∀ m ∈ ms, m.length = hs.length := fun m hm => by
  obtain ⟨t, e⟩ := List.getElem?_of_mem hm
  have tl := (List.getElem?_eq_some_iff.mp e).1
  have e3 : rows[t]? = some (rows[t]'(by rw [← h.len]; exact tl)) := List.getElem?_eq_getElem _
  exact (h.at_ t _ _ e3 e).len
/-- the belts that come to a hand -/
def comingN (bs : List BR) (k : Nat) : List Nat := (List.range bs.length).filter fun i => decide (bs[i]?.map BR.to = some k)
def outsOf (hs : List HR) (m : List Int) : List Int := (doorsOf "out" hs).map (gD m)
section
variable {P : Program} {w : World} {K : PySem.W.Frag} {mg : Str → Option Value} {base : Heap}
def sp_made_of_two (K : PySem.W.Frag) : Sp := fun vs H Q _ => ∃ (wd : Str) (a b : Int), vs = [.str wd, .int a, .int b] ∧ Q (.int (mk2 wd a b)) H
theorem ok_made_of_two {f : Addr} {fd : FuncData} (F : Fun K "made_of_two" "made_of_two" s_made_of_two f fd) (T : Top K mg) : FnOk P w K mg base CX0 1 f fd ["word", "one", "other"] (sp_made_of_two K) := by
  refine F.ok sc_made_of_two (fun vs H Q E h => ?_) (fun cdv A outer s H vs Q E hr h => ?_)
  · obtain ⟨wd, a, b, rfl, _⟩ := h
    rfl
  obtain ⟨wd, a, b, rfl, q⟩ := h
  unfold mk2 at q
  refine ⟨_, (pss_cons (ps_if (pt_cmpR op_eq (pv 0) pe_str (nomark _)) (pss_one (ps_ret (pe_op op_add (pv 1) (pv 2)))) pss_nil)
      (pss_cons (ps_if (pt_cmpR op_eq (pv 0) pe_str (nomark _)) (pss_one (ps_ret (pe_op op_sub (pv 1) (pv 2)))) pss_nil)
      (pss_cons (ps_if (pt_cmpR op_eq (pv 0) pe_str (nomark _)) (pss_one (ps_ret (pe_ifExp (pt_cmpR op_lt (pv 1) (pv 2) (nomark _)) pe_int pe_int))) pss_nil)
      (pss_cons (ps_if (pt_cmpR op_eq (pv 0) pe_str (nomark _)) (pss_one (ps_ret (pe_callB (call_max2 rfl) (by rfl) T.m_max (by decide +kernel) (pa_cons (pv 1) (pa_cons (pv 2) pa_nil))))) pss_nil)
      (pss_one (ps_ret (pe_callB (call_min2 rfl) (by rfl) T.m_min (by decide +kernel) (pa_cons (pv 1) (pa_cons (pv 2) pa_nil))))))))), ?_⟩
  refine ⟨_, rfl, rfl, _, rfl, if_str (fun e => ?_) (fun e => ?_)⟩
  · rw [if_pos e] at q
    exact ⟨_, rfl, _, rfl, _, _, rfl, rfl, q⟩
  rw [if_neg e] at q
  refine ⟨_, rfl, rfl, _, rfl, if_str (fun e => ?_) (fun e => ?_)⟩
  · rw [if_pos e] at q
    exact ⟨_, rfl, _, rfl, _, _, rfl, rfl, q⟩
  rw [if_neg e] at q
  refine ⟨_, rfl, rfl, _, rfl, if_str (fun e => ?_) (fun e => ?_)⟩
  · rw [if_pos e] at q
    refine ⟨_, rfl, _, rfl, _, _, rfl, rfl, _, rfl, if_bl (fun c => ?_) (fun c => ?_)⟩
    · rw [if_pos (of_decide_eq_true c)] at q
      exact q
    · rw [if_neg (of_decide_eq_false c)] at q
      exact q
  rw [if_neg e] at q
  refine ⟨_, rfl, rfl, _, rfl, if_str (fun e => ?_) (fun e => ?_)⟩
  · rw [if_pos e] at q
    exact ⟨_, rfl, _, rfl, _, _, rfl, q⟩
  rw [if_neg e] at q
  exact ⟨_, rfl, _, rfl, _, _, rfl, q⟩
theorem inV_two {x y z : Str} : inV (.str x) [.str y, .str z] = true ↔ x = y ∨ x = z := by
  unfold inV
  simp only [List.any_cons, List.any_nil, Bool.or_false, Bool.or_eq_true, eqV, beq_iff_eq]
  constructor
  · rintro (h | h)
    · exact .inl h.symm
    · exact .inr h.symm
  · rintro (h | h)
    · exact .inl h.symm
    · exact .inr h.symm
theorem if_in2 {x y z : Str} {A B : Prop} (h1 : x = y ∨ x = z → A) (h2 : ¬ (x = y ∨ x = z) → B) : if (if false = true then !inV (.str x) [.str y, .str z] else inV (.str x) [.str y, .str z]) = true then A else B := by
  have e : (if false = true then !inV (.str x) [.str y, .str z] else inV (.str x) [.str y, .str z]) = inV (.str x) [.str y, .str z] := if_neg Bool.false_ne_true
  rw [e]
  exact if_bl (fun c => h1 (inV_two.mp c)) (fun c => h2 (fun k => by rw [inV_two.mpr k] at c; cases c))
def sp_made_by (K : PySem.W.Frag) : Sp := fun vs H Q _ => ∃ (r t : Addr) (rl ts : List V) (wd : Str) (n a b c : Int), vs = [.ref r, .ref t] ∧ SqT K H r rl ∧ SqT K H t ts ∧ rl[0]? = some (.str wd) ∧
  (wd = "always" ∨ wd = "times" → rl[1]? = some (.int n)) ∧ (wd ≠ "always" → ts[0]? = some (.int a)) ∧ (wd = "pick" ∨ (wd ≠ "always" ∧ wd ≠ "times" ∧ wd ≠ "same" ∧ wd ≠ "out") → ts[1]? = some (.int b)) ∧ (wd = "pick" → ts[2]? = some (.int c)) ∧
  (-(2 ^ 64) < n ∧ n < 2 ^ 64) ∧ ∀ H', Same H H' → Q (.int (mk wd n a b c)) H'
theorem ok_made_by {f : Addr} {fd : FuncData} (F : Fun K "made_by" "made_by" s_made_by f fd) (T : Top K mg) : FnOk P w K mg base CX0 2 f fd ["rule", "things"] (sp_made_by K) := by
  obtain ⟨f_made_of_two, fd_made_of_two, F_made_of_two, b_made_of_two, m_made_of_two⟩ := T.d_made_of_two
  have G_made_of_two := ok_made_of_two (P := P) (w := w) (base := base) F_made_of_two T
  refine F.ok sc_made_by (fun vs H Q E h => ?_) (fun cdv A outer s H vs Q E hr h => ?_)
  · obtain ⟨r, t, rl, ts, wd, n, a, b, c, rfl, _⟩ := h
    rfl
  obtain ⟨r, t, rl, ts, wd, n, a, b, c, rfl, hR, hT, r0, r1, t0, t1, t2, hn, q⟩ := h
  unfold mk at q
  refine ⟨_, (pss_cons (ps_set (i := 2) sc_made_by.nd rfl (Or.inl rfl) (pe_ix (ix_tupK K rfl) (pv 0) pe_int (fun _ _ => rfl)))
      (pss_cons (ps_if (pt_cmpR op_eq (pv 2) pe_str (nomark _)) (pss_one (ps_ret (pe_ix (ix_tupK K rfl) (pv 0) pe_int (fun _ _ => rfl)))) pss_nil)
      (pss_cons (ps_if (pt_cmpR op_eq (pv 2) pe_str (nomark _)) (pss_one (ps_ret (pe_op op_mul (pe_ix (ix_tupK K rfl) (pv 0) pe_int (fun _ _ => rfl)) (pe_ix (ix_tupK K rfl) (pv 1) pe_int (fun _ _ => rfl))))) pss_nil)
      (pss_cons (ps_if (pt_cmpR op_eq (pv 2) pe_str (nomark _)) (pss_one (ps_ret (pe_ifExp (pt_cmpR op_ne (pe_ix (ix_tupK K rfl) (pv 1) pe_int (fun _ _ => rfl)) pe_int (nomark _)) (pe_ix (ix_tupK K rfl) (pv 1) pe_int (fun _ _ => rfl)) (pe_ix (ix_tupK K rfl) (pv 1) pe_int (fun _ _ => rfl))))) pss_nil)
      (pss_cons (ps_if (pt_cmpR (op_in_seqK K rfl) (pv 2) (pe_tup (pa_cons pe_str (pa_cons pe_str pa_nil))) (by with_unfolding_all rfl)) (pss_one (ps_ret (pe_ix (ix_tupK K rfl) (pv 1) pe_int (fun _ _ => rfl)))) pss_nil)
      (pss_one (ps_ret (pe_call G_made_of_two (hr.mono (by decide)) (by rfl) m_made_of_two F_made_of_two.kp b_made_of_two .nil pass0 (pa_cons (pv 2) (pa_cons (pe_ix (ix_tupK K rfl) (pv 1) pe_int (fun _ _ => rfl)) (pa_cons (pe_ix (ix_tupK K rfl) (pv 1) pe_int (fun _ _ => rfl)) pa_nil))))))))))), ?_⟩
  refine ⟨_, rfl, r, _, _, _, rfl, rfl, hR, atI_nat (j := 0) r0, ?_⟩
  refine ⟨_, rfl, rfl, _, rfl, if_str (fun e1 => ?_) (fun e1 => ?_)⟩
  · have q := q H (fun _ _ e => e)
    rw [if_pos e1] at q
    exact ⟨_, rfl, r, _, _, _, rfl, rfl, hR, atI_nat (j := 1) (r1 (.inl e1)), q⟩
  refine ⟨_, rfl, rfl, _, rfl, if_str (fun e2 => ?_) (fun e2 => ?_)⟩
  · have q := q H (fun _ _ e => e)
    rw [if_neg e1, if_pos e2] at q
    exact ⟨_, rfl, r, _, _, _, rfl, rfl, hR, atI_nat (j := 1) (r1 (.inr e2)), _, rfl, t, _, _, _, rfl, rfl, hT, atI_nat (j := 0) (t0 e1), _, _, rfl, rfl, .inl hn, q⟩
  refine ⟨_, rfl, rfl, _, rfl, if_str (fun e3 => ?_) (fun e3 => ?_)⟩
  · have q := q H (fun _ _ e => e)
    rw [if_neg e1, if_neg e2, if_pos e3] at q
    refine ⟨_, rfl, t, _, _, _, rfl, rfl, hT, atI_nat (j := 0) (t0 e1), rfl, _, rfl, if_bl (fun k => ?_) (fun k => ?_)⟩
    · have k2 : ¬ a = 0 := fun z => by
        rw [z] at k
        exact absurd k (by decide)
      rw [if_neg k2] at q
      exact ⟨_, rfl, t, _, _, _, rfl, rfl, hT, atI_nat (j := 1) (t1 (.inl e3)), q⟩
    · have k2 : a = 0 := by
        by_cases z : a = 0
        · exact z
        · have k3 : (!decide (V.int a = V.int 0)) = false := k
          rw [decide_eq_false (fun y => z (V.int.inj y))] at k3
          cases k3
      rw [if_pos k2] at q
      exact ⟨_, rfl, t, _, _, _, rfl, rfl, hT, atI_nat (j := 2) (t2 e3), q⟩
  refine ⟨_, rfl, (by show 2 ≤ sizeLine; decide), fun p np => ?_⟩
  have s1 := same_new (o := .tup [V.str "same", V.str "out"]) np
  have q := q _ s1
  rw [if_neg e1, if_neg e2, if_neg e3] at q
  refine ⟨p, _, rfl, .inr (SqT.of upd_same), rfl, rfl, _, rfl, if_in2 (fun e4 => ?_) (fun e4 => ?_)⟩
  · rw [if_pos e4] at q
    exact ⟨_, rfl, t, _, _, _, rfl, rfl, same_seqT s1 hT, atI_nat (j := 0) (t0 e1), q⟩
  · rw [if_neg e4] at q
    exact ⟨_, rfl, _, rfl, t, _, _, _, rfl, rfl, same_seqT s1 hT, atI_nat (j := 0) (t0 e1), _, rfl, t, _, _, _, rfl, rfl, same_seqT s1 hT, atI_nat (j := 1) (t1 (.inr ⟨e1, e2, fun z => e4 (.inl z), fun z => e4 (.inr z)⟩)), wd, a, b, rfl, q⟩
end
section
variable {P : Program} {w : World} {K : PySem.W.Frag} {mg : Str → Option Value} {base : Heap}
theorem filt_succ {p : Nat → Bool} (i : Nat) : (List.range (i + 1)).filter p = (List.range i).filter p ++ (if p i = true then [i] else []) := by
  rw [List.range_succ, List.filter_append]
  cases h : p i <;> simp [h]
theorem filt_len {p : Nat → Bool} (i : Nat) : ((List.range i).filter p).length ≤ i := by
  refine Nat.le_trans (List.length_filter_le ..) ?_
  rw [List.length_range]
  exact Nat.le_refl _
def sp_comings (K : PySem.W.Frag) : Sp := fun vs H Q _ => ∃ (r : Addr) (hs : List HR) (bs : List BR) (k : Nat), vs = [.ref r, nV k] ∧ RoomAt H r hs bs ∧ bs.length ≤ 400 ∧ ∀ (p : Addr) (H' : Hp), H p = none → H' p = some (.lst ((comingN bs k).map nV)) → Same H H' → Q (.ref p) H'
theorem ok_comings {f : Addr} {fd : FuncData} (F : Fun K "comings" "comings" s_comings f fd) (T : Top K mg) : FnOk P w K mg base CX0 1 f fd ["room", "hand"] (sp_comings K) := by
  refine F.ok sc_comings (fun vs H Q E h => ?_) (fun cdv A outer s H vs Q E hr h => ?_)
  · obtain ⟨r, hs, bs, k, rfl, _⟩ := h
    rfl
  obtain ⟨r, hs, bs, k, rfl, hR, lb, q⟩ := h
  obtain ⟨ha, ba, hv, bv, er, eh, eb, alh, alb⟩ := hR.ex
  have lbv := alb.length
  refine ⟨_, (pss_one (ps_ret (pe_lc (own := [("number", 2), ("belt", 3)]) (g := gTup K 2 (gCons (gName 2) (gCons (gName 3) gNil))) (by rfl) sc_comings.nd (pi_enumT K rfl (by rfl) T.m_enumerate (pa_cons (pe_ix (ix_tupK K rfl) (pv 0) pe_int (fun _ _ => rfl)) pa_nil)) (blkOk_by (own := [("number", 2), ("belt", 3)]) (N := N_comings) (sc := defScope s_comings) (by decide +kernel)) (fun _ _ _ _ _ => (pg_tupK K rfl rfl (pgs_cons (pg_name (i := 2) sc_comings.nd rfl (Or.inl rfl)) (pgs_cons (pg_name (i := 3) sc_comings.nd rfl (Or.inl rfl)) pgs_nil)))) (fun _ _ _ _ _ => pts_one (pt_cmpR op_eq (pe_ix (ix_tupK K rfl) (pv 3) pe_int (fun _ _ => rfl)) (pv 1) (nomark _))) (fun _ _ _ _ _ => (pv 2))))), ?_⟩
  refine ⟨_, rfl, r, _, _, _, rfl, rfl, SqT.of er, atI_nat (j := 1) rfl, ba, bv, rfl, SqT.of eb, fun D nD => lc_it (J := IteT K ba bv) (n := bv.length) (fun i H5 => H5 D = some (.lst (((List.range i).filter fun j => decide (bs[j]?.map BR.to = some k)).map nV)) ∧ Same H H5) ⟨upd_same, same_new nD⟩ ?_ ?_ ?_ ?_⟩
  · rintro i H5 hi ⟨hD, s5⟩
    exact ⟨SqT.of (s5 _ _ eb), hi⟩
  · rintro H5 ⟨hD, s5⟩
    exact ⟨SqT.of (s5 _ _ eb), rfl⟩
  · rintro i x H5 H6 hi ⟨hD, s5⟩ ⟨t, y, rfl, nt, rfl, ey⟩
    obtain ⟨b, eb2, ⟨t2, g, rfl, e1, e2⟩⟩ := alb.getL ey
    have s6 := s5.trans (same_new (o := .tup [V.int ((i : Nat) : Int), V.ref t2]) nt)
    have hD6 := same_new (o := .tup [V.int ((i : Nat) : Int), V.ref t2]) nt _ _ hD
    have few := filt_len (p := fun j => decide (bs[j]?.map BR.to = some k)) i
    refine ⟨t, _, rfl, SqT.of upd_same, rfl, _, _, rfl, _, _, rfl, rfl, rfl, _, rfl, t2, _, _, _, rfl, rfl, SqT.of (s6 _ _ e1), atI_nat (j := 1) rfl, _, rfl, rfl, _, rfl, if_bl (fun c => ?_) (fun c => ?_)⟩
    · have c : b.to = k := by have := V.int.inj (of_decide_eq_true c); omega
      refine ⟨_, rfl, _, hD6, by rw [List.length_map]; exact small1000 (by omega), ?_, Same.own s6 nD⟩
      rw [upd_same, filt_succ, if_pos (decide_eq_true (by rw [eb2, ← c]; rfl)), List.map_append]
      rfl
    · have c : ¬ b.to = k := fun z => of_decide_eq_false c (by rw [z])
      refine ⟨?_, s6⟩
      rw [filt_succ, if_neg fun z => c (by have := of_decide_eq_true z; rw [eb2] at this; exact Option.some.inj this), List.append_nil]
      exact hD6
  · rintro H5 ⟨hD, s5⟩
    refine q D H5 nD ?_ s5
    rw [hD, lbv]
    rfl
def sp_doors (z : Str) : Sp := fun vs H Q _ => ∃ (r : Addr) (hs : List HR) (bs : List BR), vs = [.ref r] ∧ RoomAt H r hs bs ∧ hs.length ≤ 400 ∧ (∀ h ∈ hs, GoodHand h) ∧ ∀ (p : Addr) (H' : Hp), H p = none → H' p = some (.lst ((doorsOf z hs).map nV)) → Same H H' → Q (.ref p) H'
abbrev sp_doors_in (K : PySem.W.Frag) : Sp := sp_doors "in"
abbrev sp_doors_out (K : PySem.W.Frag) : Sp := sp_doors "out"
theorem ok_doors_in {f : Addr} {fd : FuncData} (F : Fun K "doors_in" "doors_in" s_doors_in f fd) (T : Top K mg) : FnOk P w K mg base CX0 1 f fd ["room"] (sp_doors_in K) := by
  refine F.ok sc_doors_in (fun vs H Q E h => ?_) (fun cdv A outer s H vs Q E hr h => ?_)
  · obtain ⟨r, hs, bs, rfl, _⟩ := h
    rfl
  obtain ⟨aI, mI, hI⟩ := T.x_in
  obtain ⟨r, hs, bs, rfl, hR, lb, good, q⟩ := h
  obtain ⟨ha, ba, hv, bv, er, eh, eb, alh, alb⟩ := hR.ex
  have lhv := alh.length
  refine ⟨_, (pss_one (ps_ret (pe_lc (own := [("number", 1), ("hand", 2)]) (g := gTup K 2 (gCons (gName 1) (gCons (gName 2) gNil))) (by rfl) sc_doors_in.nd (pi_enumT K rfl (by rfl) T.m_enumerate (pa_cons (pe_ix (ix_tupK K rfl) (pv 0) pe_int (fun _ _ => rfl)) pa_nil)) (blkOk_by (own := [("number", 1), ("hand", 2)]) (N := N_doors_in) (sc := defScope s_doors_in) (by decide +kernel)) (fun _ _ _ _ _ => (pg_tupK K rfl rfl (pgs_cons (pg_name (i := 1) sc_doors_in.nd rfl (Or.inl rfl)) (pgs_cons (pg_name (i := 2) sc_doors_in.nd rfl (Or.inl rfl)) pgs_nil)))) (fun _ _ _ _ _ => pts_one (pt_cmpR (op_eqDK K rfl hr.units) (pe_ix (ix_tupK K rfl) (pv 2) pe_int (fun _ _ => rfl)) (pe_glob (v := .ref aI) (by rfl) mI rfl) (nomark _))) (fun _ _ _ _ _ => (pv 1))))), ?_⟩
  refine ⟨_, rfl, r, _, _, _, rfl, rfl, SqT.of er, atI_nat (j := 0) rfl, ha, hv, rfl, SqT.of eh, fun D nD => lc_it (J := IteT K ha hv) (n := hv.length) (fun i H5 => H5 D = some (.lst (((List.range i).filter fun j => decide (hs[j]?.map HR.wd = some ("in" : Str))).map nV)) ∧ Same H H5) ⟨upd_same, same_new nD⟩ ?_ ?_ ?_ ?_⟩
  · rintro i H5 hi ⟨hD, s5⟩
    exact ⟨SqT.of (s5 _ _ eh), hi⟩
  · rintro H5 ⟨hD, s5⟩
    exact ⟨SqT.of (s5 _ _ eh), rfl⟩
  · rintro i x H5 H6 hi ⟨hD, s5⟩ ⟨t, y, rfl, nt, rfl, ey⟩
    obtain ⟨hh, eb2, ⟨t2, g, rfl, e1, e2⟩⟩ := alh.getL ey
    have gh := good _ (List.mem_of_getElem? eb2)
    have s6 := s5.trans (same_new (o := .tup [V.int ((i : Nat) : Int), V.ref t2]) nt)
    have hD6 := same_new (o := .tup [V.int ((i : Nat) : Int), V.ref t2]) nt _ _ hD
    have few := filt_len (p := fun j => decide (hs[j]?.map HR.wd = some ("in" : Str))) i
    refine ⟨t, _, rfl, SqT.of upd_same, rfl, _, _, rfl, _, _, rfl, rfl, rfl, _, rfl, t2, _, _, _, rfl, rfl, SqT.of (s6 _ _ e1), atI_nat (j := 0) rfl, ?_⟩
    refine ⟨_, _, rule_dp (s6 _ _ e2), .tup (hI _) (.cons (.str _) .nil), rule_shaped gh.lay, one_shaped (by decide +kernel), _, rfl, ?_⟩
    rw [rule_eqv, gh.door "in" (.inl rfl)]
    by_cases c : hh.wd = "in"
    · rw [decide_eq_true c]
      refine if_bl (fun _ => ⟨_, rfl, _, hD6, by rw [List.length_map]; exact small1000 (by omega), ?_, Same.own s6 nD⟩) (fun z => nomatch z)
      rw [upd_same, filt_succ, if_pos (decide_eq_true (by rw [eb2, ← c]; rfl)), List.map_append]
      rfl
    · rw [decide_eq_false c]
      refine if_bl (fun z => nomatch z) (fun _ => ⟨?_, s6⟩)
      rw [filt_succ, if_neg fun z => c (by have := of_decide_eq_true z; rw [eb2] at this; exact Option.some.inj this), List.append_nil]
      exact hD6
  · rintro H5 ⟨hD, s5⟩
    refine q D H5 nD ?_ s5
    rw [hD, lhv]
    rfl
end
/-- a tuple of whole numbers -/
def RowAt (H : Hp) (v : V) (m : List Int) : Prop := ∃ t : Addr, v = .ref t ∧ H t = some (.tup (m.map V.int))
theorem RowAt.keep {H H' : Hp} {v : V} {m : List Int} (a : RowAt H v m) (k : TK H H') : RowAt H' v m := by
  obtain ⟨t, e, h⟩ := a
  exact ⟨t, e, k _ _ h⟩
theorem gD_get {m : List Int} {k : Nat} (h : k < m.length) : m[k]? = some (gD m k) := by
  show _ = some (m.getD k 0)
  rw [List.getD_eq_getElem?_getD, List.getElem?_eq_getElem h]; rfl
theorem at_row {m : List Int} {k : Nat} (h : k < m.length) : atI (m.map V.int) ((k : Nat) : Int) = some (.int (gD m k)) := atI_nat (by rw [List.getElem?_map, gD_get h]; rfl)
theorem soon_one {ls : List (Nat × Nat)} : ∀ {left o1 o2 : List Nat}, Soon ls left o1 → Soon ls left o2 → o1 = o2 := by
  intro left o1 o2 h
  induction h generalizing o2 with
  | nil =>
    intro h2
    cases h2 with
    | nil => rfl
    | cons a => cases a
  | cons a b c d ih =>
    intro h2
    cases h2 with
    | nil => cases a
    | @cons _ ord k2 a2 b2 c2 d2 =>
      have e := Nat.le_antisymm (c _ a2 b2) (c2 _ a b)
      subst e
      rw [ih d2]
theorem soon_len {ls : List (Nat × Nat)} {left ord : List Nat} (h : Soon ls left ord) : ord.length = left.length := by
  induction h with
  | nil => rfl
  | cons a b c d ih =>
    rw [List.length_cons, ih, List.length_erase_of_mem a]
    have := List.length_pos_of_mem a
    omega
theorem soon_mem {ls : List (Nat × Nat)} {left ord : List Nat} (h : Soon ls left ord) : ∀ x ∈ ord, x ∈ left := by
  induction h with
  | nil => exact fun _ z => nomatch z
  | cons a b c d ih =>
    intro x hx
    rcases List.mem_cons.mp hx with e | e
    · rw [e]; exact a
    · exact List.mem_of_mem_erase (ih x e)
section
variable {P : Program} {w : World} {K : PySem.W.Frag} {mg : Str → Option Value} {base : Heap}
/-- a hand and the belts that come to it -/
def PlanAt (Z : Hp) (D : Addr) (bs : List BR) (H : Hp) (v : V) (k : Nat) : Prop := ∃ t l : Addr, v = .ref t ∧ H t = some (.tup [nV k, .ref l]) ∧ H l = some (.lst ((comingN bs k).map nV)) ∧ l ≠ D ∧ Z t = none ∧ Z l = none
theorem PlanAt.same {Z : Hp} {D : Addr} {bs : List BR} {H H' : Hp} {v : V} {k : Nat} (a : PlanAt Z D bs H v k) (s : Same H H') : PlanAt Z D bs H' v k := by
  obtain ⟨t, l, e, h1, h2, n⟩ := a
  exact ⟨t, l, e, s _ _ h1, s _ _ h2, n⟩
theorem PlanAt.own {Z : Hp} {D : Addr} {bs : List BR} {H : Hp} {v : V} {k : Nat} {xs ys : List V} (a : PlanAt Z D bs H v k) (h : H D = some (.lst xs)) : PlanAt Z D bs (upd H D (.lst ys)) v k := by
  obtain ⟨t, l, e, h1, h2, n⟩ := a
  exact ⟨t, l, e, TK.lst h _ _ h1, by rw [upd_ne n.1]; exact h2, n⟩
def sp_work_plan (K : PySem.W.Frag) : Sp := fun vs H Q _ => ∃ (r : Addr) (hs : List HR) (bs : List BR) (rk : Nat → Int), vs = [.ref r] ∧ RoomAt H r hs bs ∧ hs.length ≤ 400 ∧ bs.length ≤ 400 ∧ (∀ b ∈ bs, b.one < hs.length ∧ b.to < hs.length) ∧ (∀ p ∈ looseOf bs, rk p.1 < rk p.2) ∧
  ∀ (p D : Addr) (ord : List Nat) (pv : List V) (H' : Hp), H p = none → H' p = some (.lst pv) → All2 (PlanAt H D bs H') pv ord → Soon (looseOf bs) (List.range hs.length) ord → Same H H' → Q (.ref p) H'
theorem ok_work_plan {f : Addr} {fd : FuncData} (F : Fun K "work_plan" "work_plan" s_work_plan f fd) (T : Top K mg) : FnOk P w K mg base CX0 2 f fd ["room"] (sp_work_plan K) := by
  obtain ⟨f_comings, fd_comings, F_comings, b_comings, m_comings⟩ := T.d_comings
  have G_comings := ok_comings (P := P) (w := w) (base := base) F_comings T
  obtain ⟨f_work_order, fd_work_order, F_work_order, b_work_order, m_work_order⟩ := T.d_work_order
  have G_work_order := ok_work_order (P := P) (w := w) (base := base) F_work_order T
  refine F.ok sc_work_plan (fun vs H Q E h => ?_) (fun cdv A outer s H vs Q E hr h => ?_)
  · obtain ⟨r, hs, bs, rk, rfl, _⟩ := h
    rfl
  obtain ⟨r, hs, bs, rk, rfl, hR, lh, lb, ends, hrk, q⟩ := h
  refine ⟨_, (pss_one (ps_ret (pe_lc (own := [("hand", 1)]) (g := gName 1) (tt := tYes) (by rfl) sc_work_plan.nd (pi_listK K rfl (pe_call G_work_order (hr.mono (by decide)) (by rfl) m_work_order F_work_order.kp b_work_order .nil pass0 (pa_cons (pv 0) pa_nil))) (blkOk_by (own := [("hand", 1)]) (N := N_work_plan) (sc := defScope s_work_plan) (by decide +kernel)) (fun _ _ _ _ _ => (pg_name (i := 1) sc_work_plan.nd rfl (Or.inl rfl))) (fun _ _ _ _ _ => pts_nil) (fun _ _ _ _ _ => (pe_tup (pa_cons (pv 1) (pa_cons (pe_call G_comings (hr.mono (by decide)) (by rfl) m_comings F_comings.kp b_comings .nil pass0 (pa_cons (pv 0) (pa_cons (pv 1) pa_nil))) pa_nil))))))), ?_⟩
  refine ⟨_, rfl, r, hs, bs, rk, rfl, hR, lh, lb, ends, hrk, fun od ord H1 nod hod s1 soon => ?_⟩
  have lo := soon_len soon
  rw [List.length_range] at lo
  refine ⟨od, rfl, ⟨_, SqL.of hod⟩, fun D nD => lc_list (K := K) (a := od) (xs := ord.map nV) (fun i H5 => ∃ pv : List V, H5 D = some (.lst pv) ∧ All2 (PlanAt H D bs H5) pv (ord.take i) ∧ Same H1 H5) ⟨[], upd_same, .nil, same_new nD⟩ (fun i H5 _ ⟨_, _, _, s5⟩ => SqL.of (s5 _ _ hod)) ?_ ?_⟩
  · rintro i x H5 hx ⟨pv, hD, al, s5⟩
    rw [List.getElem?_map] at hx
    cases ek : ord[i]? with
    | none => rw [ek] at hx; cases hx
    | some k =>
    rw [ek] at hx
    obtain rfl : nV k = x := Option.some.inj hx
    have il := (List.getElem?_eq_some_iff.mp ek).1
    refine ⟨rfl, yes_in ⟨_, rfl, _, rfl, _, rfl, r, hs, bs, k, rfl, hR.keep (TK.same (s1.trans s5)), lb, fun l H6 nl hl s6 => ⟨(by show 2 ≤ sizeLine; decide), fun t nt => ⟨pv, same_new nt _ _ (s6 _ _ hD), ?_, pv ++ [V.ref t], upd_same, ?_, Same.own ((s5.trans s6).trans (same_new nt)) nD⟩⟩⟩⟩
    · have := al.length
      rw [List.length_take] at this
      exact small1000 (by omega)
    · rw [List.take_add_one, ek]
      have h6 : All2 (PlanAt H D bs (upd H6 t (.tup [nV k, V.ref l]))) (pv ++ [V.ref t]) (ord.take i ++ [k]) := (al.imp fun _ _ z => z.same (s6.trans (same_new nt))).snoc ⟨t, l, rfl, upd_same, same_new nt _ _ hl, (ne_of_none hD nl).symm, same_none ((s1.trans s5).trans s6) nt, same_none (s1.trans s5) nl⟩
      exact h6.imp fun _ _ z => z.own (same_new nt _ _ (s6 _ _ hD))
  · rintro H5 ⟨pv, hD, al, s5⟩
    rw [List.length_map, List.take_length] at al
    exact q D D ord pv H5 (same_none s1 nD) hD al soon (s1.trans s5)
theorem dget_of {H : Hp} {a : Addr} {kvs : List (Key × V)} {k : Nat} {o : Option V} (e : H a = some (.dK kvs)) (h : valV kvs (kN k) = o) : DGet H a (nV k) o := h ▸ DGet.k (k := kN k) e
def sp_thing_taken (K : PySem.W.Frag) : Sp := fun vs H Q _ => ∃ (v : V) (b : BR) (d : Addr) (kvs : List (Key × V)) (pm : Nat → Option Int), vs = [v, .ref d] ∧ BeltAt H v b ∧ H d = some (.dK kvs) ∧ DM kvs pm ∧ (b.th = [] → (pm b.one).isSome = true) ∧ Q (.int (valB (fun j => (pm j).getD 0) b)) H
theorem ok_thing_taken {f : Addr} {fd : FuncData} (F : Fun K "thing_taken" "thing_taken" s_thing_taken f fd) (T : Top K mg) : FnOk P w K mg base CX0 1 f fd ["belt", "made"] (sp_thing_taken K) := by
  refine F.ok sc_thing_taken (fun vs H Q E h => ?_) (fun cdv A outer s H vs Q E hr h => ?_)
  · obtain ⟨v, b, d, kvs, pm, rfl, _⟩ := h
    rfl
  obtain ⟨v, b, d, kvs, pm, rfl, ⟨t, g, rfl, e1, e2⟩, hd, dm, av, q⟩ := h
  refine ⟨_, (pss_cons (ps_asg (pv 0) (pg_tupK K rfl rfl (pgs_cons (pg_name (i := 2) sc_thing_taken.nd rfl (Or.inl rfl)) (pgs_cons (pg_name (i := 3) sc_thing_taken.nd rfl (Or.inl rfl)) (pgs_cons (pg_name (i := 4) sc_thing_taken.nd rfl (Or.inl rfl)) pgs_nil)))))
      (pss_one (ps_ret (pe_ifExp (pt_truthK K rfl (pv 4) (by intro _; rfl)) (pe_ix (ix_tupK K rfl) (pv 4) pe_int (fun _ _ => rfl)) (pe_dget (hu_of hr) (pv 1) (pv 2) (fun _ _ => rfl)))))), ?_⟩
  refine ⟨_, rfl, t, _, rfl, SqT.of e1, rfl, _, _, rfl, _, _, rfl, _, _, rfl, rfl, ?_⟩
  refine ⟨_, rfl, _, .inr (.inl ⟨_, SqT.of e2, rfl⟩), ?_⟩
  cases eb : b.th with
  | nil =>
    rw [valB_nil eb] at q
    obtain ⟨x, hx⟩ := Option.isSome_iff_exists.mp (av eb)
    rw [hx] at q
    refine if_bl (fun z => nomatch z) (fun _ => ⟨_, rfl, _, rfl, d, .int x, rfl, dget_of hd ?_, q⟩)
    rw [dm, hx]
    rfl
  | cons x l =>
    have ev : valB (fun j => (pm j).getD 0) b = x := by unfold valB; rw [eb]
    rw [ev] at q
    rw [eb] at e2
    exact if_bl (fun _ => ⟨_, rfl, g, _, _, _, rfl, rfl, SqT.of e2, atI_nat (j := 0) rfl, q⟩) (fun z => nomatch z)
def sp_belt_behind_bell (K : PySem.W.Frag) : Sp := fun vs H Q _ => ∃ (v : V) (b : BR) (t : Addr) (m : List Int), vs = [v, .ref t] ∧ BeltAt H v b ∧ H t = some (.tup (m.map V.int)) ∧ b.one < m.length ∧ b.th.length ≤ 400 ∧ ∀ (u : V) (H' : Hp), BeltAt H' u (nextB m b) → Same H H' → Q u H'
theorem ok_belt_behind_bell {f : Addr} {fd : FuncData} (F : Fun K "belt_behind_bell" "belt_behind_bell" s_belt_behind_bell f fd) (T : Top K mg) : FnOk P w K mg base CX0 1 f fd ["belt", "made"] (sp_belt_behind_bell K) := by
  refine F.ok sc_belt_behind_bell (fun vs H Q E h => ?_) (fun cdv A outer s H vs Q E hr h => ?_)
  · obtain ⟨v, b, t, m, rfl, _⟩ := h
    rfl
  obtain ⟨v, b, tm, m, rfl, hb, htm, om, lt, q⟩ := h
  obtain ⟨t, g, rfl, e1, e2⟩ := id hb
  refine ⟨_, (pss_cons (ps_asg (pv 0) (pg_tupK K rfl rfl (pgs_cons (pg_name (i := 2) sc_belt_behind_bell.nd rfl (Or.inl rfl)) (pgs_cons (pg_name (i := 3) sc_belt_behind_bell.nd rfl (Or.inl rfl)) (pgs_cons (pg_name (i := 4) sc_belt_behind_bell.nd rfl (Or.inl rfl)) pgs_nil)))))
      (pss_one (ps_ret (pe_ifExp (pt_truthK K rfl (pv 4) (by intro _; rfl)) (pe_tup (pa_cons (pv 2) (pa_cons (pv 3) (pa_cons (pe_op (op_catAK K rfl) (pe_slice (sl_tupAK K rfl) (pv 4) (po_some pe_int) po_none) (pe_tup (pa_cons (pe_ix (ix_tupK K rfl) (pv 1) (pv 2) (fun _ _ => rfl)) pa_nil))) pa_nil)))) (pv 0))))), ?_⟩
  refine ⟨_, rfl, t, _, rfl, SqT.of e1, rfl, _, _, rfl, _, _, rfl, _, _, rfl, rfl, ?_⟩
  refine ⟨_, rfl, _, .inr (.inl ⟨_, SqT.of e2, rfl⟩), ?_⟩
  unfold nextB at q
  cases eb : b.th with
  | nil =>
    rw [if_pos eb] at q
    exact if_bl (fun z => nomatch z) (fun _ => ⟨_, rfl, q _ _ hb (fun _ _ e => e)⟩)
  | cons x l =>
    rw [if_neg (by rw [eb]; exact fun z => nomatch z), eb] at q
    rw [eb] at e2 lt
    have lt : l.length + 1 ≤ 400 := lt
    have ec : cutV ((x :: l).map V.int) (some 1) none = l.map V.int := by
      have := cut_drop ((x :: l).map V.int) 1
      exact this
    refine if_bl (fun _ => ⟨_, rfl, _, rfl, _, rfl, _, rfl, g, _, rfl, SqT.of e2, (fun z => ?_), fun _ p np => ?_⟩) (fun z => nomatch z)
    · exact absurd z.1 (by rw [show (1 : Int) = ((1 : Nat) : Int) from rfl, HT.sIx_nat]; simp)
    rw [ec]
    refine ⟨_, rfl, _, rfl, tm, _, _, _, rfl, rfl, SqT.of (same_new np _ _ htm), at_row om, (by show 1 ≤ sizeLine; decide), fun p2 np2 => ?_⟩
    have s2 := (same_new (o := .tup (l.map V.int)) np).trans (same_new (o := .tup [V.int (gD m b.one)]) np2)
    have hp2 := same_new (o := .tup [V.int (gD m b.one)]) np2 _ _ (upd_same (H := H) (a := p) (o := .tup (l.map V.int)))
    refine ⟨p, p2, _, _, rfl, rfl, SqT.of hp2, SqT.of upd_same, ?_, fun z => ?_, (fun z y => nomatch y), fun z _ p3 np3 => ?_⟩
    · rw [List.length_map]; exact little (by show l.length + 1 ≤ 1000; omega)
    · have zl : l = [] := by cases l with | nil => rfl | cons a b => cases z
      subst zl
      refine ⟨(by show 3 ≤ sizeLine; decide), fun p4 np4 => q (.ref p4) _ ⟨p4, p2, rfl, upd_same, ?_⟩ (s2.trans (same_new np4))⟩
      exact same_new np4 _ _ upd_same
    · refine ⟨(by show 3 ≤ sizeLine; decide), fun p4 np4 => q (.ref p4) _ ⟨p4, p3, rfl, upd_same, ?_⟩ ((s2.trans (same_new np3)).trans (same_new np4))⟩
      have := same_new (o := .tup [nV b.one, nV b.to, V.ref p3]) np4 _ _ (upd_same (H := upd (upd H p (.tup (l.map V.int))) p2 (.tup [V.int (gD m b.one)])) (a := p3) (o := .tup (l.map V.int ++ [V.int (gD m b.one)])))
      rw [this]
      show _ = some (HO.tup ((l ++ [gD m b.one]).map V.int))
      rw [List.map_append]
      rfl
def sp_behind_bell (K : PySem.W.Frag) : Sp := fun vs H Q _ => ∃ (r t : Addr) (hs : List HR) (cur : List BR) (m : List Int), vs = [.ref r, .ref t] ∧ RoomAt H r hs cur ∧ H t = some (.tup (m.map V.int)) ∧ (∀ b ∈ cur, b.one < m.length ∧ b.th.length ≤ 400) ∧ cur.length ≤ 400 ∧ ∀ (p : Addr) (H' : Hp), RoomAt H' p hs (cur.map (nextB m)) → Same H H' → Q (.ref p) H'
theorem ok_behind_bell {f : Addr} {fd : FuncData} (F : Fun K "behind_bell" "behind_bell" s_behind_bell f fd) (T : Top K mg) : FnOk P w K mg base CX0 2 f fd ["room", "made"] (sp_behind_bell K) := by
  obtain ⟨f_belt_behind_bell, fd_belt_behind_bell, F_belt_behind_bell, b_belt_behind_bell, m_belt_behind_bell⟩ := T.d_belt_behind_bell
  have G_belt_behind_bell := ok_belt_behind_bell (P := P) (w := w) (base := base) F_belt_behind_bell T
  refine F.ok sc_behind_bell (fun vs H Q E h => ?_) (fun cdv A outer s H vs Q E hr h => ?_)
  · obtain ⟨r, t, hs, cur, m, rfl, _⟩ := h
    rfl
  obtain ⟨r, t, hs, cur, m, rfl, hR, ht, hb, lc, q⟩ := h
  obtain ⟨ha, ba, hv, bv, er, eh, eb, alh, alb⟩ := hR.ex
  have lbv := alb.length
  refine ⟨_, (pss_cons (ps_asg (pv 0) (pg_tupK K rfl rfl (pgs_cons (pg_name (i := 2) sc_behind_bell.nd rfl (Or.inl rfl)) (pgs_cons (pg_name (i := 3) sc_behind_bell.nd rfl (Or.inl rfl)) pgs_nil))))
      (pss_one (ps_ret (pe_tup (pa_cons (pv 2) (pa_cons (pe_callTy (call_tuple_ofK K rfl) (by rfl) T.m_tuple (by decide +kernel) (pa_cons (pe_lc (own := [("belt", 4)]) (g := gName 4) (tt := tYes) (by rfl) sc_behind_bell.nd (pi_tupK K rfl (pv 3)) (blkOk_by (own := [("belt", 4)]) (N := N_behind_bell) (sc := defScope s_behind_bell) (by decide +kernel)) (fun _ _ _ _ _ => (pg_name (i := 4) sc_behind_bell.nd rfl (Or.inl rfl))) (fun _ _ _ _ _ => pts_nil) (fun _ _ _ _ _ => (pe_call G_belt_behind_bell (hr.mono (by decide)) (by rfl) m_belt_behind_bell F_belt_behind_bell.kp b_belt_behind_bell .nil pass0 (pa_cons (pv 4) (pa_cons (pv 1) pa_nil))))) pa_nil)) pa_nil)))))), ?_⟩
  refine ⟨_, rfl, r, _, rfl, SqT.of er, rfl, _, _, rfl, _, _, rfl, rfl, ?_⟩
  refine ⟨_, rfl, _, rfl, ba, rfl, ⟨_, SqT.of eb⟩, fun D nD => lc_tup (K := K) (a := ba) (xs := bv) (fun i H5 => ∃ lv : List V, H5 D = some (.lst lv) ∧ All2 (BeltAt H5) lv ((cur.take i).map (nextB m)) ∧ Same H H5) ⟨[], upd_same, .nil, same_new nD⟩ (fun i H5 _ ⟨_, _, _, s5⟩ => SqT.of (s5 _ _ eb)) ?_ ?_⟩
  · rintro i x H5 hx ⟨lv, hD, al, s5⟩
    obtain ⟨b, eb2, hB⟩ := alb.getL hx
    have il := (List.getElem?_eq_some_iff.mp eb2).1
    obtain ⟨b1, b2⟩ := hb b (List.mem_of_getElem? eb2)
    refine ⟨rfl, yes_in ⟨_, rfl, _, rfl, x, b, t, m, rfl, hB.keep (TK.same s5), s5 _ _ ht, b1, b2, fun u H6 hu s6 => ⟨lv, s6 _ _ hD, ?_, lv ++ [u], upd_same, ?_, Same.own (s5.trans s6) nD⟩⟩⟩
    · have := al.length
      rw [List.length_map, List.length_take] at this
      exact small1000 (by omega)
    · rw [List.take_add_one, eb2, List.map_append]
      exact ((al.imp fun _ _ z => z.keep (TK.same s6)).snoc hu).imp fun _ _ z => z.keep (TK.lst (s6 _ _ hD))
  · rintro H5 ⟨lv, hD, al, s5⟩
    rw [lbv, List.take_length] at al
    refine ⟨D, _, rfl, .inl ⟨SqL.of hD, fun p np => ⟨(by show 2 ≤ sizeLine; decide), fun p2 np2 => ?_⟩⟩⟩
    have s6 : Same H (upd (upd H5 p (.tup lv)) p2 (.tup [V.ref ha, V.ref p])) := (s5.trans (same_new np)).trans (same_new np2)
    exact q p2 _ ⟨ha, p, hv, lv, upd_same, s6 _ _ eh, same_new np2 _ _ upd_same, alh.imp fun _ _ z => z.keep (TK.same s6), al.imp fun _ _ z => z.keep ((TK.new np).trans (TK.new np2))⟩ s6
end
theorem filt_map {α β : Type} (p : Option α → Bool) (g : Option α → β) (l : List α) : ∀ n, n ≤ l.length → ((List.range n).filter fun i => p l[i]?).map (fun i => g l[i]?) = ((l.take n).filter fun b => p (some b)).map fun b => g (some b)
  | 0, _ => rfl
  | n + 1, h => by
    have e : l[n]? = some l[n] := List.getElem?_eq_getElem (by omega)
    rw [filt_succ, List.map_append, filt_map p g l n (by omega), List.take_add_one, e, List.filter_append, List.map_append]
    congr 1
    cases k : p (some l[n])
    · rw [if_neg Bool.false_ne_true]
      simp [k]
    · rw [if_pos rfl]
      simp [k, e]
def valI (cur : List BR) (f : Nat → Int) (i : Nat) : Int := match cur[i]? with | some b => valB f b | none => 0
theorem coming_takes (cur : List BR) (f : Nat → Int) (k : Nat) : (comingN cur k).map (valI cur f) = takes cur f k := by
  have := filt_map (fun o => decide (o.map BR.to = some k)) (fun o : Option BR => match o with | some b => valB f b | none => 0) cur cur.length (Nat.le_refl _)
  rw [List.take_length] at this
  refine this.trans ?_
  unfold takes
  congr 1
  refine List.filter_congr fun b _ => ?_
  simp
theorem takes_len {cur : List BR} {f : Nat → Int} {k : Nat} : (takes cur f k).length = (cur.map BR.to).count k := by
  unfold takes
  rw [List.length_map, List.count_eq_countP, List.countP_map, List.countP_eq_length_filter]
  congr 1
theorem coming_mem {cur : List BR} {k i : Nat} (h : i ∈ comingN cur k) : ∃ b, cur[i]? = some b ∧ b.to = k := by
  unfold comingN at h
  have h := (List.mem_filter.mp h).2
  have h := of_decide_eq_true h
  cases e : cur[i]? with
  | none => rw [e] at h; cases h
  | some b => rw [e] at h; exact ⟨b, rfl, Option.some.inj h⟩
theorem coming_len {cur : List BR} {k : Nat} : (comingN cur k).length ≤ cur.length := filt_len _
/-- what made_by asks of a good hand and what it takes -/
theorem getD_map {xs : List Int} {j : Nat} (h : j < xs.length) : (xs.map V.int)[j]? = some (.int (xs.getD j 0)) := by
  rw [List.getElem?_map, List.getElem?_eq_getElem h, List.getD_eq_getElem?_getD, List.getElem?_eq_getElem h]; rfl
theorem needs_some {wd : Str} (h1 : wd ≠ "in") (h2 : wd ≠ "always") : 1 ≤ needs wd := by
  unfold needs
  rw [if_neg (by simp [h1, h2])]
  split
  · exact Int.le_refl _
  · split <;> decide
theorem needs_two {wd : Str} (h1 : wd ≠ "in") (h2 : wd ≠ "always") (h3 : wd ≠ "times") (h4 : wd ≠ "same") (h5 : wd ≠ "out") : 2 ≤ needs wd := by
  unfold needs
  rw [if_neg (by simp [h1, h2]), if_neg (by simp [h3, h4, h5])]
  split <;> decide
theorem needs_pick : needs "pick" = 3 := by decide +kernel
structure Args (h : HR) (rl ts : List V) (n a b c : Int) : Prop where
  r0 : rl[0]? = some (.str h.wd)
  r1 : h.wd = "always" ∨ h.wd = "times" → rl[1]? = some (.int n)
  t0 : h.wd ≠ "always" → ts[0]? = some (.int a)
  t1 : h.wd = "pick" ∨ (h.wd ≠ "always" ∧ h.wd ≠ "times" ∧ h.wd ≠ "same" ∧ h.wd ≠ "out") → ts[1]? = some (.int b)
  t2 : h.wd = "pick" → ts[2]? = some (.int c)
  big : -(2 ^ 64) < n ∧ n < 2 ^ 64
theorem args_of {h : HR} (g : GoodHand h) (w : h.wd ≠ "in") {xs : List Int} (hl : ((xs.length : Nat) : Int) = needs h.wd) : Args h (ruleL h) (xs.map V.int) (h.no.getD 0) (xs.getD 0 0) (xs.getD 1 0) (xs.getD 2 0) := by
  refine ⟨rfl, fun e => ?_, fun e => getD_map ?_, fun e => getD_map ?_, fun e => getD_map ?_, ?_⟩
  · have k : h.no.isSome = true := by
      rcases g.1 with k | k
      · exact k.no.mpr e.symm
      · exfalso
        rcases k.1 with z | z <;> rcases e with e | e <;> rw [z] at e <;> exact absurd e (by decide +kernel)
    obtain ⟨n, hn⟩ := Option.isSome_iff_exists.mp k
    show (V.str h.wd :: (match h.no with | none => [] | some n => [.int n]))[1]? = _
    rw [hn]
    rfl
  · have := needs_some w e
    omega
  · rcases e with e | ⟨e1, e2, e3, e4⟩
    · rw [e, needs_pick] at hl
      omega
    · have := needs_two w e1 e2 e3 e4
      omega
  · rw [e, needs_pick] at hl
    omega
  · cases e : h.no with
    | none => decide
    | some n =>
      rcases g.1 with k | k
      · have := k.big n e
        show -(2 ^ 64) < n ∧ n < 2 ^ 64
        omega
      · rw [k.2] at e
        cases e
section
variable {P : Program} {w : World} {K : PySem.W.Frag} {mg : Str → Option Value} {base : Heap}
structure BellOk (hs : List HR) (cur : List BR) : Prop where
  hands : hs.length ≤ 12
  belts : cur.length ≤ 20
  good : ∀ h ∈ hs, GoodHand h
  ends : ∀ b ∈ cur, b.one < hs.length ∧ b.to < hs.length
  count : ∀ k h, hs[k]? = some h → (((cur.map BR.to).count k : Nat) : Int) = needs h.wd
theorem dget0 {H : Hp} {a : Addr} {kvs : List (Key × V)} {k : Nat} {o : Option V} (e : H a = some (.dK kvs)) (h : valV kvs (kN k) = o) : DGet H a (.int (0 + ((k : Nat) : Int))) o := by
  rw [Int.zero_add]
  exact dget_of e h
def sp_made_at_bell (K : PySem.W.Frag) : Sp := fun vs H Q _ => ∃ (r pl t D : Addr) (Z : Hp) (hs : List HR) (cur : List BR) (pv : List V) (ord : List Nat) (ins : List Int), vs = [.ref r, .ref pl, .ref t] ∧ RoomAt H r hs cur ∧ H pl = some (.lst pv) ∧ All2 (PlanAt Z D cur H) pv ord ∧ H t = some (.tup (ins.map V.int)) ∧
  BellOk hs cur ∧ Soon (looseOf cur) (List.range hs.length) ord ∧ ins.length = (doorsOf "in" hs).length ∧ ∀ (p : Addr) (m : List Int) (H' : Hp), H p = none → H' p = some (.tup (m.map V.int)) → IsBell hs cur ins m → Same H H' → Q (.ref p) H'
theorem ok_made_at_bell {f : Addr} {fd : FuncData} (F : Fun K "made_at_bell" "made_at_bell" s_made_at_bell f fd) (T : Top K mg) : FnOk P w K mg base CX0 3 f fd ["room", "plan", "things"] (sp_made_at_bell K) := by
  obtain ⟨f_doors_in, fd_doors_in, F_doors_in, b_doors_in, m_doors_in⟩ := T.d_doors_in
  have G_doors_in := ok_doors_in (P := P) (w := w) (base := base) F_doors_in T
  obtain ⟨f_made_by, fd_made_by, F_made_by, b_made_by, m_made_by⟩ := T.d_made_by
  have G_made_by := ok_made_by (P := P) (w := w) (base := base) F_made_by T
  obtain ⟨f_thing_taken, fd_thing_taken, F_thing_taken, b_thing_taken, m_thing_taken⟩ := T.d_thing_taken
  have G_thing_taken := ok_thing_taken (P := P) (w := w) (base := base) F_thing_taken T
  refine F.ok sc_made_at_bell (fun vs H Q E h => ?_) (fun cdv A outer s H vs Q E hr h => ?_)
  · obtain ⟨r, pl, t, D, Z, hs, cur, pls, ord, ins, rfl, _⟩ := h
    rfl
  obtain ⟨r, pl, t, D0, Z0, hs, cur, pls, ord, ins, rfl, hR, hpl, alp, ht, ok, soon, hi, q⟩ := h
  obtain ⟨ha, ba, hv, bv, er, eh, eb, alh, alb⟩ := hR.ex
  have lh := ok.hands
  have lbb := ok.belts
  have lhv := alh.length
  have lo := soon_len soon
  rw [List.length_range] at lo
  have lpv := alp.length
  have ld := doors_len (z := "in") (hs := hs)
  refine ⟨_, (pss_cons (ps_asg (pv 0) (pg_tupK K rfl rfl (pgs_cons (pg_name (i := 3) sc_made_at_bell.nd rfl (Or.inl rfl)) (pgs_cons (pg_name (i := 4) sc_made_at_bell.nd rfl (Or.inr rfl)) pgs_nil))))
      (pss_cons (ps_set (i := 5) sc_made_at_bell.nd rfl (Or.inr rfl) (pe_dictZip K rfl rfl (by rfl) T.m_dict (by rfl) T.m_zip (pa_cons (pe_call G_doors_in (hr.mono (by decide)) (by rfl) m_doors_in F_doors_in.kp b_doors_in .nil pass0 (pa_cons (pv 0) pa_nil)) (pa_cons (pv 2) pa_nil))))
      (pss_cons (ps_for PassesOwn.never rfl (pi_listK K rfl (pv 1)) (pg_tupK K rfl rfl (pgs_cons (pg_name (i := 6) sc_made_at_bell.nd rfl (Or.inl rfl)) (pgs_cons (pg_name (i := 7) sc_made_at_bell.nd rfl (Or.inl rfl)) pgs_nil)))
        (pss_one (ps_if (pt_cmp (pc_dnotin (hu_of hr) (pv 6) (pv 5)) (by with_unfolding_all rfl)) (pss_cons (ps_setLc (i := 8) (own := [("number", 9)]) (g := gName 9) (tt := tYes) (by rfl) sc_made_at_bell.nd rfl rfl (sw_true rfl rfl rfl (by decide +kernel)) (pi_listK K rfl (pv 7)) (blkOk_by (own := [("number", 9)]) (N := N_made_at_bell) (sc := defScope s_made_at_bell) (by decide +kernel)) (fun _ _ _ _ _ => (pg_name (i := 9) sc_made_at_bell.nd rfl (Or.inl rfl))) (fun _ _ _ _ _ => pts_nil) (fun _ _ _ _ _ => (pe_call G_thing_taken (hr.mono (by decide)) (by rfl) m_thing_taken F_thing_taken.kp b_thing_taken .nil pass0 (pa_cons (pe_ix (ix_tupK K rfl) (pv 4) (pv 9) (fun _ _ => rfl)) (pa_cons (pv 5) pa_nil)))))
      (pss_one (ps_dput (hu_of hr) (pv 5) (pv 6) (pe_call G_made_by (hr.mono (by decide)) (by rfl) m_made_by F_made_by.kp b_made_by .nil pass0 (pa_cons (pe_ix (ix_tupK K rfl) (pe_ix (ix_tupK K rfl) (pv 3) (pv 6) (fun _ _ => rfl)) pe_int (fun _ _ => rfl)) (pa_cons (pe_callTy (call_tuple_ofK K rfl) (by rfl) T.m_tuple (by decide +kernel) (pa_cons (pv 8) pa_nil)) pa_nil))) (by rfl)))) pss_nil)))
      (pss_one (ps_ret (pe_callTy (call_tuple_ofK K rfl) (by rfl) T.m_tuple (by decide +kernel) (pa_cons (pe_lc (own := [("hand", 6)]) (g := gName 6) (tt := tYes) (by rfl) sc_made_at_bell.nd (pi_range1 (by rfl) T.m_range (pa_cons (pe_callB (call_len_seqK K rfl) (by rfl) T.m_len (by decide +kernel) (pa_cons (pv 3) pa_nil)) pa_nil)) (blkOk_by (own := [("hand", 6)]) (N := N_made_at_bell) (sc := defScope s_made_at_bell) (by decide +kernel)) (fun _ _ _ _ _ => (pg_name (i := 6) sc_made_at_bell.nd rfl (Or.inl rfl))) (fun _ _ _ _ _ => pts_nil) (fun _ _ _ _ _ => (pe_dget (hu_of hr) (pv 5) (pv 6) (fun _ _ => rfl)))) pa_nil))))))), ?_⟩
  refine ⟨_, rfl, r, _, rfl, SqT.of er, rfl, _, _, rfl, _, _, rfl, rfl, ?_⟩
  refine ⟨_, rfl, r, hs, cur, rfl, hR, by omega, ok.good, fun dd H1 ndd hdd s1 => ⟨_, rfl, dd, t, (doorsOf "in" hs).map kN, ins.map V.int, rfl, SqL.of (by rw [hdd, List.map_map]; rfl), SqT.of (s1 _ _ ht), fun d nd => ?_⟩⟩
  have nd0 : H d = none := same_none s1 nd
  have s2 : Same H (upd H1 d (.dK (mergeK [] (((doorsOf "in" hs).map kN).zip (ins.map V.int))))) := s1.trans (same_new nd)
  have len0 : (mergeK [] (((doorsOf "in" hs).map kN).zip (ins.map V.int))).length ≤ 12 := by
    refine Nat.le_trans (length_mergeK _ []) ?_
    rw [List.length_zip, List.length_map, List.length_map, List.length_nil]
    omega
  refine ⟨_, rfl, pl, rfl, ⟨_, SqL.of (s2 _ _ hpl)⟩, for_list (K := K) (a := pl) (xs := pls) (fun i σ H2 => ∃ (v6 v7 v8 v9 : Option V) (kvs : List (Key × V)) (pm : Nat → Option Int) (left : List Nat), σ = [some (.ref r), some (.ref pl), some (.ref t), some (.ref ha), some (.ref ba), some (.ref d), v6, v7, v8, v9] ∧ H2 d = some (.dK kvs) ∧ DM kvs pm ∧ Part hs cur ins pm ∧ kvs.length ≤ 12 + i ∧ Same H H2 ∧ Soon (looseOf cur) left (ord.drop i) ∧ (∀ k, k < hs.length → k ∉ left → (pm k).isSome = true) ∧ (∀ (k : Nat) (h : HR), hs[k]? = some h → h.wd = "in" → (pm k).isSome = true))
    ⟨none, none, none, none, _, doorM hs ins, List.range hs.length, rfl, upd_same, doorM_dm hi, doorM_part, len0, s2, soon, fun k hk n => absurd (List.mem_range.mpr hk) n, fun k h e w => doorM_all hi e w⟩ (fun i σ H2 _ ⟨_, _, _, _, _, _, _, _, _, _, _, _, s, _⟩ => SqL.of (s _ _ hpl)) ?_ ?_⟩
  · rintro i x σ H2 hx ⟨v6, v7, v8, v9, kvs, pm, left, rfl, hd, dm, part, lk, s3, so, all, doors⟩
    obtain ⟨k, ek, ⟨t2, l, rfl, p1, p2, _⟩⟩ := alp.getL hx
    have il := (List.getElem?_eq_some_iff.mp ek).1
    have ed : ord.drop i = k :: ord.drop (i + 1) := by
      rw [List.drop_eq_getElem_cons il, (List.getElem?_eq_some_iff.mp ek).2]
    rw [ed] at so
    obtain ⟨kl, fr, so2⟩ : k ∈ left ∧ free (looseOf cur) left k ∧ Soon (looseOf cur) (left.erase k) (ord.drop (i + 1)) := by
      cases so with
      | cons a b c d => exact ⟨a, b, d⟩
    have kn : k < hs.length := by
      have e := soon_mem soon k (List.mem_of_getElem? ek)
      exact List.mem_range.mp e
    have eh2 : hs[k]? = some hs[k] := List.getElem?_eq_getElem kn
    refine ⟨t2, _, rfl, SqT.of (s3 _ _ p1), rfl, _, _, rfl, _, _, rfl, rfl, ?_⟩
    refine ⟨_, rfl, _, rfl, d, _, rfl, dget_of hd (dm k), _, rfl, if_bl (fun c => ?_) (fun c => ?_)⟩
    · have new : pm k = none := by
        cases e : pm k with
        | none => rfl
        | some v => rw [e] at c; cases c
      have win : hs[k].wd ≠ "in" := fun z => by
        have := doors k _ eh2 z
        rw [new] at this
        cases this
      have there : ∀ b ∈ cur, b.to = k → b.th = [] → (pm b.one).isSome = true := fun b b1 b2 b3 => all b.one (ok.ends b b1).1 (fr _ (mem_loose b1 b3) b2)
      have hl2 := s3 _ _ p2
      refine ⟨_, rfl, l, rfl, ⟨_, SqL.of hl2⟩, fun D nD => lc_list (K := K) (a := l) (xs := (comingN cur k).map nV) (fun j H5 => H5 D = some (.lst ((((comingN cur k).take j).map (valI cur fun j => (pm j).getD 0)).map V.int)) ∧ H5 d = some (.dK kvs) ∧ Same H2 H5) ⟨upd_same, same_new nD _ _ hd, same_new nD⟩ (fun j H5 _ ⟨_, _, s5⟩ => SqL.of (s5 _ _ hl2)) ?_ ?_⟩
      · rintro j x H5 hx ⟨hD, hd5, s5⟩
        rw [List.getElem?_map] at hx
        cases ej : (comingN cur k)[j]? with
        | none => rw [ej] at hx; cases hx
        | some n =>
        rw [ej] at hx
        obtain rfl : nV n = x := Option.some.inj hx
        have jl := (List.getElem?_eq_some_iff.mp ej).1
        have cl := coming_len (cur := cur) (k := k)
        obtain ⟨b, e1, e2⟩ := coming_mem (List.mem_of_getElem? ej)
        obtain ⟨v, ev, hB⟩ := alb.get e1
        have evi : valI cur (fun j => (pm j).getD 0) n = valB (fun j => (pm j).getD 0) b := by unfold valI; rw [e1]
        refine ⟨rfl, yes_in ⟨_, rfl, _, rfl, ba, _, _, _, rfl, rfl, SqT.of (s5 _ _ (s3 _ _ eb)), atI_nat ev, _, rfl, v, b, d, kvs, pm, rfl, hB.keep (TK.same (s3.trans s5)), hd5, dm, fun z => there b (List.mem_of_getElem? e1) e2 z, _, hD, ?_, ?_, ?_, Same.own s5 nD⟩⟩
        · rw [List.length_map, List.length_map, List.length_take]; exact small1000 (by omega)
        · rw [upd_same, List.take_add_one, ej, List.map_append, List.map_append, ← evi]; rfl
        · rw [upd_ne (ne_of_none hd nD)]; exact hd5
      · rintro H5 ⟨hD, hd5, s5⟩
        rw [List.length_map, List.take_length, coming_takes] at hD
        obtain ⟨xs, hxs⟩ : ∃ xs, xs = takes cur (fun j => (pm j).getD 0) k := ⟨_, rfl⟩
        rw [← hxs] at hD
        have lx : ((xs.length : Nat) : Int) = needs hs[k].wd := by rw [hxs, takes_len]; exact ok.count k _ eh2
        obtain ⟨v, ev, ⟨tk, rk2, rfl, h1, h2⟩⟩ := alh.get eh2
        have s4 := s3.trans s5
        have A := args_of (ok.good _ (List.mem_of_getElem? eh2)) win lx
        refine ⟨_, rfl, _, rfl, ha, _, _, _, rfl, rfl, SqT.of (s4 _ _ eh), atI_nat ev, tk, _, _, _, rfl, rfl, SqT.of (s4 _ _ h1), atI_nat (j := 0) rfl, _, rfl, D, _, rfl, .inl ⟨SqL.of hD, fun tt ntt => ?_⟩⟩
        have s5b := s4.trans (same_new (o := .tup (xs.map V.int)) ntt)
        refine ⟨rk2, tt, _, _, hs[k].wd, _, _, _, _, rfl, SqT.of (s5b _ _ h2), SqT.of upd_same, A.r0, A.r1, A.t0, A.t1, A.t2, A.big, fun H6 s6 => ?_⟩
        have hd6 := s6 _ _ (same_new ntt _ _ hd5)
        refine ⟨_, rfl, _, rfl, d, _, rfl, DPut.k (k := kN k) hd6 (small1000 (by omega)), ?_⟩
        refine ⟨_, _, _, _, _, putM pm k (mkR hs[k] xs), left.erase k, rfl, upd_same, dm.put k _, by rw [hxs]; exact part.put eh2 win new there, ?_, Same.own (s5b.trans s6) nd0, so2, fun j hj n => ?_, fun j h e w => ?_⟩
        · have := length_putK kvs (kN k) (V.int (mkR hs[k] xs))
          exact Nat.le_trans this (by omega)
        · by_cases e : j = k
          · rw [show putM pm k (mkR hs[k] xs) j = some _ from if_pos e]; rfl
          · rw [show putM pm k (mkR hs[k] xs) j = pm j from if_neg e]
            exact all j hj fun z => n ((List.mem_erase_of_ne e).mpr z)
        · by_cases e' : j = k
          · rw [show putM pm k (mkR hs[k] xs) j = some _ from if_pos e']; rfl
          · rw [show putM pm k (mkR hs[k] xs) j = pm j from if_neg e']
            exact doors j h e w
    · have old : (pm k).isSome = true := by
        cases e : pm k with
        | none => rw [e] at c; cases c
        | some v => rfl
      refine ⟨_, _, _, _, kvs, pm, left.erase k, rfl, hd, dm, part, by omega, s3, so2, fun j hj n => ?_, doors⟩
      by_cases e : j = k
      · rw [e]; exact old
      · exact all j hj fun z => n ((List.mem_erase_of_ne e).mpr z)
  · rintro σ H2 ⟨v6, v7, v8, v9, kvs, pm, left, rfl, hd, dm, part, lk, s3, so, all, doors⟩
    rw [List.drop_eq_nil_of_le (by omega)] at so
    have el : left = [] := by
      cases so
      rfl
    subst el
    have full : ∀ k, k < hs.length → (pm k).isSome = true := fun k hk => all k hk (fun z => nomatch z)
    refine ⟨_, rfl, ha, _, rfl, .inr (SqT.of (s3 _ _ eh)), _, rfl, by omega, by omega, fun D nD => lc_range (lo := 0) (n := hv.length) (fun j H5 => H5 D = some (.lst ((fullM j pm).map V.int)) ∧ H5 d = some (.dK kvs) ∧ Same H2 H5) ⟨upd_same, same_new nD _ _ hd, same_new nD⟩ ?_ ?_⟩
    · rintro j H5 hj ⟨hD, hd5, s5⟩
      obtain ⟨v, ev⟩ := Option.isSome_iff_exists.mp (full j (by omega))
      refine ⟨rfl, yes_in ⟨_, rfl, _, rfl, d, .int v, rfl, dget0 hd5 (by rw [dm, ev]; rfl), _, hD, ?_, ?_, ?_, Same.own s5 nD⟩⟩
      · rw [List.length_map, List.length_map, List.length_range]; exact small1000 (by omega)
      · rw [upd_same]
        unfold fullM
        rw [List.range_succ, List.map_append, List.map_append]
        simp [ev]
      · rw [upd_ne (ne_of_none hd nD)]; exact hd5
    · rintro H5 ⟨hD, hd5, s5⟩
      rw [lhv] at hD
      exact ⟨D, _, rfl, .inl ⟨SqL.of hD, fun p np => q p _ _ (same_none (s3.trans s5) np) upd_same (part.full full) ((s3.trans s5).trans (same_new np))⟩⟩
end
/-- a list or a tuple of rows -/
def RowsAt (H : Hp) (a : Addr) (rows : List (List Int)) : Prop := ∃ rv : List V, (H a = some (.lst rv) ∨ H a = some (.tup rv)) ∧ All2 (RowAt H) rv rows
theorem RowsAt.same {H H' : Hp} {a : Addr} {rows : List (List Int)} (h : RowsAt H a rows) (s : Same H H') : RowsAt H' a rows := by
  obtain ⟨rv, e, al⟩ := h
  exact ⟨rv, e.imp (s _ _) (s _ _), al.imp fun _ _ z => z.keep (TK.same s)⟩
theorem either_stays {H H' : Hp} {a : Addr} {xs : List V} (s : Same H H') (h : H a = some (.lst xs) ∨ H a = some (.tup xs)) : H' a = H a := by
  rcases h with e | e <;> rw [s _ _ e, e]
theorem or_seq {K : PySem.W.Frag} {te : TE} {σ : L2.St} {H : Hp} {R : It → Hp → Prop} {a : Addr} {xs : List V} (ht : ∀ Q : VK, Q (.ref a) H → te σ H Q) (h : H a = some (.lst xs) ∨ H a = some (.tup xs))
    (k : ∀ J : It, (∀ i H', H' a = H a → i < xs.length → J.go i H') → (∀ H', H' a = H a → J.stop xs.length H') → (∀ i H' x H'', H' a = H a → J.yld i H' x H'' → xs[i]? = some x ∧ H'' = H') → R J H) :
    iList K te σ H R ∨ iTup K te σ H R := by
  rcases h with e | e
  · refine .inl (ht _ ⟨a, rfl, ⟨_, SqL.of e⟩, k _ (fun i H' q hi => ?_) (fun H' q => ?_) fun i H' x H'' q y => ?_⟩)
    · exact ⟨xs, _, SqL.of (q.trans e), List.getElem?_eq_getElem hi⟩
    · exact ⟨xs, SqL.of (q.trans e), Nat.le_refl _⟩
    · exact ⟨y.2 _ (SqL.of (q.trans e)), y.1⟩
  · refine .inr (ht _ ⟨a, rfl, ⟨_, SqT.of e⟩, k _ (fun i H' q hi => ?_) (fun H' q => ?_) fun i H' x H'' q y => ?_⟩)
    · exact ⟨xs, _, SqT.of (q.trans e), List.getElem?_eq_getElem hi⟩
    · exact ⟨xs, SqT.of (q.trans e), Nat.le_refl _⟩
    · exact ⟨y.2 _ (SqT.of (q.trans e)), y.1⟩
theorem map_to (bs : List BR) (ms : List (List Int)) : (stand bs ms).map BR.to = bs.map BR.to := by
  rw [List.map_map]
  exact List.map_congr_left fun b _ => stand_to ms b
theorem coming_stand (bs : List BR) (ms : List (List Int)) (k : Nat) : comingN (stand bs ms) k = comingN bs k := by
  unfold comingN
  rw [List.length_map]
  refine List.filter_congr fun i _ => ?_
  rw [List.getElem?_map]
  cases bs[i]? with
  | none => rfl
  | some b =>
    show decide (some (standB ms b).to = some k) = decide (some b.to = some k)
    rw [stand_to]
theorem RoomOk.bell {hs : List HR} {bs : List BR} (ok : RoomOk hs bs) (ms : List (List Int)) : BellOk hs (stand bs ms) := by
  refine ⟨ok.hands, by rw [List.length_map]; exact ok.many, ok.good, fun b hb => ?_, fun k h e => by rw [map_to]; exact ok.count k h e⟩
  obtain ⟨c, hc, rfl⟩ := List.mem_map.mp hb
  rw [stand_one, stand_to]
  exact ok.ends c hc
theorem RoomOk.rk {hs : List HR} {bs : List BR} (ok : RoomOk hs bs) : ∃ rk : Nat → Int, ∀ p ∈ looseOf bs, rk p.1 < rk p.2 := by
  obtain ⟨rk, h⟩ := ok.rank
  refine ⟨rk, fun p hp => ?_⟩
  obtain ⟨b, hb, rfl⟩ := List.mem_map.mp hp
  obtain ⟨h1, h2⟩ := List.mem_filter.mp hb
  exact h b h1 (List.isEmpty_iff.mp h2)
theorem out_lt {hs : List HR} {m : List Int} (hl : m.length = hs.length) : ∀ k ∈ doorsOf "out" hs, k < m.length := fun k hk => by
  obtain ⟨h, e, _⟩ := mem_doors.mp hk
  have := (List.getElem?_eq_some_iff.mp e).1
  omega
section
variable {P : Program} {w : World} {K : PySem.W.Frag} {mg : Str → Option Value} {base : Heap}
def sp_worked (K : PySem.W.Frag) : Sp := fun vs H Q _ => ∃ (r a : Addr) (hs : List HR) (bs : List BR) (rows : List (List Int)), vs = [.ref r, .ref a] ∧ RoomAt H r hs bs ∧ RoomOk hs bs ∧ RowsAt H a rows ∧ (∀ x ∈ rows, x.length = (doorsOf "in" hs).length) ∧ rows.length ≤ 100 ∧
  ∀ (p : Addr) (ov : List V) (ms : List (List Int)) (H' : Hp), H p = none → H' p = some (.lst ov) → All2 (RowAt H') ov ms → WS hs bs rows ms → Same H H' → Q (.ref p) H'
theorem ok_worked {f : Addr} {fd : FuncData} (F : Fun K "worked" "worked" s_worked f fd) (T : Top K mg) : FnOk P w K mg base CX0 4 f fd ["room", "rows"] (sp_worked K) := by
  obtain ⟨f_work_plan, fd_work_plan, F_work_plan, b_work_plan, m_work_plan⟩ := T.d_work_plan
  have G_work_plan := ok_work_plan (P := P) (w := w) (base := base) F_work_plan T
  obtain ⟨f_made_at_bell, fd_made_at_bell, F_made_at_bell, b_made_at_bell, m_made_at_bell⟩ := T.d_made_at_bell
  have G_made_at_bell := ok_made_at_bell (P := P) (w := w) (base := base) F_made_at_bell T
  obtain ⟨f_behind_bell, fd_behind_bell, F_behind_bell, b_behind_bell, m_behind_bell⟩ := T.d_behind_bell
  have G_behind_bell := ok_behind_bell (P := P) (w := w) (base := base) F_behind_bell T
  refine F.ok sc_worked (fun vs H Q E h => ?_) (fun cdv A outer s H vs Q E hr h => ?_)
  · obtain ⟨r, a, hs, bs, rows, rfl, _⟩ := h
    rfl
  obtain ⟨r, a, hs, bs, rows, rfl, hR, ok, ⟨rv, hrv, alr⟩, hw, lr, q⟩ := h
  have lh := ok.hands
  have lb := ok.many
  have lrv := alr.length
  obtain ⟨rk, hrk⟩ := ok.rk
  refine ⟨_, (pss_cons (ps_set (i := 2) sc_worked.nd rfl (Or.inl rfl) (pe_call G_work_plan (hr.mono (by decide)) (by rfl) m_work_plan F_work_plan.kp b_work_plan .nil pass0 (pa_cons (pv 0) pa_nil)))
      (pss_cons (ps_set (i := 3) sc_worked.nd rfl (Or.inl rfl) (pv 0))
      (pss_cons (ps_set (i := 4) sc_worked.nd rfl (Or.inl rfl) (pe_lst pa_nil))
      (pss_cons (ps_for PassesOwn.never rfl (pi_or (pi_listK K rfl (pv 1)) (pi_tupK K rfl (pv 1))) (pg_name (i := 5) sc_worked.nd rfl (Or.inl rfl))
        (pss_cons (ps_set (i := 6) sc_worked.nd rfl (Or.inl rfl) (pe_call G_made_at_bell (hr.mono (by decide)) (by rfl) m_made_at_bell F_made_at_bell.kp b_made_at_bell .nil pass0 (pa_cons (pv 3) (pa_cons (pv 2) (pa_cons (pv 5) pa_nil)))))
      (pss_cons (ps_set (i := 3) sc_worked.nd rfl (Or.inl rfl) (pe_call G_behind_bell (hr.mono (by decide)) (by rfl) m_behind_bell F_behind_bell.kp b_behind_bell .nil pass0 (pa_cons (pv 3) (pa_cons (pv 6) pa_nil))))
      (pss_one (ps_expr (pe_bmK K rfl PySem.F.plainAttrs_list PySem.F.slot_list_append PySem.F.type_list_append mt_append (pv 4) (pa_cons (pv 6) pa_nil)))))))
      (pss_one (ps_ret (pv 4))))))), ?_⟩
  refine ⟨_, rfl, r, hs, bs, rk, rfl, hR, by omega, by omega, ok.ends, hrk, fun pl D ord pls H1 npl hpl alp soon s1 => ?_⟩
  refine ⟨_, rfl, (by show 0 ≤ sizeLine; decide), fun tl ntl => ?_⟩
  have s2 : Same H (upd H1 tl (.lst [])) := s1.trans (same_new ntl)
  have tl0 : H tl = none := same_none s1 ntl
  refine or_seq (a := a) (xs := rv) (fun Q q => ⟨_, rfl, q⟩) (hrv.imp (s2 _ _) (s2 _ _)) (fun J gj sj yj => for_it (J := J) (n := rv.length) (fun i σ H2 => ∃ (st : Addr) (ms : List (List Int)) (tv : List V) (v5 v6 : Option V), σ = [some (.ref r), some (.ref a), some (.ref pl), some (.ref st), some (.ref tl), v5, v6] ∧ RoomAt H2 st hs (stand bs ms) ∧ H2 tl = some (.lst tv) ∧ All2 (RowAt H2) tv ms ∧ WS hs bs (rows.take i) ms ∧ Same H1 H2)
    ⟨r, [], [], none, none, rfl, by rw [stand_zero]; exact hR.keep (TK.same s2), upd_same, .nil, WS.nil, same_new ntl⟩ ?_ ?_ ?_ ?_)
  · rintro i σ H2 hi ⟨st, ms, tv, v5, v6, rfl, hst, htl, alt, ws, s3⟩
    exact gj i H2 ((either_stays (s1.trans s3) hrv).trans (either_stays s2 hrv).symm) hi
  · rintro σ H2 ⟨st, ms, tv, v5, v6, rfl, hst, htl, alt, ws, s3⟩
    exact sj H2 ((either_stays (s1.trans s3) hrv).trans (either_stays s2 hrv).symm)
  · rintro i x σ H2 H3 hi ⟨st, ms, tv, v5, v6, rfl, hst, htl, alt, ws, s3⟩ y
    obtain ⟨ex, rfl⟩ := yj i H2 x H3 ((either_stays (s1.trans s3) hrv).trans (either_stays s2 hrv).symm) y
    obtain ⟨row, er, ⟨t, rfl, ht⟩⟩ := alr.getL ex
    have ht2 := s3 _ _ (s1 _ _ ht)
    have lms : ms.length = i := by
      have := ws.len
      rw [List.length_take] at this
      omega
    refine ⟨_, rfl, _, rfl, _, rfl, st, pl, t, D, H, hs, stand bs ms, pls, ord, row, rfl, hst, s3 _ _ hpl, alp.imp fun v k z => ?_, ht2, ok.bell ms, by rw [loose_stand]; exact soon, hw row (List.mem_of_getElem? er), fun p m H4 np hp bell s4 => ?_⟩
    · obtain ⟨t', l, e1, e2, e3, e4⟩ := z.same s3
      exact ⟨t', l, e1, e2, by rw [coming_stand]; exact e3, e4⟩
    have lm := bell.len
    refine ⟨_, rfl, _, rfl, st, p, hs, stand bs ms, m, rfl, hst.keep (TK.same s4), hp, fun b hb => ?_, by rw [List.length_map]; omega, fun st2 H5 hst2 s5 => ?_⟩
    · have e1 := ((ok.bell ms).ends b hb).1
      obtain ⟨c, hc, rfl⟩ := List.mem_map.mp hb
      have e2 := stand_len ms c
      have e3 := (ok.th c hc).1
      exact ⟨by omega, by omega⟩
    rw [stand_next] at hst2
    have htl5 := s5 _ _ (s4 _ _ htl)
    refine ⟨_, rfl, .inl ⟨rfl, _, SqL.of htl5⟩, _, rfl, tl, _, _, rfl, rfl, htl5, by rw [alt.length, lms]; exact small1000 (by omega), ?_⟩
    refine ⟨st2, ms ++ [m], tv ++ [V.ref p], _, _, rfl, hst2.keep (TK.lst htl5), upd_same, ?_, ?_, Same.own ((s3.trans s4).trans s5) ntl⟩
    · exact ((alt.imp fun _ _ z => z.keep (TK.same (s4.trans s5))).snoc ⟨p, rfl, s5 _ _ hp⟩).imp fun _ _ z => z.keep (TK.lst htl5)
    · rw [List.take_add_one, er]
      exact ws.snoc bell
  · rintro σ H2 ⟨st, ms, tv, v5, v6, rfl, hst, htl, alt, ws, s3⟩
    rw [lrv, List.take_length] at ws
    exact ⟨_, rfl, q tl tv ms H2 tl0 htl alt ws (s1.trans s3)⟩
end
section
variable {P : Program} {w : World} {K : PySem.W.Frag} {mg : Str → Option Value} {base : Heap}
def sp_standing (K : PySem.W.Frag) : Sp := fun vs H Q _ => ∃ (r a : Addr) (hs : List HR) (bs : List BR) (rows : List (List Int)), vs = [.ref r, .ref a] ∧ RoomAt H r hs bs ∧ RoomOk hs bs ∧ RowsAt H a rows ∧ (∀ x ∈ rows, x.length = (doorsOf "in" hs).length) ∧ rows.length ≤ 100 ∧
  ∀ (p : Addr) (ms : List (List Int)) (H' : Hp), RoomAt H' p hs (stand bs ms) → WS hs bs rows ms → Same H H' → Q (.ref p) H'
theorem ok_standing {f : Addr} {fd : FuncData} (F : Fun K "standing" "standing" s_standing f fd) (T : Top K mg) : FnOk P w K mg base CX0 5 f fd ["room", "rows"] (sp_standing K) := by
  obtain ⟨f_worked, fd_worked, F_worked, b_worked, m_worked⟩ := T.d_worked
  have G_worked := ok_worked (P := P) (w := w) (base := base) F_worked T
  obtain ⟨f_behind_bell, fd_behind_bell, F_behind_bell, b_behind_bell, m_behind_bell⟩ := T.d_behind_bell
  have G_behind_bell := ok_behind_bell (P := P) (w := w) (base := base) F_behind_bell T
  refine F.ok sc_standing (fun vs H Q E h => ?_) (fun cdv A outer s H vs Q E hr h => ?_)
  · obtain ⟨r, a, hs, bs, rows, rfl, _⟩ := h
    rfl
  obtain ⟨r, a, hs, bs, rows, rfl, hR, ok, hrows, hw, lr, q⟩ := h
  have lb := ok.many
  refine ⟨_, (pss_cons (ps_set (i := 2) sc_standing.nd rfl (Or.inl rfl) (pv 0))
      (pss_cons (ps_for PassesOwn.never rfl (pi_listK K rfl (pe_call G_worked (hr.mono (by decide)) (by rfl) m_worked F_worked.kp b_worked .nil pass0 (pa_cons (pv 0) (pa_cons (pv 1) pa_nil)))) (pg_name (i := 3) sc_standing.nd rfl (Or.inl rfl))
        (pss_one (ps_set (i := 2) sc_standing.nd rfl (Or.inl rfl) (pe_call G_behind_bell (hr.mono (by decide)) (by rfl) m_behind_bell F_behind_bell.kp b_behind_bell .nil pass0 (pa_cons (pv 2) (pa_cons (pv 3) pa_nil))))))
      (pss_one (ps_ret (pv 2))))), ?_⟩
  refine ⟨_, rfl, _, rfl, _, rfl, r, a, hs, bs, rows, rfl, hR, ok, hrows, hw, lr, fun wl wv ms H1 nwl hwl alw ws s1 => ?_⟩
  refine ⟨wl, rfl, ⟨_, SqL.of hwl⟩, for_list (K := K) (a := wl) (xs := wv) (fun i σ H2 => ∃ (st : Addr) (v3 : Option V), σ = [some (.ref r), some (.ref a), some (.ref st), v3] ∧ RoomAt H2 st hs (stand bs (ms.take i)) ∧ Same H1 H2)
    ⟨r, none, rfl, by rw [List.take_zero, stand_zero]; exact hR.keep (TK.same s1), fun _ _ e => e⟩ (fun i σ H2 _ ⟨_, _, _, _, s2⟩ => SqL.of (s2 _ _ hwl)) ?_ ?_⟩
  · rintro i x σ H2 hx ⟨st, v3, rfl, hst, s2⟩
    obtain ⟨m, em, ⟨t, rfl, ht⟩⟩ := alw.getL hx
    have lm := ws.row m (List.mem_of_getElem? em)
    refine ⟨_, rfl, _, rfl, st, t, hs, stand bs (ms.take i), m, rfl, hst, s2 _ _ ht, fun b hb => ?_, by rw [List.length_map]; omega, fun st2 H3 hst2 s3 => ?_⟩
    · have e1 := ((ok.bell (ms.take i)).ends b hb).1
      obtain ⟨c, hc, rfl⟩ := List.mem_map.mp hb
      have e2 := stand_len (ms.take i) c
      have e3 := (ok.th c hc).1
      exact ⟨by omega, by omega⟩
    rw [stand_next] at hst2
    refine ⟨st2, _, rfl, ?_, s2.trans s3⟩
    rw [List.take_add_one, em]
    exact hst2
  · rintro σ H2 ⟨st, v3, rfl, hst, s2⟩
    rw [alw.length, List.take_length] at hst
    exact ⟨_, rfl, q st ms H2 hst ws (s1.trans s2)⟩
end
/-! ### when works begin: the moments, by their number -/
def momN (hs : List HR) (k : Nat) : Int := match hs[k]? with | some h => h.mom | none => 0
def dueL (hs : List HR) (bs : List BR) (e : Nat → Nat → Int) (k t : Nat) : List Int :=
  [0] ++ (if t = 0 then [] else [e k (t - 1) + momN hs k]) ++ (bs.filter fun b => decide (b.to = k) && decide (b.th.length ≤ t)).map fun b => e b.one (t - b.th.length) + momN hs b.one
def gtst (l : List Int) : Int := l.foldl max 0
theorem gtst_aux : ∀ (l : List Int) (a : Int), a ≤ l.foldl max a ∧ (∀ x ∈ l, x ≤ l.foldl max a) ∧ (l.foldl max a = a ∨ l.foldl max a ∈ l)
  | [], a => ⟨Int.le_refl _, (fun _ z => nomatch z), .inl rfl⟩
  | y :: l, a => by
    obtain ⟨h1, h2, h3⟩ := gtst_aux l (max a y)
    refine ⟨?_, fun x hx => ?_, ?_⟩
    · show a ≤ l.foldl max (max a y)
      omega
    · show x ≤ l.foldl max (max a y)
      rcases List.mem_cons.mp hx with rfl | hx
      · omega
      · exact h2 x hx
    · show l.foldl max (max a y) = a ∨ l.foldl max (max a y) ∈ y :: l
      rcases h3 with h3 | h3
      · by_cases z : a ≤ y
        · right
          rw [h3, Int.max_eq_right z]
          exact List.mem_cons_self ..
        · left
          rw [h3]
          omega
      · exact .inr (List.mem_cons_of_mem _ h3)
theorem gtst_le {l : List Int} {x : Int} (h : x ∈ l) : x ≤ gtst l := (gtst_aux l 0).2.1 x h
theorem gtst_mem {l : List Int} (h : 0 ∈ l) : gtst l ∈ l := by
  rcases (gtst_aux l 0).2.2 with e | e
  · unfold gtst
    rw [e]
    exact h
  · exact e
theorem gtst_one {l : List Int} {m : Int} (h0 : 0 ∈ l) (hm : m ∈ l) (hg : ∀ y ∈ l, y ≤ m) : m = gtst l := Int.le_antisymm (gtst_le hm) (hg _ (gtst_mem h0))
def eF (hs : List HR) (bs : List BR) : Nat → Nat → Nat → Int
  | 0, _, _ => 0
  | n + 1, k, t => gtst (dueL hs bs (eF hs bs n) k t)
theorem due_ext {hs : List HR} {bs : List BR} {e e' : Nat → Nat → Int} {k t : Nat} (h1 : t ≠ 0 → e k (t - 1) = e' k (t - 1)) (h2 : ∀ b ∈ bs, b.to = k → b.th.length ≤ t → e b.one (t - b.th.length) = e' b.one (t - b.th.length)) : dueL hs bs e k t = dueL hs bs e' k t := by
  unfold dueL
  have a : (if t = 0 then [] else [e k (t - 1) + momN hs k]) = if t = 0 then [] else [e' k (t - 1) + momN hs k] := by
    by_cases z : t = 0
    · rw [if_pos z, if_pos z]
    · rw [if_neg z, if_neg z, h1 z]
  rw [a]
  refine congrArg (_ ++ ·) (List.map_congr_left fun b hb => ?_)
  obtain ⟨hb, z⟩ := List.mem_filter.mp hb
  obtain ⟨z1, z2⟩ := Bool.and_eq_true_iff.mp z
  rw [h2 b hb (of_decide_eq_true z1) (of_decide_eq_true z2)]
theorem filt_lt {α : Type} {p q : α → Bool} : ∀ {l : List α}, (∀ x ∈ l, p x = true → q x = true) → (∃ x ∈ l, q x = true ∧ p x = false) → (l.filter p).length < (l.filter q).length
  | [], _, ⟨_, h, _⟩ => nomatch h
  | a :: l, h, ⟨x, hx, qx, px⟩ => by
    have le : (l.filter p).length ≤ (l.filter q).length := by
      have : ∀ {l : List α}, (∀ x ∈ l, p x = true → q x = true) → (l.filter p).length ≤ (l.filter q).length := by
        intro l
        induction l with
        | nil => intro _; exact Nat.le_refl _
        | cons b l ih =>
          intro h
          have ih := ih fun x hx => h x (List.mem_cons_of_mem _ hx)
          by_cases pb : p b = true
          · rw [List.filter_cons_of_pos pb, List.filter_cons_of_pos (h b (List.mem_cons_self ..) pb)]
            exact Nat.succ_le_succ ih
          · rw [List.filter_cons_of_neg pb]
            by_cases qb : q b = true
            · rw [List.filter_cons_of_pos qb]; exact Nat.le_succ_of_le ih
            · rw [List.filter_cons_of_neg qb]; exact ih
      exact this fun x hx => h x (List.mem_cons_of_mem _ hx)
    rcases List.mem_cons.mp hx with rfl | hx
    · rw [List.filter_cons_of_neg (by rw [px]; exact Bool.false_ne_true), List.filter_cons_of_pos qx]
      exact Nat.lt_succ_of_le le
    · have ih := filt_lt (fun x hx => h x (List.mem_cons_of_mem _ hx)) ⟨x, hx, qx, px⟩
      by_cases pb : p a = true
      · rw [List.filter_cons_of_pos pb, List.filter_cons_of_pos (h a (List.mem_cons_self ..) pb)]
        exact Nat.succ_lt_succ ih
      · rw [List.filter_cons_of_neg pb]
        by_cases qb : q a = true
        · rw [List.filter_cons_of_pos qb]; exact Nat.lt_succ_of_lt ih
        · rw [List.filter_cons_of_neg qb]; exact ih
def dep (rk : Nat → Int) (n k : Nat) : Nat := ((List.range n).filter fun j => decide (rk j < rk k)).length
theorem dep_le {rk : Nat → Int} {n k : Nat} : dep rk n k ≤ n := by
  unfold dep
  refine Nat.le_trans (List.length_filter_le ..) ?_
  rw [List.length_range]
  exact Nat.le_refl _
theorem dep_lt {rk : Nat → Int} {n a b : Nat} (ha : a < n) (h : rk a < rk b) : dep rk n a < dep rk n b := by
  refine filt_lt (fun x _ z => decide_eq_true (Int.lt_trans (of_decide_eq_true z) h)) ⟨a, List.mem_range.mpr ha, decide_eq_true h, decide_eq_false (Int.lt_irrefl _)⟩
def mu (rk : Nat → Int) (n k t : Nat) : Nat := t * (n + 1) + dep rk n k
theorem mu_own {rk : Nat → Int} {n k t : Nat} (h : t ≠ 0) : mu rk n k (t - 1) < mu rk n k t := by
  obtain ⟨s, rfl⟩ := Nat.exists_eq_succ_of_ne_zero h
  unfold mu
  rw [Nat.succ_sub_one, Nat.succ_mul]
  omega
theorem mu_belt {rk : Nat → Int} {n : Nat} {b : BR} (hr : b.th = [] → rk b.one < rk b.to) (ho : b.one < n) {t : Nat} (ht : b.th.length ≤ t) : mu rk n b.one (t - b.th.length) < mu rk n b.to t := by
  unfold mu
  by_cases z : b.th = []
  · rw [z, List.length_nil, Nat.sub_zero]
    have := dep_lt (n := n) ho (hr z)
    omega
  · have l : 0 < b.th.length := List.length_pos_iff.mpr z
    have d := dep_le (rk := rk) (n := n) (k := b.one)
    have : (t - b.th.length + 1) * (n + 1) ≤ t * (n + 1) := Nat.mul_le_mul_right _ (by omega)
    rw [Nat.add_mul, Nat.one_mul] at this
    omega
theorem eF_stay {hs : List HR} {bs : List BR} {rk : Nat → Int} (hr : ∀ b ∈ bs, b.th = [] → rk b.one < rk b.to) (he : ∀ b ∈ bs, b.one < hs.length ∧ b.to < hs.length) :
    ∀ n m k t, k < hs.length → mu rk hs.length k t < n → mu rk hs.length k t < m → eF hs bs n k t = eF hs bs m k t
  | 0, _, _, _, _, h, _ => absurd h (Nat.not_lt_zero _)
  | _ + 1, 0, _, _, _, _, h => absurd h (Nat.not_lt_zero _)
  | n + 1, m + 1, k, t, hk, h1, h2 => by
    show gtst _ = gtst _
    rw [due_ext (e := eF hs bs n) (e' := eF hs bs m)]
    · intro z
      have := mu_own (rk := rk) (n := hs.length) (k := k) z
      exact eF_stay hr he n m k (t - 1) hk (by omega) (by omega)
    · intro b hb ht hl
      have := mu_belt (rk := rk) (n := hs.length) (hr b hb) (he b hb).1 hl
      rw [ht] at this
      exact eF_stay hr he n m b.one _ (he b hb).1 (by omega) (by omega)
/-- the moment at which the work of number t of hand k begins -/
def erl (hs : List HR) (bs : List BR) (k t : Nat) : Int := eF hs bs ((t + 1) * (hs.length + 1)) k t
theorem erl_is {hs : List HR} {bs : List BR} {rk : Nat → Int} (hr : ∀ b ∈ bs, b.th = [] → rk b.one < rk b.to) (he : ∀ b ∈ bs, b.one < hs.length ∧ b.to < hs.length) {k t : Nat} (hk : k < hs.length) : erl hs bs k t = gtst (dueL hs bs (erl hs bs) k t) := by
  have mul : ∀ k t, mu rk hs.length k t < (t + 1) * (hs.length + 1) := fun k t => by
    unfold mu
    have := dep_le (rk := rk) (n := hs.length) (k := k)
    rw [Nat.add_mul, Nat.one_mul]
    omega
  have m0 := mul k t
  unfold erl
  obtain ⟨n, en⟩ : ∃ n, (t + 1) * (hs.length + 1) = n + 1 := Nat.exists_eq_succ_of_ne_zero (by omega)
  rw [en] at m0 ⊢
  show gtst _ = gtst _
  rw [due_ext (e := eF hs bs n) (e' := fun k t => eF hs bs ((t + 1) * (hs.length + 1)) k t)]
  · intro z
    have := mu_own (rk := rk) (n := hs.length) (k := k) z
    exact eF_stay hr he _ _ k (t - 1) hk (by omega) (mul _ _)
  · intro b hb ht hl
    have := mu_belt (rk := rk) (n := hs.length) (hr b hb) (he b hb).1 hl
    rw [ht] at this
    exact eF_stay hr he _ _ b.one _ (he b hb).1 (by omega) (mul _ _)
theorem due_zero {hs : List HR} {bs : List BR} {e : Nat → Nat → Int} {k t : Nat} : 0 ∈ dueL hs bs e k t := by
  unfold dueL
  exact List.mem_append_left _ (List.mem_append_left _ (List.mem_singleton.mpr rfl))
theorem due_mem {hs : List HR} {bs : List BR} {e : Nat → Nat → Int} {k t : Nat} {x : Int} : x ∈ dueL hs bs e k t ↔ x = 0 ∨ (t ≠ 0 ∧ x = e k (t - 1) + momN hs k) ∨ ∃ b ∈ bs, b.to = k ∧ b.th.length ≤ t ∧ x = e b.one (t - b.th.length) + momN hs b.one := by
  unfold dueL
  rw [List.mem_append, List.mem_append, List.mem_singleton, List.mem_map]
  constructor
  · rintro ((h | h) | ⟨b, hb, rfl⟩)
    · exact .inl h
    · by_cases z : t = 0
      · rw [if_pos z] at h; cases h
      · rw [if_neg z] at h
        exact .inr (.inl ⟨z, List.mem_singleton.mp h⟩)
    · obtain ⟨hb', z⟩ := List.mem_filter.mp hb
      obtain ⟨z1, z2⟩ := Bool.and_eq_true_iff.mp z
      exact .inr (.inr ⟨b, hb', of_decide_eq_true z1, of_decide_eq_true z2, rfl⟩)
  · rintro (h | ⟨z, h⟩ | ⟨b, hb, h1, h2, rfl⟩)
    · exact .inl (.inl h)
    · exact .inl (.inr (by rw [if_neg z]; exact List.mem_singleton.mpr h))
    · exact .inr ⟨b, List.mem_filter.mpr ⟨hb, by rw [decide_eq_true h1, decide_eq_true h2]; rfl⟩, rfl⟩
theorem due_le {hs : List HR} {bs : List BR} {e e' : Nat → Nat → Int} {k t : Nat} (h1 : t ≠ 0 → e k (t - 1) ≤ e' k (t - 1)) (h2 : ∀ b ∈ bs, b.to = k → b.th.length ≤ t → e b.one (t - b.th.length) ≤ e' b.one (t - b.th.length)) : gtst (dueL hs bs e k t) ≤ gtst (dueL hs bs e' k t) := by
  rcases due_mem.mp (gtst_mem (due_zero (hs := hs) (bs := bs) (e := e) (k := k) (t := t))) with m | ⟨z, m⟩ | ⟨b, hb, z1, z2, m⟩
  · rw [m]
    exact gtst_le due_zero
  · rw [m]
    exact Int.le_trans (Int.add_le_add_right (h1 z) _) (gtst_le (due_mem.mpr (.inr (.inl ⟨z, rfl⟩))))
  · rw [m]
    exact Int.le_trans (Int.add_le_add_right (h2 b hb z1 z2) _) (gtst_le (due_mem.mpr (.inr (.inr ⟨b, hb, z1, z2, rfl⟩))))
/-- what meets all that is asked is nowhere less -/
theorem erl_least {hs : List HR} {bs : List BR} {rk : Nat → Int} (hr : ∀ b ∈ bs, b.th = [] → rk b.one < rk b.to) (he : ∀ b ∈ bs, b.one < hs.length ∧ b.to < hs.length) {e : Nat → Nat → Int} {N : Nat} (h : ∀ k t, k < hs.length → t < N → gtst (dueL hs bs e k t) ≤ e k t) :
    ∀ n k t, k < hs.length → t < N → mu rk hs.length k t < n → erl hs bs k t ≤ e k t
  | 0, _, _, _, _, h => absurd h (Nat.not_lt_zero _)
  | n + 1, k, t, hk, ht, hn => by
    rw [erl_is hr he hk]
    refine Int.le_trans (due_le (fun z => ?_) (fun b hb hto hl => ?_)) (h k t hk ht)
    · have := mu_own (rk := rk) (n := hs.length) (k := k) z
      exact erl_least hr he h n k (t - 1) hk (by omega) (by omega)
    · have := mu_belt (rk := rk) (n := hs.length) (hr b hb) (he b hb).1 hl
      rw [hto] at this
      exact erl_least hr he h n b.one _ (he b hb).1 (by omega) (by omega)
theorem nd_at {α : Type} {l : List α} (nd : l.Nodup) {i j : Nat} {a : α} (h1 : l[i]? = some a) (h2 : l[j]? = some a) : i = j := by
  have i1 := (List.getElem?_eq_some_iff.mp h1)
  have i2 := (List.getElem?_eq_some_iff.mp h2)
  obtain ⟨l1, e1⟩ := i1
  obtain ⟨l2, e2⟩ := i2
  exact (List.getElem_inj nd).mp (e1.trans e2.symm)
theorem soon_all {ls : List (Nat × Nat)} {left ord : List Nat} (h : Soon ls left ord) : ∀ x ∈ left, x ∈ ord := by
  induction h with
  | nil => exact fun _ z => z
  | @cons left ord k a b c d ih =>
    intro x hx
    by_cases z : x = k
    · rw [z]; exact List.mem_cons_self ..
    · exact List.mem_cons_of_mem _ (ih x ((List.mem_erase_of_ne z).mpr hx))
theorem soon_nd {ls : List (Nat × Nat)} {left ord : List Nat} (h : Soon ls left ord) (nd : left.Nodup) : ord.Nodup := by
  induction h with
  | nil => exact List.nodup_nil
  | cons a b c d ih => exact List.nodup_cons.mpr ⟨fun z => ((nd.mem_erase_iff).mp (soon_mem d _ z)).1 rfl, ih (nd.erase _)⟩
theorem soon_pre {ls : List (Nat × Nat)} {left ord : List Nat} (h : Soon ls left ord) : ∀ {i : Nat} {k a : Nat}, ord[i]? = some k → (a, k) ∈ ls → a ∈ left → a ∈ ord.take i := by
  induction h with
  | nil => intro i k a z; cases z
  | @cons left ord k0 x y z d ih =>
    intro i k a hk hp ha
    cases i with
    | zero =>
      cases hk
      exact absurd ha (y _ hp rfl)
    | succ i =>
      rw [List.take_succ_cons]
      by_cases e : a = k0
      · rw [e]; exact List.mem_cons_self ..
      · exact List.mem_cons_of_mem _ (ih hk hp ((List.mem_erase_of_ne e).mpr ha))
theorem mem_coming {bs : List BR} {k j : Nat} {b : BR} (e : bs[j]? = some b) : j ∈ comingN bs k ↔ b.to = k := by
  unfold comingN
  rw [List.mem_filter]
  constructor
  · intro h
    have := of_decide_eq_true h.2
    rw [e] at this
    exact Option.some.inj this
  · intro h
    exact ⟨List.mem_range.mpr (List.getElem?_eq_some_iff.mp e).1, decide_eq_true (by rw [e, ← h]; rfl)⟩
theorem coming_at {bs : List BR} {k j : Nat} (h : j ∈ comingN bs k) : ∃ b, bs[j]? = some b ∧ b.to = k := by
  have := of_decide_eq_true (List.mem_filter.mp h).2
  cases e : bs[j]? with
  | none => rw [e] at this; cases this
  | some b => rw [e] at this; exact ⟨b, rfl, Option.some.inj this⟩
theorem mom_at {hs : List HR} {k : Nat} {h : HR} (e : hs[k]? = some h) : momN hs k = h.mom := by unfold momN; rw [e]
/-! ### max(xs, key=lambda x: ..), the lambda over a name of the def around it -/
/-- one answer of the lambda: in its own frame, the caller's things as they are -/
def KeyBody (X : Cx) (scope : Scope) (body : Expr) (x : Str) (KA : L2.St → Hp → Int → Int → Prop) : Prop :=
  ∀ (pins : List (Addr × Obj)) (σ : L2.St) (H : Hp) (A' : Around) (env' : Env) (E' : Value → Shared → Prop) (z : Shared) (n k : Int) (t : Tok), Inv X pins σ H z → A'.units + 1 < cLine → env'.scope = scope → env'.cells = cloFrom X.env.cells scope.names [] →
    z.heap.Ns env'.locals (fun y => ([(x, Value.int n t)] : List (Str × Value)).lookup y) → KA σ H n k → wpAny (model X.prog X.w) A' (eval body env') (fun y z' => (∃ t', y = .int k t') ∧ ∃ tk, z' = { z with toks := tk }) E' z
/-- a state that keeps all that stood -/
def Grown (s z : Shared) : Prop := ∃ (h' : Heap) (tk : Nat), z = { s with heap := h', toks := tk } ∧ ∀ b o, s.heap.get? b = some o → h'.get? b = some o
theorem Grown.refl (s : Shared) : Grown s s := ⟨s.heap, s.toks, rfl, fun _ _ e => e⟩
theorem Grown.kp {s z : Shared} (g : Grown s z) : ∀ b o, s.heap.get? b = some o → z.heap.get? b = some o := by
  obtain ⟨h', tk, rfl, k⟩ := g
  exact k
structure LamShape (params : Arguments) (body : Expr) (scope : Scope) (x : Str) : Prop where
  bnd : ∀ (q : Str) (cl : List (Str × Addr)) (pm cdv ct v : Value), bindArgs (PySem.W.kla_fn "<lambda>" q params body scope cl pm cdv ct) ⟨[v], []⟩ = pure [(x, v)]
  loc : scope.names.lookup x = some .local
  co : scope.isCoroutine = false
  gen : scope.isGenerator = false
  kind : scope.kind = .function
  cell : ∀ y ∈ scope.names, y.2 ≠ .cell
theorem lam_call {X : Cx} {pins : List (Addr × Obj)} {σ : L2.St} {H : Hp} {s z : Shared} {A' : Around} {E' : Value → Shared → Prop} {params : Arguments} {body : Expr} {scope : Scope} {x : Str} {KA : L2.St → Hp → Int → Int → Prop} {f c' : Addr} {q : Str} {pm ctv : Value} {n k : Int} {t : Tok}
    (L : LamShape params body scope x) (B : KeyBody X scope body x KA) (I : Inv X pins σ H s) (g : Grown s z) (hf : s.heap.get? f = some (PySem.W.kla_obj "<lambda>" q params body scope (cloFrom X.env.cells scope.names []) pm c' ctv)) (hc : s.heap.CodeRec (.ref c') q)
    (dep : A'.depth < recursionLimit) (un : ∀ e : Env, (A'.deeper e).units + 1 < cLine) (ka : KA σ H n k) :
    wpAny (model X.prog X.w) A' (call (.ref f) [.int n t]) (fun y z' => (∃ t', y = .int k t') ∧ Grown z z') E' z := by
  obtain ⟨h', tk, rfl, kp⟩ := g
  have hc2 : Heap.CodeRec h' (.ref c') q := by
    obtain ⟨c0, oc, vs, tq, e0, e1, e2, e3⟩ := hc
    exact ⟨c0, oc, vs, tq, e0, kp _ _ e1, e2, e3⟩
  refine wpAny_call (PySem.W.kla_callFunE dep (kp _ _ hf) rfl L.co L.gen rfl hc2 ?_)
  rw [L.bnd]
  refine wpAny_pure (wpAny_newFunctionEnv L.cell (fun y hy => ?_) (fun h1 hns hsb => ?_) L.kind)
  · rw [List.mem_singleton.mp hy]
    exact L.loc
  have grew : ∀ b o, h'.get? b = some o → h1.get? b = some o := fun b o e => hsb.extBut b o (Nat.ne_of_lt (Heap.lt_size e)) (Heap.get?_push_of_some _ e)
  have J : Inv X pins σ H { s with heap := h1, toks := tk + 1 } := I.kept fun b o e => grew b o (kp b o e)
  refine ⟨J.nolimit, PySem.W.kla_codeExpr ?_⟩
  refine wpAny_mono (B pins σ H _ _ _ { s with heap := h1, toks := tk + 1 } n k t J (un _) rfl rfl hns ka) (fun y z' r => ?_) fun _ _ e => e
  obtain ⟨e1, tk2, rfl⟩ := r
  exact ⟨e1, h1, tk2, rfl, grew⟩
def tMaxKey (K : PySem.W.Frag) (T : List (Addr × Str)) (KA : L2.St → Hp → Int → Int → Prop) (te : TE) : TE := fun σ H Q => te σ H fun v H1 => ∃ (a : Addr) (ns : List Int) (kf : Int → Int), v = .ref a ∧ SqL K H1 a (ns.map V.int) ∧ 0 < ns.length ∧ LamX.Tabs T H1 ∧
  ∀ H2, LamX.ExtN H1 H2 → LamX.Tabs T H2 → SqL K H2 a (ns.map V.int) ∧ (∀ n ∈ ns, KA σ H2 n (kf n)) ∧ ∀ m, m ∈ ns → (∀ y ∈ ns, kf y ≤ kf m) → Q (.int m) H2
theorem ints_val2 {ns : List Int} {its : List Value} (rv : Vals (ns.map V.int) its) : ∀ i v, its.toArray[i]? = some v → i < ns.length ∧ ∃ t, v = Value.int (ns.getD i 0) t := fun i v e => by
  rw [List.getElem?_toArray] at e
  have il : i < ns.length := by
    have h1 := (List.getElem?_eq_some_iff.mp e).1
    have h2 := rv.length
    rw [List.length_map] at h2
    omega
  obtain ⟨u, eu, t, ru⟩ := rv.get (i := i) (x := .int ns[i]) (by rw [List.getElem?_map, List.getElem?_eq_getElem il]; rfl)
  rw [e] at eu
  cases eu
  exact ⟨il, t, by rw [ru, List.getD_eq_getElem?_getD, List.getElem?_eq_getElem il]; rfl⟩
theorem pe_maxLam {X : Cx} (K : PySem.W.Frag) (hK : X.K = K) {T : List (Addr × Str)} {c P : Addr} {e : Expr} {te : TE} {params : Arguments} {body : Expr} {scope : Scope} {lpos kpos p pos : Pos} {x : Str} {KA : L2.St → Hp → Int → Int → Prop} {k : Nat}
    (hc : X.calm = true) (hr : Room k X.A) (hk : 2 ≤ k) (hg : Gl X "max") (hm : X.mg "max" = none) (TB : LamX.TabB X.base X.mg c P) (hcode : X.env.code = .ref c) (hT1 : (P, X.env.qual ++ "<lambda>") ∈ T) (hT2 : ∀ q ∈ T, q.1 = P → q.2 = X.env.qual ++ "<lambda>")
    (hdef : defaultsOf params X.env = ([], [])) (hfree : ∀ y ∈ scope.names, y.2 = .free → ∃ d, X.env.cells.lookup y.1 = some d) (L : LamShape params body scope x) (B : KeyBody X scope body x KA) (he : PE X e te)
    (hbt : backTo pos (starEach [e] X.env) = (false, eval e X.env) :: backTo pos (starEach [] X.env) := by rfl) (hpl : (backTo pos (starEach [e] X.env)).any (·.1) = false := by rfl) :
    PE X (.Call (.Name "max" p) [e] [⟨some "key", .Lambda params body scope lpos, kpos⟩] pos) (tMaxKey K T KA te) := by
  subst hK
  refine ⟨fun pins s σ H Q I h => ?_⟩
  have hbm : bootBuiltins ("max" : Str) = some (.builtin "max") := by decide +kernel
  refine wpAny_Call_Name_kw (ld_blt I hg hm hbm ?_)
  refine PyProof.Rows.callWith_kw ?_ hbt hpl rfl rfl
  rw [hbt]
  refine Calls.spliced_cons (thn (he.run pins s σ H _ I h) fun u s1 ⟨v, H1, I1, rv, now⟩ => Calls.spliced_nil ?_)
  obtain ⟨a, ns, kf, ev, hq, pos0, tabs, fin⟩ := now
  subst ev
  obtain rfl : u = Value.ref a := rv
  show wpAny _ _ (evalAll [(do let v ← eval (.Lambda params body scope lpos) X.env; standAt pos; pure v)]) _ _ s1
  refine wpAny_evalAll_cons (wpAny_bind (LamX.lam_make2 I1 TB hcode hT1 hT2 tabs hdef hfree fun f c' pm ctv H2 s2 I2 ext tabs2 hf nf nst hco => wpAny_bind (wpAny_standAt (wpAny_pure (wpAny_evalAll_nil ?_)))))
  obtain ⟨hq2, keys, fin⟩ := fin H2 ext tabs2
  obtain ⟨its, rvs, hl, _⟩ := I2.list hq2
  have ln : its.length = ns.length := by rw [← rvs.length, List.length_map]
  have hh := I2.ok.hd hc
  have codeR : s2.heap.CodeRec (.ref c') (X.env.qual ++ "<lambda>") := by
    obtain ⟨⟨oc, vs, tq, g1, g2, g3⟩, _⟩ := I2.hok c' _ hco
    exact ⟨c', oc, vs, tq, rfl, g1, g2, g3⟩
  have dep := hr.dp
  show wpAny _ _ (call (.builtin "max") [.ref a] [(Str.ofString "key", .ref f)]) _ _ s2
  refine PySem.call_max_walkK (PySem.W.iter_listW (A := X.A.in1) hh hl.isList fun s₂ es W st hfp hw hkp => ?_)
  refine ⟨_, _, _, _, _, _, _, Grown s2, (fun i kv _ => ∃ t, kv = Value.int (kf (ns.getD i 0)) t), (fun i j => decide (kf (ns.getD i 0) > kf (ns.getD j 0))), rfl, W, st, hfp, ?_, ⟨fun z z' g m => ?_, fun i kv z z' r _ => r, fun i vi z o Qt Et hi hP g hst hS now => ?_, fun i j ki kj z Qc Ec g ri rj now => ?_⟩, ?_, fun v z hP g => ?_⟩
  · rw [List.size_toArray, ln]; exact pos0
  · obtain ⟨h', tk, rfl, kp⟩ := g
    refine ⟨z'.heap, z'.toks, ?_, fun b o eb => m.heap b o (fun hb => ?_) (kp b o eb)⟩
    · obtain ⟨hp, gs, dr, tk2, os⟩ := z'
      obtain rfl : gs = s2.gens := m.gens
      obtain rfl : dr = s2.drawn := m.drawn
      obtain rfl : os = s2.os := m.os
      rfl
    · have lt := Heap.lt_size eb
      have sz : s₂.heap.objs.size = s2.heap.objs.size + 1 := by rw [es]; exact Heap.size_push ..
      have either : b = s₂.heap.objs.size ∨ b = s2.heap.objs.size := by simpa using hb
      rcases either with w | w
      · rw [w, sz] at lt
        exact Nat.lt_irrefl _ (Nat.lt_trans (Nat.lt_succ_self _) lt)
      · rw [w] at lt
        exact Nat.lt_irrefl _ lt
  · obtain ⟨il, t, rfl⟩ := ints_val2 rvs i vi hP
    have mem : ns.getD i 0 ∈ ns := by
      rw [List.getD_eq_getElem?_getD, List.getElem?_eq_getElem il]
      exact List.getElem_mem _
    refine wpAny_mono (lam_call L B I2 g hf codeR (show X.A.in1.depth < recursionLimit from by show X.A.depth < _; omega) (fun e => by have := hr.un; show X.A.units + 1 + 3 + 1 < cLine; omega) (keys _ mem)) (fun y z' r => ?_) fun _ _ e => e
    obtain ⟨e1, gr⟩ := r
    have kp := gr.kp
    obtain ⟨h', tk, ez, kp0⟩ := g
    obtain ⟨h2, tk2, ez2, _⟩ := gr
    have gz : Grown s2 z' := by
      subst ez
      subst ez2
      exact ⟨h2, tk2, rfl, fun b o q => kp b o (kp0 b o q)⟩
    refine now y z' gz ⟨?_, ?_⟩ (kp _ _ hS) e1 fun j k' q => q
    · obtain ⟨o1, ho1, r1⟩ := hst.1
      exact ⟨o1, kp _ _ ho1, r1⟩
    · obtain ⟨o1, ho1, r1⟩ := hst.2
      exact ⟨o1, kp _ _ ho1, r1⟩
  · exact (CmpOf.ints_gt (P := fun i kv => ∃ t, kv = Value.int (kf (ns.getD i 0)) t) (fun i => kf (ns.getD i 0)) (fun _ _ q => q)) i j ki kj z Qc Ec ri rj now
  · exact ⟨s₂.heap, s2.toks, by rw [es], hkp⟩
  · obtain ⟨h', tk, rfl, kp⟩ := g
    obtain ⟨il, t, rfl⟩ := ints_val2 rvs _ v hP
    obtain ⟨b1, b2⟩ := argBest_gt (fun i => kf (ns.getD i 0)) (its.toArray.size - 1)
    have hsz : its.toArray.size = its.length := List.size_toArray
    refine ⟨.int _, H2, I2.kept kp, ⟨_, rfl⟩, fin _ ?_ fun y hy => ?_⟩
    · rw [List.getD_eq_getElem?_getD, List.getElem?_eq_getElem il]
      exact List.getElem_mem _
    · obtain ⟨j, hj⟩ := List.getElem?_of_mem hy
      have jl := (List.getElem?_eq_some_iff.mp hj).1
      have := b2 j (by omega)
      rw [show ns.getD j 0 = y by rw [List.getD_eq_getElem?_getD, hj]; rfl] at this
      exact this
/-! ### what such lambdas say -/
/-- a name of the def around, as the lambda sees it -/
structure Sees (X : Cx) (scope : Scope) (x y : Str) (i : Nat) : Prop where
  at_ : X.N[i]? = some y
  vis : Vis X.env.scope y
  out : X.env.kindOf y ≠ some .local
  kind : scope.kind = .function
  kx : scope.names.lookup x = some .local
  ky : scope.names.lookup y = some .free
  clo : ∀ cells : List (Str × Addr), (cloFrom cells scope.names []).lookup y = some ((cells.lookup y).getD 0)
  dx : (x == ("__debug__" : Str)) = false
  dy : (y == ("__debug__" : Str)) = false
  cy : (y == ("__classdict__" : Str)) = false
theorem Sees.load {X : Cx} {scope : Scope} {x y : Str} {i : Nat} (S : Sees X scope x y i) {pins : List (Addr × Obj)} {σ : L2.St} {H : Hp} {A' : Around} {env' : Env} {E' : Value → Shared → Prop} {z : Shared} {v : V} {p : Pos} {Q : Value → Shared → Prop} (I : Inv X pins σ H z) (es : env'.scope = scope) (ec : env'.cells = cloFrom X.env.cells scope.names []) (hv : σ[i]? = some (some v))
    (h : ∀ u, RelV v u → Q u z) : wpAny (model X.prog X.w) A' (eval (.Name y p) env') Q E' z := by
  obtain ⟨m, _, look⟩ := I.loc
  obtain ⟨u, ru, l⟩ := look i y v S.at_ hv S.vis
  rcases l with ⟨l, _⟩ | ⟨_, d, hd, hc⟩
  · exact absurd l S.out
  · refine wpAny_Name (wpAny_loadName_free (c := d) (by rw [es]; exact S.kind) (show env'.scope.names.lookup y = _ by rw [es]; exact S.ky) ?_ hc (h u ru) S.cy) S.dy
    rw [ec, S.clo, hd]
    rfl
theorem Sees.arg {X : Cx} {scope : Scope} {x y : Str} {i : Nat} (S : Sees X scope x y i) {A' : Around} {env' : Env} {E' : Value → Shared → Prop} {z : Shared} {n : Int} {t : Tok} {p : Pos} {Q : Value → Shared → Prop} (es : env'.scope = scope) (ns : z.heap.Ns env'.locals (fun y => ([(x, Value.int n t)] : List (Str × Value)).lookup y))
    (h : Q (.int n t) z) : wpAny (model X.prog X.w) A' (eval (.Name x p) env') Q E' z := by
  refine wpAny_Name (wpAny_loadName_local (by rw [es]; exact S.kind) (show env'.scope.names.lookup x = _ by rw [es]; exact S.kx) ns ?_ h) S.dx
  show (match x == x with | true => some (Value.int n t) | false => none) = some (Value.int n t)
  rw [beq_self_eq_true]
/-- lambda x: y[x], y a dict -/
def kaDict (i : Nat) : L2.St → Hp → Int → Int → Prop := fun σ H n k => ∃ (d : Addr) (kvs : List (Key × V)), σ[i]? = some (some (.ref d)) ∧ H d = some (.dK kvs) ∧ valV kvs (.inl n) = some (.int k)
theorem body_dict {X : Cx} {scope : Scope} {x y : Str} {i : Nat} {p1 p2 p3 : Pos} (S : Sees X scope x y i) (ns : NoSl (.Name x p2)) : KeyBody X scope (.Subscript (.Name y p1) (.Name x p2) p3) x (kaDict i) := by
  intro pins σ H A' env' E' z n k t I un es ec nz ka
  obtain ⟨d, kvs, hd, hH, hv⟩ := ka
  refine subD_of PySem.F.slot_dict_getitem.lookup ns (S.load I es ec hd fun u ru => S.arg es nz ?_)
  obtain rfl : u = Value.ref d := ru
  obtain ⟨_, _, vals, kv, dict⟩ := dk_of I.hok hH
  obtain ⟨w', hw, rw'⟩ := RelO.some_of (v := .int k) (o := valueAt vals (.inl n)) (by rw [← hv]; exact kv.val _)
  refine ⟨dict.typeIs, wpAny_getItem_of (kV_is (k := .inl n) ⟨t, rfl⟩) dict.mapOf hw ⟨rw', _, rfl⟩⟩
/-- lambda x: y[x][1], y a tuple of tuples -/
def kaTup (K : PySem.W.Frag) (i : Nat) : L2.St → Hp → Int → Int → Prop := fun σ H n k => ∃ (a b : Addr) (xs ys : List V), σ[i]? = some (some (.ref a)) ∧ SqT K H a xs ∧ atI xs n = some (.ref b) ∧ SqT K H b ys ∧ atI ys 1 = some (.int k)
theorem tup_item {X : Cx} {pins : List (Addr × Obj)} {σ : L2.St} {H : Hp} {A' : Around} {E' : Value → Shared → Prop} {z : Shared} {a : Addr} {xs : List V} {n : Int} {t : Tok} {v : V} {Q : Value → Shared → Prop} (I : Inv X pins σ H z) (hs : SqT X.K H a xs) (hv : atI xs n = some v)
    (h : ∀ u, RelV v u → Q u z) : z.TypeIs (.ref a) "tuple" ∧ wpAny (model X.prog X.w) A' (getItem (.ref a) (.int n t)) Q E' z := by
  obtain ⟨items, rel, tup, small⟩ := I.tuple hs
  obtain ⟨j, i1, i2, i3, i4, i5⟩ := atI_get hv
  obtain ⟨u, hu, ru⟩ := rel.get i2
  have len := rel.length
  have big := line63
  exact ⟨tup.typeIs, PyProof.Rows.getItem_tuple (j := j) tup (by omega) (by omega) (by rw [List.size_toArray, ← len]; exact i1) (by simpa using hu) (h u ru)⟩
theorem body_tup {X : Cx} {scope : Scope} {x y : Str} {i j : Nat} {p1 p2 p3 p4 p5 : Pos} (S : Sees X scope x y i) (n1 : NoSl (.Name x p2)) (n2 : NoSl (.Constant (.int 1) j p4)) : KeyBody X scope (.Subscript (.Subscript (.Name y p1) (.Name x p2) p3) (.Constant (.int 1) j p4) p5) x (kaTup X.K i) := by
  intro pins σ H A' env' E' z n k t I un es ec nz ka
  obtain ⟨a, b, xs, ys, ha, hx, hb, hy, hk⟩ := ka
  refine subD_of slot_tuple_getitem.lookup n2 (subD_of slot_tuple_getitem.lookup n1 (S.load I es ec ha fun u ru => S.arg es nz ?_))
  obtain rfl : u = Value.ref a := ru
  refine tup_item I hx hb fun u2 ru2 => wpAny_Constant_int ?_
  obtain rfl : u2 = Value.ref b := ru2
  exact tup_item (I.tok _) hy hk fun u3 ru3 => ⟨ru3, _, rfl⟩
theorem free_one {names : List (Str × NameKind)} {cells : List (Str × Addr)} {y : Str} {d : Addr} (h : (names.filter fun p => p.2 == NameKind.free) = [(y, NameKind.free)]) (hd : cells.lookup y = some d) : ∀ p ∈ names, p.2 = .free → ∃ d, cells.lookup p.1 = some d := fun p hp e => by
  have : p ∈ names.filter fun p => p.2 == NameKind.free := List.mem_filter.mpr ⟨hp, by rw [e]; rfl⟩
  rw [h] at this
  rw [List.mem_singleton.mp this]
  exact ⟨d, hd⟩
theorem ExtN.tk {H H' : Hp} (e : LamX.ExtN H H') : TK H H' := fun b xs h => e b _ h (fun _ z => nomatch z)
theorem ExtN.lst {H H' : Hp} {a : Addr} {xs : List V} (e : LamX.ExtN H H') (h : H a = some (.lst xs)) : H' a = some (.lst xs) := e a _ h (fun _ z => nomatch z)
theorem ExtN.dic {H H' : Hp} {a : Addr} {kvs : List (Key × V)} (e : LamX.ExtN H H') (h : H a = some (.dK kvs)) : H' a = some (.dK kvs) := e a _ h (fun _ z => nomatch z)
theorem ExtN.flow {H H' : Hp} {f c : Addr} (e : LamX.ExtN H H') (h : Flow H f c) : Flow H' f c := by
  obtain ⟨ns, i, p, q, r, e1, e2, rest⟩ := h
  exact ⟨ns, i, p, q, r, ExtN.lst e e1, ExtN.lst e e2, rest⟩
theorem ExtN.same {H H' : Hp} (s : Same H H') : LamX.ExtN H H' := LamX.ExtN.of s
theorem tabs_same {T : List (Addr × Str)} {H H' : Hp} (t : LamX.Tabs T H) (s : Same H H') : LamX.Tabs T H' := t.ext s
theorem tabs_lst {T : List (Addr × Str)} {H : Hp} {l : Addr} {xs ys : List V} (t : LamX.Tabs T H) (h : H l = some (.lst xs)) : LamX.Tabs T (upd H l (.lst ys)) := fun p hp => by
  obtain ⟨ps, h1, h2, h3⟩ := t p hp
  have ne : ∀ b o, H b = some o → (∀ zs, o ≠ .lst zs) → upd H l (.lst ys) b = some o := fun b o e n => by
    rw [upd_ne (fun z => by rw [z, h] at e; cases e; exact n _ rfl)]
    exact e
  refine ⟨ps, ne _ _ h1 (fun _ z => nomatch z), h2, fun pos cv hc => ?_⟩
  obtain ⟨c, e1, e2⟩ := h3 pos cv hc
  exact ⟨c, e1, ne _ _ e2 (fun zs z => by unfold LamX.CodeO at z; cases z)⟩
theorem tabs_but {T : List (Addr × Str)} {H H' : Hp} {f c : Addr} (t : LamX.Tabs T H) (F : Flow H f c) (b : But f H H') : LamX.Tabs T H' := fun p hp => by
  obtain ⟨ps, h1, h2, h3⟩ := t p hp
  obtain ⟨ns, i, a, q, r, e1, _⟩ := F
  have ne : ∀ d o, H d = some o → (∀ zs, o ≠ .lst zs) → H' d = some o := fun d o e n => b d o e (fun z => by rw [z, e1] at e; cases e; exact n _ rfl)
  refine ⟨ps, ne _ _ h1 (fun _ z => nomatch z), h2, fun pos cv hc => ?_⟩
  obtain ⟨c, g1, g2⟩ := h3 pos cv hc
  exact ⟨c, g1, ne _ _ g2 (fun zs z => by unfold LamX.CodeO at z; cases z)⟩
/-- a def of which the code object is known -/
theorem ok_code {P : Program} {w : World} {K : PySem.W.Frag} {mg : Str → Option Value} {base : Heap} {x qual : Str} {st : Stmt} {f c : Addr} {fd : FuncData} {N ps : List Str} {k : Nat} {sp : Sp} (F : Fun K x qual st f fd) (hc : fd.code = .ref c) (S : FnScope N ps (defScope st)) (len : ∀ vs H Q E, sp vs H Q E → vs.length = ps.length)
    (hbody : ∀ (A : Around) (outer : List Env) (s : Shared) (H : Hp) (vs : List V) (Q : VK) (E : XK), Room k (A.deeper (envOfC qual (defScope st) s.heap.objs.size f (.ref c))) → sp vs H Q E →
      ∃ t, PSs (cxOf CX0 P w K mg base N qual (defScope st) f (.ref c) A outer s H E).nox (defBody st) t ∧ t { nx := fun _ H' => Q .non H', rt := Q } (start N vs) H) : FnOk P w K mg base CX0 (k + 1) f fd ps sp := by
  obtain ⟨kl, kd, kV, dc, pm, an, cv, ct, ks, rfl, look, cin⟩ := F.ex
  obtain rfl : cv = .ref c := hc
  refine fn_of look cin S len fun A outer s H vs Q E hr now => ?_
  obtain ⟨t, h, q⟩ := hbody A outer s H vs Q E hr now
  exact ⟨t, h.nox, q⟩
/-! ### slices and sums of tuples, whatever they are -/
theorem slA_of {K : PySem.W.Frag} {H : Hp} {a : Addr} {xs : List V} {lo hi : Option Int} {Q : VK} (h : H a = some (.tup xs)) (k : ∀ (p : Addr) (H' : Hp), H' p = some (.tup (cutV xs lo hi)) → Same H H' → Q (.ref p) H') : rSlA K (.ref a) lo hi H Q := by
  refine ⟨a, xs, rfl, SqT.of h, fun z => k a H ?_ (Same.refl _), fun _ p np => k p _ upd_same (same_new np)⟩
  unfold cutV
  rw [z.1, z.2, List.drop_zero, Nat.sub_zero, List.take_length]
  exact h
theorem catA_of {K : PySem.W.Frag} {H : Hp} {a b : Addr} {xs ys : List V} {Q : VK} (h : H a = some (.tup xs)) (g : H b = some (.tup ys)) (l : xs.length + ys.length ≤ 1000) (k : ∀ (p : Addr) (H' : Hp), H' p = some (.tup (xs ++ ys)) → Same H H' → Q (.ref p) H') : rCatA K (.ref a) (.ref b) H Q := by
  refine ⟨a, b, xs, ys, rfl, rfl, SqT.of h, SqT.of g, little l, fun e => k b H ?_ (Same.refl _), fun _ e => k a H ?_ (Same.refl _), fun _ _ p np => k p _ upd_same (same_new np)⟩
  · rw [e]; exact g
  · rw [e, List.append_nil]; exact h
theorem cut_take (xs : List V) (k : Nat) : cutV xs none (some ((k : Nat) : Int)) = xs.take k := by
  unfold cutV
  rw [HT.sIx_nat, HT.sIx_none, List.drop_zero, Nat.sub_zero]
  by_cases h : k ≤ xs.length
  · rw [Nat.min_eq_left h]
  · rw [Nat.min_eq_right (by omega), List.take_length, List.take_of_length_le (by omega)]
theorem cut_part {xs : List V} {lo hi : Option Int} : ∀ x ∈ cutV xs lo hi, x ∈ xs := fun x hx => List.mem_of_mem_drop (List.mem_of_mem_take hx)
theorem cut_nats {ns : List Nat} {lo hi : Option Int} : ∃ ms : List Nat, cutV (ns.map nV) lo hi = ms.map nV ∧ ms.length ≤ ns.length ∧ ∀ x ∈ ms, x ∈ ns := by
  refine ⟨(ns.drop (HT.sIx (ns.map nV).length 0 lo)).take (HT.sIx (ns.map nV).length (ns.map nV).length hi - HT.sIx (ns.map nV).length 0 lo), ?_, ?_, fun x hx => List.mem_of_mem_drop (List.mem_of_mem_take hx)⟩
  · unfold cutV
    rw [List.map_take, List.map_drop]
  · rw [List.length_take, List.length_drop]
    omega
/-! ### ways -/
def WayAt (H : Hp) (t : Addr) (k : Nat) (ns : List Nat) : Prop := ∃ g : Addr, H t = some (.tup [nV k, .ref g]) ∧ H g = some (.tup (ns.map nV))
theorem WayAt.keep {H H' : Hp} {t : Addr} {k : Nat} {ns : List Nat} (h : WayAt H t k ns) (s : TK H H') : WayAt H' t k ns := by
  obtain ⟨g, e1, e2⟩ := h
  exact ⟨g, s _ _ e1, s _ _ e2⟩
def momH (hs : List HR) (k : Nat) : Int := match hs[k]? with | some h => h.mom | none => 0
def trB (bs : List BR) (n : Nat) : Int := match bs[n]? with | some b => (b.th.length : Int) | none => 0
def toB (bs : List BR) (n : Nat) : Nat := match bs[n]? with | some b => b.to | none => 0
def wayEnd (bs : List BR) : Nat → List Nat → Option Nat
  | k, [] => some k
  | k, n :: ns => match bs[n]? with | some b => if b.one = k then wayEnd bs b.to ns else none | none => none
theorem wayEnd_cons {bs : List BR} {n k : Nat} {b : BR} {ns : List Nat} (e : bs[n]? = some b) : wayEnd bs k (n :: ns) = if b.one = k then wayEnd bs b.to ns else none := by
  show (match bs[n]? with | some b => if b.one = k then wayEnd bs b.to ns else none | none => none) = _
  rw [e]
theorem drop_at {α : Type} {ns : List α} {i : Nat} {n : α} (e : ns[i]? = some n) : ns.drop i = n :: ns.drop (i + 1) := by
  obtain ⟨h, z⟩ := List.getElem?_eq_some_iff.mp e
  rw [List.drop_eq_getElem_cons h, z]
def onV : Option Nat → V
  | none => .non
  | some k => nV k
theorem nats_at {ns : List Nat} {i : Nat} {x : V} (h : (ns.map nV)[i]? = some x) : ∃ n : Nat, ns[i]? = some n ∧ x = nV n := by
  rw [List.getElem?_map] at h
  cases e : ns[i]? with
  | none => rw [e] at h; cases h
  | some n => rw [e] at h; exact ⟨n, rfl, (Option.some.inj h).symm⟩
section
variable {P : Program} {w : World} {K : PySem.W.Frag} {mg : Str → Option Value} {base : Heap}
def sp_trays_on (K : PySem.W.Frag) : Sp := fun vs H Q _ => ∃ (r t : Addr) (hs : List HR) (bs : List BR) (k : Nat) (ns : List Nat), vs = [.ref r, .ref t] ∧ RoomAt H r hs bs ∧ WayAt H t k ns ∧ (∀ n ∈ ns, n < bs.length) ∧ ns.length ≤ 400 ∧ ∀ H', Same H H' → Q (.int (ns.map (trB bs)).sum) H'
theorem ok_trays_on {f : Addr} {fd : FuncData} (F : Fun K "trays_on" "trays_on" s_trays_on f fd) (T : Top K mg) : FnOk P w K mg base CX0 1 f fd ["room", "way"] (sp_trays_on K) := by
  refine F.ok sc_trays_on (fun vs H Q E h => ?_) (fun cdv A outer s H vs Q E hr h => ?_)
  · obtain ⟨r, t, hs, bs, k, ns, rfl, _⟩ := h
    rfl
  obtain ⟨r, t, hs, bs, k, ns, rfl, hR, ⟨g, et, eg⟩, hn, ln, q⟩ := h
  obtain ⟨ha, ba, hv, bv, er, eh, eb, alh, alb⟩ := hR.ex
  refine ⟨_, (pss_one (ps_ret (pe_callB (cr_sumK K rfl rfl) (by rfl) T.m_sum (by decide +kernel) (pa_cons (pe_lc (own := [("number", 2)]) (g := gName 2) (tt := tYes) (by rfl) sc_trays_on.nd (pi_tupK K rfl (pe_ix (ix_tupK K rfl) (pv 1) pe_int (fun _ _ => rfl))) (blkOk_by (own := [("number", 2)]) (N := N_trays_on) (sc := defScope s_trays_on) (by decide +kernel)) (fun _ _ _ _ _ => (pg_name (i := 2) sc_trays_on.nd rfl (Or.inl rfl))) (fun _ _ _ _ _ => pts_nil) (fun _ _ _ _ _ => (pe_callB (call_len_seqK K rfl) (by rfl) T.m_len (by decide +kernel) (pa_cons (pe_ix (ix_tupK K rfl) (pe_ix (ix_tupK K rfl) (pe_ix (ix_tupK K rfl) (pv 0) pe_int (fun _ _ => rfl)) (pv 2) (fun _ _ => rfl)) pe_int (fun _ _ => rfl)) pa_nil)))) pa_nil)))), ?_⟩
  refine ⟨_, rfl, t, _, _, _, rfl, rfl, SqT.of et, atI_nat (j := 1) rfl, g, rfl, ⟨_, SqT.of eg⟩, fun D nD => lc_tup (K := K) (a := g) (xs := ns.map nV) (fun i H5 => H5 D = some (.lst (((ns.take i).map (trB bs)).map V.int)) ∧ Same H H5) ⟨upd_same, same_new nD⟩ (fun i H5 _ ⟨_, s5⟩ => SqT.of (s5 _ _ eg)) ?_ ?_⟩
  · rintro i x H5 hx ⟨hD, s5⟩
    obtain ⟨n, en, rfl⟩ := nats_at hx
    have il := (List.getElem?_eq_some_iff.mp en).1
    have nb := hn n (List.mem_of_getElem? en)
    have ebn : bs[n]? = some bs[n] := List.getElem?_eq_getElem nb
    obtain ⟨x, ex, ⟨t2, g2, rfl, e1, e2⟩⟩ := alb.get ebn
    refine ⟨rfl, yes_in ⟨_, rfl, r, _, _, _, rfl, rfl, SqT.of (s5 _ _ er), atI_nat (j := 1) rfl, _, rfl, ba, _, _, _, rfl, rfl, SqT.of (s5 _ _ eb), atI_nat ex, t2, _, _, _, rfl, rfl, SqT.of (s5 _ _ e1), atI_nat (j := 2) rfl, g2, _, rfl, .inr (SqT.of (s5 _ _ e2)), _, hD, ?_, ?_, Same.own s5 nD⟩⟩
    · rw [List.length_map, List.length_map, List.length_take]; exact small1000 (by omega)
    · rw [upd_same, List.take_add_one, en, List.map_append, List.map_append, List.length_map]
      show _ = some (HO.lst (_ ++ [V.int (trB bs n)]))
      unfold trB
      rw [ebn]
  · rintro H5 ⟨hD, s5⟩
    rw [List.length_map, List.take_length] at hD
    exact ⟨D, _, rfl, SqL.of hD, q _ s5⟩
def momW (hs : List HR) (bs : List BR) (k : Nat) (ns : List Nat) : Int := momH hs k + (ns.map fun n => momH hs (toB bs n)).sum
def sp_moments_on (K : PySem.W.Frag) : Sp := fun vs H Q _ => ∃ (r t : Addr) (hs : List HR) (bs : List BR) (k : Nat) (ns : List Nat), vs = [.ref r, .ref t] ∧ RoomAt H r hs bs ∧ (∀ b ∈ bs, b.to < hs.length) ∧ WayAt H t k ns ∧ k < hs.length ∧ (∀ n ∈ ns, n < bs.length) ∧ ns.length ≤ 400 ∧ ∀ H', Same H H' → Q (.int (momW hs bs k ns)) H'
theorem ok_moments_on {f : Addr} {fd : FuncData} (F : Fun K "moments_on" "moments_on" s_moments_on f fd) (T : Top K mg) : FnOk P w K mg base CX0 1 f fd ["room", "way"] (sp_moments_on K) := by
  refine F.ok sc_moments_on (fun vs H Q E h => ?_) (fun cdv A outer s H vs Q E hr h => ?_)
  · obtain ⟨r, t, hs, bs, k, ns, rfl, _⟩ := h
    rfl
  obtain ⟨r, t, hs, bs, k, ns, rfl, hR, hto, ⟨g, et, eg⟩, hk, hn, ln, q⟩ := h
  obtain ⟨ha, ba, hv, bv, er, eh, eb, alh, alb⟩ := hR.ex
  refine ⟨_, (pss_cons (ps_asg (pv 0) (pg_tupK K rfl rfl (pgs_cons (pg_name (i := 2) sc_moments_on.nd rfl (Or.inr rfl)) (pgs_cons (pg_name (i := 3) sc_moments_on.nd rfl (Or.inr rfl)) pgs_nil))))
      (pss_cons (ps_asg (pv 1) (pg_tupK K rfl rfl (pgs_cons (pg_name (i := 4) sc_moments_on.nd rfl (Or.inl rfl)) (pgs_cons (pg_name (i := 5) sc_moments_on.nd rfl (Or.inl rfl)) pgs_nil))))
      (pss_one (ps_ret (pe_op op_add (pe_ix (ix_tupK K rfl) (pe_ix (ix_tupK K rfl) (pv 2) (pv 4) (fun _ _ => rfl)) pe_int (fun _ _ => rfl)) (pe_callB (cr_sumK K rfl rfl) (by rfl) T.m_sum (by decide +kernel) (pa_cons (pe_lc (own := [("number", 6)]) (g := gName 6) (tt := tYes) (by rfl) sc_moments_on.nd (pi_tupK K rfl (pv 5)) (blkOk_by (own := [("number", 6)]) (N := N_moments_on) (sc := defScope s_moments_on) (by decide +kernel)) (fun _ _ _ _ _ => (pg_name (i := 6) sc_moments_on.nd rfl (Or.inl rfl))) (fun _ _ _ _ _ => pts_nil) (fun _ _ _ _ _ => (pe_ix (ix_tupK K rfl) (pe_ix (ix_tupK K rfl) (pv 2) (pe_ix (ix_tupK K rfl) (pe_ix (ix_tupK K rfl) (pv 3) (pv 6) (fun _ _ => rfl)) pe_int (fun _ _ => rfl)) (fun _ _ => rfl)) pe_int (fun _ _ => rfl)))) pa_nil))))))), ?_⟩
  refine ⟨_, rfl, r, _, rfl, SqT.of er, rfl, _, _, rfl, _, _, rfl, rfl, ?_⟩
  refine ⟨_, rfl, t, _, rfl, SqT.of et, rfl, _, _, rfl, _, _, rfl, rfl, ?_⟩
  have ehk : hs[k]? = some hs[k] := List.getElem?_eq_getElem hk
  obtain ⟨x0, ex0, ⟨t0, r0, rfl, e01, e02⟩⟩ := alh.get ehk
  refine ⟨_, rfl, _, rfl, ha, _, _, _, rfl, rfl, SqT.of eh, atI_nat ex0, t0, _, _, _, rfl, rfl, SqT.of e01, atI_nat (j := 1) rfl, ?_⟩
  refine ⟨_, rfl, g, rfl, ⟨_, SqT.of eg⟩, fun D nD => lc_tup (K := K) (a := g) (xs := ns.map nV) (fun i H5 => H5 D = some (.lst (((ns.take i).map fun n => momH hs (toB bs n)).map V.int)) ∧ Same H H5) ⟨upd_same, same_new nD⟩ (fun i H5 _ ⟨_, s5⟩ => SqT.of (s5 _ _ eg)) ?_ ?_⟩
  · rintro i x H5 hx ⟨hD, s5⟩
    obtain ⟨n, en, rfl⟩ := nats_at hx
    have il := (List.getElem?_eq_some_iff.mp en).1
    have nb := hn n (List.mem_of_getElem? en)
    have ebn : bs[n]? = some bs[n] := List.getElem?_eq_getElem nb
    obtain ⟨x, ex, ⟨t2, g2, rfl, e1, e2⟩⟩ := alb.get ebn
    have tb := hto _ (List.getElem_mem nb)
    have eht : hs[bs[n].to]? = some hs[bs[n].to] := List.getElem?_eq_getElem tb
    obtain ⟨y, ey, ⟨t3, r3, rfl, e31, e32⟩⟩ := alh.get eht
    refine ⟨rfl, yes_in ⟨_, rfl, _, rfl, _, rfl, ba, _, _, _, rfl, rfl, SqT.of (s5 _ _ eb), atI_nat ex, t2, _, _, _, rfl, rfl, SqT.of (s5 _ _ e1), atI_nat (j := 1) rfl, ha, _, _, _, rfl, rfl, SqT.of (s5 _ _ eh), atI_nat ey, t3, _, _, _, rfl, rfl, SqT.of (s5 _ _ e31), atI_nat (j := 1) rfl, _, hD, ?_, ?_, Same.own s5 nD⟩⟩
    · rw [List.length_map, List.length_map, List.length_take]; exact small1000 (by omega)
    · rw [upd_same, List.take_add_one, en, List.map_append, List.map_append]
      show _ = some (HO.lst (_ ++ [V.int (momH hs (toB bs n))]))
      unfold momH toB
      rw [ebn]
      dsimp only
      rw [eht]
  · rintro H5 ⟨hD, s5⟩
    rw [List.length_map, List.take_length] at hD
    refine ⟨D, _, rfl, SqL.of hD, _, _, rfl, rfl, ?_⟩
    have := q _ s5
    unfold momW at this
    rw [show momH hs k = hs[k].mom by unfold momH; rw [ehk]] at this
    exact this
end

/-! ### the least ways: mathematics -/
abbrev Co := Int × Int
def coLe (a b : Co) : Prop := a.1 < b.1 ∨ (a.1 = b.1 ∧ b.2 ≤ a.2)
def coLt (a b : Co) : Prop := a.1 < b.1 ∨ (a.1 = b.1 ∧ b.2 < a.2)
instance {a b : Co} : Decidable (coLt a b) := by unfold coLt; infer_instance
theorem coLe.refl (a : Co) : coLe a a := .inr ⟨rfl, Int.le_refl _⟩
theorem coLe.trans {a b c : Co} (h : coLe a b) (g : coLe b c) : coLe a c := by
  unfold coLe at *
  omega
theorem coLe.antisymm {a b : Co} (h : coLe a b) (g : coLe b a) : a = b := by
  unfold coLe at *
  have : a.1 = b.1 ∧ a.2 = b.2 := by omega
  exact Prod.ext this.1 this.2
theorem coLe_of_not {a b : Co} (h : ¬ coLt a b) : coLe b a := by
  unfold coLe coLt at *
  omega
theorem coLt.le {a b : Co} (h : coLt a b) : coLe a b := by
  unfold coLe coLt at *
  omega
theorem coLt.not_le {a b : Co} (h : coLt a b) : ¬ coLe b a := by
  unfold coLe coLt at *
  omega
def coAdd (hs : List HR) (c : Co) (b : BR) : Co := (c.1 + (b.th.length : Int), c.2 + momH hs b.to)
theorem coAdd_mono {hs : List HR} {c d : Co} {b : BR} (h : coLe c d) : coLe (coAdd hs c b) (coAdd hs d b) := by
  unfold coLe coAdd at *
  dsimp only
  omega
def wayCo (hs : List HR) (bs : List BR) (k : Nat) (ns : List Nat) : Co := ((ns.map (trB bs)).sum, momW hs bs k ns)
theorem wayEnd_append {bs : List BR} : ∀ {k : Nat} {ns ms : List Nat}, wayEnd bs k (ns ++ ms) = (wayEnd bs k ns).bind fun e => wayEnd bs e ms
  | k, [], ms => rfl
  | k, n :: ns, ms => by
    show (match bs[n]? with | some b => if b.one = k then wayEnd bs b.to (ns ++ ms) else none | none => none) = Option.bind (match bs[n]? with | some b => if b.one = k then wayEnd bs b.to ns else none | none => none) _
    cases bs[n]? with
    | none => rfl
    | some b =>
      dsimp only
      by_cases h : b.one = k
      · rw [if_pos h, if_pos h, wayEnd_append]
      · rw [if_neg h, if_neg h]; rfl
theorem wayEnd_snoc {bs : List BR} {k e n : Nat} {ns : List Nat} {b : BR} (h : wayEnd bs k ns = some e) (eb : bs[n]? = some b) (ho : b.one = e) : wayEnd bs k (ns ++ [n]) = some b.to := by
  rw [wayEnd_append, h]
  show wayEnd bs e [n] = _
  rw [wayEnd_cons eb, if_pos ho]
  rfl
theorem wayEnd_unsnoc {bs : List BR} {k e n : Nat} {ns : List Nat} (h : wayEnd bs k (ns ++ [n]) = some e) : ∃ b, bs[n]? = some b ∧ wayEnd bs k ns = some b.one ∧ b.to = e := by
  rw [wayEnd_append] at h
  cases hk : wayEnd bs k ns with
  | none => rw [hk] at h; cases h
  | some d =>
    rw [hk] at h
    have h : wayEnd bs d [n] = some e := h
    cases eb : bs[n]? with
    | none =>
      have : wayEnd bs d [n] = none := by
        show (match bs[n]? with | some b => if b.one = d then wayEnd bs b.to [] else none | none => none) = none
        rw [eb]
      rw [this] at h; cases h
    | some b =>
      rw [wayEnd_cons eb] at h
      by_cases z : b.one = d
      · rw [if_pos z] at h
        exact ⟨b, rfl, by rw [z], Option.some.inj h⟩
      · rw [if_neg z] at h; cases h
theorem wayCo_snoc {hs : List HR} {bs : List BR} {k n : Nat} {ns : List Nat} {b : BR} (eb : bs[n]? = some b) : wayCo hs bs k (ns ++ [n]) = coAdd hs (wayCo hs bs k ns) b := by
  unfold wayCo coAdd momW
  rw [List.map_append, List.map_append, List.sum_append, List.sum_append]
  have h1 : trB bs n = (b.th.length : Int) := by unfold trB; rw [eb]
  have h2 : toB bs n = b.to := by unfold toB; rw [eb]
  simp only [List.map_cons, List.map_nil, List.sum_cons, List.sum_nil]
  rw [h1, h2]
  refine Prod.ext ?_ ?_
  · show _ + (_ + 0) = _ + _
    omega
  · show _ + (_ + (_ + 0)) = _ + _ + _
    omega
/-- a way without trays goes up in rank -/
theorem way_rank {bs : List BR} {rk : Nat → Int} (hrk : ∀ b ∈ bs, b.th = [] → rk b.one < rk b.to) : ∀ {ns : List Nat} {k e : Nat}, wayEnd bs k ns = some e → 0 ≤ (ns.map (trB bs)).sum ∧ ((ns.map (trB bs)).sum = 0 → (ns = [] ∧ e = k) ∨ rk k < rk e)
  | [], k, e, h => ⟨Int.le_refl _, fun _ => .inl ⟨rfl, (Option.some.inj h).symm⟩⟩
  | n :: ns, k, e, h => by
    cases eb : bs[n]? with
    | none =>
      have : wayEnd bs k (n :: ns) = none := by
        show (match bs[n]? with | some b => if b.one = k then wayEnd bs b.to ns else none | none => none) = none
        rw [eb]
      rw [this] at h; cases h
    | some b =>
      rw [wayEnd_cons eb] at h
      by_cases z : b.one = k
      · rw [if_pos z] at h
        have ih := way_rank hrk h
        have h1 : trB bs n = (b.th.length : Int) := by unfold trB; rw [eb]
        rw [List.map_cons, List.sum_cons, h1]
        refine ⟨by omega, fun t => .inr ?_⟩
        have bt : b.th = [] := List.length_eq_zero_iff.mp (by omega)
        have r1 := hrk b (List.mem_of_getElem? eb) bt
        rw [z] at r1
        rcases ih.2 (by omega) with ⟨_, r2⟩ | r2
        · rw [r2]; exact r1
        · omega
      · rw [if_neg z] at h; cases h
theorem way_closed {bs : List BR} {rk : Nat → Int} (hrk : ∀ b ∈ bs, b.th = [] → rk b.one < rk b.to) {ns : List Nat} {k : Nat} (h : wayEnd bs k ns = some k) (hn : ns ≠ []) : 1 ≤ (ns.map (trB bs)).sum := by
  obtain ⟨h0, h1⟩ := way_rank hrk h
  by_cases z : (ns.map (trB bs)).sum = 0
  · rcases h1 z with ⟨e, _⟩ | e
    · exact absurd e hn
    · omega
  · omega
theorem nodup_len : ∀ (n : Nat) (l : List Nat), l.Nodup → (∀ x ∈ l, x < n) → l.length ≤ n
  | 0, l, _, h => by
    cases l with
    | nil => exact Nat.le_refl _
    | cons a l => exact absurd (h a (List.mem_cons_self ..)) (Nat.not_lt_zero _)
  | n + 1, l, nd, h => by
    by_cases m : n ∈ l
    · have ih := nodup_len n (l.erase n) (nd.erase n) fun x hx => by
        have hx := (List.Nodup.mem_erase_iff nd).mp hx
        have := h x hx.2
        have := hx.1
        omega
      rw [List.length_erase_of_mem m] at ih
      omega
    · have ih := nodup_len n l nd fun x hx => by
        have h1 := h x hx
        have : x ≠ n := fun z => m (z ▸ hx)
        omega
      omega
theorem pigeon {n : Nat} {g : Nat → Nat} {m : Nat} (h : ∀ i, i < m → g i < n) (hm : n < m) : ∃ i j, i < j ∧ j < m ∧ g i = g j := by
  refine Classical.byContradiction fun no => ?_
  have nd : ((List.range m).map g).Nodup := by
    unfold List.Nodup
    rw [List.pairwise_map]
    exact List.Pairwise.imp_of_mem (fun ha hb lt e => no ⟨_, _, lt, List.mem_range.mp hb, e⟩) List.pairwise_lt_range
  have := nodup_len n _ nd fun x hx => by
    obtain ⟨i, hi, rfl⟩ := List.mem_map.mp hx
    exact h i (List.mem_range.mp hi)
  rw [List.length_map, List.length_range] at this
  omega
theorem way_lt {bs : List BR} {n : Nat} (hto : ∀ b ∈ bs, b.to < n) : ∀ {ns : List Nat} {k e : Nat}, k < n → wayEnd bs k ns = some e → e < n
  | [], k, e, hk, h => by cases h; exact hk
  | m :: ns, k, e, hk, h => by
    cases eb : bs[m]? with
    | none =>
      have : wayEnd bs k (m :: ns) = none := by
        show (match bs[m]? with | some b => if b.one = k then wayEnd bs b.to ns else none | none => none) = none
        rw [eb]
      rw [this] at h; cases h
    | some b =>
      rw [wayEnd_cons eb] at h
      by_cases z : b.one = k
      · rw [if_pos z] at h; exact way_lt hto (hto b (List.mem_of_getElem? eb)) h
      · rw [if_neg z] at h; cases h
/-- each way has one with few belts that is no worse -/
theorem way_short {hs : List HR} {bs : List BR} {rk : Nat → Int} {n one : Nat} (hrk : ∀ b ∈ bs, b.th = [] → rk b.one < rk b.to) (hto : ∀ b ∈ bs, b.to < n) (ho : one < n) : ∀ (m : Nat) (ns : List Nat) (k : Nat), ns.length ≤ m → wayEnd bs one ns = some k → ∃ ms : List Nat, ms.length ≤ n ∧ wayEnd bs one ms = some k ∧ coLe (wayCo hs bs one ms) (wayCo hs bs one ns)
  | 0, ns, k, hm, h => ⟨ns, by omega, h, coLe.refl _⟩
  | m + 1, ns, k, hm, h => by
    by_cases short : ns.length ≤ n
    · exact ⟨ns, short, h, coLe.refl _⟩
    have ends : ∀ i, ∃ e, wayEnd bs one (ns.take i) = some e ∧ wayEnd bs e (ns.drop i) = some k := fun i => by
      have := h
      rw [← List.take_append_drop i ns, wayEnd_append] at this
      cases z : wayEnd bs one (ns.take i) with
      | none => rw [z] at this; cases this
      | some e => rw [z] at this; exact ⟨e, rfl, this⟩
    obtain ⟨i, j, ij, jl, e⟩ := pigeon (n := n) (g := fun i => (wayEnd bs one (ns.take i)).getD 0) (m := ns.length) (fun i _ => by
      obtain ⟨e, h1, _⟩ := ends i
      rw [h1]
      exact way_lt hto ho h1) (by omega)
    obtain ⟨e1, a1, a2⟩ := ends i
    obtain ⟨e2, b1, b2⟩ := ends j
    rw [a1, b1] at e
    have e : e1 = e2 := e
    subst e
    -- the ring between
    have part : ns.take j = ns.take i ++ (ns.drop i).take (j - i) := by
      rw [show j = i + (j - i) by omega, List.take_add, show i + (j - i) - i = j - i by omega]
    have ring : wayEnd bs e1 ((ns.drop i).take (j - i)) = some e1 := by
      rw [part, wayEnd_append, a1] at b1
      exact b1
    have rne : (ns.drop i).take (j - i) ≠ [] := fun z => by
      have := congrArg List.length z
      rw [List.length_take, List.length_drop] at this
      have : min (j - i) (ns.length - i) = 0 := this
      omega
    have r1 := way_closed hrk ring rne
    have new : wayEnd bs one (ns.take i ++ ns.drop j) = some k := by
      rw [wayEnd_append, a1]
      exact b2
    obtain ⟨ms, l1, l2, l3⟩ := way_short hrk hto ho m (ns.take i ++ ns.drop j) k (by rw [List.length_append, List.length_take, List.length_drop]; omega) new
    refine ⟨ms, l1, l2, l3.trans (.inl ?_)⟩
    show ((ns.take i ++ ns.drop j).map (trB bs)).sum < (ns.map (trB bs)).sum
    have : (ns.map (trB bs)).sum = ((ns.take i).map (trB bs)).sum + (((ns.drop i).take (j - i)).map (trB bs)).sum + ((ns.drop j).map (trB bs)).sum := by
      rw [← List.sum_append, ← List.map_append, ← part, ← List.sum_append, ← List.map_append, List.take_append_drop]
    rw [this, List.map_append, List.sum_append]
    omega
/-- one belt looked at -/
def relax (hs : List HR) (cf : Nat → Option Co) (b : BR) : Nat → Option Co := match cf b.one with
  | none => cf
  | some c => match cf b.to with
    | none => fun k => if k = b.to then some (coAdd hs c b) else cf k
    | some d => if coLt (coAdd hs c b) d then fun k => if k = b.to then some (coAdd hs c b) else cf k else cf
theorem relax_none {hs : List HR} {cf : Nat → Option Co} {b : BR} (h : cf b.one = none) : relax hs cf b = cf := by unfold relax; rw [h]
theorem relax_new {hs : List HR} {cf : Nat → Option Co} {b : BR} {c : Co} (h : cf b.one = some c) (g : cf b.to = none) : relax hs cf b = fun k => if k = b.to then some (coAdd hs c b) else cf k := by unfold relax; rw [h]; dsimp only; rw [g]
theorem relax_lt {hs : List HR} {cf : Nat → Option Co} {b : BR} {c d : Co} (h : cf b.one = some c) (g : cf b.to = some d) (l : coLt (coAdd hs c b) d) : relax hs cf b = fun k => if k = b.to then some (coAdd hs c b) else cf k := by unfold relax; rw [h]; dsimp only; rw [g]; dsimp only; rw [if_pos l]
theorem relax_ge {hs : List HR} {cf : Nat → Option Co} {b : BR} {c d : Co} (h : cf b.one = some c) (g : cf b.to = some d) (l : ¬ coLt (coAdd hs c b) d) : relax hs cf b = cf := by unfold relax; rw [h]; dsimp only; rw [g]; dsimp only; rw [if_neg l]
/-- what is set, or nothing -/
theorem relax_cases (hs : List HR) (cf : Nat → Option Co) (b : BR) : (relax hs cf b = cf ∧ ∀ c, cf b.one = some c → ∃ d, cf b.to = some d ∧ coLe d (coAdd hs c b)) ∨
    ∃ c, cf b.one = some c ∧ (relax hs cf b = fun k => if k = b.to then some (coAdd hs c b) else cf k) ∧ ∀ d, cf b.to = some d → coLt (coAdd hs c b) d := by
  cases h : cf b.one with
  | none => exact .inl ⟨relax_none h, fun c z => nomatch z⟩
  | some c =>
    cases g : cf b.to with
    | none => exact .inr ⟨c, rfl, relax_new h g, fun d z => nomatch z⟩
    | some d =>
      by_cases l : coLt (coAdd hs c b) d
      · exact .inr ⟨c, rfl, relax_lt h g l, fun d' z => by cases z; exact l⟩
      · exact .inl ⟨relax_ge h g l, fun c' z => ⟨d, rfl, by cases z; exact coLe_of_not l⟩⟩
theorem relax_mono {hs : List HR} {cf : Nat → Option Co} {b : BR} {k : Nat} {c : Co} (h : cf k = some c) : ∃ d, relax hs cf b k = some d ∧ coLe d c := by
  rcases relax_cases hs cf b with ⟨e, _⟩ | ⟨c', h1, e, l⟩
  · rw [e]; exact ⟨c, h, coLe.refl _⟩
  · rw [e]
    by_cases z : k = b.to
    · exact ⟨_, if_pos z, (l c (z ▸ h)).le⟩
    · exact ⟨c, (if_neg z).trans h, coLe.refl _⟩
theorem relax_done {hs : List HR} {cf : Nat → Option Co} {b : BR} {c : Co} (h : cf b.one = some c) : ∃ d, relax hs cf b b.to = some d ∧ coLe d (coAdd hs c b) := by
  rcases relax_cases hs cf b with ⟨e, g⟩ | ⟨c', h1, e, l⟩
  · rw [e]; exact g c h
  · rw [h] at h1
    cases h1
    rw [e]
    exact ⟨_, if_pos rfl, coLe.refl _⟩
abbrev roundF (hs : List HR) (bs : List BR) (cf : Nat → Option Co) : Nat → Option Co := bs.foldl (relax hs) cf
theorem fold_mono {hs : List HR} {k : Nat} : ∀ {l : List BR} {cf : Nat → Option Co} {c : Co}, cf k = some c → ∃ d, l.foldl (relax hs) cf k = some d ∧ coLe d c
  | [], cf, c, h => ⟨c, h, coLe.refl _⟩
  | b :: l, cf, c, h => by
    obtain ⟨d, h1, h2⟩ := relax_mono (hs := hs) (b := b) h
    obtain ⟨e, h3, h4⟩ := fold_mono (l := l) h1
    exact ⟨e, h3, h4.trans h2⟩
theorem fold_done {hs : List HR} {b : BR} : ∀ {l : List BR} {cf : Nat → Option Co} {c : Co}, b ∈ l → cf b.one = some c → ∃ d, l.foldl (relax hs) cf b.to = some d ∧ coLe d (coAdd hs c b)
  | a :: l, cf, c, hb, h => by
    rcases List.mem_cons.mp hb with rfl | hb
    · obtain ⟨d, h1, h2⟩ := relax_done (hs := hs) h
      obtain ⟨e, h3, h4⟩ := fold_mono (l := l) h1
      exact ⟨e, h3, h4.trans h2⟩
    · obtain ⟨d, h1, h2⟩ := relax_mono (hs := hs) (b := a) h
      obtain ⟨e, h3, h4⟩ := fold_done hb h1
      exact ⟨e, h3, h4.trans (coAdd_mono h2)⟩
def Snd (hs : List HR) (bs : List BR) (one : Nat) (cf : Nat → Option Co) : Prop := ∀ k c, cf k = some c → ∃ ns, wayEnd bs one ns = some k ∧ wayCo hs bs one ns = c
def Cpl (hs : List HR) (bs : List BR) (one : Nat) (cf : Nat → Option Co) (i : Nat) : Prop := ∀ ns k, ns.length ≤ i → wayEnd bs one ns = some k → ∃ c, cf k = some c ∧ coLe c (wayCo hs bs one ns)
def Stab (hs : List HR) (bs : List BR) (cf : Nat → Option Co) : Prop := ∀ b ∈ bs, ∀ c, cf b.one = some c → ∃ d, cf b.to = some d ∧ coLe d (coAdd hs c b)
theorem Snd.relax {hs : List HR} {bs : List BR} {one : Nat} {cf : Nat → Option Co} {b : BR} (s : Snd hs bs one cf) (hb : b ∈ bs) : Snd hs bs one (Mine.relax hs cf b) := fun k c h => by
  rcases relax_cases hs cf b with ⟨e, _⟩ | ⟨c', h1, e, l⟩
  · rw [e] at h; exact s k c h
  · rw [e] at h
    by_cases z : k = b.to
    · have h : some (coAdd hs c' b) = some c := by rw [← h]; exact (if_pos z).symm
      cases h
      obtain ⟨ns, w1, w2⟩ := s b.one c' h1
      obtain ⟨n, hn⟩ := List.getElem?_of_mem hb
      exact ⟨ns ++ [n], by rw [z]; exact wayEnd_snoc w1 hn rfl, by rw [wayCo_snoc hn, w2]⟩
    · exact s k c (by rw [← h]; exact (if_neg z).symm)
theorem Snd.fold {hs : List HR} {bs : List BR} {one : Nat} : ∀ {l : List BR} {cf : Nat → Option Co}, (∀ b ∈ l, b ∈ bs) → Snd hs bs one cf → Snd hs bs one (l.foldl (Mine.relax hs) cf)
  | [], _, _, s => s
  | b :: l, _, h, s => Snd.fold (l := l) (fun x hx => h x (List.mem_cons_of_mem _ hx)) (s.relax (h b (List.mem_cons_self ..)))
theorem Cpl.round {hs : List HR} {bs : List BR} {one : Nat} {cf : Nat → Option Co} {i : Nat} (c : Cpl hs bs one cf i) : Cpl hs bs one (roundF hs bs cf) (i + 1) := fun ns k hl h => by
  rcases List.eq_nil_or_concat ns with rfl | ⟨ms, n, rfl⟩
  · obtain ⟨d, h1, h2⟩ := c [] k (Nat.zero_le _) h
    obtain ⟨e, h3, h4⟩ := fold_mono (hs := hs) (l := bs) h1
    exact ⟨e, h3, h4.trans h2⟩
  · rw [List.concat_eq_append] at h hl ⊢
    obtain ⟨b, eb, h1, rfl⟩ := wayEnd_unsnoc h
    rw [List.length_append] at hl
    obtain ⟨d, h2, h3⟩ := c ms b.one (by have : ms.length + 1 ≤ i + 1 := hl; omega) h1
    obtain ⟨e, h4, h5⟩ := fold_done (hs := hs) (List.mem_of_getElem? eb) h2
    exact ⟨e, h4, by rw [wayCo_snoc eb]; exact h5.trans (coAdd_mono h3)⟩
def cf0 (hs : List HR) (one : Nat) : Nat → Option Co := fun k => if k = one then some (0, momH hs one) else none
def cfI (hs : List HR) (bs : List BR) (one : Nat) : Nat → (Nat → Option Co)
  | 0 => cf0 hs one
  | i + 1 => roundF hs bs (cfI hs bs one i)
theorem wayCo_nil {hs : List HR} {bs : List BR} {one : Nat} : wayCo hs bs one [] = (0, momH hs one) := by
  refine Prod.ext rfl ?_
  show momH hs one + 0 = momH hs one
  omega
theorem cfI_snd {hs : List HR} {bs : List BR} {one : Nat} : ∀ i, Snd hs bs one (cfI hs bs one i)
  | 0 => fun k c h => by
    by_cases z : k = one
    · have h : some ((0 : Int), momH hs one) = some c := by rw [← h]; exact (if_pos z).symm
      exact ⟨[], by rw [z]; rfl, by rw [wayCo_nil]; exact Option.some.inj h⟩
    · have h : none = some c := by rw [← h]; exact (if_neg z).symm
      cases h
  | i + 1 => Snd.fold (fun _ h => h) (cfI_snd i)
theorem cfI_cpl {hs : List HR} {bs : List BR} {one : Nat} : ∀ i, Cpl hs bs one (cfI hs bs one i) i
  | 0 => fun ns k hl h => by
    obtain rfl : ns = [] := List.length_eq_zero_iff.mp (by omega)
    obtain rfl : one = k := Option.some.inj h
    exact ⟨(0, momH hs one), if_pos rfl, by rw [wayCo_nil]; exact coLe.refl _⟩
  | i + 1 => (cfI_cpl i).round
theorem stab_relax {hs : List HR} {bs : List BR} {cf : Nat → Option Co} {b : BR} (s : Stab hs bs cf) (hb : b ∈ bs) : relax hs cf b = cf := by
  rcases relax_cases hs cf b with ⟨e, _⟩ | ⟨c', h1, e, l⟩
  · exact e
  · obtain ⟨d, h2, h3⟩ := s b hb c' h1
    exact absurd h3 (l d h2).not_le
theorem stab_fold {hs : List HR} {bs : List BR} {cf : Nat → Option Co} (s : Stab hs bs cf) : ∀ {l : List BR}, (∀ b ∈ l, b ∈ bs) → l.foldl (relax hs) cf = cf
  | [], _ => rfl
  | b :: l, h => by
    rw [List.foldl_cons, stab_relax s (h b (List.mem_cons_self ..))]
    exact stab_fold s fun x hx => h x (List.mem_cons_of_mem _ hx)
theorem stab_at {hs : List HR} {bs : List BR} {rk : Nat → Int} {n one : Nat} (hrk : ∀ b ∈ bs, b.th = [] → rk b.one < rk b.to) (hto : ∀ b ∈ bs, b.to < n) (ho : one < n) {i : Nat} (hi : n ≤ i) : Stab hs bs (cfI hs bs one i) := fun b hb c h => by
  obtain ⟨ns, w1, w2⟩ := cfI_snd i b.one c h
  obtain ⟨m, hm⟩ := List.getElem?_of_mem hb
  obtain ⟨ms, l1, l2, l3⟩ := way_short (hs := hs) hrk hto ho _ (ns ++ [m]) b.to (Nat.le_refl _) (wayEnd_snoc w1 hm rfl)
  obtain ⟨d, h1, h2⟩ := cfI_cpl (hs := hs) i ms b.to (by omega) l2
  refine ⟨d, h1, h2.trans ?_⟩
  rw [wayCo_snoc hm, w2] at l3
  exact l3
theorem cfI_stay {hs : List HR} {bs : List BR} {one i : Nat} (s : Stab hs bs (cfI hs bs one i)) : ∀ j, cfI hs bs one (i + j) = cfI hs bs one i
  | 0 => rfl
  | j + 1 => by
    show roundF hs bs (cfI hs bs one (i + j)) = _
    rw [cfI_stay s j]
    exact stab_fold s fun _ h => h
/-- the least ways of all, by rounds -/
abbrev best (hs : List HR) (bs : List BR) (one : Nat) : Nat → Option Co := cfI hs bs one hs.length
theorem cfI_best {hs : List HR} {bs : List BR} {rk : Nat → Int} {one i : Nat} (hrk : ∀ b ∈ bs, b.th = [] → rk b.one < rk b.to) (hto : ∀ b ∈ bs, b.to < hs.length) (ho : one < hs.length) (s : Stab hs bs (cfI hs bs one i)) : cfI hs bs one i = best hs bs one := by
  by_cases h : i ≤ hs.length
  · show cfI hs bs one i = cfI hs bs one hs.length
    have := cfI_stay s (hs.length - i)
    rw [show i + (hs.length - i) = hs.length by omega] at this
    exact this.symm
  · have := cfI_stay (hs := hs) (stab_at (hs := hs) (n := hs.length) hrk hto ho (Nat.le_refl _)) (i - hs.length)
    rw [show hs.length + (i - hs.length) = i by omega] at this
    exact this
/-- the last belts: from each hand that is come to one leads on to it -/
structure LaOk (hs : List HR) (bs : List BR) (one : Nat) (cf : Nat → Option Co) (la : Nat → Option Nat) : Prop where
  go : ∀ k n, la k = some n → ∃ b c d, bs[n]? = some b ∧ b.to = k ∧ cf b.one = some c ∧ cf k = some d ∧ coLe (coAdd hs c b) d
  fst : la one = none
  has : ∀ k c, cf k = some c → k = one ∨ (la k).isSome = true
theorem cf_one {hs : List HR} {bs : List BR} {rk : Nat → Int} {one : Nat} {cf : Nat → Option Co} (hrk : ∀ b ∈ bs, b.th = [] → rk b.one < rk b.to) (s : Snd hs bs one cf) (h1 : cf one = some (0, momH hs one)) {b : BR} (hb : b ∈ bs) {c : Co} (h : cf b.one = some c) (e : b.to = one) : ¬ coLt (coAdd hs c b) (0, momH hs one) := by
  obtain ⟨ns, w1, w2⟩ := s _ _ h
  obtain ⟨m, hm⟩ := List.getElem?_of_mem hb
  have w := wayEnd_snoc w1 hm rfl
  rw [e] at w
  have t := way_closed hrk w (by simp)
  have e2 := wayCo_snoc (hs := hs) (k := one) (ns := ns) hm
  rw [w2] at e2
  have e3 : (coAdd hs c b).1 = ((ns ++ [m]).map (trB bs)).sum := by rw [← e2]; rfl
  unfold coLt
  rw [e3]
  show ¬ (_ < (0 : Int) ∨ (_ = (0 : Int) ∧ _))
  omega
/-- along the last belts something falls -/
def redLt (rk : Nat → Int) (cf : Nat → Option Co) (j k : Nat) : Prop := ∃ c d, cf j = some c ∧ cf k = some d ∧ (c.1 < d.1 ∨ (c.1 = d.1 ∧ -c.2 + 31 * rk j < -d.2 + 31 * rk k))
theorem redLt_irr {rk : Nat → Int} {cf : Nat → Option Co} {k : Nat} : ¬ redLt rk cf k k := fun ⟨c, d, h1, h2, h3⟩ => by
  rw [h1] at h2
  cases h2
  omega
theorem redLt_tr {rk : Nat → Int} {cf : Nat → Option Co} {i j k : Nat} (a : redLt rk cf i j) (b : redLt rk cf j k) : redLt rk cf i k := by
  obtain ⟨c, d, h1, h2, h3⟩ := a
  obtain ⟨d', e, h4, h5, h6⟩ := b
  rw [h2] at h4
  cases h4
  exact ⟨c, e, h1, h5, by omega⟩
open Classical in
noncomputable def meas (rk : Nat → Int) (cf : Nat → Option Co) (n k : Nat) : Nat := ((List.range n).filter fun j => decide (redLt rk cf j k)).length
theorem filter_lt {α : Type} {p q : α → Bool} (h : ∀ x, p x = true → q x = true) {x : α} (qx : q x = true) (px : p x = false) : ∀ {l : List α}, x ∈ l → (l.filter p).length < (l.filter q).length
  | a :: l, hx => by
    have le : ∀ l : List α, (l.filter p).length ≤ (l.filter q).length := fun l => by
      induction l with
      | nil => exact Nat.le_refl _
      | cons a l ih =>
        rw [List.filter_cons, List.filter_cons]
        by_cases pa : p a = true
        · rw [if_pos pa, if_pos (h a pa), List.length_cons, List.length_cons]; omega
        · rw [if_neg pa]
          by_cases qa : q a = true
          · rw [if_pos qa, List.length_cons]; omega
          · rw [if_neg qa]; exact ih
    rw [List.filter_cons, List.filter_cons]
    rcases List.mem_cons.mp hx with e | hx
    · subst e
      rw [if_neg (by rw [px]; exact Bool.false_ne_true), if_pos qx, List.length_cons]
      have := le l
      omega
    · have ih := filter_lt h qx px hx
      by_cases pa : p a = true
      · rw [if_pos pa, if_pos (h a pa), List.length_cons, List.length_cons]; omega
      · rw [if_neg pa]
        by_cases qa : q a = true
        · rw [if_pos qa, List.length_cons]; omega
        · rw [if_neg qa]; exact ih
open Classical in
theorem meas_lt {rk : Nat → Int} {cf : Nat → Option Co} {n j k : Nat} (hj : j < n) (h : redLt rk cf j k) : meas rk cf n j < meas rk cf n k := by
  unfold meas
  exact filter_lt (p := fun x => decide (redLt rk cf x j)) (q := fun x => decide (redLt rk cf x k)) (fun x hx => decide_eq_true (redLt_tr (of_decide_eq_true hx) h)) (decide_eq_true h) (decide_eq_false redLt_irr) (List.mem_range.mpr hj)
theorem meas_le {rk : Nat → Int} {cf : Nat → Option Co} {n k : Nat} : meas rk cf n k ≤ n := by
  unfold meas
  refine Nat.le_trans (List.length_filter_le ..) ?_
  rw [List.length_range]
  exact Nat.le_refl _
theorem last_lt {hs : List HR} {bs : List BR} {rk : Nat → Int} {cf : Nat → Option Co} {b : BR} {k : Nat} {c d : Co} (hrk : ∀ b ∈ bs, b.th = [] → rk b.one < rk b.to) (mom : ∀ k, momH hs k ≤ 30) (hb : b ∈ bs) (e : b.to = k) (h1 : cf b.one = some c) (h2 : cf k = some d) (l : coLe (coAdd hs c b) d) : redLt rk cf b.one k := by
  refine ⟨c, d, h1, h2, ?_⟩
  have m := mom b.to
  unfold coLe coAdd at l
  dsimp only at l
  by_cases z : b.th = []
  · have r := hrk b hb z
    rw [z] at l
    rw [e] at r l m
    have l : c.1 + (0 : Int) < d.1 ∨ c.1 + (0 : Int) = d.1 ∧ d.2 ≤ c.2 + momH hs k := l
    omega
  · have : 0 < b.th.length := List.length_pos_iff.mpr z
    omega
def CoAt (H : Hp) (v : V) (c : Co) : Prop := ∃ t : Addr, v = .ref t ∧ H t = some (.tup [.int c.1, .int (-c.2)])
def DC (H : Hp) (kvs : List (Key × V)) (cf : Nat → Option Co) : Prop := ∀ k : Nat, (cf k = none ∧ valV kvs (kN k) = none) ∨ ∃ c v, cf k = some c ∧ valV kvs (kN k) = some v ∧ CoAt H v c
theorem DC.keep {H H' : Hp} {kvs : List (Key × V)} {cf : Nat → Option Co} (d : DC H kvs cf) (s : TK H H') : DC H' kvs cf := fun k => by
  rcases d k with h | ⟨c, v, h1, h2, t, h3, h4⟩
  · exact .inl h
  · exact .inr ⟨c, v, h1, h2, t, h3, s _ _ h4⟩
theorem DC.put {H : Hp} {kvs : List (Key × V)} {cf : Nat → Option Co} (d : DC H kvs cf) {k : Nat} {v : V} {c : Co} (h : CoAt H v c) : DC H (putK kvs (kN k) v) (fun j => if j = k then some c else cf j) := fun j => by
  rw [valV_put]
  show ((if j = k then some c else cf j) = none ∧ _) ∨ ∃ c' v', (if j = k then some c else cf j) = some c' ∧ _
  by_cases e : j = k
  · rw [if_pos e, if_pos (show kN j = kN k by rw [e])]
    exact .inr ⟨c, v, rfl, rfl, h⟩
  · rw [if_neg e, if_neg (show ¬ kN j = kN k from fun z => e (kN_inj z))]
    exact d j
theorem DL.put {lvs : List (Key × V)} {la : Nat → Option Nat} (d : ∀ k, valV lvs (kN k) = (la k).map nV) (k n : Nat) : ∀ j, valV (putK lvs (kN k) (nV n)) (kN j) = ((fun j => if j = k then some n else la j) j).map nV := fun j => by
  rw [valV_put]
  by_cases e : j = k
  · rw [if_pos (by rw [e])]
    show _ = Option.map nV (if j = k then some n else la j)
    rw [if_pos e]; rfl
  · rw [if_neg (fun z => e (kN_inj z))]
    show _ = Option.map nV (if j = k then some n else la j)
    rw [if_neg e]; exact d j
theorem putK_le (c : List (Key × V)) (k : Key) (x : V) : (putK c k x).length ≤ c.length + 1 := by
  unfold putK
  split
  · rw [List.length_map]; omega
  · rw [List.length_append]; exact Nat.le_refl _
theorem lex_co (c d : Co) : HT.lexLt [c.1, -c.2] [d.1, -d.2] = decide (coLt c d) := by
  rw [HT.lexLt_cons, HT.lexLt_cons, HT.lexLt_nil_nil]
  unfold coLt
  by_cases e : c.1 = d.1
  · rw [if_pos e]
    by_cases e2 : -c.2 = -d.2
    · rw [if_pos e2]
      exact (decide_eq_false (by omega)).symm
    · rw [if_neg e2]
      by_cases e3 : -c.2 < -d.2
      · rw [decide_eq_true e3]; exact (decide_eq_true (by omega)).symm
      · rw [decide_eq_false e3]; exact (decide_eq_false (by omega)).symm
  · rw [if_neg e]
    by_cases e3 : c.1 < d.1
    · rw [decide_eq_true e3]; exact (decide_eq_true (by omega)).symm
    · rw [decide_eq_false e3]; exact (decide_eq_false (by omega)).symm
theorem LaOk.put {hs : List HR} {bs : List BR} {rk : Nat → Int} {one : Nat} {cf : Nat → Option Co} {la : Nat → Option Nat} (L : LaOk hs bs one cf la) (hrk : ∀ b ∈ bs, b.th = [] → rk b.one < rk b.to) (s : Snd hs bs one cf) (h1 : cf one = some (0, momH hs one)) {j : Nat} {b : BR} {c : Co} (eb : bs[j]? = some b) (h : cf b.one = some c) (l : ∀ d, cf b.to = some d → coLt (coAdd hs c b) d) :
    LaOk hs bs one (fun k => if k = b.to then some (coAdd hs c b) else cf k) (fun k => if k = b.to then some j else la k) ∧ b.to ≠ one := by
  have hb := List.mem_of_getElem? eb
  have ne1 : b.to ≠ one := fun z => cf_one hrk s h1 hb h z (l _ (by rw [z]; exact h1))
  have ne2 : b.one ≠ b.to := fun z => by
    have := l c (by rw [← z]; exact h)
    unfold coLt coAdd at this
    dsimp only at this
    by_cases y : b.th = []
    · have := hrk b hb y
      rw [z] at this
      omega
    · have : 0 < b.th.length := List.length_pos_iff.mpr y
      omega
  have newc : ∀ k c2, cf k = some c2 → ∃ c3, (fun k => if k = b.to then some (coAdd hs c b) else cf k) k = some c3 ∧ coLe c3 c2 := fun k c2 e => by
    by_cases z : k = b.to
    · exact ⟨_, if_pos z, (l c2 (z ▸ e)).le⟩
    · exact ⟨c2, (if_neg z).trans e, coLe.refl _⟩
  refine ⟨⟨fun k n e => ?_, ?_, fun k d e => ?_⟩, ne1⟩
  · by_cases z : k = b.to
    · have e : some j = some n := by rw [← e]; exact (if_pos z).symm
      cases e
      exact ⟨b, c, coAdd hs c b, eb, z.symm, (if_neg ne2).trans h, if_pos z, coLe.refl _⟩
    · have e : la k = some n := by rw [← e]; exact (if_neg z).symm
      obtain ⟨b2, c2, d2, g1, g2, g3, g4, g5⟩ := L.go k n e
      obtain ⟨c3, g6, g7⟩ := newc _ _ g3
      exact ⟨b2, c3, d2, g1, g2, g6, (if_neg z).trans g4, (coAdd_mono g7).trans g5⟩
  · exact (if_neg ne1.symm).trans L.fst
  · by_cases z : k = b.to
    · exact .inr (by show (if k = b.to then some j else la k).isSome = true; rw [if_pos z]; rfl)
    · have e : cf k = some d := by rw [← e]; exact (if_neg z).symm
      rcases L.has k d e with y | y
      · exact .inl y
      · exact .inr (by show (if k = b.to then some j else la k).isSome = true; rw [if_neg z]; exact y)
theorem TK.dic {H : Hp} {p : Addr} {kvs lvs : List (Key × V)} (h : H p = some (.dK kvs)) : TK H (upd H p (.dK lvs)) := fun x zs e => by
  rw [upd_ne (ne_of e h (fun z => nomatch z))]
  exact e
section
variable {P : Program} {w : World} {K : PySem.W.Frag} {mg : Str → Option Value} {base : Heap}
def sp_least_costs (K : PySem.W.Frag) : Sp := fun vs H Q _ => ∃ (r : Addr) (hs : List HR) (bs : List BR) (one : Nat), vs = [.ref r, nV one] ∧ RoomAt H r hs bs ∧ RoomOk hs bs ∧ one < hs.length ∧
  ∀ (p cd ld : Addr) (kvs lvs : List (Key × V)) (la : Nat → Option Nat) (H' : Hp), H' p = some (.tup [.ref cd, .ref ld]) → H' cd = some (.dK kvs) → DC H' kvs (best hs bs one) → H' ld = some (.dK lvs) → (∀ k, valV lvs (kN k) = (la k).map nV) → LaOk hs bs one (best hs bs one) la → Same H H' → Q (.ref p) H'
theorem ok_least_costs {f : Addr} {fd : FuncData} (F : Fun K "least_costs" "least_costs" s_least_costs f fd) (T : Top K mg) : FnOk P w K mg base CX0 1 f fd ["room", "one"] (sp_least_costs K) := by
  refine F.ok sc_least_costs (fun vs H Q E h => ?_) (fun cdv A outer s H vs Q E hr h => ?_)
  · obtain ⟨r, hs, bs, one, rfl, _⟩ := h
    rfl
  obtain ⟨r, hs, bs, one, rfl, hR, ok, ho, q⟩ := h
  obtain ⟨ha, ba, hv, bv, er, eh, eb, alh, alb⟩ := hR.ex
  have lhv := alh.length
  have lbv := alb.length
  have lh := ok.hands
  have lb := ok.many
  obtain ⟨rk, hrk⟩ := ok.rank
  have hto : ∀ b ∈ bs, b.to < hs.length := fun b hb => (ok.ends b hb).2
  have ehk : hs[one]? = some hs[one] := List.getElem?_eq_getElem ho
  have mom1 : momH hs one = hs[one].mom := by unfold momH; rw [ehk]
  obtain ⟨x0, ex0, ⟨t0, r0, rfl, e01, e02⟩⟩ := alh.get ehk
  refine ⟨_, (pss_cons (ps_asg (pv 0) (pg_tupK K rfl rfl (pgs_cons (pg_name (i := 2) sc_least_costs.nd rfl (Or.inl rfl)) (pgs_cons (pg_name (i := 3) sc_least_costs.nd rfl (Or.inl rfl)) pgs_nil))))
      (pss_cons (ps_set (i := 4) sc_least_costs.nd rfl (Or.inl rfl) (pe_disp (pps_cons (pv 1) (pe_tup (pa_cons pe_int (pa_cons (pe_un un_neg (pe_ix (ix_tupK K rfl) (pe_ix (ix_tupK K rfl) (pv 2) (pv 1) (fun _ _ => rfl)) pe_int (fun _ _ => rfl))) pa_nil))) pps_nil) (by rfl) (by rfl) (fun z => by cases z) (by decide)))
      (pss_cons (ps_set (i := 5) sc_least_costs.nd rfl (Or.inl rfl) pe_dnewK)
      (pss_cons (ps_set (i := 6) sc_least_costs.nd rfl (Or.inl rfl) pe_bl)
      (pss_cons (ps_while PassesOwn.never (pt_val (pv 6))
        (pss_cons (ps_set (i := 6) sc_least_costs.nd rfl (Or.inl rfl) pe_bl)
      (pss_one (ps_for PassesOwn.never rfl (pi_enumT K rfl (by rfl) T.m_enumerate (pa_cons (pv 3) pa_nil)) (pg_tupK K rfl rfl (pgs_cons (pg_name (i := 7) sc_least_costs.nd rfl (Or.inl rfl)) (pgs_cons (pg_tupK K rfl rfl (pgs_cons (pg_name (i := 8) sc_least_costs.nd rfl (Or.inl rfl)) (pgs_cons (pg_name (i := 9) sc_least_costs.nd rfl (Or.inl rfl)) (pgs_cons (pg_name (i := 10) sc_least_costs.nd rfl (Or.inl rfl)) pgs_nil)))) pgs_nil)))
        (pss_one (ps_if (pt_cmp (pc_din (hu_of hr) (pv 8) (pv 4)) (by with_unfolding_all rfl)) (pss_cons (ps_asg (pe_dget (hu_of hr) (pv 4) (pv 8) (fun _ _ => rfl)) (pg_tupK K rfl rfl (pgs_cons (pg_name (i := 11) sc_least_costs.nd rfl (Or.inl rfl)) (pgs_cons (pg_name (i := 12) sc_least_costs.nd rfl (Or.inl rfl)) pgs_nil))))
      (pss_cons (ps_set (i := 13) sc_least_costs.nd rfl (Or.inl rfl) (pe_tup (pa_cons (pe_op op_add (pv 11) (pe_callB (call_len_seqK K rfl) (by rfl) T.m_len (by decide +kernel) (pa_cons (pv 10) pa_nil))) (pa_cons (pe_op op_sub (pv 12) (pe_ix (ix_tupK K rfl) (pe_ix (ix_tupK K rfl) (pv 2) (pv 9) (fun _ _ => rfl)) pe_int (fun _ _ => rfl))) pa_nil))))
      (pss_one (ps_if (PW.pt (pw_or (pt_cmp (pc_dnotin (hu_of hr) (pv 9) (pv 4)) (by with_unfolding_all rfl)) (pw_or1 (pt_cmpR (op_ltTK K rfl (Nat.lt_of_succ_lt (hu_of hr))) (pv 13) (pe_dget (hu_of hr) (pv 4) (pv 9) (fun _ _ => rfl)) (nomark _))))) (pss_cons (ps_dput (hu_of hr) (pv 4) (pv 9) (pv 13) (by rfl))
      (pss_cons (ps_dput (hu_of hr) (pv 5) (pv 9) (pv 7) (by rfl))
      (pss_one (ps_set (i := 6) sc_least_costs.nd rfl (Or.inl rfl) pe_bl)))) pss_nil)))) pss_nil))))))
      (pss_one (ps_ret (pe_tup (pa_cons (pv 4) (pa_cons (pv 5) pa_nil)))))))))), ?_⟩
  refine ⟨_, rfl, r, _, rfl, SqT.of er, rfl, _, _, rfl, _, _, rfl, rfl, ?_⟩
  refine fun cd ncd => ?_
  have s1 := same_new (o := .dK []) ncd
  refine ⟨_, rfl, _, rfl, _, rfl, ha, _, _, _, rfl, rfl, SqT.of (s1 _ _ eh), atI_nat ex0, t0, _, _, _, rfl, rfl, SqT.of (s1 _ _ e01), atI_nat (j := 1) rfl, _, rfl, (by show 2 ≤ sizeLine; decide), fun t nt => ?_⟩
  have hcd1 := same_new (o := .tup [V.int 0, V.int (-hs[one].mom)]) nt _ _ (upd_same (H := H) (a := cd) (o := .dK []))
  refine ⟨hcd1, [(kN one, V.ref t)], rfl, (by show 1 ≤ 15; decide), ?_⟩
  have k1 := TK.dic (lvs := mergeK [] [(kN one, V.ref t)]) hcd1
  have ht : upd (upd (upd H cd (.dK [])) t (.tup [V.int 0, V.int (-hs[one].mom)])) cd (.dK (mergeK [] [(kN one, V.ref t)])) t = some (.tup [V.int 0, V.int (-hs[one].mom)]) := k1 _ _ upd_same
  have s2 : Same H (upd (upd (upd H cd (.dK [])) t (.tup [V.int 0, V.int (-hs[one].mom)])) cd (.dK (mergeK [] [(kN one, V.ref t)]))) := Same.own (s1.trans (same_new nt)) ncd
  refine fun ld nld => ?_
  have s3 := s2.trans (same_new (o := .dK []) nld)
  have cdld : cd ≠ ld := fun z => by rw [← z, upd_same] at nld; cases nld
  have ld0 : H ld = none := same_none s2 nld
  have L0 : LaOk hs bs one (cfI hs bs one 0) (fun _ => none) := ⟨(fun _ _ z => nomatch z), rfl, fun k c e => by
    by_cases z : k = one
    · exact .inl z
    · have e : none = some c := by rw [← e]; exact (if_neg z).symm
      cases e⟩
  have D0 : DC (upd (upd (upd (upd H cd (.dK [])) t (.tup [V.int 0, V.int (-hs[one].mom)])) cd (.dK (mergeK [] [(kN one, V.ref t)]))) ld (.dK [])) (mergeK [] [(kN one, V.ref t)]) (cfI hs bs one 0) := by
    have : DC (upd (upd (upd (upd H cd (.dK [])) t (.tup [V.int 0, V.int (-hs[one].mom)])) cd (.dK (mergeK [] [(kN one, V.ref t)]))) ld (.dK [])) [] (fun _ => none) := fun k => .inl ⟨rfl, rfl⟩
    exact this.put (k := one) (v := V.ref t) (c := (0, momH hs one)) ⟨t, rfl, by rw [mom1]; exact same_new nld _ _ ht⟩
  refine ⟨fun m σ H2 => ∃ (i : Nat) (ch : Bool) (kvs lvs : List (Key × V)) (la : Nat → Option Nat) (v7 v8 v9 v10 v11 v12 v13 : Option V), σ = [some (.ref r), some (nV one), some (.ref ha), some (.ref ba), some (.ref cd), some (.ref ld), some (.bl ch), v7, v8, v9, v10, v11, v12, v13] ∧ H2 cd = some (.dK kvs) ∧ DC H2 kvs (cfI hs bs one i) ∧ kvs.length ≤ 1 + 20 * i ∧ H2 ld = some (.dK lvs) ∧ lvs.length ≤ 20 * i ∧ (∀ k, valV lvs (kN k) = (la k).map nV) ∧ LaOk hs bs one (cfI hs bs one i) la ∧ cfI hs bs one i one = some (0, momH hs one) ∧ Same H H2 ∧ ((ch = true ∧ i ≤ hs.length ∧ m = hs.length + 1 - i) ∨ (ch = false ∧ Stab hs bs (cfI hs bs one i) ∧ m = 0)),
    ⟨_, 0, true, _, _, fun _ => none, _, _, _, _, _, _, _, rfl, same_new nld _ _ upd_same, D0, (by show 1 ≤ 1; decide), upd_same, (by show 0 ≤ 0; decide), (fun _ => rfl), L0, if_pos rfl, s3, .inl ⟨rfl, Nat.zero_le _, rfl⟩⟩, ?_⟩
  rintro m σ H2 ⟨i, ch, kvs, lvs, la, v7, v8, v9, v10, v11, v12, v13, rfl, hcd, dc, lk, hld, ll, dl, L, c1, s, flag⟩
  refine ⟨_, rfl, _, rfl, ?_⟩
  rcases flag with ⟨rfl, hi, rfl⟩ | ⟨rfl, st, rfl⟩
  · refine if_bl (fun _ => ?_) (fun z => nomatch z)
    refine ⟨_, fun σ' H' h => h, ?_⟩
    refine ⟨_, rfl, ba, bv, rfl, SqT.of (s _ _ eb), for_it (J := IteT K ba bv) (n := bv.length) (fun j σ H3 => ∃ (ch : Bool) (kvs lvs : List (Key × V)) (la : Nat → Option Nat) (v7 v8 v9 v10 v11 v12 v13 : Option V), σ = [some (.ref r), some (nV one), some (.ref ha), some (.ref ba), some (.ref cd), some (.ref ld), some (.bl ch), v7, v8, v9, v10, v11, v12, v13] ∧ H3 cd = some (.dK kvs) ∧ DC H3 kvs ((bs.take j).foldl (relax hs) (cfI hs bs one i)) ∧ kvs.length ≤ 1 + 20 * i + j ∧ H3 ld = some (.dK lvs) ∧ lvs.length ≤ 20 * i + j ∧ (∀ k, valV lvs (kN k) = (la k).map nV) ∧ LaOk hs bs one ((bs.take j).foldl (relax hs) (cfI hs bs one i)) la ∧ (bs.take j).foldl (relax hs) (cfI hs bs one i) one = some (0, momH hs one) ∧ Same H H3 ∧ (ch = false → (bs.take j).foldl (relax hs) (cfI hs bs one i) = cfI hs bs one i ∧ ∀ b ∈ bs.take j, ∀ c, cfI hs bs one i b.one = some c → ∃ d, cfI hs bs one i b.to = some d ∧ coLe d (coAdd hs c b)) ∧ (ch = true → ¬ Stab hs bs (cfI hs bs one i)))
      ⟨false, kvs, lvs, la, _, _, _, _, _, _, _, rfl, hcd, dc, by omega, hld, by omega, dl, L, c1, s, (fun _ => ⟨rfl, (fun _ z => nomatch z)⟩), (fun z => nomatch z)⟩ ?_ ?_ ?_ ?_⟩
    · rintro j σ H3 hj ⟨ch, kvs, lvs, la, v7, v8, v9, v10, v11, v12, v13, rfl, hcd, dc, lk, hld, ll, dl, L, c1, s, f1, f2⟩
      exact ⟨SqT.of (s _ _ eb), hj⟩
    · rintro σ H3 ⟨ch, kvs, lvs, la, v7, v8, v9, v10, v11, v12, v13, rfl, hcd, dc, lk, hld, ll, dl, L, c1, s, f1, f2⟩
      exact ⟨SqT.of (s _ _ eb), rfl⟩
    · rintro j x σ H3 H4 hj ⟨ch, kvs, lvs, la, v7, v8, v9, v10, v11, v12, v13, rfl, hcd, dc, lk, hld, ll, dl, L, c1, s, f1, f2⟩ ⟨tt, y, rfl, ntt, rfl, ey⟩
      obtain ⟨b, ebj, ⟨t2, g, rfl, e1, e2⟩⟩ := alb.getL ey
      have hb := List.mem_of_getElem? ebj
      have nx : (bs.take (j + 1)).foldl (relax hs) (cfI hs bs one i) = relax hs ((bs.take j).foldl (relax hs) (cfI hs bs one i)) b := by
        rw [List.take_add_one, ebj, List.foldl_append]; rfl
      have sound : Snd hs bs one ((bs.take j).foldl (relax hs) (cfI hs bs one i)) := Snd.fold (fun _ h => List.mem_of_mem_take h) (cfI_snd i)
      obtain ⟨cf, ecf⟩ : ∃ cf, cf = (bs.take j).foldl (relax hs) (cfI hs bs one i) := ⟨_, rfl⟩
      rw [← ecf] at dc L c1 f1 nx sound
      have s4 := s.trans (same_new (o := .tup [V.int ((j : Nat) : Int), V.ref t2]) ntt)
      have hcd4 := same_new (o := .tup [V.int ((j : Nat) : Int), V.ref t2]) ntt _ _ hcd
      have hld4 := same_new (o := .tup [V.int ((j : Nat) : Int), V.ref t2]) ntt _ _ hld
      have dc4 := dc.keep (TK.new (o := .tup [V.int ((j : Nat) : Int), V.ref t2]) ntt)
      refine ⟨tt, _, rfl, SqT.of upd_same, rfl, _, _, rfl, _, _, rfl, t2, _, rfl, SqT.of (s4 _ _ e1), rfl, _, _, rfl, _, _, rfl, _, _, rfl, rfl, rfl, ?_⟩
      -- nothing changes
      have idle : ∀ (v11 v12 v13 : Option V) (H5 : Hp), relax hs cf b = cf → (∀ c, cf b.one = some c → ∃ d, cf b.to = some d ∧ coLe d (coAdd hs c b)) → Same (upd H3 tt (.tup [V.int ((j : Nat) : Int), V.ref t2])) H5 → ∃ (ch' : Bool) (kvs' lvs' : List (Key × V)) (la' : Nat → Option Nat) (w7 w8 w9 w10 w11 w12 w13 : Option V), [some (.ref r), some (nV one), some (.ref ha), some (.ref ba), some (.ref cd), some (.ref ld), some (.bl ch), some (V.int ((j : Nat) : Int)), some (nV b.one), some (nV b.to), some (.ref g), v11, v12, v13] = [some (.ref r), some (nV one), some (.ref ha), some (.ref ba), some (.ref cd), some (.ref ld), some (.bl ch'), w7, w8, w9, w10, w11, w12, w13] ∧ H5 cd = some (.dK kvs') ∧ DC H5 kvs' ((bs.take (j + 1)).foldl (relax hs) (cfI hs bs one i)) ∧ kvs'.length ≤ 1 + 20 * i + (j + 1) ∧ H5 ld = some (.dK lvs') ∧ lvs'.length ≤ 20 * i + (j + 1) ∧ (∀ k, valV lvs' (kN k) = (la' k).map nV) ∧ LaOk hs bs one ((bs.take (j + 1)).foldl (relax hs) (cfI hs bs one i)) la' ∧ (bs.take (j + 1)).foldl (relax hs) (cfI hs bs one i) one = some (0, momH hs one) ∧ Same H H5 ∧ (ch' = false → (bs.take (j + 1)).foldl (relax hs) (cfI hs bs one i) = cfI hs bs one i ∧ ∀ b ∈ bs.take (j + 1), ∀ c, cfI hs bs one i b.one = some c → ∃ d, cfI hs bs one i b.to = some d ∧ coLe d (coAdd hs c b)) ∧ (ch' = true → ¬ Stab hs bs (cfI hs bs one i)) := fun v11 v12 v13 H5 er1 er2 s5 => by
        rw [er1] at nx
        rw [nx]
        refine ⟨ch, kvs, lvs, la, _, _, _, _, _, _, _, rfl, s5 _ _ hcd4, dc4.keep (TK.same s5), by omega, s5 _ _ hld4, by omega, dl, L, c1, s4.trans s5, fun z => ?_, f2⟩
        obtain ⟨g1, g2⟩ := f1 z
        refine ⟨g1, fun b' hb' => ?_⟩
        rw [List.take_add_one, ebj] at hb'
        rcases List.mem_append.mp hb' with hb' | hb'
        · exact g2 b' hb'
        · obtain rfl : b' = b := by simpa using hb'
          rw [← g1]
          exact er2
      rcases dc4 b.one with ⟨d1, d2⟩ | ⟨c, v, d1, d2, tc, rfl, htc⟩
      · refine ⟨_, rfl, _, rfl, cd, _, rfl, dget_of hcd4 d2, _, rfl, if_bl (fun z => nomatch z) (fun _ => ?_)⟩
        exact idle _ _ _ _ (relax_none d1) (fun c z => by rw [d1] at z; cases z) (Same.refl _)
      refine ⟨_, rfl, _, rfl, cd, _, rfl, dget_of hcd4 d2, _, rfl, if_bl (fun _ => ?_) (fun z => nomatch z)⟩
      have tb := hto b hb
      have eht : hs[b.to]? = some hs[b.to] := List.getElem?_eq_getElem tb
      have mom2 : momH hs b.to = hs[b.to].mom := by unfold momH; rw [eht]
      obtain ⟨x3, ex3, ⟨t3, r3, rfl, e31, e32⟩⟩ := alh.get eht
      refine ⟨_, rfl, _, rfl, cd, _, rfl, dget_of hcd4 d2, tc, _, rfl, SqT.of htc, rfl, _, _, rfl, _, _, rfl, rfl, ?_⟩
      refine ⟨_, rfl, _, rfl, g, _, rfl, .inr (SqT.of (s4 _ _ e2)), _, _, rfl, rfl, _, rfl, _, rfl, _, rfl, ha, _, _, _, rfl, rfl, SqT.of (s4 _ _ eh), atI_nat ex3, t3, _, _, _, rfl, rfl, SqT.of (s4 _ _ e31), atI_nat (j := 1) rfl, _, _, rfl, rfl, (by show 2 ≤ sizeLine; decide), fun tn ntn => ?_⟩
      have enew : [V.int (c.1 + (((b.th.map V.int).length : Nat) : Int)), V.int (-c.2 - hs[b.to].mom)] = [V.int (coAdd hs c b).1, V.int (-(coAdd hs c b).2)] := by
        unfold coAdd
        dsimp only
        rw [List.length_map, mom2, show -c.2 - hs[b.to].mom = -(c.2 + hs[b.to].mom) by omega]
      rw [enew]
      have s5 := same_new (o := .tup [V.int (coAdd hs c b).1, V.int (-(coAdd hs c b).2)]) ntn
      have hcd5 := s5 _ _ hcd4
      have hld5 := s5 _ _ hld4
      have dc5 := dc4.keep (TK.same s5)
      -- something changes
      have put : (∀ d, cf b.to = some d → coLt (coAdd hs c b) d) → (relax hs cf b = fun k => if k = b.to then some (coAdd hs c b) else cf k) → ∃ (ch' : Bool) (kvs' lvs' : List (Key × V)) (la' : Nat → Option Nat) (w7 w8 w9 w10 w11 w12 w13 : Option V), [some (.ref r), some (nV one), some (.ref ha), some (.ref ba), some (.ref cd), some (.ref ld), some (.bl true), some (V.int ((j : Nat) : Int)), some (nV b.one), some (nV b.to), some (.ref g), some (V.int c.1), some (V.int (-c.2)), some (.ref tn)] = [some (.ref r), some (nV one), some (.ref ha), some (.ref ba), some (.ref cd), some (.ref ld), some (.bl ch'), w7, w8, w9, w10, w11, w12, w13] ∧ (upd (upd (upd (upd H3 tt (.tup [V.int ((j : Nat) : Int), V.ref t2])) tn (.tup [V.int (coAdd hs c b).1, V.int (-(coAdd hs c b).2)])) cd (.dK (putK kvs (kN b.to) (V.ref tn)))) ld (.dK (putK lvs (kN b.to) (nV j)))) cd = some (.dK kvs') ∧ DC (upd (upd (upd (upd H3 tt (.tup [V.int ((j : Nat) : Int), V.ref t2])) tn (.tup [V.int (coAdd hs c b).1, V.int (-(coAdd hs c b).2)])) cd (.dK (putK kvs (kN b.to) (V.ref tn)))) ld (.dK (putK lvs (kN b.to) (nV j)))) kvs' ((bs.take (j + 1)).foldl (relax hs) (cfI hs bs one i)) ∧ kvs'.length ≤ 1 + 20 * i + (j + 1) ∧ (upd (upd (upd (upd H3 tt (.tup [V.int ((j : Nat) : Int), V.ref t2])) tn (.tup [V.int (coAdd hs c b).1, V.int (-(coAdd hs c b).2)])) cd (.dK (putK kvs (kN b.to) (V.ref tn)))) ld (.dK (putK lvs (kN b.to) (nV j)))) ld = some (.dK lvs') ∧ lvs'.length ≤ 20 * i + (j + 1) ∧ (∀ k, valV lvs' (kN k) = (la' k).map nV) ∧ LaOk hs bs one ((bs.take (j + 1)).foldl (relax hs) (cfI hs bs one i)) la' ∧ (bs.take (j + 1)).foldl (relax hs) (cfI hs bs one i) one = some (0, momH hs one) ∧ Same H (upd (upd (upd (upd H3 tt (.tup [V.int ((j : Nat) : Int), V.ref t2])) tn (.tup [V.int (coAdd hs c b).1, V.int (-(coAdd hs c b).2)])) cd (.dK (putK kvs (kN b.to) (V.ref tn)))) ld (.dK (putK lvs (kN b.to) (nV j)))) ∧ (ch' = false → (bs.take (j + 1)).foldl (relax hs) (cfI hs bs one i) = cfI hs bs one i ∧ ∀ b ∈ bs.take (j + 1), ∀ c, cfI hs bs one i b.one = some c → ∃ d, cfI hs bs one i b.to = some d ∧ coLe d (coAdd hs c b)) ∧ (ch' = true → ¬ Stab hs bs (cfI hs bs one i)) := fun l er1 => by
        rw [er1] at nx
        obtain ⟨L', ne1⟩ := L.put hrk sound c1 ebj d1 l
        rw [nx]
        have pl := putK_le kvs (kN b.to) (V.ref tn)
        have pl2 := putK_le lvs (kN b.to) (nV j)
        have hld6 : upd (upd (upd H3 tt (.tup [V.int ((j : Nat) : Int), V.ref t2])) tn (.tup [V.int (coAdd hs c b).1, V.int (-(coAdd hs c b).2)])) cd (.dK (putK kvs (kN b.to) (V.ref tn))) ld = some (.dK lvs) := by rw [upd_ne cdld.symm]; exact hld5
        refine ⟨true, putK kvs (kN b.to) (V.ref tn), putK lvs (kN b.to) (nV j), fun k => if k = b.to then some j else la k, _, _, _, _, _, _, _, rfl, by rw [upd_ne cdld, upd_same], ?_, by omega, upd_same, by omega, DL.put dl b.to j, L', (if_neg ne1.symm).trans c1, Same.own (Same.own (s4.trans s5) ncd) ld0, (fun z => nomatch z), fun _ stb => ?_⟩
        · exact ((dc5.put (k := b.to) ⟨tn, rfl, upd_same⟩).keep (TK.dic hcd5)).keep (TK.dic hld6)
        · -- the state ahead was not at rest
          have rest := stab_fold stb (l := bs.take j) fun x hx => List.mem_of_mem_take hx
          rw [rest] at ecf
          obtain ⟨d, y1, y2⟩ := stb b hb c (by rw [← ecf]; exact d1)
          exact absurd y2 (l d (by rw [ecf]; exact y1)).not_le
      rcases dc5 b.to with ⟨f3, f4⟩ | ⟨d, v, f3, f4, td, rfl, htd⟩
      · refine ⟨_, rfl, _, rfl, cd, _, rfl, dget_of hcd5 f4, _, rfl, if_bl (fun _ => if_bl (fun _ => ?_) (fun z => nomatch z)) (fun z => nomatch z)⟩
        refine ⟨_, rfl, _, rfl, _, rfl, cd, _, rfl, DPut.k (k := kN b.to) hcd5 (small1000 (by omega)), ?_⟩
        refine ⟨_, rfl, _, rfl, _, rfl, ld, _, rfl, DPut.k (k := kN b.to) (by rw [upd_ne cdld.symm]; exact hld5) (small1000 (by omega)), ?_⟩
        exact put (fun d z => by rw [f3] at z; cases z) (relax_new d1 f3)
      · refine ⟨_, rfl, _, rfl, cd, _, rfl, dget_of hcd5 f4, _, rfl, if_bl (fun z => nomatch z) (fun _ => ?_)⟩
        refine ⟨_, rfl, _, rfl, _, rfl, cd, _, rfl, dget_of hcd5 f4, tn, td, [(coAdd hs c b).1, -(coAdd hs c b).2], [d.1, -d.2], rfl, rfl, SqT.of upd_same, SqT.of htd, _, rfl, ?_⟩
        rw [lex_co]
        by_cases l : coLt (coAdd hs c b) d
        · rw [decide_eq_true l]
          refine if_bl (fun _ => ?_) (fun z => nomatch z)
          refine ⟨_, rfl, _, rfl, _, rfl, cd, _, rfl, DPut.k (k := kN b.to) hcd5 (small1000 (by omega)), ?_⟩
          refine ⟨_, rfl, _, rfl, _, rfl, ld, _, rfl, DPut.k (k := kN b.to) (by rw [upd_ne cdld.symm]; exact hld5) (small1000 (by omega)), ?_⟩
          exact put (fun d' z => by rw [f3] at z; cases z; exact l) (relax_lt d1 f3 l)
        · rw [decide_eq_false l]
          refine if_bl (fun z => nomatch z) (fun _ => ?_)
          exact idle _ _ _ _ (relax_ge d1 f3 l) (fun c' z => ⟨d, f3, by rw [d1] at z; cases z; exact coLe_of_not l⟩) s5
    · rintro σ H3 ⟨ch, kvs, lvs, la, v7, v8, v9, v10, v11, v12, v13, rfl, hcd, dc, lk, hld, ll, dl, L, c1, s, f1, f2⟩
      rw [lbv, List.take_length] at dc L c1 f1
      cases ch with
      | false =>
        obtain ⟨g1, g2⟩ := f1 rfl
        refine ⟨0, by omega, i + 1, false, kvs, lvs, la, _, _, _, _, _, _, _, rfl, hcd, dc, by omega, hld, by omega, dl, L, c1, s, .inr ⟨rfl, ?_, rfl⟩⟩
        show Stab hs bs (bs.foldl (relax hs) (cfI hs bs one i))
        rw [g1]
        exact g2
      | true =>
        have := f2 rfl
        have il : i < hs.length := by
          refine Nat.lt_of_not_le fun z => this (stab_at hrk hto ho z)
        exact ⟨hs.length + 1 - (i + 1), by omega, i + 1, true, kvs, lvs, la, _, _, _, _, _, _, _, rfl, hcd, dc, by omega, hld, by omega, dl, L, c1, s, .inl ⟨rfl, by omega, rfl⟩⟩
  · refine if_bl (fun z => nomatch z) (fun _ => ?_)
    have eb2 := cfI_best hrk hto ho st
    rw [eb2] at dc L
    refine ⟨_, rfl, _, rfl, (by show 2 ≤ sizeLine; decide), fun p np => ?_⟩
    exact q p cd ld kvs lvs la _ upd_same (same_new np _ _ hcd) (dc.keep (TK.new np)) (same_new np _ _ hld) dl L (s.trans (same_new np))
end
theorem wayCo_cons {hs : List HR} {bs : List BR} {k n : Nat} {ns : List Nat} {b : BR} (eb : bs[n]? = some b) : ((n :: ns).map (trB bs)).sum = (b.th.length : Int) + (ns.map (trB bs)).sum ∧ ((n :: ns).map fun n => momH hs (toB bs n)).sum = momH hs b.to + (ns.map fun n => momH hs (toB bs n)).sum := by
  have h1 : trB bs n = (b.th.length : Int) := by unfold trB; rw [eb]
  have h2 : toB bs n = b.to := by unfold toB; rw [eb]
  rw [List.map_cons, List.map_cons, List.sum_cons, List.sum_cons, h1, h2]
  exact ⟨rfl, rfl⟩
/-- what least_costs tells -/
structure Told (hs : List HR) (bs : List BR) (one : Nat) (H : Hp) (ld : Addr) (lvs : List (Key × V)) (la : Nat → Option Nat) : Prop where
  dic : H ld = some (.dK lvs)
  dl : ∀ k, valV lvs (kN k) = (la k).map nV
  la : LaOk hs bs one (best hs bs one) la
theorem best_lt {hs : List HR} {bs : List BR} {one k : Nat} {c : Co} (hto : ∀ b ∈ bs, b.to < hs.length) (ho : one < hs.length) (h : best hs bs one k = some c) : k < hs.length := by
  obtain ⟨ns, w1, _⟩ := cfI_snd _ k c h
  exact way_lt hto ho w1
theorem best_one {hs : List HR} {bs : List BR} {rk : Nat → Int} {one : Nat} (hrk : ∀ b ∈ bs, b.th = [] → rk b.one < rk b.to) : best hs bs one one = some (0, momH hs one) := by
  obtain ⟨c, h1, h2⟩ := cfI_cpl (hs := hs) (bs := bs) hs.length [] one (Nat.zero_le _) rfl
  obtain ⟨ns, w1, w2⟩ := cfI_snd _ one c h1
  rw [wayCo_nil] at h2
  have : c = (0, momH hs one) := by
    by_cases e : ns = []
    · rw [← w2, e, wayCo_nil]
    · have t := way_closed hrk w1 e
      have t2 : c.1 = (ns.map (trB bs)).sum := by rw [← w2]; rfl
      unfold coLe at h2
      dsimp only at h2
      omega
  show cfI hs bs one hs.length one = _
  rw [h1, this]
theorem mom_le {hs : List HR} (good : ∀ h ∈ hs, GoodHand h) (k : Nat) : momH hs k ≤ 30 := by
  unfold momH
  cases e : hs[k]? with
  | none => exact (by decide)
  | some h => exact (good h (List.mem_of_getElem? e)).2.2
/-! ### the greatest moments of ways without trays -/
def lng (hs : List HR) (bs : List BR) (k : Nat) : Int := erl hs bs k 0 + momN hs k
section
variable {hs : List HR} {bs : List BR} {rk : Nat → Int}
theorem lng_mom (hr : ∀ b ∈ bs, b.th = [] → rk b.one < rk b.to) (he : ∀ b ∈ bs, b.one < hs.length ∧ b.to < hs.length) {k : Nat} (hk : k < hs.length) : momN hs k ≤ lng hs bs k := by
  unfold lng
  have : 0 ≤ erl hs bs k 0 := by
    rw [erl_is hr he hk]
    exact gtst_le due_zero
  omega
theorem lng_belt (hr : ∀ b ∈ bs, b.th = [] → rk b.one < rk b.to) (he : ∀ b ∈ bs, b.one < hs.length ∧ b.to < hs.length) {b : BR} (hb : b ∈ bs) (e : b.th = []) : lng hs bs b.one + momN hs b.to ≤ lng hs bs b.to := by
  unfold lng
  have : erl hs bs b.one 0 + momN hs b.one ≤ erl hs bs b.to 0 := by
    rw [erl_is hr he (he b hb).2]
    refine gtst_le (due_mem.mpr (.inr (.inr ⟨b, hb, rfl, by rw [e]; exact Nat.le_refl _, ?_⟩)))
    rw [Nat.zero_sub]
  omega
theorem lng_is (hr : ∀ b ∈ bs, b.th = [] → rk b.one < rk b.to) (he : ∀ b ∈ bs, b.one < hs.length ∧ b.to < hs.length) {k : Nat} (hk : k < hs.length) : lng hs bs k = momN hs k ∨ ∃ b ∈ bs, b.to = k ∧ b.th = [] ∧ lng hs bs k = lng hs bs b.one + momN hs k := by
  have m := gtst_mem (due_zero (hs := hs) (bs := bs) (e := erl hs bs) (k := k) (t := 0))
  rw [← erl_is hr he hk] at m
  unfold lng
  rcases due_mem.mp m with z | ⟨z, _⟩ | ⟨b, hb, e1, e2, z⟩
  · left; omega
  · exact absurd rfl z
  · right
    refine ⟨b, hb, e1, List.eq_nil_of_length_eq_zero (Nat.le_zero.mp e2), ?_⟩
    rw [Nat.zero_sub] at z
    omega
end
/-- how a hand's greatest moments come about: its own alone, or over a belt -/
def LaK (hs : List HR) (bs : List BR) (v : Int) (k : Nat) : Option Nat → Prop
  | none => v = momN hs k
  | some n => ∃ b, bs[n]? = some b ∧ b.to = k ∧ b.th = [] ∧ v = lng hs bs b.one + momN hs k
theorem keys_any {kvs : List (Key × V)} {k : Key} : (kvs.any fun kv => decide (kv.1 = k)) = true ↔ k ∈ kvs.map (·.1) := by
  rw [List.any_eq_true, List.mem_map]
  constructor
  · rintro ⟨p, hp, h⟩
    exact ⟨p, hp, of_decide_eq_true h⟩
  · rintro ⟨p, hp, h⟩
    exact ⟨p, hp, decide_eq_true h⟩
theorem keys_old {kvs : List (Key × V)} {k : Key} {v : V} (z : k ∈ kvs.map (·.1)) : (putK kvs k v).map (·.1) = kvs.map (·.1) := by
  unfold putK
  rw [if_pos (keys_any.mpr z), List.map_map]
  refine List.map_congr_left fun p _ => ?_
  show (if p.1 = k then (p.1, v) else p).1 = p.1
  split <;> rfl
theorem keys_new {kvs : List (Key × V)} {k : Key} {v : V} (z : k ∉ kvs.map (·.1)) : (putK kvs k v).map (·.1) = kvs.map (·.1) ++ [k] := by
  unfold putK
  rw [if_neg (fun y => z (keys_any.mp y)), List.map_append]
  rfl
def DLa (lvs : List (Key × V)) (la : Nat → Option Nat) : Prop := ∀ k, valV lvs (kN k) = (la k).map nV
theorem DLa.put {lvs : List (Key × V)} {la : Nat → Option Nat} (d : DLa lvs la) (k j : Nat) : DLa (putK lvs (kN k) (nV j)) (fun i => if i = k then some j else la i) := fun i => by
  rw [valV_put]
  by_cases e : i = k
  · subst e
    rw [if_pos rfl]
    show _ = (if i = i then some j else la i).map nV
    rw [if_pos rfl]
    rfl
  · rw [if_neg fun z => e (kN_inj z)]
    show _ = (if i = k then some j else la i).map nV
    rw [if_neg e]
    exact d i
/-- the table of long_way's code object -/
abbrev TL (PT : Addr) : List (Addr × Str) := [(PT, (("long_way" : Str) ++ ".<locals>.") ++ "<lambda>")]
class TabL (K : PySem.W.Frag) (mg : Str → Option Value) (base : Heap) (cT PT : outParam Addr) : Prop where
  tb : LamX.TabB base mg cT PT
  cd : ∀ (f : Addr) (fd : FuncData), Fun K "long_way" "long_way" s_long_way f fd → mg "long_way" = some (.ref f) → fd.code = .ref cT
section
variable {P : Program} {w : World} {K : PySem.W.Frag} {mg : Str → Option Value} {base : Heap}
/-- what long_sums tells -/
structure Lsd (hs : List HR) (bs : List BR) (H : Hp) (sd ld : Addr) (svs lvs : List (Key × V)) (ord : List Nat) (la : Nat → Option Nat) : Prop where
  hs_ : H sd = some (.dK svs)
  hl : H ld = some (.dK lvs)
  keys : svs.map (·.1) = ord.map kN
  dm : ∀ k, k ∈ ord → valV svs (kN k) = some (.int (lng hs bs k))
  dl : DLa lvs la
  la : ∀ k, k ∈ ord → LaK hs bs (lng hs bs k) k (la k)
  all : ∀ k, k ∈ ord ↔ k < hs.length
  len : ord.length = hs.length
def sp_long_sums (K : PySem.W.Frag) : Sp := fun vs H Q _ => ∃ (r : Addr) (hs : List HR) (bs : List BR), vs = [.ref r] ∧ RoomAt H r hs bs ∧ RoomOk hs bs ∧
  ∀ (p sd ld : Addr) (svs lvs : List (Key × V)) (ord : List Nat) (la : Nat → Option Nat) (H' : Hp), H' p = some (.tup [.ref sd, .ref ld]) → Lsd hs bs H' sd ld svs lvs ord la → Same H H' → Q (.ref p) H'
theorem ok_long_sums {f : Addr} {fd : FuncData} (F : Fun K "long_sums" "long_sums" s_long_sums f fd) (T : Top K mg) : FnOk P w K mg base CX0 2 f fd ["room"] (sp_long_sums K) := by
  obtain ⟨f_work_order, fd_work_order, F_work_order, b_work_order, m_work_order⟩ := T.d_work_order
  have G_work_order := ok_work_order (P := P) (w := w) (base := base) F_work_order T
  obtain ⟨f_comings, fd_comings, F_comings, b_comings, m_comings⟩ := T.d_comings
  have G_comings := ok_comings (P := P) (w := w) (base := base) F_comings T
  refine F.ok sc_long_sums (fun vs H Q E h => ?_) (fun cdv A outer s H vs Q E hr h => ?_)
  · obtain ⟨r, hs, bs, rfl, _⟩ := h
    rfl
  obtain ⟨r, hs, bs, rfl, hR, ok, q⟩ := h
  obtain ⟨ha, ba, hv, bv, er, eh, eb, alh, alb⟩ := hR.ex
  have lh := ok.hands
  have lb := ok.many
  obtain ⟨rk, hrk⟩ := ok.rank
  have he := ok.ends
  have loose : ∀ p ∈ looseOf bs, rk p.1 < rk p.2 := fun p hp => by
    obtain ⟨b, hb, rfl⟩ := List.mem_map.mp hp
    exact hrk b (List.mem_filter.mp hb).1 (List.isEmpty_iff.mp (List.mem_filter.mp hb).2)
  refine ⟨_, (pss_cons (ps_asg (pv 0) (pg_tupK K rfl rfl (pgs_cons (pg_name (i := 1) sc_long_sums.nd rfl (Or.inl rfl)) (pgs_cons (pg_name (i := 2) sc_long_sums.nd rfl (Or.inl rfl)) pgs_nil))))
      (pss_cons (ps_set (i := 3) sc_long_sums.nd rfl (Or.inl rfl) pe_dnewK)
      (pss_cons (ps_set (i := 4) sc_long_sums.nd rfl (Or.inl rfl) pe_dnewK)
      (pss_cons (ps_for PassesOwn.never rfl (pi_listK K rfl (pe_call G_work_order (hr.mono (by decide)) (by rfl) m_work_order F_work_order.kp b_work_order .nil pass0 (pa_cons (pv 0) pa_nil))) (pg_name (i := 5) sc_long_sums.nd rfl (Or.inl rfl))
        (pss_cons (ps_dput (hu_of hr) (pv 3) (pv 5) (pe_ix (ix_tupK K rfl) (pe_ix (ix_tupK K rfl) (pv 1) (pv 5) (fun _ _ => rfl)) pe_int (fun _ _ => rfl)) (by rfl))
      (pss_one (ps_for PassesOwn.never rfl (pi_listK K rfl (pe_call G_comings (hr.mono (by decide)) (by rfl) m_comings F_comings.kp b_comings .nil pass0 (pa_cons (pv 0) (pa_cons (pv 5) pa_nil)))) (pg_name (i := 6) sc_long_sums.nd rfl (Or.inl rfl))
        (pss_cons (ps_asg (pe_ix (ix_tupK K rfl) (pv 2) (pv 6) (fun _ _ => rfl)) (pg_tupK K rfl rfl (pgs_cons (pg_name (i := 7) sc_long_sums.nd rfl (Or.inl rfl)) (pgs_cons (pg_name (i := 8) sc_long_sums.nd rfl (Or.inl rfl)) (pgs_cons (pg_name (i := 9) sc_long_sums.nd rfl (Or.inl rfl)) pgs_nil)))))
      (pss_one (ps_if (PW.pt (pw_and (pt_not (pt_truthK K rfl (pv 9) (by intro _; rfl))) (pw_and1 (pt_cmpR op_gt (pe_op op_add (pe_dget (hu_of hr) (pv 3) (pv 7) (fun _ _ => rfl)) (pe_ix (ix_tupK K rfl) (pe_ix (ix_tupK K rfl) (pv 1) (pv 5) (fun _ _ => rfl)) pe_int (fun _ _ => rfl))) (pe_dget (hu_of hr) (pv 3) (pv 5) (fun _ _ => rfl)) (nomark _))))) (pss_cons (ps_dput (hu_of hr) (pv 3) (pv 5) (pe_op op_add (pe_dget (hu_of hr) (pv 3) (pv 7) (fun _ _ => rfl)) (pe_ix (ix_tupK K rfl) (pe_ix (ix_tupK K rfl) (pv 1) (pv 5) (fun _ _ => rfl)) pe_int (fun _ _ => rfl))) (by rfl))
      (pss_one (ps_dput (hu_of hr) (pv 4) (pv 5) (pv 6) (by rfl)))) pss_nil)))))))
      (pss_one (ps_ret (pe_tup (pa_cons (pv 3) (pa_cons (pv 4) pa_nil))))))))), ?_⟩
  refine ⟨_, rfl, r, _, rfl, SqT.of er, rfl, _, _, rfl, _, _, rfl, rfl, ?_⟩
  refine fun sd nsd => fun ld nld => ?_
  have sdld : sd ≠ ld := fun z => by rw [← z, upd_same] at nld; cases nld
  have s1 : Same H (upd (upd H sd (.dK [])) ld (.dK [])) := (same_new nsd).trans (same_new nld)
  have nld0 : H ld = none := same_none (same_new nsd) nld
  refine ⟨_, rfl, r, hs, bs, rk, rfl, hR.keep (TK.same s1), by omega, by omega, ok.ends, loose, fun od ord H1 nod hod s2 soon => ?_⟩
  have lo := soon_len soon
  rw [List.length_range] at lo
  have all : ∀ k, k ∈ ord ↔ k < hs.length := fun k => ⟨fun h => List.mem_range.mp (soon_mem soon k h), fun h => soon_all soon k (List.mem_range.mpr h)⟩
  have s02 := s1.trans s2
  have odsd : od ≠ sd := fun z => by rw [z, upd_ne sdld, upd_same] at nod; cases nod
  have odld : od ≠ ld := fun z => by rw [z, upd_same] at nod; cases nod
  refine ⟨od, rfl, ⟨_, SqL.of hod⟩, for_list (K := K) (a := od) (xs := ord.map nV) (fun i σ H5 => (∃ v5 v6 v7 v8 v9 : Option V, σ = [some (.ref r), some (.ref ha), some (.ref ba), some (.ref sd), some (.ref ld), v5, v6, v7, v8, v9]) ∧ ∃ (svs lvs : List (Key × V)) (la : Nat → Option Nat), H5 sd = some (.dK svs) ∧ H5 ld = some (.dK lvs) ∧ H5 od = some (.lst (ord.map nV)) ∧ svs.map (·.1) = (ord.take i).map kN ∧ (∀ k, k ∈ ord.take i → valV svs (kN k) = some (.int (lng hs bs k))) ∧ DLa lvs la ∧ lvs.length ≤ 20 * i ∧ (∀ k, k ∈ ord.take i → LaK hs bs (lng hs bs k) k (la k)) ∧ (∀ k, k ∉ ord.take i → la k = none) ∧ Same H H5)
    ⟨⟨_, _, _, _, _, rfl⟩, [], [], fun _ => none, s2 _ _ (by rw [upd_ne sdld]; exact upd_same), s2 _ _ upd_same, hod, rfl, (fun _ z => nomatch z), (fun _ => rfl), Nat.le_refl _, (fun _ z => nomatch z), (fun _ _ => rfl), s02⟩ (fun i σ H5 _ ⟨_, _, _, _, _, _, h, _⟩ => SqL.of h) ?_ ?_⟩
  · rintro i x σ H5 hx ⟨⟨v5, v6, v7, v8, v9, rfl⟩, svs, lvs, la, hsd, hld, hod5, keys, dm, dl, ll, lak, lan, s5⟩
    rw [List.getElem?_map] at hx
    obtain ⟨k, ek⟩ : ∃ k, ord[i]? = some k := by
      cases z : ord[i]? with
      | none => rw [z] at hx; cases hx
      | some k => exact ⟨k, rfl⟩
    rw [ek] at hx
    obtain rfl : nV k = x := Option.some.inj hx
    have il := (List.getElem?_eq_some_iff.mp ek).1
    have hk : k < hs.length := (all k).mp (List.mem_of_getElem? ek)
    have knot : k ∉ ord.take i := fun z => by
      obtain ⟨m, hm⟩ := List.mem_iff_getElem?.mp z
      have ml := (List.getElem?_eq_some_iff.mp hm).1
      rw [List.length_take] at ml
      rw [List.getElem?_take_of_lt (by omega)] at hm
      have := nd_at (soon_nd soon List.nodup_range) hm ek
      omega
    have lsv : svs.length ≤ 12 := by
      have := congrArg List.length keys
      rw [List.length_map, List.length_map, List.length_take] at this
      omega
    obtain ⟨h, ehk⟩ : ∃ h, hs[k]? = some h := ⟨_, List.getElem?_eq_getElem hk⟩
    obtain ⟨y, ey, t1, t2, rfl, e1, e2⟩ := alh.get ehk
    have em := mom_at ehk
    have keyn : kN k ∉ svs.map (·.1) := by
      rw [keys]
      intro z
      obtain ⟨m, hm, e⟩ := List.mem_map.mp z
      exact knot (kN_inj e ▸ hm)
    refine ⟨_, rfl, _, rfl, ha, _, _, _, rfl, rfl, SqT.of (s5 _ _ eh), atI_nat ey, t1, _, _, _, rfl, rfl, SqT.of (s5 _ _ e1), atI_nat (j := 1) rfl, _, rfl, _, rfl, sd, _, rfl, DPut.k (k := kN k) hsd (small1000 (by omega)), ?_⟩
    have s6 : Same H (upd H5 sd (.dK (putK svs (kN k) (.int h.mom)))) := Same.own s5 nsd
    refine ⟨_, rfl, _, rfl, r, hs, bs, k, rfl, hR.keep (TK.same s6), by omega, fun cl H7 ncl hcl s7 => ?_⟩
    have s07 := s6.trans s7
    have lcm : (comingN bs k).length ≤ 20 := Nat.le_trans (filt_len _) lb
    have ncl0 : H cl = none := same_none s6 ncl
    have clsd : cl ≠ sd := fun z => by rw [z, upd_same] at ncl; cases ncl
    have clld : cl ≠ ld := fun z => by rw [z, upd_ne sdld.symm, hld] at ncl; cases ncl
    have clod : cl ≠ od := fun z => by rw [z, upd_ne odsd, hod5] at ncl; cases ncl
    refine ⟨cl, rfl, ⟨_, SqL.of hcl⟩, for_list (K := K) (a := cl) (xs := (comingN bs k).map nV) (fun j σ H8 => (∃ v6 v7 v8 v9 : Option V, σ = [some (.ref r), some (.ref ha), some (.ref ba), some (.ref sd), some (.ref ld), some (nV k), v6, v7, v8, v9]) ∧ ∃ (svs' lvs' : List (Key × V)) (cur : Int) (o : Option Nat), H8 sd = some (.dK svs') ∧ H8 ld = some (.dK lvs') ∧ H8 od = some (.lst (ord.map nV)) ∧ H8 cl = some (.lst ((comingN bs k).map nV)) ∧ svs'.map (·.1) = svs.map (·.1) ++ [kN k] ∧ (∀ m, m ∈ ord.take i → valV svs' (kN m) = some (.int (lng hs bs m))) ∧ valV svs' (kN k) = some (.int cur) ∧ DLa lvs' (fun m => if m = k then o else la m) ∧ lvs'.length ≤ 20 * i + j ∧ LaK hs bs cur k o ∧ momN hs k ≤ cur ∧ cur ≤ lng hs bs k ∧ (∀ m ∈ (comingN bs k).take j, ∀ b, bs[m]? = some b → b.th = [] → lng hs bs b.one + momN hs k ≤ cur) ∧ Same H H8)
      ⟨⟨_, _, _, _, rfl⟩, putK svs (kN k) (.int h.mom), lvs, h.mom, none, s7 _ _ upd_same, s7 _ _ (by rw [upd_ne sdld.symm]; exact hld), s7 _ _ (by rw [upd_ne odsd]; exact hod5), hcl, keys_new keyn, fun m hm => by rw [valV_put, if_neg (fun z => knot (by rw [← kN_inj z]; exact hm))]; exact dm m hm, by rw [valV_put, if_pos rfl], fun m => ?_, by omega, em.symm, by rw [em]; exact Int.le_refl _, by rw [← em]; exact lng_mom hrk he hk, (fun _ z => nomatch z), s07⟩ (fun j σ H8 _ ⟨_, _, _, _, _, _, _, _, h, _⟩ => SqL.of h) ?_ ?_⟩
    · show _ = (if m = k then none else la m).map nV
      by_cases z : m = k
      · rw [if_pos z, dl m, z, lan k knot]
      · rw [if_neg z]; exact dl m
    · rintro j x σ H8 hx ⟨⟨v6, v7, v8, v9, rfl⟩, svs', lvs', cur, o, hsd8, hld8, hod8, hcl8, keys8, dm8, dk8, dl8, ll8, lak8, c1, c2, c3, s8⟩
      rw [List.getElem?_map] at hx
      obtain ⟨n, en⟩ : ∃ n, (comingN bs k)[j]? = some n := by
        cases z : (comingN bs k)[j]? with
        | none => rw [z] at hx; cases hx
        | some n => exact ⟨n, rfl⟩
      rw [en] at hx
      obtain rfl : nV n = x := Option.some.inj hx
      have jl := (List.getElem?_eq_some_iff.mp en).1
      obtain ⟨b, eb2, hto⟩ := coming_at (List.mem_of_getElem? en)
      have hb := List.mem_of_getElem? eb2
      obtain ⟨y3, ey3, t3, g3, rfl, e3, e4⟩ := alb.get eb2
      have lsv8 : svs'.length ≤ 13 := by
        have := congrArg List.length keys8
        rw [List.length_map, List.length_append, List.length_map] at this
        simp at this
        omega
      refine ⟨_, rfl, _, rfl, ba, _, _, _, rfl, rfl, SqT.of (s8 _ _ eb), atI_nat ey3, t3, _, rfl, SqT.of (s8 _ _ e3), rfl, _, _, rfl, _, _, rfl, _, _, rfl, rfl, ?_⟩
      have step : ∀ {cur' : Int}, (b.th = [] → lng hs bs b.one + momN hs k ≤ cur') → cur ≤ cur' → ∀ m ∈ (comingN bs k).take (j + 1), ∀ b, bs[m]? = some b → b.th = [] → lng hs bs b.one + momN hs k ≤ cur' := fun h1 h2 m hm b' hb' e' => by
        rw [List.take_add_one, en] at hm
        rcases List.mem_append.mp hm with hm | hm
        · exact Int.le_trans (c3 m hm b' hb' e') h2
        · obtain rfl : m = n := by simpa using hm
          rw [eb2] at hb'
          cases hb'
          exact h1 e'
      by_cases eth : b.th = []
      · have giver : b.one ∈ ord.take i := soon_pre soon ek (hto ▸ mem_loose hb eth) (List.mem_range.mpr (he b hb).1)
        have dg := dm8 _ giver
        have nek : b.one ≠ k := fun z => knot (z ▸ giver)
        refine ⟨_, rfl, _, .inr (.inl ⟨_, SqT.of (s8 _ _ e4), rfl⟩), if_bl (fun _ => ?_) (fun z => ?_)⟩
        case refine_2 => rw [eth] at z; exact nomatch z
        refine ⟨_, rfl, _, rfl, sd, _, rfl, dget_of hsd8 dg, _, rfl, _, rfl, ha, _, _, _, rfl, rfl, SqT.of (s8 _ _ eh), atI_nat ey, t1, _, _, _, rfl, rfl, SqT.of (s8 _ _ e1), atI_nat (j := 1) rfl, _, _, rfl, rfl, _, rfl, _, rfl, sd, _, rfl, dget_of hsd8 dk8, _, _, rfl, rfl, _, rfl, if_bl (fun z => ?_) (fun z => ?_)⟩
        · have z : lng hs bs b.one + h.mom > cur := of_decide_eq_true z
          refine ⟨_, rfl, _, rfl, sd, _, rfl, dget_of hsd8 dg, _, rfl, _, rfl, ha, _, _, _, rfl, rfl, SqT.of (s8 _ _ eh), atI_nat ey, t1, _, _, _, rfl, rfl, SqT.of (s8 _ _ e1), atI_nat (j := 1) rfl, _, _, rfl, rfl, _, rfl, _, rfl, sd, _, rfl, DPut.k (k := kN k) hsd8 (small1000 (by omega)), ?_⟩
          have hld9 : upd H8 sd (.dK (putK svs' (kN k) (.int (lng hs bs b.one + h.mom)))) ld = some (.dK lvs') := by rw [upd_ne sdld.symm]; exact hld8
          refine ⟨_, rfl, _, rfl, _, rfl, ld, _, rfl, DPut.k (k := kN k) hld9 (small1000 (by omega)), ?_⟩
          have pl := putK_le lvs' (kN k) (nV n)
          have kin : kN k ∈ svs'.map (·.1) := by rw [keys8]; exact List.mem_append_right _ (List.mem_singleton.mpr rfl)
          refine ⟨⟨_, _, _, _, rfl⟩, putK svs' (kN k) (.int (lng hs bs b.one + h.mom)), putK lvs' (kN k) (nV n), lng hs bs b.one + h.mom, some n, by rw [upd_ne sdld]; exact upd_same, upd_same, by rw [upd_ne odld, upd_ne odsd]; exact hod8, by rw [upd_ne clld, upd_ne clsd]; exact hcl8, by rw [keys_old kin]; exact keys8, fun m hm => by rw [valV_put, if_neg (fun z => knot (by rw [← kN_inj z]; exact hm))]; exact dm8 m hm, by rw [valV_put, if_pos rfl], fun m => ?_, by omega, ⟨b, eb2, hto, eth, by rw [em]⟩, by omega, ?_, step (fun _ => by rw [em]; exact Int.le_refl _) (by omega), Same.own (Same.own s8 nsd) nld0⟩
          · have := dl8.put k n m
            rw [this]
            show (if m = k then some n else if m = k then o else la m).map nV = (if m = k then some n else la m).map nV
            by_cases y : m = k
            · rw [if_pos y, if_pos y]
            · rw [if_neg y, if_neg y, if_neg y]
          · have := lng_belt hrk he hb eth
            rw [hto, em] at this
            exact this
        · have z : ¬ lng hs bs b.one + h.mom > cur := of_decide_eq_false z
          exact ⟨⟨_, _, _, _, rfl⟩, svs', lvs', cur, o, hsd8, hld8, hod8, hcl8, keys8, dm8, dk8, dl8, by omega, lak8, c1, c2, step (fun _ => by rw [em]; omega) (Int.le_refl _), s8⟩
      · refine ⟨_, rfl, _, .inr (.inl ⟨_, SqT.of (s8 _ _ e4), rfl⟩), if_bl (fun z => ?_) (fun _ => ?_)⟩
        · cases th : b.th with
          | nil => exact absurd th eth
          | cons y l => rw [th] at z; exact nomatch z
        · exact ⟨⟨_, _, _, _, rfl⟩, svs', lvs', cur, o, hsd8, hld8, hod8, hcl8, keys8, dm8, dk8, dl8, by omega, lak8, c1, c2, step (fun z => absurd z eth) (Int.le_refl _), s8⟩
    · rintro σ H8 ⟨⟨v6, v7, v8, v9, rfl⟩, svs', lvs', cur, o, hsd8, hld8, hod8, hcl8, keys8, dm8, dk8, dl8, ll8, lak8, c1, c2, c3, s8⟩
      rw [List.length_map, List.take_length] at c3
      rw [List.length_map] at ll8
      have ec : cur = lng hs bs k := by
        refine Int.le_antisymm c2 ?_
        rcases lng_is hrk he hk with z | ⟨b, hb, z1, z2, z3⟩
        · rw [z]; exact c1
        · obtain ⟨m, hm⟩ := List.mem_iff_getElem?.mp hb
          rw [z3]
          exact c3 m ((mem_coming hm).mpr z1) b hm z2
      subst ec
      have tk : ord.take (i + 1) = ord.take i ++ [k] := by rw [List.take_add_one, ek]; rfl
      refine ⟨⟨_, _, _, _, _, rfl⟩, svs', lvs', fun m => if m = k then o else la m, hsd8, hld8, hod8, by rw [keys8, keys, tk, List.map_append]; rfl, fun m hm => ?_, dl8, by omega, fun m hm => ?_, fun m hm => ?_, s8⟩
      · rw [tk] at hm
        rcases List.mem_append.mp hm with hm | hm
        · exact dm8 m hm
        · rw [List.mem_singleton.mp hm]; exact dk8
      · rw [tk] at hm
        show LaK hs bs (lng hs bs m) m (if m = k then o else la m)
        rcases List.mem_append.mp hm with hm | hm
        · rw [if_neg (fun z : m = k => knot (by rw [← z]; exact hm))]
          exact lak m hm
        · rw [List.mem_singleton.mp hm, if_pos rfl]
          exact lak8
      · rw [tk] at hm
        show (if m = k then o else la m) = none
        rw [if_neg (fun z : m = k => hm (List.mem_append_right _ (List.mem_singleton.mpr z)))]
        exact lan m (fun z => hm (List.mem_append_left _ z))
  · rintro σ H5 ⟨⟨v5, v6, v7, v8, v9, rfl⟩, svs, lvs, la, hsd, hld, hod5, keys, dm, dl, ll, lak, lan, s5⟩
    rw [List.length_map, List.take_length] at keys dm lak
    refine ⟨_, rfl, _, rfl, (by show 2 ≤ sizeLine; decide), fun p np => ?_⟩
    exact q p sd ld svs lvs ord la _ upd_same ⟨same_new np _ _ hsd, same_new np _ _ hld, keys, dm, dl, lak, all, lo⟩ (s5.trans (same_new np))
/-- the way back over the belts of last -/
def spb1 (K : PySem.W.Frag) : Sp := fun vs H Q _ => ∃ (r ld : Addr) (hs : List HR) (bs : List BR) (one e : Nat) (c : Co) (lvs : List (Key × V)) (la : Nat → Option Nat), vs = [.ref r, nV e, .ref ld] ∧ RoomAt H r hs bs ∧ RoomOk hs bs ∧ one < hs.length ∧ Told hs bs one H ld lvs la ∧ best hs bs one e = some c ∧
  ∀ (p : Addr) (ns : List Nat) (H' : Hp), WayAt H' p one ns → wayEnd bs one ns = some e → wayCo hs bs one ns = c → ns.length ≤ hs.length → Same H H' → Q (.ref p) H'
def spb2 (K : PySem.W.Frag) : Sp := fun vs H Q _ => ∃ (r ld : Addr) (hs : List HR) (bs : List BR) (e : Nat) (lvs : List (Key × V)) (la : Nat → Option Nat), vs = [.ref r, nV e, .ref ld] ∧ RoomAt H r hs bs ∧ RoomOk hs bs ∧ e < hs.length ∧ H ld = some (.dK lvs) ∧ DLa lvs la ∧ (∀ k, k < hs.length → LaK hs bs (lng hs bs k) k (la k)) ∧
  ∀ (p : Addr) (k : Nat) (ns : List Nat) (H' : Hp), WayAt H' p k ns → k < hs.length → (∀ n ∈ ns, n < bs.length) → wayEnd bs k ns = some e → (∀ n ∈ ns, trB bs n = 0) → momW hs bs k ns = lng hs bs e → ns.length ≤ hs.length → Same H H' → Q (.ref p) H'
def sp_way_back (K : PySem.W.Frag) : Sp := fun vs H Q E => spb1 K vs H Q E ∨ spb2 K vs H Q E
theorem ok_way_back {f : Addr} {fd : FuncData} (F : Fun K "way_back" "way_back" s_way_back f fd) (T : Top K mg) : FnOk P w K mg base CX0 1 f fd ["room", "end", "last"] (sp_way_back K) := by
  refine F.ok sc_way_back (fun vs H Q E h => ?_) (fun cdv A outer s H vs Q E hr h => ?_)
  · rcases h with ⟨r, ld, hs, bs, one, e, c, lvs, la, rfl, _⟩ | ⟨r, ld, hs, bs, e, lvs, la, rfl, _⟩ <;> rfl
  rcases h with h | h
  · obtain ⟨r, ld, hs, bs, one, e, ce, lvs, la, rfl, hR, ok, ho, ⟨hld, dl, L⟩, he, q⟩ := h
    obtain ⟨ha, ba, hv, bv, er, eh, eb, alh, alb⟩ := hR.ex
    have lh := ok.hands
    obtain ⟨rk, hrk⟩ := ok.rank
    have hto : ∀ b ∈ bs, b.to < hs.length := fun b hb => (ok.ends b hb).2
    have stb := stab_at (hs := hs) hrk hto ho (Nat.le_refl _)
    refine ⟨_, (pss_cons (ps_set (i := 3) sc_way_back.nd rfl (Or.inl rfl) (pe_lst pa_nil))
      (pss_cons (ps_set (i := 4) sc_way_back.nd rfl (Or.inl rfl) (pv 1))
      (pss_cons (ps_while PassesOwn.never (pt_cmp (pc_din (hu_of hr) (pv 4) (pv 2)) (by with_unfolding_all rfl))
        (pss_cons (ps_expr (pe_bmK K rfl PySem.F.plainAttrs_list PySem.F.slot_list_append PySem.F.type_list_append mt_append (pv 3) (pa_cons (pe_dget (hu_of hr) (pv 2) (pv 4) (fun _ _ => rfl)) pa_nil)))
      (pss_one (ps_set (i := 4) sc_way_back.nd rfl (Or.inl rfl) (pe_ix (ix_tupK K rfl) (pe_ix (ix_tupK K rfl) (pe_ix (ix_tupK K rfl) (pv 0) pe_int (fun _ _ => rfl)) (pe_dget (hu_of hr) (pv 2) (pv 4) (fun _ _ => rfl)) (fun _ _ => rfl)) pe_int (fun _ _ => rfl))))))
      (pss_one (ps_ret (pe_tup (pa_cons (pv 4) (pa_cons (pe_callTy (call_tuple_ofK K rfl) (by rfl) T.m_tuple (by decide +kernel) (pa_cons (pe_revLK K rfl (pv 3)) pa_nil)) pa_nil)))))))), ?_⟩
    refine ⟨(by show 0 ≤ sizeLine; decide), fun nl nnl => ?_⟩
    refine ⟨_, rfl, ?_⟩
    refine ⟨fun m σ H2 => ∃ (k : Nat) (ns : List Nat) (c : Co), σ = [some (.ref r), some (nV e), some (.ref ld), some (.ref nl), some (nV k)] ∧ H2 nl = some (.lst (ns.reverse.map nV)) ∧ wayEnd bs k ns = some e ∧ best hs bs one k = some c ∧ c.1 + (ns.map (trB bs)).sum = ce.1 ∧ c.2 + (ns.map fun n => momH hs (toB bs n)).sum = ce.2 ∧ ns.length + m ≤ hs.length ∧ m = meas rk (best hs bs one) hs.length k ∧ Same H H2,
      ⟨_, e, [], ce, rfl, upd_same, rfl, he, by show ce.1 + 0 = ce.1; omega, by show ce.2 + 0 = ce.2; omega, by show 0 + _ ≤ _; have := meas_le (rk := rk) (cf := best hs bs one) (n := hs.length) (k := e); omega, rfl, same_new nnl⟩, ?_⟩
    rintro m σ H2 ⟨k, ns, c, rfl, hnl, we, hk, t1, t2, ln, rfl, s2⟩
    refine ⟨_, rfl, _, rfl, ld, _, rfl, dget_of (s2 _ _ hld) (dl k), _, rfl, ?_⟩
    cases elk : la k with
    | none =>
      refine if_bl (fun z => nomatch z) (fun _ => ?_)
      have k1 : k = one := by
        rcases L.has k c hk with z | z
        · exact z
        · rw [elk] at z; cases z
      subst k1
      rw [best_one hrk] at hk
      cases hk
      refine ⟨_, rfl, _, rfl, nl, _, rfl, SqL.of hnl, fun l2 nl2 => ⟨l2, _, rfl, .inl ⟨SqL.of upd_same, fun p np => ⟨(by show 2 ≤ sizeLine; decide), fun p2 np2 => ?_⟩⟩⟩⟩
      refine q p2 ns _ ⟨p, upd_same, ?_⟩ we ?_ (by omega) (((s2.trans (same_new nl2)).trans (same_new np)).trans (same_new np2))
      · rw [same_new np2 _ _ upd_same, ← List.map_reverse, List.reverse_reverse]
      · refine Prod.ext ?_ ?_
        · show (ns.map (trB bs)).sum = ce.1
          omega
        · show momH hs k + _ = ce.2
          omega
    | some n =>
      refine if_bl (fun _ => ?_) (fun z => nomatch z)
      obtain ⟨b, c', d, ebn, ebt, h1, h2, h3⟩ := L.go k n elk
      have hb := List.mem_of_getElem? ebn
      rw [hk] at h2
      cases h2
      obtain ⟨d', h4, h5⟩ := stb b hb c' h1
      rw [ebt] at h4
      have h4 : best hs bs one k = some d' := h4
      rw [hk] at h4
      cases h4
      have ec := h5.antisymm h3
      have dn : valV lvs (kN k) = some (nV n) := by rw [dl k, elk]; rfl
      have lt := meas_lt (n := hs.length) (best_lt hto ho h1) (last_lt hrk (mom_le ok.good) hb ebt h1 hk h3)
      refine ⟨_, fun σ' H' h => h, ?_⟩
      refine ⟨_, rfl, .inl ⟨rfl, _, SqL.of hnl⟩, _, rfl, _, rfl, ld, _, rfl, dget_of (s2 _ _ hld) dn, nl, _, _, rfl, rfl, hnl, by rw [List.length_map, List.length_reverse]; exact small1000 (by omega), ?_⟩
      have s3 : Same H (upd H2 nl (.lst (ns.reverse.map nV ++ [nV n]))) := Same.own s2 nnl
      obtain ⟨x, ex, ⟨t2', g2, rfl, e1, e2⟩⟩ := alb.get ebn
      refine ⟨_, rfl, r, _, _, _, rfl, rfl, SqT.of (s3 _ _ er), atI_nat (j := 1) rfl, _, rfl, _, rfl, ld, _, rfl, dget_of (s3 _ _ hld) dn, ba, _, _, _, rfl, rfl, SqT.of (s3 _ _ eb), atI_nat ex, t2', _, _, _, rfl, rfl, SqT.of (s3 _ _ e1), atI_nat (j := 0) rfl, ?_⟩
      obtain ⟨w1, w2⟩ := wayCo_cons (hs := hs) (k := k) (ns := ns) ebn
      have ec1 : c.1 = c'.1 + (b.th.length : Int) := by rw [ec]; rfl
      have ec2 : c.2 = c'.2 + momH hs b.to := by rw [ec]; rfl
      refine ⟨_, lt, b.one, n :: ns, c', rfl, ?_, ?_, h1, by rw [w1]; omega, by rw [w2]; omega, by rw [List.length_cons]; omega, rfl, s3⟩
      · rw [upd_same, List.reverse_cons, List.map_append]; rfl
      · rw [wayEnd_cons ebn, if_pos rfl, ebt]; exact we
  · obtain ⟨r, ld, hs, bs, e, lvs, la, rfl, hR, ok, hE, hld, dl, lak, q⟩ := h
    obtain ⟨ha, ba, hv, bv, er, eh, eb, alh, alb⟩ := hR.ex
    have lh := ok.hands
    obtain ⟨rk, hrk⟩ := ok.rank
    refine ⟨_, (pss_cons (ps_set (i := 3) sc_way_back.nd rfl (Or.inl rfl) (pe_lst pa_nil))
      (pss_cons (ps_set (i := 4) sc_way_back.nd rfl (Or.inl rfl) (pv 1))
      (pss_cons (ps_while PassesOwn.never (pt_cmp (pc_din (hu_of hr) (pv 4) (pv 2)) (by with_unfolding_all rfl))
        (pss_cons (ps_expr (pe_bmK K rfl PySem.F.plainAttrs_list PySem.F.slot_list_append PySem.F.type_list_append mt_append (pv 3) (pa_cons (pe_dget (hu_of hr) (pv 2) (pv 4) (fun _ _ => rfl)) pa_nil)))
      (pss_one (ps_set (i := 4) sc_way_back.nd rfl (Or.inl rfl) (pe_ix (ix_tupK K rfl) (pe_ix (ix_tupK K rfl) (pe_ix (ix_tupK K rfl) (pv 0) pe_int (fun _ _ => rfl)) (pe_dget (hu_of hr) (pv 2) (pv 4) (fun _ _ => rfl)) (fun _ _ => rfl)) pe_int (fun _ _ => rfl))))))
      (pss_one (ps_ret (pe_tup (pa_cons (pv 4) (pa_cons (pe_callTy (call_tuple_ofK K rfl) (by rfl) T.m_tuple (by decide +kernel) (pa_cons (pe_revLK K rfl (pv 3)) pa_nil)) pa_nil)))))))), ?_⟩
    refine ⟨(by show 0 ≤ sizeLine; decide), fun nl nnl => ?_⟩
    refine ⟨_, rfl, ?_⟩
    refine ⟨fun m σ H2 => ∃ (k : Nat) (ns : List Nat), σ = [some (.ref r), some (nV e), some (.ref ld), some (.ref nl), some (nV k)] ∧ H2 nl = some (.lst (ns.reverse.map nV)) ∧ k < hs.length ∧ (∀ n ∈ ns, n < bs.length) ∧ wayEnd bs k ns = some e ∧ (∀ n ∈ ns, trB bs n = 0) ∧ lng hs bs k + (ns.map fun n => momH hs (toB bs n)).sum = lng hs bs e ∧ m = dep rk hs.length k ∧ ns.length + m ≤ hs.length ∧ Same H H2,
      ⟨_, e, [], rfl, upd_same, hE, (fun _ z => nomatch z), rfl, (fun _ z => nomatch z), by show lng hs bs e + 0 = _; omega, rfl, by show 0 + _ ≤ _; have := dep_le (rk := rk) (n := hs.length) (k := e); omega, same_new nnl⟩, ?_⟩
    rintro m σ H2 ⟨k, ns, rfl, hnl, hk, hn, we, tr, mm, rfl, ln, s2⟩
    refine ⟨_, rfl, _, rfl, ld, _, rfl, dget_of (s2 _ _ hld) (dl k), _, rfl, ?_⟩
    have lk := lak k hk
    cases elk : la k with
    | none =>
      rw [elk] at lk
      refine if_bl (fun z => nomatch z) (fun _ => ?_)
      have lk : lng hs bs k = momN hs k := lk
      refine ⟨_, rfl, _, rfl, nl, _, rfl, SqL.of hnl, fun rv nrv => ⟨rv, _, rfl, .inl ⟨SqL.of upd_same, fun tp ntp => ⟨(by show 2 ≤ sizeLine; decide), fun p np => ?_⟩⟩⟩⟩
      have s5 := ((same_new (o := .lst (ns.reverse.map nV).reverse) nrv).trans (same_new (o := .tup (ns.reverse.map nV).reverse) ntp)).trans (same_new (o := .tup [nV k, .ref tp]) np)
      refine q p k ns _ ⟨tp, upd_same, ?_⟩ hk hn we tr ?_ (by omega) (s2.trans s5)
      · rw [same_new np _ _ upd_same, ← List.map_reverse, List.reverse_reverse]
      · rw [← mm, lk]
        rfl
    | some n =>
      rw [elk] at lk
      refine if_bl (fun _ => ?_) (fun z => nomatch z)
      obtain ⟨b, ebn, hto, eth, lv⟩ := lk
      have hb := List.mem_of_getElem? ebn
      have nb := (List.getElem?_eq_some_iff.mp ebn).1
      obtain ⟨y, ey, t1, g1, rfl, e1, e2⟩ := alb.get ebn
      have dv : valV lvs (kN k) = some (nV n) := by rw [dl k, elk]; rfl
      have one := (ok.ends b hb).1
      have dlt := dep_lt (n := hs.length) one (hto ▸ hrk b hb eth)
      refine ⟨fun σ' H' => ∃ m', m' < dep rk hs.length k ∧ ∃ (k' : Nat) (ns' : List Nat), σ' = [some (.ref r), some (nV e), some (.ref ld), some (.ref nl), some (nV k')] ∧ H' nl = some (.lst (ns'.reverse.map nV)) ∧ k' < hs.length ∧ (∀ n ∈ ns', n < bs.length) ∧ wayEnd bs k' ns' = some e ∧ (∀ n ∈ ns', trB bs n = 0) ∧ lng hs bs k' + (ns'.map fun n => momH hs (toB bs n)).sum = lng hs bs e ∧ m' = dep rk hs.length k' ∧ ns'.length + m' ≤ hs.length ∧ Same H H', fun σ' H' h => h, ?_⟩
      have lnr : (ns.reverse.map nV).length ≤ 12 := by rw [List.length_map, List.length_reverse]; omega
      refine ⟨_, rfl, .inl ⟨rfl, _, SqL.of hnl⟩, _, rfl, _, rfl, ld, _, rfl, dget_of (s2 _ _ hld) dv, nl, _, _, rfl, rfl, hnl, small1000 (by omega), ?_⟩
      have s3 : Same H (upd H2 nl (.lst (ns.reverse.map nV ++ [nV n]))) := Same.own s2 nnl
      refine ⟨_, rfl, r, _, _, _, rfl, rfl, SqT.of (s3 _ _ er), atI_nat (j := 1) rfl, _, rfl, _, rfl, ld, _, rfl, dget_of (s3 _ _ hld) dv, ba, _, _, _, rfl, rfl, SqT.of (s3 _ _ eb), atI_nat ey, t1, _, _, _, rfl, rfl, SqT.of (s3 _ _ e1), atI_nat (j := 0) rfl, ?_⟩
      have et : toB bs n = k := by unfold toB; rw [ebn]; exact hto
      refine ⟨_, dlt, b.one, n :: ns, rfl, ?_, one, ?_, ?_, ?_, ?_, rfl, by rw [List.length_cons]; omega, s3⟩
      · rw [upd_same, List.reverse_cons, List.map_append]; rfl
      · intro x hx
        rcases List.mem_cons.mp hx with rfl | hx
        · exact nb
        · exact hn x hx
      · rw [wayEnd_cons ebn, if_pos rfl, hto]; exact we
      · intro x hx
        rcases List.mem_cons.mp hx with rfl | hx
        · have : trB bs x = (b.th.length : Int) := by unfold trB; rw [ebn]
          rw [this, eth]; rfl
        · exact tr x hx
      · rw [List.map_cons, List.sum_cons, et]
        have : momH hs k = momN hs k := rfl
        omega
def sp_least_between (K : PySem.W.Frag) : Sp := fun vs H Q _ => ∃ (r : Addr) (hs : List HR) (bs : List BR) (one e : Nat), vs = [.ref r, nV one, nV e] ∧ RoomAt H r hs bs ∧ RoomOk hs bs ∧ one < hs.length ∧
  (∀ H', best hs bs one e = none → Same H H' → Q .non H') ∧ ∀ (p : Addr) (c : Co) (H' : Hp), best hs bs one e = some c → H' p = some (.tup [.int c.1, .int c.2]) → Same H H' → Q (.ref p) H'
theorem ok_least_between {f : Addr} {fd : FuncData} (F : Fun K "least_between" "least_between" s_least_between f fd) (T : Top K mg) : FnOk P w K mg base CX0 2 f fd ["room", "one", "other"] (sp_least_between K) := by
  obtain ⟨f_least_costs, fd_least_costs, F_least_costs, b_least_costs, m_least_costs⟩ := T.d_least_costs
  have G_least_costs := ok_least_costs (P := P) (w := w) (base := base) F_least_costs T
  refine F.ok sc_least_between (fun vs H Q E h => ?_) (fun cdv A outer s H vs Q E hr h => ?_)
  · obtain ⟨r, hs, bs, one, e, rfl, _⟩ := h
    rfl
  obtain ⟨r, hs, bs, one, e, rfl, hR, ok, ho, q1, q2⟩ := h
  refine ⟨_, (pss_cons (ps_asg (pe_call G_least_costs (hr.mono (by decide)) (by rfl) m_least_costs F_least_costs.kp b_least_costs .nil pass0 (pa_cons (pv 0) (pa_cons (pv 1) pa_nil))) (pg_tupK K rfl rfl (pgs_cons (pg_name (i := 3) sc_least_between.nd rfl (Or.inl rfl)) (pgs_cons (pg_name (i := 4) sc_least_between.nd rfl (Or.inl rfl)) pgs_nil))))
      (pss_cons (ps_if (pt_cmp (pc_dnotin (hu_of hr) (pv 2) (pv 3)) (by with_unfolding_all rfl)) (pss_one (ps_ret pe_non)) pss_nil)
      (pss_cons (ps_asg (pe_dget (hu_of hr) (pv 3) (pv 2) (fun _ _ => rfl)) (pg_tupK K rfl rfl (pgs_cons (pg_name (i := 5) sc_least_between.nd rfl (Or.inl rfl)) (pgs_cons (pg_name (i := 6) sc_least_between.nd rfl (Or.inl rfl)) pgs_nil))))
      (pss_one (ps_ret (pe_tup (pa_cons (pv 5) (pa_cons (pe_un un_neg (pv 6)) pa_nil)))))))), ?_⟩
  refine ⟨_, rfl, _, rfl, r, hs, bs, one, rfl, hR, ok, ho, fun p cd ld kvs lvs la H1 hp hcd dc hld dl L s1 => ?_⟩
  refine ⟨p, _, rfl, SqT.of hp, rfl, _, _, rfl, _, _, rfl, rfl, ?_⟩
  rcases dc e with ⟨d1, d2⟩ | ⟨c, v, d1, d2, tc, rfl, htc⟩
  · exact ⟨_, rfl, _, rfl, cd, _, rfl, dget_of hcd d2, _, rfl, if_bl (fun _ => q1 _ d1 s1) (fun z => nomatch z)⟩
  · refine ⟨_, rfl, _, rfl, cd, _, rfl, dget_of hcd d2, _, rfl, if_bl (fun z => nomatch z) (fun _ => ?_)⟩
    refine ⟨_, rfl, _, rfl, cd, _, rfl, dget_of hcd d2, tc, _, rfl, SqT.of htc, rfl, _, _, rfl, _, _, rfl, rfl, ?_⟩
    refine ⟨_, rfl, _, rfl, _, rfl, (by show 2 ≤ sizeLine; decide), fun p2 np2 => q2 p2 c _ d1 ?_ (s1.trans (same_new np2))⟩
    rw [upd_same]
    show some (HO.tup [V.int c.1, V.int (- -c.2)]) = _
    rw [Int.neg_neg]
def NoWay (hs : List HR) (bs : List BR) (H : Hp) (v : V) : Prop := (hs = [] ∧ v = .non) ∨ ∃ (p : Addr) (k e : Nat) (ns : List Nat), v = .ref p ∧ WayAt H p k ns ∧ k < hs.length ∧ e < hs.length ∧ (∀ n ∈ ns, n < bs.length) ∧ wayEnd bs k ns = some e ∧ (∀ n ∈ ns, trB bs n = 0) ∧ momW hs bs k ns = lng hs bs e ∧ ns.length ≤ hs.length ∧ ∀ j, j < hs.length → lng hs bs j ≤ lng hs bs e
def sp_long_way (K : PySem.W.Frag) (PT : Addr) : Sp := fun vs H Q _ => ∃ (r : Addr) (hs : List HR) (bs : List BR), vs = [.ref r] ∧ RoomAt H r hs bs ∧ RoomOk hs bs ∧ LamX.Tabs (TL PT) H ∧
  ∀ (v : V) (H' : Hp), NoWay hs bs H' v → LamX.ExtN H H' → LamX.Tabs (TL PT) H' → Q v H'
variable {cT PT : Addr} [TLI : TabL K mg base cT PT]
include TLI
theorem ok_long_way {f : Addr} {fd : FuncData} (F : Fun K "long_way" "long_way" s_long_way f fd) (hcd : fd.code = .ref cT) (T : Top K mg) : FnOk P w K mg base CX0 3 f fd ["room"] (sp_long_way K PT) := by
  obtain ⟨f_long_sums, fd_long_sums, F_long_sums, b_long_sums, m_long_sums⟩ := T.d_long_sums
  have G_long_sums := ok_long_sums (P := P) (w := w) (base := base) F_long_sums T
  obtain ⟨f_way_back, fd_way_back, F_way_back, b_way_back, m_way_back⟩ := T.d_way_back
  have G_way_back := ok_way_back (P := P) (w := w) (base := base) F_way_back T
  refine ok_code F hcd sc_long_way (fun vs H Q E h => ?_) (fun A outer s H vs Q E hr h => ?_)
  · obtain ⟨r, hs, bs, rfl, _⟩ := h
    rfl
  obtain ⟨r, hs, bs, rfl, hR, ok, tabs, q⟩ := h
  obtain ⟨ha, ba, hv, bv, er, eh, eb, alh, alb⟩ := hR.ex
  have lhv := alh.length
  have lh := ok.hands
  refine ⟨_, (pss_cons (ps_if (pt_not (pt_truthK K rfl (pe_ix (ix_tupK K rfl) (pv 0) pe_int (fun _ _ => rfl)) (by intro _; rfl))) (pss_one (ps_ret pe_non)) pss_nil)
      (pss_cons (ps_asg (pe_call G_long_sums (hr.mono (by decide)) (by rfl) m_long_sums F_long_sums.kp b_long_sums .nil pass0 (pa_cons (pv 0) pa_nil)) (pg_tupK K rfl rfl (pgs_cons (pg_name (i := 1) sc_long_way.nd rfl (Or.inr rfl)) (pgs_cons (pg_name (i := 2) sc_long_way.nd rfl (Or.inl rfl)) pgs_nil))))
      (pss_cons (ps_set (i := 3) sc_long_way.nd rfl (Or.inl rfl) (pe_maxLam (T := TL PT) K rfl rfl hr (by decide) (by rfl) T.m_max TLI.tb rfl (List.mem_singleton.mpr rfl) (fun q hq _ => by rw [List.mem_singleton.mp hq]; rfl) rfl (free_one rfl rfl) ⟨fun _ _ _ _ _ _ => rfl, rfl, rfl, rfl, rfl, by decide⟩ (body_dict (i := 1) ⟨rfl, .inr (.inl rfl), (fun z => nomatch (show (some NameKind.cell : Option NameKind) = some NameKind.local from z)), rfl, rfl, rfl, fun _ => rfl, by decide, by decide, by decide⟩ (fun _ _ => rfl)) (pe_callTy (call_list_dK rfl) (by rfl) T.m_list (by decide +kernel) (pa_cons (pv 1) pa_nil))))
      (pss_one (ps_ret (pe_call G_way_back (hr.mono (by decide)) (by rfl) m_way_back F_way_back.kp b_way_back .nil pass0 (pa_cons (pv 0) (pa_cons (pv 3) (pa_cons (pv 2) pa_nil))))))))), ?_⟩
  refine ⟨_, rfl, r, _, _, _, rfl, rfl, SqT.of er, atI_nat (j := 0) rfl, _, .inr (.inl ⟨_, SqT.of eh, rfl⟩), if_bl (fun z => ?_) (fun z => ?_)⟩
  · have e0 : hs = [] := by
      cases hv with
      | nil => exact List.eq_nil_of_length_eq_zero lhv.symm
      | cons x l => exact nomatch z
    exact q _ _ (.inl ⟨e0, rfl⟩) (LamX.ExtN.refl H) tabs
  have h0 : 0 < hs.length := by
    cases hv with
    | nil => exact nomatch z
    | cons x l => rw [← lhv]; exact Nat.succ_pos _
  refine ⟨_, rfl, r, hs, bs, rfl, hR, ok, fun p sd ld svs lvs ord la H1 hp D s1 => ?_⟩
  refine ⟨p, _, rfl, SqT.of hp, rfl, _, _, rfl, _, _, rfl, rfl, ?_⟩
  refine ⟨_, rfl, sd, svs, rfl, D.hs_, fun ql nql => ?_⟩
  have s2 := same_new (H := H1) (o := .lst (svs.map fun kv => kV kv.1)) nql
  have eks : (svs.map fun kv => kV kv.1) = (ord.map fun n => ((n : Nat) : Int)).map V.int := by
    have := congrArg (List.map kV) D.keys
    rw [List.map_map, List.map_map] at this
    rw [List.map_map]
    exact this
  have hql : upd H1 ql (.lst (svs.map fun kv => kV kv.1)) ql = some (.lst ((ord.map fun n => ((n : Nat) : Int)).map V.int)) := by rw [upd_same, eks]
  refine ⟨ql, ord.map fun n => ((n : Nat) : Int), fun z => lng hs bs z.toNat, rfl, SqL.of hql, by rw [List.length_map, D.len]; exact h0, tabs_same tabs (s1.trans s2), fun H3 ext tabs3 => ⟨SqL.of (ExtN.lst ext hql), fun n hn => ?_, fun m hm hg => ?_⟩⟩
  · obtain ⟨j, hj, rfl⟩ := List.mem_map.mp hn
    refine ⟨sd, svs, rfl, ExtN.dic ext (s2 _ _ D.hs_), ?_⟩
    show valV svs (kN j) = some (.int (lng hs bs ((j : Nat) : Int).toNat))
    rw [Int.toNat_natCast]
    exact D.dm j hj
  · obtain ⟨e, he, rfl⟩ := List.mem_map.mp hm
    have el := (D.all e).mp he
    have ex2 : LamX.ExtN H H3 := (ExtN.same (s1.trans s2)).trans ext
    refine ⟨_, rfl, _, rfl, _, rfl, .inr ⟨r, ld, hs, bs, e, lvs, la, rfl, hR.keep (ExtN.tk ex2), ok, el, ExtN.dic ext (s2 _ _ D.hl), D.dl, fun k hk => D.la k ((D.all k).mpr hk), fun p4 k ns H4 hp4 hk hn we tr mm ln s4 => ?_⟩⟩
    refine q _ _ (.inr ⟨p4, k, e, ns, rfl, hp4, hk, el, hn, we, tr, mm, ln, fun j hj => ?_⟩) (ex2.trans (ExtN.same s4)) (tabs_same tabs3 s4)
    have := hg ((j : Nat) : Int) (List.mem_map.mpr ⟨j, (D.all j).mpr hj, rfl⟩)
    simpa using this
/-- the time of a room -/
def timeR (hs : List HR) (bs : List BR) (v : Int) : Prop := (hs = [] ∧ v = 0) ∨ ∃ e, e < hs.length ∧ v = lng hs bs e ∧ ∀ j, j < hs.length → lng hs bs j ≤ lng hs bs e
theorem timeR.one {hs : List HR} {bs : List BR} {u v : Int} (a : timeR hs bs u) (b : timeR hs bs v) : u = v := by
  rcases a with ⟨a, rfl⟩ | ⟨e, he, rfl, ge⟩
  · rcases b with ⟨_, rfl⟩ | ⟨e, he, _⟩
    · rfl
    · rw [a] at he; exact absurd he (Nat.not_lt_zero _)
  · rcases b with ⟨b, _⟩ | ⟨e2, he2, rfl, ge2⟩
    · rw [b] at he; exact absurd he (Nat.not_lt_zero _)
    · exact Int.le_antisymm (ge2 e he) (ge e2 he2)
def sp_time_of (K : PySem.W.Frag) (PT : Addr) : Sp := fun vs H Q _ => ∃ (r : Addr) (hs : List HR) (bs : List BR), vs = [.ref r] ∧ RoomAt H r hs bs ∧ RoomOk hs bs ∧ LamX.Tabs (TL PT) H ∧
  ∀ (v : Int) (H' : Hp), timeR hs bs v → LamX.ExtN H H' → LamX.Tabs (TL PT) H' → Q (.int v) H'
theorem ok_time_of {f : Addr} {fd : FuncData} (F : Fun K "time_of" "time_of" s_time_of f fd) (T : Top K mg) : FnOk P w K mg base CX0 4 f fd ["room"] (sp_time_of K PT) := by
  obtain ⟨f_long_way, fd_long_way, F_long_way, b_long_way, m_long_way⟩ := T.d_long_way
  have G_long_way := ok_long_way (P := P) (w := w) (base := base) F_long_way (TLI.cd _ _ F_long_way m_long_way) T
  obtain ⟨f_moments_on, fd_moments_on, F_moments_on, b_moments_on, m_moments_on⟩ := T.d_moments_on
  have G_moments_on := ok_moments_on (P := P) (w := w) (base := base) F_moments_on T
  refine F.ok sc_time_of (fun vs H Q E h => ?_) (fun cdv A outer s H vs Q E hr h => ?_)
  · obtain ⟨r, hs, bs, rfl, _⟩ := h
    rfl
  obtain ⟨r, hs, bs, rfl, hR, ok, tabs, q⟩ := h
  refine ⟨_, (pss_cons (ps_set (i := 1) sc_time_of.nd rfl (Or.inl rfl) (pe_call G_long_way (hr.mono (by decide)) (by rfl) m_long_way F_long_way.kp b_long_way .nil pass0 (pa_cons (pv 0) pa_nil)))
      (pss_one (ps_ret (pe_ifExp (pt_cmpR op_isN (pv 1) pe_non (nomark _)) pe_int (pe_call G_moments_on (hr.mono (by decide)) (by rfl) m_moments_on F_moments_on.kp b_moments_on .nil pass0 (pa_cons (pv 0) (pa_cons (pv 1) pa_nil))))))), ?_⟩
  refine ⟨_, rfl, r, hs, bs, rfl, hR, ok, tabs, fun v H1 nw ext tabs1 => ?_⟩
  rcases nw with ⟨e0, rfl⟩ | ⟨p, k, e, ns, rfl, hp, hk, he, hn, we, tr, mm, ln, ge⟩
  · refine ⟨_, rfl, rfl, _, rfl, if_bl (fun _ => ?_) (fun z => absurd rfl (of_decide_eq_false z))⟩
    exact q _ _ (.inl ⟨e0, rfl⟩) ext tabs1
  · refine ⟨_, rfl, rfl, _, rfl, if_bl (fun z => absurd (of_decide_eq_true z) (fun y => nomatch y)) (fun _ => ?_)⟩
    have lh := ok.hands
    refine ⟨_, rfl, _, rfl, r, p, hs, bs, k, ns, rfl, hR.keep (ExtN.tk ext), fun b hb => (ok.ends b hb).2, hp, hk, hn, by omega, fun H2 s2 => ?_⟩
    exact q _ _ (.inr ⟨e, he, mm, ge⟩) (ext.trans (ExtN.same s2)) (tabs_same tabs1 s2)
end


theorem ixN_nat {n k : Nat} (h : k < n) : ixN n ((k : Nat) : Int) = some k := by
  unfold ixN
  rw [if_pos (by omega), if_pos (by omega)]
  simp
def GoodW (hs : List HR) (bs : List BR) (k : Nat) (ns : List Nat) : Prop := k < hs.length ∧ ∀ n ∈ ns, n < bs.length
section
variable {P : Program} {w : World} {K : PySem.W.Frag} {mg : Str → Option Value} {base : Heap}
def sp_law_walk (K : PySem.W.Frag) : Sp := fun vs H Q _ => ∃ (f c r : Addr) (hs : List HR) (bs : List BR) (m : Int), vs = [.ref f, .ref r, .int m] ∧ 0 ≤ m ∧ m ≤ 100 ∧ Flow H f c ∧ RoomAt H r hs bs ∧ RoomOk hs bs ∧ 0 < hs.length ∧
  ∀ (p : Addr) (k : Nat) (ns : List Nat) (H' : Hp), WayAt H' p k ns → GoodW hs bs k ns → (∃ e, wayEnd bs k ns = some e) → ns.length ≤ m.toNat → Flow H' f c → But f H H' → Q (.ref p) H'
theorem ok_law_walk {f : Addr} {fd : FuncData} (F : Fun K "_law_walk" "_law_walk" s_law_walk f fd) (T : Top K mg) : FnOk P w K mg base CX0 2 f fd ["_law_flow_here", "_law_room_here", "_law_most"] (sp_law_walk K) := by
  obtain ⟨f_law_pick, fd_law_pick, F_law_pick, b_law_pick, m_law_pick⟩ := T.d_law_pick
  have G_law_pick := ok_law_pick (P := P) (w := w) (base := base) F_law_pick T
  refine F.ok sc_law_walk (fun vs H Q E h => ?_) (fun cdv A outer s H vs Q E hr h => ?_)
  · obtain ⟨f, c, r, hs, bs, m, rfl, _⟩ := h
    rfl
  obtain ⟨f, c, r, hs, bs, m, rfl, m0, m1, hF, hR, ok, pos, q⟩ := h
  obtain ⟨ha, ba, hv, bv, er, eh, eb, alh, alb⟩ := hR.ex
  have lhv := alh.length
  have lbv := alb.length
  have lh := ok.hands
  have lb := ok.many
  refine ⟨_, (pss_cons (ps_set (i := 3) sc_law_walk.nd rfl (Or.inl rfl) (pe_call G_law_pick (hr.mono (by decide)) (by rfl) m_law_pick F_law_pick.kp b_law_pick .nil pass0 (pa_cons (pv 0) (pa_cons (pe_callB (call_len_seqK K rfl) (by rfl) T.m_len (by decide +kernel) (pa_cons (pe_ix (ix_tupK K rfl) (pv 1) pe_int (fun _ _ => rfl)) pa_nil)) pa_nil))))
      (pss_cons (ps_set (i := 4) sc_law_walk.nd rfl (Or.inr rfl) (pv 3))
      (pss_cons (ps_set (i := 5) sc_law_walk.nd rfl (Or.inl rfl) (pe_lst pa_nil))
      (pss_cons (ps_for PassesOwn.never rfl (pi_range1 (by rfl) T.m_range (pa_cons (pe_call G_law_pick (hr.mono (by decide)) (by rfl) m_law_pick F_law_pick.kp b_law_pick .nil pass0 (pa_cons (pv 0) (pa_cons (pe_op op_add (pv 2) pe_int) pa_nil))) pa_nil)) (pg_name (i := 6) sc_law_walk.nd rfl (Or.inl rfl))
        (pss_cons (ps_setLc (i := 7) (own := [("_law_b", 8)]) (g := gName 8) (by rfl) sc_law_walk.nd rfl rfl (sw_true rfl rfl rfl (by decide +kernel)) (pi_range1 (by rfl) T.m_range (pa_cons (pe_callB (call_len_seqK K rfl) (by rfl) T.m_len (by decide +kernel) (pa_cons (pe_ix (ix_tupK K rfl) (pv 1) pe_int (fun _ _ => rfl)) pa_nil)) pa_nil)) (blkOk_by (own := [("_law_b", 8)]) (N := N_law_walk) (sc := defScope s_law_walk) (by decide +kernel)) (fun _ _ _ _ _ => (pg_name (i := 8) sc_law_walk.nd rfl (Or.inl rfl))) (fun _ _ _ _ _ => pts_one (pt_cmpR op_eq (pe_ix (ix_tupK K rfl) (pe_ix (ix_tupK K rfl) (pe_ix (ix_tupK K rfl) (pv 1) pe_int (fun _ _ => rfl)) (pv 8) (fun _ _ => rfl)) pe_int (fun _ _ => rfl)) (pv 4) (nomark _))) (fun _ _ _ _ _ => (pv 8)))
      (pss_one (ps_if (pt_cmpR op_gt (pe_callB (call_len_seqK K rfl) (by rfl) T.m_len (by decide +kernel) (pa_cons (pv 7) pa_nil)) pe_int (nomark _)) (pss_cons (ps_expr (pe_bmK K rfl PySem.F.plainAttrs_list PySem.F.slot_list_append PySem.F.type_list_append mt_append (pv 5) (pa_cons (pe_ix (ix_listK K rfl) (pv 7) (pe_call G_law_pick (hr.mono (by decide)) (by rfl) m_law_pick F_law_pick.kp b_law_pick .nil pass0 (pa_cons (pv 0) (pa_cons (pe_callB (call_len_seqK K rfl) (by rfl) T.m_len (by decide +kernel) (pa_cons (pv 7) pa_nil)) pa_nil))) (fun _ _ => rfl)) pa_nil)))
      (pss_one (ps_set (i := 4) sc_law_walk.nd rfl (Or.inr rfl) (pe_ix (ix_tupK K rfl) (pe_ix (ix_tupK K rfl) (pe_ix (ix_tupK K rfl) (pv 1) pe_int (fun _ _ => rfl)) (pe_ix (ix_listK K rfl) (pv 5) (pe_un un_neg pe_int) (fun _ _ => rfl)) (fun _ _ => rfl)) pe_int (fun _ _ => rfl))))) pss_nil))))
      (pss_one (ps_ret (pe_tup (pa_cons (pv 3) (pa_cons (pe_callTy (call_tuple_ofK K rfl) (by rfl) T.m_tuple (by decide +kernel) (pa_cons (pv 5) pa_nil)) pa_nil))))))))), ?_⟩
  refine ⟨_, rfl, _, rfl, r, _, _, _, rfl, rfl, SqT.of er, atI_nat (j := 0) rfl, ha, _, rfl, .inr (SqT.of eh), f, c, _, rfl, by omega, log_small (by omega), hF, fun v H1 v0 v1 F1 B1 => ?_⟩
  obtain ⟨k, rfl⟩ : ∃ k : Nat, v = ((k : Nat) : Int) := ⟨v.toNat, by omega⟩
  refine ⟨_, rfl, ?_⟩
  refine ⟨(by show 0 ≤ sizeLine; decide), fun al nal => ?_⟩
  have af : al ≠ f := F1.ne nal
  have ac : al ≠ c := F1.nec nal
  have al0 : H al = none := B1.none nal af
  have F2 := F1.new (o := .lst []) nal
  have hm1 : (m + 1).natAbs.log2 < 9000 := by
    obtain ⟨z, rfl⟩ : ∃ z : Nat, m = ((z : Nat) : Int) := ⟨m.toNat, by omega⟩
    exact log_small (m := z + 1) (by omega)
  refine ⟨_, rfl, _, rfl, _, _, rfl, rfl, f, c, _, rfl, by omega, hm1, F2, fun z H3 z0 z1 F3 B3 => ?_⟩
  refine ⟨_, rfl, by omega, by omega, for_range (lo := 0) (n := z.toNat) (fun i σ H4 => ∃ (cur : Nat) (ns : List Nat) (v6 v7 v8 : Option V), σ = [some (.ref f), some (.ref r), some (.int m), some (nV k), some (nV cur), some (.ref al), v6, v7, v8] ∧ H4 al = some (.lst (ns.map nV)) ∧ (∀ n ∈ ns, n < bs.length) ∧ ns.length ≤ i ∧ wayEnd bs k ns = some cur ∧ Flow H4 f c ∧ But f H H4)
    ⟨k, [], none, none, none, rfl, B3 _ _ upd_same af, (fun _ z => nomatch z), Nat.le_refl _, rfl, F3, (B1.new nal).trans B3⟩ ?_ ?_⟩
  · rintro i σ H4 hi ⟨cur, ns, v6, v7, v8, rfl, hal, hn, ln, we, F4, B4⟩
    have K4 := TK.but hF B4
    refine ⟨_, rfl, r, _, _, _, rfl, rfl, SqT.of (K4 _ _ er), atI_nat (j := 1) rfl, ba, _, rfl, .inr (SqT.of (K4 _ _ eb)), _, rfl, by omega, by omega, fun D nD => lc_range (lo := 0) (n := bv.length) (fun j H5 => H5 D = some (.lst (((List.range j).filter fun j => decide (bs[j]?.map BR.one = some cur)).map nV)) ∧ Same H4 H5) ⟨upd_same, same_new nD⟩ ?_ ?_⟩
    · rintro j H5 hj ⟨hD, s5⟩
      have ebj : bs[j]? = some bs[j] := List.getElem?_eq_getElem (by omega)
      obtain ⟨x, ex, ⟨t2, g2, rfl, e1, e2⟩⟩ := alb.get ebj
      have few := filt_len (p := fun j => decide (bs[j]?.map BR.one = some cur)) j
      refine ⟨rfl, _, rfl, r, _, _, _, rfl, rfl, SqT.of (s5 _ _ (K4 _ _ er)), atI_nat (j := 1) rfl, _, rfl, ba, _, _, _, rfl, rfl, SqT.of (s5 _ _ (K4 _ _ eb)), at0 ex, t2, _, _, _, rfl, rfl, SqT.of (s5 _ _ (K4 _ _ e1)), atI_nat (j := 0) rfl, _, rfl, rfl, _, rfl, ?_⟩
      by_cases cc : bs[j].one = cur
      · rw [decide_eq_true (show nV bs[j].one = nV cur by rw [cc])]
        refine if_bl (fun _ => ⟨_, rfl, _, hD, by rw [List.length_map]; exact small1000 (by omega), ?_, Same.own s5 nD⟩) (fun z => nomatch z)
        rw [upd_same, filt_succ, if_pos (decide_eq_true (by rw [ebj, ← cc]; rfl)), List.map_append, Int.zero_add]
        rfl
      · rw [decide_eq_false (show ¬ nV bs[j].one = nV cur from fun z => cc (by have := V.int.inj z; omega))]
        refine if_bl (fun z => nomatch z) (fun _ => ⟨?_, s5⟩)
        rw [filt_succ, if_neg fun z => cc (by have := of_decide_eq_true z; rw [ebj] at this; exact Option.some.inj this), List.append_nil]
        exact hD
    · rintro H5 ⟨hD, s5⟩
      obtain ⟨som, esom, hsom⟩ : ∃ som : List Nat, H5 D = some (.lst (som.map nV)) ∧ ∀ x ∈ som, x < bs.length ∧ bs[x]?.map BR.one = some cur := by
        refine ⟨_, hD, fun x hx => ?_⟩
        have := List.mem_range.mp (List.mem_filter.mp hx).1
        exact ⟨by omega, of_decide_eq_true (List.mem_filter.mp hx).2⟩
      have lsom : som.length ≤ 20 := by
        rw [hD] at esom
        have e := congrArg (fun o => match o with | some (HO.lst l) => l.length | _ => 0) esom
        dsimp only at e
        rw [List.length_map, List.length_map] at e
        have := filt_len (p := fun j => decide (bs[j]?.map BR.one = some cur)) bv.length
        omega
      have F5 := F4.same s5
      have hal5 := s5 _ _ hal
      refine ⟨_, rfl, D, _, rfl, .inl (SqL.of esom), _, _, rfl, rfl, _, rfl, if_bl (fun c1 => ?_) (fun c1 => ?_)⟩
      · have c1 : (0 : Int) < (((som.map nV).length : Nat) : Int) := of_decide_eq_true c1
        rw [List.length_map] at c1
        have df : D ≠ f := F4.ne nD
        refine ⟨_, rfl, .inl ⟨rfl, _, SqL.of hal5⟩, _, rfl, _, rfl, _, rfl, D, _, rfl, .inl (SqL.of esom), f, c, _, rfl, by rw [List.length_map]; omega, by rw [List.length_map]; exact log_small (by omega), F5, fun y H6 y0 y1 F6 B6 => ?_⟩
        rw [List.length_map] at y1
        obtain ⟨yk, rfl⟩ : ∃ k : Nat, y = ((k : Nat) : Int) := ⟨y.toNat, by omega⟩
        have yl : yk < som.length := by omega
        have eyk : som[yk]? = some som[yk] := List.getElem?_eq_getElem yl
        have nb := (hsom _ (List.getElem_mem yl)).1
        have ob := (hsom _ (List.getElem_mem yl)).2
        have hal6 := B6 _ _ hal5 af
        refine ⟨D, _, _, _, rfl, rfl, SqL.of (B6 _ _ esom df), atI_nat (by rw [List.getElem?_map, eyk]; rfl), al, _, _, rfl, rfl, hal6, by rw [List.length_map]; exact small1000 (by omega), ?_⟩
        have B7 : But f H (upd H6 al (.lst (ns.map nV ++ [nV som[yk]]))) := ((B4.same s5).trans B6).own al0
        have K7 := TK.but hF B7
        have ebn : bs[som[yk]]? = some bs[som[yk]] := List.getElem?_eq_getElem nb
        obtain ⟨x, ex, ⟨t2, g2, rfl, e1, e2⟩⟩ := alb.get ebn
        refine ⟨_, rfl, r, _, _, _, rfl, rfl, SqT.of (K7 _ _ er), atI_nat (j := 1) rfl, _, rfl, _, rfl, al, _, _, _, rfl, rfl, SqL.of upd_same, atI_last _ _, ba, _, _, _, rfl, rfl, SqT.of (K7 _ _ eb), atI_nat ex, t2, _, _, _, rfl, rfl, SqT.of (K7 _ _ e1), atI_nat (j := 1) rfl, ?_⟩
        refine ⟨bs[som[yk]].to, ns ++ [som[yk]], _, _, _, rfl, ?_, ?_, by rw [List.length_append]; show ns.length + 1 ≤ _; omega, wayEnd_snoc we ebn (by rw [ebn] at ob; exact Option.some.inj ob), F6.lst af ac, B7⟩
        · rw [upd_same, List.map_append]; rfl
        · intro n hm
          rcases List.mem_append.mp hm with hm | hm
          · exact hn n hm
          · obtain rfl : n = som[yk] := by simpa using hm
            exact nb
      · exact ⟨cur, ns, _, _, _, rfl, hal5, hn, by omega, we, F5, B4.same s5⟩
  · rintro σ H4 ⟨cur, ns, v6, v7, v8, rfl, hal, hn, ln, we, F4, B4⟩
    refine ⟨_, rfl, _, rfl, al, _, rfl, .inl ⟨SqL.of hal, fun p np => ⟨(by show 2 ≤ sizeLine; decide), fun p2 np2 => ?_⟩⟩⟩
    exact q p2 k ns _ ⟨p, upd_same, same_new np2 _ _ upd_same⟩ ⟨by omega, hn⟩ ⟨_, we⟩ (by omega) ((F4.new np).new np2) ((B4.new np).new np2)
end
section
variable {P : Program} {w : World} {K : PySem.W.Frag} {mg : Str → Option Value} {base : Heap}
def sp_law_rows (K : PySem.W.Frag) : Sp := fun vs H Q _ => ∃ (f c r : Addr) (hs : List HR) (bs : List BR) (m : Int), vs = [.ref f, .ref r, .int m] ∧ 0 ≤ m ∧ m ≤ 100 ∧ Flow H f c ∧ RoomAt H r hs bs ∧ hs.length ≤ 12 ∧ (∀ h ∈ hs, GoodHand h) ∧
  ∀ (p : Addr) (rv : List V) (rows : List (List Int)) (H' : Hp), H p = none → H' p = some (.lst rv) → All2 (RowAt H') rv rows → rows.length = m.toNat → (∀ x ∈ rows, x.length = (doorsOf "in" hs).length ∧ ∀ y ∈ x, Small y) → Flow H' f c → But f H H' → Q (.ref p) H'
theorem ok_law_rows {f : Addr} {fd : FuncData} (F : Fun K "_law_rows" "_law_rows" s_law_rows f fd) (T : Top K mg) : FnOk P w K mg base CX0 3 f fd ["_law_flow_here", "_law_room_here", "_law_many"] (sp_law_rows K) := by
  obtain ⟨f_law_thing, fd_law_thing, F_law_thing, b_law_thing, m_law_thing⟩ := T.d_law_thing
  have G_law_thing := ok_law_thing (P := P) (w := w) (base := base) F_law_thing T
  refine F.ok sc_law_rows (fun vs H Q E h => ?_) (fun cdv A outer s H vs Q E hr h => ?_)
  · obtain ⟨f, c, r, hs, bs, m, rfl, _⟩ := h
    rfl
  obtain ⟨f, c, r, hs, bs, m, rfl, m0, m1, hF, hR, lh, good, q⟩ := h
  obtain ⟨ha, ba, hv, bv, er, eh, eb, alh, alb⟩ := hR.ex
  have lhv := alh.length
  refine ⟨_, (pss_cons (ps_set (i := 3) sc_law_rows.nd rfl (Or.inr rfl) (pe_lc (own := [("_law_hand", 4)]) (g := gName 4) (by rfl) sc_law_rows.nd (pi_tupK K rfl (pe_ix (ix_tupK K rfl) (pv 1) pe_int (fun _ _ => rfl))) (blkOk_by (own := [("_law_hand", 4)]) (N := N_law_rows) (sc := defScope s_law_rows) (by decide +kernel)) (fun _ _ _ _ _ => (pg_name (i := 4) sc_law_rows.nd rfl (Or.inl rfl))) (fun _ _ _ _ _ => pts_one (pt_cmpR (op_eqDK K rfl hr.units) (pe_ix (ix_tupK K rfl) (pv 4) pe_int (fun _ _ => rfl)) (pe_tup (pa_cons pe_str pa_nil)) (nomark _))) (fun _ _ _ _ _ => (pv 4))))
      (pss_one (ps_ret (pe_lc (own := [("_law_k", 6)]) (g := gName 6) (tt := tYes) (by rfl) sc_law_rows.nd (pi_range1 (by rfl) T.m_range (pa_cons (pv 2) pa_nil)) (blkOk_by (own := [("_law_k", 6)]) (N := N_law_rows) (sc := defScope s_law_rows) (by decide +kernel)) (fun _ _ _ _ _ => (pg_name (i := 6) sc_law_rows.nd rfl (Or.inl rfl))) (fun _ _ _ _ _ => pts_nil) (fun _ _ _ _ _ => (pe_callTy (call_tuple_ofK K rfl) (by rfl) T.m_tuple (by decide +kernel) (pa_cons (pe_lc (own := [("_law_door", 5)]) (g := gName 5) (tt := tYes) (by rfl) sc_law_rows.nd (pi_listK K rfl (pv 3)) (blkOk_by (own := [("_law_door", 5)]) (N := N_law_rows) (sc := { kind := .function, names := [(".0", .local), ("_law_k", .local), ("tuple", .globalImplicit), ("_law_doors", .cell), ("_law_flow_here", .cell)], isGenerator := false, isCoroutine := false }) (by decide +kernel)) (fun _ _ _ _ _ => (pg_name (i := 5) sc_law_rows.nd rfl (Or.inl rfl))) (fun _ _ _ _ _ => pts_nil) (fun _ _ _ _ _ => (pe_call G_law_thing (hr.mono (by decide)) (by rfl) m_law_thing F_law_thing.kp b_law_thing .nil pass0 (pa_cons (pv 0) pa_nil)))) pa_nil))))))), ?_⟩
  refine ⟨_, rfl, r, _, _, _, rfl, rfl, SqT.of er, atI_nat (j := 0) rfl, ha, rfl, ⟨_, SqT.of eh⟩, fun D nD => lc_tup (K := K) (a := ha) (xs := hv) (fun i H5 => ∃ dv : List V, H5 D = some (.lst dv) ∧ dv.length = ((List.range i).filter fun j => decide (hs[j]?.map HR.wd = some ("in" : Str))).length ∧ Same H H5) ⟨[], upd_same, rfl, same_new nD⟩ (fun i H5 _ ⟨_, _, _, s5⟩ => SqT.of (s5 _ _ eh)) ?_ ?_⟩
  · rintro i x H5 hx ⟨dv, hD, ld, s5⟩
    obtain ⟨hh, eb2, ⟨t2, g, rfl, e1, e2⟩⟩ := alh.getL hx
    have il := (List.getElem?_eq_some_iff.mp eb2).1
    have gh := good _ (List.mem_of_getElem? eb2)
    have few := filt_len (p := fun j => decide (hs[j]?.map HR.wd = some ("in" : Str))) i
    refine ⟨rfl, _, rfl, t2, _, _, _, rfl, rfl, SqT.of (s5 _ _ e1), atI_nat (j := 0) rfl, (by show 1 ≤ sizeLine; decide), fun o1 no1 => ?_⟩
    have s6 := s5.trans (same_new (o := .tup [V.str "in"]) no1)
    have hD6 := same_new (o := .tup [V.str "in"]) no1 _ _ hD
    refine ⟨_, _, rule_dp (s6 _ _ e2), .tup (SqT.of upd_same) (.cons (.str _) .nil), rule_shaped gh.lay, one_shaped (by decide +kernel), _, rfl, ?_⟩
    rw [rule_eqv, gh.door "in" (.inl rfl)]
    by_cases cc : hh.wd = "in"
    · rw [decide_eq_true cc]
      refine if_bl (fun _ => ⟨_, rfl, dv, hD6, small1000 (by omega), _, upd_same, ?_, Same.own s6 nD⟩) (fun z => nomatch z)
      rw [filt_succ, if_pos (decide_eq_true (by rw [eb2, ← cc]; rfl)), List.length_append, List.length_append, ld]
      rfl
    · rw [decide_eq_false cc]
      refine if_bl (fun z => nomatch z) (fun _ => ⟨dv, hD6, ?_, s6⟩)
      rw [filt_succ, if_neg fun z => cc (by have := of_decide_eq_true z; rw [eb2] at this; exact Option.some.inj this), List.append_nil]
      exact ld
  · rintro H5 ⟨dv, hD, ld, s5⟩
    rw [lhv] at ld
    have ld : dv.length = (doorsOf "in" hs).length := ld
    have ldl := doors_len (z := "in") (hs := hs)
    have F5 := hF.same s5
    have df : D ≠ f := hF.ne nD
    refine ⟨_, rfl, _, rfl, by omega, by omega, fun L nL => lc_range (lo := 0) (n := m.toNat) (fun i H6 => ∃ (rv : List V) (rows : List (List Int)), H6 L = some (.lst rv) ∧ H6 D = some (.lst dv) ∧ All2 (RowAt H6) rv rows ∧ rows.length = i ∧ (∀ x ∈ rows, x.length = (doorsOf "in" hs).length ∧ ∀ y ∈ x, Small y) ∧ Flow H6 f c ∧ But f H5 H6) ⟨[], [], upd_same, same_new nL _ _ hD, .nil, rfl, (fun _ z => nomatch z), F5.new nL, But.refl.new nL⟩ ?_ ?_⟩
    · rintro i H6 hi ⟨rv, rows, hL, hD6, al, lr, ok, F6, B6⟩
      refine ⟨rfl, yes_in ⟨_, rfl, D, rfl, ⟨_, SqL.of hD6⟩, fun M nM => lc_list (K := K) (a := D) (xs := dv) (fun j H7 => ∃ vs : List Int, vs.length = j ∧ H7 M = some (.lst (vs.map V.int)) ∧ (∀ y ∈ vs, Small y) ∧ H7 D = some (.lst dv) ∧ Flow H7 f c ∧ But f H6 H7) ⟨[], rfl, upd_same, (fun _ z => nomatch z), same_new nM _ _ hD6, F6.new nM, But.refl.new nM⟩ (fun j H7 _ ⟨_, _, _, _, h, _⟩ => SqL.of h) ?_ ?_⟩⟩
      · rintro j x H7 hx ⟨vs, lv, hM, sm, hD7, F7, B7⟩
        have jl := (List.getElem?_eq_some_iff.mp hx).1
        have mf : M ≠ f := F6.ne nM
        have mc : M ≠ c := F6.nec nM
        have md : D ≠ M := ne_of_none hD6 nM
        refine ⟨rfl, yes_in ⟨_, rfl, f, c, rfl, F7, fun y H8 sy F8 B8 => ⟨_, B8 _ _ hM mf, ?_, vs ++ [y], by rw [List.length_append, lv]; rfl, ?_, ?_, ?_, F8.lst mf mc, (B7.trans B8).own nM⟩⟩⟩
        · rw [List.length_map, lv]; exact small1000 (by omega)
        · rw [upd_same, List.map_append]; rfl
        · intro z hz
          rcases List.mem_append.mp hz with hz | hz
          · exact sm z hz
          · obtain rfl : z = y := by simpa using hz
            exact sy
        · rw [upd_ne md]; exact B8 _ _ hD7 df
      · rintro H7 ⟨vs, lv, hM, sm, hD7, F7, B7⟩
        have lf : L ≠ f := F5.ne nL
        have lc : L ≠ c := F5.nec nL
        refine ⟨M, _, rfl, .inl ⟨SqL.of hM, fun p np => ?_⟩⟩
        have hL7 := same_new (o := .tup (vs.map V.int)) np _ _ (B7 _ _ hL lf)
        refine ⟨rv, hL7, by rw [al.length, lr]; exact small1000 (by omega), rv ++ [V.ref p], rows ++ [vs], upd_same, ?_, ?_, by rw [List.length_append, lr]; rfl, ?_, (F7.new np).lst lf lc, ?_⟩
        · rw [upd_ne (ne_of_none hD nL)]; exact same_new np _ _ hD7
        · exact ((al.imp fun _ _ z => z.keep ((TK.but F6 B7).trans (TK.new np))).snoc ⟨p, rfl, upd_same⟩).imp fun _ _ z => z.keep (TK.lst hL7)
        · intro x hx
          rcases List.mem_append.mp hx with hx | hx
          · exact ok x hx
          · obtain rfl : x = vs := by simpa using hx
            exact ⟨by rw [lv, ld], sm⟩
        · exact ((B6.trans B7).new np).own nL
    · rintro H6 ⟨rv, rows, hL, hD6, al, lr, ok, F6, B6⟩
      exact q L rv rows H6 (same_none s5 nL) hL al lr ok F6 ((But.of s5).trans B6)
end
/-! ### data of known size -/
structure Neat (d : PyData) (dp wt : Nat) : Prop where
  lay : d.canLay0 = true
  dep : d.depth ≤ dp
  wei : d.weight ≤ wt
  sho : d.intsShort 13 = true
  say : d.showable = true
  nod : d.hasDict = false
structure NeatAll (ds : List PyData) (dp wt : Nat) : Prop where
  lay : PyData.canLayAll0 ds = true
  dep : PyData.depthAll ds ≤ dp
  wei : PyData.weightAll ds ≤ wt
  sho : PyData.intsShortAll 13 ds = true
  say : PyData.showableAll ds = true
  nod : PyData.hasDictAll ds = false
theorem Neat.non {dp : Nat} : Neat .none dp 0 := ⟨rfl, Nat.zero_le _, Nat.le_refl _, by simp [PyData.intsShort], by simp [PyData.showable], by simp [PyData.hasDict]⟩
theorem Neat.bool {b : Bool} {dp : Nat} : Neat (.bool b) dp 0 := ⟨rfl, Nat.zero_le _, Nat.le_refl _, by simp [PyData.intsShort], by simp [PyData.showable], by simp [PyData.hasDict]⟩
theorem Neat.int {i : Int} {dp : Nat} (h : i.natAbs < 10 ^ 12) : Neat (.int i) dp 41 := by
  have l : i.natAbs.log2 < 40 := by
    by_cases z : i.natAbs = 0
    · rw [z]; decide
    · exact (Nat.log2_lt z).mpr (Nat.lt_trans h (by decide))
  refine ⟨rfl, Nat.zero_le _, ?_, ?_, ?_, by simp [PyData.hasDict]⟩
  · simp only [PyData.weight]
    split <;> omega
  · simp only [PyData.intsShort, decide_eq_true_eq]
    exact PyData.shown_int_le h
  · simp only [PyData.showable, decide_eq_true_eq]
    omega
theorem Neat.str {x : Str} {n dp : Nat} (h : PyData.canLay0 (.str x) = true) (hn : x.cps.size ≤ n) : Neat (.str x) dp n := ⟨h, Nat.zero_le _, hn, by simp [PyData.intsShort], by simp [PyData.showable], by simp [PyData.hasDict]⟩
theorem NeatAll.nil {dp : Nat} : NeatAll [] dp 0 := ⟨rfl, Nat.zero_le _, Nat.le_refl _, by simp [PyData.intsShortAll], by simp [PyData.showableAll], by simp [PyData.hasDictAll]⟩
theorem NeatAll.cons {d : PyData} {ds : List PyData} {dp a b : Nat} (h : Neat d dp a) (t : NeatAll ds dp b) : NeatAll (d :: ds) dp (a + 1 + b) := by
  refine ⟨?_, ?_, ?_, ?_, ?_, ?_⟩
  · simp only [PyData.canLayAll0, h.lay, t.lay, Bool.and_self]
  · simp only [PyData.depthAll]
    exact Nat.max_le.mpr ⟨h.dep, t.dep⟩
  · simp only [PyData.weightAll]
    have := h.wei
    have := t.wei
    omega
  · simp only [PyData.intsShortAll, h.sho, t.sho, Bool.and_self]
  · simp only [PyData.showableAll, h.say, t.say, Bool.and_self]
  · simp only [PyData.hasDictAll, h.nod, t.nod, Bool.or_self]
theorem Neat.mono {d : PyData} {a b c e : Nat} (h : Neat d a b) (x : a ≤ c) (y : b ≤ e) : Neat d c e := ⟨h.lay, Nat.le_trans h.dep x, Nat.le_trans h.wei y, h.sho, h.say, h.nod⟩
theorem NeatAll.mono {d : List PyData} {a b c e : Nat} (h : NeatAll d a b) (x : a ≤ c) (y : b ≤ e) : NeatAll d c e := ⟨h.lay, Nat.le_trans h.dep x, Nat.le_trans h.wei y, h.sho, h.say, h.nod⟩
theorem Neat.tup {ds : List PyData} {dp n : Nat} (h : NeatAll ds dp n) : Neat (.tuple ds) (dp + 1) n := by
  refine ⟨?_, ?_, ?_, ?_, ?_, ?_⟩
  · simp only [PyData.canLay0, h.lay]
  · simp only [PyData.depth]
    have := h.dep
    omega
  · simp only [PyData.weight]
    exact h.wei
  · simp only [PyData.intsShort, h.sho]
  · simp only [PyData.showable, h.say]
  · simp only [PyData.hasDict, h.nod]
theorem Neat.lst {ds : List PyData} {dp n : Nat} (h : NeatAll ds dp n) : Neat (.list ds) (dp + 1) n := by
  refine ⟨?_, ?_, ?_, ?_, ?_, ?_⟩
  · simp only [PyData.canLay0, h.lay]
  · simp only [PyData.depth]
    have := h.dep
    omega
  · simp only [PyData.weight]
    exact h.wei
  · simp only [PyData.intsShort, h.sho]
  · simp only [PyData.showable, h.say]
  · simp only [PyData.hasDict, h.nod]
theorem NeatAll.map {α : Type} {f : α → PyData} {dp n : Nat} : ∀ {l : List α}, (∀ x ∈ l, Neat (f x) dp n) → NeatAll (l.map f) dp (l.length * (n + 1))
  | [], _ => by rw [List.length_nil, Nat.zero_mul]; exact .nil
  | x :: l, h => by
    have t : NeatAll (l.map f) dp (l.length * (n + 1)) := NeatAll.map fun y hy => h y (List.mem_cons_of_mem _ hy)
    have := NeatAll.cons (h x (List.mem_cons_self ..)) t
    refine NeatAll.mono this (Nat.le_refl _) ?_
    rw [List.length_cons, Nat.add_mul]
    omega
theorem Neat.shaped {d : PyData} {dp n : Nat} (h : Neat d dp n) (k : dp ≤ 60) : SeqAt.shaped d = true := by
  unfold SeqAt.shaped
  rw [h.lay, Bool.true_and]
  exact decide_eq_true (by have := h.dep; omega)
theorem Neat.fits {d : PyData} {dp n : Nat} (h : Neat d dp n) (k : dp ≤ 60) (m : n ≤ 1000000) : d.shown.length ≤ sizeLine := by
  refine PyData.shown_fits_of_layable0 (B := 13) (by decide) (by decide) ?_ h.sho
  have a : d.canLay0 = true := h.lay
  have b : decide (d.depth ≤ 64) = true := decide_eq_true (by have := h.dep; omega)
  have c : decide (d.weight ≤ 2 ^ 20) = true := decide_eq_true (by have := h.wei; omega)
  unfold PyData.layable0
  rw [a, b, c]
  rfl
theorem dp_ints {K : PySem.W.Frag} {H : Hp} : ∀ ns : List Int, DpAll K H (ns.map V.int) (ns.map PyData.int)
  | [] => .nil
  | n :: ns => .cons (.int n) (dp_ints ns)
theorem dp_nats {K : PySem.W.Frag} {H : Hp} : ∀ ns : List Nat, DpAll K H (ns.map nV) (ns.map fun n => PyData.int ((n : Nat) : Int))
  | [] => .nil
  | n :: ns => .cons (.int _) (dp_nats ns)
theorem eqv_nil {ds : List PyData} : PyData.eqvAll ds [] = ds.isEmpty := by cases ds <;> rfl
/-! ### a room as data -/
abbrev handD (h : HR) : PyData := .tuple [.tuple (ruleD h), .int h.mom]
abbrev beltD (b : BR) : PyData := .tuple [.int ((b.one : Nat) : Int), .int ((b.to : Nat) : Int), .tuple (b.th.map PyData.int)]
abbrev roomD (hs : List HR) (bs : List BR) : PyData := .tuple [.tuple (hs.map handD), .tuple (bs.map beltD)]
theorem hands_dp {K : PySem.W.Frag} {H : Hp} {vs : List V} {hs : List HR} (a : All2 (HandAt H) vs hs) : DpAll K H vs (hs.map handD) := by
  induction a with
  | nil => exact .nil
  | cons h t ih =>
    obtain ⟨t, r, rfl, e1, e2⟩ := h
    exact .cons (.tup (SqT.of e1) (.cons (rule_dp e2) (.cons (.int _) .nil))) ih
theorem belts_dp {K : PySem.W.Frag} {H : Hp} {vs : List V} {bs : List BR} (a : All2 (BeltAt H) vs bs) : DpAll K H vs (bs.map beltD) := by
  induction a with
  | nil => exact .nil
  | cons h t ih =>
    obtain ⟨t, r, rfl, e1, e2⟩ := h
    exact .cons (.tup (SqT.of e1) (.cons (.int _) (.cons (.int _) (.cons (.tup (SqT.of e2) (dp_ints _)) .nil)))) ih
theorem RoomAt.dp {K : PySem.W.Frag} {H : Hp} {r : Addr} {hs : List HR} {bs : List BR} (a : RoomAt H r hs bs) : Dp K H (.ref r) (roomD hs bs) := by
  obtain ⟨ha, ba, hv, bv, e1, e2, e3, a1, a2⟩ := a.ex
  exact .tup (SqT.of e1) (.cons (.tup (SqT.of e2) (hands_dp a1)) (.cons (.tup (SqT.of e3) (belts_dp a2)) .nil))
theorem GoodHand.size {h : HR} (g : GoodHand h) : h.wd.cps.size ≤ 10 := by
  have : h.wd ∈ nine ∨ h.wd = "in" ∨ h.wd = "out" := g.1.elim (fun k => .inl k.wd) (fun k => .inr k.1)
  rcases this with k | k | k
  · unfold nine at k
    simp only [List.mem_cons, List.not_mem_nil, or_false] at k
    rcases k with k | k | k | k | k | k | k | k | k <;> rw [k] <;> decide +kernel
  · rw [k]; decide +kernel
  · rw [k]; decide +kernel
theorem GoodHand.neat {h : HR} (g : GoodHand h) : Neat (handD h) 2 200 := by
  obtain ⟨wd, no, mom⟩ := h
  have r : NeatAll (ruleD ⟨wd, no, mom⟩) 0 60 := by
    cases no with
    | none => exact (NeatAll.cons (Neat.str g.lay g.size) .nil).mono (Nat.le_refl _) (by decide)
    | some n =>
      have : -1000000 ≤ n ∧ n ≤ 1000000 := by
        rcases g.1 with k | k
        · exact k.big n rfl
        · exact nomatch k.2
      exact (NeatAll.cons (Neat.str g.lay g.size) (.cons (Neat.int (by omega)) .nil)).mono (Nat.le_refl _) (by decide)
  have m : Neat (.int mom) 1 41 := Neat.int (by have := g.2.1; have := g.2.2; simp only at *; omega)
  exact (Neat.tup (.cons (Neat.tup r) (.cons m .nil))).mono (Nat.le_refl _) (by decide)
abbrev rowD (m : List Int) : PyData := .tuple (m.map PyData.int)
theorem rows_dp {K : PySem.W.Frag} {H : Hp} {vs : List V} {ms : List (List Int)} (a : All2 (RowAt H) vs ms) : DpAll K H vs (ms.map rowD) := by
  induction a with
  | nil => exact .nil
  | cons h t ih =>
    obtain ⟨t, rfl, e1⟩ := h
    exact .cons (.tup (SqT.of e1) (dp_ints _)) ih
theorem lay_ints : ∀ m : List Int, PyData.canLayAll0 (m.map PyData.int) = true
  | [] => rfl
  | x :: m => by
    rw [List.map_cons]
    simp only [PyData.canLayAll0, PyData.canLay0, lay_ints m, Bool.and_self]
theorem lay_rows : ∀ m : List (List Int), PyData.canLayAll0 (m.map rowD) = true
  | [] => rfl
  | x :: m => by
    rw [List.map_cons]
    simp only [PyData.canLayAll0, PyData.canLay0, lay_rows m, lay_ints, Bool.and_self]
theorem dep_ints : ∀ m : List Int, PyData.depthAll (m.map PyData.int) ≤ 0
  | [] => Nat.le_refl _
  | x :: m => by
    rw [List.map_cons]
    simp only [PyData.depthAll, PyData.depth]
    have := dep_ints m
    omega
theorem dep_rows : ∀ m : List (List Int), PyData.depthAll (m.map rowD) ≤ 1
  | [] => Nat.zero_le _
  | x :: m => by
    rw [List.map_cons]
    simp only [PyData.depthAll, PyData.depth]
    have := dep_ints x
    have := dep_rows m
    omega
theorem rows_lay (m : List (List Int)) : PyData.canLay0 (.list (m.map rowD)) = true := by
  simp only [PyData.canLay0, lay_rows]
theorem rows_shaped (m : List (List Int)) : SeqAt.shaped (.list (m.map rowD)) = true := by
  unfold SeqAt.shaped
  rw [rows_lay, Bool.true_and]
  refine decide_eq_true ?_
  simp only [PyData.depth]
  have := dep_rows m
  omega
theorem belt_lay (b : BR) : PyData.canLay0 (beltD b) = true := by
  simp only [PyData.canLay0, PyData.canLayAll0, lay_ints, Bool.and_self]
theorem belt_shaped (b : BR) : SeqAt.shaped (beltD b) = true := by
  unfold SeqAt.shaped
  rw [belt_lay, Bool.true_and]
  refine decide_eq_true ?_
  simp only [PyData.depth, PyData.depthAll]
  have := dep_ints b.th
  omega
theorem hands_neat {hs : List HR} (g : ∀ h ∈ hs, GoodHand h) : Neat (.tuple (hs.map handD)) 3 (hs.length * 201) := Neat.tup (NeatAll.map fun h hh => (g h hh).neat)
/-! ### standing on, going on -/
theorem mt_indexK {X : Cx} (K : PySem.W.Frag) (h : X.K = K) : MtR X "list.index" (rIndex K) := by subst h; exact mt_index
theorem stand_app (bs : List BR) (m1 m2 : List (List Int)) : stand (stand bs m1) m2 = stand bs (m1 ++ m2) := by
  have key : ∀ t, stand (stand bs m1) (m2.take t) = stand bs (m1 ++ m2.take t) := by
    intro t
    induction t with
    | zero => rw [List.take_zero, stand_zero, List.append_nil]
    | succ t ih =>
      rw [List.take_add_one]
      cases e : m2[t]? with
      | none => rw [Option.toList, List.append_nil]; exact ih
      | some m =>
        rw [Option.toList, ← stand_next, ih, stand_next, List.append_assoc]
  have := key m2.length
  rw [List.take_length] at this
  exact this
theorem WS.app {hs : List HR} {bs : List BR} {r1 r2 m1 m2 : List (List Int)} (a : WS hs bs r1 m1) (b : WS hs (stand bs m1) r2 m2) : WS hs bs (r1 ++ r2) (m1 ++ m2) := by
  have key : ∀ t, WS hs bs (r1 ++ r2.take t) (m1 ++ m2.take t) := by
    intro t
    induction t with
    | zero => rw [List.take_zero, List.take_zero, List.append_nil, List.append_nil]; exact a
    | succ t ih =>
      rw [List.take_add_one, List.take_add_one]
      by_cases l : t < r2.length
      · have l2 : t < m2.length := by have := b.len; omega
        have e1 : r2[t]? = some r2[t] := List.getElem?_eq_getElem l
        have e2 : m2[t]? = some m2[t] := List.getElem?_eq_getElem l2
        have q := b.at_ t _ _ e1 e2
        rw [stand_app] at q
        rw [e1, e2, Option.toList, Option.toList, ← List.append_assoc, ← List.append_assoc]
        exact ih.snoc q
      · rw [List.getElem?_eq_none (by omega), List.getElem?_eq_none (by have := b.len; omega), Option.toList, List.append_nil, List.append_nil]
        exact ih
  have := key r2.length
  rw [List.take_length, List.take_of_length_le (by rw [b.len]; exact Nat.le_refl _)] at this
  exact this
theorem RoomOk.standing {hs : List HR} {bs : List BR} (ok : RoomOk hs bs) (ms : List (List Int)) : RoomOk hs (stand bs ms) := by
  obtain ⟨rk, hrk⟩ := ok.rank
  refine ⟨ok.hands, ok.good, (ok.bell ms).ends, fun b hb h e => ?_, fun b hb => ?_, ⟨rk, fun b hb e => ?_⟩, (ok.bell ms).count, (ok.bell ms).belts⟩
  all_goals obtain ⟨c, hc, rfl⟩ := List.mem_map.mp hb
  · rw [stand_one] at e
    exact ok.out c hc h e
  · rw [stand_len]
    exact ok.th c hc
  · rw [stand_one, stand_to]
    exact hrk c hc ((stand_th ms c).mp e)
theorem All2.app {α β : Type} {R : α → β → Prop} {cs : List α} {ds : List β} (b : All2 R cs ds) : ∀ {as : List α} {bs : List β}, All2 R as bs → All2 R (as ++ cs) (bs ++ ds)
  | _, _, .nil => b
  | _, _, .cons h t => .cons h (b.app t)
theorem belts_lay : ∀ bs : List BR, PyData.canLayAll0 (bs.map beltD) = true
  | [] => rfl
  | b :: bs => by
    rw [List.map_cons]
    simp only [PyData.canLayAll0]
    rw [belt_lay, belts_lay bs]
    rfl
theorem belts_dep : ∀ bs : List BR, PyData.depthAll (bs.map beltD) ≤ 2
  | [] => Nat.zero_le _
  | b :: bs => by
    rw [List.map_cons]
    have h1 := belts_dep bs
    have h2 := dep_ints b.th
    simp only [PyData.depthAll, PyData.depth] at h1 h2 ⊢
    omega
theorem room_lay {hs : List HR} {bs : List BR} (g : ∀ h ∈ hs, GoodHand h) : PyData.canLay0 (roomD hs bs) = true := by
  have h1 := (hands_neat g).lay
  have h2 := belts_lay bs
  simp only [PyData.canLay0, PyData.canLayAll0] at h1 h2 ⊢
  rw [h1, h2]
  rfl
theorem room_shaped {hs : List HR} {bs : List BR} (g : ∀ h ∈ hs, GoodHand h) : SeqAt.shaped (roomD hs bs) = true := by
  unfold SeqAt.shaped
  rw [room_lay g, Bool.true_and]
  refine decide_eq_true ?_
  have h1 := (hands_neat g).dep
  have h2 := belts_dep bs
  simp only [PyData.depth, PyData.depthAll] at h1 h2 ⊢
  omega
theorem row_lay (m : List Int) : PyData.canLay0 (rowD m) = true := by
  simp only [PyData.canLay0, lay_ints]
theorem row_shaped (m : List Int) : SeqAt.shaped (rowD m) = true := by
  unfold SeqAt.shaped
  rw [row_lay, Bool.true_and]
  refine decide_eq_true ?_
  simp only [PyData.depth]
  have := dep_ints m
  omega
/-! ### a room turned: its hands in another order -/
def ren (ord : List Nat) (b : BR) : BR := ⟨ord.idxOf b.one, ord.idxOf b.to, b.th⟩
structure Turned (hs : List HR) (bs : List BR) (ord : List Nat) (hs' : List HR) (bs' : List BR) : Prop where
  perm : ord.Perm (List.range hs.length)
  hlen : hs'.length = ord.length
  hand : ∀ j k : Nat, ord[j]? = some k → hs'[j]? = hs[k]?
  len : bs'.length = bs.length
  of : ∀ b' ∈ bs', ∃ b ∈ bs, b' = ren ord b
  at_ : ∀ k, k < hs.length → bs'.filter (fun b => decide (b.to = ord.idxOf k)) = (bs.filter fun b => decide (b.to = k)).map (ren ord)
theorem rest_pop {p : BR → Bool} {x : BR} {t : List BR} : ∀ {rest : List BR}, rest.filter p = x :: t → ∃ rest' : List BR, rest'.length + 1 = rest.length ∧ rest'.filter p = t ∧ (∀ q : BR → Bool, q x = false → rest'.filter q = rest.filter q) ∧ (∀ b ∈ rest', b ∈ rest)
  | [], h => nomatch h
  | a :: l, h => by
    cases e : p a with
    | true =>
      rw [List.filter_cons_of_pos e] at h
      injection h with h1 h2
      refine ⟨l, rfl, h2, fun q hq => ?_, fun b hb => List.mem_cons_of_mem _ hb⟩
      rw [List.filter_cons_of_neg (by rw [h1, hq]; exact Bool.false_ne_true)]
    | false =>
      rw [List.filter_cons_of_neg (by rw [e]; exact Bool.false_ne_true)] at h
      obtain ⟨r, h1, h2, h3, h4⟩ := rest_pop h
      refine ⟨a :: r, congrArg (· + 1) h1, ?_, fun q hq => ?_, fun b hb => ?_⟩
      · rw [List.filter_cons_of_neg (by rw [e]; exact Bool.false_ne_true), h2]
      · rw [List.filter_cons, List.filter_cons, h3 q hq]
      · rcases List.mem_cons.mp hb with z | z
        · rw [z]; exact List.mem_cons_self ..
        · exact List.mem_cons_of_mem _ (h4 b z)
structure Mid (n : Nat) (bs : List BR) (ord : List Nat) (found rest : List BR) : Prop where
  len : found.length + rest.length = bs.length
  of : ∀ b' ∈ found, ∃ b ∈ bs, b' = ren ord b
  sub : ∀ b ∈ rest, b ∈ bs
  at_ : ∀ k, k < n → found.filter (fun b => decide (b.to = ord.idxOf k)) ++ (rest.filter fun b => decide (b.to = k)).map (ren ord) = (bs.filter fun b => decide (b.to = k)).map (ren ord)
theorem Mid.zero {n : Nat} {bs : List BR} {ord : List Nat} : Mid n bs ord [] bs := ⟨Nat.zero_add _, (fun _ z => nomatch z), (fun _ z => z), fun _ _ => rfl⟩
theorem idx_inj {l : List Nat} {a b : Nat} (ha : a ∈ l) (h : l.idxOf a = l.idxOf b) (hb : b ∈ l) : a = b := by
  have i1 := List.idxOf_lt_length_of_mem ha
  have i2 := List.idxOf_lt_length_of_mem hb
  have e1 := List.getElem_idxOf i1
  have e2 := List.getElem_idxOf i2
  rw [← e1, ← e2]
  simp only [h]
theorem Mid.step {n : Nat} {bs : List BR} {ord : List Nat} {found rest t : List BR} {x : BR} {k0 : Nat} (h : Mid n bs ord found rest) (pm : ∀ k, k < n → k ∈ ord) (k0n : k0 < n) (e : rest.filter (fun b => decide (b.to = k0)) = x :: t) :
    ∃ rest' : List BR, Mid n bs ord (found ++ [ren ord x]) rest' ∧ rest'.length + 1 = rest.length ∧ rest'.filter (fun b => decide (b.to = k0)) = t ∧ ∀ k, k ≠ k0 → rest'.filter (fun b => decide (b.to = k)) = rest.filter fun b => decide (b.to = k) := by
  have hx : x ∈ rest.filter (fun b => decide (b.to = k0)) := by rw [e]; exact List.mem_cons_self ..
  have xr := (List.mem_filter.mp hx).1
  have xt : x.to = k0 := of_decide_eq_true (List.mem_filter.mp hx).2
  obtain ⟨r, h1, h2, h3, h4⟩ := rest_pop e
  have h3' : ∀ k, k ≠ k0 → r.filter (fun b => decide (b.to = k)) = rest.filter fun b => decide (b.to = k) := fun k hk => h3 _ (decide_eq_false fun z => hk (z.symm.trans xt))
  refine ⟨r, ⟨?_, fun b hb => ?_, fun b hb => h.sub b (h4 b hb), fun k hk => ?_⟩, h1, h2, h3'⟩
  · have := h.len
    rw [List.length_append]
    show found.length + 1 + r.length = _
    omega
  · rcases List.mem_append.mp hb with z | z
    · exact h.of b z
    · rw [List.mem_singleton.mp z]; exact ⟨x, h.sub x xr, rfl⟩
  · rw [List.filter_append]
    have q := h.at_ k hk
    by_cases ek : k = k0
    · subst ek
      rw [e, List.map_cons] at q
      rw [h2, List.filter_cons_of_pos (by rw [show (ren ord x).to = ord.idxOf x.to from rfl, xt]; exact decide_eq_true rfl), List.filter_nil, List.append_assoc]
      exact q
    · rw [h3' k ek, List.filter_cons_of_neg, List.filter_nil, List.append_nil]
      · exact q
      · rw [decide_eq_true_eq, show (ren ord x).to = ord.idxOf x.to from rfl, xt]
        exact fun z => ek (idx_inj (pm k0 k0n) z (pm k hk)).symm
theorem Mid.some {n : Nat} {bs : List BR} {ord : List Nat} {found rest : List BR} (h : Mid n bs ord found rest) (ends : ∀ b ∈ bs, b.to < n) (l : found.length < bs.length) : ∃ k, k < n ∧ rest.filter (fun b => decide (b.to = k)) ≠ [] := by
  have hl := h.len
  cases er : rest with
  | nil => rw [er] at hl; simp at hl; omega
  | cons b r =>
    have hb : b ∈ rest := by rw [er]; exact List.mem_cons_self ..
    refine ⟨b.to, ends b (h.sub b hb), fun z => ?_⟩
    have y : b ∈ (b :: r).filter (fun a => decide (a.to = b.to)) := List.mem_filter.mpr ⟨List.mem_cons_self .., decide_eq_true rfl⟩
    rw [z] at y
    cases y
/-! #### what a turned room keeps -/
theorem Turned.mem {hs : List HR} {bs : List BR} {ord : List Nat} {hs' : List HR} {bs' : List BR} (t : Turned hs bs ord hs' bs') {k : Nat} : k ∈ ord ↔ k < hs.length := by
  rw [t.perm.mem_iff, List.mem_range]
theorem Turned.nd {hs : List HR} {bs : List BR} {ord : List Nat} {hs' : List HR} {bs' : List BR} (t : Turned hs bs ord hs' bs') : ord.Nodup := t.perm.nodup_iff.mpr List.nodup_range
theorem Turned.olen {hs : List HR} {bs : List BR} {ord : List Nat} {hs' : List HR} {bs' : List BR} (t : Turned hs bs ord hs' bs') : ord.length = hs.length := by
  rw [t.perm.length_eq, List.length_range]
theorem Turned.back {hs : List HR} {bs : List BR} {ord : List Nat} {hs' : List HR} {bs' : List BR} (t : Turned hs bs ord hs' bs') {k : Nat} (h : k < hs.length) : ord[ord.idxOf k]? = some k := by
  have il := List.idxOf_lt_length_of_mem (t.mem.mpr h)
  rw [List.getElem?_eq_getElem il, List.getElem_idxOf]
theorem Turned.lt {hs : List HR} {bs : List BR} {ord : List Nat} {hs' : List HR} {bs' : List BR} (t : Turned hs bs ord hs' bs') {k : Nat} (h : k < hs.length) : ord.idxOf k < hs'.length := by
  rw [t.hlen]; exact List.idxOf_lt_length_of_mem (t.mem.mpr h)
theorem Turned.pre {hs : List HR} {bs : List BR} {ord : List Nat} {hs' : List HR} {bs' : List BR} (t : Turned hs bs ord hs' bs') {j : Nat} {h : HR} (e : hs'[j]? = some h) : ∃ k, ord[j]? = some k ∧ hs[k]? = some h ∧ k < hs.length ∧ ord.idxOf k = j := by
  have jl := (List.getElem?_eq_some_iff.mp e).1
  have jo : j < ord.length := by rw [← t.hlen]; exact jl
  have ek : ord[j]? = some ord[j] := List.getElem?_eq_getElem jo
  exact ⟨_, ek, (t.hand _ _ ek).symm.trans e, t.mem.mp (List.mem_of_getElem? ek), idx_at t.nd ek⟩
theorem count_filter (bs : List BR) (k : Nat) : (bs.map BR.to).count k = (bs.filter fun b => decide (b.to = k)).length := by
  induction bs with
  | nil => rfl
  | cons b bs ih =>
    rw [List.map_cons, List.count_cons, List.filter_cons, ih]
    by_cases e : b.to = k
    · rw [if_pos (by simp [e]), if_pos (by simp [e])]; rfl
    · rw [if_neg (by simp [e]), if_neg (by simp [e])]; rfl
theorem Turned.ok {hs : List HR} {bs : List BR} {ord : List Nat} {hs' : List HR} {bs' : List BR} (t : Turned hs bs ord hs' bs') (ok : RoomOk hs bs) : RoomOk hs' bs' := by
  obtain ⟨rk, hrk⟩ := ok.rank
  have lh := ok.hands
  have lo := t.olen
  have hl := t.hlen
  refine ⟨by omega, fun h hh => ?_, fun b' hb => ?_, fun b' hb h e => ?_, fun b' hb => ?_, ⟨fun j => rk (ord.getD j 0), fun b' hb e => ?_⟩, fun j h e => ?_, by rw [t.len]; exact ok.many⟩
  · obtain ⟨j, ej⟩ := List.getElem?_of_mem hh
    obtain ⟨k, _, e2, _⟩ := t.pre ej
    exact ok.good h (List.mem_of_getElem? e2)
  · obtain ⟨b, hbm, rfl⟩ := t.of b' hb
    exact ⟨t.lt (ok.ends b hbm).1, t.lt (ok.ends b hbm).2⟩
  · obtain ⟨b, hbm, rfl⟩ := t.of b' hb
    obtain ⟨k, e1, e2, e3, e4⟩ := t.pre e
    have : ord[ord.idxOf b.one]? = some b.one := t.back (ok.ends b hbm).1
    rw [show (ren ord b).one = ord.idxOf b.one from rfl, this] at e1
    cases e1
    exact ok.out b hbm h e2
  · obtain ⟨b, hbm, rfl⟩ := t.of b' hb
    exact ok.th b hbm
  · obtain ⟨b, hbm, rfl⟩ := t.of b' hb
    show rk (ord.getD (ord.idxOf b.one) 0) < rk (ord.getD (ord.idxOf b.to) 0)
    rw [List.getD_eq_getElem?_getD, List.getD_eq_getElem?_getD, t.back (ok.ends b hbm).1, t.back (ok.ends b hbm).2]
    exact hrk b hbm e
  · obtain ⟨k, e1, e2, e3, e4⟩ := t.pre e
    have q := ok.count k h e2
    rw [count_filter] at q ⊢
    have z := t.at_ k e3
    rw [e4] at z
    rw [z, List.length_map]
    exact q
/-- a bell's things, in the other order -/
abbrev turn (ord : List Nat) (m : List Int) : List Int := ord.map (gD m)
theorem turn_at {ord : List Nat} {m : List Int} {k : Nat} (h : k ∈ ord) : gD (turn ord m) (ord.idxOf k) = gD m k := by
  have il := List.idxOf_lt_length_of_mem h
  show (ord.map (gD m)).getD (ord.idxOf k) 0 = _
  rw [List.getD_eq_getElem?_getD, List.getElem?_map, List.getElem?_eq_getElem il, List.getElem_idxOf]
  rfl
theorem ren_stand {ord : List Nat} {ms : List (List Int)} {b : BR} (h : b.one ∈ ord) : standB (ms.map (turn ord)) (ren ord b) = ren ord (standB ms b) := by
  unfold standB
  by_cases e : b.th = []
  · rw [if_pos e, if_pos (show (ren ord b).th = [] from e)]
  · rw [if_neg e, if_neg (show ¬ (ren ord b).th = [] from e)]
    show (⟨ord.idxOf b.one, ord.idxOf b.to, (b.th ++ (ms.map (turn ord)).map fun m => gD m (ord.idxOf b.one)).drop (ms.map (turn ord)).length⟩ : BR) = ⟨ord.idxOf b.one, ord.idxOf b.to, (b.th ++ ms.map fun m => gD m b.one).drop ms.length⟩
    rw [List.length_map, List.map_map]
    congr 4
    funext m
    exact turn_at h
theorem Turned.stand {hs : List HR} {bs : List BR} {ord : List Nat} {hs' : List HR} {bs' : List BR} (t : Turned hs bs ord hs' bs') (ends : ∀ b ∈ bs, b.one < hs.length) (ms : List (List Int)) : Turned hs (Mine.stand bs ms) ord hs' (Mine.stand bs' (ms.map (turn ord))) := by
  refine ⟨t.perm, t.hlen, t.hand, by rw [List.length_map, List.length_map]; exact t.len, fun b' hb => ?_, fun k hk => ?_⟩
  · obtain ⟨c', hc, rfl⟩ := List.mem_map.mp hb
    obtain ⟨b, hbm, rfl⟩ := t.of c' hc
    exact ⟨standB ms b, List.mem_map.mpr ⟨b, hbm, rfl⟩, ren_stand (t.mem.mpr (ends b hbm))⟩
  · rw [List.filter_map, List.filter_map, List.map_map]
    have e1 : ((fun b : BR => decide (b.to = ord.idxOf k)) ∘ standB (ms.map (turn ord))) = fun b => decide (b.to = ord.idxOf k) := by
      funext b
      show decide ((standB _ b).to = _) = _
      rw [stand_to]
    have e2 : ((fun b : BR => decide (b.to = k)) ∘ standB ms) = fun b => decide (b.to = k) := by
      funext b
      show decide ((standB _ b).to = _) = _
      rw [stand_to]
    rw [e1, e2, t.at_ k hk, List.map_map]
    refine List.map_congr_left fun b hb => ?_
    exact ren_stand (t.mem.mpr (ends b (List.mem_filter.mp hb).1))
def turnRow (hs : List HR) (ord : List Nat) (hs' : List HR) (x : List Int) : List Int := ((doorsOf "in" hs').map fun j => ord.getD j 0).map fun k => x.getD ((doorsOf "in" hs).idxOf k) 0
theorem Turned.bell {hs : List HR} {bs : List BR} {ord : List Nat} {hs' : List HR} {bs' : List BR} (t : Turned hs bs ord hs' bs') (ends : ∀ b ∈ bs, b.one < hs.length) {ins m : List Int} (li : ins.length = (doorsOf "in" hs).length) (h : IsBell hs bs ins m) : IsBell hs' bs' (turnRow hs ord hs' ins) (turn ord m) := by
  have lm := h.len
  refine ⟨by rw [List.length_map]; exact t.hlen.symm, fun j k e => ?_, fun j g e w => ?_⟩
  · obtain ⟨g, e1, e2⟩ := mem_doors.mp (List.mem_of_getElem? e)
    obtain ⟨k0, f1, f2, f3, f4⟩ := t.pre e1
    unfold turnRow
    rw [List.getElem?_map, f1, List.map_map, List.getElem?_map, e]
    show some (gD m k0) = some (ins.getD ((doorsOf "in" hs).idxOf (ord.getD k 0)) 0)
    rw [List.getD_eq_getElem?_getD (l := ord), f1]
    show some (m.getD k0 0) = some (ins.getD ((doorsOf "in" hs).idxOf k0) 0)
    have dm : k0 ∈ doorsOf "in" hs := mem_doors.mpr ⟨g, f2, e2⟩
    have il := List.idxOf_lt_length_of_mem dm
    have q := h.door ((doorsOf "in" hs).idxOf k0) k0 (by rw [List.getElem?_eq_getElem il, List.getElem_idxOf])
    rw [List.getD_eq_getElem?_getD, List.getD_eq_getElem?_getD, q]
  · obtain ⟨k0, f1, f2, f3, f4⟩ := t.pre e
    have q := h.hand k0 g f2 w
    rw [List.getElem?_map, f1]
    show some (m.getD k0 0) = _
    rw [List.getD_eq_getElem?_getD, q]
    show some (mkR g (takes bs (gD m) k0)) = _
    congr 2
    unfold takes
    have z := t.at_ k0 f3
    rw [f4] at z
    rw [z, List.map_map]
    refine List.map_congr_left fun b hb => ?_
    have bo := t.mem.mpr (ends b (List.mem_filter.mp hb).1)
    show valB (gD m) b = valB (gD (turn ord m)) (ren ord b)
    unfold valB
    show _ = match b.th with | [] => gD (turn ord m) (ord.idxOf b.one) | x :: _ => x
    cases b.th with
    | nil => exact (turn_at bo).symm
    | cons x l => rfl
theorem Turned.ws {hs : List HR} {bs : List BR} {ord : List Nat} {hs' : List HR} {bs' : List BR} (t : Turned hs bs ord hs' bs') (ends : ∀ b ∈ bs, b.one < hs.length) {rows ms : List (List Int)} (li : ∀ x ∈ rows, x.length = (doorsOf "in" hs).length) (h : WS hs bs rows ms) : WS hs' bs' (rows.map (turnRow hs ord hs')) (ms.map (turn ord)) := by
  refine ⟨by rw [List.length_map, List.length_map]; exact h.len, fun i r m e1 e2 => ?_⟩
  rw [List.getElem?_map] at e1 e2
  cases er : rows[i]? with
  | none => rw [er] at e1; cases e1
  | some x =>
  cases em : ms[i]? with
  | none => rw [em] at e2; cases e2
  | some y =>
  rw [er] at e1
  rw [em] at e2
  cases e1
  cases e2
  rw [← List.map_take]
  refine (t.stand ends (ms.take i)).bell (fun b hb => ?_) (li x (List.mem_of_getElem? er)) (h.at_ i x y er em)
  obtain ⟨c, hc, rfl⟩ := List.mem_map.mp hb
  rw [stand_one]
  exact ends c hc
/-! ### the queues of a turned room -/
structure QsAt (H0 H : Hp) (od ql : Addr) (qa : Nat → Addr) (n : Nat) (rest : List BR) : Prop where
  hq : H ql = some (.lst ((List.range n).map fun k => V.ref (qa k)))
  at_ : ∀ k, k < n → ∃ vs : List V, H (qa k) = some (.lst vs) ∧ All2 (BeltAt H) vs (rest.filter fun b => decide (b.to = k))
  inj : ∀ k m, k < n → m < n → qa k = qa m → k = m
  old : ∀ k, k < n → H0 (qa k) = none
  nod : ∀ k, k < n → qa k ≠ od ∧ qa k ≠ ql
  ql0 : H0 ql = none ∧ ql ≠ od
theorem QsAt.get {H0 H : Hp} {od ql : Addr} {qa : Nat → Addr} {n : Nat} {rest : List BR} {k : Nat} (h : k < n) : ((List.range n).map fun k => V.ref (qa k))[k]? = some (V.ref (qa k)) := by
  rw [List.getElem?_map, List.getElem?_range h]; rfl
theorem QsAt.go {H0 H H' : Hp} {od ql : Addr} {qa : Nat → Addr} {n : Nat} {rest : List BR} (t : QsAt H0 H od ql qa n rest) (e1 : H' ql = H ql) (e2 : ∀ k, k < n → H' (qa k) = H (qa k)) (kk : TK H H') : QsAt H0 H' od ql qa n rest := by
  refine ⟨e1.trans t.hq, fun k hk => ?_, t.inj, t.old, t.nod, t.ql0⟩
  obtain ⟨vs, h1, h2⟩ := t.at_ k hk
  exact ⟨vs, (e2 k hk).trans h1, h2.imp fun _ _ z => z.keep kk⟩
theorem QsAt.same {H0 H H' : Hp} {od ql : Addr} {qa : Nat → Addr} {n : Nat} {rest : List BR} (t : QsAt H0 H od ql qa n rest) (s : Same H H') : QsAt H0 H' od ql qa n rest := by
  refine t.go ((s _ _ t.hq).trans t.hq.symm) (fun k hk => ?_) (TK.same s)
  obtain ⟨vs, h1, _⟩ := t.at_ k hk
  exact (s _ _ h1).trans h1.symm
theorem QsAt.more {H0 H H' : Hp} {od ql D2 : Addr} {qa : Nat → Addr} {j : Nat} {rest : List BR} {vs : List V} (t : QsAt H0 H od ql qa j rest) (n2 : H D2 = none) (s : Same H H') (h2 : H' D2 = some (.lst vs)) (al : All2 (BeltAt H') vs (rest.filter fun b => decide (b.to = j))) (z0 : H0 D2 = none) (nod : D2 ≠ od) :
    QsAt H0 (upd H' ql (.lst (((List.range j).map fun k => V.ref (qa k)) ++ [.ref D2]))) od ql (fun k => if k = j then D2 else qa k) (j + 1) rest := by
  have hq' := s _ _ t.hq
  have kk : TK H' (upd H' ql (.lst (((List.range j).map fun k => V.ref (qa k)) ++ [.ref D2]))) := TK.lst hq'
  have dq : D2 ≠ ql := (ne_of_none t.hq n2).symm
  have q2 : ∀ k, k < j → qa k ≠ D2 := fun k hk => by
    obtain ⟨vs, h1, _⟩ := t.at_ k hk
    exact ne_of_none h1 n2
  refine ⟨?_, fun k hk => ?_, fun k m hk hm e => ?_, fun k hk => ?_, fun k hk => ?_, t.ql0⟩
  · rw [upd_same, List.range_succ, List.map_append]
    refine congrArg (fun l => some (HO.lst l)) ?_
    refine congr (congrArg _ (List.map_congr_left fun k hk => ?_)) ?_
    · show V.ref (qa k) = V.ref (if k = j then D2 else qa k)
      rw [if_neg (by have := List.mem_range.mp hk; omega)]
    · show [V.ref D2] = [V.ref (if j = j then D2 else qa j)]
      rw [if_pos rfl]
  · by_cases e : k = j
    · refine ⟨vs, ?_, ?_⟩
      · show upd H' ql _ (if k = j then D2 else qa k) = _
        rw [if_pos e, upd_ne dq]; exact h2
      · rw [e]; exact al.imp fun _ _ z => z.keep kk
    · obtain ⟨us, h1, h3⟩ := t.at_ k (by omega)
      refine ⟨us, ?_, h3.imp fun _ _ z => z.keep ((TK.same s).trans kk)⟩
      show upd H' ql _ (if k = j then D2 else qa k) = _
      rw [if_neg e, upd_ne (t.nod k (by omega)).2]; exact s _ _ h1
  · by_cases e1 : k = j
    · by_cases e2 : m = j
      · omega
      · rw [if_pos e1, if_neg e2] at e
        exact absurd e.symm (q2 m (by omega))
    · by_cases e2 : m = j
      · rw [if_neg e1, if_pos e2] at e
        exact absurd e (q2 k (by omega))
      · rw [if_neg e1, if_neg e2] at e
        exact t.inj k m (by omega) (by omega) e
  · by_cases e : k = j
    · rw [if_pos e]; exact z0
    · rw [if_neg e]; exact t.old k (by omega)
  · by_cases e : k = j
    · rw [if_pos e]; exact ⟨nod, dq⟩
    · rw [if_neg e]; exact t.nod k (by omega)
theorem QsAt.pop {H0 H : Hp} {od ql : Addr} {qa : Nat → Addr} {n k0 : Nat} {rest rest' t' : List BR} {v : V} {vs : List V} {x : BR} (t : QsAt H0 H od ql qa n rest) (hk : k0 < n) (h : H (qa k0) = some (.lst (v :: vs))) (al : All2 (BeltAt H) (v :: vs) (x :: t'))
    (e1 : rest'.filter (fun b => decide (b.to = k0)) = t') (e2 : ∀ k, k ≠ k0 → rest'.filter (fun b => decide (b.to = k)) = rest.filter fun b => decide (b.to = k)) : QsAt H0 (upd H (qa k0) (.lst vs)) od ql qa n rest' := by
  have kk : TK H (upd H (qa k0) (.lst vs)) := TK.lst h
  refine ⟨by rw [upd_ne (t.nod k0 hk).2.symm]; exact t.hq, fun k hk' => ?_, t.inj, t.old, t.nod, t.ql0⟩
  by_cases e : k = k0
  · subst e
    cases al with
    | cons a b => exact ⟨vs, upd_same, by rw [e1]; exact b.imp fun _ _ z => z.keep kk⟩
  · obtain ⟨us, h1, h3⟩ := t.at_ k hk'
    exact ⟨us, by rw [upd_ne fun z => e (t.inj k k0 hk' hk z)]; exact h1, by rw [e2 k e]; exact h3.imp fun _ _ z => z.keep kk⟩
theorem index_nat {K : PySem.W.Frag} {H : Hp} {od : Addr} {ord : List Nat} {k : Nat} {Q : VK} (h : H od = some (.lst (ord.map nV))) (m : k ∈ ord) (q : Q (nV (ord.idxOf k)) H) : rIndex K (.ref od) [nV k] H Q := by
  have il := List.idxOf_lt_length_of_mem m
  refine ⟨od, _, nV k, ord.idxOf k, nV k, rfl, rfl, SqL.of h, rfl, ?_, ?_, ?_, fun i z hi hz => ?_, q⟩
  · rw [List.all_map]
    exact List.all_eq_true.mpr fun _ _ => rfl
  · rw [List.getElem?_map, List.getElem?_eq_getElem il, List.getElem_idxOf]; rfl
  · show (((k : Nat) : Int) == ((k : Nat) : Int)) = true
    exact beq_self_eq_true _
  · have il' : i < ord.length := by omega
    rw [List.getElem?_map, List.getElem?_eq_getElem il'] at hz
    obtain rfl : nV ord[i] = z := Option.some.inj hz
    show (((ord[i] : Nat) : Int) == ((k : Nat) : Int)) = false
    have ne : ord[i] ≠ k := by
      have := List.not_of_lt_findIdx (p := (· == k)) (xs := ord) (i := i) hi
      simpa using this
    exact beq_eq_false_iff_ne.mpr (by omega)
section
variable {P : Program} {w : World} {K : PySem.W.Frag} {mg : Str → Option Value} {base : Heap}
def sp_law_turned_room (K : PySem.W.Frag) : Sp := fun vs H Q _ => ∃ (f c r : Addr) (hs : List HR) (bs : List BR), vs = [.ref f, .ref r] ∧ Flow H f c ∧ RoomAt H r hs bs ∧ RoomOk hs bs ∧
  ∀ (t r' od : Addr) (ord : List Nat) (hs' : List HR) (bs' : List BR) (H' : Hp), H' t = some (.tup [.ref r', .ref od]) → RoomAt H' r' hs' bs' → H' od = some (.lst (ord.map nV)) → H od = none → Turned hs bs ord hs' bs' → Flow H' f c → But f H H' → Q (.ref t) H'
theorem ok_law_turned_room {f : Addr} {fd : FuncData} (F : Fun K "_law_turned_room" "_law_turned_room" s_law_turned_room f fd) (T : Top K mg) : FnOk P w K mg base CX0 3 f fd ["_law_flow_here", "_law_room_here"] (sp_law_turned_room K) := by
  obtain ⟨f_law_shuffled, fd_law_shuffled, F_law_shuffled, b_law_shuffled, m_law_shuffled⟩ := T.d_law_shuffled
  have G_law_shuffled := ok_law_shuffled (P := P) (w := w) (base := base) F_law_shuffled T
  obtain ⟨f_law_pick, fd_law_pick, F_law_pick, b_law_pick, m_law_pick⟩ := T.d_law_pick
  have G_law_pick := ok_law_pick (P := P) (w := w) (base := base) F_law_pick T
  refine F.ok sc_law_turned_room (fun vs H Q E h => ?_) (fun cdv A outer s H vs Q E hr h => ?_)
  · obtain ⟨f, c, r, hs, bs, rfl, _⟩ := h
    rfl
  obtain ⟨f, c, r, hs, bs, rfl, hF, hR, ok, q⟩ := h
  obtain ⟨ha, ba, hv, bv, er, eh, eb, alh, alb⟩ := hR.ex
  have lhv := alh.length
  have lbv := alb.length
  have lh := ok.hands
  have lb := ok.many
  have hF' := hF
  obtain ⟨_, _, _, _, _, efl, efc, _⟩ := hF'
  let R1 : TS := fun D' σ' H' => D'.rt = Q ∧ ∃ (od : Addr) (ord : List Nat), σ' = [some (.ref f), some (.ref r), some (.ref ha), some (.ref ba), some (.ref od), none, none, none, none, none, none, none, none, none] ∧ H' od = some (.lst (ord.map nV)) ∧ ord.Perm (List.range hs.length) ∧ H od = none ∧ Flow H' f c ∧ But f H H'
  let R2 : TS := fun D' σ' H' => D'.rt = Q ∧ ∃ (od ql : Addr) (qa : Nat → Addr) (ord : List Nat), σ' = [some (.ref f), some (.ref r), some (.ref ha), some (.ref ba), some (.ref od), some (.ref ql), none, none, none, none, none, none, none, none] ∧ QsAt H H' od ql qa hs.length bs ∧ H' od = some (.lst (ord.map nV)) ∧ ord.Perm (List.range hs.length) ∧ H od = none ∧ Flow H' f c ∧ But f H H'
  let R3 : TS := fun D' σ' H' => D'.rt = Q ∧ ∃ (od fd : Addr) (ord : List Nat) (found : List BR) (fv : List V) (v5 v9 v10 v11 v12 v13 : Option V), σ' = [some (.ref f), some (.ref r), some (.ref ha), some (.ref ba), some (.ref od), v5, none, none, some (.ref fd), v9, v10, v11, v12, v13] ∧ H' fd = some (.lst fv) ∧ All2 (BeltAt H') fv found ∧ Mid hs.length bs ord found [] ∧ H' od = some (.lst (ord.map nV)) ∧ ord.Perm (List.range hs.length) ∧ H od = none ∧ Flow H' f c ∧ But f H H'
  refine ⟨_, (pss_cons (ps_asg (pv 1) (pg_tupK K rfl rfl (pgs_cons (pg_name (i := 2) sc_law_turned_room.nd rfl (Or.inr rfl)) (pgs_cons (pg_name (i := 3) sc_law_turned_room.nd rfl (Or.inr rfl)) pgs_nil))))
      (pss_cons (ps_set (i := 4) sc_law_turned_room.nd rfl (Or.inl rfl) (pe_call G_law_shuffled (hr.mono (by decide)) (by rfl) m_law_shuffled F_law_shuffled.kp b_law_shuffled .nil pass0 (pa_cons (pv 0) (pa_cons (pe_listRg rfl (by rfl) T.m_list (prg_1 (by rfl) T.m_range (pe_callB (call_len_seqK K rfl) (by rfl) T.m_len (by decide +kernel) (pa_cons (pv 2) pa_nil)))) pa_nil))))
      (PSs.to (pss_cons (ps_set (i := 5) sc_law_turned_room.nd rfl (Or.inr rfl) (pe_lc (own := [("_law_k", 7)]) (g := gName 7) (tt := tYes) (by rfl) sc_law_turned_room.nd (pi_range1 (by rfl) T.m_range (pa_cons (pe_callB (call_len_seqK K rfl) (by rfl) T.m_len (by decide +kernel) (pa_cons (pv 2) pa_nil)) pa_nil)) (blkOk_by (own := [("_law_k", 7)]) (N := N_law_turned_room) (sc := defScope s_law_turned_room) (by decide +kernel)) (fun _ _ _ _ _ => (pg_name (i := 7) sc_law_turned_room.nd rfl (Or.inr rfl))) (fun _ _ _ _ _ => pts_nil) (fun _ _ _ _ _ => (pe_lc (own := [("_law_belt", 6)]) (g := gName 6) (by rfl) sc_law_turned_room.nd (pi_tupK K rfl (pv 3)) (blkOk_by (own := [("_law_belt", 6)]) (N := N_law_turned_room) (sc := { kind := .function, names := [(".0", .local), ("_law_k", .cell), ("_law_belts", .cell)], isGenerator := false, isCoroutine := false }) (by decide +kernel)) (fun _ _ _ _ _ => (pg_name (i := 6) sc_law_turned_room.nd rfl (Or.inl rfl))) (fun _ _ _ _ _ => pts_one (pt_cmpR op_eq (pe_ix (ix_tupK K rfl) (pv 6) pe_int (fun _ _ => rfl)) (pv 7) (nomark _))) (fun _ _ _ _ _ => (pv 6))))))
      (PSs.to (pss_cons (ps_set (i := 8) sc_law_turned_room.nd rfl (Or.inl rfl) (pe_lst pa_nil))
      (pss_cons (ps_for PassesOwn.never rfl (pi_range1 (by rfl) T.m_range (pa_cons (pe_callB (call_len_seqK K rfl) (by rfl) T.m_len (by decide +kernel) (pa_cons (pv 3) pa_nil)) pa_nil)) (pg_name (i := 9) sc_law_turned_room.nd rfl (Or.inl rfl))
        (pss_cons (ps_setLc (i := 10) (own := [("_law_k", 7)]) (g := gName 7) (by rfl) sc_law_turned_room.nd rfl rfl (sw_true rfl rfl rfl (by decide +kernel)) (pi_range1 (by rfl) T.m_range (pa_cons (pe_callB (call_len_seqK K rfl) (by rfl) T.m_len (by decide +kernel) (pa_cons (pv 2) pa_nil)) pa_nil)) (blkOk_by (own := [("_law_k", 7)]) (N := N_law_turned_room) (sc := defScope s_law_turned_room) (by decide +kernel)) (fun _ _ _ _ _ => (pg_name (i := 7) sc_law_turned_room.nd rfl (Or.inl rfl))) (fun _ _ _ _ _ => pts_one (pt_cmpR op_gt (pe_callB (call_len_seqK K rfl) (by rfl) T.m_len (by decide +kernel) (pa_cons (pe_ix (ix_listK K rfl) (pv 5) (pv 7) (fun _ _ => rfl)) pa_nil)) pe_int (nomark _))) (fun _ _ _ _ _ => (pv 7)))
      (pss_cons (ps_asg (pe_bmK K rfl PySem.F.plainAttrs_list PySem.F.slot_list_pop PySem.F.type_list_pop mt_popAt (pe_ix (ix_listK K rfl) (pv 5) (pe_ix (ix_listK K rfl) (pv 10) (pe_call G_law_pick (hr.mono (by decide)) (by rfl) m_law_pick F_law_pick.kp b_law_pick .nil pass0 (pa_cons (pv 0) (pa_cons (pe_callB (call_len_seqK K rfl) (by rfl) T.m_len (by decide +kernel) (pa_cons (pv 10) pa_nil)) pa_nil))) (fun _ _ => rfl)) (fun _ _ => rfl)) (pa_cons pe_int pa_nil)) (pg_tupK K rfl rfl (pgs_cons (pg_name (i := 11) sc_law_turned_room.nd rfl (Or.inl rfl)) (pgs_cons (pg_name (i := 12) sc_law_turned_room.nd rfl (Or.inl rfl)) (pgs_cons (pg_name (i := 13) sc_law_turned_room.nd rfl (Or.inl rfl)) pgs_nil)))))
      (pss_one (ps_expr (pe_bmK K rfl PySem.F.plainAttrs_list PySem.F.slot_list_append PySem.F.type_list_append mt_append (pv 8) (pa_cons (pe_tup (pa_cons (pe_bmK K rfl PySem.F.plainAttrs_list PySem.F.slot_list_index PySem.F.type_list_index (mt_indexK K rfl) (pv 4) (pa_cons (pv 11) pa_nil)) (pa_cons (pe_bmK K rfl PySem.F.plainAttrs_list PySem.F.slot_list_index PySem.F.type_list_index (mt_indexK K rfl) (pv 4) (pa_cons (pv 12) pa_nil)) (pa_cons (pv 13) pa_nil)))) pa_nil)))))))
      (PSs.to (pss_one (ps_ret (pe_tup (pa_cons (pe_tup (pa_cons (pe_callTy (call_tuple_ofK K rfl) (by rfl) T.m_tuple (by decide +kernel) (pa_cons (pe_lc (own := [("_law_k", 7)]) (g := gName 7) (tt := tYes) (by rfl) sc_law_turned_room.nd (pi_listK K rfl (pv 4)) (blkOk_by (own := [("_law_k", 7)]) (N := N_law_turned_room) (sc := defScope s_law_turned_room) (by decide +kernel)) (fun _ _ _ _ _ => (pg_name (i := 7) sc_law_turned_room.nd rfl (Or.inl rfl))) (fun _ _ _ _ _ => pts_nil) (fun _ _ _ _ _ => (pe_ix (ix_tupK K rfl) (pv 2) (pv 7) (fun _ _ => rfl)))) pa_nil)) (pa_cons (pe_callTy (call_tuple_ofK K rfl) (by rfl) T.m_tuple (by decide +kernel) (pa_cons (pv 8) pa_nil)) pa_nil))) (pa_cons (pv 4) pa_nil))))) R3 ?tail3))) R2 ?tail2)) R1 ?tail1))), ?_⟩
  case tail3 =>
    rintro D' σ' H1 ⟨eD, od, fd, ord, found, fv, v5, v9, v10, v11, v12, v13, rfl, hfd, alf, mid, hod, pm, od0, F1, B1⟩
    have k1 : TK H H1 := TK.but hF B1
    have lo : ord.length = hs.length := by rw [pm.length_eq, List.length_range]
    have olt : ∀ k ∈ ord, k < hs.length := fun k hk => List.mem_range.mp (pm.mem_iff.mp hk)
    let gh : Nat → HR := fun k => hs.getD k ⟨"in", none, 0⟩
    refine ⟨_, rfl, od, rfl, ⟨_, SqL.of hod⟩, fun D nD => lc_list (K := K) (a := od) (xs := ord.map nV) (fun i H5 => ∃ ov : List V, H5 D = some (.lst ov) ∧ All2 (HandAt H5) ov ((ord.take i).map gh) ∧ Same H1 H5 ∧ ov.length ≤ i) ⟨[], upd_same, .nil, same_new nD, Nat.le_refl _⟩ (fun i H5 _ ⟨_, _, _, s5, _⟩ => SqL.of (s5 _ _ hod)) ?_ ?_⟩
    · rintro i x H5 hx ⟨ov, hD, al, s5, lv⟩
      rw [List.getElem?_map] at hx
      cases ek : ord[i]? with
      | none => rw [ek] at hx; cases hx
      | some k =>
      rw [ek] at hx
      obtain rfl : nV k = x := Option.some.inj hx
      have il := (List.getElem?_eq_some_iff.mp ek).1
      have kl := olt k (List.mem_of_getElem? ek)
      have ehk : hs[k]? = some (gh k) := by
        show _ = some (hs.getD k _)
        rw [List.getD_eq_getElem?_getD, List.getElem?_eq_getElem kl]; rfl
      obtain ⟨v, ev, hv'⟩ := alh.get ehk
      refine ⟨rfl, yes_in ⟨_, rfl, _, rfl, ha, _, _, _, rfl, rfl, SqT.of (s5 _ _ (k1 _ _ eh)), atI_nat ev, ov, hD, small1000 (by omega), ov ++ [v], upd_same, ?_, Same.own s5 nD, by rw [List.length_append]; show ov.length + 1 ≤ i + 1; omega⟩⟩
      rw [List.take_add_one, ek, List.map_append]
      exact (al.snoc (hv'.keep (k1.trans (TK.same s5)))).imp fun _ _ z => z.keep (TK.lst hD)
    · rintro H5 ⟨ov, hD, al, s5, lv⟩
      rw [List.length_map, List.take_length] at al
      refine ⟨D, _, rfl, .inl ⟨SqL.of hD, fun tq ntq => ?_⟩⟩
      have s6 := s5.trans (same_new (o := .tup ov) ntq)
      refine ⟨_, rfl, fd, _, rfl, .inl ⟨SqL.of (s6 _ _ hfd), fun tb ntb => ?_⟩⟩
      have s7 := s6.trans (same_new (o := .tup fv) ntb)
      refine ⟨(by show 2 ≤ sizeLine; decide), fun r' nr' => ?_⟩
      have s8 := s7.trans (same_new (o := .tup [V.ref tq, V.ref tb]) nr')
      refine ⟨_, rfl, (by show 2 ≤ sizeLine; decide), fun t nt => ?_⟩
      have s9 := s8.trans (same_new (o := .tup [V.ref r', V.ref od]) nt)
      rw [eD]
      have sx : Same H5 (upd (upd (upd (upd H5 tq (.tup ov)) tb (.tup fv)) r' (.tup [V.ref tq, V.ref tb])) t (.tup [V.ref r', V.ref od])) := (((same_new ntq).trans (same_new ntb)).trans (same_new nr')).trans (same_new nt)
      refine q t r' od ord (ord.map gh) found _ upd_same ⟨tq, tb, ov, fv, same_new nt _ _ upd_same, same_new nt _ _ (same_new nr' _ _ (same_new ntb _ _ upd_same)), same_new nt _ _ (same_new nr' _ _ upd_same), al.imp fun _ _ z => z.keep (TK.same sx), alf.imp fun _ _ z => z.keep (TK.same s9)⟩ (s9 _ _ hod) od0 ⟨pm, by rw [List.length_map], fun j k e => ?_, ?_, mid.of, fun k hk => ?_⟩ (F1.same s9) (B1.same s9)
      · have kl := olt k (List.mem_of_getElem? e)
        rw [List.getElem?_map, e, List.getElem?_eq_getElem kl]
        show some (hs.getD k _) = _
        rw [List.getD_eq_getElem?_getD, List.getElem?_eq_getElem kl]; rfl
      · have := mid.len
        simpa using this
      · have := mid.at_ k hk
        simpa using this
  case tail2 =>
    rintro D' σ' H1 ⟨eD, od, ql, qa, ord, rfl, qs, hod, pm, od0, F1, B1⟩
    have omem : ∀ k, k < hs.length → k ∈ ord := fun k hk => pm.mem_iff.mpr (List.mem_range.mpr hk)
    refine ⟨(by show 0 ≤ sizeLine; decide), fun fd nfd => ?_⟩
    have fd0 : H fd = none := B1.none nfd (F1.ne nfd)
    have fdf : fd ≠ f := hF.ne fd0
    have fdc : fd ≠ c := hF.nec fd0
    have fdq : fd ≠ ql := (ne_of_none qs.hq nfd).symm
    have fdo : fd ≠ od := (ne_of_none hod nfd).symm
    have fdk : ∀ k, k < hs.length → qa k ≠ fd := fun k hk => by
      obtain ⟨vs, h1, _⟩ := qs.at_ k hk
      exact ne_of_none h1 nfd
    have k1 : TK H H1 := TK.but hF B1
    refine ⟨_, rfl, ba, _, rfl, .inr (SqT.of (same_new nfd _ _ (k1 _ _ eb))), _, rfl, by omega, by omega, for_range (lo := 0) (n := bv.length) (fun i σ H2 => ∃ (found rest : List BR) (fv : List V) (v9 v10 v11 v12 v13 : Option V), σ = [some (.ref f), some (.ref r), some (.ref ha), some (.ref ba), some (.ref od), some (.ref ql), none, none, some (.ref fd), v9, v10, v11, v12, v13] ∧ QsAt H H2 od ql qa hs.length rest ∧ H2 fd = some (.lst fv) ∧ All2 (BeltAt H2) fv found ∧ Mid hs.length bs ord found rest ∧ found.length = i ∧ H2 od = some (.lst (ord.map nV)) ∧ Flow H2 f c ∧ But f H H2)
      ⟨[], bs, [], none, none, none, none, none, rfl, qs.same (same_new nfd), upd_same, .nil, Mid.zero, rfl, same_new nfd _ _ hod, F1.new nfd, B1.new nfd⟩ ?_ ?_⟩
    · rintro i σ H2 hi ⟨found, rest, fv, v9, v10, v11, v12, v13, rfl, qs2, hfd2, alf, mid, lf, hod2, F2, B2⟩
      have k2 : TK H H2 := TK.but hF B2
      refine ⟨_, rfl, ha, _, rfl, .inr (SqT.of (k2 _ _ eh)), _, rfl, by omega, by omega, fun sm nsm => lc_range (lo := 0) (n := hv.length) (fun j H5 => ∃ ks : List Nat, H5 sm = some (.lst (ks.map nV)) ∧ Same H2 H5 ∧ ks.length ≤ j ∧ ∀ k, k ∈ ks ↔ k < j ∧ rest.filter (fun b => decide (b.to = k)) ≠ []) ⟨[], upd_same, same_new nsm, Nat.le_refl _, fun k => ⟨(fun z => nomatch z), (fun z => absurd z.1 (Nat.not_lt_zero _))⟩⟩ ?_ ?_⟩
      · rintro j H5 hj ⟨ks, hsm, s5, lk, mem⟩
        obtain ⟨vs, hq, al⟩ := qs2.at_ j (by omega)
        have lal := al.length
        refine ⟨rfl, _, rfl, _, rfl, ql, _, _, _, rfl, rfl, SqL.of (s5 _ _ qs2.hq), at0 (QsAt.get (H0 := H) (H := H) (od := od) (ql := ql) (rest := rest) (by omega)), qa j, _, rfl, .inl (SqL.of (s5 _ _ hq)), _, _, rfl, rfl, _, rfl, if_bl (fun kk => ?_) (fun kk => ?_)⟩
        · have pos := of_decide_eq_true kk
          have ne : rest.filter (fun b => decide (b.to = j)) ≠ [] := fun z => by rw [z] at lal; simp at lal; simp [lal] at pos
          refine ⟨_, rfl, _, hsm, by rw [List.length_map]; exact small1000 (by omega), ks ++ [j], by rw [upd_same, List.map_append, Int.zero_add]; rfl, Same.own s5 nsm, by rw [List.length_append]; show ks.length + 1 ≤ j + 1; omega, fun k => ?_⟩
          rw [List.mem_append, mem, List.mem_singleton]
          constructor
          · rintro (z | z)
            · exact ⟨by omega, z.2⟩
            · rw [z]; exact ⟨by omega, ne⟩
          · rintro ⟨z1, z2⟩
            by_cases e : k = j
            · exact .inr e
            · exact .inl ⟨by omega, z2⟩
        · have neg := of_decide_eq_false kk
          have em : rest.filter (fun b => decide (b.to = j)) = [] := List.length_eq_zero_iff.mp (by omega)
          refine ⟨ks, hsm, s5, by omega, fun k => ?_⟩
          rw [mem]
          constructor
          · rintro ⟨z1, z2⟩
            exact ⟨by omega, z2⟩
          · rintro ⟨z1, z2⟩
            refine ⟨?_, z2⟩
            by_cases e : k = j
            · exact absurd (by rw [e]; exact em) z2
            · omega
      · rintro H5 ⟨ks, hsm, s5, lk, mem⟩
        rw [lhv] at mem
        obtain ⟨k1', k1n, hk1⟩ := mid.some (fun b hb => (ok.ends b hb).2) (by omega)
        have kpos : 0 < ks.length := List.length_pos_iff.mpr fun z => by
          have := (mem k1').mpr ⟨k1n, hk1⟩
          rw [z] at this
          cases this
        have F5 := F2.same s5
        have smf : sm ≠ f := F2.ne nsm
        refine ⟨_, rfl, _, rfl, _, rfl, _, rfl, sm, _, rfl, .inl (SqL.of hsm), f, c, _, rfl, by rw [List.length_map]; omega, by rw [List.length_map]; exact log_small (by omega), F5, fun v H6 v0 v1 F6 B6 => ?_⟩
        rw [List.length_map] at v1
        obtain ⟨u, rfl⟩ : ∃ u : Nat, v = ((u : Nat) : Int) := ⟨v.toNat, by omega⟩
        have ul : u < ks.length := by omega
        obtain ⟨k0, ek0⟩ : ∃ k0, ks[u]? = some k0 := ⟨_, List.getElem?_eq_getElem ul⟩
        obtain ⟨k0n, hk0⟩ := (mem k0).mp (List.mem_of_getElem? ek0)
        have k26 : TK H2 H6 := (TK.same s5).trans (TK.but F5 B6)
        have b26 : ∀ b o, H2 b = some o → b ≠ f → H6 b = some o := fun b o e n => B6 _ _ (s5 _ _ e) n
        have qf : ∀ k, k < hs.length → qa k ≠ f := fun k hk => hF.ne (qs2.old k hk)
        have qs6 : QsAt H H6 od ql qa hs.length rest := qs2.go ((b26 _ _ qs2.hq (hF.ne qs2.ql0.1)).trans qs2.hq.symm) (fun k hk => by
          obtain ⟨vs, h1, _⟩ := qs2.at_ k hk
          exact (b26 _ _ h1 (qf k hk)).trans h1.symm) k26
        obtain ⟨vs0, hq0, al0⟩ := qs6.at_ k0 k0n
        obtain ⟨x, t', ef⟩ : ∃ x t', rest.filter (fun b => decide (b.to = k0)) = x :: t' := by
          cases e : rest.filter (fun b => decide (b.to = k0)) with
          | nil => exact absurd e hk0
          | cons x t' => exact ⟨x, t', rfl⟩
        rw [ef] at al0
        have xin : x ∈ rest := (List.mem_filter.mp (by rw [ef]; exact List.mem_cons_self .. : x ∈ rest.filter (fun b => decide (b.to = k0)))).1
        have xe := ok.ends x (mid.sub x xin)
        cases al0 with
        | @cons w0 _ vs' _ hb alt =>
        have al0' : All2 (BeltAt H6) (w0 :: vs') (x :: t') := .cons hb alt
        obtain ⟨t, g, rfl, e1, e2⟩ := id hb
        obtain ⟨rest', mid', lr', f1, f2⟩ := mid.step omem k0n ef
        have qs7 := qs6.pop k0n hq0 al0' f1 f2
        have k67 : TK H6 (upd H6 (qa k0) (.lst vs')) := TK.lst hq0
        refine ⟨sm, _, _, _, rfl, rfl, SqL.of (B6 _ _ hsm smf), atI_nat (by rw [List.getElem?_map, ek0]; rfl), ql, _, _, _, rfl, rfl, SqL.of qs6.hq, atI_nat (QsAt.get (H0 := H) (H := H) (od := od) (ql := ql) (rest := rest) k0n), .inl ⟨rfl, _, SqL.of hq0⟩, qa k0, _, 0, 0, _, rfl, rfl, hq0, by decide, by decide, seqIndex_of (Int.le_refl 0) (by rw [List.length_cons]; omega), rfl, ?_⟩
        have hfd7 : upd H6 (qa k0) (.lst vs') fd = some (.lst fv) := by rw [upd_ne (fdk k0 k0n).symm]; exact b26 _ _ hfd2 fdf
        have hod7 : upd H6 (qa k0) (.lst vs') od = some (.lst (ord.map nV)) := by rw [upd_ne (qs6.nod k0 k0n).1.symm]; exact b26 _ _ hod2 (hF.ne od0)
        refine ⟨t, _, rfl, SqT.of (k67 _ _ e1), rfl, _, _, rfl, _, _, rfl, _, _, rfl, rfl, ?_⟩
        refine ⟨_, rfl, .inl ⟨rfl, _, SqL.of hfd7⟩, _, rfl, .inl ⟨rfl, _, SqL.of hod7⟩, _, rfl, ?_⟩
        dsimp only [tNil]
        refine index_nat hod7 (omem _ xe.1) ?_
        refine ⟨_, rfl, .inl ⟨rfl, _, SqL.of hod7⟩, _, rfl, ?_⟩
        dsimp only [tNil]
        refine index_nat hod7 (omem _ xe.2) ?_
        refine ⟨_, rfl, (by show 3 ≤ sizeLine; decide), fun tp ntp => ?_⟩
        have s78 : Same (upd H6 (qa k0) (.lst vs')) (upd (upd H6 (qa k0) (.lst vs')) tp (.tup [nV (ord.idxOf x.one), nV (ord.idxOf x.to), V.ref g])) := same_new ntp
        have hfd8 := s78 _ _ hfd7
        have lfv := alf.length
        refine ⟨fd, _, _, rfl, rfl, hfd8, small1000 (by omega), ?_⟩
        have k79 := (TK.same s78).trans (TK.lst (ys := fv ++ [V.ref tp]) hfd8)
        have F7 : Flow (upd H6 (qa k0) (.lst vs')) f c := F6.lst (qf k0 k0n) (hF.nec (qs2.old k0 k0n))
        have B7 : But f H (upd H6 (qa k0) (.lst vs')) := ((B2.same s5).trans B6).own (qs2.old k0 k0n)
        refine ⟨found ++ [ren ord x], rest', fv ++ [V.ref tp], _, _, _, _, _, rfl, (qs7.same s78).go (upd_ne fdq.symm) (fun k hk => upd_ne (fdk k hk)) (TK.lst hfd8), upd_same, ?_, mid', by rw [List.length_append, lf]; rfl, by rw [upd_ne fdo.symm]; exact s78 _ _ hod7, (F7.same s78).lst fdf fdc, (B7.same s78).own fd0⟩
        exact ((alf.imp fun _ _ z => z.keep (k26.trans (k67.trans (TK.same s78)))).snoc (⟨tp, g, rfl, upd_same, s78 _ _ (k67 _ _ e2)⟩ : BeltAt _ (V.ref tp) (ren ord x))).imp fun _ _ z => z.keep (TK.lst hfd8)
    · rintro σ H2 ⟨found, rest, fv, v9, v10, v11, v12, v13, rfl, qs2, hfd2, alf, mid, lf, hod2, F2, B2⟩
      have er : rest = [] := by
        have := mid.len
        exact List.length_eq_zero_iff.mp (by omega)
      subst er
      exact ⟨eD, od, fd, ord, found, fv, _, v9, v10, v11, v12, v13, rfl, hfd2, alf, mid, hod2, pm, od0, F2, B2⟩
  case tail1 =>
    rintro D' σ' H1 ⟨eD, od, ord, rfl, hod, pm, od0, F1, B1⟩
    have k1 : TK H H1 := TK.but hF B1
    refine ⟨_, rfl, ha, _, rfl, .inr (SqT.of (k1 _ _ eh)), _, rfl, by omega, by omega, fun ql nql => lc_range (lo := 0) (n := hv.length) (fun j H5 => ∃ qa : Nat → Addr, QsAt H H5 od ql qa j bs ∧ Same H1 H5) ?_ ?_ ?_⟩
    · refine ⟨fun _ => 0, ⟨upd_same, (fun _ z => absurd z (Nat.not_lt_zero _)), (fun _ _ z => absurd z (Nat.not_lt_zero _)), (fun _ z => absurd z (Nat.not_lt_zero _)), (fun _ z => absurd z (Nat.not_lt_zero _)), B1.none nql (F1.ne nql), (ne_of_none hod nql).symm⟩, same_new nql⟩
    · rintro j H5 hj ⟨qa, qs, s5⟩
      have k5 := k1.trans (TK.same s5)
      refine ⟨rfl, yes_in ⟨_, rfl, ba, rfl, ⟨_, SqT.of (k5 _ _ eb)⟩, fun D2 nD2 => lc_tup (K := K) (a := ba) (xs := bv) (fun i H6 => ∃ vs : List V, H6 D2 = some (.lst vs) ∧ All2 (BeltAt H6) vs ((bs.take i).filter fun b => decide (b.to = j)) ∧ Same H5 H6 ∧ vs.length ≤ i) ⟨[], upd_same, .nil, same_new nD2, Nat.le_refl _⟩ (fun i H6 _ ⟨_, _, _, s6, _⟩ => SqT.of (s6 _ _ (k5 _ _ eb))) ?_ ?_⟩⟩
      · rintro i x H6 hx ⟨vs, hD2, al, s6, lv⟩
        have il := (List.getElem?_eq_some_iff.mp hx).1
        obtain ⟨b, eb', hB⟩ := alb.getL hx
        obtain ⟨t, g, rfl, e1, e2⟩ := hB.keep (k5.trans (TK.same s6))
        refine ⟨rfl, _, rfl, t, _, _, _, rfl, rfl, SqT.of e1, atI_nat (j := 1) rfl, _, rfl, rfl, _, rfl, if_bl (fun kk => ?_) (fun kk => ?_)⟩
        · have ek : b.to = j := by
            have := V.int.inj (of_decide_eq_true kk)
            omega
          refine ⟨_, rfl, vs, hD2, small1000 (by omega), vs ++ [V.ref t], upd_same, ?_, Same.own s6 nD2, by rw [List.length_append]; show vs.length + 1 ≤ i + 1; omega⟩
          rw [List.take_add_one, eb', List.filter_append, Option.toList, List.filter_cons_of_pos (by rw [ek]; exact decide_eq_true rfl), List.filter_nil]
          exact (al.snoc (⟨t, g, rfl, e1, e2⟩ : BeltAt H6 (V.ref t) b)).imp fun _ _ z => z.keep (TK.lst hD2)
        · have ek : b.to ≠ j := fun z => of_decide_eq_false kk (by rw [z, Int.zero_add])
          refine ⟨vs, hD2, ?_, s6, by omega⟩
          rw [List.take_add_one, eb', List.filter_append, Option.toList, List.filter_cons_of_neg (by rw [decide_eq_true_eq]; exact ek), List.filter_nil, List.append_nil]
          exact al
      · rintro H6 ⟨vs, hD2, al, s6, lv⟩
        rw [lbv, List.take_length] at al
        have n1 := same_none s5 nD2
        exact ⟨_, s6 _ _ qs.hq, by rw [List.length_map, List.length_range]; exact small1000 (by omega), _, qs.more nD2 s6 hD2 al (B1.none n1 (F1.ne n1)) (ne_of_none (s5 _ _ hod) nD2).symm, Same.own (s5.trans s6) nql⟩
    · rintro H5 ⟨qa, qs, s5⟩
      rw [lhv] at qs
      exact ⟨eD, od, ql, qa, ord, rfl, qs, s5 _ _ hod, pm, od0, F1.same s5, B1.same s5⟩
  refine ⟨_, rfl, r, _, rfl, SqT.of er, rfl, _, _, rfl, _, _, rfl, rfl, ?_⟩
  refine ⟨_, rfl, _, rfl, ha, _, rfl, .inr (SqT.of eh), _, rfl, ⟨by omega, by omega, by omega, by omega, by omega⟩, fun lf nlf => ?_⟩
  have erg : rgV 0 ((hv.length : Nat) : Int) = (List.range hs.length).map nV := by
    unfold rgV
    rw [show (((hv.length : Nat) : Int) - 0).toNat = hs.length by omega]
    refine List.map_congr_left fun i _ => ?_
    show V.int (0 + ((i : Nat) : Int)) = V.int ((i : Nat) : Int)
    rw [Int.zero_add]
  rw [erg]
  refine ⟨f, c, lf, _, rfl, SqL.of upd_same, hF.ne nlf, by rw [List.length_map, List.length_range]; omega, hF.new nlf, fun od ys H1 pm nod hod F1 B1 => ?_⟩
  obtain ⟨ord, rfl, pm'⟩ := perm_inv (f := nV) (g := unN) (fun _ => rfl) pm
  exact ⟨rfl, od, ord, rfl, hod, pm', same_none (same_new nlf) nod, F1, (But.refl.new nlf).trans B1⟩
end
theorem best_way {hs : List HR} {bs : List BR} {rk : Nat → Int} {one k : Nat} {ns : List Nat} (hrk : ∀ b ∈ bs, b.th = [] → rk b.one < rk b.to) (hto : ∀ b ∈ bs, b.to < hs.length) (ho : one < hs.length) (h : wayEnd bs one ns = some k) : ∃ c, best hs bs one k = some c ∧ coLe c (wayCo hs bs one ns) := by
  obtain ⟨c, h1, h2⟩ := cfI_cpl (hs := hs) (bs := bs) (one := one) (hs.length + ns.length) ns k (by omega) h
  rw [cfI_stay (stab_at hrk hto ho (Nat.le_refl _))] at h1
  exact ⟨c, h1, h2⟩
section
variable {hs : List HR} {bs : List BR} {rk : Nat → Int}
theorem way_lng (hrk : ∀ b ∈ bs, b.th = [] → rk b.one < rk b.to) (he : ∀ b ∈ bs, b.one < hs.length ∧ b.to < hs.length) {k : Nat} (hk : k < hs.length) : ∀ (m : Nat) (ns : List Nat) (e : Nat), ns.length ≤ m → wayEnd bs k ns = some e → (wayCo hs bs k ns).1 = 0 → (wayCo hs bs k ns).2 ≤ lng hs bs e := by
  have nil : ∀ e, wayEnd bs k [] = some e → (wayCo hs bs k []).2 ≤ lng hs bs e := fun e h => by
    rw [wayCo_nil]
    obtain rfl : k = e := Option.some.inj h
    exact lng_mom hrk he hk
  intro m
  induction m with
  | zero =>
    intro ns e hl h _
    rw [List.eq_nil_of_length_eq_zero (Nat.le_zero.mp hl)] at h ⊢
    exact nil e h
  | succ m ih =>
    intro ns e hl h t
    rcases List.eq_nil_or_concat ns with rfl | ⟨ms, n, rfl⟩
    · exact nil e h
    rw [List.concat_eq_append] at h t hl ⊢
    obtain ⟨b, eb, wm, rfl⟩ := wayEnd_unsnoc h
    rw [wayCo_snoc eb] at t ⊢
    have t0 := (way_rank hrk wm).1
    have t1 : (wayCo hs bs k ms).1 = (ms.map (trB bs)).sum := rfl
    have t2 : (coAdd hs (wayCo hs bs k ms) b).1 = (wayCo hs bs k ms).1 + (b.th.length : Int) := rfl
    have t3 : (coAdd hs (wayCo hs bs k ms) b).2 = (wayCo hs bs k ms).2 + momH hs b.to := rfl
    have hb := List.mem_of_getElem? eb
    have eth : b.th = [] := List.eq_nil_of_length_eq_zero (by omega)
    have l1 := ih ms b.one (by rw [List.length_append] at hl; simp at hl; omega) wm (by omega)
    have l2 := lng_belt hrk he hb eth
    have : momH hs b.to = momN hs b.to := rfl
    omega
end

theorem best_map {hs hs' : List HR} {bs bs' : List BR} {one one' e e' : Nat} {rk rk' : Nat → Int} {φ : Co → Co} (mono : ∀ a b, coLe a b → coLe (φ a) (φ b))
    (hrk : ∀ b ∈ bs, b.th = [] → rk b.one < rk b.to) (hto : ∀ b ∈ bs, b.to < hs.length) (ho : one < hs.length) (hrk' : ∀ b ∈ bs', b.th = [] → rk' b.one < rk' b.to) (hto' : ∀ b ∈ bs', b.to < hs'.length) (ho' : one' < hs'.length)
    (fw : ∀ ns, wayEnd bs one ns = some e → ∃ ns', wayEnd bs' one' ns' = some e' ∧ wayCo hs' bs' one' ns' = φ (wayCo hs bs one ns))
    (bw : ∀ ns', wayEnd bs' one' ns' = some e' → ∃ ns, wayEnd bs one ns = some e ∧ wayCo hs' bs' one' ns' = φ (wayCo hs bs one ns)) : best hs' bs' one' e' = (best hs bs one e).map φ := by
  cases eb : best hs bs one e with
  | none =>
    cases eb' : best hs' bs' one' e' with
    | none => rfl
    | some d =>
      obtain ⟨ns', w1, _⟩ := cfI_snd _ _ _ eb'
      obtain ⟨ns, w2, _⟩ := bw ns' w1
      obtain ⟨c, h1, _⟩ := best_way hrk hto ho w2
      rw [eb] at h1; cases h1
  | some c =>
    obtain ⟨ns, w1, w2⟩ := cfI_snd _ _ _ eb
    obtain ⟨ns', w3, w4⟩ := fw ns w1
    obtain ⟨d, h1, h2⟩ := best_way hrk' hto' ho' w3
    obtain ⟨ms', v1, v2⟩ := cfI_snd _ _ _ h1
    obtain ⟨ms, v3, v4⟩ := bw ms' v1
    obtain ⟨c2, g1, g2⟩ := best_way hrk hto ho v3
    rw [eb] at g1
    cases g1
    rw [h1]
    show some d = some (φ c)
    rw [w4, w2] at h2
    have := mono _ _ g2
    rw [← v4, v2] at this
    rw [h2.antisymm this]
theorem lng_way {hs : List HR} {bs : List BR} {rk : Nat → Int} (hr : ∀ b ∈ bs, b.th = [] → rk b.one < rk b.to) (he : ∀ b ∈ bs, b.one < hs.length ∧ b.to < hs.length) : ∀ (m : Nat) (k : Nat), k < hs.length → dep rk hs.length k ≤ m → ∃ one ns, one < hs.length ∧ wayEnd bs one ns = some k ∧ wayCo hs bs one ns = (0, lng hs bs k) := by
  intro m
  induction m with
  | zero =>
    intro k hk hd
    rcases lng_is hr he hk with e | ⟨b, hb, e1, e2, e3⟩
    · exact ⟨k, [], hk, rfl, by rw [wayCo_nil, e]; rfl⟩
    · have := dep_lt (n := hs.length) (he b hb).1 (hr b hb e2)
      rw [e1] at this
      omega
  | succ m ih =>
    intro k hk hd
    rcases lng_is hr he hk with e | ⟨b, hb, e1, e2, e3⟩
    · exact ⟨k, [], hk, rfl, by rw [wayCo_nil, e]; rfl⟩
    · have d := dep_lt (n := hs.length) (he b hb).1 (hr b hb e2)
      rw [e1] at d
      obtain ⟨one, ns, h1, h2, h3⟩ := ih b.one (he b hb).1 (by omega)
      obtain ⟨n, en⟩ := List.getElem?_of_mem hb
      refine ⟨one, ns ++ [n], h1, by rw [wayEnd_snoc h2 en rfl, e1], ?_⟩
      rw [wayCo_snoc en, h3, e3]
      show ((0 : Int) + (b.th.length : Int), lng hs bs b.one + momH hs b.to) = _
      rw [e2, e1]
      rfl
/-- every no-tray way there has one here of as many moments, times s: the time there is at most s times the time here -/
theorem time_le {hs hs' : List HR} {bs bs' : List BR} {rk rk' : Nat → Int} {s u v : Int} (s0 : 0 ≤ s) (hrk : ∀ b ∈ bs, b.th = [] → rk b.one < rk b.to) (he : ∀ b ∈ bs, b.one < hs.length ∧ b.to < hs.length) (h0 : 0 < hs.length)
    (hrk' : ∀ b ∈ bs', b.th = [] → rk' b.one < rk' b.to) (he' : ∀ b ∈ bs', b.one < hs'.length ∧ b.to < hs'.length) (h0' : 0 < hs'.length) (tu : timeR hs bs u) (tv : timeR hs' bs' v)
    (bw : ∀ one' e' ns', one' < hs'.length → wayEnd bs' one' ns' = some e' → (wayCo hs' bs' one' ns').1 = 0 → ∃ one e ns, one < hs.length ∧ wayEnd bs one ns = some e ∧ (wayCo hs bs one ns).1 = 0 ∧ (wayCo hs' bs' one' ns').2 = s * (wayCo hs bs one ns).2) : v ≤ s * u := by
  rcases tv with ⟨z, _⟩ | ⟨e', he1, rfl, _⟩
  · rw [z] at h0'; exact absurd h0' (Nat.lt_irrefl 0)
  rcases tu with ⟨z, _⟩ | ⟨e, he2, rfl, top⟩
  · rw [z] at h0; exact absurd h0 (Nat.lt_irrefl 0)
  obtain ⟨one', ns', o1, w1, w2⟩ := lng_way hrk' he' _ e' he1 (Nat.le_refl _)
  obtain ⟨one, e2, ns, o2, v1, v2, v3⟩ := bw one' e' ns' o1 w1 (by rw [w2])
  have l1 := way_lng hrk he o2 _ ns e2 (Nat.le_refl _) v1 v2
  have l2 := top e2 (way_lt (fun b hb => (he b hb).2) o2 v1)
  rw [w2] at v3
  have v3 : lng hs' bs' e' = s * (wayCo hs bs one ns).2 := v3
  rw [v3]
  exact Int.mul_le_mul_of_nonneg_left (by omega) s0
/-! #### belts between the same hands -/
theorem wayEnd_congr {bs bs' : List BR} (h : ∀ i : Nat, (bs'[i]?).map (fun b => (b.one, b.to)) = (bs[i]?).map fun b => (b.one, b.to)) : ∀ (ns : List Nat) (k : Nat), wayEnd bs' k ns = wayEnd bs k ns
  | [], _ => rfl
  | n :: ns, k => by
    have hn := h n
    cases e : bs[n]? with
    | none =>
      rw [e] at hn
      have e' : bs'[n]? = none := by cases e2 : bs'[n]? with | none => rfl | some b => rw [e2] at hn; cases hn
      show (match bs'[n]? with | some b => if b.one = k then wayEnd bs' b.to ns else none | none => none) = (match bs[n]? with | some b => if b.one = k then wayEnd bs b.to ns else none | none => none)
      rw [e, e']
    | some b =>
      rw [e] at hn
      cases e2 : bs'[n]? with
      | none => rw [e2] at hn; cases hn
      | some b' =>
        rw [e2] at hn
        have hh : (b'.one, b'.to) = (b.one, b.to) := Option.some.inj hn
        rw [wayEnd_cons e, wayEnd_cons e2, (Prod.mk.inj hh).1, (Prod.mk.inj hh).2, wayEnd_congr h ns b.to]
theorem toB_congr {bs bs' : List BR} (h : ∀ i : Nat, (bs'[i]?).map (fun b => (b.one, b.to)) = (bs[i]?).map fun b => (b.one, b.to)) (n : Nat) : toB bs' n = toB bs n := by
  have hn := h n
  unfold toB
  cases e : bs[n]? with
  | none =>
    rw [e] at hn
    cases e2 : bs'[n]? with
    | none => rfl
    | some b => rw [e2] at hn; cases hn
  | some b =>
    rw [e] at hn
    cases e2 : bs'[n]? with
    | none => rw [e2] at hn; cases hn
    | some b' =>
      rw [e2] at hn
      exact (Prod.mk.inj (Option.some.inj hn)).2
theorem momW_congr {hs : List HR} {bs bs' : List BR} (h : ∀ i : Nat, (bs'[i]?).map (fun b => (b.one, b.to)) = (bs[i]?).map fun b => (b.one, b.to)) (k : Nat) (ns : List Nat) : momW hs bs' k ns = momW hs bs k ns := by
  unfold momW
  congr 2
  refine List.map_congr_left fun n _ => ?_
  rw [toB_congr h]
theorem stand_same (bs : List BR) (ms : List (List Int)) (i : Nat) : ((stand bs ms)[i]?).map (fun b => (b.one, b.to)) = (bs[i]?).map fun b => (b.one, b.to) := by
  rw [List.getElem?_map]
  cases bs[i]? with
  | none => rfl
  | some b => show some ((standB ms b).one, (standB ms b).to) = _; rw [stand_one, stand_to]; rfl
theorem stand_co {hs : List HR} (bs : List BR) (ms : List (List Int)) (k : Nat) (ns : List Nat) : wayCo hs (stand bs ms) k ns = wayCo hs bs k ns := by
  refine Prod.ext ?_ (momW_congr (stand_same bs ms) k ns)
  show (ns.map (trB (stand bs ms))).sum = (ns.map (trB bs)).sum
  congr 1
  refine List.map_congr_left fun n _ => ?_
  unfold trB
  rw [List.getElem?_map]
  cases bs[n]? with
  | none => rfl
  | some b => show ((standB ms b).th.length : Int) = _; rw [stand_len]
/-! #### moments so many times as great -/
theorem mom_co {hs hs' : List HR} {bs : List BR} {s : Int} (h : ∀ k, momH hs' k = s * momH hs k) (k : Nat) (ns : List Nat) : wayCo hs' bs k ns = ((wayCo hs bs k ns).1, s * (wayCo hs bs k ns).2) := by
  refine Prod.ext rfl ?_
  show momH hs' k + (ns.map fun n => momH hs' (toB bs n)).sum = s * (momH hs k + (ns.map fun n => momH hs (toB bs n)).sum)
  rw [Int.mul_add, h]
  congr 1
  induction ns with
  | nil => simp
  | cons n ns ih => rw [List.map_cons, List.sum_cons, List.map_cons, List.sum_cons, Int.mul_add, ih, h]
theorem scale_mono {s : Int} (s0 : 0 ≤ s) (a b : Co) (h : coLe a b) : coLe (a.1, s * a.2) (b.1, s * b.2) := by
  rcases h with h | ⟨h1, h2⟩
  · exact .inl h
  · exact .inr ⟨h1, Int.mul_le_mul_of_nonneg_left h2 s0⟩
/-! #### a way in a turned room -/
section
variable {hs : List HR} {bs : List BR} {ord : List Nat} {hs' : List HR} {bs' : List BR}
theorem Turned.belt (t : Turned hs bs ord hs' bs') (he : ∀ b ∈ bs, b.to < hs.length) {b : BR} (hb : b ∈ bs) : ren ord b ∈ bs' := by
  have z := t.at_ b.to (he b hb)
  have m : ren ord b ∈ (bs.filter fun c => decide (c.to = b.to)).map (ren ord) := List.mem_map.mpr ⟨b, List.mem_filter.mpr ⟨hb, decide_eq_true rfl⟩, rfl⟩
  rw [← z] at m
  exact (List.mem_filter.mp m).1
theorem Turned.mom (t : Turned hs bs ord hs' bs') {k : Nat} (hk : k < hs.length) : momH hs' (ord.idxOf k) = momH hs k := by
  unfold momH
  rw [t.hand _ _ (t.back hk)]
theorem trB_at {bs : List BR} {n : Nat} {b : BR} (e : bs[n]? = some b) : trB bs n = (b.th.length : Int) := by unfold trB; rw [e]
theorem toB_at {bs : List BR} {n : Nat} {b : BR} (e : bs[n]? = some b) : toB bs n = b.to := by unfold toB; rw [e]
theorem Turned.way (t : Turned hs bs ord hs' bs') (he : ∀ b ∈ bs, b.one < hs.length ∧ b.to < hs.length) : ∀ (ns : List Nat) (k e : Nat), wayEnd bs k ns = some e → ∃ ns', wayEnd bs' (ord.idxOf k) ns' = some (ord.idxOf e) ∧ (ns'.map (trB bs')).sum = (ns.map (trB bs)).sum ∧ (ns'.map fun n => momH hs' (toB bs' n)).sum = (ns.map fun n => momH hs (toB bs n)).sum
  | [], k, e, h => by
    obtain rfl : k = e := Option.some.inj h
    exact ⟨[], rfl, rfl, rfl⟩
  | n :: ns, k, e, h => by
    cases eb : bs[n]? with
    | none =>
      have : wayEnd bs k (n :: ns) = none := by
        show (match bs[n]? with | some b => if b.one = k then wayEnd bs b.to ns else none | none => none) = none
        rw [eb]
      rw [this] at h; cases h
    | some b =>
      rw [wayEnd_cons eb] at h
      by_cases z : b.one = k
      · rw [if_pos z] at h
        have hb := List.mem_of_getElem? eb
        obtain ⟨ns', h1, h2, h3⟩ := t.way he ns b.to e h
        obtain ⟨n', en⟩ := List.getElem?_of_mem (t.belt (fun b hb => (he b hb).2) hb)
        refine ⟨n' :: ns', ?_, ?_, ?_⟩
        · rw [wayEnd_cons en, if_pos (show (ren ord b).one = ord.idxOf k by rw [← z]; rfl)]; exact h1
        · rw [List.map_cons, List.sum_cons, List.map_cons, List.sum_cons, h2, trB_at en, trB_at eb]; rfl
        · rw [List.map_cons, List.sum_cons, List.map_cons, List.sum_cons, h3, toB_at en, toB_at eb]
          show momH hs' (ord.idxOf b.to) + _ = _
          rw [t.mom (he b hb).2]
      · rw [if_neg z] at h; cases h
theorem Turned.wayB (t : Turned hs bs ord hs' bs') (he : ∀ b ∈ bs, b.one < hs.length ∧ b.to < hs.length) : ∀ (ns' : List Nat) (k e' : Nat), k < hs.length → wayEnd bs' (ord.idxOf k) ns' = some e' → ∃ ns e, e < hs.length ∧ e' = ord.idxOf e ∧ wayEnd bs k ns = some e ∧ (ns'.map (trB bs')).sum = (ns.map (trB bs)).sum ∧ (ns'.map fun n => momH hs' (toB bs' n)).sum = (ns.map fun n => momH hs (toB bs n)).sum
  | [], k, e', hk, h => ⟨[], k, hk, (Option.some.inj h).symm, rfl, rfl, rfl⟩
  | n' :: ns', k, e', hk, h => by
    cases eb : bs'[n']? with
    | none =>
      have : wayEnd bs' (ord.idxOf k) (n' :: ns') = none := by
        show (match bs'[n']? with | some b => if b.one = _ then wayEnd bs' b.to ns' else none | none => none) = none
        rw [eb]
      rw [this] at h; cases h
    | some b' =>
      rw [wayEnd_cons eb] at h
      by_cases z : b'.one = ord.idxOf k
      · rw [if_pos z] at h
        obtain ⟨b, hb, rfl⟩ := t.of b' (List.mem_of_getElem? eb)
        have e1 : b.one = k := idx_inj (t.mem.mpr (he b hb).1) z (t.mem.mpr hk)
        obtain ⟨ns, e, h0, h1, h2, h3, h4⟩ := t.wayB he ns' b.to e' (he b hb).2 h
        obtain ⟨n, en⟩ := List.getElem?_of_mem hb
        refine ⟨n :: ns, e, h0, h1, ?_, ?_, ?_⟩
        · rw [wayEnd_cons en, if_pos e1]; exact h2
        · rw [List.map_cons, List.sum_cons, List.map_cons, List.sum_cons, h3, trB_at en, trB_at eb]; rfl
        · rw [List.map_cons, List.sum_cons, List.map_cons, List.sum_cons, h4, toB_at en, toB_at eb]
          show momH hs' (ord.idxOf b.to) + _ = _
          rw [t.mom (he b hb).2]
      · rw [if_neg z] at h; cases h
end
/-! #### what is told of the rooms otherwise -/
theorem way_split {bs : List BR} {at_ k e : Nat} {xs zs : List Nat} (h : wayEnd bs k (xs ++ at_ :: zs) = some e) : ∃ b, bs[at_]? = some b ∧ wayEnd bs k xs = some b.one ∧ wayEnd bs b.to zs = some e := by
  rw [wayEnd_append] at h
  cases e1 : wayEnd bs k xs with
  | none => rw [e1] at h; cases h
  | some j =>
    rw [e1] at h
    have h : wayEnd bs j (at_ :: zs) = some e := h
    cases eb : bs[at_]? with
    | none =>
      have : wayEnd bs j (at_ :: zs) = none := by
        show (match bs[at_]? with | some b => if b.one = j then wayEnd bs b.to zs else none | none => none) = none
        rw [eb]
      rw [this] at h; cases h
    | some b =>
      rw [wayEnd_cons eb] at h
      by_cases z : b.one = j
      · rw [if_pos z] at h
        exact ⟨b, rfl, by rw [z], h⟩
      · rw [if_neg z] at h; cases h
theorem way_join {bs : List BR} {at_ k e : Nat} {xs zs : List Nat} {b : BR} (eb : bs[at_]? = some b) (h1 : wayEnd bs k xs = some b.one) (h2 : wayEnd bs b.to zs = some e) : wayEnd bs k (xs ++ at_ :: zs) = some e := by
  rw [wayEnd_append, h1]
  show wayEnd bs b.one (at_ :: zs) = _
  rw [wayEnd_cons eb, if_pos rfl]
  exact h2
theorem way_once {hs : List HR} {bs : List BR} {rk : Nat → Int} {at_ : Nat} (hrk : ∀ b ∈ bs, b.th = [] → rk b.one < rk b.to) : ∀ (m : Nat) (ns : List Nat) (one k : Nat), ns.length ≤ m → wayEnd bs one ns = some k → ∃ ms, wayEnd bs one ms = some k ∧ coLe (wayCo hs bs one ms) (wayCo hs bs one ns) ∧ ms.count at_ ≤ 1
  | 0, ns, one, k, hl, h => ⟨ns, h, coLe.refl _, by rw [List.eq_nil_of_length_eq_zero (Nat.le_zero.mp hl)]; exact Nat.zero_le _⟩
  | m + 1, ns, one, k, hl, h => by
    by_cases c : ns.count at_ ≤ 1
    · exact ⟨ns, h, coLe.refl _, c⟩
    have mem : at_ ∈ ns := List.count_pos_iff.mp (by omega)
    obtain ⟨xs, r, rfl, nx⟩ := List.eq_append_cons_of_mem mem
    have cr : at_ ∈ r := by
      refine List.count_pos_iff.mp ?_
      rw [List.count_append, List.count_cons_self, List.count_eq_zero_of_not_mem nx] at c
      omega
    obtain ⟨ys, zs, rfl⟩ := List.append_of_mem cr
    obtain ⟨b, eb, w1, w2⟩ := way_split h
    obtain ⟨b2, eb2, w3, w4⟩ := way_split w2
    rw [eb] at eb2
    cases eb2
    have cl : wayEnd bs b.to (ys ++ [at_]) = some b.to := way_join eb w3 rfl
    have t1 := way_closed hrk cl (by simp)
    obtain ⟨ms, h1, h2, h3⟩ := way_once (hs := hs) hrk m (xs ++ at_ :: zs) one k (by simp at hl ⊢; omega) (way_join eb w1 w4)
    refine ⟨ms, h1, h2.trans (.inl ?_), h3⟩
    show ((xs ++ at_ :: zs).map (trB bs)).sum < ((xs ++ at_ :: (ys ++ at_ :: zs)).map (trB bs)).sum
    simp only [List.map_append, List.map_cons, List.sum_append, List.sum_cons, List.map_nil, List.sum_nil] at t1 ⊢
    omega
section
variable {hs : List HR} {bs : List BR} {ord : List Nat} {hs' : List HR} {bs' : List BR}
theorem Turned.time (t : Turned hs bs ord hs' bs') (ok : RoomOk hs bs) (h0 : 0 < hs.length) {u v : Int} (tu : timeR hs bs u) (tv : timeR hs' bs' v) : v = u := by
  have ok' := t.ok ok
  obtain ⟨rk, hrk⟩ := ok.rank
  obtain ⟨rk', hrk'⟩ := ok'.rank
  have h0' : 0 < hs'.length := by rw [t.hlen, t.olen]; exact h0
  have a := time_le (s := 1) (by decide) hrk ok.ends h0 hrk' ok'.ends h0' tu tv fun one' e' ns' ho w c => by
    have ol : one' < ord.length := by rw [← t.hlen]; exact ho
    have eo : ord[one']? = some ord[one'] := List.getElem?_eq_getElem ol
    have ok1 : ord[one'] < hs.length := t.mem.mp (List.getElem_mem ol)
    have ei := idx_at t.nd eo
    rw [← ei] at w c ⊢
    obtain ⟨ns, e, h1, h2, h3, h4, h5⟩ := t.wayB ok.ends ns' _ e' ok1 w
    refine ⟨ord[one'], e, ns, ok1, h3, h4.symm.trans c, ?_⟩
    show momH hs' _ + (ns'.map fun n => momH hs' (toB bs' n)).sum = 1 * (momH hs _ + (ns.map fun n => momH hs (toB bs n)).sum)
    rw [h5, t.mom ok1, Int.one_mul]
  have b := time_le (s := 1) (by decide) hrk' ok'.ends h0' hrk ok.ends h0 tv tu fun one e ns ho w c => by
    obtain ⟨ns', h1, h2, h3⟩ := t.way ok.ends ns one e w
    refine ⟨ord.idxOf one, _, ns', t.lt ho, h1, h2.trans c, ?_⟩
    show momH hs _ + (ns.map fun n => momH hs (toB bs n)).sum = 1 * (momH hs' _ + (ns'.map fun n => momH hs' (toB bs' n)).sum)
    rw [h3, t.mom ho, Int.one_mul]
  omega
theorem Turned.best (t : Turned hs bs ord hs' bs') (ok : RoomOk hs bs) {one e : Nat} (ho : one < hs.length) (he : e < hs.length) : Mine.best hs' bs' (ord.idxOf one) (ord.idxOf e) = Mine.best hs bs one e := by
  have ok' := t.ok ok
  obtain ⟨rk, hrk⟩ := ok.rank
  obtain ⟨rk', hrk'⟩ := ok'.rank
  refine (best_map (φ := id) (fun _ _ z => z) hrk (fun b hb => (ok.ends b hb).2) ho hrk' (fun b hb => (ok'.ends b hb).2) (t.lt ho) (fun ns w => ?_) (fun ns' w => ?_)).trans Option.map_id_apply
  · obtain ⟨ns', h1, h2, h3⟩ := t.way ok.ends ns one e w
    refine ⟨ns', h1, Prod.ext h2 ?_⟩
    show momH hs' _ + (ns'.map fun n => momH hs' (toB bs' n)).sum = momH hs _ + (ns.map fun n => momH hs (toB bs n)).sum
    rw [h3, t.mom ho]
  · obtain ⟨ns, e2, h0, h1, h2, h3, h4⟩ := t.wayB ok.ends ns' one _ ho w
    obtain rfl : e = e2 := idx_inj (t.mem.mpr he) h1 (t.mem.mpr h0)
    refine ⟨ns, h2, Prod.ext h3 ?_⟩
    show momH hs' _ + (ns'.map fun n => momH hs' (toB bs' n)).sum = momH hs _ + (ns.map fun n => momH hs (toB bs n)).sum
    rw [h4, t.mom ho]
theorem stand_time (ok : RoomOk hs bs) (ms : List (List Int)) (h0 : 0 < hs.length) {u v : Int} (tu : timeR hs bs u) (tv : timeR hs (stand bs ms) v) : u = v := by
  obtain ⟨rk, hrk⟩ := ok.rank
  obtain ⟨rk', hrk'⟩ := (ok.standing ms).rank
  have a := time_le (s := 1) (by decide) hrk ok.ends h0 hrk' (ok.standing ms).ends h0 tu tv fun one e ns ho w c => ⟨one, e, ns, ho, by rw [← wayEnd_congr (stand_same bs ms)]; exact w, by rw [← stand_co bs ms]; exact c, by rw [stand_co, Int.one_mul]⟩
  have b := time_le (s := 1) (by decide) hrk' (ok.standing ms).ends h0 hrk ok.ends h0 tv tu fun one e ns ho w c => ⟨one, e, ns, ho, by rw [wayEnd_congr (stand_same bs ms)]; exact w, by rw [stand_co bs ms]; exact c, by rw [stand_co, Int.one_mul]⟩
  omega
theorem stand_best (ok : RoomOk hs bs) (ms : List (List Int)) {one e : Nat} (ho : one < hs.length) : Mine.best hs (stand bs ms) one e = Mine.best hs bs one e := by
  obtain ⟨rk, hrk⟩ := ok.rank
  obtain ⟨rk', hrk'⟩ := (ok.standing ms).rank
  exact (best_map (φ := id) (fun _ _ z => z) hrk (fun b hb => (ok.ends b hb).2) ho hrk' (fun b hb => ((ok.standing ms).ends b hb).2) ho (fun ns w => ⟨ns, by rw [wayEnd_congr (stand_same bs ms)]; exact w, stand_co bs ms one ns⟩) (fun ns w => ⟨ns, by rw [← wayEnd_congr (stand_same bs ms)]; exact w, stand_co bs ms one ns⟩)).trans Option.map_id_apply
theorem slow_time {s : Int} (s0 : 0 < s) (lh : hs'.length = hs.length) (hm : ∀ k, momH hs' k = s * momH hs k) (ok : RoomOk hs bs) (ok' : RoomOk hs' bs) (h0 : 0 < hs.length) {u v : Int} (tu : timeR hs bs u) (tv : timeR hs' bs v) : v = s * u := by
  obtain ⟨rk, hrk⟩ := ok.rank
  have a := time_le (s := s) (by omega) hrk ok.ends h0 hrk ok'.ends (by omega) tu tv fun one e ns ho w c => ⟨one, e, ns, by omega, w, by rw [mom_co hm] at c; exact c, by rw [mom_co hm]⟩
  -- the other way: the time there is some way's
  rcases tu with ⟨z, _⟩ | ⟨e, he2, rfl, top⟩
  · rw [z] at h0; exact absurd h0 (Nat.lt_irrefl 0)
  rcases tv with ⟨z, _⟩ | ⟨e', he1, rfl, top'⟩
  · rw [z] at lh; rw [← lh] at h0; exact absurd h0 (Nat.lt_irrefl 0)
  obtain ⟨one, ns, o1, w1, w2⟩ := lng_way hrk ok.ends _ e he2 (Nat.le_refl _)
  have c1 : wayCo hs' bs one ns = (0, s * lng hs bs e) := by rw [mom_co hm, w2]
  have l1 := way_lng hrk ok'.ends (k := one) (by omega) _ ns e (Nat.le_refl _) w1 (by rw [c1])
  rw [c1] at l1
  have l1 : s * lng hs bs e ≤ lng hs' bs e := l1
  have l2 := top' e (by omega)
  omega
theorem slow_best {s : Int} (s0 : 0 < s) (lh : hs'.length = hs.length) (hm : ∀ k, momH hs' k = s * momH hs k) (ok : RoomOk hs bs) {one e : Nat} (ho : one < hs.length) : Mine.best hs' bs one e = (Mine.best hs bs one e).map fun c => (c.1, s * c.2) := by
  obtain ⟨rk, hrk⟩ := ok.rank
  exact best_map (scale_mono (by omega)) hrk (fun b hb => (ok.ends b hb).2) ho hrk (fun b hb => by rw [lh]; exact (ok.ends b hb).2) (by omega) (fun ns w => ⟨ns, w, mom_co hm one ns⟩) (fun ns w => ⟨ns, w, mom_co hm one ns⟩)
/-- a tray more on one belt -/
def moreB (bs : List BR) (n : Nat) (b : BR) : List BR := bs.set n ⟨b.one, b.to, b.th ++ [0]⟩
theorem more_at {n : Nat} {b : BR} (eb : bs[n]? = some b) (i : Nat) : (moreB bs n b)[i]? = if i = n then some ⟨b.one, b.to, b.th ++ [0]⟩ else bs[i]? := by
  unfold moreB
  rw [List.getElem?_set]
  have := (List.getElem?_eq_some_iff.mp eb).1
  by_cases e : i = n
  · rw [if_pos e.symm, if_pos e, if_pos this]
  · rw [if_neg (fun z => e z.symm), if_neg e]
theorem more_same {n : Nat} {b : BR} (eb : bs[n]? = some b) (i : Nat) : ((moreB bs n b)[i]?).map (fun b => (b.one, b.to)) = (bs[i]?).map fun b => (b.one, b.to) := by
  rw [more_at eb]
  by_cases e : i = n
  · rw [if_pos e, e, eb]; rfl
  · rw [if_neg e]
theorem more_tr {n : Nat} {b : BR} (eb : bs[n]? = some b) (ns : List Nat) : (ns.map (trB (moreB bs n b))).sum = (ns.map (trB bs)).sum + (ns.count n : Nat) := by
  induction ns with
  | nil => rfl
  | cons i ns ih =>
    rw [List.map_cons, List.sum_cons, List.map_cons, List.sum_cons, ih, List.count_cons]
    by_cases e : i = n
    · rw [e, trB_at eb, trB_at (b := ⟨b.one, b.to, b.th ++ [0]⟩) (by rw [more_at eb, if_pos rfl])]
      simp
      omega
    · have : trB (moreB bs n b) i = trB bs i := by unfold trB; rw [more_at eb, if_neg e]
      rw [this]
      simp [e]
      omega
theorem more_ok {n : Nat} {b : BR} (eb : bs[n]? = some b) (ok : RoomOk hs bs) (l5 : b.th.length ≤ 5) : RoomOk hs (moreB bs n b) := by
  have hb := List.mem_of_getElem? eb
  obtain ⟨rk, hrk⟩ := ok.rank
  have mem : ∀ c ∈ moreB bs n b, c = ⟨b.one, b.to, b.th ++ [0]⟩ ∨ c ∈ bs := fun c hc => by
    obtain ⟨i, ei⟩ := List.getElem?_of_mem hc
    rw [more_at eb] at ei
    by_cases e : i = n
    · rw [if_pos e] at ei; exact .inl (Option.some.inj ei).symm
    · rw [if_neg e] at ei; exact .inr (List.mem_of_getElem? ei)
  refine ⟨ok.hands, ok.good, fun c hc => ?_, fun c hc h e => ?_, fun c hc => ?_, ⟨rk, fun c hc e => ?_⟩, fun k h e => ?_, by unfold moreB; rw [List.length_set]; exact ok.many⟩
  · rcases mem c hc with rfl | hc
    · exact ok.ends b hb
    · exact ok.ends c hc
  · rcases mem c hc with rfl | hc
    · exact ok.out b hb h e
    · exact ok.out c hc h e
  · rcases mem c hc with rfl | hc
    · exact ⟨by simp; omega, trivial⟩
    · exact ok.th c hc
  · rcases mem c hc with rfl | hc
    · simp at e
    · exact hrk c hc e
  · have : (moreB bs n b).map BR.to = bs.map BR.to := by
      refine List.ext_getElem? fun i => ?_
      rw [List.getElem?_map, List.getElem?_map, more_at eb]
      by_cases z : i = n
      · rw [if_pos z, z, eb]; rfl
      · rw [if_neg z]
    rw [this]
    exact ok.count k h e
theorem more_time {n : Nat} {b : BR} (eb : bs[n]? = some b) (ok : RoomOk hs bs) (ok' : RoomOk hs (moreB bs n b)) (h0 : 0 < hs.length) {u v : Int} (tu : timeR hs bs u) (tv : timeR hs (moreB bs n b) v) : v ≤ u := by
  obtain ⟨rk, hrk⟩ := ok.rank
  obtain ⟨rk', hrk'⟩ := ok'.rank
  have a := time_le (s := 1) (by decide) hrk ok.ends h0 hrk' ok'.ends h0 tu tv fun one e ns ho w c => by
    rw [wayEnd_congr (more_same eb)] at w
    refine ⟨one, e, ns, ho, w, ?_, ?_⟩
    · have t0 := (way_rank hrk w).1
      have c : (ns.map (trB (moreB bs n b))).sum = 0 := c
      rw [more_tr eb] at c
      show (ns.map (trB bs)).sum = 0
      omega
    · rw [Int.one_mul]
      exact momW_congr (more_same eb) one ns
  omega
theorem more_best {n : Nat} {b : BR} (eb : bs[n]? = some b) (ok : RoomOk hs bs) (ok' : RoomOk hs (moreB bs n b)) {one e : Nat} (ho : one < hs.length) :
    (Mine.best hs bs one e = none ∧ Mine.best hs (moreB bs n b) one e = none) ∨ ∃ c d, Mine.best hs bs one e = some c ∧ Mine.best hs (moreB bs n b) one e = some d ∧ c.1 ≤ d.1 ∧ d.1 ≤ c.1 + 1 := by
  obtain ⟨rk, hrk⟩ := ok.rank
  obtain ⟨rk', hrk'⟩ := ok'.rank
  have hto : ∀ b ∈ bs, b.to < hs.length := fun b hb => (ok.ends b hb).2
  have hto' : ∀ c ∈ moreB bs n b, c.to < hs.length := fun b hb => (ok'.ends b hb).2
  have le1 : ∀ {x y : Co}, coLe x y → x.1 ≤ y.1 := fun h => by rcases h with h | h <;> omega
  cases e1 : Mine.best hs bs one e with
  | none =>
    left
    refine ⟨rfl, ?_⟩
    cases e2 : Mine.best hs (moreB bs n b) one e with
    | none => rfl
    | some d =>
      obtain ⟨ns, w1, _⟩ := cfI_snd _ _ _ e2
      rw [wayEnd_congr (more_same eb)] at w1
      obtain ⟨c, h1, _⟩ := best_way hrk hto ho w1
      rw [e1] at h1; cases h1
  | some c =>
    right
    obtain ⟨ns, w1, w2⟩ := cfI_snd _ _ _ e1
    obtain ⟨ms, v1, v2, v3⟩ := way_once (hs := hs) (at_ := n) hrk _ ns one e (Nat.le_refl _) w1
    have v1' : wayEnd (moreB bs n b) one ms = some e := by rw [wayEnd_congr (more_same eb)]; exact v1
    obtain ⟨d, h1, h2⟩ := best_way hrk' hto' ho v1'
    refine ⟨c, d, rfl, h1, ?_, ?_⟩
    · obtain ⟨ps, p1, p2⟩ := cfI_snd _ _ _ h1
      rw [wayEnd_congr (more_same eb)] at p1
      obtain ⟨c', g1, g2⟩ := best_way hrk hto ho p1
      rw [e1] at g1
      cases g1
      have q := le1 g2
      have q2 : (wayCo hs (moreB bs n b) one ps).1 = (wayCo hs bs one ps).1 + (ps.count n : Nat) := more_tr eb ps
      rw [p2] at q2
      omega
    · have q := le1 h2
      have q2 : (wayCo hs (moreB bs n b) one ms).1 = (wayCo hs bs one ms).1 + (ms.count n : Nat) := more_tr eb ms
      have q3 := le1 v2
      rw [w2] at q3
      omega
end
theorem All2.take {α β : Type} {R : α → β → Prop} : ∀ {as : List α} {bs : List β}, All2 R as bs → ∀ n, All2 R (as.take n) (bs.take n)
  | _, _, .nil, n => by rw [List.take_nil, List.take_nil]; exact .nil
  | _, _, .cons h t, 0 => .nil
  | _, _, .cons h t, n + 1 => .cons h (t.take n)
theorem All2.drop {α β : Type} {R : α → β → Prop} : ∀ {as : List α} {bs : List β}, All2 R as bs → ∀ n, All2 R (as.drop n) (bs.drop n)
  | _, _, .nil, n => by rw [List.drop_nil, List.drop_nil]; exact .nil
  | _, _, .cons h t, 0 => .cons h t
  | _, _, .cons h t, n + 1 => t.drop n
/-! ### rooms with other moments -/
def calmH (s : Int) (h : HR) : HR := ⟨h.wd, h.no, if 30 / s < h.mom then 30 / s else h.mom⟩
def slowH (s : Int) (h : HR) : HR := ⟨h.wd, h.no, (if 30 / s < h.mom then 30 / s else h.mom) * s⟩
theorem good_mom {h : HR} {m : Int} (g : GoodHand h) (h0 : 0 ≤ m) (h1 : m ≤ 30) : GoodHand ⟨h.wd, h.no, m⟩ := by
  refine ⟨?_, h0, h1⟩
  rcases g.1 with k | k
  · exact .inl ⟨k.wd, k.no, k.big⟩
  · exact .inr k
theorem RoomOk.hand {hs : List HR} {bs : List BR} (ok : RoomOk hs bs) (g : HR → HR) (w : ∀ h, (g h).wd = h.wd) (good : ∀ h ∈ hs, GoodHand (g h)) : RoomOk (hs.map g) bs := by
  refine ⟨by rw [List.length_map]; exact ok.hands, fun h hh => ?_, fun b hb => by rw [List.length_map]; exact ok.ends b hb, fun b hb h e => ?_, ok.th, ok.rank, fun k h e => ?_, ok.many⟩
  · obtain ⟨h', hm, rfl⟩ := List.mem_map.mp hh
    exact good h' hm
  · rw [List.getElem?_map] at e
    cases e1 : hs[b.one]? with
    | none => rw [e1] at e; cases e
    | some h' =>
      rw [e1] at e
      obtain rfl : g h' = h := Option.some.inj e
      rw [w]; exact ok.out b hb h' e1
  · rw [List.getElem?_map] at e
    cases e1 : hs[k]? with
    | none => rw [e1] at e; cases e
    | some h' =>
      rw [e1] at e
      obtain rfl : g h' = h := Option.some.inj e
      rw [w]; exact ok.count k h' e1
theorem calm_bd {s m : Int} (hs : s = 2 ∨ s = 3) (h0 : 0 ≤ m) : 0 ≤ (if 30 / s < m then 30 / s else m) ∧ (if 30 / s < m then 30 / s else m) ≤ 15 ∧ 0 ≤ (if 30 / s < m then 30 / s else m) * s ∧ (if 30 / s < m then 30 / s else m) * s ≤ 30 := by
  rcases hs with rfl | rfl
  · by_cases c : (30 : Int) / 2 < m
    · rw [if_pos c]; decide
    · rw [if_neg c]; omega
  · by_cases c : (30 : Int) / 3 < m
    · rw [if_pos c]; decide
    · rw [if_neg c]; omega
theorem calm_ok {hs : List HR} {bs : List BR} {s : Int} (h2 : s = 2 ∨ s = 3) (ok : RoomOk hs bs) : RoomOk (hs.map (calmH s)) bs := ok.hand _ (fun _ => rfl) fun h hh => by
  have g := ok.good h hh
  have b := calm_bd h2 g.2.1
  exact good_mom g b.1 (by omega)
theorem slow_ok {hs : List HR} {bs : List BR} {s : Int} (h2 : s = 2 ∨ s = 3) (ok : RoomOk hs bs) : RoomOk (hs.map (slowH s)) bs := ok.hand _ (fun _ => rfl) fun h hh => by
  have g := ok.good h hh
  have b := calm_bd h2 g.2.1
  exact good_mom g b.2.2.1 b.2.2.2
theorem slow_mom {hs : List HR} {s : Int} (k : Nat) : momH (hs.map (slowH s)) k = s * momH (hs.map (calmH s)) k := by
  unfold momH
  rw [List.getElem?_map, List.getElem?_map]
  cases hs[k]? with
  | none => simp
  | some h => exact Int.mul_comm _ _
/-! ### what is told between two hands -/
def BV (H : Hp) (v : V) (o : Option Co) : Prop := (o = none ∧ v = .non) ∨ ∃ (p : Addr) (c : Co), o = some c ∧ v = .ref p ∧ H p = some (.tup [.int c.1, .int c.2])
theorem BV.same {H H' : Hp} {v : V} {o : Option Co} (b : BV H v o) (s : Same H H') : BV H' v o := by
  rcases b with b | ⟨p, c, e1, e2, e3⟩
  · exact .inl b
  · exact .inr ⟨p, c, e1, e2, s _ _ e3⟩
def coD : Option Co → PyData
  | none => .none
  | some c => .tuple [.int c.1, .int c.2]
theorem BV.dp {K : PySem.W.Frag} {H : Hp} {v : V} {o : Option Co} (b : BV H v o) : Dp K H v (coD o) := by
  rcases b with ⟨rfl, rfl⟩ | ⟨p, c, rfl, rfl, h⟩
  · exact .non
  · exact .tup (SqT.of h) (.cons (.int _) (.cons (.int _) .nil))
theorem coD_lay (o : Option Co) : PyData.canLay0 (coD o) = true := by
  cases o with
  | none => rfl
  | some c => exact row_lay [c.1, c.2]
theorem coD_shaped (o : Option Co) : SeqAt.shaped (coD o) = true := by
  cases o with
  | none => rfl
  | some c => exact row_shaped [c.1, c.2]
theorem lb_uni {K : PySem.W.Frag} {H : Hp} {r : Addr} {hs : List HR} {bs : List BR} {one e : Nat} {Q : VK} {E : XK} (hR : RoomAt H r hs bs) (ok : RoomOk hs bs) (ho : one < hs.length) (q : ∀ (v : V) (H' : Hp), BV H' v (best hs bs one e) → Same H H' → Q v H') : sp_least_between K [.ref r, nV one, nV e] H Q E :=
  ⟨r, hs, bs, one, e, rfl, hR, ok, ho, fun H' hn s => q _ _ (.inl ⟨hn, rfl⟩) s, fun p c H' hc hp s => q _ _ (.inr ⟨p, c, hc, rfl, hp⟩) s⟩
section
variable {P : Program} {w : World} {K : PySem.W.Frag} {mg : Str → Option Value} {base : Heap}
def sp_law_calm (K : PySem.W.Frag) : Sp := fun vs H Q _ => ∃ (r : Addr) (s : Int) (hs : List HR) (bs : List BR), vs = [.ref r, .int s] ∧ (s = 2 ∨ s = 3) ∧ RoomAt H r hs bs ∧ hs.length ≤ 12 ∧ ∀ (p : Addr) (H' : Hp), RoomAt H' p (hs.map (calmH s)) bs → Same H H' → Q (.ref p) H'
theorem ok_law_calm {f : Addr} {fd : FuncData} (F : Fun K "_law_calm" "_law_calm" s_law_calm f fd) (T : Top K mg) : FnOk P w K mg base CX0 1 f fd ["_law_room_here", "_law_times"] (sp_law_calm K) := by
  refine F.ok sc_law_calm (fun vs H Q E h => ?_) (fun cdv A outer s H vs Q E hr h => ?_)
  · obtain ⟨r, s, hs, bs, rfl, _⟩ := h
    rfl
  obtain ⟨r, s, hs, bs, rfl, h2, hR, lh, q⟩ := h
  obtain ⟨ha, ba, hv, bv, er, eh, eb, alh, alb⟩ := hR.ex
  have lhv := alh.length
  refine ⟨_, (pss_one (ps_ret (pe_tup (pa_cons (pe_callTy (call_tuple_ofK K rfl) (by rfl) T.m_tuple (by decide +kernel) (pa_cons (pe_lc (own := [("_law_rule_here", 2), ("_law_moments", 3)]) (g := gTup K 2 (gCons (gName 2) (gCons (gName 3) gNil))) (tt := tYes) (by rfl) sc_law_calm.nd (pi_tupK K rfl (pe_ix (ix_tupK K rfl) (pv 0) pe_int (fun _ _ => rfl))) (blkOk_by (own := [("_law_rule_here", 2), ("_law_moments", 3)]) (N := N_law_calm) (sc := defScope s_law_calm) (by decide +kernel)) (fun _ _ _ _ _ => (pg_tupK K rfl rfl (pgs_cons (pg_name (i := 2) sc_law_calm.nd rfl (Or.inl rfl)) (pgs_cons (pg_name (i := 3) sc_law_calm.nd rfl (Or.inl rfl)) pgs_nil)))) (fun _ _ _ _ _ => pts_nil) (fun _ _ _ _ _ => (pe_tup (pa_cons (pv 2) (pa_cons (pe_callB (call_min2 rfl) (by rfl) T.m_min (by decide +kernel) (pa_cons (pv 3) (pa_cons (pe_op op_fdivW pe_int (pv 1)) pa_nil))) pa_nil))))) pa_nil)) (pa_cons (pe_ix (ix_tupK K rfl) (pv 0) pe_int (fun _ _ => rfl)) pa_nil))))), ?_⟩
  refine ⟨_, rfl, r, _, _, _, rfl, rfl, SqT.of er, atI_nat (j := 0) rfl, ha, rfl, ⟨_, SqT.of eh⟩, fun D nD => lc_tup (K := K) (a := ha) (xs := hv) (fun i H5 => ∃ ov : List V, H5 D = some (.lst ov) ∧ All2 (HandAt H5) ov ((hs.take i).map (calmH s)) ∧ Same H H5 ∧ ov.length ≤ i) ⟨[], upd_same, .nil, same_new nD, Nat.le_refl _⟩ (fun i H5 _ ⟨_, _, _, s5, _⟩ => SqT.of (s5 _ _ eh)) ?_ ?_⟩
  · rintro i x H5 hx ⟨ov, hD, al, s5, lv⟩
    have il := (List.getElem?_eq_some_iff.mp hx).1
    obtain ⟨hh, ehh, ⟨t, rl, rfl, e1, e2⟩⟩ := alh.getL hx
    refine ⟨t, _, rfl, SqT.of (s5 _ _ e1), rfl, _, _, rfl, _, _, rfl, rfl, rfl, yes_in ⟨_, rfl, _, rfl, _, rfl, _, _, rfl, rfl, ⟨by omega, ?_⟩, _, _, rfl, (by show 2 ≤ sizeLine; decide), fun p np => ?_⟩⟩
    · rcases h2 with rfl | rfl <;> decide +kernel
    have s6 := s5.trans (same_new (o := .tup [V.ref rl, V.int (calmH s hh).mom]) np)
    refine ⟨ov, same_new np _ _ hD, small1000 (by omega), ov ++ [V.ref p], upd_same, ?_, Same.own s6 nD, by rw [List.length_append]; show ov.length + 1 ≤ i + 1; omega⟩
    rw [List.take_add_one, ehh, List.map_append]
    exact ((al.imp fun _ _ z => z.keep (TK.new np)).snoc (⟨p, rl, rfl, upd_same, s6 _ _ e2⟩ : HandAt _ (V.ref p) (calmH s hh))).imp fun _ _ z => z.keep (TK.lst (same_new np _ _ hD))
  · rintro H5 ⟨ov, hD, al, s5, lv⟩
    rw [lhv, List.take_length] at al
    refine ⟨D, _, rfl, .inl ⟨SqL.of hD, fun tq ntq => ?_⟩⟩
    have s6 := s5.trans (same_new (o := .tup ov) ntq)
    refine ⟨_, rfl, r, _, _, _, rfl, rfl, SqT.of (s6 _ _ er), atI_nat (j := 1) rfl, (by show 2 ≤ sizeLine; decide), fun p np => ?_⟩
    have s7 := s6.trans (same_new (o := .tup [V.ref tq, V.ref ba]) np)
    exact q p _ ⟨tq, ba, ov, bv, upd_same, same_new np _ _ upd_same, s7 _ _ eb, al.imp fun _ _ z => z.keep ((TK.new ntq).trans (TK.new np)), alb.imp fun _ _ z => z.keep (TK.same s7)⟩ s7
def sp_law_slower (K : PySem.W.Frag) : Sp := fun vs H Q _ => ∃ (r : Addr) (s : Int) (hs : List HR) (bs : List BR), vs = [.ref r, .int s] ∧ (s = 2 ∨ s = 3) ∧ RoomAt H r hs bs ∧ hs.length ≤ 12 ∧ ∀ (p : Addr) (H' : Hp), RoomAt H' p (hs.map (slowH s)) bs → Same H H' → Q (.ref p) H'
theorem ok_law_slower {f : Addr} {fd : FuncData} (F : Fun K "_law_slower" "_law_slower" s_law_slower f fd) (T : Top K mg) : FnOk P w K mg base CX0 1 f fd ["_law_room_here", "_law_times"] (sp_law_slower K) := by
  refine F.ok sc_law_slower (fun vs H Q E h => ?_) (fun cdv A outer s H vs Q E hr h => ?_)
  · obtain ⟨r, s, hs, bs, rfl, _⟩ := h
    rfl
  obtain ⟨r, s, hs, bs, rfl, h2, hR, lh, q⟩ := h
  obtain ⟨ha, ba, hv, bv, er, eh, eb, alh, alb⟩ := hR.ex
  have lhv := alh.length
  refine ⟨_, (pss_cons (ps_set (i := 2) sc_law_slower.nd rfl (Or.inl rfl) (pe_callTy (call_tuple_ofK K rfl) (by rfl) T.m_tuple (by decide +kernel) (pa_cons (pe_lc (own := [("_law_rule_here", 3), ("_law_moments", 4)]) (g := gTup K 2 (gCons (gName 3) (gCons (gName 4) gNil))) (tt := tYes) (by rfl) sc_law_slower.nd (pi_tupK K rfl (pe_ix (ix_tupK K rfl) (pv 0) pe_int (fun _ _ => rfl))) (blkOk_by (own := [("_law_rule_here", 3), ("_law_moments", 4)]) (N := N_law_slower) (sc := defScope s_law_slower) (by decide +kernel)) (fun _ _ _ _ _ => (pg_tupK K rfl rfl (pgs_cons (pg_name (i := 3) sc_law_slower.nd rfl (Or.inl rfl)) (pgs_cons (pg_name (i := 4) sc_law_slower.nd rfl (Or.inl rfl)) pgs_nil)))) (fun _ _ _ _ _ => pts_nil) (fun _ _ _ _ _ => (pe_tup (pa_cons (pv 3) (pa_cons (pe_op op_mul (pe_callB (call_min2 rfl) (by rfl) T.m_min (by decide +kernel) (pa_cons (pv 4) (pa_cons (pe_op op_fdivW pe_int (pv 1)) pa_nil))) (pv 1)) pa_nil))))) pa_nil)))
      (pss_one (ps_ret (pe_tup (pa_cons (pv 2) (pa_cons (pe_ix (ix_tupK K rfl) (pv 0) pe_int (fun _ _ => rfl)) pa_nil)))))), ?_⟩
  refine ⟨_, rfl, r, _, _, _, rfl, rfl, SqT.of er, atI_nat (j := 0) rfl, ha, rfl, ⟨_, SqT.of eh⟩, fun D nD => lc_tup (K := K) (a := ha) (xs := hv) (fun i H5 => ∃ ov : List V, H5 D = some (.lst ov) ∧ All2 (HandAt H5) ov ((hs.take i).map (slowH s)) ∧ Same H H5 ∧ ov.length ≤ i) ⟨[], upd_same, .nil, same_new nD, Nat.le_refl _⟩ (fun i H5 _ ⟨_, _, _, s5, _⟩ => SqT.of (s5 _ _ eh)) ?_ ?_⟩
  · rintro i x H5 hx ⟨ov, hD, al, s5, lv⟩
    have il := (List.getElem?_eq_some_iff.mp hx).1
    obtain ⟨hh, ehh, ⟨t, rl, rfl, e1, e2⟩⟩ := alh.getL hx
    refine ⟨t, _, rfl, SqT.of (s5 _ _ e1), rfl, _, _, rfl, _, _, rfl, rfl, rfl, yes_in ⟨_, rfl, _, rfl, _, rfl, _, _, rfl, rfl, ⟨by omega, ?_⟩, _, _, rfl, _, rfl, _, _, rfl, rfl, .inr ⟨by omega, by omega⟩, (by show 2 ≤ sizeLine; decide), fun p np => ?_⟩⟩
    · rcases h2 with rfl | rfl <;> decide +kernel
    have s6 := s5.trans (same_new (o := .tup [V.ref rl, V.int (slowH s hh).mom]) np)
    refine ⟨ov, same_new np _ _ hD, small1000 (by omega), ov ++ [V.ref p], upd_same, ?_, Same.own s6 nD, by rw [List.length_append]; show ov.length + 1 ≤ i + 1; omega⟩
    rw [List.take_add_one, ehh, List.map_append]
    exact ((al.imp fun _ _ z => z.keep (TK.new np)).snoc (⟨p, rl, rfl, upd_same, s6 _ _ e2⟩ : HandAt _ (V.ref p) (slowH s hh))).imp fun _ _ z => z.keep (TK.lst (same_new np _ _ hD))
  · rintro H5 ⟨ov, hD, al, s5, lv⟩
    rw [lhv, List.take_length] at al
    refine ⟨D, _, rfl, .inl ⟨SqL.of hD, fun tq ntq => ?_⟩⟩
    have s6 := s5.trans (same_new (o := .tup ov) ntq)
    refine ⟨_, rfl, _, rfl, r, _, _, _, rfl, rfl, SqT.of (s6 _ _ er), atI_nat (j := 1) rfl, (by show 2 ≤ sizeLine; decide), fun p np => ?_⟩
    have s7 := s6.trans (same_new (o := .tup [V.ref tq, V.ref ba]) np)
    exact q p _ ⟨tq, ba, ov, bv, upd_same, same_new np _ _ upd_same, s7 _ _ eb, al.imp fun _ _ z => z.keep ((TK.new ntq).trans (TK.new np)), alb.imp fun _ _ z => z.keep (TK.same s7)⟩ s7
end
section
variable {P : Program} {w : World} {K : PySem.W.Frag} {mg : Str → Option Value} {base : Heap}
def Prs (H : Hp) (lp : Addr) (n : Nat) (prs : List (Nat × Nat)) : Prop := ∃ pv : List V, H lp = some (.lst pv) ∧ All2 (PairAt H) pv prs ∧ (∀ p ∈ prs, p.1 < n ∧ p.2 < n) ∧ prs.length ≤ 100
theorem Prs.ext {H H' : Hp} {lp : Addr} {n : Nat} {prs : List (Nat × Nat)} (p : Prs H lp n prs) (e : LamX.ExtN H H') : Prs H' lp n prs := by
  obtain ⟨pv, h1, h2, h3, h4⟩ := p
  exact ⟨pv, ExtN.lst e h1, h2.imp fun _ _ z => z.keep (ExtN.tk e), h3, h4⟩
def sp_law_same (K : PySem.W.Frag) (PT : Addr) : Sp := fun vs H Q _ => ∃ (r r2 lp : Addr) (hs : List HR) (bs : List BR) (ms : List (List Int)) (prs : List (Nat × Nat)), vs = [.ref r, .ref r2, .ref lp] ∧ RoomAt H r hs bs ∧ RoomOk hs bs ∧ 0 < hs.length ∧ RoomAt H r2 hs (stand bs ms) ∧ Prs H lp hs.length prs ∧ LamX.Tabs (TL PT) H ∧
  ∀ H', LamX.ExtN H H' → LamX.Tabs (TL PT) H' → Q (.bl true) H'
variable {cT PT : Addr} [TLI : TabL K mg base cT PT]
include TLI
theorem ok_law_same {f : Addr} {fd : FuncData} (F : Fun K "_law_same" "_law_same" s_law_same f fd) (T : Top K mg) : FnOk P w K mg base CX0 5 f fd ["_law_room_here", "_law_other", "_law_pairs"] (sp_law_same K PT) := by
  obtain ⟨f_time_of, fd_time_of, F_time_of, b_time_of, m_time_of⟩ := T.d_time_of
  have G_time_of := ok_time_of (P := P) (w := w) (base := base) F_time_of T
  obtain ⟨f_least_between, fd_least_between, F_least_between, b_least_between, m_least_between⟩ := T.d_least_between
  have G_least_between := ok_least_between (P := P) (w := w) (base := base) F_least_between T
  refine F.ok sc_law_same (fun vs H Q E h => ?_) (fun cdv A outer s H vs Q E hr h => ?_)
  · obtain ⟨r, r2, lp, hs, bs, ms, prs, rfl, _⟩ := h
    rfl
  obtain ⟨r, r2, lp, hs, bs, ms, prs, rfl, hR, ok, pos, hR2, hP, tabs, q⟩ := h
  refine ⟨_, (pss_cons (ps_if (pt_cmpR op_ne (pe_call G_time_of (hr.mono (by decide)) (by rfl) m_time_of F_time_of.kp b_time_of .nil pass0 (pa_cons (pv 0) pa_nil)) (pe_call G_time_of (hr.mono (by decide)) (by rfl) m_time_of F_time_of.kp b_time_of .nil pass0 (pa_cons (pv 1) pa_nil)) (nomark _)) (pss_one (ps_ret pe_bl)) pss_nil)
      (pss_one (ps_ret (pe_callB (cr_allK K rfl rfl) (by rfl) T.m_all (by decide +kernel) (pa_cons (pe_lc (own := [("_law_one", 3), ("_law_two", 4)]) (g := gTup K 2 (gCons (gName 3) (gCons (gName 4) gNil))) (tt := tYes) (by rfl) sc_law_same.nd (pi_listK K rfl (pv 2)) (blkOk_by (own := [("_law_one", 3), ("_law_two", 4)]) (N := N_law_same) (sc := defScope s_law_same) (by decide +kernel)) (fun _ _ _ _ _ => (pg_tupK K rfl rfl (pgs_cons (pg_name (i := 3) sc_law_same.nd rfl (Or.inl rfl)) (pgs_cons (pg_name (i := 4) sc_law_same.nd rfl (Or.inl rfl)) pgs_nil)))) (fun _ _ _ _ _ => pts_nil) (fun _ _ _ _ _ => (pe_cmpR (op_eqDK K rfl hr.units) (pe_call G_least_between (hr.mono (by decide)) (by rfl) m_least_between F_least_between.kp b_least_between .nil pass0 (pa_cons (pv 0) (pa_cons (pv 3) (pa_cons (pv 4) pa_nil)))) (pe_call G_least_between (hr.mono (by decide)) (by rfl) m_least_between F_least_between.kp b_least_between .nil pass0 (pa_cons (pv 1) (pa_cons (pv 3) (pa_cons (pv 4) pa_nil)))) (nomark _)))) pa_nil))))), ?_⟩
  refine ⟨_, rfl, r, hs, bs, rfl, hR, ok, tabs, fun u H1 tu x1 tb1 => ?_⟩
  have hR21 := hR2.keep (ExtN.tk x1)
  refine ⟨_, rfl, r2, hs, stand bs ms, rfl, hR21, ok.standing ms, tb1, fun v H2 tv x2 tb2 => ?_⟩
  obtain rfl := stand_time ok ms pos tu tv
  refine ⟨rfl, _, rfl, if_bl (fun z => ?_) (fun _ => ?_)⟩
  · simp at z
  obtain ⟨pv, h1, alp, lt, few⟩ := (hP.ext x1).ext x2
  have lpv := alp.length
  have hR12 := (hR.keep (ExtN.tk x1)).keep (ExtN.tk x2)
  have hR22 := hR21.keep (ExtN.tk x2)
  refine ⟨_, rfl, lp, rfl, ⟨_, SqL.of h1⟩, fun D nD => lc_list (K := K) (a := lp) (xs := pv) (fun i H5 => H5 D = some (.lst ((List.replicate i true).map V.bl)) ∧ Same H2 H5) ⟨upd_same, same_new nD⟩ (fun i H5 _ ⟨_, s5⟩ => SqL.of (s5 _ _ h1)) ?_ ?_⟩
  · rintro i x H5 hx ⟨hD, s5⟩
    have il := (List.getElem?_eq_some_iff.mp hx).1
    obtain ⟨pr, epr, ⟨t, rfl, e1⟩⟩ := alp.getL hx
    have l := lt pr (List.mem_of_getElem? epr)
    refine ⟨t, _, rfl, SqT.of (s5 _ _ e1), rfl, _, _, rfl, _, _, rfl, rfl, rfl, yes_in ⟨_, rfl, _, rfl, _, rfl, ?_⟩⟩
    dsimp only [tNil]
    refine lb_uni (hR12.keep (TK.same s5)) ok l.1 fun v1 H6 b1 s6 => ?_
    refine ⟨_, rfl, _, rfl, _, rfl, ?_⟩
    dsimp only [tNil]
    refine lb_uni (hR22.keep (TK.same (s5.trans s6))) (ok.standing ms) l.1 fun v2 H7 b2 s7 => ?_
    rw [stand_best ok ms l.1] at b2
    refine ⟨_, _, (b1.same s7).dp, b2.dp, coD_shaped _, coD_shaped _, ?_⟩
    rw [PySem.SeqAt.eqv_refl _ (coD_lay _)]
    refine ⟨_, (s6.trans s7) _ _ hD, ?_, ?_, Same.own ((s5.trans s6).trans s7) nD⟩
    · rw [List.length_map, List.length_replicate]; exact small1000 (by omega)
    · rw [upd_same, List.replicate_succ', List.map_append]; rfl
  · rintro H5 ⟨hD, s5⟩
    refine ⟨D, _, rfl, SqL.of hD, ?_⟩
    rw [show (List.replicate pv.length true).all id = true by simp]
    exact q _ ((x1.trans x2).trans (ExtN.same s5)) (tabs_same tb2 s5)
def sp_law_times_right (K : PySem.W.Frag) (PT : Addr) : Sp := fun vs H Q _ => ∃ (r lp : Addr) (s : Int) (hs : List HR) (bs : List BR) (prs : List (Nat × Nat)), vs = [.ref r, .int s, .ref lp] ∧ (s = 2 ∨ s = 3) ∧ RoomAt H r hs bs ∧ RoomOk hs bs ∧ 0 < hs.length ∧ Prs H lp hs.length prs ∧ LamX.Tabs (TL PT) H ∧
  ∀ H', LamX.ExtN H H' → LamX.Tabs (TL PT) H' → Q (.bl true) H'
theorem ok_law_times_right {f : Addr} {fd : FuncData} (F : Fun K "_law_times_right" "_law_times_right" s_law_times_right f fd) (T : Top K mg) : FnOk P w K mg base CX0 5 f fd ["_law_room_here", "_law_times", "_law_pairs"] (sp_law_times_right K PT) := by
  obtain ⟨f_law_calm, fd_law_calm, F_law_calm, b_law_calm, m_law_calm⟩ := T.d_law_calm
  have G_law_calm := ok_law_calm (P := P) (w := w) (base := base) F_law_calm T
  obtain ⟨f_law_slower, fd_law_slower, F_law_slower, b_law_slower, m_law_slower⟩ := T.d_law_slower
  have G_law_slower := ok_law_slower (P := P) (w := w) (base := base) F_law_slower T
  obtain ⟨f_time_of, fd_time_of, F_time_of, b_time_of, m_time_of⟩ := T.d_time_of
  have G_time_of := ok_time_of (P := P) (w := w) (base := base) F_time_of T
  obtain ⟨f_least_between, fd_least_between, F_least_between, b_least_between, m_least_between⟩ := T.d_least_between
  have G_least_between := ok_least_between (P := P) (w := w) (base := base) F_least_between T
  refine F.ok sc_law_times_right (fun vs H Q E h => ?_) (fun cdv A outer s H vs Q E hr h => ?_)
  · obtain ⟨r, lp, s, hs, bs, prs, rfl, _⟩ := h
    rfl
  obtain ⟨r, lp, s, hs, bs, prs, rfl, h2, hR, ok, pos, hP, tabs, q⟩ := h
  have lh := ok.hands
  have okC := calm_ok h2 ok
  have okS := slow_ok h2 ok
  have lc : (hs.map (calmH s)).length = hs.length := List.length_map ..
  have ls : (hs.map (slowH s)).length = hs.length := List.length_map ..
  have sp : 0 < s := by omega
  refine ⟨_, (pss_cons (ps_par (i := 3) (j := 4) rfl sc_law_times_right.nd rfl rfl (by decide) rfl rfl (pa_cons (pe_call G_law_calm (hr.mono (by decide)) (by rfl) m_law_calm F_law_calm.kp b_law_calm .nil pass0 (pa_cons (pv 0) (pa_cons (pv 1) pa_nil))) (pa_cons (pe_call G_law_slower (hr.mono (by decide)) (by rfl) m_law_slower F_law_slower.kp b_law_slower .nil pass0 (pa_cons (pv 0) (pa_cons (pv 1) pa_nil))) pa_nil)) (by rfl))
      (pss_cons (ps_if (pt_cmpR op_ne (pe_call G_time_of (hr.mono (by decide)) (by rfl) m_time_of F_time_of.kp b_time_of .nil pass0 (pa_cons (pv 4) pa_nil)) (pe_op op_mul (pv 1) (pe_call G_time_of (hr.mono (by decide)) (by rfl) m_time_of F_time_of.kp b_time_of .nil pass0 (pa_cons (pv 3) pa_nil))) (nomark _)) (pss_one (ps_ret pe_bl)) pss_nil)
      (pss_cons (ps_for PassesOwn.never rfl (pi_listK K rfl (pv 2)) (pg_tupK K rfl rfl (pgs_cons (pg_name (i := 5) sc_law_times_right.nd rfl (Or.inl rfl)) (pgs_cons (pg_name (i := 6) sc_law_times_right.nd rfl (Or.inl rfl)) pgs_nil)))
        (pss_cons (ps_par (i := 7) (j := 8) rfl sc_law_times_right.nd rfl rfl (by decide) rfl rfl (pa_cons (pe_call G_least_between (hr.mono (by decide)) (by rfl) m_least_between F_least_between.kp b_least_between .nil pass0 (pa_cons (pv 3) (pa_cons (pv 5) (pa_cons (pv 6) pa_nil)))) (pa_cons (pe_call G_least_between (hr.mono (by decide)) (by rfl) m_least_between F_least_between.kp b_least_between .nil pass0 (pa_cons (pv 4) (pa_cons (pv 5) (pa_cons (pv 6) pa_nil)))) pa_nil)) (by rfl))
      (pss_one (ps_if (PW.pt (pw_or (pt_cmpR op_isN (pv 7) pe_non (nomark _)) (pw_or1 (pt_cmpR op_isN (pv 8) pe_non (nomark _))))) (pss_one (ps_if (PW.pt (pw_or (pt_cmpR op_notN (pv 7) pe_non (nomark _)) (pw_or1 (pt_cmpR op_notN (pv 8) pe_non (nomark _))))) (pss_one (ps_ret pe_bl)) pss_nil)) (pss_one (ps_if (pt_cmpR (op_neDK K rfl hr.units) (pv 8) (pe_tup (pa_cons (pe_ix (ix_tupK K rfl) (pv 7) pe_int (fun _ _ => rfl)) (pa_cons (pe_op op_mul (pv 1) (pe_ix (ix_tupK K rfl) (pv 7) pe_int (fun _ _ => rfl))) pa_nil))) (nomark _)) (pss_one (ps_ret pe_bl)) pss_nil))))))
      (pss_one (ps_ret pe_bl))))), ?_⟩
  refine ⟨_, rfl, _, rfl, r, s, hs, bs, rfl, h2, hR, lh, fun pc H1 hC s1 => ?_⟩
  refine ⟨_, rfl, _, rfl, r, s, hs, bs, rfl, h2, hR.keep (TK.same s1), lh, fun ps H2 hS s2 => ⟨_, _, rfl, ?_⟩⟩
  have s12 := s1.trans s2
  refine ⟨_, rfl, ps, _, _, rfl, hS, okS, tabs_same tabs s12, fun v H3 tv x3 tb3 => ?_⟩
  have hC3 := (hC.keep (TK.same s2)).keep (ExtN.tk x3)
  refine ⟨_, rfl, _, rfl, pc, _, _, rfl, hC3, okC, tb3, fun u H4 tu x4 tb4 => ?_⟩
  have ev := slow_time (hs := hs.map (calmH s)) (hs' := hs.map (slowH s)) sp (by omega) slow_mom okC okS (by omega) tu tv
  refine ⟨_, _, rfl, rfl, .inl ⟨by omega, by omega⟩, rfl, _, rfl, if_bl (fun z => ?_) (fun _ => ?_)⟩
  · simp [ev] at z
  have x14 : LamX.ExtN H H4 := ((ExtN.same s12).trans x3).trans x4
  obtain ⟨pv, h1, alp, lt, few⟩ := hP.ext x14
  have hC4 := hC3.keep (ExtN.tk x4)
  have hS4 := (hS.keep (ExtN.tk x3)).keep (ExtN.tk x4)
  refine ⟨_, rfl, lp, rfl, ⟨_, SqL.of h1⟩, for_list (K := K) (a := lp) (xs := pv) (fun i σ H5 => ∃ v5 v6 v7 v8 : Option V, σ = [some (.ref r), some (.int s), some (.ref lp), some (.ref pc), some (.ref ps), v5, v6, v7, v8] ∧ Same H4 H5) ⟨none, none, none, none, rfl, Same.refl _⟩ (fun i σ H5 _ ⟨_, _, _, _, _, s5⟩ => SqL.of (s5 _ _ h1)) ?_ ?_⟩
  · rintro i x σ H5 hx ⟨v5, v6, v7, v8, rfl, s5⟩
    obtain ⟨pr, epr, ⟨t, rfl, e1⟩⟩ := alp.getL hx
    have l := lt pr (List.mem_of_getElem? epr)
    refine ⟨t, _, rfl, SqT.of (s5 _ _ e1), rfl, _, _, rfl, _, _, rfl, rfl, ?_⟩
    refine ⟨_, rfl, _, rfl, _, rfl, ?_⟩
    dsimp only [tNil]
    refine lb_uni (hC4.keep (TK.same s5)) okC (by rw [lc]; exact l.1) fun w1 H6 b1 s6 => ?_
    refine ⟨_, rfl, _, rfl, _, rfl, ?_⟩
    dsimp only [tNil]
    refine lb_uni (hS4.keep (TK.same (s5.trans s6))) okS (by rw [ls]; exact l.1) fun w2 H7 b2 s7 => ⟨_, _, rfl, ?_⟩
    rw [slow_best (hs := hs.map (calmH s)) sp (by omega) slow_mom okC (by rw [lc]; exact l.1)] at b2
    have s57 := (s5.trans s6).trans s7
    rcases b1 with ⟨n1, rfl⟩ | ⟨p, c, n1, rfl, hp⟩
    · rw [n1] at b2
      rcases b2 with ⟨_, rfl⟩ | ⟨p, c, n2, _⟩
      · refine ⟨_, rfl, rfl, _, rfl, if_bl (fun _ => ?_) (fun z => by simp at z)⟩
        refine ⟨_, rfl, rfl, _, rfl, if_bl (fun z => by simp at z) (fun _ => ⟨_, rfl, rfl, _, rfl, if_bl (fun z => by simp at z) (fun _ => ⟨_, _, _, _, rfl, s57⟩)⟩)⟩
      · cases n2
    · rw [n1] at b2
      rcases b2 with ⟨n2, _⟩ | ⟨p2, c2, n2, rfl, hp2⟩
      · cases n2
      have n2 : some (c.1, s * c.2) = some c2 := n2
      cases n2
      have hp7 := s7 _ _ hp
      refine ⟨_, rfl, rfl, _, rfl, if_bl (fun z => by simp at z) (fun _ => ⟨_, rfl, rfl, _, rfl, if_bl (fun z => by simp at z) (fun _ => ?_)⟩)⟩
      refine ⟨_, rfl, _, rfl, p, _, _, _, rfl, rfl, SqT.of hp7, atI_nat (j := 0) rfl, _, rfl, _, rfl, p, _, _, _, rfl, rfl, SqT.of hp7, atI_nat (j := 1) rfl, _, _, rfl, rfl, .inl ⟨by omega, by omega⟩, (by show 2 ≤ sizeLine; decide), fun tp ntp => ?_⟩
      refine ⟨rowD [c.1, s * c.2], rowD [c.1, s * c.2], .tup (SqT.of (same_new ntp _ _ hp2)) (.cons (.int _) (.cons (.int _) .nil)), .tup (SqT.of upd_same) (.cons (.int _) (.cons (.int _) .nil)), row_shaped [c.1, s * c.2], row_shaped [c.1, s * c.2], _, rfl, ?_⟩
      rw [PySem.SeqAt.eqv_refl _ (row_lay [c.1, s * c.2])]
      exact if_bl (fun z => nomatch z) (fun _ => ⟨_, _, _, _, rfl, s57.trans (same_new ntp)⟩)
  · rintro σ H5 ⟨v5, v6, v7, v8, rfl, s5⟩
    exact q _ (x14.trans (ExtN.same s5)) (tabs_same tb4 s5)
def sp_law_tray_right (K : PySem.W.Frag) (PT : Addr) : Sp := fun vs H Q _ => ∃ (r wp lp : Addr) (n k : Nat) (ns : List Nat) (hs : List HR) (bs : List BR) (b : BR) (prs : List (Nat × Nat)), vs = [.ref r, nV n, .ref wp, .ref lp] ∧ RoomAt H r hs bs ∧ RoomOk hs bs ∧ 0 < hs.length ∧ bs[n]? = some b ∧ b.th.length ≤ 5 ∧ WayAt H wp k ns ∧ (∀ i ∈ ns, i < bs.length) ∧ ns.length ≤ 100 ∧ Prs H lp hs.length prs ∧ LamX.Tabs (TL PT) H ∧
  ∀ H', Q (.bl true) H'
theorem ok_law_tray_right {f : Addr} {fd : FuncData} (F : Fun K "_law_tray_right" "_law_tray_right" s_law_tray_right f fd) (T : Top K mg) : FnOk P w K mg base CX0 5 f fd ["_law_room_here", "_law_at", "_law_way", "_law_pairs"] (sp_law_tray_right K PT) := by
  obtain ⟨f_least_between, fd_least_between, F_least_between, b_least_between, m_least_between⟩ := T.d_least_between
  have G_least_between := ok_least_between (P := P) (w := w) (base := base) F_least_between T
  obtain ⟨f_trays_on, fd_trays_on, F_trays_on, b_trays_on, m_trays_on⟩ := T.d_trays_on
  have G_trays_on := ok_trays_on (P := P) (w := w) (base := base) F_trays_on T
  obtain ⟨f_time_of, fd_time_of, F_time_of, b_time_of, m_time_of⟩ := T.d_time_of
  have G_time_of := ok_time_of (P := P) (w := w) (base := base) F_time_of T
  refine F.ok sc_law_tray_right (fun vs H Q E h => ?_) (fun cdv A outer s H vs Q E hr h => ?_)
  · obtain ⟨r, wp, lp, n, k, ns, hs, bs, b, prs, rfl, _⟩ := h
    rfl
  obtain ⟨r, wp, lp, n, k, ns, hs, bs, b, prs, rfl, hR, ok, pos, ebn, l5, hW, nsl, nsf, hP, tabs, q⟩ := h
  obtain ⟨ha, ba, hv, bv, er, eh, eb, alh, alb⟩ := hR.ex
  have lb := ok.many
  have lbv := alb.length
  have nl := (List.getElem?_eq_some_iff.mp ebn).1
  obtain ⟨x0, ex0, ⟨t, g, rfl, e1, e2⟩⟩ := alb.get ebn
  have ok' := more_ok ebn ok l5
  refine ⟨_, (pss_cons (ps_asg (pe_ix (ix_tupK K rfl) (pe_ix (ix_tupK K rfl) (pv 0) pe_int (fun _ _ => rfl)) (pv 1) (fun _ _ => rfl)) (pg_tupK K rfl rfl (pgs_cons (pg_name (i := 4) sc_law_tray_right.nd rfl (Or.inl rfl)) (pgs_cons (pg_name (i := 5) sc_law_tray_right.nd rfl (Or.inl rfl)) (pgs_cons (pg_name (i := 6) sc_law_tray_right.nd rfl (Or.inl rfl)) pgs_nil)))))
      (pss_cons (ps_set (i := 7) sc_law_tray_right.nd rfl (Or.inl rfl) (pe_tup (pa_cons (pe_ix (ix_tupK K rfl) (pv 0) pe_int (fun _ _ => rfl)) (pa_cons (pe_op (op_catAK K rfl) (pe_op (op_catAK K rfl) (pe_slice (sl_tupAK K rfl) (pe_ix (ix_tupK K rfl) (pv 0) pe_int (fun _ _ => rfl)) po_none (po_some (pv 1))) (pe_tup (pa_cons (pe_tup (pa_cons (pv 4) (pa_cons (pv 5) (pa_cons (pe_op (op_catAK K rfl) (pv 6) (pe_tup (pa_cons pe_int pa_nil))) pa_nil)))) pa_nil))) (pe_slice (sl_tupAK K rfl) (pe_ix (ix_tupK K rfl) (pv 0) pe_int (fun _ _ => rfl)) (po_some (pe_op op_add (pv 1) pe_int)) po_none)) pa_nil))))
      (pss_cons (ps_for PassesOwn.never rfl (pi_listK K rfl (pv 3)) (pg_tupK K rfl rfl (pgs_cons (pg_name (i := 8) sc_law_tray_right.nd rfl (Or.inl rfl)) (pgs_cons (pg_name (i := 9) sc_law_tray_right.nd rfl (Or.inl rfl)) pgs_nil)))
        (pss_cons (ps_par (i := 10) (j := 11) rfl sc_law_tray_right.nd rfl rfl (by decide) rfl rfl (pa_cons (pe_call G_least_between (hr.mono (by decide)) (by rfl) m_least_between F_least_between.kp b_least_between .nil pass0 (pa_cons (pv 0) (pa_cons (pv 8) (pa_cons (pv 9) pa_nil)))) (pa_cons (pe_call G_least_between (hr.mono (by decide)) (by rfl) m_least_between F_least_between.kp b_least_between .nil pass0 (pa_cons (pv 7) (pa_cons (pv 8) (pa_cons (pv 9) pa_nil)))) pa_nil)) (by rfl))
      (pss_one (ps_if (PW.pt (pw_or (pt_cmpR op_ne (pe_cmpR op_isN (pv 10) pe_non (nomark _)) (pe_cmpR op_isN (pv 11) pe_non (nomark _)) (nomark _)) (pw_or1 (PW.pt (pw_and (pt_cmpR op_notN (pv 10) pe_non (nomark _)) (pw_and1 (pt_not (pt_chain op_le op_le (pe_ix (ix_tupK K rfl) (pv 10) pe_int (fun _ _ => rfl)) (pe_ix (ix_tupK K rfl) (pv 11) pe_int (fun _ _ => rfl)) (pe_op op_add (pe_ix (ix_tupK K rfl) (pv 10) pe_int (fun _ _ => rfl)) pe_int))))))))) (pss_one (ps_ret pe_bl)) pss_nil))))
      (pss_cons (ps_set (i := 12) sc_law_tray_right.nd rfl (Or.inl rfl) (pe_callB (call_len_seqK K rfl) (by rfl) T.m_len (by decide +kernel) (pa_cons (pe_lc (own := [("_law_b", 13)]) (g := gName 13) (by rfl) sc_law_tray_right.nd (pi_tupK K rfl (pe_ix (ix_tupK K rfl) (pv 2) pe_int (fun _ _ => rfl))) (blkOk_by (own := [("_law_b", 13)]) (N := N_law_tray_right) (sc := defScope s_law_tray_right) (by decide +kernel)) (fun _ _ _ _ _ => (pg_name (i := 13) sc_law_tray_right.nd rfl (Or.inl rfl))) (fun _ _ _ _ _ => pts_one (pt_cmpR op_eq (pv 13) (pv 1) (nomark _))) (fun _ _ _ _ _ => (pv 13))) pa_nil)))
      (pss_one (ps_ret (pe_and (pe_cmpR op_eq (pe_call G_trays_on (hr.mono (by decide)) (by rfl) m_trays_on F_trays_on.kp b_trays_on .nil pass0 (pa_cons (pv 7) (pa_cons (pv 2) pa_nil))) (pe_op op_add (pe_call G_trays_on (hr.mono (by decide)) (by rfl) m_trays_on F_trays_on.kp b_trays_on .nil pass0 (pa_cons (pv 0) (pa_cons (pv 2) pa_nil))) (pv 12)) (nomark _)) (pe_one (pe_cmpR op_le (pe_call G_time_of (hr.mono (by decide)) (by rfl) m_time_of F_time_of.kp b_time_of .nil pass0 (pa_cons (pv 7) pa_nil)) (pe_call G_time_of (hr.mono (by decide)) (by rfl) m_time_of F_time_of.kp b_time_of .nil pass0 (pa_cons (pv 0) pa_nil)) (nomark _)))))))))), ?_⟩
  refine ⟨_, rfl, r, _, _, _, rfl, rfl, SqT.of er, atI_nat (j := 1) rfl, _, rfl, ba, _, _, _, rfl, rfl, SqT.of eb, atI_nat ex0, t, _, rfl, SqT.of e1, rfl, _, _, rfl, _, _, rfl, _, _, rfl, rfl, ?_⟩
  refine ⟨_, rfl, r, _, _, _, rfl, rfl, SqT.of er, atI_nat (j := 0) rfl, _, rfl, r, _, _, _, rfl, rfl, SqT.of er, atI_nat (j := 1) rfl, _, rfl, _, rfl, ?_⟩
  dsimp only [tNoPart]
  refine slA_of eb fun p1 H1 hp1 s1 => ?_
  rw [cut_take] at hp1
  refine ⟨_, rfl, _, rfl, _, rfl, (by show 1 ≤ sizeLine; decide), fun z1 nz1 => ?_⟩
  have s2 := s1.trans (same_new (o := .tup [V.int 0]) nz1)
  refine catA_of (s2 _ _ e2) upd_same (by rw [List.length_map]; show _ + 1 ≤ 1000; omega) fun p2 H3 hp2 s3 => ?_
  have s13 := s2.trans s3
  refine ⟨(by show 3 ≤ sizeLine; decide), fun y ny => ⟨(by show 1 ≤ sizeLine; decide), fun y2 ny2 => ?_⟩⟩
  have s4 := s13.trans (same_new (o := .tup [V.int (b.one : Nat), V.int (b.to : Nat), V.ref p2]) ny)
  have s45 := same_new (o := .tup [V.ref y]) ny2
  have s5 := s4.trans s45
  have hp1' := (((same_new (o := .tup [V.int 0]) nz1).trans s3).trans ((same_new (o := .tup [V.int (b.one : Nat), V.int (b.to : Nat), V.ref p2]) ny).trans s45)) _ _ hp1
  refine catA_of hp1' upd_same (by rw [List.length_take]; show _ + 1 ≤ 1000; omega) fun p3 H6 hp3 s6 => ?_
  have s16 := s5.trans s6
  refine ⟨_, rfl, r, _, _, _, rfl, rfl, SqT.of (s16 _ _ er), atI_nat (j := 1) rfl, _, rfl, _, _, rfl, rfl, _, rfl, ?_⟩
  dsimp only [tNoPart]
  refine slA_of (s16 _ _ eb) fun p4 H7 hp4 s7 => ?_
  rw [show ((n : Nat) : Int) + 1 = ((n + 1 : Nat) : Int) by omega, cut_drop] at hp4
  refine catA_of (s7 _ _ hp3) hp4 (by rw [List.length_append, List.length_take, List.length_drop]; show _ + 1 + _ ≤ 1000; omega) fun p5 H8 hp5 s8 => ?_
  have s68 := (s6.trans s7).trans s8
  have s18 := (s16.trans s7).trans s8
  refine ⟨(by show 2 ≤ sizeLine; decide), fun mr nmr => ?_⟩
  have s89 : Same H8 (upd H8 mr (.tup [V.ref ha, V.ref p5])) := same_new nmr
  have s19 := s18.trans s89
  have sy9 := (s45.trans s68).trans s89
  have hy := sy9 _ _ upd_same
  have hp29 := ((same_new (o := .tup [V.int (b.one : Nat), V.int (b.to : Nat), V.ref p2]) ny).trans sy9) _ _ hp2
  have hM : RoomAt (upd H8 mr (.tup [V.ref ha, V.ref p5])) mr hs (moreB bs n b) := by
    refine ⟨ha, p5, hv, _, upd_same, s19 _ _ eh, s89 _ _ hp5, alh.imp fun _ _ z => z.keep (TK.same s19), ?_⟩
    unfold moreB
    rw [List.set_eq_take_append_cons_drop, if_pos nl]
    have alb9 : All2 (BeltAt (upd H8 mr (.tup [V.ref ha, V.ref p5]))) bv bs := alb.imp fun _ _ z => z.keep (TK.same s19)
    have yB : BeltAt (upd H8 mr (.tup [V.ref ha, V.ref p5])) (V.ref y) ⟨b.one, b.to, b.th ++ [0]⟩ := ⟨y, p2, rfl, hy, by rw [List.map_append]; exact hp29⟩
    rw [List.append_assoc]
    exact All2.app (All2.cons yB (alb9.drop (n + 1))) (alb9.take n)
  obtain ⟨H9, eH9⟩ : ∃ H9, H9 = upd H8 mr (.tup [V.ref ha, V.ref p5]) := ⟨_, rfl⟩
  rw [← eH9] at hM s19 ⊢
  clear eH9 hy hp29 sy9 s89 s68 s18 hp5 hp4 s8 s7 s16 hp3 s6 hp1' s5 s45 s4 s13 hp2 s3 s2 hp1 s1
  obtain ⟨pv, h1, alp, lt, few⟩ := hP.ext (ExtN.same s19)
  refine ⟨_, rfl, lp, rfl, ⟨_, SqL.of h1⟩, for_list (K := K) (a := lp) (xs := pv) (fun i σ H5 => ∃ v8 v9 va vb : Option V, σ = [some (.ref r), some (nV n), some (.ref wp), some (.ref lp), some (nV b.one), some (nV b.to), some (.ref g), some (.ref mr), v8, v9, va, vb, none, none] ∧ Same H9 H5) ⟨none, none, none, none, rfl, Same.refl _⟩ (fun i σ H5 _ ⟨_, _, _, _, _, s5⟩ => SqL.of (s5 _ _ h1)) ?_ ?_⟩
  · rintro i x σ H5 hx ⟨v8, v9, va, vb, rfl, s5⟩
    obtain ⟨pr, epr, ⟨t, rfl, e1⟩⟩ := alp.getL hx
    have l := lt pr (List.mem_of_getElem? epr)
    refine ⟨t, _, rfl, SqT.of (s5 _ _ e1), rfl, _, _, rfl, _, _, rfl, rfl, ?_⟩
    refine ⟨_, rfl, _, rfl, _, rfl, ?_⟩
    dsimp only [tNil]
    refine lb_uni (hR.keep (TK.same (s19.trans s5))) ok l.1 fun w1 H6 b1 s6 => ?_
    refine ⟨_, rfl, _, rfl, _, rfl, ?_⟩
    dsimp only [tNil]
    refine lb_uni (hM.keep (TK.same (s5.trans s6))) ok' l.1 fun w2 H7 b2 s7 => ⟨_, _, rfl, ?_⟩
    have s57 := (s5.trans s6).trans s7
    rcases more_best (e := pr.2) ebn ok ok' l.1 with ⟨m1, m2⟩ | ⟨c, d, m1, m2, m3, m4⟩
    · rw [m1] at b1
      rw [m2] at b2
      rcases b1 with ⟨_, rfl⟩ | ⟨_, _, z, _⟩
      · rcases b2 with ⟨_, rfl⟩ | ⟨_, _, z, _⟩
        · refine ⟨_, rfl, rfl, _, rfl, rfl, rfl, _, rfl, if_bl (fun z => by simp at z) (fun _ => ?_)⟩
          refine ⟨_, rfl, rfl, _, rfl, if_bl (fun z => by simp at z) (fun _ => if_bl (fun z => nomatch z) (fun _ => ⟨_, _, _, _, rfl, s57⟩))⟩
        · cases z
      · cases z
    · rw [m1] at b1
      rw [m2] at b2
      rcases b1 with ⟨z, _⟩ | ⟨q1, c1, z1, rfl, hq1⟩
      · cases z
      rcases b2 with ⟨z, _⟩ | ⟨q2, c2, z2, rfl, hq2⟩
      · cases z
      cases z1
      cases z2
      have hq1' := s7 _ _ hq1
      refine ⟨_, rfl, rfl, _, rfl, rfl, rfl, _, rfl, if_bl (fun z => by simp at z) (fun _ => ?_)⟩
      refine ⟨_, rfl, rfl, _, rfl, if_bl (fun _ => ?_) (fun z => by simp at z)⟩
      refine ⟨_, rfl, q1, _, _, _, rfl, rfl, SqT.of hq1', atI_nat (j := 0) rfl, _, rfl, q2, _, _, _, rfl, rfl, SqT.of hq2, atI_nat (j := 0) rfl, _, _, rfl, rfl, _, rfl, if_bl (fun _ => ?_) (fun z => absurd m3 (of_decide_eq_false z))⟩
      refine ⟨_, rfl, q1, _, _, _, rfl, rfl, SqT.of hq1', atI_nat (j := 0) rfl, _, _, rfl, rfl, _, _, rfl, rfl, _, rfl, if_bl (fun z => ?_) (fun _ => ⟨_, _, _, _, rfl, s57⟩)⟩
      rw [decide_eq_true m4] at z
      cases z
  rintro σ H5 ⟨v8, v9, va, vb, rfl, s5⟩
  obtain ⟨gw, hw1, hw2⟩ := hW.keep (TK.same (s19.trans s5))
  refine ⟨_, rfl, wp, _, _, _, rfl, rfl, SqT.of hw1, atI_nat (j := 1) rfl, gw, rfl, ⟨_, SqT.of hw2⟩, fun D nD => lc_tup (K := K) (a := gw) (xs := ns.map nV) (fun i H6 => ∃ vs : List V, H6 D = some (.lst vs) ∧ vs.length = (ns.take i).count n ∧ Same H5 H6) ⟨[], upd_same, by rw [List.take_zero]; rfl, same_new nD⟩ (fun i H6 _ ⟨_, _, _, s6⟩ => SqT.of (s6 _ _ hw2)) ?_ ?_⟩
  · rintro i x H6 hx ⟨vs, hD, lv, s6⟩
    rw [List.getElem?_map] at hx
    cases ei : ns[i]? with
    | none => rw [ei] at hx; cases hx
    | some j =>
    rw [ei] at hx
    obtain rfl : nV j = x := Option.some.inj hx
    have cl := List.count_le_length (a := n) (l := ns.take i)
    rw [List.length_take] at cl
    refine ⟨rfl, _, rfl, _, rfl, rfl, _, rfl, if_bl (fun z => ?_) (fun z => ?_)⟩
    · have ej : j = n := by
        have := V.int.inj (of_decide_eq_true z)
        omega
      refine ⟨_, rfl, vs, hD, small1000 (by omega), vs ++ [nV j], upd_same, ?_, Same.own s6 nD⟩
      rw [List.take_add_one, ei, List.count_append, List.length_append, lv, ej]
      simp
    · have ej : j ≠ n := fun y => of_decide_eq_false z (by rw [y])
      refine ⟨vs, hD, ?_, s6⟩
      rw [List.take_add_one, ei, List.count_append, lv]
      simp [ej]
  · rintro H6 ⟨vs, hD, lv, s6⟩
    rw [List.length_map, List.take_length] at lv
    refine ⟨D, _, rfl, .inl (SqL.of hD), ?_⟩
    have s96 := s5.trans s6
    have nsl' : ∀ i ∈ ns, i < (moreB bs n b).length := fun i hi => by unfold moreB; rw [List.length_set]; exact nsl i hi
    refine ⟨_, rfl, _, rfl, mr, wp, hs, moreB bs n b, k, ns, rfl, hM.keep (TK.same s96), hW.keep (TK.same (s19.trans s96)), nsl', by omega, fun H7 s7 => ?_⟩
    refine ⟨_, rfl, _, rfl, r, wp, hs, bs, k, ns, rfl, hR.keep (TK.same ((s19.trans s96).trans s7)), hW.keep (TK.same ((s19.trans s96).trans s7)), nsl, by omega, fun H8 s8 => ?_⟩
    have s98 := (s96.trans s7).trans s8
    refine ⟨_, rfl, _, _, rfl, rfl, rfl, _, rfl, if_bl (fun _ => ?_) (fun z => ?_)⟩
    · refine ⟨_, rfl, mr, _, _, rfl, hM.keep (TK.same s98), ok', tabs_same tabs (s19.trans s98), fun v Ha tv x1 tb1 => ?_⟩
      refine ⟨_, rfl, r, _, _, rfl, (hR.keep (TK.same (s19.trans s98))).keep (ExtN.tk x1), ok, tb1, fun u Hb tu x2 tb2 => ⟨_, _, rfl, rfl, ?_⟩⟩
      show Q (V.bl (decide (v ≤ u))) Hb
      rw [decide_eq_true (more_time ebn ok ok' pos tu tv)]
      exact q _
    · exfalso
      refine of_decide_eq_false z ?_
      show V.int _ = V.int (_ + _)
      rw [more_tr ebn, lv]
end
section
variable {P : Program} {w : World} {K : PySem.W.Frag} {mg : Str → Option Value} {base : Heap}
def sp_law (K : PySem.W.Frag) (PT : Addr) : Sp := fun vs H Q _ => ∃ (a : Addr) (ns : List Int), vs = [.ref a] ∧ SqL K H a (ns.map V.int) ∧ ns.length ≤ 63 ∧ LamX.Tabs (TL PT) H ∧ ∀ H', Q (.bl true) H'
variable {cT PT : Addr} [TLI : TabL K mg base cT PT]
include TLI
theorem ok_law {f : Addr} {fd : FuncData} (F : Fun K "law" "law" s_law f fd) (T : Top K mg) : FnOk P w K mg base CX0 6 f fd ["_law_script"] (sp_law K PT) := by
  obtain ⟨f_law_flow, fd_law_flow, F_law_flow, b_law_flow, m_law_flow⟩ := T.d_law_flow
  have G_law_flow := ok_law_flow (P := P) (w := w) (base := base) F_law_flow T
  obtain ⟨f_law_room, fd_law_room, F_law_room, b_law_room, m_law_room⟩ := T.d_law_room
  have G_law_room := ok_law_room (P := P) (w := w) (base := base) F_law_room T
  obtain ⟨f_law_turned_room, fd_law_turned_room, F_law_turned_room, b_law_turned_room, m_law_turned_room⟩ := T.d_law_turned_room
  have G_law_turned_room := ok_law_turned_room (P := P) (w := w) (base := base) F_law_turned_room T
  obtain ⟨f_law_rows, fd_law_rows, F_law_rows, b_law_rows, m_law_rows⟩ := T.d_law_rows
  have G_law_rows := ok_law_rows (P := P) (w := w) (base := base) F_law_rows T
  obtain ⟨f_law_pick, fd_law_pick, F_law_pick, b_law_pick, m_law_pick⟩ := T.d_law_pick
  have G_law_pick := ok_law_pick (P := P) (w := w) (base := base) F_law_pick T
  obtain ⟨f_law_tray_right, fd_law_tray_right, F_law_tray_right, b_law_tray_right, m_law_tray_right⟩ := T.d_law_tray_right
  have G_law_tray_right := ok_law_tray_right (P := P) (w := w) (base := base) F_law_tray_right T
  obtain ⟨f_time_of, fd_time_of, F_time_of, b_time_of, m_time_of⟩ := T.d_time_of
  have G_time_of := ok_time_of (P := P) (w := w) (base := base) F_time_of T
  obtain ⟨f_law_walk, fd_law_walk, F_law_walk, b_law_walk, m_law_walk⟩ := T.d_law_walk
  have G_law_walk := ok_law_walk (P := P) (w := w) (base := base) F_law_walk T
  obtain ⟨f_least_between, fd_least_between, F_least_between, b_least_between, m_least_between⟩ := T.d_least_between
  have G_least_between := ok_least_between (P := P) (w := w) (base := base) F_least_between T
  obtain ⟨f_law_same, fd_law_same, F_law_same, b_law_same, m_law_same⟩ := T.d_law_same
  have G_law_same := ok_law_same (P := P) (w := w) (base := base) F_law_same T
  obtain ⟨f_law_times_right, fd_law_times_right, F_law_times_right, b_law_times_right, m_law_times_right⟩ := T.d_law_times_right
  have G_law_times_right := ok_law_times_right (P := P) (w := w) (base := base) F_law_times_right T
  obtain ⟨f_standing, fd_standing, F_standing, b_standing, m_standing⟩ := T.d_standing
  have G_standing := ok_standing (P := P) (w := w) (base := base) F_standing T
  refine F.ok sc_law (fun vs H Q E h => ?_) (fun cdv A outer s H vs Q E hr h => ?_)
  · obtain ⟨a, ns, rfl, _⟩ := h
    rfl
  obtain ⟨a, ns, rfl, hS, hlen, tabs, q⟩ := h
  let R1 : TS := fun D' σ' H' => D'.rt = Q ∧ ∃ (f c r lp : Addr) (hs : List HR) (bs : List BR) (prs : List (Nat × Nat)) (v5 : Option V), σ' = [some (.ref a), some (.ref f), some (.ref r), some (nV hs.length), some (.ref lp), v5, none, none, none, none, none, none] ∧ RoomAt H' r hs bs ∧ RoomOk hs bs ∧ 0 < hs.length ∧ Prs H' lp hs.length prs ∧ lp ≠ f ∧ Flow H' f c ∧ LamX.Tabs (TL PT) H'
  let R2 : TS := fun D' σ' H' => D'.rt = Q ∧ ∃ (f c r lp t od : Addr) (hs : List HR) (bs : List BR) (prs : List (Nat × Nat)) (v5 v8 v9 : Option V), σ' = [some (.ref a), some (.ref f), some (.ref r), some (nV hs.length), some (.ref lp), v5, some (.ref t), some (.ref od), v8, v9, none, none] ∧ RoomAt H' r hs bs ∧ RoomOk hs bs ∧ 0 < hs.length ∧ Prs H' lp hs.length prs ∧ lp ≠ f ∧ Flow H' f c ∧ LamX.Tabs (TL PT) H'
  refine ⟨_, (pss_cons (ps_set (i := 1) sc_law.nd rfl (Or.inr rfl) (pe_call G_law_flow (hr.mono (by decide)) (by rfl) m_law_flow F_law_flow.kp b_law_flow .nil pass0 (pa_cons (pv 0) pa_nil)))
      (pss_cons (ps_set (i := 2) sc_law.nd rfl (Or.inl rfl) (pe_call G_law_room (hr.mono (by decide)) (by rfl) m_law_room F_law_room.kp b_law_room .nil pass0 (pa_cons (pv 1) (pa_cons (pe_ix (ix_listK K rfl) (pe_lst (pa_cons pe_int (pa_cons pe_int (pa_cons pe_int pa_nil)))) (pe_call G_law_pick (hr.mono (by decide)) (by rfl) m_law_pick F_law_pick.kp b_law_pick .nil pass0 (pa_cons (pv 1) (pa_cons pe_int pa_nil))) (fun _ _ => rfl)) pa_nil))))
      (pss_cons (ps_set (i := 3) sc_law.nd rfl (Or.inr rfl) (pe_callB (call_len_seqK K rfl) (by rfl) T.m_len (by decide +kernel) (pa_cons (pe_ix (ix_tupK K rfl) (pv 2) pe_int (fun _ _ => rfl)) pa_nil)))
      (pss_cons (ps_setLc (i := 4) (own := [("_law_k", 5)]) (g := gName 5) (tt := tYes) (by rfl) sc_law.nd rfl rfl (sw_true rfl rfl rfl (by decide +kernel)) (pi_range1 (by rfl) T.m_range (pa_cons pe_int pa_nil)) (blkOk_by (own := [("_law_k", 5)]) (N := N_law) (sc := defScope s_law) (by decide +kernel)) (fun _ _ _ _ _ => (pg_name (i := 5) sc_law.nd rfl (Or.inl rfl))) (fun _ _ _ _ _ => pts_nil) (fun _ _ _ _ _ => (pe_tup (pa_cons (pe_call G_law_pick (hr.mono (by decide)) (by rfl) m_law_pick F_law_pick.kp b_law_pick .nil pass0 (pa_cons (pv 1) (pa_cons (pv 3) pa_nil))) (pa_cons (pe_call G_law_pick (hr.mono (by decide)) (by rfl) m_law_pick F_law_pick.kp b_law_pick .nil pass0 (pa_cons (pv 1) (pa_cons (pv 3) pa_nil))) pa_nil)))))
      (PSs.to (pss_cons (ps_asg (pe_call G_law_turned_room (hr.mono (by decide)) (by rfl) m_law_turned_room F_law_turned_room.kp b_law_turned_room .nil pass0 (pa_cons (pv 1) (pa_cons (pv 2) pa_nil))) (pg_tupK K rfl rfl (pgs_cons (pg_name (i := 6) sc_law.nd rfl (Or.inl rfl)) (pgs_cons (pg_name (i := 7) sc_law.nd rfl (Or.inl rfl)) pgs_nil))))
      (pss_cons (ps_if (pt_cmpR op_ne (pe_call G_time_of (hr.mono (by decide)) (by rfl) m_time_of F_time_of.kp b_time_of .nil pass0 (pa_cons (pv 6) pa_nil)) (pe_call G_time_of (hr.mono (by decide)) (by rfl) m_time_of F_time_of.kp b_time_of .nil pass0 (pa_cons (pv 2) pa_nil)) (nomark _)) (pss_one (ps_ret pe_bl)) pss_nil)
      (pss_cons (ps_for PassesOwn.never rfl (pi_listK K rfl (pv 4)) (pg_tupK K rfl rfl (pgs_cons (pg_name (i := 8) sc_law.nd rfl (Or.inl rfl)) (pgs_cons (pg_name (i := 9) sc_law.nd rfl (Or.inl rfl)) pgs_nil)))
        (pss_one (ps_if (pt_cmpR (op_neDK K rfl hr.units) (pe_call G_least_between (hr.mono (by decide)) (by rfl) m_least_between F_least_between.kp b_least_between .nil pass0 (pa_cons (pv 6) (pa_cons (pe_bmK K rfl PySem.F.plainAttrs_list PySem.F.slot_list_index PySem.F.type_list_index (mt_indexK K rfl) (pv 7) (pa_cons (pv 8) pa_nil)) (pa_cons (pe_bmK K rfl PySem.F.plainAttrs_list PySem.F.slot_list_index PySem.F.type_list_index (mt_indexK K rfl) (pv 7) (pa_cons (pv 9) pa_nil)) pa_nil)))) (pe_call G_least_between (hr.mono (by decide)) (by rfl) m_least_between F_least_between.kp b_least_between .nil pass0 (pa_cons (pv 2) (pa_cons (pv 8) (pa_cons (pv 9) pa_nil)))) (nomark _)) (pss_one (ps_ret pe_bl)) pss_nil)))
      (PSs.to (pss_cons (ps_set (i := 10) sc_law.nd rfl (Or.inl rfl) (pe_call G_law_rows (hr.mono (by decide)) (by rfl) m_law_rows F_law_rows.kp b_law_rows .nil pass0 (pa_cons (pv 1) (pa_cons (pv 2) (pa_cons (pe_op op_add pe_int (pe_call G_law_pick (hr.mono (by decide)) (by rfl) m_law_pick F_law_pick.kp b_law_pick .nil pass0 (pa_cons (pv 1) (pa_cons pe_int pa_nil)))) pa_nil)))))
      (pss_cons (ps_if (PW.pt (pw_or (pt_not (pt_val (pe_call G_law_same (hr.mono (by decide)) (by rfl) m_law_same F_law_same.kp b_law_same .nil pass0 (pa_cons (pv 2) (pa_cons (pe_call G_standing (hr.mono (by decide)) (by rfl) m_standing F_standing.kp b_standing .nil pass0 (pa_cons (pv 2) (pa_cons (pv 10) pa_nil))) (pa_cons (pv 4) pa_nil)))))) (pw_or1 (pt_not (pt_val (pe_call G_law_times_right (hr.mono (by decide)) (by rfl) m_law_times_right F_law_times_right.kp b_law_times_right .nil pass0 (pa_cons (pv 2) (pa_cons (pe_op op_add pe_int (pe_call G_law_pick (hr.mono (by decide)) (by rfl) m_law_pick F_law_pick.kp b_law_pick .nil pass0 (pa_cons (pv 1) (pa_cons pe_int pa_nil)))) (pa_cons (pv 4) pa_nil))))))))) (pss_one (ps_ret pe_bl)) pss_nil)
      (pss_cons (ps_if (pt_cmpR op_eq (pe_callB (call_len_seqK K rfl) (by rfl) T.m_len (by decide +kernel) (pa_cons (pe_ix (ix_tupK K rfl) (pv 2) pe_int (fun _ _ => rfl)) pa_nil)) pe_int (nomark _)) (pss_one (ps_ret pe_bl)) pss_nil)
      (pss_cons (ps_set (i := 11) sc_law.nd rfl (Or.inl rfl) (pe_call G_law_pick (hr.mono (by decide)) (by rfl) m_law_pick F_law_pick.kp b_law_pick .nil pass0 (pa_cons (pv 1) (pa_cons (pe_callB (call_len_seqK K rfl) (by rfl) T.m_len (by decide +kernel) (pa_cons (pe_ix (ix_tupK K rfl) (pv 2) pe_int (fun _ _ => rfl)) pa_nil)) pa_nil))))
      (pss_cons (ps_if (pt_cmpR op_gt (pe_callB (call_len_seqK K rfl) (by rfl) T.m_len (by decide +kernel) (pa_cons (pe_ix (ix_tupK K rfl) (pe_ix (ix_tupK K rfl) (pe_ix (ix_tupK K rfl) (pv 2) pe_int (fun _ _ => rfl)) (pv 11) (fun _ _ => rfl)) pe_int (fun _ _ => rfl)) pa_nil)) pe_int (nomark _)) (pss_one (ps_ret pe_bl)) pss_nil)
      (pss_one (ps_ret (pe_call G_law_tray_right (hr.mono (by decide)) (by rfl) m_law_tray_right F_law_tray_right.kp b_law_tray_right .nil pass0 (pa_cons (pv 2) (pa_cons (pv 11) (pa_cons (pe_call G_law_walk (hr.mono (by decide)) (by rfl) m_law_walk F_law_walk.kp b_law_walk .nil pass0 (pa_cons (pv 1) (pa_cons (pv 2) (pa_cons pe_int pa_nil)))) (pa_cons (pv 4) pa_nil)))))))))))) R2 ?tail2)))) R1 ?tail1))))), ?_⟩
  case tail2 =>
    rintro D' σ' H1 ⟨eD, f, c, r, lp, t, od, hs, bs, prs, v5, v8, v9, rfl, hR, ok, pos, hP, lpf, F1, tb1⟩
    obtain ⟨ha, ba, hv, bv, er, eh, eb, alh, alb⟩ := hR.ex
    have lbv := alb.length
    have lb := ok.many
    have q' : ∀ H', D'.rt (.bl true) H' := by rw [eD]; exact q
    refine ⟨_, rfl, _, rfl, _, rfl, f, c, 6, rfl, by decide, by decide +kernel, F1, fun v H2 v0 v1 F2 B2 => ⟨_, _, rfl, rfl, ?_⟩⟩
    have k2 : TK H1 H2 := TK.but F1 B2
    refine ⟨f, c, r, hs, bs, 1 + v, rfl, by omega, by omega, F2, hR.keep k2, ok.hands, ok.good, fun p rv rows H3 np hp al lr fit F3 B3 => ?_⟩
    have k3 : TK H1 H3 := k2.trans (TK.but F2 B3)
    have tb3 := tabs_but (tabs_but tb1 F1 B2) F2 B3
    have hP3 : Prs H3 lp hs.length prs := by
      obtain ⟨pv, h1, h2, h3⟩ := hP
      exact ⟨pv, B3 _ _ (B2 _ _ h1 lpf) lpf, h2.imp fun _ _ z => z.keep k3, h3⟩
    refine ⟨_, rfl, _, rfl, _, rfl, r, p, hs, bs, rows, rfl, hR.keep k3, ok, ⟨rv, .inl hp, al⟩, fun x hx => (fit x hx).1, by omega, fun st ms H4 hst ws s4 => ?_⟩
    have hR4 := (hR.keep k3).keep (TK.same s4)
    refine ⟨_, rfl, r, st, lp, hs, bs, ms, prs, rfl, hR4, ok, pos, hst, hP3.ext (ExtN.same s4), tabs_same tb3 s4, fun H5 x5 tb5 => ⟨_, rfl, if_bl (fun z => nomatch z) (fun _ => ?_)⟩⟩
    have F5 := ExtN.flow x5 (F3.same s4)
    have hR5 := hR4.keep (ExtN.tk x5)
    have hP5 := (hP3.ext (ExtN.same s4)).ext x5
    refine ⟨_, rfl, _, rfl, f, c, 2, rfl, by decide, by decide +kernel, F5, fun y H6 y0 y1 F6 B6 => ⟨_, _, rfl, rfl, ?_⟩⟩
    have k6 : TK H5 H6 := TK.but F5 B6
    have hP6 : Prs H6 lp hs.length prs := by
      obtain ⟨pv, h1, h2, h3⟩ := hP5
      exact ⟨pv, B6 _ _ h1 lpf, h2.imp fun _ _ z => z.keep k6, h3⟩
    refine ⟨_, rfl, r, lp, 2 + y, hs, bs, prs, rfl, by omega, hR5.keep k6, ok, pos, hP6, tabs_but tb5 F5 B6, fun H7 x7 tb7 => ⟨_, rfl, if_bl (fun z => nomatch z) (fun _ => ?_)⟩⟩
    have F7 := ExtN.flow x7 F6
    have hR7 := (hR5.keep k6).keep (ExtN.tk x7)
    have hP7 := hP6.ext x7
    obtain ⟨ha, ba, hv, bv, er, eh, eb, alh, alb⟩ := hR7.ex
    have lbv := alb.length
    refine ⟨_, rfl, r, _, _, _, rfl, rfl, SqT.of er, atI_nat (j := 1) rfl, ba, _, rfl, .inr (SqT.of eb), rfl, _, rfl, if_bl (fun _ => q' _) (fun z => ?_)⟩
    have bpos : 0 < bv.length := Nat.pos_of_ne_zero fun y => of_decide_eq_false z (by rw [y]; rfl)
    refine ⟨_, rfl, _, rfl, r, _, _, _, rfl, rfl, SqT.of er, atI_nat (j := 1) rfl, ba, _, rfl, .inr (SqT.of eb), f, c, ((bv.length : Nat) : Int), rfl, by omega, log_small (by omega), F7, fun u H8 u0 u1 F8 B8 => ?_⟩
    obtain ⟨n, rfl⟩ : ∃ n : Nat, u = ((n : Nat) : Int) := ⟨u.toNat, by omega⟩
    have k8 : TK H7 H8 := TK.but F7 B8
    obtain ⟨b, ebn⟩ : ∃ b, bs[n]? = some b := ⟨_, List.getElem?_eq_getElem (by omega)⟩
    obtain ⟨x0, ex0, ⟨t0, g, rfl, e1, e2⟩⟩ := alb.get ebn
    refine ⟨_, rfl, r, _, _, _, rfl, rfl, SqT.of (k8 _ _ er), atI_nat (j := 1) rfl, _, rfl, ba, _, _, _, rfl, rfl, SqT.of (k8 _ _ eb), atI_nat ex0, t0, _, _, _, rfl, rfl, SqT.of (k8 _ _ e1), atI_nat (j := 2) rfl, g, _, rfl, .inr (SqT.of (k8 _ _ e2)), _, _, rfl, rfl, _, rfl, if_bl (fun _ => q' _) (fun z => ?_)⟩
    have l5 : b.th.length ≤ 5 := by
      have := of_decide_eq_false z
      rw [List.length_map] at this
      omega
    have hP8 : Prs H8 lp hs.length prs := by
      obtain ⟨pv, h1, h2, h3⟩ := hP7
      exact ⟨pv, B8 _ _ h1 lpf, h2.imp fun _ _ z => z.keep k8, h3⟩
    have hR8 := hR7.keep k8
    refine ⟨_, rfl, _, rfl, _, rfl, _, rfl, f, c, r, hs, bs, 9, rfl, by decide, by decide, F8, hR8, ok, pos, fun wp k ns H9 hw gw we ln F9 B9 => ?_⟩
    have k9 : TK H8 H9 := TK.but F8 B9
    have hP9 : Prs H9 lp hs.length prs := by
      obtain ⟨pv, h1, h2, h3⟩ := hP8
      exact ⟨pv, B9 _ _ h1 lpf, h2.imp fun _ _ z => z.keep k9, h3⟩
    exact ⟨_, rfl, r, wp, lp, n, k, ns, hs, bs, b, prs, rfl, hR8.keep k9, ok, pos, ebn, l5, hw, gw.2, Nat.le_trans ln (by decide), hP9, tabs_but (tabs_but tb7 F7 B8) F8 B9, q'⟩
  case tail1 =>
    rintro D' σ' H1 ⟨eD, f, c, r, lp, hs, bs, prs, v5, rfl, hR, ok, pos, hP, lpf, F1, tb1⟩
    refine ⟨_, rfl, _, rfl, f, c, r, hs, bs, rfl, F1, hR, ok, fun t r' od ord hs' bs' H2 ht hT hod nod tu F2 B2 => ?_⟩
    have k2 : TK H1 H2 := TK.but F1 B2
    have tb2 := tabs_but tb1 F1 B2
    have ok' := tu.ok ok
    refine ⟨t, _, rfl, SqT.of ht, rfl, _, _, rfl, _, _, rfl, rfl, ?_⟩
    refine ⟨_, rfl, r', _, _, rfl, hT, ok', tb2, fun v H3 tv x3 tb3 => ?_⟩
    refine ⟨_, rfl, r, _, _, rfl, (hR.keep k2).keep (ExtN.tk x3), ok, tb3, fun u H4 tu' x4 tb4 => ?_⟩
    have ev := tu.time ok pos tu' tv
    refine ⟨rfl, _, rfl, if_bl (fun z => ?_) (fun _ => ?_)⟩
    · simp [ev] at z
    have x24 : LamX.ExtN H2 H4 := x3.trans x4
    have hP2 : Prs H2 lp hs.length prs := by
      obtain ⟨pv, h1, h2, h3⟩ := hP
      exact ⟨pv, B2 _ _ h1 lpf, h2.imp fun _ _ z => z.keep k2, h3⟩
    have hP4 := hP2.ext x24
    obtain ⟨pv, h1, alp, lt, few⟩ := _root_.id hP4
    have hR4 := (hR.keep k2).keep (ExtN.tk x24)
    have hT4 := hT.keep (ExtN.tk x24)
    have hod4 := ExtN.lst x24 hod
    have F4 := ExtN.flow x24 F2
    refine ⟨_, rfl, lp, rfl, ⟨_, SqL.of h1⟩, for_list (K := K) (a := lp) (xs := pv) (fun i σ H5 => ∃ v8 v9 : Option V, σ = [some (.ref a), some (.ref f), some (.ref r), some (nV hs.length), some (.ref lp), v5, some (.ref r'), some (.ref od), v8, v9, none, none] ∧ Same H4 H5) ⟨none, none, rfl, Same.refl _⟩ (fun i σ H5 _ ⟨_, _, _, s5⟩ => SqL.of (s5 _ _ h1)) ?_ ?_⟩
    · rintro i x σ H5 hx ⟨v8, v9, rfl, s5⟩
      obtain ⟨pr, epr, ⟨tp, rfl, e1⟩⟩ := alp.getL hx
      have l := lt pr (List.mem_of_getElem? epr)
      refine ⟨tp, _, rfl, SqT.of (s5 _ _ e1), rfl, _, _, rfl, _, _, rfl, rfl, ?_⟩
      refine ⟨_, rfl, _, rfl, .inl ⟨rfl, _, SqL.of (s5 _ _ hod4)⟩, _, rfl, ?_⟩
      dsimp only [tNil]
      refine index_nat (s5 _ _ hod4) (tu.mem.mpr l.1) ?_
      refine ⟨_, rfl, .inl ⟨rfl, _, SqL.of (s5 _ _ hod4)⟩, _, rfl, ?_⟩
      dsimp only [tNil]
      refine index_nat (s5 _ _ hod4) (tu.mem.mpr l.2) ?_
      refine lb_uni (hT4.keep (TK.same s5)) ok' (tu.lt l.1) fun w1 H6 b1 s6 => ?_
      rw [tu.best ok l.1 l.2] at b1
      refine ⟨_, rfl, _, rfl, _, rfl, ?_⟩
      dsimp only [tNil]
      refine lb_uni (hR4.keep (TK.same (s5.trans s6))) ok l.1 fun w2 H7 b2 s7 => ?_
      refine ⟨_, _, (b1.same s7).dp, b2.dp, coD_shaped _, coD_shaped _, _, rfl, ?_⟩
      rw [PySem.SeqAt.eqv_refl _ (coD_lay _)]
      exact if_bl (fun z => nomatch z) (fun _ => ⟨_, _, rfl, (s5.trans s6).trans s7⟩)
    · rintro σ H5 ⟨v8, v9, rfl, s5⟩
      exact ⟨eD, f, c, r, lp, r', od, hs, bs, prs, v5, v8, v9, rfl, hR4.keep (TK.same s5), ok, pos, hP4.ext (ExtN.same s5), lpf, F4.same s5, tabs_same tb4 s5⟩
  refine ⟨_, rfl, a, ns, rfl, hS, fun f c H1 nf nc F1 s1 => ?_⟩
  refine ⟨_, rfl, (by show 3 ≤ sizeLine; decide), fun l nl => ?_⟩
  have F1' := F1.new (o := .lst [V.int 3, V.int 5, V.int 8]) nl
  have lf : l ≠ f := F1.ne nl
  refine ⟨_, rfl, f, c, 3, rfl, by decide, by decide +kernel, F1', fun v H2 v0 v1 F2 B2 => ?_⟩
  obtain ⟨mm, hmm, m1, m8⟩ : ∃ mm : Int, atI [V.int 3, V.int 5, V.int 8] v = some (.int mm) ∧ 1 ≤ mm ∧ mm ≤ 8 := by
    have : v = 0 ∨ v = 1 ∨ v = 2 := by omega
    rcases this with rfl | rfl | rfl
    · exact ⟨3, rfl, by decide, by decide⟩
    · exact ⟨5, rfl, by decide, by decide⟩
    · exact ⟨8, rfl, by decide, by decide⟩
  refine ⟨l, _, _, _, rfl, rfl, SqL.of (B2 _ _ upd_same lf), hmm, f, c, mm, rfl, m1, m8, F2, fun r hs bs H3 hR ok pos F3 B3 => ?_⟩
  have tb3 : LamX.Tabs (TL PT) H3 := tabs_but (tabs_but (tabs_same tabs (s1.trans (same_new nl))) F1' B2) F2 B3
  obtain ⟨ha, ba, hv, bv, er, eh, eb, alh, alb⟩ := hR.ex
  have lhv := alh.length
  have lh := ok.hands
  refine ⟨_, rfl, r, _, _, _, rfl, rfl, SqT.of er, atI_nat (j := 0) rfl, ha, _, rfl, .inr (SqT.of eh), ?_⟩
  refine ⟨_, rfl, by decide, by decide, fun D nD => lc_range (lo := 0) (n := 3) (fun i H6 => ∃ (pv : List V) (prs : List (Nat × Nat)), H6 D = some (.lst pv) ∧ prs.length = i ∧ All2 (PairAt H6) pv prs ∧ (∀ p ∈ prs, p.1 < hs.length ∧ p.2 < hs.length) ∧ RoomAt H6 r hs bs ∧ Flow H6 f c ∧ LamX.Tabs (TL PT) H6) ⟨[], [], upd_same, rfl, .nil, (fun _ z => nomatch z), hR.keep (TK.new nD), F3.new nD, tabs_same tb3 (same_new nD)⟩ ?_ ?_⟩
  · rintro i H6 hi ⟨pv, prs, hD, lp, al, lt, hR6, F6, tb6⟩
    have Df := F3.ne nD
    refine ⟨rfl, yes_in ⟨_, rfl, _, rfl, f, c, ((hv.length : Nat) : Int), rfl, by omega, log_small (by omega), F6, fun x H7 x0 x1 F7 B7 => ?_⟩⟩
    refine ⟨_, rfl, _, rfl, f, c, ((hv.length : Nat) : Int), rfl, by omega, log_small (by omega), F7, fun y H8 y0 y1 F8 B8 => ⟨(by show 2 ≤ sizeLine; decide), fun tp ntp => ?_⟩⟩
    obtain ⟨x, rfl⟩ : ∃ u : Nat, x = ((u : Nat) : Int) := ⟨x.toNat, by omega⟩
    obtain ⟨y, rfl⟩ : ∃ u : Nat, y = ((u : Nat) : Int) := ⟨y.toNat, by omega⟩
    have hD8 := B8 _ _ (B7 _ _ hD Df) Df
    have hD9 := same_new (o := .tup [nV x, nV y]) ntp _ _ hD8
    have k8 := ((TK.but F6 B7).trans (TK.but F7 B8)).trans (TK.new (o := .tup [nV x, nV y]) ntp)
    have lpv := al.length
    refine ⟨_, hD9, small1000 (by omega), pv ++ [V.ref tp], prs ++ [(x, y)], upd_same, by rw [List.length_append, lp]; rfl, ?_, fun p hp => ?_, (hR6.keep k8).keep (TK.lst hD9), (F8.new ntp).lst Df (F3.nec nD), tabs_lst (tabs_same (tabs_but (tabs_but tb6 F6 B7) F7 B8) (same_new ntp)) hD9⟩
    · exact ((al.imp fun _ _ z => z.keep k8).snoc (⟨tp, rfl, upd_same⟩ : PairAt _ (V.ref tp) (x, y))).imp fun _ _ z => z.keep (TK.lst hD9)
    · rcases List.mem_append.mp hp with hp | hp
      · exact lt p hp
      · rw [List.mem_singleton.mp hp]
        exact ⟨by show x < _; omega, by show y < _; omega⟩
  · rintro H6 ⟨pv, prs, hD, lp, al, lt, hR6, F6, tb6⟩
    exact ⟨rfl, f, c, r, D, hs, bs, prs, _, by rw [lhv]; rfl, hR6, ok, pos, ⟨pv, hD, al, lt, by omega⟩, F3.ne nD, F6, tb6⟩
end
theorem fun_of_D {K : PySem.W.Frag} {x q : Str} {st : Stmt} {f : Addr} {fd : FuncData} (D : FunD K x q (defArgs st) (defBody st) (defScope st) [] [] f fd) : Fun K x q st f fd := by
  obtain ⟨⟨oc, od, dV, kV, doc, pm, an, cdv, ct, osl, e, lk, ci, dfl, _⟩, kp⟩ := D
  have z : dV = .none := by
    rcases dfl with ⟨_, h⟩ | ⟨h, _⟩
    · exact h
    · exact absurd rfl h
  subst z
  exact ⟨⟨oc, od, kV, doc, pm, an, cdv, ct, osl, e, lk, ci⟩, kp⟩
def hd_work_order : He.DefD := ⟨("work_order", none), "work_order", "work_order", defArgs s_work_order, defBody s_work_order, defScope s_work_order, [], []⟩
def hd_made_by : He.DefD := ⟨("made_by", none), "made_by", "made_by", defArgs s_made_by, defBody s_made_by, defScope s_made_by, [], []⟩
def hd_made_of_two : He.DefD := ⟨("made_of_two", none), "made_of_two", "made_of_two", defArgs s_made_of_two, defBody s_made_of_two, defScope s_made_of_two, [], []⟩
def hd_comings : He.DefD := ⟨("comings", none), "comings", "comings", defArgs s_comings, defBody s_comings, defScope s_comings, [], []⟩
def hd_doors_in : He.DefD := ⟨("doors_in", none), "doors_in", "doors_in", defArgs s_doors_in, defBody s_doors_in, defScope s_doors_in, [], []⟩
def hd_trays_on : He.DefD := ⟨("trays_on", none), "trays_on", "trays_on", defArgs s_trays_on, defBody s_trays_on, defScope s_trays_on, [], []⟩
def hd_moments_on : He.DefD := ⟨("moments_on", none), "moments_on", "moments_on", defArgs s_moments_on, defBody s_moments_on, defScope s_moments_on, [], []⟩
def hd_time_of : He.DefD := ⟨("time_of", none), "time_of", "time_of", defArgs s_time_of, defBody s_time_of, defScope s_time_of, [], []⟩
def hd_long_way : He.DefD := ⟨("long_way", none), "long_way", "long_way", defArgs s_long_way, defBody s_long_way, defScope s_long_way, [], []⟩
def hd_long_sums : He.DefD := ⟨("long_sums", none), "long_sums", "long_sums", defArgs s_long_sums, defBody s_long_sums, defScope s_long_sums, [], []⟩
def hd_way_back : He.DefD := ⟨("way_back", none), "way_back", "way_back", defArgs s_way_back, defBody s_way_back, defScope s_way_back, [], []⟩
def hd_least_between : He.DefD := ⟨("least_between", none), "least_between", "least_between", defArgs s_least_between, defBody s_least_between, defScope s_least_between, [], []⟩
def hd_least_costs : He.DefD := ⟨("least_costs", none), "least_costs", "least_costs", defArgs s_least_costs, defBody s_least_costs, defScope s_least_costs, [], []⟩
def hd_worked : He.DefD := ⟨("worked", none), "worked", "worked", defArgs s_worked, defBody s_worked, defScope s_worked, [], []⟩
def hd_standing : He.DefD := ⟨("standing", none), "standing", "standing", defArgs s_standing, defBody s_standing, defScope s_standing, [], []⟩
def hd_work_plan : He.DefD := ⟨("work_plan", none), "work_plan", "work_plan", defArgs s_work_plan, defBody s_work_plan, defScope s_work_plan, [], []⟩
def hd_made_at_bell : He.DefD := ⟨("made_at_bell", none), "made_at_bell", "made_at_bell", defArgs s_made_at_bell, defBody s_made_at_bell, defScope s_made_at_bell, [], []⟩
def hd_thing_taken : He.DefD := ⟨("thing_taken", none), "thing_taken", "thing_taken", defArgs s_thing_taken, defBody s_thing_taken, defScope s_thing_taken, [], []⟩
def hd_behind_bell : He.DefD := ⟨("behind_bell", none), "behind_bell", "behind_bell", defArgs s_behind_bell, defBody s_behind_bell, defScope s_behind_bell, [], []⟩
def hd_belt_behind_bell : He.DefD := ⟨("belt_behind_bell", none), "belt_behind_bell", "belt_behind_bell", defArgs s_belt_behind_bell, defBody s_belt_behind_bell, defScope s_belt_behind_bell, [], []⟩
def hd_law_flow : He.DefD := ⟨("_law_flow", none), "_law_flow", "_law_flow", defArgs s_law_flow, defBody s_law_flow, defScope s_law_flow, [], []⟩
def hd_law_pick : He.DefD := ⟨("_law_pick", none), "_law_pick", "_law_pick", defArgs s_law_pick, defBody s_law_pick, defScope s_law_pick, [], []⟩
def hd_law_thing : He.DefD := ⟨("_law_thing", none), "_law_thing", "_law_thing", defArgs s_law_thing, defBody s_law_thing, defScope s_law_thing, [], []⟩
def hd_law_needs : He.DefD := ⟨("_law_needs", none), "_law_needs", "_law_needs", defArgs s_law_needs, defBody s_law_needs, defScope s_law_needs, [], []⟩
def hd_law_rule : He.DefD := ⟨("_law_rule", none), "_law_rule", "_law_rule", defArgs s_law_rule, defBody s_law_rule, defScope s_law_rule, [], []⟩
def hd_law_shuffled : He.DefD := ⟨("_law_shuffled", none), "_law_shuffled", "_law_shuffled", defArgs s_law_shuffled, defBody s_law_shuffled, defScope s_law_shuffled, [], []⟩
def hd_law_hands : He.DefD := ⟨("_law_hands", none), "_law_hands", "_law_hands", defArgs s_law_hands, defBody s_law_hands, defScope s_law_hands, [], []⟩
def hd_law_room : He.DefD := ⟨("_law_room", none), "_law_room", "_law_room", defArgs s_law_room, defBody s_law_room, defScope s_law_room, [], []⟩
def hd_law_rows : He.DefD := ⟨("_law_rows", none), "_law_rows", "_law_rows", defArgs s_law_rows, defBody s_law_rows, defScope s_law_rows, [], []⟩
def hd_law_turned_room : He.DefD := ⟨("_law_turned_room", none), "_law_turned_room", "_law_turned_room", defArgs s_law_turned_room, defBody s_law_turned_room, defScope s_law_turned_room, [], []⟩
def hd_law_walk : He.DefD := ⟨("_law_walk", none), "_law_walk", "_law_walk", defArgs s_law_walk, defBody s_law_walk, defScope s_law_walk, [], []⟩
def hd_law_slower : He.DefD := ⟨("_law_slower", none), "_law_slower", "_law_slower", defArgs s_law_slower, defBody s_law_slower, defScope s_law_slower, [], []⟩
def hd_law_calm : He.DefD := ⟨("_law_calm", none), "_law_calm", "_law_calm", defArgs s_law_calm, defBody s_law_calm, defScope s_law_calm, [], []⟩
def hd_law_same : He.DefD := ⟨("_law_same", none), "_law_same", "_law_same", defArgs s_law_same, defBody s_law_same, defScope s_law_same, [], []⟩
def hd_law_times_right : He.DefD := ⟨("_law_times_right", none), "_law_times_right", "_law_times_right", defArgs s_law_times_right, defBody s_law_times_right, defScope s_law_times_right, [], []⟩
def hd_law_tray_right : He.DefD := ⟨("_law_tray_right", none), "_law_tray_right", "_law_tray_right", defArgs s_law_tray_right, defBody s_law_tray_right, defScope s_law_tray_right, [], []⟩
def hd_law : He.DefD := ⟨("law", none), "law", "law", defArgs s_law, defBody s_law, defScope s_law, [], []⟩
def hFn : List He.DefD := [hd_work_order, hd_made_by, hd_made_of_two, hd_comings, hd_doors_in, hd_trays_on, hd_moments_on, hd_time_of, hd_long_way, hd_long_sums, hd_way_back, hd_least_between, hd_least_costs, hd_worked, hd_standing, hd_work_plan, hd_made_at_bell, hd_thing_taken, hd_behind_bell, hd_belt_behind_bell, hd_law_flow, hd_law_pick, hd_law_thing, hd_law_needs, hd_law_rule, hd_law_shuffled, hd_law_hands, hd_law_room, hd_law_rows, hd_law_turned_room, hd_law_walk, hd_law_slower, hd_law_calm, hd_law_same, hd_law_times_right, hd_law_tray_right, hd_law]
def hFa : List He.Fa := [.glo "work_order", .glo "made_by", .glo "made_of_two", .glo "comings", .glo "doors_in", .glo "trays_on", .glo "moments_on", .glo "time_of", .glo "long_way", .glo "long_sums", .glo "way_back", .glo "least_between", .glo "least_costs", .glo "worked", .glo "standing", .glo "work_plan", .glo "made_at_bell", .glo "thing_taken", .glo "behind_bell", .glo "belt_behind_bell", .glo "_law_flow", .glo "_law_pick", .glo "_law_thing", .glo "_law_needs", .glo "_law_rule", .glo "_law_shuffled", .glo "_law_hands", .glo "_law_room", .glo "_law_rows", .glo "_law_turned_room", .glo "_law_walk", .glo "_law_slower", .glo "_law_calm", .glo "_law_same", .glo "_law_times_right", .glo "_law_tray_right", .glo "law", .free "all", .free "dict", .free "enumerate", .free "int", .free "len", .free "list", .free "max", .free "min", .free "range", .free "sum", .free "tuple", .free "zip", .glo "IN_RULE"]
def hEx (K : PySem.W.Frag) : Bool := He.tupB K "IN_RULE" [.str "in"]
def hTf : List (Str × Option Str) := [("long_way", none)]
abbrev hR : PySem.W.OpenRow := PySem.W.OpenLaw.row PySem.Challenge.rw_beltshift_k31_whole_ways_of_rooms_otherw
abbrev hk : PySem.W.Hook := He.hookX 4 hFa hFn [] hTf hEx
def hOb (s : PySem.W.SharedT) : He.AlX := He.obsX 4 hFa hFn [] hTf hEx (HandSHeadRun.getT s)
theorem hOb_eq (s : PySem.W.SharedT) : hOb s = hk.obs s.abs := He.obsX_eq (HandSHeadRun.getT_eq s)
def hN0 : List Str := ["work_order", "made_by", "made_of_two", "IN_RULE", "comings", "doors_in", "trays_on", "moments_on", "time_of", "long_way", "long_sums", "way_back", "least_between", "least_costs", "worked", "standing", "work_plan", "made_at_bell", "thing_taken", "behind_bell", "belt_behind_bell", "_law_flow", "_law_pick", "_law_thing", "_law_needs", "_law_rule", "_law_shuffled", "_law_hands", "_law_room", "_law_rows"]
def hN1 : List Str := ["_law_turned_room", "_law_walk", "_law_slower", "_law_calm", "_law_same", "_law_times_right", "_law_tray_right"]
def hNames : List Str := hN0 ++ hN1
set_option maxHeartbeats 0 in
theorem hRun (w : World) : HandSHeadRun.RunEq hR (PySem.W.view hR.prog [43]) hk hOb 40000 hNames w := by
  intro os
  kernel_rfl
set_option maxHeartbeats 0 in
theorem all_mkX {w : World} {K : PySem.W.Frag} {h : Heap} {mg : Str → Option Value} {fa : Addr} (X : K.In h) (G : h.Ns mainGlobals mg) (hfa : mg "law" = some (.ref fa)) (c : He.SaysX hFa hFn [] hTf hEx w h K) : LamX.LawAtS PySem.Challenge.rw_beltshift_k31_whole_ways_of_rooms_otherw w K CX0 6 63 "_law_script" mg fa h := by
  have cd := c.t.d
  obtain ⟨fd0, D0⟩ := cd.def_ 0 (d := hd_work_order) rfl
  have F0 : Fun K "work_order" "work_order" s_work_order (He.ga K "work_order") fd0 := fun_of_D D0
  have g0 : mg "work_order" = some (.ref (He.ga K "work_order")) := He.glo_ok X G (cd.fact 0 (f := .glo "work_order") rfl)
  have b0 := F0.binds (ps := ["room"]) fun _ _ _ _ _ _ us hl => match us, hl with | [_], _ => rfl
  obtain ⟨fd1, D1⟩ := cd.def_ 1 (d := hd_made_by) rfl
  have F1 : Fun K "made_by" "made_by" s_made_by (He.ga K "made_by") fd1 := fun_of_D D1
  have g1 : mg "made_by" = some (.ref (He.ga K "made_by")) := He.glo_ok X G (cd.fact 1 (f := .glo "made_by") rfl)
  have b1 := F1.binds (ps := ["rule", "things"]) fun _ _ _ _ _ _ us hl => match us, hl with | [_, _], _ => rfl
  obtain ⟨fd2, D2⟩ := cd.def_ 2 (d := hd_made_of_two) rfl
  have F2 : Fun K "made_of_two" "made_of_two" s_made_of_two (He.ga K "made_of_two") fd2 := fun_of_D D2
  have g2 : mg "made_of_two" = some (.ref (He.ga K "made_of_two")) := He.glo_ok X G (cd.fact 2 (f := .glo "made_of_two") rfl)
  have b2 := F2.binds (ps := ["word", "one", "other"]) fun _ _ _ _ _ _ us hl => match us, hl with | [_, _, _], _ => rfl
  obtain ⟨fd3, D3⟩ := cd.def_ 3 (d := hd_comings) rfl
  have F3 : Fun K "comings" "comings" s_comings (He.ga K "comings") fd3 := fun_of_D D3
  have g3 : mg "comings" = some (.ref (He.ga K "comings")) := He.glo_ok X G (cd.fact 3 (f := .glo "comings") rfl)
  have b3 := F3.binds (ps := ["room", "hand"]) fun _ _ _ _ _ _ us hl => match us, hl with | [_, _], _ => rfl
  obtain ⟨fd4, D4⟩ := cd.def_ 4 (d := hd_doors_in) rfl
  have F4 : Fun K "doors_in" "doors_in" s_doors_in (He.ga K "doors_in") fd4 := fun_of_D D4
  have g4 : mg "doors_in" = some (.ref (He.ga K "doors_in")) := He.glo_ok X G (cd.fact 4 (f := .glo "doors_in") rfl)
  have b4 := F4.binds (ps := ["room"]) fun _ _ _ _ _ _ us hl => match us, hl with | [_], _ => rfl
  obtain ⟨fd5, D5⟩ := cd.def_ 5 (d := hd_trays_on) rfl
  have F5 : Fun K "trays_on" "trays_on" s_trays_on (He.ga K "trays_on") fd5 := fun_of_D D5
  have g5 : mg "trays_on" = some (.ref (He.ga K "trays_on")) := He.glo_ok X G (cd.fact 5 (f := .glo "trays_on") rfl)
  have b5 := F5.binds (ps := ["room", "way"]) fun _ _ _ _ _ _ us hl => match us, hl with | [_, _], _ => rfl
  obtain ⟨fd6, D6⟩ := cd.def_ 6 (d := hd_moments_on) rfl
  have F6 : Fun K "moments_on" "moments_on" s_moments_on (He.ga K "moments_on") fd6 := fun_of_D D6
  have g6 : mg "moments_on" = some (.ref (He.ga K "moments_on")) := He.glo_ok X G (cd.fact 6 (f := .glo "moments_on") rfl)
  have b6 := F6.binds (ps := ["room", "way"]) fun _ _ _ _ _ _ us hl => match us, hl with | [_, _], _ => rfl
  obtain ⟨fd7, D7⟩ := cd.def_ 7 (d := hd_time_of) rfl
  have F7 : Fun K "time_of" "time_of" s_time_of (He.ga K "time_of") fd7 := fun_of_D D7
  have g7 : mg "time_of" = some (.ref (He.ga K "time_of")) := He.glo_ok X G (cd.fact 7 (f := .glo "time_of") rfl)
  have b7 := F7.binds (ps := ["room"]) fun _ _ _ _ _ _ us hl => match us, hl with | [_], _ => rfl
  obtain ⟨fd8, D8⟩ := cd.def_ 8 (d := hd_long_way) rfl
  have F8 : Fun K "long_way" "long_way" s_long_way (He.ga K "long_way") fd8 := fun_of_D D8
  have g8 : mg "long_way" = some (.ref (He.ga K "long_way")) := He.glo_ok X G (cd.fact 8 (f := .glo "long_way") rfl)
  have b8 := F8.binds (ps := ["room"]) fun _ _ _ _ _ _ us hl => match us, hl with | [_], _ => rfl
  obtain ⟨fd9, D9⟩ := cd.def_ 9 (d := hd_long_sums) rfl
  have F9 : Fun K "long_sums" "long_sums" s_long_sums (He.ga K "long_sums") fd9 := fun_of_D D9
  have g9 : mg "long_sums" = some (.ref (He.ga K "long_sums")) := He.glo_ok X G (cd.fact 9 (f := .glo "long_sums") rfl)
  have b9 := F9.binds (ps := ["room"]) fun _ _ _ _ _ _ us hl => match us, hl with | [_], _ => rfl
  obtain ⟨fd10, D10⟩ := cd.def_ 10 (d := hd_way_back) rfl
  have F10 : Fun K "way_back" "way_back" s_way_back (He.ga K "way_back") fd10 := fun_of_D D10
  have g10 : mg "way_back" = some (.ref (He.ga K "way_back")) := He.glo_ok X G (cd.fact 10 (f := .glo "way_back") rfl)
  have b10 := F10.binds (ps := ["room", "end", "last"]) fun _ _ _ _ _ _ us hl => match us, hl with | [_, _, _], _ => rfl
  obtain ⟨fd11, D11⟩ := cd.def_ 11 (d := hd_least_between) rfl
  have F11 : Fun K "least_between" "least_between" s_least_between (He.ga K "least_between") fd11 := fun_of_D D11
  have g11 : mg "least_between" = some (.ref (He.ga K "least_between")) := He.glo_ok X G (cd.fact 11 (f := .glo "least_between") rfl)
  have b11 := F11.binds (ps := ["room", "one", "other"]) fun _ _ _ _ _ _ us hl => match us, hl with | [_, _, _], _ => rfl
  obtain ⟨fd12, D12⟩ := cd.def_ 12 (d := hd_least_costs) rfl
  have F12 : Fun K "least_costs" "least_costs" s_least_costs (He.ga K "least_costs") fd12 := fun_of_D D12
  have g12 : mg "least_costs" = some (.ref (He.ga K "least_costs")) := He.glo_ok X G (cd.fact 12 (f := .glo "least_costs") rfl)
  have b12 := F12.binds (ps := ["room", "one"]) fun _ _ _ _ _ _ us hl => match us, hl with | [_, _], _ => rfl
  obtain ⟨fd13, D13⟩ := cd.def_ 13 (d := hd_worked) rfl
  have F13 : Fun K "worked" "worked" s_worked (He.ga K "worked") fd13 := fun_of_D D13
  have g13 : mg "worked" = some (.ref (He.ga K "worked")) := He.glo_ok X G (cd.fact 13 (f := .glo "worked") rfl)
  have b13 := F13.binds (ps := ["room", "rows"]) fun _ _ _ _ _ _ us hl => match us, hl with | [_, _], _ => rfl
  obtain ⟨fd14, D14⟩ := cd.def_ 14 (d := hd_standing) rfl
  have F14 : Fun K "standing" "standing" s_standing (He.ga K "standing") fd14 := fun_of_D D14
  have g14 : mg "standing" = some (.ref (He.ga K "standing")) := He.glo_ok X G (cd.fact 14 (f := .glo "standing") rfl)
  have b14 := F14.binds (ps := ["room", "rows"]) fun _ _ _ _ _ _ us hl => match us, hl with | [_, _], _ => rfl
  obtain ⟨fd15, D15⟩ := cd.def_ 15 (d := hd_work_plan) rfl
  have F15 : Fun K "work_plan" "work_plan" s_work_plan (He.ga K "work_plan") fd15 := fun_of_D D15
  have g15 : mg "work_plan" = some (.ref (He.ga K "work_plan")) := He.glo_ok X G (cd.fact 15 (f := .glo "work_plan") rfl)
  have b15 := F15.binds (ps := ["room"]) fun _ _ _ _ _ _ us hl => match us, hl with | [_], _ => rfl
  obtain ⟨fd16, D16⟩ := cd.def_ 16 (d := hd_made_at_bell) rfl
  have F16 : Fun K "made_at_bell" "made_at_bell" s_made_at_bell (He.ga K "made_at_bell") fd16 := fun_of_D D16
  have g16 : mg "made_at_bell" = some (.ref (He.ga K "made_at_bell")) := He.glo_ok X G (cd.fact 16 (f := .glo "made_at_bell") rfl)
  have b16 := F16.binds (ps := ["room", "plan", "things"]) fun _ _ _ _ _ _ us hl => match us, hl with | [_, _, _], _ => rfl
  obtain ⟨fd17, D17⟩ := cd.def_ 17 (d := hd_thing_taken) rfl
  have F17 : Fun K "thing_taken" "thing_taken" s_thing_taken (He.ga K "thing_taken") fd17 := fun_of_D D17
  have g17 : mg "thing_taken" = some (.ref (He.ga K "thing_taken")) := He.glo_ok X G (cd.fact 17 (f := .glo "thing_taken") rfl)
  have b17 := F17.binds (ps := ["belt", "made"]) fun _ _ _ _ _ _ us hl => match us, hl with | [_, _], _ => rfl
  obtain ⟨fd18, D18⟩ := cd.def_ 18 (d := hd_behind_bell) rfl
  have F18 : Fun K "behind_bell" "behind_bell" s_behind_bell (He.ga K "behind_bell") fd18 := fun_of_D D18
  have g18 : mg "behind_bell" = some (.ref (He.ga K "behind_bell")) := He.glo_ok X G (cd.fact 18 (f := .glo "behind_bell") rfl)
  have b18 := F18.binds (ps := ["room", "made"]) fun _ _ _ _ _ _ us hl => match us, hl with | [_, _], _ => rfl
  obtain ⟨fd19, D19⟩ := cd.def_ 19 (d := hd_belt_behind_bell) rfl
  have F19 : Fun K "belt_behind_bell" "belt_behind_bell" s_belt_behind_bell (He.ga K "belt_behind_bell") fd19 := fun_of_D D19
  have g19 : mg "belt_behind_bell" = some (.ref (He.ga K "belt_behind_bell")) := He.glo_ok X G (cd.fact 19 (f := .glo "belt_behind_bell") rfl)
  have b19 := F19.binds (ps := ["belt", "made"]) fun _ _ _ _ _ _ us hl => match us, hl with | [_, _], _ => rfl
  obtain ⟨fd20, D20⟩ := cd.def_ 20 (d := hd_law_flow) rfl
  have F20 : Fun K "_law_flow" "_law_flow" s_law_flow (He.ga K "_law_flow") fd20 := fun_of_D D20
  have g20 : mg "_law_flow" = some (.ref (He.ga K "_law_flow")) := He.glo_ok X G (cd.fact 20 (f := .glo "_law_flow") rfl)
  have b20 := F20.binds (ps := ["_law_script"]) fun _ _ _ _ _ _ us hl => match us, hl with | [_], _ => rfl
  obtain ⟨fd21, D21⟩ := cd.def_ 21 (d := hd_law_pick) rfl
  have F21 : Fun K "_law_pick" "_law_pick" s_law_pick (He.ga K "_law_pick") fd21 := fun_of_D D21
  have g21 : mg "_law_pick" = some (.ref (He.ga K "_law_pick")) := He.glo_ok X G (cd.fact 21 (f := .glo "_law_pick") rfl)
  have b21 := F21.binds (ps := ["_law_flow_here", "_law_many"]) fun _ _ _ _ _ _ us hl => match us, hl with | [_, _], _ => rfl
  obtain ⟨fd22, D22⟩ := cd.def_ 22 (d := hd_law_thing) rfl
  have F22 : Fun K "_law_thing" "_law_thing" s_law_thing (He.ga K "_law_thing") fd22 := fun_of_D D22
  have g22 : mg "_law_thing" = some (.ref (He.ga K "_law_thing")) := He.glo_ok X G (cd.fact 22 (f := .glo "_law_thing") rfl)
  have b22 := F22.binds (ps := ["_law_flow_here"]) fun _ _ _ _ _ _ us hl => match us, hl with | [_], _ => rfl
  obtain ⟨fd23, D23⟩ := cd.def_ 23 (d := hd_law_needs) rfl
  have F23 : Fun K "_law_needs" "_law_needs" s_law_needs (He.ga K "_law_needs") fd23 := fun_of_D D23
  have g23 : mg "_law_needs" = some (.ref (He.ga K "_law_needs")) := He.glo_ok X G (cd.fact 23 (f := .glo "_law_needs") rfl)
  have b23 := F23.binds (ps := ["_law_rule_here"]) fun _ _ _ _ _ _ us hl => match us, hl with | [_], _ => rfl
  obtain ⟨fd24, D24⟩ := cd.def_ 24 (d := hd_law_rule) rfl
  have F24 : Fun K "_law_rule" "_law_rule" s_law_rule (He.ga K "_law_rule") fd24 := fun_of_D D24
  have g24 : mg "_law_rule" = some (.ref (He.ga K "_law_rule")) := He.glo_ok X G (cd.fact 24 (f := .glo "_law_rule") rfl)
  have b24 := F24.binds (ps := ["_law_flow_here", "_law_most"]) fun _ _ _ _ _ _ us hl => match us, hl with | [_, _], _ => rfl
  obtain ⟨fd25, D25⟩ := cd.def_ 25 (d := hd_law_shuffled) rfl
  have F25 : Fun K "_law_shuffled" "_law_shuffled" s_law_shuffled (He.ga K "_law_shuffled") fd25 := fun_of_D D25
  have g25 : mg "_law_shuffled" = some (.ref (He.ga K "_law_shuffled")) := He.glo_ok X G (cd.fact 25 (f := .glo "_law_shuffled") rfl)
  have b25 := F25.binds (ps := ["_law_flow_here", "_law_some"]) fun _ _ _ _ _ _ us hl => match us, hl with | [_, _], _ => rfl
  obtain ⟨fd26, D26⟩ := cd.def_ 26 (d := hd_law_hands) rfl
  have F26 : Fun K "_law_hands" "_law_hands" s_law_hands (He.ga K "_law_hands") fd26 := fun_of_D D26
  have g26 : mg "_law_hands" = some (.ref (He.ga K "_law_hands")) := He.glo_ok X G (cd.fact 26 (f := .glo "_law_hands") rfl)
  have b26 := F26.binds (ps := ["_law_flow_here", "_law_many"]) fun _ _ _ _ _ _ us hl => match us, hl with | [_, _], _ => rfl
  obtain ⟨fd27, D27⟩ := cd.def_ 27 (d := hd_law_room) rfl
  have F27 : Fun K "_law_room" "_law_room" s_law_room (He.ga K "_law_room") fd27 := fun_of_D D27
  have g27 : mg "_law_room" = some (.ref (He.ga K "_law_room")) := He.glo_ok X G (cd.fact 27 (f := .glo "_law_room") rfl)
  have b27 := F27.binds (ps := ["_law_flow_here", "_law_most"]) fun _ _ _ _ _ _ us hl => match us, hl with | [_, _], _ => rfl
  obtain ⟨fd28, D28⟩ := cd.def_ 28 (d := hd_law_rows) rfl
  have F28 : Fun K "_law_rows" "_law_rows" s_law_rows (He.ga K "_law_rows") fd28 := fun_of_D D28
  have g28 : mg "_law_rows" = some (.ref (He.ga K "_law_rows")) := He.glo_ok X G (cd.fact 28 (f := .glo "_law_rows") rfl)
  have b28 := F28.binds (ps := ["_law_flow_here", "_law_room_here", "_law_many"]) fun _ _ _ _ _ _ us hl => match us, hl with | [_, _, _], _ => rfl
  obtain ⟨fd29, D29⟩ := cd.def_ 29 (d := hd_law_turned_room) rfl
  have F29 : Fun K "_law_turned_room" "_law_turned_room" s_law_turned_room (He.ga K "_law_turned_room") fd29 := fun_of_D D29
  have g29 : mg "_law_turned_room" = some (.ref (He.ga K "_law_turned_room")) := He.glo_ok X G (cd.fact 29 (f := .glo "_law_turned_room") rfl)
  have b29 := F29.binds (ps := ["_law_flow_here", "_law_room_here"]) fun _ _ _ _ _ _ us hl => match us, hl with | [_, _], _ => rfl
  obtain ⟨fd30, D30⟩ := cd.def_ 30 (d := hd_law_walk) rfl
  have F30 : Fun K "_law_walk" "_law_walk" s_law_walk (He.ga K "_law_walk") fd30 := fun_of_D D30
  have g30 : mg "_law_walk" = some (.ref (He.ga K "_law_walk")) := He.glo_ok X G (cd.fact 30 (f := .glo "_law_walk") rfl)
  have b30 := F30.binds (ps := ["_law_flow_here", "_law_room_here", "_law_most"]) fun _ _ _ _ _ _ us hl => match us, hl with | [_, _, _], _ => rfl
  obtain ⟨fd31, D31⟩ := cd.def_ 31 (d := hd_law_slower) rfl
  have F31 : Fun K "_law_slower" "_law_slower" s_law_slower (He.ga K "_law_slower") fd31 := fun_of_D D31
  have g31 : mg "_law_slower" = some (.ref (He.ga K "_law_slower")) := He.glo_ok X G (cd.fact 31 (f := .glo "_law_slower") rfl)
  have b31 := F31.binds (ps := ["_law_room_here", "_law_times"]) fun _ _ _ _ _ _ us hl => match us, hl with | [_, _], _ => rfl
  obtain ⟨fd32, D32⟩ := cd.def_ 32 (d := hd_law_calm) rfl
  have F32 : Fun K "_law_calm" "_law_calm" s_law_calm (He.ga K "_law_calm") fd32 := fun_of_D D32
  have g32 : mg "_law_calm" = some (.ref (He.ga K "_law_calm")) := He.glo_ok X G (cd.fact 32 (f := .glo "_law_calm") rfl)
  have b32 := F32.binds (ps := ["_law_room_here", "_law_times"]) fun _ _ _ _ _ _ us hl => match us, hl with | [_, _], _ => rfl
  obtain ⟨fd33, D33⟩ := cd.def_ 33 (d := hd_law_same) rfl
  have F33 : Fun K "_law_same" "_law_same" s_law_same (He.ga K "_law_same") fd33 := fun_of_D D33
  have g33 : mg "_law_same" = some (.ref (He.ga K "_law_same")) := He.glo_ok X G (cd.fact 33 (f := .glo "_law_same") rfl)
  have b33 := F33.binds (ps := ["_law_room_here", "_law_other", "_law_pairs"]) fun _ _ _ _ _ _ us hl => match us, hl with | [_, _, _], _ => rfl
  obtain ⟨fd34, D34⟩ := cd.def_ 34 (d := hd_law_times_right) rfl
  have F34 : Fun K "_law_times_right" "_law_times_right" s_law_times_right (He.ga K "_law_times_right") fd34 := fun_of_D D34
  have g34 : mg "_law_times_right" = some (.ref (He.ga K "_law_times_right")) := He.glo_ok X G (cd.fact 34 (f := .glo "_law_times_right") rfl)
  have b34 := F34.binds (ps := ["_law_room_here", "_law_times", "_law_pairs"]) fun _ _ _ _ _ _ us hl => match us, hl with | [_, _, _], _ => rfl
  obtain ⟨fd35, D35⟩ := cd.def_ 35 (d := hd_law_tray_right) rfl
  have F35 : Fun K "_law_tray_right" "_law_tray_right" s_law_tray_right (He.ga K "_law_tray_right") fd35 := fun_of_D D35
  have g35 : mg "_law_tray_right" = some (.ref (He.ga K "_law_tray_right")) := He.glo_ok X G (cd.fact 35 (f := .glo "_law_tray_right") rfl)
  have b35 := F35.binds (ps := ["_law_room_here", "_law_at", "_law_way", "_law_pairs"]) fun _ _ _ _ _ _ us hl => match us, hl with | [_, _, _, _], _ => rfl
  obtain ⟨fd36, D36⟩ := cd.def_ 36 (d := hd_law) rfl
  have F36 : Fun K "law" "law" s_law (He.ga K "law") fd36 := fun_of_D D36
  have g36 : mg "law" = some (.ref (He.ga K "law")) := He.glo_ok X G (cd.fact 36 (f := .glo "law") rfl)
  have ex := c.more
  unfold hEx at ex
  have ex0 := ex
  have T : Top K mg := ⟨⟨_, fd0, F0, b0, g0⟩, ⟨_, fd1, F1, b1, g1⟩, ⟨_, fd2, F2, b2, g2⟩, ⟨_, fd3, F3, b3, g3⟩, ⟨_, fd4, F4, b4, g4⟩, ⟨_, fd5, F5, b5, g5⟩, ⟨_, fd6, F6, b6, g6⟩, ⟨_, fd7, F7, b7, g7⟩, ⟨_, fd8, F8, b8, g8⟩, ⟨_, fd9, F9, b9, g9⟩, ⟨_, fd10, F10, b10, g10⟩, ⟨_, fd11, F11, b11, g11⟩, ⟨_, fd12, F12, b12, g12⟩, ⟨_, fd13, F13, b13, g13⟩, ⟨_, fd14, F14, b14, g14⟩, ⟨_, fd15, F15, b15, g15⟩, ⟨_, fd16, F16, b16, g16⟩, ⟨_, fd17, F17, b17, g17⟩, ⟨_, fd18, F18, b18, g18⟩, ⟨_, fd19, F19, b19, g19⟩, ⟨_, fd20, F20, b20, g20⟩, ⟨_, fd21, F21, b21, g21⟩, ⟨_, fd22, F22, b22, g22⟩, ⟨_, fd23, F23, b23, g23⟩, ⟨_, fd24, F24, b24, g24⟩, ⟨_, fd25, F25, b25, g25⟩, ⟨_, fd26, F26, b26, g26⟩, ⟨_, fd27, F27, b27, g27⟩, ⟨_, fd28, F28, b28, g28⟩, ⟨_, fd29, F29, b29, g29⟩, ⟨_, fd30, F30, b30, g30⟩, ⟨_, fd31, F31, b31, g31⟩, ⟨_, fd32, F32, b32, g32⟩, ⟨_, fd33, F33, b33, g33⟩, ⟨_, fd34, F34, b34, g34⟩, ⟨_, fd35, F35, b35, g35⟩, He.free_ok X G (cd.fact 37 (f := .free "all") rfl), He.free_ok X G (cd.fact 38 (f := .free "dict") rfl), He.free_ok X G (cd.fact 39 (f := .free "enumerate") rfl), He.free_ok X G (cd.fact 40 (f := .free "int") rfl), He.free_ok X G (cd.fact 41 (f := .free "len") rfl), He.free_ok X G (cd.fact 42 (f := .free "list") rfl), He.free_ok X G (cd.fact 43 (f := .free "max") rfl), He.free_ok X G (cd.fact 44 (f := .free "min") rfl), He.free_ok X G (cd.fact 45 (f := .free "range") rfl), He.free_ok X G (cd.fact 46 (f := .free "sum") rfl), He.free_ok X G (cd.fact 47 (f := .free "tuple") rfl), He.free_ok X G (cd.fact 48 (f := .free "zip") rfl), ⟨_, He.glo_ok X G (cd.fact 49 (f := .glo "IN_RULE") rfl), fun H => He.tupB_ok ex0 H⟩⟩
  have e := hfa.symm.trans g36
  cases e
  have law_b : ∀ (s : Shared) (v : Value), BindsTo s fd36 ⟨[v], []⟩ [("_law_script", v)] := fun s v => by
    obtain ⟨_, _, _, _, _, _, _, _, _, rfl, _, _⟩ := F36.ex
    exact .of_eq rfl
  refine ⟨fd36, [He.cT K ("long_way", none)], sp_law K (He.cT K ("long_way", none)).2, fun p hp => ?_, fun p hp => ?_, fun p hp => ?_, law_b, fun H a ns hl _ hT hS => ⟨a, ns, rfl, hS, hl, (fun p hp => by rw [List.mem_singleton.mp hp]; exact LamX.TabS.nil (hT _ (List.mem_cons_self ..))), fun _ => rfl⟩, fun base _ _ TB => ?_⟩
  · have hin : ∀ p ∈ [He.cT K ("long_way", none)], ∃ q ∈ hTf, p = He.cT K q := fun p hp => by
      rcases List.mem_cons.mp hp with rfl | hp
      · exact ⟨_, List.mem_cons_self .., rfl⟩
      cases hp
    obtain ⟨q, hq, rfl⟩ := hin p hp
    exact c.empty _ hq
  · have hin : ∀ p ∈ [He.cT K ("long_way", none)], ∃ q ∈ hTf, p = He.cT K q := fun p hp => by
      rcases List.mem_cons.mp hp with rfl | hp
      · exact ⟨_, List.mem_cons_self .., rfl⟩
      cases hp
    obtain ⟨q, hq, rfl⟩ := hin p hp
    exact c.out _ hq
  · have hin : ∀ p ∈ [He.cT K ("long_way", none)], ∃ q ∈ hTf, p = He.cT K q := fun p hp => by
      rcases List.mem_cons.mp hp with rfl | hp
      · exact ⟨_, List.mem_cons_self .., rfl⟩
      cases hp
    obtain ⟨q, hq, rfl⟩ := hin p hp
    exact PySem.W.codeHd_of_K X (c.hd _ hq)
  have TB0 := TB _ (List.mem_cons_self ..)
  have TC0 := TB0
  haveI : TabL K mg base _ _ := ⟨TC0, fun f fd F m => by
    have e := m.symm.trans g8
    cases e
    obtain ⟨_, _, _, _, _, _, cdv, _, _, rfl, lk, ci⟩ := F.ex
    obtain ⟨c0, rfl⟩ := He.codeIn_ref ci
    exact congrArg Value.ref (He.codeOf_eq (p := ("long_way", none)) lk rfl).symm⟩
  exact ok_law F36 T
end Mine
open PySem PySem.W PySem.Calls PyProof.Rows
set_option maxRecDepth 100000 in
set_option maxHeartbeats 0 in
theorem PySem.Challenge.cw_beltshift_k31_whole_ways_of_rooms_otherw_holds : PySem.Challenge.rw_beltshift_k31_whole_ways_of_rooms_otherw.Holds := by
  w_on; o_law
  refine HandSHeadRun.head_any (r := Mine.hR) (q := view Mine.hR.prog [43]) (H := Mine.hk) (ob := Mine.hOb) (M := 40000) (loose := Mine.hNames) (d := HandSHeadRun.topDef Mine.hR.prog 43) (kwd := []) Mine.hOb_eq (by kernel_rfl) (fun s => by kernel_rfl) Mine.hRun (by kernel_rfl) (by kernel_rfl) (by kernel_rfl) (by rfl) (by first | assumption | decide +kernel) (by decide +kernel) ⟨rfl, rfl, rfl, rfl, rfl, by decide +kernel⟩ ?hw ?hc
  case hw => w_witness2
  case hc =>
    refine LamX.walk_ofTsE (l := PySem.Challenge.rw_beltshift_k31_whole_ways_of_rooms_otherw) (n := 63) (k := 6) (x := "_law_script") (CX := fun _ => L2.CX0) rfl (by decide) (by kernel_rfl) ⟨rfl, by decide, by decide⟩ ?F (fun _ _ _ _ _ z => z)
    intro w mg fa h Y G hmg0
    obtain ⟨K, KX, c⟩ := Y
    have hmg : mg ("law" : PySem.Str) = some (.ref fa) := by
      have e : (HandSHeadRun.topDef Mine.hR.prog 43).name = ("law" : PySem.Str) := by kernel_rfl
      rw [← e]
      exact hmg0
    exact ⟨K, KX, Mine.all_mkX KX G hmg c⟩
