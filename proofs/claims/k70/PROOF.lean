import PyProof.Rows.All
import Wide.All
import OpenK.AllK
import Wide.FinOn
import HandS.ForMost
import HandS.Wide
import HandS.Style
import HandS.IsInst
import HandS.TupAny
import HandS.NoneIn
import HandS.SetFor
import HandS.Conv
import HandS.Zip
import HandS.SortKw
import HandS.Deep
import KE.DataMinMax
import KE.GoesMore
import KE.KDictZip
import KE.GoesZip
import KE.GoesEnum
import HandS.AnyAll
import HandS.TupLen
import KE.KeyNested
import PyProof.Rows.TupTab
import HandS.TupMul
import HandS.Words
import HandS.EndTab
import HandS.HeadWalk
import HandS.Defaults
import HandS.Head0
import HandS.Head1
import HandS.Head2
import HandS.HeadEnd
import HandS.HeadHook1
import HandS.HeadHook2
import HandS.HeadHook3
import HandS.HeadHook4
import KE.KStateDown
import KE.KIsAll
import KE.KNestM
import PyProof.GenCompD
import PyProof.WalksMore
import PySem.Challenge.RW_beltshift_k70_whole_made_one_tells_the_s
import HandS.Lambda
import KE.KLam
import KE.DataMinKey
import HandS.TryOnly
import HandS.ExcInit
import HandS.WordsExc
import HandS.ExcIs
import HandS.ExcField
import HandS.ExcOwn
set_option Elab.async false
set_option linter.all false
set_option maxRecDepth 100000
namespace Mine
open PySem PyProof.Rows L2
def topS (i : Nat) : Stmt := PySem.Challenge.pw_beltshift_k70_whole_made_one_tells_the_s.main.body.getD i (.Pass ⟨0, 0, 0, 0⟩)
abbrev s_made_by : Stmt := topS 1
abbrev N_made_by : List Str := ["rule", "things", "word"]
theorem sc_made_by : FnScope N_made_by ["rule", "things"] (defScope s_made_by) := ⟨rfl, rfl, rfl, by decide +kernel, rfl, by decide +kernel, by decide +kernel⟩
abbrev s_made_of_two : Stmt := topS 2
abbrev N_made_of_two : List Str := ["word", "one", "other"]
theorem sc_made_of_two : FnScope N_made_of_two ["word", "one", "other"] (defScope s_made_of_two) := ⟨rfl, rfl, rfl, by decide +kernel, rfl, by decide +kernel, by decide +kernel⟩
abbrev s_comings : Stmt := topS 6
abbrev N_comings : List Str := ["room", "hand", "number", "belt"]
theorem sc_comings : FnScope N_comings ["room", "hand"] (defScope s_comings) := ⟨rfl, rfl, rfl, by decide +kernel, rfl, by decide +kernel, by decide +kernel⟩
abbrev s_doors_in : Stmt := topS 7
abbrev N_doors_in : List Str := ["room", "number", "hand"]
theorem sc_doors_in : FnScope N_doors_in ["room"] (defScope s_doors_in) := ⟨rfl, rfl, rfl, by decide +kernel, rfl, by decide +kernel, by decide +kernel⟩
abbrev s_doors_out : Stmt := topS 8
abbrev N_doors_out : List Str := ["room", "number", "hand"]
theorem sc_doors_out : FnScope N_doors_out ["room"] (defScope s_doors_out) := ⟨rfl, rfl, rfl, by decide +kernel, rfl, by decide +kernel, by decide +kernel⟩
abbrev s_kinds : Stmt := topS 10
abbrev N_kinds : List Str := ["room", "told", "hand", "rule", "moments", "before"]
theorem sc_kinds : FnScope N_kinds ["room"] (defScope s_kinds) := ⟨rfl, rfl, rfl, by decide +kernel, rfl, by decide +kernel, by decide +kernel⟩
abbrev s_numbered : Stmt := topS 11
abbrev N_numbered : List Str := ["marks", "numbers", "mark"]
theorem sc_numbered : FnScope N_numbered ["marks"] (defScope s_numbered) := ⟨rfl, rfl, rfl, by decide +kernel, rfl, by decide +kernel, by decide +kernel⟩
abbrev s_first_mark : Stmt := topS 12
abbrev N_first_mark : List Str := ["rule", "hand"]
theorem sc_first_mark : FnScope N_first_mark ["rule", "hand"] (defScope s_first_mark) := ⟨rfl, rfl, rfl, by decide +kernel, rfl, by decide +kernel, by decide +kernel⟩
abbrev s_mark_by : Stmt := topS 13
abbrev N_mark_by : List Str := ["room", "told", "hand", "belts", "number", "giver", "taker", "things"]
theorem sc_mark_by : FnScope N_mark_by ["room", "told", "hand"] (defScope s_mark_by) := ⟨rfl, rfl, rfl, by decide +kernel, rfl, by decide +kernel, by decide +kernel⟩
abbrev s_joined_alike : Stmt := topS 14
abbrev N_joined_alike : List Str := ["room", "told", "hands", "belts", "kind", "alike", "hand", "own", "number", "giver", "taker", "things"]
theorem sc_joined_alike : FnScope N_joined_alike ["room"] (defScope s_joined_alike) := ⟨rfl, rfl, rfl, by decide +kernel, rfl, by decide +kernel, by decide +kernel⟩
abbrev s_work_order : Stmt := topS 16
abbrev N_work_order : List Str := ["room", "hands", "belts", "loose", "giver", "taker", "things", "owed", "left", "order", "ready", "hand"]
theorem sc_work_order : FnScope N_work_order ["room"] (defScope s_work_order) := ⟨rfl, rfl, rfl, by decide +kernel, rfl, by decide +kernel, by decide +kernel⟩
abbrev s_run : Stmt := topS 18
abbrev N_run : List Str := ["room", "rows", "doors", "made"]
theorem sc_run : FnScope N_run ["room", "rows"] (defScope s_run) := ⟨rfl, rfl, rfl, by decide +kernel, rfl, by decide +kernel, by decide +kernel⟩
abbrev s_worked : Stmt := topS 19
abbrev N_worked : List Str := ["room", "rows", "plan", "stands", "told", "things", "made"]
theorem sc_worked : FnScope N_worked ["room", "rows"] (defScope s_worked) := ⟨rfl, rfl, rfl, by decide +kernel, rfl, by decide +kernel, by decide +kernel⟩
abbrev s_standing : Stmt := topS 20
abbrev N_standing : List Str := ["room", "rows", "stands", "made"]
theorem sc_standing : FnScope N_standing ["room", "rows"] (defScope s_standing) := ⟨rfl, rfl, rfl, by decide +kernel, rfl, by decide +kernel, by decide +kernel⟩
abbrev s_picked : Stmt := topS 21
abbrev N_picked : List Str := ["made", "doors", "door"]
theorem sc_picked : FnScope N_picked ["made", "doors"] (defScope s_picked) := ⟨rfl, rfl, rfl, by decide +kernel, rfl, by decide +kernel, by decide +kernel⟩
abbrev s_work_plan : Stmt := topS 22
abbrev N_work_plan : List Str := ["room", "hand"]
theorem sc_work_plan : FnScope N_work_plan ["room"] (defScope s_work_plan) := ⟨rfl, rfl, rfl, by decide +kernel, rfl, by decide +kernel, by decide +kernel⟩
abbrev s_made_at_bell : Stmt := topS 23
abbrev N_made_at_bell : List Str := ["room", "plan", "things", "hands", "belts", "made", "hand", "coming", "taken", "number"]
theorem sc_made_at_bell : FnScope N_made_at_bell ["room", "plan", "things"] (defScope s_made_at_bell) := ⟨rfl, rfl, rfl, by decide +kernel, rfl, by decide +kernel, by decide +kernel⟩
abbrev s_thing_taken : Stmt := topS 24
abbrev N_thing_taken : List Str := ["belt", "made", "giver", "taker", "things"]
theorem sc_thing_taken : FnScope N_thing_taken ["belt", "made"] (defScope s_thing_taken) := ⟨rfl, rfl, rfl, by decide +kernel, rfl, by decide +kernel, by decide +kernel⟩
abbrev s_behind_bell : Stmt := topS 25
abbrev N_behind_bell : List Str := ["room", "made", "hands", "belts", "belt"]
theorem sc_behind_bell : FnScope N_behind_bell ["room", "made"] (defScope s_behind_bell) := ⟨rfl, rfl, rfl, by decide +kernel, rfl, by decide +kernel, by decide +kernel⟩
abbrev s_belt_behind_bell : Stmt := topS 26
abbrev N_belt_behind_bell : List Str := ["belt", "made", "giver", "taker", "things"]
theorem sc_belt_behind_bell : FnScope N_belt_behind_bell ["belt", "made"] (defScope s_belt_behind_bell) := ⟨rfl, rfl, rfl, by decide +kernel, rfl, by decide +kernel, by decide +kernel⟩
abbrev s_moments_on : Stmt := topS 28
abbrev N_moments_on : List Str := ["room", "way", "hands", "belts", "first", "numbers", "number"]
theorem sc_moments_on : FnScope N_moments_on ["room", "way"] (defScope s_moments_on) := ⟨rfl, rfl, rfl, by decide +kernel, rfl, by decide +kernel, by decide +kernel⟩
abbrev s_time_of : Stmt := topS 29
abbrev N_time_of : List Str := ["room", "way"]
theorem sc_time_of : FnScope N_time_of ["room"] (defScope s_time_of) := ⟨rfl, rfl, rfl, by decide +kernel, rfl, by decide +kernel, by decide +kernel⟩
abbrev s_long_way : Stmt := topS 30
abbrev N_long_way : List Str := ["room", "sums", "last", "end"]
theorem sc_long_way : FnScope N_long_way ["room"] (defScope s_long_way) := ⟨rfl, rfl, rfl, by decide +kernel, rfl, by decide +kernel, by decide +kernel⟩
abbrev s_long_sums : Stmt := topS 31
abbrev N_long_sums : List Str := ["room", "hands", "belts", "sums", "last", "hand", "number", "giver", "taker", "things"]
theorem sc_long_sums : FnScope N_long_sums ["room"] (defScope s_long_sums) := ⟨rfl, rfl, rfl, by decide +kernel, rfl, by decide +kernel, by decide +kernel⟩
abbrev s_way_back : Stmt := topS 32
abbrev N_way_back : List Str := ["room", "end", "last", "numbers", "hand"]
theorem sc_way_back : FnScope N_way_back ["room", "end", "last"] (defScope s_way_back) := ⟨rfl, rfl, rfl, by decide +kernel, rfl, by decide +kernel, by decide +kernel⟩
abbrev s_law_flow : Stmt := topS 34
abbrev N_law_flow : List Str := ["_law_script"]
theorem sc_law_flow : FnScope N_law_flow ["_law_script"] (defScope s_law_flow) := ⟨rfl, rfl, rfl, by decide +kernel, rfl, by decide +kernel, by decide +kernel⟩
abbrev s_law_pick : Stmt := topS 35
abbrev N_law_pick : List Str := ["_law_flow_here", "_law_many", "_law_cell", "_law_digit"]
theorem sc_law_pick : FnScope N_law_pick ["_law_flow_here", "_law_many"] (defScope s_law_pick) := ⟨rfl, rfl, rfl, by decide +kernel, rfl, by decide +kernel, by decide +kernel⟩
abbrev s_law_thing : Stmt := topS 36
abbrev N_law_thing : List Str := ["_law_flow_here"]
theorem sc_law_thing : FnScope N_law_thing ["_law_flow_here"] (defScope s_law_thing) := ⟨rfl, rfl, rfl, by decide +kernel, rfl, by decide +kernel, by decide +kernel⟩
abbrev s_law_needs : Stmt := topS 37
abbrev N_law_needs : List Str := ["_law_rule_here"]
theorem sc_law_needs : FnScope N_law_needs ["_law_rule_here"] (defScope s_law_needs) := ⟨rfl, rfl, rfl, by decide +kernel, rfl, by decide +kernel, by decide +kernel⟩
abbrev s_law_rule : Stmt := topS 38
abbrev N_law_rule : List Str := ["_law_flow_here", "_law_most", "_law_words", "_law_word"]
theorem sc_law_rule : FnScope N_law_rule ["_law_flow_here", "_law_most"] (defScope s_law_rule) := ⟨rfl, rfl, rfl, by decide +kernel, rfl, by decide +kernel, by decide +kernel⟩
abbrev s_law_shuffled : Stmt := topS 39
abbrev N_law_shuffled : List Str := ["_law_flow_here", "_law_some", "_law_left", "_law_k"]
theorem sc_law_shuffled : FnScope N_law_shuffled ["_law_flow_here", "_law_some"] (defScope s_law_shuffled) := ⟨rfl, rfl, rfl, by decide +kernel, rfl, by decide +kernel, by decide +kernel⟩
abbrev s_law_hands : Stmt := topS 40
abbrev N_law_hands : List Str := ["_law_flow_here", "_law_many", "_law_sorts", "_law_left", "_law_hands_here", "_law_k", "_law_sort", "_law_behind", "_law_other", "_law_rule_here"]
theorem sc_law_hands : FnScope N_law_hands ["_law_flow_here", "_law_many"] (defScope s_law_hands) := ⟨rfl, rfl, rfl, by decide +kernel, rfl, by decide +kernel, by decide +kernel⟩
abbrev s_law_room : Stmt := topS 41
abbrev N_law_room : List Str := ["_law_flow_here", "_law_most", "_law_hands_here", "_law_ranks", "_law_givers", "_law_k", "_law_takers", "_law_belts", "_law_to", "_law_one", "_law_trays"]
theorem sc_law_room : FnScope N_law_room ["_law_flow_here", "_law_most"] (defScope s_law_room) := ⟨rfl, rfl, rfl, by decide +kernel, rfl, by decide +kernel, by decide +kernel⟩
abbrev s_law_turned_room : Stmt := topS 42
abbrev N_law_turned_room : List Str := ["_law_flow_here", "_law_room_here", "_law_hands_here", "_law_belts", "_law_order", "_law_queues", "_law_belt", "_law_k", "_law_found", "_law_turn", "_law_some", "_law_one", "_law_to", "_law_things"]
theorem sc_law_turned_room : FnScope N_law_turned_room ["_law_flow_here", "_law_room_here"] (defScope s_law_turned_room) := ⟨rfl, rfl, rfl, by decide +kernel, rfl, by decide +kernel, by decide +kernel⟩
abbrev s_law_copied : Stmt := topS 43
abbrev N_law_copied : List Str := ["_law_flow_here", "_law_hands_here", "_law_belts", "_law_made", "_law_left", "_law_k", "_law_rule_here", "_law_moments", "_law_turn", "_law_found", "_law_to", "_law_one", "_law_old", "_law_things", "_law_some", "_law_j"]
theorem sc_law_copied : FnScope N_law_copied ["_law_flow_here"] (defScope s_law_copied) := ⟨rfl, rfl, rfl, by decide +kernel, rfl, by decide +kernel, by decide +kernel⟩
abbrev s_law_marred : Stmt := topS 44
abbrev N_law_marred : List Str := ["_law_flow_here", "_law_room_here", "_law_hands_here", "_law_belts", "_law_form", "_law_k", "_law_plain", "_law_same_here", "_law_rule_here", "_law_at", "_law_one", "_law_to", "_law_things", "_law_givers", "_law_j", "_law_spot"]
theorem sc_law_marred : FnScope N_law_marred ["_law_flow_here", "_law_room_here"] (defScope s_law_marred) := ⟨rfl, rfl, rfl, by decide +kernel, rfl, by decide +kernel, by decide +kernel⟩
abbrev s_law_lines : Stmt := topS 45
abbrev N_law_lines : List Str := ["_law_flow_here", "_law_other", "_law_many", "_law_number", "_law_things", "_law_k", "_law_hands_here", "_law_belts", "_law_first", "_law_place", "_law_at"]
theorem sc_law_lines : FnScope N_law_lines ["_law_flow_here"] (defScope s_law_lines) := ⟨rfl, rfl, rfl, by decide +kernel, rfl, by decide +kernel, by decide +kernel⟩
abbrev s_law_some_copied : Stmt := topS 46
abbrev N_law_some_copied : List Str := ["_law_flow_here", "_law_room_here"]
theorem sc_law_some_copied : FnScope N_law_some_copied ["_law_flow_here"] (defScope s_law_some_copied) := ⟨rfl, rfl, rfl, by decide +kernel, rfl, by decide +kernel, by decide +kernel⟩
abbrev s_law_rows : Stmt := topS 47
abbrev N_law_rows : List Str := ["_law_flow_here", "_law_room_here", "_law_many", "_law_doors", "_law_hand", "_law_door", "_law_k"]
theorem sc_law_rows : FnScope N_law_rows ["_law_flow_here", "_law_room_here", "_law_many"] (defScope s_law_rows) := ⟨rfl, rfl, rfl, by decide +kernel, rfl, by decide +kernel, by decide +kernel⟩
abbrev s_law_same : Stmt := topS 48
abbrev N_law_same : List Str := ["_law_room_here", "_law_rows_here", "_law_numbers", "_law_one", "_law_done", "_law_other", "_law_row", "_law_short", "_law_number"]
theorem sc_law_same : FnScope N_law_same ["_law_room_here", "_law_rows_here"] (defScope s_law_same) := ⟨rfl, rfl, rfl, by decide +kernel, rfl, by decide +kernel, by decide +kernel⟩
abbrev s_law : Stmt := topS 49
abbrev N_law : List Str := ["_law_script", "_law_flow_here", "_law_room_here", "_law_rows_here", "_law_cut", "_law_there", "_law_before", "_law_behind", "_law_j", "_law_k"]
theorem sc_law : FnScope N_law ["_law_script"] (defScope s_law) := ⟨rfl, rfl, rfl, by decide +kernel, rfl, by decide +kernel, by decide +kernel⟩

/-- a def of the text stands, binds and is bound -/
def Dd (K : PySem.W.Frag) (mg : Str → Option Value) (name : Str) (st : Stmt) (ps : List Str) : Prop :=
  ∃ (f : Addr) (fd : FuncData), Fun K name name st f fd ∧ Binds K fd ps [] ∧ mg name = some (.ref f)
structure Top (K : PySem.W.Frag) (mg : Str → Option Value) : Prop where
  d_made_by : Dd K mg "made_by" s_made_by ["rule", "things"]
  d_made_of_two : Dd K mg "made_of_two" s_made_of_two ["word", "one", "other"]
  d_comings : Dd K mg "comings" s_comings ["room", "hand"]
  d_doors_in : Dd K mg "doors_in" s_doors_in ["room"]
  d_doors_out : Dd K mg "doors_out" s_doors_out ["room"]
  d_kinds : Dd K mg "kinds" s_kinds ["room"]
  d_numbered : Dd K mg "numbered" s_numbered ["marks"]
  d_first_mark : Dd K mg "first_mark" s_first_mark ["rule", "hand"]
  d_mark_by : Dd K mg "mark_by" s_mark_by ["room", "told", "hand"]
  d_joined_alike : Dd K mg "joined_alike" s_joined_alike ["room"]
  d_work_order : Dd K mg "work_order" s_work_order ["room"]
  d_run : Dd K mg "run" s_run ["room", "rows"]
  d_worked : Dd K mg "worked" s_worked ["room", "rows"]
  d_standing : Dd K mg "standing" s_standing ["room", "rows"]
  d_picked : Dd K mg "picked" s_picked ["made", "doors"]
  d_work_plan : Dd K mg "work_plan" s_work_plan ["room"]
  d_made_at_bell : Dd K mg "made_at_bell" s_made_at_bell ["room", "plan", "things"]
  d_thing_taken : Dd K mg "thing_taken" s_thing_taken ["belt", "made"]
  d_behind_bell : Dd K mg "behind_bell" s_behind_bell ["room", "made"]
  d_belt_behind_bell : Dd K mg "belt_behind_bell" s_belt_behind_bell ["belt", "made"]
  d_moments_on : Dd K mg "moments_on" s_moments_on ["room", "way"]
  d_time_of : Dd K mg "time_of" s_time_of ["room"]
  d_long_way : Dd K mg "long_way" s_long_way ["room"]
  d_long_sums : Dd K mg "long_sums" s_long_sums ["room"]
  d_way_back : Dd K mg "way_back" s_way_back ["room", "end", "last"]
  d_law_flow : Dd K mg "_law_flow" s_law_flow ["_law_script"]
  d_law_pick : Dd K mg "_law_pick" s_law_pick ["_law_flow_here", "_law_many"]
  d_law_thing : Dd K mg "_law_thing" s_law_thing ["_law_flow_here"]
  d_law_needs : Dd K mg "_law_needs" s_law_needs ["_law_rule_here"]
  d_law_rule : Dd K mg "_law_rule" s_law_rule ["_law_flow_here", "_law_most"]
  d_law_shuffled : Dd K mg "_law_shuffled" s_law_shuffled ["_law_flow_here", "_law_some"]
  d_law_hands : Dd K mg "_law_hands" s_law_hands ["_law_flow_here", "_law_many"]
  d_law_room : Dd K mg "_law_room" s_law_room ["_law_flow_here", "_law_most"]
  d_law_turned_room : Dd K mg "_law_turned_room" s_law_turned_room ["_law_flow_here", "_law_room_here"]
  d_law_copied : Dd K mg "_law_copied" s_law_copied ["_law_flow_here"]
  d_law_marred : Dd K mg "_law_marred" s_law_marred ["_law_flow_here", "_law_room_here"]
  d_law_lines : Dd K mg "_law_lines" s_law_lines ["_law_flow_here"]
  d_law_some_copied : Dd K mg "_law_some_copied" s_law_some_copied ["_law_flow_here"]
  d_law_rows : Dd K mg "_law_rows" s_law_rows ["_law_flow_here", "_law_room_here", "_law_many"]
  d_law_same : Dd K mg "_law_same" s_law_same ["_law_room_here", "_law_rows_here"]
  m_dict : mg "dict" = none
  m_enumerate : mg "enumerate" = none
  m_int : mg "int" = none
  m_len : mg "len" = none
  m_list : mg "list" = none
  m_max : mg "max" = none
  m_min : mg "min" = none
  m_range : mg "range" = none
  m_set : mg "set" = none
  m_sum : mg "sum" = none
  m_tuple : mg "tuple" = none
  m_zip : mg "zip" = none
  x_in : ∃ aI : Addr, mg "IN_RULE" = some (.ref aI) ∧ ∀ H : Hp, SqT K H aI [.str "in"]
  x_out : ∃ aO : Addr, mg "OUT_RULE" = some (.ref aO) ∧ ∀ H : Hp, SqT K H aO [.str "out"]

/-! ### heaps -/
def But (f : Addr) (H H' : Hp) : Prop := ∀ b o, H b = some o → b ≠ f → H' b = some o
theorem But.refl {f : Addr} {H : Hp} : But f H H := fun _ _ e _ => e
theorem But.trans {f : Addr} {H H1 H2 : Hp} (a : But f H H1) (b : But f H1 H2) : But f H H2 := fun x o e n => b x o (a x o e n) n
theorem But.upd {f : Addr} {H H1 : Hp} {o : HO} (a : But f H H1) : But f H (upd H1 f o) := fun x u e n => by rw [upd_ne n]; exact a x u e n
theorem But.new {f p : Addr} {H H1 : Hp} {o : HO} (a : But f H H1) (h : H1 p = none) : But f H (L2.upd H1 p o) := fun x u e n => by
  have e1 := a x u e n
  rw [upd_ne (ne_of_none e1 h)]
  exact e1
theorem same_new {H : Hp} {p : Addr} {o : HO} (h : H p = none) : Same H (upd H p o) := fun b u q => by rw [upd_ne (ne_of_none q h)]; exact q
theorem But.same {f : Addr} {H H1 H2 : Hp} (a : But f H H1) (b : Same H1 H2) : But f H H2 := fun x o e n => b x o (a x o e n)
theorem But.seqT {K : PySem.W.Frag} {f a : Addr} {H H1 : Hp} {xs : List V} (b : But f H H1) (h : SqT K H a xs) (n : a ≠ f) : SqT K H1 a xs := by
  rcases h with h | h
  · left
    rcases h with h | ⟨o, h⟩
    · exact .inl (b _ _ h n)
    · exact .inr ⟨o, b _ _ h n⟩
  · exact .inr h
/-- a comprehension without a test -/
theorem yes_in {σ : L2.St} {H : Hp} {A B : Hp → Prop} (h : A H) : tYes σ H (fun b H3 => if b = true then A H3 else B H3) := by
  show (if true = true then A H else B H)
  rw [if_pos rfl]
  exact h
/-! ### the draw -/
/-- the list of the law's draws at f, the script's copy at c -/
def Flow (H : Hp) (f c : Addr) : Prop := ∃ (ns : List Int) (i p q r : Int), H f = some (.lst [.ref c, .int i, .int p, .int q, .int r]) ∧ H c = some (.lst (ns.map V.int)) ∧ 0 ≤ i ∧ 0 ≤ p ∧ 0 ≤ q ∧ q < 2147483647
theorem Flow.new {H : Hp} {f c p : Addr} {o : HO} (h : Flow H f c) (n : H p = none) : Flow (upd H p o) f c := by
  obtain ⟨ns, i, a, q, r, e1, e2, e⟩ := h
  exact ⟨ns, i, a, q, r, same_new n _ _ e1, same_new n _ _ e2, e⟩
theorem Flow.ne {H : Hp} {f c p : Addr} (h : Flow H f c) (n : H p = none) : p ≠ f := by
  obtain ⟨ns, i, a, q, r, e1, _⟩ := h
  exact fun e => by rw [e, e1] at n; cases n
theorem Flow.nec {H : Hp} {f c p : Addr} (h : Flow H f c) (n : H p = none) : p ≠ c := by
  obtain ⟨ns, i, a, q, r, _, e1, _⟩ := h
  exact fun e => by rw [e, e1] at n; cases n
theorem Flow.lst {H : Hp} {f c p : Addr} {o : HO} (h : Flow H f c) (n1 : p ≠ f) (n2 : p ≠ c) : Flow (upd H p o) f c := by
  obtain ⟨ns, i, a, q, r, e1, e2, e⟩ := h
  exact ⟨ns, i, a, q, r, by rw [upd_ne n1.symm]; exact e1, by rw [upd_ne n2.symm]; exact e2, e⟩
theorem Flow.same {H H' : Hp} {f c : Addr} (h : Flow H f c) (s : Same H H') : Flow H' f c := by
  obtain ⟨ns, i, a, q, r, e1, e2, e⟩ := h
  exact ⟨ns, i, a, q, r, s _ _ e1, s _ _ e2, e⟩
theorem Flow.tup {H : Hp} {f c p : Addr} {xs : List V} (h : Flow H f c) (e : H p = some (.tup xs)) : p ≠ f := by
  obtain ⟨ns, i, a, q, r, e1, _⟩ := h
  exact ne_of e e1 (by intro z; cases z)
theorem at_ints {ns : List Int} {i : Int} (h0 : 0 ≤ i) (h1 : i < (ns.length : Int)) : ∃ v : Int, atI (ns.map V.int) i = some (.int v) := by
  have hk : i.toNat < ns.length := by omega
  have ek : i = ((i.toNat : Nat) : Int) := by omega
  have q : atI (ns.map V.int) ((i.toNat : Nat) : Int) = some (.int ns[i.toNat]) := atI_nat (by rw [List.getElem?_map, List.getElem?_eq_getElem hk]; rfl)
  rw [← ek] at q
  exact ⟨_, q⟩
/-- a block by less than it asks -/
theorem PSs.to {X : Cx} {ss : List Stmt} {t : TS} (h : PSs X ss t) (u : TS) (k : ∀ D σ H, u D σ H → t D σ H) : PSs X ss u := ⟨fun pins s σ H D I q => h.run pins s σ H D I (k D σ H q)⟩
theorem if_bl {b : Bool} {A B : Prop} (h1 : b = true → A) (h2 : b = false → B) : if b = true then A else B := by
  cases b
  · rw [if_neg Bool.false_ne_true]; exact h2 rfl
  · rw [if_pos rfl]; exact h1 rfl
/-! ### lists, two by two -/
inductive All2 {α β : Type} (R : α → β → Prop) : List α → List β → Prop
  | nil : All2 R [] []
  | cons {a b as bs} : R a b → All2 R as bs → All2 R (a :: as) (b :: bs)
theorem All2.imp {α β : Type} {R S : α → β → Prop} (h : ∀ a b, R a b → S a b) : ∀ {as bs}, All2 R as bs → All2 S as bs
  | _, _, .nil => .nil
  | _, _, .cons a b => .cons (h _ _ a) (All2.imp h b)
theorem All2.length {α β : Type} {R : α → β → Prop} : ∀ {as bs}, All2 R as bs → as.length = bs.length
  | _, _, .nil => rfl
  | _, _, .cons _ b => congrArg (· + 1) (All2.length b)
theorem All2.snoc {α β : Type} {R : α → β → Prop} {a b} (r : R a b) : ∀ {as bs}, All2 R as bs → All2 R (as ++ [a]) (bs ++ [b])
  | _, _, .nil => .cons r .nil
  | _, _, .cons h t => .cons h (All2.snoc r t)
theorem All2.get {α β : Type} {R : α → β → Prop} {as : List α} {bs : List β} (h : All2 R as bs) : ∀ {i : Nat} {b : β}, bs[i]? = some b → ∃ a, as[i]? = some a ∧ R a b := by
  induction h with
  | nil => intro i b e; cases e
  | cons r t ih =>
    intro i b e
    cases i with
    | zero => cases e; exact ⟨_, rfl, r⟩
    | succ i => exact ih e
theorem All2.getL {α β : Type} {R : α → β → Prop} {as : List α} {bs : List β} (h : All2 R as bs) : ∀ {i : Nat} {a : α}, as[i]? = some a → ∃ b, bs[i]? = some b ∧ R a b := by
  induction h with
  | nil => intro i b e; cases e
  | cons r t ih =>
    intro i b e
    cases i with
    | zero => cases e; exact ⟨_, rfl, r⟩
    | succ i => exact ih e
/-! ### tuples stay -/
def TK (H H' : Hp) : Prop := ∀ b xs, H b = some (.tup xs) → H' b = some (.tup xs)
theorem TK.refl {H : Hp} : TK H H := fun _ _ e => e
theorem TK.trans {H H1 H2 : Hp} (a : TK H H1) (b : TK H1 H2) : TK H H2 := fun x xs e => b x xs (a x xs e)
theorem TK.same {H H' : Hp} (s : Same H H') : TK H H' := fun x xs e => s _ _ e
theorem TK.new {H : Hp} {p : Addr} {o : HO} (n : H p = none) : TK H (upd H p o) := fun x xs e => same_new n _ _ e
theorem TK.lst {H : Hp} {p : Addr} {xs ys : List V} (h : H p = some (.lst xs)) : TK H (upd H p (.lst ys)) := fun x zs e => by
  rw [upd_ne (ne_of e h (by intro z; cases z))]
  exact e
theorem TK.but {H H' : Hp} {f c : Addr} (F : Flow H f c) (b : But f H H') : TK H H' := fun x xs e => b _ _ e (F.tup e)
theorem same_none {H H' : Hp} {p : Addr} (s : Same H H') (n : H' p = none) : H p = none := by
  cases e : H p with
  | none => rfl
  | some o => rw [s _ _ e] at n; cases n
theorem But.none {f p : Addr} {H H' : Hp} (b : But f H H') (n : H' p = Option.none) (h : p ≠ f) : H p = Option.none := by
  cases e : H p with
  | none => rfl
  | some o => rw [b _ _ e h] at n; cases n
theorem But.of {f : Addr} {H H' : Hp} (s : Same H H') : But f H H' := fun _ _ e _ => s _ _ e
/-- a list that was not there is written: what was stays -/
theorem But.own {f p : Addr} {H H1 : Hp} {o : HO} (a : But f H H1) (h : H p = Option.none) : But f H (L2.upd H1 p o) := fun x u e n => by
  rw [upd_ne (ne_of_none e h)]
  exact a x u e n
theorem Same.own {p : Addr} {H H1 : Hp} {o : HO} (a : Same H H1) (h : H p = Option.none) : Same H (L2.upd H1 p o) := fun x u e => by
  rw [upd_ne (ne_of_none e h)]
  exact a x u e
/-! ### loops over any iterator -/
theorem for_it {J : It} {n : Nat} {g : TG} {tb : TS} {D : Ends} {σ : L2.St} {H : Hp} (Pv : Nat → L2.St → Hp → Prop) (h0 : Pv 0 σ H) (go : ∀ i σ H, i < n → Pv i σ H → J.go i H) (st : ∀ σ H, Pv n σ H → J.stop n H)
    (hs : ∀ i x σ H H', i < n → Pv i σ H → J.yld i H x H' → g x σ H' fun σ2 H2 => tb { D with nx := Pv (i + 1), ct := Pv (i + 1), bk := D.nx } σ2 H2) (hd : ∀ σ H, Pv n σ H → D.nx σ H) :
    ∃ W : Nat → Nat → L2.St → Hp → Prop, (∃ m, W 0 m σ H) ∧ ∀ i m σ H, W i m σ H →
      (J.stop i H ∧ D.nx σ H) ∨ (J.go i H ∧ ∃ N : L2.St → Hp → Prop, (∀ σ' H', N σ' H' → ∃ m', m' < m ∧ W (i + 1) m' σ' H') ∧ ∀ x H', J.yld i H x H' → g x σ H' fun σ2 H2 => tb { D with nx := N, ct := N, bk := D.nx } σ2 H2) := by
  refine ⟨fun i m σ H => i + m = n ∧ Pv i σ H, ⟨n, by omega, h0⟩, fun i m σ H ⟨e, p⟩ => ?_⟩
  by_cases k : i < n
  · exact .inr ⟨go i σ H k p, Pv (i + 1), fun σ' H' p' => ⟨m - 1, by omega, by omega, p'⟩, fun x H' y => hs i x σ H H' k p y⟩
  · have z : i = n := by omega
    subst z
    exact .inl ⟨st σ H p, hd σ H p⟩
theorem lc_it {J : It} {n : Nat} {g : TG} {tt : TT} {te : TE} {vs : List Nat} {σ : L2.St} {H1 : Hp} {D : Addr} {Qd : Hp → Prop} (Pv : Nat → Hp → Prop) (h0 : Pv 0 (upd H1 D (.lst []))) (go : ∀ i H, i < n → Pv i H → J.go i H) (st : ∀ H, Pv n H → J.stop n H)
    (hs : ∀ i x H H', i < n → Pv i H → J.yld i H x H' → g x (wipe σ vs) H' fun σ2 H2 => wipe σ2 vs = wipe σ vs ∧ tt σ2 H2 fun b H3 =>
      if b = true then te σ2 H3 fun y H4 => ∃ acc, H4 D = some (.lst acc) ∧ acc.length < sizeLine ∧ Pv (i + 1) (upd H4 D (.lst (acc ++ [y]))) else Pv (i + 1) H3) (hd : ∀ H, Pv n H → Qd H) :
    ∃ W : Nat → Nat → Hp → Prop, (∃ m, W 0 m (upd H1 D (.lst []))) ∧ ∀ i m H, W i m H →
      (J.stop i H ∧ Qd H) ∨ (J.go i H ∧ ∃ Nx : Hp → Prop, (∀ H', Nx H' → ∃ m', m' < m ∧ W (i + 1) m' H') ∧ ∀ x H', J.yld i H x H' → g x (wipe σ vs) H' fun σ2 H2 => wipe σ2 vs = wipe σ vs ∧ tt σ2 H2 fun b H3 =>
        if b = true then te σ2 H3 fun y H4 => ∃ acc, H4 D = some (.lst acc) ∧ acc.length < sizeLine ∧ Nx (upd H4 D (.lst (acc ++ [y]))) else Nx H3) := by
  refine ⟨fun i m H => i + m = n ∧ Pv i H, ⟨n, by omega, h0⟩, fun i m H ⟨e, p⟩ => ?_⟩
  by_cases k : i < n
  · exact .inr ⟨go i H k p, Pv (i + 1), fun H' p' => ⟨m - 1, by omega, by omega, p'⟩, fun x H' y => hs i x H H' k p y⟩
  · have z : i = n := by omega
    subst z
    exact .inl ⟨st H p, hd H p⟩
/-! ### tests -/
theorem if_str {x z : Str} {A B : Prop} (h1 : x = z → A) (h2 : x ≠ z → B) : if decide (V.str x = V.str z) = true then A else B :=
  if_bl (fun e => h1 (V.str.inj (of_decide_eq_true e))) (fun e => h2 (fun q => of_decide_eq_false e (congrArg V.str q)))
theorem inV_strs {x : Str} {zs : List Str} : inV (.str x) (zs.map V.str) = true ↔ x ∈ zs := by
  unfold inV
  induction zs with
  | nil => simp
  | cons z zs ih =>
    rw [List.map_cons, List.any_cons, Bool.or_eq_true, ih, List.mem_cons]
    constructor
    · rintro (h | h)
      · exact .inl (by simpa [eqV] using (show (z == x) = true from h) |> fun k => (eq_of_beq k).symm)
      · exact .inr h
    · rintro (h | h)
      · exact .inl (show (z == x) = true by rw [h]; exact beq_self_eq_true z)
      · exact .inr h
theorem if_in {x : Str} {zs : List Str} {A B : Prop} (h1 : x ∈ zs → A) (h2 : x ∉ zs → B) : if (if false = true then !inV (.str x) (zs.map V.str) else inV (.str x) (zs.map V.str)) = true then A else B := by
  have e : (if false = true then !inV (.str x) (zs.map V.str) else inV (.str x) (zs.map V.str)) = inV (.str x) (zs.map V.str) := if_neg Bool.false_ne_true
  rw [e]
  exact if_bl (fun c => h1 (inV_strs.mp c)) (fun c => h2 (fun k => by rw [inV_strs.mpr k] at c; cases c))
theorem same_seqT {K : PySem.W.Frag} {a : Addr} {H H1 : Hp} {xs : List V} (b : Same H H1) (h : SqT K H a xs) : SqT K H1 a xs := by
  rcases h with h | h
  · left
    rcases h with h | ⟨o, h⟩
    · exact .inl (b _ _ h)
    · exact .inr ⟨o, b _ _ h⟩
  · exact .inr h
theorem little {n : Nat} (h : n ≤ 1000) : n ≤ sizeLine := Nat.le_of_lt (small1000 h)
/-! ### xs[i] op= e -/
def rGetL (K : PySem.W.Frag) : V → V → Hp → VK → Prop := fun o i H Q => ∃ (p : Addr) (xs : List V) (j : Nat) (v : V), o = .ref p ∧ i = .int (j : Nat) ∧ SqL K H p xs ∧ xs[j]? = some v ∧ Q v H
theorem get_list {X : Cx} : PGet X (rGetL X.K) := by
  intro pins st σ H o i ov iv Q J ro ri asked
  obtain ⟨p, xs, j, v, rfl, rfl, hq, hj, now⟩ := asked
  cases ro
  obtain ⟨t, rfl⟩ := ri
  obtain ⟨its, r, pl, hz⟩ := J.list hq
  obtain ⟨u, eu, ru⟩ := r.get hj
  have n1 := (List.getElem?_eq_some_iff.mp hj).1
  have n2 := line63
  exact wpAny_getItem_list pl.isList (by omega) (by omega) (by simpa using eu) ⟨v, H, J, ru, now⟩
/-! ### the same rules, the written part named (so that they fit within comprehensions) -/
section
variable {X : Cx}
theorem ix_listK (K : PySem.W.Frag) (h : X.K = K) : IxR X (rIxL K) := by subst h; exact ix_list
theorem ix_tupK (K : PySem.W.Frag) (h : X.K = K) : IxR X (rIxT K) := by subst h; exact ix_tup
def rLenK (K : PySem.W.Frag) : List V → Hp → VK → Prop := fun xs H Q => ∃ (p : Addr) (ys : List V), xs = [.ref p] ∧ (SqL K H p ys ∨ SqT K H p ys) ∧ Q (.int (ys.length : Nat)) H
theorem call_len_seqK (K : PySem.W.Frag) (h : X.K = K) : CallR X (.builtin "len") (rLenK K) := by subst h; exact call_len_seq
def rListOfK (K : PySem.W.Frag) : List V → Hp → VK → Prop := fun xs H Q => ∃ (p : Addr) (ys : List V), xs = [.ref p] ∧ (SqL K H p ys ∨ SqT K H p ys) ∧ ∀ l, H l = none → Q (.ref l) (upd H l (.lst ys))
theorem call_list_ofK (K : PySem.W.Frag) (h : X.K = K) : CallR X (.type "list") (rListOfK K) := by subst h; exact call_list_of
def rTupOfK (K : PySem.W.Frag) : List V → Hp → VK → Prop := fun xs H Q => ∃ (p : Addr) (ys : List V), xs = [.ref p] ∧ ((SqL K H p ys ∧ ∀ l, H l = none → Q (.ref l) (upd H l (.tup ys))) ∨ (SqT K H p ys ∧ Q (.ref p) H))
theorem call_tuple_ofK (K : PySem.W.Frag) (h : X.K = K) : CallR X (.type "tuple") (rTupOfK K) := by subst h; exact call_tuple_of
theorem op_in_seqK (K : PySem.W.Frag) (h : X.K = K) : OpR X (compareOp .In) (rIn K false) := by subst h; exact op_in_seq
theorem op_notIn_seqK (K : PySem.W.Frag) (h : X.K = K) : OpR X (compareOp .NotIn) (rIn K true) := by subst h; exact op_notIn_seq
theorem sl_listK (K : PySem.W.Frag) (h : X.K = K) : SlR X (rSlL K) := by subst h; exact sl_list
theorem sl_tupAK (K : PySem.W.Frag) (h : X.K = K) : SlR X (rSlA K) := by subst h; exact sl_tupA
theorem op_eqDK (K : PySem.W.Frag) (h : X.K = K) (hu : X.A.units + 64 < cLine) : OpR X (compareOp .Eq) (rEqD K) := by subst h; exact op_eqD hu
theorem op_neDK (K : PySem.W.Frag) (h : X.K = K) (hu : X.A.units + 64 < cLine) : OpR X (compareOp .NotEq) (rNeD K) := by subst h; exact op_neD hu
theorem call_isiKK (K : PySem.W.Frag) (h : X.K = K) : CallR X (.builtin "isinstance") (rIsi K) := by subst h; exact call_isi
theorem cr_allK (K : PySem.W.Frag) (h : X.K = K) (hc : X.calm = true) : CallR X (.builtin "all") (rAll K) := by subst h; exact cr_all hc
theorem cr_anyK (K : PySem.W.Frag) (h : X.K = K) (hc : X.calm = true) : CallR X (.builtin "any") (rAny K) := by subst h; exact cr_any hc
theorem cr_minKK (K : PySem.W.Frag) (h : X.K = K) (hc : X.calm = true) : CallR X (.builtin "min") (rMin K) := by subst h; exact cr_min hc
theorem cr_maxKK (K : PySem.W.Frag) (h : X.K = K) (hc : X.calm = true) : CallR X (.builtin "max") (rMax K) := by subst h; exact cr_max hc
def tTruK (K : PySem.W.Frag) (ta : TE) : TT := fun σ H Q => ta σ H fun x H' => ∃ k, TruV K x H' k ∧ Q k H'
theorem pt_truthK (K : PySem.W.Frag) (h : X.K = K) {a : Expr} {ta : TE} (ha : PE X a ta) (he : ∀ whole, isTrue a X.env whole = (do let v ← whole; standAt a.pos; holding [v] (truthy v))) : PT X a (tTruK K ta) := by subst h; exact pt_truth ha he
theorem get_listK (K : PySem.W.Frag) (h : X.K = K) : PGet X (rGetL K) := by subst h; exact get_list
theorem pg_tupK (K : PySem.W.Frag) (h : X.K = K) {es : List Expr} {k n : Nat} {t : TGs} {pos : Pos} (hc : X.calm = true) (g : PGs X es t)
    (hn : (assignEach es X.env).length = n := by rfl) (hst : (assignEach es X.env).findIdx? (·.1) = none := by rfl) : PG X (.Tuple es k pos) (gTup K n t) := by subst h; exact pg_tup hc g hn hst
theorem pg_unlK (K : PySem.W.Frag) (h : X.K = K) {es : List Expr} {k n : Nat} {t : TGs} {pos : Pos} (hc : X.calm = true) (g : PGs X es t)
    (hn : (assignEach es X.env).length = n := by rfl) (hst : (assignEach es X.env).findIdx? (·.1) = none := by rfl) : PG X (.Tuple es k pos) (gUnl K n t) := by subst h; exact pg_unl hc g hn hst
theorem pi_listK (K : PySem.W.Frag) (h : X.K = K) {tg e : Expr} {te : TE} (he : PE X e te) : PI X tg e (iList K te) := by subst h; exact pi_list he
theorem pi_tupK (K : PySem.W.Frag) (h : X.K = K) {tg e : Expr} {te : TE} (he : PE X e te) : PI X tg e (iTup K te) := by subst h; exact pi_tup he
theorem pe_revLK (K : PySem.W.Frag) (h : X.K = K) {e : Expr} {te : TE} {k : Nat} {p1 p2 p3 pos : Pos} (he : PE X e te) : PE X (.Subscript e (.Slice none none (some (.UnaryOp .USub (.Constant (.int 1) k p1) p2)) p3) pos) (tRevL K te) := by subst h; exact pe_revL he
theorem pe_bmK (K : PySem.W.Frag) (h : X.K = K) {o e : Expr} {es : List Expr} {to : TE} {t : TA} {name : Str} {apos cpos : Pos} {T id : String} {r : V → List V → Hp → VK → Prop}
    (pa : PlainAttrs T) (slot : Slot T name id) (hty : typeOf (.builtin id) = pure (.type "method_descriptor")) (hm : MtR X id r) (ho : PE X o to) (ha : PA X (e :: es) t)
    (n1 : attributeBase o name X.env (eval o X.env) = eval o X.env := by rfl)
    (n2 : ((backTo cpos (starEach (e :: es) X.env)).all (fun x => !x.1) && (backToKw cpos (keywordEach [] X.env)).all (fun x => x.1.isSome) && decide ((e :: es).length + ([] : List Keyword).length + (if ([] : List Keyword).isEmpty then 0 else 1) < 30)) = true := by rfl)
    (n3 : (apos.endLine == cpos.line) = true := by rfl) (n4 : starEach (e :: es) X.env = (false, eval e X.env) :: starEach es X.env := by rfl) (n5 : (backTo cpos (starEach es X.env)).any (·.1) = false := by rfl) :
    PE X (.Call (.Attribute o name apos) (e :: es) [] cpos) (tBM K T r to t) := by subst h; exact pe_bm pa slot hty hm ho ha n1 n2 n3 n4 n5
theorem pe_bm0K (K : PySem.W.Frag) (h : X.K = K) {o : Expr} {to : TE} {name : Str} {apos cpos : Pos} {T id : String} {r : V → List V → Hp → VK → Prop}
    (pa : PlainAttrs T) (slot : Slot T name id) (hty : typeOf (.builtin id) = pure (.type "method_descriptor")) (hm : MtR X id r) (ho : PE X o to)
    (n1 : attributeBase o name X.env (eval o X.env) = eval o X.env := by rfl) (n3 : (apos.endLine == cpos.line) = true := by rfl) : PE X (.Call (.Attribute o name apos) [] [] cpos) (tBM0 K T r to) := by subst h; exact pe_bm0 pa slot hty hm ho n1 n3
theorem op_catAK (K : PySem.W.Frag) (h : X.K = K) : OpR X (binaryOp .Add) (rCatA K) := by subst h; exact op_catA
theorem call_isiTK (K : PySem.W.Frag) (h : X.K = K) : CallR X (.builtin "isinstance") (rIsiT K) := by subst h; exact call_isiT
theorem pi_zipAK (K : PySem.W.Frag) (h : X.K = K) {e e2 : Expr} {ta : TA} {p pos tpos : Pos} {elts : List Expr} {kk : Nat} (hg : Gl X "zip") (hm : X.mg "zip" = none) (ha : PA X [e, e2] ta)
    (hs : starEach [e, e2] X.env = (false, eval e X.env) :: starEach [e2] X.env := by rfl) (hpl : (backTo pos (starEach [e2] X.env)).any (·.1) = false := by rfl) :
    PI X (.Tuple elts kk tpos) (.Call (.Name "zip" p) [e, e2] [] pos) (RZ.iZipA K ta) := by subst h; exact RZ.pi_zipA hg hm ha hs hpl
theorem pi_or {tg e : Expr} {t1 t2 : TI} (h1 : PI X tg e t1) (h2 : PI X tg e t2) : PI X tg e (fun σ H R => t1 σ H R ∨ t2 σ H R) := ⟨fun pins s σ H R I h => h.elim (h1.run pins s σ H R I) (h2.run pins s σ H R I)⟩
theorem pe_fldK (K : PySem.W.Frag) (h : X.K = K) {e : Expr} {ta : TE} {f : Str} {pos : Pos} (he : PE X e ta) (hb : attributeBase e f X.env (eval e X.env) = eval e X.env) : PE X (.Attribute e f pos) (tFld K ta f) := by subst h; exact pe_fld he hb
theorem ps_fldK (K : PySem.W.Frag) (h : X.K = K) {o value : Expr} {ta tv : TE} {f : Str} {pos pos' : Pos} (ha : PE X o ta) (hv : PE X value tv) (hs : swapsWith value (some (.Attribute o f pos')) pos.line X.env = pure false) : PS X (.Assign [.Attribute o f pos'] value pos) (sFld K ta tv f) := by subst h; exact ps_fld ha hv hs
theorem ps_fldaugK (K : PySem.W.Frag) (h : X.K = K) {o value : Expr} {ta tv : TE} {f : Str} {pos tpos : Pos} {op : Operator} {rd : V → V → Hp → VK → Prop} (ha : PE X o ta) (hv : PE X value tv) (hop : InOp X op rd) : PS X (.AugAssign (.Attribute o f tpos) op value pos) (sFldAug K ta tv rd f) := by subst h; exact ps_fldaug ha hv hop
end
section
variable {X : Cx}
theorem cr_sumK (K : PySem.W.Frag) (h : X.K = K) (hc : X.calm = true) : CallR X (.builtin "sum") (rSum K) := by subst h; exact cr_sum hc
end
section
variable {X : Cx}
theorem op_ltTK (K : PySem.W.Frag) (h : X.K = K) (hu : X.A.units < cLine) : OpR X (compareOp .Lt) (rLtT K) := by subst h; exact op_ltT hu
end
section
variable {X : Cx}
theorem cr_sortedRevK (K : PySem.W.Frag) (h : X.K = K) {b : Bool} : CallRK X (.builtin "sorted") [Str.ofString "reverse"] (rSortedKw K b [.bl b]) := by subst h; exact cr_sortedRev
theorem op_inDK (K : PySem.W.Frag) (h : X.K = K) (hu : X.A.units + 65 < cLine) : OpR X (compareOp .In) (rInD K) := by subst h; exact op_inD hu
end
theorem hu65 {A : Around} {k : Nat} (hr : Room k A) : A.units + 65 < cLine := by have := hr.un; omega
section
variable {X : Cx}
/-- x not in t, t a tuple of data of any depth -/
def rNotInDT (K : PySem.W.Frag) : R2 := fun x y H Q => ∃ d ds, Dp K H x d ∧ Dp K H y (.tuple ds) ∧ SeqAt.shaped d = true ∧ SeqAt.shaped (.tuple ds) = true ∧ Q (.bl (!ds.any fun z => PyData.eqv z d)) H
theorem op_notInDTK (K : PySem.W.Frag) (same : X.K = K) (room : X.A.units + 65 < cLine) : OpR X (compareOp .NotIn) (rNotInDT K) := by
  subst same
  intro pins st σ H one many ov mv Q J ro rm asked
  have ⟨d, ds, dpO, dpM, shO, shM, done⟩ := asked
  have ⟨_, readO⟩ := Dp.reads J d one ov dpO ro
  have ⟨_, readM⟩ := Dp.reads J (.tuple ds) many mv dpM rm
  exact SeqAt.notIn_tuple_reads readM readO (SeqAt.canLay_of_shaped shM) (SeqAt.canLay_of_shaped shO) (room_in_shaped shO room) ⟨.bl _, H, J, rfl, done⟩
end
section
variable {X : Cx}
/-- x in t, t a tuple of data of any depth -/
def rInDT (K : PySem.W.Frag) : R2 := fun x y H Q => ∃ d ds, Dp K H x d ∧ Dp K H y (.tuple ds) ∧ SeqAt.shaped d = true ∧ SeqAt.shaped (.tuple ds) = true ∧ Q (.bl (ds.any fun z => PyData.eqv z d)) H
theorem op_inDTK (K : PySem.W.Frag) (same : X.K = K) (room : X.A.units + 65 < cLine) : OpR X (compareOp .In) (rInDT K) := by
  subst same
  intro pins st σ H one many ov mv Q J ro rm asked
  have ⟨d, ds, dpO, dpM, shO, shM, done⟩ := asked
  have ⟨_, readO⟩ := Dp.reads J d one ov dpO ro
  have ⟨_, readM⟩ := Dp.reads J (.tuple ds) many mv dpM rm
  exact SeqAt.in_tuple_reads readM readO (SeqAt.canLay_of_shaped shM) (SeqAt.canLay_of_shaped shO) (room_in_shaped shO room) ⟨.bl _, H, J, rfl, done⟩
end
/-! ### for i, x in enumerate(t), t a tuple -/
section
open Sem (wp)
open AutoSeq1 (wpAny_loadPart')
theorem enum_of_tup (t : Addr) (its : Array Value) (n : Nat) (dct : Option Addr) (sl : Array (Option Value)) :
    Meets (Builtin.«enumerate.__new__» ⟨[.type "enumerate", .ref t], []⟩) (fun _ R st => st.heap.get? t = some { cls := .type "tuple", dict := dct, data := .seq its n, slots := sl } ∧
      R (.ok (.ret (.ref (st.heap.push { cls := .type "tuple_iterator", data := .fields #[.ref t, .int 0 0] }).objs.size)))
        { st with heap := (st.heap.push { cls := .type "tuple_iterator", data := .fields #[.ref t, .int 0 0] }).push { cls := .type "enumerate", data := .fields #[.none, .bool false, .ref st.heap.objs.size, rawInt 0, .none, .none] } }) :=
  .of_wp fun prog w A R st asked => by
    obtain ⟨hp, g, d, tk, os⟩ := st; obtain ⟨at_, asked⟩ := asked
    have sub := sub_enumerate
    have hT : Heap.IsTuple (Shared.heap ⟨hp, g, d, tk, os⟩) t its := ⟨_, at_, rfl, n, rfl⟩
    wp_walk using wpAny_loadPart' at_
    refine wpAny_stack_any fun stk => wpAny_pure ?_
    split
    · rename_i c _ _ _ _ _
      cases (c == Value.type "enumerate")
      · wp_walk using wpAny_loadPart' at_, wpAny_pyIter_tuple hT
        exact ⟨_, rfl, asked⟩
      · wp_walk using wpAny_loadPart' at_, wpAny_pyIter_tuple hT
        exact ⟨_, rfl, asked⟩
    · wp_walk using wpAny_loadPart' at_, wpAny_pyIter_tuple hT
      exact ⟨_, rfl, asked⟩
theorem call_enum_tup {prog : Program} {w : World} {A : Around} {E : Value → Shared → Prop} {st : Shared} {t : Addr} {its : Array Value} {Q : Value → Shared → Prop} (hT : st.heap.IsTuple t its)
    (now : ∀ h', IsEnum h' (st.heap.objs.size + 1) st.heap.objs.size 0 .none → h'.IsTupleIter st.heap.objs.size t 0 → h'.objs.size = st.heap.objs.size + 2 →
      (∀ b o, st.heap.get? b = some o → h'.get? b = some o) → Q (.ref (st.heap.objs.size + 1)) { st with heap := h' }) :
    wpAny (model prog w) A (call (.type "enumerate") [.ref t]) Q E st := by
  obtain ⟨⟨c, dct, dt, sl⟩, at_, hc, n, hd⟩ := hT
  replace hc : c = .type "tuple" := hc
  replace hd : dt = .seq its n := hd
  subst hc hd
  refine callType_new F.called_enumerate (by decide) (F.typeCall_enumerate_1 _) (F.newCall_enumerate_1 _) (fun obj => F.args_object_init_2 obj _) F.entry_enumerate_new (enum_of_tup t its n dct sl) ⟨at_, ?_⟩
  have size1 : (st.heap.push { cls := .type "tuple_iterator", data := .fields #[.ref t, .int 0 0] }).objs.size = st.heap.objs.size + 1 := Heap.size_push ..
  show _ ∧ _
  rw [size1]
  have made := Heap.get?_push_size (st.heap.push { cls := .type "tuple_iterator", data := .fields #[.ref t, .int 0 0] }) (o := { cls := .type "enumerate", data := .fields #[.none, .bool false, .ref st.heap.objs.size, rawInt 0, .none, .none] }) rfl
  rw [size1] at made
  exact ⟨⟨_, made, rfl⟩, now _ made ⟨_, Heap.get?_push_of_some _ (Heap.get?_push_size _ rfl), rfl, rfl⟩ (by rw [Heap.size_push, size1]) fun b o e => Heap.get?_push_of_some _ (Heap.get?_push_of_some _ e)⟩
end
/-- the tuple at a, each item in a new pair -/
def IteT (K : PySem.W.Frag) (a : Addr) (xs : List V) : It :=
  ⟨fun i H => SqT K H a xs ∧ i < xs.length, fun i H v H' => ∃ T x, v = .ref T ∧ H T = none ∧ H' = upd H T (.tup [.int (i : Nat), x]) ∧ xs[i]? = some x, fun i H => SqT K H a xs ∧ i = xs.length⟩
theorem turn_enumT {P : Program} {w : World} {K : PySem.W.Frag} {elts : List Expr} {kk : Nat} {tpos : Pos} (a e it : Addr) (xs : List V) :
    Turn P w K (.Tuple elts kk tpos) (IteT K a xs) [e, it] e (fun i h => (∃ old, IsEnum h e it ((i : Nat) : Int) old) ∧ h.IsTupleIter it a i ∧ e ≠ it ∧ a ≠ it ∧ a ≠ e) where
  mem := by simp
  obj := fun i h st b hb => by
    obtain ⟨⟨old, he⟩, ⟨o, ho, hc, hd⟩, _⟩ := st
    have either : b = e ∨ b = it := by simpa using hb
    rcases either with z | z
    · rw [z]; exact ⟨_, he, fun v q => nomatch q⟩
    · rw [z]; exact ⟨o, ho, fun v q => by rw [hd] at q; cases q⟩
  keep := fun i h h' st k => let ⟨⟨old, he⟩, hi, apart⟩ := st; ⟨⟨old, k e (by simp) _ he⟩, hi.at fun o q => k it (by simp) o q, apart⟩
  item := by
    intro X hP hw hK hc i pins st σ H E J hf stt going
    subst hP hw hK
    obtain ⟨⟨old, he⟩, hit, n1, n2, n3⟩ := stt
    obtain ⟨hq, hi⟩ := going
    obtain ⟨its, rv, tup, hz⟩ := J.tuple hq
    have len := rv.length
    have el : e < st.heap.objs.size := Heap.lt_size he
    have il : it < st.heap.objs.size := by obtain ⟨_, q, _⟩ := hit; exact Heap.lt_size q
    have D := Draws.tuple (prog := X.prog) (w := X.w) (A := X.A.in1) (J.ok.hd hc) it a n2 its.toArray
    refine wpAny_pyNext_enum_itemD D he ⟨hit, tup⟩ (by rw [List.size_toArray]; omega) n1 (by simp [n1, n3.symm]) fun u h' tk px out stt' new size kp => ?_
    refine ⟨_, rfl, wpAny_letOwnedTupleGo_enum (s := { st with heap := h', toks := tk + 1 }) out fun h'' he' sb => ?_⟩
    obtain ⟨x, hx⟩ : ∃ x, xs[i]? = some x := ⟨_, List.getElem?_eq_getElem hi⟩
    obtain ⟨u', hu', ru⟩ := rv.get hx
    have eu : u' = u := by
      have px : its.toArray[i]? = some u := px
      rw [List.getElem?_toArray, hu'] at px
      exact Option.some.inj px
    subst eu
    have there : h''.get? st.heap.objs.size = some { cls := .type "tuple", data := .seq #[.int i tk, u'] } := (sb.2 _ (Nat.ne_of_gt el)).trans new
    have ok2 : ObjOk X.prog X.w (upd H st.heap.objs.size (.tup [.int (i : Nat), x])) h'' st.heap.objs.size (.tup [.int (i : Nat), x]) :=
      ⟨by show 2 ≤ sizeLine; decide, [.int i tk, u'], .cons ⟨_, rfl⟩ (.cons ru .nil), ⟨_, there, rfl, _, rfl⟩⟩
    have J1 : Inv X pins σ (upd H st.heap.objs.size (.tup [.int (i : Nat), x])) { st with heap := h'', toks := tk + 1 } :=
      J.turnedNew (ch := [e, it]) (fun b ob hb q => (sb.2 b (fun z => hb (by simp [z]))).trans (kp b ob (fun z => hb (by simp [z])) (fun z => hb (by simp [z])) q)) hf (Nat.le_refl _) ok2
    refine ⟨.ref st.heap.objs.size, _, J1, rfl, ⟨_, x, rfl, J.hok.fresh (Nat.le_refl _), rfl, hx⟩, ⟨⟨u', ?_⟩, stt'.1.at fun o q => (sb.2 it (Ne.symm n1)).trans q, n1, n2, n3⟩, fun b hb => ?_⟩
    · rw [show ((i + 1 : Nat) : Int) = (i : Int) + 1 by omega]
      exact he'
    · have bl : b < st.heap.objs.size := by
        have either : b = e ∨ b = it := by simpa using hb
        rcases either with z | z
        · rw [z]; exact el
        · rw [z]; exact il
      rw [upd_ne (Nat.ne_of_lt bl)]
      exact (hf b hb).1
  done := by
    intro X hP hw hK hc i pins st σ H E J hf stt over
    subst hP hw hK
    obtain ⟨⟨old, he⟩, hit, n1, n2, n3⟩ := stt
    obtain ⟨hq, hi⟩ := over
    obtain ⟨its, rv, tup, hz⟩ := J.tuple hq
    obtain ⟨f0, f1, f2, f3, f4, f5⟩ := hf it (by simp)
    have len := rv.length
    have D := Draws.tuple (prog := X.prog) (w := X.w) (A := X.A.in1) (J.ok.hd hc) it a n2 its.toArray
    have ei : its.toArray.size = i := by rw [List.size_toArray]; omega
    exact wpAny_pyNext_enum_endD D he ⟨by rw [ei]; exact hit, tup⟩ fun h' eb => ⟨rfl, J.turned (t' := st.toks) (fun b o hb q => eb b o hb q) f0 f1 f3 f4 f5⟩
  self := fun A i st Q E stt now => let ⟨⟨_, he⟩, _⟩ := stt; wpAny_pyIter_enum he now
def iEnumT (K : PySem.W.Frag) (ta : TA) : TI := fun σ H R => ta σ H fun vs H1 => ∃ a xs, vs = [.ref a] ∧ SqT K H1 a xs ∧ R (IteT K a xs) H1
theorem pi_enumT (K : PySem.W.Frag) {X : Cx} (hk : X.K = K) {e : Expr} {ta : TA} {p pos tpos : Pos} {elts : List Expr} {kk : Nat} (hg : Gl X "enumerate") (hm : X.mg "enumerate" = none) (ha : PA X [e] ta) (hs : starEach [e] X.env = [(false, eval e X.env)] := by rfl) :
    PI X (.Tuple elts kk tpos) (.Call (.Name "enumerate" p) [e] [] pos) (iEnumT K ta) := by
  subst hk
  refine ⟨fun pins st σ H R J asked => ?_⟩
  refine Call_ (ld_blt J hg hm boot_enumerate (PyProof.Rows.callWith_type1 (thn (ha.run pos pins st σ H _ J asked) fun us st1 ⟨vs, H1, J1, rel, now⟩ => ?_) hs rfl))
  obtain ⟨a, xs, ex, hq, now⟩ := now
  subst ex
  obtain ⟨u, rfl, ru⟩ := vals1 rel
  obtain rfl : u = Value.ref a := ru
  obtain ⟨its, rv, tup, hz⟩ := J1.tuple hq
  have al : a < st1.heap.objs.size := by obtain ⟨o, ho, _⟩ := tup; exact Heap.lt_size ho
  refine call_enum_tup tup fun h' he hit size kp => wpAny_pyIter_enum he ?_
  have J2 : Inv X pins σ H1 { st1 with heap := h' } := J1.kept (t' := st1.toks) kp
  refine ⟨st1.heap.objs.size + 1, [st1.heap.objs.size + 1, st1.heap.objs.size], _, _, H1, rfl, J2, turn_enumT a (st1.heap.objs.size + 1) st1.heap.objs.size xs, ⟨⟨.none, he⟩, hit, Nat.succ_ne_self _, Nat.ne_of_lt al, Nat.ne_of_lt (Nat.lt_succ_of_lt al)⟩, fun b hb => ?_, now⟩
  have either : b = st1.heap.objs.size + 1 ∨ b = st1.heap.objs.size := by simpa using hb
  have low : st1.heap.objs.size ≤ b := by
    rcases either with z | z
    · rw [z]; exact Nat.le_add_right _ _
    · rw [z]; exact Nat.le_refl _
  exact J1.fpOk low (J1.hok.fresh low)
theorem pi_enumK (K : PySem.W.Frag) (h : X.K = K) {e : Expr} {ta : TA} {p pos tpos : Pos} {elts : List Expr} {kk : Nat} (hg : Gl X "enumerate") (hm : X.mg "enumerate" = none) (ha : PA X [e] ta) (hs : starEach [e] X.env = [(false, eval e X.env)] := by rfl) :
    PI X (.Tuple elts kk tpos) (.Call (.Name "enumerate" p) [e] [] pos) (iEnum K ta) := by subst h; exact pi_enum hg hm ha hs
/-! ### dict(zip(xs, ys)), xs a list, ys a tuple -/
section
open Sem (wp)
variable {prog : Program} {w : World} {A : Around} {E : Value → Shared → Prop} {st : Shared} {z TI TO T i1 i2 : Addr} {fp1 fp2 : List Addr} {n1 n2 i : Nat} {P1 P2 : Nat → Value → Prop} {S1 S2 : Nat → Heap → Prop} {f : Bool} {oT : Obj}
theorem out_next (S : ZipSep2 z TI TO i1 i2 fp1 fp2) (D1 : Draws prog w A i1 fp1 n1 P1 S1) (D2 : Draws prog w A i2 fp2 n2 P2 S2) {Q : Value → Shared → Prop}
    (out : IsZipHeld st.heap z TI TO T f) (hT : st.heap.get? T = some oT) (both : IsTupOf2 st.heap TI (.ref i1) (.ref i2)) (at1 : S1 i st.heap) (at2 : S2 i st.heap) (l1 : i < n1) (l2 : i < n2)
    (now : ∀ x y h' tk, P1 i x → P2 i y → IsZipHeld h' z TI TO T true → S1 (i + 1) h' → S2 (i + 1) h' → IsTupOf2 h' st.heap.objs.size x y → (∀ c o, c ≠ z → c ≠ i1 → c ≠ i2 → st.heap.get? c = some o → h'.get? c = some o) → Q (.ref st.heap.objs.size) { st with heap := h', toks := tk }) :
    wpAny (model prog w) A (Builtin.«zip.__next__» ⟨[.ref z], []⟩) (fun fin s' => ∃ v, fin = .done (.ret v) ∧ Q v s') E st := by
  obtain ⟨hp, g, d, tk0, os⟩ := st
  show wpAny _ _ (field (.ref z) 2 >>= _) _ _ _; refine wpAny_bind (wpAny_field out rfl (x := .bool false) rfl ?_)
  show wpAny _ _ (field (.ref z) 3 >>= _) _ _ _; refine wpAny_bind (wpAny_field out rfl (x := .ref TI) rfl ?_)
  refine wpAny_bind (wpAny_seqItems both rfl ?_); show wpAny _ _ (Builtin.SmallTypes.ownedTupleIsFree (.ref z) >>= _) _ _ _
  refine wpAny_bind (wpAny_tupleHeld_zip out hT fun g1 out1 b1 => ?_)
  replace b1 : Heap.SameBut z hp g1 := b1
  simp only [Bool.false_eq_true, if_false]; refine wpAny_bind ?_; rw [← Array.forIn_toList]; simp only [List.forIn_cons, List.forIn_nil]
  refine wpAny_bind (wpAny_bind (wpAny_holding ?_)); show wpAny _ _ (Builtin.SmallTypes.nextOf (.ref i1) >>= _) _ _ ⟨g1, g, d, tk0, os⟩
  refine wpAny_bind (D1.item i _ _ _ l1 (D1.over at1 b1 S.zf1) fun x g2 tk1 px n1' b2 => wpAny_pure ?_)
  replace b2 : Heap.SameBut i1 g1 g2 := b2
  refine wpAny_pure ?_; refine wpAny_bind (wpAny_bind (wpAny_holding ?_)); show wpAny _ _ (Builtin.SmallTypes.nextOf (.ref i2) >>= _) _ _ ⟨g2, g, d, tk1, os⟩
  refine wpAny_bind (D2.item i _ _ _ l2 (D2.over (D2.over at2 b1 S.zf2) b2 S.sep1_2) fun y g3 tk2 py n2' b3 => wpAny_pure ?_)
  replace b3 : Heap.SameBut i2 g2 g3 := b3
  refine wpAny_pure (wpAny_pure ?_); show wpAny _ _ (newTuple [x, y] >>= _) _ _ ⟨g3, g, d, tk2, os⟩
  refine wpAny_bind (wpAny_newTuple ?_); refine wpAny_pure ⟨_, rfl, ?_⟩
  have size : g3.objs.size = hp.objs.size := by rw [b3.1, b2.1, b1.1]
  have out3 : IsZipHeld g3 z TI TO T true := b3.extBut _ _ S.zi2 (b2.extBut _ _ S.zi1 out1)
  have new : IsTupOf2 (g3.push { cls := .type "tuple", data := .seq #[x, y] }) g3.objs.size x y := Heap.get?_push_size _ rfl
  show Q (.ref g3.objs.size) _
  rw [size] at new ⊢
  exact now x y _ tk2 px py (Heap.get?_push_of_some _ out3) (D1.frame _ _ _ (D1.over n1' b3 S.sep2_1) fun _ _ _ q => Heap.get?_push_of_some _ q) (D2.frame _ _ _ n2' fun _ _ _ q => Heap.get?_push_of_some _ q) new
    fun c o c1 c2 c3 q => Heap.get?_push_of_some _ (b3.extBut _ _ c3 (b2.extBut _ _ c2 (b1.extBut _ _ c1 q)))
theorem out_end (S : ZipSep2 z TI TO i1 i2 fp1 fp2) (D1 : Draws prog w A i1 fp1 n1 P1 S1) (D2 : Draws prog w A i2 fp2 n2 P2 S2) {Q : Fin → Shared → Prop}
    (out : IsZipHeld st.heap z TI TO T f) (hT : st.heap.get? T = some oT) (both : IsTupOf2 st.heap TI (.ref i1) (.ref i2)) (at1 : S1 i st.heap) (at2 : S2 i st.heap) (l1 : i ≤ n1) (l2 : i ≤ n2) (last : i = n1 ∨ i = n2)
    (now : ∀ h' tk e, (∀ c o, c ≠ z → c ≠ i1 → c ≠ i2 → st.heap.get? c = some o → h'.get? c = some o) → (∃ o, h'.get? e = some o ∧ o.cls = .type "StopIteration") → E (.ref e) { st with heap := h', toks := tk }) :
    wpAny (model prog w) A (Builtin.«zip.__next__» ⟨[.ref z], []⟩) Q E st := by
  obtain ⟨hp, g, d, tk0, os⟩ := st
  show wpAny _ _ (field (.ref z) 2 >>= _) _ _ _; refine wpAny_bind (wpAny_field out rfl (x := .bool false) rfl ?_)
  show wpAny _ _ (field (.ref z) 3 >>= _) _ _ _; refine wpAny_bind (wpAny_field out rfl (x := .ref TI) rfl ?_)
  refine wpAny_bind (wpAny_seqItems both rfl ?_); show wpAny _ _ (Builtin.SmallTypes.ownedTupleIsFree (.ref z) >>= _) _ _ _
  refine wpAny_bind (wpAny_tupleHeld_zip out hT fun g1 out1 b1 => ?_)
  replace b1 : Heap.SameBut z hp g1 := b1
  simp only [Bool.false_eq_true, if_false]; refine wpAny_bind ?_; rw [← Array.forIn_toList]; simp only [List.forIn_cons, List.forIn_nil]
  refine wpAny_bind (wpAny_bind (wpAny_holding ?_)); show wpAny _ _ (Builtin.SmallTypes.nextOf (.ref i1) >>= _) _ _ ⟨g1, g, d, tk0, os⟩
  by_cases more : i < n1
  · refine wpAny_bind (D1.item i _ _ _ more (D1.over at1 b1 S.zf1) fun x g2 tk1 px n1' b2 => wpAny_pure ?_)
    replace b2 : Heap.SameBut i1 g1 g2 := b2
    refine wpAny_pure ?_; refine wpAny_bind (wpAny_bind (wpAny_holding ?_)); show wpAny _ _ (Builtin.SmallTypes.nextOf (.ref i2) >>= _) _ _ ⟨g2, g, d, tk1, os⟩
    have e2 : i = n2 := by omega
    subst e2
    refine wpAny_bind (D2.done _ _ _ (D2.over (D2.over at2 b1 S.zf2) b2 S.sep1_2) fun g3 e b3 he => ?_)
    exact now g3 tk1 e (fun c o c1 c2 c3 q => b3 _ _ c3 (b2.extBut _ _ c2 (b1.extBut _ _ c1 q))) he
  · have e1 : i = n1 := by omega
    subst e1
    refine wpAny_bind (D1.done _ _ _ (D1.over at1 b1 S.zf1) fun g3 e b3 he => ?_)
    exact now g3 tk0 e (fun c o c1 c2 c3 q => b3 _ _ c2 (b1.extBut _ _ c1 q)) he
theorem out_pyNext (S : ZipSep2 z TI TO i1 i2 fp1 fp2) (D1 : Draws prog w A.in1 i1 fp1 n1 P1 S1) (D2 : Draws prog w A.in1 i2 fp2 n2 P2 S2) {Q : Option Value → Shared → Prop}
    (out : IsZipHeld st.heap z TI TO T f) (hT : st.heap.get? T = some oT) (both : IsTupOf2 st.heap TI (.ref i1) (.ref i2)) (at1 : S1 i st.heap) (at2 : S2 i st.heap) (l1 : i < n1) (l2 : i < n2)
    (now : ∀ x y h' tk, P1 i x → P2 i y → IsZipHeld h' z TI TO T true → S1 (i + 1) h' → S2 (i + 1) h' → IsTupOf2 h' st.heap.objs.size x y → (∀ c o, c ≠ z → c ≠ i1 → c ≠ i2 → st.heap.get? c = some o → h'.get? c = some o) → Q (some (.ref st.heap.objs.size)) { st with heap := h', toks := tk }) :
    wpAny (model prog w) A (pyNext (.ref z)) Q E st := by
  have ty : st.TypeIs (.ref z) "zip" := ⟨_, out, rfl⟩
  unfold pyNext
  refine wpAny_bind (wpAny_attempt (wpAny_callSpecial?_slot (name := Str.ofString "__next__") ty F.slot_zip_next (wpAny_call_entry F.slot_zip_next ty F.entry_zip_next (out_next S D1 D2 out hT both at1 at2 l1 l2 ?_) (F.args_zip_next_1 _))))
  exact fun x y h' tk a b c d e g k => wpAny_pure (now x y h' tk a b c d e g k)
theorem out_pyNext_end (S : ZipSep2 z TI TO i1 i2 fp1 fp2) (D1 : Draws prog w A.in1 i1 fp1 n1 P1 S1) (D2 : Draws prog w A.in1 i2 fp2 n2 P2 S2) {Q : Option Value → Shared → Prop}
    (out : IsZipHeld st.heap z TI TO T f) (hT : st.heap.get? T = some oT) (both : IsTupOf2 st.heap TI (.ref i1) (.ref i2)) (at1 : S1 i st.heap) (at2 : S2 i st.heap) (l1 : i ≤ n1) (l2 : i ≤ n2) (last : i = n1 ∨ i = n2)
    (now : ∀ h' tk, (∀ c o, c ≠ z → c ≠ i1 → c ≠ i2 → st.heap.get? c = some o → h'.get? c = some o) → Q none { st with heap := h', toks := tk }) :
    wpAny (model prog w) A (pyNext (.ref z)) Q E st := by
  have ty : st.TypeIs (.ref z) "zip" := ⟨_, out, rfl⟩
  unfold pyNext
  refine wpAny_bind (wpAny_attempt (wpAny_callSpecial?_slot (name := Str.ofString "__next__") ty F.slot_zip_next (wpAny_call_entry F.slot_zip_next ty F.entry_zip_next (out_end S D1 D2 out hT both at1 at2 l1 l2 last ?_) (F.args_zip_next_1 _))))
  rintro h' tk e kp ⟨o, ho, hc⟩
  exact wpAny_bind (wpAny_isInstance (T := "StopIteration") (b := true) ⟨o, ho, hc⟩ isSubtype_stop (wpAny_pure (now _ _ kp)))
/-- the zip of the list l and the tuple t, begun -/
def ZipLT (h : Heap) (z TI TO i1 i2 l t : Addr) (xs ys : Array Value) (n : Nat) : Prop := IsTupOf2 h TI (.ref i1) (.ref i2) ∧ (h.IsListIter i1 l n ∧ h.IsList l xs) ∧ (h.IsTupleIter i2 t n ∧ h.IsTuple t ys)
theorem ZipLT.keep {h h' : Heap} {z TI TO i1 i2 l t : Addr} {xs ys : Array Value} {n : Nat} (q : ZipLT h z TI TO i1 i2 l t xs ys n) (k : ∀ b, b = TI ∨ b = i1 ∨ b = i2 ∨ b = l ∨ b = t → ∀ o, h.get? b = some o → h'.get? b = some o) : ZipLT h' z TI TO i1 i2 l t xs ys n :=
  ⟨k _ (.inl rfl) _ q.1, ⟨q.2.1.1.at fun o e => k _ (.inr (.inl rfl)) o e, q.2.1.2.at fun o e => k _ (.inr (.inr (.inr (.inl rfl)))) o e⟩, ⟨q.2.2.1.at fun o e => k _ (.inr (.inr (.inl rfl))) o e, q.2.2.2.at fun o e => k _ (.inr (.inr (.inr (.inr rfl)))) o e⟩⟩
theorem pairs_LT (z TI TO i1 i2 l t : Addr) (S : ZipSep2 z TI TO i1 i2 [i1, l] [i2, t]) (hl : l ≠ i1) (ht : t ≠ i2) (xs ys : Array Value) :
    PairArg prog w "zip" z [z, TI, TO, i1, i2, l, t] [z, TO, i1, i2] (min xs.size ys.size) (fun i k v => xs[i]? = some k ∧ ys[i]? = some v)
      (fun h => IsZip h z TI TO .none ∧ (∃ a b, IsTupOf2 h TO a b) ∧ ZipLT h z TI TO i1 i2 l t xs ys 0) where
  type := fun s ok => ⟨_, ok.1, rfl⟩
  notDict := by decide
  keep := fun h h' ok k => by
    obtain ⟨a1, ⟨a, b, a2⟩, a3⟩ := ok
    exact ⟨k _ _ a1, ⟨a, b, k _ _ a2⟩, a3.keep fun b _ o e => k b o e⟩
  there := fun h ok b hb => by
    obtain ⟨a1, ⟨a, c, a2⟩, a3, ⟨⟨o1, e1, _⟩, ⟨o2, e2, _⟩⟩, ⟨⟨o3, e3, _⟩, ⟨o4, e4, _⟩⟩⟩ := ok
    have either : b = z ∨ b = TI ∨ b = TO ∨ b = i1 ∨ b = i2 ∨ b = l ∨ b = t := by simpa using hb
    rcases either with q | q | q | q | q | q | q <;> subst q
    · exact ⟨_, a1⟩
    · exact ⟨_, a3⟩
    · exact ⟨_, a2⟩
    · exact ⟨_, e1⟩
    · exact ⟨_, e3⟩
    · exact ⟨_, e2⟩
    · exact ⟨_, e4⟩
  sub := fun b hb => by
    have either : b = z ∨ b = TO ∨ b = i1 ∨ b = i2 := by simpa using hb
    rcases either with q | q | q | q <;> subst q <;> simp
  noKeys := fun A s Q E hA ok now => getAttrOr_miss_zip ok.1 rfl rfl rfl zip_no_keys (by decide +kernel) hA now
  iter := fun A s d Q E hA ok dlt dfar now => by
    obtain ⟨a1, ⟨a, b, a2⟩, a3⟩ := ok
    have far : d ≠ z ∧ d ≠ TI ∧ d ≠ TO ∧ d ≠ i1 ∧ d ≠ i2 ∧ d ≠ l ∧ d ≠ t := by simpa using dfar
    obtain ⟨d1, d2, d3, d4, d5, d6, d7⟩ := far
    have D1 := Draws.list (prog := prog) (w := w) (A := A.in1) hA i1 l hl xs
    have D2 := Draws.tuple (prog := prog) (w := w) (A := A.in1) hA i2 t ht ys
    refine wpAny_pyIter_zip a1 (now z [z, TO, i1, i2] (fun n h => ZipLT h z TI TO i1 i2 l t xs ys n ∧ ((IsZip h z TI TO .none ∧ ∃ a b, IsTupOf2 h TO a b) ∨ ∃ T f oT, IsZipHeld h z TI TO T f ∧ h.get? T = some oT ∧ T ≠ z ∧ T ≠ i1 ∧ T ≠ i2 ∧ T ≠ d)) s.heap s.toks ?_ ⟨a3, .inl ⟨a1, a, b, a2⟩⟩ (fun _ _ e => e) fun b hb => .inl hb)
    refine ⟨fun hm => ?_, fun n h h' q k => ?_, fun n s1 Q1 E1 hn q dl now1 => ?_, fun s1 Q1 E1 q now1 => ?_⟩
    · have either : d = z ∨ d = TO ∨ d = i1 ∨ d = i2 := by simpa using hm
      rcases either with q | q | q | q
      · exact d1 q
      · exact d3 q
      · exact d4 q
      · exact d5 q
    · refine ⟨q.1.keep fun b hb o e => k b o (fun y => ?_) e, ?_⟩
      · rcases hb with q | q | q | q | q <;> rw [q] at y
        · exact d2 y.symm
        · exact d4 y.symm
        · exact d5 y.symm
        · exact d6 y.symm
        · exact d7 y.symm
      · rcases q.2 with ⟨q1, a, b, q2⟩ | ⟨T, f, oT, q1, q2, r1, r2, r3, r4⟩
        · exact .inl ⟨k _ _ (Ne.symm d1) q1, a, b, k _ _ (Ne.symm d3) q2⟩
        · exact .inr ⟨T, f, oT, k _ _ (Ne.symm d1) q1, k _ _ r4 q2, r1, r2, r3, r4⟩
    · obtain ⟨⟨both, at1, at2⟩, q⟩ := q
      have m1 : n < xs.size := Nat.lt_of_lt_of_le hn (Nat.min_le_left ..)
      have m2 : n < ys.size := Nat.lt_of_lt_of_le hn (Nat.min_le_right ..)
      have lt : ∀ {c o}, s1.heap.get? c = some o → s1.heap.objs.size ≠ c := fun e => Nat.ne_of_gt (Heap.lt_size e)
      have j1 : s1.heap.objs.size ≠ i1 := let ⟨_, e⟩ := D1.live _ _ at1; lt e
      have j2 : s1.heap.objs.size ≠ i2 := let ⟨_, e⟩ := D2.live _ _ at2; lt e
      rcases q with ⟨q1, a, b, q2⟩ | ⟨T, f, oT, q1, q2, r1, r2, r3, r4⟩
      · refine wpAny_pyNext_zipD2_item S D1 D2 q1 both q2 at1 at2 m1 m2 fun x y h' tk px py b1 b2 b3 b4 b5 b6 k => ?_
        exact now1 s1.heap.objs.size x y h' tk ⟨px, py⟩ (.inl ⟨_, b5, rfl, _, rfl⟩) ⟨⟨k _ _ S.TIz S.TITO S.TIi1 S.TIi2 both, b3, b4⟩, .inr ⟨_, false, _, b1, b5, lt q1, j1, j2, Nat.ne_of_gt dl⟩⟩
          fun c o hc e => k c o (fun y => hc (by simp [y])) (fun y => hc (by simp [y])) (fun y => hc (by simp [y])) (fun y => hc (by simp [y])) e
      · refine out_pyNext S D1 D2 q1 q2 both at1 at2 m1 m2 fun x y h' tk px py b1 b3 b4 b5 k => ?_
        exact now1 s1.heap.objs.size x y h' tk ⟨px, py⟩ (.inl ⟨_, b5, rfl, _, rfl⟩) ⟨⟨k _ _ S.TIz S.TIi1 S.TIi2 both, b3, b4⟩, .inr ⟨T, true, oT, b1, k _ _ r1 r2 r3 q2, r1, r2, r3, r4⟩⟩
          fun c o hc e => k c o (fun y => hc (by simp [y])) (fun y => hc (by simp [y])) (fun y => hc (by simp [y])) e
    · obtain ⟨⟨both, at1, at2⟩, q⟩ := q
      rcases q with ⟨q1, a, b, q2⟩ | ⟨T, f, oT, q1, q2, r1, r2, r3, r4⟩
      · exact wpAny_pyNext_zipD2_end S D1 D2 q1 both q2 at1 at2 (Nat.min_le_left ..) (Nat.min_le_right ..) (by omega) fun h' tk k => now1 h' tk fun c o hc e => k c o (fun y => hc (by simp [y])) (fun y => hc (by simp [y])) (fun y => hc (by simp [y])) (fun y => hc (by simp [y])) e
      · exact out_pyNext_end S D1 D2 q1 q2 both at1 at2 (Nat.min_le_left ..) (Nat.min_le_right ..) (by omega) fun h' tk k => now1 h' tk fun c o hc e => k c o (fun y => hc (by simp [y])) (fun y => hc (by simp [y])) (fun y => hc (by simp [y])) e
end
/-- dict(zip(e1, e2)): keys from a list, values from a tuple -/
def eDictZip (K : PySem.W.Frag) (ta : TA) : TE := fun σ H Q => ta σ H fun vs H1 => ∃ (a b : Addr) (ks : List Key) (xs : List V), vs = [.ref a, .ref b] ∧ SqL K H1 a (ks.map kV) ∧ SqT K H1 b xs ∧ ∀ p, H1 p = none → Q (.ref p) (upd H1 p (.dK (mergeK [] (ks.zip xs))))
theorem pe_dictZip (K : PySem.W.Frag) {X : Cx} (hk : X.K = K) (hcalm : X.calm = true) {e e2 : Expr} {ta : TA} {p p2 pos pos2 : Pos} (hd : Gl X "dict") (md : X.mg "dict" = none) (hg : Gl X "zip") (hm : X.mg "zip" = none) (ha : PA X [e, e2] ta)
    (hs : starEach [e, e2] X.env = (false, eval e X.env) :: starEach [e2] X.env := by rfl) (hpl : (backTo pos2 (starEach [e2] X.env)).any (·.1) = false := by rfl)
    (hs1 : starEach [.Call (.Name "zip" p2) [e, e2] [] pos2] X.env = [(false, eval (.Call (.Name "zip" p2) [e, e2] [] pos2) X.env)] := by rfl) :
    PE X (.Call (.Name "dict" p) [.Call (.Name "zip" p2) [e, e2] [] pos2] [] pos) (eDictZip K ta) := by
  subst hk
  refine ⟨fun pins st σ H Q J asked => ?_⟩
  refine Call_ (ld_blt J hd md boot_dict (PyProof.Rows.callWith_type1 (args_cons (Call_ (ld_blt J hg hm boot_zip (PyProof.Rows.callWith_type1 (thn (ha.run pos2 pins st σ H _ J asked) fun us st1 ⟨vs, H1, J1, rel, now⟩ => ?_) hs hpl))) hs1) hs1 rfl))
  obtain ⟨a, b, ks, xs, ex, hq1, hq2, now⟩ := now
  subst ex
  cases rel with
  | cons r1 rel =>
  cases rel with
  | cons r2 rel =>
  cases rel
  cases r1
  cases r2
  obtain ⟨its, rv, p1, z1⟩ := J1.list hq1
  obtain ⟨its2, rv2, p2, z2⟩ := J1.tuple hq2
  have al : a < st1.heap.objs.size := p1.lt
  have bl : b < st1.heap.objs.size := by obtain ⟨o, ho, _⟩ := p2; exact Heap.lt_size ho
  have B1 := begins_list a its.toArray
  have B2 := begins_tuple b its2.toArray
  refine zip_begins2 B1 B2 p1.isList p2 fun h' c1 c2 c3 c4 c5 size kp => args_nil ?_
  have S := zip_sep2 (N := st1.heap.objs.size) (fp1 := [a]) (fp2 := [b]) (by simpa using al) (by simpa using bl)
  have P := pairs_LT (prog := X.prog) (w := X.w) _ _ _ _ _ a b S (Nat.ne_of_lt al) (Nat.ne_of_lt (Nat.lt_succ_of_lt bl)) its.toArray its2.toArray
  have n1 := rv.length
  have n2 := rv2.length
  rw [List.length_map] at n1 z1
  have all : ∀ (ks : List Key) (xs : List V) (us vs : List Value), Vals (ks.map kV) us → Vals xs vs → ∃ rs : List (Key × Value), KV (ks.zip xs) rs ∧ rs.length = min us.length vs.length ∧ ∀ (i : Nat) (k v : Value), us[i]? = some k → vs[i]? = some v → ∃ q, rs[i]? = some (q, v) ∧ (mixKind X.prog X.w).is q k = true := by
    intro ks
    induction ks with
    | nil => intro xs us vs r1 r2; cases r1; exact ⟨[], .nil, by simp, fun i k v e => nomatch e⟩
    | cons k ks ih =>
      intro xs us vs r1 r2
      cases r1 with
      | cons h1 t1 =>
      cases r2 with
      | nil => exact ⟨[], .nil, by simp, fun i k v _ e => nomatch e⟩
      | cons h2 t2 =>
        obtain ⟨rs, e1, e2, e3⟩ := ih _ _ _ t1 t2
        refine ⟨(k, _) :: rs, .cons ⟨rfl, h2⟩ e1, by simp only [List.length_cons, e2]; omega, fun i q v e f => ?_⟩
        cases i with
        | zero => cases e; cases f; exact ⟨k, rfl, kV_is h1⟩
        | succ i => exact e3 i q v e f
  obtain ⟨rs, e1, e2, e3⟩ := all ks xs its its2 rv rv2
  have PH : PairsHave (mixKind X.prog X.w) (min its.toArray.size its2.toArray.size) (fun i k v => its.toArray[i]? = some k ∧ its2.toArray[i]? = some v) rs :=
    ⟨by simpa using e2, fun i k v q => e3 i k v (by simpa using q.1) (by simpa using q.2)⟩
  refine _root_.PySem.call_dict_pairs (s := { st1 with heap := h' }) P (J1.ok.hd hcalm) ⟨c1, ⟨_, _, c3⟩, c2, ⟨⟨_, c4, rfl, rfl⟩, B1.keeps _ _ p1.isList kp⟩, ⟨⟨_, c5, rfl, rfl⟩, B2.keeps _ _ p2 kp⟩⟩ PH (by have := n1; have := n2; simp only [List.size_toArray]; omega) fun h2 tk isd kp2 => ?_
  replace isd : h2.DictOf (mixKind X.prog X.w) h'.objs.size (merged [] rs) := isd
  have low : st1.heap.objs.size ≤ h'.objs.size := by rw [size]; exact Nat.le_add_right _ _
  have big : sysModules < h'.objs.size := Nat.lt_of_lt_of_le J1.big low
  have ne : (h'.objs.size == sysModules) = false := beq_eq_false_iff_ne.mpr (Nat.ne_of_gt big)
  have few : (mergeK [] (ks.zip xs)).length ≤ sizeLine := by
    refine Nat.le_trans (length_mergeK _ []) ?_
    rw [List.length_nil, Nat.zero_add, List.length_zip]
    omega
  refine ⟨.ref h'.objs.size, upd H1 h'.objs.size (.dK (mergeK [] (ks.zip xs))), J1.laid (t' := tk) (fun c o q => kp2 c o (fun hm => ?_) (kp c o q)) low (show ObjOk X.prog X.w _ _ _ (.dK (mergeK [] (ks.zip xs))) from ⟨few, ne, merged [] rs, KV.merge e1 .nil, isd⟩), rfl, now _ (J1.hok.fresh low)⟩
  have cl := Heap.lt_size q
  have either : c = st1.heap.objs.size + 4 ∨ c = st1.heap.objs.size + 3 ∨ c = st1.heap.objs.size ∨ c = st1.heap.objs.size + 1 := by simpa using hm
  rcases either with y | y | y | y <;> rw [y] at cl
  · exact absurd cl (Nat.not_lt.mpr (Nat.le_add_right _ _))
  · exact absurd cl (Nat.not_lt.mpr (Nat.le_add_right _ _))
  · exact absurd cl (Nat.lt_irrefl _)
  · exact absurd cl (Nat.not_lt.mpr (Nat.le_add_right _ _))
theorem one_at {K : PySem.W.Frag} {a : Addr} {od : Option Addr} {z : Str} {t1 : Tok} {n : Nat} {sl : Array (Option Value)} (l : K.lookup a = some ⟨.type "tuple", od, .seq #[.str z t1] n, sl⟩) (H : Hp) : SqT K H a [.str z] :=
  .inr ⟨_, _, _, l, rfl, rfl, (show 1 ≤ sizeLine by decide), .cons ⟨_, rfl⟩ .nil⟩
/-! ### dicts whose keys are tuples of tuples -/
mutual
/-- a value that is such a key -/
inductive NkV (H : Hp) : NestedKey → V → Prop
  | num (i : Int) : NkV H (.num i) (.int i)
  | text (x : Str) : NkV H (.text x) (.str x)
  | tup {a : Addr} {xs : List V} {ks : List NestedKey} : H a = some (.tup xs) → NkL H ks xs → NkV H (.tup ks) (.ref a)
inductive NkL (H : Hp) : List NestedKey → List V → Prop
  | nil : NkL H [] []
  | cons {k : NestedKey} {x : V} {ks : List NestedKey} {xs : List V} : NkV H k x → NkL H ks xs → NkL H (k :: ks) (x :: xs)
end
section
variable {P : Program} {w : World} {H H' : Hp} {h : Heap}
mutual
theorem NkV.keep (kp : TK H H') : ∀ {k : NestedKey} {x : V}, NkV H k x → NkV H' k x
  | _, _, .num i => .num i
  | _, _, .text x => .text x
  | _, _, .tup e l => .tup (kp _ _ e) (NkL.keep kp l)
theorem NkL.keep (kp : TK H H') : ∀ {ks : List NestedKey} {xs : List V}, NkL H ks xs → NkL H' ks xs
  | _, _, .nil => .nil
  | _, _, .cons a b => .cons (NkV.keep kp a) (NkL.keep kp b)
end
mutual
theorem NkV.is (ok : HOk P w H h) : ∀ {k : NestedKey} {x : V} {u : Value}, NkV H k x → RelV x u → NestedIs h k u
  | _, _, u, .num i, r => by
    obtain ⟨t, rfl⟩ := (show ∃ t, u = Value.int i t from r)
    exact .int i t
  | _, _, u, .text x, r => by
    obtain ⟨t, rfl⟩ := (show ∃ t, u = Value.str x t from r)
    exact .text x t
  | _, _, u, @NkV.tup _ a xs ks e l, r => by
    obtain rfl : u = Value.ref a := r
    obtain ⟨_, its, rv, o, e1, e2, n, e3⟩ := (show ObjOk P w H h a (.tup xs) from ok a _ e)
    exact .tup e1 e2 e3 (by simpa using NkL.is ok l rv)
theorem NkL.is (ok : HOk P w H h) : ∀ {ks : List NestedKey} {xs : List V} {us : List Value}, NkL H ks xs → Vals xs us → NestedAll h ks us
  | _, _, _, .nil, .nil => .nil
  | _, _, _, .cons a b, .cons r t => .cons (NkV.is ok a r) (NkL.is ok b t)
end
/-- what stands in the heap for a dict with the entries kas: key, the key's address, number -/
def nkRow (k : NestedKey × Addr × Int) (x : NestedKey × Addr × Value) : Prop := x.1 = k.1 ∧ x.2.1 = k.2.1 ∧ ∃ t, x.2.2 = .int k.2.2 t
def nkObj (P : Program) (w : World) (d : Addr) (kas : List (NestedKey × Addr × Int)) (h : Heap) : Prop :=
  (d == sysModules) = false ∧ kas.length ≤ sizeLine ∧ ∃ xs : List (NestedKey × Addr × Value), All2 nkRow kas xs ∧ ∃ o es ep, h.get? d = some o ∧ o.ExactDict ∧ o.data = .dict es ep ∧ es.toList = xs.map (entryOfKey (nestedKind P w)) ∧ (xs.map (·.1)).Nodup
def nkO (P : Program) (w : World) (d : Addr) (kas : List (NestedKey × Addr × Int)) : HO := .ext (nkObj P w d kas)
structure NkD (P : Program) (w : World) (H : Hp) (d : Addr) (kas : List (NestedKey × Addr × Int)) : Prop where
  at_ : H d = some (nkO P w d kas)
  key : ∀ q ∈ kas, NkV H q.1 (.ref q.2.1) ∧ q.1.depth ≤ 8
theorem nkO_tup {d : Addr} {kas : List (NestedKey × Addr × Int)} {xs : List V} : nkO P w d kas ≠ .tup xs := fun z => by
  have z' : HO.ext _ = HO.tup xs := z
  cases z'
theorem nkObj_ok {d : Addr} {kas : List (NestedKey × Addr × Int)} (q : nkObj P w d kas h) : ObjOk P w H h d (nkO P w d kas) := by
  have q0 := q
  obtain ⟨_, _, xs, _, o, es, ep, e, _⟩ := q0
  refine ⟨q, ⟨o, e⟩, fun h1 h2 q1 k => ?_⟩
  obtain ⟨a1, a2, xs, al, o, es, ep, e, r⟩ := q1
  exact ⟨a1, a2, xs, al, o, es, ep, k _ e, r⟩
theorem nk_names : ∀ {kas : List (NestedKey × Addr × Int)} {xs : List (NestedKey × Addr × Value)}, All2 nkRow kas xs → xs.map (·.1) = kas.map (·.1)
  | _, _, .nil => rfl
  | _, _, .cons r t => by rw [List.map_cons, List.map_cons, r.1, nk_names t]
/-- the number at a key -/
def nkAt (kas : List (NestedKey × Addr × Int)) (k : NestedKey) : Option Int := (kas.find? fun q => decide (q.1 = k)).map fun q => q.2.2
theorem nk_at {k : NestedKey} : ∀ {kas : List (NestedKey × Addr × Int)} {xs : List (NestedKey × Addr × Value)}, All2 nkRow kas xs → (nkAt kas k = none ∧ atKey xs k = none) ∨ ∃ n a t, nkAt kas k = some n ∧ atKey xs k = some (a, .int n t)
  | _, _, .nil => .inl ⟨rfl, rfl⟩
  | _, _, @All2.cons _ _ _ c x cs xs r t => by
    unfold nkAt atKey
    rw [List.find?_cons, List.find?_cons, r.1]
    by_cases e : c.1 = k
    · rw [decide_eq_true e]
      obtain ⟨tt, ht⟩ := r.2.2
      refine .inr ⟨c.2.2, x.2.1, tt, rfl, ?_⟩
      show some x.2 = _
      rw [← ht]
    · rw [decide_eq_false e]
      exact nk_at t
theorem NkD.get {d : Addr} {kas : List (NestedKey × Addr × Int)} (D : NkD P w H d kas) (ok : HOk P w H h) : (d == sysModules) = false ∧ kas.length ≤ sizeLine ∧ ∃ xs, All2 nkRow kas xs ∧ h.DictOfH (nestedKind P w) d xs := by
  obtain ⟨⟨a1, a2, xs, al, o, es, ep, e1, e2, e3, e4, e5⟩, _⟩ := (show ObjOk P w H h d (nkO P w d kas) from ok d _ D.at_)
  refine ⟨a1, a2, xs, al, o, es, ep, e1, e2, e3, e4, fun x hx => ?_, e5⟩
  have : ∀ {kas : List (NestedKey × Addr × Int)} {xs : List (NestedKey × Addr × Value)}, All2 nkRow kas xs → ∀ x ∈ xs, ∃ q ∈ kas, x.1 = q.1 ∧ x.2.1 = q.2.1 := by
    intro kas xs al
    induction al with
    | nil => intro x hx; cases hx
    | cons r t ih =>
      intro x hx
      rcases List.mem_cons.mp hx with rfl | hx
      · exact ⟨_, List.mem_cons_self .., r.1, r.2.1⟩
      · obtain ⟨q, hq, z⟩ := ih x hx
        exact ⟨q, List.mem_cons_of_mem _ hq, z⟩
  obtain ⟨q, hq, z1, z2⟩ := this al x hx
  obtain ⟨k1, k2⟩ := D.key q hq
  rw [z1, z2]
  exact ⟨NkV.is ok k1 rfl, k2⟩
theorem NkD.go {d : Addr} {kas : List (NestedKey × Addr × Int)} (D : NkD P w H d kas) (e : H' d = H d) (kp : TK H H') : NkD P w H' d kas := ⟨e.trans D.at_, fun q hq => ⟨(D.key q hq).1.keep kp, (D.key q hq).2⟩⟩
theorem NkD.same {d : Addr} {kas : List (NestedKey × Addr × Int)} (D : NkD P w H d kas) (s : Same H H') : NkD P w H' d kas := D.go ((s _ _ D.at_).trans D.at_.symm) (TK.same s)
end
section
variable {X : Cx} {o i e : Expr} {pos pos' : Pos} {td ty tv : TE}
theorem nk_room {X : Cx} (hu : X.A.units + 65 < cLine) : (nestedKind X.prog X.w).room X.A.in1 := by
  show X.A.in1.units + 8 < cLine
  show X.A.units + 1 + 8 < cLine
  omega
/-- {}, for such keys -/
def tNkNew (P : Program) (w : World) : TE := fun _ H Q => ∀ p, H p = none → NkD P w (upd H p (nkO P w p [])) p [] → Q (.ref p) (upd H p (nkO P w p []))
theorem pe_nknew (P : Program) (w : World) (h1 : X.prog = P) (h2 : X.w = w) : PE X (.Dict [] [] pos) (tNkNew P w) := by
  subst h1 h2
  refine ⟨fun pins s σ H Q I h => ?_⟩
  have hb := I.big
  have ob : nkObj X.prog X.w s.heap.objs.size [] (s.heap.push { cls := .type "dict", data := .dict #[] }) := ⟨beq_eq_false_iff_ne.mpr (Ne.symm (Nat.ne_of_lt hb)), Nat.zero_le _, [], .nil, _, #[], 0, Heap.get?_push_size _ rfl, ⟨rfl, rfl, rfl⟩, rfl, rfl, List.nodup_nil⟩
  exact wpAny_Dict_empty ⟨.ref s.heap.objs.size, _, I.laid (a := s.heap.objs.size) (o := nkO X.prog X.w s.heap.objs.size []) (t' := s.toks) (fun _ _ q => Heap.get?_push_of_some _ q) (Nat.le_refl _) (nkObj_ok ob), rfl, h _ (I.hok.fresh (Nat.le_refl _)) ⟨upd_same, fun q hq => by cases hq⟩⟩
/-- y not in d -/
def tNkOut (P : Program) (w : World) (ty td : TE) : TE := fun σ H Q => ty σ H fun y H1 => td σ H1 fun x H2 => ∃ (d b : Addr) (kas : List (NestedKey × Addr × Int)) (k : NestedKey), x = .ref d ∧ y = .ref b ∧ NkD P w H2 d kas ∧ NkV H2 k (.ref b) ∧ k.depth ≤ 8 ∧ Q (.bl (!(nkAt kas k).isSome)) H2
theorem pc_nkout (P : Program) (w : World) (h1 : X.prog = P) (h2 : X.w = w) (hu : X.A.units + 65 < cLine) (hi : PE X i ty) (ho : PE X o td) : PC X .NotIn i o (tNkOut P w ty td) := by
  subst h1 h2
  refine ⟨fun pins s σ H Q I h => ?_⟩
  refine thn (hi.run pins s σ H _ I h) fun iv s1 ⟨y, H1, I1, ry, q1⟩ => thn (ho.run pins s1 σ H1 _ I1 q1) fun u s2 ⟨x, H2, I2, rx, d, b, kas, k, ex, ey, D, kv, dp, q2⟩ => ?_
  subst ex ey
  obtain rfl : u = Value.ref d := rx
  obtain rfl : iv = Value.ref b := ry
  obtain ⟨a1, a2, xs, al, dd⟩ := D.get I2.hok
  refine wpAny_notIn_heap (nk_room hu) ⟨NkV.is I2.hok kv rfl, dp⟩ a1 dd ⟨.bl (!(nkAt kas k).isSome), H2, I2.tok _, ?_, q2⟩
  rcases nk_at (k := k) al with ⟨z1, z2⟩ | ⟨n, a, t, z1, z2⟩ <;> rw [z1, z2] <;> rfl
/-- d[y] -/
def tNkGet (P : Program) (w : World) (td ty : TE) : TE := fun σ H Q => td σ H fun x H1 => ty σ H1 fun y H2 => ∃ (d b : Addr) (kas : List (NestedKey × Addr × Int)) (k : NestedKey) (n : Int), x = .ref d ∧ y = .ref b ∧ NkD P w H2 d kas ∧ NkV H2 k (.ref b) ∧ k.depth ≤ 8 ∧ nkAt kas k = some n ∧ Q (.int n) H2
theorem pe_nkget (P : Program) (w : World) (h1 : X.prog = P) (h2 : X.w = w) (hu : X.A.units + 65 < cLine) (ho : PE X o td) (hi : PE X i ty) (hs : NoSl i) : PE X (.Subscript o i pos) (tNkGet P w td ty) := by
  subst h1 h2
  refine ⟨fun pins s σ H Q I h => ?_⟩
  refine subD_of PySem.F.slot_dict_getitem.lookup hs (thn (ho.run pins s σ H _ I h) fun u s1 ⟨x, H1, I1, rx, q1⟩ => thn (hi.run pins s1 σ H1 _ I1 q1) fun iv s2 ⟨y, H2, I2, ry, d, b, kas, k, n, ex, ey, D, kv, dp, hk, q2⟩ => ?_)
  subst ex ey
  obtain rfl : u = Value.ref d := rx
  obtain rfl : iv = Value.ref b := ry
  obtain ⟨a1, a2, xs, al, dd⟩ := D.get I2.hok
  refine ⟨dd.typeIs, ?_⟩
  rcases nk_at (k := k) al with ⟨z1, z2⟩ | ⟨m, a, t, z1, z2⟩
  · rw [z1] at hk; cases hk
  · rw [z1] at hk
    cases hk
    exact wpAny_getItem_heap (nk_room hu) ⟨NkV.is I2.hok kv rfl, dp⟩ dd z2 ⟨.int n, H2, I2.tok _, ⟨t, rfl⟩, q2⟩
/-- len(d) -/
theorem call_lenNk (P : Program) (w : World) (h1 : X.prog = P) (h2 : X.w = w) : CallR X (.builtin "len") (fun vs H Q => ∃ (d : Addr) (kas : List (NestedKey × Addr × Int)), vs = [.ref d] ∧ NkD P w H d kas ∧ Q (.int (kas.length : Nat)) H) := by
  subst h1 h2
  intro pins s σ H vs us Q I r asked
  obtain ⟨d, kas, rfl, D, q⟩ := asked
  obtain ⟨u, rfl, ru⟩ := vals1 r
  obtain rfl : u = Value.ref d := ru
  obtain ⟨a1, a2, xs, al, dd⟩ := D.get I.hok
  have l := al.length
  refine PySem.call_len_dictH a1 dd (by rw [← l]; rw [sizeLine_eq] at a2; omega) ?_
  exact ⟨.int (kas.length : Nat), H, I.tok _, ⟨_, by rw [l]⟩, q⟩
/-- d[y] = v, y not yet in d -/
def sNkPut (P : Program) (w : World) (td ty tv : TE) : TS := fun D σ H => tv σ H fun v H1 => td σ H1 fun x H2 => ty σ H2 fun y H3 => ∃ (d b : Addr) (kas : List (NestedKey × Addr × Int)) (k : NestedKey) (n : Int), x = .ref d ∧ y = .ref b ∧ v = .int n ∧ NkD P w H3 d kas ∧ NkV H3 k (.ref b) ∧ k.depth ≤ 8 ∧ nkAt kas k = none ∧ kas.length < sizeLine ∧
  (NkD P w (upd H3 d (nkO P w d (kas ++ [(k, b, n)]))) d (kas ++ [(k, b, n)]) → D.nx σ (upd H3 d (nkO P w d (kas ++ [(k, b, n)]))))
theorem ps_nkput {value : Expr} (P : Program) (w : World) (h1 : X.prog = P) (h2 : X.w = w) (hu : X.A.units + 65 < cLine) (ho : PE X o td) (hi : PE X i ty) (hv : PE X value tv) (hs : swapsWith value (some (.Subscript o i pos')) pos.line X.env = pure false) :
    PS X (.Assign [.Subscript o i pos'] value pos) (sNkPut P w td ty tv) := by
  subst h1 h2
  refine ⟨fun pins s σ H D I h => ?_⟩
  refine wpAny_Assign_Subscript (thn (hv.run pins s σ H _ I h) fun r s1 ⟨v, H1, I1, rv, q1⟩ => thn (ho.run pins s1 σ H1 _ I1 q1) fun u s2 ⟨x, H2, I2, rx, q2⟩ => thn (hi.run pins s2 σ H2 _ I2 q2) fun iv s3 ⟨y, H3, I3, ry, d, b, kas, k, n, ex, ey, ev, Dk, kv, dp, hk, hl, q3⟩ => ?_) hs
  subst ex ey ev
  obtain rfl : u = Value.ref d := rx
  obtain rfl : iv = Value.ref b := ry
  obtain ⟨t, rfl⟩ := (show ∃ t, r = Value.int n t from rv)
  obtain ⟨a1, a2, xs, al, dd⟩ := Dk.get I3.hok
  have l := al.length
  have z2 : atKey xs k = none := by
    rcases nk_at (k := k) al with ⟨z1, z2⟩ | ⟨m, a, t, z1, z2⟩
    · exact z2
    · rw [z1] at hk; cases hk
  refine wpAny_setItem_heap (hsz := by rw [← l]; exact a2) (nk_room hu) ⟨NkV.is I3.hok kv rfl, dp⟩ dd fun h' dd' hsb => ?_
  rw [storedH_new z2] at dd'
  obtain ⟨ob, es, ep, g1, g2, g3, g4, g5, g6⟩ := dd'
  have kp : TK H3 (upd H3 d (nkO X.prog X.w d (kas ++ [(k, b, n)]))) := fun a ys e => by
    rw [upd_ne (ne_of e Dk.at_ (fun z => nkO_tup z.symm))]
    exact e
  have new : nkObj X.prog X.w d (kas ++ [(k, b, n)]) h' := ⟨a1, by rw [List.length_append]; exact hl, _, al.snoc ⟨rfl, rfl, t, rfl⟩, ob, es, ep, g1, g2, g3, g4, g6⟩
  refine ⟨σ, _, d_write I3 (by rw [Dk.at_]; exact True.intro) hsb ⟨ob, g1⟩ (nkObj_ok new), q3 ⟨upd_same, fun q hq => ?_⟩⟩
  rcases List.mem_append.mp hq with hq | hq
  · exact ⟨(Dk.key q hq).1.keep kp, (Dk.key q hq).2⟩
  · rw [List.mem_singleton.mp hq]
    exact ⟨kv.keep kp, dp⟩
end
section
variable {P : Program} {w : World} {K : PySem.W.Frag} {mg : Str → Option Value} {base : Heap}
def sp_law_flow (K : PySem.W.Frag) : Sp := fun vs H Q _ => ∃ (a : Addr) (ns : List Int), vs = [.ref a] ∧ SqL K H a (ns.map V.int) ∧ ∀ (f c : Addr) (H' : Hp), H f = none → H c = none → Flow H' f c → Same H H' → Q (.ref f) H'
theorem ok_law_flow {f : Addr} {fd : FuncData} (F : Fun K "_law_flow" "_law_flow" s_law_flow f fd) (T : Top K mg) : FnOk P w K mg base CX0 1 f fd ["_law_script"] (sp_law_flow K) := by
  refine F.ok sc_law_flow (fun vs H Q E h => ?_) (fun cdv A outer s H vs Q E hr h => ?_)
  · obtain ⟨a, ns, rfl, _⟩ := h
    rfl
  obtain ⟨a, ns, rfl, hS, q⟩ := h
  refine ⟨_, (pss_one (ps_ret (pe_lst (pa_cons (pe_callTy (call_list_ofK K rfl) (by rfl) T.m_list (by decide +kernel) (pa_cons (pv 0) pa_nil)) (pa_cons pe_int (pa_cons pe_int (pa_cons pe_int (pa_cons pe_int pa_nil)))))))), ?_⟩
  refine ⟨_, rfl, a, _, rfl, .inl hS, fun c hc => ?_⟩
  refine ⟨(by show 5 ≤ sizeLine; decide), fun f hf => ?_⟩
  have nf : H f = none := by
    cases e : H f with
    | none => rfl
    | some o => rw [same_new hc _ _ e] at hf; cases hf
  have s1 := same_new (o := .lst (ns.map V.int)) hc
  refine q f c _ nf hc ⟨ns, 0, 0, 1, 0, upd_same, same_new hf _ _ upd_same, by decide, by decide, by decide, by decide⟩ fun b o e => same_new hf _ _ (s1 _ _ e)
def sp_law_pick (K : PySem.W.Frag) : Sp := fun vs H Q _ => ∃ (f c : Addr) (m : Int), vs = [.ref f, .int m] ∧ 0 < m ∧ m.natAbs.log2 < 9000 ∧ Flow H f c ∧
  ∀ (v : Int) (H' : Hp), 0 ≤ v → v < m → Flow H' f c → But f H H' → Q (.int v) H'
theorem ok_law_pick {f : Addr} {fd : FuncData} (F : Fun K "_law_pick" "_law_pick" s_law_pick f fd) (T : Top K mg) : FnOk P w K mg base CX0 1 f fd ["_law_flow_here", "_law_many"] (sp_law_pick K) := by
  refine F.ok sc_law_pick (fun vs H Q E h => ?_) (fun cdv A outer s H vs Q E hr h => ?_)
  · obtain ⟨f, c, m, rfl, _⟩ := h
    rfl
  obtain ⟨f, c, m, rfl, m0, m9, hF, q⟩ := h
  obtain ⟨ns, i, p, z, r, hf, hc, hi, hp, hz, hz2⟩ := hF
  have ncf : c ≠ f := ne_of hc hf (by intro e; injection e with e; cases ns with | nil => cases e | cons x l => cases e)
  let R1 : TS := fun D' σ' H' => D'.rt = Q ∧ ∃ x2 : Option V, σ' = [some (.ref f), some (.int m), x2, none] ∧ (∃ (i p z r : Int), H' f = some (.lst [.ref c, .int i, .int p, .int z, .int r]) ∧ H' c = some (.lst (ns.map V.int)) ∧ 0 ≤ i ∧ 0 ≤ p ∧ 0 ≤ z ∧ z < 2147483647) ∧ But f H H'
  refine ⟨_, (pss_cons (ps_if (PW.pt (pw_and (pt_cmpR op_eq (pe_ix (ix_listK K rfl) (pv 0) pe_int (fun _ _ => rfl)) pe_int (nomark _)) (pw_and1 (pt_cmpR op_lt (pe_ix (ix_listK K rfl) (pv 0) pe_int (fun _ _ => rfl)) (pe_callB (call_len_seqK K rfl) (by rfl) T.m_len (by decide +kernel) (pa_cons (pe_ix (ix_listK K rfl) (pv 0) pe_int (fun _ _ => rfl)) pa_nil)) (nomark _))))) (pss_cons (ps_set (i := 2) sc_law_pick.nd rfl (Or.inl rfl) (pe_ix (ix_listK K rfl) (pe_ix (ix_listK K rfl) (pv 0) pe_int (fun _ _ => rfl)) (pe_ix (ix_listK K rfl) (pv 0) pe_int (fun _ _ => rfl)) (fun _ _ => rfl)))
      (pss_cons (ps_asg (pe_op op_add (pe_ix (ix_listK K rfl) (pv 0) pe_int (fun _ _ => rfl)) pe_int) (pg_sub (pv 0) pe_int set_list))
      (pss_one (ps_if (pt_cmpR op_ge (pv 2) (pe_op op_pow pe_int pe_int) (nomark _)) (pss_one (ps_asg (pv 2) (pg_sub (pv 0) pe_int set_list))) (pss_one (ps_asg (pe_op op_mod (pe_op op_add (pe_op op_add (pe_op op_mul (pe_ix (ix_listK K rfl) (pv 0) pe_int (fun _ _ => rfl)) pe_int) (pe_op op_mod (pv 2) pe_int)) pe_int) pe_int) (pg_sub (pv 0) pe_int set_list))))))) pss_nil)
      (PSs.to (pss_cons (ps_if (pt_cmpR op_gt (pe_ix (ix_listK K rfl) (pv 0) pe_int (fun _ _ => rfl)) pe_int (nomark _)) (pss_cons (ps_set (i := 3) sc_law_pick.nd rfl (Or.inl rfl) (pe_op op_mod (pe_ix (ix_listK K rfl) (pv 0) pe_int (fun _ _ => rfl)) (pv 1)))
      (pss_cons (ps_asg (pe_op op_fdivW (pe_ix (ix_listK K rfl) (pv 0) pe_int (fun _ _ => rfl)) (pv 1)) (pg_sub (pv 0) pe_int set_list))
      (pss_one (ps_ret (pv 3))))) pss_nil)
      (pss_cons (ps_asg (pe_op op_add (pe_ix (ix_listK K rfl) (pv 0) pe_int (fun _ _ => rfl)) pe_int) (pg_sub (pv 0) pe_int set_list))
      (pss_cons (ps_asg (pe_op op_mod (pe_op op_add (pe_op op_add (pe_op op_mul (pe_ix (ix_listK K rfl) (pv 0) pe_int (fun _ _ => rfl)) pe_int) pe_int) (pe_ix (ix_listK K rfl) (pv 0) pe_int (fun _ _ => rfl))) pe_int) (pg_sub (pv 0) pe_int set_list))
      (pss_one (ps_ret (pe_op op_mod (pe_op op_fdiv (pe_op op_mod (pe_op op_mul (pe_op op_add (pe_op op_mod (pe_ix (ix_listK K rfl) (pv 0) pe_int (fun _ _ => rfl)) pe_int) pe_int) (pe_op op_add (pe_op op_fdiv (pe_ix (ix_listK K rfl) (pv 0) pe_int (fun _ _ => rfl)) pe_int) pe_int)) pe_int) pe_int) (pv 1))))))) R1 ?tail1)), ?_⟩
  case tail1 =>
    rintro D' σ' H1 ⟨eD, x2, rfl, ⟨i, p, z, r, hf, hc, hi, hp, hz, hz2⟩, bt⟩
    refine ⟨_, rfl, f, _, _, _, rfl, rfl, SqL.of hf, atI_nat (j := 2) rfl, _, _, rfl, rfl, _, rfl, if_bl (fun c1 => ?_) (fun c1 => ?_)⟩
    · refine ⟨_, rfl, f, _, _, _, rfl, rfl, SqL.of hf, atI_nat (j := 2) rfl, _, rfl, _, _, rfl, rfl, m0, ?_⟩
      refine ⟨_, rfl, f, _, _, _, rfl, rfl, SqL.of hf, atI_nat (j := 2) rfl, _, rfl, _, _, rfl, rfl, ⟨m0, m9⟩, _, rfl, f, _, _, 2, rfl, rfl, hf, rfl, ?_⟩
      refine ⟨_, rfl, ?_⟩
      rw [eD]
      exact q _ _ (Int.emod_nonneg _ (by omega)) (Int.emod_lt_of_pos _ m0) ⟨ns, i, p / m, z, r, upd_same, (by rw [upd_ne ncf]; exact hc), hi, Int.ediv_nonneg hp (by omega), hz, hz2⟩ bt.upd
    · refine ⟨_, rfl, f, _, _, _, rfl, rfl, SqL.of hf, atI_nat (j := 4) rfl, _, _, rfl, rfl, _, rfl, f, _, _, 4, rfl, rfl, hf, rfl, ?_⟩
      have hf2 : upd H1 f (.lst ([V.ref c, V.int i, V.int p, V.int z, V.int r].set 4 (V.int (r + 1)))) f = some (.lst [.ref c, .int i, .int p, .int z, .int (r + 1)]) := upd_same
      refine ⟨_, rfl, f, _, _, _, rfl, rfl, SqL.of hf2, atI_nat (j := 3) rfl, _, _, rfl, rfl, .inl ⟨by omega, by omega⟩, _, _, rfl, rfl, _, rfl, f, _, _, _, rfl, rfl, SqL.of hf2, atI_nat (j := 4) rfl, _, _, rfl, rfl, _, _, rfl, rfl, (by show (0 : Int) < 2147483647; decide), _, rfl, f, _, _, 3, rfl, rfl, hf2, rfl, ?_⟩
      have z0 : 0 ≤ (z * 48271 + 12820163 + (r + 1)) % 2147483647 := Int.emod_nonneg _ (by decide)
      have z1 : (z * 48271 + 12820163 + (r + 1)) % 2147483647 < 2147483647 := Int.emod_lt_of_pos _ (by decide)
      have hf3 : upd (upd H1 f (.lst ([V.ref c, V.int i, V.int p, V.int z, V.int r].set 4 (V.int (r + 1))))) f (.lst ([V.ref c, V.int i, V.int p, V.int z, V.int (r + 1)].set 3 (V.int ((z * 48271 + 12820163 + (r + 1)) % 2147483647)))) f =
        some (.lst [.ref c, .int i, .int p, .int ((z * 48271 + 12820163 + (r + 1)) % 2147483647), .int (r + 1)]) := upd_same
      have hc3 : upd (upd H1 f (.lst ([V.ref c, V.int i, V.int p, V.int z, V.int r].set 4 (V.int (r + 1))))) f (.lst ([V.ref c, V.int i, V.int p, V.int z, V.int (r + 1)].set 3 (V.int ((z * 48271 + 12820163 + (r + 1)) % 2147483647)))) c = some (.lst (ns.map V.int)) := by
        rw [upd_ne ncf, upd_ne ncf]
        exact hc
      refine ⟨_, rfl, f, _, _, _, rfl, rfl, SqL.of hf3, atI_nat (j := 3) rfl, _, _, rfl, rfl, (by show (0 : Int) < 65521; decide), _, _, rfl, rfl, _, rfl, f, _, _, _, rfl, rfl, SqL.of hf3, atI_nat (j := 3) rfl, _, _, rfl, rfl, ⟨by decide, by decide⟩, _, _, rfl, rfl, _, _, rfl, rfl, .inl ⟨?_, ?_⟩, _, _, rfl, rfl, (by show (0 : Int) < 1000003; decide), _, _, rfl, rfl, ⟨by decide, by decide⟩, _, rfl, _, _, rfl, rfl, m0, ?_⟩
      · omega
      · omega
      · rw [eD]
        exact q _ _ (Int.emod_nonneg _ (by omega)) (Int.emod_lt_of_pos _ m0) ⟨ns, i, p, _, r + 1, hf3, hc3, hi, hp, z0, z1⟩ bt.upd.upd
  refine ⟨_, rfl, f, _, _, _, rfl, rfl, SqL.of hf, atI_nat (j := 2) rfl, rfl, _, rfl, if_bl (fun c1 => ?_) (fun c1 => ?_)⟩
  · refine ⟨_, rfl, f, _, _, _, rfl, rfl, SqL.of hf, atI_nat (j := 1) rfl, _, rfl, f, _, _, _, rfl, rfl, SqL.of hf, atI_nat (j := 0) rfl, c, _, rfl, .inl (SqL.of hc), _, _, rfl, rfl, _, rfl, if_bl (fun c2 => ?_) (fun c2 => ?_)⟩
    · have c3 : i < ((ns.map V.int).length : Int) := of_decide_eq_true c2
      rw [List.length_map] at c3
      obtain ⟨v, hv⟩ := at_ints hi c3
      refine ⟨_, rfl, f, _, _, _, rfl, rfl, SqL.of hf, atI_nat (j := 0) rfl, _, rfl, f, _, _, _, rfl, rfl, SqL.of hf, atI_nat (j := 1) rfl, c, _, i, _, rfl, rfl, SqL.of hc, hv, ?_⟩
      refine ⟨_, rfl, f, _, _, _, rfl, rfl, SqL.of hf, atI_nat (j := 1) rfl, _, _, rfl, rfl, _, rfl, f, _, _, 1, rfl, rfl, hf, rfl, ?_⟩
      have hf2 : upd H f (.lst ([V.ref c, V.int i, V.int p, V.int z, V.int r].set 1 (V.int (i + 1)))) f = some (.lst [.ref c, .int (i + 1), .int p, .int z, .int r]) := upd_same
      refine ⟨_, rfl, _, _, rfl, rfl, ⟨by decide, by decide, by decide⟩, _, _, rfl, rfl, _, rfl, if_bl (fun c4 => ?_) (fun c4 => ?_)⟩
      · have c5 : (10 : Int) ^ (18 : Int).toNat ≤ v := of_decide_eq_true c4
        have c6 : (0 : Int) ≤ (10 : Int) ^ (18 : Int).toNat := by decide
        refine ⟨_, rfl, _, rfl, f, _, _, 2, rfl, rfl, hf2, rfl, rfl, _, rfl, ⟨i + 1, v, z, r, upd_same, ?_, by omega, by omega, hz, hz2⟩, But.refl.upd.upd⟩
        rw [upd_ne ncf, upd_ne ncf]
        exact hc
      · refine ⟨_, rfl, f, _, _, _, rfl, rfl, SqL.of hf2, atI_nat (j := 3) rfl, _, _, rfl, rfl, .inl ⟨by omega, by omega⟩, _, rfl, _, _, rfl, rfl, (by show (0 : Int) < 1000003; decide), _, _, rfl, rfl, _, _, rfl, rfl, _, _, rfl, rfl, (by show (0 : Int) < 2147483647; decide), _, rfl, f, _, _, 3, rfl, rfl, hf2, rfl, rfl, _, rfl, ⟨i + 1, p, _, r, upd_same, ?_, by omega, hp, Int.emod_nonneg _ (by decide), Int.emod_lt_of_pos _ (by decide)⟩, But.refl.upd.upd⟩
        rw [upd_ne ncf, upd_ne ncf]
        exact hc
    · exact ⟨rfl, _, rfl, ⟨i, p, z, r, hf, hc, hi, hp, hz, hz2⟩, But.refl⟩
  · exact ⟨rfl, _, rfl, ⟨i, p, z, r, hf, hc, hi, hp, hz, hz2⟩, But.refl⟩
end
/-! ### rooms: what they are -/
/-- a hand: its rule's word, its number if it has one, its moments -/
structure HR where
  wd : Str
  no : Option Int
  mom : Int
/-- a belt -/
structure BR where
  one : Nat
  to : Nat
  th : List Int
abbrev ruleL (h : HR) : List V := .str h.wd :: (match h.no with | none => [] | some n => [.int n])
def HandAt (H : Hp) (v : V) (h : HR) : Prop := ∃ t r : Addr, v = .ref t ∧ H t = some (.tup [.ref r, .int h.mom]) ∧ H r = some (.tup (ruleL h))
def BeltAt (H : Hp) (v : V) (b : BR) : Prop := ∃ t g : Addr, v = .ref t ∧ H t = some (.tup [.int (b.one : Nat), .int (b.to : Nat), .ref g]) ∧ H g = some (.tup (b.th.map V.int))
theorem HandAt.keep {H H' : Hp} {v : V} {h : HR} (a : HandAt H v h) (k : TK H H') : HandAt H' v h := by
  obtain ⟨t, r, e, e1, e2⟩ := a
  exact ⟨t, r, e, k _ _ e1, k _ _ e2⟩
theorem BeltAt.keep {H H' : Hp} {v : V} {b : BR} (a : BeltAt H v b) (k : TK H H') : BeltAt H' v b := by
  obtain ⟨t, r, e, e1, e2⟩ := a
  exact ⟨t, r, e, k _ _ e1, k _ _ e2⟩
def nine : List Str := ["always", "same", "times", "sum", "gap", "below", "most", "least", "pick"]
def needs (wd : Str) : Int := if wd ∈ (["in", "always"] : List Str) then 0 else if wd ∈ (["out", "same", "times"] : List Str) then 1 else 2 + (if wd = "pick" then 1 else 0)
/-- a rule of one of the nine words -/
structure GoodRule (h : HR) : Prop where
  wd : h.wd ∈ nine
  no : h.no.isSome = true ↔ h.wd = "times" ∨ h.wd = "always"
  big : ∀ n, h.no = some n → -1000000 ≤ n ∧ n ≤ 1000000
def GoodHand (h : HR) : Prop := (GoodRule h ∨ ((h.wd = "in" ∨ h.wd = "out") ∧ h.no = none)) ∧ 0 ≤ h.mom ∧ h.mom ≤ 30
def Small (v : Int) : Prop := -1000000 ≤ v ∧ v ≤ 1000000
section
variable {P : Program} {w : World} {K : PySem.W.Frag} {mg : Str → Option Value} {base : Heap}
def sp_law_thing (K : PySem.W.Frag) : Sp := fun vs H Q _ => ∃ f c : Addr, vs = [.ref f] ∧ Flow H f c ∧ ∀ (v : Int) (H' : Hp), Small v → Flow H' f c → But f H H' → Q (.int v) H'
theorem ok_law_thing {f : Addr} {fd : FuncData} (F : Fun K "_law_thing" "_law_thing" s_law_thing f fd) (T : Top K mg) : FnOk P w K mg base CX0 2 f fd ["_law_flow_here"] (sp_law_thing K) := by
  obtain ⟨f_law_pick, fd_law_pick, F_law_pick, b_law_pick, m_law_pick⟩ := T.d_law_pick
  have G_law_pick := ok_law_pick (P := P) (w := w) (base := base) F_law_pick T
  refine F.ok sc_law_thing (fun vs H Q E h => ?_) (fun cdv A outer s H vs Q E hr h => ?_)
  · obtain ⟨f, c, rfl, _⟩ := h
    rfl
  obtain ⟨f, c, rfl, hF, q⟩ := h
  refine ⟨_, (pss_cons (ps_if (pt_cmpR op_gt (pe_call G_law_pick (hr.mono (by decide)) (by rfl) m_law_pick F_law_pick.kp b_law_pick .nil pass0 (pa_cons (pv 0) (pa_cons pe_int pa_nil))) pe_int (nomark _)) (pss_one (ps_ret (pe_op op_sub (pe_call G_law_pick (hr.mono (by decide)) (by rfl) m_law_pick F_law_pick.kp b_law_pick .nil pass0 (pa_cons (pv 0) (pa_cons pe_int pa_nil))) pe_int))) pss_nil)
      (pss_one (ps_ret (pe_op op_sub (pe_call G_law_pick (hr.mono (by decide)) (by rfl) m_law_pick F_law_pick.kp b_law_pick .nil pass0 (pa_cons (pv 0) (pa_cons pe_int pa_nil))) pe_int)))), ?_⟩
  refine ⟨_, rfl, f, c, 3, rfl, by decide, by decide +kernel, hF, fun v1 H1 a1 b1 F1 B1 => ⟨_, _, rfl, rfl, _, rfl, if_bl (fun _ => ?_) (fun _ => ?_)⟩⟩
  · exact ⟨_, rfl, f, c, 7, rfl, by decide, by decide +kernel, F1, fun v2 H2 a2 b2 F2 B2 => ⟨_, _, rfl, rfl, q _ _ ⟨by omega, by omega⟩ F2 (B1.trans B2)⟩⟩
  · exact ⟨_, rfl, f, c, 2000001, rfl, by decide, by decide +kernel, F1, fun v2 H2 a2 b2 F2 B2 => ⟨_, _, rfl, rfl, q _ _ ⟨by omega, by omega⟩ F2 (B1.trans B2)⟩⟩
def sp_law_needs (K : PySem.W.Frag) : Sp := fun vs H Q _ => ∃ (r : Addr) (wd : Str) (l : List V), vs = [.ref r] ∧ SqT K H r (.str wd :: l) ∧ ∀ H', Same H H' → Q (.int (needs wd)) H'
theorem ok_law_needs {f : Addr} {fd : FuncData} (F : Fun K "_law_needs" "_law_needs" s_law_needs f fd) (T : Top K mg) : FnOk P w K mg base CX0 1 f fd ["_law_rule_here"] (sp_law_needs K) := by
  refine F.ok sc_law_needs (fun vs H Q E h => ?_) (fun cdv A outer s H vs Q E hr h => ?_)
  · obtain ⟨r, wd, l, rfl, _⟩ := h
    rfl
  obtain ⟨r, wd, l, rfl, hR, q⟩ := h
  unfold needs at q
  refine ⟨_, (pss_cons (ps_if (pt_cmpR (op_in_seqK K rfl) (pe_ix (ix_tupK K rfl) (pv 0) pe_int (fun _ _ => rfl)) (pe_tup (pa_cons pe_str (pa_cons pe_str pa_nil))) (by with_unfolding_all rfl)) (pss_one (ps_ret pe_int)) pss_nil)
      (pss_cons (ps_if (pt_cmpR (op_in_seqK K rfl) (pe_ix (ix_tupK K rfl) (pv 0) pe_int (fun _ _ => rfl)) (pe_tup (pa_cons pe_str (pa_cons pe_str (pa_cons pe_str pa_nil)))) (by with_unfolding_all rfl)) (pss_one (ps_ret pe_int)) pss_nil)
      (pss_one (ps_ret (pe_op op_add pe_int (pe_callTy call_int1 (by rfl) T.m_int (by decide +kernel) (pa_cons (pe_cmpR op_eq (pe_ix (ix_tupK K rfl) (pv 0) pe_int (fun _ _ => rfl)) pe_str (nomark _)) pa_nil))))))), ?_⟩
  refine ⟨_, rfl, r, _, _, _, rfl, rfl, hR, atI_nat (j := 0) rfl, (by show 2 ≤ sizeLine; decide), fun p np => ⟨p, _, rfl, .inr (SqT.of upd_same), rfl, rfl, _, rfl, if_in (zs := ["in", "always"]) (fun e => ?_) (fun e => ?_)⟩⟩
  · have q := q _ (same_new (o := .tup [V.str "in", V.str "always"]) np)
    rw [if_pos e] at q
    exact q
  have s1 := same_new (o := .tup [V.str "in", V.str "always"]) np
  refine ⟨_, rfl, r, _, _, _, rfl, rfl, same_seqT s1 hR, atI_nat (j := 0) rfl, (by show 3 ≤ sizeLine; decide), fun p2 np2 => ⟨p2, _, rfl, .inr (SqT.of upd_same), rfl, rfl, _, rfl, if_in (zs := ["out", "same", "times"]) (fun e2 => ?_) (fun e2 => ?_)⟩⟩
  · have q := q _ (s1.trans (same_new (o := .tup [V.str "out", V.str "same", V.str "times"]) np2))
    rw [if_neg e, if_pos e2] at q
    exact q
  have s2 := s1.trans (same_new (o := .tup [V.str "out", V.str "same", V.str "times"]) np2)
  have q := q _ s2
  rw [if_neg e, if_neg e2] at q
  refine ⟨_, rfl, r, _, _, _, rfl, rfl, same_seqT s2 hR, atI_nat (j := 0) rfl, rfl, .inr ⟨_, rfl, _, _, rfl, rfl, ?_⟩⟩
  by_cases k : wd = "pick"
  · rw [if_pos k] at q
    rw [decide_eq_true (show V.str wd = V.str "pick" by rw [k])]
    exact q
  · rw [if_neg k] at q
    rw [decide_eq_false (show ¬ V.str wd = V.str "pick" from fun z => k (V.str.inj z))]
    exact q
theorem nine_at {m : Int} (h0 : 0 ≤ m) (h9 : m < 9) : ∃ wd : Str, wd ∈ nine ∧ atI (nine.map V.str) m = some (.str wd) ∧ (m < 1 → needs wd ≤ 0) ∧ (m < 3 → needs wd ≤ 1) ∧ (m < 8 → needs wd ≤ 2) ∧ needs wd ≤ 3 ∧ 0 ≤ needs wd := by
  have : m = 0 ∨ m = 1 ∨ m = 2 ∨ m = 3 ∨ m = 4 ∨ m = 5 ∨ m = 6 ∨ m = 7 ∨ m = 8 := by omega
  rcases this with rfl | rfl | rfl | rfl | rfl | rfl | rfl | rfl | rfl
  · exact ⟨"always", by decide +kernel, rfl, by decide +kernel, by decide +kernel, by decide +kernel, by decide +kernel, by decide +kernel⟩
  · exact ⟨"same", by decide +kernel, rfl, by decide +kernel, by decide +kernel, by decide +kernel, by decide +kernel, by decide +kernel⟩
  · exact ⟨"times", by decide +kernel, rfl, by decide +kernel, by decide +kernel, by decide +kernel, by decide +kernel, by decide +kernel⟩
  · exact ⟨"sum", by decide +kernel, rfl, by decide +kernel, by decide +kernel, by decide +kernel, by decide +kernel, by decide +kernel⟩
  · exact ⟨"gap", by decide +kernel, rfl, by decide +kernel, by decide +kernel, by decide +kernel, by decide +kernel, by decide +kernel⟩
  · exact ⟨"below", by decide +kernel, rfl, by decide +kernel, by decide +kernel, by decide +kernel, by decide +kernel, by decide +kernel⟩
  · exact ⟨"most", by decide +kernel, rfl, by decide +kernel, by decide +kernel, by decide +kernel, by decide +kernel, by decide +kernel⟩
  · exact ⟨"least", by decide +kernel, rfl, by decide +kernel, by decide +kernel, by decide +kernel, by decide +kernel, by decide +kernel⟩
  · exact ⟨"pick", by decide +kernel, rfl, by decide +kernel, by decide +kernel, by decide +kernel, by decide +kernel, by decide +kernel⟩
def sp_law_rule (K : PySem.W.Frag) : Sp := fun vs H Q _ => ∃ (f c : Addr) (m : Int), vs = [.ref f, .int m] ∧ 0 ≤ m ∧ Flow H f c ∧
  ∀ (r : Addr) (h : HR) (H' : Hp), H' r = some (.tup (ruleL h)) → GoodRule h → needs h.wd ≤ m → 0 ≤ needs h.wd → h.mom = 0 → Flow H' f c → But f H H' → Q (.ref r) H'
theorem ok_law_rule {f : Addr} {fd : FuncData} (F : Fun K "_law_rule" "_law_rule" s_law_rule f fd) (T : Top K mg) : FnOk P w K mg base CX0 3 f fd ["_law_flow_here", "_law_most"] (sp_law_rule K) := by
  obtain ⟨f_law_pick, fd_law_pick, F_law_pick, b_law_pick, m_law_pick⟩ := T.d_law_pick
  have G_law_pick := ok_law_pick (P := P) (w := w) (base := base) F_law_pick T
  obtain ⟨f_law_thing, fd_law_thing, F_law_thing, b_law_thing, m_law_thing⟩ := T.d_law_thing
  have G_law_thing := ok_law_thing (P := P) (w := w) (base := base) F_law_thing T
  refine F.ok sc_law_rule (fun vs H Q E h => ?_) (fun cdv A outer s H vs Q E hr h => ?_)
  · obtain ⟨f, c, m, rfl, _⟩ := h
    rfl
  obtain ⟨f, c, m, rfl, m0, hF, q⟩ := h
  refine ⟨_, (pss_cons (ps_set (i := 2) sc_law_rule.nd rfl (Or.inl rfl) (pe_lst (pa_cons pe_str (pa_cons pe_str (pa_cons pe_str (pa_cons pe_str (pa_cons pe_str (pa_cons pe_str (pa_cons pe_str (pa_cons pe_str (pa_cons pe_str pa_nil)))))))))))
      (pss_cons (ps_set (i := 3) sc_law_rule.nd rfl (Or.inl rfl) (pe_ix (ix_listK K rfl) (pv 2) (pe_call G_law_pick (hr.mono (by decide)) (by rfl) m_law_pick F_law_pick.kp b_law_pick .nil pass0 (pa_cons (pv 0) (pa_cons (pe_ix (ix_listK K rfl) (pe_lst (pa_cons pe_int (pa_cons pe_int (pa_cons pe_int (pa_cons pe_int pa_nil))))) (pe_callB (call_min2 rfl) (by rfl) T.m_min (by decide +kernel) (pa_cons pe_int (pa_cons (pv 1) pa_nil))) (fun _ _ => rfl)) pa_nil))) (fun _ _ => rfl)))
      (pss_cons (ps_if (pt_cmpR op_eq (pv 3) pe_str (nomark _)) (pss_one (ps_ret (pe_tup (pa_cons (pv 3) (pa_cons (pe_op op_sub (pe_call G_law_pick (hr.mono (by decide)) (by rfl) m_law_pick F_law_pick.kp b_law_pick .nil pass0 (pa_cons (pv 0) (pa_cons pe_int pa_nil))) pe_int) pa_nil))))) pss_nil)
      (pss_cons (ps_if (pt_cmpR op_eq (pv 3) pe_str (nomark _)) (pss_one (ps_ret (pe_tup (pa_cons (pv 3) (pa_cons (pe_call G_law_thing (hr.mono (by decide)) (by rfl) m_law_thing F_law_thing.kp b_law_thing .nil pass0 (pa_cons (pv 0) pa_nil)) pa_nil))))) pss_nil)
      (pss_one (ps_ret (pe_tup (pa_cons (pv 3) pa_nil)))))))), ?_⟩
  refine ⟨(by show 9 ≤ sizeLine; decide), fun wl nwl => ?_⟩
  have F1 : Flow (upd H wl (.lst (nine.map V.str))) f c := hF.new nwl
  refine ⟨_, rfl, _, rfl, (by show 4 ≤ sizeLine; decide), fun cl ncl => ?_⟩
  have F2 : Flow (upd (upd H wl (.lst (nine.map V.str))) cl (.lst [V.int 1, V.int 3, V.int 8, V.int 9])) f c := F1.new ncl
  have B2 : But f H (upd (upd H wl (.lst (nine.map V.str))) cl (.lst [V.int 1, V.int 3, V.int 8, V.int 9])) := (But.refl.new nwl).new ncl
  obtain ⟨j, hj, j1, j9, jn⟩ : ∃ j : Int, atI [V.int 1, V.int 3, V.int 8, V.int 9] (if m < 3 then m else 3) = some (.int j) ∧ 1 ≤ j ∧ j ≤ 9 ∧ ((j = 1 ∧ m = 0) ∨ (j = 3 ∧ m = 1) ∨ (j = 8 ∧ m = 2) ∨ (j = 9 ∧ 3 ≤ m)) := by
    by_cases k : m < 3
    · rw [if_pos k]
      have : m = 0 ∨ m = 1 ∨ m = 2 := by omega
      rcases this with rfl | rfl | rfl
      · exact ⟨1, rfl, by decide, by decide, by decide⟩
      · exact ⟨3, rfl, by decide, by decide, by decide⟩
      · exact ⟨8, rfl, by decide, by decide, by decide⟩
    · rw [if_neg k]
      exact ⟨9, rfl, by decide, by decide, by omega⟩
  refine ⟨_, rfl, _, _, rfl, cl, _, _, _, rfl, rfl, SqL.of upd_same, hj, f, c, j, rfl, by omega, ?_, F2, fun v H1 v0 v1 F3 B3 => ?_⟩
  · have : j = 1 ∨ j = 3 ∨ j = 8 ∨ j = 9 := by omega
    rcases this with rfl | rfl | rfl | rfl <;> decide +kernel
  obtain ⟨wd, hw, hat, n1, n3, n8, n9, n0⟩ := nine_at v0 (by omega)
  have hn : needs wd ≤ m := by
    rcases jn with ⟨rfl, rfl⟩ | ⟨rfl, rfl⟩ | ⟨rfl, rfl⟩ | ⟨rfl, k⟩
    · exact n1 v1
    · exact n3 v1
    · exact n8 v1
    · omega
  have hwl : H1 wl = some (.lst (nine.map V.str)) := B3 _ _ (same_new ncl _ _ upd_same) (hF.ne nwl)
  refine ⟨wl, _, _, _, rfl, rfl, SqL.of hwl, hat, ?_⟩
  have BB := B2.trans B3
  refine ⟨_, rfl, rfl, _, rfl, if_str (fun e => ?_) (fun e => ?_)⟩
  · refine ⟨_, rfl, _, rfl, f, c, 19, rfl, by decide, by decide +kernel, F3, fun v2 H2 a2 b2 F4 B4 => ⟨_, _, rfl, rfl, (by show 2 ≤ sizeLine; decide), fun r nr => ?_⟩⟩
    exact q r ⟨wd, some (v2 - 9), 0⟩ _ upd_same ⟨hw, ⟨fun _ => .inl e, fun _ => rfl⟩, fun n en => by cases en; exact ⟨by omega, by omega⟩⟩ hn n0 rfl (F4.new nr) ((BB.trans B4).new nr)
  refine ⟨_, rfl, rfl, _, rfl, if_str (fun e2 => ?_) (fun e2 => ?_)⟩
  · refine ⟨_, rfl, _, rfl, f, c, rfl, F3, fun v2 H2 s2 F4 B4 => ⟨(by show 2 ≤ sizeLine; decide), fun r nr => ?_⟩⟩
    exact q r ⟨wd, some v2, 0⟩ _ upd_same ⟨hw, ⟨fun _ => .inr e2, fun _ => rfl⟩, fun n en => by cases en; exact s2⟩ hn n0 rfl (F4.new nr) ((BB.trans B4).new nr)
  · refine ⟨_, rfl, (by show 1 ≤ sizeLine; decide), fun r nr => ?_⟩
    exact q r ⟨wd, none, 0⟩ _ upd_same ⟨hw, ⟨(fun z => nomatch z), fun z => absurd z (fun z => z.elim e e2)⟩, (fun n en => nomatch en)⟩ hn n0 rfl (F3.new nr) (BB.new nr)
def sp_law_shuffled (K : PySem.W.Frag) : Sp := fun vs H Q _ => ∃ (f c l : Addr) (xs : List V), vs = [.ref f, .ref l] ∧ SqL K H l xs ∧ l ≠ f ∧ xs.length ≤ 500 ∧ Flow H f c ∧
  ∀ (p : Addr) (ys : List V) (H' : Hp), ys.Perm xs → H p = none → H' p = some (.lst ys) → Flow H' f c → But f H H' → Q (.ref p) H'
theorem But.seqL {K : PySem.W.Frag} {f a : Addr} {H H1 : Hp} {xs : List V} (b : But f H H1) (h : SqL K H a xs) (n : a ≠ f) : SqL K H1 a xs := by
  rcases h with h | h
  · left
    rcases h with h | ⟨o, h⟩
    · exact .inl (b _ _ h n)
    · exact .inr ⟨o, b _ _ h n⟩
  · exact .inr h
theorem same_seqL {K : PySem.W.Frag} {a : Addr} {H H1 : Hp} {xs : List V} (b : Same H H1) (h : SqL K H a xs) : SqL K H1 a xs := by
  rcases h with h | h
  · left
    rcases h with h | ⟨o, h⟩
    · exact .inl (b _ _ h)
    · exact .inr ⟨o, b _ _ h⟩
  · exact .inr h
theorem log_small {m : Nat} (h : m ≤ 500) : ((m : Int)).natAbs.log2 < 9000 := by
  rw [Int.natAbs_natCast]
  exact Nat.lt_of_le_of_lt (Nat.log2_le_self m) (by omega)
theorem perm_erase {α : Type} : ∀ {l : List α} {j : Nat} {y : α}, l[j]? = some y → (y :: l.eraseIdx j).Perm l
  | [], _, _, h => nomatch h
  | a :: l, 0, y, h => by
    cases h
    exact List.Perm.refl _
  | a :: l, j + 1, y, h => by
    have ih : (y :: l.eraseIdx j).Perm l := perm_erase h
    exact (List.Perm.swap a y _).trans (ih.cons a)
theorem ok_law_shuffled {f : Addr} {fd : FuncData} (F : Fun K "_law_shuffled" "_law_shuffled" s_law_shuffled f fd) (T : Top K mg) : FnOk P w K mg base CX0 2 f fd ["_law_flow_here", "_law_some"] (sp_law_shuffled K) := by
  obtain ⟨f_law_pick, fd_law_pick, F_law_pick, b_law_pick, m_law_pick⟩ := T.d_law_pick
  have G_law_pick := ok_law_pick (P := P) (w := w) (base := base) F_law_pick T
  refine F.ok sc_law_shuffled (fun vs H Q E h => ?_) (fun cdv A outer s H vs Q E hr h => ?_)
  · obtain ⟨f, c, l, xs, rfl, _⟩ := h
    rfl
  obtain ⟨f, c, l, xs, rfl, hL, nl, hlen, hF, q⟩ := h
  refine ⟨_, (pss_cons (ps_set (i := 2) sc_law_shuffled.nd rfl (Or.inr rfl) (pe_callTy (call_list_ofK K rfl) (by rfl) T.m_list (by decide +kernel) (pa_cons (pv 1) pa_nil)))
      (pss_one (ps_ret (pe_lc (own := [("_law_k", 3)]) (g := gName 3) (tt := tYes) (by rfl) sc_law_shuffled.nd (pi_range1 (by rfl) T.m_range (pa_cons (pe_callB (call_len_seqK K rfl) (by rfl) T.m_len (by decide +kernel) (pa_cons (pv 1) pa_nil)) pa_nil)) (blkOk_by (own := [("_law_k", 3)]) (N := N_law_shuffled) (sc := defScope s_law_shuffled) (by decide +kernel)) (fun _ _ _ _ _ => (pg_name (i := 3) sc_law_shuffled.nd rfl (Or.inl rfl))) (fun _ _ _ _ _ => pts_nil) (fun _ _ _ _ _ => (pe_bmK K rfl PySem.F.plainAttrs_list PySem.F.slot_list_pop PySem.F.type_list_pop mt_popAt (pv 2) (pa_cons (pe_call G_law_pick (hr.mono (by decide)) (by rfl) m_law_pick F_law_pick.kp b_law_pick .nil pass0 (pa_cons (pv 0) (pa_cons (pe_callB (call_len_seqK K rfl) (by rfl) T.m_len (by decide +kernel) (pa_cons (pv 2) pa_nil)) pa_nil))) pa_nil))))))), ?_⟩
  refine ⟨_, rfl, l, _, rfl, .inl hL, fun lf nlf => ?_⟩
  refine ⟨_, rfl, l, _, rfl, .inl (same_seqL (same_new nlf) hL), _, rfl, by omega, (by omega), fun D nD => ?_⟩
  have F1 : Flow (upd H lf (.lst xs)) f c := hF.new nlf
  have dl : D ≠ lf := (ne_of_none upd_same nD).symm
  refine lc_range (lo := 0) (n := xs.length) (fun i H5 => ∃ acc rest : List V, H5 D = some (.lst acc) ∧ H5 lf = some (.lst rest) ∧ acc.length = i ∧ rest.length + i = xs.length ∧ (acc ++ rest).Perm xs ∧ Flow H5 f c ∧ But f H H5)
    ⟨[], xs, upd_same, by rw [upd_ne dl.symm]; exact upd_same, rfl, by omega, List.Perm.refl _, F1.new nD, (But.refl.new nlf).new nD⟩ ?_ ?_
  · rintro i H5 hi ⟨acc, rest, hD, hl, ha, hr2, hp, F5, B5⟩
    refine ⟨rfl, yes_in ?_⟩
    refine ⟨_, rfl, .inl ⟨rfl, _, SqL.of hl⟩, _, rfl, _, rfl, lf, _, rfl, .inl (SqL.of hl), f, c, ((rest.length : Nat) : Int), rfl, by omega, log_small (by omega), F5, fun v H6 v0 v1 F6 B6 => ?_⟩
    have hl6 := B6 _ _ hl (hF.ne nlf)
    have hv : v.toNat < rest.length := by omega
    have e1 : seqIndex? v rest.length = some v.toNat := by
      rw [seqIndex_of v0 (by omega)]
    refine ⟨lf, rest, v, v.toNat, rest[v.toNat], rfl, rfl, hl6, by omega, by omega, e1, List.getElem?_eq_getElem hv, ?_⟩
    have hD6 := B6 _ _ hD (fun e => by rw [e] at nD; rw [show upd H lf (.lst xs) f = H f from upd_ne (hF.ne nlf).symm] at nD; obtain ⟨_, _, _, _, _, e1, _⟩ := hF; rw [e1] at nD; cases nD)
    refine ⟨acc, by rw [upd_ne dl]; exact hD6, small1000 (by omega), acc ++ [rest[v.toNat]], rest.eraseIdx v.toNat, upd_same, by rw [upd_ne dl.symm]; exact upd_same, by rw [List.length_append, ha]; rfl, ?_, ?_, ?_, ?_⟩
    · rw [List.length_eraseIdx, if_pos hv]
      omega
    · refine List.Perm.trans ?_ hp
      rw [List.append_assoc]
      exact List.Perm.append_left acc (perm_erase (List.getElem?_eq_getElem hv))
    · have dc : D ≠ c := fun e => by
        rw [e] at nD
        obtain ⟨_, _, _, _, _, _, e1, _⟩ := F1
        rw [e1] at nD
        cases nD
      exact (F6.lst (hF.ne nlf) (hF.nec nlf)).lst (F1.ne nD) dc
    · exact ((B5.trans B6).own nlf).own (same_none (same_new nlf) nD)
  · rintro H5 ⟨acc, rest, hD, hl, ha, hr2, hp, F5, B5⟩
    have er : rest = [] := by
      cases rest with
      | nil => rfl
      | cons a l => simp at hr2
    subst er
    rw [List.append_nil] at hp
    exact q D acc H5 hp (same_none (same_new nlf) nD) hD F5 B5
end
/-! ### the hands of a drawn room -/
def unS : V → Str
  | .str s => s
  | _ => ""
theorem perm_strs {ys : List V} {zs : List Str} (h : ys.Perm (zs.map V.str)) : ∃ ss : List Str, ys = ss.map V.str ∧ ss.Perm zs := by
  refine ⟨ys.map unS, ?_, ?_⟩
  · rw [List.map_map]
    symm
    refine (List.map_congr_left (g := id) fun y hy => ?_).trans (List.map_id _)
    obtain ⟨z, _, e⟩ := List.mem_map.mp (h.mem_iff.mp hy)
    subst e
    rfl
  · have q := h.map unS
    rw [List.map_map] at q
    have e : zs.map (unS ∘ V.str) = zs := (List.map_congr_left (g := id) fun z _ => rfl).trans (List.map_id _)
    rw [e] at q
    exact q
theorem flat_rep {α : Type} (x : α) : ∀ n : Nat, (List.replicate n [x]).flatten = List.replicate n x
  | 0 => rfl
  | n + 1 => by
    rw [List.replicate_succ, List.flatten_cons, flat_rep x n]
    rfl
def cnt (ss : List Str) : Nat := (ss.filter fun s => !decide (s = ("in" : Str))).length
theorem cnt_le (ss : List Str) : cnt ss ≤ ss.length := List.length_filter_le ..
theorem cut_drop (xs : List V) (k : Nat) : cutV xs (some ((k : Nat) : Int)) none = xs.drop k := by
  unfold cutV
  rw [HT.sIx_nat, HT.sIx_none]
  by_cases h : k ≤ xs.length
  · rw [Nat.min_eq_left h]
    exact List.take_of_length_le (by rw [List.length_drop]; exact Nat.le_refl _)
  · rw [Nat.min_eq_right (by omega), Nat.sub_self, List.take_zero, List.drop_eq_nil_of_le (by omega)]
structure HInv (f c sl hh : Addr) (ss : List Str) (H0 H : Hp) (i : Nat) (vs : List V) (hs : List HR) (left : Int) : Prop where
  fl : Flow H f c
  bt : But f H0 H
  hsl : H sl = some (.lst (ss.map V.str))
  hhh : H hh = some (.lst vs)
  al : All2 (HandAt H) vs hs
  len : hs.length = i
  good : ∀ h ∈ hs, GoodHand h
  lf : (cnt (ss.drop i) : Int) ≤ left
  sum : (hs.map fun h => needs h.wd).sum + left = 20
  nz : ∀ h ∈ hs, 0 ≤ needs h.wd
  one : ("hand" : Str) ∈ ss.take i → ∃ h ∈ hs, h.wd ≠ "out"
  n1 : sl ≠ f
  n2 : sl ≠ hh
  n3 : hh ≠ f
  n4 : hh ≠ c
  n5 : H0 hh = none
section
variable {f c sl hh : Addr} {ss : List Str} {H0 H H' : Hp} {i : Nat} {vs : List V} {hs : List HR} {left : Int}
theorem HInv.but (s : HInv f c sl hh ss H0 H i vs hs left) (F : Flow H' f c) (b : But f H H') : HInv f c sl hh ss H0 H' i vs hs left :=
  { s with fl := F, bt := s.bt.trans b, hsl := b _ _ s.hsl s.n1, hhh := b _ _ s.hhh s.n3, al := s.al.imp fun _ _ k => k.keep (TK.but s.fl b) }
theorem HInv.new {p : Addr} {o : HO} (s : HInv f c sl hh ss H0 H i vs hs left) (n : H p = none) : HInv f c sl hh ss H0 (upd H p o) i vs hs left :=
  { s with fl := s.fl.new n, bt := s.bt.new n, hsl := same_new n _ _ s.hsl, hhh := same_new n _ _ s.hhh, al := s.al.imp fun _ _ k => k.keep (TK.new n) }
theorem HInv.same (s : HInv f c sl hh ss H0 H i vs hs left) (k : Same H H') : HInv f c sl hh ss H0 H' i vs hs left :=
  { s with fl := s.fl.same k, bt := s.bt.same k, hsl := k _ _ s.hsl, hhh := k _ _ s.hhh, al := s.al.imp fun _ _ z => z.keep (TK.same k) }
theorem HInv.step {x : V} {h : HR} {sd : Str} (s : HInv f c sl hh ss H0 H i vs hs left) (hx : HandAt H x h) (g : GoodHand h) (z : 0 ≤ needs h.wd) (k : needs h.wd + (cnt (ss.drop (i + 1)) : Int) ≤ left) (e : ss[i]? = some sd) (o : sd = "hand" → h.wd ≠ "out") :
    HInv f c sl hh ss H0 (upd H hh (.lst (vs ++ [x]))) (i + 1) (vs ++ [x]) (hs ++ [h]) (left - needs h.wd) := by
  refine { s with fl := s.fl.lst s.n3 s.n4, bt := s.bt.own s.n5, hsl := by rw [upd_ne s.n2]; exact s.hsl, hhh := upd_same, al := (s.al.snoc hx).imp fun _ _ z => z.keep (TK.lst s.hhh), len := by rw [List.length_append, s.len]; rfl, good := ?_, lf := by omega, sum := ?_, nz := ?_, one := ?_ }
  · intro y hy
    rcases List.mem_append.mp hy with hy | hy
    · exact s.good y hy
    · obtain rfl : y = h := by simpa using hy
      exact g
  · have := s.sum
    rw [List.map_append, List.sum_append]
    simp only [List.map_cons, List.map_nil, List.sum_cons, List.sum_nil]
    omega
  · intro y hy
    rcases List.mem_append.mp hy with hy | hy
    · exact s.nz y hy
    · obtain rfl : y = h := by simpa using hy
      exact z
  · intro hm
    rw [List.take_add_one, e] at hm
    rcases List.mem_append.mp hm with hm | hm
    · obtain ⟨y, h1, h2⟩ := s.one hm
      exact ⟨y, List.mem_append_left _ h1, h2⟩
    · have e2 : ("hand" : Str) = sd := by simpa using hm
      exact ⟨h, List.mem_append_right _ (by simp), o e2.symm⟩
end
theorem cnt_cons {ss : List Str} {i : Nat} {sd : Str} (e : ss[i]? = some sd) : cnt (ss.drop i) = (if sd = "in" then 0 else 1) + cnt (ss.drop (i + 1)) := by
  have hi := (List.getElem?_eq_some_iff.mp e).1
  have e2 : ss.drop i = sd :: ss.drop (i + 1) := by
    rw [List.drop_eq_getElem_cons hi, (List.getElem?_eq_some_iff.mp e).2]
  rw [e2]
  unfold cnt
  rw [List.filter_cons]
  by_cases k : sd = "in"
  · rw [if_pos k, decide_eq_true k]
    simp
  · rw [if_neg k, decide_eq_false k]
    simp only [Bool.not_false, if_true, List.length_cons]
    omega
section
variable {P : Program} {w : World} {K : PySem.W.Frag} {mg : Str → Option Value} {base : Heap}
structure HandsOk (hs : List HR) : Prop where
  len : hs.length ≤ 12
  good : ∀ h ∈ hs, GoodHand h
  sum : (hs.map fun h => needs h.wd).sum ≤ 20
  nz : ∀ h ∈ hs, 0 ≤ needs h.wd
  one : ∃ h ∈ hs, h.wd ≠ "out"
def sp_law_hands (K : PySem.W.Frag) : Sp := fun vs H Q _ => ∃ (f c : Addr) (m : Int), vs = [.ref f, .int m] ∧ 1 ≤ m ∧ m ≤ 8 ∧ Flow H f c ∧
  ∀ (p : Addr) (xs : List V) (hs : List HR) (H' : Hp), H p = none → H' p = some (.lst xs) → All2 (HandAt H') xs hs → HandsOk hs → Flow H' f c → But f H H' → Q (.ref p) H'
theorem ok_law_hands {f : Addr} {fd : FuncData} (F : Fun K "_law_hands" "_law_hands" s_law_hands f fd) (T : Top K mg) : FnOk P w K mg base CX0 4 f fd ["_law_flow_here", "_law_many"] (sp_law_hands K) := by
  obtain ⟨f_law_shuffled, fd_law_shuffled, F_law_shuffled, b_law_shuffled, m_law_shuffled⟩ := T.d_law_shuffled
  have G_law_shuffled := ok_law_shuffled (P := P) (w := w) (base := base) F_law_shuffled T
  obtain ⟨f_law_rule, fd_law_rule, F_law_rule, b_law_rule, m_law_rule⟩ := T.d_law_rule
  have G_law_rule := ok_law_rule (P := P) (w := w) (base := base) F_law_rule T
  obtain ⟨f_law_needs, fd_law_needs, F_law_needs, b_law_needs, m_law_needs⟩ := T.d_law_needs
  have G_law_needs := ok_law_needs (P := P) (w := w) (base := base) F_law_needs T
  obtain ⟨f_law_pick, fd_law_pick, F_law_pick, b_law_pick, m_law_pick⟩ := T.d_law_pick
  have G_law_pick := ok_law_pick (P := P) (w := w) (base := base) F_law_pick T
  refine F.ok sc_law_hands (fun vs H Q E h => ?_) (fun cdv A outer s H vs Q E hr h => ?_)
  · obtain ⟨f, c, m, rfl, _⟩ := h
    rfl
  obtain ⟨f, c, m, rfl, m1, m8, hF, q⟩ := h
  let R1 : TS := fun D' σ' H' => D'.rt = Q ∧ ∃ (sl : Addr) (ss : List Str), σ' = [some (.ref f), some (.int m), some (.ref sl), none, none, none, none, none, none, none] ∧ H' sl = some (.lst (ss.map V.str)) ∧ sl ≠ f ∧ ss.length ≤ 12 ∧ ("hand" : Str) ∈ ss ∧ (∀ s ∈ ss, s = "in" ∨ s = "out" ∨ s = "hand") ∧ Flow H' f c ∧ But f H H'
  refine ⟨_, (pss_cons (ps_set (i := 2) sc_law_hands.nd rfl (Or.inl rfl) (pe_op op_cat (pe_op op_cat (pe_op op_rep (pe_lst (pa_cons pe_str pa_nil)) (pe_call G_law_pick (hr.mono (by decide)) (by rfl) m_law_pick F_law_pick.kp b_law_pick .nil pass0 (pa_cons (pv 0) (pa_cons pe_int pa_nil)))) (pe_op op_rep (pe_lst (pa_cons pe_str pa_nil)) (pe_call G_law_pick (hr.mono (by decide)) (by rfl) m_law_pick F_law_pick.kp b_law_pick .nil pass0 (pa_cons (pv 0) (pa_cons pe_int pa_nil))))) (pe_op op_rep (pe_lst (pa_cons pe_str pa_nil)) (pv 1))))
      (pss_cons (ps_set (i := 2) sc_law_hands.nd rfl (Or.inl rfl) (pe_call G_law_shuffled (hr.mono (by decide)) (by rfl) m_law_shuffled F_law_shuffled.kp b_law_shuffled .nil pass0 (pa_cons (pv 0) (pa_cons (pv 2) pa_nil))))
      (PSs.to (pss_cons (ps_set (i := 3) sc_law_hands.nd rfl (Or.inl rfl) pe_int)
      (pss_cons (ps_set (i := 4) sc_law_hands.nd rfl (Or.inl rfl) (pe_lst pa_nil))
      (pss_cons (ps_for PassesOwn.never rfl (pi_enumK K rfl (by rfl) T.m_enumerate (pa_cons (pv 2) pa_nil)) (pg_tupK K rfl rfl (pgs_cons (pg_name (i := 5) sc_law_hands.nd rfl (Or.inl rfl)) (pgs_cons (pg_name (i := 6) sc_law_hands.nd rfl (Or.inl rfl)) pgs_nil)))
        (pss_cons (ps_if (pt_cmpR op_eq (pv 6) pe_str (nomark _)) (pss_cons (ps_set (i := 7) sc_law_hands.nd rfl (Or.inl rfl) (pe_callB (call_len_seqK K rfl) (by rfl) T.m_len (by decide +kernel) (pa_cons (pe_lc (own := [("_law_other", 8)]) (g := gName 8) (by rfl) sc_law_hands.nd (pi_listK K rfl (pe_slice (sl_listK K rfl) (pv 2) (po_some (pe_op op_add (pv 5) pe_int)) po_none)) (blkOk_by (own := [("_law_other", 8)]) (N := N_law_hands) (sc := defScope s_law_hands) (by decide +kernel)) (fun _ _ _ _ _ => (pg_name (i := 8) sc_law_hands.nd rfl (Or.inl rfl))) (fun _ _ _ _ _ => pts_one (pt_cmpR op_ne (pv 8) pe_str (nomark _))) (fun _ _ _ _ _ => (pv 8))) pa_nil)))
      (pss_cons (ps_set (i := 9) sc_law_hands.nd rfl (Or.inl rfl) (pe_call G_law_rule (hr.mono (by decide)) (by rfl) m_law_rule F_law_rule.kp b_law_rule .nil pass0 (pa_cons (pv 0) (pa_cons (pe_op op_sub (pv 3) (pv 7)) pa_nil))))
      (pss_one (ps_expr (pe_bmK K rfl PySem.F.plainAttrs_list PySem.F.slot_list_append PySem.F.type_list_append mt_append (pv 4) (pa_cons (pe_tup (pa_cons (pv 9) (pa_cons (pe_call G_law_pick (hr.mono (by decide)) (by rfl) m_law_pick F_law_pick.kp b_law_pick .nil pass0 (pa_cons (pv 0) (pa_cons (pe_ix (ix_listK K rfl) (pe_lst (pa_cons pe_int (pa_cons pe_int (pa_cons pe_int pa_nil)))) (pe_call G_law_pick (hr.mono (by decide)) (by rfl) m_law_pick F_law_pick.kp b_law_pick .nil pass0 (pa_cons (pv 0) (pa_cons pe_int pa_nil))) (fun _ _ => rfl)) pa_nil))) pa_nil))) pa_nil)))))) (pss_one (ps_expr (pe_bmK K rfl PySem.F.plainAttrs_list PySem.F.slot_list_append PySem.F.type_list_append mt_append (pv 4) (pa_cons (pe_tup (pa_cons (pe_tup (pa_cons (pv 6) pa_nil)) (pa_cons pe_int pa_nil))) pa_nil)))))
      (pss_one (ps_set (i := 3) sc_law_hands.nd rfl (Or.inl rfl) (pe_op op_sub (pv 3) (pe_call G_law_needs (hr.mono (by decide)) (by rfl) m_law_needs F_law_needs.kp b_law_needs .nil pass0 (pa_cons (pe_ix (ix_tupK K rfl) (pe_ix (ix_listK K rfl) (pv 4) (pe_un un_neg pe_int) (fun _ _ => rfl)) pe_int (fun _ _ => rfl)) pa_nil)))))))
      (pss_one (ps_ret (pv 4)))))) R1 ?tail1))), ?_⟩
  case tail1 =>
    rintro D' σ' H1 ⟨eD, sl, ss, rfl, hsl, nsl, hlen, hhand, hall, F1, B1⟩
    refine ⟨(by show 0 ≤ sizeLine; decide), fun hh nhh => ?_⟩
    have I0 : HInv f c sl hh ss H (upd H1 hh (.lst [])) 0 [] [] 20 :=
      { fl := F1.new nhh, bt := B1.new nhh, hsl := same_new nhh _ _ hsl, hhh := upd_same, al := .nil, len := rfl, good := (fun _ h => nomatch h), lf := by have := cnt_le (ss.drop 0); rw [List.length_drop] at this; omega, sum := rfl, nz := (fun _ h => nomatch h), one := (fun h => nomatch h), n1 := nsl, n2 := ne_of_none hsl nhh, n3 := F1.ne nhh, n4 := F1.nec nhh, n5 := B1.none nhh (F1.ne nhh) }
    refine ⟨_, rfl, sl, _, rfl, SqL.of I0.hsl, for_it (n := ss.length) (fun i σ H2 => ∃ (vs : List V) (hs : List HR) (left : Int) (v5 v6 v7 v8 v9 : Option V), σ = [some (.ref f), some (.int m), some (.ref sl), some (.int left), some (.ref hh), v5, v6, v7, v8, v9] ∧ HInv f c sl hh ss H H2 i vs hs left)
      ⟨[], [], 20, none, none, none, none, none, rfl, I0⟩ ?_ ?_ ?_ ?_⟩
    · rintro i σ H2 hi ⟨vs, hs, left, v5, v6, v7, v8, v9, rfl, I⟩
      exact ⟨_, _, SqL.of I.hsl, by rw [List.getElem?_map, List.getElem?_eq_getElem hi]; rfl⟩
    · rintro σ H2 ⟨vs, hs, left, v5, v6, v7, v8, v9, rfl, I⟩
      exact ⟨_, SqL.of I.hsl, by rw [List.length_map]; exact Nat.le_refl _⟩
    · rintro i x σ H2 H3 hi ⟨vs, hs, left, v5, v6, v7, v8, v9, rfl, I⟩ ⟨t, y, rfl, nt, rfl, fy⟩
      have ei : ss[i]? = some ss[i] := List.getElem?_eq_getElem hi
      obtain ⟨sd, hsd⟩ : ∃ sd, sd = ss[i] := ⟨_, rfl⟩
      rw [← hsd] at ei
      have ey : y = V.str sd := by
        have := fy _ (SqL.of I.hsl)
        rw [List.getElem?_map, ei] at this
        exact (Option.some.inj this).symm
      subst ey
      have I1 := I.new (o := .tup [V.int ((i : Nat) : Int), V.str sd]) nt
      have hc1 := cnt_cons ei
      have hl := I.lf
      have sz : vs.length < sizeLine := small1000 (by rw [I.al.length, I.len]; omega)
      refine ⟨t, _, rfl, SqT.of upd_same, rfl, _, _, rfl, _, _, rfl, rfl, ?_⟩
      refine ⟨_, rfl, rfl, _, rfl, if_str (fun e => ?_) (fun e => ?_)⟩
      · -- a hand
        refine ⟨_, rfl, _, rfl, _, _, rfl, rfl, _, rfl, sl, _, rfl, SqL.of I1.hsl, fun cp ncp => ?_⟩
        have I2 := I1.new (o := .lst (cutV (ss.map V.str) (some (((i : Nat) : Int) + 1)) none)) ncp
        have ecut : cutV (ss.map V.str) (some (((i : Nat) : Int) + 1)) none = (ss.drop (i + 1)).map V.str := by
          rw [show ((i : Nat) : Int) + 1 = ((i + 1 : Nat) : Int) by omega, cut_drop, List.map_drop]
        refine ⟨cp, rfl, ⟨_, SqL.of upd_same⟩, fun D nD => lc_list (K := K) (a := cp) (xs := cutV (ss.map V.str) (some (((i : Nat) : Int) + 1)) none) (fun j H5 => ∃ acc : List V, H5 D = some (.lst acc) ∧ acc.length = cnt ((ss.drop (i + 1)).take j) ∧ H5 cp = some (.lst (cutV (ss.map V.str) (some (((i : Nat) : Int) + 1)) none)) ∧ HInv f c sl hh ss H H5 i vs hs left ∧ D ≠ cp ∧ D ≠ f ∧ D ≠ c ∧ D ≠ sl ∧ D ≠ hh ∧ H D = Option.none)
          ⟨[], upd_same, rfl, same_new nD _ _ upd_same, I2.new nD, (ne_of_none upd_same nD).symm, I2.fl.ne nD, I2.fl.nec nD, (ne_of_none I2.hsl nD).symm, (ne_of_none I2.hhh nD).symm, I2.bt.none nD (I2.fl.ne nD)⟩ (fun j H5 _ ⟨_, _, _, h, _⟩ => SqL.of h) ?_ ?_⟩
        · rintro j z H5 hz ⟨acc, hD, hacc, hcp, I5, d1, d2, d3, d4, d5, d6⟩
          rw [ecut, List.getElem?_map] at hz
          cases ez : (ss.drop (i + 1))[j]? with
          | none => rw [ez] at hz; cases hz
          | some so =>
            rw [ez] at hz
            obtain rfl : V.str so = z := Option.some.inj hz
            refine ⟨rfl, _, rfl, rfl, _, rfl, if_bl (fun k => ?_) (fun k => ?_)⟩
            · have k2 : ¬ so = "in" := fun y => by
                rw [y] at k
                exact absurd k (by decide +kernel)
              refine ⟨_, rfl, acc, hD, ?_, acc ++ [V.str so], upd_same, ?_, by rw [upd_ne d1.symm]; exact hcp, ?_, d1, d2, d3, d4, d5, d6⟩
              · rw [hacc]
                have := cnt_le ((ss.drop (i + 1)).take j)
                rw [List.length_take, List.length_drop] at this
                exact small1000 (by omega)
              · rw [List.length_append, hacc, List.take_add_one, ez]
                unfold cnt
                rw [List.filter_append, List.length_append]
                simp [k2]
              · exact { I5 with fl := I5.fl.lst d2 d3, bt := I5.bt.own d6, hsl := by rw [upd_ne d4.symm]; exact I5.hsl, hhh := by rw [upd_ne d5.symm]; exact I5.hhh, al := I5.al.imp fun _ _ y => y.keep (TK.lst hD) }
            · have k2 : so = "in" := by
                by_cases y : so = "in"
                · exact y
                · have k3 : (!decide (V.str so = V.str "in")) = false := k
                  rw [decide_eq_false (fun y2 => y (V.str.inj y2))] at k3
                  cases k3
              refine ⟨acc, hD, ?_, hcp, I5, d1, d2, d3, d4, d5, d6⟩
              rw [hacc, List.take_add_one, ez]
              unfold cnt
              rw [List.filter_append, List.length_append]
              simp [k2]
        · rintro H5 ⟨acc, hD, hacc, hcp, I5, d1, d2, d3, d4, d5, d6⟩
          have hacc2 : acc.length = cnt (ss.drop (i + 1)) := by
            rw [hacc, List.take_of_length_le]
            rw [ecut, List.length_map]
            exact Nat.le_refl _
          have hm0 : 0 ≤ left - ((acc.length : Nat) : Int) := by
            have hne : ¬ sd = "in" := by rw [e]; decide +kernel
            rw [hacc2]
            rw [hc1, if_neg hne] at hl
            omega
          refine ⟨D, _, rfl, .inl (SqL.of hD), ?_⟩
          refine ⟨_, rfl, _, rfl, _, rfl, _, _, rfl, rfl, f, c, _, rfl, hm0, I5.fl, fun r hR H6 hr6 gR n1 n0 mo F6 B6 => ?_⟩
          have I6 := I5.but F6 B6
          refine ⟨_, rfl, .inl ⟨rfl, _, SqL.of I6.hhh⟩, _, rfl, _, rfl, (by show 3 ≤ sizeLine; decide), fun ml nml => ?_⟩
          have I7 := I6.new (o := .lst [V.int 5, V.int 5, V.int 31]) nml
          refine ⟨_, rfl, f, c, 3, rfl, by decide, by decide +kernel, I7.fl, fun z H8 z0 z3 F8 B8 => ?_⟩
          have I8 := I7.but F8 B8
          have hml := B8 _ _ upd_same (I6.fl.ne nml)
          obtain ⟨mm, hmm, mk⟩ : ∃ mm : Int, atI [V.int 5, V.int 5, V.int 31] z = some (.int mm) ∧ (mm = 5 ∨ mm = 31) := by
            have : z = 0 ∨ z = 1 ∨ z = 2 := by omega
            rcases this with rfl | rfl | rfl
            · exact ⟨5, rfl, .inl rfl⟩
            · exact ⟨5, rfl, .inl rfl⟩
            · exact ⟨31, rfl, .inr rfl⟩
          refine ⟨ml, _, _, _, rfl, rfl, SqL.of hml, hmm, f, c, mm, rfl, by omega, (by rcases mk with rfl | rfl <;> decide +kernel), I8.fl, fun mo2 H9 o0 o1 F9 B9 => ?_⟩
          have I9 := I8.but F9 B9
          refine ⟨(by show 2 ≤ sizeLine; decide), fun t2 nt2 => ?_⟩
          have I10 := I9.new (o := .tup [V.ref r, V.int mo2]) nt2
          have sz10 : vs.length < sizeLine := sz
          refine ⟨hh, _, _, rfl, rfl, I10.hhh, sz10, ?_⟩
          have k9 : TK H6 H9 := ((TK.new nml).trans (TK.but I7.fl B8)).trans (TK.but I8.fl B9)
          have hx : HandAt (upd H9 t2 (.tup [V.ref r, V.int mo2])) (V.ref t2) ⟨hR.wd, hR.no, mo2⟩ := ⟨t2, r, rfl, upd_same, TK.new nt2 _ _ (k9 _ _ hr6)⟩
          have gd : GoodHand ⟨hR.wd, hR.no, mo2⟩ := ⟨.inl ⟨gR.wd, gR.no, gR.big⟩, o0, (show mo2 ≤ 30 by omega)⟩
          have nout : hR.wd ≠ "out" := fun y => by
            have := gR.wd
            rw [y] at this
            exact absurd this (by decide +kernel)
          have I11 := I10.step (h := ⟨hR.wd, hR.no, mo2⟩) hx gd n0 (by show needs hR.wd + _ ≤ left; rw [hacc2] at n1; omega) ei (fun _ => nout)
          refine ⟨_, rfl, _, rfl, 1, rfl, hh, _, -1, _, rfl, rfl, SqL.of I11.hhh, atI_last _ _, t2, _, _, _, rfl, rfl, SqT.of (TK.lst I10.hhh _ _ upd_same), atI_nat (j := 0) rfl, r, hR.wd, _, rfl, SqT.of (TK.lst I10.hhh _ _ (TK.new nt2 _ _ (k9 _ _ hr6))), fun H12 s12 => ⟨_, _, rfl, rfl, ?_⟩⟩
          exact ⟨_, _, _, _, _, _, _, _, rfl, I11.same s12⟩
      · -- a door
        refine ⟨_, rfl, .inl ⟨rfl, _, SqL.of I1.hhh⟩, _, rfl, (by show 1 ≤ sizeLine; decide), fun r nr => ⟨(by show 2 ≤ sizeLine; decide), fun t2 nt2 => ?_⟩⟩
        have I2 := (I1.new (o := .tup [V.str sd]) nr).new (o := .tup [V.ref r, V.int 0]) nt2
        refine ⟨hh, _, _, rfl, rfl, I2.hhh, sz, ?_⟩
        have hsd2 : sd = "in" ∨ sd = "out" := by
          rcases hall sd (List.mem_of_getElem? ei) with y | y | y
          · exact .inl y
          · exact .inr y
          · exact absurd y e
        have hn : needs sd = (if sd = "in" then 0 else 1) := by
          rcases hsd2 with y | y <;> rw [y] <;> decide +kernel
        have hx : HandAt (upd (upd (upd H2 t (.tup [V.int ((i : Nat) : Int), V.str sd])) r (.tup [V.str sd])) t2 (.tup [V.ref r, V.int 0])) (V.ref t2) ⟨sd, none, 0⟩ := ⟨t2, r, rfl, upd_same, same_new nt2 _ _ upd_same⟩
        have I3 := I2.step (h := ⟨sd, none, 0⟩) hx ⟨.inr ⟨hsd2, rfl⟩, (show (0 : Int) ≤ 0 by decide), (show (0 : Int) ≤ 30 by decide)⟩ (by show 0 ≤ needs sd; rw [hn]; split <;> decide) (by
          show needs sd + _ ≤ left
          rw [hn]
          rw [hc1] at hl
          by_cases y : sd = "in"
          · rw [if_pos y] at hl ⊢; omega
          · rw [if_neg y] at hl ⊢; omega) ei (fun y => absurd y e)
        refine ⟨_, rfl, _, rfl, 1, rfl, hh, _, -1, _, rfl, rfl, SqL.of I3.hhh, atI_last _ _, t2, _, _, _, rfl, rfl, SqT.of (TK.lst I2.hhh _ _ upd_same), atI_nat (j := 0) rfl, r, sd, _, rfl, SqT.of (TK.lst I2.hhh _ _ (same_new nt2 _ _ upd_same)), fun H12 s12 => ⟨_, _, rfl, rfl, ?_⟩⟩
        exact ⟨_, _, _, _, _, _, _, _, rfl, I3.same s12⟩
    · rintro σ H2 ⟨vs, hs, left, v5, v6, v7, v8, v9, rfl, I⟩
      refine ⟨_, rfl, ?_⟩
      rw [eD]
      refine q hh vs hs H2 I.n5 I.hhh I.al ⟨by rw [I.len]; exact hlen, I.good, ?_, I.nz, I.one (by rw [List.take_length]; exact hhand)⟩ I.fl I.bt
      have := I.sum
      have := I.lf
      omega
  refine ⟨(by show 1 ≤ sizeLine; decide), fun l1 nl1 => ?_⟩
  refine ⟨_, rfl, f, c, 3, rfl, by decide, by decide +kernel, hF.new nl1, fun v1 H1 a1 b1 F1 B1 => ?_⟩
  have g1 := B1 _ _ upd_same (hF.ne nl1)
  have small : ∀ v : Int, 0 ≤ v → v ≤ 8 → [V.str "in"].length * v.toNat ≤ sizeLine := fun v v0 v8 => little (by show 1 * v.toNat ≤ 1000; omega)
  refine ⟨l1, v1, _, rfl, rfl, g1, by omega, by omega, small v1 a1 (by omega), fun p1 np1 => ?_⟩
  rw [flat_rep]
  have F2 := F1.new (o := .lst (List.replicate v1.toNat (V.str "in"))) np1
  refine ⟨(by show 1 ≤ sizeLine; decide), fun l2 nl2 => ?_⟩
  refine ⟨_, rfl, f, c, 3, rfl, by decide, by decide +kernel, F2.new nl2, fun v2 H3 a2 b2 F3 B3 => ?_⟩
  have g2 := B3 _ _ upd_same (F2.ne nl2)
  have h1 := B3 _ _ (same_new nl2 _ _ upd_same) (F1.ne np1)
  refine ⟨l2, v2, _, rfl, rfl, g2, by omega, by omega, small v2 a2 (by omega), fun p2 np2 => ?_⟩
  rw [flat_rep]
  have F4 := F3.new (o := .lst (List.replicate v2.toNat (V.str "out"))) np2
  refine ⟨p1, p2, _, _, rfl, rfl, same_new np2 _ _ h1, upd_same, ?_, fun p3 np3 => ?_⟩
  · rw [List.length_replicate, List.length_replicate]; exact little (by omega)
  have F5 := F4.new (o := .lst (List.replicate v1.toNat (V.str "in") ++ List.replicate v2.toNat (V.str "out"))) np3
  refine ⟨(by show 1 ≤ sizeLine; decide), fun l4 nl4 => ⟨_, rfl, l4, m, _, rfl, rfl, upd_same, by omega, by omega, small m (by omega) m8, fun p5 np5 => ?_⟩⟩
  rw [flat_rep]
  have F6 := F5.new (o := .lst [V.str "hand"]) nl4
  have F7 := F6.new (o := .lst (List.replicate m.toNat (V.str "hand"))) np5
  refine ⟨p3, p5, _, _, rfl, rfl, same_new np5 _ _ (same_new nl4 _ _ upd_same), upd_same, ?_, fun p6 np6 => ?_⟩
  · rw [List.length_append, List.length_replicate, List.length_replicate, List.length_replicate]; exact little (by omega)
  refine ⟨_, rfl, _, rfl, f, c, p6, _, rfl, SqL.of upd_same, F7.ne np6, ?_, F7.new np6, fun p ys H8 hp np hy F8 B8 => ?_⟩
  · rw [List.length_append, List.length_append, List.length_replicate, List.length_replicate, List.length_replicate]; omega
  have ez : (List.replicate v1.toNat (V.str "in") ++ List.replicate v2.toNat (V.str "out")) ++ List.replicate m.toNat (V.str "hand") = ((List.replicate v1.toNat ("in" : Str) ++ List.replicate v2.toNat ("out" : Str)) ++ List.replicate m.toNat ("hand" : Str)).map V.str := by
    rw [List.map_append, List.map_append, List.map_replicate, List.map_replicate, List.map_replicate]
  rw [ez] at hp
  obtain ⟨ss, rfl, hss⟩ := perm_strs hp
  have pf : p ≠ f := fun y => by
    rw [y] at np
    obtain ⟨_, _, _, _, _, e1, _⟩ := F7.new (o := .lst ((List.replicate v1.toNat (V.str "in") ++ List.replicate v2.toNat (V.str "out")) ++ List.replicate m.toNat (V.str "hand"))) np6
    rw [e1] at np
    cases np
  refine ⟨rfl, p, ss, rfl, hy, pf, ?_, ?_, ?_, F8, But.trans ((((((((((But.refl.new nl1).trans B1).new np1).new nl2).trans B3).new np2).new np3).new nl4).new np5).new np6) B8⟩
  · rw [hss.length_eq, List.length_append, List.length_append, List.length_replicate, List.length_replicate, List.length_replicate]; omega
  · refine hss.mem_iff.mpr (List.mem_append_right _ (List.mem_replicate.mpr ⟨by omega, rfl⟩))
  · intro s hs
    rcases List.mem_append.mp (hss.mem_iff.mp hs) with hs | hs
    · rcases List.mem_append.mp hs with hs | hs
      · exact .inl (List.mem_replicate.mp hs).2
      · exact .inr (.inl (List.mem_replicate.mp hs).2)
    · exact .inr (.inr (List.mem_replicate.mp hs).2)
end
/-! ### rules as data -/
abbrev ruleD (h : HR) : List PyData := .str h.wd :: (match h.no with | none => [] | some n => [.int n])
theorem rule_dp {K : PySem.W.Frag} {H : Hp} {r : Addr} {h : HR} (e : H r = some (.tup (ruleL h))) : Dp K H (.ref r) (.tuple (ruleD h)) := by
  obtain ⟨wd, no, mom⟩ := h
  cases no with
  | none => exact .tup (SqT.of e) (.cons (.str _) .nil)
  | some n => exact .tup (SqT.of e) (.cons (.str _) (.cons (.int _) .nil))
theorem rule_shaped {h : HR} (k : PyData.canLay0 (.str h.wd) = true) : SeqAt.shaped (.tuple (ruleD h)) = true := by
  obtain ⟨wd, no, mom⟩ := h
  have k : PyData.canLay0 (.str wd) = true := k
  cases no <;> simp [SeqAt.shaped, PyData.canLay0, PyData.canLayAll0, PyData.depth, PyData.depthAll] <;> simpa [PyData.canLay0] using k
theorem GoodHand.lay {h : HR} (g : GoodHand h) : PyData.canLay0 (.str h.wd) = true := by
  have : h.wd ∈ nine ∨ h.wd = "in" ∨ h.wd = "out" := g.1.elim (fun k => .inl k.wd) (fun k => .inr k.1)
  rcases this with k | k | k
  · unfold nine at k
    simp only [List.mem_cons, List.not_mem_nil, or_false] at k
    rcases k with k | k | k | k | k | k | k | k | k <;> rw [k] <;> decide +kernel
  · rw [k]; decide +kernel
  · rw [k]; decide +kernel
theorem one_shaped {z : Str} (k : PyData.canLay0 (.str z) = true) : SeqAt.shaped (.tuple [.str z]) = true := rule_shaped (h := ⟨z, none, 0⟩) k
theorem at0 {xs : List V} {i : Nat} {v : V} (h : xs[i]? = some v) : atI xs (0 + ((i : Nat) : Int)) = some v := by
  rw [Int.zero_add]
  exact atI_nat h
theorem rule_eqv (h : HR) (z : Str) : PyData.eqv (.tuple (ruleD h)) (.tuple [.str z]) = (decide (h.wd = z) && h.no.isNone) := by
  obtain ⟨wd, no, mom⟩ := h
  have e : (wd == z) = decide (wd = z) := by
    by_cases k : wd = z
    · rw [k, decide_eq_true rfl]; exact beq_self_eq_true z
    · rw [decide_eq_false k]; exact beq_eq_false_iff_ne.mpr k
  cases no with
  | none =>
    show (wd == z && true) = (decide (wd = z) && true)
    rw [e]
  | some n =>
    show (wd == z && false) = (decide (wd = z) && false)
    rw [Bool.and_false, Bool.and_false]
theorem GoodHand.door {h : HR} (g : GoodHand h) (z : Str) (hz : z = "in" ∨ z = "out") : (decide (h.wd = z) && h.no.isNone) = decide (h.wd = z) := by
  by_cases k : h.wd = z
  · rw [decide_eq_true k, Bool.true_and]
    rcases g.1 with g | g
    · have := g.wd
      rw [k] at this
      rcases hz with rfl | rfl <;> exact absurd this (by decide +kernel)
    · rw [g.2]; rfl
  · rw [decide_eq_false k]; rfl
/-! ### numbers in lists -/
abbrev nV (n : Nat) : V := .int (n : Nat)
def unN : V → Nat
  | .int i => i.toNat
  | _ => 0
def unI : V → Int
  | .int i => i
  | _ => 0
theorem perm_inv {α : Type} {f : α → V} {g : V → α} (k : ∀ a, g (f a) = a) {ys : List V} {zs : List α} (h : ys.Perm (zs.map f)) : ∃ ss : List α, ys = ss.map f ∧ ss.Perm zs := by
  refine ⟨ys.map g, ?_, ?_⟩
  · rw [List.map_map]
    symm
    refine (List.map_congr_left (g := id) fun y hy => ?_).trans (List.map_id _)
    obtain ⟨z, _, e⟩ := List.mem_map.mp (h.mem_iff.mp hy)
    subst e
    show f (g (f z)) = f z
    rw [k]
  · have q := h.map g
    rw [List.map_map] at q
    have e : zs.map (g ∘ f) = zs := (List.map_congr_left (g := id) fun z _ => k z).trans (List.map_id _)
    rw [e] at q
    exact q
def nd (hs : List HR) (j : Nat) : Nat := match hs[j]? with | some h => (needs h.wd).toNat | none => 0
def tkTo (hs : List HR) : Nat → List Nat
  | 0 => []
  | n + 1 => tkTo hs n ++ List.replicate (nd hs n) n
theorem tk_count (hs : List HR) (k : Nat) : ∀ n, (tkTo hs n).count k = if k < n then nd hs k else 0
  | 0 => by simp [tkTo]
  | n + 1 => by
    unfold tkTo
    rw [List.count_append, tk_count hs k n, List.count_replicate]
    by_cases h1 : k < n
    · have h2 : ¬ (n == k) = true := by simp; omega
      rw [if_pos h1, if_neg h2, if_pos (show k < n + 1 by omega), Nat.add_zero]
    · by_cases h2 : n = k
      · subst h2
        rw [if_neg h1, if_pos (beq_self_eq_true n), if_pos (show n < n + 1 by omega), Nat.zero_add]
      · have h3 : ¬ (n == k) = true := by simpa using h2
        rw [if_neg h1, if_neg h3, if_neg (show ¬ k < n + 1 by omega)]
theorem tk_mem (hs : List HR) : ∀ n k, k ∈ tkTo hs n → k < n
  | 0, k, h => nomatch h
  | n + 1, k, h => by
    rcases List.mem_append.mp h with h | h
    · exact Nat.lt_succ_of_lt (tk_mem hs n k h)
    · rw [(List.mem_replicate.mp h).2]; exact Nat.lt_succ_self n
theorem tk_len (hs : List HR) (z : ∀ h ∈ hs, 0 ≤ needs h.wd) : ∀ n, n ≤ hs.length → ((tkTo hs n).length : Int) = ((hs.take n).map fun h => needs h.wd).sum
  | 0, _ => rfl
  | n + 1, hn => by
    have e : hs[n]? = some hs[n] := List.getElem?_eq_getElem (by omega)
    unfold tkTo
    rw [List.length_append, List.length_replicate, List.take_add_one, e, List.map_append, List.sum_append, Int.natCast_add, tk_len hs z n (by omega)]
    unfold nd
    rw [e]
    have := z hs[n] (List.getElem_mem _)
    simp only [Option.toList, List.map_cons, List.map_nil, List.sum_cons, List.sum_nil]
    omega
structure RoomOk (hs : List HR) (bs : List BR) : Prop where
  hands : hs.length ≤ 12
  good : ∀ h ∈ hs, GoodHand h
  ends : ∀ b ∈ bs, b.one < hs.length ∧ b.to < hs.length
  out : ∀ b ∈ bs, ∀ h, hs[b.one]? = some h → h.wd ≠ "out"
  th : ∀ b ∈ bs, b.th.length ≤ 6 ∧ True
  rank : ∃ rk : Nat → Int, ∀ b ∈ bs, b.th = [] → rk b.one < rk b.to
  count : ∀ k h, hs[k]? = some h → (((bs.map BR.to).count k : Nat) : Int) = needs h.wd
  many : bs.length ≤ 20
structure RoomAt (H : Hp) (r : Addr) (hs : List HR) (bs : List BR) : Prop where
  ex : ∃ (ha ba : Addr) (hv bv : List V), H r = some (.tup [.ref ha, .ref ba]) ∧ H ha = some (.tup hv) ∧ H ba = some (.tup bv) ∧ All2 (HandAt H) hv hs ∧ All2 (BeltAt H) bv bs
theorem RoomAt.keep {H H' : Hp} {r : Addr} {hs : List HR} {bs : List BR} (a : RoomAt H r hs bs) (k : TK H H') : RoomAt H' r hs bs := by
  obtain ⟨ha, ba, hv, bv, e1, e2, e3, a1, a2⟩ := a.ex
  exact ⟨ha, ba, hv, bv, k _ _ e1, k _ _ e2, k _ _ e3, a1.imp fun _ _ z => z.keep k, a2.imp fun _ _ z => z.keep k⟩
section
variable {P : Program} {w : World} {K : PySem.W.Frag} {mg : Str → Option Value} {base : Heap}
def sp_law_room (K : PySem.W.Frag) : Sp := fun vs H Q _ => ∃ (f c : Addr) (m : Int), vs = [.ref f, .int m] ∧ 1 ≤ m ∧ m ≤ 8 ∧ Flow H f c ∧
  ∀ (r : Addr) (hs : List HR) (bs : List BR) (H' : Hp), RoomAt H' r hs bs → RoomOk hs bs → 0 < hs.length → Flow H' f c → But f H H' → Q (.ref r) H'
/-- what stands while a room is drawn: the draws, the list of its hands -/
structure RI (f c hh : Addr) (H0 H : Hp) (xs : List V) (hs : List HR) : Prop where
  fl : Flow H f c
  bt : But f H0 H
  lh : H hh = some (.lst xs)
  al : All2 (HandAt H) xs hs
  n1 : hh ≠ f
  n2 : H0 hh = none
section
variable {f c hh : Addr} {H0 H H' : Hp} {xs : List V} {hs : List HR}
theorem RI.but (s : RI f c hh H0 H xs hs) (F : Flow H' f c) (b : But f H H') : RI f c hh H0 H' xs hs :=
  { s with fl := F, bt := s.bt.trans b, lh := b _ _ s.lh s.n1, al := s.al.imp fun _ _ k => k.keep (TK.but s.fl b) }
theorem RI.new {p : Addr} {o : HO} (s : RI f c hh H0 H xs hs) (n : H p = none) : RI f c hh H0 (upd H p o) xs hs :=
  { s with fl := s.fl.new n, bt := s.bt.new n, lh := same_new n _ _ s.lh, al := s.al.imp fun _ _ k => k.keep (TK.new n) }
theorem RI.same (s : RI f c hh H0 H xs hs) (k : Same H H') : RI f c hh H0 H' xs hs :=
  { s with fl := s.fl.same k, bt := s.bt.same k, lh := k _ _ s.lh, al := s.al.imp fun _ _ z => z.keep (TK.same k) }
theorem RI.lst {D : Addr} {as bs : List V} (s : RI f c hh H0 H xs hs) (h : H D = some (.lst as)) (d1 : D ≠ f) (d2 : D ≠ c) (d3 : D ≠ hh) (d4 : H0 D = none) : RI f c hh H0 (upd H D (.lst bs)) xs hs :=
  { s with fl := s.fl.lst d1 d2, bt := s.bt.own d4, lh := by rw [upd_ne d3.symm]; exact s.lh, al := s.al.imp fun _ _ z => z.keep (TK.lst h) }
end
theorem ok_law_room {f : Addr} {fd : FuncData} (F : Fun K "_law_room" "_law_room" s_law_room f fd) (T : Top K mg) : FnOk P w K mg base CX0 5 f fd ["_law_flow_here", "_law_most"] (sp_law_room K) := by
  obtain ⟨f_law_hands, fd_law_hands, F_law_hands, b_law_hands, m_law_hands⟩ := T.d_law_hands
  have G_law_hands := ok_law_hands (P := P) (w := w) (base := base) F_law_hands T
  obtain ⟨f_law_shuffled, fd_law_shuffled, F_law_shuffled, b_law_shuffled, m_law_shuffled⟩ := T.d_law_shuffled
  have G_law_shuffled := ok_law_shuffled (P := P) (w := w) (base := base) F_law_shuffled T
  obtain ⟨f_law_pick, fd_law_pick, F_law_pick, b_law_pick, m_law_pick⟩ := T.d_law_pick
  have G_law_pick := ok_law_pick (P := P) (w := w) (base := base) F_law_pick T
  obtain ⟨f_law_needs, fd_law_needs, F_law_needs, b_law_needs, m_law_needs⟩ := T.d_law_needs
  have G_law_needs := ok_law_needs (P := P) (w := w) (base := base) F_law_needs T
  obtain ⟨f_law_thing, fd_law_thing, F_law_thing, b_law_thing, m_law_thing⟩ := T.d_law_thing
  have G_law_thing := ok_law_thing (P := P) (w := w) (base := base) F_law_thing T
  refine F.ok sc_law_room (fun vs H Q E h => ?_) (fun cdv A outer s H vs Q E hr h => ?_)
  · obtain ⟨f, c, m, rfl, _⟩ := h
    rfl
  obtain ⟨f, c, m, rfl, m1, m8, hF, q⟩ := h
  have hm9 : m.natAbs.log2 < 9000 := by
    obtain ⟨j, rfl⟩ : ∃ j : Nat, m = (j : Int) := ⟨m.toNat, by omega⟩
    exact log_small (by omega)
  let R1 : TS := fun D' σ' H' => D'.rt = Q ∧ ∃ (hh rk gv : Addr) (xs : List V) (hs : List HR) (is : List Int) (gs : List Nat), σ' = [some (.ref f), some (.int m), some (.ref hh), some (.ref rk), some (.ref gv), none, none, none, none, none, none] ∧ RI f c hh H H' xs hs ∧ HandsOk hs ∧ H' rk = some (.lst (is.map V.int)) ∧ is.length = hs.length ∧ H' gv = some (.lst (gs.map nV)) ∧ gs ≠ [] ∧ gs.length ≤ 12 ∧ (∀ k ∈ gs, ∃ h, hs[k]? = some h ∧ h.wd ≠ "out") ∧ rk ≠ f ∧ gv ≠ f
  let R2 : TS := fun D' σ' H' => D'.rt = Q ∧ ∃ (hh rk gv tk : Addr) (xs : List V) (hs : List HR) (is : List Int) (gs ts : List Nat) (v5 : Option V), σ' = [some (.ref f), some (.int m), some (.ref hh), some (.ref rk), some (.ref gv), v5, some (.ref tk), none, none, none, none] ∧ RI f c hh H H' xs hs ∧ HandsOk hs ∧ H' rk = some (.lst (is.map V.int)) ∧ is.length = hs.length ∧ H' gv = some (.lst (gs.map nV)) ∧ gs ≠ [] ∧ gs.length ≤ 12 ∧ (∀ k ∈ gs, ∃ h, hs[k]? = some h ∧ h.wd ≠ "out") ∧ rk ≠ f ∧ gv ≠ f ∧ tk ≠ f ∧ H' tk = some (.lst (ts.map nV)) ∧ ts = tkTo hs hs.length
  refine ⟨_, (pss_cons (ps_set (i := 2) sc_law_room.nd rfl (Or.inr rfl) (pe_call G_law_hands (hr.mono (by decide)) (by rfl) m_law_hands F_law_hands.kp b_law_hands .nil pass0 (pa_cons (pv 0) (pa_cons (pe_op op_add pe_int (pe_call G_law_pick (hr.mono (by decide)) (by rfl) m_law_pick F_law_pick.kp b_law_pick .nil pass0 (pa_cons (pv 0) (pa_cons (pv 1) pa_nil)))) pa_nil))))
      (pss_cons (ps_set (i := 3) sc_law_room.nd rfl (Or.inl rfl) (pe_call G_law_shuffled (hr.mono (by decide)) (by rfl) m_law_shuffled F_law_shuffled.kp b_law_shuffled .nil pass0 (pa_cons (pv 0) (pa_cons (pe_listRg rfl (by rfl) T.m_list (prg_1 (by rfl) T.m_range (pe_callB (call_len_seqK K rfl) (by rfl) T.m_len (by decide +kernel) (pa_cons (pv 2) pa_nil)))) pa_nil))))
      (pss_cons (ps_setLc (i := 4) (own := [("_law_k", 5)]) (g := gName 5) (by rfl) sc_law_room.nd rfl rfl (sw_true rfl rfl rfl (by decide +kernel)) (pi_range1 (by rfl) T.m_range (pa_cons (pe_callB (call_len_seqK K rfl) (by rfl) T.m_len (by decide +kernel) (pa_cons (pv 2) pa_nil)) pa_nil)) (blkOk_by (own := [("_law_k", 5)]) (N := N_law_room) (sc := defScope s_law_room) (by decide +kernel)) (fun _ _ _ _ _ => (pg_name (i := 5) sc_law_room.nd rfl (Or.inl rfl))) (fun _ _ _ _ _ => pts_one (pt_cmpR (op_neDK K rfl hr.units) (pe_ix (ix_tupK K rfl) (pe_ix (ix_listK K rfl) (pv 2) (pv 5) (fun _ _ => rfl)) pe_int (fun _ _ => rfl)) (pe_tup (pa_cons pe_str pa_nil)) (nomark _))) (fun _ _ _ _ _ => (pv 5)))
      (PSs.to (pss_cons (ps_set (i := 6) sc_law_room.nd rfl (Or.inl rfl) (pe_lst pa_nil))
      (pss_cons (ps_for PassesOwn.never rfl (pi_range1 (by rfl) T.m_range (pa_cons (pe_callB (call_len_seqK K rfl) (by rfl) T.m_len (by decide +kernel) (pa_cons (pv 2) pa_nil)) pa_nil)) (pg_name (i := 5) sc_law_room.nd rfl (Or.inl rfl))
        (pss_one (ps_set (i := 6) sc_law_room.nd rfl (Or.inl rfl) (pe_op op_cat (pv 6) (pe_op op_rep (pe_lst (pa_cons (pv 5) pa_nil)) (pe_call G_law_needs (hr.mono (by decide)) (by rfl) m_law_needs F_law_needs.kp b_law_needs .nil pass0 (pa_cons (pe_ix (ix_tupK K rfl) (pe_ix (ix_listK K rfl) (pv 2) (pv 5) (fun _ _ => rfl)) pe_int (fun _ _ => rfl)) pa_nil)))))))
      (PSs.to (pss_cons (ps_set (i := 7) sc_law_room.nd rfl (Or.inl rfl) (pe_lst pa_nil))
      (pss_cons (ps_for PassesOwn.never rfl (pi_listK K rfl (pe_call G_law_shuffled (hr.mono (by decide)) (by rfl) m_law_shuffled F_law_shuffled.kp b_law_shuffled .nil pass0 (pa_cons (pv 0) (pa_cons (pv 6) pa_nil)))) (pg_name (i := 8) sc_law_room.nd rfl (Or.inl rfl))
        (pss_cons (ps_set (i := 9) sc_law_room.nd rfl (Or.inl rfl) (pe_ix (ix_listK K rfl) (pv 4) (pe_call G_law_pick (hr.mono (by decide)) (by rfl) m_law_pick F_law_pick.kp b_law_pick .nil pass0 (pa_cons (pv 0) (pa_cons (pe_callB (call_len_seqK K rfl) (by rfl) T.m_len (by decide +kernel) (pa_cons (pv 4) pa_nil)) pa_nil))) (fun _ _ => rfl)))
      (pss_cons (ps_set (i := 10) sc_law_room.nd rfl (Or.inl rfl) (pe_ix (ix_listK K rfl) (pe_lst (pa_cons pe_int (pa_cons pe_int (pa_cons pe_int (pa_cons pe_int (pa_cons pe_int (pa_cons pe_int (pa_cons pe_int (pa_cons pe_int pa_nil))))))))) (pe_call G_law_pick (hr.mono (by decide)) (by rfl) m_law_pick F_law_pick.kp b_law_pick .nil pass0 (pa_cons (pv 0) (pa_cons pe_int pa_nil))) (fun _ _ => rfl)))
      (pss_cons (ps_if (pt_cmpR op_ge (pe_ix (ix_listK K rfl) (pv 3) (pv 9) (fun _ _ => rfl)) (pe_ix (ix_listK K rfl) (pv 3) (pv 8) (fun _ _ => rfl)) (nomark _)) (pss_one (ps_set (i := 10) sc_law_room.nd rfl (Or.inl rfl) (pe_callB (call_max2 rfl) (by rfl) T.m_max (by decide +kernel) (pa_cons pe_int (pa_cons (pv 10) pa_nil))))) pss_nil)
      (pss_one (ps_expr (pe_bmK K rfl PySem.F.plainAttrs_list PySem.F.slot_list_append PySem.F.type_list_append mt_append (pv 7) (pa_cons (pe_tup (pa_cons (pv 9) (pa_cons (pv 8) (pa_cons (pe_callTy (call_tuple_ofK K rfl) (by rfl) T.m_tuple (by decide +kernel) (pa_cons (pe_lc (own := [("_law_k", 5)]) (g := gName 5) (tt := tYes) (by rfl) sc_law_room.nd (pi_range1 (by rfl) T.m_range (pa_cons (pv 10) pa_nil)) (blkOk_by (own := [("_law_k", 5)]) (N := N_law_room) (sc := defScope s_law_room) (by decide +kernel)) (fun _ _ _ _ _ => (pg_name (i := 5) sc_law_room.nd rfl (Or.inl rfl))) (fun _ _ _ _ _ => pts_nil) (fun _ _ _ _ _ => (pe_call G_law_thing (hr.mono (by decide)) (by rfl) m_law_thing F_law_thing.kp b_law_thing .nil pass0 (pa_cons (pv 0) pa_nil)))) pa_nil)) pa_nil)))) pa_nil))))))))
      (pss_one (ps_ret (pe_tup (pa_cons (pe_callTy (call_tuple_ofK K rfl) (by rfl) T.m_tuple (by decide +kernel) (pa_cons (pv 2) pa_nil)) (pa_cons (pe_callTy (call_tuple_ofK K rfl) (by rfl) T.m_tuple (by decide +kernel) (pa_cons (pv 7) pa_nil)) pa_nil))))))) R2 ?tail2))) R1 ?tail1)))), ?_⟩
  case tail2 =>
    rintro D' σ' H1 ⟨eD, hh, rk, gv, tk, xs, hs, is, gs, ts, v5, rfl, I1, ok, hrk, lis, hgv, gne, glen, gok, nrk, ngv, ntk, htk, ets⟩
    have hx : xs.length = hs.length := I1.al.length
    have len12 := ok.len
    have lts : ts.length ≤ 20 := by
      have a := tk_len hs ok.nz hs.length (Nat.le_refl _)
      rw [List.take_length, ← ets] at a
      have := ok.sum
      omega
    refine ⟨(by show 0 ≤ sizeLine; decide), fun bl nbl => ?_⟩
    have I2 := I1.new (o := .lst []) nbl
    refine ⟨_, rfl, _, rfl, f, c, tk, _, rfl, SqL.of (same_new nbl _ _ htk), ntk, by rw [List.length_map]; omega, I2.fl, fun sh ys H3 hp nsh hsh F3 B3 => ?_⟩
    obtain ⟨tt, rfl, htt⟩ := perm_inv (f := nV) (g := unN) (fun n => by show ((n : Nat) : Int).toNat = n; omega) hp
    have I3 := I2.but F3 B3
    have bf : bl ≠ f := I1.fl.ne nbl
    have bc : bl ≠ c := I1.fl.nec nbl
    have hbl3 := B3 _ _ upd_same bf
    have bsh : bl ≠ sh := fun e => by rw [← e, upd_same] at nsh; cases nsh
    have bnone : H bl = Option.none := I1.bt.none nbl bf
    have rank : Nat → Int := fun k => is.getD k 0
    refine ⟨sh, rfl, ⟨_, SqL.of hsh⟩, for_list (K := K) (a := sh) (xs := tt.map nV) (fun i σ H4 => ∃ (bv : List V) (bs : List BR) (v5 v8 v9 v10 : Option V), σ = [some (.ref f), some (.int m), some (.ref hh), some (.ref rk), some (.ref gv), v5, some (.ref tk), some (.ref bl), v8, v9, v10] ∧ RI f c hh H H4 xs hs ∧ H4 rk = some (.lst (is.map V.int)) ∧ H4 gv = some (.lst (gs.map nV)) ∧ H4 sh = some (.lst (tt.map nV)) ∧ H4 bl = some (.lst bv) ∧ All2 (BeltAt H4) bv bs ∧ bs.map BR.to = tt.take i ∧
        (∀ b ∈ bs, b.one < hs.length ∧ (∀ h, hs[b.one]? = some h → h.wd ≠ "out") ∧ b.th.length ≤ 6 ∧ (∀ x ∈ b.th, Small x) ∧ (b.th = [] → is.getD b.one 0 < is.getD b.to 0)))
      ⟨[], [], v5, none, none, none, rfl, I3, B3 _ _ (same_new nbl _ _ hrk) nrk, B3 _ _ (same_new nbl _ _ hgv) ngv, hsh, hbl3, .nil, rfl, (fun _ h => nomatch h)⟩ (fun i σ H4 _ ⟨_, _, _, _, _, _, _, _, _, _, h, _⟩ => SqL.of h) ?_ ?_⟩
    · rintro i y σ H4 hi ⟨bv, bs, v5, v8, v9, v10, rfl, I4, hrk4, hgv4, hsh4, hbl4, al, em, hb⟩
      rw [List.getElem?_map] at hi
      cases et : tt[i]? with
      | none => rw [et] at hi; cases hi
      | some to =>
      rw [et] at hi
      obtain rfl : nV to = y := Option.some.inj hi
      have toL : to < hs.length := tk_mem hs _ _ (by rw [← ets]; exact htt.mem_iff.mp (List.mem_of_getElem? et))
      have il : i < 20 := by have := (List.getElem?_eq_some_iff.mp et).1; rw [htt.length_eq] at this; omega
      have lb : bs.length = i := by
        have := congrArg List.length em
        rw [List.length_map, List.length_take, Nat.min_eq_left (Nat.le_of_lt (List.getElem?_eq_some_iff.mp et).1)] at this
        exact this
      have g0 : 0 < gs.length := List.length_pos_iff.mpr gne
      refine ⟨_, rfl, _, rfl, _, rfl, gv, _, rfl, .inl (SqL.of hgv4), f, c, _, rfl, (by rw [List.length_map]; omega), (by rw [List.length_map]; exact log_small (by omega)), I4.fl, fun z H5 z0 z1 F5 B5 => ?_⟩
      rw [List.length_map] at z1
      have I5 := I4.but F5 B5
      have hgv5 := B5 _ _ hgv4 ngv
      obtain ⟨one, eo, ho⟩ : ∃ one, atI (gs.map nV) z = some (nV one) ∧ one ∈ gs := by
        have hk : z.toNat < gs.length := by omega
        have ek : z = ((z.toNat : Nat) : Int) := by omega
        refine ⟨gs[z.toNat], ?_, List.getElem_mem _⟩
        have q2 : atI (gs.map nV) ((z.toNat : Nat) : Int) = some (nV gs[z.toNat]) := atI_nat (by rw [List.getElem?_map, List.getElem?_eq_getElem hk]; rfl)
        rw [← ek] at q2
        exact q2
      obtain ⟨ho1, eh1, hout⟩ := gok one ho
      have oneL : one < hs.length := (List.getElem?_eq_some_iff.mp eh1).1
      refine ⟨gv, _, _, _, rfl, rfl, SqL.of hgv5, eo, ?_⟩
      refine ⟨(by show 8 ≤ sizeLine; decide), fun tl ntl => ?_⟩
      have I6 := I5.new (o := .lst [V.int 0, V.int 0, V.int 0, V.int 1, V.int 1, V.int 2, V.int 3, V.int 6]) ntl
      refine ⟨_, rfl, f, c, 8, rfl, by decide, by decide +kernel, I6.fl, fun y2 H7 y0 y8 F7 B7 => ?_⟩
      have I7 := I6.but F7 B7
      have htl := B7 _ _ upd_same (I5.fl.ne ntl)
      obtain ⟨tr, htr, tr0, tr6⟩ : ∃ tr : Int, atI [V.int 0, V.int 0, V.int 0, V.int 1, V.int 1, V.int 2, V.int 3, V.int 6] y2 = some (.int tr) ∧ 0 ≤ tr ∧ tr ≤ 6 := by
        have : y2 = 0 ∨ y2 = 1 ∨ y2 = 2 ∨ y2 = 3 ∨ y2 = 4 ∨ y2 = 5 ∨ y2 = 6 ∨ y2 = 7 := by omega
        rcases this with rfl | rfl | rfl | rfl | rfl | rfl | rfl | rfl
        · exact ⟨0, rfl, by decide, by decide⟩
        · exact ⟨0, rfl, by decide, by decide⟩
        · exact ⟨0, rfl, by decide, by decide⟩
        · exact ⟨1, rfl, by decide, by decide⟩
        · exact ⟨1, rfl, by decide, by decide⟩
        · exact ⟨2, rfl, by decide, by decide⟩
        · exact ⟨3, rfl, by decide, by decide⟩
        · exact ⟨6, rfl, by decide, by decide⟩
      refine ⟨tl, _, _, _, rfl, rfl, SqL.of htl, htr, ?_⟩
      have k7 : But f H4 H7 := (B5.new ntl).trans B7
      have hrk7 := k7 _ _ hrk4 nrk
      have hgv7 := k7 _ _ hgv4 ngv
      have shf : sh ≠ f := fun e => by rw [e] at nsh; obtain ⟨_, _, _, _, _, e1, _⟩ := I2.fl; rw [e1] at nsh; cases nsh
      have hsh7 := k7 _ _ hsh4 shf
      have hbl7 := k7 _ _ hbl4 bf
      have tk7 : TK H4 H7 := (TK.but I4.fl B5).trans ((TK.new ntl).trans (TK.but I6.fl B7))
      have al7 : All2 (BeltAt H7) bv bs := al.imp fun _ _ z => z.keep tk7
      have r1 : (is.map V.int)[one]? = some (.int (is.getD one 0)) := by
        rw [List.getElem?_map, List.getD_eq_getElem?_getD, List.getElem?_eq_getElem (by omega)]; rfl
      have r2 : (is.map V.int)[to]? = some (.int (is.getD to 0)) := by
        rw [List.getElem?_map, List.getD_eq_getElem?_getD, List.getElem?_eq_getElem (by omega)]; rfl
      have bvl : bv.length = i := by rw [al.length, lb]
      -- the end of a turn, with so many trays
      refine ⟨_, rfl, _, rfl, rk, _, _, _, rfl, rfl, SqL.of hrk7, atI_nat r1, _, rfl, _, rfl, rk, _, _, _, rfl, rfl, SqL.of hrk7, atI_nat r2, _, _, rfl, rfl, _, rfl, if_bl (fun kk => ?_) (fun kk => ?_)⟩
      · refine ⟨_, rfl, _, _, rfl, ?_⟩
        generalize ht : (if tr > 1 then tr else 1) = tn
        have tn0 : 0 ≤ tn := by rw [← ht]; split <;> omega
        have tn6 : tn ≤ 6 := by rw [← ht]; split <;> omega
        have ttt : tn.toNat = 0 → is.getD one 0 < is.getD to 0 := fun e => by
          exfalso
          have : 1 ≤ tn := by rw [← ht]; split <;> omega
          omega
        refine ⟨_, rfl, .inl ⟨rfl, _, SqL.of hbl7⟩, _, rfl, _, rfl, _, rfl, _, rfl, by omega, by omega, fun D nD => lc_range (lo := 0) (n := tn.toNat) (fun j H8 => ∃ vs : List Int, vs.length = j ∧ H8 D = some (.lst (vs.map V.int)) ∧ (∀ x ∈ vs, Small x) ∧ RI f c hh H H8 xs hs ∧ But f H7 H8 ∧ TK H7 H8 ∧ D ≠ f ∧ D ≠ c ∧ D ≠ hh ∧ H D = Option.none ∧ H7 D = Option.none)
          ⟨[], rfl, upd_same, (fun _ h => nomatch h), I7.new nD, But.refl.new nD, TK.new nD, I7.fl.ne nD, I7.fl.nec nD, (ne_of_none I7.lh nD).symm, I7.bt.none nD (I7.fl.ne nD), nD⟩ ?_ ?_⟩
        · rintro j H8 hj ⟨vs, lv, hD, sm, I8, b8, t8, d1, d2, d3, d4, d5⟩
          refine ⟨rfl, yes_in ⟨_, rfl, f, c, rfl, I8.fl, fun x H9 sx F9 B9 => ⟨_, B9 _ _ hD d1, ?_, vs ++ [x], by rw [List.length_append, lv]; rfl, ?_, ?_, (I8.but F9 B9).lst (B9 _ _ hD d1) d1 d2 d3 d4, (b8.trans B9).own d5, (t8.trans (TK.but I8.fl B9)).trans (TK.lst (B9 _ _ hD d1)), d1, d2, d3, d4, d5⟩⟩⟩
          · rw [List.length_map, lv]; exact small1000 (by omega)
          · rw [upd_same, List.map_append]; rfl
          · intro y hy
            rcases List.mem_append.mp hy with hy | hy
            · exact sm y hy
            · obtain rfl : y = x := by simpa using hy
              exact sx
        · rintro H8 ⟨vs, lv, hD, sm, I8, b8, t8, d1, d2, d3, d4, d5⟩
          refine ⟨D, _, rfl, .inl ⟨SqL.of hD, fun g ng => ⟨(by show 3 ≤ sizeLine; decide), fun t nt => ?_⟩⟩⟩
          have I9 := (I8.new (o := .tup (vs.map V.int)) ng).new (o := .tup [nV one, nV to, V.ref g]) nt
          have hbl8 := same_new (o := .tup [nV one, nV to, V.ref g]) nt _ _ (same_new (o := .tup (vs.map V.int)) ng _ _ (b8 _ _ hbl7 bf))
          have t9 : TK H7 (upd (upd H8 g (.tup (vs.map V.int))) t (.tup [nV one, nV to, V.ref g])) := (t8.trans (TK.new ng)).trans (TK.new nt)
          have s9 : ∀ b o, H7 b = some o → b ≠ f → (upd (upd H8 g (.tup (vs.map V.int))) t (.tup [nV one, nV to, V.ref g])) b = some o := fun b o e n => same_new nt _ _ (same_new ng _ _ (b8 _ _ e n))
          have bh : bl ≠ hh := fun e => by
            have h1 := I1.lh
            rw [← e, nbl] at h1
            cases h1
          have brk : bl ≠ rk := fun e => by
            have h1 := hrk
            rw [← e, nbl] at h1
            cases h1
          have bgv : bl ≠ gv := fun e => by
            have h1 := hgv
            rw [← e, nbl] at h1
            cases h1
          refine ⟨bl, _, _, rfl, rfl, hbl8, small1000 (by rw [bvl]; omega), ?_⟩
          refine ⟨bv ++ [V.ref t], bs ++ [⟨one, to, vs⟩], _, _, _, _, rfl, I9.lst hbl8 bf bc bh bnone, ?_, ?_, ?_, upd_same, ?_, ?_, ?_⟩
          · rw [upd_ne brk.symm]; exact s9 _ _ hrk7 nrk
          · rw [upd_ne bgv.symm]; exact s9 _ _ hgv7 ngv
          · rw [upd_ne bsh.symm]; exact s9 _ _ hsh7 shf
          · exact ((al7.imp fun _ _ z => z.keep t9).snoc ⟨t, g, rfl, upd_same, same_new nt _ _ upd_same⟩).imp fun _ _ z => z.keep (TK.lst hbl8)
          · rw [List.map_append, em, List.take_add_one, et]; rfl
          · intro b hb2
            rcases List.mem_append.mp hb2 with hb2 | hb2
            · exact hb b hb2
            · obtain rfl : b = ⟨one, to, vs⟩ := by simpa using hb2
              refine ⟨oneL, fun h e => ?_, by show vs.length ≤ 6; omega, sm, fun e => ?_⟩
              · have e : hs[one]? = some h := e
                rw [eh1] at e
                cases e
                exact hout
              · have e : vs = [] := e
                rw [e] at lv
                exact ttt (by simpa using lv.symm)
      · obtain ⟨tn, ht⟩ : ∃ tn, tn = tr := ⟨_, rfl⟩
        rw [← ht]
        have tn0 : 0 ≤ tn := by omega
        have tn6 : tn ≤ 6 := by omega
        have ttt : tn.toNat = 0 → is.getD one 0 < is.getD to 0 := fun _ => by
          have : ¬ is.getD to 0 ≤ is.getD one 0 := of_decide_eq_false kk
          omega
        refine ⟨_, rfl, .inl ⟨rfl, _, SqL.of hbl7⟩, _, rfl, _, rfl, _, rfl, _, rfl, by omega, by omega, fun D nD => lc_range (lo := 0) (n := tn.toNat) (fun j H8 => ∃ vs : List Int, vs.length = j ∧ H8 D = some (.lst (vs.map V.int)) ∧ (∀ x ∈ vs, Small x) ∧ RI f c hh H H8 xs hs ∧ But f H7 H8 ∧ TK H7 H8 ∧ D ≠ f ∧ D ≠ c ∧ D ≠ hh ∧ H D = Option.none ∧ H7 D = Option.none)
          ⟨[], rfl, upd_same, (fun _ h => nomatch h), I7.new nD, But.refl.new nD, TK.new nD, I7.fl.ne nD, I7.fl.nec nD, (ne_of_none I7.lh nD).symm, I7.bt.none nD (I7.fl.ne nD), nD⟩ ?_ ?_⟩
        · rintro j H8 hj ⟨vs, lv, hD, sm, I8, b8, t8, d1, d2, d3, d4, d5⟩
          refine ⟨rfl, yes_in ⟨_, rfl, f, c, rfl, I8.fl, fun x H9 sx F9 B9 => ⟨_, B9 _ _ hD d1, ?_, vs ++ [x], by rw [List.length_append, lv]; rfl, ?_, ?_, (I8.but F9 B9).lst (B9 _ _ hD d1) d1 d2 d3 d4, (b8.trans B9).own d5, (t8.trans (TK.but I8.fl B9)).trans (TK.lst (B9 _ _ hD d1)), d1, d2, d3, d4, d5⟩⟩⟩
          · rw [List.length_map, lv]; exact small1000 (by omega)
          · rw [upd_same, List.map_append]; rfl
          · intro y hy
            rcases List.mem_append.mp hy with hy | hy
            · exact sm y hy
            · obtain rfl : y = x := by simpa using hy
              exact sx
        · rintro H8 ⟨vs, lv, hD, sm, I8, b8, t8, d1, d2, d3, d4, d5⟩
          refine ⟨D, _, rfl, .inl ⟨SqL.of hD, fun g ng => ⟨(by show 3 ≤ sizeLine; decide), fun t nt => ?_⟩⟩⟩
          have I9 := (I8.new (o := .tup (vs.map V.int)) ng).new (o := .tup [nV one, nV to, V.ref g]) nt
          have hbl8 := same_new (o := .tup [nV one, nV to, V.ref g]) nt _ _ (same_new (o := .tup (vs.map V.int)) ng _ _ (b8 _ _ hbl7 bf))
          have t9 : TK H7 (upd (upd H8 g (.tup (vs.map V.int))) t (.tup [nV one, nV to, V.ref g])) := (t8.trans (TK.new ng)).trans (TK.new nt)
          have s9 : ∀ b o, H7 b = some o → b ≠ f → (upd (upd H8 g (.tup (vs.map V.int))) t (.tup [nV one, nV to, V.ref g])) b = some o := fun b o e n => same_new nt _ _ (same_new ng _ _ (b8 _ _ e n))
          have bh : bl ≠ hh := fun e => by
            have h1 := I1.lh
            rw [← e, nbl] at h1
            cases h1
          have brk : bl ≠ rk := fun e => by
            have h1 := hrk
            rw [← e, nbl] at h1
            cases h1
          have bgv : bl ≠ gv := fun e => by
            have h1 := hgv
            rw [← e, nbl] at h1
            cases h1
          refine ⟨bl, _, _, rfl, rfl, hbl8, small1000 (by rw [bvl]; omega), ?_⟩
          refine ⟨bv ++ [V.ref t], bs ++ [⟨one, to, vs⟩], _, _, _, _, rfl, I9.lst hbl8 bf bc bh bnone, ?_, ?_, ?_, upd_same, ?_, ?_, ?_⟩
          · rw [upd_ne brk.symm]; exact s9 _ _ hrk7 nrk
          · rw [upd_ne bgv.symm]; exact s9 _ _ hgv7 ngv
          · rw [upd_ne bsh.symm]; exact s9 _ _ hsh7 shf
          · exact ((al7.imp fun _ _ z => z.keep t9).snoc ⟨t, g, rfl, upd_same, same_new nt _ _ upd_same⟩).imp fun _ _ z => z.keep (TK.lst hbl8)
          · rw [List.map_append, em, List.take_add_one, et]; rfl
          · intro b hb2
            rcases List.mem_append.mp hb2 with hb2 | hb2
            · exact hb b hb2
            · obtain rfl : b = ⟨one, to, vs⟩ := by simpa using hb2
              refine ⟨oneL, fun h e => ?_, by show vs.length ≤ 6; omega, sm, fun e => ?_⟩
              · have e : hs[one]? = some h := e
                rw [eh1] at e
                cases e
                exact hout
              · have e : vs = [] := e
                rw [e] at lv
                exact ttt (by simpa using lv.symm)
    · rintro σ H4 ⟨bv, bs, v5, v8, v9, v10, rfl, I4, hrk4, hgv4, hsh4, hbl4, al, em, hb⟩
      rw [List.length_map, List.take_length] at em
      have lb : bs.length = ts.length := by
        have := congrArg List.length em
        rw [List.length_map] at this
        rw [this, htt.length_eq]
      refine ⟨_, rfl, hh, _, rfl, .inl ⟨SqL.of I4.lh, fun a1 na1 => ⟨_, rfl, bl, _, rfl, .inl ⟨SqL.of (same_new na1 _ _ hbl4), fun a2 na2 => ⟨(by show 2 ≤ sizeLine; decide), fun a3 na3 => ?_⟩⟩⟩⟩⟩
      rw [eD]
      have k1 : TK H4 (upd (upd (upd H4 a1 (.tup xs)) a2 (.tup bv)) a3 (.tup [V.ref a1, V.ref a2])) := ((TK.new na1).trans (TK.new na2)).trans (TK.new na3)
      refine q a3 hs bs _ ⟨a1, a2, xs, bv, upd_same, same_new na3 _ _ (same_new na2 _ _ upd_same), same_new na3 _ _ upd_same, I4.al.imp fun _ _ z => z.keep k1, al.imp fun _ _ z => z.keep k1⟩ ⟨ok.len, ok.good, fun b hb2 => ⟨(hb b hb2).1, ?_⟩, fun b hb2 => (hb b hb2).2.1, fun b hb2 => ⟨(hb b hb2).2.2.1, trivial⟩, ⟨fun k => is.getD k 0, fun b hb2 => (hb b hb2).2.2.2.2⟩, fun k h hk => ?_, by omega⟩ (by obtain ⟨h1, hm1, _⟩ := ok.one; exact List.length_pos_of_mem hm1) (((I4.fl.new na1).new na2).new na3) (((I4.bt.new na1).new na2).new na3)
      · have : b.to ∈ bs.map BR.to := List.mem_map.mpr ⟨b, hb2, rfl⟩
        rw [em] at this
        exact tk_mem hs _ _ (by rw [← ets]; exact htt.mem_iff.mp this)
      · rw [em, htt.count_eq, ets, tk_count, if_pos (List.getElem?_eq_some_iff.mp hk).1]
        unfold nd
        rw [hk]
        have := ok.nz h (List.mem_of_getElem? hk)
        show (((needs h.wd).toNat : Nat) : Int) = needs h.wd
        omega
  case tail1 =>
    rintro D' σ' H1 ⟨eD, hh, rk, gv, xs, hs, is, gs, rfl, I1, ok, hrk, lis, hgv, gne, glen, gok, nrk, ngv⟩
    refine ⟨(by show 0 ≤ sizeLine; decide), fun tk ntk => ?_⟩
    have I2 := I1.new (o := .lst []) ntk
    have hx : xs.length = hs.length := I1.al.length
    refine ⟨_, rfl, hh, _, rfl, .inl (SqL.of I2.lh), _, rfl, by omega, (by rw [hx]; have := ok.len; omega), for_range (lo := 0) (n := xs.length) (fun i σ H2 => ∃ (tk : Addr) (v5 : Option V), σ = [some (.ref f), some (.int m), some (.ref hh), some (.ref rk), some (.ref gv), v5, some (.ref tk), none, none, none, none] ∧ RI f c hh H H2 xs hs ∧ H2 rk = some (.lst (is.map V.int)) ∧ H2 gv = some (.lst (gs.map nV)) ∧ tk ≠ f ∧ H2 tk = some (.lst ((tkTo hs i).map nV)))
      ⟨tk, none, rfl, I2, same_new ntk _ _ hrk, same_new ntk _ _ hgv, I1.fl.ne ntk, upd_same⟩ ?_ ?_⟩
    · rintro i σ H2 hi ⟨tk, v5, rfl, I3, hrk3, hgv3, tf, htk⟩
      have eh : hs[i]? = some hs[i] := List.getElem?_eq_getElem (by omega)
      obtain ⟨x, ex, ⟨t, r, rfl, e1, e2⟩⟩ := I3.al.get eh
      have z0 := ok.nz _ (List.mem_of_getElem? eh)
      have zs : needs hs[i].wd ≤ 3 := by
        unfold needs
        split
        · decide
        · split
          · decide
          · split <;> decide
      have sz : (tkTo hs i).length ≤ 20 := by
        have a := tk_len hs ok.nz i (by omega)
        have b : ((hs.take i).map fun h => needs h.wd).sum ≤ (hs.map fun h => needs h.wd).sum := by
          have e : hs.map (fun h => needs h.wd) = (hs.take i).map (fun h => needs h.wd) ++ (hs.drop i).map (fun h => needs h.wd) := by rw [← List.map_append, List.take_append_drop]
          rw [e, List.sum_append]
          have : 0 ≤ ((hs.drop i).map fun h => needs h.wd).sum := by
            have hz : ∀ h ∈ hs.drop i, 0 ≤ needs h.wd := fun h hh => ok.nz h (List.mem_of_mem_drop hh)
            revert hz
            generalize hs.drop i = l
            intro hz
            induction l with
            | nil => decide
            | cons a l ih =>
              have := hz a (List.mem_cons_self ..)
              have := ih fun h hh => hz h (List.mem_cons_of_mem _ hh)
              rw [List.map_cons, List.sum_cons]
              omega
          omega
        have := ok.sum
        omega
      refine ⟨_, rfl, _, rfl, (by show 1 ≤ sizeLine; decide), fun l1 nl1 => ?_⟩
      have I4 := I3.new (o := .lst [V.int (0 + ((i : Nat) : Int))]) nl1
      refine ⟨_, rfl, _, rfl, hh, _, _, _, rfl, rfl, SqL.of I4.lh, at0 ex, t, _, _, _, rfl, rfl, SqT.of (same_new nl1 _ _ e1), atI_nat (j := 0) rfl, r, hs[i].wd, _, rfl, SqT.of (same_new nl1 _ _ e2), fun H5 s5 => ?_⟩
      have I5 := I4.same s5
      have g1 := s5 _ _ upd_same
      have g2 := s5 _ _ (same_new nl1 _ _ htk)
      refine ⟨l1, _, _, rfl, rfl, g1, by omega, by omega, little (by show 1 * (needs hs[i].wd).toNat ≤ 1000; omega), fun l2 nl2 => ?_⟩
      rw [flat_rep]
      have I6 := I5.new (o := .lst (List.replicate (needs hs[i].wd).toNat (V.int (0 + ((i : Nat) : Int))))) nl2
      refine ⟨tk, l2, _, _, rfl, rfl, same_new nl2 _ _ g2, upd_same, ?_, fun l3 nl3 => ?_⟩
      · rw [List.length_map, List.length_replicate]; exact little (by omega)
      refine ⟨l3, _, rfl, I6.new nl3, same_new nl3 _ _ (same_new nl2 _ _ (s5 _ _ (same_new nl1 _ _ hrk3))), same_new nl3 _ _ (same_new nl2 _ _ (s5 _ _ (same_new nl1 _ _ hgv3))), I6.fl.ne nl3, ?_⟩
      rw [upd_same]
      have e : nd hs i = (needs hs[i].wd).toNat := by unfold nd; rw [eh]
      rw [show tkTo hs (i + 1) = tkTo hs i ++ List.replicate (nd hs i) i from rfl, List.map_append, List.map_replicate, e, Int.zero_add]
    · rintro σ H2 ⟨tk, v5, rfl, I3, hrk3, hgv3, tf, htk⟩
      exact ⟨eD, hh, rk, gv, tk, xs, hs, is, gs, _, v5, rfl, I3, ok, hrk3, lis, hgv3, gne, glen, gok, nrk, ngv, tf, htk, by rw [hx]⟩
  refine ⟨_, rfl, _, rfl, _, rfl, f, c, m, rfl, by omega, hm9, hF, fun v1 H1 a1 b1 F1 B1 => ?_⟩
  refine ⟨_, _, rfl, rfl, f, c, _, rfl, by omega, by omega, F1, fun hh xs hs H2 nhh hhh al ok F2 B2 => ?_⟩
  have hx : xs.length = hs.length := al.length
  have len12 := ok.len
  have nf : hh ≠ f := F1.ne nhh
  have I2 : RI f c hh H H2 xs hs := ⟨F2, B1.trans B2, hhh, al, nf, B1.none nhh nf⟩
  -- ranks
  refine ⟨_, rfl, _, rfl, hh, _, rfl, .inl (SqL.of I2.lh), _, rfl, ⟨by omega, by omega, by omega, by omega, by omega⟩, fun rg nrg => ?_⟩
  have I3 := I2.new (o := .lst (rgV 0 ((xs.length : Nat) : Int))) nrg
  refine ⟨f, c, rg, _, rfl, SqL.of upd_same, I2.fl.ne nrg, ?_, I3.fl, fun rk ys H4 hp nrk hrk F4 B4 => ?_⟩
  · rw [rgV_length]; omega
  have erg : rgV 0 ((xs.length : Nat) : Int) = ((List.range xs.length).map fun i => ((i : Nat) : Int)).map V.int := by
    unfold rgV
    rw [List.map_map, show (((xs.length : Nat) : Int) - 0).toNat = xs.length by omega]
    refine List.map_congr_left fun i _ => ?_
    show V.int (0 + ((i : Nat) : Int)) = V.int ((i : Nat) : Int)
    rw [Int.zero_add]
  rw [erg] at hp
  obtain ⟨is, rfl, his⟩ := perm_inv (f := V.int) (g := unI) (fun _ => rfl) hp
  have lis : is.length = hs.length := by rw [his.length_eq, List.length_map, List.length_range, hx]
  have I4 := I3.but F4 B4
  have rkf : rk ≠ f := I3.fl.ne nrk
  -- givers
  refine ⟨_, rfl, hh, _, rfl, .inl (SqL.of I4.lh), _, rfl, by omega, by omega, fun D nD => lc_range (lo := 0) (n := xs.length) (fun i H5 => ∃ gs : List Nat, H5 D = some (.lst (gs.map nV)) ∧ gs.length ≤ i ∧ RI f c hh H H5 xs hs ∧ H5 rk = some (.lst (is.map V.int)) ∧ (∀ k ∈ gs, ∃ h, hs[k]? = some h ∧ h.wd ≠ "out") ∧ (∀ k h, k < i → hs[k]? = some h → h.wd ≠ "out" → gs ≠ []) ∧ D ≠ f ∧ D ≠ c ∧ D ≠ hh ∧ D ≠ rk ∧ H D = Option.none)
    ⟨[], upd_same, Nat.le_refl _, I4.new nD, same_new nD _ _ hrk, (fun _ h => nomatch h), (fun k h hk => absurd hk (Nat.not_lt_zero _)), I4.fl.ne nD, I4.fl.nec nD, (ne_of_none I4.lh nD).symm, (ne_of_none hrk nD).symm, I4.bt.none nD (I4.fl.ne nD)⟩ ?_ ?_⟩
  · rintro i H5 hi ⟨gs, hD, lg, I5, hrk5, g1, g2, d1, d2, d3, d4, d5⟩
    have eh : hs[i]? = some hs[i] := List.getElem?_eq_getElem (by omega)
    obtain ⟨x, ex, ⟨t, r, rfl, e1, e2⟩⟩ := I5.al.get eh
    have gh := ok.good _ (List.mem_of_getElem? eh)
    refine ⟨rfl, _, rfl, _, rfl, hh, _, _, _, rfl, rfl, SqL.of I5.lh, at0 ex, t, _, _, _, rfl, rfl, SqT.of e1, atI_nat (j := 0) rfl, (by show 1 ≤ sizeLine; decide), fun o1 no1 => ?_⟩
    have I6 := I5.new (o := .tup [V.str "out"]) no1
    have hD6 : (upd H5 o1 (.tup [V.str "out"])) D = some (.lst (gs.map nV)) := same_new no1 _ _ hD
    refine ⟨_, _, rule_dp (same_new no1 _ _ e2), .tup (SqT.of upd_same) (.cons (.str _) .nil), rule_shaped gh.lay, one_shaped (by decide +kernel), _, rfl, ?_⟩
    rw [rule_eqv, gh.door "out" (.inr rfl)]
    by_cases k : hs[i].wd = "out"
    · rw [decide_eq_true k]
      refine if_bl (fun z => absurd z (by decide)) (fun _ => ⟨gs, hD6, by omega, I6, same_new no1 _ _ hrk5, g1, fun k' h' hk hk2 hk3 => ?_, d1, d2, d3, d4, d5⟩)
      by_cases y : k' = i
      · subst y
        rw [eh] at hk2
        cases hk2
        exact absurd k hk3
      · exact g2 k' h' (by omega) hk2 hk3
    · rw [decide_eq_false k]
      refine if_bl (fun _ => ⟨_, rfl, _, hD6, ?_, gs ++ [i], ?_, ?_, I6.lst hD6 d1 d2 d3 d5, ?_, ?_, fun _ _ _ _ _ z => by simp at z, d1, d2, d3, d4, d5⟩) (fun z => absurd z (by decide))
      · rw [List.length_map]; exact small1000 (by omega)
      · rw [upd_same, List.map_append, Int.zero_add]; rfl
      · rw [List.length_append]; show gs.length + 1 ≤ i + 1; omega
      · rw [upd_ne d4.symm]; exact same_new no1 _ _ hrk5
      · intro k' hk
        rcases List.mem_append.mp hk with hk | hk
        · exact g1 k' hk
        · obtain rfl : k' = i := by simpa using hk
          exact ⟨_, eh, k⟩
  · rintro H5 ⟨gs, hD, lg, I5, hrk5, g1, g2, d1, d2, d3, d4, d5⟩
    obtain ⟨h1, hm1, hm2⟩ := ok.one
    obtain ⟨k1, hk1⟩ := List.getElem?_of_mem hm1
    have k1l := (List.getElem?_eq_some_iff.mp hk1).1
    exact ⟨rfl, hh, rk, D, xs, hs, is, gs, rfl, I5, ok, hrk5, lis, hD, g2 k1 h1 (by omega) hk1 hm2, by omega, g1, rkf, d1⟩
end
/-! ### the order of work -/
/-- the belts without trays, their ends -/
def looseOf (bs : List BR) : List (Nat × Nat) := (bs.filter fun b => b.th.isEmpty).map fun b => (b.one, b.to)
def free (ls : List (Nat × Nat)) (left : List Nat) (k : Nat) : Prop := ∀ p ∈ ls, p.2 = k → p.1 ∉ left
/-- each stands as soon as it can -/
inductive Soon (ls : List (Nat × Nat)) : List Nat → List Nat → Prop
  | nil : Soon ls [] []
  | cons {left ord : List Nat} {k : Nat} : k ∈ left → free ls left k → (∀ j ∈ left, free ls left j → k ≤ j) → Soon ls (left.erase k) ord → Soon ls left (k :: ord)
def cN (p : Nat × Nat → Bool) (l : List (Nat × Nat)) : Int := ((l.filter p).length : Nat)
theorem cN_snoc (p : Nat × Nat → Bool) (l : List (Nat × Nat)) (x : Nat × Nat) : cN p (l ++ [x]) = cN p l + (if p x = true then 1 else 0) := by
  unfold cN
  rw [List.filter_append, List.length_append]
  cases h : p x <;> simp [h]
theorem cN_zero {p : Nat × Nat → Bool} {l : List (Nat × Nat)} : cN p l = 0 ↔ ∀ x ∈ l, p x = false := by
  unfold cN
  constructor
  · intro h x hx
    have e : (l.filter p).length = 0 := by omega
    have e2 := List.eq_nil_of_length_eq_zero e
    cases k : p x with
    | false => rfl
    | true =>
      have : x ∈ l.filter p := List.mem_filter.mpr ⟨hx, k⟩
      rw [e2] at this
      cases this
  · intro h
    have e : l.filter p = [] := List.filter_eq_nil_iff.mpr fun x hx => by rw [h x hx]; decide
    rw [e]
    rfl
abbrev owing (left : List Nat) (k : Nat) : Nat × Nat → Bool := fun p => decide (p.2 = k) && decide (p.1 ∈ left)
theorem owing_free {ls : List (Nat × Nat)} {left : List Nat} {k : Nat} : cN (owing left k) ls = 0 ↔ free ls left k := by
  rw [cN_zero]
  constructor
  · intro h p hp e1 e2
    have := h p hp
    have this : (decide (p.2 = k) && decide (p.1 ∈ left)) = false := this
    rw [decide_eq_true e1, decide_eq_true e2] at this
    cases this
  · intro h p hp
    show (decide (p.2 = k) && decide (p.1 ∈ left)) = false
    by_cases e1 : p.2 = k
    · rw [decide_eq_false (h p hp e1), Bool.and_false]
    · rw [decide_eq_false e1, Bool.false_and]
theorem cN_erase {ls : List (Nat × Nat)} {left : List Nat} {k r : Nat} (nd : left.Nodup) (hr : r ∈ left) : cN (owing left k) ls - cN (fun p => decide (p.1 = r) && decide (p.2 = k)) ls = cN (owing (left.erase r) k) ls := by
  induction ls with
  | nil => rfl
  | cons x l ih =>
    have e : ∀ q : Nat × Nat → Bool, cN q (x :: l) = (if q x = true then 1 else 0) + cN q l := fun q => by
      unfold cN
      rw [List.filter_cons]
      cases h : q x <;> simp [h] <;> omega
    have h1 : x.1 ∈ left.erase r ↔ x.1 ≠ r ∧ x.1 ∈ left := nd.mem_erase_iff
    have key : (if owing left k x = true then (1 : Int) else 0) - (if (decide (x.1 = r) && decide (x.2 = k)) = true then 1 else 0) = (if owing (left.erase r) k x = true then 1 else 0) := by
      by_cases a : x.2 = k
      · by_cases b : x.1 = r
        · have d : ¬ r ∈ left.erase r := fun z => (nd.mem_erase_iff.mp z).1 rfl
          simp [owing, a, b, hr, d]
        · by_cases c : x.1 ∈ left
          · have d : x.1 ∈ left.erase r := h1.mpr ⟨b, c⟩
            simp [owing, a, b, c, d]
          · have d : ¬ x.1 ∈ left.erase r := fun z => c (h1.mp z).2
            simp [owing, a, b, c, d]
      · simp [owing, a]
    rw [e, e, e, ← ih]
    omega
/-- some hand is free, where the belts without trays go up -/
theorem some_free {ls : List (Nat × Nat)} {rk : Nat → Int} (hr : ∀ p ∈ ls, rk p.1 < rk p.2) : ∀ {left : List Nat}, left ≠ [] → ∃ k ∈ left, free ls left k := by
  have low : ∀ left : List Nat, left ≠ [] → ∃ k ∈ left, ∀ j ∈ left, rk k ≤ rk j := by
    intro left
    induction left with
    | nil => intro h; exact absurd rfl h
    | cons a l ih =>
      intro _
      cases l with
      | nil => exact ⟨a, by simp, fun j hj => by have : j = a := by simpa using hj
                                                 rw [this]; exact Int.le_refl _⟩
      | cons b l =>
        obtain ⟨k, hk, h⟩ := ih (by simp)
        by_cases c : rk a ≤ rk k
        · exact ⟨a, by simp, fun j hj => by
            rcases List.mem_cons.mp hj with e | e
            · rw [e]; exact Int.le_refl _
            · exact Int.le_trans c (h j e)⟩
        · exact ⟨k, List.mem_cons_of_mem _ hk, fun j hj => by
            rcases List.mem_cons.mp hj with e | e
            · rw [e]; omega
            · exact h j e⟩
  intro left hl
  obtain ⟨k, hk, h⟩ := low left hl
  refine ⟨k, hk, fun p hp e hm => ?_⟩
  have h1 := h _ hm
  have h2 := hr p hp
  rw [e] at h2
  omega
theorem erase_map {α β : Type} (f : α → β) : ∀ (l : List α) (j : Nat), (l.map f).eraseIdx j = (l.eraseIdx j).map f
  | [], _ => rfl
  | _ :: _, 0 => rfl
  | a :: l, j + 1 => congrArg (f a :: ·) (erase_map f l j)
abbrev fL (n : Nat) (F : Nat → Int) : List V := (List.range n).map fun k => V.int (F k)
theorem fL_get {n k : Nat} {F : Nat → Int} (h : k < n) : (fL n F)[k]? = some (.int (F k)) := by
  rw [List.getElem?_map, List.getElem?_range h]; rfl
theorem fL_set {n k : Nat} {F : Nat → Int} {z : Int} : (fL n F).set k (.int z) = fL n fun j => if j = k then z else F j := by
  apply List.ext_getElem?
  intro i
  rw [List.getElem?_set]
  by_cases h : i < n
  · rw [fL_get h, fL_get h]
    by_cases e : k = i
    · subst e
      rw [if_pos rfl, if_pos rfl, if_pos (by rw [List.length_map, List.length_range]; exact h)]
    · rw [if_neg e, if_neg (fun z => e z.symm)]
  · have h1 : (fL n F)[i]? = none := List.getElem?_eq_none (by rw [List.length_map, List.length_range]; omega)
    have h2 : (fL n fun j => if j = k then z else F j)[i]? = none := List.getElem?_eq_none (by rw [List.length_map, List.length_range]; omega)
    rw [h1, h2]
    by_cases e : k = i
    · rw [if_pos e, if_neg (by rw [List.length_map, List.length_range]; omega)]
    · rw [if_neg e]
def PairAt (H : Hp) (v : V) (p : Nat × Nat) : Prop := ∃ t : Addr, v = .ref t ∧ H t = some (.tup [nV p.1, nV p.2])
theorem PairAt.keep {H H' : Hp} {v : V} {p : Nat × Nat} (a : PairAt H v p) (k : TK H H') : PairAt H' v p := by
  obtain ⟨t, e, h⟩ := a
  exact ⟨t, e, k _ _ h⟩
section
variable {P : Program} {w : World} {K : PySem.W.Frag} {mg : Str → Option Value} {base : Heap}
def sp_work_order (K : PySem.W.Frag) : Sp := fun vs H Q _ => ∃ (r : Addr) (hs : List HR) (bs : List BR) (rk : Nat → Int), vs = [.ref r] ∧ RoomAt H r hs bs ∧ hs.length ≤ 400 ∧ bs.length ≤ 400 ∧ (∀ b ∈ bs, b.one < hs.length ∧ b.to < hs.length) ∧ (∀ p ∈ looseOf bs, rk p.1 < rk p.2) ∧
  ∀ (p : Addr) (ord : List Nat) (H' : Hp), H p = none → H' p = some (.lst (ord.map nV)) → Same H H' → Soon (looseOf bs) (List.range hs.length) ord → Q (.ref p) H'
theorem ok_work_order {f : Addr} {fd : FuncData} (F : Fun K "work_order" "work_order" s_work_order f fd) (T : Top K mg) : FnOk P w K mg base CX0 1 f fd ["room"] (sp_work_order K) := by
  refine F.ok sc_work_order (fun vs H Q E h => ?_) (fun cdv A outer s H vs Q E hr h => ?_)
  · obtain ⟨r, hs, bs, rk, rfl, _⟩ := h
    rfl
  obtain ⟨r, hs, bs, rk, rfl, hR, lh, lb, ends, hrk, q⟩ := h
  obtain ⟨ha, ba, hv, bv, er, eh, eb, alh, alb⟩ := hR.ex
  have lhv := alh.length
  have lbv := alb.length
  have lls : (looseOf bs).length ≤ 400 := by
    unfold looseOf
    rw [List.length_map]
    exact Nat.le_trans (List.length_filter_le ..) lb
  have pls : ∀ p ∈ looseOf bs, p.1 < hs.length ∧ p.2 < hs.length := by
    intro p hp
    obtain ⟨b, hb, e⟩ := List.mem_map.mp hp
    have := ends b (List.mem_filter.mp hb).1
    rw [← e]
    exact this
  let R1 : TS := fun D' σ' H' => D'.rt = Q ∧ ∃ (lo : Addr) (lv : List V), σ' = [some (.ref r), some (.ref ha), some (.ref ba), some (.ref lo), none, none, none, none, none, none, none, none] ∧ H' lo = some (.lst lv) ∧ All2 (PairAt H') lv (looseOf bs) ∧ Same H H' ∧ H lo = none
  let R2 : TS := fun D' σ' H' => D'.rt = Q ∧ ∃ (lo ow : Addr) (lv : List V) (v4 v5 : Option V), σ' = [some (.ref r), some (.ref ha), some (.ref ba), some (.ref lo), v4, v5, none, some (.ref ow), none, none, none, none] ∧ H' lo = some (.lst lv) ∧ All2 (PairAt H') lv (looseOf bs) ∧ Same H H' ∧ H lo = none ∧ H ow = none ∧ lo ≠ ow ∧ H' ow = some (.lst (fL hs.length fun k => cN (owing (List.range hs.length) k) (looseOf bs)))
  refine ⟨_, (pss_cons (ps_asg (pv 0) (pg_tupK K rfl rfl (pgs_cons (pg_name (i := 1) sc_work_order.nd rfl (Or.inl rfl)) (pgs_cons (pg_name (i := 2) sc_work_order.nd rfl (Or.inl rfl)) pgs_nil))))
      (pss_cons (ps_setLc (i := 3) (own := [("giver", 4), ("taker", 5), ("things", 6)]) (g := gTup K 3 (gCons (gName 4) (gCons (gName 5) (gCons (gName 6) gNil)))) (by rfl) sc_work_order.nd rfl rfl (sw_true rfl rfl rfl (by decide +kernel)) (pi_tupK K rfl (pv 2)) (blkOk_by (own := [("giver", 4), ("taker", 5), ("things", 6)]) (N := N_work_order) (sc := defScope s_work_order) (by decide +kernel)) (fun _ _ _ _ _ => (pg_tupK K rfl rfl (pgs_cons (pg_name (i := 4) sc_work_order.nd rfl (Or.inl rfl)) (pgs_cons (pg_name (i := 5) sc_work_order.nd rfl (Or.inl rfl)) (pgs_cons (pg_name (i := 6) sc_work_order.nd rfl (Or.inl rfl)) pgs_nil))))) (fun _ _ _ _ _ => pts_one (pt_not (pt_truthK K rfl (pv 6) (by intro _; rfl)))) (fun _ _ _ _ _ => (pe_tup (pa_cons (pv 4) (pa_cons (pv 5) pa_nil)))))
      (PSs.to (pss_cons (ps_set (i := 7) sc_work_order.nd rfl (Or.inr rfl) (pe_op op_rep (pe_lst (pa_cons pe_int pa_nil)) (pe_callB (call_len_seqK K rfl) (by rfl) T.m_len (by decide +kernel) (pa_cons (pv 1) pa_nil))))
      (pss_cons (ps_for PassesOwn.never rfl (pi_listK K rfl (pv 3)) (pg_tupK K rfl rfl (pgs_cons (pg_name (i := 4) sc_work_order.nd rfl (Or.inl rfl)) (pgs_cons (pg_name (i := 5) sc_work_order.nd rfl (Or.inl rfl)) pgs_nil)))
        (pss_one (ps_augS (pv 7) (pv 5) (get_listK K rfl) pe_int ip_add set_list)))
      (PSs.to (pss_cons (ps_set (i := 8) sc_work_order.nd rfl (Or.inl rfl) (pe_listRg rfl (by rfl) T.m_list (prg_1 (by rfl) T.m_range (pe_callB (call_len_seqK K rfl) (by rfl) T.m_len (by decide +kernel) (pa_cons (pv 1) pa_nil)))))
      (pss_cons (ps_set (i := 9) sc_work_order.nd rfl (Or.inl rfl) (pe_lst pa_nil))
      (pss_cons (ps_while PassesOwn.never (pt_truthK K rfl (pv 8) (by intro _; rfl))
        (pss_cons (ps_set (i := 10) sc_work_order.nd rfl (Or.inl rfl) (pe_callB (cr_minKK K rfl rfl) (by rfl) T.m_min (by decide +kernel) (pa_cons (pe_lc (own := [("hand", 11)]) (g := gName 11) (by rfl) sc_work_order.nd (pi_listK K rfl (pv 8)) (blkOk_by (own := [("hand", 11)]) (N := N_work_order) (sc := defScope s_work_order) (by decide +kernel)) (fun _ _ _ _ _ => (pg_name (i := 11) sc_work_order.nd rfl (Or.inl rfl))) (fun _ _ _ _ _ => pts_one (pt_cmpR op_eq (pe_ix (ix_listK K rfl) (pv 7) (pv 11) (fun _ _ => rfl)) pe_int (nomark _))) (fun _ _ _ _ _ => (pv 11))) pa_nil)))
      (pss_cons (ps_expr (pe_bmK K rfl PySem.F.plainAttrs_list PySem.F.slot_list_remove PySem.F.type_list_remove mt_remove (pv 8) (pa_cons (pv 10) pa_nil)))
      (pss_cons (ps_expr (pe_bmK K rfl PySem.F.plainAttrs_list PySem.F.slot_list_append PySem.F.type_list_append mt_append (pv 9) (pa_cons (pv 10) pa_nil)))
      (pss_one (ps_for PassesOwn.never rfl (pi_listK K rfl (pv 3)) (pg_tupK K rfl rfl (pgs_cons (pg_name (i := 4) sc_work_order.nd rfl (Or.inl rfl)) (pgs_cons (pg_name (i := 5) sc_work_order.nd rfl (Or.inl rfl)) pgs_nil)))
        (pss_one (ps_if (pt_cmpR op_eq (pv 4) (pv 10) (nomark _)) (pss_one (ps_augS (pv 7) (pv 5) (get_listK K rfl) pe_int ip_sub set_list)) pss_nil))))))))
      (pss_one (ps_ret (pv 9)))))) R2 ?tail2))) R1 ?tail1))), ?_⟩
  case tail2 =>
    rintro D' σ' H1 ⟨eD, lo, ow, lv, v4, v5, rfl, hlo, al, s1, nlo, now, low, how⟩
    refine ⟨_, rfl, ha, _, rfl, .inr (SqT.of (s1 _ _ eh)), _, rfl, ⟨by omega, by omega, by omega, by omega, by omega⟩, fun lf nlf => ?_⟩
    refine ⟨(by show 0 ≤ sizeLine; decide), fun od nod => ?_⟩
    have erg : rgV 0 ((hv.length : Nat) : Int) = (List.range hs.length).map nV := by
      unfold rgV
      rw [show (((hv.length : Nat) : Int) - 0).toNat = hs.length by omega]
      refine List.map_congr_left fun i _ => ?_
      show V.int (0 + ((i : Nat) : Int)) = V.int ((i : Nat) : Int)
      rw [Int.zero_add]
    rw [erg] at nod ⊢
    have lf0 : H lf = none := same_none s1 nlf
    have od0 : H od = none := same_none (s1.trans (same_new nlf)) nod
    have lfod : lf ≠ od := ne_of_none upd_same nod
    have lflo : lo ≠ lf := ne_of_none hlo nlf
    have lfow : ow ≠ lf := ne_of_none how nlf
    have odlo : lo ≠ od := ne_of_none (same_new nlf _ _ hlo) nod
    have odow : ow ≠ od := ne_of_none (same_new nlf _ _ how) nod
    have tk2 : TK H1 (upd (upd H1 lf (.lst ((List.range hs.length).map nV))) od (.lst [])) := (TK.new nlf).trans (TK.new nod)
    let W : Nat → L2.St → Hp → Prop := fun mm σ H2 => ∃ (left ord : List Nat) (v4 v5 v10 v11 : Option V), σ = [some (.ref r), some (.ref ha), some (.ref ba), some (.ref lo), v4, v5, none, some (.ref ow), some (.ref lf), some (.ref od), v10, v11] ∧ mm = left.length ∧ left.Nodup ∧ (∀ k ∈ left, k < hs.length) ∧ H2 lo = some (.lst lv) ∧ All2 (PairAt H2) lv (looseOf bs) ∧ Same H H2 ∧ H2 lf = some (.lst (left.map nV)) ∧ H2 od = some (.lst (ord.map nV)) ∧ ord.length + left.length = hs.length ∧ H2 ow = some (.lst (fL hs.length fun k => cN (owing left k) (looseOf bs))) ∧ (∀ rest, Soon (looseOf bs) left rest → Soon (looseOf bs) (List.range hs.length) (ord ++ rest))
    refine ⟨W, ⟨_, List.range hs.length, [], v4, v5, none, none, rfl, rfl, List.nodup_range, fun k hk => List.mem_range.mp hk, same_new nod _ _ (same_new nlf _ _ hlo), al.imp fun _ _ z => z.keep tk2, (s1.trans (same_new nlf)).trans (same_new nod), same_new nod _ _ upd_same, upd_same, by rw [List.length_range]; exact Nat.zero_add _, same_new nod _ _ (same_new nlf _ _ how), fun rest h => h⟩, ?_⟩
    rintro mm σ H2 ⟨left, ord, w4, w5, w10, w11, rfl, rfl, ndl, hll, hlo2, al2, s2, hlf, hod, lol, how2, soon⟩
    refine ⟨_, rfl, _, .inl ⟨_, SqL.of hlf, rfl⟩, ?_⟩
    by_cases ne : left = []
    · subst ne
      refine if_bl (fun z => nomatch z) (fun _ => ⟨_, rfl, ?_⟩)
      rw [eD]
      have := soon [] .nil
      rw [List.append_nil] at this
      exact q od ord H2 od0 hod s2 this
    · have nb : (!(left.map nV).isEmpty) = true := by
        cases left with
        | nil => exact absurd rfl ne
        | cons a l => rfl
      refine if_bl (fun _ => ⟨W (left.length - 1), fun σ' H' hW => ⟨left.length - 1, by have := List.length_pos_iff.mpr ne; omega, hW⟩, ?_⟩) (fun z => by rw [nb] at z; cases z)
      obtain ⟨k0, hk0, fk0⟩ := some_free hrk ne
      -- the free ones
      refine ⟨_, rfl, lf, rfl, ⟨_, SqL.of hlf⟩, fun D nD => lc_list (K := K) (a := lf) (xs := left.map nV) (fun i H5 => ∃ fs : List Nat, H5 D = some (.lst (fs.map nV)) ∧ H5 lf = some (.lst (left.map nV)) ∧ H5 ow = some (.lst (fL hs.length fun k => cN (owing left k) (looseOf bs))) ∧ Same H2 H5 ∧ fs.length ≤ i ∧ (∀ k, k ∈ fs ↔ k ∈ left.take i ∧ free (looseOf bs) left k)) ⟨[], upd_same, same_new nD _ _ hlf, same_new nD _ _ how2, same_new nD, Nat.le_refl _, fun k => ⟨(fun z => nomatch z), (fun z => nomatch z.1)⟩⟩ (fun i H5 _ ⟨_, _, h, _⟩ => SqL.of h) ?_ ?_⟩
      · rintro i x H5 hx ⟨fs, hD, hlf5, how5, s5, lf5, mem⟩
        rw [List.getElem?_map] at hx
        cases ek : left[i]? with
        | none => rw [ek] at hx; cases hx
        | some k =>
        rw [ek] at hx
        obtain rfl : nV k = x := Option.some.inj hx
        have kl := hll k (List.mem_of_getElem? ek)
        refine ⟨rfl, _, rfl, _, rfl, ow, _, _, _, rfl, rfl, SqL.of how5, atI_nat (fL_get kl), rfl, _, rfl, if_bl (fun kk => ?_) (fun kk => ?_)⟩
        · have fk : free (looseOf bs) left k := owing_free.mp (V.int.inj (of_decide_eq_true kk))
          refine ⟨_, rfl, _, hD, ?_, fs ++ [k], ?_, ?_, ?_, Same.own s5 nD, by rw [List.length_append]; show fs.length + 1 ≤ i + 1; omega, fun j => ?_⟩
          · rw [List.length_map]
            have := (List.getElem?_eq_some_iff.mp ek).1
            exact small1000 (by omega)
          · rw [upd_same, List.map_append]; rfl
          · rw [upd_ne (ne_of_none hlf nD)]; exact hlf5
          · rw [upd_ne (ne_of_none how2 nD)]; exact how5
          · rw [List.mem_append, mem, List.take_add_one, ek, List.mem_append]
            constructor
            · rintro (h | h)
              · exact ⟨.inl h.1, h.2⟩
              · obtain rfl : j = k := by simpa using h
                exact ⟨.inr (by simp), fk⟩
            · rintro ⟨h | h, f⟩
              · exact .inl ⟨h, f⟩
              · obtain rfl : j = k := by simpa using h
                exact .inr (by simp)
        · have fk : ¬ free (looseOf bs) left k := fun z => of_decide_eq_false kk (congrArg V.int (owing_free.mpr z))
          refine ⟨fs, hD, hlf5, how5, s5, by omega, fun j => ?_⟩
          rw [mem, List.take_add_one, ek, List.mem_append]
          constructor
          · rintro ⟨h, f⟩
            exact ⟨.inl h, f⟩
          · rintro ⟨h | h, f⟩
            · exact ⟨h, f⟩
            · obtain rfl : j = k := by simpa using h
              exact absurd f fk
      · rintro H5 ⟨fs, hD, hlf5, how5, s5, lf5, mem⟩
        rw [List.length_map, List.take_length] at mem
        have hk0f : k0 ∈ fs := (mem k0).mpr ⟨hk0, fk0⟩
        refine ⟨D, fs.map fun k => ((k : Nat) : Int), rfl, SqL.of (by rw [hD, List.map_map]; rfl), by rw [List.length_map]; exact List.length_pos_of_mem hk0f, fun m hm hmin => ?_⟩
        obtain ⟨k, hk, rfl⟩ := List.mem_map.mp hm
        obtain ⟨hkl, fk⟩ := (mem k).mp hk
        have least : ∀ j ∈ left, free (looseOf bs) left j → k ≤ j := fun j h1 h2 => by
          have := hmin ((j : Nat) : Int) (List.mem_map.mpr ⟨j, (mem j).mpr ⟨h1, h2⟩, rfl⟩)
          omega
        have kl := hll k hkl
        obtain ⟨j, hj, hfirst, ees⟩ : ∃ j : Nat, left[j]? = some k ∧ (∀ m : Nat, m < j → left[m]? ≠ some k) ∧ left.eraseIdx j = left.erase k := by
          refine ⟨left.idxOf k, ?_, fun m hm => ?_, (List.erase_eq_eraseIdx_of_idxOf (rfl : left.idxOf k = left.idxOf k)).symm⟩
          · rw [List.getElem?_eq_getElem (List.idxOf_lt_length_of_mem hkl), List.getElem_idxOf]
          · intro e
            have := List.idxOf_lt_length_of_mem hkl
            have e1 : left[m] = k := (List.getElem?_eq_some_iff.mp e).2
            have e2 : left[left.idxOf k] = k := List.getElem_idxOf this
            have := (List.getElem_inj ndl (h₀ := by omega) (h₁ := this)).mp (e1.trans e2.symm)
            omega
        have elf : left.map nV = (left.map fun k => ((k : Nat) : Int)).map V.int := by rw [List.map_map]; rfl
        refine ⟨_, rfl, .inl ⟨rfl, _, SqL.of hlf5⟩, _, rfl, lf, left.map (fun k => ((k : Nat) : Int)), ((k : Nat) : Int), j, rfl, rfl, by rw [hlf5, elf], by rw [List.getElem?_map, hj]; rfl, fun m hm => ?_, ?_⟩
        · rw [List.getElem?_map]
          intro e
          cases em : left[m]? with
          | none => rw [em] at e; cases e
          | some y =>
            rw [em] at e
            have e : ((y : Nat) : Int) = ((k : Nat) : Int) := Option.some.inj e
            exact hfirst m hm (by rw [em]; congr 1; omega)
        have eer : ((left.map fun k => ((k : Nat) : Int)).eraseIdx j).map V.int = (left.erase k).map nV := by
          rw [← ees, erase_map, List.map_map]; rfl
        rw [eer]
        have hod5 := s5 _ _ hod
        have tk5 := TK.same s5
        have hlo5 := s5 _ _ hlo2
        have s6 : Same H (upd H5 lf (.lst ((left.erase k).map nV))) := Same.own (s2.trans s5) lf0
        have hod6 : (upd H5 lf (.lst ((left.erase k).map nV))) od = some (.lst (ord.map nV)) := by rw [upd_ne lfod.symm]; exact hod5
        have ll := lol
        have hlp := List.length_pos_of_mem hkl
        refine ⟨_, rfl, .inl ⟨rfl, _, SqL.of hod6⟩, _, rfl, od, _, _, rfl, rfl, hod6, by rw [List.length_map]; exact small1000 (by omega), ?_⟩
        have tk7 : TK H2 (upd (upd H5 lf (.lst ((left.erase k).map nV))) od (.lst (ord.map nV ++ [nV k]))) := (tk5.trans (TK.lst hlf5)).trans (TK.lst hod6)
        have hlo7 : (upd (upd H5 lf (.lst ((left.erase k).map nV))) od (.lst (ord.map nV ++ [nV k]))) lo = some (.lst lv) := by
          rw [upd_ne odlo, upd_ne lflo]; exact hlo5
        refine ⟨_, rfl, lo, rfl, ⟨_, SqL.of hlo7⟩, for_list (K := K) (a := lo) (xs := lv) (fun i σ H3 => ∃ v4 v5 : Option V, σ = [some (.ref r), some (.ref ha), some (.ref ba), some (.ref lo), v4, v5, none, some (.ref ow), some (.ref lf), some (.ref od), some (nV k), w11] ∧ H3 lo = some (.lst lv) ∧ All2 (PairAt H3) lv (looseOf bs) ∧ Same H H3 ∧ H3 lf = some (.lst ((left.erase k).map nV)) ∧ H3 od = some (.lst ((ord ++ [k]).map nV)) ∧ H3 ow = some (.lst (fL hs.length fun z => cN (owing left z) (looseOf bs) - cN (fun p => decide (p.1 = k) && decide (p.2 = z)) ((looseOf bs).take i))))
          ⟨w4, w5, rfl, hlo7, al2.imp fun _ _ z => z.keep tk7, Same.own s6 od0, by rw [upd_ne lfod, upd_same], by rw [upd_same, List.map_append]; rfl, ?_⟩ (fun i σ H3 _ ⟨_, _, _, h, _⟩ => SqL.of h) ?_ ?_⟩
        · rw [upd_ne odow, upd_ne lfow, how5]
          congr 2
        · rintro i x σ H3 hx ⟨u4, u5, rfl, hlo3, al3, s3, hlf3, hod3, how3⟩
          obtain ⟨p, ep, ⟨t, rfl, e1⟩⟩ := al3.getL hx
          have hp := pls p (List.mem_of_getElem? ep)
          have etk : (looseOf bs).take (i + 1) = (looseOf bs).take i ++ [p] := by rw [List.take_add_one, ep]; rfl
          refine ⟨t, _, rfl, SqT.of e1, rfl, _, _, rfl, _, _, rfl, rfl, ?_⟩
          refine ⟨_, rfl, _, rfl, rfl, _, rfl, if_bl (fun kk => ?_) (fun kk => ?_)⟩
          · have pk : p.1 = k := by have := V.int.inj (of_decide_eq_true kk); omega
            refine ⟨_, rfl, _, rfl, ow, _, p.2, _, rfl, rfl, SqL.of how3, fL_get hp.2, _, _, rfl, rfl, ow, _, _, p.2, rfl, rfl, how3, ?_, ?_⟩
            · unfold ixN
              rw [if_pos (by omega), if_pos (by rw [List.length_map, List.length_range]; omega), Int.toNat_natCast]
            · refine ⟨_, _, rfl, ?_, al3.imp fun _ _ z => z.keep (TK.lst how3), Same.own s3 now, ?_, ?_, ?_⟩
              · rw [upd_ne low]; exact hlo3
              · rw [upd_ne lfow.symm]; exact hlf3
              · rw [upd_ne odow.symm]; exact hod3
              · rw [upd_same, fL_set]
                congr 2
                refine List.map_congr_left fun z _ => ?_
                show V.int (if z = p.2 then (cN (owing left p.2) (looseOf bs) - cN (fun q => decide (q.1 = k) && decide (q.2 = p.2)) ((looseOf bs).take i)) - 1 else cN (owing left z) (looseOf bs) - cN (fun q => decide (q.1 = k) && decide (q.2 = z)) ((looseOf bs).take i)) = V.int (cN (owing left z) (looseOf bs) - cN (fun q => decide (q.1 = k) && decide (q.2 = z)) ((looseOf bs).take (i + 1)))
                rw [etk, cN_snoc]
                by_cases e : z = p.2
                · subst e
                  simp [pk]
                  omega
                · have : ¬ p.2 = z := fun y => e y.symm
                  simp [e, this]
          · have pk : ¬ p.1 = k := fun e => of_decide_eq_false kk (by rw [e])
            refine ⟨_, _, rfl, hlo3, al3, s3, hlf3, hod3, ?_⟩
            rw [how3]
            congr 2
            refine List.map_congr_left fun z _ => ?_
            show V.int (_ - cN _ _) = V.int (_ - cN _ _)
            rw [etk, cN_snoc]
            simp [pk]
        · rintro σ H3 ⟨u4, u5, rfl, hlo3, al3, s3, hlf3, hod3, how3⟩
          have le : (left.erase k).length = left.length - 1 := List.length_erase_of_mem hkl
          refine ⟨left.erase k, ord ++ [k], u4, u5, _, _, rfl, le.symm, ndl.erase k, fun y hy => hll y (List.mem_of_mem_erase hy), hlo3, al3, s3, hlf3, hod3, by rw [List.length_append, le]; show ord.length + 1 + (left.length - 1) = hs.length; omega, ?_, fun rest h => ?_⟩
          · rw [how3, List.take_of_length_le (by rw [← al3.length]; exact Nat.le_refl _)]
            congr 2
            refine List.map_congr_left fun z _ => ?_
            show V.int (_ - cN _ _) = V.int (cN _ _)
            rw [cN_erase ndl hkl]
          · have := soon (k :: rest) (.cons hkl fk least h)
            rw [List.append_assoc]
            exact this
  case tail1 =>
    rintro D' σ' H1 ⟨eD, lo, lv, rfl, hlo, al, s1, nlo⟩
    refine ⟨(by show 1 ≤ sizeLine; decide), fun l1 nl1 => ⟨_, rfl, ha, _, rfl, .inr (SqT.of (same_new nl1 _ _ (s1 _ _ eh))), l1, _, _, rfl, rfl, upd_same, by omega, by omega, little (by show 1 * _ ≤ 1000; omega), fun ow now => ?_⟩⟩
    have s2 : Same H _ := (s1.trans (same_new (o := .lst [V.int 0]) nl1)).trans (same_new (o := .lst (fL hs.length fun _ => 0)) now)
    have now0 : H ow = none := same_none (s1.trans (same_new nl1)) now
    have hlo2 := same_new (o := .lst (fL hs.length fun _ => 0)) now _ _ (same_new (o := .lst [V.int 0]) nl1 _ _ hlo)
    have low : lo ≠ ow := ne_of_none (same_new nl1 _ _ hlo) now
    have e0 : (List.replicate ((hv.length : Nat) : Int).toNat [V.int 0]).flatten = fL hs.length fun _ => 0 := by
      rw [flat_rep, Int.toNat_natCast, lhv]
      symm
      show (List.range hs.length).map (fun _ => V.int 0) = _
      rw [List.map_const', List.length_range]
    rw [e0]
    refine ⟨_, rfl, lo, rfl, ⟨_, SqL.of hlo2⟩, for_list (K := K) (a := lo) (xs := lv) (fun i σ H3 => ∃ v4 v5 : Option V, σ = [some (.ref r), some (.ref ha), some (.ref ba), some (.ref lo), v4, v5, none, some (.ref ow), none, none, none, none] ∧ H3 lo = some (.lst lv) ∧ All2 (PairAt H3) lv (looseOf bs) ∧ Same H H3 ∧ H3 ow = some (.lst (fL hs.length fun k => cN (fun p => decide (p.2 = k)) ((looseOf bs).take i))))
      ⟨none, none, rfl, hlo2, al.imp fun _ _ z => z.keep ((TK.new nl1).trans (TK.new now)), s2, upd_same⟩ (fun i σ H3 _ ⟨_, _, _, h, _⟩ => SqL.of h) ?_ ?_⟩
    · rintro i x σ H3 hx ⟨v4, v5, rfl, hlo3, al3, s3, how⟩
      obtain ⟨p, ep, ⟨t, rfl, e1⟩⟩ := al3.getL hx
      have hp := pls p (List.mem_of_getElem? ep)
      refine ⟨t, _, rfl, SqT.of e1, rfl, _, _, rfl, _, _, rfl, rfl, ?_⟩
      refine ⟨_, rfl, _, rfl, ow, _, p.2, _, rfl, rfl, SqL.of how, fL_get hp.2, _, _, rfl, rfl, ow, _, _, p.2, rfl, rfl, how, ?_, ?_⟩
      · unfold ixN
        rw [if_pos (by omega), if_pos (by rw [List.length_map, List.length_range]; omega), Int.toNat_natCast]
      · refine ⟨_, _, rfl, ?_, al3.imp fun _ _ z => z.keep (TK.lst how), Same.own s3 now0, ?_⟩
        · rw [upd_ne low]; exact hlo3
        · rw [upd_same, fL_set]
          congr 2
          refine List.map_congr_left fun k _ => ?_
          show V.int (if k = p.2 then cN (fun q => decide (q.2 = p.2)) ((looseOf bs).take i) + 1 else cN (fun q => decide (q.2 = k)) ((looseOf bs).take i)) = V.int (cN (fun q => decide (q.2 = k)) ((looseOf bs).take (i + 1)))
          rw [List.take_add_one, ep, show (some p).toList = [p] from rfl, cN_snoc]
          by_cases e : k = p.2
          · subst e
            simp
          · have : ¬ p.2 = k := fun z => e z.symm
            simp [e, this]
    · rintro σ H3 ⟨v4, v5, rfl, hlo3, al3, s3, how⟩
      refine ⟨eD, lo, ow, lv, v4, v5, rfl, hlo3, al3, s3, nlo, now0, low, ?_⟩
      rw [how, List.take_of_length_le (by rw [← al3.length]; exact Nat.le_refl _)]
      congr 2
      refine List.map_congr_left fun k _ => ?_
      show V.int (cN (fun q => decide (q.2 = k)) (looseOf bs)) = V.int (cN (owing (List.range hs.length) k) (looseOf bs))
      have e : (looseOf bs).filter (fun q => decide (q.2 = k)) = (looseOf bs).filter (owing (List.range hs.length) k) := List.filter_congr fun p hp => by
        have := (pls p hp).1
        show decide (p.2 = k) = (decide (p.2 = k) && decide (p.1 ∈ List.range hs.length))
        rw [decide_eq_true (List.mem_range.mpr this), Bool.and_true]
      unfold cN
      rw [e]
  refine ⟨_, rfl, r, _, rfl, SqT.of er, rfl, _, _, rfl, _, _, rfl, rfl, ?_⟩
  refine ⟨_, rfl, ba, rfl, ⟨_, SqT.of eb⟩, fun D nD => lc_tup (K := K) (a := ba) (xs := bv) (fun i H5 => ∃ lv : List V, H5 D = some (.lst lv) ∧ All2 (PairAt H5) lv (looseOf (bs.take i)) ∧ Same H H5) ⟨[], upd_same, .nil, same_new nD⟩ (fun i H5 _ ⟨_, _, _, s5⟩ => SqT.of (s5 _ _ eb)) ?_ ?_⟩
  · rintro i x H5 hx ⟨lv, hD, al, s5⟩
    obtain ⟨b, eb2, ⟨t, g, rfl, e1, e2⟩⟩ := alb.getL hx
    have il : i < bs.length := (List.getElem?_eq_some_iff.mp eb2).1
    have elo : looseOf (bs.take (i + 1)) = looseOf (bs.take i) ++ (if b.th.isEmpty = true then [(b.one, b.to)] else []) := by
      unfold looseOf
      rw [List.take_add_one, eb2, List.filter_append, List.map_append]
      congr 1
      cases h : b.th.isEmpty <;> simp [h]
    refine ⟨t, _, rfl, SqT.of (s5 _ _ e1), rfl, _, _, rfl, _, _, rfl, _, _, rfl, rfl, rfl, _, rfl, _, .inr (.inl ⟨_, SqT.of (s5 _ _ e2), rfl⟩), ?_⟩
    have lvl : lv.length ≤ 400 := by
      rw [al.length]
      unfold looseOf
      rw [List.length_map]
      refine Nat.le_trans (List.length_filter_le ..) ?_
      rw [List.length_take]
      omega
    refine if_bl (fun kk => ?_) (fun kk => ?_)
    · have ke : b.th.isEmpty = true := by
        cases h : b.th with
        | nil => rfl
        | cons a l => rw [h] at kk; cases kk
      refine ⟨_, rfl, _, rfl, (by show 2 ≤ sizeLine; decide), fun u nu => ⟨lv, same_new nu _ _ hD, small1000 (by omega), lv ++ [V.ref u], upd_same, ?_, ?_⟩⟩
      · rw [elo, if_pos ke]
        exact ((al.imp fun _ _ z => z.keep (TK.new nu)).snoc ⟨u, rfl, upd_same⟩).imp fun _ _ z => z.keep (TK.lst (same_new nu _ _ hD))
      · exact Same.own (s5.trans (same_new nu)) nD
    · have ke : ¬ b.th.isEmpty = true := by
        cases h : b.th with
        | nil => rw [h] at kk; cases kk
        | cons a l => intro z; cases z
      refine ⟨lv, hD, ?_, s5⟩
      rw [elo, if_neg ke, List.append_nil]
      exact al
  · rintro H5 ⟨lv, hD, al, s5⟩
    rw [List.take_of_length_le (by omega)] at al
    exact ⟨rfl, D, lv, rfl, hD, al, s5, nD⟩
end
/-! ### what rules make, bells -/
def mk2 (wd : Str) (a b : Int) : Int :=
  if wd = "sum" then a + b else if wd = "gap" then a - b else if wd = "below" then (if a < b then 1 else 0) else if wd = "most" then (if b > a then b else a) else (if b < a then b else a)
def mk (wd : Str) (n a b c : Int) : Int :=
  if wd = "always" then n else if wd = "times" then n * a else if wd = "pick" then (if a = 0 then c else b) else if wd = "same" ∨ wd = "out" then a else mk2 wd a b
def mkR (h : HR) (xs : List Int) : Int := mk h.wd (h.no.getD 0) (xs.getD 0 0) (xs.getD 1 0) (xs.getD 2 0)
/-- the hands whose rule is this door's -/
def doorsOf (z : Str) (hs : List HR) : List Nat := (List.range hs.length).filter fun i => decide (hs[i]?.map HR.wd = some z)
theorem mem_doors {z : Str} {hs : List HR} {k : Nat} : k ∈ doorsOf z hs ↔ ∃ h, hs[k]? = some h ∧ h.wd = z := by
  unfold doorsOf
  rw [List.mem_filter, List.mem_range, decide_eq_true_eq]
  constructor
  · rintro ⟨a, b⟩
    rw [List.getElem?_eq_getElem a] at b
    exact ⟨_, List.getElem?_eq_getElem a, Option.some.inj b⟩
  · rintro ⟨h, a, b⟩
    refine ⟨(List.getElem?_eq_some_iff.mp a).1, ?_⟩
    rw [a, ← b]
    rfl
theorem doors_nodup {z : Str} {hs : List HR} : (doorsOf z hs).Nodup := List.nodup_range.filter _
theorem doors_len {z : Str} {hs : List HR} : (doorsOf z hs).length ≤ hs.length := by
  refine Nat.le_trans (List.length_filter_le ..) ?_
  rw [List.length_range]
  exact Nat.le_refl _
abbrev gD (m : List Int) (k : Nat) : Int := m.getD k 0
def valB (f : Nat → Int) (b : BR) : Int := match b.th with | [] => f b.one | x :: _ => x
def takes (cur : List BR) (f : Nat → Int) (k : Nat) : List Int := (cur.filter fun b => decide (b.to = k)).map (valB f)
theorem valB_nil {f : Nat → Int} {b : BR} (h : b.th = []) : valB f b = f b.one := by unfold valB; rw [h]
theorem takes_ext {cur : List BR} {f g : Nat → Int} {k : Nat} (h : ∀ b ∈ cur, b.to = k → b.th = [] → f b.one = g b.one) : takes cur f k = takes cur g k := by
  unfold takes
  refine List.map_congr_left fun b hb => ?_
  have hb := List.mem_filter.mp hb
  cases e : b.th with
  | nil => rw [valB_nil e, valB_nil e]; exact h b hb.1 (of_decide_eq_true hb.2) e
  | cons x l => unfold valB; rw [e]
structure IsBell (hs : List HR) (cur : List BR) (ins m : List Int) : Prop where
  len : m.length = hs.length
  door : ∀ j k : Nat, (doorsOf "in" hs)[j]? = some k → m[k]? = ins[j]?
  hand : ∀ (k : Nat) (h : HR), hs[k]? = some h → h.wd ≠ "in" → m[k]? = some (mkR h (takes cur (gD m) k))
theorem mem_loose {cur : List BR} {b : BR} (h : b ∈ cur) (e : b.th = []) : (b.one, b.to) ∈ looseOf cur := List.mem_map.mpr ⟨b, List.mem_filter.mpr ⟨h, by rw [e]; rfl⟩, rfl⟩
theorem bell_one {hs : List HR} {cur : List BR} {ins m m' : List Int} {rk : Nat → Int} (hr : ∀ p ∈ looseOf cur, rk p.1 < rk p.2) (a : IsBell hs cur ins m) (b : IsBell hs cur ins m') : m = m' := by
  have off : ∀ k, ¬ k < hs.length → m[k]? = m'[k]? := fun k hk => by
    rw [List.getElem?_eq_none (by have := a.len; omega), List.getElem?_eq_none (by have := b.len; omega)]
  obtain ⟨D, hD⟩ : ∃ D, D = (List.range hs.length).filter fun k => decide (m[k]? ≠ m'[k]?) := ⟨_, rfl⟩
  have mD : ∀ k, k ∉ D → m[k]? = m'[k]? := fun k hk => by
    by_cases l : k < hs.length
    · by_cases e : m[k]? = m'[k]?
      · exact e
      · refine absurd ?_ hk
        rw [hD, List.mem_filter]
        exact ⟨List.mem_range.mpr l, decide_eq_true e⟩
    · exact off k l
  by_cases e : D = []
  · refine List.ext_getElem? fun k => mD k ?_
    rw [e]
    exact fun z => nomatch z
  · exfalso
    obtain ⟨k, hk, fr⟩ := some_free hr e
    have hk2 := hk
    rw [hD, List.mem_filter] at hk2
    have kl := List.mem_range.mp hk2.1
    have ne : m[k]? ≠ m'[k]? := of_decide_eq_true hk2.2
    have eh : hs[k]? = some hs[k] := List.getElem?_eq_getElem kl
    by_cases w : hs[k].wd = "in"
    · obtain ⟨j, hj⟩ := List.getElem?_of_mem (mem_doors.mpr ⟨_, eh, w⟩)
      exact ne ((a.door j k hj).trans (b.door j k hj).symm)
    · refine ne ((a.hand k _ eh w).trans ((b.hand k _ eh w).trans ?_).symm)
      rw [takes_ext (g := gD m) fun c hc et en => ?_]
      have := mD c.one (fr _ (mem_loose hc en) et)
      show m'.getD c.one 0 = m.getD c.one 0
      rw [List.getD_eq_getElem?_getD, List.getD_eq_getElem?_getD, this]
/-- what some hands have made already -/
structure Part (hs : List HR) (cur : List BR) (ins : List Int) (pm : Nat → Option Int) : Prop where
  dom : ∀ k v, pm k = some v → k < hs.length
  door : ∀ j k : Nat, (doorsOf "in" hs)[j]? = some k → pm k = ins[j]?
  hand : ∀ (k : Nat) (h : HR) (v : Int), hs[k]? = some h → h.wd ≠ "in" → pm k = some v → v = mkR h (takes cur (fun j => (pm j).getD 0) k) ∧ ∀ b ∈ cur, b.to = k → b.th = [] → (pm b.one).isSome = true
abbrev putM (pm : Nat → Option Int) (k : Nat) (v : Int) : Nat → Option Int := fun j => if j = k then some v else pm j
theorem Part.put {hs : List HR} {cur : List BR} {ins : List Int} {pm : Nat → Option Int} (p : Part hs cur ins pm) {k : Nat} {h : HR} (eh : hs[k]? = some h) (w : h.wd ≠ "in") (new : pm k = none)
    (there : ∀ b ∈ cur, b.to = k → b.th = [] → (pm b.one).isSome = true) : Part hs cur ins (putM pm k (mkR h (takes cur (fun j => (pm j).getD 0) k))) := by
  have old : ∀ j, (pm j).isSome = true → ∀ v, putM pm k v j = pm j := fun j hj v => if_neg fun e => by rw [e, new] at hj; cases hj
  have same : ∀ j v, (∀ b ∈ cur, b.to = j → b.th = [] → (pm b.one).isSome = true) → takes cur (fun i => (pm i).getD 0) j = takes cur (fun i => (putM pm k v i).getD 0) j := fun j v hb => takes_ext fun b b1 b2 b3 => by
    show (pm b.one).getD 0 = (putM pm k v b.one).getD 0
    rw [old _ (hb b b1 b2 b3)]
  refine ⟨fun j v e => ?_, fun i j e => ?_, fun j h' v e1 e2 e3 => ?_⟩
  · by_cases z : j = k
    · rw [z]; exact (List.getElem?_eq_some_iff.mp eh).1
    · exact p.dom j v ((if_neg z).symm.trans e)
  · have z : j ≠ k := fun z => by
      obtain ⟨h2, q1, q2⟩ := mem_doors.mp (List.mem_of_getElem? e)
      rw [z, eh] at q1
      cases q1
      exact w q2
    exact (if_neg z).trans (p.door i j e)
  · by_cases z : j = k
    · subst z
      rw [eh] at e1
      cases e1
      have e4 := Option.some.inj ((if_pos rfl).symm.trans e3)
      refine ⟨?_, fun b b1 b2 b3 => ?_⟩
      · exact e4.symm.trans (congrArg (mkR h) (same _ _ there))
      · rw [old _ (there b b1 b2 b3)]
        exact there b b1 b2 b3
    · have e4 : pm j = some v := (if_neg z).symm.trans e3
      obtain ⟨q1, q2⟩ := p.hand j h' v e1 e2 e4
      refine ⟨?_, fun b b1 b2 b3 => ?_⟩
      · exact q1.trans (congrArg (mkR h') (same _ _ q2))
      · rw [old _ (q2 b b1 b2 b3)]
        exact q2 b b1 b2 b3
abbrev fullM (n : Nat) (pm : Nat → Option Int) : List Int := (List.range n).map fun k => (pm k).getD 0
theorem fullM_get {n k : Nat} {pm : Nat → Option Int} (h : k < n) : (fullM n pm)[k]? = some ((pm k).getD 0) := by
  rw [List.getElem?_map, List.getElem?_range h]; rfl
theorem Part.full {hs : List HR} {cur : List BR} {ins : List Int} {pm : Nat → Option Int} (p : Part hs cur ins pm) (all : ∀ k, k < hs.length → (pm k).isSome = true) : IsBell hs cur ins (fullM hs.length pm) := by
  have at_ : ∀ k, k < hs.length → ∃ v, pm k = some v ∧ (fullM hs.length pm)[k]? = some v := fun k hk => by
    obtain ⟨v, hv⟩ := Option.isSome_iff_exists.mp (all k hk)
    exact ⟨v, hv, by rw [fullM_get hk, hv]; rfl⟩
  refine ⟨by rw [List.length_map, List.length_range], fun j k e => ?_, fun k h e w => ?_⟩
  · obtain ⟨h, q, _⟩ := mem_doors.mp (List.mem_of_getElem? e)
    obtain ⟨v, e1, e2⟩ := at_ k (List.getElem?_eq_some_iff.mp q).1
    rw [e2, ← e1]
    exact p.door j k e
  · obtain ⟨v, e1, e2⟩ := at_ k (List.getElem?_eq_some_iff.mp e).1
    obtain ⟨q1, q2⟩ := p.hand k h v e w e1
    rw [e2, q1]
    congr 2
    refine takes_ext fun b b1 b2 b3 => ?_
    obtain ⟨x, hx⟩ := Option.isSome_iff_exists.mp (q2 b b1 b2 b3)
    obtain ⟨y, e3, e4⟩ := at_ b.one (p.dom _ _ hx)
    show (pm b.one).getD 0 = (fullM hs.length pm).getD b.one 0
    rw [List.getD_eq_getElem?_getD, e4, e3]
/-! ### the dict of what was made -/
abbrev kN (k : Nat) : Key := .inl ((k : Nat) : Int)
def DM (kvs : List (Key × V)) (pm : Nat → Option Int) : Prop := ∀ k : Nat, valV kvs (kN k) = (pm k).map V.int
theorem kN_inj {a b : Nat} (h : kN a = kN b) : a = b := by
  have : ((a : Nat) : Int) = ((b : Nat) : Int) := Sum.inl.inj h
  omega
theorem DM.put {kvs : List (Key × V)} {pm : Nat → Option Int} (d : DM kvs pm) (k : Nat) (v : Int) : DM (putK kvs (kN k) (.int v)) (putM pm k v) := fun j => by
  rw [valV_put]
  by_cases e : j = k
  · subst e
    rw [if_pos rfl, show putM pm j v j = some v from if_pos rfl]
    rfl
  · rw [if_neg fun z => e (kN_inj z), show putM pm k v j = pm j from if_neg e]
    exact d j
theorem merge_off {k : Nat} : ∀ (ks : List Nat) (xs : List Int) (acc : List (Key × V)), k ∉ ks → valV (mergeK acc ((ks.map kN).zip (xs.map V.int))) (kN k) = valV acc (kN k)
  | [], _, _, _ => rfl
  | _ :: _, [], _, _ => rfl
  | a :: ks, x :: xs, acc, h => by
    have h1 : k ≠ a := fun e => h (by rw [e]; exact List.mem_cons_self ..)
    have h2 : k ∉ ks := fun e => h (List.mem_cons_of_mem _ e)
    show valV (mergeK (putK acc (kN a) (V.int x)) ((ks.map kN).zip (xs.map V.int))) (kN k) = _
    rw [merge_off ks xs _ h2, valV_put, if_neg fun z => h1 (kN_inj z)]
theorem merge_on {k : Nat} {v : Int} : ∀ (ks : List Nat) (xs : List Int) (acc : List (Key × V)) (j : Nat), ks.Nodup → ks[j]? = some k → xs[j]? = some v → valV (mergeK acc ((ks.map kN).zip (xs.map V.int))) (kN k) = some (.int v)
  | [], _, _, _, _, h, _ => nomatch h
  | _ :: _, [], _, _, _, _, h => nomatch h
  | a :: ks, x :: xs, acc, 0, nd, h1, h2 => by
    cases h1
    cases h2
    show valV (mergeK (putK acc (kN k) (V.int v)) ((ks.map kN).zip (xs.map V.int))) (kN k) = _
    rw [merge_off ks xs _ (List.nodup_cons.mp nd).1, valV_put, if_pos rfl]
  | a :: ks, x :: xs, acc, j + 1, nd, h1, h2 => merge_on ks xs _ j (List.nodup_cons.mp nd).2 h1 h2
/-- what the in doors have made -/
def doorM (hs : List HR) (ins : List Int) : Nat → Option Int := fun k => if k ∈ doorsOf "in" hs then ins[(doorsOf "in" hs).idxOf k]? else none
theorem idx_at {l : List Nat} (nd : l.Nodup) {j k : Nat} (h : l[j]? = some k) : l.idxOf k = j := by
  have jl := (List.getElem?_eq_some_iff.mp h).1
  have m := List.mem_of_getElem? h
  have il := List.idxOf_lt_length_of_mem m
  exact (List.getElem_inj nd (h₀ := il) (h₁ := jl)).mp ((List.getElem_idxOf il).trans (List.getElem?_eq_some_iff.mp h).2.symm)
theorem doorM_dm {hs : List HR} {ins : List Int} (hl : ins.length = (doorsOf "in" hs).length) : DM (mergeK [] (((doorsOf "in" hs).map kN).zip (ins.map V.int))) (doorM hs ins) := fun k => by
  unfold doorM
  by_cases e : k ∈ doorsOf "in" hs
  · rw [if_pos e]
    have il := List.idxOf_lt_length_of_mem e
    have e1 : (doorsOf "in" hs)[(doorsOf "in" hs).idxOf k]? = some k := by rw [List.getElem?_eq_getElem il, List.getElem_idxOf]
    have e2 : ins[(doorsOf "in" hs).idxOf k]? = some ins[(doorsOf "in" hs).idxOf k] := List.getElem?_eq_getElem (by omega)
    rw [merge_on _ _ _ _ doors_nodup e1 e2, e2]
    rfl
  · rw [if_neg e, merge_off _ _ _ e]
    rfl
theorem doorM_part {hs : List HR} {cur : List BR} {ins : List Int} : Part hs cur ins (doorM hs ins) := by
  refine ⟨fun k v e => ?_, fun j k e => ?_, fun k h v e w e2 => ?_⟩
  · unfold doorM at e
    by_cases m : k ∈ doorsOf "in" hs
    · obtain ⟨h, q, _⟩ := mem_doors.mp m
      exact (List.getElem?_eq_some_iff.mp q).1
    · rw [if_neg m] at e
      cases e
  · unfold doorM
    rw [if_pos (List.mem_of_getElem? e), idx_at doors_nodup e]
  · unfold doorM at e2
    rw [if_neg fun m => by
      obtain ⟨h2, q1, q2⟩ := mem_doors.mp m
      rw [e] at q1
      cases q1
      exact w q2] at e2
    cases e2
theorem doorM_all {hs : List HR} {ins : List Int} (hl : ins.length = (doorsOf "in" hs).length) {k : Nat} {h : HR} (e : hs[k]? = some h) (w : h.wd = "in") : (doorM hs ins k).isSome = true := by
  have m := mem_doors.mpr ⟨h, e, w⟩
  unfold doorM
  rw [if_pos m]
  have il := List.idxOf_lt_length_of_mem m
  rw [List.getElem?_eq_getElem (by omega)]
  rfl
/-! ### belts as they stand behind some bells -/
def nextB (m : List Int) (b : BR) : BR := if b.th = [] then b else ⟨b.one, b.to, b.th.drop 1 ++ [gD m b.one]⟩
def standB (ms : List (List Int)) (b : BR) : BR := if b.th = [] then b else ⟨b.one, b.to, (b.th ++ ms.map fun m => gD m b.one).drop ms.length⟩
abbrev stand (bs : List BR) (ms : List (List Int)) : List BR := bs.map (standB ms)
theorem stand_one (ms : List (List Int)) (b : BR) : (standB ms b).one = b.one := by unfold standB; split <;> rfl
theorem stand_to (ms : List (List Int)) (b : BR) : (standB ms b).to = b.to := by unfold standB; split <;> rfl
theorem stand_len (ms : List (List Int)) (b : BR) : (standB ms b).th.length = b.th.length := by
  unfold standB
  split
  · rfl
  · rw [List.length_drop, List.length_append, List.length_map]; omega
theorem nil_len {l l' : List Int} (h : l.length = l'.length) : l = [] ↔ l' = [] := by
  cases l <;> cases l' <;> simp at h ⊢
theorem stand_th (ms : List (List Int)) (b : BR) : (standB ms b).th = [] ↔ b.th = [] := nil_len (stand_len ms b)
theorem stand_zero (bs : List BR) : stand bs [] = bs := by
  refine (List.map_congr_left (g := id) fun b _ => ?_).trans (List.map_id _)
  unfold standB
  split
  · rfl
  · show (⟨b.one, b.to, (b.th ++ []).drop 0⟩ : BR) = b
    rw [List.append_nil]
    rfl
theorem stand_next (bs : List BR) (ms : List (List Int)) (m : List Int) : (stand bs ms).map (nextB m) = stand bs (ms ++ [m]) := by
  rw [List.map_map]
  refine List.map_congr_left fun b _ => ?_
  show nextB m (standB ms b) = standB (ms ++ [m]) b
  have hn := stand_th ms b
  by_cases e : b.th = []
  · rw [show nextB m (standB ms b) = standB ms b from if_pos (hn.mpr e)]
    rw [show standB ms b = b from if_pos e, show standB (ms ++ [m]) b = b from if_pos e]
  · rw [show nextB m (standB ms b) = ⟨(standB ms b).one, (standB ms b).to, (standB ms b).th.drop 1 ++ [gD m (standB ms b).one]⟩ from if_neg fun z => e (hn.mp z)]
    rw [stand_one, stand_to, show standB ms b = ⟨b.one, b.to, (b.th ++ ms.map fun m => gD m b.one).drop ms.length⟩ from if_neg e,
      show standB (ms ++ [m]) b = ⟨b.one, b.to, (b.th ++ (ms ++ [m]).map fun m => gD m b.one).drop (ms ++ [m]).length⟩ from if_neg e]
    show (⟨b.one, b.to, ((b.th ++ ms.map fun m => gD m b.one).drop ms.length).drop 1 ++ [gD m b.one]⟩ : BR) = _
    rw [List.drop_drop, List.map_append, ← List.append_assoc, List.length_append]
    congr 1
    refine (List.drop_append_of_le_length ?_).symm
    have := List.length_pos_iff.mpr e
    rw [List.length_append, List.length_map]
    show ms.length + 1 ≤ _
    omega
theorem loose_stand (bs : List BR) (ms : List (List Int)) : looseOf (stand bs ms) = looseOf bs := by
  unfold looseOf
  induction bs with
  | nil => rfl
  | cons b bs ih =>
    have e : (standB ms b).th.isEmpty = b.th.isEmpty := by
      have h := stand_th ms b
      cases h1 : (standB ms b).th <;> cases h2 : b.th <;> simp [h1, h2] at h ⊢
    show List.map _ (List.filter _ (standB ms b :: stand bs ms)) = _
    rw [List.filter_cons, List.filter_cons, e]
    cases b.th.isEmpty
    · exact ih
    · show ((standB ms b).one, (standB ms b).to) :: _ = (b.one, b.to) :: _
      rw [ih, stand_one, stand_to]
/-- what is taken from a belt with trays -/
theorem stand_head {ms : List (List Int)} {b : BR} (f : Nat → Int) (e : b.th ≠ []) : valB f (standB ms b) = (b.th ++ ms.map fun m => gD m b.one).getD ms.length 0 := by
  have hl := stand_len ms b
  have pos := List.length_pos_iff.mpr e
  have et : (standB ms b).th = (b.th ++ ms.map fun m => gD m b.one).drop ms.length := by unfold standB; rw [if_neg e]
  unfold valB
  cases q : (standB ms b).th with
  | nil => rw [q] at hl; simp at hl; omega
  | cons x l =>
    rw [q] at et
    have : ((b.th ++ ms.map fun m => gD m b.one).drop ms.length)[0]? = some x := by rw [← et]; rfl
    rw [List.getElem?_drop, Nat.add_zero] at this
    rw [List.getD_eq_getElem?_getD, this]
    rfl
/-! ### many bells -/
structure WS (hs : List HR) (bs : List BR) (rows ms : List (List Int)) : Prop where
  len : ms.length = rows.length
  at_ : ∀ (t : Nat) (r m : List Int), rows[t]? = some r → ms[t]? = some m → IsBell hs (stand bs (ms.take t)) r m
theorem WS.nil {hs : List HR} {bs : List BR} : WS hs bs [] [] := ⟨rfl, fun t r m e => nomatch e⟩
theorem WS.snoc {hs : List HR} {bs : List BR} {rows ms : List (List Int)} {r m : List Int} (h : WS hs bs rows ms) (b : IsBell hs (stand bs ms) r m) : WS hs bs (rows ++ [r]) (ms ++ [m]) := by
  refine ⟨by rw [List.length_append, List.length_append, h.len]; rfl, fun t r' m' e1 e2 => ?_⟩
  by_cases l : t < ms.length
  · have l2 : t < rows.length := by rw [← h.len]; exact l
    rw [List.getElem?_append_left l2] at e1
    rw [List.getElem?_append_left l] at e2
    rw [List.take_append_of_le_length (Nat.le_of_lt l)]
    exact h.at_ t r' m' e1 e2
  · have tl := (List.getElem?_eq_some_iff.mp e2).1
    rw [List.length_append] at tl
    have et : t = ms.length := by simp at tl; omega
    subst et
    rw [List.getElem?_append_right (Nat.le_refl _), Nat.sub_self] at e2
    rw [h.len, List.getElem?_append_right (Nat.le_refl _), Nat.sub_self] at e1
    cases e1
    cases e2
    rw [List.take_append_of_le_length (Nat.le_refl _), List.take_length]
    exact b
theorem WS.one {hs : List HR} {bs : List BR} {rows ms ms' : List (List Int)} {rk : Nat → Int} (hr : ∀ p ∈ looseOf bs, rk p.1 < rk p.2) (a : WS hs bs rows ms) (b : WS hs bs rows ms') : ms = ms' := by
  have key : ∀ t, ms.take t = ms'.take t := by
    intro t
    induction t with
    | zero => rfl
    | succ t ih =>
      rw [List.take_add_one, List.take_add_one, ih]
      by_cases l : t < rows.length
      · have l1 : t < ms.length := by have := a.len; omega
        have l2 : t < ms'.length := by have := b.len; omega
        have e1 : ms[t]? = some ms[t] := List.getElem?_eq_getElem l1
        have e2 : ms'[t]? = some ms'[t] := List.getElem?_eq_getElem l2
        have e3 : rows[t]? = some rows[t] := List.getElem?_eq_getElem l
        have q1 := a.at_ t _ _ e3 e1
        have q2 := b.at_ t _ _ e3 e2
        rw [ih] at q1
        have := bell_one (rk := rk) (by rw [loose_stand]; exact hr) q1 q2
        rw [e1, e2, this]
      · rw [List.getElem?_eq_none (by have := a.len; omega), List.getElem?_eq_none (by have := b.len; omega)]
  have h1 := key rows.length
  rw [List.take_of_length_le (by rw [a.len]; exact Nat.le_refl _), List.take_of_length_le (by rw [b.len]; exact Nat.le_refl _)] at h1
  exact h1
theorem WS.row {hs : List HR} {bs : List BR} {rows ms : List (List Int)} (h : WS hs bs rows ms) : ∀ m ∈ ms, m.length = hs.length := fun m hm => by
  obtain ⟨t, e⟩ := List.getElem?_of_mem hm
  have tl := (List.getElem?_eq_some_iff.mp e).1
  have e3 : rows[t]? = some (rows[t]'(by rw [← h.len]; exact tl)) := List.getElem?_eq_getElem _
  exact (h.at_ t _ _ e3 e).len
/-- the belts that come to a hand -/
def comingN (bs : List BR) (k : Nat) : List Nat := (List.range bs.length).filter fun i => decide (bs[i]?.map BR.to = some k)
def outsOf (hs : List HR) (m : List Int) : List Int := (doorsOf "out" hs).map (gD m)
section
variable {P : Program} {w : World} {K : PySem.W.Frag} {mg : Str → Option Value} {base : Heap}
def sp_made_of_two (K : PySem.W.Frag) : Sp := fun vs H Q _ => ∃ (wd : Str) (a b : Int), vs = [.str wd, .int a, .int b] ∧ Q (.int (mk2 wd a b)) H
theorem ok_made_of_two {f : Addr} {fd : FuncData} (F : Fun K "made_of_two" "made_of_two" s_made_of_two f fd) (T : Top K mg) : FnOk P w K mg base CX0 1 f fd ["word", "one", "other"] (sp_made_of_two K) := by
  refine F.ok sc_made_of_two (fun vs H Q E h => ?_) (fun cdv A outer s H vs Q E hr h => ?_)
  · obtain ⟨wd, a, b, rfl, _⟩ := h
    rfl
  obtain ⟨wd, a, b, rfl, q⟩ := h
  unfold mk2 at q
  refine ⟨_, (pss_cons (ps_if (pt_cmpR op_eq (pv 0) pe_str (nomark _)) (pss_one (ps_ret (pe_op op_add (pv 1) (pv 2)))) pss_nil)
      (pss_cons (ps_if (pt_cmpR op_eq (pv 0) pe_str (nomark _)) (pss_one (ps_ret (pe_op op_sub (pv 1) (pv 2)))) pss_nil)
      (pss_cons (ps_if (pt_cmpR op_eq (pv 0) pe_str (nomark _)) (pss_one (ps_ret (pe_ifExp (pt_cmpR op_lt (pv 1) (pv 2) (nomark _)) pe_int pe_int))) pss_nil)
      (pss_cons (ps_if (pt_cmpR op_eq (pv 0) pe_str (nomark _)) (pss_one (ps_ret (pe_callB (call_max2 rfl) (by rfl) T.m_max (by decide +kernel) (pa_cons (pv 1) (pa_cons (pv 2) pa_nil))))) pss_nil)
      (pss_one (ps_ret (pe_callB (call_min2 rfl) (by rfl) T.m_min (by decide +kernel) (pa_cons (pv 1) (pa_cons (pv 2) pa_nil))))))))), ?_⟩
  refine ⟨_, rfl, rfl, _, rfl, if_str (fun e => ?_) (fun e => ?_)⟩
  · rw [if_pos e] at q
    exact ⟨_, rfl, _, rfl, _, _, rfl, rfl, q⟩
  rw [if_neg e] at q
  refine ⟨_, rfl, rfl, _, rfl, if_str (fun e => ?_) (fun e => ?_)⟩
  · rw [if_pos e] at q
    exact ⟨_, rfl, _, rfl, _, _, rfl, rfl, q⟩
  rw [if_neg e] at q
  refine ⟨_, rfl, rfl, _, rfl, if_str (fun e => ?_) (fun e => ?_)⟩
  · rw [if_pos e] at q
    refine ⟨_, rfl, _, rfl, _, _, rfl, rfl, _, rfl, if_bl (fun c => ?_) (fun c => ?_)⟩
    · rw [if_pos (of_decide_eq_true c)] at q
      exact q
    · rw [if_neg (of_decide_eq_false c)] at q
      exact q
  rw [if_neg e] at q
  refine ⟨_, rfl, rfl, _, rfl, if_str (fun e => ?_) (fun e => ?_)⟩
  · rw [if_pos e] at q
    exact ⟨_, rfl, _, rfl, _, _, rfl, q⟩
  rw [if_neg e] at q
  exact ⟨_, rfl, _, rfl, _, _, rfl, q⟩
theorem inV_two {x y z : Str} : inV (.str x) [.str y, .str z] = true ↔ x = y ∨ x = z := by
  unfold inV
  simp only [List.any_cons, List.any_nil, Bool.or_false, Bool.or_eq_true, eqV, beq_iff_eq]
  constructor
  · rintro (h | h)
    · exact .inl h.symm
    · exact .inr h.symm
  · rintro (h | h)
    · exact .inl h.symm
    · exact .inr h.symm
theorem if_in2 {x y z : Str} {A B : Prop} (h1 : x = y ∨ x = z → A) (h2 : ¬ (x = y ∨ x = z) → B) : if (if false = true then !inV (.str x) [.str y, .str z] else inV (.str x) [.str y, .str z]) = true then A else B := by
  have e : (if false = true then !inV (.str x) [.str y, .str z] else inV (.str x) [.str y, .str z]) = inV (.str x) [.str y, .str z] := if_neg Bool.false_ne_true
  rw [e]
  exact if_bl (fun c => h1 (inV_two.mp c)) (fun c => h2 (fun k => by rw [inV_two.mpr k] at c; cases c))
def sp_made_by (K : PySem.W.Frag) : Sp := fun vs H Q _ => ∃ (r t : Addr) (rl ts : List V) (wd : Str) (n a b c : Int), vs = [.ref r, .ref t] ∧ SqT K H r rl ∧ SqT K H t ts ∧ rl[0]? = some (.str wd) ∧
  (wd = "always" ∨ wd = "times" → rl[1]? = some (.int n)) ∧ (wd ≠ "always" → ts[0]? = some (.int a)) ∧ (wd = "pick" ∨ (wd ≠ "always" ∧ wd ≠ "times" ∧ wd ≠ "same" ∧ wd ≠ "out") → ts[1]? = some (.int b)) ∧ (wd = "pick" → ts[2]? = some (.int c)) ∧
  (-(2 ^ 64) < n ∧ n < 2 ^ 64) ∧ ∀ H', Same H H' → Q (.int (mk wd n a b c)) H'
theorem ok_made_by {f : Addr} {fd : FuncData} (F : Fun K "made_by" "made_by" s_made_by f fd) (T : Top K mg) : FnOk P w K mg base CX0 2 f fd ["rule", "things"] (sp_made_by K) := by
  obtain ⟨f_made_of_two, fd_made_of_two, F_made_of_two, b_made_of_two, m_made_of_two⟩ := T.d_made_of_two
  have G_made_of_two := ok_made_of_two (P := P) (w := w) (base := base) F_made_of_two T
  refine F.ok sc_made_by (fun vs H Q E h => ?_) (fun cdv A outer s H vs Q E hr h => ?_)
  · obtain ⟨r, t, rl, ts, wd, n, a, b, c, rfl, _⟩ := h
    rfl
  obtain ⟨r, t, rl, ts, wd, n, a, b, c, rfl, hR, hT, r0, r1, t0, t1, t2, hn, q⟩ := h
  unfold mk at q
  refine ⟨_, (pss_cons (ps_set (i := 2) sc_made_by.nd rfl (Or.inl rfl) (pe_ix (ix_tupK K rfl) (pv 0) pe_int (fun _ _ => rfl)))
      (pss_cons (ps_if (pt_cmpR op_eq (pv 2) pe_str (nomark _)) (pss_one (ps_ret (pe_ix (ix_tupK K rfl) (pv 0) pe_int (fun _ _ => rfl)))) pss_nil)
      (pss_cons (ps_if (pt_cmpR op_eq (pv 2) pe_str (nomark _)) (pss_one (ps_ret (pe_op op_mul (pe_ix (ix_tupK K rfl) (pv 0) pe_int (fun _ _ => rfl)) (pe_ix (ix_tupK K rfl) (pv 1) pe_int (fun _ _ => rfl))))) pss_nil)
      (pss_cons (ps_if (pt_cmpR op_eq (pv 2) pe_str (nomark _)) (pss_one (ps_ret (pe_ifExp (pt_cmpR op_ne (pe_ix (ix_tupK K rfl) (pv 1) pe_int (fun _ _ => rfl)) pe_int (nomark _)) (pe_ix (ix_tupK K rfl) (pv 1) pe_int (fun _ _ => rfl)) (pe_ix (ix_tupK K rfl) (pv 1) pe_int (fun _ _ => rfl))))) pss_nil)
      (pss_cons (ps_if (pt_cmpR (op_in_seqK K rfl) (pv 2) (pe_tup (pa_cons pe_str (pa_cons pe_str pa_nil))) (by with_unfolding_all rfl)) (pss_one (ps_ret (pe_ix (ix_tupK K rfl) (pv 1) pe_int (fun _ _ => rfl)))) pss_nil)
      (pss_one (ps_ret (pe_call G_made_of_two (hr.mono (by decide)) (by rfl) m_made_of_two F_made_of_two.kp b_made_of_two .nil pass0 (pa_cons (pv 2) (pa_cons (pe_ix (ix_tupK K rfl) (pv 1) pe_int (fun _ _ => rfl)) (pa_cons (pe_ix (ix_tupK K rfl) (pv 1) pe_int (fun _ _ => rfl)) pa_nil))))))))))), ?_⟩
  refine ⟨_, rfl, r, _, _, _, rfl, rfl, hR, atI_nat (j := 0) r0, ?_⟩
  refine ⟨_, rfl, rfl, _, rfl, if_str (fun e1 => ?_) (fun e1 => ?_)⟩
  · have q := q H (fun _ _ e => e)
    rw [if_pos e1] at q
    exact ⟨_, rfl, r, _, _, _, rfl, rfl, hR, atI_nat (j := 1) (r1 (.inl e1)), q⟩
  refine ⟨_, rfl, rfl, _, rfl, if_str (fun e2 => ?_) (fun e2 => ?_)⟩
  · have q := q H (fun _ _ e => e)
    rw [if_neg e1, if_pos e2] at q
    exact ⟨_, rfl, r, _, _, _, rfl, rfl, hR, atI_nat (j := 1) (r1 (.inr e2)), _, rfl, t, _, _, _, rfl, rfl, hT, atI_nat (j := 0) (t0 e1), _, _, rfl, rfl, .inl hn, q⟩
  refine ⟨_, rfl, rfl, _, rfl, if_str (fun e3 => ?_) (fun e3 => ?_)⟩
  · have q := q H (fun _ _ e => e)
    rw [if_neg e1, if_neg e2, if_pos e3] at q
    refine ⟨_, rfl, t, _, _, _, rfl, rfl, hT, atI_nat (j := 0) (t0 e1), rfl, _, rfl, if_bl (fun k => ?_) (fun k => ?_)⟩
    · have k2 : ¬ a = 0 := fun z => by
        rw [z] at k
        exact absurd k (by decide)
      rw [if_neg k2] at q
      exact ⟨_, rfl, t, _, _, _, rfl, rfl, hT, atI_nat (j := 1) (t1 (.inl e3)), q⟩
    · have k2 : a = 0 := by
        by_cases z : a = 0
        · exact z
        · have k3 : (!decide (V.int a = V.int 0)) = false := k
          rw [decide_eq_false (fun y => z (V.int.inj y))] at k3
          cases k3
      rw [if_pos k2] at q
      exact ⟨_, rfl, t, _, _, _, rfl, rfl, hT, atI_nat (j := 2) (t2 e3), q⟩
  refine ⟨_, rfl, (by show 2 ≤ sizeLine; decide), fun p np => ?_⟩
  have s1 := same_new (o := .tup [V.str "same", V.str "out"]) np
  have q := q _ s1
  rw [if_neg e1, if_neg e2, if_neg e3] at q
  refine ⟨p, _, rfl, .inr (SqT.of upd_same), rfl, rfl, _, rfl, if_in2 (fun e4 => ?_) (fun e4 => ?_)⟩
  · rw [if_pos e4] at q
    exact ⟨_, rfl, t, _, _, _, rfl, rfl, same_seqT s1 hT, atI_nat (j := 0) (t0 e1), q⟩
  · rw [if_neg e4] at q
    exact ⟨_, rfl, _, rfl, t, _, _, _, rfl, rfl, same_seqT s1 hT, atI_nat (j := 0) (t0 e1), _, rfl, t, _, _, _, rfl, rfl, same_seqT s1 hT, atI_nat (j := 1) (t1 (.inr ⟨e1, e2, fun z => e4 (.inl z), fun z => e4 (.inr z)⟩)), wd, a, b, rfl, q⟩
end
section
variable {P : Program} {w : World} {K : PySem.W.Frag} {mg : Str → Option Value} {base : Heap}
theorem filt_succ {p : Nat → Bool} (i : Nat) : (List.range (i + 1)).filter p = (List.range i).filter p ++ (if p i = true then [i] else []) := by
  rw [List.range_succ, List.filter_append]
  cases h : p i <;> simp [h]
theorem filt_len {p : Nat → Bool} (i : Nat) : ((List.range i).filter p).length ≤ i := by
  refine Nat.le_trans (List.length_filter_le ..) ?_
  rw [List.length_range]
  exact Nat.le_refl _
def sp_comings (K : PySem.W.Frag) : Sp := fun vs H Q _ => ∃ (r : Addr) (hs : List HR) (bs : List BR) (k : Nat), vs = [.ref r, nV k] ∧ RoomAt H r hs bs ∧ bs.length ≤ 400 ∧ ∀ (p : Addr) (H' : Hp), H p = none → H' p = some (.lst ((comingN bs k).map nV)) → Same H H' → Q (.ref p) H'
theorem ok_comings {f : Addr} {fd : FuncData} (F : Fun K "comings" "comings" s_comings f fd) (T : Top K mg) : FnOk P w K mg base CX0 1 f fd ["room", "hand"] (sp_comings K) := by
  refine F.ok sc_comings (fun vs H Q E h => ?_) (fun cdv A outer s H vs Q E hr h => ?_)
  · obtain ⟨r, hs, bs, k, rfl, _⟩ := h
    rfl
  obtain ⟨r, hs, bs, k, rfl, hR, lb, q⟩ := h
  obtain ⟨ha, ba, hv, bv, er, eh, eb, alh, alb⟩ := hR.ex
  have lbv := alb.length
  refine ⟨_, (pss_one (ps_ret (pe_lc (own := [("number", 2), ("belt", 3)]) (g := gTup K 2 (gCons (gName 2) (gCons (gName 3) gNil))) (by rfl) sc_comings.nd (pi_enumT K rfl (by rfl) T.m_enumerate (pa_cons (pe_ix (ix_tupK K rfl) (pv 0) pe_int (fun _ _ => rfl)) pa_nil)) (blkOk_by (own := [("number", 2), ("belt", 3)]) (N := N_comings) (sc := defScope s_comings) (by decide +kernel)) (fun _ _ _ _ _ => (pg_tupK K rfl rfl (pgs_cons (pg_name (i := 2) sc_comings.nd rfl (Or.inl rfl)) (pgs_cons (pg_name (i := 3) sc_comings.nd rfl (Or.inl rfl)) pgs_nil)))) (fun _ _ _ _ _ => pts_one (pt_cmpR op_eq (pe_ix (ix_tupK K rfl) (pv 3) pe_int (fun _ _ => rfl)) (pv 1) (nomark _))) (fun _ _ _ _ _ => (pv 2))))), ?_⟩
  refine ⟨_, rfl, r, _, _, _, rfl, rfl, SqT.of er, atI_nat (j := 1) rfl, ba, bv, rfl, SqT.of eb, fun D nD => lc_it (J := IteT K ba bv) (n := bv.length) (fun i H5 => H5 D = some (.lst (((List.range i).filter fun j => decide (bs[j]?.map BR.to = some k)).map nV)) ∧ Same H H5) ⟨upd_same, same_new nD⟩ ?_ ?_ ?_ ?_⟩
  · rintro i H5 hi ⟨hD, s5⟩
    exact ⟨SqT.of (s5 _ _ eb), hi⟩
  · rintro H5 ⟨hD, s5⟩
    exact ⟨SqT.of (s5 _ _ eb), rfl⟩
  · rintro i x H5 H6 hi ⟨hD, s5⟩ ⟨t, y, rfl, nt, rfl, ey⟩
    obtain ⟨b, eb2, ⟨t2, g, rfl, e1, e2⟩⟩ := alb.getL ey
    have s6 := s5.trans (same_new (o := .tup [V.int ((i : Nat) : Int), V.ref t2]) nt)
    have hD6 := same_new (o := .tup [V.int ((i : Nat) : Int), V.ref t2]) nt _ _ hD
    have few := filt_len (p := fun j => decide (bs[j]?.map BR.to = some k)) i
    refine ⟨t, _, rfl, SqT.of upd_same, rfl, _, _, rfl, _, _, rfl, rfl, rfl, _, rfl, t2, _, _, _, rfl, rfl, SqT.of (s6 _ _ e1), atI_nat (j := 1) rfl, _, rfl, rfl, _, rfl, if_bl (fun c => ?_) (fun c => ?_)⟩
    · have c : b.to = k := by have := V.int.inj (of_decide_eq_true c); omega
      refine ⟨_, rfl, _, hD6, by rw [List.length_map]; exact small1000 (by omega), ?_, Same.own s6 nD⟩
      rw [upd_same, filt_succ, if_pos (decide_eq_true (by rw [eb2, ← c]; rfl)), List.map_append]
      rfl
    · have c : ¬ b.to = k := fun z => of_decide_eq_false c (by rw [z])
      refine ⟨?_, s6⟩
      rw [filt_succ, if_neg fun z => c (by have := of_decide_eq_true z; rw [eb2] at this; exact Option.some.inj this), List.append_nil]
      exact hD6
  · rintro H5 ⟨hD, s5⟩
    refine q D H5 nD ?_ s5
    rw [hD, lbv]
    rfl
def sp_doors (z : Str) : Sp := fun vs H Q _ => ∃ (r : Addr) (hs : List HR) (bs : List BR), vs = [.ref r] ∧ RoomAt H r hs bs ∧ hs.length ≤ 400 ∧ (∀ h ∈ hs, GoodHand h) ∧ ∀ (p : Addr) (H' : Hp), H p = none → H' p = some (.lst ((doorsOf z hs).map nV)) → Same H H' → Q (.ref p) H'
abbrev sp_doors_in (K : PySem.W.Frag) : Sp := sp_doors "in"
abbrev sp_doors_out (K : PySem.W.Frag) : Sp := sp_doors "out"
theorem ok_doors_in {f : Addr} {fd : FuncData} (F : Fun K "doors_in" "doors_in" s_doors_in f fd) (T : Top K mg) : FnOk P w K mg base CX0 1 f fd ["room"] (sp_doors_in K) := by
  refine F.ok sc_doors_in (fun vs H Q E h => ?_) (fun cdv A outer s H vs Q E hr h => ?_)
  · obtain ⟨r, hs, bs, rfl, _⟩ := h
    rfl
  obtain ⟨aI, mI, hI⟩ := T.x_in
  obtain ⟨r, hs, bs, rfl, hR, lb, good, q⟩ := h
  obtain ⟨ha, ba, hv, bv, er, eh, eb, alh, alb⟩ := hR.ex
  have lhv := alh.length
  refine ⟨_, (pss_one (ps_ret (pe_lc (own := [("number", 1), ("hand", 2)]) (g := gTup K 2 (gCons (gName 1) (gCons (gName 2) gNil))) (by rfl) sc_doors_in.nd (pi_enumT K rfl (by rfl) T.m_enumerate (pa_cons (pe_ix (ix_tupK K rfl) (pv 0) pe_int (fun _ _ => rfl)) pa_nil)) (blkOk_by (own := [("number", 1), ("hand", 2)]) (N := N_doors_in) (sc := defScope s_doors_in) (by decide +kernel)) (fun _ _ _ _ _ => (pg_tupK K rfl rfl (pgs_cons (pg_name (i := 1) sc_doors_in.nd rfl (Or.inl rfl)) (pgs_cons (pg_name (i := 2) sc_doors_in.nd rfl (Or.inl rfl)) pgs_nil)))) (fun _ _ _ _ _ => pts_one (pt_cmpR (op_eqDK K rfl hr.units) (pe_ix (ix_tupK K rfl) (pv 2) pe_int (fun _ _ => rfl)) (pe_glob (v := .ref aI) (by rfl) mI rfl) (nomark _))) (fun _ _ _ _ _ => (pv 1))))), ?_⟩
  refine ⟨_, rfl, r, _, _, _, rfl, rfl, SqT.of er, atI_nat (j := 0) rfl, ha, hv, rfl, SqT.of eh, fun D nD => lc_it (J := IteT K ha hv) (n := hv.length) (fun i H5 => H5 D = some (.lst (((List.range i).filter fun j => decide (hs[j]?.map HR.wd = some ("in" : Str))).map nV)) ∧ Same H H5) ⟨upd_same, same_new nD⟩ ?_ ?_ ?_ ?_⟩
  · rintro i H5 hi ⟨hD, s5⟩
    exact ⟨SqT.of (s5 _ _ eh), hi⟩
  · rintro H5 ⟨hD, s5⟩
    exact ⟨SqT.of (s5 _ _ eh), rfl⟩
  · rintro i x H5 H6 hi ⟨hD, s5⟩ ⟨t, y, rfl, nt, rfl, ey⟩
    obtain ⟨hh, eb2, ⟨t2, g, rfl, e1, e2⟩⟩ := alh.getL ey
    have gh := good _ (List.mem_of_getElem? eb2)
    have s6 := s5.trans (same_new (o := .tup [V.int ((i : Nat) : Int), V.ref t2]) nt)
    have hD6 := same_new (o := .tup [V.int ((i : Nat) : Int), V.ref t2]) nt _ _ hD
    have few := filt_len (p := fun j => decide (hs[j]?.map HR.wd = some ("in" : Str))) i
    refine ⟨t, _, rfl, SqT.of upd_same, rfl, _, _, rfl, _, _, rfl, rfl, rfl, _, rfl, t2, _, _, _, rfl, rfl, SqT.of (s6 _ _ e1), atI_nat (j := 0) rfl, ?_⟩
    refine ⟨_, _, rule_dp (s6 _ _ e2), .tup (hI _) (.cons (.str _) .nil), rule_shaped gh.lay, one_shaped (by decide +kernel), _, rfl, ?_⟩
    rw [rule_eqv, gh.door "in" (.inl rfl)]
    by_cases c : hh.wd = "in"
    · rw [decide_eq_true c]
      refine if_bl (fun _ => ⟨_, rfl, _, hD6, by rw [List.length_map]; exact small1000 (by omega), ?_, Same.own s6 nD⟩) (fun z => nomatch z)
      rw [upd_same, filt_succ, if_pos (decide_eq_true (by rw [eb2, ← c]; rfl)), List.map_append]
      rfl
    · rw [decide_eq_false c]
      refine if_bl (fun z => nomatch z) (fun _ => ⟨?_, s6⟩)
      rw [filt_succ, if_neg fun z => c (by have := of_decide_eq_true z; rw [eb2] at this; exact Option.some.inj this), List.append_nil]
      exact hD6
  · rintro H5 ⟨hD, s5⟩
    refine q D H5 nD ?_ s5
    rw [hD, lhv]
    rfl
end
/-- a tuple of whole numbers -/
def RowAt (H : Hp) (v : V) (m : List Int) : Prop := ∃ t : Addr, v = .ref t ∧ H t = some (.tup (m.map V.int))
theorem RowAt.keep {H H' : Hp} {v : V} {m : List Int} (a : RowAt H v m) (k : TK H H') : RowAt H' v m := by
  obtain ⟨t, e, h⟩ := a
  exact ⟨t, e, k _ _ h⟩
theorem gD_get {m : List Int} {k : Nat} (h : k < m.length) : m[k]? = some (gD m k) := by
  show _ = some (m.getD k 0)
  rw [List.getD_eq_getElem?_getD, List.getElem?_eq_getElem h]; rfl
theorem at_row {m : List Int} {k : Nat} (h : k < m.length) : atI (m.map V.int) ((k : Nat) : Int) = some (.int (gD m k)) := atI_nat (by rw [List.getElem?_map, gD_get h]; rfl)
theorem soon_one {ls : List (Nat × Nat)} : ∀ {left o1 o2 : List Nat}, Soon ls left o1 → Soon ls left o2 → o1 = o2 := by
  intro left o1 o2 h
  induction h generalizing o2 with
  | nil =>
    intro h2
    cases h2 with
    | nil => rfl
    | cons a => cases a
  | cons a b c d ih =>
    intro h2
    cases h2 with
    | nil => cases a
    | @cons _ ord k2 a2 b2 c2 d2 =>
      have e := Nat.le_antisymm (c _ a2 b2) (c2 _ a b)
      subst e
      rw [ih d2]
theorem soon_len {ls : List (Nat × Nat)} {left ord : List Nat} (h : Soon ls left ord) : ord.length = left.length := by
  induction h with
  | nil => rfl
  | cons a b c d ih =>
    rw [List.length_cons, ih, List.length_erase_of_mem a]
    have := List.length_pos_of_mem a
    omega
theorem soon_mem {ls : List (Nat × Nat)} {left ord : List Nat} (h : Soon ls left ord) : ∀ x ∈ ord, x ∈ left := by
  induction h with
  | nil => exact fun _ z => nomatch z
  | cons a b c d ih =>
    intro x hx
    rcases List.mem_cons.mp hx with e | e
    · rw [e]; exact a
    · exact List.mem_of_mem_erase (ih x e)
section
variable {P : Program} {w : World} {K : PySem.W.Frag} {mg : Str → Option Value} {base : Heap}
/-- a hand and the belts that come to it -/
def PlanAt (Z : Hp) (D : Addr) (bs : List BR) (H : Hp) (v : V) (k : Nat) : Prop := ∃ t l : Addr, v = .ref t ∧ H t = some (.tup [nV k, .ref l]) ∧ H l = some (.lst ((comingN bs k).map nV)) ∧ l ≠ D ∧ Z t = none ∧ Z l = none
theorem PlanAt.same {Z : Hp} {D : Addr} {bs : List BR} {H H' : Hp} {v : V} {k : Nat} (a : PlanAt Z D bs H v k) (s : Same H H') : PlanAt Z D bs H' v k := by
  obtain ⟨t, l, e, h1, h2, n⟩ := a
  exact ⟨t, l, e, s _ _ h1, s _ _ h2, n⟩
theorem PlanAt.own {Z : Hp} {D : Addr} {bs : List BR} {H : Hp} {v : V} {k : Nat} {xs ys : List V} (a : PlanAt Z D bs H v k) (h : H D = some (.lst xs)) : PlanAt Z D bs (upd H D (.lst ys)) v k := by
  obtain ⟨t, l, e, h1, h2, n⟩ := a
  exact ⟨t, l, e, TK.lst h _ _ h1, by rw [upd_ne n.1]; exact h2, n⟩
def sp_work_plan (K : PySem.W.Frag) : Sp := fun vs H Q _ => ∃ (r : Addr) (hs : List HR) (bs : List BR) (rk : Nat → Int), vs = [.ref r] ∧ RoomAt H r hs bs ∧ hs.length ≤ 400 ∧ bs.length ≤ 400 ∧ (∀ b ∈ bs, b.one < hs.length ∧ b.to < hs.length) ∧ (∀ p ∈ looseOf bs, rk p.1 < rk p.2) ∧
  ∀ (p D : Addr) (ord : List Nat) (pv : List V) (H' : Hp), H p = none → H' p = some (.lst pv) → All2 (PlanAt H D bs H') pv ord → Soon (looseOf bs) (List.range hs.length) ord → Same H H' → Q (.ref p) H'
theorem ok_work_plan {f : Addr} {fd : FuncData} (F : Fun K "work_plan" "work_plan" s_work_plan f fd) (T : Top K mg) : FnOk P w K mg base CX0 2 f fd ["room"] (sp_work_plan K) := by
  obtain ⟨f_comings, fd_comings, F_comings, b_comings, m_comings⟩ := T.d_comings
  have G_comings := ok_comings (P := P) (w := w) (base := base) F_comings T
  obtain ⟨f_work_order, fd_work_order, F_work_order, b_work_order, m_work_order⟩ := T.d_work_order
  have G_work_order := ok_work_order (P := P) (w := w) (base := base) F_work_order T
  refine F.ok sc_work_plan (fun vs H Q E h => ?_) (fun cdv A outer s H vs Q E hr h => ?_)
  · obtain ⟨r, hs, bs, rk, rfl, _⟩ := h
    rfl
  obtain ⟨r, hs, bs, rk, rfl, hR, lh, lb, ends, hrk, q⟩ := h
  refine ⟨_, (pss_one (ps_ret (pe_lc (own := [("hand", 1)]) (g := gName 1) (tt := tYes) (by rfl) sc_work_plan.nd (pi_listK K rfl (pe_call G_work_order (hr.mono (by decide)) (by rfl) m_work_order F_work_order.kp b_work_order .nil pass0 (pa_cons (pv 0) pa_nil))) (blkOk_by (own := [("hand", 1)]) (N := N_work_plan) (sc := defScope s_work_plan) (by decide +kernel)) (fun _ _ _ _ _ => (pg_name (i := 1) sc_work_plan.nd rfl (Or.inl rfl))) (fun _ _ _ _ _ => pts_nil) (fun _ _ _ _ _ => (pe_tup (pa_cons (pv 1) (pa_cons (pe_call G_comings (hr.mono (by decide)) (by rfl) m_comings F_comings.kp b_comings .nil pass0 (pa_cons (pv 0) (pa_cons (pv 1) pa_nil))) pa_nil))))))), ?_⟩
  refine ⟨_, rfl, r, hs, bs, rk, rfl, hR, lh, lb, ends, hrk, fun od ord H1 nod hod s1 soon => ?_⟩
  have lo := soon_len soon
  rw [List.length_range] at lo
  refine ⟨od, rfl, ⟨_, SqL.of hod⟩, fun D nD => lc_list (K := K) (a := od) (xs := ord.map nV) (fun i H5 => ∃ pv : List V, H5 D = some (.lst pv) ∧ All2 (PlanAt H D bs H5) pv (ord.take i) ∧ Same H1 H5) ⟨[], upd_same, .nil, same_new nD⟩ (fun i H5 _ ⟨_, _, _, s5⟩ => SqL.of (s5 _ _ hod)) ?_ ?_⟩
  · rintro i x H5 hx ⟨pv, hD, al, s5⟩
    rw [List.getElem?_map] at hx
    cases ek : ord[i]? with
    | none => rw [ek] at hx; cases hx
    | some k =>
    rw [ek] at hx
    obtain rfl : nV k = x := Option.some.inj hx
    have il := (List.getElem?_eq_some_iff.mp ek).1
    refine ⟨rfl, yes_in ⟨_, rfl, _, rfl, _, rfl, r, hs, bs, k, rfl, hR.keep (TK.same (s1.trans s5)), lb, fun l H6 nl hl s6 => ⟨(by show 2 ≤ sizeLine; decide), fun t nt => ⟨pv, same_new nt _ _ (s6 _ _ hD), ?_, pv ++ [V.ref t], upd_same, ?_, Same.own ((s5.trans s6).trans (same_new nt)) nD⟩⟩⟩⟩
    · have := al.length
      rw [List.length_take] at this
      exact small1000 (by omega)
    · rw [List.take_add_one, ek]
      have h6 : All2 (PlanAt H D bs (upd H6 t (.tup [nV k, V.ref l]))) (pv ++ [V.ref t]) (ord.take i ++ [k]) := (al.imp fun _ _ z => z.same (s6.trans (same_new nt))).snoc ⟨t, l, rfl, upd_same, same_new nt _ _ hl, (ne_of_none hD nl).symm, same_none ((s1.trans s5).trans s6) nt, same_none (s1.trans s5) nl⟩
      exact h6.imp fun _ _ z => z.own (same_new nt _ _ (s6 _ _ hD))
  · rintro H5 ⟨pv, hD, al, s5⟩
    rw [List.length_map, List.take_length] at al
    exact q D D ord pv H5 (same_none s1 nD) hD al soon (s1.trans s5)
theorem dget_of {H : Hp} {a : Addr} {kvs : List (Key × V)} {k : Nat} {o : Option V} (e : H a = some (.dK kvs)) (h : valV kvs (kN k) = o) : DGet H a (nV k) o := h ▸ DGet.k (k := kN k) e
def sp_thing_taken (K : PySem.W.Frag) : Sp := fun vs H Q _ => ∃ (v : V) (b : BR) (d : Addr) (kvs : List (Key × V)) (pm : Nat → Option Int), vs = [v, .ref d] ∧ BeltAt H v b ∧ H d = some (.dK kvs) ∧ DM kvs pm ∧ (b.th = [] → (pm b.one).isSome = true) ∧ Q (.int (valB (fun j => (pm j).getD 0) b)) H
theorem ok_thing_taken {f : Addr} {fd : FuncData} (F : Fun K "thing_taken" "thing_taken" s_thing_taken f fd) (T : Top K mg) : FnOk P w K mg base CX0 1 f fd ["belt", "made"] (sp_thing_taken K) := by
  refine F.ok sc_thing_taken (fun vs H Q E h => ?_) (fun cdv A outer s H vs Q E hr h => ?_)
  · obtain ⟨v, b, d, kvs, pm, rfl, _⟩ := h
    rfl
  obtain ⟨v, b, d, kvs, pm, rfl, ⟨t, g, rfl, e1, e2⟩, hd, dm, av, q⟩ := h
  refine ⟨_, (pss_cons (ps_asg (pv 0) (pg_tupK K rfl rfl (pgs_cons (pg_name (i := 2) sc_thing_taken.nd rfl (Or.inl rfl)) (pgs_cons (pg_name (i := 3) sc_thing_taken.nd rfl (Or.inl rfl)) (pgs_cons (pg_name (i := 4) sc_thing_taken.nd rfl (Or.inl rfl)) pgs_nil)))))
      (pss_one (ps_ret (pe_ifExp (pt_truthK K rfl (pv 4) (by intro _; rfl)) (pe_ix (ix_tupK K rfl) (pv 4) pe_int (fun _ _ => rfl)) (pe_dget (hu_of hr) (pv 1) (pv 2) (fun _ _ => rfl)))))), ?_⟩
  refine ⟨_, rfl, t, _, rfl, SqT.of e1, rfl, _, _, rfl, _, _, rfl, _, _, rfl, rfl, ?_⟩
  refine ⟨_, rfl, _, .inr (.inl ⟨_, SqT.of e2, rfl⟩), ?_⟩
  cases eb : b.th with
  | nil =>
    rw [valB_nil eb] at q
    obtain ⟨x, hx⟩ := Option.isSome_iff_exists.mp (av eb)
    rw [hx] at q
    refine if_bl (fun z => nomatch z) (fun _ => ⟨_, rfl, _, rfl, d, .int x, rfl, dget_of hd ?_, q⟩)
    rw [dm, hx]
    rfl
  | cons x l =>
    have ev : valB (fun j => (pm j).getD 0) b = x := by unfold valB; rw [eb]
    rw [ev] at q
    rw [eb] at e2
    exact if_bl (fun _ => ⟨_, rfl, g, _, _, _, rfl, rfl, SqT.of e2, atI_nat (j := 0) rfl, q⟩) (fun z => nomatch z)
def sp_belt_behind_bell (K : PySem.W.Frag) : Sp := fun vs H Q _ => ∃ (v : V) (b : BR) (t : Addr) (m : List Int), vs = [v, .ref t] ∧ BeltAt H v b ∧ H t = some (.tup (m.map V.int)) ∧ b.one < m.length ∧ b.th.length ≤ 400 ∧ ∀ (u : V) (H' : Hp), BeltAt H' u (nextB m b) → Same H H' → Q u H'
theorem ok_belt_behind_bell {f : Addr} {fd : FuncData} (F : Fun K "belt_behind_bell" "belt_behind_bell" s_belt_behind_bell f fd) (T : Top K mg) : FnOk P w K mg base CX0 1 f fd ["belt", "made"] (sp_belt_behind_bell K) := by
  refine F.ok sc_belt_behind_bell (fun vs H Q E h => ?_) (fun cdv A outer s H vs Q E hr h => ?_)
  · obtain ⟨v, b, t, m, rfl, _⟩ := h
    rfl
  obtain ⟨v, b, tm, m, rfl, hb, htm, om, lt, q⟩ := h
  obtain ⟨t, g, rfl, e1, e2⟩ := id hb
  refine ⟨_, (pss_cons (ps_asg (pv 0) (pg_tupK K rfl rfl (pgs_cons (pg_name (i := 2) sc_belt_behind_bell.nd rfl (Or.inl rfl)) (pgs_cons (pg_name (i := 3) sc_belt_behind_bell.nd rfl (Or.inl rfl)) (pgs_cons (pg_name (i := 4) sc_belt_behind_bell.nd rfl (Or.inl rfl)) pgs_nil)))))
      (pss_one (ps_ret (pe_ifExp (pt_truthK K rfl (pv 4) (by intro _; rfl)) (pe_tup (pa_cons (pv 2) (pa_cons (pv 3) (pa_cons (pe_op (op_catAK K rfl) (pe_slice (sl_tupAK K rfl) (pv 4) (po_some pe_int) po_none) (pe_tup (pa_cons (pe_ix (ix_tupK K rfl) (pv 1) (pv 2) (fun _ _ => rfl)) pa_nil))) pa_nil)))) (pv 0))))), ?_⟩
  refine ⟨_, rfl, t, _, rfl, SqT.of e1, rfl, _, _, rfl, _, _, rfl, _, _, rfl, rfl, ?_⟩
  refine ⟨_, rfl, _, .inr (.inl ⟨_, SqT.of e2, rfl⟩), ?_⟩
  unfold nextB at q
  cases eb : b.th with
  | nil =>
    rw [if_pos eb] at q
    exact if_bl (fun z => nomatch z) (fun _ => ⟨_, rfl, q _ _ hb (fun _ _ e => e)⟩)
  | cons x l =>
    rw [if_neg (by rw [eb]; exact fun z => nomatch z), eb] at q
    rw [eb] at e2 lt
    have lt : l.length + 1 ≤ 400 := lt
    have ec : cutV ((x :: l).map V.int) (some 1) none = l.map V.int := by
      have := cut_drop ((x :: l).map V.int) 1
      exact this
    refine if_bl (fun _ => ⟨_, rfl, _, rfl, _, rfl, _, rfl, g, _, rfl, SqT.of e2, (fun z => ?_), fun _ p np => ?_⟩) (fun z => nomatch z)
    · exact absurd z.1 (by rw [show (1 : Int) = ((1 : Nat) : Int) from rfl, HT.sIx_nat]; simp)
    rw [ec]
    refine ⟨_, rfl, _, rfl, tm, _, _, _, rfl, rfl, SqT.of (same_new np _ _ htm), at_row om, (by show 1 ≤ sizeLine; decide), fun p2 np2 => ?_⟩
    have s2 := (same_new (o := .tup (l.map V.int)) np).trans (same_new (o := .tup [V.int (gD m b.one)]) np2)
    have hp2 := same_new (o := .tup [V.int (gD m b.one)]) np2 _ _ (upd_same (H := H) (a := p) (o := .tup (l.map V.int)))
    refine ⟨p, p2, _, _, rfl, rfl, SqT.of hp2, SqT.of upd_same, ?_, fun z => ?_, (fun z y => nomatch y), fun z _ p3 np3 => ?_⟩
    · rw [List.length_map]; exact little (by show l.length + 1 ≤ 1000; omega)
    · have zl : l = [] := by cases l with | nil => rfl | cons a b => cases z
      subst zl
      refine ⟨(by show 3 ≤ sizeLine; decide), fun p4 np4 => q (.ref p4) _ ⟨p4, p2, rfl, upd_same, ?_⟩ (s2.trans (same_new np4))⟩
      exact same_new np4 _ _ upd_same
    · refine ⟨(by show 3 ≤ sizeLine; decide), fun p4 np4 => q (.ref p4) _ ⟨p4, p3, rfl, upd_same, ?_⟩ ((s2.trans (same_new np3)).trans (same_new np4))⟩
      have := same_new (o := .tup [nV b.one, nV b.to, V.ref p3]) np4 _ _ (upd_same (H := upd (upd H p (.tup (l.map V.int))) p2 (.tup [V.int (gD m b.one)])) (a := p3) (o := .tup (l.map V.int ++ [V.int (gD m b.one)])))
      rw [this]
      show _ = some (HO.tup ((l ++ [gD m b.one]).map V.int))
      rw [List.map_append]
      rfl
def sp_behind_bell (K : PySem.W.Frag) : Sp := fun vs H Q _ => ∃ (r t : Addr) (hs : List HR) (cur : List BR) (m : List Int), vs = [.ref r, .ref t] ∧ RoomAt H r hs cur ∧ H t = some (.tup (m.map V.int)) ∧ (∀ b ∈ cur, b.one < m.length ∧ b.th.length ≤ 400) ∧ cur.length ≤ 400 ∧ ∀ (p : Addr) (H' : Hp), RoomAt H' p hs (cur.map (nextB m)) → Same H H' → Q (.ref p) H'
theorem ok_behind_bell {f : Addr} {fd : FuncData} (F : Fun K "behind_bell" "behind_bell" s_behind_bell f fd) (T : Top K mg) : FnOk P w K mg base CX0 2 f fd ["room", "made"] (sp_behind_bell K) := by
  obtain ⟨f_belt_behind_bell, fd_belt_behind_bell, F_belt_behind_bell, b_belt_behind_bell, m_belt_behind_bell⟩ := T.d_belt_behind_bell
  have G_belt_behind_bell := ok_belt_behind_bell (P := P) (w := w) (base := base) F_belt_behind_bell T
  refine F.ok sc_behind_bell (fun vs H Q E h => ?_) (fun cdv A outer s H vs Q E hr h => ?_)
  · obtain ⟨r, t, hs, cur, m, rfl, _⟩ := h
    rfl
  obtain ⟨r, t, hs, cur, m, rfl, hR, ht, hb, lc, q⟩ := h
  obtain ⟨ha, ba, hv, bv, er, eh, eb, alh, alb⟩ := hR.ex
  have lbv := alb.length
  refine ⟨_, (pss_cons (ps_asg (pv 0) (pg_tupK K rfl rfl (pgs_cons (pg_name (i := 2) sc_behind_bell.nd rfl (Or.inl rfl)) (pgs_cons (pg_name (i := 3) sc_behind_bell.nd rfl (Or.inl rfl)) pgs_nil))))
      (pss_one (ps_ret (pe_tup (pa_cons (pv 2) (pa_cons (pe_callTy (call_tuple_ofK K rfl) (by rfl) T.m_tuple (by decide +kernel) (pa_cons (pe_lc (own := [("belt", 4)]) (g := gName 4) (tt := tYes) (by rfl) sc_behind_bell.nd (pi_tupK K rfl (pv 3)) (blkOk_by (own := [("belt", 4)]) (N := N_behind_bell) (sc := defScope s_behind_bell) (by decide +kernel)) (fun _ _ _ _ _ => (pg_name (i := 4) sc_behind_bell.nd rfl (Or.inl rfl))) (fun _ _ _ _ _ => pts_nil) (fun _ _ _ _ _ => (pe_call G_belt_behind_bell (hr.mono (by decide)) (by rfl) m_belt_behind_bell F_belt_behind_bell.kp b_belt_behind_bell .nil pass0 (pa_cons (pv 4) (pa_cons (pv 1) pa_nil))))) pa_nil)) pa_nil)))))), ?_⟩
  refine ⟨_, rfl, r, _, rfl, SqT.of er, rfl, _, _, rfl, _, _, rfl, rfl, ?_⟩
  refine ⟨_, rfl, _, rfl, ba, rfl, ⟨_, SqT.of eb⟩, fun D nD => lc_tup (K := K) (a := ba) (xs := bv) (fun i H5 => ∃ lv : List V, H5 D = some (.lst lv) ∧ All2 (BeltAt H5) lv ((cur.take i).map (nextB m)) ∧ Same H H5) ⟨[], upd_same, .nil, same_new nD⟩ (fun i H5 _ ⟨_, _, _, s5⟩ => SqT.of (s5 _ _ eb)) ?_ ?_⟩
  · rintro i x H5 hx ⟨lv, hD, al, s5⟩
    obtain ⟨b, eb2, hB⟩ := alb.getL hx
    have il := (List.getElem?_eq_some_iff.mp eb2).1
    obtain ⟨b1, b2⟩ := hb b (List.mem_of_getElem? eb2)
    refine ⟨rfl, yes_in ⟨_, rfl, _, rfl, x, b, t, m, rfl, hB.keep (TK.same s5), s5 _ _ ht, b1, b2, fun u H6 hu s6 => ⟨lv, s6 _ _ hD, ?_, lv ++ [u], upd_same, ?_, Same.own (s5.trans s6) nD⟩⟩⟩
    · have := al.length
      rw [List.length_map, List.length_take] at this
      exact small1000 (by omega)
    · rw [List.take_add_one, eb2, List.map_append]
      exact ((al.imp fun _ _ z => z.keep (TK.same s6)).snoc hu).imp fun _ _ z => z.keep (TK.lst (s6 _ _ hD))
  · rintro H5 ⟨lv, hD, al, s5⟩
    rw [lbv, List.take_length] at al
    refine ⟨D, _, rfl, .inl ⟨SqL.of hD, fun p np => ⟨(by show 2 ≤ sizeLine; decide), fun p2 np2 => ?_⟩⟩⟩
    have s6 : Same H (upd (upd H5 p (.tup lv)) p2 (.tup [V.ref ha, V.ref p])) := (s5.trans (same_new np)).trans (same_new np2)
    exact q p2 _ ⟨ha, p, hv, lv, upd_same, s6 _ _ eh, same_new np2 _ _ upd_same, alh.imp fun _ _ z => z.keep (TK.same s6), al.imp fun _ _ z => z.keep ((TK.new np).trans (TK.new np2))⟩ s6
end
theorem filt_map {α β : Type} (p : Option α → Bool) (g : Option α → β) (l : List α) : ∀ n, n ≤ l.length → ((List.range n).filter fun i => p l[i]?).map (fun i => g l[i]?) = ((l.take n).filter fun b => p (some b)).map fun b => g (some b)
  | 0, _ => rfl
  | n + 1, h => by
    have e : l[n]? = some l[n] := List.getElem?_eq_getElem (by omega)
    rw [filt_succ, List.map_append, filt_map p g l n (by omega), List.take_add_one, e, List.filter_append, List.map_append]
    congr 1
    cases k : p (some l[n])
    · rw [if_neg Bool.false_ne_true]
      simp [k]
    · rw [if_pos rfl]
      simp [k, e]
def valI (cur : List BR) (f : Nat → Int) (i : Nat) : Int := match cur[i]? with | some b => valB f b | none => 0
theorem coming_takes (cur : List BR) (f : Nat → Int) (k : Nat) : (comingN cur k).map (valI cur f) = takes cur f k := by
  have := filt_map (fun o => decide (o.map BR.to = some k)) (fun o : Option BR => match o with | some b => valB f b | none => 0) cur cur.length (Nat.le_refl _)
  rw [List.take_length] at this
  refine this.trans ?_
  unfold takes
  congr 1
  refine List.filter_congr fun b _ => ?_
  simp
theorem takes_len {cur : List BR} {f : Nat → Int} {k : Nat} : (takes cur f k).length = (cur.map BR.to).count k := by
  unfold takes
  rw [List.length_map, List.count_eq_countP, List.countP_map, List.countP_eq_length_filter]
  congr 1
theorem coming_mem {cur : List BR} {k i : Nat} (h : i ∈ comingN cur k) : ∃ b, cur[i]? = some b ∧ b.to = k := by
  unfold comingN at h
  have h := (List.mem_filter.mp h).2
  have h := of_decide_eq_true h
  cases e : cur[i]? with
  | none => rw [e] at h; cases h
  | some b => rw [e] at h; exact ⟨b, rfl, Option.some.inj h⟩
theorem coming_len {cur : List BR} {k : Nat} : (comingN cur k).length ≤ cur.length := filt_len _
/-- what made_by asks of a good hand and what it takes -/
theorem getD_map {xs : List Int} {j : Nat} (h : j < xs.length) : (xs.map V.int)[j]? = some (.int (xs.getD j 0)) := by
  rw [List.getElem?_map, List.getElem?_eq_getElem h, List.getD_eq_getElem?_getD, List.getElem?_eq_getElem h]; rfl
theorem needs_some {wd : Str} (h1 : wd ≠ "in") (h2 : wd ≠ "always") : 1 ≤ needs wd := by
  unfold needs
  rw [if_neg (by simp [h1, h2])]
  split
  · exact Int.le_refl _
  · split <;> decide
theorem needs_two {wd : Str} (h1 : wd ≠ "in") (h2 : wd ≠ "always") (h3 : wd ≠ "times") (h4 : wd ≠ "same") (h5 : wd ≠ "out") : 2 ≤ needs wd := by
  unfold needs
  rw [if_neg (by simp [h1, h2]), if_neg (by simp [h3, h4, h5])]
  split <;> decide
theorem needs_pick : needs "pick" = 3 := by decide +kernel
structure Args (h : HR) (rl ts : List V) (n a b c : Int) : Prop where
  r0 : rl[0]? = some (.str h.wd)
  r1 : h.wd = "always" ∨ h.wd = "times" → rl[1]? = some (.int n)
  t0 : h.wd ≠ "always" → ts[0]? = some (.int a)
  t1 : h.wd = "pick" ∨ (h.wd ≠ "always" ∧ h.wd ≠ "times" ∧ h.wd ≠ "same" ∧ h.wd ≠ "out") → ts[1]? = some (.int b)
  t2 : h.wd = "pick" → ts[2]? = some (.int c)
  big : -(2 ^ 64) < n ∧ n < 2 ^ 64
theorem args_of {h : HR} (g : GoodHand h) (w : h.wd ≠ "in") {xs : List Int} (hl : ((xs.length : Nat) : Int) = needs h.wd) : Args h (ruleL h) (xs.map V.int) (h.no.getD 0) (xs.getD 0 0) (xs.getD 1 0) (xs.getD 2 0) := by
  refine ⟨rfl, fun e => ?_, fun e => getD_map ?_, fun e => getD_map ?_, fun e => getD_map ?_, ?_⟩
  · have k : h.no.isSome = true := by
      rcases g.1 with k | k
      · exact k.no.mpr e.symm
      · exfalso
        rcases k.1 with z | z <;> rcases e with e | e <;> rw [z] at e <;> exact absurd e (by decide +kernel)
    obtain ⟨n, hn⟩ := Option.isSome_iff_exists.mp k
    show (V.str h.wd :: (match h.no with | none => [] | some n => [.int n]))[1]? = _
    rw [hn]
    rfl
  · have := needs_some w e
    omega
  · rcases e with e | ⟨e1, e2, e3, e4⟩
    · rw [e, needs_pick] at hl
      omega
    · have := needs_two w e1 e2 e3 e4
      omega
  · rw [e, needs_pick] at hl
    omega
  · cases e : h.no with
    | none => decide
    | some n =>
      rcases g.1 with k | k
      · have := k.big n e
        show -(2 ^ 64) < n ∧ n < 2 ^ 64
        omega
      · rw [k.2] at e
        cases e
section
variable {P : Program} {w : World} {K : PySem.W.Frag} {mg : Str → Option Value} {base : Heap}
structure BellOk (hs : List HR) (cur : List BR) : Prop where
  hands : hs.length ≤ 12
  belts : cur.length ≤ 20
  good : ∀ h ∈ hs, GoodHand h
  ends : ∀ b ∈ cur, b.one < hs.length ∧ b.to < hs.length
  count : ∀ k h, hs[k]? = some h → (((cur.map BR.to).count k : Nat) : Int) = needs h.wd
theorem dget0 {H : Hp} {a : Addr} {kvs : List (Key × V)} {k : Nat} {o : Option V} (e : H a = some (.dK kvs)) (h : valV kvs (kN k) = o) : DGet H a (.int (0 + ((k : Nat) : Int))) o := by
  rw [Int.zero_add]
  exact dget_of e h
def sp_made_at_bell (K : PySem.W.Frag) : Sp := fun vs H Q _ => ∃ (r pl t D : Addr) (Z : Hp) (hs : List HR) (cur : List BR) (pv : List V) (ord : List Nat) (ins : List Int), vs = [.ref r, .ref pl, .ref t] ∧ RoomAt H r hs cur ∧ H pl = some (.lst pv) ∧ All2 (PlanAt Z D cur H) pv ord ∧ H t = some (.tup (ins.map V.int)) ∧
  BellOk hs cur ∧ Soon (looseOf cur) (List.range hs.length) ord ∧ ins.length = (doorsOf "in" hs).length ∧ ∀ (p : Addr) (m : List Int) (H' : Hp), H p = none → H' p = some (.tup (m.map V.int)) → IsBell hs cur ins m → Same H H' → Q (.ref p) H'
theorem ok_made_at_bell {f : Addr} {fd : FuncData} (F : Fun K "made_at_bell" "made_at_bell" s_made_at_bell f fd) (T : Top K mg) : FnOk P w K mg base CX0 3 f fd ["room", "plan", "things"] (sp_made_at_bell K) := by
  obtain ⟨f_doors_in, fd_doors_in, F_doors_in, b_doors_in, m_doors_in⟩ := T.d_doors_in
  have G_doors_in := ok_doors_in (P := P) (w := w) (base := base) F_doors_in T
  obtain ⟨f_made_by, fd_made_by, F_made_by, b_made_by, m_made_by⟩ := T.d_made_by
  have G_made_by := ok_made_by (P := P) (w := w) (base := base) F_made_by T
  obtain ⟨f_thing_taken, fd_thing_taken, F_thing_taken, b_thing_taken, m_thing_taken⟩ := T.d_thing_taken
  have G_thing_taken := ok_thing_taken (P := P) (w := w) (base := base) F_thing_taken T
  refine F.ok sc_made_at_bell (fun vs H Q E h => ?_) (fun cdv A outer s H vs Q E hr h => ?_)
  · obtain ⟨r, pl, t, D, Z, hs, cur, pls, ord, ins, rfl, _⟩ := h
    rfl
  obtain ⟨r, pl, t, D0, Z0, hs, cur, pls, ord, ins, rfl, hR, hpl, alp, ht, ok, soon, hi, q⟩ := h
  obtain ⟨ha, ba, hv, bv, er, eh, eb, alh, alb⟩ := hR.ex
  have lh := ok.hands
  have lbb := ok.belts
  have lhv := alh.length
  have lo := soon_len soon
  rw [List.length_range] at lo
  have lpv := alp.length
  have ld := doors_len (z := "in") (hs := hs)
  refine ⟨_, (pss_cons (ps_asg (pv 0) (pg_tupK K rfl rfl (pgs_cons (pg_name (i := 3) sc_made_at_bell.nd rfl (Or.inl rfl)) (pgs_cons (pg_name (i := 4) sc_made_at_bell.nd rfl (Or.inr rfl)) pgs_nil))))
      (pss_cons (ps_set (i := 5) sc_made_at_bell.nd rfl (Or.inr rfl) (pe_dictZip K rfl rfl (by rfl) T.m_dict (by rfl) T.m_zip (pa_cons (pe_call G_doors_in (hr.mono (by decide)) (by rfl) m_doors_in F_doors_in.kp b_doors_in .nil pass0 (pa_cons (pv 0) pa_nil)) (pa_cons (pv 2) pa_nil))))
      (pss_cons (ps_for PassesOwn.never rfl (pi_listK K rfl (pv 1)) (pg_tupK K rfl rfl (pgs_cons (pg_name (i := 6) sc_made_at_bell.nd rfl (Or.inl rfl)) (pgs_cons (pg_name (i := 7) sc_made_at_bell.nd rfl (Or.inl rfl)) pgs_nil)))
        (pss_one (ps_if (pt_cmp (pc_dnotin (hu_of hr) (pv 6) (pv 5)) (by with_unfolding_all rfl)) (pss_cons (ps_setLc (i := 8) (own := [("number", 9)]) (g := gName 9) (tt := tYes) (by rfl) sc_made_at_bell.nd rfl rfl (sw_true rfl rfl rfl (by decide +kernel)) (pi_listK K rfl (pv 7)) (blkOk_by (own := [("number", 9)]) (N := N_made_at_bell) (sc := defScope s_made_at_bell) (by decide +kernel)) (fun _ _ _ _ _ => (pg_name (i := 9) sc_made_at_bell.nd rfl (Or.inl rfl))) (fun _ _ _ _ _ => pts_nil) (fun _ _ _ _ _ => (pe_call G_thing_taken (hr.mono (by decide)) (by rfl) m_thing_taken F_thing_taken.kp b_thing_taken .nil pass0 (pa_cons (pe_ix (ix_tupK K rfl) (pv 4) (pv 9) (fun _ _ => rfl)) (pa_cons (pv 5) pa_nil)))))
      (pss_one (ps_dput (hu_of hr) (pv 5) (pv 6) (pe_call G_made_by (hr.mono (by decide)) (by rfl) m_made_by F_made_by.kp b_made_by .nil pass0 (pa_cons (pe_ix (ix_tupK K rfl) (pe_ix (ix_tupK K rfl) (pv 3) (pv 6) (fun _ _ => rfl)) pe_int (fun _ _ => rfl)) (pa_cons (pe_callTy (call_tuple_ofK K rfl) (by rfl) T.m_tuple (by decide +kernel) (pa_cons (pv 8) pa_nil)) pa_nil))) (by rfl)))) pss_nil)))
      (pss_one (ps_ret (pe_callTy (call_tuple_ofK K rfl) (by rfl) T.m_tuple (by decide +kernel) (pa_cons (pe_lc (own := [("hand", 6)]) (g := gName 6) (tt := tYes) (by rfl) sc_made_at_bell.nd (pi_range1 (by rfl) T.m_range (pa_cons (pe_callB (call_len_seqK K rfl) (by rfl) T.m_len (by decide +kernel) (pa_cons (pv 3) pa_nil)) pa_nil)) (blkOk_by (own := [("hand", 6)]) (N := N_made_at_bell) (sc := defScope s_made_at_bell) (by decide +kernel)) (fun _ _ _ _ _ => (pg_name (i := 6) sc_made_at_bell.nd rfl (Or.inl rfl))) (fun _ _ _ _ _ => pts_nil) (fun _ _ _ _ _ => (pe_dget (hu_of hr) (pv 5) (pv 6) (fun _ _ => rfl)))) pa_nil))))))), ?_⟩
  refine ⟨_, rfl, r, _, rfl, SqT.of er, rfl, _, _, rfl, _, _, rfl, rfl, ?_⟩
  refine ⟨_, rfl, r, hs, cur, rfl, hR, by omega, ok.good, fun dd H1 ndd hdd s1 => ⟨_, rfl, dd, t, (doorsOf "in" hs).map kN, ins.map V.int, rfl, SqL.of (by rw [hdd, List.map_map]; rfl), SqT.of (s1 _ _ ht), fun d nd => ?_⟩⟩
  have nd0 : H d = none := same_none s1 nd
  have s2 : Same H (upd H1 d (.dK (mergeK [] (((doorsOf "in" hs).map kN).zip (ins.map V.int))))) := s1.trans (same_new nd)
  have len0 : (mergeK [] (((doorsOf "in" hs).map kN).zip (ins.map V.int))).length ≤ 12 := by
    refine Nat.le_trans (length_mergeK _ []) ?_
    rw [List.length_zip, List.length_map, List.length_map, List.length_nil]
    omega
  refine ⟨_, rfl, pl, rfl, ⟨_, SqL.of (s2 _ _ hpl)⟩, for_list (K := K) (a := pl) (xs := pls) (fun i σ H2 => ∃ (v6 v7 v8 v9 : Option V) (kvs : List (Key × V)) (pm : Nat → Option Int) (left : List Nat), σ = [some (.ref r), some (.ref pl), some (.ref t), some (.ref ha), some (.ref ba), some (.ref d), v6, v7, v8, v9] ∧ H2 d = some (.dK kvs) ∧ DM kvs pm ∧ Part hs cur ins pm ∧ kvs.length ≤ 12 + i ∧ Same H H2 ∧ Soon (looseOf cur) left (ord.drop i) ∧ (∀ k, k < hs.length → k ∉ left → (pm k).isSome = true) ∧ (∀ (k : Nat) (h : HR), hs[k]? = some h → h.wd = "in" → (pm k).isSome = true))
    ⟨none, none, none, none, _, doorM hs ins, List.range hs.length, rfl, upd_same, doorM_dm hi, doorM_part, len0, s2, soon, fun k hk n => absurd (List.mem_range.mpr hk) n, fun k h e w => doorM_all hi e w⟩ (fun i σ H2 _ ⟨_, _, _, _, _, _, _, _, _, _, _, _, s, _⟩ => SqL.of (s _ _ hpl)) ?_ ?_⟩
  · rintro i x σ H2 hx ⟨v6, v7, v8, v9, kvs, pm, left, rfl, hd, dm, part, lk, s3, so, all, doors⟩
    obtain ⟨k, ek, ⟨t2, l, rfl, p1, p2, _⟩⟩ := alp.getL hx
    have il := (List.getElem?_eq_some_iff.mp ek).1
    have ed : ord.drop i = k :: ord.drop (i + 1) := by
      rw [List.drop_eq_getElem_cons il, (List.getElem?_eq_some_iff.mp ek).2]
    rw [ed] at so
    obtain ⟨kl, fr, so2⟩ : k ∈ left ∧ free (looseOf cur) left k ∧ Soon (looseOf cur) (left.erase k) (ord.drop (i + 1)) := by
      cases so with
      | cons a b c d => exact ⟨a, b, d⟩
    have kn : k < hs.length := by
      have e := soon_mem soon k (List.mem_of_getElem? ek)
      exact List.mem_range.mp e
    have eh2 : hs[k]? = some hs[k] := List.getElem?_eq_getElem kn
    refine ⟨t2, _, rfl, SqT.of (s3 _ _ p1), rfl, _, _, rfl, _, _, rfl, rfl, ?_⟩
    refine ⟨_, rfl, _, rfl, d, _, rfl, dget_of hd (dm k), _, rfl, if_bl (fun c => ?_) (fun c => ?_)⟩
    · have new : pm k = none := by
        cases e : pm k with
        | none => rfl
        | some v => rw [e] at c; cases c
      have win : hs[k].wd ≠ "in" := fun z => by
        have := doors k _ eh2 z
        rw [new] at this
        cases this
      have there : ∀ b ∈ cur, b.to = k → b.th = [] → (pm b.one).isSome = true := fun b b1 b2 b3 => all b.one (ok.ends b b1).1 (fr _ (mem_loose b1 b3) b2)
      have hl2 := s3 _ _ p2
      refine ⟨_, rfl, l, rfl, ⟨_, SqL.of hl2⟩, fun D nD => lc_list (K := K) (a := l) (xs := (comingN cur k).map nV) (fun j H5 => H5 D = some (.lst ((((comingN cur k).take j).map (valI cur fun j => (pm j).getD 0)).map V.int)) ∧ H5 d = some (.dK kvs) ∧ Same H2 H5) ⟨upd_same, same_new nD _ _ hd, same_new nD⟩ (fun j H5 _ ⟨_, _, s5⟩ => SqL.of (s5 _ _ hl2)) ?_ ?_⟩
      · rintro j x H5 hx ⟨hD, hd5, s5⟩
        rw [List.getElem?_map] at hx
        cases ej : (comingN cur k)[j]? with
        | none => rw [ej] at hx; cases hx
        | some n =>
        rw [ej] at hx
        obtain rfl : nV n = x := Option.some.inj hx
        have jl := (List.getElem?_eq_some_iff.mp ej).1
        have cl := coming_len (cur := cur) (k := k)
        obtain ⟨b, e1, e2⟩ := coming_mem (List.mem_of_getElem? ej)
        obtain ⟨v, ev, hB⟩ := alb.get e1
        have evi : valI cur (fun j => (pm j).getD 0) n = valB (fun j => (pm j).getD 0) b := by unfold valI; rw [e1]
        refine ⟨rfl, yes_in ⟨_, rfl, _, rfl, ba, _, _, _, rfl, rfl, SqT.of (s5 _ _ (s3 _ _ eb)), atI_nat ev, _, rfl, v, b, d, kvs, pm, rfl, hB.keep (TK.same (s3.trans s5)), hd5, dm, fun z => there b (List.mem_of_getElem? e1) e2 z, _, hD, ?_, ?_, ?_, Same.own s5 nD⟩⟩
        · rw [List.length_map, List.length_map, List.length_take]; exact small1000 (by omega)
        · rw [upd_same, List.take_add_one, ej, List.map_append, List.map_append, ← evi]; rfl
        · rw [upd_ne (ne_of_none hd nD)]; exact hd5
      · rintro H5 ⟨hD, hd5, s5⟩
        rw [List.length_map, List.take_length, coming_takes] at hD
        obtain ⟨xs, hxs⟩ : ∃ xs, xs = takes cur (fun j => (pm j).getD 0) k := ⟨_, rfl⟩
        rw [← hxs] at hD
        have lx : ((xs.length : Nat) : Int) = needs hs[k].wd := by rw [hxs, takes_len]; exact ok.count k _ eh2
        obtain ⟨v, ev, ⟨tk, rk2, rfl, h1, h2⟩⟩ := alh.get eh2
        have s4 := s3.trans s5
        have A := args_of (ok.good _ (List.mem_of_getElem? eh2)) win lx
        refine ⟨_, rfl, _, rfl, ha, _, _, _, rfl, rfl, SqT.of (s4 _ _ eh), atI_nat ev, tk, _, _, _, rfl, rfl, SqT.of (s4 _ _ h1), atI_nat (j := 0) rfl, _, rfl, D, _, rfl, .inl ⟨SqL.of hD, fun tt ntt => ?_⟩⟩
        have s5b := s4.trans (same_new (o := .tup (xs.map V.int)) ntt)
        refine ⟨rk2, tt, _, _, hs[k].wd, _, _, _, _, rfl, SqT.of (s5b _ _ h2), SqT.of upd_same, A.r0, A.r1, A.t0, A.t1, A.t2, A.big, fun H6 s6 => ?_⟩
        have hd6 := s6 _ _ (same_new ntt _ _ hd5)
        refine ⟨_, rfl, _, rfl, d, _, rfl, DPut.k (k := kN k) hd6 (small1000 (by omega)), ?_⟩
        refine ⟨_, _, _, _, _, putM pm k (mkR hs[k] xs), left.erase k, rfl, upd_same, dm.put k _, by rw [hxs]; exact part.put eh2 win new there, ?_, Same.own (s5b.trans s6) nd0, so2, fun j hj n => ?_, fun j h e w => ?_⟩
        · have := length_putK kvs (kN k) (V.int (mkR hs[k] xs))
          exact Nat.le_trans this (by omega)
        · by_cases e : j = k
          · rw [show putM pm k (mkR hs[k] xs) j = some _ from if_pos e]; rfl
          · rw [show putM pm k (mkR hs[k] xs) j = pm j from if_neg e]
            exact all j hj fun z => n ((List.mem_erase_of_ne e).mpr z)
        · by_cases e' : j = k
          · rw [show putM pm k (mkR hs[k] xs) j = some _ from if_pos e']; rfl
          · rw [show putM pm k (mkR hs[k] xs) j = pm j from if_neg e']
            exact doors j h e w
    · have old : (pm k).isSome = true := by
        cases e : pm k with
        | none => rw [e] at c; cases c
        | some v => rfl
      refine ⟨_, _, _, _, kvs, pm, left.erase k, rfl, hd, dm, part, by omega, s3, so2, fun j hj n => ?_, doors⟩
      by_cases e : j = k
      · rw [e]; exact old
      · exact all j hj fun z => n ((List.mem_erase_of_ne e).mpr z)
  · rintro σ H2 ⟨v6, v7, v8, v9, kvs, pm, left, rfl, hd, dm, part, lk, s3, so, all, doors⟩
    rw [List.drop_eq_nil_of_le (by omega)] at so
    have el : left = [] := by
      cases so
      rfl
    subst el
    have full : ∀ k, k < hs.length → (pm k).isSome = true := fun k hk => all k hk (fun z => nomatch z)
    refine ⟨_, rfl, ha, _, rfl, .inr (SqT.of (s3 _ _ eh)), _, rfl, by omega, by omega, fun D nD => lc_range (lo := 0) (n := hv.length) (fun j H5 => H5 D = some (.lst ((fullM j pm).map V.int)) ∧ H5 d = some (.dK kvs) ∧ Same H2 H5) ⟨upd_same, same_new nD _ _ hd, same_new nD⟩ ?_ ?_⟩
    · rintro j H5 hj ⟨hD, hd5, s5⟩
      obtain ⟨v, ev⟩ := Option.isSome_iff_exists.mp (full j (by omega))
      refine ⟨rfl, yes_in ⟨_, rfl, _, rfl, d, .int v, rfl, dget0 hd5 (by rw [dm, ev]; rfl), _, hD, ?_, ?_, ?_, Same.own s5 nD⟩⟩
      · rw [List.length_map, List.length_map, List.length_range]; exact small1000 (by omega)
      · rw [upd_same]
        unfold fullM
        rw [List.range_succ, List.map_append, List.map_append]
        simp [ev]
      · rw [upd_ne (ne_of_none hd nD)]; exact hd5
    · rintro H5 ⟨hD, hd5, s5⟩
      rw [lhv] at hD
      exact ⟨D, _, rfl, .inl ⟨SqL.of hD, fun p np => q p _ _ (same_none (s3.trans s5) np) upd_same (part.full full) ((s3.trans s5).trans (same_new np))⟩⟩
end
/-- a list or a tuple of rows -/
def RowsAt (H : Hp) (a : Addr) (rows : List (List Int)) : Prop := ∃ rv : List V, (H a = some (.lst rv) ∨ H a = some (.tup rv)) ∧ All2 (RowAt H) rv rows
theorem RowsAt.same {H H' : Hp} {a : Addr} {rows : List (List Int)} (h : RowsAt H a rows) (s : Same H H') : RowsAt H' a rows := by
  obtain ⟨rv, e, al⟩ := h
  exact ⟨rv, e.imp (s _ _) (s _ _), al.imp fun _ _ z => z.keep (TK.same s)⟩
theorem either_stays {H H' : Hp} {a : Addr} {xs : List V} (s : Same H H') (h : H a = some (.lst xs) ∨ H a = some (.tup xs)) : H' a = H a := by
  rcases h with e | e <;> rw [s _ _ e, e]
theorem or_seq {K : PySem.W.Frag} {te : TE} {σ : L2.St} {H : Hp} {R : It → Hp → Prop} {a : Addr} {xs : List V} (ht : ∀ Q : VK, Q (.ref a) H → te σ H Q) (h : H a = some (.lst xs) ∨ H a = some (.tup xs))
    (k : ∀ J : It, (∀ i H', H' a = H a → i < xs.length → J.go i H') → (∀ H', H' a = H a → J.stop xs.length H') → (∀ i H' x H'', H' a = H a → J.yld i H' x H'' → xs[i]? = some x ∧ H'' = H') → R J H) :
    iList K te σ H R ∨ iTup K te σ H R := by
  rcases h with e | e
  · refine .inl (ht _ ⟨a, rfl, ⟨_, SqL.of e⟩, k _ (fun i H' q hi => ?_) (fun H' q => ?_) fun i H' x H'' q y => ?_⟩)
    · exact ⟨xs, _, SqL.of (q.trans e), List.getElem?_eq_getElem hi⟩
    · exact ⟨xs, SqL.of (q.trans e), Nat.le_refl _⟩
    · exact ⟨y.2 _ (SqL.of (q.trans e)), y.1⟩
  · refine .inr (ht _ ⟨a, rfl, ⟨_, SqT.of e⟩, k _ (fun i H' q hi => ?_) (fun H' q => ?_) fun i H' x H'' q y => ?_⟩)
    · exact ⟨xs, _, SqT.of (q.trans e), List.getElem?_eq_getElem hi⟩
    · exact ⟨xs, SqT.of (q.trans e), Nat.le_refl _⟩
    · exact ⟨y.2 _ (SqT.of (q.trans e)), y.1⟩
theorem map_to (bs : List BR) (ms : List (List Int)) : (stand bs ms).map BR.to = bs.map BR.to := by
  rw [List.map_map]
  exact List.map_congr_left fun b _ => stand_to ms b
theorem coming_stand (bs : List BR) (ms : List (List Int)) (k : Nat) : comingN (stand bs ms) k = comingN bs k := by
  unfold comingN
  rw [List.length_map]
  refine List.filter_congr fun i _ => ?_
  rw [List.getElem?_map]
  cases bs[i]? with
  | none => rfl
  | some b =>
    show decide (some (standB ms b).to = some k) = decide (some b.to = some k)
    rw [stand_to]
theorem RoomOk.bell {hs : List HR} {bs : List BR} (ok : RoomOk hs bs) (ms : List (List Int)) : BellOk hs (stand bs ms) := by
  refine ⟨ok.hands, by rw [List.length_map]; exact ok.many, ok.good, fun b hb => ?_, fun k h e => by rw [map_to]; exact ok.count k h e⟩
  obtain ⟨c, hc, rfl⟩ := List.mem_map.mp hb
  rw [stand_one, stand_to]
  exact ok.ends c hc
theorem RoomOk.rk {hs : List HR} {bs : List BR} (ok : RoomOk hs bs) : ∃ rk : Nat → Int, ∀ p ∈ looseOf bs, rk p.1 < rk p.2 := by
  obtain ⟨rk, h⟩ := ok.rank
  refine ⟨rk, fun p hp => ?_⟩
  obtain ⟨b, hb, rfl⟩ := List.mem_map.mp hp
  obtain ⟨h1, h2⟩ := List.mem_filter.mp hb
  exact h b h1 (List.isEmpty_iff.mp h2)
theorem out_lt {hs : List HR} {m : List Int} (hl : m.length = hs.length) : ∀ k ∈ doorsOf "out" hs, k < m.length := fun k hk => by
  obtain ⟨h, e, _⟩ := mem_doors.mp hk
  have := (List.getElem?_eq_some_iff.mp e).1
  omega
section
variable {P : Program} {w : World} {K : PySem.W.Frag} {mg : Str → Option Value} {base : Heap}
def sp_worked (K : PySem.W.Frag) : Sp := fun vs H Q _ => ∃ (r a : Addr) (hs : List HR) (bs : List BR) (rows : List (List Int)), vs = [.ref r, .ref a] ∧ RoomAt H r hs bs ∧ RoomOk hs bs ∧ RowsAt H a rows ∧ (∀ x ∈ rows, x.length = (doorsOf "in" hs).length) ∧ rows.length ≤ 100 ∧
  ∀ (p : Addr) (ov : List V) (ms : List (List Int)) (H' : Hp), H p = none → H' p = some (.lst ov) → All2 (RowAt H') ov ms → WS hs bs rows ms → Same H H' → Q (.ref p) H'
theorem ok_worked {f : Addr} {fd : FuncData} (F : Fun K "worked" "worked" s_worked f fd) (T : Top K mg) : FnOk P w K mg base CX0 4 f fd ["room", "rows"] (sp_worked K) := by
  obtain ⟨f_work_plan, fd_work_plan, F_work_plan, b_work_plan, m_work_plan⟩ := T.d_work_plan
  have G_work_plan := ok_work_plan (P := P) (w := w) (base := base) F_work_plan T
  obtain ⟨f_made_at_bell, fd_made_at_bell, F_made_at_bell, b_made_at_bell, m_made_at_bell⟩ := T.d_made_at_bell
  have G_made_at_bell := ok_made_at_bell (P := P) (w := w) (base := base) F_made_at_bell T
  obtain ⟨f_behind_bell, fd_behind_bell, F_behind_bell, b_behind_bell, m_behind_bell⟩ := T.d_behind_bell
  have G_behind_bell := ok_behind_bell (P := P) (w := w) (base := base) F_behind_bell T
  refine F.ok sc_worked (fun vs H Q E h => ?_) (fun cdv A outer s H vs Q E hr h => ?_)
  · obtain ⟨r, a, hs, bs, rows, rfl, _⟩ := h
    rfl
  obtain ⟨r, a, hs, bs, rows, rfl, hR, ok, ⟨rv, hrv, alr⟩, hw, lr, q⟩ := h
  have lh := ok.hands
  have lb := ok.many
  have lrv := alr.length
  obtain ⟨rk, hrk⟩ := ok.rk
  refine ⟨_, (pss_cons (ps_set (i := 2) sc_worked.nd rfl (Or.inl rfl) (pe_call G_work_plan (hr.mono (by decide)) (by rfl) m_work_plan F_work_plan.kp b_work_plan .nil pass0 (pa_cons (pv 0) pa_nil)))
      (pss_cons (ps_set (i := 3) sc_worked.nd rfl (Or.inl rfl) (pv 0))
      (pss_cons (ps_set (i := 4) sc_worked.nd rfl (Or.inl rfl) (pe_lst pa_nil))
      (pss_cons (ps_for PassesOwn.never rfl (pi_or (pi_listK K rfl (pv 1)) (pi_tupK K rfl (pv 1))) (pg_name (i := 5) sc_worked.nd rfl (Or.inl rfl))
        (pss_cons (ps_set (i := 6) sc_worked.nd rfl (Or.inl rfl) (pe_call G_made_at_bell (hr.mono (by decide)) (by rfl) m_made_at_bell F_made_at_bell.kp b_made_at_bell .nil pass0 (pa_cons (pv 3) (pa_cons (pv 2) (pa_cons (pv 5) pa_nil)))))
      (pss_cons (ps_set (i := 3) sc_worked.nd rfl (Or.inl rfl) (pe_call G_behind_bell (hr.mono (by decide)) (by rfl) m_behind_bell F_behind_bell.kp b_behind_bell .nil pass0 (pa_cons (pv 3) (pa_cons (pv 6) pa_nil))))
      (pss_one (ps_expr (pe_bmK K rfl PySem.F.plainAttrs_list PySem.F.slot_list_append PySem.F.type_list_append mt_append (pv 4) (pa_cons (pv 6) pa_nil)))))))
      (pss_one (ps_ret (pv 4))))))), ?_⟩
  refine ⟨_, rfl, r, hs, bs, rk, rfl, hR, by omega, by omega, ok.ends, hrk, fun pl D ord pls H1 npl hpl alp soon s1 => ?_⟩
  refine ⟨_, rfl, (by show 0 ≤ sizeLine; decide), fun tl ntl => ?_⟩
  have s2 : Same H (upd H1 tl (.lst [])) := s1.trans (same_new ntl)
  have tl0 : H tl = none := same_none s1 ntl
  refine or_seq (a := a) (xs := rv) (fun Q q => ⟨_, rfl, q⟩) (hrv.imp (s2 _ _) (s2 _ _)) (fun J gj sj yj => for_it (J := J) (n := rv.length) (fun i σ H2 => ∃ (st : Addr) (ms : List (List Int)) (tv : List V) (v5 v6 : Option V), σ = [some (.ref r), some (.ref a), some (.ref pl), some (.ref st), some (.ref tl), v5, v6] ∧ RoomAt H2 st hs (stand bs ms) ∧ H2 tl = some (.lst tv) ∧ All2 (RowAt H2) tv ms ∧ WS hs bs (rows.take i) ms ∧ Same H1 H2)
    ⟨r, [], [], none, none, rfl, by rw [stand_zero]; exact hR.keep (TK.same s2), upd_same, .nil, WS.nil, same_new ntl⟩ ?_ ?_ ?_ ?_)
  · rintro i σ H2 hi ⟨st, ms, tv, v5, v6, rfl, hst, htl, alt, ws, s3⟩
    exact gj i H2 ((either_stays (s1.trans s3) hrv).trans (either_stays s2 hrv).symm) hi
  · rintro σ H2 ⟨st, ms, tv, v5, v6, rfl, hst, htl, alt, ws, s3⟩
    exact sj H2 ((either_stays (s1.trans s3) hrv).trans (either_stays s2 hrv).symm)
  · rintro i x σ H2 H3 hi ⟨st, ms, tv, v5, v6, rfl, hst, htl, alt, ws, s3⟩ y
    obtain ⟨ex, rfl⟩ := yj i H2 x H3 ((either_stays (s1.trans s3) hrv).trans (either_stays s2 hrv).symm) y
    obtain ⟨row, er, ⟨t, rfl, ht⟩⟩ := alr.getL ex
    have ht2 := s3 _ _ (s1 _ _ ht)
    have lms : ms.length = i := by
      have := ws.len
      rw [List.length_take] at this
      omega
    refine ⟨_, rfl, _, rfl, _, rfl, st, pl, t, D, H, hs, stand bs ms, pls, ord, row, rfl, hst, s3 _ _ hpl, alp.imp fun v k z => ?_, ht2, ok.bell ms, by rw [loose_stand]; exact soon, hw row (List.mem_of_getElem? er), fun p m H4 np hp bell s4 => ?_⟩
    · obtain ⟨t', l, e1, e2, e3, e4⟩ := z.same s3
      exact ⟨t', l, e1, e2, by rw [coming_stand]; exact e3, e4⟩
    have lm := bell.len
    refine ⟨_, rfl, _, rfl, st, p, hs, stand bs ms, m, rfl, hst.keep (TK.same s4), hp, fun b hb => ?_, by rw [List.length_map]; omega, fun st2 H5 hst2 s5 => ?_⟩
    · have e1 := ((ok.bell ms).ends b hb).1
      obtain ⟨c, hc, rfl⟩ := List.mem_map.mp hb
      have e2 := stand_len ms c
      have e3 := (ok.th c hc).1
      exact ⟨by omega, by omega⟩
    rw [stand_next] at hst2
    have htl5 := s5 _ _ (s4 _ _ htl)
    refine ⟨_, rfl, .inl ⟨rfl, _, SqL.of htl5⟩, _, rfl, tl, _, _, rfl, rfl, htl5, by rw [alt.length, lms]; exact small1000 (by omega), ?_⟩
    refine ⟨st2, ms ++ [m], tv ++ [V.ref p], _, _, rfl, hst2.keep (TK.lst htl5), upd_same, ?_, ?_, Same.own ((s3.trans s4).trans s5) ntl⟩
    · exact ((alt.imp fun _ _ z => z.keep (TK.same (s4.trans s5))).snoc ⟨p, rfl, s5 _ _ hp⟩).imp fun _ _ z => z.keep (TK.lst htl5)
    · rw [List.take_add_one, er]
      exact ws.snoc bell
  · rintro σ H2 ⟨st, ms, tv, v5, v6, rfl, hst, htl, alt, ws, s3⟩
    rw [lrv, List.take_length] at ws
    exact ⟨_, rfl, q tl tv ms H2 tl0 htl alt ws (s1.trans s3)⟩
end
section
variable {P : Program} {w : World} {K : PySem.W.Frag} {mg : Str → Option Value} {base : Heap}
def sp_standing (K : PySem.W.Frag) : Sp := fun vs H Q _ => ∃ (r a : Addr) (hs : List HR) (bs : List BR) (rows : List (List Int)), vs = [.ref r, .ref a] ∧ RoomAt H r hs bs ∧ RoomOk hs bs ∧ RowsAt H a rows ∧ (∀ x ∈ rows, x.length = (doorsOf "in" hs).length) ∧ rows.length ≤ 100 ∧
  ∀ (p : Addr) (ms : List (List Int)) (H' : Hp), RoomAt H' p hs (stand bs ms) → WS hs bs rows ms → Same H H' → Q (.ref p) H'
theorem ok_standing {f : Addr} {fd : FuncData} (F : Fun K "standing" "standing" s_standing f fd) (T : Top K mg) : FnOk P w K mg base CX0 5 f fd ["room", "rows"] (sp_standing K) := by
  obtain ⟨f_worked, fd_worked, F_worked, b_worked, m_worked⟩ := T.d_worked
  have G_worked := ok_worked (P := P) (w := w) (base := base) F_worked T
  obtain ⟨f_behind_bell, fd_behind_bell, F_behind_bell, b_behind_bell, m_behind_bell⟩ := T.d_behind_bell
  have G_behind_bell := ok_behind_bell (P := P) (w := w) (base := base) F_behind_bell T
  refine F.ok sc_standing (fun vs H Q E h => ?_) (fun cdv A outer s H vs Q E hr h => ?_)
  · obtain ⟨r, a, hs, bs, rows, rfl, _⟩ := h
    rfl
  obtain ⟨r, a, hs, bs, rows, rfl, hR, ok, hrows, hw, lr, q⟩ := h
  have lb := ok.many
  refine ⟨_, (pss_cons (ps_set (i := 2) sc_standing.nd rfl (Or.inl rfl) (pv 0))
      (pss_cons (ps_for PassesOwn.never rfl (pi_listK K rfl (pe_call G_worked (hr.mono (by decide)) (by rfl) m_worked F_worked.kp b_worked .nil pass0 (pa_cons (pv 0) (pa_cons (pv 1) pa_nil)))) (pg_name (i := 3) sc_standing.nd rfl (Or.inl rfl))
        (pss_one (ps_set (i := 2) sc_standing.nd rfl (Or.inl rfl) (pe_call G_behind_bell (hr.mono (by decide)) (by rfl) m_behind_bell F_behind_bell.kp b_behind_bell .nil pass0 (pa_cons (pv 2) (pa_cons (pv 3) pa_nil))))))
      (pss_one (ps_ret (pv 2))))), ?_⟩
  refine ⟨_, rfl, _, rfl, _, rfl, r, a, hs, bs, rows, rfl, hR, ok, hrows, hw, lr, fun wl wv ms H1 nwl hwl alw ws s1 => ?_⟩
  refine ⟨wl, rfl, ⟨_, SqL.of hwl⟩, for_list (K := K) (a := wl) (xs := wv) (fun i σ H2 => ∃ (st : Addr) (v3 : Option V), σ = [some (.ref r), some (.ref a), some (.ref st), v3] ∧ RoomAt H2 st hs (stand bs (ms.take i)) ∧ Same H1 H2)
    ⟨r, none, rfl, by rw [List.take_zero, stand_zero]; exact hR.keep (TK.same s1), fun _ _ e => e⟩ (fun i σ H2 _ ⟨_, _, _, _, s2⟩ => SqL.of (s2 _ _ hwl)) ?_ ?_⟩
  · rintro i x σ H2 hx ⟨st, v3, rfl, hst, s2⟩
    obtain ⟨m, em, ⟨t, rfl, ht⟩⟩ := alw.getL hx
    have lm := ws.row m (List.mem_of_getElem? em)
    refine ⟨_, rfl, _, rfl, st, t, hs, stand bs (ms.take i), m, rfl, hst, s2 _ _ ht, fun b hb => ?_, by rw [List.length_map]; omega, fun st2 H3 hst2 s3 => ?_⟩
    · have e1 := ((ok.bell (ms.take i)).ends b hb).1
      obtain ⟨c, hc, rfl⟩ := List.mem_map.mp hb
      have e2 := stand_len (ms.take i) c
      have e3 := (ok.th c hc).1
      exact ⟨by omega, by omega⟩
    rw [stand_next] at hst2
    refine ⟨st2, _, rfl, ?_, s2.trans s3⟩
    rw [List.take_add_one, em]
    exact hst2
  · rintro σ H2 ⟨st, v3, rfl, hst, s2⟩
    rw [alw.length, List.take_length] at hst
    exact ⟨_, rfl, q st ms H2 hst ws (s1.trans s2)⟩
end
/-! ### a loop over any iterator, whatever its turn does -/
theorem it_loop {J : It} {n : Nat} {B : V → Hp → (Hp → Prop) → Prop} {H0 : Hp} {Qd : Hp → Prop} (Pv : Nat → Hp → Prop) (h0 : Pv 0 H0) (go : ∀ i H, i < n → Pv i H → J.go i H) (st : ∀ H, Pv n H → J.stop n H)
    (hs : ∀ i x H H', i < n → Pv i H → J.yld i H x H' → B x H' (Pv (i + 1))) (hd : ∀ H, Pv n H → Qd H) :
    ∃ W : Nat → Nat → Hp → Prop, (∃ m, W 0 m H0) ∧ ∀ i m H, W i m H → (J.stop i H ∧ Qd H) ∨ (J.go i H ∧ ∃ Nx : Hp → Prop, (∀ H', Nx H' → ∃ m', m' < m ∧ W (i + 1) m' H') ∧ ∀ x H', J.yld i H x H' → B x H' Nx) := by
  refine ⟨fun i m H => i + m = n ∧ Pv i H, ⟨n, by omega, h0⟩, fun i m H ⟨e, p⟩ => ?_⟩
  by_cases k : i < n
  · exact .inr ⟨go i H k p, Pv (i + 1), fun H' p' => ⟨m - 1, by omega, by omega, p'⟩, fun x H' y => hs i x H H' k p y⟩
  · have z : i = n := by omega
    subst z
    exact .inl ⟨st H p, hd H p⟩
theorem r_at0 {xs : List V} {k : Nat} {x : V} (h : xs[k]? = some x) : atI xs (0 + (k : Int)) = some x := by
  rw [Int.zero_add]
  exact atI_nat h
/-! ### slices and sums of tuples, whatever they are -/
theorem slA_of {K : PySem.W.Frag} {H : Hp} {a : Addr} {xs : List V} {lo hi : Option Int} {Q : VK} (h : H a = some (.tup xs)) (k : ∀ (p : Addr) (H' : Hp), H' p = some (.tup (cutV xs lo hi)) → Same H H' → Q (.ref p) H') : rSlA K (.ref a) lo hi H Q := by
  refine ⟨a, xs, rfl, SqT.of h, fun z => k a H ?_ (Same.refl _), fun _ p np => k p _ upd_same (same_new np)⟩
  unfold cutV
  rw [z.1, z.2, List.drop_zero, Nat.sub_zero, List.take_length]
  exact h
theorem catA_of {K : PySem.W.Frag} {H : Hp} {a b : Addr} {xs ys : List V} {Q : VK} (h : H a = some (.tup xs)) (g : H b = some (.tup ys)) (l : xs.length + ys.length ≤ 1000) (k : ∀ (p : Addr) (H' : Hp), H' p = some (.tup (xs ++ ys)) → Same H H' → Q (.ref p) H') : rCatA K (.ref a) (.ref b) H Q := by
  refine ⟨a, b, xs, ys, rfl, rfl, SqT.of h, SqT.of g, little l, fun e => k b H ?_ (Same.refl _), fun _ e => k a H ?_ (Same.refl _), fun _ _ p np => k p _ upd_same (same_new np)⟩
  · rw [e]; exact g
  · rw [e, List.append_nil]; exact h
theorem cut_take (xs : List V) (k : Nat) : cutV xs none (some ((k : Nat) : Int)) = xs.take k := by
  unfold cutV
  rw [HT.sIx_nat, HT.sIx_none, List.drop_zero, Nat.sub_zero]
  by_cases h : k ≤ xs.length
  · rw [Nat.min_eq_left h]
  · rw [Nat.min_eq_right (by omega), List.take_length, List.take_of_length_le (by omega)]
theorem cut_part {xs : List V} {lo hi : Option Int} : ∀ x ∈ cutV xs lo hi, x ∈ xs := fun x hx => List.mem_of_mem_drop (List.mem_of_mem_take hx)
theorem cut_nats {ns : List Nat} {lo hi : Option Int} : ∃ ms : List Nat, cutV (ns.map nV) lo hi = ms.map nV ∧ ms.length ≤ ns.length ∧ ∀ x ∈ ms, x ∈ ns := by
  refine ⟨(ns.drop (HT.sIx (ns.map nV).length 0 lo)).take (HT.sIx (ns.map nV).length (ns.map nV).length hi - HT.sIx (ns.map nV).length 0 lo), ?_, ?_, fun x hx => List.mem_of_mem_drop (List.mem_of_mem_take hx)⟩
  · unfold cutV
    rw [List.map_take, List.map_drop]
  · rw [List.length_take, List.length_drop]
    omega
section
variable {P : Program} {w : World} {K : PySem.W.Frag} {mg : Str → Option Value} {base : Heap}
theorem ok_doors_out {f : Addr} {fd : FuncData} (F : Fun K "doors_out" "doors_out" s_doors_out f fd) (T : Top K mg) : FnOk P w K mg base CX0 1 f fd ["room"] (sp_doors_out K) := by
  refine F.ok sc_doors_out (fun vs H Q E h => ?_) (fun cdv A outer s H vs Q E hr h => ?_)
  · obtain ⟨r, hs, bs, rfl, _⟩ := h
    rfl
  obtain ⟨aO, mO, hI⟩ := T.x_out
  obtain ⟨r, hs, bs, rfl, hR, lb, good, q⟩ := h
  obtain ⟨ha, ba, hv, bv, er, eh, eb, alh, alb⟩ := hR.ex
  have lhv := alh.length
  refine ⟨_, (pss_one (ps_ret (pe_lc (own := [("number", 1), ("hand", 2)]) (g := gTup K 2 (gCons (gName 1) (gCons (gName 2) gNil))) (by rfl) sc_doors_out.nd (pi_enumT K rfl (by rfl) T.m_enumerate (pa_cons (pe_ix (ix_tupK K rfl) (pv 0) pe_int (fun _ _ => rfl)) pa_nil)) (blkOk_by (own := [("number", 1), ("hand", 2)]) (N := N_doors_out) (sc := defScope s_doors_out) (by decide +kernel)) (fun _ _ _ _ _ => (pg_tupK K rfl rfl (pgs_cons (pg_name (i := 1) sc_doors_out.nd rfl (Or.inl rfl)) (pgs_cons (pg_name (i := 2) sc_doors_out.nd rfl (Or.inl rfl)) pgs_nil)))) (fun _ _ _ _ _ => pts_one (pt_cmpR (op_eqDK K rfl hr.units) (pe_ix (ix_tupK K rfl) (pv 2) pe_int (fun _ _ => rfl)) (pe_glob (v := .ref aO) (by rfl) mO rfl) (nomark _))) (fun _ _ _ _ _ => (pv 1))))), ?_⟩
  refine ⟨_, rfl, r, _, _, _, rfl, rfl, SqT.of er, atI_nat (j := 0) rfl, ha, hv, rfl, SqT.of eh, fun D nD => lc_it (J := IteT K ha hv) (n := hv.length) (fun i H5 => H5 D = some (.lst (((List.range i).filter fun j => decide (hs[j]?.map HR.wd = some ("out" : Str))).map nV)) ∧ Same H H5) ⟨upd_same, same_new nD⟩ ?_ ?_ ?_ ?_⟩
  · rintro i H5 hi ⟨hD, s5⟩
    exact ⟨SqT.of (s5 _ _ eh), hi⟩
  · rintro H5 ⟨hD, s5⟩
    exact ⟨SqT.of (s5 _ _ eh), rfl⟩
  · rintro i x H5 H6 hi ⟨hD, s5⟩ ⟨t, y, rfl, nt, rfl, ey⟩
    obtain ⟨hh, eb2, ⟨t2, g, rfl, e1, e2⟩⟩ := alh.getL ey
    have gh := good _ (List.mem_of_getElem? eb2)
    have s6 := s5.trans (same_new (o := .tup [V.int ((i : Nat) : Int), V.ref t2]) nt)
    have hD6 := same_new (o := .tup [V.int ((i : Nat) : Int), V.ref t2]) nt _ _ hD
    have few := filt_len (p := fun j => decide (hs[j]?.map HR.wd = some ("out" : Str))) i
    refine ⟨t, _, rfl, SqT.of upd_same, rfl, _, _, rfl, _, _, rfl, rfl, rfl, _, rfl, t2, _, _, _, rfl, rfl, SqT.of (s6 _ _ e1), atI_nat (j := 0) rfl, ?_⟩
    refine ⟨_, _, rule_dp (s6 _ _ e2), .tup (hI _) (.cons (.str _) .nil), rule_shaped gh.lay, one_shaped (by decide +kernel), _, rfl, ?_⟩
    rw [rule_eqv, gh.door "out" (.inr rfl)]
    by_cases c : hh.wd = "out"
    · rw [decide_eq_true c]
      refine if_bl (fun _ => ⟨_, rfl, _, hD6, by rw [List.length_map]; exact small1000 (by omega), ?_, Same.own s6 nD⟩) (fun z => nomatch z)
      rw [upd_same, filt_succ, if_pos (decide_eq_true (by rw [eb2, ← c]; rfl)), List.map_append]
      rfl
    · rw [decide_eq_false c]
      refine if_bl (fun z => nomatch z) (fun _ => ⟨?_, s6⟩)
      rw [filt_succ, if_neg fun z => c (by have := of_decide_eq_true z; rw [eb2] at this; exact Option.some.inj this), List.append_nil]
      exact hD6
  · rintro H5 ⟨hD, s5⟩
    refine q D H5 nD ?_ s5
    rw [hD, lhv]
    rfl
end
section
variable {P : Program} {w : World} {K : PySem.W.Frag} {mg : Str → Option Value} {base : Heap}
def sp_picked (K : PySem.W.Frag) : Sp := fun vs H Q _ => ∃ (t d : Addr) (m : List Int) (ks : List Nat), vs = [.ref t, .ref d] ∧ H t = some (.tup (m.map V.int)) ∧ H d = some (.lst (ks.map nV)) ∧ (∀ k ∈ ks, k < m.length) ∧ ks.length ≤ 400 ∧
  ∀ (p : Addr) (H' : Hp), H p = none → H' p = some (.tup ((ks.map (gD m)).map V.int)) → Same H H' → Q (.ref p) H'
theorem ok_picked {f : Addr} {fd : FuncData} (F : Fun K "picked" "picked" s_picked f fd) (T : Top K mg) : FnOk P w K mg base CX0 1 f fd ["made", "doors"] (sp_picked K) := by
  refine F.ok sc_picked (fun vs H Q E h => ?_) (fun cdv A outer s H vs Q E hr h => ?_)
  · obtain ⟨t, d, m, ks, rfl, _⟩ := h
    rfl
  obtain ⟨t, d, m, ks, rfl, ht, hd, hk, lk, q⟩ := h
  refine ⟨_, (pss_one (ps_ret (pe_callTy (call_tuple_ofK K rfl) (by rfl) T.m_tuple (by decide +kernel) (pa_cons (pe_lc (own := [("door", 2)]) (g := gName 2) (tt := tYes) (by rfl) sc_picked.nd (pi_listK K rfl (pv 1)) (blkOk_by (own := [("door", 2)]) (N := N_picked) (sc := defScope s_picked) (by decide +kernel)) (fun _ _ _ _ _ => (pg_name (i := 2) sc_picked.nd rfl (Or.inl rfl))) (fun _ _ _ _ _ => pts_nil) (fun _ _ _ _ _ => (pe_ix (ix_tupK K rfl) (pv 0) (pv 2) (fun _ _ => rfl)))) pa_nil)))), ?_⟩
  refine ⟨_, rfl, d, rfl, ⟨_, SqL.of hd⟩, fun D nD => lc_list (K := K) (a := d) (xs := ks.map nV) (fun i H5 => H5 D = some (.lst (((ks.take i).map (gD m)).map V.int)) ∧ Same H H5) ⟨upd_same, same_new nD⟩ (fun i H5 _ ⟨_, s5⟩ => SqL.of (s5 _ _ hd)) ?_ ?_⟩
  · rintro i x H5 hx ⟨hD, s5⟩
    rw [List.getElem?_map] at hx
    cases ek : ks[i]? with
    | none => rw [ek] at hx; cases hx
    | some k =>
    rw [ek] at hx
    obtain rfl : nV k = x := Option.some.inj hx
    have il := (List.getElem?_eq_some_iff.mp ek).1
    refine ⟨rfl, yes_in ⟨_, rfl, _, rfl, t, _, _, _, rfl, rfl, SqT.of (s5 _ _ ht), at_row (hk k (List.mem_of_getElem? ek)), _, hD, ?_, ?_, Same.own s5 nD⟩⟩
    · rw [List.length_map, List.length_map, List.length_take]; exact small1000 (by omega)
    · rw [upd_same, List.take_add_one, ek, List.map_append, List.map_append]; rfl
  · rintro H5 ⟨hD, s5⟩
    rw [List.length_map, List.take_length] at hD
    exact ⟨D, _, rfl, .inl ⟨SqL.of hD, fun p np => q p _ (same_none s5 np) upd_same (s5.trans (same_new np))⟩⟩
end
section
variable {P : Program} {w : World} {K : PySem.W.Frag} {mg : Str → Option Value} {base : Heap}
def sp_run (K : PySem.W.Frag) : Sp := fun vs H Q _ => ∃ (r a : Addr) (hs : List HR) (bs : List BR) (rows : List (List Int)), vs = [.ref r, .ref a] ∧ RoomAt H r hs bs ∧ RoomOk hs bs ∧ RowsAt H a rows ∧ (∀ x ∈ rows, x.length = (doorsOf "in" hs).length) ∧ rows.length ≤ 100 ∧
  ∀ (p : Addr) (ov : List V) (ms : List (List Int)) (H' : Hp), H p = none → H' p = some (.lst ov) → All2 (RowAt H') ov (ms.map (outsOf hs)) → WS hs bs rows ms → Same H H' → Q (.ref p) H'
theorem ok_run {f : Addr} {fd : FuncData} (F : Fun K "run" "run" s_run f fd) (T : Top K mg) : FnOk P w K mg base CX0 5 f fd ["room", "rows"] (sp_run K) := by
  obtain ⟨f_doors_out, fd_doors_out, F_doors_out, b_doors_out, m_doors_out⟩ := T.d_doors_out
  have G_doors_out := ok_doors_out (P := P) (w := w) (base := base) F_doors_out T
  obtain ⟨f_picked, fd_picked, F_picked, b_picked, m_picked⟩ := T.d_picked
  have G_picked := ok_picked (P := P) (w := w) (base := base) F_picked T
  obtain ⟨f_worked, fd_worked, F_worked, b_worked, m_worked⟩ := T.d_worked
  have G_worked := ok_worked (P := P) (w := w) (base := base) F_worked T
  refine F.ok sc_run (fun vs H Q E h => ?_) (fun cdv A outer s H vs Q E hr h => ?_)
  · obtain ⟨r, a, hs, bs, rows, rfl, _⟩ := h
    rfl
  obtain ⟨r, a, hs, bs, rows, rfl, hR, ok, hrows, hw, lr, q⟩ := h
  have lh := ok.hands
  have ld := doors_len (z := "out") (hs := hs)
  refine ⟨_, (pss_cons (ps_set (i := 2) sc_run.nd rfl (Or.inr rfl) (pe_call G_doors_out (hr.mono (by decide)) (by rfl) m_doors_out F_doors_out.kp b_doors_out .nil pass0 (pa_cons (pv 0) pa_nil)))
      (pss_one (ps_ret (pe_lc (own := [("made", 3)]) (g := gName 3) (tt := tYes) (by rfl) sc_run.nd (pi_listK K rfl (pe_call G_worked (hr.mono (by decide)) (by rfl) m_worked F_worked.kp b_worked .nil pass0 (pa_cons (pv 0) (pa_cons (pv 1) pa_nil)))) (blkOk_by (own := [("made", 3)]) (N := N_run) (sc := defScope s_run) (by decide +kernel)) (fun _ _ _ _ _ => (pg_name (i := 3) sc_run.nd rfl (Or.inl rfl))) (fun _ _ _ _ _ => pts_nil) (fun _ _ _ _ _ => (pe_call G_picked (hr.mono (by decide)) (by rfl) m_picked F_picked.kp b_picked .nil pass0 (pa_cons (pv 3) (pa_cons (pv 2) pa_nil)))))))), ?_⟩
  refine ⟨_, rfl, r, hs, bs, rfl, hR, by omega, ok.good, fun dd H1 ndd hdd s1 => ?_⟩
  refine ⟨_, rfl, _, rfl, r, a, hs, bs, rows, rfl, hR.keep (TK.same s1), ok, hrows.same s1, hw, lr, fun wl wv ms H2 nwl hwl alw ws s2 => ?_⟩
  have lms := ws.len
  refine ⟨wl, rfl, ⟨_, SqL.of hwl⟩, fun D nD => lc_list (K := K) (a := wl) (xs := wv) (fun i H5 => ∃ ov : List V, H5 D = some (.lst ov) ∧ All2 (RowAt H5) ov ((ms.take i).map (outsOf hs)) ∧ Same H2 H5) ⟨[], upd_same, .nil, same_new nD⟩ (fun i H5 _ ⟨_, _, _, s5⟩ => SqL.of (s5 _ _ hwl)) ?_ ?_⟩
  · rintro i x H5 hx ⟨ov, hD, al, s5⟩
    obtain ⟨m, em, ⟨t, rfl, ht⟩⟩ := alw.getL hx
    have il := (List.getElem?_eq_some_iff.mp em).1
    have lm := ws.row m (List.mem_of_getElem? em)
    refine ⟨rfl, yes_in ⟨_, rfl, _, rfl, t, dd, m, doorsOf "out" hs, rfl, s5 _ _ ht, s5 _ _ (s2 _ _ hdd), out_lt lm, by omega, fun p H6 np hp s6 => ⟨ov, s6 _ _ hD, ?_, ov ++ [V.ref p], upd_same, ?_, Same.own (s5.trans s6) nD⟩⟩⟩
    · have := al.length
      rw [List.length_map, List.length_take] at this
      exact small1000 (by omega)
    · rw [List.take_add_one, em, List.map_append]
      exact ((al.imp fun _ _ z => z.keep (TK.same s6)).snoc ⟨p, rfl, hp⟩).imp fun _ _ z => z.keep (TK.lst (s6 _ _ hD))
  · rintro H5 ⟨ov, hD, al, s5⟩
    rw [alw.length, List.take_length] at al
    exact q D ov ms H5 (same_none (s1.trans s2) nD) hD al ws ((s1.trans s2).trans s5)
end
/-! ### when works begin: the moments, by their number -/
def momN (hs : List HR) (k : Nat) : Int := match hs[k]? with | some h => h.mom | none => 0
def dueL (hs : List HR) (bs : List BR) (e : Nat → Nat → Int) (k t : Nat) : List Int :=
  [0] ++ (if t = 0 then [] else [e k (t - 1) + momN hs k]) ++ (bs.filter fun b => decide (b.to = k) && decide (b.th.length ≤ t)).map fun b => e b.one (t - b.th.length) + momN hs b.one
def gtst (l : List Int) : Int := l.foldl max 0
theorem gtst_aux : ∀ (l : List Int) (a : Int), a ≤ l.foldl max a ∧ (∀ x ∈ l, x ≤ l.foldl max a) ∧ (l.foldl max a = a ∨ l.foldl max a ∈ l)
  | [], a => ⟨Int.le_refl _, (fun _ z => nomatch z), .inl rfl⟩
  | y :: l, a => by
    obtain ⟨h1, h2, h3⟩ := gtst_aux l (max a y)
    refine ⟨?_, fun x hx => ?_, ?_⟩
    · show a ≤ l.foldl max (max a y)
      omega
    · show x ≤ l.foldl max (max a y)
      rcases List.mem_cons.mp hx with rfl | hx
      · omega
      · exact h2 x hx
    · show l.foldl max (max a y) = a ∨ l.foldl max (max a y) ∈ y :: l
      rcases h3 with h3 | h3
      · by_cases z : a ≤ y
        · right
          rw [h3, Int.max_eq_right z]
          exact List.mem_cons_self ..
        · left
          rw [h3]
          omega
      · exact .inr (List.mem_cons_of_mem _ h3)
theorem gtst_le {l : List Int} {x : Int} (h : x ∈ l) : x ≤ gtst l := (gtst_aux l 0).2.1 x h
theorem gtst_mem {l : List Int} (h : 0 ∈ l) : gtst l ∈ l := by
  rcases (gtst_aux l 0).2.2 with e | e
  · unfold gtst
    rw [e]
    exact h
  · exact e
theorem gtst_one {l : List Int} {m : Int} (h0 : 0 ∈ l) (hm : m ∈ l) (hg : ∀ y ∈ l, y ≤ m) : m = gtst l := Int.le_antisymm (gtst_le hm) (hg _ (gtst_mem h0))
def eF (hs : List HR) (bs : List BR) : Nat → Nat → Nat → Int
  | 0, _, _ => 0
  | n + 1, k, t => gtst (dueL hs bs (eF hs bs n) k t)
theorem due_ext {hs : List HR} {bs : List BR} {e e' : Nat → Nat → Int} {k t : Nat} (h1 : t ≠ 0 → e k (t - 1) = e' k (t - 1)) (h2 : ∀ b ∈ bs, b.to = k → b.th.length ≤ t → e b.one (t - b.th.length) = e' b.one (t - b.th.length)) : dueL hs bs e k t = dueL hs bs e' k t := by
  unfold dueL
  have a : (if t = 0 then [] else [e k (t - 1) + momN hs k]) = if t = 0 then [] else [e' k (t - 1) + momN hs k] := by
    by_cases z : t = 0
    · rw [if_pos z, if_pos z]
    · rw [if_neg z, if_neg z, h1 z]
  rw [a]
  refine congrArg (_ ++ ·) (List.map_congr_left fun b hb => ?_)
  obtain ⟨hb, z⟩ := List.mem_filter.mp hb
  obtain ⟨z1, z2⟩ := Bool.and_eq_true_iff.mp z
  rw [h2 b hb (of_decide_eq_true z1) (of_decide_eq_true z2)]
theorem filt_lt {α : Type} {p q : α → Bool} : ∀ {l : List α}, (∀ x ∈ l, p x = true → q x = true) → (∃ x ∈ l, q x = true ∧ p x = false) → (l.filter p).length < (l.filter q).length
  | [], _, ⟨_, h, _⟩ => nomatch h
  | a :: l, h, ⟨x, hx, qx, px⟩ => by
    have le : (l.filter p).length ≤ (l.filter q).length := by
      have : ∀ {l : List α}, (∀ x ∈ l, p x = true → q x = true) → (l.filter p).length ≤ (l.filter q).length := by
        intro l
        induction l with
        | nil => intro _; exact Nat.le_refl _
        | cons b l ih =>
          intro h
          have ih := ih fun x hx => h x (List.mem_cons_of_mem _ hx)
          by_cases pb : p b = true
          · rw [List.filter_cons_of_pos pb, List.filter_cons_of_pos (h b (List.mem_cons_self ..) pb)]
            exact Nat.succ_le_succ ih
          · rw [List.filter_cons_of_neg pb]
            by_cases qb : q b = true
            · rw [List.filter_cons_of_pos qb]; exact Nat.le_succ_of_le ih
            · rw [List.filter_cons_of_neg qb]; exact ih
      exact this fun x hx => h x (List.mem_cons_of_mem _ hx)
    rcases List.mem_cons.mp hx with rfl | hx
    · rw [List.filter_cons_of_neg (by rw [px]; exact Bool.false_ne_true), List.filter_cons_of_pos qx]
      exact Nat.lt_succ_of_le le
    · have ih := filt_lt (fun x hx => h x (List.mem_cons_of_mem _ hx)) ⟨x, hx, qx, px⟩
      by_cases pb : p a = true
      · rw [List.filter_cons_of_pos pb, List.filter_cons_of_pos (h a (List.mem_cons_self ..) pb)]
        exact Nat.succ_lt_succ ih
      · rw [List.filter_cons_of_neg pb]
        by_cases qb : q a = true
        · rw [List.filter_cons_of_pos qb]; exact Nat.lt_succ_of_lt ih
        · rw [List.filter_cons_of_neg qb]; exact ih
def dep (rk : Nat → Int) (n k : Nat) : Nat := ((List.range n).filter fun j => decide (rk j < rk k)).length
theorem dep_le {rk : Nat → Int} {n k : Nat} : dep rk n k ≤ n := by
  unfold dep
  refine Nat.le_trans (List.length_filter_le ..) ?_
  rw [List.length_range]
  exact Nat.le_refl _
theorem dep_lt {rk : Nat → Int} {n a b : Nat} (ha : a < n) (h : rk a < rk b) : dep rk n a < dep rk n b := by
  refine filt_lt (fun x _ z => decide_eq_true (Int.lt_trans (of_decide_eq_true z) h)) ⟨a, List.mem_range.mpr ha, decide_eq_true h, decide_eq_false (Int.lt_irrefl _)⟩
def mu (rk : Nat → Int) (n k t : Nat) : Nat := t * (n + 1) + dep rk n k
theorem mu_own {rk : Nat → Int} {n k t : Nat} (h : t ≠ 0) : mu rk n k (t - 1) < mu rk n k t := by
  obtain ⟨s, rfl⟩ := Nat.exists_eq_succ_of_ne_zero h
  unfold mu
  rw [Nat.succ_sub_one, Nat.succ_mul]
  omega
theorem mu_belt {rk : Nat → Int} {n : Nat} {b : BR} (hr : b.th = [] → rk b.one < rk b.to) (ho : b.one < n) {t : Nat} (ht : b.th.length ≤ t) : mu rk n b.one (t - b.th.length) < mu rk n b.to t := by
  unfold mu
  by_cases z : b.th = []
  · rw [z, List.length_nil, Nat.sub_zero]
    have := dep_lt (n := n) ho (hr z)
    omega
  · have l : 0 < b.th.length := List.length_pos_iff.mpr z
    have d := dep_le (rk := rk) (n := n) (k := b.one)
    have : (t - b.th.length + 1) * (n + 1) ≤ t * (n + 1) := Nat.mul_le_mul_right _ (by omega)
    rw [Nat.add_mul, Nat.one_mul] at this
    omega
theorem eF_stay {hs : List HR} {bs : List BR} {rk : Nat → Int} (hr : ∀ b ∈ bs, b.th = [] → rk b.one < rk b.to) (he : ∀ b ∈ bs, b.one < hs.length ∧ b.to < hs.length) :
    ∀ n m k t, k < hs.length → mu rk hs.length k t < n → mu rk hs.length k t < m → eF hs bs n k t = eF hs bs m k t
  | 0, _, _, _, _, h, _ => absurd h (Nat.not_lt_zero _)
  | _ + 1, 0, _, _, _, _, h => absurd h (Nat.not_lt_zero _)
  | n + 1, m + 1, k, t, hk, h1, h2 => by
    show gtst _ = gtst _
    rw [due_ext (e := eF hs bs n) (e' := eF hs bs m)]
    · intro z
      have := mu_own (rk := rk) (n := hs.length) (k := k) z
      exact eF_stay hr he n m k (t - 1) hk (by omega) (by omega)
    · intro b hb ht hl
      have := mu_belt (rk := rk) (n := hs.length) (hr b hb) (he b hb).1 hl
      rw [ht] at this
      exact eF_stay hr he n m b.one _ (he b hb).1 (by omega) (by omega)
/-- the moment at which the work of number t of hand k begins -/
def erl (hs : List HR) (bs : List BR) (k t : Nat) : Int := eF hs bs ((t + 1) * (hs.length + 1)) k t
theorem erl_is {hs : List HR} {bs : List BR} {rk : Nat → Int} (hr : ∀ b ∈ bs, b.th = [] → rk b.one < rk b.to) (he : ∀ b ∈ bs, b.one < hs.length ∧ b.to < hs.length) {k t : Nat} (hk : k < hs.length) : erl hs bs k t = gtst (dueL hs bs (erl hs bs) k t) := by
  have mul : ∀ k t, mu rk hs.length k t < (t + 1) * (hs.length + 1) := fun k t => by
    unfold mu
    have := dep_le (rk := rk) (n := hs.length) (k := k)
    rw [Nat.add_mul, Nat.one_mul]
    omega
  have m0 := mul k t
  unfold erl
  obtain ⟨n, en⟩ : ∃ n, (t + 1) * (hs.length + 1) = n + 1 := Nat.exists_eq_succ_of_ne_zero (by omega)
  rw [en] at m0 ⊢
  show gtst _ = gtst _
  rw [due_ext (e := eF hs bs n) (e' := fun k t => eF hs bs ((t + 1) * (hs.length + 1)) k t)]
  · intro z
    have := mu_own (rk := rk) (n := hs.length) (k := k) z
    exact eF_stay hr he _ _ k (t - 1) hk (by omega) (mul _ _)
  · intro b hb ht hl
    have := mu_belt (rk := rk) (n := hs.length) (hr b hb) (he b hb).1 hl
    rw [ht] at this
    exact eF_stay hr he _ _ b.one _ (he b hb).1 (by omega) (mul _ _)
theorem due_zero {hs : List HR} {bs : List BR} {e : Nat → Nat → Int} {k t : Nat} : 0 ∈ dueL hs bs e k t := by
  unfold dueL
  exact List.mem_append_left _ (List.mem_append_left _ (List.mem_singleton.mpr rfl))
theorem due_mem {hs : List HR} {bs : List BR} {e : Nat → Nat → Int} {k t : Nat} {x : Int} : x ∈ dueL hs bs e k t ↔ x = 0 ∨ (t ≠ 0 ∧ x = e k (t - 1) + momN hs k) ∨ ∃ b ∈ bs, b.to = k ∧ b.th.length ≤ t ∧ x = e b.one (t - b.th.length) + momN hs b.one := by
  unfold dueL
  rw [List.mem_append, List.mem_append, List.mem_singleton, List.mem_map]
  constructor
  · rintro ((h | h) | ⟨b, hb, rfl⟩)
    · exact .inl h
    · by_cases z : t = 0
      · rw [if_pos z] at h; cases h
      · rw [if_neg z] at h
        exact .inr (.inl ⟨z, List.mem_singleton.mp h⟩)
    · obtain ⟨hb', z⟩ := List.mem_filter.mp hb
      obtain ⟨z1, z2⟩ := Bool.and_eq_true_iff.mp z
      exact .inr (.inr ⟨b, hb', of_decide_eq_true z1, of_decide_eq_true z2, rfl⟩)
  · rintro (h | ⟨z, h⟩ | ⟨b, hb, h1, h2, rfl⟩)
    · exact .inl (.inl h)
    · exact .inl (.inr (by rw [if_neg z]; exact List.mem_singleton.mpr h))
    · exact .inr ⟨b, List.mem_filter.mpr ⟨hb, by rw [decide_eq_true h1, decide_eq_true h2]; rfl⟩, rfl⟩
theorem due_le {hs : List HR} {bs : List BR} {e e' : Nat → Nat → Int} {k t : Nat} (h1 : t ≠ 0 → e k (t - 1) ≤ e' k (t - 1)) (h2 : ∀ b ∈ bs, b.to = k → b.th.length ≤ t → e b.one (t - b.th.length) ≤ e' b.one (t - b.th.length)) : gtst (dueL hs bs e k t) ≤ gtst (dueL hs bs e' k t) := by
  rcases due_mem.mp (gtst_mem (due_zero (hs := hs) (bs := bs) (e := e) (k := k) (t := t))) with m | ⟨z, m⟩ | ⟨b, hb, z1, z2, m⟩
  · rw [m]
    exact gtst_le due_zero
  · rw [m]
    exact Int.le_trans (Int.add_le_add_right (h1 z) _) (gtst_le (due_mem.mpr (.inr (.inl ⟨z, rfl⟩))))
  · rw [m]
    exact Int.le_trans (Int.add_le_add_right (h2 b hb z1 z2) _) (gtst_le (due_mem.mpr (.inr (.inr ⟨b, hb, z1, z2, rfl⟩))))
/-- what meets all that is asked is nowhere less -/
theorem erl_least {hs : List HR} {bs : List BR} {rk : Nat → Int} (hr : ∀ b ∈ bs, b.th = [] → rk b.one < rk b.to) (he : ∀ b ∈ bs, b.one < hs.length ∧ b.to < hs.length) {e : Nat → Nat → Int} {N : Nat} (h : ∀ k t, k < hs.length → t < N → gtst (dueL hs bs e k t) ≤ e k t) :
    ∀ n k t, k < hs.length → t < N → mu rk hs.length k t < n → erl hs bs k t ≤ e k t
  | 0, _, _, _, _, h => absurd h (Nat.not_lt_zero _)
  | n + 1, k, t, hk, ht, hn => by
    rw [erl_is hr he hk]
    refine Int.le_trans (due_le (fun z => ?_) (fun b hb hto hl => ?_)) (h k t hk ht)
    · have := mu_own (rk := rk) (n := hs.length) (k := k) z
      exact erl_least hr he h n k (t - 1) hk (by omega) (by omega)
    · have := mu_belt (rk := rk) (n := hs.length) (hr b hb) (he b hb).1 hl
      rw [hto] at this
      exact erl_least hr he h n b.one _ (he b hb).1 (by omega) (by omega)
theorem nd_at {α : Type} {l : List α} (nd : l.Nodup) {i j : Nat} {a : α} (h1 : l[i]? = some a) (h2 : l[j]? = some a) : i = j := by
  have i1 := (List.getElem?_eq_some_iff.mp h1)
  have i2 := (List.getElem?_eq_some_iff.mp h2)
  obtain ⟨l1, e1⟩ := i1
  obtain ⟨l2, e2⟩ := i2
  exact (List.getElem_inj nd).mp (e1.trans e2.symm)
theorem soon_all {ls : List (Nat × Nat)} {left ord : List Nat} (h : Soon ls left ord) : ∀ x ∈ left, x ∈ ord := by
  induction h with
  | nil => exact fun _ z => z
  | @cons left ord k a b c d ih =>
    intro x hx
    by_cases z : x = k
    · rw [z]; exact List.mem_cons_self ..
    · exact List.mem_cons_of_mem _ (ih x ((List.mem_erase_of_ne z).mpr hx))
theorem soon_nd {ls : List (Nat × Nat)} {left ord : List Nat} (h : Soon ls left ord) (nd : left.Nodup) : ord.Nodup := by
  induction h with
  | nil => exact List.nodup_nil
  | cons a b c d ih => exact List.nodup_cons.mpr ⟨fun z => ((nd.mem_erase_iff).mp (soon_mem d _ z)).1 rfl, ih (nd.erase _)⟩
theorem soon_pre {ls : List (Nat × Nat)} {left ord : List Nat} (h : Soon ls left ord) : ∀ {i : Nat} {k a : Nat}, ord[i]? = some k → (a, k) ∈ ls → a ∈ left → a ∈ ord.take i := by
  induction h with
  | nil => intro i k a z; cases z
  | @cons left ord k0 x y z d ih =>
    intro i k a hk hp ha
    cases i with
    | zero =>
      cases hk
      exact absurd ha (y _ hp rfl)
    | succ i =>
      rw [List.take_succ_cons]
      by_cases e : a = k0
      · rw [e]; exact List.mem_cons_self ..
      · exact List.mem_cons_of_mem _ (ih hk hp ((List.mem_erase_of_ne e).mpr ha))
theorem mem_coming {bs : List BR} {k j : Nat} {b : BR} (e : bs[j]? = some b) : j ∈ comingN bs k ↔ b.to = k := by
  unfold comingN
  rw [List.mem_filter]
  constructor
  · intro h
    have := of_decide_eq_true h.2
    rw [e] at this
    exact Option.some.inj this
  · intro h
    exact ⟨List.mem_range.mpr (List.getElem?_eq_some_iff.mp e).1, decide_eq_true (by rw [e, ← h]; rfl)⟩
theorem coming_at {bs : List BR} {k j : Nat} (h : j ∈ comingN bs k) : ∃ b, bs[j]? = some b ∧ b.to = k := by
  have := of_decide_eq_true (List.mem_filter.mp h).2
  cases e : bs[j]? with
  | none => rw [e] at this; cases this
  | some b => rw [e] at this; exact ⟨b, rfl, Option.some.inj this⟩
theorem mom_at {hs : List HR} {k : Nat} {h : HR} (e : hs[k]? = some h) : momN hs k = h.mom := by unfold momN; rw [e]
/-! ### max(xs, key=lambda x: ..), the lambda over a name of the def around it -/
/-- one answer of the lambda: in its own frame, the caller's things as they are -/
def KeyBody (X : Cx) (scope : Scope) (body : Expr) (x : Str) (KA : L2.St → Hp → Int → Int → Prop) : Prop :=
  ∀ (pins : List (Addr × Obj)) (σ : L2.St) (H : Hp) (A' : Around) (env' : Env) (E' : Value → Shared → Prop) (z : Shared) (n k : Int) (t : Tok), Inv X pins σ H z → A'.units + 1 < cLine → env'.scope = scope → env'.cells = cloFrom X.env.cells scope.names [] →
    z.heap.Ns env'.locals (fun y => ([(x, Value.int n t)] : List (Str × Value)).lookup y) → KA σ H n k → wpAny (model X.prog X.w) A' (eval body env') (fun y z' => (∃ t', y = .int k t') ∧ ∃ tk, z' = { z with toks := tk }) E' z
/-- a state that keeps all that stood -/
def Grown (s z : Shared) : Prop := ∃ (h' : Heap) (tk : Nat), z = { s with heap := h', toks := tk } ∧ ∀ b o, s.heap.get? b = some o → h'.get? b = some o
theorem Grown.refl (s : Shared) : Grown s s := ⟨s.heap, s.toks, rfl, fun _ _ e => e⟩
theorem Grown.kp {s z : Shared} (g : Grown s z) : ∀ b o, s.heap.get? b = some o → z.heap.get? b = some o := by
  obtain ⟨h', tk, rfl, k⟩ := g
  exact k
structure LamShape (params : Arguments) (body : Expr) (scope : Scope) (x : Str) : Prop where
  bnd : ∀ (q : Str) (cl : List (Str × Addr)) (pm cdv ct v : Value), bindArgs (PySem.W.kla_fn "<lambda>" q params body scope cl pm cdv ct) ⟨[v], []⟩ = pure [(x, v)]
  loc : scope.names.lookup x = some .local
  co : scope.isCoroutine = false
  gen : scope.isGenerator = false
  kind : scope.kind = .function
  cell : ∀ y ∈ scope.names, y.2 ≠ .cell
theorem lam_call {X : Cx} {pins : List (Addr × Obj)} {σ : L2.St} {H : Hp} {s z : Shared} {A' : Around} {E' : Value → Shared → Prop} {params : Arguments} {body : Expr} {scope : Scope} {x : Str} {KA : L2.St → Hp → Int → Int → Prop} {f c' : Addr} {q : Str} {pm ctv : Value} {n k : Int} {t : Tok}
    (L : LamShape params body scope x) (B : KeyBody X scope body x KA) (I : Inv X pins σ H s) (g : Grown s z) (hf : s.heap.get? f = some (PySem.W.kla_obj "<lambda>" q params body scope (cloFrom X.env.cells scope.names []) pm c' ctv)) (hc : s.heap.CodeRec (.ref c') q)
    (dep : A'.depth < recursionLimit) (un : ∀ e : Env, (A'.deeper e).units + 1 < cLine) (ka : KA σ H n k) :
    wpAny (model X.prog X.w) A' (call (.ref f) [.int n t]) (fun y z' => (∃ t', y = .int k t') ∧ Grown z z') E' z := by
  obtain ⟨h', tk, rfl, kp⟩ := g
  have hc2 : Heap.CodeRec h' (.ref c') q := by
    obtain ⟨c0, oc, vs, tq, e0, e1, e2, e3⟩ := hc
    exact ⟨c0, oc, vs, tq, e0, kp _ _ e1, e2, e3⟩
  refine wpAny_call (PySem.W.kla_callFunE dep (kp _ _ hf) rfl L.co L.gen rfl hc2 ?_)
  rw [L.bnd]
  refine wpAny_pure (wpAny_newFunctionEnv L.cell (fun y hy => ?_) (fun h1 hns hsb => ?_) L.kind)
  · rw [List.mem_singleton.mp hy]
    exact L.loc
  have grew : ∀ b o, h'.get? b = some o → h1.get? b = some o := fun b o e => hsb.extBut b o (Nat.ne_of_lt (Heap.lt_size e)) (Heap.get?_push_of_some _ e)
  have J : Inv X pins σ H { s with heap := h1, toks := tk + 1 } := I.kept fun b o e => grew b o (kp b o e)
  refine ⟨J.nolimit, PySem.W.kla_codeExpr ?_⟩
  refine wpAny_mono (B pins σ H _ _ _ { s with heap := h1, toks := tk + 1 } n k t J (un _) rfl rfl hns ka) (fun y z' r => ?_) fun _ _ e => e
  obtain ⟨e1, tk2, rfl⟩ := r
  exact ⟨e1, h1, tk2, rfl, grew⟩
def tMaxKey (K : PySem.W.Frag) (T : List (Addr × Str)) (KA : L2.St → Hp → Int → Int → Prop) (te : TE) : TE := fun σ H Q => te σ H fun v H1 => ∃ (a : Addr) (ns : List Int) (kf : Int → Int), v = .ref a ∧ SqL K H1 a (ns.map V.int) ∧ 0 < ns.length ∧ LamX.Tabs T H1 ∧
  ∀ H2, LamX.ExtN H1 H2 → LamX.Tabs T H2 → SqL K H2 a (ns.map V.int) ∧ (∀ n ∈ ns, KA σ H2 n (kf n)) ∧ ∀ m, m ∈ ns → (∀ y ∈ ns, kf y ≤ kf m) → Q (.int m) H2
theorem ints_val2 {ns : List Int} {its : List Value} (rv : Vals (ns.map V.int) its) : ∀ i v, its.toArray[i]? = some v → i < ns.length ∧ ∃ t, v = Value.int (ns.getD i 0) t := fun i v e => by
  rw [List.getElem?_toArray] at e
  have il : i < ns.length := by
    have h1 := (List.getElem?_eq_some_iff.mp e).1
    have h2 := rv.length
    rw [List.length_map] at h2
    omega
  obtain ⟨u, eu, t, ru⟩ := rv.get (i := i) (x := .int ns[i]) (by rw [List.getElem?_map, List.getElem?_eq_getElem il]; rfl)
  rw [e] at eu
  cases eu
  exact ⟨il, t, by rw [ru, List.getD_eq_getElem?_getD, List.getElem?_eq_getElem il]; rfl⟩
theorem pe_maxLam {X : Cx} (K : PySem.W.Frag) (hK : X.K = K) {T : List (Addr × Str)} {c P : Addr} {e : Expr} {te : TE} {params : Arguments} {body : Expr} {scope : Scope} {lpos kpos p pos : Pos} {x : Str} {KA : L2.St → Hp → Int → Int → Prop} {k : Nat}
    (hc : X.calm = true) (hr : Room k X.A) (hk : 2 ≤ k) (hg : Gl X "max") (hm : X.mg "max" = none) (TB : LamX.TabB X.base X.mg c P) (hcode : X.env.code = .ref c) (hT1 : (P, X.env.qual ++ "<lambda>") ∈ T) (hT2 : ∀ q ∈ T, q.1 = P → q.2 = X.env.qual ++ "<lambda>")
    (hdef : defaultsOf params X.env = ([], [])) (hfree : ∀ y ∈ scope.names, y.2 = .free → ∃ d, X.env.cells.lookup y.1 = some d) (L : LamShape params body scope x) (B : KeyBody X scope body x KA) (he : PE X e te)
    (hbt : backTo pos (starEach [e] X.env) = (false, eval e X.env) :: backTo pos (starEach [] X.env) := by rfl) (hpl : (backTo pos (starEach [e] X.env)).any (·.1) = false := by rfl) :
    PE X (.Call (.Name "max" p) [e] [⟨some "key", .Lambda params body scope lpos, kpos⟩] pos) (tMaxKey K T KA te) := by
  subst hK
  refine ⟨fun pins s σ H Q I h => ?_⟩
  have hbm : bootBuiltins ("max" : Str) = some (.builtin "max") := by decide +kernel
  refine wpAny_Call_Name_kw (ld_blt I hg hm hbm ?_)
  refine PyProof.Rows.callWith_kw ?_ hbt hpl rfl rfl
  rw [hbt]
  refine Calls.spliced_cons (thn (he.run pins s σ H _ I h) fun u s1 ⟨v, H1, I1, rv, now⟩ => Calls.spliced_nil ?_)
  obtain ⟨a, ns, kf, ev, hq, pos0, tabs, fin⟩ := now
  subst ev
  obtain rfl : u = Value.ref a := rv
  show wpAny _ _ (evalAll [(do let v ← eval (.Lambda params body scope lpos) X.env; standAt pos; pure v)]) _ _ s1
  refine wpAny_evalAll_cons (wpAny_bind (LamX.lam_make2 I1 TB hcode hT1 hT2 tabs hdef hfree fun f c' pm ctv H2 s2 I2 ext tabs2 hf nf nst hco => wpAny_bind (wpAny_standAt (wpAny_pure (wpAny_evalAll_nil ?_)))))
  obtain ⟨hq2, keys, fin⟩ := fin H2 ext tabs2
  obtain ⟨its, rvs, hl, _⟩ := I2.list hq2
  have ln : its.length = ns.length := by rw [← rvs.length, List.length_map]
  have hh := I2.ok.hd hc
  have codeR : s2.heap.CodeRec (.ref c') (X.env.qual ++ "<lambda>") := by
    obtain ⟨⟨oc, vs, tq, g1, g2, g3⟩, _⟩ := I2.hok c' _ hco
    exact ⟨c', oc, vs, tq, rfl, g1, g2, g3⟩
  have dep := hr.dp
  show wpAny _ _ (call (.builtin "max") [.ref a] [(Str.ofString "key", .ref f)]) _ _ s2
  refine PySem.call_max_walkK (PySem.W.iter_listW (A := X.A.in1) hh hl.isList fun s₂ es W st hfp hw hkp => ?_)
  refine ⟨_, _, _, _, _, _, _, Grown s2, (fun i kv _ => ∃ t, kv = Value.int (kf (ns.getD i 0)) t), (fun i j => decide (kf (ns.getD i 0) > kf (ns.getD j 0))), rfl, W, st, hfp, ?_, ⟨fun z z' g m => ?_, fun i kv z z' r _ => r, fun i vi z o Qt Et hi hP g hst hS now => ?_, fun i j ki kj z Qc Ec g ri rj now => ?_⟩, ?_, fun v z hP g => ?_⟩
  · rw [List.size_toArray, ln]; exact pos0
  · obtain ⟨h', tk, rfl, kp⟩ := g
    refine ⟨z'.heap, z'.toks, ?_, fun b o eb => m.heap b o (fun hb => ?_) (kp b o eb)⟩
    · obtain ⟨hp, gs, dr, tk2, os⟩ := z'
      obtain rfl : gs = s2.gens := m.gens
      obtain rfl : dr = s2.drawn := m.drawn
      obtain rfl : os = s2.os := m.os
      rfl
    · have lt := Heap.lt_size eb
      have sz : s₂.heap.objs.size = s2.heap.objs.size + 1 := by rw [es]; exact Heap.size_push ..
      have either : b = s₂.heap.objs.size ∨ b = s2.heap.objs.size := by simpa using hb
      rcases either with w | w
      · rw [w, sz] at lt
        exact Nat.lt_irrefl _ (Nat.lt_trans (Nat.lt_succ_self _) lt)
      · rw [w] at lt
        exact Nat.lt_irrefl _ lt
  · obtain ⟨il, t, rfl⟩ := ints_val2 rvs i vi hP
    have mem : ns.getD i 0 ∈ ns := by
      rw [List.getD_eq_getElem?_getD, List.getElem?_eq_getElem il]
      exact List.getElem_mem _
    refine wpAny_mono (lam_call L B I2 g hf codeR (show X.A.in1.depth < recursionLimit from by show X.A.depth < _; omega) (fun e => by have := hr.un; show X.A.units + 1 + 3 + 1 < cLine; omega) (keys _ mem)) (fun y z' r => ?_) fun _ _ e => e
    obtain ⟨e1, gr⟩ := r
    have kp := gr.kp
    obtain ⟨h', tk, ez, kp0⟩ := g
    obtain ⟨h2, tk2, ez2, _⟩ := gr
    have gz : Grown s2 z' := by
      subst ez
      subst ez2
      exact ⟨h2, tk2, rfl, fun b o q => kp b o (kp0 b o q)⟩
    refine now y z' gz ⟨?_, ?_⟩ (kp _ _ hS) e1 fun j k' q => q
    · obtain ⟨o1, ho1, r1⟩ := hst.1
      exact ⟨o1, kp _ _ ho1, r1⟩
    · obtain ⟨o1, ho1, r1⟩ := hst.2
      exact ⟨o1, kp _ _ ho1, r1⟩
  · exact (CmpOf.ints_gt (P := fun i kv => ∃ t, kv = Value.int (kf (ns.getD i 0)) t) (fun i => kf (ns.getD i 0)) (fun _ _ q => q)) i j ki kj z Qc Ec ri rj now
  · exact ⟨s₂.heap, s2.toks, by rw [es], hkp⟩
  · obtain ⟨h', tk, rfl, kp⟩ := g
    obtain ⟨il, t, rfl⟩ := ints_val2 rvs _ v hP
    obtain ⟨b1, b2⟩ := argBest_gt (fun i => kf (ns.getD i 0)) (its.toArray.size - 1)
    have hsz : its.toArray.size = its.length := List.size_toArray
    refine ⟨.int _, H2, I2.kept kp, ⟨_, rfl⟩, fin _ ?_ fun y hy => ?_⟩
    · rw [List.getD_eq_getElem?_getD, List.getElem?_eq_getElem il]
      exact List.getElem_mem _
    · obtain ⟨j, hj⟩ := List.getElem?_of_mem hy
      have jl := (List.getElem?_eq_some_iff.mp hj).1
      have := b2 j (by omega)
      rw [show ns.getD j 0 = y by rw [List.getD_eq_getElem?_getD, hj]; rfl] at this
      exact this
/-! ### what such lambdas say -/
/-- a name of the def around, as the lambda sees it -/
structure Sees (X : Cx) (scope : Scope) (x y : Str) (i : Nat) : Prop where
  at_ : X.N[i]? = some y
  vis : Vis X.env.scope y
  out : X.env.kindOf y ≠ some .local
  kind : scope.kind = .function
  kx : scope.names.lookup x = some .local
  ky : scope.names.lookup y = some .free
  clo : ∀ cells : List (Str × Addr), (cloFrom cells scope.names []).lookup y = some ((cells.lookup y).getD 0)
  dx : (x == ("__debug__" : Str)) = false
  dy : (y == ("__debug__" : Str)) = false
  cy : (y == ("__classdict__" : Str)) = false
theorem Sees.load {X : Cx} {scope : Scope} {x y : Str} {i : Nat} (S : Sees X scope x y i) {pins : List (Addr × Obj)} {σ : L2.St} {H : Hp} {A' : Around} {env' : Env} {E' : Value → Shared → Prop} {z : Shared} {v : V} {p : Pos} {Q : Value → Shared → Prop} (I : Inv X pins σ H z) (es : env'.scope = scope) (ec : env'.cells = cloFrom X.env.cells scope.names []) (hv : σ[i]? = some (some v))
    (h : ∀ u, RelV v u → Q u z) : wpAny (model X.prog X.w) A' (eval (.Name y p) env') Q E' z := by
  obtain ⟨m, _, look⟩ := I.loc
  obtain ⟨u, ru, l⟩ := look i y v S.at_ hv S.vis
  rcases l with ⟨l, _⟩ | ⟨_, d, hd, hc⟩
  · exact absurd l S.out
  · refine wpAny_Name (wpAny_loadName_free (c := d) (by rw [es]; exact S.kind) (show env'.scope.names.lookup y = _ by rw [es]; exact S.ky) ?_ hc (h u ru) S.cy) S.dy
    rw [ec, S.clo, hd]
    rfl
theorem Sees.arg {X : Cx} {scope : Scope} {x y : Str} {i : Nat} (S : Sees X scope x y i) {A' : Around} {env' : Env} {E' : Value → Shared → Prop} {z : Shared} {n : Int} {t : Tok} {p : Pos} {Q : Value → Shared → Prop} (es : env'.scope = scope) (ns : z.heap.Ns env'.locals (fun y => ([(x, Value.int n t)] : List (Str × Value)).lookup y))
    (h : Q (.int n t) z) : wpAny (model X.prog X.w) A' (eval (.Name x p) env') Q E' z := by
  refine wpAny_Name (wpAny_loadName_local (by rw [es]; exact S.kind) (show env'.scope.names.lookup x = _ by rw [es]; exact S.kx) ns ?_ h) S.dx
  show (match x == x with | true => some (Value.int n t) | false => none) = some (Value.int n t)
  rw [beq_self_eq_true]
/-- lambda x: y[x], y a dict -/
def kaDict (i : Nat) : L2.St → Hp → Int → Int → Prop := fun σ H n k => ∃ (d : Addr) (kvs : List (Key × V)), σ[i]? = some (some (.ref d)) ∧ H d = some (.dK kvs) ∧ valV kvs (.inl n) = some (.int k)
theorem body_dict {X : Cx} {scope : Scope} {x y : Str} {i : Nat} {p1 p2 p3 : Pos} (S : Sees X scope x y i) (ns : NoSl (.Name x p2)) : KeyBody X scope (.Subscript (.Name y p1) (.Name x p2) p3) x (kaDict i) := by
  intro pins σ H A' env' E' z n k t I un es ec nz ka
  obtain ⟨d, kvs, hd, hH, hv⟩ := ka
  refine subD_of PySem.F.slot_dict_getitem.lookup ns (S.load I es ec hd fun u ru => S.arg es nz ?_)
  obtain rfl : u = Value.ref d := ru
  obtain ⟨_, _, vals, kv, dict⟩ := dk_of I.hok hH
  obtain ⟨w', hw, rw'⟩ := RelO.some_of (v := .int k) (o := valueAt vals (.inl n)) (by rw [← hv]; exact kv.val _)
  refine ⟨dict.typeIs, wpAny_getItem_of (kV_is (k := .inl n) ⟨t, rfl⟩) dict.mapOf hw ⟨rw', _, rfl⟩⟩
/-- lambda x: y[x][1], y a tuple of tuples -/
def kaTup (K : PySem.W.Frag) (i : Nat) : L2.St → Hp → Int → Int → Prop := fun σ H n k => ∃ (a b : Addr) (xs ys : List V), σ[i]? = some (some (.ref a)) ∧ SqT K H a xs ∧ atI xs n = some (.ref b) ∧ SqT K H b ys ∧ atI ys 1 = some (.int k)
theorem tup_item {X : Cx} {pins : List (Addr × Obj)} {σ : L2.St} {H : Hp} {A' : Around} {E' : Value → Shared → Prop} {z : Shared} {a : Addr} {xs : List V} {n : Int} {t : Tok} {v : V} {Q : Value → Shared → Prop} (I : Inv X pins σ H z) (hs : SqT X.K H a xs) (hv : atI xs n = some v)
    (h : ∀ u, RelV v u → Q u z) : z.TypeIs (.ref a) "tuple" ∧ wpAny (model X.prog X.w) A' (getItem (.ref a) (.int n t)) Q E' z := by
  obtain ⟨items, rel, tup, small⟩ := I.tuple hs
  obtain ⟨j, i1, i2, i3, i4, i5⟩ := atI_get hv
  obtain ⟨u, hu, ru⟩ := rel.get i2
  have len := rel.length
  have big := line63
  exact ⟨tup.typeIs, PyProof.Rows.getItem_tuple (j := j) tup (by omega) (by omega) (by rw [List.size_toArray, ← len]; exact i1) (by simpa using hu) (h u ru)⟩
theorem body_tup {X : Cx} {scope : Scope} {x y : Str} {i j : Nat} {p1 p2 p3 p4 p5 : Pos} (S : Sees X scope x y i) (n1 : NoSl (.Name x p2)) (n2 : NoSl (.Constant (.int 1) j p4)) : KeyBody X scope (.Subscript (.Subscript (.Name y p1) (.Name x p2) p3) (.Constant (.int 1) j p4) p5) x (kaTup X.K i) := by
  intro pins σ H A' env' E' z n k t I un es ec nz ka
  obtain ⟨a, b, xs, ys, ha, hx, hb, hy, hk⟩ := ka
  refine subD_of slot_tuple_getitem.lookup n2 (subD_of slot_tuple_getitem.lookup n1 (S.load I es ec ha fun u ru => S.arg es nz ?_))
  obtain rfl : u = Value.ref a := ru
  refine tup_item I hx hb fun u2 ru2 => wpAny_Constant_int ?_
  obtain rfl : u2 = Value.ref b := ru2
  exact tup_item (I.tok _) hy hk fun u3 ru3 => ⟨ru3, _, rfl⟩
theorem free_one {names : List (Str × NameKind)} {cells : List (Str × Addr)} {y : Str} {d : Addr} (h : (names.filter fun p => p.2 == NameKind.free) = [(y, NameKind.free)]) (hd : cells.lookup y = some d) : ∀ p ∈ names, p.2 = .free → ∃ d, cells.lookup p.1 = some d := fun p hp e => by
  have : p ∈ names.filter fun p => p.2 == NameKind.free := List.mem_filter.mpr ⟨hp, by rw [e]; rfl⟩
  rw [h] at this
  rw [List.mem_singleton.mp this]
  exact ⟨d, hd⟩
theorem ExtN.tk {H H' : Hp} (e : LamX.ExtN H H') : TK H H' := fun b xs h => e b _ h (fun _ z => nomatch z)
theorem ExtN.lst {H H' : Hp} {a : Addr} {xs : List V} (e : LamX.ExtN H H') (h : H a = some (.lst xs)) : H' a = some (.lst xs) := e a _ h (fun _ z => nomatch z)
theorem ExtN.dic {H H' : Hp} {a : Addr} {kvs : List (Key × V)} (e : LamX.ExtN H H') (h : H a = some (.dK kvs)) : H' a = some (.dK kvs) := e a _ h (fun _ z => nomatch z)
theorem ExtN.flow {H H' : Hp} {f c : Addr} (e : LamX.ExtN H H') (h : Flow H f c) : Flow H' f c := by
  obtain ⟨ns, i, p, q, r, e1, e2, rest⟩ := h
  exact ⟨ns, i, p, q, r, ExtN.lst e e1, ExtN.lst e e2, rest⟩
theorem ExtN.same {H H' : Hp} (s : Same H H') : LamX.ExtN H H' := LamX.ExtN.of s
theorem tabs_same {T : List (Addr × Str)} {H H' : Hp} (t : LamX.Tabs T H) (s : Same H H') : LamX.Tabs T H' := t.ext s
theorem tabs_lst {T : List (Addr × Str)} {H : Hp} {l : Addr} {xs ys : List V} (t : LamX.Tabs T H) (h : H l = some (.lst xs)) : LamX.Tabs T (upd H l (.lst ys)) := fun p hp => by
  obtain ⟨ps, h1, h2, h3⟩ := t p hp
  have ne : ∀ b o, H b = some o → (∀ zs, o ≠ .lst zs) → upd H l (.lst ys) b = some o := fun b o e n => by
    rw [upd_ne (fun z => by rw [z, h] at e; cases e; exact n _ rfl)]
    exact e
  refine ⟨ps, ne _ _ h1 (fun _ z => nomatch z), h2, fun pos cv hc => ?_⟩
  obtain ⟨c, e1, e2⟩ := h3 pos cv hc
  exact ⟨c, e1, ne _ _ e2 (fun zs z => by unfold LamX.CodeO at z; cases z)⟩
theorem tabs_but {T : List (Addr × Str)} {H H' : Hp} {f c : Addr} (t : LamX.Tabs T H) (F : Flow H f c) (b : But f H H') : LamX.Tabs T H' := fun p hp => by
  obtain ⟨ps, h1, h2, h3⟩ := t p hp
  obtain ⟨ns, i, a, q, r, e1, _⟩ := F
  have ne : ∀ d o, H d = some o → (∀ zs, o ≠ .lst zs) → H' d = some o := fun d o e n => b d o e (fun z => by rw [z, e1] at e; cases e; exact n _ rfl)
  refine ⟨ps, ne _ _ h1 (fun _ z => nomatch z), h2, fun pos cv hc => ?_⟩
  obtain ⟨c, g1, g2⟩ := h3 pos cv hc
  exact ⟨c, g1, ne _ _ g2 (fun zs z => by unfold LamX.CodeO at z; cases z)⟩
/-- a def of which the code object is known -/
theorem ok_code {P : Program} {w : World} {K : PySem.W.Frag} {mg : Str → Option Value} {base : Heap} {x qual : Str} {st : Stmt} {f c : Addr} {fd : FuncData} {N ps : List Str} {k : Nat} {sp : Sp} (F : Fun K x qual st f fd) (hc : fd.code = .ref c) (S : FnScope N ps (defScope st)) (len : ∀ vs H Q E, sp vs H Q E → vs.length = ps.length)
    (hbody : ∀ (A : Around) (outer : List Env) (s : Shared) (H : Hp) (vs : List V) (Q : VK) (E : XK), Room k (A.deeper (envOfC qual (defScope st) s.heap.objs.size f (.ref c))) → sp vs H Q E →
      ∃ t, PSs (cxOf CX0 P w K mg base N qual (defScope st) f (.ref c) A outer s H E).nox (defBody st) t ∧ t { nx := fun _ H' => Q .non H', rt := Q } (start N vs) H) : FnOk P w K mg base CX0 (k + 1) f fd ps sp := by
  obtain ⟨kl, kd, kV, dc, pm, an, cv, ct, ks, rfl, look, cin⟩ := F.ex
  obtain rfl : cv = .ref c := hc
  refine fn_of look cin S len fun A outer s H vs Q E hr now => ?_
  obtain ⟨t, h, q⟩ := hbody A outer s H vs Q E hr now
  exact ⟨t, h.nox, q⟩
/-! ### ways -/
def WayAt (H : Hp) (t : Addr) (k : Nat) (ns : List Nat) : Prop := ∃ g : Addr, H t = some (.tup [nV k, .ref g]) ∧ H g = some (.tup (ns.map nV))
theorem WayAt.keep {H H' : Hp} {t : Addr} {k : Nat} {ns : List Nat} (h : WayAt H t k ns) (s : TK H H') : WayAt H' t k ns := by
  obtain ⟨g, e1, e2⟩ := h
  exact ⟨g, s _ _ e1, s _ _ e2⟩
def momH (hs : List HR) (k : Nat) : Int := match hs[k]? with | some h => h.mom | none => 0
def trB (bs : List BR) (n : Nat) : Int := match bs[n]? with | some b => (b.th.length : Int) | none => 0
def toB (bs : List BR) (n : Nat) : Nat := match bs[n]? with | some b => b.to | none => 0
def wayEnd (bs : List BR) : Nat → List Nat → Option Nat
  | k, [] => some k
  | k, n :: ns => match bs[n]? with | some b => if b.one = k then wayEnd bs b.to ns else none | none => none
theorem wayEnd_cons {bs : List BR} {n k : Nat} {b : BR} {ns : List Nat} (e : bs[n]? = some b) : wayEnd bs k (n :: ns) = if b.one = k then wayEnd bs b.to ns else none := by
  show (match bs[n]? with | some b => if b.one = k then wayEnd bs b.to ns else none | none => none) = _
  rw [e]
theorem drop_at {α : Type} {ns : List α} {i : Nat} {n : α} (e : ns[i]? = some n) : ns.drop i = n :: ns.drop (i + 1) := by
  obtain ⟨h, z⟩ := List.getElem?_eq_some_iff.mp e
  rw [List.drop_eq_getElem_cons h, z]
def onV : Option Nat → V
  | none => .non
  | some k => nV k
theorem nats_at {ns : List Nat} {i : Nat} {x : V} (h : (ns.map nV)[i]? = some x) : ∃ n : Nat, ns[i]? = some n ∧ x = nV n := by
  rw [List.getElem?_map] at h
  cases e : ns[i]? with
  | none => rw [e] at h; cases h
  | some n => rw [e] at h; exact ⟨n, rfl, (Option.some.inj h).symm⟩
section
variable {P : Program} {w : World} {K : PySem.W.Frag} {mg : Str → Option Value} {base : Heap}
def momW (hs : List HR) (bs : List BR) (k : Nat) (ns : List Nat) : Int := momH hs k + (ns.map fun n => momH hs (toB bs n)).sum
def sp_moments_on (K : PySem.W.Frag) : Sp := fun vs H Q _ => ∃ (r t : Addr) (hs : List HR) (bs : List BR) (k : Nat) (ns : List Nat), vs = [.ref r, .ref t] ∧ RoomAt H r hs bs ∧ (∀ b ∈ bs, b.to < hs.length) ∧ WayAt H t k ns ∧ k < hs.length ∧ (∀ n ∈ ns, n < bs.length) ∧ ns.length ≤ 400 ∧ ∀ H', Same H H' → Q (.int (momW hs bs k ns)) H'
theorem ok_moments_on {f : Addr} {fd : FuncData} (F : Fun K "moments_on" "moments_on" s_moments_on f fd) (T : Top K mg) : FnOk P w K mg base CX0 1 f fd ["room", "way"] (sp_moments_on K) := by
  refine F.ok sc_moments_on (fun vs H Q E h => ?_) (fun cdv A outer s H vs Q E hr h => ?_)
  · obtain ⟨r, t, hs, bs, k, ns, rfl, _⟩ := h
    rfl
  obtain ⟨r, t, hs, bs, k, ns, rfl, hR, hto, ⟨g, et, eg⟩, hk, hn, ln, q⟩ := h
  obtain ⟨ha, ba, hv, bv, er, eh, eb, alh, alb⟩ := hR.ex
  refine ⟨_, (pss_cons (ps_asg (pv 0) (pg_tupK K rfl rfl (pgs_cons (pg_name (i := 2) sc_moments_on.nd rfl (Or.inr rfl)) (pgs_cons (pg_name (i := 3) sc_moments_on.nd rfl (Or.inr rfl)) pgs_nil))))
      (pss_cons (ps_asg (pv 1) (pg_tupK K rfl rfl (pgs_cons (pg_name (i := 4) sc_moments_on.nd rfl (Or.inl rfl)) (pgs_cons (pg_name (i := 5) sc_moments_on.nd rfl (Or.inl rfl)) pgs_nil))))
      (pss_one (ps_ret (pe_op op_add (pe_ix (ix_tupK K rfl) (pe_ix (ix_tupK K rfl) (pv 2) (pv 4) (fun _ _ => rfl)) pe_int (fun _ _ => rfl)) (pe_callB (cr_sumK K rfl rfl) (by rfl) T.m_sum (by decide +kernel) (pa_cons (pe_lc (own := [("number", 6)]) (g := gName 6) (tt := tYes) (by rfl) sc_moments_on.nd (pi_tupK K rfl (pv 5)) (blkOk_by (own := [("number", 6)]) (N := N_moments_on) (sc := defScope s_moments_on) (by decide +kernel)) (fun _ _ _ _ _ => (pg_name (i := 6) sc_moments_on.nd rfl (Or.inl rfl))) (fun _ _ _ _ _ => pts_nil) (fun _ _ _ _ _ => (pe_ix (ix_tupK K rfl) (pe_ix (ix_tupK K rfl) (pv 2) (pe_ix (ix_tupK K rfl) (pe_ix (ix_tupK K rfl) (pv 3) (pv 6) (fun _ _ => rfl)) pe_int (fun _ _ => rfl)) (fun _ _ => rfl)) pe_int (fun _ _ => rfl)))) pa_nil))))))), ?_⟩
  refine ⟨_, rfl, r, _, rfl, SqT.of er, rfl, _, _, rfl, _, _, rfl, rfl, ?_⟩
  refine ⟨_, rfl, t, _, rfl, SqT.of et, rfl, _, _, rfl, _, _, rfl, rfl, ?_⟩
  have ehk : hs[k]? = some hs[k] := List.getElem?_eq_getElem hk
  obtain ⟨x0, ex0, ⟨t0, r0, rfl, e01, e02⟩⟩ := alh.get ehk
  refine ⟨_, rfl, _, rfl, ha, _, _, _, rfl, rfl, SqT.of eh, atI_nat ex0, t0, _, _, _, rfl, rfl, SqT.of e01, atI_nat (j := 1) rfl, ?_⟩
  refine ⟨_, rfl, g, rfl, ⟨_, SqT.of eg⟩, fun D nD => lc_tup (K := K) (a := g) (xs := ns.map nV) (fun i H5 => H5 D = some (.lst (((ns.take i).map fun n => momH hs (toB bs n)).map V.int)) ∧ Same H H5) ⟨upd_same, same_new nD⟩ (fun i H5 _ ⟨_, s5⟩ => SqT.of (s5 _ _ eg)) ?_ ?_⟩
  · rintro i x H5 hx ⟨hD, s5⟩
    obtain ⟨n, en, rfl⟩ := nats_at hx
    have il := (List.getElem?_eq_some_iff.mp en).1
    have nb := hn n (List.mem_of_getElem? en)
    have ebn : bs[n]? = some bs[n] := List.getElem?_eq_getElem nb
    obtain ⟨x, ex, ⟨t2, g2, rfl, e1, e2⟩⟩ := alb.get ebn
    have tb := hto _ (List.getElem_mem nb)
    have eht : hs[bs[n].to]? = some hs[bs[n].to] := List.getElem?_eq_getElem tb
    obtain ⟨y, ey, ⟨t3, r3, rfl, e31, e32⟩⟩ := alh.get eht
    refine ⟨rfl, yes_in ⟨_, rfl, _, rfl, _, rfl, ba, _, _, _, rfl, rfl, SqT.of (s5 _ _ eb), atI_nat ex, t2, _, _, _, rfl, rfl, SqT.of (s5 _ _ e1), atI_nat (j := 1) rfl, ha, _, _, _, rfl, rfl, SqT.of (s5 _ _ eh), atI_nat ey, t3, _, _, _, rfl, rfl, SqT.of (s5 _ _ e31), atI_nat (j := 1) rfl, _, hD, ?_, ?_, Same.own s5 nD⟩⟩
    · rw [List.length_map, List.length_map, List.length_take]; exact small1000 (by omega)
    · rw [upd_same, List.take_add_one, en, List.map_append, List.map_append]
      show _ = some (HO.lst (_ ++ [V.int (momH hs (toB bs n))]))
      unfold momH toB
      rw [ebn]
      dsimp only
      rw [eht]
  · rintro H5 ⟨hD, s5⟩
    rw [List.length_map, List.take_length] at hD
    refine ⟨D, _, rfl, SqL.of hD, _, _, rfl, rfl, ?_⟩
    have := q _ s5
    unfold momW at this
    rw [show momH hs k = hs[k].mom by unfold momH; rw [ehk]] at this
    exact this
end

/-! ### the greatest moments of ways without trays -/
def lng (hs : List HR) (bs : List BR) (k : Nat) : Int := erl hs bs k 0 + momN hs k
section
variable {hs : List HR} {bs : List BR} {rk : Nat → Int}
theorem lng_mom (hr : ∀ b ∈ bs, b.th = [] → rk b.one < rk b.to) (he : ∀ b ∈ bs, b.one < hs.length ∧ b.to < hs.length) {k : Nat} (hk : k < hs.length) : momN hs k ≤ lng hs bs k := by
  unfold lng
  have : 0 ≤ erl hs bs k 0 := by
    rw [erl_is hr he hk]
    exact gtst_le due_zero
  omega
theorem lng_belt (hr : ∀ b ∈ bs, b.th = [] → rk b.one < rk b.to) (he : ∀ b ∈ bs, b.one < hs.length ∧ b.to < hs.length) {b : BR} (hb : b ∈ bs) (e : b.th = []) : lng hs bs b.one + momN hs b.to ≤ lng hs bs b.to := by
  unfold lng
  have : erl hs bs b.one 0 + momN hs b.one ≤ erl hs bs b.to 0 := by
    rw [erl_is hr he (he b hb).2]
    refine gtst_le (due_mem.mpr (.inr (.inr ⟨b, hb, rfl, by rw [e]; exact Nat.le_refl _, ?_⟩)))
    rw [Nat.zero_sub]
  omega
theorem lng_is (hr : ∀ b ∈ bs, b.th = [] → rk b.one < rk b.to) (he : ∀ b ∈ bs, b.one < hs.length ∧ b.to < hs.length) {k : Nat} (hk : k < hs.length) : lng hs bs k = momN hs k ∨ ∃ b ∈ bs, b.to = k ∧ b.th = [] ∧ lng hs bs k = lng hs bs b.one + momN hs k := by
  have m := gtst_mem (due_zero (hs := hs) (bs := bs) (e := erl hs bs) (k := k) (t := 0))
  rw [← erl_is hr he hk] at m
  unfold lng
  rcases due_mem.mp m with z | ⟨z, _⟩ | ⟨b, hb, e1, e2, z⟩
  · left; omega
  · exact absurd rfl z
  · right
    refine ⟨b, hb, e1, List.eq_nil_of_length_eq_zero (Nat.le_zero.mp e2), ?_⟩
    rw [Nat.zero_sub] at z
    omega
end
/-- how a hand's greatest moments come about: its own alone, or over a belt -/
def LaK (hs : List HR) (bs : List BR) (v : Int) (k : Nat) : Option Nat → Prop
  | none => v = momN hs k
  | some n => ∃ b, bs[n]? = some b ∧ b.to = k ∧ b.th = [] ∧ v = lng hs bs b.one + momN hs k
theorem keys_any {kvs : List (Key × V)} {k : Key} : (kvs.any fun kv => decide (kv.1 = k)) = true ↔ k ∈ kvs.map (·.1) := by
  rw [List.any_eq_true, List.mem_map]
  constructor
  · rintro ⟨p, hp, h⟩
    exact ⟨p, hp, of_decide_eq_true h⟩
  · rintro ⟨p, hp, h⟩
    exact ⟨p, hp, decide_eq_true h⟩
theorem keys_old {kvs : List (Key × V)} {k : Key} {v : V} (z : k ∈ kvs.map (·.1)) : (putK kvs k v).map (·.1) = kvs.map (·.1) := by
  unfold putK
  rw [if_pos (keys_any.mpr z), List.map_map]
  refine List.map_congr_left fun p _ => ?_
  show (if p.1 = k then (p.1, v) else p).1 = p.1
  split <;> rfl
theorem keys_new {kvs : List (Key × V)} {k : Key} {v : V} (z : k ∉ kvs.map (·.1)) : (putK kvs k v).map (·.1) = kvs.map (·.1) ++ [k] := by
  unfold putK
  rw [if_neg (fun y => z (keys_any.mp y)), List.map_append]
  rfl
theorem putK_le (kvs : List (Key × V)) (k : Key) (v : V) : (putK kvs k v).length ≤ kvs.length + 1 := by
  unfold putK
  split
  · rw [List.length_map]; exact Nat.le_succ _
  · rw [List.length_append]; exact Nat.le_refl _
theorem TK.dic {H : Hp} {p : Addr} {kvs lvs : List (Key × V)} (h : H p = some (.dK kvs)) : TK H (upd H p (.dK lvs)) := fun x zs e => by
  rw [upd_ne (ne_of e h (fun z => nomatch z))]
  exact e
def DLa (lvs : List (Key × V)) (la : Nat → Option Nat) : Prop := ∀ k, valV lvs (kN k) = (la k).map nV
theorem DLa.put {lvs : List (Key × V)} {la : Nat → Option Nat} (d : DLa lvs la) (k j : Nat) : DLa (putK lvs (kN k) (nV j)) (fun i => if i = k then some j else la i) := fun i => by
  rw [valV_put]
  by_cases e : i = k
  · subst e
    rw [if_pos rfl]
    show _ = (if i = i then some j else la i).map nV
    rw [if_pos rfl]
    rfl
  · rw [if_neg fun z => e (kN_inj z)]
    show _ = (if i = k then some j else la i).map nV
    rw [if_neg e]
    exact d i
/-- the table of long_way's code object -/
abbrev TL (PT : Addr) : List (Addr × Str) := [(PT, (("long_way" : Str) ++ ".<locals>.") ++ "<lambda>")]
class TabL (K : PySem.W.Frag) (mg : Str → Option Value) (base : Heap) (cT PT : outParam Addr) : Prop where
  tb : LamX.TabB base mg cT PT
  cd : ∀ (f : Addr) (fd : FuncData), Fun K "long_way" "long_way" s_long_way f fd → mg "long_way" = some (.ref f) → fd.code = .ref cT
section
variable {P : Program} {w : World} {K : PySem.W.Frag} {mg : Str → Option Value} {base : Heap}
/-- what long_sums tells -/
structure Lsd (hs : List HR) (bs : List BR) (H : Hp) (sd ld : Addr) (svs lvs : List (Key × V)) (ord : List Nat) (la : Nat → Option Nat) : Prop where
  hs_ : H sd = some (.dK svs)
  hl : H ld = some (.dK lvs)
  keys : svs.map (·.1) = ord.map kN
  dm : ∀ k, k ∈ ord → valV svs (kN k) = some (.int (lng hs bs k))
  dl : DLa lvs la
  la : ∀ k, k ∈ ord → LaK hs bs (lng hs bs k) k (la k)
  all : ∀ k, k ∈ ord ↔ k < hs.length
  len : ord.length = hs.length
def sp_long_sums (K : PySem.W.Frag) : Sp := fun vs H Q _ => ∃ (r : Addr) (hs : List HR) (bs : List BR), vs = [.ref r] ∧ RoomAt H r hs bs ∧ RoomOk hs bs ∧
  ∀ (p sd ld : Addr) (svs lvs : List (Key × V)) (ord : List Nat) (la : Nat → Option Nat) (H' : Hp), H' p = some (.tup [.ref sd, .ref ld]) → Lsd hs bs H' sd ld svs lvs ord la → Same H H' → Q (.ref p) H'
theorem ok_long_sums {f : Addr} {fd : FuncData} (F : Fun K "long_sums" "long_sums" s_long_sums f fd) (T : Top K mg) : FnOk P w K mg base CX0 2 f fd ["room"] (sp_long_sums K) := by
  obtain ⟨f_work_order, fd_work_order, F_work_order, b_work_order, m_work_order⟩ := T.d_work_order
  have G_work_order := ok_work_order (P := P) (w := w) (base := base) F_work_order T
  obtain ⟨f_comings, fd_comings, F_comings, b_comings, m_comings⟩ := T.d_comings
  have G_comings := ok_comings (P := P) (w := w) (base := base) F_comings T
  refine F.ok sc_long_sums (fun vs H Q E h => ?_) (fun cdv A outer s H vs Q E hr h => ?_)
  · obtain ⟨r, hs, bs, rfl, _⟩ := h
    rfl
  obtain ⟨r, hs, bs, rfl, hR, ok, q⟩ := h
  obtain ⟨ha, ba, hv, bv, er, eh, eb, alh, alb⟩ := hR.ex
  have lh := ok.hands
  have lb := ok.many
  obtain ⟨rk, hrk⟩ := ok.rank
  have he := ok.ends
  have loose : ∀ p ∈ looseOf bs, rk p.1 < rk p.2 := fun p hp => by
    obtain ⟨b, hb, rfl⟩ := List.mem_map.mp hp
    exact hrk b (List.mem_filter.mp hb).1 (List.isEmpty_iff.mp (List.mem_filter.mp hb).2)
  refine ⟨_, (pss_cons (ps_asg (pv 0) (pg_tupK K rfl rfl (pgs_cons (pg_name (i := 1) sc_long_sums.nd rfl (Or.inl rfl)) (pgs_cons (pg_name (i := 2) sc_long_sums.nd rfl (Or.inl rfl)) pgs_nil))))
      (pss_cons (ps_set (i := 3) sc_long_sums.nd rfl (Or.inl rfl) pe_dnewK)
      (pss_cons (ps_set (i := 4) sc_long_sums.nd rfl (Or.inl rfl) pe_dnewK)
      (pss_cons (ps_for PassesOwn.never rfl (pi_listK K rfl (pe_call G_work_order (hr.mono (by decide)) (by rfl) m_work_order F_work_order.kp b_work_order .nil pass0 (pa_cons (pv 0) pa_nil))) (pg_name (i := 5) sc_long_sums.nd rfl (Or.inl rfl))
        (pss_cons (ps_dput (hu_of hr) (pv 3) (pv 5) (pe_ix (ix_tupK K rfl) (pe_ix (ix_tupK K rfl) (pv 1) (pv 5) (fun _ _ => rfl)) pe_int (fun _ _ => rfl)) (by rfl))
      (pss_one (ps_for PassesOwn.never rfl (pi_listK K rfl (pe_call G_comings (hr.mono (by decide)) (by rfl) m_comings F_comings.kp b_comings .nil pass0 (pa_cons (pv 0) (pa_cons (pv 5) pa_nil)))) (pg_name (i := 6) sc_long_sums.nd rfl (Or.inl rfl))
        (pss_cons (ps_asg (pe_ix (ix_tupK K rfl) (pv 2) (pv 6) (fun _ _ => rfl)) (pg_tupK K rfl rfl (pgs_cons (pg_name (i := 7) sc_long_sums.nd rfl (Or.inl rfl)) (pgs_cons (pg_name (i := 8) sc_long_sums.nd rfl (Or.inl rfl)) (pgs_cons (pg_name (i := 9) sc_long_sums.nd rfl (Or.inl rfl)) pgs_nil)))))
      (pss_one (ps_if (PW.pt (pw_and (pt_not (pt_truthK K rfl (pv 9) (by intro _; rfl))) (pw_and1 (pt_cmpR op_gt (pe_op op_add (pe_dget (hu_of hr) (pv 3) (pv 7) (fun _ _ => rfl)) (pe_ix (ix_tupK K rfl) (pe_ix (ix_tupK K rfl) (pv 1) (pv 5) (fun _ _ => rfl)) pe_int (fun _ _ => rfl))) (pe_dget (hu_of hr) (pv 3) (pv 5) (fun _ _ => rfl)) (nomark _))))) (pss_cons (ps_dput (hu_of hr) (pv 3) (pv 5) (pe_op op_add (pe_dget (hu_of hr) (pv 3) (pv 7) (fun _ _ => rfl)) (pe_ix (ix_tupK K rfl) (pe_ix (ix_tupK K rfl) (pv 1) (pv 5) (fun _ _ => rfl)) pe_int (fun _ _ => rfl))) (by rfl))
      (pss_one (ps_dput (hu_of hr) (pv 4) (pv 5) (pv 6) (by rfl)))) pss_nil)))))))
      (pss_one (ps_ret (pe_tup (pa_cons (pv 3) (pa_cons (pv 4) pa_nil))))))))), ?_⟩
  refine ⟨_, rfl, r, _, rfl, SqT.of er, rfl, _, _, rfl, _, _, rfl, rfl, ?_⟩
  refine fun sd nsd => fun ld nld => ?_
  have sdld : sd ≠ ld := fun z => by rw [← z, upd_same] at nld; cases nld
  have s1 : Same H (upd (upd H sd (.dK [])) ld (.dK [])) := (same_new nsd).trans (same_new nld)
  have nld0 : H ld = none := same_none (same_new nsd) nld
  refine ⟨_, rfl, r, hs, bs, rk, rfl, hR.keep (TK.same s1), by omega, by omega, ok.ends, loose, fun od ord H1 nod hod s2 soon => ?_⟩
  have lo := soon_len soon
  rw [List.length_range] at lo
  have all : ∀ k, k ∈ ord ↔ k < hs.length := fun k => ⟨fun h => List.mem_range.mp (soon_mem soon k h), fun h => soon_all soon k (List.mem_range.mpr h)⟩
  have s02 := s1.trans s2
  have odsd : od ≠ sd := fun z => by rw [z, upd_ne sdld, upd_same] at nod; cases nod
  have odld : od ≠ ld := fun z => by rw [z, upd_same] at nod; cases nod
  refine ⟨od, rfl, ⟨_, SqL.of hod⟩, for_list (K := K) (a := od) (xs := ord.map nV) (fun i σ H5 => (∃ v5 v6 v7 v8 v9 : Option V, σ = [some (.ref r), some (.ref ha), some (.ref ba), some (.ref sd), some (.ref ld), v5, v6, v7, v8, v9]) ∧ ∃ (svs lvs : List (Key × V)) (la : Nat → Option Nat), H5 sd = some (.dK svs) ∧ H5 ld = some (.dK lvs) ∧ H5 od = some (.lst (ord.map nV)) ∧ svs.map (·.1) = (ord.take i).map kN ∧ (∀ k, k ∈ ord.take i → valV svs (kN k) = some (.int (lng hs bs k))) ∧ DLa lvs la ∧ lvs.length ≤ 20 * i ∧ (∀ k, k ∈ ord.take i → LaK hs bs (lng hs bs k) k (la k)) ∧ (∀ k, k ∉ ord.take i → la k = none) ∧ Same H H5)
    ⟨⟨_, _, _, _, _, rfl⟩, [], [], fun _ => none, s2 _ _ (by rw [upd_ne sdld]; exact upd_same), s2 _ _ upd_same, hod, rfl, (fun _ z => nomatch z), (fun _ => rfl), Nat.le_refl _, (fun _ z => nomatch z), (fun _ _ => rfl), s02⟩ (fun i σ H5 _ ⟨_, _, _, _, _, _, h, _⟩ => SqL.of h) ?_ ?_⟩
  · rintro i x σ H5 hx ⟨⟨v5, v6, v7, v8, v9, rfl⟩, svs, lvs, la, hsd, hld, hod5, keys, dm, dl, ll, lak, lan, s5⟩
    rw [List.getElem?_map] at hx
    obtain ⟨k, ek⟩ : ∃ k, ord[i]? = some k := by
      cases z : ord[i]? with
      | none => rw [z] at hx; cases hx
      | some k => exact ⟨k, rfl⟩
    rw [ek] at hx
    obtain rfl : nV k = x := Option.some.inj hx
    have il := (List.getElem?_eq_some_iff.mp ek).1
    have hk : k < hs.length := (all k).mp (List.mem_of_getElem? ek)
    have knot : k ∉ ord.take i := fun z => by
      obtain ⟨m, hm⟩ := List.mem_iff_getElem?.mp z
      have ml := (List.getElem?_eq_some_iff.mp hm).1
      rw [List.length_take] at ml
      rw [List.getElem?_take_of_lt (by omega)] at hm
      have := nd_at (soon_nd soon List.nodup_range) hm ek
      omega
    have lsv : svs.length ≤ 12 := by
      have := congrArg List.length keys
      rw [List.length_map, List.length_map, List.length_take] at this
      omega
    obtain ⟨h, ehk⟩ : ∃ h, hs[k]? = some h := ⟨_, List.getElem?_eq_getElem hk⟩
    obtain ⟨y, ey, t1, t2, rfl, e1, e2⟩ := alh.get ehk
    have em := mom_at ehk
    have keyn : kN k ∉ svs.map (·.1) := by
      rw [keys]
      intro z
      obtain ⟨m, hm, e⟩ := List.mem_map.mp z
      exact knot (kN_inj e ▸ hm)
    refine ⟨_, rfl, _, rfl, ha, _, _, _, rfl, rfl, SqT.of (s5 _ _ eh), atI_nat ey, t1, _, _, _, rfl, rfl, SqT.of (s5 _ _ e1), atI_nat (j := 1) rfl, _, rfl, _, rfl, sd, _, rfl, DPut.k (k := kN k) hsd (small1000 (by omega)), ?_⟩
    have s6 : Same H (upd H5 sd (.dK (putK svs (kN k) (.int h.mom)))) := Same.own s5 nsd
    refine ⟨_, rfl, _, rfl, r, hs, bs, k, rfl, hR.keep (TK.same s6), by omega, fun cl H7 ncl hcl s7 => ?_⟩
    have s07 := s6.trans s7
    have lcm : (comingN bs k).length ≤ 20 := Nat.le_trans (filt_len _) lb
    have ncl0 : H cl = none := same_none s6 ncl
    have clsd : cl ≠ sd := fun z => by rw [z, upd_same] at ncl; cases ncl
    have clld : cl ≠ ld := fun z => by rw [z, upd_ne sdld.symm, hld] at ncl; cases ncl
    have clod : cl ≠ od := fun z => by rw [z, upd_ne odsd, hod5] at ncl; cases ncl
    refine ⟨cl, rfl, ⟨_, SqL.of hcl⟩, for_list (K := K) (a := cl) (xs := (comingN bs k).map nV) (fun j σ H8 => (∃ v6 v7 v8 v9 : Option V, σ = [some (.ref r), some (.ref ha), some (.ref ba), some (.ref sd), some (.ref ld), some (nV k), v6, v7, v8, v9]) ∧ ∃ (svs' lvs' : List (Key × V)) (cur : Int) (o : Option Nat), H8 sd = some (.dK svs') ∧ H8 ld = some (.dK lvs') ∧ H8 od = some (.lst (ord.map nV)) ∧ H8 cl = some (.lst ((comingN bs k).map nV)) ∧ svs'.map (·.1) = svs.map (·.1) ++ [kN k] ∧ (∀ m, m ∈ ord.take i → valV svs' (kN m) = some (.int (lng hs bs m))) ∧ valV svs' (kN k) = some (.int cur) ∧ DLa lvs' (fun m => if m = k then o else la m) ∧ lvs'.length ≤ 20 * i + j ∧ LaK hs bs cur k o ∧ momN hs k ≤ cur ∧ cur ≤ lng hs bs k ∧ (∀ m ∈ (comingN bs k).take j, ∀ b, bs[m]? = some b → b.th = [] → lng hs bs b.one + momN hs k ≤ cur) ∧ Same H H8)
      ⟨⟨_, _, _, _, rfl⟩, putK svs (kN k) (.int h.mom), lvs, h.mom, none, s7 _ _ upd_same, s7 _ _ (by rw [upd_ne sdld.symm]; exact hld), s7 _ _ (by rw [upd_ne odsd]; exact hod5), hcl, keys_new keyn, fun m hm => by rw [valV_put, if_neg (fun z => knot (by rw [← kN_inj z]; exact hm))]; exact dm m hm, by rw [valV_put, if_pos rfl], fun m => ?_, by omega, em.symm, by rw [em]; exact Int.le_refl _, by rw [← em]; exact lng_mom hrk he hk, (fun _ z => nomatch z), s07⟩ (fun j σ H8 _ ⟨_, _, _, _, _, _, _, _, h, _⟩ => SqL.of h) ?_ ?_⟩
    · show _ = (if m = k then none else la m).map nV
      by_cases z : m = k
      · rw [if_pos z, dl m, z, lan k knot]
      · rw [if_neg z]; exact dl m
    · rintro j x σ H8 hx ⟨⟨v6, v7, v8, v9, rfl⟩, svs', lvs', cur, o, hsd8, hld8, hod8, hcl8, keys8, dm8, dk8, dl8, ll8, lak8, c1, c2, c3, s8⟩
      rw [List.getElem?_map] at hx
      obtain ⟨n, en⟩ : ∃ n, (comingN bs k)[j]? = some n := by
        cases z : (comingN bs k)[j]? with
        | none => rw [z] at hx; cases hx
        | some n => exact ⟨n, rfl⟩
      rw [en] at hx
      obtain rfl : nV n = x := Option.some.inj hx
      have jl := (List.getElem?_eq_some_iff.mp en).1
      obtain ⟨b, eb2, hto⟩ := coming_at (List.mem_of_getElem? en)
      have hb := List.mem_of_getElem? eb2
      obtain ⟨y3, ey3, t3, g3, rfl, e3, e4⟩ := alb.get eb2
      have lsv8 : svs'.length ≤ 13 := by
        have := congrArg List.length keys8
        rw [List.length_map, List.length_append, List.length_map] at this
        simp at this
        omega
      refine ⟨_, rfl, _, rfl, ba, _, _, _, rfl, rfl, SqT.of (s8 _ _ eb), atI_nat ey3, t3, _, rfl, SqT.of (s8 _ _ e3), rfl, _, _, rfl, _, _, rfl, _, _, rfl, rfl, ?_⟩
      have step : ∀ {cur' : Int}, (b.th = [] → lng hs bs b.one + momN hs k ≤ cur') → cur ≤ cur' → ∀ m ∈ (comingN bs k).take (j + 1), ∀ b, bs[m]? = some b → b.th = [] → lng hs bs b.one + momN hs k ≤ cur' := fun h1 h2 m hm b' hb' e' => by
        rw [List.take_add_one, en] at hm
        rcases List.mem_append.mp hm with hm | hm
        · exact Int.le_trans (c3 m hm b' hb' e') h2
        · obtain rfl : m = n := by simpa using hm
          rw [eb2] at hb'
          cases hb'
          exact h1 e'
      by_cases eth : b.th = []
      · have giver : b.one ∈ ord.take i := soon_pre soon ek (hto ▸ mem_loose hb eth) (List.mem_range.mpr (he b hb).1)
        have dg := dm8 _ giver
        have nek : b.one ≠ k := fun z => knot (z ▸ giver)
        refine ⟨_, rfl, _, .inr (.inl ⟨_, SqT.of (s8 _ _ e4), rfl⟩), if_bl (fun _ => ?_) (fun z => ?_)⟩
        case refine_2 => rw [eth] at z; exact nomatch z
        refine ⟨_, rfl, _, rfl, sd, _, rfl, dget_of hsd8 dg, _, rfl, _, rfl, ha, _, _, _, rfl, rfl, SqT.of (s8 _ _ eh), atI_nat ey, t1, _, _, _, rfl, rfl, SqT.of (s8 _ _ e1), atI_nat (j := 1) rfl, _, _, rfl, rfl, _, rfl, _, rfl, sd, _, rfl, dget_of hsd8 dk8, _, _, rfl, rfl, _, rfl, if_bl (fun z => ?_) (fun z => ?_)⟩
        · have z : lng hs bs b.one + h.mom > cur := of_decide_eq_true z
          refine ⟨_, rfl, _, rfl, sd, _, rfl, dget_of hsd8 dg, _, rfl, _, rfl, ha, _, _, _, rfl, rfl, SqT.of (s8 _ _ eh), atI_nat ey, t1, _, _, _, rfl, rfl, SqT.of (s8 _ _ e1), atI_nat (j := 1) rfl, _, _, rfl, rfl, _, rfl, _, rfl, sd, _, rfl, DPut.k (k := kN k) hsd8 (small1000 (by omega)), ?_⟩
          have hld9 : upd H8 sd (.dK (putK svs' (kN k) (.int (lng hs bs b.one + h.mom)))) ld = some (.dK lvs') := by rw [upd_ne sdld.symm]; exact hld8
          refine ⟨_, rfl, _, rfl, _, rfl, ld, _, rfl, DPut.k (k := kN k) hld9 (small1000 (by omega)), ?_⟩
          have pl := putK_le lvs' (kN k) (nV n)
          have kin : kN k ∈ svs'.map (·.1) := by rw [keys8]; exact List.mem_append_right _ (List.mem_singleton.mpr rfl)
          refine ⟨⟨_, _, _, _, rfl⟩, putK svs' (kN k) (.int (lng hs bs b.one + h.mom)), putK lvs' (kN k) (nV n), lng hs bs b.one + h.mom, some n, by rw [upd_ne sdld]; exact upd_same, upd_same, by rw [upd_ne odld, upd_ne odsd]; exact hod8, by rw [upd_ne clld, upd_ne clsd]; exact hcl8, by rw [keys_old kin]; exact keys8, fun m hm => by rw [valV_put, if_neg (fun z => knot (by rw [← kN_inj z]; exact hm))]; exact dm8 m hm, by rw [valV_put, if_pos rfl], fun m => ?_, by omega, ⟨b, eb2, hto, eth, by rw [em]⟩, by omega, ?_, step (fun _ => by rw [em]; exact Int.le_refl _) (by omega), Same.own (Same.own s8 nsd) nld0⟩
          · have := dl8.put k n m
            rw [this]
            show (if m = k then some n else if m = k then o else la m).map nV = (if m = k then some n else la m).map nV
            by_cases y : m = k
            · rw [if_pos y, if_pos y]
            · rw [if_neg y, if_neg y, if_neg y]
          · have := lng_belt hrk he hb eth
            rw [hto, em] at this
            exact this
        · have z : ¬ lng hs bs b.one + h.mom > cur := of_decide_eq_false z
          exact ⟨⟨_, _, _, _, rfl⟩, svs', lvs', cur, o, hsd8, hld8, hod8, hcl8, keys8, dm8, dk8, dl8, by omega, lak8, c1, c2, step (fun _ => by rw [em]; omega) (Int.le_refl _), s8⟩
      · refine ⟨_, rfl, _, .inr (.inl ⟨_, SqT.of (s8 _ _ e4), rfl⟩), if_bl (fun z => ?_) (fun _ => ?_)⟩
        · cases th : b.th with
          | nil => exact absurd th eth
          | cons y l => rw [th] at z; exact nomatch z
        · exact ⟨⟨_, _, _, _, rfl⟩, svs', lvs', cur, o, hsd8, hld8, hod8, hcl8, keys8, dm8, dk8, dl8, by omega, lak8, c1, c2, step (fun z => absurd z eth) (Int.le_refl _), s8⟩
    · rintro σ H8 ⟨⟨v6, v7, v8, v9, rfl⟩, svs', lvs', cur, o, hsd8, hld8, hod8, hcl8, keys8, dm8, dk8, dl8, ll8, lak8, c1, c2, c3, s8⟩
      rw [List.length_map, List.take_length] at c3
      rw [List.length_map] at ll8
      have ec : cur = lng hs bs k := by
        refine Int.le_antisymm c2 ?_
        rcases lng_is hrk he hk with z | ⟨b, hb, z1, z2, z3⟩
        · rw [z]; exact c1
        · obtain ⟨m, hm⟩ := List.mem_iff_getElem?.mp hb
          rw [z3]
          exact c3 m ((mem_coming hm).mpr z1) b hm z2
      subst ec
      have tk : ord.take (i + 1) = ord.take i ++ [k] := by rw [List.take_add_one, ek]; rfl
      refine ⟨⟨_, _, _, _, _, rfl⟩, svs', lvs', fun m => if m = k then o else la m, hsd8, hld8, hod8, by rw [keys8, keys, tk, List.map_append]; rfl, fun m hm => ?_, dl8, by omega, fun m hm => ?_, fun m hm => ?_, s8⟩
      · rw [tk] at hm
        rcases List.mem_append.mp hm with hm | hm
        · exact dm8 m hm
        · rw [List.mem_singleton.mp hm]; exact dk8
      · rw [tk] at hm
        show LaK hs bs (lng hs bs m) m (if m = k then o else la m)
        rcases List.mem_append.mp hm with hm | hm
        · rw [if_neg (fun z : m = k => knot (by rw [← z]; exact hm))]
          exact lak m hm
        · rw [List.mem_singleton.mp hm, if_pos rfl]
          exact lak8
      · rw [tk] at hm
        show (if m = k then o else la m) = none
        rw [if_neg (fun z : m = k => hm (List.mem_append_right _ (List.mem_singleton.mpr z)))]
        exact lan m (fun z => hm (List.mem_append_left _ z))
  · rintro σ H5 ⟨⟨v5, v6, v7, v8, v9, rfl⟩, svs, lvs, la, hsd, hld, hod5, keys, dm, dl, ll, lak, lan, s5⟩
    rw [List.length_map, List.take_length] at keys dm lak
    refine ⟨_, rfl, _, rfl, (by show 2 ≤ sizeLine; decide), fun p np => ?_⟩
    exact q p sd ld svs lvs ord la _ upd_same ⟨same_new np _ _ hsd, same_new np _ _ hld, keys, dm, dl, lak, all, lo⟩ (s5.trans (same_new np))
/-- the way back over the belts of last -/
def sp_way_back (K : PySem.W.Frag) : Sp := fun vs H Q _ => ∃ (r ld : Addr) (hs : List HR) (bs : List BR) (e : Nat) (lvs : List (Key × V)) (la : Nat → Option Nat), vs = [.ref r, nV e, .ref ld] ∧ RoomAt H r hs bs ∧ RoomOk hs bs ∧ e < hs.length ∧ H ld = some (.dK lvs) ∧ DLa lvs la ∧ (∀ k, k < hs.length → LaK hs bs (lng hs bs k) k (la k)) ∧
  ∀ (p : Addr) (k : Nat) (ns : List Nat) (H' : Hp), WayAt H' p k ns → k < hs.length → (∀ n ∈ ns, n < bs.length) → wayEnd bs k ns = some e → (∀ n ∈ ns, trB bs n = 0) → momW hs bs k ns = lng hs bs e → ns.length ≤ hs.length → Same H H' → Q (.ref p) H'
theorem ok_way_back {f : Addr} {fd : FuncData} (F : Fun K "way_back" "way_back" s_way_back f fd) (T : Top K mg) : FnOk P w K mg base CX0 1 f fd ["room", "end", "last"] (sp_way_back K) := by
  refine F.ok sc_way_back (fun vs H Q E h => ?_) (fun cdv A outer s H vs Q E hr h => ?_)
  · obtain ⟨r, ld, hs, bs, e, lvs, la, rfl, _⟩ := h
    rfl
  obtain ⟨r, ld, hs, bs, e, lvs, la, rfl, hR, ok, hE, hld, dl, lak, q⟩ := h
  obtain ⟨ha, ba, hv, bv, er, eh, eb, alh, alb⟩ := hR.ex
  have lh := ok.hands
  obtain ⟨rk, hrk⟩ := ok.rank
  refine ⟨_, (pss_cons (ps_set (i := 3) sc_way_back.nd rfl (Or.inl rfl) (pe_lst pa_nil))
      (pss_cons (ps_set (i := 4) sc_way_back.nd rfl (Or.inl rfl) (pv 1))
      (pss_cons (ps_while PassesOwn.never (pt_cmp (pc_din (hu_of hr) (pv 4) (pv 2)) (by with_unfolding_all rfl))
        (pss_cons (ps_expr (pe_bmK K rfl PySem.F.plainAttrs_list PySem.F.slot_list_append PySem.F.type_list_append mt_append (pv 3) (pa_cons (pe_dget (hu_of hr) (pv 2) (pv 4) (fun _ _ => rfl)) pa_nil)))
      (pss_one (ps_set (i := 4) sc_way_back.nd rfl (Or.inl rfl) (pe_ix (ix_tupK K rfl) (pe_ix (ix_tupK K rfl) (pe_ix (ix_tupK K rfl) (pv 0) pe_int (fun _ _ => rfl)) (pe_dget (hu_of hr) (pv 2) (pv 4) (fun _ _ => rfl)) (fun _ _ => rfl)) pe_int (fun _ _ => rfl))))))
      (pss_one (ps_ret (pe_tup (pa_cons (pv 4) (pa_cons (pe_callTy (call_tuple_ofK K rfl) (by rfl) T.m_tuple (by decide +kernel) (pa_cons (pe_revLK K rfl (pv 3)) pa_nil)) pa_nil)))))))), ?_⟩
  refine ⟨(by show 0 ≤ sizeLine; decide), fun nl nnl => ?_⟩
  refine ⟨_, rfl, ?_⟩
  refine ⟨fun m σ H2 => ∃ (k : Nat) (ns : List Nat), σ = [some (.ref r), some (nV e), some (.ref ld), some (.ref nl), some (nV k)] ∧ H2 nl = some (.lst (ns.reverse.map nV)) ∧ k < hs.length ∧ (∀ n ∈ ns, n < bs.length) ∧ wayEnd bs k ns = some e ∧ (∀ n ∈ ns, trB bs n = 0) ∧ lng hs bs k + (ns.map fun n => momH hs (toB bs n)).sum = lng hs bs e ∧ m = dep rk hs.length k ∧ ns.length + m ≤ hs.length ∧ Same H H2,
    ⟨_, e, [], rfl, upd_same, hE, (fun _ z => nomatch z), rfl, (fun _ z => nomatch z), by show lng hs bs e + 0 = _; omega, rfl, by show 0 + _ ≤ _; have := dep_le (rk := rk) (n := hs.length) (k := e); omega, same_new nnl⟩, ?_⟩
  rintro m σ H2 ⟨k, ns, rfl, hnl, hk, hn, we, tr, mm, rfl, ln, s2⟩
  refine ⟨_, rfl, _, rfl, ld, _, rfl, dget_of (s2 _ _ hld) (dl k), _, rfl, ?_⟩
  have lk := lak k hk
  cases elk : la k with
  | none =>
    rw [elk] at lk
    refine if_bl (fun z => nomatch z) (fun _ => ?_)
    have lk : lng hs bs k = momN hs k := lk
    refine ⟨_, rfl, _, rfl, nl, _, rfl, SqL.of hnl, fun rv nrv => ⟨rv, _, rfl, .inl ⟨SqL.of upd_same, fun tp ntp => ⟨(by show 2 ≤ sizeLine; decide), fun p np => ?_⟩⟩⟩⟩
    have s5 := ((same_new (o := .lst (ns.reverse.map nV).reverse) nrv).trans (same_new (o := .tup (ns.reverse.map nV).reverse) ntp)).trans (same_new (o := .tup [nV k, .ref tp]) np)
    refine q p k ns _ ⟨tp, upd_same, ?_⟩ hk hn we tr ?_ (by omega) (s2.trans s5)
    · rw [same_new np _ _ upd_same, ← List.map_reverse, List.reverse_reverse]
    · rw [← mm, lk]
      rfl
  | some n =>
    rw [elk] at lk
    refine if_bl (fun _ => ?_) (fun z => nomatch z)
    obtain ⟨b, ebn, hto, eth, lv⟩ := lk
    have hb := List.mem_of_getElem? ebn
    have nb := (List.getElem?_eq_some_iff.mp ebn).1
    obtain ⟨y, ey, t1, g1, rfl, e1, e2⟩ := alb.get ebn
    have dv : valV lvs (kN k) = some (nV n) := by rw [dl k, elk]; rfl
    have one := (ok.ends b hb).1
    have dlt := dep_lt (n := hs.length) one (hto ▸ hrk b hb eth)
    refine ⟨fun σ' H' => ∃ m', m' < dep rk hs.length k ∧ ∃ (k' : Nat) (ns' : List Nat), σ' = [some (.ref r), some (nV e), some (.ref ld), some (.ref nl), some (nV k')] ∧ H' nl = some (.lst (ns'.reverse.map nV)) ∧ k' < hs.length ∧ (∀ n ∈ ns', n < bs.length) ∧ wayEnd bs k' ns' = some e ∧ (∀ n ∈ ns', trB bs n = 0) ∧ lng hs bs k' + (ns'.map fun n => momH hs (toB bs n)).sum = lng hs bs e ∧ m' = dep rk hs.length k' ∧ ns'.length + m' ≤ hs.length ∧ Same H H', fun σ' H' h => h, ?_⟩
    have lnr : (ns.reverse.map nV).length ≤ 12 := by rw [List.length_map, List.length_reverse]; omega
    refine ⟨_, rfl, .inl ⟨rfl, _, SqL.of hnl⟩, _, rfl, _, rfl, ld, _, rfl, dget_of (s2 _ _ hld) dv, nl, _, _, rfl, rfl, hnl, small1000 (by omega), ?_⟩
    have s3 : Same H (upd H2 nl (.lst (ns.reverse.map nV ++ [nV n]))) := Same.own s2 nnl
    refine ⟨_, rfl, r, _, _, _, rfl, rfl, SqT.of (s3 _ _ er), atI_nat (j := 1) rfl, _, rfl, _, rfl, ld, _, rfl, dget_of (s3 _ _ hld) dv, ba, _, _, _, rfl, rfl, SqT.of (s3 _ _ eb), atI_nat ey, t1, _, _, _, rfl, rfl, SqT.of (s3 _ _ e1), atI_nat (j := 0) rfl, ?_⟩
    have et : toB bs n = k := by unfold toB; rw [ebn]; exact hto
    refine ⟨_, dlt, b.one, n :: ns, rfl, ?_, one, ?_, ?_, ?_, ?_, rfl, by rw [List.length_cons]; omega, s3⟩
    · rw [upd_same, List.reverse_cons, List.map_append]; rfl
    · intro x hx
      rcases List.mem_cons.mp hx with rfl | hx
      · exact nb
      · exact hn x hx
    · rw [wayEnd_cons ebn, if_pos rfl, hto]; exact we
    · intro x hx
      rcases List.mem_cons.mp hx with rfl | hx
      · have : trB bs x = (b.th.length : Int) := by unfold trB; rw [ebn]
        rw [this, eth]; rfl
      · exact tr x hx
    · rw [List.map_cons, List.sum_cons, et]
      have : momH hs k = momN hs k := rfl
      omega
def NoWay (hs : List HR) (bs : List BR) (H : Hp) (v : V) : Prop := (hs = [] ∧ v = .non) ∨ ∃ (p : Addr) (k e : Nat) (ns : List Nat), v = .ref p ∧ WayAt H p k ns ∧ k < hs.length ∧ e < hs.length ∧ (∀ n ∈ ns, n < bs.length) ∧ wayEnd bs k ns = some e ∧ (∀ n ∈ ns, trB bs n = 0) ∧ momW hs bs k ns = lng hs bs e ∧ ns.length ≤ hs.length ∧ ∀ j, j < hs.length → lng hs bs j ≤ lng hs bs e
def sp_long_way (K : PySem.W.Frag) (PT : Addr) : Sp := fun vs H Q _ => ∃ (r : Addr) (hs : List HR) (bs : List BR), vs = [.ref r] ∧ RoomAt H r hs bs ∧ RoomOk hs bs ∧ LamX.Tabs (TL PT) H ∧
  ∀ (v : V) (H' : Hp), NoWay hs bs H' v → LamX.ExtN H H' → LamX.Tabs (TL PT) H' → Q v H'
variable {cT PT : Addr} [TLI : TabL K mg base cT PT]
include TLI
theorem ok_long_way {f : Addr} {fd : FuncData} (F : Fun K "long_way" "long_way" s_long_way f fd) (hcd : fd.code = .ref cT) (T : Top K mg) : FnOk P w K mg base CX0 3 f fd ["room"] (sp_long_way K PT) := by
  obtain ⟨f_long_sums, fd_long_sums, F_long_sums, b_long_sums, m_long_sums⟩ := T.d_long_sums
  have G_long_sums := ok_long_sums (P := P) (w := w) (base := base) F_long_sums T
  obtain ⟨f_way_back, fd_way_back, F_way_back, b_way_back, m_way_back⟩ := T.d_way_back
  have G_way_back := ok_way_back (P := P) (w := w) (base := base) F_way_back T
  refine ok_code F hcd sc_long_way (fun vs H Q E h => ?_) (fun A outer s H vs Q E hr h => ?_)
  · obtain ⟨r, hs, bs, rfl, _⟩ := h
    rfl
  obtain ⟨r, hs, bs, rfl, hR, ok, tabs, q⟩ := h
  obtain ⟨ha, ba, hv, bv, er, eh, eb, alh, alb⟩ := hR.ex
  have lhv := alh.length
  have lh := ok.hands
  refine ⟨_, (pss_cons (ps_if (pt_not (pt_truthK K rfl (pe_ix (ix_tupK K rfl) (pv 0) pe_int (fun _ _ => rfl)) (by intro _; rfl))) (pss_one (ps_ret pe_non)) pss_nil)
      (pss_cons (ps_asg (pe_call G_long_sums (hr.mono (by decide)) (by rfl) m_long_sums F_long_sums.kp b_long_sums .nil pass0 (pa_cons (pv 0) pa_nil)) (pg_tupK K rfl rfl (pgs_cons (pg_name (i := 1) sc_long_way.nd rfl (Or.inr rfl)) (pgs_cons (pg_name (i := 2) sc_long_way.nd rfl (Or.inl rfl)) pgs_nil))))
      (pss_cons (ps_set (i := 3) sc_long_way.nd rfl (Or.inl rfl) (pe_maxLam (T := TL PT) K rfl rfl hr (by decide) (by rfl) T.m_max TLI.tb rfl (List.mem_singleton.mpr rfl) (fun q hq _ => by rw [List.mem_singleton.mp hq]; rfl) rfl (free_one rfl rfl) ⟨fun _ _ _ _ _ _ => rfl, rfl, rfl, rfl, rfl, by decide⟩ (body_dict (i := 1) ⟨rfl, .inr (.inl rfl), (fun z => nomatch (show (some NameKind.cell : Option NameKind) = some NameKind.local from z)), rfl, rfl, rfl, fun _ => rfl, by decide, by decide, by decide⟩ (fun _ _ => rfl)) (pe_callTy (call_list_dK rfl) (by rfl) T.m_list (by decide +kernel) (pa_cons (pv 1) pa_nil))))
      (pss_one (ps_ret (pe_call G_way_back (hr.mono (by decide)) (by rfl) m_way_back F_way_back.kp b_way_back .nil pass0 (pa_cons (pv 0) (pa_cons (pv 3) (pa_cons (pv 2) pa_nil))))))))), ?_⟩
  refine ⟨_, rfl, r, _, _, _, rfl, rfl, SqT.of er, atI_nat (j := 0) rfl, _, .inr (.inl ⟨_, SqT.of eh, rfl⟩), if_bl (fun z => ?_) (fun z => ?_)⟩
  · have e0 : hs = [] := by
      cases hv with
      | nil => exact List.eq_nil_of_length_eq_zero lhv.symm
      | cons x l => exact nomatch z
    exact q _ _ (.inl ⟨e0, rfl⟩) (LamX.ExtN.refl H) tabs
  have h0 : 0 < hs.length := by
    cases hv with
    | nil => exact nomatch z
    | cons x l => rw [← lhv]; exact Nat.succ_pos _
  refine ⟨_, rfl, r, hs, bs, rfl, hR, ok, fun p sd ld svs lvs ord la H1 hp D s1 => ?_⟩
  refine ⟨p, _, rfl, SqT.of hp, rfl, _, _, rfl, _, _, rfl, rfl, ?_⟩
  refine ⟨_, rfl, sd, svs, rfl, D.hs_, fun ql nql => ?_⟩
  have s2 := same_new (H := H1) (o := .lst (svs.map fun kv => kV kv.1)) nql
  have eks : (svs.map fun kv => kV kv.1) = (ord.map fun n => ((n : Nat) : Int)).map V.int := by
    have := congrArg (List.map kV) D.keys
    rw [List.map_map, List.map_map] at this
    rw [List.map_map]
    exact this
  have hql : upd H1 ql (.lst (svs.map fun kv => kV kv.1)) ql = some (.lst ((ord.map fun n => ((n : Nat) : Int)).map V.int)) := by rw [upd_same, eks]
  refine ⟨ql, ord.map fun n => ((n : Nat) : Int), fun z => lng hs bs z.toNat, rfl, SqL.of hql, by rw [List.length_map, D.len]; exact h0, tabs_same tabs (s1.trans s2), fun H3 ext tabs3 => ⟨SqL.of (ExtN.lst ext hql), fun n hn => ?_, fun m hm hg => ?_⟩⟩
  · obtain ⟨j, hj, rfl⟩ := List.mem_map.mp hn
    refine ⟨sd, svs, rfl, ExtN.dic ext (s2 _ _ D.hs_), ?_⟩
    show valV svs (kN j) = some (.int (lng hs bs ((j : Nat) : Int).toNat))
    rw [Int.toNat_natCast]
    exact D.dm j hj
  · obtain ⟨e, he, rfl⟩ := List.mem_map.mp hm
    have el := (D.all e).mp he
    have ex2 : LamX.ExtN H H3 := (ExtN.same (s1.trans s2)).trans ext
    refine ⟨_, rfl, _, rfl, _, rfl, r, ld, hs, bs, e, lvs, la, rfl, hR.keep (ExtN.tk ex2), ok, el, ExtN.dic ext (s2 _ _ D.hl), D.dl, fun k hk => D.la k ((D.all k).mpr hk), fun p4 k ns H4 hp4 hk hn we tr mm ln s4 => ?_⟩
    refine q _ _ (.inr ⟨p4, k, e, ns, rfl, hp4, hk, el, hn, we, tr, mm, ln, fun j hj => ?_⟩) (ex2.trans (ExtN.same s4)) (tabs_same tabs3 s4)
    have := hg ((j : Nat) : Int) (List.mem_map.mpr ⟨j, (D.all j).mpr hj, rfl⟩)
    simpa using this
/-- the time of a room -/
def timeR (hs : List HR) (bs : List BR) (v : Int) : Prop := (hs = [] ∧ v = 0) ∨ ∃ e, e < hs.length ∧ v = lng hs bs e ∧ ∀ j, j < hs.length → lng hs bs j ≤ lng hs bs e
theorem timeR.one {hs : List HR} {bs : List BR} {u v : Int} (a : timeR hs bs u) (b : timeR hs bs v) : u = v := by
  rcases a with ⟨a, rfl⟩ | ⟨e, he, rfl, ge⟩
  · rcases b with ⟨_, rfl⟩ | ⟨e, he, _⟩
    · rfl
    · rw [a] at he; exact absurd he (Nat.not_lt_zero _)
  · rcases b with ⟨b, _⟩ | ⟨e2, he2, rfl, ge2⟩
    · rw [b] at he; exact absurd he (Nat.not_lt_zero _)
    · exact Int.le_antisymm (ge2 e he) (ge e2 he2)
def sp_time_of (K : PySem.W.Frag) (PT : Addr) : Sp := fun vs H Q _ => ∃ (r : Addr) (hs : List HR) (bs : List BR), vs = [.ref r] ∧ RoomAt H r hs bs ∧ RoomOk hs bs ∧ LamX.Tabs (TL PT) H ∧
  ∀ (v : Int) (H' : Hp), timeR hs bs v → LamX.ExtN H H' → LamX.Tabs (TL PT) H' → Q (.int v) H'
theorem ok_time_of {f : Addr} {fd : FuncData} (F : Fun K "time_of" "time_of" s_time_of f fd) (T : Top K mg) : FnOk P w K mg base CX0 4 f fd ["room"] (sp_time_of K PT) := by
  obtain ⟨f_long_way, fd_long_way, F_long_way, b_long_way, m_long_way⟩ := T.d_long_way
  have G_long_way := ok_long_way (P := P) (w := w) (base := base) F_long_way (TLI.cd _ _ F_long_way m_long_way) T
  obtain ⟨f_moments_on, fd_moments_on, F_moments_on, b_moments_on, m_moments_on⟩ := T.d_moments_on
  have G_moments_on := ok_moments_on (P := P) (w := w) (base := base) F_moments_on T
  refine F.ok sc_time_of (fun vs H Q E h => ?_) (fun cdv A outer s H vs Q E hr h => ?_)
  · obtain ⟨r, hs, bs, rfl, _⟩ := h
    rfl
  obtain ⟨r, hs, bs, rfl, hR, ok, tabs, q⟩ := h
  refine ⟨_, (pss_cons (ps_set (i := 1) sc_time_of.nd rfl (Or.inl rfl) (pe_call G_long_way (hr.mono (by decide)) (by rfl) m_long_way F_long_way.kp b_long_way .nil pass0 (pa_cons (pv 0) pa_nil)))
      (pss_one (ps_ret (pe_ifExp (pt_cmpR op_isN (pv 1) pe_non (nomark _)) pe_int (pe_call G_moments_on (hr.mono (by decide)) (by rfl) m_moments_on F_moments_on.kp b_moments_on .nil pass0 (pa_cons (pv 0) (pa_cons (pv 1) pa_nil))))))), ?_⟩
  refine ⟨_, rfl, r, hs, bs, rfl, hR, ok, tabs, fun v H1 nw ext tabs1 => ?_⟩
  rcases nw with ⟨e0, rfl⟩ | ⟨p, k, e, ns, rfl, hp, hk, he, hn, we, tr, mm, ln, ge⟩
  · refine ⟨_, rfl, rfl, _, rfl, if_bl (fun _ => ?_) (fun z => absurd rfl (of_decide_eq_false z))⟩
    exact q _ _ (.inl ⟨e0, rfl⟩) ext tabs1
  · refine ⟨_, rfl, rfl, _, rfl, if_bl (fun z => absurd (of_decide_eq_true z) (fun y => nomatch y)) (fun _ => ?_)⟩
    have lh := ok.hands
    refine ⟨_, rfl, _, rfl, r, p, hs, bs, k, ns, rfl, hR.keep (ExtN.tk ext), fun b hb => (ok.ends b hb).2, hp, hk, hn, by omega, fun H2 s2 => ?_⟩
    exact q _ _ (.inr ⟨e, he, mm, ge⟩) (ext.trans (ExtN.same s2)) (tabs_same tabs1 s2)
end
/-! ### data of known size -/
structure Neat (d : PyData) (dp wt : Nat) : Prop where
  lay : d.canLay0 = true
  dep : d.depth ≤ dp
  wei : d.weight ≤ wt
  sho : d.intsShort 13 = true
  say : d.showable = true
  nod : d.hasDict = false
structure NeatAll (ds : List PyData) (dp wt : Nat) : Prop where
  lay : PyData.canLayAll0 ds = true
  dep : PyData.depthAll ds ≤ dp
  wei : PyData.weightAll ds ≤ wt
  sho : PyData.intsShortAll 13 ds = true
  say : PyData.showableAll ds = true
  nod : PyData.hasDictAll ds = false
theorem Neat.non {dp : Nat} : Neat .none dp 0 := ⟨rfl, Nat.zero_le _, Nat.le_refl _, by simp [PyData.intsShort], by simp [PyData.showable], by simp [PyData.hasDict]⟩
theorem Neat.bool {b : Bool} {dp : Nat} : Neat (.bool b) dp 0 := ⟨rfl, Nat.zero_le _, Nat.le_refl _, by simp [PyData.intsShort], by simp [PyData.showable], by simp [PyData.hasDict]⟩
theorem Neat.int {i : Int} {dp : Nat} (h : i.natAbs < 10 ^ 12) : Neat (.int i) dp 41 := by
  have l : i.natAbs.log2 < 40 := by
    by_cases z : i.natAbs = 0
    · rw [z]; decide
    · exact (Nat.log2_lt z).mpr (Nat.lt_trans h (by decide))
  refine ⟨rfl, Nat.zero_le _, ?_, ?_, ?_, by simp [PyData.hasDict]⟩
  · simp only [PyData.weight]
    split <;> omega
  · simp only [PyData.intsShort, decide_eq_true_eq]
    exact PyData.shown_int_le h
  · simp only [PyData.showable, decide_eq_true_eq]
    omega
theorem Neat.str {x : Str} {n dp : Nat} (h : PyData.canLay0 (.str x) = true) (hn : x.cps.size ≤ n) : Neat (.str x) dp n := ⟨h, Nat.zero_le _, hn, by simp [PyData.intsShort], by simp [PyData.showable], by simp [PyData.hasDict]⟩
theorem NeatAll.nil {dp : Nat} : NeatAll [] dp 0 := ⟨rfl, Nat.zero_le _, Nat.le_refl _, by simp [PyData.intsShortAll], by simp [PyData.showableAll], by simp [PyData.hasDictAll]⟩
theorem NeatAll.cons {d : PyData} {ds : List PyData} {dp a b : Nat} (h : Neat d dp a) (t : NeatAll ds dp b) : NeatAll (d :: ds) dp (a + 1 + b) := by
  refine ⟨?_, ?_, ?_, ?_, ?_, ?_⟩
  · simp only [PyData.canLayAll0, h.lay, t.lay, Bool.and_self]
  · simp only [PyData.depthAll]
    exact Nat.max_le.mpr ⟨h.dep, t.dep⟩
  · simp only [PyData.weightAll]
    have := h.wei
    have := t.wei
    omega
  · simp only [PyData.intsShortAll, h.sho, t.sho, Bool.and_self]
  · simp only [PyData.showableAll, h.say, t.say, Bool.and_self]
  · simp only [PyData.hasDictAll, h.nod, t.nod, Bool.or_self]
theorem Neat.mono {d : PyData} {a b c e : Nat} (h : Neat d a b) (x : a ≤ c) (y : b ≤ e) : Neat d c e := ⟨h.lay, Nat.le_trans h.dep x, Nat.le_trans h.wei y, h.sho, h.say, h.nod⟩
theorem NeatAll.mono {d : List PyData} {a b c e : Nat} (h : NeatAll d a b) (x : a ≤ c) (y : b ≤ e) : NeatAll d c e := ⟨h.lay, Nat.le_trans h.dep x, Nat.le_trans h.wei y, h.sho, h.say, h.nod⟩
theorem Neat.tup {ds : List PyData} {dp n : Nat} (h : NeatAll ds dp n) : Neat (.tuple ds) (dp + 1) n := by
  refine ⟨?_, ?_, ?_, ?_, ?_, ?_⟩
  · simp only [PyData.canLay0, h.lay]
  · simp only [PyData.depth]
    have := h.dep
    omega
  · simp only [PyData.weight]
    exact h.wei
  · simp only [PyData.intsShort, h.sho]
  · simp only [PyData.showable, h.say]
  · simp only [PyData.hasDict, h.nod]
theorem Neat.lst {ds : List PyData} {dp n : Nat} (h : NeatAll ds dp n) : Neat (.list ds) (dp + 1) n := by
  refine ⟨?_, ?_, ?_, ?_, ?_, ?_⟩
  · simp only [PyData.canLay0, h.lay]
  · simp only [PyData.depth]
    have := h.dep
    omega
  · simp only [PyData.weight]
    exact h.wei
  · simp only [PyData.intsShort, h.sho]
  · simp only [PyData.showable, h.say]
  · simp only [PyData.hasDict, h.nod]
theorem NeatAll.map {α : Type} {f : α → PyData} {dp n : Nat} : ∀ {l : List α}, (∀ x ∈ l, Neat (f x) dp n) → NeatAll (l.map f) dp (l.length * (n + 1))
  | [], _ => by rw [List.length_nil, Nat.zero_mul]; exact .nil
  | x :: l, h => by
    have t : NeatAll (l.map f) dp (l.length * (n + 1)) := NeatAll.map fun y hy => h y (List.mem_cons_of_mem _ hy)
    have := NeatAll.cons (h x (List.mem_cons_self ..)) t
    refine NeatAll.mono this (Nat.le_refl _) ?_
    rw [List.length_cons, Nat.add_mul]
    omega
theorem Neat.shaped {d : PyData} {dp n : Nat} (h : Neat d dp n) (k : dp ≤ 60) : SeqAt.shaped d = true := by
  unfold SeqAt.shaped
  rw [h.lay, Bool.true_and]
  exact decide_eq_true (by have := h.dep; omega)
theorem Neat.fits {d : PyData} {dp n : Nat} (h : Neat d dp n) (k : dp ≤ 60) (m : n ≤ 1000000) : d.shown.length ≤ sizeLine := by
  refine PyData.shown_fits_of_layable0 (B := 13) (by decide) (by decide) ?_ h.sho
  have a : d.canLay0 = true := h.lay
  have b : decide (d.depth ≤ 64) = true := decide_eq_true (by have := h.dep; omega)
  have c : decide (d.weight ≤ 2 ^ 20) = true := decide_eq_true (by have := h.wei; omega)
  unfold PyData.layable0
  rw [a, b, c]
  rfl
theorem dp_ints {K : PySem.W.Frag} {H : Hp} : ∀ ns : List Int, DpAll K H (ns.map V.int) (ns.map PyData.int)
  | [] => .nil
  | n :: ns => .cons (.int n) (dp_ints ns)
theorem dp_nats {K : PySem.W.Frag} {H : Hp} : ∀ ns : List Nat, DpAll K H (ns.map nV) (ns.map fun n => PyData.int ((n : Nat) : Int))
  | [] => .nil
  | n :: ns => .cons (.int _) (dp_nats ns)
theorem eqv_nil {ds : List PyData} : PyData.eqvAll ds [] = ds.isEmpty := by cases ds <;> rfl
/-! ### a room as data -/
abbrev handD (h : HR) : PyData := .tuple [.tuple (ruleD h), .int h.mom]
abbrev beltD (b : BR) : PyData := .tuple [.int ((b.one : Nat) : Int), .int ((b.to : Nat) : Int), .tuple (b.th.map PyData.int)]
abbrev roomD (hs : List HR) (bs : List BR) : PyData := .tuple [.tuple (hs.map handD), .tuple (bs.map beltD)]
theorem hands_dp {K : PySem.W.Frag} {H : Hp} {vs : List V} {hs : List HR} (a : All2 (HandAt H) vs hs) : DpAll K H vs (hs.map handD) := by
  induction a with
  | nil => exact .nil
  | cons h t ih =>
    obtain ⟨t, r, rfl, e1, e2⟩ := h
    exact .cons (.tup (SqT.of e1) (.cons (rule_dp e2) (.cons (.int _) .nil))) ih
theorem belts_dp {K : PySem.W.Frag} {H : Hp} {vs : List V} {bs : List BR} (a : All2 (BeltAt H) vs bs) : DpAll K H vs (bs.map beltD) := by
  induction a with
  | nil => exact .nil
  | cons h t ih =>
    obtain ⟨t, r, rfl, e1, e2⟩ := h
    exact .cons (.tup (SqT.of e1) (.cons (.int _) (.cons (.int _) (.cons (.tup (SqT.of e2) (dp_ints _)) .nil)))) ih
theorem RoomAt.dp {K : PySem.W.Frag} {H : Hp} {r : Addr} {hs : List HR} {bs : List BR} (a : RoomAt H r hs bs) : Dp K H (.ref r) (roomD hs bs) := by
  obtain ⟨ha, ba, hv, bv, e1, e2, e3, a1, a2⟩ := a.ex
  exact .tup (SqT.of e1) (.cons (.tup (SqT.of e2) (hands_dp a1)) (.cons (.tup (SqT.of e3) (belts_dp a2)) .nil))
theorem GoodHand.size {h : HR} (g : GoodHand h) : h.wd.cps.size ≤ 10 := by
  have : h.wd ∈ nine ∨ h.wd = "in" ∨ h.wd = "out" := g.1.elim (fun k => .inl k.wd) (fun k => .inr k.1)
  rcases this with k | k | k
  · unfold nine at k
    simp only [List.mem_cons, List.not_mem_nil, or_false] at k
    rcases k with k | k | k | k | k | k | k | k | k <;> rw [k] <;> decide +kernel
  · rw [k]; decide +kernel
  · rw [k]; decide +kernel
theorem GoodHand.neat {h : HR} (g : GoodHand h) : Neat (handD h) 2 200 := by
  obtain ⟨wd, no, mom⟩ := h
  have r : NeatAll (ruleD ⟨wd, no, mom⟩) 0 60 := by
    cases no with
    | none => exact (NeatAll.cons (Neat.str g.lay g.size) .nil).mono (Nat.le_refl _) (by decide)
    | some n =>
      have : -1000000 ≤ n ∧ n ≤ 1000000 := by
        rcases g.1 with k | k
        · exact k.big n rfl
        · exact nomatch k.2
      exact (NeatAll.cons (Neat.str g.lay g.size) (.cons (Neat.int (by omega)) .nil)).mono (Nat.le_refl _) (by decide)
  have m : Neat (.int mom) 1 41 := Neat.int (by have := g.2.1; have := g.2.2; simp only at *; omega)
  exact (Neat.tup (.cons (Neat.tup r) (.cons m .nil))).mono (Nat.le_refl _) (by decide)
abbrev rowD (m : List Int) : PyData := .tuple (m.map PyData.int)
theorem rows_dp {K : PySem.W.Frag} {H : Hp} {vs : List V} {ms : List (List Int)} (a : All2 (RowAt H) vs ms) : DpAll K H vs (ms.map rowD) := by
  induction a with
  | nil => exact .nil
  | cons h t ih =>
    obtain ⟨t, rfl, e1⟩ := h
    exact .cons (.tup (SqT.of e1) (dp_ints _)) ih
theorem lay_ints : ∀ m : List Int, PyData.canLayAll0 (m.map PyData.int) = true
  | [] => rfl
  | x :: m => by
    rw [List.map_cons]
    simp only [PyData.canLayAll0, PyData.canLay0, lay_ints m, Bool.and_self]
theorem lay_rows : ∀ m : List (List Int), PyData.canLayAll0 (m.map rowD) = true
  | [] => rfl
  | x :: m => by
    rw [List.map_cons]
    simp only [PyData.canLayAll0, PyData.canLay0, lay_rows m, lay_ints, Bool.and_self]
theorem dep_ints : ∀ m : List Int, PyData.depthAll (m.map PyData.int) ≤ 0
  | [] => Nat.le_refl _
  | x :: m => by
    rw [List.map_cons]
    simp only [PyData.depthAll, PyData.depth]
    have := dep_ints m
    omega
theorem dep_rows : ∀ m : List (List Int), PyData.depthAll (m.map rowD) ≤ 1
  | [] => Nat.zero_le _
  | x :: m => by
    rw [List.map_cons]
    simp only [PyData.depthAll, PyData.depth]
    have := dep_ints x
    have := dep_rows m
    omega
theorem rows_lay (m : List (List Int)) : PyData.canLay0 (.list (m.map rowD)) = true := by
  simp only [PyData.canLay0, lay_rows]
theorem rows_shaped (m : List (List Int)) : SeqAt.shaped (.list (m.map rowD)) = true := by
  unfold SeqAt.shaped
  rw [rows_lay, Bool.true_and]
  refine decide_eq_true ?_
  simp only [PyData.depth]
  have := dep_rows m
  omega
theorem belt_lay (b : BR) : PyData.canLay0 (beltD b) = true := by
  simp only [PyData.canLay0, PyData.canLayAll0, lay_ints, Bool.and_self]
theorem belt_shaped (b : BR) : SeqAt.shaped (beltD b) = true := by
  unfold SeqAt.shaped
  rw [belt_lay, Bool.true_and]
  refine decide_eq_true ?_
  simp only [PyData.depth, PyData.depthAll]
  have := dep_ints b.th
  omega
theorem hands_neat {hs : List HR} (g : ∀ h ∈ hs, GoodHand h) : Neat (.tuple (hs.map handD)) 3 (hs.length * 201) := Neat.tup (NeatAll.map fun h hh => (g h hh).neat)
theorem one_eqv (h : HR) (z : Str) : PyData.eqv (.tuple [.str z]) (.tuple (ruleD h)) = (decide (h.wd = z) && h.no.isNone) := by
  obtain ⟨wd, no, mom⟩ := h
  have e : (z == wd) = decide (wd = z) := by
    by_cases k : wd = z
    · rw [k, decide_eq_true rfl]; exact beq_self_eq_true z
    · rw [decide_eq_false k]; exact beq_eq_false_iff_ne.mpr fun y => k y.symm
  cases no with
  | none => show (z == wd && true) = (decide (wd = z) && true); rw [e]
  | some n => show (z == wd && false) = (decide (wd = z) && false); rw [Bool.and_false, Bool.and_false]
/-! ### numbers as they come up -/
theorem snoc_ind {α : Type} {Pr : List α → Prop} (h0 : Pr []) (h1 : ∀ l x, Pr l → Pr (l ++ [x])) : ∀ l, Pr l := by
  have : ∀ r : List α, Pr r.reverse := by
    intro r
    induction r with
    | nil => exact h0
    | cons x r ih => rw [List.reverse_cons]; exact h1 _ _ ih
  intro l
  have := this l.reverse
  rwa [List.reverse_reverse] at this
section
variable {α β : Type} [DecidableEq α] [DecidableEq β]
def uqF (acc : List α) (x : α) : List α := if x ∈ acc then acc else acc ++ [x]
/-- the different ones, as they come up -/
def uniq (l : List α) : List α := l.foldl uqF []
theorem uniq_snoc (l : List α) (x : α) : uniq (l ++ [x]) = if x ∈ uniq l then uniq l else uniq l ++ [x] := by
  unfold uniq
  rw [List.foldl_append]
  rfl
theorem mem_uniq : ∀ (l : List α) (x : α), x ∈ uniq l ↔ x ∈ l := by
  intro l
  induction l using snoc_ind with
  | h0 => intro x; exact Iff.rfl
  | h1 l y ih =>
    intro x
    rw [uniq_snoc]
    by_cases h : y ∈ uniq l
    · rw [if_pos h, ih x, List.mem_append, List.mem_singleton]
      constructor
      · exact .inl
      · rintro (z | rfl)
        · exact z
        · exact (ih _).mp h
    · rw [if_neg h, List.mem_append, List.mem_append, ih x]
theorem uniq_nodup : ∀ l : List α, (uniq l).Nodup := by
  intro l
  induction l using snoc_ind with
  | h0 => exact List.nodup_nil
  | h1 l y ih =>
    rw [uniq_snoc]
    by_cases h : y ∈ uniq l
    · rw [if_pos h]; exact ih
    · rw [if_neg h, List.nodup_append]
      refine ⟨ih, by simp, fun a ha b hb => ?_⟩
      rw [List.mem_singleton.mp hb]
      exact fun e => h (e ▸ ha)
theorem uniq_map {f : α → β} : ∀ l : List α, (∀ x ∈ l, ∀ y ∈ l, f x = f y → x = y) → uniq (l.map f) = (uniq l).map f := by
  intro l
  induction l using snoc_ind with
  | h0 => intro _; rfl
  | h1 l y ih =>
    intro inj
    have ih := ih fun a ha b hb => inj a (List.mem_append.mpr (.inl ha)) b (List.mem_append.mpr (.inl hb))
    rw [List.map_append, List.map_cons, List.map_nil, uniq_snoc, uniq_snoc, ih]
    by_cases h : y ∈ uniq l
    · rw [if_pos h, if_pos (List.mem_map.mpr ⟨y, h, rfl⟩)]
    · rw [if_neg h, if_neg, List.map_append]
      · rfl
      · intro z
        obtain ⟨x, hx, e⟩ := List.mem_map.mp z
        have xl := (mem_uniq l x).mp hx
        have := inj x (List.mem_append.mpr (.inl xl)) y (List.mem_append.mpr (.inr (List.mem_singleton.mpr rfl))) e
        exact h (this ▸ hx)
theorem uniq_pre (l : List α) : ∀ m : List α, ∃ t, uniq (l ++ m) = uniq l ++ t := by
  intro m
  induction m using snoc_ind with
  | h0 => exact ⟨[], by rw [List.append_nil, List.append_nil]⟩
  | h1 m y ih =>
    obtain ⟨t, e⟩ := ih
    rw [← List.append_assoc, uniq_snoc]
    by_cases h : y ∈ uniq (l ++ m)
    · rw [if_pos h]; exact ⟨t, e⟩
    · rw [if_neg h, e]; exact ⟨t ++ [y], by rw [List.append_assoc]⟩
theorem uniq_len (l : List α) : (uniq l).length ≤ l.length := by
  induction l using snoc_ind with
  | h0 => exact Nat.le_refl _
  | h1 l y ih =>
    rw [uniq_snoc]
    split
    · rw [List.length_append]; omega
    · rw [List.length_append, List.length_append]; show _ + 1 ≤ _ + 1; omega
/-- each is one of those ahead, or the number of different ones ahead -/
def Canon (l : List Nat) : Prop := ∀ i x, l[i]? = some x → x ∈ l.take i ∨ x = (uniq (l.take i)).length
/-- numbers for the marks ks -/
structure NumOf (ks : List α) (l : List Nat) : Prop where
  len : l.length = ks.length
  canon : Canon l
  same : ∀ i j, i < ks.length → j < ks.length → (l[i]? = l[j]? ↔ ks[i]? = ks[j]?)
theorem idx_inj2 {l : List α} {a b : α} (ha : a ∈ l) (hb : b ∈ l) (h : l.idxOf a = l.idxOf b) : a = b := by
  have e1 := List.getElem_idxOf (List.idxOf_lt_length_of_mem ha)
  have e2 := List.getElem_idxOf (List.idxOf_lt_length_of_mem hb)
  rw [← e1, ← e2]
  congr 1
theorem idx_app {l : List α} {x : α} (m : List α) (h : x ∉ l) : (l ++ m).idxOf x = l.length + m.idxOf x := by
  induction l with
  | nil => rw [List.nil_append]; exact (Nat.zero_add _).symm
  | cons y l ih =>
    have h1 : y ≠ x := fun e => h (e ▸ List.mem_cons_self ..)
    have h2 : x ∉ l := fun e => h (List.mem_cons_of_mem _ e)
    rw [List.cons_append, List.idxOf_cons, List.length_cons, ih h2]
    rw [show (y == x) = false from beq_eq_false_iff_ne.mpr h1]
    show _ + 1 = _
    omega
theorem num_of (ks : List α) : NumOf ks (ks.map fun k => (uniq ks).idxOf k) := by
  have inj : ∀ x ∈ ks, ∀ y ∈ ks, (uniq ks).idxOf x = (uniq ks).idxOf y → x = y := fun x hx y hy e => idx_inj2 ((mem_uniq ks x).mpr hx) ((mem_uniq ks y).mpr hy) e
  refine ⟨List.length_map .., fun i x hx => ?_, fun i j hi hj => ?_⟩
  · rw [List.getElem?_map] at hx
    cases hk : ks[i]? with
    | none => rw [hk] at hx; cases hx
    | some k =>
      rw [hk] at hx
      obtain rfl : (uniq ks).idxOf k = x := Option.some.inj hx
      rw [← List.map_take]
      by_cases m : k ∈ ks.take i
      · exact .inl (List.mem_map.mpr ⟨k, m, rfl⟩)
      · right
        have il := (List.getElem?_eq_some_iff.mp hk).1
        rw [uniq_map _ fun a ha b hb => inj a (List.mem_of_mem_take ha) b (List.mem_of_mem_take hb), List.length_map]
        have e1 : ks.take (i + 1) = ks.take i ++ [k] := by rw [List.take_add_one, hk]; rfl
        obtain ⟨t, e2⟩ := uniq_pre (ks.take (i + 1)) (ks.drop (i + 1))
        rw [List.take_append_drop, e1, uniq_snoc, if_neg (fun z => m ((mem_uniq _ _).mp z))] at e2
        rw [e2, List.append_assoc, idx_app _ (fun z => m ((mem_uniq _ _).mp z)), List.singleton_append, List.idxOf_cons_self, Nat.add_zero]
  · rw [List.getElem?_map, List.getElem?_map, List.getElem?_eq_getElem hi, List.getElem?_eq_getElem hj]
    constructor
    · intro e
      exact congrArg some (inj _ (List.getElem_mem hi) _ (List.getElem_mem hj) (Option.some.inj e))
    · intro e
      rw [Option.some.inj e]
/-- lists of such numbers that part alike are the same -/
theorem canon_eq {l m : List Nat} (len : l.length = m.length) (cl : Canon l) (cm : Canon m) (same : ∀ i j, i < l.length → j < l.length → (l[i]? = l[j]? ↔ m[i]? = m[j]?)) : l = m := by
  have : ∀ i, i ≤ l.length → l.take i = m.take i := by
    intro i
    induction i with
    | zero => intro _; rw [List.take_zero, List.take_zero]
    | succ i ih =>
      intro hi
      have ih := ih (by omega)
      have hl : l[i]? = some l[i] := List.getElem?_eq_getElem (by omega)
      have hm : m[i]? = some (m[i]'(by omega)) := List.getElem?_eq_getElem (by omega)
      have mem : ∀ {t : List Nat} {x : Nat}, x ∈ t.take i → i ≤ t.length → ∃ j, j < i ∧ t[j]? = some x := fun {t x} h ht => by
        obtain ⟨j, hj, e⟩ := List.getElem_of_mem h
        rw [List.length_take] at hj
        rw [List.getElem_take] at e
        exact ⟨j, by omega, by rw [← e]; exact List.getElem?_eq_getElem (by omega)⟩
      have atp : ∀ {j}, j < i → l[j]? = m[j]? := fun {j} hj => by
        have e := congrArg (fun t : List Nat => t[j]?) ih
        simp only [List.getElem?_take, if_pos hj] at e
        exact e
      have e : l[i] = m[i]'(by omega) := by
        rcases cl i _ hl with a | a
        · obtain ⟨j, hj, ej⟩ := mem a (by omega)
          have q := (same i j (by omega) (by omega)).mp (by rw [hl, ej])
          rw [hm, ← atp hj, ej] at q
          exact (Option.some.inj q).symm
        · rcases cm i _ hm with b | b
          · obtain ⟨j, hj, ej⟩ := mem b (by omega)
            have q := (same i j (by omega) (by omega)).mpr (by rw [hm, ej])
            rw [hl, atp hj, ej] at q
            exact Option.some.inj q
          · rw [a, b, ih]
      rw [List.take_add_one, List.take_add_one, ih, hl, hm, e]
  have h := this l.length (Nat.le_refl _)
  rw [List.take_length, len, List.take_length] at h
  exact h
end
/-! ### hands alike -/
def comeB (bs : List BR) (k : Nat) : List BR := bs.filter fun b => decide (b.to = k)
def isDoor (h : HR) : Bool := decide (h.wd = "in") || decide (h.wd = "out")
/-- what a door is alike: itself; any other hand: one with the same rule -/
def SameFirst (hs : List HR) (i j : Nat) : Prop := i = j ∨ ∃ g h, hs[i]? = some g ∧ hs[j]? = some h ∧ g.wd = h.wd ∧ g.no = h.no ∧ isDoor g = false
/-- those who could be one -/
structure Bis (hs : List HR) (bs : List BR) (R : Nat → Nat → Prop) : Prop where
  first : ∀ i j, R i j → i < hs.length → j < hs.length → SameFirst hs i j
  come : ∀ i j, R i j → i < hs.length → j < hs.length → All2 (fun b c : BR => b.th = c.th ∧ R b.one c.one) (comeB bs i) (comeB bs j)
def AlikeH (hs : List HR) (bs : List BR) (i j : Nat) : Prop := ∃ R, Bis hs bs R ∧ R i j
/-- the kinds of a room -/
structure KindsOf (hs : List HR) (bs : List BR) (t : List Nat) : Prop where
  len : t.length = hs.length
  canon : Canon t
  same : ∀ i j, i < hs.length → j < hs.length → (t[i]? = t[j]? ↔ AlikeH hs bs i j)
theorem KindsOf.one {hs : List HR} {bs : List BR} {t u : List Nat} (a : KindsOf hs bs t) (b : KindsOf hs bs u) : t = u :=
  canon_eq (by rw [a.len, b.len]) a.canon b.canon fun i j hi hj => (a.same i j (by rw [← a.len]; exact hi) (by rw [← a.len]; exact hj)).trans (b.same i j (by rw [← a.len]; exact hi) (by rw [← a.len]; exact hj)).symm
/-! ### numbered -/
section
variable {P : Program} {w : World} {K : PySem.W.Frag} {mg : Str → Option Value} {base : Heap}
theorem nk_idx : ∀ {kas : List (NestedKey × Addr × Int)} {c : Nat} {k : NestedKey}, (∀ (q : Nat) e, kas[q]? = some e → e.2.2 = (((c + q : Nat) : Nat) : Int)) → k ∈ kas.map (·.1) → nkAt kas k = some (((c + (kas.map (·.1)).idxOf k : Nat) : Nat) : Int) := by
  intro kas
  induction kas with
  | nil => intro c k _ h; cases h
  | cons e r ih =>
    intro c k num h
    unfold nkAt
    rw [List.find?_cons, List.map_cons, List.idxOf_cons]
    by_cases z : e.1 = k
    · rw [decide_eq_true z, show (e.1 == k) = true from beq_iff_eq.mpr z]
      have := num 0 e rfl
      show some e.2.2 = some (((c + 0 : Nat) : Nat) : Int)
      rw [this]
    · rw [decide_eq_false z, show (e.1 == k) = false from beq_eq_false_iff_ne.mpr z]
      rw [List.map_cons] at h
      have h2 : k ∈ r.map (·.1) := by
        rcases List.mem_cons.mp h with q | q
        · exact absurd q.symm z
        · exact q
      have := ih (c := c + 1) (k := k) (fun q e' hq => by rw [num (q + 1) e' hq]; congr 1; omega) h2
      unfold nkAt at this
      show (r.find? fun q => decide (q.1 = k)).map (fun q => q.2.2) = some (((c + ((r.map (·.1)).idxOf k + 1) : Nat) : Nat) : Int)
      rw [this]
      congr 2
      omega
theorem nk_no {kas : List (NestedKey × Addr × Int)} {k : NestedKey} (h : k ∉ kas.map (·.1)) : nkAt kas k = none := by
  unfold nkAt
  rw [List.find?_eq_none.mpr]
  · rfl
  · intro e he z
    exact h (List.mem_map.mpr ⟨e, he, of_decide_eq_true z⟩)
/-- the marks of a list -/
def MarkAt (H : Hp) (v : V) (k : NestedKey) : Prop := ∃ a : Addr, v = .ref a ∧ NkV H k (.ref a) ∧ k.depth ≤ 8
theorem MarkAt.keep {H H' : Hp} {v : V} {k : NestedKey} (m : MarkAt H v k) (kp : TK H H') : MarkAt H' v k := by
  obtain ⟨a, e, n, d⟩ := m
  exact ⟨a, e, n.keep kp, d⟩
def sp_numbered (K : PySem.W.Frag) : Sp := fun vs H Q _ => ∃ (ml : Addr) (mv : List V) (ks : List NestedKey), vs = [.ref ml] ∧ H ml = some (.lst mv) ∧ All2 (MarkAt H) mv ks ∧ ks.length ≤ 1000 ∧
  ∀ (p : Addr) (l : List Nat) (H' : Hp), NumOf ks l → H p = none → H' p = some (.tup (l.map nV)) → Same H H' → Q (.ref p) H'
theorem ok_numbered {f : Addr} {fd : FuncData} (F : Fun K "numbered" "numbered" s_numbered f fd) (T : Top K mg) : FnOk P w K mg base CX0 1 f fd ["marks"] (sp_numbered K) := by
  refine F.ok sc_numbered (fun vs H Q E h => ?_) (fun cdv A outer s H vs Q E hr h => ?_)
  · obtain ⟨ml, mv, ks, rfl, _⟩ := h
    rfl
  obtain ⟨ml, mv, ks, rfl, hml, al, lk, q⟩ := h
  have lmv := al.length
  refine ⟨_, (pss_cons (ps_set (i := 1) sc_numbered.nd rfl (Or.inr rfl) (pe_nknew P w rfl rfl))
      (pss_cons (ps_for PassesOwn.never rfl (pi_listK K rfl (pv 0)) (pg_name (i := 2) sc_numbered.nd rfl (Or.inl rfl))
        (pss_one (ps_if (pt_cmp (pc_nkout P w rfl rfl (hu65 hr) (pv 2) (pv 1)) (by with_unfolding_all rfl)) (pss_one (ps_nkput P w rfl rfl (hu65 hr) (pv 1) (pv 2) (pe_callB (call_lenNk P w rfl rfl) (by rfl) T.m_len (by decide +kernel) (pa_cons (pv 1) pa_nil)) (by rfl))) pss_nil)))
      (pss_one (ps_ret (pe_callTy (call_tuple_ofK K rfl) (by rfl) T.m_tuple (by decide +kernel) (pa_cons (pe_lc (own := [("mark", 2)]) (g := gName 2) (tt := tYes) (by rfl) sc_numbered.nd (pi_listK K rfl (pv 0)) (blkOk_by (own := [("mark", 2)]) (N := N_numbered) (sc := defScope s_numbered) (by decide +kernel)) (fun _ _ _ _ _ => (pg_name (i := 2) sc_numbered.nd rfl (Or.inl rfl))) (fun _ _ _ _ _ => pts_nil) (fun _ _ _ _ _ => (pe_nkget P w rfl rfl (hu65 hr) (pv 1) (pv 2) (fun _ _ => rfl)))) pa_nil)))))), ?_⟩
  refine fun d nd D0 => ?_
  refine ⟨_, rfl, ml, rfl, ⟨_, SqL.of (same_new nd _ _ hml)⟩, for_list (K := K) (a := ml) (xs := mv) (fun i σ H5 => ∃ (x : Option V) (kas : List (NestedKey × Addr × Int)), σ = [some (.ref ml), some (.ref d), x] ∧ NkD P w H5 d kas ∧ kas.map (·.1) = uniq (ks.take i) ∧ (∀ (q : Nat) e, kas[q]? = some e → e.2.2 = (((0 + q : Nat) : Nat) : Int)) ∧ Same H H5) ⟨_, [], rfl, D0, rfl, (fun _ _ z => by cases z), same_new nd⟩ (fun i σ H5 _ ⟨_, _, _, _, _, _, s⟩ => SqL.of (s _ _ hml)) ?_ ?_⟩
  · rintro i v σ H5 hx ⟨x, kas, rfl, D5, ek, num, s5⟩
    obtain ⟨k, hk, a, rfl, kv, dp⟩ := al.getL hx
    have kv5 := kv.keep (TK.same s5)
    have e1 : ks.take (i + 1) = ks.take i ++ [k] := by rw [List.take_add_one, hk]; rfl
    have lkas : kas.length ≤ 1000 := by
      have h1 := congrArg List.length ek
      rw [List.length_map] at h1
      have h2 := uniq_len (ks.take i)
      rw [List.length_take] at h2
      omega
    refine ⟨_, rfl, _, rfl, d, a, kas, k, rfl, rfl, D5, kv5, dp, _, rfl, if_bl (fun c => ?_) (fun c => ?_)⟩
    · have nk : k ∉ kas.map (·.1) := fun z => by
        rw [nk_idx num z] at c
        cases c
      have nk0 := nk_no nk
      refine ⟨_, rfl, d, kas, rfl, D5, _, rfl, _, rfl, d, a, kas, k, _, rfl, rfl, rfl, D5, kv5, dp, nk0, small1000 (by omega), fun D6 => ?_⟩
      refine ⟨_, kas ++ [(k, a, ((kas.length : Nat) : Int))], rfl, D6, ?_, fun q e he => ?_, Same.own s5 nd⟩
      · rw [List.map_append, e1, uniq_snoc, if_neg (by rw [← ek]; exact nk), ek]
        rfl
      · by_cases hq : q < kas.length
        · rw [List.getElem?_append_left hq] at he
          exact num q e he
        · rw [List.getElem?_append_right (by omega)] at he
          have : q - kas.length = 0 := by
            cases hz : q - kas.length with
            | zero => rfl
            | succ z => rw [hz] at he; cases he
          rw [this] at he
          have he : (k, a, ((kas.length : Nat) : Int)) = e := Option.some.inj he
          rw [← he]
          show ((kas.length : Nat) : Int) = _
          congr 1
          omega
    · have yk : k ∈ kas.map (·.1) := Classical.byContradiction fun z => by
        rw [nk_no z] at c
        cases c
      exact ⟨_, kas, rfl, D5, by rw [e1, uniq_snoc, if_pos (by rw [← ek]; exact yk), ek], num, s5⟩
  · rintro σ H5 ⟨x, kas, rfl, D5, ek, num, s5⟩
    rw [lmv, List.take_length] at ek
    have no := num_of ks
    have lp : (ks.map fun k => (uniq ks).idxOf k).length = ks.length := List.length_map ..
    refine ⟨_, rfl, ml, rfl, ⟨_, SqL.of (s5 _ _ hml)⟩, fun D nD => lc_list (K := K) (a := ml) (xs := mv) (fun i H6 => H6 D = some (.lst (((ks.take i).map fun k => (uniq ks).idxOf k).map nV)) ∧ Same H5 H6) ⟨upd_same, same_new nD⟩ (fun i H6 _ ⟨_, s6⟩ => SqL.of (s6 _ _ (s5 _ _ hml))) ?_ ?_⟩
    · rintro i v H6 hx ⟨hD, s6⟩
      obtain ⟨k, hk, a, rfl, kv, dp⟩ := al.getL hx
      have kv6 := (kv.keep (TK.same s5)).keep (TK.same s6)
      have yk : k ∈ kas.map (·.1) := by rw [ek]; exact (mem_uniq ks k).mpr (List.mem_of_getElem? hk)
      have at_ := nk_idx num yk
      rw [Nat.zero_add, ek] at at_
      refine ⟨rfl, yes_in ⟨_, rfl, _, rfl, d, a, kas, k, _, rfl, rfl, D5.same s6, kv6, dp, at_, _, hD, ?_, ?_, Same.own s6 nD⟩⟩
      · rw [List.length_map, List.length_map, List.length_take]; exact small1000 (by omega)
      · rw [upd_same, List.take_add_one, hk, List.map_append, List.map_append]
        rfl
    · rintro H6 ⟨hD, s6⟩
      rw [lmv, List.take_length] at hD
      refine ⟨D, _, rfl, .inl ⟨SqL.of hD, fun p np => ?_⟩⟩
      exact q p _ _ no (same_none s5 (same_none s6 np)) upd_same fun b o e => same_new np _ _ (s6 _ _ (s5 _ _ e))
end
/-! ### marks -/
def ruleK (h : HR) : NestedKey := .tup (.text h.wd :: (match h.no with | none => [] | some n => [.num n]))
def mark1 (k : Nat) (h : HR) : NestedKey := if isDoor h then .tup [ruleK h, .num (k : Nat)] else .tup [ruleK h]
def thK (b : BR) : NestedKey := .tup (b.th.map .num)
def mark2 (t : List Nat) (bs : List BR) (k : Nat) : NestedKey := .tup [.num ((t.getD k 0 : Nat) : Int), .tup ((comeB bs k).map fun b => .tup [.num ((t.getD b.one 0 : Nat) : Int), thK b])]
theorem ruleK_at {H : Hp} {r : Addr} {h : HR} (e : H r = some (.tup (ruleL h))) : NkV H (ruleK h) (.ref r) := by
  obtain ⟨wd, no, mom⟩ := h
  cases no with
  | none => exact .tup e (.cons (.text _) .nil)
  | some n => exact .tup e (.cons (.text _) (.cons (.num _) .nil))
theorem nums_at {H : Hp} : ∀ l : List Int, NkL H (l.map .num) (l.map V.int)
  | [] => .nil
  | _ :: r => .cons (.num _) (nums_at r)
theorem ruleK_depth (h : HR) : (ruleK h).depth ≤ 1 := by
  obtain ⟨wd, no, mom⟩ := h
  cases no <;> simp [ruleK, NestedKey.depth, NestedKey.depthAll]
theorem depth_nums : ∀ l : List Int, NestedKey.depthAll (l.map .num) = 0
  | [] => rfl
  | _ :: r => by rw [List.map_cons, NestedKey.depthAll, depth_nums r]; rfl
theorem mark1_depth (k : Nat) (h : HR) : (mark1 k h).depth ≤ 8 := by
  have := ruleK_depth h
  unfold mark1
  split
  · simp only [NestedKey.depth, NestedKey.depthAll]; omega
  · simp only [NestedKey.depth, NestedKey.depthAll]; omega
theorem mark2_depth (t : List Nat) (bs : List BR) (k : Nat) : (mark2 t bs k).depth ≤ 8 := by
  have : ∀ l : List BR, NestedKey.depthAll (l.map fun b => NestedKey.tup [.num ((t.getD b.one 0 : Nat) : Int), thK b]) ≤ 2 := by
    intro l
    induction l with
    | nil => exact Nat.zero_le _
    | cons b r ih =>
      rw [List.map_cons, NestedKey.depthAll]
      have h1 : (thK b).depth = 1 := by unfold thK; rw [NestedKey.depth, depth_nums]
      simp only [NestedKey.depth, NestedKey.depthAll, h1] at ih ⊢
      omega
  have := this (comeB bs k)
  unfold mark2
  simp only [NestedKey.depth, NestedKey.depthAll] at this ⊢
  omega
theorem ruleK_inj {g h : HR} : ruleK g = ruleK h ↔ g.wd = h.wd ∧ g.no = h.no := by
  obtain ⟨wd, no, mom⟩ := g
  obtain ⟨wd2, no2, mom2⟩ := h
  cases no <;> cases no2 <;> simp [ruleK]
theorem come_list (bs : List BR) (k : Nat) : All2 (fun i b => bs[i]? = some b) (comingN bs k) (comeB bs k) := by
  induction bs using snoc_ind with
  | h0 => exact .nil
  | h1 l b ih =>
    have e1 : comingN (l ++ [b]) k = comingN l k ++ (if b.to = k then [l.length] else []) := by
      unfold comingN
      rw [List.length_append, show l.length + [b].length = l.length + 1 from rfl, filt_succ]
      congr 1
      · refine List.filter_congr fun i hi => ?_
        rw [List.getElem?_append_left (List.mem_range.mp hi)]
      · rw [List.getElem?_append_right (Nat.le_refl _), Nat.sub_self]
        by_cases h : b.to = k
        · rw [if_pos h, if_pos (decide_eq_true (by rw [← h]; rfl))]
        · rw [if_neg h, if_neg]
          intro z
          exact h (Option.some.inj (of_decide_eq_true z))
    have e2 : comeB (l ++ [b]) k = comeB l k ++ (if b.to = k then [b] else []) := by
      unfold comeB
      rw [List.filter_append]
      congr 1
      by_cases h : b.to = k
      · rw [if_pos h]; simp [h]
      · rw [if_neg h]; simp [h]
    have ih2 : All2 (fun i c => (l ++ [b])[i]? = some c) (comingN l k) (comeB l k) := ih.imp fun i c e => by
      rw [List.getElem?_append_left (List.getElem?_eq_some_iff.mp e).1]; exact e
    rw [e1, e2]
    by_cases h : b.to = k
    · rw [if_pos h, if_pos h]
      refine ih2.snoc ?_
      rw [List.getElem?_append_right (Nat.le_refl _), Nat.sub_self]
      rfl
    · rw [if_neg h, if_neg h, List.append_nil, List.append_nil]
      exact ih2
theorem NkL.snoc {H : Hp} {k : NestedKey} {x : V} : ∀ {ks : List NestedKey} {xs : List V}, NkL H ks xs → NkV H k x → NkL H (ks ++ [k]) (xs ++ [x])
  | _, _, .nil, h => .cons h .nil
  | _, _, .cons a b, h => .cons a (NkL.snoc b h)
section
variable {P : Program} {w : World} {K : PySem.W.Frag} {mg : Str → Option Value} {base : Heap}
def sp_first_mark (K : PySem.W.Frag) : Sp := fun vs H Q _ => ∃ (r : Addr) (h : HR) (k : Nat), vs = [.ref r, nV k] ∧ H r = some (.tup (ruleL h)) ∧ GoodHand h ∧ ∀ (p : Addr) (H' : Hp), NkV H' (mark1 k h) (.ref p) → Same H H' → Q (.ref p) H'
theorem ok_first_mark {f : Addr} {fd : FuncData} (F : Fun K "first_mark" "first_mark" s_first_mark f fd) (T : Top K mg) : FnOk P w K mg base CX0 1 f fd ["rule", "hand"] (sp_first_mark K) := by
  refine F.ok sc_first_mark (fun vs H Q E h => ?_) (fun cdv A outer s H vs Q E hr h => ?_)
  · obtain ⟨r, h, k, rfl, _⟩ := h
    rfl
  obtain ⟨r, h, k, rfl, hr0, gh, q⟩ := h
  obtain ⟨aI, mI, hI⟩ := T.x_in
  obtain ⟨aO, mO, hO⟩ := T.x_out
  refine ⟨_, (pss_one (ps_ret (pe_ifExp (pt_cmpR (op_inDTK K rfl (hu65 hr)) (pv 0) (pe_tup (pa_cons (pe_glob (v := .ref aI) (by rfl) mI rfl) (pa_cons (pe_glob (v := .ref aO) (by rfl) mO rfl) pa_nil))) (by with_unfolding_all rfl)) (pe_tup (pa_cons (pv 0) (pa_cons (pv 1) pa_nil))) (pe_tup (pa_cons (pv 0) pa_nil))))), ?_⟩
  refine ⟨_, rfl, (by show 2 ≤ sizeLine; decide), fun t nt => ?_⟩
  have s1 := same_new (o := .tup [V.ref aI, V.ref aO]) nt
  refine ⟨.tuple (ruleD h), [.tuple [.str "in"], .tuple [.str "out"]], rule_dp (s1 _ _ hr0), .tup (SqT.of upd_same) (.cons (.tup (hI _) (.cons (.str _) .nil)) (.cons (.tup (hO _) (.cons (.str _) .nil)) .nil)), rule_shaped gh.lay, by decide +kernel, _, rfl, ?_⟩
  have val : ([PyData.tuple [.str "in"], .tuple [.str "out"]].any fun z => PyData.eqv z (.tuple (ruleD h))) = isDoor h := by
    rw [List.any_cons, List.any_cons, List.any_nil, Bool.or_false, one_eqv, one_eqv, gh.door "in" (.inl rfl), gh.door "out" (.inr rfl)]
    rfl
  rw [val]
  unfold mark1 at q
  refine if_bl (fun c => ?_) (fun c => ?_)
  · rw [if_pos c] at q
    refine ⟨_, rfl, _, rfl, (by show 2 ≤ sizeLine; decide), fun p np => ?_⟩
    have s2 := same_new (o := .tup [V.ref r, nV k]) np
    exact q p _ (.tup upd_same (.cons (ruleK_at (s2 _ _ (s1 _ _ hr0))) (.cons (.num _) .nil))) (fun b o e => s2 _ _ (s1 _ _ e))
  · rw [if_neg (by rw [c]; exact Bool.false_ne_true)] at q
    refine ⟨_, rfl, (by show 1 ≤ sizeLine; decide), fun p np => ?_⟩
    have s2 := same_new (o := .tup [V.ref r]) np
    exact q p _ (.tup upd_same (.cons (ruleK_at (s2 _ _ (s1 _ _ hr0))) .nil)) (fun b o e => s2 _ _ (s1 _ _ e))
def sp_mark_by (K : PySem.W.Frag) : Sp := fun vs H Q _ => ∃ (r tl : Addr) (hs : List HR) (bs : List BR) (t : List Nat) (k : Nat), vs = [.ref r, .ref tl, nV k] ∧ RoomAt H r hs bs ∧ (∀ b ∈ bs, b.one < t.length) ∧ bs.length ≤ 400 ∧ H tl = some (.tup (t.map nV)) ∧ k < t.length ∧
  ∀ (p : Addr) (H' : Hp), NkV H' (mark2 t bs k) (.ref p) → Same H H' → Q (.ref p) H'
theorem ok_mark_by {f : Addr} {fd : FuncData} (F : Fun K "mark_by" "mark_by" s_mark_by f fd) (T : Top K mg) : FnOk P w K mg base CX0 2 f fd ["room", "told", "hand"] (sp_mark_by K) := by
  obtain ⟨f_comings, fd_comings, F_comings, b_comings, m_comings⟩ := T.d_comings
  have G_comings := ok_comings (P := P) (w := w) (base := base) F_comings T
  refine F.ok sc_mark_by (fun vs H Q E h => ?_) (fun cdv A outer s H vs Q E hr h => ?_)
  · obtain ⟨r, tl, hs, bs, t, k, rfl, _⟩ := h
    rfl
  obtain ⟨r, tl, hs, bs, t, k, rfl, hR, ends, lb, htl, hk, q⟩ := h
  obtain ⟨ha, ba, hv, bv, er, eh, eb, alh, alb⟩ := hR.ex
  have lbv := alb.length
  refine ⟨_, (pss_cons (ps_setLc (i := 3) (own := [("number", 4)]) (g := gName 4) (tt := tYes) (by rfl) sc_mark_by.nd rfl rfl (sw_true rfl rfl rfl (by decide +kernel)) (pi_listK K rfl (pe_call G_comings (hr.mono (by decide)) (by rfl) m_comings F_comings.kp b_comings .nil pass0 (pa_cons (pv 0) (pa_cons (pv 2) pa_nil)))) (blkOk_by (own := [("number", 4)]) (N := N_mark_by) (sc := defScope s_mark_by) (by decide +kernel)) (fun _ _ _ _ _ => (pg_name (i := 4) sc_mark_by.nd rfl (Or.inl rfl))) (fun _ _ _ _ _ => pts_nil) (fun _ _ _ _ _ => (pe_ix (ix_tupK K rfl) (pe_ix (ix_tupK K rfl) (pv 0) pe_int (fun _ _ => rfl)) (pv 4) (fun _ _ => rfl))))
      (pss_one (ps_ret (pe_tup (pa_cons (pe_ix (ix_tupK K rfl) (pv 1) (pv 2) (fun _ _ => rfl)) (pa_cons (pe_callTy (call_tuple_ofK K rfl) (by rfl) T.m_tuple (by decide +kernel) (pa_cons (pe_lc (own := [("giver", 5), ("taker", 6), ("things", 7)]) (g := gTup K 3 (gCons (gName 5) (gCons (gName 6) (gCons (gName 7) gNil)))) (tt := tYes) (by rfl) sc_mark_by.nd (pi_listK K rfl (pv 3)) (blkOk_by (own := [("giver", 5), ("taker", 6), ("things", 7)]) (N := N_mark_by) (sc := defScope s_mark_by) (by decide +kernel)) (fun _ _ _ _ _ => (pg_tupK K rfl rfl (pgs_cons (pg_name (i := 5) sc_mark_by.nd rfl (Or.inl rfl)) (pgs_cons (pg_name (i := 6) sc_mark_by.nd rfl (Or.inl rfl)) (pgs_cons (pg_name (i := 7) sc_mark_by.nd rfl (Or.inl rfl)) pgs_nil))))) (fun _ _ _ _ _ => pts_nil) (fun _ _ _ _ _ => (pe_tup (pa_cons (pe_ix (ix_tupK K rfl) (pv 1) (pv 5) (fun _ _ => rfl)) (pa_cons (pv 7) pa_nil))))) pa_nil)) pa_nil)))))), ?_⟩
  refine ⟨_, rfl, _, rfl, r, hs, bs, k, rfl, hR, lb, fun c H1 nc hc s1 => ?_⟩
  have cl := come_list bs k
  have lc := cl.length
  have lc2 : (comeB bs k).length ≤ 400 := by unfold comeB; exact Nat.le_trans (List.length_filter_le ..) lb
  refine ⟨c, rfl, ⟨_, SqL.of hc⟩, fun D nD => lc_list (K := K) (a := c) (xs := (comingN bs k).map nV) (fun i H5 => ∃ vs : List V, H5 D = some (.lst vs) ∧ All2 (BeltAt H5) vs ((comeB bs k).take i) ∧ Same H1 H5) ⟨[], upd_same, .nil, same_new nD⟩ (fun i H5 _ ⟨_, _, _, s5⟩ => SqL.of (s5 _ _ hc)) ?_ ?_⟩
  · rintro i v H5 hx ⟨vs, hD, alv, s5⟩
    rw [List.getElem?_map] at hx
    cases hj : (comingN bs k)[i]? with
    | none => rw [hj] at hx; cases hx
    | some j =>
      rw [hj] at hx
      obtain rfl : nV j = v := Option.some.inj hx
      obtain ⟨b, eb1, eb2⟩ := cl.getL hj
      obtain ⟨x, ex, bx⟩ := alb.get eb2
      have s15 : Same H H5 := fun a o e => s5 _ _ (s1 _ _ e)
      have lv := alv.length
      rw [List.length_take] at lv
      refine ⟨rfl, yes_in ⟨_, rfl, r, _, _, _, rfl, rfl, SqT.of (s15 _ _ er), atI_nat (j := 1) rfl, _, rfl, ba, _, _, _, rfl, rfl, SqT.of (s15 _ _ eb), atI_nat ex, _, hD, small1000 (by omega), vs ++ [x], upd_same, ?_, Same.own s5 nD⟩⟩
      rw [List.take_add_one, eb1]
      exact ((alv.imp fun _ _ z => z.keep (TK.lst hD)).snoc ((bx.keep (TK.same s15)).keep (TK.lst hD)))
  rintro H5 ⟨vs, hD, alv, s5⟩
  rw [List.length_map, lc, List.take_length] at alv
  have s15 : Same H H5 := fun a o e => s5 _ _ (s1 _ _ e)
  have lv := alv.length
  have nat_at : ∀ {j : Nat}, j < t.length → (t.map nV)[j]? = some (nV (t.getD j 0)) := fun {j} h => by
    rw [List.getElem?_map, List.getElem?_eq_getElem h, List.getD_eq_getElem?_getD, List.getElem?_eq_getElem h]; rfl
  refine ⟨_, rfl, _, rfl, tl, _, _, _, rfl, rfl, SqT.of (s15 _ _ htl), atI_nat (nat_at hk), ?_⟩
  refine ⟨_, rfl, D, rfl, ⟨_, SqL.of hD⟩, fun E nE => lc_list (K := K) (a := D) (xs := vs) (fun i H6 => ∃ us : List V, H6 E = some (.lst us) ∧ us.length = i ∧ NkL H6 (((comeB bs k).take i).map fun b => NestedKey.tup [.num ((t.getD b.one 0 : Nat) : Int), thK b]) us ∧ Same H5 H6) ⟨[], upd_same, rfl, .nil, same_new nE⟩ (fun i H6 _ ⟨_, _, _, _, s6⟩ => SqL.of (s6 _ _ hD)) ?_ ?_⟩
  · rintro i v H6 hx ⟨us, hE, lu, nk, s6⟩
    obtain ⟨b, eb1, tb, g, rfl, e1, e2⟩ := alv.getL hx
    have bm : b ∈ bs := (List.mem_filter.mp (List.mem_of_getElem? eb1)).1
    have s16 : Same H H6 := fun a o e => s6 _ _ (s15 _ _ e)
    have il := (List.getElem?_eq_some_iff.mp eb1).1
    refine ⟨tb, _, rfl, SqT.of (s6 _ _ e1), rfl, _, _, rfl, _, _, rfl, _, _, rfl, rfl, rfl, yes_in ⟨_, rfl, _, rfl, tl, _, _, _, rfl, rfl, SqT.of (s16 _ _ htl), atI_nat (nat_at (ends b bm)), _, rfl, (by show 2 ≤ sizeLine; decide), fun p2 np2 => ?_⟩⟩
    have s7 := same_new (o := .tup [nV (t.getD b.one 0), V.ref g]) np2
    have hE7 := s7 _ _ hE
    refine ⟨_, hE7, small1000 (by omega), us ++ [.ref p2], upd_same, by rw [List.length_append, lu]; rfl, ?_, Same.own (fun a o e => s7 _ _ (s6 _ _ e)) nE⟩
    rw [List.take_add_one, eb1, List.map_append]
    refine NkL.snoc (NkL.keep ((TK.same s7).trans (TK.lst hE7)) nk) (.tup (TK.lst hE7 _ _ upd_same) (.cons (.num _) (.cons (.tup (TK.lst hE7 _ _ (s7 _ _ (s6 _ _ e2))) (nums_at _)) .nil)))
  · rintro H6 ⟨us, hE, lu, nk, s6⟩
    rw [lv, List.take_length] at nk
    refine ⟨E, _, rfl, .inl ⟨SqL.of hE, fun p3 np3 => ⟨(by show 2 ≤ sizeLine; decide), fun p np => ?_⟩⟩⟩
    have s7 := same_new (o := .tup us) np3
    have s8 := same_new (o := .tup [nV (t.getD k 0), V.ref p3]) np
    refine q p _ (.tup upd_same (.cons (.num _) (.cons (.tup (s8 _ _ upd_same) (NkL.keep ((TK.same s7).trans (TK.same s8)) nk)) .nil))) fun a o e => s8 _ _ (s7 _ _ (s6 _ _ (s15 _ _ e)))
end
/-! ### kinds -/
def m1 (hs : List HR) (k : Nat) : NestedKey := (hs[k]?.map (mark1 k)).getD .none
theorem getD_eq {t : List Nat} {i j : Nat} (hi : i < t.length) (hj : j < t.length) : t[i]? = t[j]? ↔ t.getD i 0 = t.getD j 0 := by
  rw [List.getD_eq_getElem?_getD, List.getD_eq_getElem?_getD, List.getElem?_eq_getElem hi, List.getElem?_eq_getElem hj]
  exact ⟨fun e => congrArg (Option.getD · 0) e, fun e => congrArg some e⟩
theorem m1_eq {hs : List HR} {i j : Nat} (hi : i < hs.length) (hj : j < hs.length) : m1 hs i = m1 hs j ↔ SameFirst hs i j := by
  unfold m1
  rw [List.getElem?_eq_getElem hi, List.getElem?_eq_getElem hj]
  show mark1 i hs[i] = mark1 j hs[j] ↔ _
  unfold mark1
  constructor
  · intro e
    by_cases d1 : isDoor hs[i] = true
    · rw [if_pos d1] at e
      by_cases d2 : isDoor hs[j] = true
      · rw [if_pos d2] at e
        left
        have z : ruleK hs[i] = ruleK hs[j] ∧ ((i : Nat) : Int) = (j : Nat) := by simpa using NestedKey.tup.inj e
        have := z.2
        omega
      · rw [if_neg d2] at e
        simp at e
    · rw [if_neg d1] at e
      by_cases d2 : isDoor hs[j] = true
      · rw [if_pos d2] at e
        simp at e
      · rw [if_neg d2] at e
        have e : ruleK hs[i] = ruleK hs[j] := by simpa using NestedKey.tup.inj e
        obtain ⟨e1, e2⟩ := ruleK_inj.mp e
        exact .inr ⟨_, _, List.getElem?_eq_getElem hi, List.getElem?_eq_getElem hj, e1, e2, by simpa using d1⟩
  · rintro (rfl | ⟨g, h, eg, eh, e1, e2, d⟩)
    · rfl
    · rw [List.getElem?_eq_getElem hi] at eg
      rw [List.getElem?_eq_getElem hj] at eh
      rw [Option.some.inj eg, Option.some.inj eh]
      have d2 : isDoor h = false := by unfold isDoor at d ⊢; rw [← e1]; exact d
      rw [d, d2, ruleK_inj.mpr ⟨e1, e2⟩]
      rfl
theorem ths_inj {b c : BR} : thK b = thK c ↔ b.th = c.th := by
  unfold thK
  constructor
  · intro e
    have e := NestedKey.tup.inj e
    have : ∀ l m : List Int, l.map NestedKey.num = m.map NestedKey.num → l = m := by
      intro l
      induction l with
      | nil => intro m h; cases m with
        | nil => rfl
        | cons y r => cases h
      | cons x r ih => intro m h; cases m with
        | nil => cases h
        | cons y s =>
          rw [List.map_cons, List.map_cons] at h
          obtain ⟨h1, h2⟩ := List.cons.inj h
          rw [NestedKey.num.inj h1, ih s h2]
    exact this _ _ e
  · intro e; rw [e]
theorem comes_eq (t : List Nat) : ∀ {l m : List BR}, (l.map fun b => NestedKey.tup [.num ((t.getD b.one 0 : Nat) : Int), thK b]) = (m.map fun b => NestedKey.tup [.num ((t.getD b.one 0 : Nat) : Int), thK b]) ↔ All2 (fun b c : BR => b.th = c.th ∧ t.getD b.one 0 = t.getD c.one 0) l m
  | [], [] => ⟨fun _ => .nil, fun _ => rfl⟩
  | [], _ :: _ => ⟨fun z => (by cases z), fun z => (by cases z)⟩
  | _ :: _, [] => ⟨fun z => (by cases z), fun z => (by cases z)⟩
  | b :: l, c :: m => by
    rw [List.map_cons, List.map_cons]
    constructor
    · intro z
      obtain ⟨z1, z2⟩ := List.cons.inj z
      have z1 := NestedKey.tup.inj z1
      obtain ⟨z3, z4⟩ := List.cons.inj z1
      have z5 := ths_inj.mp (List.cons.inj z4).1
      have z6 := NestedKey.num.inj z3
      exact .cons ⟨z5, by omega⟩ ((comes_eq t).mp z2)
    · intro z
      cases z with
      | cons r rest => rw [(comes_eq t).mpr rest, r.2, ths_inj.mpr r.1]
theorem mark2_eq (t : List Nat) (bs : List BR) (i j : Nat) : mark2 t bs i = mark2 t bs j ↔ t.getD i 0 = t.getD j 0 ∧ All2 (fun b c : BR => b.th = c.th ∧ t.getD b.one 0 = t.getD c.one 0) (comeB bs i) (comeB bs j) := by
  unfold mark2
  constructor
  · intro z
    have z := NestedKey.tup.inj z
    obtain ⟨z1, z2⟩ := List.cons.inj z
    have z3 := NestedKey.num.inj z1
    have z4 := NestedKey.tup.inj (List.cons.inj z2).1
    exact ⟨by omega, (comes_eq t).mp z4⟩
  · rintro ⟨a, b⟩
    rw [a, (comes_eq t).mpr b]
/-- a parting on the way: as coarse as can be, doors apart -/
structure Stage (hs : List HR) (bs : List BR) (t : List Nat) : Prop where
  len : t.length = hs.length
  canon : Canon t
  coarse : ∀ i j, i < hs.length → j < hs.length → AlikeH hs bs i j → t.getD i 0 = t.getD j 0
  first : ∀ i j, i < hs.length → j < hs.length → t.getD i 0 = t.getD j 0 → SameFirst hs i j
theorem All2.imp_mem {α β : Type} {R S : α → β → Prop} : ∀ {as : List α} {bs : List β}, All2 R as bs → (∀ a ∈ as, ∀ b ∈ bs, R a b → S a b) → All2 S as bs
  | _, _, .nil, _ => .nil
  | _, _, .cons r t, f => .cons (f _ (List.mem_cons_self ..) _ (List.mem_cons_self ..) r) (All2.imp_mem t fun a ha b hb => f a (List.mem_cons_of_mem _ ha) b (List.mem_cons_of_mem _ hb))
theorem AlikeH.come {hs : List HR} {bs : List BR} {i j : Nat} (h : AlikeH hs bs i j) (hi : i < hs.length) (hj : j < hs.length) : All2 (fun b c : BR => b.th = c.th ∧ AlikeH hs bs b.one c.one) (comeB bs i) (comeB bs j) := by
  obtain ⟨R, B, r⟩ := h
  exact (B.come i j r hi hj).imp fun _ _ ⟨a, b⟩ => ⟨a, R, B, b⟩
theorem AlikeH.first {hs : List HR} {bs : List BR} {i j : Nat} (h : AlikeH hs bs i j) (hi : i < hs.length) (hj : j < hs.length) : SameFirst hs i j := by
  obtain ⟨R, B, r⟩ := h
  exact B.first i j r hi hj
theorem come_mem {bs : List BR} {k : Nat} {b : BR} (h : b ∈ comeB bs k) : b ∈ bs := (List.mem_filter.mp h).1
theorem stage0 {hs : List HR} {bs : List BR} {l : List Nat} (no : NumOf ((List.range hs.length).map (m1 hs)) l) : Stage hs bs l := by
  have ln : l.length = hs.length := by rw [no.len, List.length_map, List.length_range]
  have at_ : ∀ {i}, i < hs.length → ((List.range hs.length).map (m1 hs))[i]? = some (m1 hs i) := fun {i} h => by rw [List.getElem?_map, List.getElem?_range h]; rfl
  have kl : ((List.range hs.length).map (m1 hs)).length = hs.length := by rw [List.length_map, List.length_range]
  have sm : ∀ i j, i < hs.length → j < hs.length → (l.getD i 0 = l.getD j 0 ↔ SameFirst hs i j) := fun i j hi hj => by
    rw [← getD_eq (by omega) (by omega), no.same i j (by omega) (by omega), at_ hi, at_ hj, ← m1_eq hi hj]
    exact ⟨fun z => Option.some.inj z, fun z => congrArg some z⟩
  exact ⟨ln, no.canon, fun i j hi hj a => (sm i j hi hj).mpr (a.first hi hj), fun i j hi hj e => (sm i j hi hj).mp e⟩
theorem next_same {hs : List HR} {bs : List BR} {t l : List Nat} (lt : t.length = hs.length) (no : NumOf ((List.range t.length).map (mark2 t bs)) l) {i j : Nat} (hi : i < hs.length) (hj : j < hs.length) :
    l.getD i 0 = l.getD j 0 ↔ t.getD i 0 = t.getD j 0 ∧ All2 (fun b c : BR => b.th = c.th ∧ t.getD b.one 0 = t.getD c.one 0) (comeB bs i) (comeB bs j) := by
  have kl : ((List.range t.length).map (mark2 t bs)).length = t.length := by rw [List.length_map, List.length_range]
  have ln : l.length = t.length := by rw [no.len, kl]
  have at_ : ∀ {i}, i < t.length → ((List.range t.length).map (mark2 t bs))[i]? = some (mark2 t bs i) := fun {i} h => by rw [List.getElem?_map, List.getElem?_range h]; rfl
  rw [← getD_eq (by omega) (by omega), no.same i j (by omega) (by omega), at_ (by omega), at_ (by omega), ← mark2_eq]
  exact ⟨fun z => Option.some.inj z, fun z => congrArg some z⟩
theorem Stage.next {hs : List HR} {bs : List BR} {t l : List Nat} (st : Stage hs bs t) (ends : ∀ b ∈ bs, b.one < hs.length) (no : NumOf ((List.range t.length).map (mark2 t bs)) l) : Stage hs bs l := by
  have ln : l.length = hs.length := by rw [no.len, List.length_map, List.length_range, st.len]
  refine ⟨ln, no.canon, fun i j hi hj a => ?_, fun i j hi hj e => ?_⟩
  · refine (next_same st.len no hi hj).mpr ⟨st.coarse i j hi hj a, ?_⟩
    exact (a.come hi hj).imp_mem fun b hb c hc ⟨z1, z2⟩ => ⟨z1, st.coarse _ _ (ends b (come_mem hb)) (ends c (come_mem hc)) z2⟩
  · exact st.first i j hi hj ((next_same st.len no hi hj).mp e).1
theorem Stage.done {hs : List HR} {bs : List BR} {t : List Nat} (st : Stage hs bs t) (no : NumOf ((List.range t.length).map (mark2 t bs)) t) : KindsOf hs bs t := by
  refine ⟨st.len, st.canon, fun i j hi hj => ?_⟩
  rw [getD_eq (by rw [st.len]; exact hi) (by rw [st.len]; exact hj)]
  refine ⟨fun e => ⟨fun i j => t.getD i 0 = t.getD j 0, ⟨fun i j r hi hj => st.first i j hi hj r, fun i j r hi hj => ((next_same st.len no hi hj).mp r).2⟩, e⟩, st.coarse i j hi hj⟩
/-- how many pairs are alike -/
def prs (n : Nat) : List (Nat × Nat) := (List.range n).flatMap fun i => (List.range n).map fun j => (i, j)
def cnt2 (n : Nat) (t : List Nat) : Nat := (prs n).countP fun p => decide (t.getD p.1 0 = t.getD p.2 0)
theorem mem_prs {n i j : Nat} (hi : i < n) (hj : j < n) : (i, j) ∈ prs n := List.mem_flatMap.mpr ⟨i, List.mem_range.mpr hi, List.mem_map.mpr ⟨j, List.mem_range.mpr hj, rfl⟩⟩
theorem of_prs {n : Nat} {p : Nat × Nat} (h : p ∈ prs n) : p.1 < n ∧ p.2 < n := by
  obtain ⟨i, hi, h⟩ := List.mem_flatMap.mp h
  obtain ⟨j, hj, rfl⟩ := List.mem_map.mp h
  exact ⟨List.mem_range.mp hi, List.mem_range.mp hj⟩
theorem count_less {α : Type} {p q : α → Bool} : ∀ {l : List α}, (∀ x ∈ l, p x = true → q x = true) → (∃ x ∈ l, q x = true ∧ p x = false) → l.countP p < l.countP q
  | [], _, h => by obtain ⟨x, hx, _⟩ := h; cases hx
  | y :: l, sub, h => by
    have le : l.countP p ≤ l.countP q := List.countP_mono_left fun x hx => sub x (List.mem_cons_of_mem _ hx)
    rw [List.countP_cons, List.countP_cons]
    obtain ⟨x, hx, h1, h2⟩ := h
    rcases List.mem_cons.mp hx with rfl | hx
    · rw [if_neg (by rw [h2]; exact Bool.false_ne_true), if_pos h1]
      omega
    · have lt := count_less (fun z hz => sub z (List.mem_cons_of_mem _ hz)) ⟨x, hx, h1, h2⟩
      have := sub y (List.mem_cons_self ..)
      by_cases py : p y = true
      · rw [if_pos py, if_pos (this py)]; omega
      · rw [if_neg py]; split <;> omega
theorem Stage.less {hs : List HR} {bs : List BR} {t l : List Nat} (st : Stage hs bs t) (no : NumOf ((List.range t.length).map (mark2 t bs)) l) (ne : l ≠ t) : cnt2 hs.length l < cnt2 hs.length t := by
  have kl : ((List.range t.length).map (mark2 t bs)).length = t.length := by rw [List.length_map, List.length_range]
  have ln : l.length = t.length := by rw [no.len, kl]
  refine count_less (fun p hp h => ?_) (Classical.byContradiction fun no2 => ne (canon_eq ln no.canon st.canon fun i j hi hj => ?_))
  · obtain ⟨h1, h2⟩ := of_prs hp
    exact decide_eq_true ((next_same st.len no h1 h2).mp (of_decide_eq_true h)).1
  · have hi2 : i < hs.length := by rw [← st.len, ← ln]; exact hi
    have hj2 : j < hs.length := by rw [← st.len, ← ln]; exact hj
    rw [getD_eq hi hj, getD_eq (by omega) (by omega)]
    constructor
    · intro e
      exact ((next_same st.len no hi2 hj2).mp e).1
    · intro e
      refine Classical.byContradiction fun z => no2 ⟨(i, j), mem_prs hi2 hj2, decide_eq_true e, decide_eq_false z⟩
theorem kinds_eqv (l m : List Nat) : PyData.eqvAll (l.map fun n => PyData.int ((n : Nat) : Int)) (m.map fun n => PyData.int ((n : Nat) : Int)) = decide (l = m) := by
  induction l generalizing m with
  | nil => cases m with
    | nil => rfl
    | cons y s => rfl
  | cons x r ih => cases m with
    | nil => rfl
    | cons y s =>
      rw [List.map_cons, List.map_cons, PyData.eqvAll, ih]
      show (decide (((x : Nat) : Int) = ((y : Nat) : Int)) && decide (r = s)) = decide (x :: r = y :: s)
      by_cases h : x = y
      · subst h
        rw [decide_eq_true rfl, Bool.true_and]
        by_cases h2 : r = s
        · rw [h2, decide_eq_true rfl, decide_eq_true rfl]
        · rw [decide_eq_false h2, decide_eq_false (fun z => h2 (List.cons.inj z).2)]
      · rw [decide_eq_false (by omega : ¬ ((x : Nat) : Int) = ((y : Nat) : Int)), Bool.false_and, decide_eq_false (fun z => h (List.cons.inj z).1)]
theorem lay_nats : ∀ m : List Nat, PyData.canLayAll0 (m.map fun n => PyData.int ((n : Nat) : Int)) = true
  | [] => rfl
  | x :: m => by
    rw [List.map_cons]
    simp only [PyData.canLayAll0, PyData.canLay0, lay_nats m, Bool.and_self]
theorem dep_nats : ∀ m : List Nat, PyData.depthAll (m.map fun n => PyData.int ((n : Nat) : Int)) ≤ 0
  | [] => Nat.le_refl _
  | x :: m => by
    rw [List.map_cons]
    simp only [PyData.depthAll, PyData.depth]
    have := dep_nats m
    omega
theorem nats_shaped (m : List Nat) : SeqAt.shaped (.tuple (m.map fun n => PyData.int ((n : Nat) : Int))) = true := by
  unfold SeqAt.shaped
  simp only [PyData.canLay0, lay_nats, Bool.true_and, PyData.depth]
  have := dep_nats m
  exact decide_eq_true (by omega)
section
variable {P : Program} {w : World} {K : PySem.W.Frag} {mg : Str → Option Value} {base : Heap}
def sp_kinds (K : PySem.W.Frag) : Sp := fun vs H Q _ => ∃ (r : Addr) (hs : List HR) (bs : List BR), vs = [.ref r] ∧ RoomAt H r hs bs ∧ (∀ h ∈ hs, GoodHand h) ∧ hs.length ≤ 400 ∧ (∀ b ∈ bs, b.one < hs.length) ∧ bs.length ≤ 400 ∧
  ∀ (p : Addr) (t : List Nat) (H' : Hp), KindsOf hs bs t → H p = none → H' p = some (.tup (t.map nV)) → Same H H' → Q (.ref p) H'
theorem ok_kinds {f : Addr} {fd : FuncData} (F : Fun K "kinds" "kinds" s_kinds f fd) (T : Top K mg) : FnOk P w K mg base CX0 3 f fd ["room"] (sp_kinds K) := by
  obtain ⟨f_numbered, fd_numbered, F_numbered, b_numbered, m_numbered⟩ := T.d_numbered
  have G_numbered := ok_numbered (P := P) (w := w) (base := base) F_numbered T
  obtain ⟨f_first_mark, fd_first_mark, F_first_mark, b_first_mark, m_first_mark⟩ := T.d_first_mark
  have G_first_mark := ok_first_mark (P := P) (w := w) (base := base) F_first_mark T
  obtain ⟨f_mark_by, fd_mark_by, F_mark_by, b_mark_by, m_mark_by⟩ := T.d_mark_by
  have G_mark_by := ok_mark_by (P := P) (w := w) (base := base) F_mark_by T
  refine F.ok sc_kinds (fun vs H Q E h => ?_) (fun cdv A outer s H vs Q E hr h => ?_)
  · obtain ⟨r, hs, bs, rfl, _⟩ := h
    rfl
  obtain ⟨r, hs, bs, rfl, hR, gd, lh, ends, lb, q⟩ := h
  obtain ⟨ha, ba, hv, bv, er, eh, eb, alh, alb⟩ := hR.ex
  have lhv := alh.length
  refine ⟨_, (pss_cons (ps_set (i := 1) sc_kinds.nd rfl (Or.inl rfl) (pe_call G_numbered (hr.mono (by decide)) (by rfl) m_numbered F_numbered.kp b_numbered .nil pass0 (pa_cons (pe_lc (own := [("hand", 2), ("rule", 3), ("moments", 4)]) (g := gTup K 2 (gCons (gName 2) (gCons (gTup K 2 (gCons (gName 3) (gCons (gName 4) gNil))) gNil))) (tt := tYes) (by rfl) sc_kinds.nd (pi_enumT K rfl (by rfl) T.m_enumerate (pa_cons (pe_ix (ix_tupK K rfl) (pv 0) pe_int (fun _ _ => rfl)) pa_nil)) (blkOk_by (own := [("hand", 2), ("rule", 3), ("moments", 4)]) (N := N_kinds) (sc := defScope s_kinds) (by decide +kernel)) (fun _ _ _ _ _ => (pg_tupK K rfl rfl (pgs_cons (pg_name (i := 2) sc_kinds.nd rfl (Or.inl rfl)) (pgs_cons (pg_tupK K rfl rfl (pgs_cons (pg_name (i := 3) sc_kinds.nd rfl (Or.inl rfl)) (pgs_cons (pg_name (i := 4) sc_kinds.nd rfl (Or.inl rfl)) pgs_nil))) pgs_nil)))) (fun _ _ _ _ _ => pts_nil) (fun _ _ _ _ _ => (pe_call G_first_mark (hr.mono (by decide)) (by rfl) m_first_mark F_first_mark.kp b_first_mark .nil pass0 (pa_cons (pv 3) (pa_cons (pv 2) pa_nil))))) pa_nil)))
      (pss_cons (ps_set (i := 5) sc_kinds.nd rfl (Or.inr rfl) pe_non)
      (pss_cons (ps_while PassesOwn.never (pt_cmpR (op_neDK K rfl hr.units) (pv 1) (pv 5) (nomark _))
        (pss_cons (ps_set (i := 5) sc_kinds.nd rfl (Or.inr rfl) (pv 1))
      (pss_one (ps_set (i := 1) sc_kinds.nd rfl (Or.inl rfl) (pe_call G_numbered (hr.mono (by decide)) (by rfl) m_numbered F_numbered.kp b_numbered .nil pass0 (pa_cons (pe_lc (own := [("hand", 2)]) (g := gName 2) (tt := tYes) (by rfl) sc_kinds.nd (pi_range1 (by rfl) T.m_range (pa_cons (pe_callB (call_len_seqK K rfl) (by rfl) T.m_len (by decide +kernel) (pa_cons (pv 5) pa_nil)) pa_nil)) (blkOk_by (own := [("hand", 2)]) (N := N_kinds) (sc := defScope s_kinds) (by decide +kernel)) (fun _ _ _ _ _ => (pg_name (i := 2) sc_kinds.nd rfl (Or.inl rfl))) (fun _ _ _ _ _ => pts_nil) (fun _ _ _ _ _ => (pe_call G_mark_by (hr.mono (by decide)) (by rfl) m_mark_by F_mark_by.kp b_mark_by .nil pass0 (pa_cons (pv 0) (pa_cons (pv 5) (pa_cons (pv 2) pa_nil)))))) pa_nil))))))
      (pss_one (ps_ret (pv 1)))))), ?_⟩
  refine ⟨_, rfl, r, _, _, _, rfl, rfl, SqT.of er, atI_nat (j := 0) rfl, ha, hv, rfl, SqT.of eh, fun D nD => lc_it (J := IteT K ha hv) (n := hv.length) (fun i H5 => ∃ mv : List V, H5 D = some (.lst mv) ∧ All2 (MarkAt H5) mv ((List.range i).map (m1 hs)) ∧ Same H H5) ⟨[], upd_same, .nil, same_new nD⟩ ?_ ?_ ?_ ?_⟩
  · rintro i H5 hi ⟨mv, hD, al, s5⟩
    exact ⟨SqT.of (s5 _ _ eh), hi⟩
  · rintro H5 ⟨mv, hD, al, s5⟩
    exact ⟨SqT.of (s5 _ _ eh), rfl⟩
  · rintro i x H5 H6 hi ⟨mv, hD, al, s5⟩ ⟨t, y, rfl, nt, rfl, ey⟩
    obtain ⟨h, eh2, t2, rr, rfl, e1, e2⟩ := alh.getL ey
    have s6 := s5.trans (same_new (o := .tup [V.int ((i : Nat) : Int), V.ref t2]) nt)
    have hD6 := same_new (o := .tup [V.int ((i : Nat) : Int), V.ref t2]) nt _ _ hD
    have lm := al.length
    rw [List.length_map, List.length_range] at lm
    refine ⟨t, _, rfl, SqT.of upd_same, rfl, _, _, rfl, _, _, rfl, t2, _, rfl, SqT.of (s6 _ _ e1), rfl, _, _, rfl, _, _, rfl, rfl, rfl, rfl, yes_in ?_⟩
    refine ⟨_, rfl, _, rfl, rr, h, i, rfl, s6 _ _ e2, gd h (List.mem_of_getElem? eh2), fun p H7 kv s7 => ⟨_, s7 _ _ hD6, small1000 (by omega), mv ++ [.ref p], upd_same, ?_, Same.own (fun a o e => s7 _ _ (s6 _ _ e)) nD⟩⟩
    have k7 := (TK.new (o := .tup [V.int ((i : Nat) : Int), V.ref t2]) nt).trans ((TK.same s7).trans (TK.lst (ys := mv ++ [V.ref p]) (s7 _ _ hD6)))
    rw [List.range_succ, List.map_append]
    refine (al.imp fun _ _ z => z.keep k7).snoc ⟨p, rfl, ?_, ?_⟩
    · show NkV _ (m1 hs i) _
      unfold m1
      rw [eh2]
      exact kv.keep (TK.lst (s7 _ _ hD6))
    · show (m1 hs i).depth ≤ 8
      unfold m1
      rw [eh2]
      exact mark1_depth i h
  rintro H5 ⟨mv, hD, al, s5⟩
  rw [lhv] at al
  refine ⟨D, mv, _, rfl, hD, al, by rw [List.length_map, List.length_range]; omega, fun p l H6 no np hp s6 => ?_⟩
  have s16 := s5.trans s6
  have st := stage0 (bs := bs) no
  have pn : H p = none := same_none s5 np
  have ln : l.length = hs.length := st.len
  let W : Nat → L2.St → Hp → Prop := fun m σ H' => ∃ (p : Addr) (l : List Nat) (bv : V), σ = [some (.ref r), some (.ref p), none, none, none, some bv] ∧ H p = none ∧ H' p = some (.tup (l.map nV)) ∧ Same H H' ∧ Stage hs bs l ∧
    ((bv = .non ∧ m = 2 * cnt2 hs.length l + 1) ∨ ∃ (b : Addr) (t : List Nat), bv = .ref b ∧ H' b = some (.tup (t.map nV)) ∧ Stage hs bs t ∧ NumOf ((List.range t.length).map (mark2 t bs)) l ∧ m = 2 * cnt2 hs.length l + if l = t then 0 else 1)
  refine ⟨W, ⟨_, p, l, .non, rfl, pn, hp, s16, st, .inl ⟨rfl, rfl⟩⟩, ?_⟩
  clear np hp s6 no st pn s16 ln hD al s5
  rintro m σ H1 ⟨p, l, bv, rfl, pn, hp, s1, st, hb⟩
  have hb2 : ∃ e, Dp K H1 bv e ∧ SeqAt.shaped e = true ∧ ((PyData.eqv (.tuple (l.map fun n => PyData.int ((n : Nat) : Int))) e = true ∧ KindsOf hs bs l) ∨ (PyData.eqv (.tuple (l.map fun n => PyData.int ((n : Nat) : Int))) e = false ∧ 2 * cnt2 hs.length l + 1 ≤ m)) := by
    rcases hb with ⟨rfl, rfl⟩ | ⟨b, t, rfl, hbt, stt, no, rfl⟩
    · exact ⟨.none, .non, rfl, .inr ⟨rfl, Nat.le_refl _⟩⟩
    · refine ⟨.tuple (t.map fun n => PyData.int ((n : Nat) : Int)), .tup (SqT.of hbt) (dp_nats t), nats_shaped t, ?_⟩
      have ev : PyData.eqv (.tuple (l.map fun n => PyData.int ((n : Nat) : Int))) (.tuple (t.map fun n => PyData.int ((n : Nat) : Int))) = decide (l = t) := kinds_eqv l t
      rw [ev]
      by_cases h : l = t
      · subst h
        exact .inl ⟨decide_eq_true rfl, stt.done no⟩
      · exact .inr ⟨decide_eq_false h, by rw [if_neg h]; exact Nat.le_refl _⟩
  obtain ⟨e, d1, d2, alt⟩ := hb2
  refine ⟨_, rfl, _, rfl, _, e, .tup (SqT.of hp) (dp_nats l), d1, nats_shaped l, d2, _, rfl, ?_⟩
  rcases alt with ⟨z, kd⟩ | ⟨z, hm⟩ <;> rw [z]
  · exact if_bl (fun z => nomatch z) (fun _ => ⟨_, rfl, q p l H1 kd pn hp s1⟩)
  · refine if_bl (fun _ => ⟨fun σ' H' => ∃ m', m' < m ∧ W m' σ' H', fun _ _ z => z, ?_⟩) (fun z => nomatch z)
    have ll : (l.map nV).length = l.length := List.length_map ..
    have lh2 := st.len
    refine ⟨_, rfl, _, rfl, p, _, rfl, .inr (SqT.of hp), _, rfl, by omega, by omega, fun D nD => lc_range (lo := 0) (n := (l.map nV).length) (fun i H5 => ∃ mv : List V, H5 D = some (.lst mv) ∧ All2 (MarkAt H5) mv ((List.range i).map (mark2 l bs)) ∧ Same H1 H5) ⟨[], upd_same, .nil, same_new nD⟩ ?_ ?_⟩
    · rintro i H5 hi ⟨mv, hD, al, s5⟩
      have lm := al.length
      rw [List.length_map, List.length_range] at lm
      have s15 : Same H H5 := fun a o e => s5 _ _ (s1 _ _ e)
      refine ⟨rfl, yes_in ⟨_, rfl, _, rfl, _, rfl, r, p, hs, bs, l, i, congrArg (fun z => [V.ref r, V.ref p, V.int z]) (Int.zero_add _), hR.keep (TK.same s15), fun b hb => by rw [lh2]; exact ends b hb, lb, s5 _ _ hp, by omega, fun p2 H6 kv s6 => ?_⟩⟩
      refine ⟨_, s6 _ _ hD, small1000 (by omega), mv ++ [.ref p2], upd_same, ?_, Same.own (fun a o e => s6 _ _ (s5 _ _ e)) nD⟩
      have k7 := (TK.same s6).trans (TK.lst (ys := mv ++ [V.ref p2]) (s6 _ _ hD))
      rw [List.range_succ, List.map_append]
      exact (al.imp fun _ _ z => z.keep k7).snoc ⟨p2, rfl, kv.keep (TK.lst (s6 _ _ hD)), mark2_depth l bs i⟩
    · rintro H5 ⟨mv, hD, al, s5⟩
      rw [ll] at al
      refine ⟨D, mv, _, rfl, hD, al, by rw [List.length_map, List.length_range]; omega, fun p2 l2 H6 no np hp2 s6 => ?_⟩
      have s56 : Same H1 H6 := fun a o e => s6 _ _ (s5 _ _ e)
      refine ⟨_, ?_, p2, l2, .ref p, rfl, same_none s1 (same_none s5 np), hp2, fun a o e => s56 _ _ (s1 _ _ e), st.next ends no, .inr ⟨p, l, rfl, s56 _ _ hp, st, no, rfl⟩⟩
      by_cases h : l2 = l
      · rw [if_pos h, h]; omega
      · rw [if_neg h]
        have := st.less no h
        omega
end
/-! ### max, min of a list with a default -/
def rMaxDf (K : PySem.W.Frag) : List V → List V → Hp → VK → Prop := fun xs zs H Q => ∃ (a : Addr) (ns : List Int) (d : V), xs = [.ref a] ∧ zs = [d] ∧ SqL K H a (ns.map V.int) ∧ (ns = [] → Q d H) ∧ ∀ m, m ∈ ns → (∀ y ∈ ns, y ≤ m) → Q (.int m) H
def rMinDf (K : PySem.W.Frag) : List V → List V → Hp → VK → Prop := fun xs zs H Q => ∃ (a : Addr) (ns : List Int) (d : V), xs = [.ref a] ∧ zs = [d] ∧ SqL K H a (ns.map V.int) ∧ (ns = [] → Q d H) ∧ ∀ m, m ∈ ns → (∀ y ∈ ns, m ≤ y) → Q (.int m) H
theorem ints_val {ns : List Int} {its : List Value} (rv : Vals (ns.map V.int) its) : ∀ i v, its.toArray[i]? = some v → ∃ t, v = Value.int (ns.getD i 0) t := fun i v e => by
  rw [List.getElem?_toArray] at e
  have il : i < ns.length := by
    have h1 := (List.getElem?_eq_some_iff.mp e).1
    have h2 := rv.length
    rw [List.length_map] at h2
    omega
  obtain ⟨u, eu, t, ru⟩ := rv.get (i := i) (x := .int ns[i]) (by rw [List.getElem?_map, List.getElem?_eq_getElem il]; rfl)
  rw [e] at eu
  cases eu
  exact ⟨t, by rw [ru, List.getD_eq_getElem?_getD, List.getElem?_eq_getElem il]; rfl⟩
section
variable {X : Cx}
theorem cr_maxDf (K : PySem.W.Frag) (hk : X.K = K) (hc : X.calm = true) : CallRK X (.builtin "max") ["default"] (rMaxDf K) := by
  subst hk
  intro pins s σ H xs zs us ws Q I r r2 h
  obtain ⟨a, ns, d, rfl, rfl, hs, q0, q1⟩ := h
  obtain ⟨its, rv, hl, _⟩ := I.list hs
  rw [Vals.ref1 r]
  obtain ⟨dv, rfl, rd⟩ := vals1 r2
  have hh := I.ok.hd hc
  have ln : its.length = ns.length := by rw [← rv.length, List.length_map]
  show wpAny _ _ (call (.builtin "max") [.ref a] [(Str.ofString "default", dv)]) _ _ s
  refine PySem.call_max_walkD (PySem.W.iter_listW (A := X.A.in1) hh hl.isList fun s₂ e W st hfp hw hk => ?_)
  refine ⟨_, _, _, _, _, _, _, s.heap, (fun i j => decide (ns.getD i 0 > ns.getD j 0)), rfl, W, st, hfp, hw, hk, fun hz s' m => ?_, fun hp => ⟨fun i j vi vj s3 Q3 E3 _ p1 p2 q3 => ?_, fun v s' hP m => ?_⟩⟩
  · obtain ⟨h', tk, rfl, hk'⟩ := PySem.W.moved_old e rfl m
    refine ⟨d, H, I.kept hk', rd, q0 ?_⟩
    exact List.eq_nil_of_length_eq_zero (by have : its.toArray.size = 0 := hz; rw [List.size_toArray] at this; omega)
  · exact (CmpOf.ints_gt (fun i => ns.getD i 0) (ints_val rv)) i j vi vj s3 Q3 E3 p1 p2 q3
  · obtain ⟨h', tk, rfl, hk'⟩ := PySem.W.moved_old e rfl m
    have hp : 0 < its.length := by have : 0 < its.toArray.size := hp; rw [List.size_toArray] at this; exact this
    have hsz : its.toArray.size = its.length := List.size_toArray
    obtain ⟨t, rfl⟩ := ints_val rv _ v hP
    obtain ⟨h1, h2⟩ := argBest_gt (fun i => ns.getD i 0) (its.toArray.size - 1)
    refine ⟨.int _, H, I.kept hk', ⟨_, rfl⟩, q1 _ ?_ fun y hy => ?_⟩
    · have il : argBest (fun i j => decide (ns.getD i 0 > ns.getD j 0)) (its.toArray.size - 1) < ns.length := by omega
      rw [List.getD_eq_getElem?_getD, List.getElem?_eq_getElem il]
      exact List.getElem_mem _
    · obtain ⟨j, hj⟩ := List.getElem?_of_mem hy
      have jl := (List.getElem?_eq_some_iff.mp hj).1
      have := h2 j (by omega)
      rw [show ns.getD j 0 = y by rw [List.getD_eq_getElem?_getD, hj]; rfl] at this
      exact this
theorem cr_minDf (K : PySem.W.Frag) (hk : X.K = K) (hc : X.calm = true) : CallRK X (.builtin "min") ["default"] (rMinDf K) := by
  subst hk
  intro pins s σ H xs zs us ws Q I r r2 h
  obtain ⟨a, ns, d, rfl, rfl, hs, q0, q1⟩ := h
  obtain ⟨its, rv, hl, _⟩ := I.list hs
  rw [Vals.ref1 r]
  obtain ⟨dv, rfl, rd⟩ := vals1 r2
  have hh := I.ok.hd hc
  have ln : its.length = ns.length := by rw [← rv.length, List.length_map]
  show wpAny _ _ (call (.builtin "min") [.ref a] [(Str.ofString "default", dv)]) _ _ s
  refine PySem.call_min_walkD (PySem.W.iter_listW (A := X.A.in1) hh hl.isList fun s₂ e W st hfp hw hk => ?_)
  refine ⟨_, _, _, _, _, _, _, s.heap, (fun i j => decide (ns.getD i 0 < ns.getD j 0)), rfl, W, st, hfp, hw, hk, fun hz s' m => ?_, fun hp => ⟨fun i j vi vj s3 Q3 E3 _ p1 p2 q3 => ?_, fun v s' hP m => ?_⟩⟩
  · obtain ⟨h', tk, rfl, hk'⟩ := PySem.W.moved_old e rfl m
    refine ⟨d, H, I.kept hk', rd, q0 ?_⟩
    exact List.eq_nil_of_length_eq_zero (by have : its.toArray.size = 0 := hz; rw [List.size_toArray] at this; omega)
  · exact (CmpOf.ints_lt (fun i => ns.getD i 0) (ints_val rv)) i j vi vj s3 Q3 E3 p1 p2 q3
  · obtain ⟨h', tk, rfl, hk'⟩ := PySem.W.moved_old e rfl m
    have hp : 0 < its.length := by have : 0 < its.toArray.size := hp; rw [List.size_toArray] at this; exact this
    have hsz : its.toArray.size = its.length := List.size_toArray
    obtain ⟨t, rfl⟩ := ints_val rv _ v hP
    obtain ⟨h1, h2⟩ := argBest_lt (fun i => ns.getD i 0) (its.toArray.size - 1)
    refine ⟨.int _, H, I.kept hk', ⟨_, rfl⟩, q1 _ ?_ fun y hy => ?_⟩
    · have il : argBest (fun i j => decide (ns.getD i 0 < ns.getD j 0)) (its.toArray.size - 1) < ns.length := by omega
      rw [List.getD_eq_getElem?_getD, List.getElem?_eq_getElem il]
      exact List.getElem_mem _
    · obtain ⟨j, hj⟩ := List.getElem?_of_mem hy
      have jl := (List.getElem?_eq_some_iff.mp hj).1
      have := h2 j (by omega)
      rw [show ns.getD j 0 = y by rw [List.getD_eq_getElem?_getD, hj]; rfl] at this
      exact this
end
section
variable {P : Program} {w : World} {K : PySem.W.Frag} {mg : Str → Option Value} {base : Heap}
def sp_law_rows (K : PySem.W.Frag) : Sp := fun vs H Q _ => ∃ (f c r : Addr) (hs : List HR) (bs : List BR) (m : Int), vs = [.ref f, .ref r, .int m] ∧ 0 ≤ m ∧ m ≤ 100 ∧ Flow H f c ∧ RoomAt H r hs bs ∧ hs.length ≤ 12 ∧ (∀ h ∈ hs, GoodHand h) ∧
  ∀ (p : Addr) (rv : List V) (rows : List (List Int)) (H' : Hp), H p = none → H' p = some (.lst rv) → All2 (RowAt H') rv rows → rows.length = m.toNat → (∀ x ∈ rows, x.length = (doorsOf "in" hs).length ∧ ∀ y ∈ x, Small y) → Flow H' f c → But f H H' → Q (.ref p) H'
theorem ok_law_rows {f : Addr} {fd : FuncData} (F : Fun K "_law_rows" "_law_rows" s_law_rows f fd) (T : Top K mg) : FnOk P w K mg base CX0 3 f fd ["_law_flow_here", "_law_room_here", "_law_many"] (sp_law_rows K) := by
  obtain ⟨f_law_thing, fd_law_thing, F_law_thing, b_law_thing, m_law_thing⟩ := T.d_law_thing
  have G_law_thing := ok_law_thing (P := P) (w := w) (base := base) F_law_thing T
  refine F.ok sc_law_rows (fun vs H Q E h => ?_) (fun cdv A outer s H vs Q E hr h => ?_)
  · obtain ⟨f, c, r, hs, bs, m, rfl, _⟩ := h
    rfl
  obtain ⟨f, c, r, hs, bs, m, rfl, m0, m1, hF, hR, lh, good, q⟩ := h
  obtain ⟨ha, ba, hv, bv, er, eh, eb, alh, alb⟩ := hR.ex
  have lhv := alh.length
  refine ⟨_, (pss_cons (ps_set (i := 3) sc_law_rows.nd rfl (Or.inr rfl) (pe_lc (own := [("_law_hand", 4)]) (g := gName 4) (by rfl) sc_law_rows.nd (pi_tupK K rfl (pe_ix (ix_tupK K rfl) (pv 1) pe_int (fun _ _ => rfl))) (blkOk_by (own := [("_law_hand", 4)]) (N := N_law_rows) (sc := defScope s_law_rows) (by decide +kernel)) (fun _ _ _ _ _ => (pg_name (i := 4) sc_law_rows.nd rfl (Or.inl rfl))) (fun _ _ _ _ _ => pts_one (pt_cmpR (op_eqDK K rfl hr.units) (pe_ix (ix_tupK K rfl) (pv 4) pe_int (fun _ _ => rfl)) (pe_tup (pa_cons pe_str pa_nil)) (nomark _))) (fun _ _ _ _ _ => (pv 4))))
      (pss_one (ps_ret (pe_lc (own := [("_law_k", 6)]) (g := gName 6) (tt := tYes) (by rfl) sc_law_rows.nd (pi_range1 (by rfl) T.m_range (pa_cons (pv 2) pa_nil)) (blkOk_by (own := [("_law_k", 6)]) (N := N_law_rows) (sc := defScope s_law_rows) (by decide +kernel)) (fun _ _ _ _ _ => (pg_name (i := 6) sc_law_rows.nd rfl (Or.inl rfl))) (fun _ _ _ _ _ => pts_nil) (fun _ _ _ _ _ => (pe_callTy (call_tuple_ofK K rfl) (by rfl) T.m_tuple (by decide +kernel) (pa_cons (pe_lc (own := [("_law_door", 5)]) (g := gName 5) (tt := tYes) (by rfl) sc_law_rows.nd (pi_listK K rfl (pv 3)) (blkOk_by (own := [("_law_door", 5)]) (N := N_law_rows) (sc := { kind := .function, names := [(".0", .local), ("_law_k", .local), ("tuple", .globalImplicit), ("_law_doors", .cell), ("_law_flow_here", .cell)], isGenerator := false, isCoroutine := false }) (by decide +kernel)) (fun _ _ _ _ _ => (pg_name (i := 5) sc_law_rows.nd rfl (Or.inl rfl))) (fun _ _ _ _ _ => pts_nil) (fun _ _ _ _ _ => (pe_call G_law_thing (hr.mono (by decide)) (by rfl) m_law_thing F_law_thing.kp b_law_thing .nil pass0 (pa_cons (pv 0) pa_nil)))) pa_nil))))))), ?_⟩
  refine ⟨_, rfl, r, _, _, _, rfl, rfl, SqT.of er, atI_nat (j := 0) rfl, ha, rfl, ⟨_, SqT.of eh⟩, fun D nD => lc_tup (K := K) (a := ha) (xs := hv) (fun i H5 => ∃ dv : List V, H5 D = some (.lst dv) ∧ dv.length = ((List.range i).filter fun j => decide (hs[j]?.map HR.wd = some ("in" : Str))).length ∧ Same H H5) ⟨[], upd_same, rfl, same_new nD⟩ (fun i H5 _ ⟨_, _, _, s5⟩ => SqT.of (s5 _ _ eh)) ?_ ?_⟩
  · rintro i x H5 hx ⟨dv, hD, ld, s5⟩
    obtain ⟨hh, eb2, ⟨t2, g, rfl, e1, e2⟩⟩ := alh.getL hx
    have il := (List.getElem?_eq_some_iff.mp eb2).1
    have gh := good _ (List.mem_of_getElem? eb2)
    have few := filt_len (p := fun j => decide (hs[j]?.map HR.wd = some ("in" : Str))) i
    refine ⟨rfl, _, rfl, t2, _, _, _, rfl, rfl, SqT.of (s5 _ _ e1), atI_nat (j := 0) rfl, (by show 1 ≤ sizeLine; decide), fun o1 no1 => ?_⟩
    have s6 := s5.trans (same_new (o := .tup [V.str "in"]) no1)
    have hD6 := same_new (o := .tup [V.str "in"]) no1 _ _ hD
    refine ⟨_, _, rule_dp (s6 _ _ e2), .tup (SqT.of upd_same) (.cons (.str _) .nil), rule_shaped gh.lay, one_shaped (by decide +kernel), _, rfl, ?_⟩
    rw [rule_eqv, gh.door "in" (.inl rfl)]
    by_cases cc : hh.wd = "in"
    · rw [decide_eq_true cc]
      refine if_bl (fun _ => ⟨_, rfl, dv, hD6, small1000 (by omega), _, upd_same, ?_, Same.own s6 nD⟩) (fun z => nomatch z)
      rw [filt_succ, if_pos (decide_eq_true (by rw [eb2, ← cc]; rfl)), List.length_append, List.length_append, ld]
      rfl
    · rw [decide_eq_false cc]
      refine if_bl (fun z => nomatch z) (fun _ => ⟨dv, hD6, ?_, s6⟩)
      rw [filt_succ, if_neg fun z => cc (by have := of_decide_eq_true z; rw [eb2] at this; exact Option.some.inj this), List.append_nil]
      exact ld
  · rintro H5 ⟨dv, hD, ld, s5⟩
    rw [lhv] at ld
    have ld : dv.length = (doorsOf "in" hs).length := ld
    have ldl := doors_len (z := "in") (hs := hs)
    have F5 := hF.same s5
    have df : D ≠ f := hF.ne nD
    refine ⟨_, rfl, _, rfl, by omega, by omega, fun L nL => lc_range (lo := 0) (n := m.toNat) (fun i H6 => ∃ (rv : List V) (rows : List (List Int)), H6 L = some (.lst rv) ∧ H6 D = some (.lst dv) ∧ All2 (RowAt H6) rv rows ∧ rows.length = i ∧ (∀ x ∈ rows, x.length = (doorsOf "in" hs).length ∧ ∀ y ∈ x, Small y) ∧ Flow H6 f c ∧ But f H5 H6) ⟨[], [], upd_same, same_new nL _ _ hD, .nil, rfl, (fun _ z => nomatch z), F5.new nL, But.refl.new nL⟩ ?_ ?_⟩
    · rintro i H6 hi ⟨rv, rows, hL, hD6, al, lr, ok, F6, B6⟩
      refine ⟨rfl, yes_in ⟨_, rfl, D, rfl, ⟨_, SqL.of hD6⟩, fun M nM => lc_list (K := K) (a := D) (xs := dv) (fun j H7 => ∃ vs : List Int, vs.length = j ∧ H7 M = some (.lst (vs.map V.int)) ∧ (∀ y ∈ vs, Small y) ∧ H7 D = some (.lst dv) ∧ Flow H7 f c ∧ But f H6 H7) ⟨[], rfl, upd_same, (fun _ z => nomatch z), same_new nM _ _ hD6, F6.new nM, But.refl.new nM⟩ (fun j H7 _ ⟨_, _, _, _, h, _⟩ => SqL.of h) ?_ ?_⟩⟩
      · rintro j x H7 hx ⟨vs, lv, hM, sm, hD7, F7, B7⟩
        have jl := (List.getElem?_eq_some_iff.mp hx).1
        have mf : M ≠ f := F6.ne nM
        have mc : M ≠ c := F6.nec nM
        have md : D ≠ M := ne_of_none hD6 nM
        refine ⟨rfl, yes_in ⟨_, rfl, f, c, rfl, F7, fun y H8 sy F8 B8 => ⟨_, B8 _ _ hM mf, ?_, vs ++ [y], by rw [List.length_append, lv]; rfl, ?_, ?_, ?_, F8.lst mf mc, (B7.trans B8).own nM⟩⟩⟩
        · rw [List.length_map, lv]; exact small1000 (by omega)
        · rw [upd_same, List.map_append]; rfl
        · intro z hz
          rcases List.mem_append.mp hz with hz | hz
          · exact sm z hz
          · obtain rfl : z = y := by simpa using hz
            exact sy
        · rw [upd_ne md]; exact B8 _ _ hD7 df
      · rintro H7 ⟨vs, lv, hM, sm, hD7, F7, B7⟩
        have lf : L ≠ f := F5.ne nL
        have lc : L ≠ c := F5.nec nL
        refine ⟨M, _, rfl, .inl ⟨SqL.of hM, fun p np => ?_⟩⟩
        have hL7 := same_new (o := .tup (vs.map V.int)) np _ _ (B7 _ _ hL lf)
        refine ⟨rv, hL7, by rw [al.length, lr]; exact small1000 (by omega), rv ++ [V.ref p], rows ++ [vs], upd_same, ?_, ?_, by rw [List.length_append, lr]; rfl, ?_, (F7.new np).lst lf lc, ?_⟩
        · rw [upd_ne (ne_of_none hD nL)]; exact same_new np _ _ hD7
        · exact ((al.imp fun _ _ z => z.keep ((TK.but F6 B7).trans (TK.new np))).snoc ⟨p, rfl, upd_same⟩).imp fun _ _ z => z.keep (TK.lst hL7)
        · intro x hx
          rcases List.mem_append.mp hx with hx | hx
          · exact ok x hx
          · obtain rfl : x = vs := by simpa using hx
            exact ⟨by rw [lv, ld], sm⟩
        · exact ((B6.trans B7).new np).own nL
    · rintro H6 ⟨rv, rows, hL, hD6, al, lr, ok, F6, B6⟩
      exact q L rv rows H6 (same_none s5 nL) hL al lr ok F6 ((But.of s5).trans B6)
end
/-! ### standing on, going on -/
theorem mt_indexK {X : Cx} (K : PySem.W.Frag) (h : X.K = K) : MtR X "list.index" (rIndex K) := by subst h; exact mt_index
theorem stand_app (bs : List BR) (m1 m2 : List (List Int)) : stand (stand bs m1) m2 = stand bs (m1 ++ m2) := by
  have key : ∀ t, stand (stand bs m1) (m2.take t) = stand bs (m1 ++ m2.take t) := by
    intro t
    induction t with
    | zero => rw [List.take_zero, stand_zero, List.append_nil]
    | succ t ih =>
      rw [List.take_add_one]
      cases e : m2[t]? with
      | none => rw [Option.toList, List.append_nil]; exact ih
      | some m =>
        rw [Option.toList, ← stand_next, ih, stand_next, List.append_assoc]
  have := key m2.length
  rw [List.take_length] at this
  exact this
theorem WS.app {hs : List HR} {bs : List BR} {r1 r2 m1 m2 : List (List Int)} (a : WS hs bs r1 m1) (b : WS hs (stand bs m1) r2 m2) : WS hs bs (r1 ++ r2) (m1 ++ m2) := by
  have key : ∀ t, WS hs bs (r1 ++ r2.take t) (m1 ++ m2.take t) := by
    intro t
    induction t with
    | zero => rw [List.take_zero, List.take_zero, List.append_nil, List.append_nil]; exact a
    | succ t ih =>
      rw [List.take_add_one, List.take_add_one]
      by_cases l : t < r2.length
      · have l2 : t < m2.length := by have := b.len; omega
        have e1 : r2[t]? = some r2[t] := List.getElem?_eq_getElem l
        have e2 : m2[t]? = some m2[t] := List.getElem?_eq_getElem l2
        have q := b.at_ t _ _ e1 e2
        rw [stand_app] at q
        rw [e1, e2, Option.toList, Option.toList, ← List.append_assoc, ← List.append_assoc]
        exact ih.snoc q
      · rw [List.getElem?_eq_none (by omega), List.getElem?_eq_none (by have := b.len; omega), Option.toList, List.append_nil, List.append_nil]
        exact ih
  have := key r2.length
  rw [List.take_length, List.take_of_length_le (by rw [b.len]; exact Nat.le_refl _)] at this
  exact this
theorem RoomOk.standing {hs : List HR} {bs : List BR} (ok : RoomOk hs bs) (ms : List (List Int)) : RoomOk hs (stand bs ms) := by
  obtain ⟨rk, hrk⟩ := ok.rank
  refine ⟨ok.hands, ok.good, (ok.bell ms).ends, fun b hb h e => ?_, fun b hb => ?_, ⟨rk, fun b hb e => ?_⟩, (ok.bell ms).count, (ok.bell ms).belts⟩
  all_goals obtain ⟨c, hc, rfl⟩ := List.mem_map.mp hb
  · rw [stand_one] at e
    exact ok.out c hc h e
  · rw [stand_len]
    exact ok.th c hc
  · rw [stand_one, stand_to]
    exact hrk c hc ((stand_th ms c).mp e)
theorem All2.app {α β : Type} {R : α → β → Prop} {cs : List α} {ds : List β} (b : All2 R cs ds) : ∀ {as : List α} {bs : List β}, All2 R as bs → All2 R (as ++ cs) (bs ++ ds)
  | _, _, .nil => b
  | _, _, .cons h t => .cons h (b.app t)
theorem belts_lay : ∀ bs : List BR, PyData.canLayAll0 (bs.map beltD) = true
  | [] => rfl
  | b :: bs => by
    rw [List.map_cons]
    simp only [PyData.canLayAll0]
    rw [belt_lay, belts_lay bs]
    rfl
theorem belts_dep : ∀ bs : List BR, PyData.depthAll (bs.map beltD) ≤ 2
  | [] => Nat.zero_le _
  | b :: bs => by
    rw [List.map_cons]
    have h1 := belts_dep bs
    have h2 := dep_ints b.th
    simp only [PyData.depthAll, PyData.depth] at h1 h2 ⊢
    omega
theorem room_lay {hs : List HR} {bs : List BR} (g : ∀ h ∈ hs, GoodHand h) : PyData.canLay0 (roomD hs bs) = true := by
  have h1 := (hands_neat g).lay
  have h2 := belts_lay bs
  simp only [PyData.canLay0, PyData.canLayAll0] at h1 h2 ⊢
  rw [h1, h2]
  rfl
theorem room_shaped {hs : List HR} {bs : List BR} (g : ∀ h ∈ hs, GoodHand h) : SeqAt.shaped (roomD hs bs) = true := by
  unfold SeqAt.shaped
  rw [room_lay g, Bool.true_and]
  refine decide_eq_true ?_
  have h1 := (hands_neat g).dep
  have h2 := belts_dep bs
  simp only [PyData.depth, PyData.depthAll] at h1 h2 ⊢
  omega
theorem row_lay (m : List Int) : PyData.canLay0 (rowD m) = true := by
  simp only [PyData.canLay0, lay_ints]
theorem row_shaped (m : List Int) : SeqAt.shaped (rowD m) = true := by
  unfold SeqAt.shaped
  rw [row_lay, Bool.true_and]
  refine decide_eq_true ?_
  simp only [PyData.depth]
  have := dep_ints m
  omega
/-! ### a room turned: its hands in another order -/
def ren (ord : List Nat) (b : BR) : BR := ⟨ord.idxOf b.one, ord.idxOf b.to, b.th⟩
structure Turned (hs : List HR) (bs : List BR) (ord : List Nat) (hs' : List HR) (bs' : List BR) : Prop where
  perm : ord.Perm (List.range hs.length)
  hlen : hs'.length = ord.length
  hand : ∀ j k : Nat, ord[j]? = some k → hs'[j]? = hs[k]?
  len : bs'.length = bs.length
  of : ∀ b' ∈ bs', ∃ b ∈ bs, b' = ren ord b
  at_ : ∀ k, k < hs.length → bs'.filter (fun b => decide (b.to = ord.idxOf k)) = (bs.filter fun b => decide (b.to = k)).map (ren ord)
theorem rest_pop {p : BR → Bool} {x : BR} {t : List BR} : ∀ {rest : List BR}, rest.filter p = x :: t → ∃ rest' : List BR, rest'.length + 1 = rest.length ∧ rest'.filter p = t ∧ (∀ q : BR → Bool, q x = false → rest'.filter q = rest.filter q) ∧ (∀ b ∈ rest', b ∈ rest)
  | [], h => nomatch h
  | a :: l, h => by
    cases e : p a with
    | true =>
      rw [List.filter_cons_of_pos e] at h
      injection h with h1 h2
      refine ⟨l, rfl, h2, fun q hq => ?_, fun b hb => List.mem_cons_of_mem _ hb⟩
      rw [List.filter_cons_of_neg (by rw [h1, hq]; exact Bool.false_ne_true)]
    | false =>
      rw [List.filter_cons_of_neg (by rw [e]; exact Bool.false_ne_true)] at h
      obtain ⟨r, h1, h2, h3, h4⟩ := rest_pop h
      refine ⟨a :: r, congrArg (· + 1) h1, ?_, fun q hq => ?_, fun b hb => ?_⟩
      · rw [List.filter_cons_of_neg (by rw [e]; exact Bool.false_ne_true), h2]
      · rw [List.filter_cons, List.filter_cons, h3 q hq]
      · rcases List.mem_cons.mp hb with z | z
        · rw [z]; exact List.mem_cons_self ..
        · exact List.mem_cons_of_mem _ (h4 b z)
structure Mid (n : Nat) (bs : List BR) (ord : List Nat) (found rest : List BR) : Prop where
  len : found.length + rest.length = bs.length
  of : ∀ b' ∈ found, ∃ b ∈ bs, b' = ren ord b
  sub : ∀ b ∈ rest, b ∈ bs
  at_ : ∀ k, k < n → found.filter (fun b => decide (b.to = ord.idxOf k)) ++ (rest.filter fun b => decide (b.to = k)).map (ren ord) = (bs.filter fun b => decide (b.to = k)).map (ren ord)
theorem Mid.zero {n : Nat} {bs : List BR} {ord : List Nat} : Mid n bs ord [] bs := ⟨Nat.zero_add _, (fun _ z => nomatch z), (fun _ z => z), fun _ _ => rfl⟩
theorem idx_inj {l : List Nat} {a b : Nat} (ha : a ∈ l) (h : l.idxOf a = l.idxOf b) (hb : b ∈ l) : a = b := by
  have i1 := List.idxOf_lt_length_of_mem ha
  have i2 := List.idxOf_lt_length_of_mem hb
  have e1 := List.getElem_idxOf i1
  have e2 := List.getElem_idxOf i2
  rw [← e1, ← e2]
  simp only [h]
theorem Mid.step {n : Nat} {bs : List BR} {ord : List Nat} {found rest t : List BR} {x : BR} {k0 : Nat} (h : Mid n bs ord found rest) (pm : ∀ k, k < n → k ∈ ord) (k0n : k0 < n) (e : rest.filter (fun b => decide (b.to = k0)) = x :: t) :
    ∃ rest' : List BR, Mid n bs ord (found ++ [ren ord x]) rest' ∧ rest'.length + 1 = rest.length ∧ rest'.filter (fun b => decide (b.to = k0)) = t ∧ ∀ k, k ≠ k0 → rest'.filter (fun b => decide (b.to = k)) = rest.filter fun b => decide (b.to = k) := by
  have hx : x ∈ rest.filter (fun b => decide (b.to = k0)) := by rw [e]; exact List.mem_cons_self ..
  have xr := (List.mem_filter.mp hx).1
  have xt : x.to = k0 := of_decide_eq_true (List.mem_filter.mp hx).2
  obtain ⟨r, h1, h2, h3, h4⟩ := rest_pop e
  have h3' : ∀ k, k ≠ k0 → r.filter (fun b => decide (b.to = k)) = rest.filter fun b => decide (b.to = k) := fun k hk => h3 _ (decide_eq_false fun z => hk (z.symm.trans xt))
  refine ⟨r, ⟨?_, fun b hb => ?_, fun b hb => h.sub b (h4 b hb), fun k hk => ?_⟩, h1, h2, h3'⟩
  · have := h.len
    rw [List.length_append]
    show found.length + 1 + r.length = _
    omega
  · rcases List.mem_append.mp hb with z | z
    · exact h.of b z
    · rw [List.mem_singleton.mp z]; exact ⟨x, h.sub x xr, rfl⟩
  · rw [List.filter_append]
    have q := h.at_ k hk
    by_cases ek : k = k0
    · subst ek
      rw [e, List.map_cons] at q
      rw [h2, List.filter_cons_of_pos (by rw [show (ren ord x).to = ord.idxOf x.to from rfl, xt]; exact decide_eq_true rfl), List.filter_nil, List.append_assoc]
      exact q
    · rw [h3' k ek, List.filter_cons_of_neg, List.filter_nil, List.append_nil]
      · exact q
      · rw [decide_eq_true_eq, show (ren ord x).to = ord.idxOf x.to from rfl, xt]
        exact fun z => ek (idx_inj (pm k0 k0n) z (pm k hk)).symm
theorem Mid.some {n : Nat} {bs : List BR} {ord : List Nat} {found rest : List BR} (h : Mid n bs ord found rest) (ends : ∀ b ∈ bs, b.to < n) (l : found.length < bs.length) : ∃ k, k < n ∧ rest.filter (fun b => decide (b.to = k)) ≠ [] := by
  have hl := h.len
  cases er : rest with
  | nil => rw [er] at hl; simp at hl; omega
  | cons b r =>
    have hb : b ∈ rest := by rw [er]; exact List.mem_cons_self ..
    refine ⟨b.to, ends b (h.sub b hb), fun z => ?_⟩
    have y : b ∈ (b :: r).filter (fun a => decide (a.to = b.to)) := List.mem_filter.mpr ⟨List.mem_cons_self .., decide_eq_true rfl⟩
    rw [z] at y
    cases y
/-! #### what a turned room keeps -/
theorem Turned.mem {hs : List HR} {bs : List BR} {ord : List Nat} {hs' : List HR} {bs' : List BR} (t : Turned hs bs ord hs' bs') {k : Nat} : k ∈ ord ↔ k < hs.length := by
  rw [t.perm.mem_iff, List.mem_range]
theorem Turned.nd {hs : List HR} {bs : List BR} {ord : List Nat} {hs' : List HR} {bs' : List BR} (t : Turned hs bs ord hs' bs') : ord.Nodup := t.perm.nodup_iff.mpr List.nodup_range
theorem Turned.olen {hs : List HR} {bs : List BR} {ord : List Nat} {hs' : List HR} {bs' : List BR} (t : Turned hs bs ord hs' bs') : ord.length = hs.length := by
  rw [t.perm.length_eq, List.length_range]
theorem Turned.back {hs : List HR} {bs : List BR} {ord : List Nat} {hs' : List HR} {bs' : List BR} (t : Turned hs bs ord hs' bs') {k : Nat} (h : k < hs.length) : ord[ord.idxOf k]? = some k := by
  have il := List.idxOf_lt_length_of_mem (t.mem.mpr h)
  rw [List.getElem?_eq_getElem il, List.getElem_idxOf]
theorem Turned.lt {hs : List HR} {bs : List BR} {ord : List Nat} {hs' : List HR} {bs' : List BR} (t : Turned hs bs ord hs' bs') {k : Nat} (h : k < hs.length) : ord.idxOf k < hs'.length := by
  rw [t.hlen]; exact List.idxOf_lt_length_of_mem (t.mem.mpr h)
theorem Turned.pre {hs : List HR} {bs : List BR} {ord : List Nat} {hs' : List HR} {bs' : List BR} (t : Turned hs bs ord hs' bs') {j : Nat} {h : HR} (e : hs'[j]? = some h) : ∃ k, ord[j]? = some k ∧ hs[k]? = some h ∧ k < hs.length ∧ ord.idxOf k = j := by
  have jl := (List.getElem?_eq_some_iff.mp e).1
  have jo : j < ord.length := by rw [← t.hlen]; exact jl
  have ek : ord[j]? = some ord[j] := List.getElem?_eq_getElem jo
  exact ⟨_, ek, (t.hand _ _ ek).symm.trans e, t.mem.mp (List.mem_of_getElem? ek), idx_at t.nd ek⟩
theorem count_filter (bs : List BR) (k : Nat) : (bs.map BR.to).count k = (bs.filter fun b => decide (b.to = k)).length := by
  induction bs with
  | nil => rfl
  | cons b bs ih =>
    rw [List.map_cons, List.count_cons, List.filter_cons, ih]
    by_cases e : b.to = k
    · rw [if_pos (by simp [e]), if_pos (by simp [e])]; rfl
    · rw [if_neg (by simp [e]), if_neg (by simp [e])]; rfl
theorem Turned.ok {hs : List HR} {bs : List BR} {ord : List Nat} {hs' : List HR} {bs' : List BR} (t : Turned hs bs ord hs' bs') (ok : RoomOk hs bs) : RoomOk hs' bs' := by
  obtain ⟨rk, hrk⟩ := ok.rank
  have lh := ok.hands
  have lo := t.olen
  have hl := t.hlen
  refine ⟨by omega, fun h hh => ?_, fun b' hb => ?_, fun b' hb h e => ?_, fun b' hb => ?_, ⟨fun j => rk (ord.getD j 0), fun b' hb e => ?_⟩, fun j h e => ?_, by rw [t.len]; exact ok.many⟩
  · obtain ⟨j, ej⟩ := List.getElem?_of_mem hh
    obtain ⟨k, _, e2, _⟩ := t.pre ej
    exact ok.good h (List.mem_of_getElem? e2)
  · obtain ⟨b, hbm, rfl⟩ := t.of b' hb
    exact ⟨t.lt (ok.ends b hbm).1, t.lt (ok.ends b hbm).2⟩
  · obtain ⟨b, hbm, rfl⟩ := t.of b' hb
    obtain ⟨k, e1, e2, e3, e4⟩ := t.pre e
    have : ord[ord.idxOf b.one]? = some b.one := t.back (ok.ends b hbm).1
    rw [show (ren ord b).one = ord.idxOf b.one from rfl, this] at e1
    cases e1
    exact ok.out b hbm h e2
  · obtain ⟨b, hbm, rfl⟩ := t.of b' hb
    exact ok.th b hbm
  · obtain ⟨b, hbm, rfl⟩ := t.of b' hb
    show rk (ord.getD (ord.idxOf b.one) 0) < rk (ord.getD (ord.idxOf b.to) 0)
    rw [List.getD_eq_getElem?_getD, List.getD_eq_getElem?_getD, t.back (ok.ends b hbm).1, t.back (ok.ends b hbm).2]
    exact hrk b hbm e
  · obtain ⟨k, e1, e2, e3, e4⟩ := t.pre e
    have q := ok.count k h e2
    rw [count_filter] at q ⊢
    have z := t.at_ k e3
    rw [e4] at z
    rw [z, List.length_map]
    exact q
/-- a bell's things, in the other order -/
abbrev turn (ord : List Nat) (m : List Int) : List Int := ord.map (gD m)
theorem turn_at {ord : List Nat} {m : List Int} {k : Nat} (h : k ∈ ord) : gD (turn ord m) (ord.idxOf k) = gD m k := by
  have il := List.idxOf_lt_length_of_mem h
  show (ord.map (gD m)).getD (ord.idxOf k) 0 = _
  rw [List.getD_eq_getElem?_getD, List.getElem?_map, List.getElem?_eq_getElem il, List.getElem_idxOf]
  rfl
theorem ren_stand {ord : List Nat} {ms : List (List Int)} {b : BR} (h : b.one ∈ ord) : standB (ms.map (turn ord)) (ren ord b) = ren ord (standB ms b) := by
  unfold standB
  by_cases e : b.th = []
  · rw [if_pos e, if_pos (show (ren ord b).th = [] from e)]
  · rw [if_neg e, if_neg (show ¬ (ren ord b).th = [] from e)]
    show (⟨ord.idxOf b.one, ord.idxOf b.to, (b.th ++ (ms.map (turn ord)).map fun m => gD m (ord.idxOf b.one)).drop (ms.map (turn ord)).length⟩ : BR) = ⟨ord.idxOf b.one, ord.idxOf b.to, (b.th ++ ms.map fun m => gD m b.one).drop ms.length⟩
    rw [List.length_map, List.map_map]
    congr 4
    funext m
    exact turn_at h
theorem Turned.stand {hs : List HR} {bs : List BR} {ord : List Nat} {hs' : List HR} {bs' : List BR} (t : Turned hs bs ord hs' bs') (ends : ∀ b ∈ bs, b.one < hs.length) (ms : List (List Int)) : Turned hs (Mine.stand bs ms) ord hs' (Mine.stand bs' (ms.map (turn ord))) := by
  refine ⟨t.perm, t.hlen, t.hand, by rw [List.length_map, List.length_map]; exact t.len, fun b' hb => ?_, fun k hk => ?_⟩
  · obtain ⟨c', hc, rfl⟩ := List.mem_map.mp hb
    obtain ⟨b, hbm, rfl⟩ := t.of c' hc
    exact ⟨standB ms b, List.mem_map.mpr ⟨b, hbm, rfl⟩, ren_stand (t.mem.mpr (ends b hbm))⟩
  · rw [List.filter_map, List.filter_map, List.map_map]
    have e1 : ((fun b : BR => decide (b.to = ord.idxOf k)) ∘ standB (ms.map (turn ord))) = fun b => decide (b.to = ord.idxOf k) := by
      funext b
      show decide ((standB _ b).to = _) = _
      rw [stand_to]
    have e2 : ((fun b : BR => decide (b.to = k)) ∘ standB ms) = fun b => decide (b.to = k) := by
      funext b
      show decide ((standB _ b).to = _) = _
      rw [stand_to]
    rw [e1, e2, t.at_ k hk, List.map_map]
    refine List.map_congr_left fun b hb => ?_
    exact ren_stand (t.mem.mpr (ends b (List.mem_filter.mp hb).1))
def turnRow (hs : List HR) (ord : List Nat) (hs' : List HR) (x : List Int) : List Int := ((doorsOf "in" hs').map fun j => ord.getD j 0).map fun k => x.getD ((doorsOf "in" hs).idxOf k) 0
theorem Turned.bell {hs : List HR} {bs : List BR} {ord : List Nat} {hs' : List HR} {bs' : List BR} (t : Turned hs bs ord hs' bs') (ends : ∀ b ∈ bs, b.one < hs.length) {ins m : List Int} (li : ins.length = (doorsOf "in" hs).length) (h : IsBell hs bs ins m) : IsBell hs' bs' (turnRow hs ord hs' ins) (turn ord m) := by
  have lm := h.len
  refine ⟨by rw [List.length_map]; exact t.hlen.symm, fun j k e => ?_, fun j g e w => ?_⟩
  · obtain ⟨g, e1, e2⟩ := mem_doors.mp (List.mem_of_getElem? e)
    obtain ⟨k0, f1, f2, f3, f4⟩ := t.pre e1
    unfold turnRow
    rw [List.getElem?_map, f1, List.map_map, List.getElem?_map, e]
    show some (gD m k0) = some (ins.getD ((doorsOf "in" hs).idxOf (ord.getD k 0)) 0)
    rw [List.getD_eq_getElem?_getD (l := ord), f1]
    show some (m.getD k0 0) = some (ins.getD ((doorsOf "in" hs).idxOf k0) 0)
    have dm : k0 ∈ doorsOf "in" hs := mem_doors.mpr ⟨g, f2, e2⟩
    have il := List.idxOf_lt_length_of_mem dm
    have q := h.door ((doorsOf "in" hs).idxOf k0) k0 (by rw [List.getElem?_eq_getElem il, List.getElem_idxOf])
    rw [List.getD_eq_getElem?_getD, List.getD_eq_getElem?_getD, q]
  · obtain ⟨k0, f1, f2, f3, f4⟩ := t.pre e
    have q := h.hand k0 g f2 w
    rw [List.getElem?_map, f1]
    show some (m.getD k0 0) = _
    rw [List.getD_eq_getElem?_getD, q]
    show some (mkR g (takes bs (gD m) k0)) = _
    congr 2
    unfold takes
    have z := t.at_ k0 f3
    rw [f4] at z
    rw [z, List.map_map]
    refine List.map_congr_left fun b hb => ?_
    have bo := t.mem.mpr (ends b (List.mem_filter.mp hb).1)
    show valB (gD m) b = valB (gD (turn ord m)) (ren ord b)
    unfold valB
    show _ = match b.th with | [] => gD (turn ord m) (ord.idxOf b.one) | x :: _ => x
    cases b.th with
    | nil => exact (turn_at bo).symm
    | cons x l => rfl
theorem Turned.ws {hs : List HR} {bs : List BR} {ord : List Nat} {hs' : List HR} {bs' : List BR} (t : Turned hs bs ord hs' bs') (ends : ∀ b ∈ bs, b.one < hs.length) {rows ms : List (List Int)} (li : ∀ x ∈ rows, x.length = (doorsOf "in" hs).length) (h : WS hs bs rows ms) : WS hs' bs' (rows.map (turnRow hs ord hs')) (ms.map (turn ord)) := by
  refine ⟨by rw [List.length_map, List.length_map]; exact h.len, fun i r m e1 e2 => ?_⟩
  rw [List.getElem?_map] at e1 e2
  cases er : rows[i]? with
  | none => rw [er] at e1; cases e1
  | some x =>
  cases em : ms[i]? with
  | none => rw [em] at e2; cases e2
  | some y =>
  rw [er] at e1
  rw [em] at e2
  cases e1
  cases e2
  rw [← List.map_take]
  refine (t.stand ends (ms.take i)).bell (fun b hb => ?_) (li x (List.mem_of_getElem? er)) (h.at_ i x y er em)
  obtain ⟨c, hc, rfl⟩ := List.mem_map.mp hb
  rw [stand_one]
  exact ends c hc
/-! ### the queues of a turned room -/
structure QsAt (H0 H : Hp) (od ql : Addr) (qa : Nat → Addr) (n : Nat) (rest : List BR) : Prop where
  hq : H ql = some (.lst ((List.range n).map fun k => V.ref (qa k)))
  at_ : ∀ k, k < n → ∃ vs : List V, H (qa k) = some (.lst vs) ∧ All2 (BeltAt H) vs (rest.filter fun b => decide (b.to = k))
  inj : ∀ k m, k < n → m < n → qa k = qa m → k = m
  old : ∀ k, k < n → H0 (qa k) = none
  nod : ∀ k, k < n → qa k ≠ od ∧ qa k ≠ ql
  ql0 : H0 ql = none ∧ ql ≠ od
theorem QsAt.get {H0 H : Hp} {od ql : Addr} {qa : Nat → Addr} {n : Nat} {rest : List BR} {k : Nat} (h : k < n) : ((List.range n).map fun k => V.ref (qa k))[k]? = some (V.ref (qa k)) := by
  rw [List.getElem?_map, List.getElem?_range h]; rfl
theorem QsAt.go {H0 H H' : Hp} {od ql : Addr} {qa : Nat → Addr} {n : Nat} {rest : List BR} (t : QsAt H0 H od ql qa n rest) (e1 : H' ql = H ql) (e2 : ∀ k, k < n → H' (qa k) = H (qa k)) (kk : TK H H') : QsAt H0 H' od ql qa n rest := by
  refine ⟨e1.trans t.hq, fun k hk => ?_, t.inj, t.old, t.nod, t.ql0⟩
  obtain ⟨vs, h1, h2⟩ := t.at_ k hk
  exact ⟨vs, (e2 k hk).trans h1, h2.imp fun _ _ z => z.keep kk⟩
theorem QsAt.same {H0 H H' : Hp} {od ql : Addr} {qa : Nat → Addr} {n : Nat} {rest : List BR} (t : QsAt H0 H od ql qa n rest) (s : Same H H') : QsAt H0 H' od ql qa n rest := by
  refine t.go ((s _ _ t.hq).trans t.hq.symm) (fun k hk => ?_) (TK.same s)
  obtain ⟨vs, h1, _⟩ := t.at_ k hk
  exact (s _ _ h1).trans h1.symm
theorem QsAt.more {H0 H H' : Hp} {od ql D2 : Addr} {qa : Nat → Addr} {j : Nat} {rest : List BR} {vs : List V} (t : QsAt H0 H od ql qa j rest) (n2 : H D2 = none) (s : Same H H') (h2 : H' D2 = some (.lst vs)) (al : All2 (BeltAt H') vs (rest.filter fun b => decide (b.to = j))) (z0 : H0 D2 = none) (nod : D2 ≠ od) :
    QsAt H0 (upd H' ql (.lst (((List.range j).map fun k => V.ref (qa k)) ++ [.ref D2]))) od ql (fun k => if k = j then D2 else qa k) (j + 1) rest := by
  have hq' := s _ _ t.hq
  have kk : TK H' (upd H' ql (.lst (((List.range j).map fun k => V.ref (qa k)) ++ [.ref D2]))) := TK.lst hq'
  have dq : D2 ≠ ql := (ne_of_none t.hq n2).symm
  have q2 : ∀ k, k < j → qa k ≠ D2 := fun k hk => by
    obtain ⟨vs, h1, _⟩ := t.at_ k hk
    exact ne_of_none h1 n2
  refine ⟨?_, fun k hk => ?_, fun k m hk hm e => ?_, fun k hk => ?_, fun k hk => ?_, t.ql0⟩
  · rw [upd_same, List.range_succ, List.map_append]
    refine congrArg (fun l => some (HO.lst l)) ?_
    refine congr (congrArg _ (List.map_congr_left fun k hk => ?_)) ?_
    · show V.ref (qa k) = V.ref (if k = j then D2 else qa k)
      rw [if_neg (by have := List.mem_range.mp hk; omega)]
    · show [V.ref D2] = [V.ref (if j = j then D2 else qa j)]
      rw [if_pos rfl]
  · by_cases e : k = j
    · refine ⟨vs, ?_, ?_⟩
      · show upd H' ql _ (if k = j then D2 else qa k) = _
        rw [if_pos e, upd_ne dq]; exact h2
      · rw [e]; exact al.imp fun _ _ z => z.keep kk
    · obtain ⟨us, h1, h3⟩ := t.at_ k (by omega)
      refine ⟨us, ?_, h3.imp fun _ _ z => z.keep ((TK.same s).trans kk)⟩
      show upd H' ql _ (if k = j then D2 else qa k) = _
      rw [if_neg e, upd_ne (t.nod k (by omega)).2]; exact s _ _ h1
  · by_cases e1 : k = j
    · by_cases e2 : m = j
      · omega
      · rw [if_pos e1, if_neg e2] at e
        exact absurd e.symm (q2 m (by omega))
    · by_cases e2 : m = j
      · rw [if_neg e1, if_pos e2] at e
        exact absurd e (q2 k (by omega))
      · rw [if_neg e1, if_neg e2] at e
        exact t.inj k m (by omega) (by omega) e
  · by_cases e : k = j
    · rw [if_pos e]; exact z0
    · rw [if_neg e]; exact t.old k (by omega)
  · by_cases e : k = j
    · rw [if_pos e]; exact ⟨nod, dq⟩
    · rw [if_neg e]; exact t.nod k (by omega)
theorem QsAt.pop {H0 H : Hp} {od ql : Addr} {qa : Nat → Addr} {n k0 : Nat} {rest rest' t' : List BR} {v : V} {vs : List V} {x : BR} (t : QsAt H0 H od ql qa n rest) (hk : k0 < n) (h : H (qa k0) = some (.lst (v :: vs))) (al : All2 (BeltAt H) (v :: vs) (x :: t'))
    (e1 : rest'.filter (fun b => decide (b.to = k0)) = t') (e2 : ∀ k, k ≠ k0 → rest'.filter (fun b => decide (b.to = k)) = rest.filter fun b => decide (b.to = k)) : QsAt H0 (upd H (qa k0) (.lst vs)) od ql qa n rest' := by
  have kk : TK H (upd H (qa k0) (.lst vs)) := TK.lst h
  refine ⟨by rw [upd_ne (t.nod k0 hk).2.symm]; exact t.hq, fun k hk' => ?_, t.inj, t.old, t.nod, t.ql0⟩
  by_cases e : k = k0
  · subst e
    cases al with
    | cons a b => exact ⟨vs, upd_same, by rw [e1]; exact b.imp fun _ _ z => z.keep kk⟩
  · obtain ⟨us, h1, h3⟩ := t.at_ k hk'
    exact ⟨us, by rw [upd_ne fun z => e (t.inj k k0 hk' hk z)]; exact h1, by rw [e2 k e]; exact h3.imp fun _ _ z => z.keep kk⟩
theorem index_nat {K : PySem.W.Frag} {H : Hp} {od : Addr} {ord : List Nat} {k : Nat} {Q : VK} (h : H od = some (.lst (ord.map nV))) (m : k ∈ ord) (q : Q (nV (ord.idxOf k)) H) : rIndex K (.ref od) [nV k] H Q := by
  have il := List.idxOf_lt_length_of_mem m
  refine ⟨od, _, nV k, ord.idxOf k, nV k, rfl, rfl, SqL.of h, rfl, ?_, ?_, ?_, fun i z hi hz => ?_, q⟩
  · rw [List.all_map]
    exact List.all_eq_true.mpr fun _ _ => rfl
  · rw [List.getElem?_map, List.getElem?_eq_getElem il, List.getElem_idxOf]; rfl
  · show (((k : Nat) : Int) == ((k : Nat) : Int)) = true
    exact beq_self_eq_true _
  · have il' : i < ord.length := by omega
    rw [List.getElem?_map, List.getElem?_eq_getElem il'] at hz
    obtain rfl : nV ord[i] = z := Option.some.inj hz
    show (((ord[i] : Nat) : Int) == ((k : Nat) : Int)) = false
    have ne : ord[i] ≠ k := by
      have := List.not_of_lt_findIdx (p := (· == k)) (xs := ord) (i := i) hi
      simpa using this
    exact beq_eq_false_iff_ne.mpr (by omega)
section
variable {P : Program} {w : World} {K : PySem.W.Frag} {mg : Str → Option Value} {base : Heap}
def sp_law_turned_room (K : PySem.W.Frag) : Sp := fun vs H Q _ => ∃ (f c r : Addr) (hs : List HR) (bs : List BR), vs = [.ref f, .ref r] ∧ Flow H f c ∧ RoomAt H r hs bs ∧ RoomOk hs bs ∧
  ∀ (t r' od : Addr) (ord : List Nat) (hs' : List HR) (bs' : List BR) (H' : Hp), H' t = some (.tup [.ref r', .ref od]) → RoomAt H' r' hs' bs' → H' od = some (.lst (ord.map nV)) → H od = none → Turned hs bs ord hs' bs' → Flow H' f c → But f H H' → Q (.ref t) H'
theorem ok_law_turned_room {f : Addr} {fd : FuncData} (F : Fun K "_law_turned_room" "_law_turned_room" s_law_turned_room f fd) (T : Top K mg) : FnOk P w K mg base CX0 3 f fd ["_law_flow_here", "_law_room_here"] (sp_law_turned_room K) := by
  obtain ⟨f_law_shuffled, fd_law_shuffled, F_law_shuffled, b_law_shuffled, m_law_shuffled⟩ := T.d_law_shuffled
  have G_law_shuffled := ok_law_shuffled (P := P) (w := w) (base := base) F_law_shuffled T
  obtain ⟨f_law_pick, fd_law_pick, F_law_pick, b_law_pick, m_law_pick⟩ := T.d_law_pick
  have G_law_pick := ok_law_pick (P := P) (w := w) (base := base) F_law_pick T
  refine F.ok sc_law_turned_room (fun vs H Q E h => ?_) (fun cdv A outer s H vs Q E hr h => ?_)
  · obtain ⟨f, c, r, hs, bs, rfl, _⟩ := h
    rfl
  obtain ⟨f, c, r, hs, bs, rfl, hF, hR, ok, q⟩ := h
  obtain ⟨ha, ba, hv, bv, er, eh, eb, alh, alb⟩ := hR.ex
  have lhv := alh.length
  have lbv := alb.length
  have lh := ok.hands
  have lb := ok.many
  have hF' := hF
  obtain ⟨_, _, _, _, _, efl, efc, _⟩ := hF'
  let R1 : TS := fun D' σ' H' => D'.rt = Q ∧ ∃ (od : Addr) (ord : List Nat), σ' = [some (.ref f), some (.ref r), some (.ref ha), some (.ref ba), some (.ref od), none, none, none, none, none, none, none, none, none] ∧ H' od = some (.lst (ord.map nV)) ∧ ord.Perm (List.range hs.length) ∧ H od = none ∧ Flow H' f c ∧ But f H H'
  let R2 : TS := fun D' σ' H' => D'.rt = Q ∧ ∃ (od ql : Addr) (qa : Nat → Addr) (ord : List Nat), σ' = [some (.ref f), some (.ref r), some (.ref ha), some (.ref ba), some (.ref od), some (.ref ql), none, none, none, none, none, none, none, none] ∧ QsAt H H' od ql qa hs.length bs ∧ H' od = some (.lst (ord.map nV)) ∧ ord.Perm (List.range hs.length) ∧ H od = none ∧ Flow H' f c ∧ But f H H'
  let R3 : TS := fun D' σ' H' => D'.rt = Q ∧ ∃ (od fd : Addr) (ord : List Nat) (found : List BR) (fv : List V) (v5 v9 v10 v11 v12 v13 : Option V), σ' = [some (.ref f), some (.ref r), some (.ref ha), some (.ref ba), some (.ref od), v5, none, none, some (.ref fd), v9, v10, v11, v12, v13] ∧ H' fd = some (.lst fv) ∧ All2 (BeltAt H') fv found ∧ Mid hs.length bs ord found [] ∧ H' od = some (.lst (ord.map nV)) ∧ ord.Perm (List.range hs.length) ∧ H od = none ∧ Flow H' f c ∧ But f H H'
  refine ⟨_, (pss_cons (ps_asg (pv 1) (pg_tupK K rfl rfl (pgs_cons (pg_name (i := 2) sc_law_turned_room.nd rfl (Or.inr rfl)) (pgs_cons (pg_name (i := 3) sc_law_turned_room.nd rfl (Or.inr rfl)) pgs_nil))))
      (pss_cons (ps_set (i := 4) sc_law_turned_room.nd rfl (Or.inl rfl) (pe_call G_law_shuffled (hr.mono (by decide)) (by rfl) m_law_shuffled F_law_shuffled.kp b_law_shuffled .nil pass0 (pa_cons (pv 0) (pa_cons (pe_listRg rfl (by rfl) T.m_list (prg_1 (by rfl) T.m_range (pe_callB (call_len_seqK K rfl) (by rfl) T.m_len (by decide +kernel) (pa_cons (pv 2) pa_nil)))) pa_nil))))
      (PSs.to (pss_cons (ps_set (i := 5) sc_law_turned_room.nd rfl (Or.inr rfl) (pe_lc (own := [("_law_k", 7)]) (g := gName 7) (tt := tYes) (by rfl) sc_law_turned_room.nd (pi_range1 (by rfl) T.m_range (pa_cons (pe_callB (call_len_seqK K rfl) (by rfl) T.m_len (by decide +kernel) (pa_cons (pv 2) pa_nil)) pa_nil)) (blkOk_by (own := [("_law_k", 7)]) (N := N_law_turned_room) (sc := defScope s_law_turned_room) (by decide +kernel)) (fun _ _ _ _ _ => (pg_name (i := 7) sc_law_turned_room.nd rfl (Or.inr rfl))) (fun _ _ _ _ _ => pts_nil) (fun _ _ _ _ _ => (pe_lc (own := [("_law_belt", 6)]) (g := gName 6) (by rfl) sc_law_turned_room.nd (pi_tupK K rfl (pv 3)) (blkOk_by (own := [("_law_belt", 6)]) (N := N_law_turned_room) (sc := { kind := .function, names := [(".0", .local), ("_law_k", .cell), ("_law_belts", .cell)], isGenerator := false, isCoroutine := false }) (by decide +kernel)) (fun _ _ _ _ _ => (pg_name (i := 6) sc_law_turned_room.nd rfl (Or.inl rfl))) (fun _ _ _ _ _ => pts_one (pt_cmpR op_eq (pe_ix (ix_tupK K rfl) (pv 6) pe_int (fun _ _ => rfl)) (pv 7) (nomark _))) (fun _ _ _ _ _ => (pv 6))))))
      (PSs.to (pss_cons (ps_set (i := 8) sc_law_turned_room.nd rfl (Or.inl rfl) (pe_lst pa_nil))
      (pss_cons (ps_for PassesOwn.never rfl (pi_range1 (by rfl) T.m_range (pa_cons (pe_callB (call_len_seqK K rfl) (by rfl) T.m_len (by decide +kernel) (pa_cons (pv 3) pa_nil)) pa_nil)) (pg_name (i := 9) sc_law_turned_room.nd rfl (Or.inl rfl))
        (pss_cons (ps_setLc (i := 10) (own := [("_law_k", 7)]) (g := gName 7) (by rfl) sc_law_turned_room.nd rfl rfl (sw_true rfl rfl rfl (by decide +kernel)) (pi_range1 (by rfl) T.m_range (pa_cons (pe_callB (call_len_seqK K rfl) (by rfl) T.m_len (by decide +kernel) (pa_cons (pv 2) pa_nil)) pa_nil)) (blkOk_by (own := [("_law_k", 7)]) (N := N_law_turned_room) (sc := defScope s_law_turned_room) (by decide +kernel)) (fun _ _ _ _ _ => (pg_name (i := 7) sc_law_turned_room.nd rfl (Or.inl rfl))) (fun _ _ _ _ _ => pts_one (pt_cmpR op_gt (pe_callB (call_len_seqK K rfl) (by rfl) T.m_len (by decide +kernel) (pa_cons (pe_ix (ix_listK K rfl) (pv 5) (pv 7) (fun _ _ => rfl)) pa_nil)) pe_int (nomark _))) (fun _ _ _ _ _ => (pv 7)))
      (pss_cons (ps_asg (pe_bmK K rfl PySem.F.plainAttrs_list PySem.F.slot_list_pop PySem.F.type_list_pop mt_popAt (pe_ix (ix_listK K rfl) (pv 5) (pe_ix (ix_listK K rfl) (pv 10) (pe_call G_law_pick (hr.mono (by decide)) (by rfl) m_law_pick F_law_pick.kp b_law_pick .nil pass0 (pa_cons (pv 0) (pa_cons (pe_callB (call_len_seqK K rfl) (by rfl) T.m_len (by decide +kernel) (pa_cons (pv 10) pa_nil)) pa_nil))) (fun _ _ => rfl)) (fun _ _ => rfl)) (pa_cons pe_int pa_nil)) (pg_tupK K rfl rfl (pgs_cons (pg_name (i := 11) sc_law_turned_room.nd rfl (Or.inl rfl)) (pgs_cons (pg_name (i := 12) sc_law_turned_room.nd rfl (Or.inl rfl)) (pgs_cons (pg_name (i := 13) sc_law_turned_room.nd rfl (Or.inl rfl)) pgs_nil)))))
      (pss_one (ps_expr (pe_bmK K rfl PySem.F.plainAttrs_list PySem.F.slot_list_append PySem.F.type_list_append mt_append (pv 8) (pa_cons (pe_tup (pa_cons (pe_bmK K rfl PySem.F.plainAttrs_list PySem.F.slot_list_index PySem.F.type_list_index (mt_indexK K rfl) (pv 4) (pa_cons (pv 11) pa_nil)) (pa_cons (pe_bmK K rfl PySem.F.plainAttrs_list PySem.F.slot_list_index PySem.F.type_list_index (mt_indexK K rfl) (pv 4) (pa_cons (pv 12) pa_nil)) (pa_cons (pv 13) pa_nil)))) pa_nil)))))))
      (PSs.to (pss_one (ps_ret (pe_tup (pa_cons (pe_tup (pa_cons (pe_callTy (call_tuple_ofK K rfl) (by rfl) T.m_tuple (by decide +kernel) (pa_cons (pe_lc (own := [("_law_k", 7)]) (g := gName 7) (tt := tYes) (by rfl) sc_law_turned_room.nd (pi_listK K rfl (pv 4)) (blkOk_by (own := [("_law_k", 7)]) (N := N_law_turned_room) (sc := defScope s_law_turned_room) (by decide +kernel)) (fun _ _ _ _ _ => (pg_name (i := 7) sc_law_turned_room.nd rfl (Or.inl rfl))) (fun _ _ _ _ _ => pts_nil) (fun _ _ _ _ _ => (pe_ix (ix_tupK K rfl) (pv 2) (pv 7) (fun _ _ => rfl)))) pa_nil)) (pa_cons (pe_callTy (call_tuple_ofK K rfl) (by rfl) T.m_tuple (by decide +kernel) (pa_cons (pv 8) pa_nil)) pa_nil))) (pa_cons (pv 4) pa_nil))))) R3 ?tail3))) R2 ?tail2)) R1 ?tail1))), ?_⟩
  case tail3 =>
    rintro D' σ' H1 ⟨eD, od, fd, ord, found, fv, v5, v9, v10, v11, v12, v13, rfl, hfd, alf, mid, hod, pm, od0, F1, B1⟩
    have k1 : TK H H1 := TK.but hF B1
    have lo : ord.length = hs.length := by rw [pm.length_eq, List.length_range]
    have olt : ∀ k ∈ ord, k < hs.length := fun k hk => List.mem_range.mp (pm.mem_iff.mp hk)
    let gh : Nat → HR := fun k => hs.getD k ⟨"in", none, 0⟩
    refine ⟨_, rfl, od, rfl, ⟨_, SqL.of hod⟩, fun D nD => lc_list (K := K) (a := od) (xs := ord.map nV) (fun i H5 => ∃ ov : List V, H5 D = some (.lst ov) ∧ All2 (HandAt H5) ov ((ord.take i).map gh) ∧ Same H1 H5 ∧ ov.length ≤ i) ⟨[], upd_same, .nil, same_new nD, Nat.le_refl _⟩ (fun i H5 _ ⟨_, _, _, s5, _⟩ => SqL.of (s5 _ _ hod)) ?_ ?_⟩
    · rintro i x H5 hx ⟨ov, hD, al, s5, lv⟩
      rw [List.getElem?_map] at hx
      cases ek : ord[i]? with
      | none => rw [ek] at hx; cases hx
      | some k =>
      rw [ek] at hx
      obtain rfl : nV k = x := Option.some.inj hx
      have il := (List.getElem?_eq_some_iff.mp ek).1
      have kl := olt k (List.mem_of_getElem? ek)
      have ehk : hs[k]? = some (gh k) := by
        show _ = some (hs.getD k _)
        rw [List.getD_eq_getElem?_getD, List.getElem?_eq_getElem kl]; rfl
      obtain ⟨v, ev, hv'⟩ := alh.get ehk
      refine ⟨rfl, yes_in ⟨_, rfl, _, rfl, ha, _, _, _, rfl, rfl, SqT.of (s5 _ _ (k1 _ _ eh)), atI_nat ev, ov, hD, small1000 (by omega), ov ++ [v], upd_same, ?_, Same.own s5 nD, by rw [List.length_append]; show ov.length + 1 ≤ i + 1; omega⟩⟩
      rw [List.take_add_one, ek, List.map_append]
      exact (al.snoc (hv'.keep (k1.trans (TK.same s5)))).imp fun _ _ z => z.keep (TK.lst hD)
    · rintro H5 ⟨ov, hD, al, s5, lv⟩
      rw [List.length_map, List.take_length] at al
      refine ⟨D, _, rfl, .inl ⟨SqL.of hD, fun tq ntq => ?_⟩⟩
      have s6 := s5.trans (same_new (o := .tup ov) ntq)
      refine ⟨_, rfl, fd, _, rfl, .inl ⟨SqL.of (s6 _ _ hfd), fun tb ntb => ?_⟩⟩
      have s7 := s6.trans (same_new (o := .tup fv) ntb)
      refine ⟨(by show 2 ≤ sizeLine; decide), fun r' nr' => ?_⟩
      have s8 := s7.trans (same_new (o := .tup [V.ref tq, V.ref tb]) nr')
      refine ⟨_, rfl, (by show 2 ≤ sizeLine; decide), fun t nt => ?_⟩
      have s9 := s8.trans (same_new (o := .tup [V.ref r', V.ref od]) nt)
      rw [eD]
      have sx : Same H5 (upd (upd (upd (upd H5 tq (.tup ov)) tb (.tup fv)) r' (.tup [V.ref tq, V.ref tb])) t (.tup [V.ref r', V.ref od])) := (((same_new ntq).trans (same_new ntb)).trans (same_new nr')).trans (same_new nt)
      refine q t r' od ord (ord.map gh) found _ upd_same ⟨tq, tb, ov, fv, same_new nt _ _ upd_same, same_new nt _ _ (same_new nr' _ _ (same_new ntb _ _ upd_same)), same_new nt _ _ (same_new nr' _ _ upd_same), al.imp fun _ _ z => z.keep (TK.same sx), alf.imp fun _ _ z => z.keep (TK.same s9)⟩ (s9 _ _ hod) od0 ⟨pm, by rw [List.length_map], fun j k e => ?_, ?_, mid.of, fun k hk => ?_⟩ (F1.same s9) (B1.same s9)
      · have kl := olt k (List.mem_of_getElem? e)
        rw [List.getElem?_map, e, List.getElem?_eq_getElem kl]
        show some (hs.getD k _) = _
        rw [List.getD_eq_getElem?_getD, List.getElem?_eq_getElem kl]; rfl
      · have := mid.len
        simpa using this
      · have := mid.at_ k hk
        simpa using this
  case tail2 =>
    rintro D' σ' H1 ⟨eD, od, ql, qa, ord, rfl, qs, hod, pm, od0, F1, B1⟩
    have omem : ∀ k, k < hs.length → k ∈ ord := fun k hk => pm.mem_iff.mpr (List.mem_range.mpr hk)
    refine ⟨(by show 0 ≤ sizeLine; decide), fun fd nfd => ?_⟩
    have fd0 : H fd = none := B1.none nfd (F1.ne nfd)
    have fdf : fd ≠ f := hF.ne fd0
    have fdc : fd ≠ c := hF.nec fd0
    have fdq : fd ≠ ql := (ne_of_none qs.hq nfd).symm
    have fdo : fd ≠ od := (ne_of_none hod nfd).symm
    have fdk : ∀ k, k < hs.length → qa k ≠ fd := fun k hk => by
      obtain ⟨vs, h1, _⟩ := qs.at_ k hk
      exact ne_of_none h1 nfd
    have k1 : TK H H1 := TK.but hF B1
    refine ⟨_, rfl, ba, _, rfl, .inr (SqT.of (same_new nfd _ _ (k1 _ _ eb))), _, rfl, by omega, by omega, for_range (lo := 0) (n := bv.length) (fun i σ H2 => ∃ (found rest : List BR) (fv : List V) (v9 v10 v11 v12 v13 : Option V), σ = [some (.ref f), some (.ref r), some (.ref ha), some (.ref ba), some (.ref od), some (.ref ql), none, none, some (.ref fd), v9, v10, v11, v12, v13] ∧ QsAt H H2 od ql qa hs.length rest ∧ H2 fd = some (.lst fv) ∧ All2 (BeltAt H2) fv found ∧ Mid hs.length bs ord found rest ∧ found.length = i ∧ H2 od = some (.lst (ord.map nV)) ∧ Flow H2 f c ∧ But f H H2)
      ⟨[], bs, [], none, none, none, none, none, rfl, qs.same (same_new nfd), upd_same, .nil, Mid.zero, rfl, same_new nfd _ _ hod, F1.new nfd, B1.new nfd⟩ ?_ ?_⟩
    · rintro i σ H2 hi ⟨found, rest, fv, v9, v10, v11, v12, v13, rfl, qs2, hfd2, alf, mid, lf, hod2, F2, B2⟩
      have k2 : TK H H2 := TK.but hF B2
      refine ⟨_, rfl, ha, _, rfl, .inr (SqT.of (k2 _ _ eh)), _, rfl, by omega, by omega, fun sm nsm => lc_range (lo := 0) (n := hv.length) (fun j H5 => ∃ ks : List Nat, H5 sm = some (.lst (ks.map nV)) ∧ Same H2 H5 ∧ ks.length ≤ j ∧ ∀ k, k ∈ ks ↔ k < j ∧ rest.filter (fun b => decide (b.to = k)) ≠ []) ⟨[], upd_same, same_new nsm, Nat.le_refl _, fun k => ⟨(fun z => nomatch z), (fun z => absurd z.1 (Nat.not_lt_zero _))⟩⟩ ?_ ?_⟩
      · rintro j H5 hj ⟨ks, hsm, s5, lk, mem⟩
        obtain ⟨vs, hq, al⟩ := qs2.at_ j (by omega)
        have lal := al.length
        refine ⟨rfl, _, rfl, _, rfl, ql, _, _, _, rfl, rfl, SqL.of (s5 _ _ qs2.hq), at0 (QsAt.get (H0 := H) (H := H) (od := od) (ql := ql) (rest := rest) (by omega)), qa j, _, rfl, .inl (SqL.of (s5 _ _ hq)), _, _, rfl, rfl, _, rfl, if_bl (fun kk => ?_) (fun kk => ?_)⟩
        · have pos := of_decide_eq_true kk
          have ne : rest.filter (fun b => decide (b.to = j)) ≠ [] := fun z => by rw [z] at lal; simp at lal; simp [lal] at pos
          refine ⟨_, rfl, _, hsm, by rw [List.length_map]; exact small1000 (by omega), ks ++ [j], by rw [upd_same, List.map_append, Int.zero_add]; rfl, Same.own s5 nsm, by rw [List.length_append]; show ks.length + 1 ≤ j + 1; omega, fun k => ?_⟩
          rw [List.mem_append, mem, List.mem_singleton]
          constructor
          · rintro (z | z)
            · exact ⟨by omega, z.2⟩
            · rw [z]; exact ⟨by omega, ne⟩
          · rintro ⟨z1, z2⟩
            by_cases e : k = j
            · exact .inr e
            · exact .inl ⟨by omega, z2⟩
        · have neg := of_decide_eq_false kk
          have em : rest.filter (fun b => decide (b.to = j)) = [] := List.length_eq_zero_iff.mp (by omega)
          refine ⟨ks, hsm, s5, by omega, fun k => ?_⟩
          rw [mem]
          constructor
          · rintro ⟨z1, z2⟩
            exact ⟨by omega, z2⟩
          · rintro ⟨z1, z2⟩
            refine ⟨?_, z2⟩
            by_cases e : k = j
            · exact absurd (by rw [e]; exact em) z2
            · omega
      · rintro H5 ⟨ks, hsm, s5, lk, mem⟩
        rw [lhv] at mem
        obtain ⟨k1', k1n, hk1⟩ := mid.some (fun b hb => (ok.ends b hb).2) (by omega)
        have kpos : 0 < ks.length := List.length_pos_iff.mpr fun z => by
          have := (mem k1').mpr ⟨k1n, hk1⟩
          rw [z] at this
          cases this
        have F5 := F2.same s5
        have smf : sm ≠ f := F2.ne nsm
        refine ⟨_, rfl, _, rfl, _, rfl, _, rfl, sm, _, rfl, .inl (SqL.of hsm), f, c, _, rfl, by rw [List.length_map]; omega, by rw [List.length_map]; exact log_small (by omega), F5, fun v H6 v0 v1 F6 B6 => ?_⟩
        rw [List.length_map] at v1
        obtain ⟨u, rfl⟩ : ∃ u : Nat, v = ((u : Nat) : Int) := ⟨v.toNat, by omega⟩
        have ul : u < ks.length := by omega
        obtain ⟨k0, ek0⟩ : ∃ k0, ks[u]? = some k0 := ⟨_, List.getElem?_eq_getElem ul⟩
        obtain ⟨k0n, hk0⟩ := (mem k0).mp (List.mem_of_getElem? ek0)
        have k26 : TK H2 H6 := (TK.same s5).trans (TK.but F5 B6)
        have b26 : ∀ b o, H2 b = some o → b ≠ f → H6 b = some o := fun b o e n => B6 _ _ (s5 _ _ e) n
        have qf : ∀ k, k < hs.length → qa k ≠ f := fun k hk => hF.ne (qs2.old k hk)
        have qs6 : QsAt H H6 od ql qa hs.length rest := qs2.go ((b26 _ _ qs2.hq (hF.ne qs2.ql0.1)).trans qs2.hq.symm) (fun k hk => by
          obtain ⟨vs, h1, _⟩ := qs2.at_ k hk
          exact (b26 _ _ h1 (qf k hk)).trans h1.symm) k26
        obtain ⟨vs0, hq0, al0⟩ := qs6.at_ k0 k0n
        obtain ⟨x, t', ef⟩ : ∃ x t', rest.filter (fun b => decide (b.to = k0)) = x :: t' := by
          cases e : rest.filter (fun b => decide (b.to = k0)) with
          | nil => exact absurd e hk0
          | cons x t' => exact ⟨x, t', rfl⟩
        rw [ef] at al0
        have xin : x ∈ rest := (List.mem_filter.mp (by rw [ef]; exact List.mem_cons_self .. : x ∈ rest.filter (fun b => decide (b.to = k0)))).1
        have xe := ok.ends x (mid.sub x xin)
        cases al0 with
        | @cons w0 _ vs' _ hb alt =>
        have al0' : All2 (BeltAt H6) (w0 :: vs') (x :: t') := .cons hb alt
        obtain ⟨t, g, rfl, e1, e2⟩ := id hb
        obtain ⟨rest', mid', lr', f1, f2⟩ := mid.step omem k0n ef
        have qs7 := qs6.pop k0n hq0 al0' f1 f2
        have k67 : TK H6 (upd H6 (qa k0) (.lst vs')) := TK.lst hq0
        refine ⟨sm, _, _, _, rfl, rfl, SqL.of (B6 _ _ hsm smf), atI_nat (by rw [List.getElem?_map, ek0]; rfl), ql, _, _, _, rfl, rfl, SqL.of qs6.hq, atI_nat (QsAt.get (H0 := H) (H := H) (od := od) (ql := ql) (rest := rest) k0n), .inl ⟨rfl, _, SqL.of hq0⟩, qa k0, _, 0, 0, _, rfl, rfl, hq0, by decide, by decide, seqIndex_of (Int.le_refl 0) (by rw [List.length_cons]; omega), rfl, ?_⟩
        have hfd7 : upd H6 (qa k0) (.lst vs') fd = some (.lst fv) := by rw [upd_ne (fdk k0 k0n).symm]; exact b26 _ _ hfd2 fdf
        have hod7 : upd H6 (qa k0) (.lst vs') od = some (.lst (ord.map nV)) := by rw [upd_ne (qs6.nod k0 k0n).1.symm]; exact b26 _ _ hod2 (hF.ne od0)
        refine ⟨t, _, rfl, SqT.of (k67 _ _ e1), rfl, _, _, rfl, _, _, rfl, _, _, rfl, rfl, ?_⟩
        refine ⟨_, rfl, .inl ⟨rfl, _, SqL.of hfd7⟩, _, rfl, .inl ⟨rfl, _, SqL.of hod7⟩, _, rfl, ?_⟩
        dsimp only [tNil]
        refine index_nat hod7 (omem _ xe.1) ?_
        refine ⟨_, rfl, .inl ⟨rfl, _, SqL.of hod7⟩, _, rfl, ?_⟩
        dsimp only [tNil]
        refine index_nat hod7 (omem _ xe.2) ?_
        refine ⟨_, rfl, (by show 3 ≤ sizeLine; decide), fun tp ntp => ?_⟩
        have s78 : Same (upd H6 (qa k0) (.lst vs')) (upd (upd H6 (qa k0) (.lst vs')) tp (.tup [nV (ord.idxOf x.one), nV (ord.idxOf x.to), V.ref g])) := same_new ntp
        have hfd8 := s78 _ _ hfd7
        have lfv := alf.length
        refine ⟨fd, _, _, rfl, rfl, hfd8, small1000 (by omega), ?_⟩
        have k79 := (TK.same s78).trans (TK.lst (ys := fv ++ [V.ref tp]) hfd8)
        have F7 : Flow (upd H6 (qa k0) (.lst vs')) f c := F6.lst (qf k0 k0n) (hF.nec (qs2.old k0 k0n))
        have B7 : But f H (upd H6 (qa k0) (.lst vs')) := ((B2.same s5).trans B6).own (qs2.old k0 k0n)
        refine ⟨found ++ [ren ord x], rest', fv ++ [V.ref tp], _, _, _, _, _, rfl, (qs7.same s78).go (upd_ne fdq.symm) (fun k hk => upd_ne (fdk k hk)) (TK.lst hfd8), upd_same, ?_, mid', by rw [List.length_append, lf]; rfl, by rw [upd_ne fdo.symm]; exact s78 _ _ hod7, (F7.same s78).lst fdf fdc, (B7.same s78).own fd0⟩
        exact ((alf.imp fun _ _ z => z.keep (k26.trans (k67.trans (TK.same s78)))).snoc (⟨tp, g, rfl, upd_same, s78 _ _ (k67 _ _ e2)⟩ : BeltAt _ (V.ref tp) (ren ord x))).imp fun _ _ z => z.keep (TK.lst hfd8)
    · rintro σ H2 ⟨found, rest, fv, v9, v10, v11, v12, v13, rfl, qs2, hfd2, alf, mid, lf, hod2, F2, B2⟩
      have er : rest = [] := by
        have := mid.len
        exact List.length_eq_zero_iff.mp (by omega)
      subst er
      exact ⟨eD, od, fd, ord, found, fv, _, v9, v10, v11, v12, v13, rfl, hfd2, alf, mid, hod2, pm, od0, F2, B2⟩
  case tail1 =>
    rintro D' σ' H1 ⟨eD, od, ord, rfl, hod, pm, od0, F1, B1⟩
    have k1 : TK H H1 := TK.but hF B1
    refine ⟨_, rfl, ha, _, rfl, .inr (SqT.of (k1 _ _ eh)), _, rfl, by omega, by omega, fun ql nql => lc_range (lo := 0) (n := hv.length) (fun j H5 => ∃ qa : Nat → Addr, QsAt H H5 od ql qa j bs ∧ Same H1 H5) ?_ ?_ ?_⟩
    · refine ⟨fun _ => 0, ⟨upd_same, (fun _ z => absurd z (Nat.not_lt_zero _)), (fun _ _ z => absurd z (Nat.not_lt_zero _)), (fun _ z => absurd z (Nat.not_lt_zero _)), (fun _ z => absurd z (Nat.not_lt_zero _)), B1.none nql (F1.ne nql), (ne_of_none hod nql).symm⟩, same_new nql⟩
    · rintro j H5 hj ⟨qa, qs, s5⟩
      have k5 := k1.trans (TK.same s5)
      refine ⟨rfl, yes_in ⟨_, rfl, ba, rfl, ⟨_, SqT.of (k5 _ _ eb)⟩, fun D2 nD2 => lc_tup (K := K) (a := ba) (xs := bv) (fun i H6 => ∃ vs : List V, H6 D2 = some (.lst vs) ∧ All2 (BeltAt H6) vs ((bs.take i).filter fun b => decide (b.to = j)) ∧ Same H5 H6 ∧ vs.length ≤ i) ⟨[], upd_same, .nil, same_new nD2, Nat.le_refl _⟩ (fun i H6 _ ⟨_, _, _, s6, _⟩ => SqT.of (s6 _ _ (k5 _ _ eb))) ?_ ?_⟩⟩
      · rintro i x H6 hx ⟨vs, hD2, al, s6, lv⟩
        have il := (List.getElem?_eq_some_iff.mp hx).1
        obtain ⟨b, eb', hB⟩ := alb.getL hx
        obtain ⟨t, g, rfl, e1, e2⟩ := hB.keep (k5.trans (TK.same s6))
        refine ⟨rfl, _, rfl, t, _, _, _, rfl, rfl, SqT.of e1, atI_nat (j := 1) rfl, _, rfl, rfl, _, rfl, if_bl (fun kk => ?_) (fun kk => ?_)⟩
        · have ek : b.to = j := by
            have := V.int.inj (of_decide_eq_true kk)
            omega
          refine ⟨_, rfl, vs, hD2, small1000 (by omega), vs ++ [V.ref t], upd_same, ?_, Same.own s6 nD2, by rw [List.length_append]; show vs.length + 1 ≤ i + 1; omega⟩
          rw [List.take_add_one, eb', List.filter_append, Option.toList, List.filter_cons_of_pos (by rw [ek]; exact decide_eq_true rfl), List.filter_nil]
          exact (al.snoc (⟨t, g, rfl, e1, e2⟩ : BeltAt H6 (V.ref t) b)).imp fun _ _ z => z.keep (TK.lst hD2)
        · have ek : b.to ≠ j := fun z => of_decide_eq_false kk (by rw [z, Int.zero_add])
          refine ⟨vs, hD2, ?_, s6, by omega⟩
          rw [List.take_add_one, eb', List.filter_append, Option.toList, List.filter_cons_of_neg (by rw [decide_eq_true_eq]; exact ek), List.filter_nil, List.append_nil]
          exact al
      · rintro H6 ⟨vs, hD2, al, s6, lv⟩
        rw [lbv, List.take_length] at al
        have n1 := same_none s5 nD2
        exact ⟨_, s6 _ _ qs.hq, by rw [List.length_map, List.length_range]; exact small1000 (by omega), _, qs.more nD2 s6 hD2 al (B1.none n1 (F1.ne n1)) (ne_of_none (s5 _ _ hod) nD2).symm, Same.own (s5.trans s6) nql⟩
    · rintro H5 ⟨qa, qs, s5⟩
      rw [lhv] at qs
      exact ⟨eD, od, ql, qa, ord, rfl, qs, s5 _ _ hod, pm, od0, F1.same s5, B1.same s5⟩
  refine ⟨_, rfl, r, _, rfl, SqT.of er, rfl, _, _, rfl, _, _, rfl, rfl, ?_⟩
  refine ⟨_, rfl, _, rfl, ha, _, rfl, .inr (SqT.of eh), _, rfl, ⟨by omega, by omega, by omega, by omega, by omega⟩, fun lf nlf => ?_⟩
  have erg : rgV 0 ((hv.length : Nat) : Int) = (List.range hs.length).map nV := by
    unfold rgV
    rw [show (((hv.length : Nat) : Int) - 0).toNat = hs.length by omega]
    refine List.map_congr_left fun i _ => ?_
    show V.int (0 + ((i : Nat) : Int)) = V.int ((i : Nat) : Int)
    rw [Int.zero_add]
  rw [erg]
  refine ⟨f, c, lf, _, rfl, SqL.of upd_same, hF.ne nlf, by rw [List.length_map, List.length_range]; omega, hF.new nlf, fun od ys H1 pm nod hod F1 B1 => ?_⟩
  obtain ⟨ord, rfl, pm'⟩ := perm_inv (f := nV) (g := unN) (fun _ => rfl) pm
  exact ⟨rfl, od, ord, rfl, hod, pm', same_none (same_new nlf) nod, F1, (But.refl.new nlf).trans B1⟩
end
/-! ### bells are there -/
theorem part_ex {hs : List HR} {cur : List BR} {ins : List Int} {rk : Nat → Int} (hr : ∀ p ∈ looseOf cur, rk p.1 < rk p.2) (ends : ∀ b ∈ cur, b.one < hs.length) : ∀ (n : Nat) (pm : Nat → Option Int), Part hs cur ins pm → (∀ (k : Nat) (h : HR), hs[k]? = some h → h.wd = "in" → (pm k).isSome = true) → ((List.range hs.length).filter fun k => decide (pm k = none)).length ≤ n → ∃ m, IsBell hs cur ins m := by
  intro n
  induction n with
  | zero =>
    intro pm p _ l
    refine ⟨_, p.full fun k hk => ?_⟩
    cases e : pm k with
    | some v => rfl
    | none =>
      have m : k ∈ (List.range hs.length).filter fun k => decide (pm k = none) := List.mem_filter.mpr ⟨List.mem_range.mpr hk, decide_eq_true e⟩
      rw [List.length_eq_zero_iff.mp (Nat.le_zero.mp l)] at m
      cases m
  | succ n ih =>
    intro pm p dr l
    by_cases e : ((List.range hs.length).filter fun k => decide (pm k = none)) = []
    · refine ⟨_, p.full fun k hk => ?_⟩
      cases e2 : pm k with
      | some v => rfl
      | none =>
        have m : k ∈ (List.range hs.length).filter fun k => decide (pm k = none) := List.mem_filter.mpr ⟨List.mem_range.mpr hk, decide_eq_true e2⟩
        rw [e] at m
        cases m
    · obtain ⟨k, hk, fr⟩ := some_free hr e
      obtain ⟨h1, h2⟩ := List.mem_filter.mp hk
      have kl := List.mem_range.mp h1
      have kn : pm k = none := of_decide_eq_true h2
      have eh : hs[k]? = some hs[k] := List.getElem?_eq_getElem kl
      have w : hs[k].wd ≠ "in" := fun z => by have := dr k _ eh z; rw [kn] at this; cases this
      have there : ∀ b ∈ cur, b.to = k → b.th = [] → (pm b.one).isSome = true := fun b hb et en => by
        have nf := fr (b.one, b.to) (mem_loose hb en) et
        cases e3 : pm b.one with
        | some v => rfl
        | none => exact absurd (List.mem_filter.mpr ⟨List.mem_range.mpr (ends b hb), decide_eq_true e3⟩) nf
      refine ih _ (p.put eh w kn there) (fun j h e1 e2 => ?_) ?_
      · show (if j = k then _ else pm j).isSome = true
        split
        · rfl
        · exact dr j h e1 e2
      · have sub : (List.range hs.length).filter (fun j => decide (putM pm k (mkR hs[k] (takes cur (fun j => (pm j).getD 0) k)) j = none)) = ((List.range hs.length).filter fun j => decide (pm j = none)).filter fun j => decide (j ≠ k) := by
          rw [List.filter_filter]
          refine List.filter_congr fun j _ => ?_
          by_cases z : j = k
          · rw [show putM pm k (mkR hs[k] (takes cur (fun j => (pm j).getD 0) k)) j = some _ from if_pos z, decide_eq_false (fun y => nomatch y), decide_eq_false (not_not_intro z), Bool.false_and]
          · rw [show putM pm k (mkR hs[k] (takes cur (fun j => (pm j).getD 0) k)) j = pm j from if_neg z, decide_eq_true z, Bool.true_and]
        rw [sub]
        have lt : (((List.range hs.length).filter fun j => decide (pm j = none)).filter fun j => decide (j ≠ k)).length < ((List.range hs.length).filter fun j => decide (pm j = none)).length :=
          List.length_filter_lt_length_iff_exists.mpr ⟨k, hk, fun z => (of_decide_eq_true z) rfl⟩
        omega
theorem bell_ex {hs : List HR} {cur : List BR} {ins : List Int} {rk : Nat → Int} (hr : ∀ p ∈ looseOf cur, rk p.1 < rk p.2) (ends : ∀ b ∈ cur, b.one < hs.length) (hl : ins.length = (doorsOf "in" hs).length) : ∃ m, IsBell hs cur ins m :=
  part_ex hr ends _ (doorM hs ins) doorM_part (fun _ _ e w => doorM_all hl e w) (Nat.le_refl _)
theorem ws_ex {hs : List HR} {bs : List BR} (ok : RoomOk hs bs) {rows : List (List Int)} (hw : ∀ x ∈ rows, x.length = (doorsOf "in" hs).length) : ∃ ms, WS hs bs rows ms := by
  obtain ⟨rk, hrk⟩ := ok.rk
  have key : ∀ n, n ≤ rows.length → ∃ ms, WS hs bs (rows.take n) ms := by
    intro n
    induction n with
    | zero => intro _; exact ⟨[], WS.nil⟩
    | succ n ih =>
      intro hn
      obtain ⟨ms, ws⟩ := ih (by omega)
      have e : rows[n]? = some rows[n] := List.getElem?_eq_getElem (by omega)
      obtain ⟨m, hm⟩ := bell_ex (hs := hs) (cur := stand bs ms) (ins := rows[n]) (by rw [loose_stand]; exact hrk) (fun c hc => by
        obtain ⟨b, hb, rfl⟩ := List.mem_map.mp hc
        rw [stand_one]
        exact (ok.ends b hb).1) (hw _ (List.mem_of_getElem? e))
      refine ⟨ms ++ [m], ?_⟩
      rw [List.take_add_one, e]
      exact ws.snoc hm
  obtain ⟨ms, h⟩ := key rows.length (Nat.le_refl _)
  rw [List.take_length] at h
  exact ⟨ms, h⟩
theorem All2.perm {α β : Type} {R : α → β → Prop} : ∀ {as as' : List α} {bs : List β}, as'.Perm as → All2 R as bs → ∃ bs' : List β, bs'.Perm bs ∧ All2 R as' bs' := by
  intro as as' bs p
  induction p generalizing bs with
  | nil => intro a; exact ⟨bs, .refl _, a⟩
  | cons x _ ih =>
    intro a
    cases a with
    | cons h t => obtain ⟨b', p', a'⟩ := ih t; exact ⟨_ :: b', p'.cons _, .cons h a'⟩
  | swap x y l =>
    intro a
    cases a with
    | cons h t => cases t with
      | cons h2 t2 => exact ⟨_ :: _ :: _, .swap .., .cons h2 (.cons h t2)⟩
  | trans _ _ ih1 ih2 =>
    intro a
    obtain ⟨b1, p1, a1⟩ := ih2 a
    obtain ⟨b2, p2, a2⟩ := ih1 a1
    exact ⟨b2, p2.trans p1, a2⟩
/-! ### rooms copied: some hands of a room several times -/
def cT (bs : List BR) (k : Nat) : Nat := (bs.map BR.to).count k
def sumC (bs : List BR) (ms : List (Nat × Int)) : Nat := (ms.map fun m => cT bs m.1).sum
def MdAt (H : Hp) (v : V) (m : Nat × Int) : Prop := ∃ a : Addr, v = .ref a ∧ H a = some (.tup [nV m.1, .int m.2])
theorem MdAt.keep {H H' : Hp} {v : V} {m : Nat × Int} (h : MdAt H v m) (k : TK H H') : MdAt H' v m := by
  obtain ⟨a, e, e1⟩ := h
  exact ⟨a, e, k _ _ e1⟩
theorem cT_snoc (bs : List BR) (b : BR) (k : Nat) : cT (bs ++ [b]) k = cT bs k + if b.to = k then 1 else 0 := by
  unfold cT
  rw [List.map_append, List.count_append]
  congr 1
  show [b.to].count k = _
  rw [List.count_singleton]
  by_cases h : b.to = k
  · rw [if_pos h]; simp [h]
  · rw [if_neg h]; simp [h]
theorem ind_sum {n k : Nat} (h : k < n) : ((List.range n).map fun j => if k = j then 1 else 0).sum = 1 := by
  induction n with
  | zero => omega
  | succ n ih =>
    rw [List.range_succ, List.map_append, List.sum_append]
    by_cases e : k = n
    · have z : ((List.range n).map fun j => if k = j then 1 else 0).sum = 0 := by
        have : ∀ m, m ≤ k → ((List.range m).map fun j => if k = j then 1 else 0).sum = 0 := by
          intro m
          induction m with
          | zero => intro _; rfl
          | succ m ih2 =>
            intro hm
            rw [List.range_succ, List.map_append, List.sum_append, ih2 (by omega)]
            show 0 + ((if k = m then 1 else 0) + 0) = 0
            rw [if_neg (by omega : ¬ k = m)]
            exact Nat.zero_add _
        exact this n (by omega)
      rw [z]
      show 0 + ((if k = n then 1 else 0) + 0) = 1
      rw [if_pos e]
      exact Nat.zero_add _
    · rw [ih (by omega)]
      show 1 + ((if k = n then 1 else 0) + 0) = 1
      rw [if_neg e]
      exact Nat.add_zero _
theorem sum_add {f g : Nat → Nat} (l : List Nat) : (l.map fun j => f j + g j).sum = (l.map f).sum + (l.map g).sum := by
  induction l with
  | nil => rfl
  | cons x r ih => rw [List.map_cons, List.map_cons, List.map_cons, List.sum_cons, List.sum_cons, List.sum_cons, ih]; omega
theorem cT_sum {n : Nat} : ∀ bs : List BR, (∀ b ∈ bs, b.to < n) → ((List.range n).map (cT bs)).sum = bs.length := by
  intro bs
  induction bs using snoc_ind with
  | h0 =>
    intro _
    have : ∀ l : List Nat, (l.map (cT [])).sum = 0 := by
      intro l
      induction l with
      | nil => rfl
      | cons x r ih => rw [List.map_cons, List.sum_cons, ih]; rfl
    exact this _
  | h1 l b ih =>
    intro h
    have e : (fun j => cT (l ++ [b]) j) = fun j => cT l j + if b.to = j then 1 else 0 := funext fun j => cT_snoc l b j
    show ((List.range n).map fun j => cT (l ++ [b]) j).sum = _
    rw [e, sum_add, ind_sum (h b (List.mem_append.mpr (.inr (List.mem_singleton.mpr rfl)))), List.length_append]
    rw [show ((List.range n).map fun j => cT l j).sum = l.length from ih fun c hc => h c (List.mem_append.mpr (.inl hc))]
    rfl
/-- the hands' numbers and moments of a room copied -/
structure Made (hs : List HR) (bs : List BR) (ms : List (Nat × Int)) : Prop where
  few : ms.length ≤ 12
  ok : ∀ m ∈ ms, m.1 < hs.length ∧ 0 ≤ m.2 ∧ m.2 ≤ 30
  all : ∀ k, k < hs.length → ∃ m ∈ ms, m.1 = k
  sum : sumC bs ms ≤ 20
theorem Made.perm {hs : List HR} {bs : List BR} {ms ns : List (Nat × Int)} (h : Made hs bs ms) (p : ns.Perm ms) : Made hs bs ns := by
  refine ⟨by rw [p.length_eq]; exact h.few, fun m hm => h.ok m (p.mem_iff.mp hm), fun k hk => ?_, ?_⟩
  · obtain ⟨m, hm, e⟩ := h.all k hk
    exact ⟨m, p.mem_iff.mpr hm, e⟩
  · have : sumC bs ns = sumC bs ms := List.Perm.sum_nat (List.Perm.map (fun m : Nat × Int => cT bs m.1) p)
    rw [this]; exact h.sum
def kOf (ms : List (Nat × Int)) (j : Nat) : Nat := (ms.getD j (0, 0)).1
theorem kOf_at {ms : List (Nat × Int)} {j : Nat} {m : Nat × Int} (h : ms[j]? = some m) : kOf ms j = m.1 := by
  unfold kOf
  rw [List.getD_eq_getElem?_getD, h]; rfl
def handN (hs : List HR) (m : Nat × Int) : HR := match hs[m.1]? with
  | some h => ⟨h.wd, h.no, m.2⟩
  | none => ⟨"", none, 0⟩
/-- the belts found till now: all of the first j hands, of the next one those among i -/
structure Fd (bs : List BR) (ms : List (Nat × Int)) (j i : Nat) (fs : List BR) : Prop where
  of : ∀ f ∈ fs, ∃ b ∈ bs, f.th = b.th ∧ f.one < ms.length ∧ kOf ms f.one = b.one ∧ f.to < ms.length ∧ kOf ms f.to = b.to
  at_ : ∀ j', cT fs j' = if j' < j then cT bs (kOf ms j') else if j' = j then cT (bs.take i) (kOf ms j) else 0
  len : fs.length ≤ 20 * j + i
theorem Fd.zero {bs : List BR} {ms : List (Nat × Int)} : Fd bs ms 0 0 [] := ⟨(fun _ z => nomatch z), fun j' => by
  rw [if_neg (by omega)]
  split <;> rfl, Nat.zero_le _⟩
theorem Fd.skip {bs : List BR} {ms : List (Nat × Int)} {j i : Nat} {fs : List BR} {b : BR} (h : Fd bs ms j i fs) (eb : bs[i]? = some b) (ne : b.to ≠ kOf ms j) : Fd bs ms j (i + 1) fs := by
  refine ⟨h.of, fun j' => ?_, by have := h.len; omega⟩
  rw [h.at_ j', List.take_add_one, eb]
  show _ = if j' < j then _ else if j' = j then cT (bs.take i ++ [b]) (kOf ms j) else 0
  rw [cT_snoc, if_neg ne, Nat.add_zero]
theorem Fd.more {bs : List BR} {ms : List (Nat × Int)} {j i o : Nat} {fs : List BR} {b : BR} (h : Fd bs ms j i fs) (eb : bs[i]? = some b) (e : b.to = kOf ms j) (jl : j < ms.length) (ol : o < ms.length) (eo : kOf ms o = b.one) : Fd bs ms j (i + 1) (fs ++ [⟨o, j, b.th⟩]) := by
  refine ⟨fun f hf => ?_, fun j' => ?_, by have := h.len; rw [List.length_append]; show _ + 1 ≤ _; omega⟩
  · rcases List.mem_append.mp hf with hf | hf
    · exact h.of f hf
    · rw [List.mem_singleton.mp hf]
      exact ⟨b, List.mem_of_getElem? eb, rfl, ol, eo, jl, e.symm⟩
  · rw [cT_snoc, h.at_ j', List.take_add_one, eb]
    show (if j' < j then _ else if j' = j then cT (bs.take i) (kOf ms j) else 0) + (if j = j' then 1 else 0) = if j' < j then _ else if j' = j then cT (bs.take i ++ [b]) (kOf ms j) else 0
    rw [cT_snoc, if_pos e]
    by_cases h1 : j' < j
    · rw [if_pos h1, if_pos h1, if_neg (by omega)]
      exact Nat.add_zero _
    · rw [if_neg h1, if_neg h1]
      by_cases h2 : j' = j
      · rw [if_pos h2, if_pos h2, if_pos h2.symm]
      · rw [if_neg h2, if_neg h2, if_neg (fun z => h2 z.symm)]
theorem Fd.up {bs : List BR} {ms : List (Nat × Int)} {j : Nat} {fs : List BR} (h : Fd bs ms j bs.length fs) (l : bs.length ≤ 20) : Fd bs ms (j + 1) 0 fs := by
  refine ⟨h.of, fun j' => ?_, by have := h.len; omega⟩
  rw [h.at_ j', List.take_length]
  by_cases h1 : j' < j
  · rw [if_pos h1, if_pos (by omega)]
  · rw [if_neg h1]
    by_cases h2 : j' = j
    · rw [if_pos h2, if_pos (by omega), h2]
    · rw [if_neg h2, if_neg (by omega)]
      split <;> rfl
theorem copied_ok {hs : List HR} {bs fs : List BR} {ms : List (Nat × Int)} (ok : RoomOk hs bs) (md : Made hs bs ms) (fd : Fd bs ms ms.length 0 fs) : RoomOk (ms.map (handN hs)) fs := by
  have hk : ∀ {m : Nat × Int}, m ∈ ms → ∃ h, hs[m.1]? = some h ∧ handN hs m = ⟨h.wd, h.no, m.2⟩ := fun {m} hm => by
    have e := List.getElem?_eq_getElem (md.ok m hm).1
    exact ⟨_, e, by unfold handN; rw [e]⟩
  have at_ : ∀ {j}, j < ms.length → ∃ m h, ms[j]? = some m ∧ m ∈ ms ∧ kOf ms j = m.1 ∧ hs[m.1]? = some h ∧ (ms.map (handN hs))[j]? = some ⟨h.wd, h.no, m.2⟩ := fun {j} hj => by
    have e := List.getElem?_eq_getElem hj
    obtain ⟨h, e1, e2⟩ := hk (List.getElem_mem hj)
    exact ⟨_, h, e, List.getElem_mem hj, kOf_at e, e1, by rw [List.getElem?_map, e]; exact congrArg some e2⟩
  have lm : (ms.map (handN hs)).length = ms.length := List.length_map ..
  have cnt : ∀ j, j < ms.length → cT fs j = cT bs (kOf ms j) := fun j hj => by rw [fd.at_ j, if_pos hj]
  obtain ⟨rk, hrk⟩ := ok.rank
  refine ⟨by rw [lm]; exact md.few, fun h hh => ?_, fun f hf => ?_, fun f hf h eh => ?_, fun f hf => ?_, ⟨fun j => rk (kOf ms j), fun f hf e => ?_⟩, fun j h eh => ?_, ?_⟩
  · obtain ⟨m, hm, rfl⟩ := List.mem_map.mp hh
    obtain ⟨h0, e1, e2⟩ := hk hm
    rw [e2]
    obtain ⟨g1, g2, g3⟩ := ok.good h0 (List.mem_of_getElem? e1)
    obtain ⟨_, m0, m1⟩ := md.ok m hm
    refine ⟨?_, m0, m1⟩
    rcases g1 with g | g
    · exact .inl ⟨g.wd, g.no, g.big⟩
    · exact .inr g
  · obtain ⟨b, hb, _, a1, _, a2, _⟩ := fd.of f hf
    rw [lm]
    exact ⟨a1, a2⟩
  · obtain ⟨b, hb, _, a1, a2, _⟩ := fd.of f hf
    obtain ⟨m, h0, e1, e2, e3, e4, e5⟩ := at_ a1
    rw [e5] at eh
    rw [← Option.some.inj eh]
    exact ok.out b hb h0 (by rw [← a2, e3]; exact e4)
  · obtain ⟨b, hb, e, _⟩ := fd.of f hf
    rw [e]
    exact ok.th b hb
  · obtain ⟨b, hb, e0, a1, a2, a3, a4⟩ := fd.of f hf
    show rk (kOf ms f.one) < rk (kOf ms f.to)
    rw [a2, a4]
    exact hrk b hb (by rw [← e0]; exact e)
  · have jl : j < ms.length := by rw [← lm]; exact (List.getElem?_eq_some_iff.mp eh).1
    obtain ⟨m, h0, e1, e2, e3, e4, e5⟩ := at_ jl
    rw [e5] at eh
    rw [← Option.some.inj eh]
    have c := cnt j jl
    have d := ok.count m.1 h0 e4
    show ((cT fs j : Nat) : Int) = needs h0.wd
    rw [c, e3]
    exact d
  · have e := cT_sum fs fun f hf => by obtain ⟨b, hb, _, _, _, a, _⟩ := fd.of f hf; exact a
    have : ((List.range ms.length).map (cT fs)).sum = sumC bs ms := by
      unfold sumC
      congr 1
      refine List.ext_getElem? fun i => ?_
      rw [List.getElem?_map, List.getElem?_map]
      by_cases hi : i < ms.length
      · rw [List.getElem?_range hi, List.getElem?_eq_getElem hi]
        show some (cT fs i) = some (cT bs ms[i].1)
        rw [cnt i hi, kOf_at (List.getElem?_eq_getElem hi)]
      · rw [List.getElem?_eq_none (by rw [List.length_range]; omega), List.getElem?_eq_none (by omega)]
        rfl
    rw [this] at e
    rw [← e]
    exact md.sum
/-- while hands are copied -/
structure Mding (hs : List HR) (bs : List BR) (i : Nat) (ms : List (Nat × Int)) (left : Int) : Prop where
  few : ms.length + (hs.length - i) ≤ 12
  ok : ∀ m ∈ ms, m.1 < hs.length ∧ 0 ≤ m.2 ∧ m.2 ≤ 30
  all : ∀ k, k < i → ∃ m ∈ ms, m.1 = k
  sum : ((sumC bs ms : Nat) : Int) + left + bs.length = 20 + ((((List.range i).map (cT bs)).sum : Nat) : Int)
  left : 0 ≤ left
theorem sumC_snoc (bs : List BR) (ms : List (Nat × Int)) (m : Nat × Int) : sumC bs (ms ++ [m]) = sumC bs ms + cT bs m.1 := by
  unfold sumC
  rw [List.map_append, List.sum_append]
  show _ + (cT bs m.1 + 0) = _
  omega
theorem Mding.own {hs : List HR} {bs : List BR} {i : Nat} {ms : List (Nat × Int)} {left : Int} {h : HR} (q : Mding hs bs i ms left) (e : hs[i]? = some h) (g : GoodHand h) : Mding hs bs (i + 1) (ms ++ [(i, h.mom)]) left := by
  have il := (List.getElem?_eq_some_iff.mp e).1
  refine ⟨by have := q.few; rw [List.length_append]; show _ + 1 + _ ≤ _; omega, fun m hm => ?_, fun k hk => ?_, ?_, q.left⟩
  · rcases List.mem_append.mp hm with hm | hm
    · exact q.ok m hm
    · rw [List.mem_singleton.mp hm]; exact ⟨il, g.2.1, g.2.2⟩
  · by_cases hk2 : k < i
    · obtain ⟨m, hm, e⟩ := q.all k hk2
      exact ⟨m, List.mem_append.mpr (.inl hm), e⟩
    · exact ⟨(i, h.mom), List.mem_append.mpr (.inr (List.mem_singleton.mpr rfl)), by show i = k; omega⟩
  · rw [sumC_snoc, List.range_succ, List.map_append, List.sum_append]
    have := q.sum
    show _ = 20 + (((_ + (cT bs i + 0)) : Nat) : Int)
    push_cast
    omega
theorem Mding.more {hs : List HR} {bs : List BR} {i : Nat} {ms : List (Nat × Int)} {left v : Int} {h : HR} (q : Mding hs bs (i + 1) ms left) (e : hs[i]? = some h) (cn : ((cT bs i : Nat) : Int) = needs h.wd) (few : ms.length + 1 + (hs.length - (i + 1)) ≤ 12) (v0 : 0 ≤ v) (v1 : v < 31) (lf : needs h.wd ≤ left) : Mding hs bs (i + 1) (ms ++ [(i, v)]) (left - needs h.wd) := by
  have il := (List.getElem?_eq_some_iff.mp e).1
  refine ⟨by rw [List.length_append]; exact few, fun m hm => ?_, fun k hk => ?_, ?_, by omega⟩
  · rcases List.mem_append.mp hm with hm | hm
    · exact q.ok m hm
    · rw [List.mem_singleton.mp hm]; exact ⟨il, v0, by show v ≤ 30; omega⟩
  · obtain ⟨m, hm, e⟩ := q.all k hk
    exact ⟨m, List.mem_append.mpr (.inl hm), e⟩
  · have := q.sum
    rw [sumC_snoc]
    push_cast
    show ((sumC bs ms : Nat) : Int) + ((cT bs i : Nat) : Int) + (left - needs h.wd) + _ = _
    omega
theorem Mding.done {hs : List HR} {bs : List BR} {ms : List (Nat × Int)} {left : Int} (q : Mding hs bs hs.length ms left) (ok : RoomOk hs bs) : Made hs bs ms := by
  refine ⟨by have := q.few; omega, q.ok, q.all, ?_⟩
  have := q.sum
  have e := cT_sum (n := hs.length) bs fun b hb => (ok.ends b hb).2
  rw [e] at this
  have := q.left
  omega
theorem small_mul {v : Int} {b : Bool} (h0 : 0 ≤ v) (h1 : v < 3) : 0 ≤ v * (if b = true then 1 else 0) ∧ v * (if b = true then 1 else 0) ≤ 2 := by
  cases b
  · rw [if_neg Bool.false_ne_true]; omega
  · rw [if_pos rfl]; omega
section
variable {P : Program} {w : World} {K : PySem.W.Frag} {mg : Str → Option Value} {base : Heap}
def sp_law_copied (K : PySem.W.Frag) : Sp := fun vs H Q _ => ∃ f c : Addr, vs = [.ref f] ∧ Flow H f c ∧ ∀ (r : Addr) (hs : List HR) (bs : List BR) (H' : Hp), RoomAt H' r hs bs → RoomOk hs bs → 0 < hs.length → Flow H' f c → But f H H' → Q (.ref r) H'
theorem ok_law_copied {f : Addr} {fd : FuncData} (F : Fun K "_law_copied" "_law_copied" s_law_copied f fd) (T : Top K mg) : FnOk P w K mg base CX0 6 f fd ["_law_flow_here"] (sp_law_copied K) := by
  obtain ⟨f_law_room, fd_law_room, F_law_room, b_law_room, m_law_room⟩ := T.d_law_room
  have G_law_room := ok_law_room (P := P) (w := w) (base := base) F_law_room T
  obtain ⟨f_law_shuffled, fd_law_shuffled, F_law_shuffled, b_law_shuffled, m_law_shuffled⟩ := T.d_law_shuffled
  have G_law_shuffled := ok_law_shuffled (P := P) (w := w) (base := base) F_law_shuffled T
  obtain ⟨f_law_pick, fd_law_pick, F_law_pick, b_law_pick, m_law_pick⟩ := T.d_law_pick
  have G_law_pick := ok_law_pick (P := P) (w := w) (base := base) F_law_pick T
  obtain ⟨f_law_needs, fd_law_needs, F_law_needs, b_law_needs, m_law_needs⟩ := T.d_law_needs
  have G_law_needs := ok_law_needs (P := P) (w := w) (base := base) F_law_needs T
  refine F.ok sc_law_copied (fun vs H Q E h => ?_) (fun cdv A outer s H vs Q E hr h => ?_)
  · obtain ⟨f, c, rfl, _⟩ := h
    rfl
  obtain ⟨f, c, rfl, hF, q⟩ := h
  let R1 : TS := fun D' σ' H' => D'.rt = Q ∧ ∃ (ha ba ml : Addr) (hv bv mv : List V) (hs : List HR) (bs : List BR) (ms : List (Nat × Int)) (x4 x5 x6 x7 x8 : Option V), σ' = [some (.ref f), some (.ref ha), some (.ref ba), some (.ref ml), x4, x5, x6, x7, x8, none, none, none, none, none, none, none] ∧
    H' ha = some (.tup hv) ∧ H' ba = some (.tup bv) ∧ All2 (HandAt H') hv hs ∧ All2 (BeltAt H') bv bs ∧ RoomOk hs bs ∧ 0 < hs.length ∧ H' ml = some (.lst mv) ∧ All2 (MdAt H') mv ms ∧ Made hs bs ms ∧ ml ≠ f ∧ Flow H' f c ∧ But f H H'
  let R2 : TS := fun D' σ' H' => D'.rt = Q ∧ ∃ (ha ml fl : Addr) (hv mv fv : List V) (hs : List HR) (bs fs : List BR) (ms : List (Nat × Int)) (x2 x4 x5 x6 x7 x8 x10 x11 x12 x13 x14 : Option V), σ' = [some (.ref f), some (.ref ha), x2, some (.ref ml), x4, x5, x6, x7, x8, some (.ref fl), x10, x11, x12, x13, x14, none] ∧
    H' ha = some (.tup hv) ∧ All2 (HandAt H') hv hs ∧ RoomOk hs bs ∧ 0 < hs.length ∧ H' ml = some (.lst mv) ∧ All2 (MdAt H') mv ms ∧ Made hs bs ms ∧ H' fl = some (.lst fv) ∧ All2 (BeltAt H') fv fs ∧ Fd bs ms ms.length 0 fs ∧ Flow H' f c ∧ But f H H'
  refine ⟨_, (pss_cons (ps_asg (pe_call G_law_room (hr.mono (by decide)) (by rfl) m_law_room F_law_room.kp b_law_room .nil pass0 (pa_cons (pv 0) (pa_cons pe_int pa_nil))) (pg_tupK K rfl rfl (pgs_cons (pg_name (i := 1) sc_law_copied.nd rfl (Or.inr rfl)) (pgs_cons (pg_name (i := 2) sc_law_copied.nd rfl (Or.inl rfl)) pgs_nil))))
      (pss_cons (ps_set (i := 3) sc_law_copied.nd rfl (Or.inr rfl) (pe_lst pa_nil))
      (pss_cons (ps_set (i := 4) sc_law_copied.nd rfl (Or.inl rfl) (pe_op op_sub pe_int (pe_callB (call_len_seqK K rfl) (by rfl) T.m_len (by decide +kernel) (pa_cons (pv 2) pa_nil))))
      (pss_cons (ps_for PassesOwn.never rfl (pi_enumT K rfl (by rfl) T.m_enumerate (pa_cons (pv 1) pa_nil)) (pg_tupK K rfl rfl (pgs_cons (pg_name (i := 5) sc_law_copied.nd rfl (Or.inl rfl)) (pgs_cons (pg_tupK K rfl rfl (pgs_cons (pg_name (i := 6) sc_law_copied.nd rfl (Or.inl rfl)) (pgs_cons (pg_name (i := 7) sc_law_copied.nd rfl (Or.inl rfl)) pgs_nil))) pgs_nil)))
        (pss_cons (ps_expr (pe_bmK K rfl PySem.F.plainAttrs_list PySem.F.slot_list_append PySem.F.type_list_append mt_append (pv 3) (pa_cons (pe_tup (pa_cons (pv 5) (pa_cons (pv 7) pa_nil))) pa_nil)))
      (pss_one (ps_for PassesOwn.never rfl (pi_range1 (by rfl) T.m_range (pa_cons (pe_op op_mul (pe_call G_law_pick (hr.mono (by decide)) (by rfl) m_law_pick F_law_pick.kp b_law_pick .nil pass0 (pa_cons (pv 0) (pa_cons pe_int pa_nil))) (pe_callTy call_int1 (by rfl) T.m_int (by decide +kernel) (pa_cons (pe_cmpR (op_notIn_seqK K rfl) (pe_ix (ix_tupK K rfl) (pv 6) pe_int (fun _ _ => rfl)) (pe_tup (pa_cons pe_str (pa_cons pe_str pa_nil))) (by with_unfolding_all rfl)) pa_nil))) pa_nil)) (pg_name (i := 8) sc_law_copied.nd rfl (Or.inl rfl))
        (pss_one (ps_if (PW.pt (pw_and (pt_cmpR op_lt (pe_op op_sub (pe_op op_add (pe_callB (call_len_seqK K rfl) (by rfl) T.m_len (by decide +kernel) (pa_cons (pv 1) pa_nil)) (pe_callB (call_len_seqK K rfl) (by rfl) T.m_len (by decide +kernel) (pa_cons (pv 3) pa_nil))) (pv 5)) pe_int (nomark _)) (pw_and1 (pt_cmpR op_ge (pv 4) (pe_call G_law_needs (hr.mono (by decide)) (by rfl) m_law_needs F_law_needs.kp b_law_needs .nil pass0 (pa_cons (pv 6) pa_nil)) (nomark _))))) (pss_cons (ps_expr (pe_bmK K rfl PySem.F.plainAttrs_list PySem.F.slot_list_append PySem.F.type_list_append mt_append (pv 3) (pa_cons (pe_tup (pa_cons (pv 5) (pa_cons (pe_call G_law_pick (hr.mono (by decide)) (by rfl) m_law_pick F_law_pick.kp b_law_pick .nil pass0 (pa_cons (pv 0) (pa_cons pe_int pa_nil))) pa_nil))) pa_nil)))
      (pss_one (ps_set (i := 4) sc_law_copied.nd rfl (Or.inl rfl) (pe_op op_sub (pv 4) (pe_call G_law_needs (hr.mono (by decide)) (by rfl) m_law_needs F_law_needs.kp b_law_needs .nil pass0 (pa_cons (pv 6) pa_nil)))))) pss_nil))))))
      (PSs.to (pss_cons (ps_set (i := 3) sc_law_copied.nd rfl (Or.inr rfl) (pe_call G_law_shuffled (hr.mono (by decide)) (by rfl) m_law_shuffled F_law_shuffled.kp b_law_shuffled .nil pass0 (pa_cons (pv 0) (pa_cons (pv 3) pa_nil))))
      (pss_cons (ps_set (i := 9) sc_law_copied.nd rfl (Or.inl rfl) (pe_lst pa_nil))
      (pss_cons (ps_for PassesOwn.never rfl (pi_enumK K rfl (by rfl) T.m_enumerate (pa_cons (pv 3) pa_nil)) (pg_tupK K rfl rfl (pgs_cons (pg_name (i := 10) sc_law_copied.nd rfl (Or.inl rfl)) (pgs_cons (pg_tupK K rfl rfl (pgs_cons (pg_name (i := 5) sc_law_copied.nd rfl (Or.inl rfl)) (pgs_cons (pg_name (i := 7) sc_law_copied.nd rfl (Or.inl rfl)) pgs_nil))) pgs_nil)))
        (pss_one (ps_for PassesOwn.never rfl (pi_tupK K rfl (pv 2)) (pg_tupK K rfl rfl (pgs_cons (pg_name (i := 11) sc_law_copied.nd rfl (Or.inr rfl)) (pgs_cons (pg_name (i := 12) sc_law_copied.nd rfl (Or.inl rfl)) (pgs_cons (pg_name (i := 13) sc_law_copied.nd rfl (Or.inl rfl)) pgs_nil))))
        (pss_one (ps_if (pt_cmpR op_eq (pv 12) (pv 5) (nomark _)) (pss_cons (ps_setLc (i := 14) (own := [("_law_j", 15)]) (g := gName 15) (by rfl) sc_law_copied.nd rfl rfl (sw_true rfl rfl rfl (by decide +kernel)) (pi_range1 (by rfl) T.m_range (pa_cons (pe_callB (call_len_seqK K rfl) (by rfl) T.m_len (by decide +kernel) (pa_cons (pv 3) pa_nil)) pa_nil)) (blkOk_by (own := [("_law_j", 15)]) (N := N_law_copied) (sc := defScope s_law_copied) (by decide +kernel)) (fun _ _ _ _ _ => (pg_name (i := 15) sc_law_copied.nd rfl (Or.inl rfl))) (fun _ _ _ _ _ => pts_one (pt_cmpR op_eq (pe_ix (ix_tupK K rfl) (pe_ix (ix_listK K rfl) (pv 3) (pv 15) (fun _ _ => rfl)) pe_int (fun _ _ => rfl)) (pv 11) (nomark _))) (fun _ _ _ _ _ => (pv 15)))
      (pss_one (ps_expr (pe_bmK K rfl PySem.F.plainAttrs_list PySem.F.slot_list_append PySem.F.type_list_append mt_append (pv 9) (pa_cons (pe_tup (pa_cons (pe_ix (ix_listK K rfl) (pv 14) (pe_call G_law_pick (hr.mono (by decide)) (by rfl) m_law_pick F_law_pick.kp b_law_pick .nil pass0 (pa_cons (pv 0) (pa_cons (pe_callB (call_len_seqK K rfl) (by rfl) T.m_len (by decide +kernel) (pa_cons (pv 14) pa_nil)) pa_nil))) (fun _ _ => rfl)) (pa_cons (pv 10) (pa_cons (pv 13) pa_nil)))) pa_nil))))) pss_nil)))))
      (PSs.to (pss_one (ps_ret (pe_tup (pa_cons (pe_callTy (call_tuple_ofK K rfl) (by rfl) T.m_tuple (by decide +kernel) (pa_cons (pe_lc (own := [("_law_k", 5), ("_law_moments", 7)]) (g := gTup K 2 (gCons (gName 5) (gCons (gName 7) gNil))) (tt := tYes) (by rfl) sc_law_copied.nd (pi_listK K rfl (pv 3)) (blkOk_by (own := [("_law_k", 5), ("_law_moments", 7)]) (N := N_law_copied) (sc := defScope s_law_copied) (by decide +kernel)) (fun _ _ _ _ _ => (pg_tupK K rfl rfl (pgs_cons (pg_name (i := 5) sc_law_copied.nd rfl (Or.inl rfl)) (pgs_cons (pg_name (i := 7) sc_law_copied.nd rfl (Or.inl rfl)) pgs_nil)))) (fun _ _ _ _ _ => pts_nil) (fun _ _ _ _ _ => (pe_tup (pa_cons (pe_ix (ix_tupK K rfl) (pe_ix (ix_tupK K rfl) (pv 1) (pv 5) (fun _ _ => rfl)) pe_int (fun _ _ => rfl)) (pa_cons (pv 7) pa_nil))))) pa_nil)) (pa_cons (pe_callTy (call_tuple_ofK K rfl) (by rfl) T.m_tuple (by decide +kernel) (pa_cons (pv 9) pa_nil)) pa_nil))))) R2 ?tail2)))) R1 ?tail1))))), ?_⟩
  case tail1 =>
    rintro D' σ' H1 ⟨eD, ha, ba, ml, hv, bv, mv, hs, bs, ms, x4, x5, x6, x7, x8, rfl, hha, hba, alh, alb, ok, n0, hml, alm, md, mf, F1, B1⟩
    have few := md.few
    have lmv := alm.length
    have l20 := ok.many
    have lbv := alb.length
    refine ⟨_, rfl, _, rfl, f, c, ml, mv, rfl, SqL.of hml, mf, by omega, F1, fun p ys H2 pm np hp F2 B2 => ?_⟩
    obtain ⟨ns, pn, aln⟩ := alm.perm pm
    have md2 := md.perm pn
    have few2 := md2.few
    have lys := aln.length
    have k2 := TK.but F1 B2
    refine ⟨(by show 0 ≤ sizeLine; decide), fun fl nfl => ?_⟩
    have ff : fl ≠ f := F2.ne nfl
    have fc : fl ≠ c := F2.nec nfl
    have B12 := B1.trans B2
    have fl0 : H fl = none := B12.none nfl ff
    have k3 := TK.new (o := .lst []) nfl
    have hp3 := same_new (o := .lst []) nfl _ _ hp
    have pf : fl ≠ p := fun z => by rw [z, hp] at nfl; cases nfl
    refine ⟨_, rfl, p, ys, rfl, SqL.of hp3, for_it (J := Ite K p) (n := ys.length) (fun j σ H5 => ∃ (fv : List V) (fs : List BR) (x5 x7 x10 x11 x12 x13 x14 : Option V), σ = [some (.ref f), some (.ref ha), some (.ref ba), some (.ref p), x4, x5, x6, x7, x8, some (.ref fl), x10, x11, x12, x13, x14, none] ∧
      TK H2 H5 ∧ H5 p = some (.lst ys) ∧ H5 fl = some (.lst fv) ∧ All2 (BeltAt H5) fv fs ∧ Fd bs ns j 0 fs ∧ Flow H5 f c ∧ But f H H5) ⟨[], [], _, _, _, _, _, _, _, rfl, k3, hp3, upd_same, .nil, Fd.zero, F2.new nfl, B12.new nfl⟩ ?_ ?_ ?_ ?_⟩
    · rintro i σ H5 hi ⟨fv, fs, _, _, _, _, _, _, _, rfl, k5, hp5, _⟩
      exact ⟨ys, _, SqL.of hp5, List.getElem?_eq_getElem hi⟩
    · rintro σ H5 ⟨fv, fs, _, _, _, _, _, _, _, rfl, k5, hp5, _⟩
      exact ⟨ys, SqL.of hp5, Nat.le_refl _⟩
    · rintro j x σ H5 H6 hj ⟨fv, fs, x5, x7, x10, x11, x12, x13, x14, rfl, k5, hp5, hfl5, alf5, fd5, F5, B5⟩ ⟨t, y, rfl, nt, rfl, ey⟩
      obtain ⟨m, em, am, rfl, e1⟩ := aln.getL (ey ys (SqL.of hp5))
      have km : kOf ns j = m.1 := kOf_at em
      have kt := TK.new (o := .tup [V.int ((j : Nat) : Int), V.ref am]) nt
      have k6 := k5.trans kt
      have hm6 := k6 _ _ (k2 _ _ e1)
      refine ⟨t, _, rfl, SqT.of upd_same, rfl, _, _, rfl, _, _, rfl, am, _, rfl, SqT.of hm6, rfl, _, _, rfl, _, _, rfl, rfl, rfl, ?_⟩
      have k26 : TK H1 _ := k2.trans k6
      refine ⟨_, rfl, ba, rfl, ⟨_, SqT.of (k26 _ _ hba)⟩, for_tup (K := K) (a := ba) (xs := bv) (fun i σ H7 => ∃ (fv : List V) (fs : List BR) (x11 x12 x13 x14 : Option V), σ = [some (.ref f), some (.ref ha), some (.ref ba), some (.ref p), x4, some (nV m.1), x6, some (.int m.2), x8, some (.ref fl), some (nV j), x11, x12, x13, x14, none] ∧
        TK H2 H7 ∧ H7 p = some (.lst ys) ∧ H7 fl = some (.lst fv) ∧ All2 (BeltAt H7) fv fs ∧ Fd bs ns j i fs ∧ Flow H7 f c ∧ But f H H7) ⟨fv, fs, _, _, _, _, rfl, k6, same_new nt _ _ hp5, same_new nt _ _ hfl5, alf5.imp fun _ _ z => z.keep kt, fd5, F5.new nt, B5.new nt⟩ (fun i σ H7 _ ⟨_, _, _, _, _, _, _, k7, _⟩ => SqT.of (k7 _ _ (k2 _ _ hba))) ?_ ?_⟩
      · rintro i v σ H7 hx ⟨fv, fs, x11, x12, x13, x14, rfl, k7, hp7, hfl7, alf7, fd7, F7, B7⟩
        obtain ⟨b, eb1, tb, g, rfl, e2, e3⟩ := alb.getL hx
        have bm := List.mem_of_getElem? eb1
        have il := (List.getElem?_eq_some_iff.mp eb1).1
        have k17 := k2.trans k7
        have lfv := alf7.length
        have lfs := fd7.len
        refine ⟨tb, _, rfl, SqT.of (k17 _ _ e2), rfl, _, _, rfl, _, _, rfl, _, _, rfl, rfl, ?_⟩
        refine ⟨_, rfl, _, rfl, rfl, _, rfl, if_bl (fun c1 => ?_) (fun c1 => ?_)⟩
        · have c1 : b.to = m.1 := by have := V.int.inj (of_decide_eq_true c1); omega
          refine ⟨_, rfl, p, _, rfl, .inl (SqL.of hp7), _, rfl, by omega, by omega, fun D nD => lc_range (lo := 0) (n := ys.length) (fun q H8 => H8 D = some (.lst (((List.range q).filter fun z => decide (kOf ns z = b.one)).map nV)) ∧ Same H7 H8) ⟨upd_same, same_new nD⟩ ?_ ?_⟩
          · rintro q H8 hq ⟨hD, s8⟩
            obtain ⟨z, ez⟩ : ∃ z, ys[q]? = some z := ⟨_, List.getElem?_eq_getElem hq⟩
            obtain ⟨n, en, an, rfl, e4⟩ := aln.getL ez
            have kn : kOf ns q = n.1 := kOf_at en
            have fewq := filt_len (p := fun z => decide (kOf ns z = b.one)) q
            refine ⟨rfl, _, rfl, _, rfl, p, _, _, _, rfl, rfl, SqL.of (s8 _ _ hp7), at0 ez, an, _, _, _, rfl, rfl, SqT.of (s8 _ _ (k7 _ _ (k2 _ _ e4))), atI_nat (j := 0) rfl, _, rfl, rfl, _, rfl, if_bl (fun c2 => ?_) (fun c2 => ?_)⟩
            · have c2 : n.1 = b.one := by have := V.int.inj (of_decide_eq_true c2); omega
              refine ⟨_, rfl, _, hD, by rw [List.length_map]; exact small1000 (by omega), ?_, Same.own s8 nD⟩
              rw [upd_same, filt_succ, if_pos (decide_eq_true (by rw [kn]; exact c2)), List.map_append, Int.zero_add]
              rfl
            · have c2 : n.1 ≠ b.one := fun z => of_decide_eq_false c2 (by rw [z])
              refine ⟨?_, s8⟩
              rw [filt_succ, if_neg (fun z => c2 (by have := of_decide_eq_true z; rw [kn] at this; exact this)), List.append_nil]
              exact hD
          · rintro H8 ⟨hD, s8⟩
            obtain ⟨n0', hn0, en0⟩ := md2.all b.one (ok.ends b bm).1
            obtain ⟨z0, hz0, ez0⟩ := List.getElem_of_mem hn0
            have pos : 0 < ((List.range ys.length).filter fun z => decide (kOf ns z = b.one)).length := by
              refine List.length_pos_of_mem (a := z0) (List.mem_filter.mpr ⟨List.mem_range.mpr (by omega), decide_eq_true ?_⟩)
              rw [kOf_at (by rw [List.getElem?_eq_getElem hz0, ez0]), en0]
            have fewq := filt_len (p := fun z => decide (kOf ns z = b.one)) ys.length
            have Df : D ≠ f := F7.ne nD
            refine ⟨_, rfl, .inl ⟨rfl, _, SqL.of (s8 _ _ hfl7)⟩, _, rfl, _, rfl, _, rfl, D, _, rfl, .inl (SqL.of hD), f, c, _, rfl, by rw [List.length_map]; omega, Nat.lt_of_le_of_lt (Nat.log2_le_self _) (by rw [List.length_map]; omega), F7.same s8, fun u H9 u0 u1 F9 B9 => ?_⟩
            rw [List.length_map] at u1
            obtain ⟨o, eo⟩ : ∃ o, ((List.range ys.length).filter fun z => decide (kOf ns z = b.one))[u.toNat]? = some o := ⟨_, List.getElem?_eq_getElem (by omega)⟩
            obtain ⟨o1, o2⟩ := List.mem_filter.mp (List.mem_of_getElem? eo)
            have o1 := List.mem_range.mp o1
            have o2 : kOf ns o = b.one := of_decide_eq_true o2
            have uo : atI (((List.range ys.length).filter fun z => decide (kOf ns z = b.one)).map nV) u = some (nV o) := by
              have := atI_nat (xs := ((List.range ys.length).filter fun z => decide (kOf ns z = b.one)).map nV) (j := u.toNat) (v := nV o) (by rw [List.getElem?_map, eo]; rfl)
              rw [show ((u.toNat : Nat) : Int) = u by omega] at this
              exact this
            refine ⟨D, _, u, _, rfl, rfl, SqL.of (B9 _ _ hD Df), uo, _, rfl, _, rfl, (by show 3 ≤ sizeLine; decide), fun a na => ?_⟩
            have hfl9 := B9 _ _ (s8 _ _ hfl7) ff
            have hfl10 := same_new (o := .tup [nV o, nV j, V.ref g]) na _ _ hfl9
            have kk : TK H7 (upd (upd H9 a (.tup [nV o, nV j, V.ref g])) fl (.lst (fv ++ [V.ref a]))) := (((TK.same s8).trans (TK.but (F7.same s8) B9)).trans (TK.new (o := .tup [nV o, nV j, V.ref g]) na)).trans (TK.lst hfl10)
            refine ⟨fl, _, _, rfl, rfl, hfl10, small1000 (by omega), fv ++ [.ref a], fs ++ [⟨o, j, b.th⟩], _, _, _, _, rfl, k7.trans kk, ?_, upd_same, ?_, ?_, (F9.new na).lst ff fc, (((B7.same s8).trans B9).new na).own fl0⟩
            · rw [upd_ne pf.symm]
              exact same_new na _ _ (B9 _ _ (s8 _ _ hp7) (F1.ne np))
            · exact (alf7.imp fun _ _ z => z.keep kk).snoc ⟨a, g, rfl, TK.lst hfl10 _ _ upd_same, kk _ _ (k17 _ _ e3)⟩
            · exact fd7.more eb1 (by rw [km]; exact c1) (by omega) (by omega) o2
        · have c1 : b.to ≠ m.1 := fun z => of_decide_eq_false c1 (by rw [z])
          exact ⟨fv, fs, _, _, _, _, rfl, k7, hp7, hfl7, alf7, fd7.skip eb1 (by rw [km]; exact c1), F7, B7⟩
      · rintro σ H7 ⟨fv, fs, x11, x12, x13, x14, rfl, k7, hp7, hfl7, alf7, fd7, F7, B7⟩
        rw [lbv] at fd7
        exact ⟨fv, fs, _, _, _, _, _, _, _, rfl, k7, hp7, hfl7, alf7, fd7.up l20, F7, B7⟩
    · rintro σ H5 ⟨fv, fs, x5, x7, x10, x11, x12, x13, x14, rfl, k5, hp5, hfl5, alf5, fd5, F5, B5⟩
      have k15 := k2.trans k5
      rw [lys] at fd5
      exact ⟨eD, ha, p, fl, hv, ys, fv, hs, bs, fs, ns, _, _, _, _, _, _, _, _, _, _, _, rfl, k15 _ _ hha, alh.imp fun _ _ z => z.keep k15, ok, n0, hp5, aln.imp fun _ _ z => z.keep k15, md2, hfl5, alf5, fd5, F5, B5⟩
  case tail2 =>
    rintro D' σ' H1 ⟨eD, ha, ml, fl, hv, mv, fv, hs, bs, fs, ms, x2, x4, x5, x6, x7, x8, x10, x11, x12, x13, x14, rfl, hha, alh, ok, n0, hml, alm, md, hfl, alf, fd, F1, B1⟩
    have lmv := alm.length
    have lfv := alf.length
    have few := md.few
    have f20 : fs.length ≤ 300 := by have := fd.len; omega
    refine ⟨_, rfl, ml, rfl, ⟨_, SqL.of hml⟩, fun D nD => lc_list (K := K) (a := ml) (xs := mv) (fun i H5 => ∃ us : List V, H5 D = some (.lst us) ∧ us.length = i ∧ All2 (HandAt H5) us ((ms.take i).map (handN hs)) ∧ Same H1 H5) ⟨[], upd_same, rfl, .nil, same_new nD⟩ (fun i H5 _ ⟨_, _, _, _, s5⟩ => SqL.of (s5 _ _ hml)) ?_ ?_⟩
    · rintro i v H5 hx ⟨us, hD, lu, alu, s5⟩
      obtain ⟨m, em, am, rfl, e1⟩ := alm.getL hx
      have il := (List.getElem?_eq_some_iff.mp em).1
      obtain ⟨h0, eh0⟩ : ∃ h0, hs[m.1]? = some h0 := ⟨_, List.getElem?_eq_getElem (md.ok m (List.mem_of_getElem? em)).1⟩
      obtain ⟨x, ex, th, rr, rfl, e2, e3⟩ := alh.get eh0
      refine ⟨am, _, rfl, SqT.of (s5 _ _ e1), rfl, _, _, rfl, _, _, rfl, rfl, rfl, yes_in ⟨_, rfl, _, rfl, ha, _, _, _, rfl, rfl, SqT.of (s5 _ _ hha), atI_nat ex, th, _, _, _, rfl, rfl, SqT.of (s5 _ _ e2), atI_nat (j := 0) rfl, _, rfl, (by show 2 ≤ sizeLine; decide), fun p2 np2 => ?_⟩⟩
      have s7 := same_new (o := .tup [V.ref rr, V.int m.2]) np2
      have hD7 := s7 _ _ hD
      refine ⟨_, hD7, small1000 (by omega), us ++ [.ref p2], upd_same, by rw [List.length_append, lu]; rfl, ?_, Same.own (fun a o e => s7 _ _ (s5 _ _ e)) nD⟩
      rw [List.take_add_one, em, List.map_append]
      refine (alu.imp fun _ _ z => z.keep ((TK.same s7).trans (TK.lst hD7))).snoc ?_
      show HandAt _ _ (handN hs m)
      unfold handN
      rw [eh0]
      exact ⟨p2, rr, rfl, TK.lst hD7 _ _ upd_same, TK.lst hD7 _ _ (s7 _ _ (s5 _ _ e3))⟩
    · rintro H5 ⟨us, hD, lu, alu, s5⟩
      rw [lmv, List.take_length] at alu
      refine ⟨D, _, rfl, .inl ⟨SqL.of hD, fun p3 np3 => ?_⟩⟩
      have s6 := same_new (o := .tup us) np3
      refine ⟨_, rfl, fl, _, rfl, .inl ⟨SqL.of (s6 _ _ (s5 _ _ hfl)), fun p4 np4 => ⟨(by show 2 ≤ sizeLine; decide), fun r nr => ?_⟩⟩⟩
      have s7 := same_new (o := .tup fv) np4
      have s8 := same_new (o := .tup [V.ref p3, V.ref p4]) nr
      have s58 : Same H5 _ := fun a o e => s8 _ _ (s7 _ _ (s6 _ _ e))
      have s18 : Same H1 _ := fun a o e => s58 _ _ (s5 _ _ e)
      show D'.rt (.ref r) _
      rw [eD]
      exact q r _ fs _ ⟨p3, p4, us, fv, upd_same, s8 _ _ (s7 _ _ upd_same), s8 _ _ upd_same, alu.imp fun _ _ z => z.keep (TK.same s58), alf.imp fun _ _ z => z.keep (TK.same s18)⟩ (copied_ok ok md fd) (by obtain ⟨m, hm, _⟩ := md.all 0 n0; rw [List.length_map]; exact List.length_pos_of_mem hm) (F1.same s18) (B1.same s18)
  refine ⟨_, rfl, f, c, 3, rfl, by decide, by decide, hF, fun r hs bs H1 hR ok n0 F1 B1 => ?_⟩
  obtain ⟨ha, ba, hv, bv, er, eh, eb, alh, alb⟩ := hR.ex
  have lhv := alh.length
  have lbv := alb.length
  have l12 := ok.hands
  have l20 := ok.many
  refine ⟨r, _, rfl, SqT.of er, rfl, _, _, rfl, _, _, rfl, rfl, (by show 0 ≤ sizeLine; decide), fun ml nml => ?_⟩
  have mf : ml ≠ f := F1.ne nml
  have mc : ml ≠ c := F1.nec nml
  have k1 := TK.new (o := .lst []) nml
  have ml0 : H ml = none := B1.none nml mf
  refine ⟨_, rfl, ba, _, rfl, .inr (SqT.of (k1 _ _ eb)), _, _, rfl, rfl, ?_⟩
  refine ⟨_, rfl, ha, hv, rfl, SqT.of (k1 _ _ eh), for_it (J := IteT K ha hv) (n := hv.length) (fun i σ H5 => ∃ (mv : List V) (ms : List (Nat × Int)) (left : Int) (x5 x6 x7 x8 : Option V), σ = [some (.ref f), some (.ref ha), some (.ref ba), some (.ref ml), some (.int left), x5, x6, x7, x8, none, none, none, none, none, none, none] ∧
    TK H1 H5 ∧ H5 ml = some (.lst mv) ∧ All2 (MdAt H5) mv ms ∧ Mding hs bs i ms left ∧ Flow H5 f c ∧ But f H H5) ?_ ?_ ?_ ?_ ?_⟩
  · refine ⟨[], [], _, _, _, _, _, rfl, k1, upd_same, .nil, ⟨by show 0 + (hs.length - 0) ≤ 12; omega, (fun _ z => nomatch z), (fun _ z => absurd z (Nat.not_lt_zero _)), ?_, by omega⟩, F1.new nml, B1.new nml⟩
    show ((0 : Nat) : Int) + _ + _ = 20 + ((0 : Nat) : Int)
    omega
  · rintro i σ H5 hi ⟨mv, ms, left, x5, x6, x7, x8, rfl, k5, _⟩
    exact ⟨SqT.of (k5 _ _ eh), hi⟩
  · rintro σ H5 ⟨mv, ms, left, x5, x6, x7, x8, rfl, k5, _⟩
    exact ⟨SqT.of (k5 _ _ eh), rfl⟩
  · rintro i x σ H5 H6 hi ⟨mv, ms, left, x5, x6, x7, x8, rfl, k5, hml, alm, mi, F5, B5⟩ ⟨t, y, rfl, nt, rfl, ey⟩
    obtain ⟨h, eh2, t2, rr, rfl, e1, e2⟩ := alh.getL ey
    have gh := ok.good h (List.mem_of_getElem? eh2)
    have k6 := k5.trans (TK.new (o := .tup [V.int ((i : Nat) : Int), V.ref t2]) nt)
    have hml6 := same_new (o := .tup [V.int ((i : Nat) : Int), V.ref t2]) nt _ _ hml
    have F6 := F5.new (o := .tup [V.int ((i : Nat) : Int), V.ref t2]) nt
    have B6 := B5.new (o := .tup [V.int ((i : Nat) : Int), V.ref t2]) nt
    have lmv := alm.length
    have few := mi.few
    refine ⟨t, _, rfl, SqT.of upd_same, rfl, _, _, rfl, _, _, rfl, t2, _, rfl, SqT.of (k6 _ _ e1), rfl, _, _, rfl, _, _, rfl, rfl, rfl, ?_⟩
    refine ⟨_, rfl, .inl ⟨rfl, _, SqL.of hml6⟩, _, rfl, _, rfl, (by show 2 ≤ sizeLine; decide), fun a na => ⟨ml, _, _, rfl, rfl, same_new na _ _ hml6, small1000 (by omega), ?_⟩⟩
    have hml7 := same_new (o := .tup [nV i, V.int h.mom]) na _ _ hml6
    have kk : TK _ (upd (upd (upd H5 t (.tup [V.int ((i : Nat) : Int), V.ref t2])) a (.tup [nV i, V.int h.mom])) ml (.lst (mv ++ [V.ref a]))) := (TK.new (o := .tup [nV i, V.int h.mom]) na).trans (TK.lst hml7)
    have k7 := k6.trans kk
    have alm7 := (alm.imp fun _ _ z => z.keep ((TK.new (o := .tup [V.int ((i : Nat) : Int), V.ref t2]) nt).trans kk)).snoc (show MdAt (upd (upd (upd H5 t (.tup [V.int ((i : Nat) : Int), V.ref t2])) a (.tup [nV i, V.int h.mom])) ml (.lst (mv ++ [V.ref a]))) (V.ref a) (i, h.mom) from ⟨a, rfl, TK.lst hml7 _ _ upd_same⟩)
    have mi7 := mi.own eh2 gh
    have F7 := (F6.new (o := .tup [nV i, V.int h.mom]) na).lst (o := .lst (mv ++ [V.ref a])) mf mc
    have B7 : But f H (upd (upd (upd H5 t (.tup [V.int ((i : Nat) : Int), V.ref t2])) a (.tup [nV i, V.int h.mom])) ml (.lst (mv ++ [V.ref a]))) := (B6.new (o := .tup [nV i, V.int h.mom]) na).own ml0
    have il := (List.getElem?_eq_some_iff.mp eh2).1
    have h7 : (upd (upd (upd H5 t (.tup [V.int ((i : Nat) : Int), V.ref t2])) a (.tup [nV i, V.int h.mom])) ml (.lst (mv ++ [V.ref a]))) ml = some (.lst (mv ++ [V.ref a])) := upd_same
    generalize (upd (upd (upd H5 t (.tup [V.int ((i : Nat) : Int), V.ref t2])) a (.tup [nV i, V.int h.mom])) ml (.lst (mv ++ [V.ref a]))) = H7 at h7 k7 alm7 F7 B7 ⊢
    refine ⟨_, rfl, f, c, 3, rfl, by decide, by decide +kernel, F7, fun v H8 v0 v1 F8 B8 => ?_⟩
    have k8 := k7.trans (TK.but F7 B8)
    have sm := fun b => small_mul (v := v) (b := b) v0 (by omega)
    refine ⟨_, rfl, rr, _, _, _, rfl, rfl, SqT.of (k8 _ _ e2), atI_nat (j := 0) rfl, (by show 2 ≤ sizeLine; decide), fun u nu => ⟨u, _, rfl, .inr (SqT.of upd_same), rfl, rfl, .inr ⟨_, rfl, _, _, rfl, rfl, .inl ⟨by omega, by omega⟩, _, rfl, Int.le_trans (by decide) (sm _).1, Int.lt_of_le_of_lt (sm _).2 (by decide), for_range (lo := 0) (n := _) (fun i' σ H9 => ∃ (mv : List V) (ms : List (Nat × Int)) (left : Int) (x8 : Option V), σ = [some (.ref f), some (.ref ha), some (.ref ba), some (.ref ml), some (.int left), some (nV i), some (.ref rr), some (.int h.mom), x8, none, none, none, none, none, none, none] ∧
      TK H1 H9 ∧ H9 ml = some (.lst mv) ∧ All2 (MdAt H9) mv ms ∧ Mding hs bs (i + 1) ms left ∧ Flow H9 f c ∧ But f H H9) ?_ ?_ ?_⟩⟩⟩
    · have nu1 := TK.new (o := .tup [V.str "in", V.str "out"]) nu
      exact ⟨_, _, left, _, rfl, k8.trans nu1, same_new nu _ _ (B8 _ _ h7 mf), alm7.imp fun _ _ z => z.keep ((TK.but F7 B8).trans nu1), mi7, F8.new nu, (B7.trans B8).new nu⟩
    · rintro i' σ H9 hi' ⟨mv, ms, left, x8, rfl, k9, hml9, alm9, mi9, F9, B9⟩
      have lm9 := alm9.length
      have few9 := mi9.few
      refine ⟨_, rfl, ha, _, rfl, .inr (SqT.of (k9 _ _ eh)), _, rfl, ml, _, rfl, .inl (SqL.of hml9), _, _, rfl, rfl, _, rfl, _, _, rfl, rfl, _, _, rfl, rfl, _, rfl, if_bl (fun c1 => ?_) (fun c1 => ?_)⟩
      · have c1 := of_decide_eq_true c1
        refine ⟨_, rfl, _, rfl, rr, h.wd, _, rfl, SqT.of (k9 _ _ e2), fun H10 s10 => ⟨_, _, rfl, rfl, _, rfl, if_bl (fun c2 => ?_) (fun c2 => ?_)⟩⟩
        · have c2 := of_decide_eq_true c2
          refine ⟨_, rfl, .inl ⟨rfl, _, SqL.of (s10 _ _ hml9)⟩, _, rfl, _, rfl, f, c, 31, rfl, by decide, by decide +kernel, F9.same s10, fun v2 H11 w0 w1 F11 B11 => ⟨(by show 2 ≤ sizeLine; decide), fun a2 na2 => ⟨ml, _, _, rfl, rfl, same_new na2 _ _ (B11 _ _ (s10 _ _ hml9) mf), small1000 (by omega), ?_⟩⟩⟩
          have hml11 := same_new (o := .tup [nV i, V.int v2]) na2 _ _ (B11 _ _ (s10 _ _ hml9) mf)
          have kk : TK H9 (upd (upd H11 a2 (.tup [nV i, V.int v2])) ml (.lst (mv ++ [V.ref a2]))) := (((TK.same s10).trans (TK.but (F9.same s10) B11)).trans (TK.new (o := .tup [nV i, V.int v2]) na2)).trans (TK.lst hml11)
          have F12 := (F11.new (o := .tup [nV i, V.int v2]) na2).lst (o := .lst (mv ++ [V.ref a2])) mf mc
          have B12 : But f H (upd (upd H11 a2 (.tup [nV i, V.int v2])) ml (.lst (mv ++ [V.ref a2]))) := (((B9.same s10).trans B11).new (o := .tup [nV i, V.int v2]) na2).own ml0
          refine ⟨_, rfl, _, rfl, rr, h.wd, _, rfl, SqT.of (kk _ _ (k9 _ _ e2)), fun H12 s12 => ⟨_, _, rfl, rfl, ?_⟩⟩
          exact ⟨_, ms ++ [(i, v2)], left - needs h.wd, _, rfl, (k9.trans kk).trans (TK.same s12), s12 _ _ upd_same, ((alm9.imp fun _ _ z => z.keep kk).snoc (show MdAt _ (V.ref a2) (i, v2) from ⟨a2, rfl, TK.lst hml11 _ _ upd_same⟩)).imp fun _ _ z => z.keep (TK.same s12), mi9.more eh2 (ok.count i h eh2) (by omega) w0 w1 (by omega), F12.same s12, B12.same s12⟩
        · exact ⟨mv, ms, left, _, rfl, k9.trans (TK.same s10), s10 _ _ hml9, alm9.imp fun _ _ z => z.keep (TK.same s10), mi9, F9.same s10, B9.same s10⟩
      · exact ⟨mv, ms, left, _, rfl, k9, hml9, alm9, mi9, F9, B9⟩
    · rintro σ H9 ⟨mv, ms, left, x8, rfl, k9, hml9, alm9, mi9, F9, B9⟩
      exact ⟨mv, ms, left, _, _, _, _, rfl, k9, hml9, alm9, mi9, F9, B9⟩
  · rintro σ H5 ⟨mv, ms, left, x5, x6, x7, x8, rfl, k5, hml, alm, mi, F5, B5⟩
    rw [lhv] at mi
    exact ⟨rfl, ha, ba, ml, hv, bv, mv, hs, bs, ms, _, _, _, _, _, rfl, k5 _ _ eh, k5 _ _ eb, alh.imp fun _ _ z => z.keep k5, alb.imp fun _ _ z => z.keep k5, ok, n0, hml, alm, mi.done ok, mf, F5, B5⟩
end
/-! ### rooms marred: one thing of a room otherwise -/
theorem All2.tk {α β : Type} {R : α → β → Prop} : ∀ {as : List α} {bs : List β} (k : Nat), All2 R as bs → All2 R (as.take k) (bs.take k)
  | _, _, 0, _ => .nil
  | _, _, _ + 1, .nil => .nil
  | _, _, k + 1, .cons a b => .cons a (All2.tk k b)
theorem All2.dr {α β : Type} {R : α → β → Prop} : ∀ {as : List α} {bs : List β} (k : Nat), All2 R as bs → All2 R (as.drop k) (bs.drop k)
  | _, _, 0, h => h
  | _, _, _ + 1, .nil => .nil
  | _, _, k + 1, .cons _ b => All2.dr k b
theorem All2.ap {α β : Type} {R : α → β → Prop} {cs : List α} {ds : List β} (b : All2 R cs ds) : ∀ {as : List α} {bs : List β}, All2 R as bs → All2 R (as ++ cs) (bs ++ ds)
  | _, _, .nil => b
  | _, _, .cons h t => .cons h (All2.ap b t)
/-- l with x at place k -/
theorem set_cut {α : Type} : ∀ {l : List α} {k : Nat} {x : α}, k < l.length → l.set k x = l.take k ++ [x] ++ l.drop (k + 1)
  | _ :: _, 0, _, _ => rfl
  | y :: l, k + 1, x, h => by
    show y :: l.set k x = y :: (l.take k ++ [x] ++ l.drop (k + 1))
    rw [set_cut (by simpa using h)]
theorem All2.cutIn {α β : Type} {R : α → β → Prop} {as : List α} {bs : List β} {k : Nat} {a : α} {b : β} (h : All2 R as bs) (r : R a b) (hk : k < bs.length) : All2 R (as.take k ++ [a] ++ as.drop (k + 1)) (bs.set k b) := by
  rw [set_cut hk]
  exact All2.ap (h.dr (k + 1)) (All2.ap (.cons r .nil) (h.tk k))
theorem cut_end (xs : List V) (k : Nat) : cutV xs (some (((k : Nat) : Int) + 1)) none = xs.drop (k + 1) := by
  unfold cutV
  have e : ((k : Nat) : Int) + 1 = (((k + 1 : Nat)) : Int) := by omega
  rw [e, HT.sIx_nat, HT.sIx_none]
  by_cases h : k + 1 ≤ xs.length
  · rw [Nat.min_eq_left h, List.take_of_length_le (by rw [List.length_drop]; omega)]
  · rw [Nat.min_eq_right (by omega), Nat.sub_self, List.take_zero, List.drop_eq_nil_of_le (by omega)]
theorem set_map {α β : Type} {f : α → β} {l : List α} {k : Nat} {x y : α} (e : l[k]? = some y) (h : f x = f y) : (l.set k x).map f = l.map f := by
  refine List.ext_getElem? fun i => ?_
  rw [List.getElem?_map, List.getElem?_map, List.getElem?_set]
  by_cases z : k = i
  · subst z
    rw [if_pos rfl, if_pos (List.getElem?_eq_some_iff.mp e).1, e]
    exact congrArg some h
  · rw [if_neg z]
theorem hand_ok {hs : List HR} {bs : List BR} {k : Nat} {g h : HR} (ok : RoomOk hs bs) (e : hs[k]? = some h) (gd : GoodHand g) (no : g.wd ≠ "out") (nd : needs g.wd = needs h.wd) : RoomOk (hs.set k g) bs := by
  have ln : (hs.set k g).length = hs.length := List.length_set ..
  have kl := (List.getElem?_eq_some_iff.mp e).1
  have at_ : ∀ {j h'}, (hs.set k g)[j]? = some h' → (j = k ∧ h' = g) ∨ hs[j]? = some h' := fun {j h'} z => by
    rw [List.getElem?_set] at z
    by_cases q : k = j
    · subst q
      rw [if_pos rfl, if_pos kl] at z
      exact .inl ⟨rfl, (Option.some.inj z).symm⟩
    · rw [if_neg q] at z; exact .inr z
  refine ⟨by rw [ln]; exact ok.hands, fun h' hm => ?_, fun b hb => by rw [ln]; exact ok.ends b hb, fun b hb h' z => ?_, ok.th, ok.rank, fun j h' z => ?_, ok.many⟩
  · rcases List.mem_or_eq_of_mem_set hm with q | q
    · exact ok.good h' q
    · rw [q]; exact gd
  · rcases at_ z with ⟨_, q⟩ | q
    · rw [q]; exact no
    · exact ok.out b hb h' q
  · rcases at_ z with ⟨q1, q2⟩ | q
    · rw [q1, q2, nd]; exact ok.count k h e
    · exact ok.count j h' q
theorem belt_ok {hs : List HR} {bs : List BR} {k : Nat} {b c : BR} (ok : RoomOk hs bs) (e : bs[k]? = some b) (to : c.to = b.to) (one : c.one < hs.length) (out : ∀ h, hs[c.one]? = some h → h.wd ≠ "out") (th : c.th.length ≤ 6 ∧ True) (ne : c.th = [] → c.one = b.one ∧ b.th = []) : RoomOk hs (bs.set k c) := by
  have bm := List.mem_of_getElem? e
  obtain ⟨rk, hrk⟩ := ok.rank
  have mem : ∀ {x}, x ∈ bs.set k c → x ∈ bs ∨ x = c := fun hx => List.mem_or_eq_of_mem_set hx
  refine ⟨ok.hands, ok.good, fun x hx => ?_, fun x hx h z => ?_, fun x hx => ?_, ⟨rk, fun x hx z => ?_⟩, fun j h z => ?_, by rw [List.length_set]; exact ok.many⟩
  · rcases mem hx with q | q
    · exact ok.ends x q
    · rw [q]; exact ⟨one, by rw [to]; exact (ok.ends b bm).2⟩
  · rcases mem hx with q | q
    · exact ok.out x q h z
    · rw [q] at z; exact out h z
  · rcases mem hx with q | q
    · exact ok.th x q
    · rw [q]; exact th
  · rcases mem hx with q | q
    · exact hrk x q z
    · subst q
      obtain ⟨a1, a2⟩ := ne z
      rw [a1, to]
      exact hrk b bm a2
  · rw [set_map e to]; exact ok.count j h z
section
variable {P : Program} {w : World} {K : PySem.W.Frag} {mg : Str → Option Value} {base : Heap}
def sp_law_marred (K : PySem.W.Frag) : Sp := fun vs H Q _ => ∃ (f c r : Addr) (hs : List HR) (bs : List BR), vs = [.ref f, .ref r] ∧ Flow H f c ∧ RoomAt H r hs bs ∧ RoomOk hs bs ∧ 0 < hs.length ∧
  ∀ (r' : Addr) (hs' : List HR) (bs' : List BR) (H' : Hp), RoomAt H' r' hs' bs' → RoomOk hs' bs' → 0 < hs'.length → Flow H' f c → But f H H' → Q (.ref r') H'
theorem ok_law_marred {f : Addr} {fd : FuncData} (F : Fun K "_law_marred" "_law_marred" s_law_marred f fd) (T : Top K mg) : FnOk P w K mg base CX0 2 f fd ["_law_flow_here", "_law_room_here"] (sp_law_marred K) := by
  obtain ⟨f_law_pick, fd_law_pick, F_law_pick, b_law_pick, m_law_pick⟩ := T.d_law_pick
  have G_law_pick := ok_law_pick (P := P) (w := w) (base := base) F_law_pick T
  obtain ⟨f_law_needs, fd_law_needs, F_law_needs, b_law_needs, m_law_needs⟩ := T.d_law_needs
  have G_law_needs := ok_law_needs (P := P) (w := w) (base := base) F_law_needs T
  refine F.ok sc_law_marred (fun vs H Q E h => ?_) (fun cdv A outer s H vs Q E hr h => ?_)
  · obtain ⟨f, c, r, hs, bs, rfl, _⟩ := h
    rfl
  obtain ⟨f, c, r, hs, bs, rfl, hF, hR, ok, n0, q⟩ := h
  obtain ⟨ha, ba, hv, bv, er, eh, eb, alh, alb⟩ := hR.ex
  have lhv := alh.length
  have lbv := alb.length
  have l12 := ok.hands
  have l20 := ok.many
  let R1 : TS := fun D' σ' H' => D'.rt = Q ∧ ∃ (v : Int) (k : Nat) (x6 x7 : Option V), σ' = [some (.ref f), some (.ref r), some (.ref ha), some (.ref ba), some (.int v), some (nV k), x6, x7, none, none, none, none, none, none, none, none] ∧ Flow H' f c ∧ But f H H'
  let Fin : L2.St → Hp → Prop := fun σ' H' => ∃ (at_ : Nat) (b b' : BR) (g : Addr) (x4 x5 x6 x7 x13 x15 : Option V), σ' = [some (.ref f), some (.ref r), some (.ref ha), some (.ref ba), x4, x5, x6, x7, none, some (nV at_), some (nV b'.one), some (nV b'.to), some (.ref g), x13, none, x15] ∧
    bs[at_]? = some b ∧ H' g = some (.tup (b'.th.map V.int)) ∧ RoomOk hs (bs.set at_ b') ∧ Flow H' f c ∧ But f H H'
  let R2 : TS := fun D' σ' H' => (∀ σ H, Fin σ H → D'.nx σ H) ∧ ∃ (at_ : Nat) (b : BR) (g : Addr) (x4 x5 x6 x7 : Option V), σ' = [some (.ref f), some (.ref r), some (.ref ha), some (.ref ba), x4, x5, x6, x7, none, some (nV at_), some (nV b.one), some (nV b.to), some (.ref g), none, none, none] ∧
    bs[at_]? = some b ∧ H' g = some (.tup (b.th.map V.int)) ∧ Flow H' f c ∧ But f H H'
  let R3 : TS := fun D' σ' H' => D'.rt = Q ∧ Fin σ' H'
  have same : ∀ {i : Nat} {b : BR}, bs[i]? = some b → RoomOk hs (bs.set i b) := fun {i b} e => belt_ok ok e rfl (ok.ends b (List.mem_of_getElem? e)).1 (fun h z => ok.out b (List.mem_of_getElem? e) h z) (ok.th b (List.mem_of_getElem? e)) fun z => ⟨rfl, z⟩
  refine ⟨_, (pss_cons (ps_asg (pv 1) (pg_tupK K rfl rfl (pgs_cons (pg_name (i := 2) sc_law_marred.nd rfl (Or.inr rfl)) (pgs_cons (pg_name (i := 3) sc_law_marred.nd rfl (Or.inl rfl)) pgs_nil))))
      (pss_cons (ps_set (i := 4) sc_law_marred.nd rfl (Or.inl rfl) (pe_call G_law_pick (hr.mono (by decide)) (by rfl) m_law_pick F_law_pick.kp b_law_pick .nil pass0 (pa_cons (pv 0) (pa_cons pe_int pa_nil))))
      (pss_cons (ps_set (i := 5) sc_law_marred.nd rfl (Or.inr rfl) (pe_call G_law_pick (hr.mono (by decide)) (by rfl) m_law_pick F_law_pick.kp b_law_pick .nil pass0 (pa_cons (pv 0) (pa_cons (pe_callB (call_len_seqK K rfl) (by rfl) T.m_len (by decide +kernel) (pa_cons (pv 2) pa_nil)) pa_nil))))
      (pss_cons (ps_if (PW.pt (pw_and (pt_cmpR op_eq (pv 4) pe_int (nomark _)) (pw_and1 (pt_cmpR (op_notIn_seqK K rfl) (pe_ix (ix_tupK K rfl) (pe_ix (ix_tupK K rfl) (pe_ix (ix_tupK K rfl) (pv 2) (pv 5) (fun _ _ => rfl)) pe_int (fun _ _ => rfl)) pe_int (fun _ _ => rfl)) (pe_tup (pa_cons pe_str (pa_cons pe_str pa_nil))) (by with_unfolding_all rfl))))) (pss_cons (ps_set (i := 6) sc_law_marred.nd rfl (Or.inl rfl) (pe_lst (pa_cons (pe_tup (pa_cons pe_str pa_nil)) (pa_cons (pe_tup (pa_cons pe_str (pa_cons pe_int pa_nil))) (pa_cons (pe_tup (pa_cons pe_str pa_nil)) (pa_cons (pe_tup (pa_cons pe_str pa_nil)) pa_nil))))))
      (pss_cons (ps_setLc (i := 7) (own := [("_law_rule_here", 8)]) (g := gName 8) (by rfl) sc_law_marred.nd rfl rfl (sw_true rfl rfl rfl (by decide +kernel)) (pi_listK K rfl (pv 6)) (blkOk_by (own := [("_law_rule_here", 8)]) (N := N_law_marred) (sc := defScope s_law_marred) (by decide +kernel)) (fun _ _ _ _ _ => (pg_name (i := 8) sc_law_marred.nd rfl (Or.inl rfl))) (fun _ _ _ _ _ => pts_one (pt_cmpR op_eq (pe_call G_law_needs (hr.mono (by decide)) (by rfl) m_law_needs F_law_needs.kp b_law_needs .nil pass0 (pa_cons (pv 8) pa_nil)) (pe_call G_law_needs (hr.mono (by decide)) (by rfl) m_law_needs F_law_needs.kp b_law_needs .nil pass0 (pa_cons (pe_ix (ix_tupK K rfl) (pe_ix (ix_tupK K rfl) (pv 2) (pv 5) (fun _ _ => rfl)) pe_int (fun _ _ => rfl)) pa_nil)) (nomark _))) (fun _ _ _ _ _ => (pv 8)))
      (pss_one (ps_if (pt_cmpR op_gt (pe_callB (call_len_seqK K rfl) (by rfl) T.m_len (by decide +kernel) (pa_cons (pv 7) pa_nil)) pe_int (nomark _)) (pss_one (ps_ret (pe_tup (pa_cons (pe_op (op_catAK K rfl) (pe_op (op_catAK K rfl) (pe_slice (sl_tupAK K rfl) (pv 2) po_none (po_some (pv 5))) (pe_tup (pa_cons (pe_tup (pa_cons (pe_ix (ix_listK K rfl) (pv 7) (pe_call G_law_pick (hr.mono (by decide)) (by rfl) m_law_pick F_law_pick.kp b_law_pick .nil pass0 (pa_cons (pv 0) (pa_cons (pe_callB (call_len_seqK K rfl) (by rfl) T.m_len (by decide +kernel) (pa_cons (pv 7) pa_nil)) pa_nil))) (fun _ _ => rfl)) (pa_cons (pe_ix (ix_tupK K rfl) (pe_ix (ix_tupK K rfl) (pv 2) (pv 5) (fun _ _ => rfl)) pe_int (fun _ _ => rfl)) pa_nil))) pa_nil))) (pe_slice (sl_tupAK K rfl) (pv 2) (po_some (pe_op op_add (pv 5) pe_int)) po_none)) (pa_cons (pv 3) pa_nil))))) pss_nil)))) pss_nil)
      (PSs.to (pss_cons (ps_if (pt_cmpR op_eq (pe_callB (call_len_seqK K rfl) (by rfl) T.m_len (by decide +kernel) (pa_cons (pv 3) pa_nil)) pe_int (nomark _)) (pss_one (ps_ret (pv 1))) pss_nil)
      (pss_cons (ps_set (i := 9) sc_law_marred.nd rfl (Or.inl rfl) (pe_call G_law_pick (hr.mono (by decide)) (by rfl) m_law_pick F_law_pick.kp b_law_pick .nil pass0 (pa_cons (pv 0) (pa_cons (pe_callB (call_len_seqK K rfl) (by rfl) T.m_len (by decide +kernel) (pa_cons (pv 3) pa_nil)) pa_nil))))
      (pss_cons (ps_asg (pe_ix (ix_tupK K rfl) (pv 3) (pv 9) (fun _ _ => rfl)) (pg_tupK K rfl rfl (pgs_cons (pg_name (i := 10) sc_law_marred.nd rfl (Or.inl rfl)) (pgs_cons (pg_name (i := 11) sc_law_marred.nd rfl (Or.inl rfl)) (pgs_cons (pg_name (i := 12) sc_law_marred.nd rfl (Or.inl rfl)) pgs_nil)))))
      (pss_cons (ps_if (PW.pt (pw_and (pt_cmpR op_eq (pv 4) pe_int (nomark _)) (pw_and1 (pt_cmpR op_lt (pe_callB (call_len_seqK K rfl) (by rfl) T.m_len (by decide +kernel) (pa_cons (pv 12) pa_nil)) pe_int (nomark _))))) (pss_one (ps_set (i := 12) sc_law_marred.nd rfl (Or.inl rfl) (pe_op (op_catAK K rfl) (pv 12) (pe_tup (pa_cons (pe_call G_law_pick (hr.mono (by decide)) (by rfl) m_law_pick F_law_pick.kp b_law_pick .nil pass0 (pa_cons (pv 0) (pa_cons pe_int pa_nil))) pa_nil))))) (pss_one (ps_if (PW.pt (pw_and (pt_cmpR op_eq (pv 4) pe_int (nomark _)) (pw_and1 (pt_cmpR op_gt (pe_callB (call_len_seqK K rfl) (by rfl) T.m_len (by decide +kernel) (pa_cons (pv 12) pa_nil)) pe_int (nomark _))))) (pss_cons (ps_setLc (i := 13) (own := [("_law_j", 14)]) (g := gName 14) (by rfl) sc_law_marred.nd rfl rfl (sw_true rfl rfl rfl (by decide +kernel)) (pi_range1 (by rfl) T.m_range (pa_cons (pe_callB (call_len_seqK K rfl) (by rfl) T.m_len (by decide +kernel) (pa_cons (pv 2) pa_nil)) pa_nil)) (blkOk_by (own := [("_law_j", 14)]) (N := N_law_marred) (sc := defScope s_law_marred) (by decide +kernel)) (fun _ _ _ _ _ => (pg_name (i := 14) sc_law_marred.nd rfl (Or.inl rfl))) (fun _ _ _ _ _ => pts_one (pt_cmpR (op_neDK K rfl hr.units) (pe_ix (ix_tupK K rfl) (pe_ix (ix_tupK K rfl) (pv 2) (pv 14) (fun _ _ => rfl)) pe_int (fun _ _ => rfl)) (pe_tup (pa_cons pe_str pa_nil)) (nomark _))) (fun _ _ _ _ _ => (pv 14)))
      (pss_one (ps_set (i := 10) sc_law_marred.nd rfl (Or.inl rfl) (pe_ix (ix_listK K rfl) (pv 13) (pe_call G_law_pick (hr.mono (by decide)) (by rfl) m_law_pick F_law_pick.kp b_law_pick .nil pass0 (pa_cons (pv 0) (pa_cons (pe_callB (call_len_seqK K rfl) (by rfl) T.m_len (by decide +kernel) (pa_cons (pv 13) pa_nil)) pa_nil))) (fun _ _ => rfl))))) (PSs.to (pss_one (ps_if (pt_cmpR op_gt (pe_callB (call_len_seqK K rfl) (by rfl) T.m_len (by decide +kernel) (pa_cons (pv 12) pa_nil)) pe_int (nomark _)) (pss_cons (ps_set (i := 15) sc_law_marred.nd rfl (Or.inl rfl) (pe_call G_law_pick (hr.mono (by decide)) (by rfl) m_law_pick F_law_pick.kp b_law_pick .nil pass0 (pa_cons (pv 0) (pa_cons (pe_callB (call_len_seqK K rfl) (by rfl) T.m_len (by decide +kernel) (pa_cons (pv 12) pa_nil)) pa_nil))))
      (pss_one (ps_set (i := 12) sc_law_marred.nd rfl (Or.inl rfl) (pe_op (op_catAK K rfl) (pe_op (op_catAK K rfl) (pe_slice (sl_tupAK K rfl) (pv 12) po_none (po_some (pv 15))) (pe_tup (pa_cons (pe_op op_add (pe_ix (ix_tupK K rfl) (pv 12) (pv 15) (fun _ _ => rfl)) (pe_ix (ix_listK K rfl) (pe_lst (pa_cons pe_int (pa_cons (pe_un un_neg pe_int) pa_nil))) (pe_callTy call_int1 (by rfl) T.m_int (by decide +kernel) (pa_cons (pe_cmpR op_gt (pe_ix (ix_tupK K rfl) (pv 12) (pv 15) (fun _ _ => rfl)) pe_int (nomark _)) pa_nil)) (fun _ _ => rfl))) pa_nil))) (pe_slice (sl_tupAK K rfl) (pv 12) (po_some (pe_op op_add (pv 15) pe_int)) po_none))))) pss_nil)) R2 ?tail2))))
      (PSs.to (pss_one (ps_ret (pe_tup (pa_cons (pv 2) (pa_cons (pe_op (op_catAK K rfl) (pe_op (op_catAK K rfl) (pe_slice (sl_tupAK K rfl) (pv 3) po_none (po_some (pv 9))) (pe_tup (pa_cons (pe_tup (pa_cons (pv 10) (pa_cons (pv 11) (pa_cons (pv 12) pa_nil)))) pa_nil))) (pe_slice (sl_tupAK K rfl) (pv 3) (po_some (pe_op op_add (pv 9) pe_int)) po_none)) pa_nil))))) R3 ?tail3))))) R1 ?tail1))))), ?_⟩
  case tail2 =>
    rintro D' σ' H1 ⟨nx, at_, b, g, x4, x5, x6, x7, rfl, ebt, hg, F1, B1⟩
    have bm := List.mem_of_getElem? ebt
    obtain ⟨th6, thS⟩ := ok.th b bm
    have lth : (b.th.map V.int).length = b.th.length := List.length_map ..
    refine ⟨_, rfl, g, _, rfl, .inr (SqT.of hg), _, _, rfl, rfl, _, rfl, if_bl (fun c1 => ?_) (fun c1 => ?_)⟩
    · have c1 : 0 < b.th.length := by have := of_decide_eq_true c1; omega
      refine ⟨_, rfl, _, rfl, g, _, rfl, .inr (SqT.of hg), f, c, _, rfl, by omega, Nat.lt_of_le_of_lt (Nat.log2_le_self _) (by omega), F1, fun tv H2 v0 v1 F2 B2 => ?_⟩
      obtain ⟨j, rfl⟩ := Int.eq_ofNat_of_zero_le v0
      have jl : j < b.th.length := by have : ((j : Nat) : Int) < _ := v1; omega
      obtain ⟨y, ey⟩ : ∃ y, b.th[j]? = some y := ⟨_, List.getElem?_eq_getElem jl⟩
      have hg2 := TK.but F1 B2 _ _ hg
      have ay : (b.th.map V.int)[j]? = some (V.int y) := by rw [List.getElem?_map, ey]; rfl
      refine ⟨_, rfl, _, rfl, _, rfl, slA_of hg2 fun p1 H3 h1 s1 => ?_⟩
      rw [cut_take] at h1
      refine ⟨_, rfl, _, rfl, g, _, _, _, rfl, rfl, SqT.of (s1 _ _ hg2), atI_nat ay, ?_⟩
      obtain ⟨sg, es, sy⟩ : ∃ sg : Int, atI [V.int 1, V.int (-1)] (if decide (0 < y) = true then 1 else 0) = some (V.int sg) ∧ True := by
        by_cases h : 0 < y
        · rw [decide_eq_true h, if_pos rfl]
          exact ⟨-1, rfl, trivial⟩
        · rw [decide_eq_false h, if_neg Bool.false_ne_true]
          exact ⟨1, rfl, trivial⟩
      refine ⟨_, rfl, (by show 2 ≤ sizeLine; decide), fun l nl => ?_⟩
      have s2 := same_new (o := .lst [V.int 1, V.int (-1)]) nl
      refine ⟨_, rfl, _, rfl, g, _, _, _, rfl, rfl, SqT.of (s2 _ _ (s1 _ _ hg2)), atI_nat ay, _, _, rfl, rfl, .inr ⟨_, rfl, l, _, _, _, rfl, rfl, SqL.of upd_same, es, _, _, rfl, rfl, (by show 1 ≤ sizeLine; decide), fun u nu => ?_⟩⟩
      have s3 := same_new (o := .tup [V.int (y + sg)]) nu
      refine catA_of (s3 _ _ (s2 _ _ h1)) upd_same (by rw [List.length_take]; show _ + 1 ≤ 1000; omega) fun p3 H4 h3 s4 => ?_
      have s24 : Same H2 H4 := fun a o e => s4 _ _ (s3 _ _ (s2 _ _ (s1 _ _ e)))
      refine ⟨_, rfl, _, rfl, _, _, rfl, rfl, _, rfl, ?_⟩
      dsimp only [tNoPart]
      refine slA_of (s24 _ _ hg2) fun p4 H5 h4 s5 => ?_
      rw [cut_end] at h4
      refine catA_of (s5 _ _ h3) h4 (by rw [List.length_append, List.length_take, List.length_drop]; show _ + 1 + _ ≤ 1000; omega) fun p5 H6 h5 s6 => ?_
      have s26 : Same H2 H6 := fun a o e => s6 _ _ (s5 _ _ (s24 _ _ e))
      have ev : (b.th.map V.int).take j ++ [V.int (y + sg)] ++ (b.th.map V.int).drop (j + 1) = (b.th.set j (y + sg)).map V.int := by
        rw [set_cut jl, List.map_append, List.map_append, List.map_take, List.map_drop]
        rfl
      refine nx _ _ ⟨at_, b, ⟨b.one, b.to, b.th.set j (y + sg)⟩, p5, _, _, _, _, _, _, rfl, ebt, h5.trans (congrArg (fun l => some (HO.tup l)) ev), belt_ok ok ebt rfl (ok.ends b bm).1 (fun h z => ok.out b bm h z) ⟨by rw [List.length_set]; exact th6, trivial⟩ (fun z => ?_), F2.same s26, (B1.trans B2).same s26⟩
      · have z := congrArg List.length z
        rw [List.length_set] at z
        have z : b.th.length = 0 := z
        omega
    · exact nx _ _ ⟨at_, b, b, g, _, _, _, _, _, _, rfl, ebt, hg, same ebt, F1, B1⟩
  case tail3 =>
    rintro D' σ' H1 ⟨eD, at_, b, b', g, x4, x5, x6, x7, x13, x15, rfl, ebt, hg, ok', F1, B1⟩
    have k1 := TK.but hF B1
    have atl := (List.getElem?_eq_some_iff.mp ebt).1
    refine ⟨_, rfl, _, rfl, _, rfl, _, rfl, slA_of (k1 _ _ eb) fun p1 H2 h1 s1 => ?_⟩
    rw [cut_take] at h1
    refine ⟨_, rfl, _, rfl, _, rfl, (by show 3 ≤ sizeLine; decide), fun t nt => ⟨(by show 1 ≤ sizeLine; decide), fun u nu => ?_⟩⟩
    have st := same_new (o := .tup [nV b'.one, nV b'.to, V.ref g]) nt
    have su := same_new (o := .tup [V.ref t]) nu
    refine catA_of (su _ _ (st _ _ h1)) upd_same (by rw [List.length_take]; show _ + 1 ≤ 1000; omega) fun p3 H4 h3 s4 => ?_
    have s14 : Same H1 H4 := fun a o e => s4 _ _ (su _ _ (st _ _ (s1 _ _ e)))
    refine ⟨_, rfl, _, rfl, _, _, rfl, rfl, _, rfl, ?_⟩
    dsimp only [tNoPart]
    refine slA_of (s14 _ _ (k1 _ _ eb)) fun p4 H5 h4 s5 => ?_
    rw [cut_end] at h4
    refine catA_of (s5 _ _ h3) h4 (by rw [List.length_append, List.length_take, List.length_drop]; show _ + 1 + _ ≤ 1000; omega) fun p5 H6 h5 s6 => ⟨(by show 2 ≤ sizeLine; decide), fun r' nr => ?_⟩
    have s7 := same_new (o := .tup [V.ref ha, V.ref p5]) nr
    have s17 : Same H1 _ := fun a o e => s7 _ _ (s6 _ _ (s5 _ _ (s14 _ _ e)))
    have k17 := k1.trans (TK.same s17)
    have x0 : BeltAt _ (V.ref t) b' := ⟨t, g, rfl, s7 _ _ (s6 _ _ (s5 _ _ (s4 _ _ (su _ _ upd_same)))), s17 _ _ hg⟩
    show D'.rt (.ref r') _
    rw [eD]
    exact q r' hs _ _ ⟨ha, p5, hv, _, upd_same, k17 _ _ eh, s7 _ _ h5, alh.imp fun _ _ z => z.keep k17, (alb.imp fun _ _ z => z.keep k17).cutIn x0 atl⟩ ok' n0 (F1.same s17) (B1.same s17)
  case tail1 =>
    rintro D' σ' H1 ⟨eD, v, k, x6, x7, rfl, F1, B1⟩
    have k1 := TK.but hF B1
    refine ⟨_, rfl, ba, _, rfl, .inr (SqT.of (k1 _ _ eb)), rfl, _, rfl, if_bl (fun c1 => ?_) (fun c1 => ?_)⟩
    · refine ⟨_, rfl, ?_⟩
      show D'.rt (.ref r) _
      rw [eD]
      exact q r hs bs _ (hR.keep k1) ok n0 F1 B1
    have c1 : bv.length ≠ 0 := fun z => of_decide_eq_false c1 (by rw [z]; rfl)
    refine ⟨_, rfl, _, rfl, ba, _, rfl, .inr (SqT.of (k1 _ _ eb)), f, c, _, rfl, by omega, Nat.lt_of_le_of_lt (Nat.log2_le_self _) (by omega), F1, fun ta H2 a0 a1 F2 B2 => ?_⟩
    obtain ⟨at_, rfl⟩ := Int.eq_ofNat_of_zero_le a0
    have k2 := k1.trans (TK.but F1 B2)
    have B12 := B1.trans B2
    obtain ⟨b, ebt⟩ : ∃ b, bs[at_]? = some b := ⟨_, List.getElem?_eq_getElem (by have : ((at_ : Nat) : Int) < _ := a1; omega)⟩
    have bm := List.mem_of_getElem? ebt
    obtain ⟨x, ex, tb, g, rfl, e1, e2⟩ := alb.get ebt
    obtain ⟨th6, thS⟩ := ok.th b bm
    refine ⟨_, rfl, _, rfl, ba, _, _, _, rfl, rfl, SqT.of (k2 _ _ eb), atI_nat ex, tb, _, rfl, SqT.of (k2 _ _ e1), rfl, _, _, rfl, _, _, rfl, _, _, rfl, rfl, ?_⟩
    have nx : ∀ σ H, Fin σ H → R3 D' σ H := fun σ H z => ⟨eD, z⟩
    have lth : (b.th.map V.int).length = b.th.length := List.length_map ..
    refine ⟨_, rfl, rfl, _, rfl, if_bl (fun c2 => ?_) (fun c2 => ?_)⟩
    · refine ⟨_, rfl, g, _, rfl, .inr (SqT.of (k2 _ _ e2)), _, _, rfl, rfl, _, rfl, if_bl (fun c3 => ?_) (fun c3 => ?_)⟩
      · have c3 : b.th.length < 6 := by have := of_decide_eq_true c3; omega
        refine ⟨_, rfl, _, rfl, f, c, 3, rfl, by decide, by decide +kernel, F2, fun y H3 y0 y1 F3 B3 => ⟨(by show 1 ≤ sizeLine; decide), fun u nu => ?_⟩⟩
        have k3 := (TK.but F2 B3).trans (TK.new (o := .tup [V.int y]) nu)
        refine catA_of (k3 _ _ (k2 _ _ e2)) upd_same (by rw [lth]; show _ + 1 ≤ 1000; omega) fun p3 H4 h3 s4 => ?_
        have ev : b.th.map V.int ++ [V.int y] = (b.th ++ [y]).map V.int := by rw [List.map_append]; rfl
        exact nx _ _ ⟨at_, b, ⟨b.one, b.to, b.th ++ [y]⟩, p3, _, _, _, _, _, _, rfl, ebt, h3.trans (congrArg (fun l => some (HO.tup l)) ev), belt_ok ok ebt rfl (ok.ends b bm).1 (fun h z => ok.out b bm h z) ⟨by rw [List.length_append]; show _ + 1 ≤ 6; omega, trivial⟩ (fun z => by simp at z), (F3.new nu).same s4, ((B12.trans B3).new nu).same s4⟩
      · refine ⟨_, rfl, rfl, _, rfl, if_bl (fun c4 => ?_) (fun _ => ?_)⟩
        · have a1 := V.int.inj (of_decide_eq_true c2)
          have a2 := V.int.inj (of_decide_eq_true c4)
          omega
        · exact ⟨nx, at_, b, g, _, _, _, _, rfl, ebt, k2 _ _ e2, F2, B12⟩
    · refine ⟨_, rfl, rfl, _, rfl, if_bl (fun c4 => ?_) (fun _ => ?_)⟩
      · refine ⟨_, rfl, g, _, rfl, .inr (SqT.of (k2 _ _ e2)), _, _, rfl, rfl, _, rfl, if_bl (fun c3 => ?_) (fun c3 => ?_)⟩
        · have c3 : 0 < b.th.length := by have := of_decide_eq_true c3; omega
          refine ⟨_, rfl, ha, _, rfl, .inr (SqT.of (k2 _ _ eh)), _, rfl, by omega, by omega, fun D nD => lc_range (lo := 0) (n := hv.length) (fun i H5 => H5 D = some (.lst (((List.range i).filter fun j => decide (hs[j]?.map HR.wd ≠ some "out")).map nV)) ∧ Same H2 H5) ⟨upd_same, same_new nD⟩ ?_ ?_⟩
          · rintro i H5 hi ⟨hD, s5⟩
            obtain ⟨hx, ehx⟩ : ∃ x, hv[i]? = some x := ⟨_, List.getElem?_eq_getElem hi⟩
            obtain ⟨hh, ehh, t2, rr, rfl, g1, g2⟩ := alh.getL ehx
            have gh := ok.good hh (List.mem_of_getElem? ehh)
            have few := filt_len (p := fun j => decide (hs[j]?.map HR.wd ≠ some "out")) i
            refine ⟨rfl, _, rfl, _, rfl, ha, _, _, _, rfl, rfl, SqT.of (s5 _ _ (k2 _ _ eh)), at0 ehx, t2, _, _, _, rfl, rfl, SqT.of (s5 _ _ (k2 _ _ g1)), atI_nat (j := 0) rfl, (by show 1 ≤ sizeLine; decide), fun o1 no1 => ?_⟩
            have s6 := same_new (o := .tup [V.str "out"]) no1
            refine ⟨_, _, rule_dp (s6 _ _ (s5 _ _ (k2 _ _ g2))), .tup (SqT.of upd_same) (.cons (.str _) .nil), rule_shaped gh.lay, one_shaped (by decide +kernel), _, rfl, ?_⟩
            rw [rule_eqv, gh.door "out" (.inr rfl)]
            by_cases kk : hh.wd = "out"
            · rw [decide_eq_true kk]
              refine if_bl (fun z => absurd z (by decide)) (fun _ => ⟨?_, fun a o e => s6 _ _ (s5 _ _ e)⟩)
              rw [filt_succ, if_neg (fun z => (of_decide_eq_true z) (by rw [ehh]; exact congrArg some kk)), List.append_nil]
              exact s6 _ _ hD
            · rw [decide_eq_false kk]
              refine if_bl (fun _ => ⟨_, rfl, _, s6 _ _ hD, by rw [List.length_map]; exact small1000 (by omega), ?_, Same.own (fun a o e => s6 _ _ (s5 _ _ e)) nD⟩) (fun z => absurd z (by decide))
              rw [upd_same, filt_succ, if_pos (decide_eq_true (by rw [ehh]; exact fun z => kk (Option.some.inj z))), List.map_append, Int.zero_add]
              rfl
          · rintro H5 ⟨hD, s5⟩
            have Df : D ≠ f := F2.ne nD
            obtain ⟨h1, eh1⟩ : ∃ h1, hs[b.one]? = some h1 := ⟨_, List.getElem?_eq_getElem (ok.ends b bm).1⟩
            have pos : 0 < ((List.range hv.length).filter fun j => decide (hs[j]?.map HR.wd ≠ some "out")).length := by
              refine List.length_pos_of_mem (a := b.one) (List.mem_filter.mpr ⟨List.mem_range.mpr (by rw [lhv]; exact (ok.ends b bm).1), decide_eq_true ?_⟩)
              rw [eh1]
              exact fun z => ok.out b bm h1 eh1 (Option.some.inj z)
            have few := filt_len (p := fun j => decide (hs[j]?.map HR.wd ≠ some "out")) hv.length
            refine ⟨_, rfl, _, rfl, _, rfl, D, _, rfl, .inl (SqL.of hD), f, c, _, rfl, by rw [List.length_map]; omega, Nat.lt_of_le_of_lt (Nat.log2_le_self _) (by rw [List.length_map]; omega), F2.same s5, fun u H6 u0 u1 F6 B6 => ?_⟩
            rw [List.length_map] at u1
            obtain ⟨o, eo⟩ : ∃ o, ((List.range hv.length).filter fun j => decide (hs[j]?.map HR.wd ≠ some "out"))[u.toNat]? = some o := ⟨_, List.getElem?_eq_getElem (by omega)⟩
            obtain ⟨o1, o2⟩ := List.mem_filter.mp (List.mem_of_getElem? eo)
            have o1 := List.mem_range.mp o1
            have o2 := of_decide_eq_true o2
            have uo : atI (((List.range hv.length).filter fun j => decide (hs[j]?.map HR.wd ≠ some "out")).map nV) u = some (nV o) := by
              have := atI_nat (xs := ((List.range hv.length).filter fun j => decide (hs[j]?.map HR.wd ≠ some "out")).map nV) (j := u.toNat) (v := nV o) (by rw [List.getElem?_map, eo]; rfl)
              rw [show ((u.toNat : Nat) : Int) = u by omega] at this
              exact this
            refine ⟨D, _, u, _, rfl, rfl, SqL.of (B6 _ _ hD Df), uo, ?_⟩
            refine nx _ _ ⟨at_, b, ⟨o, b.to, b.th⟩, g, _, _, _, _, _, _, rfl, ebt, TK.but (F2.same s5) B6 _ _ (s5 _ _ (k2 _ _ e2)), belt_ok ok ebt rfl (show o < hs.length by omega) (fun h z q => o2 (by rw [z]; exact congrArg some q)) (ok.th b bm) (fun z => ?_), F6, (B12.same s5).trans B6⟩
            have z : b.th = [] := z
            rw [z] at c3
            exact absurd c3 (Nat.not_lt_zero _)
        · exact ⟨nx, at_, b, g, _, _, _, _, rfl, ebt, k2 _ _ e2, F2, B12⟩
      · exact ⟨nx, at_, b, g, _, _, _, _, rfl, ebt, k2 _ _ e2, F2, B12⟩
  have eD0 : ({ nx := fun x H' => Q V.non H', rt := Q } : Ends).rt = Q := rfl
  refine ⟨_, rfl, r, _, rfl, SqT.of er, rfl, _, _, rfl, _, _, rfl, rfl, ?_⟩
  refine ⟨_, rfl, f, c, 4, rfl, by decide, by decide +kernel, hF, fun v H1 v0 v1 F1 B1 => ?_⟩
  have k1 := TK.but hF B1
  refine ⟨_, rfl, _, rfl, ha, _, rfl, .inr (SqT.of (k1 _ _ eh)), f, c, _, rfl, by omega, Nat.lt_of_le_of_lt (Nat.log2_le_self _) (by omega), F1, fun tk H2 t0 t1 F2 B2 => ?_⟩
  obtain ⟨k, rfl⟩ := Int.eq_ofNat_of_zero_le t0
  have kl : k < hs.length := by have : ((k : Nat) : Int) < _ := t1; omega
  have k2 := k1.trans (TK.but F1 B2)
  have B12 := B1.trans B2
  obtain ⟨h, ehk⟩ : ∃ h, hs[k]? = some h := ⟨_, List.getElem?_eq_getElem kl⟩
  obtain ⟨x, ex, t, rr, rfl, e1, e2⟩ := alh.get ehk
  have gh := ok.good h (List.mem_of_getElem? ehk)
  refine ⟨_, rfl, rfl, _, rfl, if_bl (fun c1 => ?_) (fun c1 => ⟨eD0, v, k, _, _, rfl, F2, B12⟩)⟩
  refine ⟨_, rfl, _, rfl, ha, _, _, _, rfl, rfl, SqT.of (k2 _ _ eh), atI_nat ex, t, _, _, _, rfl, rfl, SqT.of (k2 _ _ e1), atI_nat (j := 0) rfl, rr, _, _, _, rfl, rfl, SqT.of (k2 _ _ e2), atI_nat (j := 0) rfl, (by show 2 ≤ sizeLine; decide), fun u nu => ⟨u, _, rfl, .inr (SqT.of upd_same), rfl, rfl, _, rfl, ?_⟩⟩
  rw [if_pos (rfl : true = true)]
  have k3 := k2.trans (TK.new (o := .tup [V.str "in", V.str "out"]) nu)
  have F3 := F2.new (o := .tup [V.str "in", V.str "out"]) nu
  have B3 := B12.new (o := .tup [V.str "in", V.str "out"]) nu
  refine if_bl (fun c2 => ?_) (fun c2 => ⟨eD0, v, k, _, _, rfl, F3, B3⟩)
  have nin : h.wd ∉ (["in", "out"] : List Str) := fun z => by
    have := (inV_strs (x := h.wd) (zs := ["in", "out"])).mpr z
    have c2 : (!inV (V.str h.wd) ((["in", "out"] : List Str).map V.str)) = true := c2
    rw [this] at c2
    cases c2
  let G : List HR := [⟨"same", none, 0⟩, ⟨"times", some 1, 0⟩, ⟨"sum", none, 0⟩, ⟨"gap", none, 0⟩]
  have gG : ∀ g ∈ G, GoodRule g ∧ g.wd ≠ "out" := fun g hg => by
    simp only [G, List.mem_cons, List.not_mem_nil, or_false] at hg
    rcases hg with rfl | rfl | rfl | rfl
    · exact ⟨⟨by decide +kernel, by decide +kernel, (fun n z => nomatch z)⟩, by decide +kernel⟩
    · exact ⟨⟨by decide +kernel, by decide +kernel, (fun n z => by rw [← Option.some.inj z]; exact ⟨by decide, by decide⟩)⟩, by decide +kernel⟩
    · exact ⟨⟨by decide +kernel, by decide +kernel, (fun n z => nomatch z)⟩, by decide +kernel⟩
    · exact ⟨⟨by decide +kernel, by decide +kernel, (fun n z => nomatch z)⟩, by decide +kernel⟩
  refine ⟨(by show 1 ≤ sizeLine; decide), fun a1 n1 => ⟨(by show 2 ≤ sizeLine; decide), fun a2 n2 => ⟨(by show 1 ≤ sizeLine; decide), fun a3 n3 => ⟨(by show 1 ≤ sizeLine; decide), fun a4 n4 => ⟨(by show 4 ≤ sizeLine; decide), fun pl npl => ?_⟩⟩⟩⟩⟩
  have t1 := same_new (o := .tup [V.str "same"]) n1
  have t2 := same_new (o := .tup [V.str "times", V.int 1]) n2
  have t3 := same_new (o := .tup [V.str "sum"]) n3
  have t4 := same_new (o := .tup [V.str "gap"]) n4
  have t5 := same_new (o := .lst [V.ref a1, V.ref a2, V.ref a3, V.ref a4]) npl
  have s5 : Same _ _ := fun a o e => t5 a o (t4 a o (t3 a o (t2 a o (t1 a o e))))
  have k5 := k3.trans (TK.same s5)
  have F5 := F3.same s5
  have B5 := B3.same s5
  have alG : All2 (fun (v : V) (g : HR) => ∃ a : Addr, v = .ref a ∧ (upd (upd (upd (upd (upd (upd H2 u (.tup [V.str "in", V.str "out"])) a1 (.tup [V.str "same"])) a2 (.tup [V.str "times", V.int 1])) a3 (.tup [V.str "sum"])) a4 (.tup [V.str "gap"])) pl (.lst [V.ref a1, V.ref a2, V.ref a3, V.ref a4])) a = some (.tup (ruleL g))) [V.ref a1, V.ref a2, V.ref a3, V.ref a4] G :=
    .cons ⟨a1, rfl, t5 _ _ (t4 _ _ (t3 _ _ (t2 _ _ upd_same)))⟩ (.cons ⟨a2, rfl, t5 _ _ (t4 _ _ (t3 _ _ upd_same))⟩ (.cons ⟨a3, rfl, t5 _ _ (t4 _ _ upd_same)⟩ (.cons ⟨a4, rfl, t5 _ _ upd_same⟩ .nil)))
  have hpl : (upd (upd (upd (upd (upd (upd H2 u (.tup [V.str "in", V.str "out"])) a1 (.tup [V.str "same"])) a2 (.tup [V.str "times", V.int 1])) a3 (.tup [V.str "sum"])) a4 (.tup [V.str "gap"])) pl (.lst [V.ref a1, V.ref a2, V.ref a3, V.ref a4])) pl = some (.lst [V.ref a1, V.ref a2, V.ref a3, V.ref a4]) := upd_same
  clear s5 t1 t2 t3 t4 t5
  generalize (upd (upd (upd (upd (upd (upd H2 u (.tup [V.str "in", V.str "out"])) a1 (.tup [V.str "same"])) a2 (.tup [V.str "times", V.int 1])) a3 (.tup [V.str "sum"])) a4 (.tup [V.str "gap"])) pl (.lst [V.ref a1, V.ref a2, V.ref a3, V.ref a4])) = H5 at k5 F5 B5 alG hpl ⊢
  refine ⟨_, rfl, pl, rfl, ⟨_, SqL.of hpl⟩, fun D nD => lc_list (K := K) (a := pl) (xs := [V.ref a1, V.ref a2, V.ref a3, V.ref a4]) (fun i H6 => ∃ us : List V, H6 D = some (.lst us) ∧ us.length ≤ i ∧ (∀ y ∈ us, ∃ (a : Addr) (g : HR), y = .ref a ∧ H5 a = some (.tup (ruleL g)) ∧ GoodRule g ∧ g.wd ≠ "out" ∧ needs g.wd = needs h.wd) ∧ Same H5 H6) ⟨[], upd_same, Nat.le_refl _, (fun _ z => nomatch z), same_new nD⟩ (fun i H6 _ ⟨_, _, _, _, s6⟩ => SqL.of (s6 _ _ hpl)) ?_ ?_⟩
  · rintro i y H6 hx ⟨us, hD, lu, gu, s6⟩
    obtain ⟨g, eg, ag, rfl, e3⟩ := alG.getL hx
    obtain ⟨g1, g2⟩ := gG g (List.mem_of_getElem? eg)
    have il : i < 4 := (List.getElem?_eq_some_iff.mp hx).1
    refine ⟨rfl, _, rfl, ag, g.wd, _, rfl, SqT.of (s6 _ _ e3), fun H7 s7 => ⟨_, rfl, _, rfl, ha, _, _, _, rfl, rfl, SqT.of (s7 _ _ (s6 _ _ (k5 _ _ eh))), atI_nat ex, t, _, _, _, rfl, rfl, SqT.of (s7 _ _ (s6 _ _ (k5 _ _ e1))), atI_nat (j := 0) rfl, rr, h.wd, _, rfl, SqT.of (s7 _ _ (s6 _ _ (k5 _ _ e2))), fun H8 s8 => ⟨rfl, _, rfl, if_bl (fun c3 => ?_) (fun c3 => ?_)⟩⟩⟩
    · have c3 := V.int.inj (of_decide_eq_true c3)
      have s68 : Same H5 H8 := fun a o e => s8 _ _ (s7 _ _ (s6 _ _ e))
      refine ⟨_, rfl, _, s8 _ _ (s7 _ _ hD), small1000 (by omega), us ++ [.ref ag], upd_same, by rw [List.length_append]; show _ + 1 ≤ i + 1; omega, fun y hy => ?_, Same.own s68 nD⟩
      rcases List.mem_append.mp hy with hy | hy
      · exact gu y hy
      · exact ⟨ag, g, List.mem_singleton.mp hy, e3, g1, g2, c3⟩
    · exact ⟨us, s8 _ _ (s7 _ _ hD), by omega, gu, fun a o e => s8 _ _ (s7 _ _ (s6 _ _ e))⟩
  rintro H6 ⟨us, hD, lu, gu, s6⟩
  have lu : us.length ≤ 4 := lu
  have F6 := F5.same s6
  have B6 := B5.same s6
  have Df : D ≠ f := F5.ne nD
  refine ⟨_, rfl, D, _, rfl, .inl (SqL.of hD), _, _, rfl, rfl, _, rfl, if_bl (fun c3 => ?_) (fun c3 => ⟨eD0, v, k, _, _, rfl, F6, B6⟩)⟩
  have c3 : 0 < us.length := by have := of_decide_eq_true c3; omega
  have k6 := k5.trans (TK.same s6)
  refine ⟨_, rfl, _, rfl, _, rfl, slA_of (k6 _ _ eh) fun p1 H7 h1 s7 => ?_⟩
  rw [cut_take] at h1
  refine ⟨_, rfl, _, rfl, _, rfl, D, _, rfl, .inl (SqL.of (s7 _ _ hD)), f, c, _, rfl, by omega, Nat.lt_of_le_of_lt (Nat.log2_le_self _) (by omega), F6.same s7, fun w H8 w0 w1 F8 B8 => ?_⟩
  have k78 := (TK.same s7).trans (TK.but (F6.same s7) B8)
  have k8 := k6.trans k78
  obtain ⟨y, ey⟩ : ∃ y, us[w.toNat]? = some y := ⟨_, List.getElem?_eq_getElem (by omega)⟩
  obtain ⟨ag, g, rfl, e3, g1, g2, g3⟩ := gu y (List.mem_of_getElem? ey)
  have aw : atI us w = some (V.ref ag) := by
    have := atI_nat ey
    rw [show ((w.toNat : Nat) : Int) = w by omega] at this
    exact this
  refine ⟨D, _, w, _, rfl, rfl, SqL.of (B8 _ _ (s7 _ _ hD) Df), aw, _, rfl, _, rfl, ha, _, _, _, rfl, rfl, SqT.of (k8 _ _ eh), atI_nat ex, t, _, _, _, rfl, rfl, SqT.of (k8 _ _ e1), atI_nat (j := 1) rfl, (by show 2 ≤ sizeLine; decide), fun a na => ⟨(by show 1 ≤ sizeLine; decide), fun b nb => ?_⟩⟩
  have sa := same_new (o := .tup [V.ref ag, V.int h.mom]) na
  have sb := same_new (o := .tup [V.ref a]) nb
  refine catA_of (sb _ _ (sa _ _ (TK.but (F6.same s7) B8 _ _ h1))) upd_same (by rw [List.length_take]; show _ + 1 ≤ 1000; omega) fun p3 H9 h3 s9 => ?_
  have s89 : Same H8 H9 := fun a o e => s9 _ _ (sb _ _ (sa _ _ e))
  refine ⟨_, rfl, _, rfl, _, _, rfl, rfl, _, rfl, ?_⟩
  dsimp only [tNoPart]
  refine slA_of (s89 _ _ (k8 _ _ eh)) fun p4 H10 h4 s10 => ?_
  rw [cut_end] at h4
  refine catA_of (s10 _ _ h3) h4 (by rw [List.length_append, List.length_take, List.length_drop]; show _ + 1 + _ ≤ 1000; omega) fun p5 H11 h5 s11 => ⟨_, rfl, (by show 2 ≤ sizeLine; decide), fun r' nr => ?_⟩
  have s12 := same_new (o := .tup [V.ref p5, V.ref ba]) nr
  have s812 : Same H8 _ := fun a o e => s12 _ _ (s11 _ _ (s10 _ _ (s89 _ _ e)))
  have k12 := k8.trans (TK.same s812)
  have x0 : HandAt _ (V.ref a) ⟨g.wd, g.no, h.mom⟩ := ⟨a, ag, rfl, s12 _ _ (s11 _ _ (s10 _ _ (s9 _ _ (sb _ _ upd_same)))), s812 _ _ (k78 _ _ (s6 _ _ e3))⟩
  refine q r' _ bs _ ⟨p5, ba, _, bv, upd_same, s12 _ _ h5, k12 _ _ eb, (alh.imp fun _ _ z => z.keep k12).cutIn x0 kl, alb.imp fun _ _ z => z.keep k12⟩ (hand_ok ok ehk ⟨.inl ⟨g1.wd, g1.no, g1.big⟩, gh.2⟩ g2 g3) (by rw [List.length_set]; exact n0) (F8.same s812) ((((B6.same s7).trans B8)).same s812)
end
/-! ### a tuple times 0 or 1: nothing, or itself -/
/-- an object of the tuple type, with these items -/
abbrev TupO (its : List Value) (n : Nat) (dd : Option Addr) (sl : Array (Option Value)) : Obj := { cls := .type "tuple", dict := dd, data := .seq its.toArray n, slots := sl }
theorem once_tup (l : Addr) (its : List Value) (n : Nat) (dd : Option Addr) (sl : Array (Option Value)) (u : Tok) :
    PySem.Meets (Builtin.«tuple.__mul__» ⟨[.ref l, .int 1 u], []⟩) (fun _ R z => z.heap.get? l = some (TupO its n dd sl) ∧ R (.ok (.ret (Value.ref l))) z) := by
  refine .of_wp fun prog w A R z hz => ?_
  obtain ⟨zh, zg, zd, zt, zo⟩ := z
  have at_l := hz.1
  have read := AutoSeq1.idx_int
  wp_walk using wpAny_loadPart' at_l
  exact ⟨_, rfl, hz.2⟩
theorem none_tup (l : Addr) (x : Value) (its : List Value) (n : Nat) (dd : Option Addr) (sl : Array (Option Value)) (u : Tok) :
    PySem.Meets (Builtin.«tuple.__mul__» ⟨[.ref l, .int 0 u], []⟩) (fun _ R z => z.heap.get? l = some (TupO (x :: its) n dd sl) ∧ R (.ok (.ret (Value.ref z.heap.objs.size))) { z with heap := z.heap.push { cls := Value.type "tuple", data := Data.seq #[] }, toks := z.toks }) := by
  refine .of_wp fun prog w A R z hz => ?_
  obtain ⟨zh, zg, zd, zt, zo⟩ := z
  have at_l := hz.1
  have read := AutoSeq1.idx_int
  wp_walk using wpAny_loadPart' at_l
  exact ⟨_, rfl, hz.2⟩
def rRep01 (K : PySem.W.Frag) : R2 := fun x y H Q => ∃ l k xs, x = .ref l ∧ y = .int k ∧ SqT K H l xs ∧ xs ≠ [] ∧ (k = 0 ∨ k = 1) ∧ (k = 1 → Q (.ref l) H) ∧ (k = 0 → ∀ p, H p = none → Q (.ref p) (upd H p (.tup [])))
section
variable {X : Cx}
/-- the operator comes to the tuple's own method -/
theorem mul_to_own {z : Shared} {l : Addr} {k : Int} {t : Tok} {its : List Value} {n : Nat} {dd : Option Addr} {sl : Array (Option Value)} {pins : List (Addr × Obj)} {σ : L2.St} {Q : VK} (o : z.heap.get? l = some (TupO its n dd sl))
    (go : wpAny (model X.prog X.w) X.A (PySem.call (.builtin "tuple.__mul__") [.ref l, .int k t]) (EP X pins σ Q) X.xe z) : wpAny (model X.prog X.w) X.A (binaryOp .Mult (.ref l) (.int k t)) (EP X pins σ Q) X.xe z :=
  PySem.wpAny_binaryOp_repeat_ref (T := "tuple") (U := "int") (by decide) ⟨_, o, rfl⟩ (PySem.typeIs_int · k t) noFill_tuple_mul PySem.F.fills_int_mul PySem.F.slot_int_rmul repeat_tuple PySem.F.slot_int_index.lookup
    (PySem.call_meets PySem.F.slot_int_rmul (PySem.typeIs_int z k t) PySem.F.entry_int_rmul (PySem.F.args_int_rmul_2 _ _) (int_rmul_tuple k t l its.toArray n dd sl) ⟨o, rfl, ⟨_, o, rfl⟩, go⟩)
theorem op_rep01 (K : PySem.W.Frag) (hk : X.K = K) : OpR X (binaryOp .Mult) (rRep01 K) := by
  rintro pins z σ H x y v u Q I rx ry ⟨l, k, xs, rfl, rfl, hT, some_, two, one_, none_⟩
  rw [← hk] at hT
  obtain rfl : v = .ref l := by cases rx; rfl
  obtain ⟨t, rfl⟩ := ry
  obtain ⟨its, same, ⟨⟨cls, dd, data, sl⟩, o, ec, n, ed⟩, _⟩ := I.tuple hT
  dsimp only at ec ed
  subst ec ed
  cases its with
  | nil => exact absurd (List.eq_nil_of_length_eq_zero same.length) some_
  | cons i its =>
    refine mul_to_own o ?_
    rcases two with rfl | rfl
    · refine PySem.call_meets PySem.F.slot_tuple_mul ⟨_, o, rfl⟩ PySem.F.entry_tuple_mul (PySem.F.args_tuple_mul_2 _ _) (none_tup l i its n dd sl t) ⟨o, ?_⟩
      exact ⟨.ref z.heap.objs.size, _, I.laid (t' := z.toks) (o := .tup []) (fun b ob e => PySem.Heap.get?_push_of_some _ e) (Nat.le_refl _) ⟨Nat.zero_le _, [], .nil, IsTup.new _ _⟩, rfl, none_ rfl _ (I.hok.fresh (Nat.le_refl _))⟩
    · exact PySem.call_meets PySem.F.slot_tuple_mul ⟨_, o, rfl⟩ PySem.F.entry_tuple_mul (PySem.F.args_tuple_mul_2 _ _) (once_tup l (i :: its) n dd sl t) ⟨o, .ref l, H, I, rfl, one_ rfl⟩
end
/-! ### a tuple times 1 or 2 -/
def rRep12 (K : PySem.W.Frag) : R2 := fun x y H Q => rRep01 K x y H Q ∨ rRepT K x y H Q
theorem op_rep12 {X : Cx} (K : PySem.W.Frag) (hk : X.K = K) : OpR X (binaryOp .Mult) (rRep12 K) := by
  intro pins z σ H x y v u Q I rx ry h
  rcases h with h | h
  · exact op_rep01 K hk pins z σ H x y v u Q I rx ry h
  · rw [← hk] at h
    exact op_repT pins z σ H x y v u Q I rx ry h
/-! ### lines and rings of hands -/
def ThAt (H : Hp) (v : V) (t : List Int) : Prop := ∃ g : Addr, v = .ref g ∧ H g = some (.tup (t.map V.int))
theorem ThAt.keep {H H' : Hp} {v : V} {t : List Int} (h : ThAt H v t) (k : TK H H') : ThAt H' v t := by
  obtain ⟨g, e, e1⟩ := h
  exact ⟨g, e, k _ _ e1⟩
def lineH (first : Int) (ms : List Int) : List HR := ⟨"always", some first, 2⟩ :: ms.map fun m => ⟨"same", none, m⟩
def lineB (p : Nat) (n : Nat) (ths : List (List Int)) : List BR := (List.range n).map fun k => ⟨p + k, p + k + 1, ths.getD k []⟩
theorem up_count (p j : Nat) : ∀ m, ((List.range m).map fun k => p + k + 1).count (p + j) = if 0 < j ∧ j ≤ m then 1 else 0 := by
  intro m
  induction m with
  | zero => rw [if_neg (by omega)]; rfl
  | succ m ih =>
    rw [List.range_succ, List.map_append, List.count_append, ih]
    show _ + [p + m + 1].count (p + j) = _
    rw [List.count_singleton]
    by_cases h : p + m + 1 = p + j
    · rw [show (p + m + 1 == p + j) = true from beq_iff_eq.mpr h, if_pos rfl, if_neg (by omega), if_pos (by omega)]
    · rw [show (p + m + 1 == p + j) = false from beq_eq_false_iff_ne.mpr h, if_neg Bool.false_ne_true]
      by_cases h2 : 0 < j ∧ j ≤ m
      · rw [if_pos h2, if_pos (by omega)]
      · rw [if_neg h2, if_neg (by omega)]
theorem needs_always : needs "always" = 0 := by decide +kernel
theorem needs_same : needs "same" = 1 := by decide +kernel
theorem needs_times : needs "times" = 1 := by decide +kernel
theorem nil_ok : RoomOk [] [] := ⟨by decide, (fun _ z => nomatch z), (fun _ z => nomatch z), (fun _ z => nomatch z), (fun _ z => nomatch z), ⟨fun _ => 0, (fun _ z => nomatch z)⟩, (fun _ _ z => by cases z), by decide⟩
theorem line_ok {hs : List HR} {bs : List BR} {first : Int} {ms : List Int} {ths : List (List Int)} (ok : RoomOk hs bs) (f0 : Small first) (hm : ∀ m ∈ ms, 0 ≤ m ∧ m ≤ 30) (ht : ∀ t ∈ ths, t.length ≤ 6 ∧ ∀ x ∈ t, Small x) (l1 : hs.length + (ms.length + 1) ≤ 12) (l2 : bs.length + ms.length ≤ 20) (lt : ths.length = ms.length) : RoomOk (hs ++ lineH first ms) (bs ++ lineB hs.length ms.length ths) := by
  have ll : (lineH first ms).length = ms.length + 1 := by show (ms.map _).length + 1 = _; rw [List.length_map]
  have lb : (lineB hs.length ms.length ths).length = ms.length := by show ((List.range _).map _).length = _; rw [List.length_map, List.length_range]
  have inB : ∀ {b}, b ∈ lineB hs.length ms.length ths → ∃ k, k < ms.length ∧ b = ⟨hs.length + k, hs.length + k + 1, ths.getD k []⟩ := fun {b} hb => by
    obtain ⟨k, hk, e⟩ := List.mem_map.mp hb
    exact ⟨k, List.mem_range.mp hk, e.symm⟩
  have gd : ∀ {k}, k < ms.length → ths.getD k [] ∈ ths := fun {k} hk => by
    rw [List.getD_eq_getElem?_getD, List.getElem?_eq_getElem (by omega)]
    exact List.getElem_mem _
  have goodL : ∀ h ∈ lineH first ms, GoodHand h ∧ h.wd ≠ "out" := fun h hh => by
    rcases List.mem_cons.mp hh with rfl | hh
    · exact ⟨⟨.inl ⟨(show ("always" : Str) ∈ nine by decide +kernel), ⟨fun _ => .inr rfl, fun _ => rfl⟩, fun n e => by cases e; exact f0⟩, (show (0 : Int) ≤ 2 by decide), (show (2 : Int) ≤ 30 by decide)⟩, (show ("always" : Str) ≠ "out" by decide +kernel)⟩
    · obtain ⟨m, hm2, rfl⟩ := List.mem_map.mp hh
      exact ⟨⟨.inl ⟨(show ("same" : Str) ∈ nine by decide +kernel), (show (none : Option Int).isSome = true ↔ ("same" : Str) = "times" ∨ ("same" : Str) = "always" by decide +kernel), fun n e => by cases e⟩, hm m hm2⟩, (show ("same" : Str) ≠ "out" by decide +kernel)⟩
  obtain ⟨rk, hrk⟩ := ok.rank
  refine ⟨by rw [List.length_append, ll]; exact l1, fun h hh => ?_, fun b hb => ?_, fun b hb h e => ?_, fun b hb => ?_, ⟨fun j => if j < hs.length then rk j else (j : Nat), fun b hb z => ?_⟩, fun k h e => ?_, by rw [List.length_append, lb]; exact l2⟩
  · rcases List.mem_append.mp hh with hh | hh
    · exact ok.good h hh
    · exact (goodL h hh).1
  · rw [List.length_append, ll]
    rcases List.mem_append.mp hb with hb | hb
    · have := ok.ends b hb
      omega
    · obtain ⟨k, hk, rfl⟩ := inB hb
      show hs.length + k < _ ∧ hs.length + k + 1 < _
      omega
  · rcases List.mem_append.mp hb with hb | hb
    · rw [List.getElem?_append_left (ok.ends b hb).1] at e
      exact ok.out b hb h e
    · obtain ⟨k, hk, rfl⟩ := inB hb
      have e : (hs ++ lineH first ms)[hs.length + k]? = some h := e
      rw [List.getElem?_append_right (by omega)] at e
      exact (goodL h (List.mem_of_getElem? e)).2
  · rcases List.mem_append.mp hb with hb | hb
    · exact ok.th b hb
    · obtain ⟨k, hk, rfl⟩ := inB hb
      exact ⟨(ht _ (gd hk)).1, trivial⟩
  · rcases List.mem_append.mp hb with hb | hb
    · have := ok.ends b hb
      show (if b.one < hs.length then rk b.one else ((b.one : Nat) : Int)) < if b.to < hs.length then rk b.to else ((b.to : Nat) : Int)
      rw [if_pos this.1, if_pos this.2]
      exact hrk b hb z
    · obtain ⟨k, hk, rfl⟩ := inB hb
      show (if hs.length + k < hs.length then rk (hs.length + k) else ((hs.length + k : Nat) : Int)) < if hs.length + k + 1 < hs.length then rk (hs.length + k + 1) else ((hs.length + k + 1 : Nat) : Int)
      rw [if_neg (by omega), if_neg (by omega)]
      omega
  · rw [List.map_append, List.count_append]
    have eB : (lineB hs.length ms.length ths).map BR.to = (List.range ms.length).map fun k => hs.length + k + 1 := by
      show ((List.range _).map _).map _ = _
      rw [List.map_map]
      rfl
    rw [eB]
    by_cases hk : k < hs.length
    · rw [List.getElem?_append_left hk] at e
      have c := ok.count k h e
      have z : ((List.range ms.length).map fun j => hs.length + j + 1).count k = 0 := by
        rw [List.count_eq_zero]
        intro m
        obtain ⟨j, _, e⟩ := List.mem_map.mp m
        omega
      rw [z, Nat.add_zero]
      exact c
    · rw [List.getElem?_append_right (by omega)] at e
      have z : (bs.map BR.to).count k = 0 := by
        rw [List.count_eq_zero]
        intro m
        obtain ⟨b, hb, e⟩ := List.mem_map.mp m
        have := (ok.ends b hb).2
        omega
      obtain ⟨j, rfl⟩ : ∃ j, k = hs.length + j := ⟨k - hs.length, by omega⟩
      rw [z, up_count, Nat.zero_add]
      rw [show hs.length + j - hs.length = j by omega] at e
      cases j with
      | zero =>
        have e : (⟨"always", some first, 2⟩ : HR) = h := Option.some.inj e
        rw [if_neg (by omega), ← e, needs_always]
        rfl
      | succ j =>
        have e : (ms.map fun m => (⟨"same", none, m⟩ : HR))[j]? = some h := e
        have jl : j < ms.length := by
          have := (List.getElem?_eq_some_iff.mp e).1
          rwa [List.length_map] at this
        obtain ⟨m, _, rfl⟩ := List.mem_map.mp (List.mem_of_getElem? e)
        rw [if_pos (by omega), needs_same]
        rfl
theorem All2.st {α β : Type} {R : α → β → Prop} {a : α} {b : β} : ∀ {as : List α} {bs : List β}, All2 R as bs → ∀ k : Nat, R a b → All2 R (as.set k a) (bs.set k b)
  | _, _, .nil, _, _ => .nil
  | _, _, .cons _ t, 0, h => .cons h t
  | _, _, .cons x t, k + 1, h => .cons x (All2.st t k h)
def ringB (n : Nat) : List BR := (List.range n).map fun k => ⟨k, (k + 1) % n, [5]⟩
theorem ring_count {n k : Nat} (n0 : 0 < n) (hk : k < n) : ((ringB n).map BR.to).count k = 1 := by
  obtain ⟨m, rfl⟩ : ∃ m, n = m + 1 := ⟨n - 1, by omega⟩
  have e : (ringB (m + 1)).map BR.to = ((List.range m).map fun k => 0 + k + 1) ++ [0] := by
    unfold ringB
    rw [List.map_map, List.range_succ, List.map_append]
    congr 1
    · refine List.map_congr_left fun j hj => ?_
      have := List.mem_range.mp hj
      show (j + 1) % (m + 1) = 0 + j + 1
      rw [Nat.mod_eq_of_lt (by omega)]
      omega
    · show [(m + 1) % (m + 1)] = [0]
      rw [Nat.mod_self]
  have u := up_count 0 k m
  rw [Nat.zero_add] at u
  rw [e, List.count_append, u, List.count_singleton]
  by_cases h : k = 0
  · subst h
    rfl
  · rw [if_pos (by omega), show ((0 : Nat) == k) = false from beq_eq_false_iff_ne.mpr fun z => h z.symm]
    rfl
theorem ring_ok {n at_ : Nat} {x : Int} {ms : List Int} (n0 : 0 < n) (n12 : n ≤ 12) (hx : Small x) (hm : ∀ m ∈ ms, 0 ≤ m ∧ m ≤ 30) (lm : ms.length = n) (ha : at_ < n) : RoomOk (ms.map fun m => ⟨"times", some 1, m⟩) ((ringB n).set at_ ⟨at_, (at_ + 1) % n, [x]⟩) := by
  have ln : (ms.map fun m => (⟨"times", some 1, m⟩ : HR)).length = n := by rw [List.length_map, lm]
  have lb : (ringB n).length = n := by unfold ringB; rw [List.length_map, List.length_range]
  have wd : ∀ h ∈ ms.map fun m => (⟨"times", some 1, m⟩ : HR), ∃ m ∈ ms, h = ⟨"times", some 1, m⟩ := fun h hh => by
    obtain ⟨m, hm, e⟩ := List.mem_map.mp hh
    exact ⟨m, hm, e.symm⟩
  have base : RoomOk (ms.map fun m => (⟨"times", some 1, m⟩ : HR)) (ringB n) := by
    have inB : ∀ {b}, b ∈ ringB n → ∃ k, k < n ∧ b = ⟨k, (k + 1) % n, [5]⟩ := fun {b} hb => by
      obtain ⟨k, hk, e⟩ := List.mem_map.mp hb
      exact ⟨k, List.mem_range.mp hk, e.symm⟩
    refine ⟨by rw [ln]; exact n12, fun h hh => ?_, fun b hb => ?_, fun b hb h e => ?_, fun b hb => ?_, ⟨fun _ => 0, fun b hb z => ?_⟩, fun k h e => ?_, by rw [lb]; omega⟩
    · obtain ⟨m, hmm, rfl⟩ := wd h hh
      exact ⟨.inl ⟨(show ("times" : Str) ∈ nine by decide +kernel), ⟨fun _ => .inl rfl, fun _ => rfl⟩, fun n e => by cases e; exact ⟨by decide, by decide⟩⟩, hm m hmm⟩
    · obtain ⟨k, hk, rfl⟩ := inB hb
      rw [ln]
      exact ⟨hk, Nat.mod_lt _ n0⟩
    · obtain ⟨m, hmm, rfl⟩ := wd h (List.mem_of_getElem? e)
      exact (show ("times" : Str) ≠ "out" by decide +kernel)
    · obtain ⟨k, hk, rfl⟩ := inB hb
      exact ⟨(show 1 ≤ 6 by decide), trivial⟩
    · obtain ⟨k, hk, rfl⟩ := inB hb
      cases z
    · have kl := (List.getElem?_eq_some_iff.mp e).1
      rw [ln] at kl
      obtain ⟨m, hmm, rfl⟩ := wd h (List.mem_of_getElem? e)
      rw [ring_count n0 kl, needs_times]
      rfl
  have e : (ringB n)[at_]? = some ⟨at_, (at_ + 1) % n, [5]⟩ := by unfold ringB; rw [List.getElem?_map, List.getElem?_range ha]; rfl
  exact belt_ok base e rfl (by rw [ln]; exact ha) (fun h z => by obtain ⟨m, hmm, rfl⟩ := wd h (List.mem_of_getElem? z); exact (show ("times" : Str) ≠ "out" by decide +kernel)) ⟨(show 1 ≤ 6 by decide), trivial⟩ (fun z => by cases z)
section
variable {P : Program} {w : World} {K : PySem.W.Frag} {mg : Str → Option Value} {base : Heap}
def sp_law_lines (K : PySem.W.Frag) : Sp := fun vs H Q _ => ∃ f c : Addr, vs = [.ref f] ∧ Flow H f c ∧ ∀ (r : Addr) (hs : List HR) (bs : List BR) (H' : Hp), RoomAt H' r hs bs → RoomOk hs bs → 0 < hs.length → Flow H' f c → But f H H' → Q (.ref r) H'
theorem ok_law_lines {f : Addr} {fd : FuncData} (F : Fun K "_law_lines" "_law_lines" s_law_lines f fd) (T : Top K mg) : FnOk P w K mg base CX0 2 f fd ["_law_flow_here"] (sp_law_lines K) := by
  obtain ⟨f_law_pick, fd_law_pick, F_law_pick, b_law_pick, m_law_pick⟩ := T.d_law_pick
  have G_law_pick := ok_law_pick (P := P) (w := w) (base := base) F_law_pick T
  refine F.ok sc_law_lines (fun vs H Q E h => ?_) (fun cdv A outer s H vs Q E hr h => ?_)
  · obtain ⟨f, c, rfl, _⟩ := h
    rfl
  obtain ⟨f, c, rfl, hF, q⟩ := h
  refine ⟨_, (pss_cons (ps_set (i := 1) sc_law_lines.nd rfl (Or.inl rfl) (pe_call G_law_pick (hr.mono (by decide)) (by rfl) m_law_pick F_law_pick.kp b_law_pick .nil pass0 (pa_cons (pv 0) (pa_cons pe_int pa_nil))))
      (pss_cons (ps_if (pt_cmpR op_eq (pe_call G_law_pick (hr.mono (by decide)) (by rfl) m_law_pick F_law_pick.kp b_law_pick .nil pass0 (pa_cons (pv 0) (pa_cons pe_int pa_nil))) pe_int (nomark _)) (pss_cons (ps_set (i := 2) sc_law_lines.nd rfl (Or.inr rfl) (pe_op op_add pe_int (pe_call G_law_pick (hr.mono (by decide)) (by rfl) m_law_pick F_law_pick.kp b_law_pick .nil pass0 (pa_cons (pv 0) (pa_cons pe_int pa_nil)))))
      (pss_cons (ps_set (i := 3) sc_law_lines.nd rfl (Or.inl rfl) (pe_call G_law_pick (hr.mono (by decide)) (by rfl) m_law_pick F_law_pick.kp b_law_pick .nil pass0 (pa_cons (pv 0) (pa_cons pe_int pa_nil))))
      (pss_cons (ps_set (i := 4) sc_law_lines.nd rfl (Or.inr rfl) (pe_lc (own := [("_law_k", 5)]) (g := gName 5) (tt := tYes) (by rfl) sc_law_lines.nd (pi_range1 (by rfl) T.m_range (pa_cons (pe_op op_sub (pv 2) pe_int) pa_nil)) (blkOk_by (own := [("_law_k", 5)]) (N := N_law_lines) (sc := defScope s_law_lines) (by decide +kernel)) (fun _ _ _ _ _ => (pg_name (i := 5) sc_law_lines.nd rfl (Or.inl rfl))) (fun _ _ _ _ _ => pts_nil) (fun _ _ _ _ _ => (pe_op (op_rep12 K rfl) (pe_tup (pa_cons pe_int pa_nil)) (pe_call G_law_pick (hr.mono (by decide)) (by rfl) m_law_pick F_law_pick.kp b_law_pick .nil pass0 (pa_cons (pv 0) (pa_cons pe_int pa_nil)))))))
      (pss_cons (ps_set (i := 6) sc_law_lines.nd rfl (Or.inl rfl) (pe_lst pa_nil))
      (pss_cons (ps_set (i := 7) sc_law_lines.nd rfl (Or.inl rfl) (pe_lst pa_nil))
      (pss_cons (ps_for PassesOwn.never rfl (pi_tupK K rfl (pe_tup (pa_cons (pv 3) (pa_cons (pe_op op_add (pv 3) (pv 1)) pa_nil)))) (pg_name (i := 8) sc_law_lines.nd rfl (Or.inl rfl))
        (pss_cons (ps_set (i := 9) sc_law_lines.nd rfl (Or.inr rfl) (pe_callB (call_len_seqK K rfl) (by rfl) T.m_len (by decide +kernel) (pa_cons (pv 6) pa_nil)))
      (pss_cons (ps_set (i := 6) sc_law_lines.nd rfl (Or.inl rfl) (pe_op op_cat (pe_op op_cat (pv 6) (pe_lst (pa_cons (pe_tup (pa_cons (pe_tup (pa_cons pe_str (pa_cons (pv 8) pa_nil))) (pa_cons pe_int pa_nil))) pa_nil))) (pe_lc (own := [("_law_k", 5)]) (g := gName 5) (tt := tYes) (by rfl) sc_law_lines.nd (pi_range1 (by rfl) T.m_range (pa_cons (pe_op op_sub (pv 2) pe_int) pa_nil)) (blkOk_by (own := [("_law_k", 5)]) (N := N_law_lines) (sc := defScope s_law_lines) (by decide +kernel)) (fun _ _ _ _ _ => (pg_name (i := 5) sc_law_lines.nd rfl (Or.inl rfl))) (fun _ _ _ _ _ => pts_nil) (fun _ _ _ _ _ => (pe_tup (pa_cons (pe_tup (pa_cons pe_str pa_nil)) (pa_cons (pe_call G_law_pick (hr.mono (by decide)) (by rfl) m_law_pick F_law_pick.kp b_law_pick .nil pass0 (pa_cons (pv 0) (pa_cons pe_int pa_nil))) pa_nil)))))))
      (pss_one (ps_expr (pe_bmK K rfl PySem.F.plainAttrs_list PySem.F.slot_list_extend PySem.F.type_list_extend mt_extend (pv 7) (pa_cons (pe_lc (own := [("_law_k", 5)]) (g := gName 5) (tt := tYes) (by rfl) sc_law_lines.nd (pi_range1 (by rfl) T.m_range (pa_cons (pe_op op_sub (pv 2) pe_int) pa_nil)) (blkOk_by (own := [("_law_k", 5)]) (N := N_law_lines) (sc := defScope s_law_lines) (by decide +kernel)) (fun _ _ _ _ _ => (pg_name (i := 5) sc_law_lines.nd rfl (Or.inl rfl))) (fun _ _ _ _ _ => pts_nil) (fun _ _ _ _ _ => (pe_tup (pa_cons (pe_op op_add (pv 9) (pv 5)) (pa_cons (pe_op op_add (pe_op op_add (pv 9) (pv 5)) pe_int) (pa_cons (pe_ix (ix_listK K rfl) (pv 4) (pv 5) (fun _ _ => rfl)) pa_nil)))))) pa_nil)))))))
      (pss_one (ps_ret (pe_tup (pa_cons (pe_callTy (call_tuple_ofK K rfl) (by rfl) T.m_tuple (by decide +kernel) (pa_cons (pv 6) pa_nil)) (pa_cons (pe_callTy (call_tuple_ofK K rfl) (by rfl) T.m_tuple (by decide +kernel) (pa_cons (pv 7) pa_nil)) pa_nil))))))))))) pss_nil)
      (pss_cons (ps_set (i := 2) sc_law_lines.nd rfl (Or.inr rfl) (pe_op op_add pe_int (pe_call G_law_pick (hr.mono (by decide)) (by rfl) m_law_pick F_law_pick.kp b_law_pick .nil pass0 (pa_cons (pv 0) (pa_cons pe_int pa_nil)))))
      (pss_cons (ps_setLc (i := 7) (own := [("_law_k", 5)]) (g := gName 5) (tt := tYes) (by rfl) sc_law_lines.nd rfl rfl (sw_true rfl rfl rfl (by decide +kernel)) (pi_range1 (by rfl) T.m_range (pa_cons (pv 2) pa_nil)) (blkOk_by (own := [("_law_k", 5)]) (N := N_law_lines) (sc := defScope s_law_lines) (by decide +kernel)) (fun _ _ _ _ _ => (pg_name (i := 5) sc_law_lines.nd rfl (Or.inl rfl))) (fun _ _ _ _ _ => pts_nil) (fun _ _ _ _ _ => (pe_tup (pa_cons (pv 5) (pa_cons (pe_op op_mod (pe_op op_add (pv 5) pe_int) (pv 2)) (pa_cons (pe_tup (pa_cons pe_int pa_nil)) pa_nil))))))
      (pss_cons (ps_set (i := 10) sc_law_lines.nd rfl (Or.inl rfl) (pe_call G_law_pick (hr.mono (by decide)) (by rfl) m_law_pick F_law_pick.kp b_law_pick .nil pass0 (pa_cons (pv 0) (pa_cons (pv 2) pa_nil))))
      (pss_cons (ps_asg (pe_tup (pa_cons (pv 10) (pa_cons (pe_op op_mod (pe_op op_add (pv 10) pe_int) (pv 2)) (pa_cons (pe_tup (pa_cons (pe_op op_add pe_int (pv 1)) pa_nil)) pa_nil)))) (pg_sub (pv 7) (pv 10) set_list))
      (pss_one (ps_ret (pe_tup (pa_cons (pe_callTy (call_tuple_ofK K rfl) (by rfl) T.m_tuple (by decide +kernel) (pa_cons (pe_lc (own := [("_law_k", 5)]) (g := gName 5) (tt := tYes) (by rfl) sc_law_lines.nd (pi_range1 (by rfl) T.m_range (pa_cons (pv 2) pa_nil)) (blkOk_by (own := [("_law_k", 5)]) (N := N_law_lines) (sc := defScope s_law_lines) (by decide +kernel)) (fun _ _ _ _ _ => (pg_name (i := 5) sc_law_lines.nd rfl (Or.inl rfl))) (fun _ _ _ _ _ => pts_nil) (fun _ _ _ _ _ => (pe_tup (pa_cons (pe_tup (pa_cons pe_str (pa_cons pe_int pa_nil))) (pa_cons (pe_call G_law_pick (hr.mono (by decide)) (by rfl) m_law_pick F_law_pick.kp b_law_pick .nil pass0 (pa_cons (pv 0) (pa_cons pe_int pa_nil))) pa_nil))))) pa_nil)) (pa_cons (pe_callTy (call_tuple_ofK K rfl) (by rfl) T.m_tuple (by decide +kernel) (pa_cons (pv 7) pa_nil)) pa_nil))))))))))), ?_⟩
  refine ⟨_, rfl, f, c, 2, rfl, by decide, by decide +kernel, hF, fun ot H1 o0 o1 F1 B1 => ?_⟩
  refine ⟨_, rfl, f, c, 2, rfl, by decide, by decide +kernel, F1, fun v H2 v0 v1 F2 B2 => ⟨rfl, _, rfl, if_bl (fun c1 => ?_) (fun c1 => ?_)⟩⟩
  · refine ⟨_, rfl, f, c, 5, rfl, by decide, by decide +kernel, F2, fun m5 H3 m0 m1 F3 B3 => ⟨_, _, rfl, rfl, ?_⟩⟩
    refine ⟨_, rfl, f, c, 9, rfl, by decide, by decide +kernel, F3, fun nu H4 u0 u1 F4 B4 => ?_⟩
    obtain ⟨n, en, n1, n5⟩ : ∃ n : Nat, (2 + m5 - 1) = ((n : Nat) : Int) ∧ 1 ≤ n ∧ n ≤ 5 := ⟨(2 + m5 - 1).toNat, by omega, by omega, by omega⟩
    have B14 := ((B1.trans B2).trans B3).trans B4
    refine ⟨_, rfl, _, _, rfl, rfl, _, rfl, by omega, by omega, fun D nD => ?_⟩
    dsimp only
    rw [en]
    refine lc_range (lo := 0) (n := n) (fun i H5 => ∃ (us : List V) (ths : List (List Int)), H5 D = some (.lst us) ∧ ths.length = i ∧ All2 (ThAt H5) us ths ∧ (∀ t ∈ ths, t.length ≤ 6 ∧ ∀ x ∈ t, Small x) ∧ Flow H5 f c ∧ But f H4 H5) ⟨[], [], upd_same, rfl, .nil, (fun _ z => nomatch z), F4.new nD, But.refl.new nD⟩ ?_ ?_
    · rintro i H5 hi ⟨us, ths, hD, lt, alt, gt, F5, B5⟩
      have Df : D ≠ f := F4.ne nD
      have Dc : D ≠ c := F4.nec nD
      have lus := alt.length
      refine ⟨rfl, yes_in ⟨(by show 1 ≤ sizeLine; decide), fun o1 no1 => ⟨_, rfl, f, c, 3, rfl, by decide, by decide +kernel, F5.new no1, fun w H6 w0 w1 F6 B6 => ?_⟩⟩⟩
      have k56 : TK H5 H6 := (TK.new (o := .tup [V.int 1]) no1).trans (TK.but (F5.new no1) B6)
      have o6 : H6 o1 = some (.tup [V.int 1]) := B6 _ _ upd_same (F5.ne no1)
      have hD6 : H6 D = some (.lst us) := B6 _ _ (same_new no1 _ _ hD) Df
      have B56 : But f H4 H6 := (B5.new no1).trans B6
      have fin : ∀ (g : Addr) (t : List Int) (H7 : Hp), H7 g = some (.tup (t.map V.int)) → (t.length ≤ 6 ∧ ∀ x ∈ t, Small x) → Same H6 H7 → ∃ acc, H7 D = some (.lst acc) ∧ acc.length < sizeLine ∧ ∃ (us : List V) (ths : List (List Int)), upd H7 D (.lst (acc ++ [V.ref g])) D = some (.lst us) ∧ ths.length = i + 1 ∧ All2 (ThAt (upd H7 D (.lst (acc ++ [V.ref g])))) us ths ∧ (∀ t ∈ ths, t.length ≤ 6 ∧ ∀ x ∈ t, Small x) ∧ Flow (upd H7 D (.lst (acc ++ [V.ref g]))) f c ∧ But f H4 (upd H7 D (.lst (acc ++ [V.ref g]))) := fun g t H7 hg ht s7 => by
        have kk : TK H5 (upd H7 D (.lst (us ++ [V.ref g]))) := (k56.trans (TK.same s7)).trans (TK.lst (s7 _ _ hD6))
        refine ⟨us, s7 _ _ hD6, small1000 (by omega), us ++ [.ref g], ths ++ [t], upd_same, by rw [List.length_append, lt]; rfl, (alt.imp fun _ _ z => z.keep kk).snoc ⟨g, rfl, TK.lst (s7 _ _ hD6) _ _ hg⟩, fun t' h' => ?_, (F6.same s7).lst Df Dc, (B56.same s7).own nD⟩
        rcases List.mem_append.mp h' with z | z
        · exact gt t' z
        · rw [List.mem_singleton.mp z]; exact ht
      have one : Small 1 := ⟨by decide, by decide⟩
      have : w = 0 ∨ w = 1 ∨ w = 2 := by omega
      rcases this with rfl | rfl | rfl
      · exact .inl ⟨o1, 0, _, rfl, rfl, SqT.of o6, (fun z => by cases z), .inl rfl, (fun z => absurd z (by decide)), fun _ p np => fin p [] _ upd_same ⟨by decide, (fun _ z => nomatch z)⟩ (same_new np)⟩
      · exact .inl ⟨o1, 1, _, rfl, rfl, SqT.of o6, (fun z => by cases z), .inr rfl, (fun _ => fin o1 [1] H6 o6 ⟨by decide, fun x hx => by rw [List.mem_singleton.mp hx]; exact one⟩ (Same.refl _)), fun z => absurd z (by decide)⟩
      · exact .inr ⟨o1, 2, _, rfl, rfl, SqT.of o6, (fun z => by cases z), by decide, by decide, (by show 1 ≤ 1000; decide), fun p np => fin p [1, 1] _ upd_same ⟨by decide, fun x hx => by
          have : x = 1 := by simpa using hx
          rw [this]; exact one⟩ (same_new np)⟩
    · rintro H5 ⟨us, ths, hD, lt, alt, gt, F5, B5⟩
      have B5' := B14.trans B5
      refine ⟨(by show 0 ≤ sizeLine; decide), fun hl0 nhl0 => ⟨(by show 0 ≤ sizeLine; decide), fun bl nbl => ?_⟩⟩
      have F6 := F5.new (o := .lst []) nhl0
      have F7 := F6.new (o := .lst []) nbl
      have blf : bl ≠ f := F6.ne nbl
      have blc : bl ≠ c := F6.nec nbl
      have B6 := B5'.new (o := .lst []) nhl0
      have bl0 : H bl = none := B6.none nbl blf
      have B7 := B6.new (o := .lst []) nbl
      have k57 : TK H5 _ := (TK.new (o := .lst []) nhl0).trans (TK.new (o := .lst []) nbl)
      have hD7 := same_new (o := .lst []) nbl _ _ (same_new (o := .lst []) nhl0 _ _ hD)
      have Dbl : D ≠ bl := fun z => by
        have := same_new (o := .lst []) nhl0 _ _ hD
        rw [z, nbl] at this
        cases this
      have hh7 : (upd (upd H5 hl0 (.lst [])) bl (.lst [])) hl0 = some (.lst []) := same_new nbl _ _ upd_same
      have hb7 : (upd (upd H5 hl0 (.lst [])) bl (.lst [])) bl = some (.lst []) := upd_same
      have hlbl : hl0 ≠ bl := fun z => by rw [← z, upd_same] at nbl; cases nbl
      generalize (upd (upd H5 hl0 (.lst [])) bl (.lst [])) = H7 at F7 B7 k57 hD7 hh7 hb7 ⊢
      refine ⟨_, rfl, _, rfl, _, rfl, _, _, rfl, rfl, (by show 2 ≤ sizeLine; decide), fun tt ntt => ?_⟩
      have k8 := k57.trans (TK.new (o := .tup [V.int nu, V.int (nu + ot)]) ntt)
      have s8 := same_new (o := .tup [V.int nu, V.int (nu + ot)]) ntt
      refine ⟨tt, rfl, ⟨_, SqT.of upd_same⟩, for_tup (K := K) (a := tt) (xs := [.int nu, .int (nu + ot)]) (fun i σ H8 => ∃ (hl : Addr) (hv bv : List V) (hs : List HR) (bs : List BR) (x8 x9 : Option V), σ = [some (.ref f), some (.int ot), some (.int (2 + m5)), some (.int nu), some (.ref D), none, some (.ref hl), some (.ref bl), x8, x9, none] ∧
        H8 tt = some (.tup [.int nu, .int (nu + ot)]) ∧ H8 D = some (.lst us) ∧ All2 (ThAt H8) us ths ∧ H8 hl = some (.lst hv) ∧ All2 (HandAt H8) hv hs ∧ H8 bl = some (.lst bv) ∧ All2 (BeltAt H8) bv bs ∧ hl ≠ bl ∧ RoomOk hs bs ∧ hs.length = i * (n + 1) ∧ bs.length = i * n ∧ Flow H8 f c ∧ But f H H8)
        ⟨hl0, [], [], [], [], _, _, rfl, upd_same, s8 _ _ hD7, alt.imp fun _ _ z => z.keep k8, s8 _ _ hh7, .nil, s8 _ _ hb7, .nil, hlbl, nil_ok, by rw [Nat.zero_mul]; rfl, by rw [Nat.zero_mul]; rfl, F7.new ntt, B7.new ntt⟩ (fun i σ H8 _ ⟨_, _, _, _, _, _, _, _, h, _⟩ => SqT.of h) ?_ ?_⟩
      · rintro i v9 σ H8 hx ⟨hl, hv, bv, hs, bs, x8, x9, rfl, htt, hD8, alt8, hhl, alh, hbl, alb, hlb, ok, lh, lb, F8, B8⟩
        obtain ⟨first, rfl, fs⟩ : ∃ first : Int, v9 = .int first ∧ Small first := by
          have il : i < 2 := (List.getElem?_eq_some_iff.mp hx).1
          have : i = 0 ∨ i = 1 := by omega
          rcases this with rfl | rfl
          · exact ⟨nu, (Option.some.inj hx).symm, by constructor <;> omega⟩
          · exact ⟨nu + ot, (Option.some.inj hx).symm, by constructor <;> omega⟩
        have il : i < 2 := (List.getElem?_eq_some_iff.mp hx).1
        have lhv := alh.length
        have lbv := alb.length
        have lh10 : hs.length ≤ 6 := by
          have : i * (n + 1) ≤ 1 * (n + 1) := Nat.mul_le_mul_right _ (by omega)
          omega
        have lb10 : bs.length ≤ 5 := by
          have : i * n ≤ 1 * n := Nat.mul_le_mul_right _ (by omega)
          omega
        refine ⟨_, rfl, hl, _, rfl, .inl (SqL.of hhl), ?_⟩
        refine ⟨_, rfl, _, rfl, (by show 2 ≤ sizeLine; decide), fun r1 nr1 => ⟨(by show 2 ≤ sizeLine; decide), fun t1 nt1 => ⟨(by show 1 ≤ sizeLine; decide), fun l1 nl1 => ?_⟩⟩⟩
        have z1 := same_new (o := .tup [V.str "always", V.int first]) nr1
        have z2 := same_new (o := .tup [V.ref r1, V.int 2]) nt1
        have z3 := same_new (o := .lst [V.ref t1]) nl1
        refine ⟨hl, l1, _, _, rfl, rfl, z3 _ _ (z2 _ _ (z1 _ _ hhl)), upd_same, little (by show _ + 1 ≤ 1000; omega), fun l2 nl2 => ?_⟩
        have z4 := same_new (o := .lst (hv ++ [V.ref t1])) nl2
        have z84 : Same H8 _ := fun a o e => z4 _ _ (z3 _ _ (z2 _ _ (z1 _ _ e)))
        have l2f : l2 ≠ f := (((F8.new nr1).new nt1).new nl1).ne nl2
        have hl2 : (upd (upd (upd (upd H8 r1 (.tup [V.str "always", V.int first])) t1 (.tup [V.ref r1, V.int 2])) l1 (.lst [V.ref t1])) l2 (.lst (hv ++ [V.ref t1]))) l2 = some (.lst (hv ++ [V.ref t1])) := upd_same
        have ht1 : (upd (upd (upd (upd H8 r1 (.tup [V.str "always", V.int first])) t1 (.tup [V.ref r1, V.int 2])) l1 (.lst [V.ref t1])) l2 (.lst (hv ++ [V.ref t1]))) t1 = some (.tup [V.ref r1, V.int 2]) := z4 _ _ (z3 _ _ upd_same)
        have hr1 : (upd (upd (upd (upd H8 r1 (.tup [V.str "always", V.int first])) t1 (.tup [V.ref r1, V.int 2])) l1 (.lst [V.ref t1])) l2 (.lst (hv ++ [V.ref t1]))) r1 = some (.tup [V.str "always", V.int first]) := z4 _ _ (z3 _ _ (z2 _ _ upd_same))
        have F9 := F8.same z84
        have B9 := B8.same z84
        clear z1 z2 z3 z4
        generalize (upd (upd (upd (upd H8 r1 (.tup [V.str "always", V.int first])) t1 (.tup [V.ref r1, V.int 2])) l1 (.lst [V.ref t1])) l2 (.lst (hv ++ [V.ref t1]))) = H9 at z84 hl2 ht1 hr1 F9 B9 ⊢
        have x0 : HandAt H9 (V.ref t1) ⟨"always", some first, 2⟩ := ⟨t1, r1, rfl, ht1, hr1⟩
        refine ⟨_, rfl, _, _, rfl, rfl, _, rfl, by omega, by omega, fun E nE => ?_⟩
        dsimp only
        rw [en]
        refine lc_range (lo := 0) (n := n) (fun j H10 => ∃ (ws : List V) (ms : List Int), H10 E = some (.lst ws) ∧ ms.length = j ∧ All2 (HandAt H10) ws (ms.map fun m => ⟨"same", none, m⟩) ∧ (∀ m ∈ ms, 0 ≤ m ∧ m ≤ 30) ∧ Flow H10 f c ∧ But f H9 H10) ⟨[], [], upd_same, rfl, .nil, (fun _ z => nomatch z), F9.new nE, But.refl.new nE⟩ ?_ ?_
        · rintro j H10 hj ⟨ws, ms, hE, lm, alw, gm, F10, B10⟩
          have Ef : E ≠ f := F9.ne nE
          have Ec : E ≠ c := F9.nec nE
          have lw := alw.length
          rw [List.length_map] at lw
          refine ⟨rfl, yes_in ⟨(by show 1 ≤ sizeLine; decide), fun r2 nr2 => ⟨_, rfl, f, c, 9, rfl, by decide, by decide +kernel, F10.new nr2, fun m H11 w0 w1 F11 B11 => ⟨(by show 2 ≤ sizeLine; decide), fun t2 nt2 => ?_⟩⟩⟩⟩
          have hE11 := same_new (o := .tup [V.ref r2, V.int m]) nt2 _ _ (B11 _ _ (same_new nr2 _ _ hE) Ef)
          have kk : TK H10 (upd (upd H11 t2 (.tup [V.ref r2, V.int m])) E (.lst (ws ++ [V.ref t2]))) := (((TK.new (o := .tup [V.str "same"]) nr2).trans (TK.but (F10.new nr2) B11)).trans (TK.new (o := .tup [V.ref r2, V.int m]) nt2)).trans (TK.lst hE11)
          refine ⟨_, hE11, small1000 (by omega), ws ++ [.ref t2], ms ++ [m], upd_same, by rw [List.length_append, lm]; rfl, ?_, fun m' h' => ?_, (F11.new nt2).lst Ef Ec, (((B10.new nr2).trans B11).new nt2).own nE⟩
          · rw [List.map_append]
            exact (alw.imp fun _ _ z => z.keep kk).snoc ⟨t2, r2, rfl, TK.lst hE11 _ _ upd_same, TK.lst hE11 _ _ (TK.new (o := .tup [V.ref r2, V.int m]) nt2 _ _ (TK.but (F10.new nr2) B11 _ _ upd_same))⟩
          · rcases List.mem_append.mp h' with z | z
            · exact gm m' z
            · rw [List.mem_singleton.mp z]; omega
        rintro H10 ⟨ws, ms, hE, lm, alw, gm, F10, B10⟩
        have lw := alw.length
        rw [List.length_map] at lw
        have B910 := B9.trans B10
        have k10 : TK H8 H10 := (TK.same z84).trans (TK.but F9 B10)
        have Df : D ≠ f := F4.ne nD
        have hbl10 := B10 _ _ (z84 _ _ hbl) blf
        have hD10 := B10 _ _ (z84 _ _ hD8) Df
        refine ⟨l2, E, _, _, rfl, rfl, B10 _ _ hl2 l2f, hE, little (by rw [List.length_append]; show _ + 1 + _ ≤ 1000; omega), fun hl' nhl' => ?_⟩
        have y1 := same_new (o := .lst (hv ++ [V.ref t1] ++ ws)) nhl'
        have k11 := k10.trans (TK.same y1)
        have hbl11 := y1 _ _ hbl10
        have hD11 := y1 _ _ hD10
        have F11 := F10.same y1
        have B11 := B910.same y1
        have hlb' : hl' ≠ bl := fun z => by rw [z, hbl10] at nhl'; cases nhl'
        have hh11 : (upd H10 hl' (.lst (hv ++ [V.ref t1] ++ ws))) hl' = some (.lst (hv ++ [V.ref t1] ++ ws)) := upd_same
        have alh11 := (((alh.imp fun _ _ z => z.keep k11).snoc (show HandAt _ (V.ref t1) ⟨"always", some first, 2⟩ from x0.keep ((TK.but F9 B10).trans (TK.same y1)))))
        have alw11 := alw.imp fun _ _ z => z.keep (TK.same y1)
        have alA := All2.ap alw11 alh11
        generalize (upd H10 hl' (.lst (hv ++ [V.ref t1] ++ ws))) = H11 at k11 hbl11 hD11 F11 B11 hh11 alh11 alw11 alA ⊢
        refine ⟨_, rfl, .inl ⟨rfl, _, SqL.of hbl11⟩, _, rfl, _, _, rfl, rfl, _, rfl, by omega, by omega, fun G nG => ?_⟩
        dsimp only
        rw [en]
        refine lc_range (lo := 0) (n := n) (fun j H12 => ∃ gs : List V, H12 G = some (.lst gs) ∧ gs.length = j ∧ All2 (BeltAt H12) gs ((List.range j).map fun k => (⟨hs.length + k, hs.length + k + 1, ths.getD k []⟩ : BR)) ∧ Same H11 H12) ⟨[], upd_same, rfl, .nil, same_new nG⟩ ?_ ?_
        · rintro j H12 hj ⟨gs, hG, lg, alg, s12⟩
          obtain ⟨t, et⟩ : ∃ t, ths[j]? = some t := ⟨_, List.getElem?_eq_getElem (by omega)⟩
          obtain ⟨x, ex, g, rfl, eg⟩ := alt8.get et
          refine ⟨rfl, yes_in ⟨_, rfl, _, rfl, _, _, rfl, rfl, _, rfl, _, rfl, _, _, rfl, rfl, _, _, rfl, rfl, _, rfl, _, rfl, D, _, _, _, rfl, rfl, SqL.of (s12 _ _ hD11), at0 ex, (by show 3 ≤ sizeLine; decide), fun t3 nt3 => ?_⟩⟩
          have q1 := same_new (o := .tup [V.int (((hv.length : Nat) : Int) + (0 + ((j : Nat) : Int))), V.int (((hv.length : Nat) : Int) + (0 + ((j : Nat) : Int)) + 1), V.ref g]) nt3
          have hG1 := q1 _ _ hG
          have kk : TK H12 _ := (TK.same q1).trans (TK.lst (ys := gs ++ [V.ref t3]) hG1)
          refine ⟨_, hG1, small1000 (by omega), gs ++ [.ref t3], upd_same, by rw [List.length_append, lg]; rfl, ?_, Same.own (fun a o e => q1 _ _ (s12 _ _ e)) nG⟩
          rw [List.range_succ, List.map_append]
          refine (alg.imp fun _ _ z => z.keep kk).snoc ⟨t3, g, rfl, ?_, ?_⟩
          · have e1 : ((hv.length : Nat) : Int) + (0 + ((j : Nat) : Int)) = ((hs.length + j : Nat) : Int) := by omega
            have e2 : ((hs.length + j : Nat) : Int) + 1 = ((hs.length + j + 1 : Nat) : Int) := by omega
            refine (TK.lst hG1 t3 _ upd_same).trans (congrArg (fun l => some (HO.tup l)) ?_)
            show [V.int (((hv.length : Nat) : Int) + (0 + ((j : Nat) : Int))), V.int (((hv.length : Nat) : Int) + (0 + ((j : Nat) : Int)) + 1), V.ref g] = [V.int ((hs.length + j : Nat) : Int), V.int ((hs.length + j + 1 : Nat) : Int), V.ref g]
            rw [e1, e2]
          · have e3 : ths.getD j [] = t := by rw [List.getD_eq_getElem?_getD, et]; rfl
            show _ = some (HO.tup ((ths.getD j []).map V.int))
            rw [e3]
            exact kk _ _ (s12 _ _ |> fun z => z (k11 _ _ eg))
        · rintro H12 ⟨gs, hG, lg, alg, s12⟩
          have hbl12 := s12 _ _ hbl11
          have blk : TK H12 (upd H12 bl (.lst (bv ++ gs))) := TK.lst hbl12
          have k13 := (k11.trans (TK.same s12)).trans blk
          refine ⟨bl, G, _, _, rfl, rfl, hbl12, hG, little (by omega), hl', hv ++ [V.ref t1] ++ ws, bv ++ gs, hs ++ lineH first ms, bs ++ lineB hs.length ms.length ths, _, _, rfl, k13 _ _ htt, ?_, alt8.imp fun _ _ z => z.keep k13, ?_, ?_, upd_same, ?_, hlb', line_ok ok fs gm gt (by omega) (by omega) (by omega), ?_, ?_, (F11.same s12).lst blf blc, (B11.same s12).own bl0⟩
          · rw [upd_ne Dbl]; exact s12 _ _ hD11
          · rw [upd_ne hlb']; exact s12 _ _ hh11
          · have e : hs ++ lineH first ms = (hs ++ [⟨"always", some first, 2⟩]) ++ ms.map fun m => ⟨"same", none, m⟩ := by rw [List.append_assoc]; rfl
            rw [e]
            exact alA.imp fun _ _ z => z.keep ((TK.same s12).trans blk)
          · rw [show lineB hs.length ms.length ths = (List.range n).map fun k => (⟨hs.length + k, hs.length + k + 1, ths.getD k []⟩ : BR) by unfold lineB; rw [lm]]
            exact All2.ap (alg.imp fun _ _ z => z.keep blk) (alb.imp fun _ _ z => z.keep k13)
          · have : (lineH first ms).length = n + 1 := by show (ms.map _).length + 1 = _; rw [List.length_map, lm]
            rw [List.length_append, this, lh, Nat.succ_mul]
          · have : (lineB hs.length ms.length ths).length = n := by unfold lineB; rw [List.length_map, List.length_range, lm]
            rw [List.length_append, this, lb, Nat.succ_mul]
      · rintro σ H8 ⟨hl, hv, bv, hs, bs, x8, x9, rfl, htt, hD8, alt8, hhl, alh, hbl, alb, hlb, ok, lh, lb, F8, B8⟩
        refine ⟨_, rfl, hl, _, rfl, .inl ⟨SqL.of hhl, fun p3 np3 => ⟨_, rfl, bl, _, rfl, .inl ⟨SqL.of (same_new np3 _ _ hbl), fun p4 np4 => ⟨(by show 2 ≤ sizeLine; decide), fun r nr => ?_⟩⟩⟩⟩⟩
        have z1 := same_new (o := .tup hv) np3
        have z2 := same_new (o := .tup bv) np4
        have z3 := same_new (o := .tup [V.ref p3, V.ref p4]) nr
        have z13 : Same H8 _ := fun a o e => z3 _ _ (z2 _ _ (z1 _ _ e))
        exact q r hs bs _ ⟨p3, p4, hv, bv, upd_same, z3 _ _ (z2 _ _ upd_same), z3 _ _ upd_same, alh.imp fun _ _ z => z.keep (TK.same z13), alb.imp fun _ _ z => z.keep (TK.same z13)⟩ ok (by rw [lh]; show 0 < 2 * (n + 1); omega) (F8.same z13) (B8.same z13)
  · refine ⟨_, rfl, f, c, 9, rfl, by decide, by decide +kernel, F2, fun m9 H3 m0 m1 F3 B3 => ⟨_, _, rfl, rfl, ?_⟩⟩
    obtain ⟨n, en, n1, n5⟩ : ∃ n : Nat, (2 + m9) = ((n : Nat) : Int) ∧ 2 ≤ n ∧ n ≤ 10 := ⟨(2 + m9).toNat, by omega, by omega, by omega⟩
    dsimp only
    rw [en]
    have B13 := (B1.trans B2).trans B3
    refine ⟨_, rfl, _, rfl, by omega, by omega, fun D nD => ?_⟩
    have atn : ∀ {j : Nat}, j < n → (ringB n)[j]? = some ⟨j, (j + 1) % n, [5]⟩ := fun {j} h => by unfold ringB; rw [List.getElem?_map, List.getElem?_range h]; rfl
    have lr : (ringB n).length = n := by unfold ringB; rw [List.length_map, List.length_range]
    refine lc_range (lo := 0) (n := n) (fun i H5 => ∃ us : List V, H5 D = some (.lst us) ∧ All2 (BeltAt H5) us ((ringB n).take i) ∧ Same H3 H5) ⟨[], upd_same, .nil, same_new nD⟩ ?_ ?_
    · rintro j H5 hj ⟨us, hD, al, s5⟩
      have lu := al.length
      rw [List.length_take] at lu
      refine ⟨rfl, yes_in ⟨_, rfl, _, rfl, _, _, rfl, rfl, _, rfl, _, _, rfl, rfl, (show (0 : Int) < (n : Nat) by omega), (by show 1 ≤ sizeLine; decide), fun g ng => ⟨(by show 3 ≤ sizeLine; decide), fun t nt => ?_⟩⟩⟩
      have z1 := same_new (o := .tup [V.int 5]) ng
      have z2 := same_new (o := .tup [V.int (0 + ((j : Nat) : Int)), V.int ((0 + ((j : Nat) : Int) + 1) % ((n : Nat) : Int)), V.ref g]) nt
      have z12 : Same H5 _ := fun a o e => z2 _ _ (z1 _ _ e)
      have hD2 := z12 _ _ hD
      have kk : TK H5 _ := (TK.same z12).trans (TK.lst (ys := us ++ [V.ref t]) hD2)
      refine ⟨_, hD2, small1000 (by omega), us ++ [.ref t], upd_same, ?_, Same.own (fun a o e => z12 _ _ (s5 _ _ e)) nD⟩
      rw [List.take_add_one, atn hj]
      refine (al.imp fun _ _ z => z.keep kk).snoc ⟨t, g, rfl, ?_, TK.lst hD2 _ _ (z2 _ _ upd_same)⟩
      refine (TK.lst hD2 t _ upd_same).trans (congrArg (fun l => some (HO.tup l)) ?_)
      have e1 : 0 + ((j : Nat) : Int) = ((j : Nat) : Int) := Int.zero_add _
      show [V.int (0 + ((j : Nat) : Int)), V.int ((0 + ((j : Nat) : Int) + 1) % ((n : Nat) : Int)), V.ref g] = [V.int ((j : Nat) : Int), V.int (((j + 1) % n : Nat) : Int), V.ref g]
      rw [e1]
      rfl
    rintro H5 ⟨us, hD, al, s5⟩
    rw [List.take_of_length_le (by omega)] at al
    have lu := al.length
    have Df : D ≠ f := F3.ne nD
    have Dc : D ≠ c := F3.nec nD
    have D0 : H D = none := B13.none nD Df
    refine ⟨_, rfl, _, rfl, f, c, _, rfl, (show (0 : Int) < (n : Nat) by omega), Nat.lt_of_le_of_lt (Nat.log2_le_self _) (by show n < 9000; omega), F3.same s5, fun ta H6 a0 a1 F6 B6 => ?_⟩
    obtain ⟨at_, rfl⟩ := Int.eq_ofNat_of_zero_le a0
    have al_ : at_ < n := by have : ((at_ : Nat) : Int) < (n : Nat) := a1; omega
    have k56 := TK.but (F3.same s5) B6
    refine ⟨_, rfl, _, rfl, _, _, rfl, rfl, _, rfl, _, _, rfl, rfl, (show (0 : Int) < (n : Nat) by omega), _, rfl, _, _, rfl, rfl, (by show 1 ≤ sizeLine; decide), fun g ng => ⟨(by show 3 ≤ sizeLine; decide), fun t nt => ?_⟩⟩
    have z1 := same_new (o := .tup [V.int (5 + ot)]) ng
    have z2 := same_new (o := .tup [V.int ((at_ : Nat) : Int), V.int ((((at_ : Nat) : Int) + 1) % ((n : Nat) : Int)), V.ref g]) nt
    have z12 : Same H6 _ := fun a o e => z2 _ _ (z1 _ _ e)
    have hD7 := z12 _ _ (B6 _ _ hD Df)
    refine ⟨_, rfl, _, rfl, D, us, _, at_, rfl, rfl, hD7, by unfold ixN; rw [if_pos (by omega), if_pos (by omega)]; rfl, ?_⟩
    have k8 : TK H6 _ := (TK.same z12).trans (TK.lst (ys := us.set at_ (V.ref t)) hD7)
    have x0 : BeltAt _ (V.ref t) ⟨at_, (at_ + 1) % n, [5 + ot]⟩ := ⟨t, g, rfl, TK.lst (ys := us.set at_ (V.ref t)) hD7 t _ upd_same, TK.lst (ys := us.set at_ (V.ref t)) hD7 g _ (z2 _ _ upd_same)⟩
    have al8 := (al.imp fun _ _ z => z.keep (k56.trans k8)).st at_ x0
    have F8 := ((F6.same z12)).lst (o := .lst (us.set at_ (V.ref t))) Df Dc
    have B8 := ((((B13.same s5).trans B6).same z12)).own (o := .lst (us.set at_ (V.ref t))) D0
    have hD8 : (upd _ D (.lst (us.set at_ (V.ref t)))) D = some (.lst (us.set at_ (V.ref t))) := upd_same (H := (upd (upd H6 g (.tup [V.int (5 + ot)])) t (.tup [V.int ((at_ : Nat) : Int), V.int ((((at_ : Nat) : Int) + 1) % ((n : Nat) : Int)), V.ref g])))
    refine ⟨_, rfl, _, rfl, by omega, by omega, fun E nE => ?_⟩
    refine lc_range (lo := 0) (n := n) (fun j H10 => ∃ (ws : List V) (ms : List Int), H10 E = some (.lst ws) ∧ ms.length = j ∧ All2 (HandAt H10) ws (ms.map fun m => ⟨"times", some 1, m⟩) ∧ (∀ m ∈ ms, 0 ≤ m ∧ m ≤ 30) ∧ Flow H10 f c ∧ But f _ H10) ⟨[], [], upd_same, rfl, .nil, (fun _ z => nomatch z), F8.new nE, But.refl.new nE⟩ ?_ ?_
    · rintro j H10 hj ⟨ws, ms, hE, lm, alw, gm, F10, B10⟩
      have Ef : E ≠ f := F8.ne nE
      have Ec : E ≠ c := F8.nec nE
      have lw := alw.length
      rw [List.length_map] at lw
      refine ⟨rfl, yes_in ⟨(by show 2 ≤ sizeLine; decide), fun r2 nr2 => ⟨_, rfl, f, c, 9, rfl, by decide, by decide +kernel, F10.new nr2, fun m H11 w0 w1 F11 B11 => ⟨(by show 2 ≤ sizeLine; decide), fun t2 nt2 => ?_⟩⟩⟩⟩
      have hE11 := same_new (o := .tup [V.ref r2, V.int m]) nt2 _ _ (B11 _ _ (same_new nr2 _ _ hE) Ef)
      have kk : TK H10 (upd (upd H11 t2 (.tup [V.ref r2, V.int m])) E (.lst (ws ++ [V.ref t2]))) := (((TK.new (o := .tup [V.str "times", V.int 1]) nr2).trans (TK.but (F10.new nr2) B11)).trans (TK.new (o := .tup [V.ref r2, V.int m]) nt2)).trans (TK.lst hE11)
      refine ⟨_, hE11, small1000 (by omega), ws ++ [.ref t2], ms ++ [m], upd_same, by rw [List.length_append, lm]; rfl, ?_, fun m' h' => ?_, (F11.new nt2).lst Ef Ec, (((B10.new nr2).trans B11).new nt2).own nE⟩
      · rw [List.map_append]
        exact (alw.imp fun _ _ z => z.keep kk).snoc ⟨t2, r2, rfl, TK.lst hE11 _ _ upd_same, TK.lst hE11 _ _ (TK.new (o := .tup [V.ref r2, V.int m]) nt2 _ _ (TK.but (F10.new nr2) B11 _ _ upd_same))⟩
      · rcases List.mem_append.mp h' with z | z
        · exact gm m' z
        · rw [List.mem_singleton.mp z]; omega
    rintro H10 ⟨ws, ms, hE, lm, alw, gm, F10, B10⟩
    refine ⟨E, _, rfl, .inl ⟨SqL.of hE, fun p3 np3 => ⟨_, rfl, D, _, rfl, .inl ⟨SqL.of (same_new np3 _ _ (B10 _ _ hD8 Df)), fun p4 np4 => ⟨(by show 2 ≤ sizeLine; decide), fun r nr => ?_⟩⟩⟩⟩⟩
    have y1 := same_new (o := .tup ws) np3
    have y2 := same_new (o := .tup (us.set at_ (V.ref t))) np4
    have y3 := same_new (o := .tup [V.ref p3, V.ref p4]) nr
    have y13 : Same H10 _ := fun a o e => y3 _ _ (y2 _ _ (y1 _ _ e))
    exact q r _ _ _ ⟨p3, p4, _, _, upd_same, y3 _ _ (y2 _ _ upd_same), y3 _ _ upd_same, alw.imp fun _ _ z => z.keep (TK.same y13), al8.imp fun _ _ z => z.keep ((TK.but F8 B10).trans (TK.same y13))⟩ (ring_ok (by omega) (by omega) (by constructor <;> omega) gm lm al_) (by rw [List.length_map, lm]; omega) (F10.same y13) ((B8.trans B10).same y13)
def sp_law_some_copied (K : PySem.W.Frag) : Sp := fun vs H Q _ => ∃ f c : Addr, vs = [.ref f] ∧ Flow H f c ∧ ∀ (r : Addr) (hs : List HR) (bs : List BR) (H' : Hp), RoomAt H' r hs bs → RoomOk hs bs → 0 < hs.length → Flow H' f c → But f H H' → Q (.ref r) H'
theorem ok_law_some_copied {f : Addr} {fd : FuncData} (F : Fun K "_law_some_copied" "_law_some_copied" s_law_some_copied f fd) (T : Top K mg) : FnOk P w K mg base CX0 7 f fd ["_law_flow_here"] (sp_law_some_copied K) := by
  obtain ⟨f_law_copied, fd_law_copied, F_law_copied, b_law_copied, m_law_copied⟩ := T.d_law_copied
  have G_law_copied := ok_law_copied (P := P) (w := w) (base := base) F_law_copied T
  obtain ⟨f_law_pick, fd_law_pick, F_law_pick, b_law_pick, m_law_pick⟩ := T.d_law_pick
  have G_law_pick := ok_law_pick (P := P) (w := w) (base := base) F_law_pick T
  obtain ⟨f_law_marred, fd_law_marred, F_law_marred, b_law_marred, m_law_marred⟩ := T.d_law_marred
  have G_law_marred := ok_law_marred (P := P) (w := w) (base := base) F_law_marred T
  obtain ⟨f_law_turned_room, fd_law_turned_room, F_law_turned_room, b_law_turned_room, m_law_turned_room⟩ := T.d_law_turned_room
  have G_law_turned_room := ok_law_turned_room (P := P) (w := w) (base := base) F_law_turned_room T
  obtain ⟨f_law_lines, fd_law_lines, F_law_lines, b_law_lines, m_law_lines⟩ := T.d_law_lines
  have G_law_lines := ok_law_lines (P := P) (w := w) (base := base) F_law_lines T
  refine F.ok sc_law_some_copied (fun vs H Q E h => ?_) (fun cdv A outer s H vs Q E hr h => ?_)
  · obtain ⟨f, c, rfl, _⟩ := h
    rfl
  obtain ⟨f, c, rfl, hF, q⟩ := h
  refine ⟨_, (pss_cons (ps_if (pt_cmpR op_eq (pe_call G_law_pick (hr.mono (by decide)) (by rfl) m_law_pick F_law_pick.kp b_law_pick .nil pass0 (pa_cons (pv 0) (pa_cons pe_int pa_nil))) pe_int (nomark _)) (pss_one (ps_ret (pe_ix (ix_tupK K rfl) (pe_call G_law_turned_room (hr.mono (by decide)) (by rfl) m_law_turned_room F_law_turned_room.kp b_law_turned_room .nil pass0 (pa_cons (pv 0) (pa_cons (pe_call G_law_lines (hr.mono (by decide)) (by rfl) m_law_lines F_law_lines.kp b_law_lines .nil pass0 (pa_cons (pv 0) pa_nil)) pa_nil))) pe_int (fun _ _ => rfl)))) pss_nil)
      (pss_cons (ps_set (i := 1) sc_law_some_copied.nd rfl (Or.inl rfl) (pe_call G_law_copied (hr.mono (by decide)) (by rfl) m_law_copied F_law_copied.kp b_law_copied .nil pass0 (pa_cons (pv 0) pa_nil)))
      (pss_cons (ps_if (pt_cmpR op_eq (pe_call G_law_pick (hr.mono (by decide)) (by rfl) m_law_pick F_law_pick.kp b_law_pick .nil pass0 (pa_cons (pv 0) (pa_cons pe_int pa_nil))) pe_int (nomark _)) (pss_one (ps_set (i := 1) sc_law_some_copied.nd rfl (Or.inl rfl) (pe_call G_law_marred (hr.mono (by decide)) (by rfl) m_law_marred F_law_marred.kp b_law_marred .nil pass0 (pa_cons (pv 0) (pa_cons (pv 1) pa_nil))))) pss_nil)
      (pss_one (ps_ret (pe_ix (ix_tupK K rfl) (pe_call G_law_turned_room (hr.mono (by decide)) (by rfl) m_law_turned_room F_law_turned_room.kp b_law_turned_room .nil pass0 (pa_cons (pv 0) (pa_cons (pv 1) pa_nil))) pe_int (fun _ _ => rfl))))))), ?_⟩
  refine ⟨_, rfl, f, c, 4, rfl, by decide, by decide +kernel, hF, fun v H1 v0 v1 F1 B1 => ⟨rfl, _, rfl, if_bl (fun _ => ?_) (fun _ => ?_)⟩⟩
  · refine ⟨_, rfl, _, rfl, f, c, rfl, F1, fun r hs bs H2 hR ok n0 F2 B2 => ?_⟩
    refine ⟨f, c, r, hs, bs, rfl, F2, hR, ok, fun t r' od ord hs' bs' H3 ht hR' hod nod tu F3 B3 => ?_⟩
    exact ⟨t, _, _, _, rfl, rfl, SqT.of ht, atI_nat (j := 0) rfl, q r' hs' bs' H3 hR' (tu.ok ok) (by rw [tu.hlen, tu.olen]; exact n0) F3 ((B1.trans B2).trans B3)⟩
  · refine ⟨_, rfl, f, c, rfl, F1, fun r hs bs H2 hR ok n0 F2 B2 => ?_⟩
    refine ⟨_, rfl, f, c, 2, rfl, by decide, by decide +kernel, F2, fun v2 H3 u0 u1 F3 B3 => ⟨rfl, _, rfl, if_bl (fun _ => ?_) (fun _ => ?_)⟩⟩
    · refine ⟨_, rfl, _, rfl, f, c, r, hs, bs, rfl, F3, hR.keep (TK.but F2 B3), ok, n0, fun r2 hs2 bs2 H4 hR2 ok2 n2 F4 B4 => ?_⟩
      refine ⟨_, rfl, _, rfl, f, c, r2, hs2, bs2, rfl, F4, hR2, ok2, fun t r' od ord hs' bs' H5 ht hR' hod nod tu F5 B5 => ?_⟩
      exact ⟨t, _, _, _, rfl, rfl, SqT.of ht, atI_nat (j := 0) rfl, q r' hs' bs' H5 hR' (tu.ok ok2) (by rw [tu.hlen, tu.olen]; exact n2) F5 ((((B1.trans B2).trans B3).trans B4).trans B5)⟩
    · refine ⟨_, rfl, _, rfl, f, c, r, hs, bs, rfl, F3, hR.keep (TK.but F2 B3), ok, fun t r' od ord hs' bs' H5 ht hR' hod nod tu F5 B5 => ?_⟩
      exact ⟨t, _, _, _, rfl, rfl, SqT.of ht, atI_nat (j := 0) rfl, q r' hs' bs' H5 hR' (tu.ok ok) (by rw [tu.hlen, tu.olen]; exact n0) F5 (((B1.trans B2).trans B3).trans B5)⟩
end
/-! ### the room that has one hand for each kind -/
theorem Canon.take {t : List Nat} (c : Canon t) (k : Nat) : Canon (t.take k) := by
  intro i x e
  rw [List.getElem?_take] at e
  by_cases h : i < k
  · rw [if_pos h] at e
    rw [List.take_take, Nat.min_eq_left (Nat.le_of_lt h)]
    exact c i x e
  · rw [if_neg h] at e; cases e
theorem canon_all : ∀ {t : List Nat}, Canon t → ∀ x, x ∈ t ↔ x < (uniq t).length := by
  intro t
  induction t using snoc_ind with
  | h0 => intro _ x; exact ⟨fun z => (by cases z), fun z => absurd z (Nat.not_lt_zero _)⟩
  | h1 l y ih =>
    intro c x
    have cl : Canon l := by
      have := c.take l.length
      rwa [List.take_left'] at this
      rfl
    have ih := ih cl
    have cy := c l.length y (by rw [List.getElem?_append_right (Nat.le_refl _), Nat.sub_self]; rfl)
    rw [List.take_left' rfl] at cy
    rw [uniq_snoc, List.mem_append, List.mem_singleton, ih x]
    by_cases h : y ∈ l
    · rw [if_pos ((mem_uniq l y).mpr h)]
      constructor
      · rintro (z | rfl)
        · exact z
        · exact (ih _).mp h
      · exact .inl
    · rw [if_neg (fun z => h ((mem_uniq l y).mp z)), List.length_append]
      have : y = (uniq l).length := cy.resolve_left h
      show _ ↔ x < _ + 1
      omega
def kd (t : List Nat) (i : Nat) : Nat := t.getD i 0
def alk (t : List Nat) (k : Nat) : List Nat := (List.range t.length).filter fun i => decide (t[i]? = some k)
def rep (t : List Nat) (k : Nat) : Nat := (alk t k).headD 0
def minL : List Int → Int
  | [] => 0
  | [x] => x
  | x :: y :: r => min x (minL (y :: r))
theorem minL_le : ∀ {l : List Int}, ∀ x ∈ l, minL l ≤ x
  | [_], x, h => by rw [List.mem_singleton.mp h]; exact Int.le_refl _
  | y :: z :: r, x, h => by
    show min y (minL (z :: r)) ≤ x
    rcases List.mem_cons.mp h with rfl | h
    · exact Int.min_le_left ..
    · exact Int.le_trans (Int.min_le_right ..) (minL_le x h)
theorem minL_mem : ∀ {l : List Int}, l ≠ [] → minL l ∈ l
  | [x], _ => List.mem_singleton.mpr rfl
  | y :: z :: r, _ => by
    show min y (minL (z :: r)) ∈ _
    by_cases h : y ≤ minL (z :: r)
    · rw [Int.min_eq_left h]; exact List.mem_cons_self ..
    · rw [Int.min_eq_right (by omega)]; exact List.mem_cons_of_mem _ (minL_mem (List.cons_ne_nil _ _))
def gH (hs : List HR) (i : Nat) : HR := hs.getD i ⟨"", none, 0⟩
def joinH1 (hs : List HR) (t : List Nat) (k : Nat) : HR := ⟨(gH hs (rep t k)).wd, (gH hs (rep t k)).no, minL ((alk t k).map fun i => (gH hs i).mom)⟩
def joinB1 (bs : List BR) (t : List Nat) (k : Nat) : List BR := (comeB bs (rep t k)).map fun b => ⟨kd t b.one, k, b.th⟩
def joinH (hs : List HR) (t : List Nat) : List HR := (List.range (uniq t).length).map (joinH1 hs t)
def joinB (bs : List BR) (t : List Nat) : List BR := (List.range (uniq t).length).flatMap (joinB1 bs t)
theorem gH_at {hs : List HR} {i : Nat} {h : HR} (e : hs[i]? = some h) : gH hs i = h := by
  unfold gH
  rw [List.getD_eq_getElem?_getD, e]; rfl
theorem kd_at {t : List Nat} {i x : Nat} (e : t[i]? = some x) : kd t i = x := by
  unfold kd
  rw [List.getD_eq_getElem?_getD, e]; rfl
theorem at_kd {t : List Nat} {i : Nat} (h : i < t.length) : t[i]? = some (kd t i) := by
  rw [List.getElem?_eq_getElem h]
  unfold kd
  rw [List.getD_eq_getElem?_getD, List.getElem?_eq_getElem h]; rfl
theorem rep_of {t : List Nat} {k : Nat} (h : k ∈ t) : rep t k < t.length ∧ t[rep t k]? = some k ∧ rep t k ∈ alk t k ∧ ∃ r, alk t k = rep t k :: r := by
  obtain ⟨i, hi, e⟩ := List.getElem_of_mem h
  have m : i ∈ alk t k := List.mem_filter.mpr ⟨List.mem_range.mpr hi, decide_eq_true (by rw [List.getElem?_eq_getElem hi, e])⟩
  cases hl : alk t k with
  | nil => rw [hl] at m; cases m
  | cons a r =>
    have e1 : rep t k = a := by unfold rep; rw [hl]; rfl
    have m2 : a ∈ alk t k := by rw [hl]; exact List.mem_cons_self ..
    obtain ⟨q1, q2⟩ := List.mem_filter.mp m2
    rw [e1]
    exact ⟨List.mem_range.mp q1, of_decide_eq_true q2, List.mem_cons_self .., r, rfl⟩
section
variable {hs : List HR} {bs : List BR} {t : List Nat}
theorem kd_lt (K : KindsOf hs bs t) {i : Nat} (h : i < hs.length) : kd t i < (uniq t).length := by
  have e := at_kd (t := t) (i := i) (by rw [K.len]; exact h)
  exact (canon_all K.canon _).mp (List.mem_of_getElem? e)
theorem rep_lt (K : KindsOf hs bs t) {k : Nat} (h : k < (uniq t).length) : rep t k < hs.length ∧ kd t (rep t k) = k := by
  obtain ⟨a, b, _⟩ := rep_of ((canon_all K.canon k).mpr h)
  exact ⟨by rw [← K.len]; exact a, kd_at b⟩
theorem kinds_alike (K : KindsOf hs bs t) {i j : Nat} (hi : i < hs.length) (hj : j < hs.length) : kd t i = kd t j ↔ AlikeH hs bs i j := by
  rw [← K.same i j hi hj, at_kd (by rw [K.len]; exact hi), at_kd (by rw [K.len]; exact hj)]
  exact ⟨fun z => congrArg some z, fun z => Option.some.inj z⟩
theorem flat_filter {f : Nat → List BR} (hf : ∀ k, ∀ b ∈ f k, b.to = k) (k : Nat) : ∀ m, ((List.range m).flatMap f).filter (fun b => decide (b.to = k)) = if k < m then f k else [] := by
  intro m
  induction m with
  | zero => rfl
  | succ m ih =>
    rw [List.range_succ, List.flatMap_append, List.filter_append, ih]
    have e : ([m].flatMap f).filter (fun b => decide (b.to = k)) = if k = m then f k else [] := by
      rw [List.flatMap_singleton]
      by_cases h : k = m
      · rw [if_pos h, h]
        exact List.filter_eq_self.mpr fun b hb => decide_eq_true (hf m b hb)
      · rw [if_neg h]
        exact List.filter_eq_nil_iff.mpr fun b hb z => h ((of_decide_eq_true z).symm.trans (hf m b hb))
    rw [e]
    by_cases h1 : k < m
    · rw [if_pos h1, if_neg (by omega), if_pos (by omega), List.append_nil]
    · rw [if_neg h1, List.nil_append]
      by_cases h2 : k = m
      · rw [if_pos h2, if_pos (by omega)]
      · rw [if_neg h2, if_neg (by omega)]
theorem joinB1_to {k : Nat} : ∀ b ∈ joinB1 bs t k, b.to = k := fun b hb => by
  obtain ⟨c, _, rfl⟩ := List.mem_map.mp hb
  rfl
theorem come_join {k : Nat} (h : k < (uniq t).length) : comeB (joinB bs t) k = joinB1 bs t k := by
  show ((List.range (uniq t).length).flatMap (joinB1 bs t)).filter _ = _
  rw [flat_filter (fun k b hb => joinB1_to b hb), if_pos h]
theorem mem_join {c : BR} (h : c ∈ joinB bs t) : ∃ k, k < (uniq t).length ∧ c ∈ joinB1 bs t k := by
  obtain ⟨k, hk, hc⟩ := List.mem_flatMap.mp h
  exact ⟨k, List.mem_range.mp hk, hc⟩
theorem All2.mapR {α β γ : Type} {R : α → γ → Prop} {f : β → γ} : ∀ {as : List α} {bs : List β}, All2 (fun a b => R a (f b)) as bs → All2 R as (bs.map f)
  | _, _, .nil => .nil
  | _, _, .cons h t => .cons h (All2.mapR t)
theorem All2.mapL {α β γ : Type} {R : γ → β → Prop} {f : α → γ} : ∀ {as : List α} {bs : List β}, All2 (fun a b => R (f a) b) as bs → All2 R (as.map f) bs
  | _, _, .nil => .nil
  | _, _, .cons h t => .cons h (All2.mapL t)
theorem pw_eq : ∀ {l m : List Nat}, l.Pairwise (· < ·) → m.Pairwise (· < ·) → (∀ x, x ∈ l ↔ x ∈ m) → l = m
  | [], [], _, _, _ => rfl
  | [], y :: m, _, _, h => absurd ((h y).mpr (List.mem_cons_self ..)) (fun z => (by cases z))
  | x :: l, [], _, _, h => absurd ((h x).mp (List.mem_cons_self ..)) (fun z => (by cases z))
  | x :: l, y :: m, a, b, h => by
    obtain ⟨a1, a2⟩ := List.pairwise_cons.mp a
    obtain ⟨b1, b2⟩ := List.pairwise_cons.mp b
    have e : x = y := by
      rcases List.mem_cons.mp ((h x).mp (List.mem_cons_self ..)) with e | hx
      · exact e
      · rcases List.mem_cons.mp ((h y).mpr (List.mem_cons_self ..)) with e | hy
        · exact e.symm
        · have := a1 y hy
          have := b1 x hx
          omega
    subst e
    rw [pw_eq a2 b2 fun z => ?_]
    constructor
    · intro hz
      rcases List.mem_cons.mp ((h z).mp (List.mem_cons_of_mem _ hz)) with e | q
      · rw [e] at hz
        exact absurd (a1 x hz) (Nat.lt_irrefl _)
      · exact q
    · intro hz
      rcases List.mem_cons.mp ((h z).mpr (List.mem_cons_of_mem _ hz)) with e | q
      · rw [e] at hz
        exact absurd (b1 x hz) (Nat.lt_irrefl _)
      · exact q
/-- each hand goes on in its kind -/
structure Join (hs : List HR) (bs : List BR) (t : List Nat) (hs' : List HR) (bs' : List BR) : Prop where
  tlen : t.length = hs.length
  hand : ∀ i h, hs[i]? = some h → ∃ h', hs'[kd t i]? = some h' ∧ h'.wd = h.wd ∧ h'.no = h.no ∧ h'.mom ≤ h.mom
  doors : ∀ z : Str, z = "in" ∨ z = "out" → doorsOf z hs' = (doorsOf z hs).map (kd t)
  come : ∀ i, i < hs.length → All2 (fun b c : BR => b.th = c.th ∧ c.one = kd t b.one) (comeB bs i) (comeB bs' (kd t i))
  ends : ∀ b ∈ bs, b.one < hs.length
theorem doors_pw {z : Str} {hs : List HR} : (doorsOf z hs).Pairwise (· < ·) := List.Pairwise.filter _ List.pairwise_lt_range
theorem joinH_at {k : Nat} (h : k < (uniq t).length) : (joinH hs t)[k]? = some (joinH1 hs t k) := by
  unfold joinH
  rw [List.getElem?_map, List.getElem?_range h]; rfl
theorem same_rule (K : KindsOf hs bs t) {i : Nat} {h : HR} (e : hs[i]? = some h) : (joinH1 hs t (kd t i)).wd = h.wd ∧ (joinH1 hs t (kd t i)).no = h.no ∧ (joinH1 hs t (kd t i)).mom ≤ h.mom := by
  have il := (List.getElem?_eq_some_iff.mp e).1
  obtain ⟨r1, r2⟩ := rep_lt K (kd_lt K il)
  have al := (kinds_alike K il r1).mp r2.symm
  have im : i ∈ alk t (kd t i) := List.mem_filter.mpr ⟨List.mem_range.mpr (by rw [K.len]; exact il), decide_eq_true (at_kd (by rw [K.len]; exact il))⟩
  have mm : (joinH1 hs t (kd t i)).mom ≤ h.mom := minL_le _ (List.mem_map.mpr ⟨i, im, by rw [gH_at e]⟩)
  rcases al.first il r1 with q | ⟨g, h2, e1, e2, e3, e4, _⟩
  · refine ⟨?_, ?_, mm⟩
    · show (gH hs (rep t (kd t i))).wd = _
      rw [← q, gH_at e]
    · show (gH hs (rep t (kd t i))).no = _
      rw [← q, gH_at e]
  · rw [e] at e1
    obtain rfl := Option.some.inj e1
    refine ⟨?_, ?_, mm⟩
    · show (gH hs (rep t (kd t i))).wd = _
      rw [gH_at e2, e3]
    · show (gH hs (rep t (kd t i))).no = _
      rw [gH_at e2, e4]
theorem join_ok (K : KindsOf hs bs t) (ends : ∀ b ∈ bs, b.one < hs.length) : Join hs bs t (joinH hs t) (joinB bs t) := by
  have rule := fun i h (e : hs[i]? = some h) => same_rule K e
  refine ⟨K.len, fun i h e => ⟨_, joinH_at (kd_lt K (List.getElem?_eq_some_iff.mp e).1), rule i h e⟩, fun z hz => ?_, fun i hi => ?_, ends⟩
  · refine pw_eq doors_pw ?_ fun x => ?_
    · rw [List.pairwise_map]
      refine List.Pairwise.imp_of_mem ?_ (doors_pw (z := z) (hs := hs))
      intro a b ha hb lt
      obtain ⟨h1, e1, w1⟩ := mem_doors.mp ha
      obtain ⟨h2, e2, w2⟩ := mem_doors.mp hb
      have al := (List.getElem?_eq_some_iff.mp e1).1
      have bl := (List.getElem?_eq_some_iff.mp e2).1
      have ta := at_kd (t := t) (i := a) (by rw [K.len]; exact al)
      have tb := at_kd (t := t) (i := b) (by rw [K.len]; exact bl)
      have am : kd t a ∈ t.take b := List.mem_of_getElem? (i := a) (by rw [List.getElem?_take, if_pos lt]; exact ta)
      rcases K.canon b _ tb with m | e
      · exfalso
        obtain ⟨j, hj, ej⟩ := List.getElem_of_mem m
        rw [List.length_take] at hj
        rw [List.getElem_take] at ej
        have tj : t[j]? = some (kd t b) := by rw [← ej]; exact List.getElem?_eq_getElem (by omega)
        have jl : j < hs.length := by rw [← K.len]; omega
        have q := (kinds_alike K jl bl).mp (kd_at tj)
        rcases q.first jl bl with e | ⟨g, h3, g1, g2, g3, g4, g5⟩
        · omega
        · rw [e2] at g2
          rw [← Option.some.inj g2, w2] at g3
          unfold isDoor at g5
          rw [g3] at g5
          rcases hz with rfl | rfl
          · revert g5; decide +kernel
          · revert g5; decide +kernel
      · rw [e]
        exact (canon_all (K.canon.take b) _).mp am
    · rw [mem_doors, List.mem_map]
      constructor
      · rintro ⟨h', e, w⟩
        have xl : x < (uniq t).length := by
          have := (List.getElem?_eq_some_iff.mp e).1
          unfold joinH at this
          rwa [List.length_map, List.length_range] at this
        obtain ⟨r1, r2⟩ := rep_lt K xl
        have er := List.getElem?_eq_getElem r1
        refine ⟨rep t x, mem_doors.mpr ⟨_, er, ?_⟩, r2⟩
        rw [joinH_at xl] at e
        rw [← w, ← Option.some.inj e]
        show _ = (gH hs (rep t x)).wd
        rw [gH_at er]
      · rintro ⟨i, hi, rfl⟩
        obtain ⟨h, e, w⟩ := mem_doors.mp hi
        exact ⟨_, joinH_at (kd_lt K (List.getElem?_eq_some_iff.mp e).1), (rule i h e).1.trans w⟩
  · have kl := kd_lt K hi
    obtain ⟨r1, r2⟩ := rep_lt K kl
    have al := (kinds_alike K hi r1).mp r2.symm
    rw [come_join kl]
    refine All2.mapR ((al.come hi r1).imp_mem fun b hb c hc ⟨z1, z2⟩ => ⟨z1, ?_⟩)
    exact ((kinds_alike K (ends b (come_mem hb)) (ends c (come_mem hc))).mpr z2).symm
def lift (t : List Nat) (m : List Int) : List Int := t.map fun k => gD m k
theorem lift_at {t : List Nat} {m : List Int} {i : Nat} (h : i < t.length) : gD (lift t m) i = gD m (kd t i) := by
  show (lift t m).getD i 0 = _
  rw [List.getD_eq_getElem?_getD]
  unfold lift
  rw [List.getElem?_map, at_kd h]; rfl
theorem come_stand (bs : List BR) (ms : List (List Int)) (k : Nat) : comeB (stand bs ms) k = (comeB bs k).map (standB ms) := by
  unfold comeB
  rw [List.filter_map]
  congr 1
  refine List.filter_congr fun b _ => ?_
  show decide ((standB ms b).to = k) = _
  rw [stand_to]
variable {hs' : List HR} {bs' : List BR}
theorem Join.stand (J : Join hs bs t hs' bs') (ms : List (List Int)) : Join hs (Mine.stand bs (ms.map (lift t))) t hs' (Mine.stand bs' ms) := by
  refine ⟨J.tlen, J.hand, J.doors, fun i hi => ?_, fun b hb => ?_⟩
  · rw [come_stand, come_stand]
    refine All2.mapL (All2.mapR ((J.come i hi).imp_mem fun b hb c hc ⟨z1, z2⟩ => ?_))
    rw [stand_one, stand_one]
    refine ⟨?_, z2⟩
    have bl : b.one < t.length := by rw [J.tlen]; exact J.ends b (come_mem hb)
    unfold standB
    rw [z1]
    by_cases h : c.th = []
    · rw [if_pos h, if_pos h, z1]
    · rw [if_neg h, if_neg h]
      show ((c.th ++ (ms.map (lift t)).map fun m => gD m b.one).drop (ms.map (lift t)).length) = (c.th ++ ms.map fun m => gD m c.one).drop ms.length
      rw [List.length_map, List.map_map]
      congr 2
      refine List.map_congr_left fun m _ => ?_
      show gD (lift t m) b.one = gD m c.one
      rw [lift_at bl, z2]
  · obtain ⟨c, hc, rfl⟩ := List.mem_map.mp hb
    rw [stand_one]
    exact J.ends c hc
theorem Join.bell (J : Join hs bs t hs' bs') {ins m : List Int} (b : IsBell hs' bs' ins m) : IsBell hs bs ins (lift t m) := by
  have la : ∀ {k}, k < hs.length → (lift t m)[k]? = some (gD m (kd t k)) := fun {k} h => by
    unfold lift
    rw [List.getElem?_map, at_kd (by rw [J.tlen]; exact h)]; rfl
  have ma : ∀ {k : Nat} {v : Int}, m[k]? = some v → gD m k = v := fun {k v} e => by
    show m.getD k 0 = v
    rw [List.getD_eq_getElem?_getD, e]; rfl
  refine ⟨by unfold lift; rw [List.length_map]; exact J.tlen, fun j k e => ?_, fun k h e w => ?_⟩
  · have kl : k < hs.length := by
      obtain ⟨h, e1, _⟩ := mem_doors.mp (List.mem_of_getElem? e)
      exact (List.getElem?_eq_some_iff.mp e1).1
    obtain ⟨h0, e0⟩ : ∃ h0, hs[k]? = some h0 := ⟨_, List.getElem?_eq_getElem kl⟩
    obtain ⟨h', e2, _⟩ := J.hand k h0 e0
    have d := b.door j (kd t k) (by rw [J.doors "in" (.inl rfl), List.getElem?_map, e]; rfl)
    have ml : kd t k < m.length := by rw [b.len]; exact (List.getElem?_eq_some_iff.mp e2).1
    rw [la kl, ← d, List.getElem?_eq_getElem ml, ma (List.getElem?_eq_getElem ml)]
  · have kl := (List.getElem?_eq_some_iff.mp e).1
    obtain ⟨h', e2, w2, n2, _⟩ := J.hand k h e
    have d := b.hand (kd t k) h' e2 (by rw [w2]; exact w)
    rw [la kl, ma d]
    have tk : takes bs (gD (lift t m)) k = takes bs' (gD m) (kd t k) := by
      show (comeB bs k).map _ = (comeB bs' (kd t k)).map _
      have : ∀ {as cs : List BR}, All2 (fun b c : BR => b ∈ bs ∧ b.th = c.th ∧ c.one = kd t b.one) as cs → as.map (valB (gD (lift t m))) = cs.map (valB (gD m)) := by
        intro as cs a
        induction a with
        | nil => rfl
        | @cons x y as cs r tl ih =>
          obtain ⟨r0, r1, r2⟩ := r
          rw [List.map_cons, List.map_cons, ih]
          congr 1
          have bl : x.one < t.length := by rw [J.tlen]; exact J.ends x r0
          unfold valB
          rw [r1]
          cases y.th with
          | nil => show gD (lift t m) x.one = gD m y.one; rw [lift_at bl, r2]
          | cons a l => rfl
      exact this ((J.come k kl).imp_mem fun b hb c _ ⟨z1, z2⟩ => ⟨come_mem hb, z1, z2⟩)
    unfold mkR
    rw [tk, w2, n2]
theorem Join.ws (J : Join hs bs t hs' bs') {rows ms : List (List Int)} (W : WS hs' bs' rows ms) : WS hs bs rows (ms.map (lift t)) := by
  refine ⟨by rw [List.length_map]; exact W.len, fun i r m e1 e2 => ?_⟩
  rw [List.getElem?_map] at e2
  cases hm : ms[i]? with
  | none => rw [hm] at e2; cases e2
  | some m' =>
    rw [hm] at e2
    obtain rfl : lift t m' = m := Option.some.inj e2
    rw [← List.map_take]
    exact (J.stand (ms.take i)).bell (W.at_ i r m' e1 hm)
theorem Join.outs (J : Join hs bs t hs' bs') (m : List Int) : outsOf hs (lift t m) = outsOf hs' m := by
  unfold outsOf
  rw [J.doors "out" (.inr rfl), List.map_map]
  refine List.map_congr_left fun k hk => ?_
  obtain ⟨h, e, _⟩ := mem_doors.mp hk
  exact lift_at (by rw [J.tlen]; exact (List.getElem?_eq_some_iff.mp e).1)
theorem All2.memR {α β : Type} {R : α → β → Prop} : ∀ {as : List α} {bs : List β}, All2 R as bs → ∀ b ∈ bs, ∃ a ∈ as, R a b
  | _, _, .cons r t, b, h => by
    rcases List.mem_cons.mp h with rfl | h
    · exact ⟨_, List.mem_cons_self .., r⟩
    · obtain ⟨a, ha, ra⟩ := All2.memR t b h
      exact ⟨a, List.mem_cons_of_mem _ ha, ra⟩
theorem rep_least {t : List Nat} {k i : Nat} (h : i ∈ alk t k) : rep t k ≤ i := by
  have p : (alk t k).Pairwise (· < ·) := List.Pairwise.filter _ List.pairwise_lt_range
  unfold rep
  cases hl : alk t k with
  | nil => rw [hl] at h; cases h
  | cons a r =>
    rw [hl] at p h
    rcases List.mem_cons.mp h with rfl | h
    · exact Nat.le_refl _
    · exact Nat.le_of_lt ((List.pairwise_cons.mp p).1 i h)
theorem rep_new {t : List Nat} {i k : Nat} (e : t[i]? = some k) (no : k ∉ t.take i) : rep t k = i := by
  have il := (List.getElem?_eq_some_iff.mp e).1
  have m : i ∈ alk t k := List.mem_filter.mpr ⟨List.mem_range.mpr il, decide_eq_true e⟩
  have le := rep_least m
  obtain ⟨_, q, _⟩ := rep_of (List.mem_of_getElem? e)
  rcases Nat.lt_or_ge (rep t k) i with lt | ge
  · exact absurd (List.mem_of_getElem? (i := rep t k) (by rw [List.getElem?_take, if_pos lt]; exact q)) no
  · omega
theorem rep_sum {t : List Nat} (c : Canon t) (f : Nat → Nat) : ∀ i, i ≤ t.length → ((List.range (uniq (t.take i)).length).map fun k => f (rep t k)).sum ≤ ((List.range i).map f).sum := by
  intro i
  induction i with
  | zero => intro _; exact Nat.le_refl _
  | succ i ih =>
    intro h
    have ih := ih (by omega)
    have e : t[i]? = some t[i] := List.getElem?_eq_getElem (by omega)
    have e1 : t.take (i + 1) = t.take i ++ [t[i]] := by rw [List.take_add_one, e]; rfl
    rw [e1, uniq_snoc, List.range_succ, List.map_append, List.sum_append]
    by_cases m : t[i] ∈ uniq (t.take i)
    · rw [if_pos m]
      exact Nat.le_trans ih (Nat.le_add_right _ _)
    · rw [if_neg m, List.length_append, show [t[i]].length = 1 from rfl, List.range_succ, List.map_append, List.sum_append]
      have no : t[i] ∉ t.take i := fun z => m ((mem_uniq _ _).mpr z)
      have v := (c i _ e).resolve_left no
      have r := rep_new e no
      show _ + (f (rep t (uniq (t.take i)).length) + 0) ≤ _ + (f i + 0)
      have r2 : rep t (uniq (t.take i)).length = i := by rw [← v]; exact r
      rw [r2]
      exact Nat.add_le_add_right ih _
theorem join_many (ok : RoomOk hs bs) (K : KindsOf hs bs t) : (joinB bs t).length ≤ bs.length := by
  have e : (joinB bs t).length = ((List.range (uniq t).length).map fun k => cT bs (rep t k)).sum := by
    unfold joinB
    rw [List.length_flatMap]
    congr 1
    refine List.map_congr_left fun k _ => ?_
    unfold joinB1 cT
    rw [List.length_map, count_filter]
    rfl
  have s := rep_sum K.canon (cT bs) t.length (Nat.le_refl _)
  rw [List.take_length] at s
  rw [e]
  refine Nat.le_trans s ?_
  rw [cT_sum bs fun b hb => by rw [K.len]; exact (ok.ends b hb).2]
  exact Nat.le_refl _
/-- a rank for the kinds -/
def rkK (t : List Nat) (rk : Nat → Int) (k : Nat) : Int := minL ((alk t k).map rk)
theorem join_rank (ok : RoomOk hs bs) (K : KindsOf hs bs t) {rk : Nat → Int} (hrk : ∀ b ∈ bs, b.th = [] → rk b.one < rk b.to) : ∀ c ∈ joinB bs t, c.th = [] → rkK t rk c.one < rkK t rk c.to := by
  intro c hc e
  obtain ⟨k, hk, h1⟩ := mem_join hc
  obtain ⟨b, hb, rfl⟩ := List.mem_map.mp h1
  obtain ⟨r1, r2⟩ := rep_lt K hk
  have ne : (alk t k).map rk ≠ [] := fun z => by
    obtain ⟨_, _, m, _⟩ := rep_of ((canon_all K.canon k).mpr hk)
    rw [List.map_eq_nil_iff.mp z] at m
    cases m
  obtain ⟨i, hi, ei⟩ := List.mem_map.mp (minL_mem ne)
  obtain ⟨i1, i2⟩ := List.mem_filter.mp hi
  have il : i < hs.length := by rw [← K.len]; exact List.mem_range.mp i1
  have ik := kd_at (of_decide_eq_true i2)
  have al := (kinds_alike K il r1).mp (by rw [ik, r2])
  obtain ⟨b2, hb2, z1, z2⟩ := (al.come il r1).memR b hb
  have m2 := come_mem hb2
  have to2 : b2.to = i := of_decide_eq_true (List.mem_filter.mp hb2).2
  have o2 := (ok.ends b2 m2).1
  have e2 : kd t b2.one = kd t b.one := (kinds_alike K o2 (ok.ends b (come_mem hb)).1).mpr z2
  have lt := hrk b2 m2 (z1.trans e)
  have le : rkK t rk (kd t b.one) ≤ rk b2.one := by
    refine minL_le _ (List.mem_map.mpr ⟨b2.one, List.mem_filter.mpr ⟨List.mem_range.mpr (by rw [K.len]; exact o2), decide_eq_true ?_⟩, rfl⟩)
    rw [at_kd (by rw [K.len]; exact o2), e2]
  show rkK t rk (kd t b.one) < minL ((alk t k).map rk)
  rw [← ei]
  rw [to2] at lt
  omega
theorem join_room (ok : RoomOk hs bs) (K : KindsOf hs bs t) : RoomOk (joinH hs t) (joinB bs t) := by
  have ln : (joinH hs t).length = (uniq t).length := by unfold joinH; rw [List.length_map, List.length_range]
  have lm := uniq_len t
  rw [K.len] at lm
  have ends : ∀ b ∈ bs, b.one < hs.length := fun b hb => (ok.ends b hb).1
  have J := join_ok K ends
  obtain ⟨rk, hrk⟩ := ok.rank
  have of_ : ∀ {c}, c ∈ joinB bs t → ∃ k b, k < (uniq t).length ∧ b ∈ comeB bs (rep t k) ∧ c = ⟨kd t b.one, k, b.th⟩ := fun {c} hc => by
    obtain ⟨k, hk, h1⟩ := mem_join hc
    obtain ⟨b, hb, e⟩ := List.mem_map.mp h1
    exact ⟨k, b, hk, hb, e.symm⟩
  refine ⟨by rw [ln]; exact Nat.le_trans lm ok.hands, fun h hh => ?_, fun c hc => ?_, fun c hc h e => ?_, fun c hc => ?_, ⟨rkK t rk, join_rank ok K hrk⟩, fun k h e => ?_, Nat.le_trans (join_many ok K) ok.many⟩
  · obtain ⟨k, hk, rfl⟩ := List.mem_map.mp hh
    have hk := List.mem_range.mp hk
    obtain ⟨r1, r2⟩ := rep_lt K hk
    have er := List.getElem?_eq_getElem r1
    obtain ⟨g1, _⟩ := ok.good _ (List.mem_of_getElem? er)
    have ne : (alk t k).map (fun i => (gH hs i).mom) ≠ [] := fun z => by
      obtain ⟨_, _, m, _⟩ := rep_of ((canon_all K.canon k).mpr hk)
      rw [List.map_eq_nil_iff.mp z] at m
      cases m
    obtain ⟨i, hi, ei⟩ := List.mem_map.mp (minL_mem ne)
    have il : i < hs.length := by rw [← K.len]; exact List.mem_range.mp (List.mem_filter.mp hi).1
    have gi := (ok.good _ (List.mem_of_getElem? (List.getElem?_eq_getElem il))).2
    have mo : (joinH1 hs t k).mom = hs[i].mom := by
      show minL ((alk t k).map fun i => (gH hs i).mom) = _
      rw [← ei, gH_at (List.getElem?_eq_getElem il)]
    have w1 : (joinH1 hs t k).wd = hs[rep t k].wd := by show (gH hs (rep t k)).wd = _; rw [gH_at er]
    have w2 : (joinH1 hs t k).no = hs[rep t k].no := by show (gH hs (rep t k)).no = _; rw [gH_at er]
    refine ⟨?_, by rw [mo]; exact gi⟩
    rcases g1 with g | g
    · exact .inl ⟨by rw [w1]; exact g.wd, by rw [w1, w2]; exact g.no, by rw [w2]; exact g.big⟩
    · exact .inr ⟨by rw [w1]; exact g.1, by rw [w2]; exact g.2⟩
  · obtain ⟨k, b, hk, hb, rfl⟩ := of_ hc
    rw [ln]
    exact ⟨kd_lt K (ends b (come_mem hb)), hk⟩
  · obtain ⟨k, b, hk, hb, rfl⟩ := of_ hc
    have bl := ends b (come_mem hb)
    have eb := List.getElem?_eq_getElem bl
    obtain ⟨h', e1, w, _⟩ := J.hand _ _ eb
    have e : (joinH hs t)[kd t b.one]? = some h := e
    rw [e] at e1
    rw [Option.some.inj e1, w]
    exact ok.out b (come_mem hb) _ eb
  · obtain ⟨k, b, hk, hb, rfl⟩ := of_ hc
    exact ok.th b (come_mem hb)
  · have kl : k < (uniq t).length := by rw [← ln]; exact (List.getElem?_eq_some_iff.mp e).1
    obtain ⟨r1, r2⟩ := rep_lt K kl
    have er := List.getElem?_eq_getElem r1
    have c := ok.count _ _ er
    rw [joinH_at kl] at e
    rw [← Option.some.inj e]
    have w1 : (joinH1 hs t k).wd = hs[rep t k].wd := by show (gH hs (rep t k)).wd = _; rw [gH_at er]
    rw [w1, ← c, count_filter, count_filter]
    have cj := come_join (bs := bs) kl
    show (((comeB (joinB bs t) k).length : Nat) : Int) = _
    rw [cj]
    unfold joinB1
    rw [List.length_map]
    rfl
/-- a natural rank -/
def rkN (m : Nat) (rk : Nat → Int) (k : Nat) : Nat := (List.range m).countP fun j => decide (rk j < rk k)
theorem rkN_lt {m : Nat} {rk : Nat → Int} {a b : Nat} (ha : a < m) (h : rk a < rk b) : rkN m rk a < rkN m rk b := by
  refine count_less (fun x _ z => decide_eq_true ?_) ⟨a, List.mem_range.mpr ha, decide_eq_true h, decide_eq_false (Int.lt_irrefl _)⟩
  have := of_decide_eq_true z
  omega
theorem join_time (ok : RoomOk hs bs) (K : KindsOf hs bs t) : ∀ i, i < hs.length → lng (joinH hs t) (joinB bs t) (kd t i) ≤ lng hs bs i := by
  have ok' := join_room ok K
  have ln : (joinH hs t).length = (uniq t).length := by unfold joinH; rw [List.length_map, List.length_range]
  obtain ⟨rk, hrk⟩ := ok.rank
  have hrk' := join_rank ok K hrk
  have J := join_ok K fun b hb => (ok.ends b hb).1
  have key : ∀ q i, i < hs.length → rkN (uniq t).length (rkK t rk) (kd t i) = q → lng (joinH hs t) (joinB bs t) (kd t i) ≤ lng hs bs i := by
    intro q
    induction q using Nat.strongRecOn with
    | _ q ih =>
      intro i hi eq
      have kl := kd_lt K hi
      have ei := List.getElem?_eq_getElem hi
      obtain ⟨h', e1, _, _, mo⟩ := J.hand _ _ ei
      have mm : momN (joinH hs t) (kd t i) ≤ momN hs i := by
        unfold momN
        rw [e1, ei]
        exact mo
      rcases lng_is hrk' ok'.ends (k := kd t i) (by rw [ln]; exact kl) with e | ⟨c, hc, to, th, e⟩
      · rw [e]
        exact Int.le_trans mm (lng_mom hrk ok.ends hi)
      · have cm : c ∈ comeB (joinB bs t) (kd t i) := List.mem_filter.mpr ⟨hc, decide_eq_true to⟩
        obtain ⟨b, hb, z1, z2⟩ := (J.come i hi).memR c cm
        have bl := (ok.ends b (come_mem hb)).1
        have bto : b.to = i := of_decide_eq_true (List.mem_filter.mp hb).2
        have lt := hrk' c hc th
        rw [to] at lt
        have lt2 := rkN_lt (m := (uniq t).length) (by rw [z2]; exact kd_lt K bl) lt
        have step := ih (rkN (uniq t).length (rkK t rk) (kd t b.one)) (by rw [← eq, ← z2]; exact lt2) b.one bl rfl
        have lb := lng_belt hrk ok.ends (come_mem hb) (z1.trans th)
        rw [bto] at lb
        rw [e, z2]
        omega
  exact fun i hi => key _ i hi rfl
/-- who is alike stays alike when the room stands behind some bells -/
theorem stand_alike (ok : RoomOk hs bs) (K : KindsOf hs bs t) {rows ms : List (List Int)} (hw : ∀ x ∈ rows, x.length = (doorsOf "in" hs).length) (W : WS hs bs rows ms) {i j : Nat} (hi : i < hs.length) (hj : j < hs.length) (e : kd t i = kd t j) : AlikeH hs (stand bs ms) i j := by
  have J := join_ok K fun b hb => (ok.ends b hb).1
  obtain ⟨ms', W'⟩ := ws_ex (join_room ok K) (rows := rows) (fun x hx => by rw [hw x hx, J.doors "in" (.inl rfl), List.length_map])
  have eq : ms = ms'.map (lift t) := by
    obtain ⟨rk, hrk⟩ := ok.rk
    exact W.one hrk (J.ws W')
  refine ⟨fun i j => kd t i = kd t j ∧ i < hs.length ∧ j < hs.length, ⟨fun i j ⟨r, a, b⟩ _ _ => ((kinds_alike K a b).mp r).first a b, fun i j ⟨r, a, b⟩ _ _ => ?_⟩, e, hi, hj⟩
  have al := (kinds_alike K a b).mp r
  rw [come_stand, come_stand]
  refine All2.mapL (All2.mapR ((al.come a b).imp_mem fun x hx y hy ⟨z1, z2⟩ => ?_))
  have xl := (ok.ends x (come_mem hx)).1
  have yl := (ok.ends y (come_mem hy)).1
  have k2 := (kinds_alike K xl yl).mpr z2
  rw [stand_one, stand_one]
  refine ⟨?_, k2, xl, yl⟩
  unfold standB
  rw [z1]
  by_cases h : y.th = []
  · rw [if_pos h, if_pos h, z1]
  · rw [if_neg h, if_neg h]
    show (y.th ++ ms.map fun m => gD m x.one).drop ms.length = (y.th ++ ms.map fun m => gD m y.one).drop ms.length
    rw [eq, List.map_map, List.map_map]
    congr 2
    refine List.map_congr_left fun m _ => ?_
    show gD (lift t m) x.one = gD (lift t m) y.one
    rw [lift_at (by rw [K.len]; exact xl), lift_at (by rw [K.len]; exact yl), k2]
end
/-! ### max of a tuple of numbers, with a default -/
def rMaxDfT (K : PySem.W.Frag) : List V → List V → Hp → VK → Prop := fun xs zs H Q => ∃ (a : Addr) (ns : List Int) (d : V), xs = [.ref a] ∧ zs = [d] ∧ SqT K H a (ns.map V.int) ∧ ∀ v, (ns = [] ∧ v = d ∨ ∃ m, m ∈ ns ∧ v = .int m ∧ ∀ y ∈ ns, y ≤ m) → Q v H
theorem cr_maxDfT {X : Cx} (K : PySem.W.Frag) (hk : X.K = K) (hc : X.calm = true) : CallRK X (.builtin "max") ["default"] (rMaxDfT K) := by
  subst hk
  intro pins s σ H xs zs us ws Q I r r2 h
  obtain ⟨a, ns, d, rfl, rfl, hs, q⟩ := h
  obtain ⟨its, rv, hl, _⟩ := I.tuple hs
  rw [Vals.ref1 r]
  obtain ⟨dv, rfl, rd⟩ := vals1 r2
  have hh := I.ok.hd hc
  have ln : its.length = ns.length := by rw [← rv.length, List.length_map]
  show wpAny _ _ (call (.builtin "max") [.ref a] [(Str.ofString "default", dv)]) _ _ s
  refine PySem.call_max_walkD (PySem.W.iter_tupleW (A := X.A.in1) hh hl fun s₂ e W st hfp hw hk => ?_)
  refine ⟨_, _, _, _, _, _, _, s.heap, (fun i j => decide (ns.getD i 0 > ns.getD j 0)), rfl, W, st, hfp, hw, hk, fun hz s' m => ?_, fun hp => ⟨fun i j vi vj s3 Q3 E3 _ p1 p2 q3 => ?_, fun v s' hP m => ?_⟩⟩
  · obtain ⟨h', tk, rfl, hk'⟩ := PySem.W.moved_old e rfl m
    refine ⟨d, H, I.kept hk', rd, q _ (.inl ⟨?_, rfl⟩)⟩
    exact List.eq_nil_of_length_eq_zero (by have : its.toArray.size = 0 := hz; rw [List.size_toArray] at this; omega)
  · exact (CmpOf.ints_gt (fun i => ns.getD i 0) (ints_val rv)) i j vi vj s3 Q3 E3 p1 p2 q3
  · obtain ⟨h', tk, rfl, hk'⟩ := PySem.W.moved_old e rfl m
    have hp : 0 < its.length := by have : 0 < its.toArray.size := hp; rw [List.size_toArray] at this; exact this
    have hsz : its.toArray.size = its.length := List.size_toArray
    obtain ⟨t, rfl⟩ := ints_val rv _ v hP
    obtain ⟨h1, h2⟩ := argBest_gt (fun i => ns.getD i 0) (its.toArray.size - 1)
    refine ⟨.int _, H, I.kept hk', ⟨_, rfl⟩, q _ (.inr ⟨_, ?_, rfl, fun y hy => ?_⟩)⟩
    · have il : argBest (fun i j => decide (ns.getD i 0 > ns.getD j 0)) (its.toArray.size - 1) < ns.length := by omega
      rw [List.getD_eq_getElem?_getD, List.getElem?_eq_getElem il]
      exact List.getElem_mem _
    · obtain ⟨j, hj⟩ := List.getElem?_of_mem hy
      have jl := (List.getElem?_eq_some_iff.mp hj).1
      have := h2 j (by omega)
      rw [show ns.getD j 0 = y by rw [List.getD_eq_getElem?_getD, hj]; rfl] at this
      exact this
/-! ### how many things a set of a tuple of numbers has -/
theorem nd_le : ∀ l D : List Int, l.Nodup → (∀ x ∈ l, x ∈ D) → l.length ≤ D.length
  | [], _, _, _ => Nat.zero_le _
  | x :: l, D, h, sub => by
    obtain ⟨h1, h2⟩ := List.nodup_cons.mp h
    have mx := sub x (List.mem_cons_self ..)
    have ih := nd_le l (D.erase x) h2 fun y hy => (List.mem_erase_of_ne (fun e => h1 (by rw [← e]; exact hy))).mpr (sub y (List.mem_cons_of_mem _ hy))
    rw [List.length_erase_of_mem mx] at ih
    have := List.length_pos_of_mem mx
    rw [List.length_cons]
    omega
theorem ints_of_valsG : ∀ {ns : List Int} {us : List Value}, Vals (ns.map V.int) us → PyProof.Rows.IntsAre us ns
  | [], _, .nil => .nil
  | _ :: _, _, .cons r t => by
    obtain ⟨k, rfl⟩ := r
    exact .cons _ k (ints_of_valsG t)
def tLenSetT (K : PySem.W.Frag) (ta : TE) : TE := fun σ H Q => ta σ H fun x H1 => ∃ (l : Addr) (ns : List Int), x = .ref l ∧ SqT K H1 l (ns.map V.int) ∧ ns.length ≤ 400 ∧ Q (.int (((uniq ns).length : Nat) : Int)) H1
theorem pe_lenSetT (K : PySem.W.Frag) {X : Cx} (same : X.K = K) {a : Expr} {ta : TE} {p p2 q pos : Pos} (hg : Gl X "len") (hm : X.mg "len" = none) (hg2 : Gl X "set") (hm2 : X.mg "set" = none) (ha : PE X a ta) (hc : X.calm = true := by rfl)
    (na : starEach [a] X.env = (false, eval a X.env) :: starEach [] X.env := by rfl) : PE X (.Call (.Name "len" p) [.Call (.Name "set" p2) [a] [] q] [] pos) (tLenSetT K ta) := by
  subst same
  constructor
  intro pins s σ H Q I h
  refine Call_
    (ld_blt I hg hm boot_len ?_)
  refine PyProof.Rows.callWith_builtin1
    (PyProof.Rows.args_cons ?_ rfl) rfl rfl
  refine Call_
    (ld_blt I hg2 hm2 boot_set ?_)
  refine PyProof.Rows.callWith_type1
    (PyProof.Rows.args_cons (thn (ha.run pins s σ H _ I h) ?_) na) na rfl
  rintro v s1 ⟨x, H1, I1, r1, l, ns, rfl, hq, hl, q1⟩
  refine PyProof.Rows.args_nil ?_
  cases r1
  have ⟨its, r, pl, _⟩ := I1.tuple hq
  refine call_set_tupI ns (I1.ok.hd hc) pl (by simpa using ints_of_valsG r) (by unfold scanBound; omega) fun h' tk c hS hle hk => ?_
  refine PyProof.Rows.args_nil ?_
  obtain ⟨o, es, ep, t, ho, hex, hd, _, nd, mem, _, hf, hn, _⟩ := hS
  have I2 : Inv X pins σ H1 { s1 with heap := h', toks := tk } := I1.kept hk
  have lk : (es.toList.map keyOf).length = es.size := by rw [List.length_map, Array.length_toList]
  have e1 := nd_le _ (uniq ns) nd fun x hx => (mem_uniq ns x).mpr (of_decide_eq_true ((mem x).mpr hx))
  have e2 := nd_le _ (es.toList.map keyOf) (uniq_nodup ns) fun x hx => (mem x).mp (decide_eq_true ((mem_uniq ns x).mp hx))
  have e : es.size = (uniq ns).length := by omega
  have lu := uniq_len ns
  refine call_len_set ho hex hd hf (by rw [e]; omega) ?_
  exact ⟨.int (((uniq ns).length : Nat) : Int), H1, I2.tok _, ⟨_, by rw [e]⟩, q1⟩
section
variable {P : Program} {w : World} {K : PySem.W.Frag} {mg : Str → Option Value} {base : Heap}
theorem flat_len {f : Nat → List BR} (hf : ∀ k, (f k).length ≤ 20) : ∀ m, ((List.range m).flatMap f).length ≤ m * 20
  | 0 => Nat.le_refl _
  | m + 1 => by
    rw [List.range_succ, List.flatMap_append, List.length_append, List.flatMap_singleton]
    have := flat_len hf m
    have := hf m
    omega
theorem joinB1_len {bs : List BR} {t : List Nat} (h : bs.length ≤ 20) (k : Nat) : (joinB1 bs t k).length ≤ 20 := by
  unfold joinB1 comeB
  rw [List.length_map]
  exact Nat.le_trans (List.length_filter_le ..) h
theorem max_kinds {t : List Nat} (c : Canon t) {m : Int} (hm : m ∈ t.map fun n => ((n : Nat) : Int)) (hall : ∀ y ∈ t.map (fun n => ((n : Nat) : Int)), y ≤ m) : m + 1 = (((uniq t).length : Nat) : Int) := by
  obtain ⟨x, hx, rfl⟩ := List.mem_map.mp hm
  have lt := (canon_all c x).mp hx
  have hl : (uniq t).length - 1 ∈ t := (canon_all c _).mpr (by omega)
  have := hall _ (List.mem_map.mpr ⟨_, hl, rfl⟩)
  omega
theorem alk_lt {t : List Nat} {k i : Nat} (h : i ∈ alk t k) : i < t.length := List.mem_range.mp (List.mem_filter.mp h).1
def sp_joined_alike (K : PySem.W.Frag) : Sp := fun vs H Q _ => ∃ (r : Addr) (hs : List HR) (bs : List BR), vs = [.ref r] ∧ RoomAt H r hs bs ∧ RoomOk hs bs ∧
  ∀ (r' : Addr) (t : List Nat) (H' : Hp), KindsOf hs bs t → RoomAt H' r' (joinH hs t) (joinB bs t) → Same H H' → Q (.ref r') H'
theorem ok_joined_alike {f : Addr} {fd : FuncData} (F : Fun K "joined_alike" "joined_alike" s_joined_alike f fd) (T : Top K mg) : FnOk P w K mg base CX0 4 f fd ["room"] (sp_joined_alike K) := by
  obtain ⟨f_kinds, fd_kinds, F_kinds, b_kinds, m_kinds⟩ := T.d_kinds
  have G_kinds := ok_kinds (P := P) (w := w) (base := base) F_kinds T
  obtain ⟨f_comings, fd_comings, F_comings, b_comings, m_comings⟩ := T.d_comings
  have G_comings := ok_comings (P := P) (w := w) (base := base) F_comings T
  refine F.ok sc_joined_alike (fun vs H Q E h => ?_) (fun cdv A outer s H vs Q E hr h => ?_)
  · obtain ⟨r, hs, bs, rfl, _⟩ := h
    rfl
  obtain ⟨r, hs, bs, rfl, hR, ok, q⟩ := h
  have lh := ok.hands
  have lb := ok.many
  refine ⟨_, (pss_cons (ps_set (i := 1) sc_joined_alike.nd rfl (Or.inl rfl) (pe_call G_kinds (hr.mono (by decide)) (by rfl) m_kinds F_kinds.kp b_kinds .nil pass0 (pa_cons (pv 0) pa_nil)))
      (pss_cons (ps_set (i := 2) sc_joined_alike.nd rfl (Or.inl rfl) (pe_lst pa_nil))
      (pss_cons (ps_set (i := 3) sc_joined_alike.nd rfl (Or.inl rfl) (pe_lst pa_nil))
      (pss_cons (ps_for PassesOwn.never rfl (pi_range1 (by rfl) T.m_range (pa_cons (pe_op op_add (pe_callBK (cr_maxDfT K rfl rfl) (by rfl) T.m_max (by decide +kernel) (pa_cons (pv 1) pa_nil) (pk_cons (pe_un un_neg pe_int) pk_nil)) pe_int) pa_nil)) (pg_name (i := 4) sc_joined_alike.nd rfl (Or.inr rfl))
        (pss_cons (ps_setLc (i := 5) (own := [("hand", 6), ("own", 7)]) (g := gTup K 2 (gCons (gName 6) (gCons (gName 7) gNil))) (by rfl) sc_joined_alike.nd rfl rfl (sw_true rfl rfl rfl (by decide +kernel)) (pi_enumT K rfl (by rfl) T.m_enumerate (pa_cons (pv 1) pa_nil)) (blkOk_by (own := [("hand", 6), ("own", 7)]) (N := N_joined_alike) (sc := defScope s_joined_alike) (by decide +kernel)) (fun _ _ _ _ _ => (pg_tupK K rfl rfl (pgs_cons (pg_name (i := 6) sc_joined_alike.nd rfl (Or.inl rfl)) (pgs_cons (pg_name (i := 7) sc_joined_alike.nd rfl (Or.inl rfl)) pgs_nil)))) (fun _ _ _ _ _ => pts_one (pt_cmpR op_eq (pv 7) (pv 4) (nomark _))) (fun _ _ _ _ _ => (pv 6)))
      (pss_cons (ps_expr (pe_bmK K rfl PySem.F.plainAttrs_list PySem.F.slot_list_append PySem.F.type_list_append mt_append (pv 2) (pa_cons (pe_tup (pa_cons (pe_ix (ix_tupK K rfl) (pe_ix (ix_tupK K rfl) (pe_ix (ix_tupK K rfl) (pv 0) pe_int (fun _ _ => rfl)) (pe_ix (ix_listK K rfl) (pv 5) pe_int (fun _ _ => rfl)) (fun _ _ => rfl)) pe_int (fun _ _ => rfl)) (pa_cons (pe_callB (cr_minKK K rfl rfl) (by rfl) T.m_min (by decide +kernel) (pa_cons (pe_lc (own := [("hand", 6)]) (g := gName 6) (tt := tYes) (by rfl) sc_joined_alike.nd (pi_listK K rfl (pv 5)) (blkOk_by (own := [("hand", 6)]) (N := N_joined_alike) (sc := defScope s_joined_alike) (by decide +kernel)) (fun _ _ _ _ _ => (pg_name (i := 6) sc_joined_alike.nd rfl (Or.inl rfl))) (fun _ _ _ _ _ => pts_nil) (fun _ _ _ _ _ => (pe_ix (ix_tupK K rfl) (pe_ix (ix_tupK K rfl) (pe_ix (ix_tupK K rfl) (pv 0) pe_int (fun _ _ => rfl)) (pv 6) (fun _ _ => rfl)) pe_int (fun _ _ => rfl)))) pa_nil)) pa_nil))) pa_nil)))
      (pss_one (ps_for PassesOwn.never rfl (pi_listK K rfl (pe_call G_comings (hr.mono (by decide)) (by rfl) m_comings F_comings.kp b_comings .nil pass0 (pa_cons (pv 0) (pa_cons (pe_ix (ix_listK K rfl) (pv 5) pe_int (fun _ _ => rfl)) pa_nil)))) (pg_name (i := 8) sc_joined_alike.nd rfl (Or.inl rfl))
        (pss_cons (ps_asg (pe_ix (ix_tupK K rfl) (pe_ix (ix_tupK K rfl) (pv 0) pe_int (fun _ _ => rfl)) (pv 8) (fun _ _ => rfl)) (pg_tupK K rfl rfl (pgs_cons (pg_name (i := 9) sc_joined_alike.nd rfl (Or.inl rfl)) (pgs_cons (pg_name (i := 10) sc_joined_alike.nd rfl (Or.inl rfl)) (pgs_cons (pg_name (i := 11) sc_joined_alike.nd rfl (Or.inl rfl)) pgs_nil)))))
      (pss_one (ps_expr (pe_bmK K rfl PySem.F.plainAttrs_list PySem.F.slot_list_append PySem.F.type_list_append mt_append (pv 3) (pa_cons (pe_tup (pa_cons (pe_ix (ix_tupK K rfl) (pv 1) (pv 9) (fun _ _ => rfl)) (pa_cons (pv 4) (pa_cons (pv 11) pa_nil)))) pa_nil))))))))))
      (pss_one (ps_ret (pe_tup (pa_cons (pe_callTy (call_tuple_ofK K rfl) (by rfl) T.m_tuple (by decide +kernel) (pa_cons (pv 2) pa_nil)) (pa_cons (pe_callTy (call_tuple_ofK K rfl) (by rfl) T.m_tuple (by decide +kernel) (pa_cons (pv 3) pa_nil)) pa_nil))))))))), ?_⟩
  refine ⟨_, rfl, r, hs, bs, rfl, hR, ok.good, by omega, fun b hb => (ok.ends b hb).1, by omega, fun p t H1 kd np hp s1 => ?_⟩
  refine ⟨(by show 0 ≤ sizeLine; decide), fun hl nhl => ⟨(by show 0 ≤ sizeLine; decide), fun bl nbl => ?_⟩⟩
  have tl := kd.len
  let Lv : Nat → L2.St → Hp → Prop := fun k σ H5 => ∃ (hv bv : List V) (x4 x5 x6 x7 x8 x9 x10 x11 : Option V), σ = [some (.ref r), some (.ref p), some (.ref hl), some (.ref bl), x4, x5, x6, x7, x8, x9, x10, x11] ∧ H5 hl = some (.lst hv) ∧ H5 bl = some (.lst bv) ∧ All2 (HandAt H5) hv ((List.range k).map (joinH1 hs t)) ∧ All2 (BeltAt H5) bv ((List.range k).flatMap (joinB1 bs t)) ∧ H5 p = some (.tup (t.map nV)) ∧ Same H H5
  have n1 : hl ≠ bl := fun e => by rw [e] at nbl; rw [upd_same] at nbl; cases nbl
  have s3 : Same H (upd (upd H1 hl (.lst [])) bl (.lst [])) := fun a o e => same_new nbl _ _ (same_new nhl _ _ (s1 _ _ e))
  have hp3 := same_new (o := .lst ([] : List V)) nbl _ _ (same_new (o := .lst ([] : List V)) nhl _ _ hp)
  refine ⟨_, rfl, 1, rfl, p, t.map (fun n => ((n : Nat) : Int)), .int (-(1 : Int)), rfl, rfl, SqT.of (by rw [List.map_map]; exact hp3), fun v hv => ?_⟩
  obtain ⟨m, rfl, me⟩ : ∃ m : Int, v = .int m ∧ m + 1 = (((uniq t).length : Nat) : Int) := by
    rcases hv with ⟨z, rfl⟩ | ⟨m, hm, rfl, hall⟩
    · have : t = [] := List.map_eq_nil_iff.mp z
      exact ⟨_, rfl, by rw [this]; rfl⟩
    · exact ⟨m, rfl, max_kinds kd.canon hm hall⟩
  have ul := uniq_len t
  have nat_at : ∀ {j : Nat}, j < t.length → (t.map nV)[j]? = some (nV (Mine.kd t j)) := fun {j} h => by
    rw [List.getElem?_map, at_kd h]; rfl
  refine ⟨_, _, rfl, rfl, _, congrArg (fun z => [V.int z]) me, by omega, by omega, for_range (lo := 0) (n := (uniq t).length) Lv ⟨[], [], _, _, _, _, _, _, _, _, rfl, by rw [upd_ne n1]; exact upd_same, upd_same, .nil, .nil, hp3, s3⟩ ?_ ?_⟩
  · rintro k σ H5 hk ⟨hv, bv, x4, x5, x6, x7, x8, x9, x10, x11, rfl, hH, hB, alh, alb, hp5, s5⟩
    obtain ⟨rp1, rp2, rp3, rr, rp4⟩ := rep_of ((canon_all kd.canon k).mpr hk)
    obtain ⟨ha, ba, hv0, bv0, er, eh, eb, alh0, alb0⟩ := hR.ex
    rw [Int.zero_add]
    have nH : ∀ {D : Addr}, H5 D = none → D ≠ hl ∧ D ≠ bl ∧ D ≠ p := fun {D} z => ⟨fun e => (by rw [e, hH] at z; cases z), fun e => (by rw [e, hB] at z; cases z), fun e => (by rw [e, hp5] at z; cases z)⟩
    refine ⟨_, rfl, p, t.map nV, rfl, SqT.of hp5, fun D nD => lc_it (J := IteT K p (t.map nV)) (n := (t.map nV).length) (fun i H6 => H6 D = some (.lst (((List.range i).filter fun j => decide (t[j]? = some k)).map nV)) ∧ Same H5 H6) ⟨upd_same, same_new nD⟩ ?_ ?_ ?_ ?_⟩
    · rintro i H6 hi ⟨hD, s6⟩
      exact ⟨SqT.of (s6 _ _ hp5), hi⟩
    · rintro H6 ⟨hD, s6⟩
      exact ⟨SqT.of (s6 _ _ hp5), rfl⟩
    · rintro i x H6 H7 hi ⟨hD, s6⟩ ⟨u, y, rfl, nu, rfl, ey⟩
      have il : i < t.length := by rw [List.length_map] at hi; exact hi
      rw [nat_at il] at ey
      obtain rfl := Option.some.inj ey
      have s7 := s6.trans (same_new (o := .tup [V.int ((i : Nat) : Int), nV (Mine.kd t i)]) nu)
      have hD7 := same_new (o := .tup [V.int ((i : Nat) : Int), nV (Mine.kd t i)]) nu _ _ hD
      have few := filt_len (p := fun j => decide (t[j]? = some k)) i
      refine ⟨u, _, rfl, SqT.of upd_same, rfl, _, _, rfl, _, _, rfl, rfl, rfl, _, rfl, _, rfl, rfl, _, rfl, if_bl (fun c => ?_) (fun c => ?_)⟩
      · have c : Mine.kd t i = k := by have := V.int.inj (of_decide_eq_true c); omega
        refine ⟨_, rfl, _, hD7, by rw [List.length_map]; exact small1000 (by omega), ?_, Same.own s7 nD⟩
        rw [upd_same, filt_succ, if_pos (decide_eq_true (by rw [at_kd il, c])), List.map_append]
        rfl
      · have c : ¬ Mine.kd t i = k := fun z => of_decide_eq_false c (by rw [z])
        refine ⟨?_, s7⟩
        rw [filt_succ, if_neg fun z => c (by have := of_decide_eq_true z; rw [at_kd il] at this; exact Option.some.inj this), List.append_nil]
        exact hD7
    rintro H6 ⟨hD, s6⟩
    rw [List.length_map] at hD
    replace hD : H6 D = some (.lst ((alk t k).map nV)) := hD
    obtain ⟨gv, egv, t2, rr2, rfl, e1, e2⟩ := alh0.get (List.getElem?_eq_getElem (l := hs) (i := rep t k) (by omega))
    have s06 : Same H H6 := s5.trans s6
    have al0 : atI ((alk t k).map nV) 0 = some (nV (rep t k)) := by rw [rp4]; exact atI_nat (j := 0) rfl
    have hH6 := s6 _ _ hH
    refine ⟨_, rfl, .inl ⟨rfl, _, SqL.of hH6⟩, _, rfl, r, _, _, _, rfl, rfl, SqT.of (s06 _ _ er), atI_nat (j := 0) rfl, _, rfl, D, _, _, _, rfl, rfl, SqL.of hD, al0, ha, _, _, _, rfl, rfl, SqT.of (s06 _ _ eh), atI_nat egv, t2, _, _, _, rfl, rfl, SqT.of (s06 _ _ e1), atI_nat (j := 0) rfl, ?_⟩
    refine ⟨_, rfl, D, rfl, ⟨_, SqL.of hD⟩, fun E nE => lc_list (K := K) (a := D) (xs := (alk t k).map nV) (fun i H7 => H7 E = some (.lst (((alk t k).take i).map fun j => V.int (gH hs j).mom)) ∧ Same H6 H7) ⟨upd_same, same_new nE⟩ (fun i H7 _ ⟨_, s7⟩ => SqL.of (s7 _ _ hD)) ?_ ?_⟩
    · rintro i v H7 hx ⟨hE, s7⟩
      rw [List.getElem?_map] at hx
      cases hj : (alk t k)[i]? with
      | none => rw [hj] at hx; cases hx
      | some j =>
        rw [hj] at hx
        obtain rfl : nV j = v := Option.some.inj hx
        have jl := alk_lt (List.mem_of_getElem? hj)
        have ej := List.getElem?_eq_getElem (l := hs) (i := j) (by omega)
        obtain ⟨gv3, egv3, t3, rr3, rfl, e3, e4⟩ := alh0.get ej
        have s07 : Same H H7 := s06.trans s7
        have il := (List.getElem?_eq_some_iff.mp hj).1
        have al2 : (alk t k).length ≤ t.length := Nat.le_trans (List.length_filter_le ..) (by rw [List.length_range]; exact Nat.le_refl _)
        refine ⟨rfl, yes_in ⟨_, rfl, r, _, _, _, rfl, rfl, SqT.of (s07 _ _ er), atI_nat (j := 0) rfl, _, rfl, ha, _, _, _, rfl, rfl, SqT.of (s07 _ _ eh), atI_nat egv3, t3, _, _, _, rfl, rfl, SqT.of (s07 _ _ e3), atI_nat (j := 1) rfl, _, hE, by rw [List.length_map, List.length_take]; exact small1000 (by omega), ?_, Same.own s7 nE⟩⟩
        rw [upd_same, List.take_add_one, hj, List.map_append, ← gH_at ej]
        rfl
    rintro H7 ⟨hE, s7⟩
    rw [List.length_map, List.take_length] at hE
    have s07 : Same H H7 := s06.trans s7
    have s57 : Same H5 H7 := s6.trans s7
    refine ⟨E, (alk t k).map fun j => (gH hs j).mom, rfl, SqL.of (by rw [List.map_map]; exact hE), by rw [List.length_map, rp4]; exact Nat.succ_pos _, fun m hm hall => ?_⟩
    obtain rfl : m = (joinH1 hs t k).mom := Int.le_antisymm (hall _ (minL_mem (List.ne_nil_of_mem hm))) (minL_le _ hm)
    have hHn := same_none s1 nhl
    have nbl1 : H1 bl = none := by rw [← nbl, upd_ne (fun e => by rw [e] at nbl; rw [upd_same] at nbl; cases nbl)]
    have hBn := same_none s1 nbl1
    refine ⟨(by show 2 ≤ sizeLine; decide), fun q1 nq1 => ?_⟩
    have s8 := same_new (o := .tup [V.ref rr2, V.int (joinH1 hs t k).mom]) nq1
    have hH7 := s57 _ _ hH
    have hH8 := s8 _ _ hH7
    have lhv := alh.length
    rw [List.length_map, List.length_range] at lhv
    have k8 : TK H5 (upd (upd H7 q1 (.tup [V.ref rr2, V.int (joinH1 hs t k).mom])) hl (.lst (hv ++ [V.ref q1]))) := ((TK.same s57).trans (TK.same s8)).trans (TK.lst hH8)
    have s09 : Same H (upd (upd H7 q1 (.tup [V.ref rr2, V.int (joinH1 hs t k).mom])) hl (.lst (hv ++ [V.ref q1]))) := Same.own (fun a o e => s8 _ _ (s07 _ _ e)) hHn
    have nD5 := nH (same_none (same_new (o := .lst ([] : List V)) nD |> fun _ => (fun _ _ e => e : Same H5 H5)) nD)
    have hD7 : H7 D = some (.lst ((alk t k).map nV)) := s7 _ _ hD
    have hD9 : upd (upd H7 q1 (.tup [V.ref rr2, V.int (joinH1 hs t k).mom])) hl (.lst (hv ++ [V.ref q1])) D = some (.lst ((alk t k).map nV)) := by rw [upd_ne nD5.1]; exact s8 _ _ hD7
    have hB9 : upd (upd H7 q1 (.tup [V.ref rr2, V.int (joinH1 hs t k).mom])) hl (.lst (hv ++ [V.ref q1])) bl = some (.lst bv) := by rw [upd_ne (Ne.symm n1)]; exact s8 _ _ (s57 _ _ hB)
    have hH9 : upd (upd H7 q1 (.tup [V.ref rr2, V.int (joinH1 hs t k).mom])) hl (.lst (hv ++ [V.ref q1])) hl = some (.lst (hv ++ [V.ref q1])) := upd_same
    have hp9 := k8 _ _ hp5
    have alh9 : All2 (HandAt (upd (upd H7 q1 (.tup [V.ref rr2, V.int (joinH1 hs t k).mom])) hl (.lst (hv ++ [V.ref q1])))) (hv ++ [V.ref q1]) ((List.range (k + 1)).map (joinH1 hs t)) := by
      rw [List.range_succ, List.map_append]
      refine (alh.imp fun _ _ z => z.keep k8).snoc ⟨q1, rr2, rfl, TK.lst hH8 _ _ upd_same, ?_⟩
      have := s09 _ _ e2
      rw [this]
      unfold ruleL joinH1
      rw [gH_at (List.getElem?_eq_getElem (l := hs) (i := rep t k) (by omega))]
    have alb9 := alb.imp fun _ _ z => z.keep k8
    refine ⟨hl, hv, _, rfl, rfl, hH8, small1000 (by omega), ?_⟩
    generalize upd (upd H7 q1 (.tup [V.ref rr2, V.int (joinH1 hs t k).mom])) hl (.lst (hv ++ [V.ref q1])) = H9 at *
    refine ⟨_, rfl, _, rfl, D, _, _, _, rfl, rfl, SqL.of hD9, al0, r, hs, bs, rep t k, rfl, hR.keep (TK.same s09), by omega, fun c Hc nc hc sc => ⟨c, rfl, ⟨_, SqL.of hc⟩, for_list (K := K) (a := c) (xs := (comingN bs (rep t k)).map nV) (fun i σ H10 => ∃ (bv2 : List V) (y8 y9 y10 y11 : Option V), σ = [some (.ref r), some (.ref p), some (.ref hl), some (.ref bl), some (nV k), some (.ref D), x6, x7, y8, y9, y10, y11] ∧ H10 hl = some (.lst (hv ++ [V.ref q1])) ∧ H10 bl = some (.lst bv2) ∧ All2 (HandAt H10) (hv ++ [V.ref q1]) ((List.range (k + 1)).map (joinH1 hs t)) ∧ All2 (BeltAt H10) bv2 ((List.range k).flatMap (joinB1 bs t) ++ (joinB1 bs t k).take i) ∧ H10 p = some (.tup (t.map nV)) ∧ H10 c = some (.lst ((comingN bs (rep t k)).map nV)) ∧ Same H H10)
      ⟨bv, _, _, _, _, rfl, sc _ _ hH9, sc _ _ hB9, alh9.imp fun _ _ z => z.keep (TK.same sc), by rw [List.take_zero, List.append_nil]; exact alb9.imp fun _ _ z => z.keep (TK.same sc), sc _ _ hp9, hc, s09.trans sc⟩ (fun i σ H10 _ ⟨_, _, _, _, _, _, _, _, _, _, _, h, _⟩ => SqL.of h) ?_ ?_⟩⟩
    · rintro i v σ H10 hx ⟨bv2, y8, y9, y10, y11, rfl, hH10, hB10, alh10, alb10, hp10, hc10, s10⟩
      have cl := come_list bs (rep t k)
      rw [List.getElem?_map] at hx
      cases hj : (comingN bs (rep t k))[i]? with
      | none => rw [hj] at hx; cases hx
      | some j =>
        rw [hj] at hx
        obtain rfl : nV j = v := Option.some.inj hx
        obtain ⟨b, eb1, eb2⟩ := cl.getL hj
        obtain ⟨bvx, ebx, tb, g, rfl, e5, e6⟩ := alb0.get eb2
        have bl_ := (ok.ends b (List.mem_of_getElem? eb2)).1
        have lbv := alb10.length
        rw [List.length_append, List.length_take] at lbv
        have fl := flat_len (fun k => joinB1_len (t := t) lb k) k
        have jl := joinB1_len (t := t) lb k
        refine ⟨_, rfl, r, _, _, _, rfl, rfl, SqT.of (s10 _ _ er), atI_nat (j := 1) rfl, _, rfl, ba, _, _, _, rfl, rfl, SqT.of (s10 _ _ eb), atI_nat ebx, tb, _, rfl, SqT.of (s10 _ _ e5), rfl, _, _, rfl, _, _, rfl, _, _, rfl, rfl, _, rfl, .inl ⟨rfl, _, SqL.of hB10⟩, _, rfl, _, rfl, p, _, _, _, rfl, rfl, SqT.of hp10, atI_nat (nat_at (by omega)), _, rfl, _, rfl, (by show 3 ≤ sizeLine; decide), fun q2 nq2 => ?_⟩
        have s11 := same_new (o := .tup [nV (Mine.kd t b.one), nV k, V.ref g]) nq2
        have hB11 := s11 _ _ hB10
        have k11 : TK H10 _ := (TK.same s11).trans (TK.lst (ys := bv2 ++ [V.ref q2]) hB11)
        refine ⟨bl, bv2, _, rfl, rfl, hB11, small1000 (by omega), bv2 ++ [V.ref q2], _, _, _, _, rfl, by rw [upd_ne n1]; exact s11 _ _ hH10, upd_same, alh10.imp fun _ _ z => z.keep k11, ?_, k11 _ _ hp10, ?_, Same.own (fun a o e => s11 _ _ (s10 _ _ e)) hBn⟩
        · rw [show (joinB1 bs t k).take (i + 1) = (joinB1 bs t k).take i ++ [⟨Mine.kd t b.one, k, b.th⟩] by
            rw [List.take_add_one]
            unfold joinB1
            rw [List.getElem?_map, eb1]
            rfl, ← List.append_assoc]
          exact (alb10.imp fun _ _ z => z.keep k11).snoc ⟨q2, g, rfl, TK.lst hB11 _ _ upd_same, k11 _ _ (s10 _ _ e6)⟩
        · rw [upd_ne (fun e => by rw [e, hB9] at nc; cases nc)]
          exact s11 _ _ hc10
    · rintro σ H10 ⟨bv2, y8, y9, y10, y11, rfl, hH10, hB10, alh10, alb10, hp10, hc10, s10⟩
      refine ⟨_, _, _, _, _, _, _, _, _, _, rfl, hH10, hB10, alh10, ?_, hp10, s10⟩
      rw [List.length_map, (come_list bs (rep t k)).length] at alb10
      rw [show (joinB1 bs t k).take (comeB bs (rep t k)).length = joinB1 bs t k from List.take_of_length_le (by unfold joinB1; rw [List.length_map]; exact Nat.le_refl _)] at alb10
      rw [List.range_succ, List.flatMap_append, List.flatMap_singleton]
      exact alb10
  · rintro σ H5 ⟨hv, bv, x4, x5, x6, x7, x8, x9, x10, x11, rfl, hH, hB, alh, alb, hp5, s5⟩
    refine ⟨_, rfl, hl, hv, rfl, .inl ⟨SqL.of hH, fun h1 nh1 => ?_⟩⟩
    have s6 := same_new (o := .tup hv) nh1
    refine ⟨_, rfl, bl, bv, rfl, .inl ⟨SqL.of (s6 _ _ hB), fun h2 nh2 => ?_⟩⟩
    have s7 := s6.trans (same_new (o := .tup bv) nh2)
    refine ⟨(by show 2 ≤ sizeLine; decide), fun r' nr' => ?_⟩
    have s8 := same_new (o := .tup [V.ref h1, V.ref h2]) nr'
    have k8 := (TK.same s7).trans (TK.same s8)
    exact q r' t _ kd ⟨h1, h2, hv, bv, upd_same, s8 _ _ (same_new (o := .tup bv) nh2 _ _ upd_same), s8 _ _ upd_same, alh.imp fun _ _ z => z.keep k8, alb.imp fun _ _ z => z.keep k8⟩ fun a o e => s8 _ _ (s7 _ _ (s5 _ _ e))
end
theorem or_zip {K : PySem.W.Frag} {ta : TA} {σ : L2.St} {H : Hp} {R : It → Hp → Prop} {p q : Addr} {xs ys : List V} (ht : ∀ Q : List V → Hp → Prop, Q [.ref p, .ref q] H → ta σ H Q) (h : (H p = some (.lst xs) ∧ H q = some (.lst ys)) ∨ (H p = some (.tup xs) ∧ H q = some (.tup ys))) (hl : xs.length = ys.length)
    (k : ∀ J : It, (∀ i H', (H' p = H p ∧ H' q = H q) → i < xs.length → J.go i H') → (∀ H', (H' p = H p ∧ H' q = H q) → J.stop xs.length H') → (∀ i H' v H'', (H' p = H p ∧ H' q = H q) → J.yld i H' v H'' → ∃ T x y, v = .ref T ∧ H' T = none ∧ H'' = upd H' T (.tup [x, y]) ∧ xs[i]? = some x ∧ ys[i]? = some y) → R J H) :
    RZ.iZipA K ta σ H R := by
  rcases h with ⟨e1, e2⟩ | ⟨e1, e2⟩
  · refine ht _ ⟨p, q, xs, ys, rfl, .inl ⟨SqL.of e1, SqL.of e2, k _ (fun i H' st hi => ?_) (fun H' st => ?_) fun i H' v H'' st y => ?_⟩⟩
    · exact ⟨xs, ys, _, _, SqL.of (st.1.trans e1), SqL.of (st.2.trans e2), List.getElem?_eq_getElem hi, List.getElem?_eq_getElem (by omega)⟩
    · exact ⟨xs, ys, SqL.of (st.1.trans e1), SqL.of (st.2.trans e2), .inl (Nat.le_refl _)⟩
    · obtain ⟨T, x, z, q1, q2, q3, q4, q5⟩ := y
      exact ⟨T, x, z, q1, q2, q3, q4 _ (SqL.of (st.1.trans e1)), q5 _ (SqL.of (st.2.trans e2))⟩
  · refine ht _ ⟨p, q, xs, ys, rfl, .inr ⟨SqT.of e1, SqT.of e2, k _ (fun i H' st hi => ?_) (fun H' st => ?_) fun i H' v H'' st y => ?_⟩⟩
    · exact ⟨xs, ys, _, _, SqT.of (st.1.trans e1), SqT.of (st.2.trans e2), List.getElem?_eq_getElem hi, List.getElem?_eq_getElem (by omega)⟩
    · exact ⟨xs, ys, SqT.of (st.1.trans e1), SqT.of (st.2.trans e2), .inl (Nat.le_refl _)⟩
    · obtain ⟨T, x, z, q1, q2, q3, q4, q5⟩ := y
      exact ⟨T, x, z, q1, q2, q3, q4 _ (SqT.of (st.1.trans e1)), q5 _ (SqT.of (st.2.trans e2))⟩
theorem RowsAt.ext {H H' : Hp} {a : Addr} {rows : List (List Int)} (h : RowsAt H a rows) (s : LamX.ExtN H H') : RowsAt H' a rows := by
  obtain ⟨rv, e, al⟩ := h
  exact ⟨rv, e.imp (ExtN.lst s) (ExtN.tk s _ _), al.imp fun _ _ z => z.keep (ExtN.tk s)⟩
theorem uniq_ints (t : List Nat) : (uniq (t.map fun n => ((n : Nat) : Int))).length = (uniq t).length := by
  rw [uniq_map (f := fun n : Nat => (n : Int)) t (fun x _ y _ e => Int.ofNat.inj e), List.length_map]
section
variable {P : Program} {w : World} {K : PySem.W.Frag} {mg : Str → Option Value} {base : Heap}
variable {cT PT : Addr} [TLI : TabL K mg base cT PT]
include TLI
omit TLI in
theorem joined_time {hs : List HR} {bs : List BR} {t : List Nat} (ok : RoomOk hs bs) (kd : KindsOf hs bs t) {u v : Int} (a : timeR (joinH hs t) (joinB bs t) u) (b : timeR hs bs v) : u ≤ v := by
  have ln : (joinH hs t).length = (uniq t).length := by unfold joinH; rw [List.length_map, List.length_range]
  rcases b with ⟨e0, rfl⟩ | ⟨e, he, rfl, ge⟩
  · have t0 : t = [] := List.eq_nil_of_length_eq_zero (by rw [kd.len, e0]; rfl)
    rcases a with ⟨_, rfl⟩ | ⟨e, he, _⟩
    · exact Int.le_refl _
    · rw [ln, t0] at he
      exact absurd he (Nat.not_lt_zero _)
  · rcases a with ⟨e0, rfl⟩ | ⟨x, hx, rfl, _⟩
    · have h0 : (uniq t).length = 0 := by rw [← ln, e0]; rfl
      have := kd_lt kd he
      omega
    · rw [ln] at hx
      obtain ⟨r1, r2⟩ := rep_lt kd hx
      have := join_time ok kd _ r1
      rw [r2] at this
      exact Int.le_trans this (ge _ r1)
def sp_law_same (K : PySem.W.Frag) (PT : Addr) : Sp := fun vs H Q _ => ∃ (r a : Addr) (hs : List HR) (bs : List BR) (rows : List (List Int)), vs = [.ref r, .ref a] ∧ RoomAt H r hs bs ∧ RoomOk hs bs ∧ RowsAt H a rows ∧ (∀ x ∈ rows, x.length = (doorsOf "in" hs).length) ∧ rows.length ≤ 100 ∧ LamX.Tabs (TL PT) H ∧
  ∀ H', LamX.ExtN H H' → LamX.Tabs (TL PT) H' → Q (.bl true) H'
theorem ok_law_same {f : Addr} {fd : FuncData} (F : Fun K "_law_same" "_law_same" s_law_same f fd) (T : Top K mg) : FnOk P w K mg base CX0 6 f fd ["_law_room_here", "_law_rows_here"] (sp_law_same K PT) := by
  obtain ⟨f_kinds, fd_kinds, F_kinds, b_kinds, m_kinds⟩ := T.d_kinds
  have G_kinds := ok_kinds (P := P) (w := w) (base := base) F_kinds T
  obtain ⟨f_joined_alike, fd_joined_alike, F_joined_alike, b_joined_alike, m_joined_alike⟩ := T.d_joined_alike
  have G_joined_alike := ok_joined_alike (P := P) (w := w) (base := base) F_joined_alike T
  obtain ⟨f_worked, fd_worked, F_worked, b_worked, m_worked⟩ := T.d_worked
  have G_worked := ok_worked (P := P) (w := w) (base := base) F_worked T
  obtain ⟨f_time_of, fd_time_of, F_time_of, b_time_of, m_time_of⟩ := T.d_time_of
  have G_time_of := ok_time_of (P := P) (w := w) (base := base) F_time_of T
  obtain ⟨f_run, fd_run, F_run, b_run, m_run⟩ := T.d_run
  have G_run := ok_run (P := P) (w := w) (base := base) F_run T
  refine F.ok sc_law_same (fun vs H Q E h => ?_) (fun cdv A outer s H vs Q E hr h => ?_)
  · obtain ⟨r, a, hs, bs, rows, rfl, _⟩ := h
    rfl
  obtain ⟨r, a, hs, bs, rows, rfl, hR, ok, hA, fit, l100, tabs, q⟩ := h
  have lh := ok.hands
  have lb := ok.many
  have ends : ∀ b ∈ bs, b.one < hs.length := fun b hb => (ok.ends b hb).1
  let R1 : TS := fun D' σ' H' => D'.rt = Q ∧ ∃ (p r1 d d2 : Addr) (t1 : List Nat) (ms2 : List (List Int)) (ov ov2 : List V), σ' = [some (.ref r), some (.ref a), some (.ref p), some (.ref r1), some (.ref d), some (.ref d2), none, none, none] ∧ KindsOf hs bs t1 ∧ LamX.ExtN H H' ∧ LamX.Tabs (TL PT) H' ∧ RoomAt H' r1 (joinH hs t1) (joinB bs t1) ∧ H' p = some (.tup (t1.map nV)) ∧ H' d = some (.lst ov) ∧ H' d2 = some (.lst ov2) ∧ All2 (RowAt H') ov (ms2.map (lift t1)) ∧ All2 (RowAt H') ov2 ms2 ∧ WS (joinH hs t1) (joinB bs t1) rows ms2
  refine ⟨_, (pss_cons (ps_set (i := 2) sc_law_same.nd rfl (Or.inl rfl) (pe_call G_kinds (hr.mono (by decide)) (by rfl) m_kinds F_kinds.kp b_kinds .nil pass0 (pa_cons (pv 0) pa_nil)))
      (pss_cons (ps_set (i := 3) sc_law_same.nd rfl (Or.inl rfl) (pe_call G_joined_alike (hr.mono (by decide)) (by rfl) m_joined_alike F_joined_alike.kp b_joined_alike .nil pass0 (pa_cons (pv 0) pa_nil)))
      (pss_cons (ps_par (i := 4) (j := 5) rfl sc_law_same.nd rfl rfl (by decide) rfl rfl (pa_cons (pe_call G_worked (hr.mono (by decide)) (by rfl) m_worked F_worked.kp b_worked .nil pass0 (pa_cons (pv 0) (pa_cons (pv 1) pa_nil))) (pa_cons (pe_call G_worked (hr.mono (by decide)) (by rfl) m_worked F_worked.kp b_worked .nil pass0 (pa_cons (pv 3) (pa_cons (pv 1) pa_nil))) pa_nil)) (by rfl))
      (pss_cons (ps_if (PW.pt (pw_or (pt_cmpR op_ne (pe_callB (call_len_seqK K rfl) (by rfl) T.m_len (by decide +kernel) (pa_cons (pe_ix (ix_tupK K rfl) (pv 3) pe_int (fun _ _ => rfl)) pa_nil)) (pe_lenSetT K rfl (by rfl) T.m_len (by rfl) T.m_set (pv 2)) (nomark _)) (pw_or1 (pt_cmpR op_gt (pe_call G_time_of (hr.mono (by decide)) (by rfl) m_time_of F_time_of.kp b_time_of .nil pass0 (pa_cons (pv 3) pa_nil)) (pe_call G_time_of (hr.mono (by decide)) (by rfl) m_time_of F_time_of.kp b_time_of .nil pass0 (pa_cons (pv 0) pa_nil)) (nomark _))))) (pss_one (ps_ret pe_bl)) pss_nil)
      (PSs.to (pss_cons (ps_for PassesOwn.never rfl (pi_zipAK K rfl (by rfl) T.m_zip (pa_cons (pv 4) (pa_cons (pv 5) pa_nil))) (pg_tupK K rfl rfl (pgs_cons (pg_name (i := 6) sc_law_same.nd rfl (Or.inl rfl)) (pgs_cons (pg_name (i := 7) sc_law_same.nd rfl (Or.inr rfl)) pgs_nil)))
        (pss_one (ps_if (pt_cmpR (op_neDK K rfl hr.units) (pv 6) (pe_callTy (call_tuple_ofK K rfl) (by rfl) T.m_tuple (by decide +kernel) (pa_cons (pe_lc (own := [("_law_number", 8)]) (g := gName 8) (tt := tYes) (by rfl) sc_law_same.nd (pi_tupK K rfl (pv 2)) (blkOk_by (own := [("_law_number", 8)]) (N := N_law_same) (sc := defScope s_law_same) (by decide +kernel)) (fun _ _ _ _ _ => (pg_name (i := 8) sc_law_same.nd rfl (Or.inl rfl))) (fun _ _ _ _ _ => pts_nil) (fun _ _ _ _ _ => (pe_ix (ix_tupK K rfl) (pv 7) (pv 8) (fun _ _ => rfl)))) pa_nil)) (nomark _)) (pss_one (ps_ret pe_bl)) pss_nil)))
      (pss_one (ps_ret (pe_and (pe_cmpR (op_eqDK K rfl hr.units) (pe_call G_run (hr.mono (by decide)) (by rfl) m_run F_run.kp b_run .nil pass0 (pa_cons (pv 0) (pa_cons (pv 1) pa_nil))) (pe_call G_run (hr.mono (by decide)) (by rfl) m_run F_run.kp b_run .nil pass0 (pa_cons (pv 3) (pa_cons (pv 1) pa_nil))) (nomark _)) (pe_one (pe_cmpR op_eq (pe_callB (call_len_seqK K rfl) (by rfl) T.m_len (by decide +kernel) (pa_cons (pv 4) pa_nil)) (pe_callB (call_len_seqK K rfl) (by rfl) T.m_len (by decide +kernel) (pa_cons (pv 5) pa_nil)) (nomark _))))))) R1 ?tail1))))), ?_⟩
  case tail1 =>
    rintro D' σ' H6 ⟨eD, p, r1, d, d2, t1, ms2, ov, ov2, rfl, kd, ext06, tabs6, hR16, hp6, hd6, hd26, al6, al26, W2⟩
    have ok1 := join_room ok kd
    have JN := join_ok kd ends
    have fit1 : ∀ x ∈ rows, x.length = (doorsOf "in" (joinH hs t1)).length := fun x hx => by rw [fit x hx, JN.doors "in" (.inl rfl), List.length_map]
    have lh1 : (joinH hs t1).length = (uniq t1).length := by unfold joinH; rw [List.length_map, List.length_range]
    have lov := al6.length
    have lov2 := al26.length
    rw [List.length_map] at lov
    have eq : True := trivial
    unfold tSeq tFor
    refine or_zip (p := d) (q := d2) (xs := ov) (ys := ov2) (fun Q q => ⟨_, rfl, _, rfl, q⟩) (.inl ⟨hd6, hd26⟩) (by omega) (fun J gj sj yj => for_it (J := J) (n := ov.length) (fun i σ H7 => ∃ y6 y7 y8 : Option V, σ = [some (.ref r), some (.ref a), some (.ref p), some (.ref r1), some (.ref d), some (.ref d2), y6, y7, y8] ∧ Same H6 H7) ⟨_, _, _, rfl, fun _ _ e => e⟩ (fun i σ H7 hi ⟨_, _, _, _, s7⟩ => gj i H7 ⟨(s7 _ _ hd6).trans hd6.symm, (s7 _ _ hd26).trans hd26.symm⟩ hi) (fun σ H7 ⟨_, _, _, _, s7⟩ => sj H7 ⟨(s7 _ _ hd6).trans hd6.symm, (s7 _ _ hd26).trans hd26.symm⟩) ?_ ?_)
    · rintro i x σ H7 H8 hi ⟨y6, y7, y8, rfl, s7⟩ y
      obtain ⟨u, x1, x2, rfl, nu, rfl, ex1, ex2⟩ := yj i H7 x H8 ⟨(s7 _ _ hd6).trans hd6.symm, (s7 _ _ hd26).trans hd26.symm⟩ y
      obtain ⟨m1, em1, w1, rfl, ew1⟩ := al6.getL ex1
      obtain ⟨m2, em2, w2, rfl, ew2⟩ := al26.getL ex2
      have s8 := s7.trans (same_new (o := .tup [V.ref w1, V.ref w2]) nu)
      obtain rfl : m1 = lift t1 m2 := by
        rw [List.getElem?_map, em2] at em1
        exact (Option.some.inj em1).symm
      have lm2 : m2.length = (uniq t1).length := by rw [W2.row m2 (List.mem_of_getElem? em2), lh1]
      have lift_get : ∀ {j : Nat}, j < m2.length → (m2.map V.int)[j]? = some (V.int (gD m2 j)) := fun {j} h => by
        rw [List.getElem?_map, List.getElem?_eq_getElem h]
        show _ = some (V.int (m2.getD j 0))
        rw [List.getD_eq_getElem?_getD, List.getElem?_eq_getElem h]; rfl
      refine ⟨u, _, rfl, SqT.of upd_same, rfl, _, _, rfl, _, _, rfl, rfl, ?_⟩
      refine ⟨_, rfl, _, rfl, p, rfl, ⟨_, SqT.of (s8 _ _ hp6)⟩, fun D nD => lc_tup (K := K) (a := p) (xs := t1.map nV) (fun j H9 => H9 D = some (.lst (((t1.take j).map fun k => gD m2 k).map V.int)) ∧ Same (upd H7 u (.tup [V.ref w1, V.ref w2])) H9) ⟨upd_same, same_new nD⟩ (fun j H9 _ ⟨_, s9⟩ => SqT.of (s9 _ _ (s8 _ _ hp6))) ?_ ?_⟩
      · rintro j x H9 hx ⟨hD, s9⟩
        rw [List.getElem?_map] at hx
        cases hj : t1[j]? with
        | none => rw [hj] at hx; cases hx
        | some k =>
          rw [hj] at hx
          obtain rfl : nV k = x := Option.some.inj hx
          have jl := (List.getElem?_eq_some_iff.mp hj).1
          have kl : k < m2.length := by rw [lm2]; exact (canon_all kd.canon k).mp (List.mem_of_getElem? hj)
          have hw := s9 _ _ (s8 _ _ ew2)
          refine ⟨rfl, yes_in ⟨_, rfl, _, rfl, w2, _, _, _, rfl, rfl, SqT.of hw, atI_nat (lift_get kl), _, hD, ?_, ?_, Same.own s9 nD⟩⟩
          · rw [List.length_map, List.length_map, List.length_take]
            have := kd.len
            exact small1000 (by omega)
          · rw [upd_same, List.take_add_one, hj, List.map_append, List.map_append]
            rfl
      · rintro H9 ⟨hD, s9⟩
        rw [List.length_map, List.take_length] at hD
        replace hD : H9 D = some (.lst ((lift t1 m2).map V.int)) := hD
        have h9 := s8.trans s9
        refine ⟨D, _, rfl, .inl ⟨SqL.of hD, fun p3 np3 => ?_⟩⟩
        have s10 := same_new (o := .tup ((lift t1 m2).map V.int)) np3
        have sh : SeqAt.shaped (rowD (lift t1 m2)) = true := by
          unfold SeqAt.shaped
          rw [Bool.and_eq_true]
          refine ⟨by simp only [PyData.canLay0, lay_ints], decide_eq_true ?_⟩
          simp only [PyData.depth]
          have := dep_ints (lift t1 m2)
          omega
        have lay : PyData.canLay0 (rowD (lift t1 m2)) = true := by simp only [PyData.canLay0, lay_ints]
        refine ⟨rowD (lift t1 m2), rowD (lift t1 m2), .tup (SqT.of (s10 _ _ (h9 _ _ ew1))) (dp_ints _), .tup (SqT.of upd_same) (dp_ints _), sh, sh, _, rfl, ?_⟩
        rw [PySem.SeqAt.eqv_refl _ lay]
        exact if_bl (fun z => nomatch z) (fun _ => ⟨_, _, _, rfl, h9.trans s10⟩)
    · rintro σ H7 ⟨y6, y7, y8, rfl, s7⟩
      have ext07 := ext06.trans (ExtN.same s7)
      refine ⟨_, rfl, _, rfl, r, a, hs, bs, rows, rfl, hR.keep (ExtN.tk ext07), ok, hA.ext ext07, fit, l100, fun o1 w1 ms3 H8 no1 ho1 al3 W3 s8 => ?_⟩
      have ext08 := ext07.trans (ExtN.same s8)
      refine ⟨_, rfl, _, rfl, r1, a, joinH hs t1, joinB bs t1, rows, rfl, hR16.keep (TK.same (s7.trans s8)), ok1, hA.ext ext08, fit1, l100, fun o2 w2 ms4 H9 no2 ho2 al4 W4 s9 => ?_⟩
      obtain rfl : ms4 = ms2 := by
        obtain ⟨rk, hrk⟩ := ok1.rk
        exact W4.one hrk W2
      obtain rfl : ms3 = ms4.map (lift t1) := by
        obtain ⟨rk, hrk⟩ := ok.rk
        exact W3.one hrk (JN.ws W2)
      have outs : (ms4.map (lift t1)).map (outsOf hs) = ms4.map (outsOf (joinH hs t1)) := by
        rw [List.map_map]
        exact List.map_congr_left fun m _ => JN.outs m
      rw [outs] at al3
      refine ⟨.list ((ms4.map (outsOf (joinH hs t1))).map rowD), .list ((ms4.map (outsOf (joinH hs t1))).map rowD), .lst (SqL.of (s9 _ _ ho1)) (rows_dp (al3.imp fun _ _ z => z.keep (TK.same s9))), .lst (SqL.of ho2) (rows_dp al4), rows_shaped _, rows_shaped _, ?_⟩
      rw [PySem.SeqAt.eqv_refl _ (rows_lay _)]
      refine ⟨_, rfl, ?_⟩
      rw [if_pos rfl]
      have hd9 := s9 _ _ (s8 _ _ (s7 _ _ hd6))
      have hd29 := s9 _ _ (s8 _ _ (s7 _ _ hd26))
      refine ⟨_, rfl, d, _, rfl, .inl (SqL.of hd9), _, rfl, d2, _, rfl, .inl (SqL.of hd29), rfl, ?_⟩
      rw [decide_eq_true (show V.int ((ov.length : Nat) : Int) = V.int ((ov2.length : Nat) : Int) by rw [show ov.length = ov2.length by omega]), eD]
      exact q _ (ext08.trans (ExtN.same s9)) (tabs_same tabs6 (s7.trans (s8.trans s9)))
  refine ⟨_, rfl, r, hs, bs, rfl, hR, ok.good, by omega, ends, by omega, fun p t H1 kd np hp s1 => ?_⟩
  refine ⟨_, rfl, r, hs, bs, rfl, hR.keep (TK.same s1), ok, fun r1 t1 H2 kd1 hR1 s2 => ?_⟩
  obtain rfl := KindsOf.one kd1 kd
  have ok1 := join_room ok kd
  have J := join_ok kd ends
  have fit1 : ∀ x ∈ rows, x.length = (doorsOf "in" (joinH hs t1)).length := fun x hx => by rw [fit x hx, J.doors "in" (.inl rfl), List.length_map]
  have s02 := s1.trans s2
  refine ⟨_, rfl, _, rfl, r, a, hs, bs, rows, rfl, hR.keep (TK.same s02), ok, hA.same s02, fit, l100, fun d ov ms H3 nd hd al W s3 => ?_⟩
  have s03 := s02.trans s3
  refine ⟨_, rfl, _, rfl, r1, a, joinH hs t1, joinB bs t1, rows, rfl, hR1.keep (TK.same s3), ok1, hA.same s03, fit1, l100, fun d2 ov2 ms2 H4 nd2 hd2 al2 W2 s4 => ?_⟩
  have s04 := s03.trans s4
  have eq : ms = ms2.map (lift t1) := by
    obtain ⟨rk, hrk⟩ := ok.rk
    exact W.one hrk (J.ws W2)
  have hR14 := hR1.keep (TK.same (s3.trans s4))
  obtain ⟨ha1, ba1, hv1, bv1, er1, eh1, eb1, alh1, alb1⟩ := hR14.ex
  have lh1 : (joinH hs t1).length = (uniq t1).length := by unfold joinH; rw [List.length_map, List.length_range]
  have lhv1 := alh1.length
  have hp4 : H4 p = some (.tup (t1.map nV)) := s4 _ _ (s3 _ _ (s2 _ _ hp))
  refine ⟨_, _, rfl, _, rfl, r1, _, _, _, rfl, rfl, SqT.of er1, atI_nat (j := 0) rfl, ha1, _, rfl, .inr (SqT.of eh1), _, rfl, p, t1.map (fun n => ((n : Nat) : Int)), rfl, SqT.of (by rw [List.map_map]; exact hp4), by rw [List.length_map, kd.len]; omega, ?_⟩
  rw [uniq_ints, ← lh1, ← lhv1]
  refine ⟨rfl, _, rfl, if_bl (fun z => ?_) (fun _ => ?_)⟩
  · revert z
    simp
  refine ⟨_, rfl, r1, joinH hs t1, joinB bs t1, rfl, hR14, ok1, tabs_same tabs s04, fun v1 H5 tv1 ext5 tabs5 => ?_⟩
  have ext05 := (ExtN.same s04).trans ext5
  refine ⟨_, rfl, r, hs, bs, rfl, hR.keep (ExtN.tk ext05), ok, tabs5, fun v2 H6 tv2 ext6 tabs6 => ?_⟩
  have ext46 := ext5.trans ext6
  have ext06 := ext05.trans ext6
  have le := joined_time ok kd tv1 tv2
  refine ⟨_, _, rfl, rfl, _, rfl, if_bl (fun z => ?_) (fun _ => ?_)⟩
  · have := of_decide_eq_true z
    omega
  exact ⟨rfl, p, r1, d, d2, t1, ms2, ov, ov2, rfl, kd, ext06, tabs6, hR14.keep (ExtN.tk ext46), ExtN.tk ext46 _ _ hp4, ExtN.lst ((ExtN.same s4).trans ext46) hd, ExtN.lst ext46 hd2, by rw [← eq]; exact al.imp fun _ _ z => z.keep ((TK.same s4).trans (ExtN.tk ext46)), al2.imp fun _ _ z => z.keep (ExtN.tk ext46), W2⟩
end
section
variable {P : Program} {w : World} {K : PySem.W.Frag} {mg : Str → Option Value} {base : Heap}
theorem All2.takeN {α β : Type} {R : α → β → Prop} : ∀ {as : List α} {bs : List β}, All2 R as bs → ∀ n, All2 R (as.take n) (bs.take n)
  | _, _, .nil, n => by rw [List.take_nil, List.take_nil]; exact .nil
  | _, _, .cons h t, 0 => .nil
  | _, _, .cons h t, n + 1 => .cons h (t.takeN n)
theorem All2.dropN {α β : Type} {R : α → β → Prop} : ∀ {as : List α} {bs : List β}, All2 R as bs → ∀ n, All2 R (as.drop n) (bs.drop n)
  | _, _, .nil, n => by rw [List.drop_nil, List.drop_nil]; exact .nil
  | _, _, .cons h t, 0 => .cons h t
  | _, _, .cons h t, n + 1 => t.dropN n
variable {cT PT : Addr} [TLI : TabL K mg base cT PT]
include TLI
def sp_law (K : PySem.W.Frag) (PT : Addr) : Sp := fun vs H Q _ => ∃ (a : Addr) (ns : List Int), vs = [.ref a] ∧ SqL K H a (ns.map V.int) ∧ ns.length ≤ 63 ∧ LamX.Tabs (TL PT) H ∧ ∀ H', Q (.bl true) H'
theorem ok_law {f : Addr} {fd : FuncData} (F : Fun K "law" "law" s_law f fd) (T : Top K mg) : FnOk P w K mg base CX0 8 f fd ["_law_script"] (sp_law K PT) := by
  obtain ⟨f_law_flow, fd_law_flow, F_law_flow, b_law_flow, m_law_flow⟩ := T.d_law_flow
  have G_law_flow := ok_law_flow (P := P) (w := w) (base := base) F_law_flow T
  obtain ⟨f_law_some_copied, fd_law_some_copied, F_law_some_copied, b_law_some_copied, m_law_some_copied⟩ := T.d_law_some_copied
  have G_law_some_copied := ok_law_some_copied (P := P) (w := w) (base := base) F_law_some_copied T
  obtain ⟨f_law_rows, fd_law_rows, F_law_rows, b_law_rows, m_law_rows⟩ := T.d_law_rows
  have G_law_rows := ok_law_rows (P := P) (w := w) (base := base) F_law_rows T
  obtain ⟨f_law_pick, fd_law_pick, F_law_pick, b_law_pick, m_law_pick⟩ := T.d_law_pick
  have G_law_pick := ok_law_pick (P := P) (w := w) (base := base) F_law_pick T
  obtain ⟨f_standing, fd_standing, F_standing, b_standing, m_standing⟩ := T.d_standing
  have G_standing := ok_standing (P := P) (w := w) (base := base) F_standing T
  obtain ⟨f_kinds, fd_kinds, F_kinds, b_kinds, m_kinds⟩ := T.d_kinds
  have G_kinds := ok_kinds (P := P) (w := w) (base := base) F_kinds T
  obtain ⟨f_law_same, fd_law_same, F_law_same, b_law_same, m_law_same⟩ := T.d_law_same
  have G_law_same := ok_law_same (P := P) (w := w) (base := base) F_law_same T
  refine F.ok sc_law (fun vs H Q E h => ?_) (fun cdv A outer s H vs Q E hr h => ?_)
  · obtain ⟨a, ns, rfl, _⟩ := h
    rfl
  obtain ⟨a, ns, rfl, hS, hlen, tabs, q⟩ := h
  refine ⟨_, (pss_cons (ps_set (i := 1) sc_law.nd rfl (Or.inl rfl) (pe_call G_law_flow (hr.mono (by decide)) (by rfl) m_law_flow F_law_flow.kp b_law_flow .nil pass0 (pa_cons (pv 0) pa_nil)))
      (pss_cons (ps_set (i := 2) sc_law.nd rfl (Or.inl rfl) (pe_call G_law_some_copied (hr.mono (by decide)) (by rfl) m_law_some_copied F_law_some_copied.kp b_law_some_copied .nil pass0 (pa_cons (pv 1) pa_nil)))
      (pss_cons (ps_set (i := 3) sc_law.nd rfl (Or.inl rfl) (pe_call G_law_rows (hr.mono (by decide)) (by rfl) m_law_rows F_law_rows.kp b_law_rows .nil pass0 (pa_cons (pv 1) (pa_cons (pv 2) (pa_cons (pe_call G_law_pick (hr.mono (by decide)) (by rfl) m_law_pick F_law_pick.kp b_law_pick .nil pass0 (pa_cons (pv 1) (pa_cons pe_int pa_nil))) pa_nil)))))
      (pss_cons (ps_set (i := 4) sc_law.nd rfl (Or.inl rfl) (pe_call G_law_pick (hr.mono (by decide)) (by rfl) m_law_pick F_law_pick.kp b_law_pick .nil pass0 (pa_cons (pv 1) (pa_cons (pe_op op_add (pe_callB (call_len_seqK K rfl) (by rfl) T.m_len (by decide +kernel) (pa_cons (pv 3) pa_nil)) pe_int) pa_nil))))
      (pss_cons (ps_set (i := 5) sc_law.nd rfl (Or.inl rfl) (pe_call G_standing (hr.mono (by decide)) (by rfl) m_standing F_standing.kp b_standing .nil pass0 (pa_cons (pv 2) (pa_cons (pe_slice (sl_listK K rfl) (pv 3) po_none (po_some (pv 4))) pa_nil))))
      (pss_cons (ps_par (i := 6) (j := 7) rfl sc_law.nd rfl rfl (by decide) rfl rfl (pa_cons (pe_call G_kinds (hr.mono (by decide)) (by rfl) m_kinds F_kinds.kp b_kinds .nil pass0 (pa_cons (pv 2) pa_nil)) (pa_cons (pe_call G_kinds (hr.mono (by decide)) (by rfl) m_kinds F_kinds.kp b_kinds .nil pass0 (pa_cons (pv 5) pa_nil)) pa_nil)) (by rfl))
      (pss_cons (ps_for PassesOwn.never rfl (pi_range1 (by rfl) T.m_range (pa_cons (pe_callB (call_len_seqK K rfl) (by rfl) T.m_len (by decide +kernel) (pa_cons (pv 6) pa_nil)) pa_nil)) (pg_name (i := 8) sc_law.nd rfl (Or.inl rfl))
        (pss_one (ps_for PassesOwn.never rfl (pi_range1 (by rfl) T.m_range (pa_cons (pv 8) pa_nil)) (pg_name (i := 9) sc_law.nd rfl (Or.inl rfl))
        (pss_one (ps_if (PW.pt (pw_and (pt_cmpR op_eq (pe_ix (ix_tupK K rfl) (pv 6) (pv 8) (fun _ _ => rfl)) (pe_ix (ix_tupK K rfl) (pv 6) (pv 9) (fun _ _ => rfl)) (nomark _)) (pw_and1 (pt_cmpR op_ne (pe_ix (ix_tupK K rfl) (pv 7) (pv 8) (fun _ _ => rfl)) (pe_ix (ix_tupK K rfl) (pv 7) (pv 9) (fun _ _ => rfl)) (nomark _))))) (pss_one (ps_ret pe_bl)) pss_nil)))))
      (pss_one (ps_ret (pe_and (pe_call G_law_same (hr.mono (by decide)) (by rfl) m_law_same F_law_same.kp b_law_same .nil pass0 (pa_cons (pv 2) (pa_cons (pv 3) pa_nil))) (pe_and (pe_call G_law_same (hr.mono (by decide)) (by rfl) m_law_same F_law_same.kp b_law_same .nil pass0 (pa_cons (pv 5) (pa_cons (pe_slice (sl_listK K rfl) (pv 3) (po_some (pv 4)) po_none) pa_nil))) (pe_one (pe_cmpR (op_eqDK K rfl hr.units) (pe_call G_kinds (hr.mono (by decide)) (by rfl) m_kinds F_kinds.kp b_kinds .nil pass0 (pa_cons (pv 2) pa_nil)) (pv 6) (nomark _)))))))))))))), ?_⟩
  refine ⟨_, rfl, a, ns, rfl, hS, fun f c H1 nf nc F1 s1 => ?_⟩
  refine ⟨_, rfl, f, c, rfl, F1, fun r hs bs H2 hR ok pos F2 B2 => ?_⟩
  have tabs2 := tabs_but (tabs_same tabs s1) F1 B2
  refine ⟨_, rfl, _, rfl, _, rfl, f, c, _, rfl, by decide, by decide +kernel, F2, fun v0 H3 v00 v01 F3 B3 => ?_⟩
  refine ⟨f, c, r, hs, bs, v0, rfl, v00, by omega, F3, hR.keep (TK.but F2 B3), ok.hands, ok.good, fun p rv rows H4 np hp al lr fit F4 B4 => ?_⟩
  have tabs4 := tabs_but (tabs_but tabs2 F2 B3) F3 B4
  have pf : p ≠ f := F3.ne np
  have lal := al.length
  have k4 : TK H2 H4 := (TK.but F2 B3).trans (TK.but F3 B4)
  have hR4 := hR.keep k4
  have ends : ∀ b ∈ bs, b.one < hs.length := fun b hb => (ok.ends b hb).1
  have lh := ok.hands
  have lb := ok.many
  refine ⟨_, rfl, _, rfl, p, _, rfl, .inl (SqL.of hp), _, _, rfl, rfl, f, c, ((rv.length : Nat) : Int) + 1, rfl, by omega, log_small (m := rv.length + 1) (by omega), F4, fun v H5 v0' v1 F5 B5 => ?_⟩
  obtain ⟨u, rfl⟩ : ∃ u : Nat, v = ((u : Nat) : Int) := ⟨v.toNat, by omega⟩
  have k5 : TK H4 H5 := TK.but F4 B5
  have hp5 := B5 _ _ hp pf
  have tabs5 := tabs_but tabs4 F4 B5
  have hR5 := hR4.keep k5
  have al5 : All2 (RowAt H5) rv rows := al.imp fun _ _ z => z.keep k5
  have fit1 : ∀ x ∈ rows, x.length = (doorsOf "in" hs).length := fun x hx => (fit x hx).1
  refine ⟨_, rfl, _, rfl, _, rfl, _, rfl, p, _, rfl, SqL.of hp5, fun l1 nl1 => ?_⟩
  rw [cut_take]
  have s6 : Same H5 (upd H5 l1 (.lst (rv.take u))) := same_new nl1
  refine ⟨r, l1, hs, bs, rows.take u, rfl, hR5.keep (TK.same s6), ok, ⟨_, .inl upd_same, (al5.imp fun _ _ z => z.keep (TK.same s6)).takeN u⟩, fun x hx => fit1 x (List.mem_of_mem_take hx), by rw [List.length_take]; omega, fun y ms H6 hRy W s7 => ?_⟩
  have ok2 := ok.standing ms
  have s57 := s6.trans s7
  have lst : (stand bs ms).length = bs.length := by unfold Mine.stand; rw [List.length_map]
  refine ⟨_, rfl, r, hs, bs, rfl, hR5.keep (TK.same s57), ok.good, by omega, ends, by omega, fun p1 t1 H7 kd1 np1 hp1 s8 => ?_⟩
  refine ⟨_, rfl, y, hs, Mine.stand bs ms, rfl, hRy.keep (TK.same s8), ok.good, by omega, fun b hb => (ok2.ends b hb).1, by omega, fun p2 t2 H8 kd2 np2 hp2 s9 => ?_⟩
  have s58 := s57.trans (s8.trans s9)
  have hp18 : H8 p1 = some (.tup (t1.map nV)) := s9 _ _ hp1
  have ln1 := kd1.len
  have ln2 := kd2.len
  have lnm : (t1.map nV).length = t1.length := List.length_map ..
  have at1 : ∀ {j : Nat}, j < t1.length → (t1.map nV)[j]? = some (nV (Mine.kd t1 j)) := fun {j} h => by
    rw [List.getElem?_map, at_kd h]; rfl
  have at2 : ∀ {j : Nat}, j < t2.length → (t2.map nV)[j]? = some (nV (Mine.kd t2 j)) := fun {j} h => by
    rw [List.getElem?_map, at_kd h]; rfl
  have stay : ∀ j k, j < hs.length → k < hs.length → Mine.kd t1 j = Mine.kd t1 k → Mine.kd t2 j = Mine.kd t2 k := fun j k hj hk e => by
    have al := stand_alike ok kd1 (fun x hx => fit1 x (List.mem_of_mem_take hx)) W hj hk e
    exact (kinds_alike kd2 hj hk).mpr al
  refine ⟨_, _, rfl, ?_⟩
  refine ⟨_, rfl, p1, _, rfl, .inr (SqT.of hp18), _, rfl, by omega, by omega, for_range (lo := 0) (n := (t1.map nV).length) (fun i σ H9 => ∃ v8 v9 : Option V, σ = [some (.ref a), some (.ref f), some (.ref r), some (.ref p), some (nV u), some (.ref y), some (.ref p1), some (.ref p2), v8, v9] ∧ Same H8 H9) ⟨_, _, rfl, fun _ _ e => e⟩ ?_ ?_⟩
  · rintro j σ H9 hj ⟨v8, v9, rfl, s10⟩
    rw [Int.zero_add]
    refine ⟨_, rfl, _, rfl, by omega, by omega, for_range (lo := 0) (n := j) (fun i σ H9 => ∃ v9 : Option V, σ = [some (.ref a), some (.ref f), some (.ref r), some (.ref p), some (nV u), some (.ref y), some (.ref p1), some (.ref p2), some (nV j), v9] ∧ Same H8 H9) ⟨_, rfl, s10⟩ ?_ ?_⟩
    · rintro k σ H10 hk ⟨v9, rfl, s11⟩
      rw [Int.zero_add]
      have h1 := s11 _ _ hp18
      have h2 := s11 _ _ hp2
      have jl : j < t1.length := by omega
      have bk : Same H8 H10 → (∃ v9 : Option V, [some (V.ref a), some (.ref f), some (.ref r), some (.ref p), some (nV u), some (.ref y), some (.ref p1), some (.ref p2), some (nV j), some (nV k)] = [some (.ref a), some (.ref f), some (.ref r), some (.ref p), some (nV u), some (.ref y), some (.ref p1), some (.ref p2), some (nV j), v9] ∧ Same H8 H10) := fun z => ⟨_, rfl, z⟩
      refine ⟨_, rfl, _, rfl, p1, _, _, _, rfl, rfl, SqT.of h1, atI_nat (at1 jl), _, rfl, _, rfl, p1, _, _, _, rfl, rfl, SqT.of h1, atI_nat (at1 (j := k) (by omega)), rfl, _, rfl, if_bl (fun e => ?_) (fun e => ?_)⟩
      · have e : Mine.kd t1 j = Mine.kd t1 k := by have := V.int.inj (of_decide_eq_true e); omega
        have e2 := stay j k (by omega) (by omega) e
        refine ⟨_, rfl, _, rfl, p2, _, _, _, rfl, rfl, SqT.of h2, atI_nat (at2 (j := j) (by omega)), _, rfl, _, rfl, p2, _, _, _, rfl, rfl, SqT.of h2, atI_nat (at2 (j := k) (by omega)), rfl, _, rfl, if_bl (fun z => ?_) (fun _ => bk s11)⟩
        rw [e2] at z
        revert z
        simp
      · exact if_bl (fun z => nomatch z) (fun _ => bk s11)
    · rintro σ H10 ⟨v9, rfl, s11⟩
      exact ⟨_, _, rfl, s11⟩
  · rintro σ H9 ⟨v8, v9, rfl, s10⟩
    have s59 := s58.trans s10
    have tabs9 := tabs_same tabs5 s59
    have hA9 : RowsAt H9 p rows := ⟨rv, .inl (s59 _ _ hp5), al5.imp fun _ _ z => z.keep (TK.same s59)⟩
    have hR9 := hR5.keep (TK.same s59)
    have hRy9 := hRy.keep (TK.same ((s8.trans s9).trans s10))
    refine ⟨_, rfl, _, rfl, r, p, hs, bs, rows, rfl, hR9, ok, hA9, fit1, by omega, tabs9, fun H10 ext10 tabs10 => ⟨_, rfl, ?_⟩⟩
    rw [if_pos rfl]
    have hp10 := ExtN.lst ext10 (s59 _ _ hp5)
    refine ⟨_, rfl, _, rfl, _, rfl, _, rfl, p, _, rfl, SqL.of hp10, fun l2 nl2 => ?_⟩
    dsimp only [tNoPart, tNil]
    rw [cut_drop]
    have s11 : Same H10 (upd H10 l2 (.lst (rv.drop u))) := same_new nl2
    have k11 : TK H9 (upd H10 l2 (.lst (rv.drop u))) := (ExtN.tk ext10).trans (TK.same s11)
    refine ⟨y, l2, hs, Mine.stand bs ms, rows.drop u, rfl, hRy9.keep k11, ok2, ⟨_, .inl upd_same, (al5.imp fun _ _ z => z.keep ((TK.same s59).trans k11)).dropN u⟩, fun x hx => fit1 x (List.mem_of_mem_drop hx), by rw [List.length_drop]; omega, tabs_same tabs10 s11, fun H12 ext12 tabs12 => ⟨_, rfl, ?_⟩⟩
    rw [if_pos rfl]
    have k12 : TK H9 H12 := k11.trans (ExtN.tk ext12)
    refine ⟨_, rfl, r, hs, bs, rfl, hR9.keep k12, ok.good, by omega, ends, by omega, fun p3 t3 H13 kd3 np3 hp3 s13 => ?_⟩
    obtain rfl := KindsOf.one kd3 kd1
    have k13 := k12.trans (TK.same s13)
    have sh := nats_shaped t3
    have lay : PyData.canLay0 (.tuple (t3.map fun n => PyData.int ((n : Nat) : Int))) = true := by simp only [PyData.canLay0, lay_nats]
    refine ⟨_, rfl, .tuple (t3.map fun n => PyData.int ((n : Nat) : Int)), .tuple (t3.map fun n => PyData.int ((n : Nat) : Int)), .tup (SqT.of hp3) (dp_nats t3), .tup (SqT.of (k13 _ _ (s10 _ _ hp18))) (dp_nats t3), sh, sh, ?_⟩
    rw [PySem.SeqAt.eqv_refl _ lay]
    exact q _
end
theorem fun_of_D {K : PySem.W.Frag} {x q : Str} {st : Stmt} {f : Addr} {fd : FuncData} (D : FunD K x q (defArgs st) (defBody st) (defScope st) [] [] f fd) : Fun K x q st f fd := by
  obtain ⟨⟨oc, od, dV, kV, doc, pm, an, cdv, ct, osl, e, lk, ci, dfl, _⟩, kp⟩ := D
  have z : dV = .none := by
    rcases dfl with ⟨_, h⟩ | ⟨h, _⟩
    · exact h
    · exact absurd rfl h
  subst z
  exact ⟨⟨oc, od, kV, doc, pm, an, cdv, ct, osl, e, lk, ci⟩, kp⟩
def hd_made_by : He.DefD := ⟨("made_by", none), "made_by", "made_by", defArgs s_made_by, defBody s_made_by, defScope s_made_by, [], []⟩
def hd_made_of_two : He.DefD := ⟨("made_of_two", none), "made_of_two", "made_of_two", defArgs s_made_of_two, defBody s_made_of_two, defScope s_made_of_two, [], []⟩
def hd_comings : He.DefD := ⟨("comings", none), "comings", "comings", defArgs s_comings, defBody s_comings, defScope s_comings, [], []⟩
def hd_doors_in : He.DefD := ⟨("doors_in", none), "doors_in", "doors_in", defArgs s_doors_in, defBody s_doors_in, defScope s_doors_in, [], []⟩
def hd_doors_out : He.DefD := ⟨("doors_out", none), "doors_out", "doors_out", defArgs s_doors_out, defBody s_doors_out, defScope s_doors_out, [], []⟩
def hd_kinds : He.DefD := ⟨("kinds", none), "kinds", "kinds", defArgs s_kinds, defBody s_kinds, defScope s_kinds, [], []⟩
def hd_numbered : He.DefD := ⟨("numbered", none), "numbered", "numbered", defArgs s_numbered, defBody s_numbered, defScope s_numbered, [], []⟩
def hd_first_mark : He.DefD := ⟨("first_mark", none), "first_mark", "first_mark", defArgs s_first_mark, defBody s_first_mark, defScope s_first_mark, [], []⟩
def hd_mark_by : He.DefD := ⟨("mark_by", none), "mark_by", "mark_by", defArgs s_mark_by, defBody s_mark_by, defScope s_mark_by, [], []⟩
def hd_joined_alike : He.DefD := ⟨("joined_alike", none), "joined_alike", "joined_alike", defArgs s_joined_alike, defBody s_joined_alike, defScope s_joined_alike, [], []⟩
def hd_work_order : He.DefD := ⟨("work_order", none), "work_order", "work_order", defArgs s_work_order, defBody s_work_order, defScope s_work_order, [], []⟩
def hd_run : He.DefD := ⟨("run", none), "run", "run", defArgs s_run, defBody s_run, defScope s_run, [], []⟩
def hd_worked : He.DefD := ⟨("worked", none), "worked", "worked", defArgs s_worked, defBody s_worked, defScope s_worked, [], []⟩
def hd_standing : He.DefD := ⟨("standing", none), "standing", "standing", defArgs s_standing, defBody s_standing, defScope s_standing, [], []⟩
def hd_picked : He.DefD := ⟨("picked", none), "picked", "picked", defArgs s_picked, defBody s_picked, defScope s_picked, [], []⟩
def hd_work_plan : He.DefD := ⟨("work_plan", none), "work_plan", "work_plan", defArgs s_work_plan, defBody s_work_plan, defScope s_work_plan, [], []⟩
def hd_made_at_bell : He.DefD := ⟨("made_at_bell", none), "made_at_bell", "made_at_bell", defArgs s_made_at_bell, defBody s_made_at_bell, defScope s_made_at_bell, [], []⟩
def hd_thing_taken : He.DefD := ⟨("thing_taken", none), "thing_taken", "thing_taken", defArgs s_thing_taken, defBody s_thing_taken, defScope s_thing_taken, [], []⟩
def hd_behind_bell : He.DefD := ⟨("behind_bell", none), "behind_bell", "behind_bell", defArgs s_behind_bell, defBody s_behind_bell, defScope s_behind_bell, [], []⟩
def hd_belt_behind_bell : He.DefD := ⟨("belt_behind_bell", none), "belt_behind_bell", "belt_behind_bell", defArgs s_belt_behind_bell, defBody s_belt_behind_bell, defScope s_belt_behind_bell, [], []⟩
def hd_moments_on : He.DefD := ⟨("moments_on", none), "moments_on", "moments_on", defArgs s_moments_on, defBody s_moments_on, defScope s_moments_on, [], []⟩
def hd_time_of : He.DefD := ⟨("time_of", none), "time_of", "time_of", defArgs s_time_of, defBody s_time_of, defScope s_time_of, [], []⟩
def hd_long_way : He.DefD := ⟨("long_way", none), "long_way", "long_way", defArgs s_long_way, defBody s_long_way, defScope s_long_way, [], []⟩
def hd_long_sums : He.DefD := ⟨("long_sums", none), "long_sums", "long_sums", defArgs s_long_sums, defBody s_long_sums, defScope s_long_sums, [], []⟩
def hd_way_back : He.DefD := ⟨("way_back", none), "way_back", "way_back", defArgs s_way_back, defBody s_way_back, defScope s_way_back, [], []⟩
def hd_law_flow : He.DefD := ⟨("_law_flow", none), "_law_flow", "_law_flow", defArgs s_law_flow, defBody s_law_flow, defScope s_law_flow, [], []⟩
def hd_law_pick : He.DefD := ⟨("_law_pick", none), "_law_pick", "_law_pick", defArgs s_law_pick, defBody s_law_pick, defScope s_law_pick, [], []⟩
def hd_law_thing : He.DefD := ⟨("_law_thing", none), "_law_thing", "_law_thing", defArgs s_law_thing, defBody s_law_thing, defScope s_law_thing, [], []⟩
def hd_law_needs : He.DefD := ⟨("_law_needs", none), "_law_needs", "_law_needs", defArgs s_law_needs, defBody s_law_needs, defScope s_law_needs, [], []⟩
def hd_law_rule : He.DefD := ⟨("_law_rule", none), "_law_rule", "_law_rule", defArgs s_law_rule, defBody s_law_rule, defScope s_law_rule, [], []⟩
def hd_law_shuffled : He.DefD := ⟨("_law_shuffled", none), "_law_shuffled", "_law_shuffled", defArgs s_law_shuffled, defBody s_law_shuffled, defScope s_law_shuffled, [], []⟩
def hd_law_hands : He.DefD := ⟨("_law_hands", none), "_law_hands", "_law_hands", defArgs s_law_hands, defBody s_law_hands, defScope s_law_hands, [], []⟩
def hd_law_room : He.DefD := ⟨("_law_room", none), "_law_room", "_law_room", defArgs s_law_room, defBody s_law_room, defScope s_law_room, [], []⟩
def hd_law_turned_room : He.DefD := ⟨("_law_turned_room", none), "_law_turned_room", "_law_turned_room", defArgs s_law_turned_room, defBody s_law_turned_room, defScope s_law_turned_room, [], []⟩
def hd_law_copied : He.DefD := ⟨("_law_copied", none), "_law_copied", "_law_copied", defArgs s_law_copied, defBody s_law_copied, defScope s_law_copied, [], []⟩
def hd_law_marred : He.DefD := ⟨("_law_marred", none), "_law_marred", "_law_marred", defArgs s_law_marred, defBody s_law_marred, defScope s_law_marred, [], []⟩
def hd_law_lines : He.DefD := ⟨("_law_lines", none), "_law_lines", "_law_lines", defArgs s_law_lines, defBody s_law_lines, defScope s_law_lines, [], []⟩
def hd_law_some_copied : He.DefD := ⟨("_law_some_copied", none), "_law_some_copied", "_law_some_copied", defArgs s_law_some_copied, defBody s_law_some_copied, defScope s_law_some_copied, [], []⟩
def hd_law_rows : He.DefD := ⟨("_law_rows", none), "_law_rows", "_law_rows", defArgs s_law_rows, defBody s_law_rows, defScope s_law_rows, [], []⟩
def hd_law_same : He.DefD := ⟨("_law_same", none), "_law_same", "_law_same", defArgs s_law_same, defBody s_law_same, defScope s_law_same, [], []⟩
def hd_law : He.DefD := ⟨("law", none), "law", "law", defArgs s_law, defBody s_law, defScope s_law, [], []⟩
def hFn : List He.DefD := [hd_made_by, hd_made_of_two, hd_comings, hd_doors_in, hd_doors_out, hd_kinds, hd_numbered, hd_first_mark, hd_mark_by, hd_joined_alike, hd_work_order, hd_run, hd_worked, hd_standing, hd_picked, hd_work_plan, hd_made_at_bell, hd_thing_taken, hd_behind_bell, hd_belt_behind_bell, hd_moments_on, hd_time_of, hd_long_way, hd_long_sums, hd_way_back, hd_law_flow, hd_law_pick, hd_law_thing, hd_law_needs, hd_law_rule, hd_law_shuffled, hd_law_hands, hd_law_room, hd_law_turned_room, hd_law_copied, hd_law_marred, hd_law_lines, hd_law_some_copied, hd_law_rows, hd_law_same, hd_law]
def hFa : List He.Fa := [.glo "made_by", .glo "made_of_two", .glo "comings", .glo "doors_in", .glo "doors_out", .glo "kinds", .glo "numbered", .glo "first_mark", .glo "mark_by", .glo "joined_alike", .glo "work_order", .glo "run", .glo "worked", .glo "standing", .glo "picked", .glo "work_plan", .glo "made_at_bell", .glo "thing_taken", .glo "behind_bell", .glo "belt_behind_bell", .glo "moments_on", .glo "time_of", .glo "long_way", .glo "long_sums", .glo "way_back", .glo "_law_flow", .glo "_law_pick", .glo "_law_thing", .glo "_law_needs", .glo "_law_rule", .glo "_law_shuffled", .glo "_law_hands", .glo "_law_room", .glo "_law_turned_room", .glo "_law_copied", .glo "_law_marred", .glo "_law_lines", .glo "_law_some_copied", .glo "_law_rows", .glo "_law_same", .glo "law", .free "dict", .free "enumerate", .free "int", .free "len", .free "list", .free "max", .free "min", .free "range", .free "set", .free "sum", .free "tuple", .free "zip", .glo "IN_RULE", .glo "OUT_RULE"]
def hEx (K : PySem.W.Frag) : Bool := He.tupB K "IN_RULE" [.str "in"] && He.tupB K "OUT_RULE" [.str "out"]
def hTf : List (Str × Option Str) := [("long_way", none)]
abbrev hR : PySem.W.OpenRow := PySem.W.OpenLaw.row PySem.Challenge.rw_beltshift_k70_whole_made_one_tells_the_s
abbrev hk : PySem.W.Hook := He.hookX 4 hFa hFn [] hTf hEx
def hOb (s : PySem.W.SharedT) : He.AlX := He.obsX 4 hFa hFn [] hTf hEx (HandSHeadRun.getT s)
theorem hOb_eq (s : PySem.W.SharedT) : hOb s = hk.obs s.abs := He.obsX_eq (HandSHeadRun.getT_eq s)
def hN0 : List Str := ["made_by", "made_of_two", "IN_RULE", "OUT_RULE", "comings", "doors_in", "doors_out", "kinds", "numbered", "first_mark", "mark_by", "joined_alike", "work_order", "run", "worked", "standing", "picked", "work_plan", "made_at_bell", "thing_taken", "behind_bell", "belt_behind_bell", "moments_on", "time_of", "long_way", "long_sums", "way_back", "_law_flow", "_law_pick", "_law_thing"]
def hN1 : List Str := ["_law_needs", "_law_rule", "_law_shuffled", "_law_hands", "_law_room", "_law_turned_room", "_law_copied", "_law_marred", "_law_lines", "_law_some_copied", "_law_rows", "_law_same"]
def hNames : List Str := hN0 ++ hN1
set_option maxHeartbeats 0 in
theorem hRun (w : World) : HandSHeadRun.RunEq hR (PySem.W.view hR.prog [49]) hk hOb 40000 hNames w := by
  intro os
  kernel_rfl
set_option maxHeartbeats 0 in
theorem all_mkX {w : World} {K : PySem.W.Frag} {h : Heap} {mg : Str → Option Value} {fa : Addr} (X : K.In h) (G : h.Ns mainGlobals mg) (hfa : mg "law" = some (.ref fa)) (c : He.SaysX hFa hFn [] hTf hEx w h K) : LamX.LawAtS PySem.Challenge.rw_beltshift_k70_whole_made_one_tells_the_s w K CX0 8 63 "_law_script" mg fa h := by
  have cd := c.t.d
  obtain ⟨fd0, D0⟩ := cd.def_ 0 (d := hd_made_by) rfl
  have F0 : Fun K "made_by" "made_by" s_made_by (He.ga K "made_by") fd0 := fun_of_D D0
  have g0 : mg "made_by" = some (.ref (He.ga K "made_by")) := He.glo_ok X G (cd.fact 0 (f := .glo "made_by") rfl)
  have b0 := F0.binds (ps := ["rule", "things"]) fun _ _ _ _ _ _ us hl => match us, hl with | [_, _], _ => rfl
  obtain ⟨fd1, D1⟩ := cd.def_ 1 (d := hd_made_of_two) rfl
  have F1 : Fun K "made_of_two" "made_of_two" s_made_of_two (He.ga K "made_of_two") fd1 := fun_of_D D1
  have g1 : mg "made_of_two" = some (.ref (He.ga K "made_of_two")) := He.glo_ok X G (cd.fact 1 (f := .glo "made_of_two") rfl)
  have b1 := F1.binds (ps := ["word", "one", "other"]) fun _ _ _ _ _ _ us hl => match us, hl with | [_, _, _], _ => rfl
  obtain ⟨fd2, D2⟩ := cd.def_ 2 (d := hd_comings) rfl
  have F2 : Fun K "comings" "comings" s_comings (He.ga K "comings") fd2 := fun_of_D D2
  have g2 : mg "comings" = some (.ref (He.ga K "comings")) := He.glo_ok X G (cd.fact 2 (f := .glo "comings") rfl)
  have b2 := F2.binds (ps := ["room", "hand"]) fun _ _ _ _ _ _ us hl => match us, hl with | [_, _], _ => rfl
  obtain ⟨fd3, D3⟩ := cd.def_ 3 (d := hd_doors_in) rfl
  have F3 : Fun K "doors_in" "doors_in" s_doors_in (He.ga K "doors_in") fd3 := fun_of_D D3
  have g3 : mg "doors_in" = some (.ref (He.ga K "doors_in")) := He.glo_ok X G (cd.fact 3 (f := .glo "doors_in") rfl)
  have b3 := F3.binds (ps := ["room"]) fun _ _ _ _ _ _ us hl => match us, hl with | [_], _ => rfl
  obtain ⟨fd4, D4⟩ := cd.def_ 4 (d := hd_doors_out) rfl
  have F4 : Fun K "doors_out" "doors_out" s_doors_out (He.ga K "doors_out") fd4 := fun_of_D D4
  have g4 : mg "doors_out" = some (.ref (He.ga K "doors_out")) := He.glo_ok X G (cd.fact 4 (f := .glo "doors_out") rfl)
  have b4 := F4.binds (ps := ["room"]) fun _ _ _ _ _ _ us hl => match us, hl with | [_], _ => rfl
  obtain ⟨fd5, D5⟩ := cd.def_ 5 (d := hd_kinds) rfl
  have F5 : Fun K "kinds" "kinds" s_kinds (He.ga K "kinds") fd5 := fun_of_D D5
  have g5 : mg "kinds" = some (.ref (He.ga K "kinds")) := He.glo_ok X G (cd.fact 5 (f := .glo "kinds") rfl)
  have b5 := F5.binds (ps := ["room"]) fun _ _ _ _ _ _ us hl => match us, hl with | [_], _ => rfl
  obtain ⟨fd6, D6⟩ := cd.def_ 6 (d := hd_numbered) rfl
  have F6 : Fun K "numbered" "numbered" s_numbered (He.ga K "numbered") fd6 := fun_of_D D6
  have g6 : mg "numbered" = some (.ref (He.ga K "numbered")) := He.glo_ok X G (cd.fact 6 (f := .glo "numbered") rfl)
  have b6 := F6.binds (ps := ["marks"]) fun _ _ _ _ _ _ us hl => match us, hl with | [_], _ => rfl
  obtain ⟨fd7, D7⟩ := cd.def_ 7 (d := hd_first_mark) rfl
  have F7 : Fun K "first_mark" "first_mark" s_first_mark (He.ga K "first_mark") fd7 := fun_of_D D7
  have g7 : mg "first_mark" = some (.ref (He.ga K "first_mark")) := He.glo_ok X G (cd.fact 7 (f := .glo "first_mark") rfl)
  have b7 := F7.binds (ps := ["rule", "hand"]) fun _ _ _ _ _ _ us hl => match us, hl with | [_, _], _ => rfl
  obtain ⟨fd8, D8⟩ := cd.def_ 8 (d := hd_mark_by) rfl
  have F8 : Fun K "mark_by" "mark_by" s_mark_by (He.ga K "mark_by") fd8 := fun_of_D D8
  have g8 : mg "mark_by" = some (.ref (He.ga K "mark_by")) := He.glo_ok X G (cd.fact 8 (f := .glo "mark_by") rfl)
  have b8 := F8.binds (ps := ["room", "told", "hand"]) fun _ _ _ _ _ _ us hl => match us, hl with | [_, _, _], _ => rfl
  obtain ⟨fd9, D9⟩ := cd.def_ 9 (d := hd_joined_alike) rfl
  have F9 : Fun K "joined_alike" "joined_alike" s_joined_alike (He.ga K "joined_alike") fd9 := fun_of_D D9
  have g9 : mg "joined_alike" = some (.ref (He.ga K "joined_alike")) := He.glo_ok X G (cd.fact 9 (f := .glo "joined_alike") rfl)
  have b9 := F9.binds (ps := ["room"]) fun _ _ _ _ _ _ us hl => match us, hl with | [_], _ => rfl
  obtain ⟨fd10, D10⟩ := cd.def_ 10 (d := hd_work_order) rfl
  have F10 : Fun K "work_order" "work_order" s_work_order (He.ga K "work_order") fd10 := fun_of_D D10
  have g10 : mg "work_order" = some (.ref (He.ga K "work_order")) := He.glo_ok X G (cd.fact 10 (f := .glo "work_order") rfl)
  have b10 := F10.binds (ps := ["room"]) fun _ _ _ _ _ _ us hl => match us, hl with | [_], _ => rfl
  obtain ⟨fd11, D11⟩ := cd.def_ 11 (d := hd_run) rfl
  have F11 : Fun K "run" "run" s_run (He.ga K "run") fd11 := fun_of_D D11
  have g11 : mg "run" = some (.ref (He.ga K "run")) := He.glo_ok X G (cd.fact 11 (f := .glo "run") rfl)
  have b11 := F11.binds (ps := ["room", "rows"]) fun _ _ _ _ _ _ us hl => match us, hl with | [_, _], _ => rfl
  obtain ⟨fd12, D12⟩ := cd.def_ 12 (d := hd_worked) rfl
  have F12 : Fun K "worked" "worked" s_worked (He.ga K "worked") fd12 := fun_of_D D12
  have g12 : mg "worked" = some (.ref (He.ga K "worked")) := He.glo_ok X G (cd.fact 12 (f := .glo "worked") rfl)
  have b12 := F12.binds (ps := ["room", "rows"]) fun _ _ _ _ _ _ us hl => match us, hl with | [_, _], _ => rfl
  obtain ⟨fd13, D13⟩ := cd.def_ 13 (d := hd_standing) rfl
  have F13 : Fun K "standing" "standing" s_standing (He.ga K "standing") fd13 := fun_of_D D13
  have g13 : mg "standing" = some (.ref (He.ga K "standing")) := He.glo_ok X G (cd.fact 13 (f := .glo "standing") rfl)
  have b13 := F13.binds (ps := ["room", "rows"]) fun _ _ _ _ _ _ us hl => match us, hl with | [_, _], _ => rfl
  obtain ⟨fd14, D14⟩ := cd.def_ 14 (d := hd_picked) rfl
  have F14 : Fun K "picked" "picked" s_picked (He.ga K "picked") fd14 := fun_of_D D14
  have g14 : mg "picked" = some (.ref (He.ga K "picked")) := He.glo_ok X G (cd.fact 14 (f := .glo "picked") rfl)
  have b14 := F14.binds (ps := ["made", "doors"]) fun _ _ _ _ _ _ us hl => match us, hl with | [_, _], _ => rfl
  obtain ⟨fd15, D15⟩ := cd.def_ 15 (d := hd_work_plan) rfl
  have F15 : Fun K "work_plan" "work_plan" s_work_plan (He.ga K "work_plan") fd15 := fun_of_D D15
  have g15 : mg "work_plan" = some (.ref (He.ga K "work_plan")) := He.glo_ok X G (cd.fact 15 (f := .glo "work_plan") rfl)
  have b15 := F15.binds (ps := ["room"]) fun _ _ _ _ _ _ us hl => match us, hl with | [_], _ => rfl
  obtain ⟨fd16, D16⟩ := cd.def_ 16 (d := hd_made_at_bell) rfl
  have F16 : Fun K "made_at_bell" "made_at_bell" s_made_at_bell (He.ga K "made_at_bell") fd16 := fun_of_D D16
  have g16 : mg "made_at_bell" = some (.ref (He.ga K "made_at_bell")) := He.glo_ok X G (cd.fact 16 (f := .glo "made_at_bell") rfl)
  have b16 := F16.binds (ps := ["room", "plan", "things"]) fun _ _ _ _ _ _ us hl => match us, hl with | [_, _, _], _ => rfl
  obtain ⟨fd17, D17⟩ := cd.def_ 17 (d := hd_thing_taken) rfl
  have F17 : Fun K "thing_taken" "thing_taken" s_thing_taken (He.ga K "thing_taken") fd17 := fun_of_D D17
  have g17 : mg "thing_taken" = some (.ref (He.ga K "thing_taken")) := He.glo_ok X G (cd.fact 17 (f := .glo "thing_taken") rfl)
  have b17 := F17.binds (ps := ["belt", "made"]) fun _ _ _ _ _ _ us hl => match us, hl with | [_, _], _ => rfl
  obtain ⟨fd18, D18⟩ := cd.def_ 18 (d := hd_behind_bell) rfl
  have F18 : Fun K "behind_bell" "behind_bell" s_behind_bell (He.ga K "behind_bell") fd18 := fun_of_D D18
  have g18 : mg "behind_bell" = some (.ref (He.ga K "behind_bell")) := He.glo_ok X G (cd.fact 18 (f := .glo "behind_bell") rfl)
  have b18 := F18.binds (ps := ["room", "made"]) fun _ _ _ _ _ _ us hl => match us, hl with | [_, _], _ => rfl
  obtain ⟨fd19, D19⟩ := cd.def_ 19 (d := hd_belt_behind_bell) rfl
  have F19 : Fun K "belt_behind_bell" "belt_behind_bell" s_belt_behind_bell (He.ga K "belt_behind_bell") fd19 := fun_of_D D19
  have g19 : mg "belt_behind_bell" = some (.ref (He.ga K "belt_behind_bell")) := He.glo_ok X G (cd.fact 19 (f := .glo "belt_behind_bell") rfl)
  have b19 := F19.binds (ps := ["belt", "made"]) fun _ _ _ _ _ _ us hl => match us, hl with | [_, _], _ => rfl
  obtain ⟨fd20, D20⟩ := cd.def_ 20 (d := hd_moments_on) rfl
  have F20 : Fun K "moments_on" "moments_on" s_moments_on (He.ga K "moments_on") fd20 := fun_of_D D20
  have g20 : mg "moments_on" = some (.ref (He.ga K "moments_on")) := He.glo_ok X G (cd.fact 20 (f := .glo "moments_on") rfl)
  have b20 := F20.binds (ps := ["room", "way"]) fun _ _ _ _ _ _ us hl => match us, hl with | [_, _], _ => rfl
  obtain ⟨fd21, D21⟩ := cd.def_ 21 (d := hd_time_of) rfl
  have F21 : Fun K "time_of" "time_of" s_time_of (He.ga K "time_of") fd21 := fun_of_D D21
  have g21 : mg "time_of" = some (.ref (He.ga K "time_of")) := He.glo_ok X G (cd.fact 21 (f := .glo "time_of") rfl)
  have b21 := F21.binds (ps := ["room"]) fun _ _ _ _ _ _ us hl => match us, hl with | [_], _ => rfl
  obtain ⟨fd22, D22⟩ := cd.def_ 22 (d := hd_long_way) rfl
  have F22 : Fun K "long_way" "long_way" s_long_way (He.ga K "long_way") fd22 := fun_of_D D22
  have g22 : mg "long_way" = some (.ref (He.ga K "long_way")) := He.glo_ok X G (cd.fact 22 (f := .glo "long_way") rfl)
  have b22 := F22.binds (ps := ["room"]) fun _ _ _ _ _ _ us hl => match us, hl with | [_], _ => rfl
  obtain ⟨fd23, D23⟩ := cd.def_ 23 (d := hd_long_sums) rfl
  have F23 : Fun K "long_sums" "long_sums" s_long_sums (He.ga K "long_sums") fd23 := fun_of_D D23
  have g23 : mg "long_sums" = some (.ref (He.ga K "long_sums")) := He.glo_ok X G (cd.fact 23 (f := .glo "long_sums") rfl)
  have b23 := F23.binds (ps := ["room"]) fun _ _ _ _ _ _ us hl => match us, hl with | [_], _ => rfl
  obtain ⟨fd24, D24⟩ := cd.def_ 24 (d := hd_way_back) rfl
  have F24 : Fun K "way_back" "way_back" s_way_back (He.ga K "way_back") fd24 := fun_of_D D24
  have g24 : mg "way_back" = some (.ref (He.ga K "way_back")) := He.glo_ok X G (cd.fact 24 (f := .glo "way_back") rfl)
  have b24 := F24.binds (ps := ["room", "end", "last"]) fun _ _ _ _ _ _ us hl => match us, hl with | [_, _, _], _ => rfl
  obtain ⟨fd25, D25⟩ := cd.def_ 25 (d := hd_law_flow) rfl
  have F25 : Fun K "_law_flow" "_law_flow" s_law_flow (He.ga K "_law_flow") fd25 := fun_of_D D25
  have g25 : mg "_law_flow" = some (.ref (He.ga K "_law_flow")) := He.glo_ok X G (cd.fact 25 (f := .glo "_law_flow") rfl)
  have b25 := F25.binds (ps := ["_law_script"]) fun _ _ _ _ _ _ us hl => match us, hl with | [_], _ => rfl
  obtain ⟨fd26, D26⟩ := cd.def_ 26 (d := hd_law_pick) rfl
  have F26 : Fun K "_law_pick" "_law_pick" s_law_pick (He.ga K "_law_pick") fd26 := fun_of_D D26
  have g26 : mg "_law_pick" = some (.ref (He.ga K "_law_pick")) := He.glo_ok X G (cd.fact 26 (f := .glo "_law_pick") rfl)
  have b26 := F26.binds (ps := ["_law_flow_here", "_law_many"]) fun _ _ _ _ _ _ us hl => match us, hl with | [_, _], _ => rfl
  obtain ⟨fd27, D27⟩ := cd.def_ 27 (d := hd_law_thing) rfl
  have F27 : Fun K "_law_thing" "_law_thing" s_law_thing (He.ga K "_law_thing") fd27 := fun_of_D D27
  have g27 : mg "_law_thing" = some (.ref (He.ga K "_law_thing")) := He.glo_ok X G (cd.fact 27 (f := .glo "_law_thing") rfl)
  have b27 := F27.binds (ps := ["_law_flow_here"]) fun _ _ _ _ _ _ us hl => match us, hl with | [_], _ => rfl
  obtain ⟨fd28, D28⟩ := cd.def_ 28 (d := hd_law_needs) rfl
  have F28 : Fun K "_law_needs" "_law_needs" s_law_needs (He.ga K "_law_needs") fd28 := fun_of_D D28
  have g28 : mg "_law_needs" = some (.ref (He.ga K "_law_needs")) := He.glo_ok X G (cd.fact 28 (f := .glo "_law_needs") rfl)
  have b28 := F28.binds (ps := ["_law_rule_here"]) fun _ _ _ _ _ _ us hl => match us, hl with | [_], _ => rfl
  obtain ⟨fd29, D29⟩ := cd.def_ 29 (d := hd_law_rule) rfl
  have F29 : Fun K "_law_rule" "_law_rule" s_law_rule (He.ga K "_law_rule") fd29 := fun_of_D D29
  have g29 : mg "_law_rule" = some (.ref (He.ga K "_law_rule")) := He.glo_ok X G (cd.fact 29 (f := .glo "_law_rule") rfl)
  have b29 := F29.binds (ps := ["_law_flow_here", "_law_most"]) fun _ _ _ _ _ _ us hl => match us, hl with | [_, _], _ => rfl
  obtain ⟨fd30, D30⟩ := cd.def_ 30 (d := hd_law_shuffled) rfl
  have F30 : Fun K "_law_shuffled" "_law_shuffled" s_law_shuffled (He.ga K "_law_shuffled") fd30 := fun_of_D D30
  have g30 : mg "_law_shuffled" = some (.ref (He.ga K "_law_shuffled")) := He.glo_ok X G (cd.fact 30 (f := .glo "_law_shuffled") rfl)
  have b30 := F30.binds (ps := ["_law_flow_here", "_law_some"]) fun _ _ _ _ _ _ us hl => match us, hl with | [_, _], _ => rfl
  obtain ⟨fd31, D31⟩ := cd.def_ 31 (d := hd_law_hands) rfl
  have F31 : Fun K "_law_hands" "_law_hands" s_law_hands (He.ga K "_law_hands") fd31 := fun_of_D D31
  have g31 : mg "_law_hands" = some (.ref (He.ga K "_law_hands")) := He.glo_ok X G (cd.fact 31 (f := .glo "_law_hands") rfl)
  have b31 := F31.binds (ps := ["_law_flow_here", "_law_many"]) fun _ _ _ _ _ _ us hl => match us, hl with | [_, _], _ => rfl
  obtain ⟨fd32, D32⟩ := cd.def_ 32 (d := hd_law_room) rfl
  have F32 : Fun K "_law_room" "_law_room" s_law_room (He.ga K "_law_room") fd32 := fun_of_D D32
  have g32 : mg "_law_room" = some (.ref (He.ga K "_law_room")) := He.glo_ok X G (cd.fact 32 (f := .glo "_law_room") rfl)
  have b32 := F32.binds (ps := ["_law_flow_here", "_law_most"]) fun _ _ _ _ _ _ us hl => match us, hl with | [_, _], _ => rfl
  obtain ⟨fd33, D33⟩ := cd.def_ 33 (d := hd_law_turned_room) rfl
  have F33 : Fun K "_law_turned_room" "_law_turned_room" s_law_turned_room (He.ga K "_law_turned_room") fd33 := fun_of_D D33
  have g33 : mg "_law_turned_room" = some (.ref (He.ga K "_law_turned_room")) := He.glo_ok X G (cd.fact 33 (f := .glo "_law_turned_room") rfl)
  have b33 := F33.binds (ps := ["_law_flow_here", "_law_room_here"]) fun _ _ _ _ _ _ us hl => match us, hl with | [_, _], _ => rfl
  obtain ⟨fd34, D34⟩ := cd.def_ 34 (d := hd_law_copied) rfl
  have F34 : Fun K "_law_copied" "_law_copied" s_law_copied (He.ga K "_law_copied") fd34 := fun_of_D D34
  have g34 : mg "_law_copied" = some (.ref (He.ga K "_law_copied")) := He.glo_ok X G (cd.fact 34 (f := .glo "_law_copied") rfl)
  have b34 := F34.binds (ps := ["_law_flow_here"]) fun _ _ _ _ _ _ us hl => match us, hl with | [_], _ => rfl
  obtain ⟨fd35, D35⟩ := cd.def_ 35 (d := hd_law_marred) rfl
  have F35 : Fun K "_law_marred" "_law_marred" s_law_marred (He.ga K "_law_marred") fd35 := fun_of_D D35
  have g35 : mg "_law_marred" = some (.ref (He.ga K "_law_marred")) := He.glo_ok X G (cd.fact 35 (f := .glo "_law_marred") rfl)
  have b35 := F35.binds (ps := ["_law_flow_here", "_law_room_here"]) fun _ _ _ _ _ _ us hl => match us, hl with | [_, _], _ => rfl
  obtain ⟨fd36, D36⟩ := cd.def_ 36 (d := hd_law_lines) rfl
  have F36 : Fun K "_law_lines" "_law_lines" s_law_lines (He.ga K "_law_lines") fd36 := fun_of_D D36
  have g36 : mg "_law_lines" = some (.ref (He.ga K "_law_lines")) := He.glo_ok X G (cd.fact 36 (f := .glo "_law_lines") rfl)
  have b36 := F36.binds (ps := ["_law_flow_here"]) fun _ _ _ _ _ _ us hl => match us, hl with | [_], _ => rfl
  obtain ⟨fd37, D37⟩ := cd.def_ 37 (d := hd_law_some_copied) rfl
  have F37 : Fun K "_law_some_copied" "_law_some_copied" s_law_some_copied (He.ga K "_law_some_copied") fd37 := fun_of_D D37
  have g37 : mg "_law_some_copied" = some (.ref (He.ga K "_law_some_copied")) := He.glo_ok X G (cd.fact 37 (f := .glo "_law_some_copied") rfl)
  have b37 := F37.binds (ps := ["_law_flow_here"]) fun _ _ _ _ _ _ us hl => match us, hl with | [_], _ => rfl
  obtain ⟨fd38, D38⟩ := cd.def_ 38 (d := hd_law_rows) rfl
  have F38 : Fun K "_law_rows" "_law_rows" s_law_rows (He.ga K "_law_rows") fd38 := fun_of_D D38
  have g38 : mg "_law_rows" = some (.ref (He.ga K "_law_rows")) := He.glo_ok X G (cd.fact 38 (f := .glo "_law_rows") rfl)
  have b38 := F38.binds (ps := ["_law_flow_here", "_law_room_here", "_law_many"]) fun _ _ _ _ _ _ us hl => match us, hl with | [_, _, _], _ => rfl
  obtain ⟨fd39, D39⟩ := cd.def_ 39 (d := hd_law_same) rfl
  have F39 : Fun K "_law_same" "_law_same" s_law_same (He.ga K "_law_same") fd39 := fun_of_D D39
  have g39 : mg "_law_same" = some (.ref (He.ga K "_law_same")) := He.glo_ok X G (cd.fact 39 (f := .glo "_law_same") rfl)
  have b39 := F39.binds (ps := ["_law_room_here", "_law_rows_here"]) fun _ _ _ _ _ _ us hl => match us, hl with | [_, _], _ => rfl
  obtain ⟨fd40, D40⟩ := cd.def_ 40 (d := hd_law) rfl
  have F40 : Fun K "law" "law" s_law (He.ga K "law") fd40 := fun_of_D D40
  have g40 : mg "law" = some (.ref (He.ga K "law")) := He.glo_ok X G (cd.fact 40 (f := .glo "law") rfl)
  have ex := c.more
  unfold hEx at ex
  simp only [Bool.and_eq_true] at ex
  obtain ⟨ex0, ex1⟩ := ex
  have T : Top K mg := ⟨⟨_, fd0, F0, b0, g0⟩, ⟨_, fd1, F1, b1, g1⟩, ⟨_, fd2, F2, b2, g2⟩, ⟨_, fd3, F3, b3, g3⟩, ⟨_, fd4, F4, b4, g4⟩, ⟨_, fd5, F5, b5, g5⟩, ⟨_, fd6, F6, b6, g6⟩, ⟨_, fd7, F7, b7, g7⟩, ⟨_, fd8, F8, b8, g8⟩, ⟨_, fd9, F9, b9, g9⟩, ⟨_, fd10, F10, b10, g10⟩, ⟨_, fd11, F11, b11, g11⟩, ⟨_, fd12, F12, b12, g12⟩, ⟨_, fd13, F13, b13, g13⟩, ⟨_, fd14, F14, b14, g14⟩, ⟨_, fd15, F15, b15, g15⟩, ⟨_, fd16, F16, b16, g16⟩, ⟨_, fd17, F17, b17, g17⟩, ⟨_, fd18, F18, b18, g18⟩, ⟨_, fd19, F19, b19, g19⟩, ⟨_, fd20, F20, b20, g20⟩, ⟨_, fd21, F21, b21, g21⟩, ⟨_, fd22, F22, b22, g22⟩, ⟨_, fd23, F23, b23, g23⟩, ⟨_, fd24, F24, b24, g24⟩, ⟨_, fd25, F25, b25, g25⟩, ⟨_, fd26, F26, b26, g26⟩, ⟨_, fd27, F27, b27, g27⟩, ⟨_, fd28, F28, b28, g28⟩, ⟨_, fd29, F29, b29, g29⟩, ⟨_, fd30, F30, b30, g30⟩, ⟨_, fd31, F31, b31, g31⟩, ⟨_, fd32, F32, b32, g32⟩, ⟨_, fd33, F33, b33, g33⟩, ⟨_, fd34, F34, b34, g34⟩, ⟨_, fd35, F35, b35, g35⟩, ⟨_, fd36, F36, b36, g36⟩, ⟨_, fd37, F37, b37, g37⟩, ⟨_, fd38, F38, b38, g38⟩, ⟨_, fd39, F39, b39, g39⟩, He.free_ok X G (cd.fact 41 (f := .free "dict") rfl), He.free_ok X G (cd.fact 42 (f := .free "enumerate") rfl), He.free_ok X G (cd.fact 43 (f := .free "int") rfl), He.free_ok X G (cd.fact 44 (f := .free "len") rfl), He.free_ok X G (cd.fact 45 (f := .free "list") rfl), He.free_ok X G (cd.fact 46 (f := .free "max") rfl), He.free_ok X G (cd.fact 47 (f := .free "min") rfl), He.free_ok X G (cd.fact 48 (f := .free "range") rfl), He.free_ok X G (cd.fact 49 (f := .free "set") rfl), He.free_ok X G (cd.fact 50 (f := .free "sum") rfl), He.free_ok X G (cd.fact 51 (f := .free "tuple") rfl), He.free_ok X G (cd.fact 52 (f := .free "zip") rfl), ⟨_, He.glo_ok X G (cd.fact 53 (f := .glo "IN_RULE") rfl), fun H => He.tupB_ok ex0 H⟩, ⟨_, He.glo_ok X G (cd.fact 54 (f := .glo "OUT_RULE") rfl), fun H => He.tupB_ok ex1 H⟩⟩
  have e := hfa.symm.trans g40
  cases e
  have law_b : ∀ (s : Shared) (v : Value), BindsTo s fd40 ⟨[v], []⟩ [("_law_script", v)] := fun s v => by
    obtain ⟨_, _, _, _, _, _, _, _, _, rfl, _, _⟩ := F40.ex
    exact .of_eq rfl
  refine ⟨fd40, [He.cT K ("long_way", none)], sp_law K (He.cT K ("long_way", none)).2, fun p hp => ?_, fun p hp => ?_, fun p hp => ?_, law_b, fun H a ns hl _ hT hS => ⟨a, ns, rfl, hS, hl, (fun p hp => by rw [List.mem_singleton.mp hp]; exact LamX.TabS.nil (hT _ (List.mem_cons_self ..))), fun _ => rfl⟩, fun base _ _ TB => ?_⟩
  · have hin : ∀ p ∈ [He.cT K ("long_way", none)], ∃ q ∈ hTf, p = He.cT K q := fun p hp => by
      rcases List.mem_cons.mp hp with rfl | hp
      · exact ⟨_, List.mem_cons_self .., rfl⟩
      cases hp
    obtain ⟨q, hq, rfl⟩ := hin p hp
    exact c.empty _ hq
  · have hin : ∀ p ∈ [He.cT K ("long_way", none)], ∃ q ∈ hTf, p = He.cT K q := fun p hp => by
      rcases List.mem_cons.mp hp with rfl | hp
      · exact ⟨_, List.mem_cons_self .., rfl⟩
      cases hp
    obtain ⟨q, hq, rfl⟩ := hin p hp
    exact c.out _ hq
  · have hin : ∀ p ∈ [He.cT K ("long_way", none)], ∃ q ∈ hTf, p = He.cT K q := fun p hp => by
      rcases List.mem_cons.mp hp with rfl | hp
      · exact ⟨_, List.mem_cons_self .., rfl⟩
      cases hp
    obtain ⟨q, hq, rfl⟩ := hin p hp
    exact PySem.W.codeHd_of_K X (c.hd _ hq)
  have TB0 := TB _ (List.mem_cons_self ..)
  have TC0 := TB0
  haveI : TabL K mg base _ _ := ⟨TC0, fun f fd F m => by
    have e := m.symm.trans g22
    cases e
    obtain ⟨_, _, _, _, _, _, cdv, _, _, rfl, lk, ci⟩ := F.ex
    obtain ⟨c0, rfl⟩ := He.codeIn_ref ci
    exact congrArg Value.ref (He.codeOf_eq (p := ("long_way", none)) lk rfl).symm⟩
  exact ok_law F40 T
end Mine
open PySem PySem.W PySem.Calls PyProof.Rows
set_option maxRecDepth 100000 in
set_option maxHeartbeats 0 in
theorem PySem.Challenge.cw_beltshift_k70_whole_made_one_tells_the_s_holds : PySem.Challenge.rw_beltshift_k70_whole_made_one_tells_the_s.Holds := by
  w_on; o_law
  refine HandSHeadRun.head_any (r := Mine.hR) (q := view Mine.hR.prog [49]) (H := Mine.hk) (ob := Mine.hOb) (M := 40000) (loose := Mine.hNames) (d := HandSHeadRun.topDef Mine.hR.prog 49) (kwd := []) Mine.hOb_eq (by kernel_rfl) (fun s => by kernel_rfl) Mine.hRun (by kernel_rfl) (by kernel_rfl) (by kernel_rfl) (by rfl) (by first | assumption | decide +kernel) (by decide +kernel) ⟨rfl, rfl, rfl, rfl, rfl, by decide +kernel⟩ ?hw ?hc
  case hw => w_witness2
  case hc =>
    refine LamX.walk_ofTsE (l := PySem.Challenge.rw_beltshift_k70_whole_made_one_tells_the_s) (n := 63) (k := 8) (x := "_law_script") (CX := fun _ => L2.CX0) rfl (by decide) (by kernel_rfl) ⟨rfl, by decide, by decide⟩ ?F (fun _ _ _ _ _ z => z)
    intro w mg fa h Y G hmg0
    obtain ⟨K, KX, c⟩ := Y
    have hmg : mg ("law" : PySem.Str) = some (.ref fa) := by
      have e : (HandSHeadRun.topDef Mine.hR.prog 49).name = ("law" : PySem.Str) := by kernel_rfl
      rw [← e]
      exact hmg0
    exact ⟨K, KX, Mine.all_mkX KX G hmg c⟩
