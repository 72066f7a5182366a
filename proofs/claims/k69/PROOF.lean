import PyProof.Rows.All
import Wide.All
import OpenK.AllK
import Wide.FinOn
import HandS.ForMost
import HandS.DictComp
import HandS.Wide
import HandS.Style
import HandS.IsInst
import HandS.TupAny
import HandS.NoneIn
import HandS.SetFor
import HandS.Conv
import HandS.Zip
import HandS.SortKw
import HandS.Deep
import KE.DataMinMax
import KE.GoesMore
import KE.KDictZip
import KE.GoesZip
import KE.GoesEnum
import HandS.AnyAll
import HandS.GenOver
import HandS.Strs
import HandS.TupLen
import KE.KeyNested
import PyProof.Rows.TupTab
import HandS.TupMul
import HandS.Words
import HandS.EndTab
import HandS.HeadWalk
import HandS.Defaults
import HandS.Head0
import HandS.Head1
import HandS.Head2
import HandS.HeadEnd
import HandS.HeadHook1
import HandS.HeadHook2
import HandS.HeadHook3
import HandS.HeadHook4
import KE.KStateDown
import KE.KIsAll
import KE.KNestM
import PyProof.GenCompD
import PyProof.WalksMore
import PySem.Challenge.RW_beltshift_k69_hands_made_one
import HandS.Lambda
import KE.KLam
import KE.DataMinKey
import HandS.TryOnly
import HandS.ExcInit
import HandS.WordsExc
import HandS.ExcIs
import HandS.ExcField
import HandS.ExcOwn
set_option Elab.async false
set_option linter.all false
set_option maxRecDepth 100000
namespace Mine
open PySem PyProof.Rows L2
def topS (i : Nat) : Stmt := PySem.Challenge.pw_beltshift_k69_hands_made_one.main.body.getD i (.Pass ⟨0, 0, 0, 0⟩)
abbrev s_first_on_ring : Stmt := topS 4
abbrev N_first_on_ring : List Str := ["places", "steps", "place"]
theorem sc_first_on_ring : FnScope N_first_on_ring ["places", "steps"] (defScope s_first_on_ring) := ⟨rfl, rfl, rfl, by decide +kernel, rfl, by decide +kernel, by decide +kernel⟩
abbrev s_comes_back : Stmt := topS 5
abbrev N_comes_back : List Str := ["place", "steps", "seen", "left", "here"]
theorem sc_comes_back : FnScope N_comes_back ["place", "steps"] (defScope s_comes_back) := ⟨rfl, rfl, rfl, by decide +kernel, rfl, by decide +kernel, by decide +kernel⟩
abbrev s_is_whole : Stmt := topS 7
abbrev N_is_whole : List Str := ["thing"]
theorem sc_is_whole : FnScope N_is_whole ["thing"] (defScope s_is_whole) := ⟨rfl, rfl, rfl, by decide +kernel, rfl, by decide +kernel, by decide +kernel⟩
abbrev s_is_rule : Stmt := topS 11
abbrev N_is_rule : List Str := ["thing", "word"]
theorem sc_is_rule : FnScope N_is_rule ["thing"] (defScope s_is_rule) := ⟨rfl, rfl, rfl, by decide +kernel, rfl, by decide +kernel, by decide +kernel⟩
abbrev s_needs : Stmt := topS 12
abbrev N_needs : List Str := ["rule"]
theorem sc_needs : FnScope N_needs ["rule"] (defScope s_needs) := ⟨rfl, rfl, rfl, by decide +kernel, rfl, by decide +kernel, by decide +kernel⟩
abbrev s_look_room : Stmt := topS 16
abbrev N_look_room : List Str := ["room"]
theorem sc_look_room : FnScope N_look_room ["room"] (defScope s_look_room) := ⟨rfl, rfl, rfl, by decide +kernel, rfl, by decide +kernel, by decide +kernel⟩
abbrev s_refuse_room : Stmt := topS 17
abbrev N_refuse_room : List Str := ["word", "at"]
theorem sc_refuse_room : FnScope N_refuse_room ["word", "at"] (defScope s_refuse_room) := ⟨rfl, rfl, rfl, by decide +kernel, rfl, by decide +kernel, by decide +kernel⟩
abbrev s_is_tuple_of : Stmt := topS 18
abbrev N_is_tuple_of : List Str := ["thing", "many"]
theorem sc_is_tuple_of : FnScope N_is_tuple_of ["thing", "many"] (defScope s_is_tuple_of) := ⟨rfl, rfl, rfl, by decide +kernel, rfl, by decide +kernel, by decide +kernel⟩
abbrev s_has_form : Stmt := topS 19
abbrev N_has_form : List Str := ["room", "hands", "belts"]
theorem sc_has_form : FnScope N_has_form ["room"] (defScope s_has_form) := ⟨rfl, rfl, rfl, by decide +kernel, rfl, by decide +kernel, by decide +kernel⟩
abbrev s_is_hand_pair : Stmt := topS 20
abbrev N_is_hand_pair : List Str := ["hand"]
theorem sc_is_hand_pair : FnScope N_is_hand_pair ["hand"] (defScope s_is_hand_pair) := ⟨rfl, rfl, rfl, by decide +kernel, rfl, by decide +kernel, by decide +kernel⟩
abbrev s_is_belt_triple : Stmt := topS 21
abbrev N_is_belt_triple : List Str := ["belt"]
theorem sc_is_belt_triple : FnScope N_is_belt_triple ["belt"] (defScope s_is_belt_triple) := ⟨rfl, rfl, rfl, by decide +kernel, rfl, by decide +kernel, by decide +kernel⟩
abbrev s_wrong_hand : Stmt := topS 22
abbrev N_wrong_hand : List Str := ["room", "number", "rule", "moments"]
theorem sc_wrong_hand : FnScope N_wrong_hand ["room"] (defScope s_wrong_hand) := ⟨rfl, rfl, rfl, by decide +kernel, rfl, by decide +kernel, by decide +kernel⟩
abbrev s_wrong_belt : Stmt := topS 23
abbrev N_wrong_belt : List Str := ["room", "hands", "belts", "number", "giver", "taker", "things"]
theorem sc_wrong_belt : FnScope N_wrong_belt ["room"] (defScope s_wrong_belt) := ⟨rfl, rfl, rfl, by decide +kernel, rfl, by decide +kernel, by decide +kernel⟩
abbrev s_wrong_count : Stmt := topS 24
abbrev N_wrong_count : List Str := ["room", "number", "rule", "moments"]
theorem sc_wrong_count : FnScope N_wrong_count ["room"] (defScope s_wrong_count) := ⟨rfl, rfl, rfl, by decide +kernel, rfl, by decide +kernel, by decide +kernel⟩
abbrev s_hand_on_ring : Stmt := topS 25
abbrev N_hand_on_ring : List Str := ["room", "hands", "belts", "steps", "number", "giver", "taker", "things"]
theorem sc_hand_on_ring : FnScope N_hand_on_ring ["room"] (defScope s_hand_on_ring) := ⟨rfl, rfl, rfl, by decide +kernel, rfl, by decide +kernel, by decide +kernel⟩
abbrev s_comings : Stmt := topS 26
abbrev N_comings : List Str := ["room", "hand", "number", "belt"]
theorem sc_comings : FnScope N_comings ["room", "hand"] (defScope s_comings) := ⟨rfl, rfl, rfl, by decide +kernel, rfl, by decide +kernel, by decide +kernel⟩
abbrev s_kinds : Stmt := topS 28
abbrev N_kinds : List Str := ["room", "told", "hand", "rule", "moments", "before"]
theorem sc_kinds : FnScope N_kinds ["room"] (defScope s_kinds) := ⟨rfl, rfl, rfl, by decide +kernel, rfl, by decide +kernel, by decide +kernel⟩
abbrev s_numbered : Stmt := topS 29
abbrev N_numbered : List Str := ["marks", "numbers", "mark"]
theorem sc_numbered : FnScope N_numbered ["marks"] (defScope s_numbered) := ⟨rfl, rfl, rfl, by decide +kernel, rfl, by decide +kernel, by decide +kernel⟩
abbrev s_first_mark : Stmt := topS 30
abbrev N_first_mark : List Str := ["rule", "hand"]
theorem sc_first_mark : FnScope N_first_mark ["rule", "hand"] (defScope s_first_mark) := ⟨rfl, rfl, rfl, by decide +kernel, rfl, by decide +kernel, by decide +kernel⟩
abbrev s_mark_by : Stmt := topS 31
abbrev N_mark_by : List Str := ["room", "told", "hand", "belts", "number", "giver", "taker", "things"]
theorem sc_mark_by : FnScope N_mark_by ["room", "told", "hand"] (defScope s_mark_by) := ⟨rfl, rfl, rfl, by decide +kernel, rfl, by decide +kernel, by decide +kernel⟩
abbrev s_joined_alike : Stmt := topS 32
abbrev N_joined_alike : List Str := ["room", "told", "hands", "belts", "kind", "alike", "hand", "own", "number", "giver", "taker", "things"]
theorem sc_joined_alike : FnScope N_joined_alike ["room"] (defScope s_joined_alike) := ⟨rfl, rfl, rfl, by decide +kernel, rfl, by decide +kernel, by decide +kernel⟩
abbrev s_law_flow : Stmt := topS 34
abbrev N_law_flow : List Str := ["_law_script"]
theorem sc_law_flow : FnScope N_law_flow ["_law_script"] (defScope s_law_flow) := ⟨rfl, rfl, rfl, by decide +kernel, rfl, by decide +kernel, by decide +kernel⟩
abbrev s_law_pick : Stmt := topS 35
abbrev N_law_pick : List Str := ["_law_flow_here", "_law_many", "_law_cell", "_law_digit"]
theorem sc_law_pick : FnScope N_law_pick ["_law_flow_here", "_law_many"] (defScope s_law_pick) := ⟨rfl, rfl, rfl, by decide +kernel, rfl, by decide +kernel, by decide +kernel⟩
abbrev s_law_thing : Stmt := topS 36
abbrev N_law_thing : List Str := ["_law_flow_here"]
theorem sc_law_thing : FnScope N_law_thing ["_law_flow_here"] (defScope s_law_thing) := ⟨rfl, rfl, rfl, by decide +kernel, rfl, by decide +kernel, by decide +kernel⟩
abbrev s_law_needs : Stmt := topS 37
abbrev N_law_needs : List Str := ["_law_rule_here"]
theorem sc_law_needs : FnScope N_law_needs ["_law_rule_here"] (defScope s_law_needs) := ⟨rfl, rfl, rfl, by decide +kernel, rfl, by decide +kernel, by decide +kernel⟩
abbrev s_law_rule : Stmt := topS 38
abbrev N_law_rule : List Str := ["_law_flow_here", "_law_most", "_law_words", "_law_word"]
theorem sc_law_rule : FnScope N_law_rule ["_law_flow_here", "_law_most"] (defScope s_law_rule) := ⟨rfl, rfl, rfl, by decide +kernel, rfl, by decide +kernel, by decide +kernel⟩
abbrev s_law_shuffled : Stmt := topS 39
abbrev N_law_shuffled : List Str := ["_law_flow_here", "_law_some", "_law_left", "_law_k"]
theorem sc_law_shuffled : FnScope N_law_shuffled ["_law_flow_here", "_law_some"] (defScope s_law_shuffled) := ⟨rfl, rfl, rfl, by decide +kernel, rfl, by decide +kernel, by decide +kernel⟩
abbrev s_law_hands : Stmt := topS 40
abbrev N_law_hands : List Str := ["_law_flow_here", "_law_many", "_law_sorts", "_law_left", "_law_hands_here", "_law_k", "_law_sort", "_law_behind", "_law_other", "_law_rule_here"]
theorem sc_law_hands : FnScope N_law_hands ["_law_flow_here", "_law_many"] (defScope s_law_hands) := ⟨rfl, rfl, rfl, by decide +kernel, rfl, by decide +kernel, by decide +kernel⟩
abbrev s_law_room : Stmt := topS 41
abbrev N_law_room : List Str := ["_law_flow_here", "_law_most", "_law_hands_here", "_law_ranks", "_law_givers_here", "_law_k", "_law_takers", "_law_belts", "_law_to", "_law_one", "_law_trays"]
theorem sc_law_room : FnScope N_law_room ["_law_flow_here", "_law_most"] (defScope s_law_room) := ⟨rfl, rfl, rfl, by decide +kernel, rfl, by decide +kernel, by decide +kernel⟩
abbrev s_law_turned_room : Stmt := topS 42
abbrev N_law_turned_room : List Str := ["_law_flow_here", "_law_room_here", "_law_hands_here", "_law_belts", "_law_order", "_law_queues", "_law_belt", "_law_k", "_law_found", "_law_turn", "_law_some", "_law_one", "_law_to", "_law_things"]
theorem sc_law_turned_room : FnScope N_law_turned_room ["_law_flow_here", "_law_room_here"] (defScope s_law_turned_room) := ⟨rfl, rfl, rfl, by decide +kernel, rfl, by decide +kernel, by decide +kernel⟩
abbrev s_law_copied : Stmt := topS 43
abbrev N_law_copied : List Str := ["_law_flow_here", "_law_hands_here", "_law_belts", "_law_made", "_law_left", "_law_k", "_law_rule_here", "_law_moments", "_law_turn", "_law_found", "_law_to", "_law_one", "_law_old", "_law_things", "_law_some", "_law_j"]
theorem sc_law_copied : FnScope N_law_copied ["_law_flow_here"] (defScope s_law_copied) := ⟨rfl, rfl, rfl, by decide +kernel, rfl, by decide +kernel, by decide +kernel⟩
abbrev s_law_marred : Stmt := topS 44
abbrev N_law_marred : List Str := ["_law_flow_here", "_law_room_here", "_law_hands_here", "_law_belts", "_law_form", "_law_k", "_law_plain", "_law_same", "_law_rule_here", "_law_at", "_law_one", "_law_to", "_law_things", "_law_givers_here", "_law_j", "_law_spot"]
theorem sc_law_marred : FnScope N_law_marred ["_law_flow_here", "_law_room_here"] (defScope s_law_marred) := ⟨rfl, rfl, rfl, by decide +kernel, rfl, by decide +kernel, by decide +kernel⟩
abbrev s_law_lines : Stmt := topS 45
abbrev N_law_lines : List Str := ["_law_flow_here", "_law_other", "_law_many", "_law_number", "_law_things", "_law_k", "_law_hands_here", "_law_belts", "_law_first", "_law_place", "_law_at"]
theorem sc_law_lines : FnScope N_law_lines ["_law_flow_here"] (defScope s_law_lines) := ⟨rfl, rfl, rfl, by decide +kernel, rfl, by decide +kernel, by decide +kernel⟩
abbrev s_law_some_copied : Stmt := topS 46
abbrev N_law_some_copied : List Str := ["_law_flow_here", "_law_room_here"]
theorem sc_law_some_copied : FnScope N_law_some_copied ["_law_flow_here"] (defScope s_law_some_copied) := ⟨rfl, rfl, rfl, by decide +kernel, rfl, by decide +kernel, by decide +kernel⟩
abbrev s_law_alike : Stmt := topS 47
abbrev N_law_alike : List Str := ["_law_found", "_law_due", "_law_one", "_law_other"]
theorem sc_law_alike : FnScope N_law_alike ["_law_found", "_law_due"] (defScope s_law_alike) := ⟨rfl, rfl, rfl, by decide +kernel, rfl, by decide +kernel, by decide +kernel⟩
abbrev s_law_any_room : Stmt := topS 48
abbrev N_law_any_room : List Str := ["_law_flow_here", "_law_way", "_law_hands_here", "_law_k"]
theorem sc_law_any_room : FnScope N_law_any_room ["_law_flow_here"] (defScope s_law_any_room) := ⟨rfl, rfl, rfl, by decide +kernel, rfl, by decide +kernel, by decide +kernel⟩
abbrev s_law_givers : Stmt := topS 49
abbrev N_law_givers : List Str := ["_law_room_here", "_law_k", "_law_one", "_law_to", "_law_things"]
theorem sc_law_givers : FnScope N_law_givers ["_law_room_here", "_law_k"] (defScope s_law_givers) := ⟨rfl, rfl, rfl, by decide +kernel, rfl, by decide +kernel, by decide +kernel⟩
abbrev s_law_looks_alike : Stmt := topS 50
abbrev N_law_looks_alike : List Str := ["_law_room_here", "_law_j", "_law_k", "_law_one", "_law_things"]
theorem sc_law_looks_alike : FnScope N_law_looks_alike ["_law_room_here", "_law_j", "_law_k"] (defScope s_law_looks_alike) := ⟨rfl, rfl, rfl, by decide +kernel, rfl, by decide +kernel, by decide +kernel⟩
abbrev s_law_parting : Stmt := topS 51
abbrev N_law_parting : List Str := ["_law_room_here", "_law_many", "_law_givers_here", "_law_one", "_law_things", "_law_k", "_law_alike_here", "_law_j", "_law_more", "_law_pairs", "_law_pair", "_law_found", "_law_same"]
theorem sc_law_parting : FnScope N_law_parting ["_law_room_here"] (defScope s_law_parting) := ⟨rfl, rfl, rfl, by decide +kernel, rfl, by decide +kernel, by decide +kernel⟩
abbrev s_law_joined : Stmt := topS 52
abbrev N_law_joined : List Str := ["_law_room_here", "_law_numbers", "_law_hands_here", "_law_belts", "_law_kind", "_law_own", "_law_k", "_law_one", "_law_things"]
theorem sc_law_joined : FnScope N_law_joined ["_law_room_here"] (defScope s_law_joined) := ⟨rfl, rfl, rfl, by decide +kernel, rfl, by decide +kernel, by decide +kernel⟩
abbrev s_law : Stmt := topS 53
abbrev N_law : List Str := ["_law_script", "_law_flow_here", "_law_some", "_law_k", "_law_room_here", "_law_found"]
theorem sc_law : FnScope N_law ["_law_script"] (defScope s_law) := ⟨rfl, rfl, rfl, by decide +kernel, rfl, by decide +kernel, by decide +kernel⟩

/-- a def of the text stands, binds and is bound -/
def Dd (K : PySem.W.Frag) (mg : Str → Option Value) (name : Str) (st : Stmt) (ps : List Str) : Prop :=
  ∃ (f : Addr) (fd : FuncData), Fun K name name st f fd ∧ Binds K fd ps [] ∧ mg name = some (.ref f)
/-! ### the table of the rules -/
def eleven : List Str := ["same", "sum", "gap", "below", "most", "least", "pick", "times", "always", "in", "out"]
def needN (z : Str) : Int := if z = "always" ∨ z = "in" then 0 else if z = "same" ∨ z = "times" ∨ z = "out" then 1 else if z = "pick" then 3 else 2
structure NeedsAt (K : PySem.W.Frag) (w : World) (a : Addr) : Prop where
  dict : ∃ es n, KDict K w a es n
  yes : ∀ z ∈ eleven, ∃ t, PySem.W.nsIn K a z = some (some (.int (needN z) t))
structure Top (w : World) (K : PySem.W.Frag) (mg : Str → Option Value) : Prop where
  d_first_on_ring : Dd K mg "first_on_ring" s_first_on_ring ["places", "steps"]
  d_comes_back : Dd K mg "comes_back" s_comes_back ["place", "steps"]
  d_is_whole : Dd K mg "is_whole" s_is_whole ["thing"]
  d_is_rule : Dd K mg "is_rule" s_is_rule ["thing"]
  d_needs : Dd K mg "needs" s_needs ["rule"]
  d_look_room : Dd K mg "look_room" s_look_room ["room"]
  d_refuse_room : Dd K mg "refuse_room" s_refuse_room ["word", "at"]
  d_is_tuple_of : Dd K mg "is_tuple_of" s_is_tuple_of ["thing", "many"]
  d_has_form : Dd K mg "has_form" s_has_form ["room"]
  d_is_hand_pair : Dd K mg "is_hand_pair" s_is_hand_pair ["hand"]
  d_is_belt_triple : Dd K mg "is_belt_triple" s_is_belt_triple ["belt"]
  d_wrong_hand : Dd K mg "wrong_hand" s_wrong_hand ["room"]
  d_wrong_belt : Dd K mg "wrong_belt" s_wrong_belt ["room"]
  d_wrong_count : Dd K mg "wrong_count" s_wrong_count ["room"]
  d_hand_on_ring : Dd K mg "hand_on_ring" s_hand_on_ring ["room"]
  d_comings : Dd K mg "comings" s_comings ["room", "hand"]
  d_kinds : Dd K mg "kinds" s_kinds ["room"]
  d_numbered : Dd K mg "numbered" s_numbered ["marks"]
  d_first_mark : Dd K mg "first_mark" s_first_mark ["rule", "hand"]
  d_mark_by : Dd K mg "mark_by" s_mark_by ["room", "told", "hand"]
  d_joined_alike : Dd K mg "joined_alike" s_joined_alike ["room"]
  d_law_flow : Dd K mg "_law_flow" s_law_flow ["_law_script"]
  d_law_pick : Dd K mg "_law_pick" s_law_pick ["_law_flow_here", "_law_many"]
  d_law_thing : Dd K mg "_law_thing" s_law_thing ["_law_flow_here"]
  d_law_needs : Dd K mg "_law_needs" s_law_needs ["_law_rule_here"]
  d_law_rule : Dd K mg "_law_rule" s_law_rule ["_law_flow_here", "_law_most"]
  d_law_shuffled : Dd K mg "_law_shuffled" s_law_shuffled ["_law_flow_here", "_law_some"]
  d_law_hands : Dd K mg "_law_hands" s_law_hands ["_law_flow_here", "_law_many"]
  d_law_room : Dd K mg "_law_room" s_law_room ["_law_flow_here", "_law_most"]
  d_law_turned_room : Dd K mg "_law_turned_room" s_law_turned_room ["_law_flow_here", "_law_room_here"]
  d_law_copied : Dd K mg "_law_copied" s_law_copied ["_law_flow_here"]
  d_law_marred : Dd K mg "_law_marred" s_law_marred ["_law_flow_here", "_law_room_here"]
  d_law_lines : Dd K mg "_law_lines" s_law_lines ["_law_flow_here"]
  d_law_some_copied : Dd K mg "_law_some_copied" s_law_some_copied ["_law_flow_here"]
  d_law_alike : Dd K mg "_law_alike" s_law_alike ["_law_found", "_law_due"]
  d_law_any_room : Dd K mg "_law_any_room" s_law_any_room ["_law_flow_here"]
  d_law_givers : Dd K mg "_law_givers" s_law_givers ["_law_room_here", "_law_k"]
  d_law_looks_alike : Dd K mg "_law_looks_alike" s_law_looks_alike ["_law_room_here", "_law_j", "_law_k"]
  d_law_parting : Dd K mg "_law_parting" s_law_parting ["_law_room_here"]
  d_law_joined : Dd K mg "_law_joined" s_law_joined ["_law_room_here"]
  m_all : mg "all" = none
  m_bool : mg "bool" = none
  m_enumerate : mg "enumerate" = none
  m_int : mg "int" = none
  m_isinstance : mg "isinstance" = none
  m_len : mg "len" = none
  m_list : mg "list" = none
  m_max : mg "max" = none
  m_min : mg "min" = none
  m_range : mg "range" = none
  m_set : mg "set" = none
  m_str : mg "str" = none
  m_tuple : mg "tuple" = none
  m_zip : mg "zip" = none
  x_in : ∃ aI : Addr, mg "IN_RULE" = some (.ref aI) ∧ ∀ H : Hp, SqT K H aI [.str "in"]
  x_out : ∃ aO : Addr, mg "OUT_RULE" = some (.ref aO) ∧ ∀ H : Hp, SqT K H aO [.str "out"]
  x_with : ∃ aW : Addr, mg "WITH_NUMBER" = some (.ref aW) ∧ ∀ H : Hp, SqT K H aW [.str "times", .str "always"]
  x_needs : ∃ aN : Addr, mg "NEEDS" = some (.ref aN) ∧ NeedsAt K w aN

/-! ### heaps -/
def But (f : Addr) (H H' : Hp) : Prop := ∀ b o, H b = some o → b ≠ f → H' b = some o
theorem But.refl {f : Addr} {H : Hp} : But f H H := fun _ _ e _ => e
theorem But.trans {f : Addr} {H H1 H2 : Hp} (a : But f H H1) (b : But f H1 H2) : But f H H2 := fun x o e n => b x o (a x o e n) n
theorem But.upd {f : Addr} {H H1 : Hp} {o : HO} (a : But f H H1) : But f H (upd H1 f o) := fun x u e n => by rw [upd_ne n]; exact a x u e n
theorem But.new {f p : Addr} {H H1 : Hp} {o : HO} (a : But f H H1) (h : H1 p = none) : But f H (L2.upd H1 p o) := fun x u e n => by
  have e1 := a x u e n
  rw [upd_ne (ne_of_none e1 h)]
  exact e1
theorem same_new {H : Hp} {p : Addr} {o : HO} (h : H p = none) : Same H (upd H p o) := fun b u q => by rw [upd_ne (ne_of_none q h)]; exact q
theorem But.same {f : Addr} {H H1 H2 : Hp} (a : But f H H1) (b : Same H1 H2) : But f H H2 := fun x o e n => b x o (a x o e n)
theorem But.seqT {K : PySem.W.Frag} {f a : Addr} {H H1 : Hp} {xs : List V} (b : But f H H1) (h : SqT K H a xs) (n : a ≠ f) : SqT K H1 a xs := by
  rcases h with h | h
  · left
    rcases h with h | ⟨o, h⟩
    · exact .inl (b _ _ h n)
    · exact .inr ⟨o, b _ _ h n⟩
  · exact .inr h
/-- a comprehension without a test -/
theorem yes_in {σ : L2.St} {H : Hp} {A B : Hp → Prop} (h : A H) : tYes σ H (fun b H3 => if b = true then A H3 else B H3) := by
  show (if true = true then A H else B H)
  rw [if_pos rfl]
  exact h
/-! ### the draw -/
/-- the list of the law's draws at f, the script's copy at c -/
def Flow (H : Hp) (f c : Addr) : Prop := ∃ (ns : List Int) (i p q r : Int), H f = some (.lst [.ref c, .int i, .int p, .int q, .int r]) ∧ H c = some (.lst (ns.map V.int)) ∧ 0 ≤ i ∧ 0 ≤ p ∧ 0 ≤ q ∧ q < 2147483647
theorem Flow.new {H : Hp} {f c p : Addr} {o : HO} (h : Flow H f c) (n : H p = none) : Flow (upd H p o) f c := by
  obtain ⟨ns, i, a, q, r, e1, e2, e⟩ := h
  exact ⟨ns, i, a, q, r, same_new n _ _ e1, same_new n _ _ e2, e⟩
theorem Flow.ne {H : Hp} {f c p : Addr} (h : Flow H f c) (n : H p = none) : p ≠ f := by
  obtain ⟨ns, i, a, q, r, e1, _⟩ := h
  exact fun e => by rw [e, e1] at n; cases n
theorem Flow.nec {H : Hp} {f c p : Addr} (h : Flow H f c) (n : H p = none) : p ≠ c := by
  obtain ⟨ns, i, a, q, r, _, e1, _⟩ := h
  exact fun e => by rw [e, e1] at n; cases n
theorem Flow.lst {H : Hp} {f c p : Addr} {o : HO} (h : Flow H f c) (n1 : p ≠ f) (n2 : p ≠ c) : Flow (upd H p o) f c := by
  obtain ⟨ns, i, a, q, r, e1, e2, e⟩ := h
  exact ⟨ns, i, a, q, r, by rw [upd_ne n1.symm]; exact e1, by rw [upd_ne n2.symm]; exact e2, e⟩
theorem Flow.same {H H' : Hp} {f c : Addr} (h : Flow H f c) (s : Same H H') : Flow H' f c := by
  obtain ⟨ns, i, a, q, r, e1, e2, e⟩ := h
  exact ⟨ns, i, a, q, r, s _ _ e1, s _ _ e2, e⟩
theorem Flow.tup {H : Hp} {f c p : Addr} {xs : List V} (h : Flow H f c) (e : H p = some (.tup xs)) : p ≠ f := by
  obtain ⟨ns, i, a, q, r, e1, _⟩ := h
  exact ne_of e e1 (by intro z; cases z)
theorem at_ints {ns : List Int} {i : Int} (h0 : 0 ≤ i) (h1 : i < (ns.length : Int)) : ∃ v : Int, atI (ns.map V.int) i = some (.int v) := by
  have hk : i.toNat < ns.length := by omega
  have ek : i = ((i.toNat : Nat) : Int) := by omega
  have q : atI (ns.map V.int) ((i.toNat : Nat) : Int) = some (.int ns[i.toNat]) := atI_nat (by rw [List.getElem?_map, List.getElem?_eq_getElem hk]; rfl)
  rw [← ek] at q
  exact ⟨_, q⟩
/-- a block by less than it asks -/
theorem PSs.to {X : Cx} {ss : List Stmt} {t : TS} (h : PSs X ss t) (u : TS) (k : ∀ D σ H, u D σ H → t D σ H) : PSs X ss u := ⟨fun pins s σ H D I q => h.run pins s σ H D I (k D σ H q)⟩
theorem if_bl {b : Bool} {A B : Prop} (h1 : b = true → A) (h2 : b = false → B) : if b = true then A else B := by
  cases b
  · rw [if_neg Bool.false_ne_true]; exact h2 rfl
  · rw [if_pos rfl]; exact h1 rfl
/-! ### lists, two by two -/
inductive All2 {α β : Type} (R : α → β → Prop) : List α → List β → Prop
  | nil : All2 R [] []
  | cons {a b as bs} : R a b → All2 R as bs → All2 R (a :: as) (b :: bs)
theorem All2.imp {α β : Type} {R S : α → β → Prop} (h : ∀ a b, R a b → S a b) : ∀ {as bs}, All2 R as bs → All2 S as bs
  | _, _, .nil => .nil
  | _, _, .cons a b => .cons (h _ _ a) (All2.imp h b)
theorem All2.length {α β : Type} {R : α → β → Prop} : ∀ {as bs}, All2 R as bs → as.length = bs.length
  | _, _, .nil => rfl
  | _, _, .cons _ b => congrArg (· + 1) (All2.length b)
theorem All2.snoc {α β : Type} {R : α → β → Prop} {a b} (r : R a b) : ∀ {as bs}, All2 R as bs → All2 R (as ++ [a]) (bs ++ [b])
  | _, _, .nil => .cons r .nil
  | _, _, .cons h t => .cons h (All2.snoc r t)
theorem All2.get {α β : Type} {R : α → β → Prop} {as : List α} {bs : List β} (h : All2 R as bs) : ∀ {i : Nat} {b : β}, bs[i]? = some b → ∃ a, as[i]? = some a ∧ R a b := by
  induction h with
  | nil => intro i b e; cases e
  | cons r t ih =>
    intro i b e
    cases i with
    | zero => cases e; exact ⟨_, rfl, r⟩
    | succ i => exact ih e
theorem All2.getL {α β : Type} {R : α → β → Prop} {as : List α} {bs : List β} (h : All2 R as bs) : ∀ {i : Nat} {a : α}, as[i]? = some a → ∃ b, bs[i]? = some b ∧ R a b := by
  induction h with
  | nil => intro i b e; cases e
  | cons r t ih =>
    intro i b e
    cases i with
    | zero => cases e; exact ⟨_, rfl, r⟩
    | succ i => exact ih e
/-! ### tuples stay -/
def TK (H H' : Hp) : Prop := ∀ b xs, H b = some (.tup xs) → H' b = some (.tup xs)
theorem TK.refl {H : Hp} : TK H H := fun _ _ e => e
theorem TK.trans {H H1 H2 : Hp} (a : TK H H1) (b : TK H1 H2) : TK H H2 := fun x xs e => b x xs (a x xs e)
theorem TK.same {H H' : Hp} (s : Same H H') : TK H H' := fun x xs e => s _ _ e
theorem TK.new {H : Hp} {p : Addr} {o : HO} (n : H p = none) : TK H (upd H p o) := fun x xs e => same_new n _ _ e
theorem TK.lst {H : Hp} {p : Addr} {xs ys : List V} (h : H p = some (.lst xs)) : TK H (upd H p (.lst ys)) := fun x zs e => by
  rw [upd_ne (ne_of e h (by intro z; cases z))]
  exact e
theorem TK.but {H H' : Hp} {f c : Addr} (F : Flow H f c) (b : But f H H') : TK H H' := fun x xs e => b _ _ e (F.tup e)
theorem same_none {H H' : Hp} {p : Addr} (s : Same H H') (n : H' p = none) : H p = none := by
  cases e : H p with
  | none => rfl
  | some o => rw [s _ _ e] at n; cases n
theorem But.none {f p : Addr} {H H' : Hp} (b : But f H H') (n : H' p = Option.none) (h : p ≠ f) : H p = Option.none := by
  cases e : H p with
  | none => rfl
  | some o => rw [b _ _ e h] at n; cases n
theorem But.of {f : Addr} {H H' : Hp} (s : Same H H') : But f H H' := fun _ _ e _ => s _ _ e
/-- a list that was not there is written: what was stays -/
theorem But.own {f p : Addr} {H H1 : Hp} {o : HO} (a : But f H H1) (h : H p = Option.none) : But f H (L2.upd H1 p o) := fun x u e n => by
  rw [upd_ne (ne_of_none e h)]
  exact a x u e n
theorem Same.own {p : Addr} {H H1 : Hp} {o : HO} (a : Same H H1) (h : H p = Option.none) : Same H (L2.upd H1 p o) := fun x u e => by
  rw [upd_ne (ne_of_none e h)]
  exact a x u e
/-! ### loops over any iterator -/
theorem for_it {J : It} {n : Nat} {g : TG} {tb : TS} {D : Ends} {σ : L2.St} {H : Hp} (Pv : Nat → L2.St → Hp → Prop) (h0 : Pv 0 σ H) (go : ∀ i σ H, i < n → Pv i σ H → J.go i H) (st : ∀ σ H, Pv n σ H → J.stop n H)
    (hs : ∀ i x σ H H', i < n → Pv i σ H → J.yld i H x H' → g x σ H' fun σ2 H2 => tb { D with nx := Pv (i + 1), ct := Pv (i + 1), bk := D.nx } σ2 H2) (hd : ∀ σ H, Pv n σ H → D.nx σ H) :
    ∃ W : Nat → Nat → L2.St → Hp → Prop, (∃ m, W 0 m σ H) ∧ ∀ i m σ H, W i m σ H →
      (J.stop i H ∧ D.nx σ H) ∨ (J.go i H ∧ ∃ N : L2.St → Hp → Prop, (∀ σ' H', N σ' H' → ∃ m', m' < m ∧ W (i + 1) m' σ' H') ∧ ∀ x H', J.yld i H x H' → g x σ H' fun σ2 H2 => tb { D with nx := N, ct := N, bk := D.nx } σ2 H2) := by
  refine ⟨fun i m σ H => i + m = n ∧ Pv i σ H, ⟨n, by omega, h0⟩, fun i m σ H ⟨e, p⟩ => ?_⟩
  by_cases k : i < n
  · exact .inr ⟨go i σ H k p, Pv (i + 1), fun σ' H' p' => ⟨m - 1, by omega, by omega, p'⟩, fun x H' y => hs i x σ H H' k p y⟩
  · have z : i = n := by omega
    subst z
    exact .inl ⟨st σ H p, hd σ H p⟩
theorem lc_it {J : It} {n : Nat} {g : TG} {tt : TT} {te : TE} {vs : List Nat} {σ : L2.St} {H1 : Hp} {D : Addr} {Qd : Hp → Prop} (Pv : Nat → Hp → Prop) (h0 : Pv 0 (upd H1 D (.lst []))) (go : ∀ i H, i < n → Pv i H → J.go i H) (st : ∀ H, Pv n H → J.stop n H)
    (hs : ∀ i x H H', i < n → Pv i H → J.yld i H x H' → g x (wipe σ vs) H' fun σ2 H2 => wipe σ2 vs = wipe σ vs ∧ tt σ2 H2 fun b H3 =>
      if b = true then te σ2 H3 fun y H4 => ∃ acc, H4 D = some (.lst acc) ∧ acc.length < sizeLine ∧ Pv (i + 1) (upd H4 D (.lst (acc ++ [y]))) else Pv (i + 1) H3) (hd : ∀ H, Pv n H → Qd H) :
    ∃ W : Nat → Nat → Hp → Prop, (∃ m, W 0 m (upd H1 D (.lst []))) ∧ ∀ i m H, W i m H →
      (J.stop i H ∧ Qd H) ∨ (J.go i H ∧ ∃ Nx : Hp → Prop, (∀ H', Nx H' → ∃ m', m' < m ∧ W (i + 1) m' H') ∧ ∀ x H', J.yld i H x H' → g x (wipe σ vs) H' fun σ2 H2 => wipe σ2 vs = wipe σ vs ∧ tt σ2 H2 fun b H3 =>
        if b = true then te σ2 H3 fun y H4 => ∃ acc, H4 D = some (.lst acc) ∧ acc.length < sizeLine ∧ Nx (upd H4 D (.lst (acc ++ [y]))) else Nx H3) := by
  refine ⟨fun i m H => i + m = n ∧ Pv i H, ⟨n, by omega, h0⟩, fun i m H ⟨e, p⟩ => ?_⟩
  by_cases k : i < n
  · exact .inr ⟨go i H k p, Pv (i + 1), fun H' p' => ⟨m - 1, by omega, by omega, p'⟩, fun x H' y => hs i x H H' k p y⟩
  · have z : i = n := by omega
    subst z
    exact .inl ⟨st H p, hd H p⟩
/-! ### tests -/
theorem if_str {x z : Str} {A B : Prop} (h1 : x = z → A) (h2 : x ≠ z → B) : if decide (V.str x = V.str z) = true then A else B :=
  if_bl (fun e => h1 (V.str.inj (of_decide_eq_true e))) (fun e => h2 (fun q => of_decide_eq_false e (congrArg V.str q)))
theorem inV_strs {x : Str} {zs : List Str} : inV (.str x) (zs.map V.str) = true ↔ x ∈ zs := by
  unfold inV
  induction zs with
  | nil => simp
  | cons z zs ih =>
    rw [List.map_cons, List.any_cons, Bool.or_eq_true, ih, List.mem_cons]
    constructor
    · rintro (h | h)
      · exact .inl (by simpa [eqV] using (show (z == x) = true from h) |> fun k => (eq_of_beq k).symm)
      · exact .inr h
    · rintro (h | h)
      · exact .inl (show (z == x) = true by rw [h]; exact beq_self_eq_true z)
      · exact .inr h
theorem if_in {x : Str} {zs : List Str} {A B : Prop} (h1 : x ∈ zs → A) (h2 : x ∉ zs → B) : if (if false = true then !inV (.str x) (zs.map V.str) else inV (.str x) (zs.map V.str)) = true then A else B := by
  have e : (if false = true then !inV (.str x) (zs.map V.str) else inV (.str x) (zs.map V.str)) = inV (.str x) (zs.map V.str) := if_neg Bool.false_ne_true
  rw [e]
  exact if_bl (fun c => h1 (inV_strs.mp c)) (fun c => h2 (fun k => by rw [inV_strs.mpr k] at c; cases c))
theorem same_seqT {K : PySem.W.Frag} {a : Addr} {H H1 : Hp} {xs : List V} (b : Same H H1) (h : SqT K H a xs) : SqT K H1 a xs := by
  rcases h with h | h
  · left
    rcases h with h | ⟨o, h⟩
    · exact .inl (b _ _ h)
    · exact .inr ⟨o, b _ _ h⟩
  · exact .inr h
theorem little {n : Nat} (h : n ≤ 1000) : n ≤ sizeLine := Nat.le_of_lt (small1000 h)
/-! ### xs[i] op= e -/
def rGetL (K : PySem.W.Frag) : V → V → Hp → VK → Prop := fun o i H Q => ∃ (p : Addr) (xs : List V) (j : Nat) (v : V), o = .ref p ∧ i = .int (j : Nat) ∧ SqL K H p xs ∧ xs[j]? = some v ∧ Q v H
theorem get_list {X : Cx} : PGet X (rGetL X.K) := by
  intro pins st σ H o i ov iv Q J ro ri asked
  obtain ⟨p, xs, j, v, rfl, rfl, hq, hj, now⟩ := asked
  cases ro
  obtain ⟨t, rfl⟩ := ri
  obtain ⟨its, r, pl, hz⟩ := J.list hq
  obtain ⟨u, eu, ru⟩ := r.get hj
  have n1 := (List.getElem?_eq_some_iff.mp hj).1
  have n2 := line63
  exact wpAny_getItem_list pl.isList (by omega) (by omega) (by simpa using eu) ⟨v, H, J, ru, now⟩
/-! ### the same rules, the written part named (so that they fit within comprehensions) -/
section
variable {X : Cx}
theorem ix_listK (K : PySem.W.Frag) (h : X.K = K) : IxR X (rIxL K) := by subst h; exact ix_list
theorem ix_tupK (K : PySem.W.Frag) (h : X.K = K) : IxR X (rIxT K) := by subst h; exact ix_tup
def rLenK (K : PySem.W.Frag) : List V → Hp → VK → Prop := fun xs H Q => ∃ (p : Addr) (ys : List V), xs = [.ref p] ∧ (SqL K H p ys ∨ SqT K H p ys) ∧ Q (.int (ys.length : Nat)) H
theorem call_len_seqK (K : PySem.W.Frag) (h : X.K = K) : CallR X (.builtin "len") (rLenK K) := by subst h; exact call_len_seq
def rListOfK (K : PySem.W.Frag) : List V → Hp → VK → Prop := fun xs H Q => ∃ (p : Addr) (ys : List V), xs = [.ref p] ∧ (SqL K H p ys ∨ SqT K H p ys) ∧ ∀ l, H l = none → Q (.ref l) (upd H l (.lst ys))
theorem call_list_ofK (K : PySem.W.Frag) (h : X.K = K) : CallR X (.type "list") (rListOfK K) := by subst h; exact call_list_of
def rTupOfK (K : PySem.W.Frag) : List V → Hp → VK → Prop := fun xs H Q => ∃ (p : Addr) (ys : List V), xs = [.ref p] ∧ ((SqL K H p ys ∧ ∀ l, H l = none → Q (.ref l) (upd H l (.tup ys))) ∨ (SqT K H p ys ∧ Q (.ref p) H))
theorem call_tuple_ofK (K : PySem.W.Frag) (h : X.K = K) : CallR X (.type "tuple") (rTupOfK K) := by subst h; exact call_tuple_of
theorem op_in_seqK (K : PySem.W.Frag) (h : X.K = K) : OpR X (compareOp .In) (rIn K false) := by subst h; exact op_in_seq
theorem op_notIn_seqK (K : PySem.W.Frag) (h : X.K = K) : OpR X (compareOp .NotIn) (rIn K true) := by subst h; exact op_notIn_seq
theorem sl_listK (K : PySem.W.Frag) (h : X.K = K) : SlR X (rSlL K) := by subst h; exact sl_list
theorem sl_tupAK (K : PySem.W.Frag) (h : X.K = K) : SlR X (rSlA K) := by subst h; exact sl_tupA
theorem op_eqDK (K : PySem.W.Frag) (h : X.K = K) (hu : X.A.units + 64 < cLine) : OpR X (compareOp .Eq) (rEqD K) := by subst h; exact op_eqD hu
theorem op_neDK (K : PySem.W.Frag) (h : X.K = K) (hu : X.A.units + 64 < cLine) : OpR X (compareOp .NotEq) (rNeD K) := by subst h; exact op_neD hu
theorem call_isiKK (K : PySem.W.Frag) (h : X.K = K) : CallR X (.builtin "isinstance") (rIsi K) := by subst h; exact call_isi
theorem cr_allK (K : PySem.W.Frag) (h : X.K = K) (hc : X.calm = true) : CallR X (.builtin "all") (rAll K) := by subst h; exact cr_all hc
theorem cr_anyK (K : PySem.W.Frag) (h : X.K = K) (hc : X.calm = true) : CallR X (.builtin "any") (rAny K) := by subst h; exact cr_any hc
theorem cr_minKK (K : PySem.W.Frag) (h : X.K = K) (hc : X.calm = true) : CallR X (.builtin "min") (rMin K) := by subst h; exact cr_min hc
theorem cr_maxKK (K : PySem.W.Frag) (h : X.K = K) (hc : X.calm = true) : CallR X (.builtin "max") (rMax K) := by subst h; exact cr_max hc
def tTruK (K : PySem.W.Frag) (ta : TE) : TT := fun σ H Q => ta σ H fun x H' => ∃ k, TruV K x H' k ∧ Q k H'
theorem pt_truthK (K : PySem.W.Frag) (h : X.K = K) {a : Expr} {ta : TE} (ha : PE X a ta) (he : ∀ whole, isTrue a X.env whole = (do let v ← whole; standAt a.pos; holding [v] (truthy v))) : PT X a (tTruK K ta) := by subst h; exact pt_truth ha he
theorem get_listK (K : PySem.W.Frag) (h : X.K = K) : PGet X (rGetL K) := by subst h; exact get_list
theorem pg_tupK (K : PySem.W.Frag) (h : X.K = K) {es : List Expr} {k n : Nat} {t : TGs} {pos : Pos} (hc : X.calm = true) (g : PGs X es t)
    (hn : (assignEach es X.env).length = n := by rfl) (hst : (assignEach es X.env).findIdx? (·.1) = none := by rfl) : PG X (.Tuple es k pos) (gTup K n t) := by subst h; exact pg_tup hc g hn hst
theorem pg_unlK (K : PySem.W.Frag) (h : X.K = K) {es : List Expr} {k n : Nat} {t : TGs} {pos : Pos} (hc : X.calm = true) (g : PGs X es t)
    (hn : (assignEach es X.env).length = n := by rfl) (hst : (assignEach es X.env).findIdx? (·.1) = none := by rfl) : PG X (.Tuple es k pos) (gUnl K n t) := by subst h; exact pg_unl hc g hn hst
theorem pi_listK (K : PySem.W.Frag) (h : X.K = K) {tg e : Expr} {te : TE} (he : PE X e te) : PI X tg e (iList K te) := by subst h; exact pi_list he
theorem pi_tupK (K : PySem.W.Frag) (h : X.K = K) {tg e : Expr} {te : TE} (he : PE X e te) : PI X tg e (iTup K te) := by subst h; exact pi_tup he
theorem pe_revLK (K : PySem.W.Frag) (h : X.K = K) {e : Expr} {te : TE} {k : Nat} {p1 p2 p3 pos : Pos} (he : PE X e te) : PE X (.Subscript e (.Slice none none (some (.UnaryOp .USub (.Constant (.int 1) k p1) p2)) p3) pos) (tRevL K te) := by subst h; exact pe_revL he
theorem pe_bmK (K : PySem.W.Frag) (h : X.K = K) {o e : Expr} {es : List Expr} {to : TE} {t : TA} {name : Str} {apos cpos : Pos} {T id : String} {r : V → List V → Hp → VK → Prop}
    (pa : PlainAttrs T) (slot : Slot T name id) (hty : typeOf (.builtin id) = pure (.type "method_descriptor")) (hm : MtR X id r) (ho : PE X o to) (ha : PA X (e :: es) t)
    (n1 : attributeBase o name X.env (eval o X.env) = eval o X.env := by rfl)
    (n2 : ((backTo cpos (starEach (e :: es) X.env)).all (fun x => !x.1) && (backToKw cpos (keywordEach [] X.env)).all (fun x => x.1.isSome) && decide ((e :: es).length + ([] : List Keyword).length + (if ([] : List Keyword).isEmpty then 0 else 1) < 30)) = true := by rfl)
    (n3 : (apos.endLine == cpos.line) = true := by rfl) (n4 : starEach (e :: es) X.env = (false, eval e X.env) :: starEach es X.env := by rfl) (n5 : (backTo cpos (starEach es X.env)).any (·.1) = false := by rfl) :
    PE X (.Call (.Attribute o name apos) (e :: es) [] cpos) (tBM K T r to t) := by subst h; exact pe_bm pa slot hty hm ho ha n1 n2 n3 n4 n5
theorem pe_bm0K (K : PySem.W.Frag) (h : X.K = K) {o : Expr} {to : TE} {name : Str} {apos cpos : Pos} {T id : String} {r : V → List V → Hp → VK → Prop}
    (pa : PlainAttrs T) (slot : Slot T name id) (hty : typeOf (.builtin id) = pure (.type "method_descriptor")) (hm : MtR X id r) (ho : PE X o to)
    (n1 : attributeBase o name X.env (eval o X.env) = eval o X.env := by rfl) (n3 : (apos.endLine == cpos.line) = true := by rfl) : PE X (.Call (.Attribute o name apos) [] [] cpos) (tBM0 K T r to) := by subst h; exact pe_bm0 pa slot hty hm ho n1 n3
theorem op_catAK (K : PySem.W.Frag) (h : X.K = K) : OpR X (binaryOp .Add) (rCatA K) := by subst h; exact op_catA
theorem call_isiTK (K : PySem.W.Frag) (h : X.K = K) : CallR X (.builtin "isinstance") (rIsiT K) := by subst h; exact call_isiT
theorem pi_zipAK (K : PySem.W.Frag) (h : X.K = K) {e e2 : Expr} {ta : TA} {p pos tpos : Pos} {elts : List Expr} {kk : Nat} (hg : Gl X "zip") (hm : X.mg "zip" = none) (ha : PA X [e, e2] ta)
    (hs : starEach [e, e2] X.env = (false, eval e X.env) :: starEach [e2] X.env := by rfl) (hpl : (backTo pos (starEach [e2] X.env)).any (·.1) = false := by rfl) :
    PI X (.Tuple elts kk tpos) (.Call (.Name "zip" p) [e, e2] [] pos) (RZ.iZipA K ta) := by subst h; exact RZ.pi_zipA hg hm ha hs hpl
theorem pi_or {tg e : Expr} {t1 t2 : TI} (h1 : PI X tg e t1) (h2 : PI X tg e t2) : PI X tg e (fun σ H R => t1 σ H R ∨ t2 σ H R) := ⟨fun pins s σ H R I h => h.elim (h1.run pins s σ H R I) (h2.run pins s σ H R I)⟩
theorem pe_fldK (K : PySem.W.Frag) (h : X.K = K) {e : Expr} {ta : TE} {f : Str} {pos : Pos} (he : PE X e ta) (hb : attributeBase e f X.env (eval e X.env) = eval e X.env) : PE X (.Attribute e f pos) (tFld K ta f) := by subst h; exact pe_fld he hb
theorem ps_fldK (K : PySem.W.Frag) (h : X.K = K) {o value : Expr} {ta tv : TE} {f : Str} {pos pos' : Pos} (ha : PE X o ta) (hv : PE X value tv) (hs : swapsWith value (some (.Attribute o f pos')) pos.line X.env = pure false) : PS X (.Assign [.Attribute o f pos'] value pos) (sFld K ta tv f) := by subst h; exact ps_fld ha hv hs
theorem ps_fldaugK (K : PySem.W.Frag) (h : X.K = K) {o value : Expr} {ta tv : TE} {f : Str} {pos tpos : Pos} {op : Operator} {rd : V → V → Hp → VK → Prop} (ha : PE X o ta) (hv : PE X value tv) (hop : InOp X op rd) : PS X (.AugAssign (.Attribute o f tpos) op value pos) (sFldAug K ta tv rd f) := by subst h; exact ps_fldaug ha hv hop
end
section
variable {X : Cx}
theorem cr_sumK (K : PySem.W.Frag) (h : X.K = K) (hc : X.calm = true) : CallR X (.builtin "sum") (rSum K) := by subst h; exact cr_sum hc
end
section
variable {X : Cx}
theorem op_ltTK (K : PySem.W.Frag) (h : X.K = K) (hu : X.A.units < cLine) : OpR X (compareOp .Lt) (rLtT K) := by subst h; exact op_ltT hu
end
section
variable {X : Cx}
theorem cr_sortedRevK (K : PySem.W.Frag) (h : X.K = K) {b : Bool} : CallRK X (.builtin "sorted") [Str.ofString "reverse"] (rSortedKw K b [.bl b]) := by subst h; exact cr_sortedRev
theorem op_inDK (K : PySem.W.Frag) (h : X.K = K) (hu : X.A.units + 65 < cLine) : OpR X (compareOp .In) (rInD K) := by subst h; exact op_inD hu
end
theorem hu65 {A : Around} {k : Nat} (hr : Room k A) : A.units + 65 < cLine := by have := hr.un; omega
section
variable {X : Cx}
/-- x not in t, t a tuple of data of any depth -/
def rNotInDT (K : PySem.W.Frag) : R2 := fun x y H Q => ∃ d ds, Dp K H x d ∧ Dp K H y (.tuple ds) ∧ SeqAt.shaped d = true ∧ SeqAt.shaped (.tuple ds) = true ∧ Q (.bl (!ds.any fun z => PyData.eqv z d)) H
theorem op_notInDTK (K : PySem.W.Frag) (same : X.K = K) (room : X.A.units + 65 < cLine) : OpR X (compareOp .NotIn) (rNotInDT K) := by
  subst same
  intro pins st σ H one many ov mv Q J ro rm asked
  have ⟨d, ds, dpO, dpM, shO, shM, done⟩ := asked
  have ⟨_, readO⟩ := Dp.reads J d one ov dpO ro
  have ⟨_, readM⟩ := Dp.reads J (.tuple ds) many mv dpM rm
  exact SeqAt.notIn_tuple_reads readM readO (SeqAt.canLay_of_shaped shM) (SeqAt.canLay_of_shaped shO) (room_in_shaped shO room) ⟨.bl _, H, J, rfl, done⟩
end
section
variable {X : Cx}
/-- x in t, t a tuple of data of any depth -/
def rInDT (K : PySem.W.Frag) : R2 := fun x y H Q => ∃ d ds, Dp K H x d ∧ Dp K H y (.tuple ds) ∧ SeqAt.shaped d = true ∧ SeqAt.shaped (.tuple ds) = true ∧ Q (.bl (ds.any fun z => PyData.eqv z d)) H
theorem op_inDTK (K : PySem.W.Frag) (same : X.K = K) (room : X.A.units + 65 < cLine) : OpR X (compareOp .In) (rInDT K) := by
  subst same
  intro pins st σ H one many ov mv Q J ro rm asked
  have ⟨d, ds, dpO, dpM, shO, shM, done⟩ := asked
  have ⟨_, readO⟩ := Dp.reads J d one ov dpO ro
  have ⟨_, readM⟩ := Dp.reads J (.tuple ds) many mv dpM rm
  exact SeqAt.in_tuple_reads readM readO (SeqAt.canLay_of_shaped shM) (SeqAt.canLay_of_shaped shO) (room_in_shaped shO room) ⟨.bl _, H, J, rfl, done⟩
end
/-! ### for i, x in enumerate(t), t a tuple -/
section
open Sem (wp)
open AutoSeq1 (wpAny_loadPart')
theorem enum_of_tup (t : Addr) (its : Array Value) (n : Nat) (dct : Option Addr) (sl : Array (Option Value)) :
    Meets (Builtin.«enumerate.__new__» ⟨[.type "enumerate", .ref t], []⟩) (fun _ R st => st.heap.get? t = some { cls := .type "tuple", dict := dct, data := .seq its n, slots := sl } ∧
      R (.ok (.ret (.ref (st.heap.push { cls := .type "tuple_iterator", data := .fields #[.ref t, .int 0 0] }).objs.size)))
        { st with heap := (st.heap.push { cls := .type "tuple_iterator", data := .fields #[.ref t, .int 0 0] }).push { cls := .type "enumerate", data := .fields #[.none, .bool false, .ref st.heap.objs.size, rawInt 0, .none, .none] } }) :=
  .of_wp fun prog w A R st asked => by
    obtain ⟨hp, g, d, tk, os⟩ := st; obtain ⟨at_, asked⟩ := asked
    have sub := sub_enumerate
    have hT : Heap.IsTuple (Shared.heap ⟨hp, g, d, tk, os⟩) t its := ⟨_, at_, rfl, n, rfl⟩
    wp_walk using wpAny_loadPart' at_
    refine wpAny_stack_any fun stk => wpAny_pure ?_
    split
    · rename_i c _ _ _ _ _
      cases (c == Value.type "enumerate")
      · wp_walk using wpAny_loadPart' at_, wpAny_pyIter_tuple hT
        exact ⟨_, rfl, asked⟩
      · wp_walk using wpAny_loadPart' at_, wpAny_pyIter_tuple hT
        exact ⟨_, rfl, asked⟩
    · wp_walk using wpAny_loadPart' at_, wpAny_pyIter_tuple hT
      exact ⟨_, rfl, asked⟩
theorem call_enum_tup {prog : Program} {w : World} {A : Around} {E : Value → Shared → Prop} {st : Shared} {t : Addr} {its : Array Value} {Q : Value → Shared → Prop} (hT : st.heap.IsTuple t its)
    (now : ∀ h', IsEnum h' (st.heap.objs.size + 1) st.heap.objs.size 0 .none → h'.IsTupleIter st.heap.objs.size t 0 → h'.objs.size = st.heap.objs.size + 2 →
      (∀ b o, st.heap.get? b = some o → h'.get? b = some o) → Q (.ref (st.heap.objs.size + 1)) { st with heap := h' }) :
    wpAny (model prog w) A (call (.type "enumerate") [.ref t]) Q E st := by
  obtain ⟨⟨c, dct, dt, sl⟩, at_, hc, n, hd⟩ := hT
  replace hc : c = .type "tuple" := hc
  replace hd : dt = .seq its n := hd
  subst hc hd
  refine callType_new F.called_enumerate (by decide) (F.typeCall_enumerate_1 _) (F.newCall_enumerate_1 _) (fun obj => F.args_object_init_2 obj _) F.entry_enumerate_new (enum_of_tup t its n dct sl) ⟨at_, ?_⟩
  have size1 : (st.heap.push { cls := .type "tuple_iterator", data := .fields #[.ref t, .int 0 0] }).objs.size = st.heap.objs.size + 1 := Heap.size_push ..
  show _ ∧ _
  rw [size1]
  have made := Heap.get?_push_size (st.heap.push { cls := .type "tuple_iterator", data := .fields #[.ref t, .int 0 0] }) (o := { cls := .type "enumerate", data := .fields #[.none, .bool false, .ref st.heap.objs.size, rawInt 0, .none, .none] }) rfl
  rw [size1] at made
  exact ⟨⟨_, made, rfl⟩, now _ made ⟨_, Heap.get?_push_of_some _ (Heap.get?_push_size _ rfl), rfl, rfl⟩ (by rw [Heap.size_push, size1]) fun b o e => Heap.get?_push_of_some _ (Heap.get?_push_of_some _ e)⟩
end
/-- the tuple at a, each item in a new pair -/
def IteT (K : PySem.W.Frag) (a : Addr) (xs : List V) : It :=
  ⟨fun i H => SqT K H a xs ∧ i < xs.length, fun i H v H' => ∃ T x, v = .ref T ∧ H T = none ∧ H' = upd H T (.tup [.int (i : Nat), x]) ∧ xs[i]? = some x, fun i H => SqT K H a xs ∧ i = xs.length⟩
theorem turn_enumT {P : Program} {w : World} {K : PySem.W.Frag} {elts : List Expr} {kk : Nat} {tpos : Pos} (a e it : Addr) (xs : List V) :
    Turn P w K (.Tuple elts kk tpos) (IteT K a xs) [e, it] e (fun i h => (∃ old, IsEnum h e it ((i : Nat) : Int) old) ∧ h.IsTupleIter it a i ∧ e ≠ it ∧ a ≠ it ∧ a ≠ e) where
  mem := by simp
  obj := fun i h st b hb => by
    obtain ⟨⟨old, he⟩, ⟨o, ho, hc, hd⟩, _⟩ := st
    have either : b = e ∨ b = it := by simpa using hb
    rcases either with z | z
    · rw [z]; exact ⟨_, he, fun v q => nomatch q⟩
    · rw [z]; exact ⟨o, ho, fun v q => by rw [hd] at q; cases q⟩
  keep := fun i h h' st k => let ⟨⟨old, he⟩, hi, apart⟩ := st; ⟨⟨old, k e (by simp) _ he⟩, hi.at fun o q => k it (by simp) o q, apart⟩
  item := by
    intro X hP hw hK hc i pins st σ H E J hf stt going
    subst hP hw hK
    obtain ⟨⟨old, he⟩, hit, n1, n2, n3⟩ := stt
    obtain ⟨hq, hi⟩ := going
    obtain ⟨its, rv, tup, hz⟩ := J.tuple hq
    have len := rv.length
    have el : e < st.heap.objs.size := Heap.lt_size he
    have il : it < st.heap.objs.size := by obtain ⟨_, q, _⟩ := hit; exact Heap.lt_size q
    have D := Draws.tuple (prog := X.prog) (w := X.w) (A := X.A.in1) (J.ok.hd hc) it a n2 its.toArray
    refine wpAny_pyNext_enum_itemD D he ⟨hit, tup⟩ (by rw [List.size_toArray]; omega) n1 (by simp [n1, n3.symm]) fun u h' tk px out stt' new size kp => ?_
    refine ⟨_, rfl, wpAny_letOwnedTupleGo_enum (s := { st with heap := h', toks := tk + 1 }) out fun h'' he' sb => ?_⟩
    obtain ⟨x, hx⟩ : ∃ x, xs[i]? = some x := ⟨_, List.getElem?_eq_getElem hi⟩
    obtain ⟨u', hu', ru⟩ := rv.get hx
    have eu : u' = u := by
      have px : its.toArray[i]? = some u := px
      rw [List.getElem?_toArray, hu'] at px
      exact Option.some.inj px
    subst eu
    have there : h''.get? st.heap.objs.size = some { cls := .type "tuple", data := .seq #[.int i tk, u'] } := (sb.2 _ (Nat.ne_of_gt el)).trans new
    have ok2 : ObjOk X.prog X.w (upd H st.heap.objs.size (.tup [.int (i : Nat), x])) h'' st.heap.objs.size (.tup [.int (i : Nat), x]) :=
      ⟨by show 2 ≤ sizeLine; decide, [.int i tk, u'], .cons ⟨_, rfl⟩ (.cons ru .nil), ⟨_, there, rfl, _, rfl⟩⟩
    have J1 : Inv X pins σ (upd H st.heap.objs.size (.tup [.int (i : Nat), x])) { st with heap := h'', toks := tk + 1 } :=
      J.turnedNew (ch := [e, it]) (fun b ob hb q => (sb.2 b (fun z => hb (by simp [z]))).trans (kp b ob (fun z => hb (by simp [z])) (fun z => hb (by simp [z])) q)) hf (Nat.le_refl _) ok2
    refine ⟨.ref st.heap.objs.size, _, J1, rfl, ⟨_, x, rfl, J.hok.fresh (Nat.le_refl _), rfl, hx⟩, ⟨⟨u', ?_⟩, stt'.1.at fun o q => (sb.2 it (Ne.symm n1)).trans q, n1, n2, n3⟩, fun b hb => ?_⟩
    · rw [show ((i + 1 : Nat) : Int) = (i : Int) + 1 by omega]
      exact he'
    · have bl : b < st.heap.objs.size := by
        have either : b = e ∨ b = it := by simpa using hb
        rcases either with z | z
        · rw [z]; exact el
        · rw [z]; exact il
      rw [upd_ne (Nat.ne_of_lt bl)]
      exact (hf b hb).1
  done := by
    intro X hP hw hK hc i pins st σ H E J hf stt over
    subst hP hw hK
    obtain ⟨⟨old, he⟩, hit, n1, n2, n3⟩ := stt
    obtain ⟨hq, hi⟩ := over
    obtain ⟨its, rv, tup, hz⟩ := J.tuple hq
    obtain ⟨f0, f1, f2, f3, f4, f5⟩ := hf it (by simp)
    have len := rv.length
    have D := Draws.tuple (prog := X.prog) (w := X.w) (A := X.A.in1) (J.ok.hd hc) it a n2 its.toArray
    have ei : its.toArray.size = i := by rw [List.size_toArray]; omega
    exact wpAny_pyNext_enum_endD D he ⟨by rw [ei]; exact hit, tup⟩ fun h' eb => ⟨rfl, J.turned (t' := st.toks) (fun b o hb q => eb b o hb q) f0 f1 f3 f4 f5⟩
  self := fun A i st Q E stt now => let ⟨⟨_, he⟩, _⟩ := stt; wpAny_pyIter_enum he now
def iEnumT (K : PySem.W.Frag) (ta : TA) : TI := fun σ H R => ta σ H fun vs H1 => ∃ a xs, vs = [.ref a] ∧ SqT K H1 a xs ∧ R (IteT K a xs) H1
theorem pi_enumT (K : PySem.W.Frag) {X : Cx} (hk : X.K = K) {e : Expr} {ta : TA} {p pos tpos : Pos} {elts : List Expr} {kk : Nat} (hg : Gl X "enumerate") (hm : X.mg "enumerate" = none) (ha : PA X [e] ta) (hs : starEach [e] X.env = [(false, eval e X.env)] := by rfl) :
    PI X (.Tuple elts kk tpos) (.Call (.Name "enumerate" p) [e] [] pos) (iEnumT K ta) := by
  subst hk
  refine ⟨fun pins st σ H R J asked => ?_⟩
  refine Call_ (ld_blt J hg hm boot_enumerate (PyProof.Rows.callWith_type1 (thn (ha.run pos pins st σ H _ J asked) fun us st1 ⟨vs, H1, J1, rel, now⟩ => ?_) hs rfl))
  obtain ⟨a, xs, ex, hq, now⟩ := now
  subst ex
  obtain ⟨u, rfl, ru⟩ := vals1 rel
  obtain rfl : u = Value.ref a := ru
  obtain ⟨its, rv, tup, hz⟩ := J1.tuple hq
  have al : a < st1.heap.objs.size := by obtain ⟨o, ho, _⟩ := tup; exact Heap.lt_size ho
  refine call_enum_tup tup fun h' he hit size kp => wpAny_pyIter_enum he ?_
  have J2 : Inv X pins σ H1 { st1 with heap := h' } := J1.kept (t' := st1.toks) kp
  refine ⟨st1.heap.objs.size + 1, [st1.heap.objs.size + 1, st1.heap.objs.size], _, _, H1, rfl, J2, turn_enumT a (st1.heap.objs.size + 1) st1.heap.objs.size xs, ⟨⟨.none, he⟩, hit, Nat.succ_ne_self _, Nat.ne_of_lt al, Nat.ne_of_lt (Nat.lt_succ_of_lt al)⟩, fun b hb => ?_, now⟩
  have either : b = st1.heap.objs.size + 1 ∨ b = st1.heap.objs.size := by simpa using hb
  have low : st1.heap.objs.size ≤ b := by
    rcases either with z | z
    · rw [z]; exact Nat.le_add_right _ _
    · rw [z]; exact Nat.le_refl _
  exact J1.fpOk low (J1.hok.fresh low)
theorem pi_enumK (K : PySem.W.Frag) (h : X.K = K) {e : Expr} {ta : TA} {p pos tpos : Pos} {elts : List Expr} {kk : Nat} (hg : Gl X "enumerate") (hm : X.mg "enumerate" = none) (ha : PA X [e] ta) (hs : starEach [e] X.env = [(false, eval e X.env)] := by rfl) :
    PI X (.Tuple elts kk tpos) (.Call (.Name "enumerate" p) [e] [] pos) (iEnum K ta) := by subst h; exact pi_enum hg hm ha hs
/-! ### dict(zip(xs, ys)), xs a list, ys a tuple -/
section
open Sem (wp)
variable {prog : Program} {w : World} {A : Around} {E : Value → Shared → Prop} {st : Shared} {z TI TO T i1 i2 : Addr} {fp1 fp2 : List Addr} {n1 n2 i : Nat} {P1 P2 : Nat → Value → Prop} {S1 S2 : Nat → Heap → Prop} {f : Bool} {oT : Obj}
theorem out_next (S : ZipSep2 z TI TO i1 i2 fp1 fp2) (D1 : Draws prog w A i1 fp1 n1 P1 S1) (D2 : Draws prog w A i2 fp2 n2 P2 S2) {Q : Value → Shared → Prop}
    (out : IsZipHeld st.heap z TI TO T f) (hT : st.heap.get? T = some oT) (both : IsTupOf2 st.heap TI (.ref i1) (.ref i2)) (at1 : S1 i st.heap) (at2 : S2 i st.heap) (l1 : i < n1) (l2 : i < n2)
    (now : ∀ x y h' tk, P1 i x → P2 i y → IsZipHeld h' z TI TO T true → S1 (i + 1) h' → S2 (i + 1) h' → IsTupOf2 h' st.heap.objs.size x y → (∀ c o, c ≠ z → c ≠ i1 → c ≠ i2 → st.heap.get? c = some o → h'.get? c = some o) → Q (.ref st.heap.objs.size) { st with heap := h', toks := tk }) :
    wpAny (model prog w) A (Builtin.«zip.__next__» ⟨[.ref z], []⟩) (fun fin s' => ∃ v, fin = .done (.ret v) ∧ Q v s') E st := by
  obtain ⟨hp, g, d, tk0, os⟩ := st
  show wpAny _ _ (field (.ref z) 2 >>= _) _ _ _; refine wpAny_bind (wpAny_field out rfl (x := .bool false) rfl ?_)
  show wpAny _ _ (field (.ref z) 3 >>= _) _ _ _; refine wpAny_bind (wpAny_field out rfl (x := .ref TI) rfl ?_)
  refine wpAny_bind (wpAny_seqItems both rfl ?_); show wpAny _ _ (Builtin.SmallTypes.ownedTupleIsFree (.ref z) >>= _) _ _ _
  refine wpAny_bind (wpAny_tupleHeld_zip out hT fun g1 out1 b1 => ?_)
  replace b1 : Heap.SameBut z hp g1 := b1
  simp only [Bool.false_eq_true, if_false]; refine wpAny_bind ?_; rw [← Array.forIn_toList]; simp only [List.forIn_cons, List.forIn_nil]
  refine wpAny_bind (wpAny_bind (wpAny_holding ?_)); show wpAny _ _ (Builtin.SmallTypes.nextOf (.ref i1) >>= _) _ _ ⟨g1, g, d, tk0, os⟩
  refine wpAny_bind (D1.item i _ _ _ l1 (D1.over at1 b1 S.zf1) fun x g2 tk1 px n1' b2 => wpAny_pure ?_)
  replace b2 : Heap.SameBut i1 g1 g2 := b2
  refine wpAny_pure ?_; refine wpAny_bind (wpAny_bind (wpAny_holding ?_)); show wpAny _ _ (Builtin.SmallTypes.nextOf (.ref i2) >>= _) _ _ ⟨g2, g, d, tk1, os⟩
  refine wpAny_bind (D2.item i _ _ _ l2 (D2.over (D2.over at2 b1 S.zf2) b2 S.sep1_2) fun y g3 tk2 py n2' b3 => wpAny_pure ?_)
  replace b3 : Heap.SameBut i2 g2 g3 := b3
  refine wpAny_pure (wpAny_pure ?_); show wpAny _ _ (newTuple [x, y] >>= _) _ _ ⟨g3, g, d, tk2, os⟩
  refine wpAny_bind (wpAny_newTuple ?_); refine wpAny_pure ⟨_, rfl, ?_⟩
  have size : g3.objs.size = hp.objs.size := by rw [b3.1, b2.1, b1.1]
  have out3 : IsZipHeld g3 z TI TO T true := b3.extBut _ _ S.zi2 (b2.extBut _ _ S.zi1 out1)
  have new : IsTupOf2 (g3.push { cls := .type "tuple", data := .seq #[x, y] }) g3.objs.size x y := Heap.get?_push_size _ rfl
  show Q (.ref g3.objs.size) _
  rw [size] at new ⊢
  exact now x y _ tk2 px py (Heap.get?_push_of_some _ out3) (D1.frame _ _ _ (D1.over n1' b3 S.sep2_1) fun _ _ _ q => Heap.get?_push_of_some _ q) (D2.frame _ _ _ n2' fun _ _ _ q => Heap.get?_push_of_some _ q) new
    fun c o c1 c2 c3 q => Heap.get?_push_of_some _ (b3.extBut _ _ c3 (b2.extBut _ _ c2 (b1.extBut _ _ c1 q)))
theorem out_end (S : ZipSep2 z TI TO i1 i2 fp1 fp2) (D1 : Draws prog w A i1 fp1 n1 P1 S1) (D2 : Draws prog w A i2 fp2 n2 P2 S2) {Q : Fin → Shared → Prop}
    (out : IsZipHeld st.heap z TI TO T f) (hT : st.heap.get? T = some oT) (both : IsTupOf2 st.heap TI (.ref i1) (.ref i2)) (at1 : S1 i st.heap) (at2 : S2 i st.heap) (l1 : i ≤ n1) (l2 : i ≤ n2) (last : i = n1 ∨ i = n2)
    (now : ∀ h' tk e, (∀ c o, c ≠ z → c ≠ i1 → c ≠ i2 → st.heap.get? c = some o → h'.get? c = some o) → (∃ o, h'.get? e = some o ∧ o.cls = .type "StopIteration") → E (.ref e) { st with heap := h', toks := tk }) :
    wpAny (model prog w) A (Builtin.«zip.__next__» ⟨[.ref z], []⟩) Q E st := by
  obtain ⟨hp, g, d, tk0, os⟩ := st
  show wpAny _ _ (field (.ref z) 2 >>= _) _ _ _; refine wpAny_bind (wpAny_field out rfl (x := .bool false) rfl ?_)
  show wpAny _ _ (field (.ref z) 3 >>= _) _ _ _; refine wpAny_bind (wpAny_field out rfl (x := .ref TI) rfl ?_)
  refine wpAny_bind (wpAny_seqItems both rfl ?_); show wpAny _ _ (Builtin.SmallTypes.ownedTupleIsFree (.ref z) >>= _) _ _ _
  refine wpAny_bind (wpAny_tupleHeld_zip out hT fun g1 out1 b1 => ?_)
  replace b1 : Heap.SameBut z hp g1 := b1
  simp only [Bool.false_eq_true, if_false]; refine wpAny_bind ?_; rw [← Array.forIn_toList]; simp only [List.forIn_cons, List.forIn_nil]
  refine wpAny_bind (wpAny_bind (wpAny_holding ?_)); show wpAny _ _ (Builtin.SmallTypes.nextOf (.ref i1) >>= _) _ _ ⟨g1, g, d, tk0, os⟩
  by_cases more : i < n1
  · refine wpAny_bind (D1.item i _ _ _ more (D1.over at1 b1 S.zf1) fun x g2 tk1 px n1' b2 => wpAny_pure ?_)
    replace b2 : Heap.SameBut i1 g1 g2 := b2
    refine wpAny_pure ?_; refine wpAny_bind (wpAny_bind (wpAny_holding ?_)); show wpAny _ _ (Builtin.SmallTypes.nextOf (.ref i2) >>= _) _ _ ⟨g2, g, d, tk1, os⟩
    have e2 : i = n2 := by omega
    subst e2
    refine wpAny_bind (D2.done _ _ _ (D2.over (D2.over at2 b1 S.zf2) b2 S.sep1_2) fun g3 e b3 he => ?_)
    exact now g3 tk1 e (fun c o c1 c2 c3 q => b3 _ _ c3 (b2.extBut _ _ c2 (b1.extBut _ _ c1 q))) he
  · have e1 : i = n1 := by omega
    subst e1
    refine wpAny_bind (D1.done _ _ _ (D1.over at1 b1 S.zf1) fun g3 e b3 he => ?_)
    exact now g3 tk0 e (fun c o c1 c2 c3 q => b3 _ _ c2 (b1.extBut _ _ c1 q)) he
theorem out_pyNext (S : ZipSep2 z TI TO i1 i2 fp1 fp2) (D1 : Draws prog w A.in1 i1 fp1 n1 P1 S1) (D2 : Draws prog w A.in1 i2 fp2 n2 P2 S2) {Q : Option Value → Shared → Prop}
    (out : IsZipHeld st.heap z TI TO T f) (hT : st.heap.get? T = some oT) (both : IsTupOf2 st.heap TI (.ref i1) (.ref i2)) (at1 : S1 i st.heap) (at2 : S2 i st.heap) (l1 : i < n1) (l2 : i < n2)
    (now : ∀ x y h' tk, P1 i x → P2 i y → IsZipHeld h' z TI TO T true → S1 (i + 1) h' → S2 (i + 1) h' → IsTupOf2 h' st.heap.objs.size x y → (∀ c o, c ≠ z → c ≠ i1 → c ≠ i2 → st.heap.get? c = some o → h'.get? c = some o) → Q (some (.ref st.heap.objs.size)) { st with heap := h', toks := tk }) :
    wpAny (model prog w) A (pyNext (.ref z)) Q E st := by
  have ty : st.TypeIs (.ref z) "zip" := ⟨_, out, rfl⟩
  unfold pyNext
  refine wpAny_bind (wpAny_attempt (wpAny_callSpecial?_slot (name := Str.ofString "__next__") ty F.slot_zip_next (wpAny_call_entry F.slot_zip_next ty F.entry_zip_next (out_next S D1 D2 out hT both at1 at2 l1 l2 ?_) (F.args_zip_next_1 _))))
  exact fun x y h' tk a b c d e g k => wpAny_pure (now x y h' tk a b c d e g k)
theorem out_pyNext_end (S : ZipSep2 z TI TO i1 i2 fp1 fp2) (D1 : Draws prog w A.in1 i1 fp1 n1 P1 S1) (D2 : Draws prog w A.in1 i2 fp2 n2 P2 S2) {Q : Option Value → Shared → Prop}
    (out : IsZipHeld st.heap z TI TO T f) (hT : st.heap.get? T = some oT) (both : IsTupOf2 st.heap TI (.ref i1) (.ref i2)) (at1 : S1 i st.heap) (at2 : S2 i st.heap) (l1 : i ≤ n1) (l2 : i ≤ n2) (last : i = n1 ∨ i = n2)
    (now : ∀ h' tk, (∀ c o, c ≠ z → c ≠ i1 → c ≠ i2 → st.heap.get? c = some o → h'.get? c = some o) → Q none { st with heap := h', toks := tk }) :
    wpAny (model prog w) A (pyNext (.ref z)) Q E st := by
  have ty : st.TypeIs (.ref z) "zip" := ⟨_, out, rfl⟩
  unfold pyNext
  refine wpAny_bind (wpAny_attempt (wpAny_callSpecial?_slot (name := Str.ofString "__next__") ty F.slot_zip_next (wpAny_call_entry F.slot_zip_next ty F.entry_zip_next (out_end S D1 D2 out hT both at1 at2 l1 l2 last ?_) (F.args_zip_next_1 _))))
  rintro h' tk e kp ⟨o, ho, hc⟩
  exact wpAny_bind (wpAny_isInstance (T := "StopIteration") (b := true) ⟨o, ho, hc⟩ isSubtype_stop (wpAny_pure (now _ _ kp)))
/-- the zip of the list l and the tuple t, begun -/
def ZipLT (h : Heap) (z TI TO i1 i2 l t : Addr) (xs ys : Array Value) (n : Nat) : Prop := IsTupOf2 h TI (.ref i1) (.ref i2) ∧ (h.IsListIter i1 l n ∧ h.IsList l xs) ∧ (h.IsTupleIter i2 t n ∧ h.IsTuple t ys)
theorem ZipLT.keep {h h' : Heap} {z TI TO i1 i2 l t : Addr} {xs ys : Array Value} {n : Nat} (q : ZipLT h z TI TO i1 i2 l t xs ys n) (k : ∀ b, b = TI ∨ b = i1 ∨ b = i2 ∨ b = l ∨ b = t → ∀ o, h.get? b = some o → h'.get? b = some o) : ZipLT h' z TI TO i1 i2 l t xs ys n :=
  ⟨k _ (.inl rfl) _ q.1, ⟨q.2.1.1.at fun o e => k _ (.inr (.inl rfl)) o e, q.2.1.2.at fun o e => k _ (.inr (.inr (.inr (.inl rfl)))) o e⟩, ⟨q.2.2.1.at fun o e => k _ (.inr (.inr (.inl rfl))) o e, q.2.2.2.at fun o e => k _ (.inr (.inr (.inr (.inr rfl)))) o e⟩⟩
theorem pairs_LT (z TI TO i1 i2 l t : Addr) (S : ZipSep2 z TI TO i1 i2 [i1, l] [i2, t]) (hl : l ≠ i1) (ht : t ≠ i2) (xs ys : Array Value) :
    PairArg prog w "zip" z [z, TI, TO, i1, i2, l, t] [z, TO, i1, i2] (min xs.size ys.size) (fun i k v => xs[i]? = some k ∧ ys[i]? = some v)
      (fun h => IsZip h z TI TO .none ∧ (∃ a b, IsTupOf2 h TO a b) ∧ ZipLT h z TI TO i1 i2 l t xs ys 0) where
  type := fun s ok => ⟨_, ok.1, rfl⟩
  notDict := by decide
  keep := fun h h' ok k => by
    obtain ⟨a1, ⟨a, b, a2⟩, a3⟩ := ok
    exact ⟨k _ _ a1, ⟨a, b, k _ _ a2⟩, a3.keep fun b _ o e => k b o e⟩
  there := fun h ok b hb => by
    obtain ⟨a1, ⟨a, c, a2⟩, a3, ⟨⟨o1, e1, _⟩, ⟨o2, e2, _⟩⟩, ⟨⟨o3, e3, _⟩, ⟨o4, e4, _⟩⟩⟩ := ok
    have either : b = z ∨ b = TI ∨ b = TO ∨ b = i1 ∨ b = i2 ∨ b = l ∨ b = t := by simpa using hb
    rcases either with q | q | q | q | q | q | q <;> subst q
    · exact ⟨_, a1⟩
    · exact ⟨_, a3⟩
    · exact ⟨_, a2⟩
    · exact ⟨_, e1⟩
    · exact ⟨_, e3⟩
    · exact ⟨_, e2⟩
    · exact ⟨_, e4⟩
  sub := fun b hb => by
    have either : b = z ∨ b = TO ∨ b = i1 ∨ b = i2 := by simpa using hb
    rcases either with q | q | q | q <;> subst q <;> simp
  noKeys := fun A s Q E hA ok now => getAttrOr_miss_zip ok.1 rfl rfl rfl zip_no_keys (by decide +kernel) hA now
  iter := fun A s d Q E hA ok dlt dfar now => by
    obtain ⟨a1, ⟨a, b, a2⟩, a3⟩ := ok
    have far : d ≠ z ∧ d ≠ TI ∧ d ≠ TO ∧ d ≠ i1 ∧ d ≠ i2 ∧ d ≠ l ∧ d ≠ t := by simpa using dfar
    obtain ⟨d1, d2, d3, d4, d5, d6, d7⟩ := far
    have D1 := Draws.list (prog := prog) (w := w) (A := A.in1) hA i1 l hl xs
    have D2 := Draws.tuple (prog := prog) (w := w) (A := A.in1) hA i2 t ht ys
    refine wpAny_pyIter_zip a1 (now z [z, TO, i1, i2] (fun n h => ZipLT h z TI TO i1 i2 l t xs ys n ∧ ((IsZip h z TI TO .none ∧ ∃ a b, IsTupOf2 h TO a b) ∨ ∃ T f oT, IsZipHeld h z TI TO T f ∧ h.get? T = some oT ∧ T ≠ z ∧ T ≠ i1 ∧ T ≠ i2 ∧ T ≠ d)) s.heap s.toks ?_ ⟨a3, .inl ⟨a1, a, b, a2⟩⟩ (fun _ _ e => e) fun b hb => .inl hb)
    refine ⟨fun hm => ?_, fun n h h' q k => ?_, fun n s1 Q1 E1 hn q dl now1 => ?_, fun s1 Q1 E1 q now1 => ?_⟩
    · have either : d = z ∨ d = TO ∨ d = i1 ∨ d = i2 := by simpa using hm
      rcases either with q | q | q | q
      · exact d1 q
      · exact d3 q
      · exact d4 q
      · exact d5 q
    · refine ⟨q.1.keep fun b hb o e => k b o (fun y => ?_) e, ?_⟩
      · rcases hb with q | q | q | q | q <;> rw [q] at y
        · exact d2 y.symm
        · exact d4 y.symm
        · exact d5 y.symm
        · exact d6 y.symm
        · exact d7 y.symm
      · rcases q.2 with ⟨q1, a, b, q2⟩ | ⟨T, f, oT, q1, q2, r1, r2, r3, r4⟩
        · exact .inl ⟨k _ _ (Ne.symm d1) q1, a, b, k _ _ (Ne.symm d3) q2⟩
        · exact .inr ⟨T, f, oT, k _ _ (Ne.symm d1) q1, k _ _ r4 q2, r1, r2, r3, r4⟩
    · obtain ⟨⟨both, at1, at2⟩, q⟩ := q
      have m1 : n < xs.size := Nat.lt_of_lt_of_le hn (Nat.min_le_left ..)
      have m2 : n < ys.size := Nat.lt_of_lt_of_le hn (Nat.min_le_right ..)
      have lt : ∀ {c o}, s1.heap.get? c = some o → s1.heap.objs.size ≠ c := fun e => Nat.ne_of_gt (Heap.lt_size e)
      have j1 : s1.heap.objs.size ≠ i1 := let ⟨_, e⟩ := D1.live _ _ at1; lt e
      have j2 : s1.heap.objs.size ≠ i2 := let ⟨_, e⟩ := D2.live _ _ at2; lt e
      rcases q with ⟨q1, a, b, q2⟩ | ⟨T, f, oT, q1, q2, r1, r2, r3, r4⟩
      · refine wpAny_pyNext_zipD2_item S D1 D2 q1 both q2 at1 at2 m1 m2 fun x y h' tk px py b1 b2 b3 b4 b5 b6 k => ?_
        exact now1 s1.heap.objs.size x y h' tk ⟨px, py⟩ (.inl ⟨_, b5, rfl, _, rfl⟩) ⟨⟨k _ _ S.TIz S.TITO S.TIi1 S.TIi2 both, b3, b4⟩, .inr ⟨_, false, _, b1, b5, lt q1, j1, j2, Nat.ne_of_gt dl⟩⟩
          fun c o hc e => k c o (fun y => hc (by simp [y])) (fun y => hc (by simp [y])) (fun y => hc (by simp [y])) (fun y => hc (by simp [y])) e
      · refine out_pyNext S D1 D2 q1 q2 both at1 at2 m1 m2 fun x y h' tk px py b1 b3 b4 b5 k => ?_
        exact now1 s1.heap.objs.size x y h' tk ⟨px, py⟩ (.inl ⟨_, b5, rfl, _, rfl⟩) ⟨⟨k _ _ S.TIz S.TIi1 S.TIi2 both, b3, b4⟩, .inr ⟨T, true, oT, b1, k _ _ r1 r2 r3 q2, r1, r2, r3, r4⟩⟩
          fun c o hc e => k c o (fun y => hc (by simp [y])) (fun y => hc (by simp [y])) (fun y => hc (by simp [y])) e
    · obtain ⟨⟨both, at1, at2⟩, q⟩ := q
      rcases q with ⟨q1, a, b, q2⟩ | ⟨T, f, oT, q1, q2, r1, r2, r3, r4⟩
      · exact wpAny_pyNext_zipD2_end S D1 D2 q1 both q2 at1 at2 (Nat.min_le_left ..) (Nat.min_le_right ..) (by omega) fun h' tk k => now1 h' tk fun c o hc e => k c o (fun y => hc (by simp [y])) (fun y => hc (by simp [y])) (fun y => hc (by simp [y])) (fun y => hc (by simp [y])) e
      · exact out_pyNext_end S D1 D2 q1 q2 both at1 at2 (Nat.min_le_left ..) (Nat.min_le_right ..) (by omega) fun h' tk k => now1 h' tk fun c o hc e => k c o (fun y => hc (by simp [y])) (fun y => hc (by simp [y])) (fun y => hc (by simp [y])) e
end
/-- dict(zip(e1, e2)): keys from a list, values from a tuple -/
def eDictZip (K : PySem.W.Frag) (ta : TA) : TE := fun σ H Q => ta σ H fun vs H1 => ∃ (a b : Addr) (ks : List Key) (xs : List V), vs = [.ref a, .ref b] ∧ SqL K H1 a (ks.map kV) ∧ SqT K H1 b xs ∧ ∀ p, H1 p = none → Q (.ref p) (upd H1 p (.dK (mergeK [] (ks.zip xs))))
theorem pe_dictZip (K : PySem.W.Frag) {X : Cx} (hk : X.K = K) (hcalm : X.calm = true) {e e2 : Expr} {ta : TA} {p p2 pos pos2 : Pos} (hd : Gl X "dict") (md : X.mg "dict" = none) (hg : Gl X "zip") (hm : X.mg "zip" = none) (ha : PA X [e, e2] ta)
    (hs : starEach [e, e2] X.env = (false, eval e X.env) :: starEach [e2] X.env := by rfl) (hpl : (backTo pos2 (starEach [e2] X.env)).any (·.1) = false := by rfl)
    (hs1 : starEach [.Call (.Name "zip" p2) [e, e2] [] pos2] X.env = [(false, eval (.Call (.Name "zip" p2) [e, e2] [] pos2) X.env)] := by rfl) :
    PE X (.Call (.Name "dict" p) [.Call (.Name "zip" p2) [e, e2] [] pos2] [] pos) (eDictZip K ta) := by
  subst hk
  refine ⟨fun pins st σ H Q J asked => ?_⟩
  refine Call_ (ld_blt J hd md boot_dict (PyProof.Rows.callWith_type1 (args_cons (Call_ (ld_blt J hg hm boot_zip (PyProof.Rows.callWith_type1 (thn (ha.run pos2 pins st σ H _ J asked) fun us st1 ⟨vs, H1, J1, rel, now⟩ => ?_) hs hpl))) hs1) hs1 rfl))
  obtain ⟨a, b, ks, xs, ex, hq1, hq2, now⟩ := now
  subst ex
  cases rel with
  | cons r1 rel =>
  cases rel with
  | cons r2 rel =>
  cases rel
  cases r1
  cases r2
  obtain ⟨its, rv, p1, z1⟩ := J1.list hq1
  obtain ⟨its2, rv2, p2, z2⟩ := J1.tuple hq2
  have al : a < st1.heap.objs.size := p1.lt
  have bl : b < st1.heap.objs.size := by obtain ⟨o, ho, _⟩ := p2; exact Heap.lt_size ho
  have B1 := begins_list a its.toArray
  have B2 := begins_tuple b its2.toArray
  refine zip_begins2 B1 B2 p1.isList p2 fun h' c1 c2 c3 c4 c5 size kp => args_nil ?_
  have S := zip_sep2 (N := st1.heap.objs.size) (fp1 := [a]) (fp2 := [b]) (by simpa using al) (by simpa using bl)
  have P := pairs_LT (prog := X.prog) (w := X.w) _ _ _ _ _ a b S (Nat.ne_of_lt al) (Nat.ne_of_lt (Nat.lt_succ_of_lt bl)) its.toArray its2.toArray
  have n1 := rv.length
  have n2 := rv2.length
  rw [List.length_map] at n1 z1
  have all : ∀ (ks : List Key) (xs : List V) (us vs : List Value), Vals (ks.map kV) us → Vals xs vs → ∃ rs : List (Key × Value), KV (ks.zip xs) rs ∧ rs.length = min us.length vs.length ∧ ∀ (i : Nat) (k v : Value), us[i]? = some k → vs[i]? = some v → ∃ q, rs[i]? = some (q, v) ∧ (mixKind X.prog X.w).is q k = true := by
    intro ks
    induction ks with
    | nil => intro xs us vs r1 r2; cases r1; exact ⟨[], .nil, by simp, fun i k v e => nomatch e⟩
    | cons k ks ih =>
      intro xs us vs r1 r2
      cases r1 with
      | cons h1 t1 =>
      cases r2 with
      | nil => exact ⟨[], .nil, by simp, fun i k v _ e => nomatch e⟩
      | cons h2 t2 =>
        obtain ⟨rs, e1, e2, e3⟩ := ih _ _ _ t1 t2
        refine ⟨(k, _) :: rs, .cons ⟨rfl, h2⟩ e1, by simp only [List.length_cons, e2]; omega, fun i q v e f => ?_⟩
        cases i with
        | zero => cases e; cases f; exact ⟨k, rfl, kV_is h1⟩
        | succ i => exact e3 i q v e f
  obtain ⟨rs, e1, e2, e3⟩ := all ks xs its its2 rv rv2
  have PH : PairsHave (mixKind X.prog X.w) (min its.toArray.size its2.toArray.size) (fun i k v => its.toArray[i]? = some k ∧ its2.toArray[i]? = some v) rs :=
    ⟨by simpa using e2, fun i k v q => e3 i k v (by simpa using q.1) (by simpa using q.2)⟩
  refine _root_.PySem.call_dict_pairs (s := { st1 with heap := h' }) P (J1.ok.hd hcalm) ⟨c1, ⟨_, _, c3⟩, c2, ⟨⟨_, c4, rfl, rfl⟩, B1.keeps _ _ p1.isList kp⟩, ⟨⟨_, c5, rfl, rfl⟩, B2.keeps _ _ p2 kp⟩⟩ PH (by have := n1; have := n2; simp only [List.size_toArray]; omega) fun h2 tk isd kp2 => ?_
  replace isd : h2.DictOf (mixKind X.prog X.w) h'.objs.size (merged [] rs) := isd
  have low : st1.heap.objs.size ≤ h'.objs.size := by rw [size]; exact Nat.le_add_right _ _
  have big : sysModules < h'.objs.size := Nat.lt_of_lt_of_le J1.big low
  have ne : (h'.objs.size == sysModules) = false := beq_eq_false_iff_ne.mpr (Nat.ne_of_gt big)
  have few : (mergeK [] (ks.zip xs)).length ≤ sizeLine := by
    refine Nat.le_trans (length_mergeK _ []) ?_
    rw [List.length_nil, Nat.zero_add, List.length_zip]
    omega
  refine ⟨.ref h'.objs.size, upd H1 h'.objs.size (.dK (mergeK [] (ks.zip xs))), J1.laid (t' := tk) (fun c o q => kp2 c o (fun hm => ?_) (kp c o q)) low (show ObjOk X.prog X.w _ _ _ (.dK (mergeK [] (ks.zip xs))) from ⟨few, ne, merged [] rs, KV.merge e1 .nil, isd⟩), rfl, now _ (J1.hok.fresh low)⟩
  have cl := Heap.lt_size q
  have either : c = st1.heap.objs.size + 4 ∨ c = st1.heap.objs.size + 3 ∨ c = st1.heap.objs.size ∨ c = st1.heap.objs.size + 1 := by simpa using hm
  rcases either with y | y | y | y <;> rw [y] at cl
  · exact absurd cl (Nat.not_lt.mpr (Nat.le_add_right _ _))
  · exact absurd cl (Nat.not_lt.mpr (Nat.le_add_right _ _))
  · exact absurd cl (Nat.lt_irrefl _)
  · exact absurd cl (Nat.not_lt.mpr (Nat.le_add_right _ _))
theorem one_at {K : PySem.W.Frag} {a : Addr} {od : Option Addr} {z : Str} {t1 : Tok} {n : Nat} {sl : Array (Option Value)} (l : K.lookup a = some ⟨.type "tuple", od, .seq #[.str z t1] n, sl⟩) (H : Hp) : SqT K H a [.str z] :=
  .inr ⟨_, _, _, l, rfl, rfl, (show 1 ≤ sizeLine by decide), .cons ⟨_, rfl⟩ .nil⟩
/-! ### dicts whose keys are tuples of tuples -/
mutual
/-- a value that is such a key -/
inductive NkV (H : Hp) : NestedKey → V → Prop
  | num (i : Int) : NkV H (.num i) (.int i)
  | text (x : Str) : NkV H (.text x) (.str x)
  | tup {a : Addr} {xs : List V} {ks : List NestedKey} : H a = some (.tup xs) → NkL H ks xs → NkV H (.tup ks) (.ref a)
inductive NkL (H : Hp) : List NestedKey → List V → Prop
  | nil : NkL H [] []
  | cons {k : NestedKey} {x : V} {ks : List NestedKey} {xs : List V} : NkV H k x → NkL H ks xs → NkL H (k :: ks) (x :: xs)
end
section
variable {P : Program} {w : World} {H H' : Hp} {h : Heap}
mutual
theorem NkV.keep (kp : TK H H') : ∀ {k : NestedKey} {x : V}, NkV H k x → NkV H' k x
  | _, _, .num i => .num i
  | _, _, .text x => .text x
  | _, _, .tup e l => .tup (kp _ _ e) (NkL.keep kp l)
theorem NkL.keep (kp : TK H H') : ∀ {ks : List NestedKey} {xs : List V}, NkL H ks xs → NkL H' ks xs
  | _, _, .nil => .nil
  | _, _, .cons a b => .cons (NkV.keep kp a) (NkL.keep kp b)
end
mutual
theorem NkV.is (ok : HOk P w H h) : ∀ {k : NestedKey} {x : V} {u : Value}, NkV H k x → RelV x u → NestedIs h k u
  | _, _, u, .num i, r => by
    obtain ⟨t, rfl⟩ := (show ∃ t, u = Value.int i t from r)
    exact .int i t
  | _, _, u, .text x, r => by
    obtain ⟨t, rfl⟩ := (show ∃ t, u = Value.str x t from r)
    exact .text x t
  | _, _, u, @NkV.tup _ a xs ks e l, r => by
    obtain rfl : u = Value.ref a := r
    obtain ⟨_, its, rv, o, e1, e2, n, e3⟩ := (show ObjOk P w H h a (.tup xs) from ok a _ e)
    exact .tup e1 e2 e3 (by simpa using NkL.is ok l rv)
theorem NkL.is (ok : HOk P w H h) : ∀ {ks : List NestedKey} {xs : List V} {us : List Value}, NkL H ks xs → Vals xs us → NestedAll h ks us
  | _, _, _, .nil, .nil => .nil
  | _, _, _, .cons a b, .cons r t => .cons (NkV.is ok a r) (NkL.is ok b t)
end
/-- what stands in the heap for a dict with the entries kas: key, the key's address, number -/
def nkRow (k : NestedKey × Addr × Int) (x : NestedKey × Addr × Value) : Prop := x.1 = k.1 ∧ x.2.1 = k.2.1 ∧ ∃ t, x.2.2 = .int k.2.2 t
def nkObj (P : Program) (w : World) (d : Addr) (kas : List (NestedKey × Addr × Int)) (h : Heap) : Prop :=
  (d == sysModules) = false ∧ kas.length ≤ sizeLine ∧ ∃ xs : List (NestedKey × Addr × Value), All2 nkRow kas xs ∧ ∃ o es ep, h.get? d = some o ∧ o.ExactDict ∧ o.data = .dict es ep ∧ es.toList = xs.map (entryOfKey (nestedKind P w)) ∧ (xs.map (·.1)).Nodup
def nkO (P : Program) (w : World) (d : Addr) (kas : List (NestedKey × Addr × Int)) : HO := .ext (nkObj P w d kas)
structure NkD (P : Program) (w : World) (H : Hp) (d : Addr) (kas : List (NestedKey × Addr × Int)) : Prop where
  at_ : H d = some (nkO P w d kas)
  key : ∀ q ∈ kas, NkV H q.1 (.ref q.2.1) ∧ q.1.depth ≤ 8
theorem nkO_tup {d : Addr} {kas : List (NestedKey × Addr × Int)} {xs : List V} : nkO P w d kas ≠ .tup xs := fun z => by
  have z' : HO.ext _ = HO.tup xs := z
  cases z'
theorem nkObj_ok {d : Addr} {kas : List (NestedKey × Addr × Int)} (q : nkObj P w d kas h) : ObjOk P w H h d (nkO P w d kas) := by
  have q0 := q
  obtain ⟨_, _, xs, _, o, es, ep, e, _⟩ := q0
  refine ⟨q, ⟨o, e⟩, fun h1 h2 q1 k => ?_⟩
  obtain ⟨a1, a2, xs, al, o, es, ep, e, r⟩ := q1
  exact ⟨a1, a2, xs, al, o, es, ep, k _ e, r⟩
theorem nk_names : ∀ {kas : List (NestedKey × Addr × Int)} {xs : List (NestedKey × Addr × Value)}, All2 nkRow kas xs → xs.map (·.1) = kas.map (·.1)
  | _, _, .nil => rfl
  | _, _, .cons r t => by rw [List.map_cons, List.map_cons, r.1, nk_names t]
/-- the number at a key -/
def nkAt (kas : List (NestedKey × Addr × Int)) (k : NestedKey) : Option Int := (kas.find? fun q => decide (q.1 = k)).map fun q => q.2.2
theorem nk_at {k : NestedKey} : ∀ {kas : List (NestedKey × Addr × Int)} {xs : List (NestedKey × Addr × Value)}, All2 nkRow kas xs → (nkAt kas k = none ∧ atKey xs k = none) ∨ ∃ n a t, nkAt kas k = some n ∧ atKey xs k = some (a, .int n t)
  | _, _, .nil => .inl ⟨rfl, rfl⟩
  | _, _, @All2.cons _ _ _ c x cs xs r t => by
    unfold nkAt atKey
    rw [List.find?_cons, List.find?_cons, r.1]
    by_cases e : c.1 = k
    · rw [decide_eq_true e]
      obtain ⟨tt, ht⟩ := r.2.2
      refine .inr ⟨c.2.2, x.2.1, tt, rfl, ?_⟩
      show some x.2 = _
      rw [← ht]
    · rw [decide_eq_false e]
      exact nk_at t
theorem NkD.get {d : Addr} {kas : List (NestedKey × Addr × Int)} (D : NkD P w H d kas) (ok : HOk P w H h) : (d == sysModules) = false ∧ kas.length ≤ sizeLine ∧ ∃ xs, All2 nkRow kas xs ∧ h.DictOfH (nestedKind P w) d xs := by
  obtain ⟨⟨a1, a2, xs, al, o, es, ep, e1, e2, e3, e4, e5⟩, _⟩ := (show ObjOk P w H h d (nkO P w d kas) from ok d _ D.at_)
  refine ⟨a1, a2, xs, al, o, es, ep, e1, e2, e3, e4, fun x hx => ?_, e5⟩
  have : ∀ {kas : List (NestedKey × Addr × Int)} {xs : List (NestedKey × Addr × Value)}, All2 nkRow kas xs → ∀ x ∈ xs, ∃ q ∈ kas, x.1 = q.1 ∧ x.2.1 = q.2.1 := by
    intro kas xs al
    induction al with
    | nil => intro x hx; cases hx
    | cons r t ih =>
      intro x hx
      rcases List.mem_cons.mp hx with rfl | hx
      · exact ⟨_, List.mem_cons_self .., r.1, r.2.1⟩
      · obtain ⟨q, hq, z⟩ := ih x hx
        exact ⟨q, List.mem_cons_of_mem _ hq, z⟩
  obtain ⟨q, hq, z1, z2⟩ := this al x hx
  obtain ⟨k1, k2⟩ := D.key q hq
  rw [z1, z2]
  exact ⟨NkV.is ok k1 rfl, k2⟩
theorem NkD.go {d : Addr} {kas : List (NestedKey × Addr × Int)} (D : NkD P w H d kas) (e : H' d = H d) (kp : TK H H') : NkD P w H' d kas := ⟨e.trans D.at_, fun q hq => ⟨(D.key q hq).1.keep kp, (D.key q hq).2⟩⟩
theorem NkD.same {d : Addr} {kas : List (NestedKey × Addr × Int)} (D : NkD P w H d kas) (s : Same H H') : NkD P w H' d kas := D.go ((s _ _ D.at_).trans D.at_.symm) (TK.same s)
end
section
variable {X : Cx} {o i e : Expr} {pos pos' : Pos} {td ty tv : TE}
theorem nk_room {X : Cx} (hu : X.A.units + 65 < cLine) : (nestedKind X.prog X.w).room X.A.in1 := by
  show X.A.in1.units + 8 < cLine
  show X.A.units + 1 + 8 < cLine
  omega
/-- {}, for such keys -/
def tNkNew (P : Program) (w : World) : TE := fun _ H Q => ∀ p, H p = none → NkD P w (upd H p (nkO P w p [])) p [] → Q (.ref p) (upd H p (nkO P w p []))
theorem pe_nknew (P : Program) (w : World) (h1 : X.prog = P) (h2 : X.w = w) : PE X (.Dict [] [] pos) (tNkNew P w) := by
  subst h1 h2
  refine ⟨fun pins s σ H Q I h => ?_⟩
  have hb := I.big
  have ob : nkObj X.prog X.w s.heap.objs.size [] (s.heap.push { cls := .type "dict", data := .dict #[] }) := ⟨beq_eq_false_iff_ne.mpr (Ne.symm (Nat.ne_of_lt hb)), Nat.zero_le _, [], .nil, _, #[], 0, Heap.get?_push_size _ rfl, ⟨rfl, rfl, rfl⟩, rfl, rfl, List.nodup_nil⟩
  exact wpAny_Dict_empty ⟨.ref s.heap.objs.size, _, I.laid (a := s.heap.objs.size) (o := nkO X.prog X.w s.heap.objs.size []) (t' := s.toks) (fun _ _ q => Heap.get?_push_of_some _ q) (Nat.le_refl _) (nkObj_ok ob), rfl, h _ (I.hok.fresh (Nat.le_refl _)) ⟨upd_same, fun q hq => by cases hq⟩⟩
/-- y not in d -/
def tNkOut (P : Program) (w : World) (ty td : TE) : TE := fun σ H Q => ty σ H fun y H1 => td σ H1 fun x H2 => ∃ (d b : Addr) (kas : List (NestedKey × Addr × Int)) (k : NestedKey), x = .ref d ∧ y = .ref b ∧ NkD P w H2 d kas ∧ NkV H2 k (.ref b) ∧ k.depth ≤ 8 ∧ Q (.bl (!(nkAt kas k).isSome)) H2
theorem pc_nkout (P : Program) (w : World) (h1 : X.prog = P) (h2 : X.w = w) (hu : X.A.units + 65 < cLine) (hi : PE X i ty) (ho : PE X o td) : PC X .NotIn i o (tNkOut P w ty td) := by
  subst h1 h2
  refine ⟨fun pins s σ H Q I h => ?_⟩
  refine thn (hi.run pins s σ H _ I h) fun iv s1 ⟨y, H1, I1, ry, q1⟩ => thn (ho.run pins s1 σ H1 _ I1 q1) fun u s2 ⟨x, H2, I2, rx, d, b, kas, k, ex, ey, D, kv, dp, q2⟩ => ?_
  subst ex ey
  obtain rfl : u = Value.ref d := rx
  obtain rfl : iv = Value.ref b := ry
  obtain ⟨a1, a2, xs, al, dd⟩ := D.get I2.hok
  refine wpAny_notIn_heap (nk_room hu) ⟨NkV.is I2.hok kv rfl, dp⟩ a1 dd ⟨.bl (!(nkAt kas k).isSome), H2, I2.tok _, ?_, q2⟩
  rcases nk_at (k := k) al with ⟨z1, z2⟩ | ⟨n, a, t, z1, z2⟩ <;> rw [z1, z2] <;> rfl
/-- d[y] -/
def tNkGet (P : Program) (w : World) (td ty : TE) : TE := fun σ H Q => td σ H fun x H1 => ty σ H1 fun y H2 => ∃ (d b : Addr) (kas : List (NestedKey × Addr × Int)) (k : NestedKey) (n : Int), x = .ref d ∧ y = .ref b ∧ NkD P w H2 d kas ∧ NkV H2 k (.ref b) ∧ k.depth ≤ 8 ∧ nkAt kas k = some n ∧ Q (.int n) H2
theorem pe_nkget (P : Program) (w : World) (h1 : X.prog = P) (h2 : X.w = w) (hu : X.A.units + 65 < cLine) (ho : PE X o td) (hi : PE X i ty) (hs : NoSl i) : PE X (.Subscript o i pos) (tNkGet P w td ty) := by
  subst h1 h2
  refine ⟨fun pins s σ H Q I h => ?_⟩
  refine subD_of PySem.F.slot_dict_getitem.lookup hs (thn (ho.run pins s σ H _ I h) fun u s1 ⟨x, H1, I1, rx, q1⟩ => thn (hi.run pins s1 σ H1 _ I1 q1) fun iv s2 ⟨y, H2, I2, ry, d, b, kas, k, n, ex, ey, D, kv, dp, hk, q2⟩ => ?_)
  subst ex ey
  obtain rfl : u = Value.ref d := rx
  obtain rfl : iv = Value.ref b := ry
  obtain ⟨a1, a2, xs, al, dd⟩ := D.get I2.hok
  refine ⟨dd.typeIs, ?_⟩
  rcases nk_at (k := k) al with ⟨z1, z2⟩ | ⟨m, a, t, z1, z2⟩
  · rw [z1] at hk; cases hk
  · rw [z1] at hk
    cases hk
    exact wpAny_getItem_heap (nk_room hu) ⟨NkV.is I2.hok kv rfl, dp⟩ dd z2 ⟨.int n, H2, I2.tok _, ⟨t, rfl⟩, q2⟩
/-- len(d) -/
theorem call_lenNk (P : Program) (w : World) (h1 : X.prog = P) (h2 : X.w = w) : CallR X (.builtin "len") (fun vs H Q => ∃ (d : Addr) (kas : List (NestedKey × Addr × Int)), vs = [.ref d] ∧ NkD P w H d kas ∧ Q (.int (kas.length : Nat)) H) := by
  subst h1 h2
  intro pins s σ H vs us Q I r asked
  obtain ⟨d, kas, rfl, D, q⟩ := asked
  obtain ⟨u, rfl, ru⟩ := vals1 r
  obtain rfl : u = Value.ref d := ru
  obtain ⟨a1, a2, xs, al, dd⟩ := D.get I.hok
  have l := al.length
  refine PySem.call_len_dictH a1 dd (by rw [← l]; rw [sizeLine_eq] at a2; omega) ?_
  exact ⟨.int (kas.length : Nat), H, I.tok _, ⟨_, by rw [l]⟩, q⟩
/-- d[y] = v, y not yet in d -/
def sNkPut (P : Program) (w : World) (td ty tv : TE) : TS := fun D σ H => tv σ H fun v H1 => td σ H1 fun x H2 => ty σ H2 fun y H3 => ∃ (d b : Addr) (kas : List (NestedKey × Addr × Int)) (k : NestedKey) (n : Int), x = .ref d ∧ y = .ref b ∧ v = .int n ∧ NkD P w H3 d kas ∧ NkV H3 k (.ref b) ∧ k.depth ≤ 8 ∧ nkAt kas k = none ∧ kas.length < sizeLine ∧
  (NkD P w (upd H3 d (nkO P w d (kas ++ [(k, b, n)]))) d (kas ++ [(k, b, n)]) → D.nx σ (upd H3 d (nkO P w d (kas ++ [(k, b, n)]))))
theorem ps_nkput {value : Expr} (P : Program) (w : World) (h1 : X.prog = P) (h2 : X.w = w) (hu : X.A.units + 65 < cLine) (ho : PE X o td) (hi : PE X i ty) (hv : PE X value tv) (hs : swapsWith value (some (.Subscript o i pos')) pos.line X.env = pure false) :
    PS X (.Assign [.Subscript o i pos'] value pos) (sNkPut P w td ty tv) := by
  subst h1 h2
  refine ⟨fun pins s σ H D I h => ?_⟩
  refine wpAny_Assign_Subscript (thn (hv.run pins s σ H _ I h) fun r s1 ⟨v, H1, I1, rv, q1⟩ => thn (ho.run pins s1 σ H1 _ I1 q1) fun u s2 ⟨x, H2, I2, rx, q2⟩ => thn (hi.run pins s2 σ H2 _ I2 q2) fun iv s3 ⟨y, H3, I3, ry, d, b, kas, k, n, ex, ey, ev, Dk, kv, dp, hk, hl, q3⟩ => ?_) hs
  subst ex ey ev
  obtain rfl : u = Value.ref d := rx
  obtain rfl : iv = Value.ref b := ry
  obtain ⟨t, rfl⟩ := (show ∃ t, r = Value.int n t from rv)
  obtain ⟨a1, a2, xs, al, dd⟩ := Dk.get I3.hok
  have l := al.length
  have z2 : atKey xs k = none := by
    rcases nk_at (k := k) al with ⟨z1, z2⟩ | ⟨m, a, t, z1, z2⟩
    · exact z2
    · rw [z1] at hk; cases hk
  refine wpAny_setItem_heap (hsz := by rw [← l]; exact a2) (nk_room hu) ⟨NkV.is I3.hok kv rfl, dp⟩ dd fun h' dd' hsb => ?_
  rw [storedH_new z2] at dd'
  obtain ⟨ob, es, ep, g1, g2, g3, g4, g5, g6⟩ := dd'
  have kp : TK H3 (upd H3 d (nkO X.prog X.w d (kas ++ [(k, b, n)]))) := fun a ys e => by
    rw [upd_ne (ne_of e Dk.at_ (fun z => nkO_tup z.symm))]
    exact e
  have new : nkObj X.prog X.w d (kas ++ [(k, b, n)]) h' := ⟨a1, by rw [List.length_append]; exact hl, _, al.snoc ⟨rfl, rfl, t, rfl⟩, ob, es, ep, g1, g2, g3, g4, g6⟩
  refine ⟨σ, _, d_write I3 (by rw [Dk.at_]; exact True.intro) hsb ⟨ob, g1⟩ (nkObj_ok new), q3 ⟨upd_same, fun q hq => ?_⟩⟩
  rcases List.mem_append.mp hq with hq | hq
  · exact ⟨(Dk.key q hq).1.keep kp, (Dk.key q hq).2⟩
  · rw [List.mem_singleton.mp hq]
    exact ⟨kv.keep kp, dp⟩
end
section
variable {P : Program} {w : World} {K : PySem.W.Frag} {mg : Str → Option Value} {base : Heap}
def sp_law_flow (K : PySem.W.Frag) : Sp := fun vs H Q _ => ∃ (a : Addr) (ns : List Int), vs = [.ref a] ∧ SqL K H a (ns.map V.int) ∧ ∀ (f c : Addr) (H' : Hp), H f = none → H c = none → Flow H' f c → Same H H' → Q (.ref f) H'
theorem ok_law_flow {f : Addr} {fd : FuncData} (F : Fun K "_law_flow" "_law_flow" s_law_flow f fd) (T : Top w K mg) : FnOk P w K mg base CX0 1 f fd ["_law_script"] (sp_law_flow K) := by
  refine F.ok sc_law_flow (fun vs H Q E h => ?_) (fun cdv A outer s H vs Q E hr h => ?_)
  · obtain ⟨a, ns, rfl, _⟩ := h
    rfl
  obtain ⟨a, ns, rfl, hS, q⟩ := h
  refine ⟨_, (pss_one (ps_ret (pe_lst (pa_cons (pe_callTy (call_list_ofK K rfl) (by rfl) T.m_list (by decide +kernel) (pa_cons (pv 0) pa_nil)) (pa_cons pe_int (pa_cons pe_int (pa_cons pe_int (pa_cons pe_int pa_nil)))))))), ?_⟩
  refine ⟨_, rfl, a, _, rfl, .inl hS, fun c hc => ?_⟩
  refine ⟨(by show 5 ≤ sizeLine; decide), fun f hf => ?_⟩
  have nf : H f = none := by
    cases e : H f with
    | none => rfl
    | some o => rw [same_new hc _ _ e] at hf; cases hf
  have s1 := same_new (o := .lst (ns.map V.int)) hc
  refine q f c _ nf hc ⟨ns, 0, 0, 1, 0, upd_same, same_new hf _ _ upd_same, by decide, by decide, by decide, by decide⟩ fun b o e => same_new hf _ _ (s1 _ _ e)
def sp_law_pick (K : PySem.W.Frag) : Sp := fun vs H Q _ => ∃ (f c : Addr) (m : Int), vs = [.ref f, .int m] ∧ 0 < m ∧ m.natAbs.log2 < 9000 ∧ Flow H f c ∧
  ∀ (v : Int) (H' : Hp), 0 ≤ v → v < m → Flow H' f c → But f H H' → Q (.int v) H'
theorem ok_law_pick {f : Addr} {fd : FuncData} (F : Fun K "_law_pick" "_law_pick" s_law_pick f fd) (T : Top w K mg) : FnOk P w K mg base CX0 1 f fd ["_law_flow_here", "_law_many"] (sp_law_pick K) := by
  refine F.ok sc_law_pick (fun vs H Q E h => ?_) (fun cdv A outer s H vs Q E hr h => ?_)
  · obtain ⟨f, c, m, rfl, _⟩ := h
    rfl
  obtain ⟨f, c, m, rfl, m0, m9, hF, q⟩ := h
  obtain ⟨ns, i, p, z, r, hf, hc, hi, hp, hz, hz2⟩ := hF
  have ncf : c ≠ f := ne_of hc hf (by intro e; injection e with e; cases ns with | nil => cases e | cons x l => cases e)
  let R1 : TS := fun D' σ' H' => D'.rt = Q ∧ ∃ x2 : Option V, σ' = [some (.ref f), some (.int m), x2, none] ∧ (∃ (i p z r : Int), H' f = some (.lst [.ref c, .int i, .int p, .int z, .int r]) ∧ H' c = some (.lst (ns.map V.int)) ∧ 0 ≤ i ∧ 0 ≤ p ∧ 0 ≤ z ∧ z < 2147483647) ∧ But f H H'
  refine ⟨_, (pss_cons (ps_if (PW.pt (pw_and (pt_cmpR op_eq (pe_ix (ix_listK K rfl) (pv 0) pe_int (fun _ _ => rfl)) pe_int (nomark _)) (pw_and1 (pt_cmpR op_lt (pe_ix (ix_listK K rfl) (pv 0) pe_int (fun _ _ => rfl)) (pe_callB (call_len_seqK K rfl) (by rfl) T.m_len (by decide +kernel) (pa_cons (pe_ix (ix_listK K rfl) (pv 0) pe_int (fun _ _ => rfl)) pa_nil)) (nomark _))))) (pss_cons (ps_set (i := 2) sc_law_pick.nd rfl (Or.inl rfl) (pe_ix (ix_listK K rfl) (pe_ix (ix_listK K rfl) (pv 0) pe_int (fun _ _ => rfl)) (pe_ix (ix_listK K rfl) (pv 0) pe_int (fun _ _ => rfl)) (fun _ _ => rfl)))
      (pss_cons (ps_asg (pe_op op_add (pe_ix (ix_listK K rfl) (pv 0) pe_int (fun _ _ => rfl)) pe_int) (pg_sub (pv 0) pe_int set_list))
      (pss_one (ps_if (pt_cmpR op_ge (pv 2) (pe_op op_pow pe_int pe_int) (nomark _)) (pss_one (ps_asg (pv 2) (pg_sub (pv 0) pe_int set_list))) (pss_one (ps_asg (pe_op op_mod (pe_op op_add (pe_op op_add (pe_op op_mul (pe_ix (ix_listK K rfl) (pv 0) pe_int (fun _ _ => rfl)) pe_int) (pe_op op_mod (pv 2) pe_int)) pe_int) pe_int) (pg_sub (pv 0) pe_int set_list))))))) pss_nil)
      (PSs.to (pss_cons (ps_if (pt_cmpR op_gt (pe_ix (ix_listK K rfl) (pv 0) pe_int (fun _ _ => rfl)) pe_int (nomark _)) (pss_cons (ps_set (i := 3) sc_law_pick.nd rfl (Or.inl rfl) (pe_op op_mod (pe_ix (ix_listK K rfl) (pv 0) pe_int (fun _ _ => rfl)) (pv 1)))
      (pss_cons (ps_asg (pe_op op_fdivW (pe_ix (ix_listK K rfl) (pv 0) pe_int (fun _ _ => rfl)) (pv 1)) (pg_sub (pv 0) pe_int set_list))
      (pss_one (ps_ret (pv 3))))) pss_nil)
      (pss_cons (ps_asg (pe_op op_add (pe_ix (ix_listK K rfl) (pv 0) pe_int (fun _ _ => rfl)) pe_int) (pg_sub (pv 0) pe_int set_list))
      (pss_cons (ps_asg (pe_op op_mod (pe_op op_add (pe_op op_add (pe_op op_mul (pe_ix (ix_listK K rfl) (pv 0) pe_int (fun _ _ => rfl)) pe_int) pe_int) (pe_ix (ix_listK K rfl) (pv 0) pe_int (fun _ _ => rfl))) pe_int) (pg_sub (pv 0) pe_int set_list))
      (pss_one (ps_ret (pe_op op_mod (pe_op op_fdiv (pe_op op_mod (pe_op op_mul (pe_op op_add (pe_op op_mod (pe_ix (ix_listK K rfl) (pv 0) pe_int (fun _ _ => rfl)) pe_int) pe_int) (pe_op op_add (pe_op op_fdiv (pe_ix (ix_listK K rfl) (pv 0) pe_int (fun _ _ => rfl)) pe_int) pe_int)) pe_int) pe_int) (pv 1))))))) R1 ?tail1)), ?_⟩
  case tail1 =>
    rintro D' σ' H1 ⟨eD, x2, rfl, ⟨i, p, z, r, hf, hc, hi, hp, hz, hz2⟩, bt⟩
    refine ⟨_, rfl, f, _, _, _, rfl, rfl, SqL.of hf, atI_nat (j := 2) rfl, _, _, rfl, rfl, _, rfl, if_bl (fun c1 => ?_) (fun c1 => ?_)⟩
    · refine ⟨_, rfl, f, _, _, _, rfl, rfl, SqL.of hf, atI_nat (j := 2) rfl, _, rfl, _, _, rfl, rfl, m0, ?_⟩
      refine ⟨_, rfl, f, _, _, _, rfl, rfl, SqL.of hf, atI_nat (j := 2) rfl, _, rfl, _, _, rfl, rfl, ⟨m0, m9⟩, _, rfl, f, _, _, 2, rfl, rfl, hf, rfl, ?_⟩
      refine ⟨_, rfl, ?_⟩
      rw [eD]
      exact q _ _ (Int.emod_nonneg _ (by omega)) (Int.emod_lt_of_pos _ m0) ⟨ns, i, p / m, z, r, upd_same, (by rw [upd_ne ncf]; exact hc), hi, Int.ediv_nonneg hp (by omega), hz, hz2⟩ bt.upd
    · refine ⟨_, rfl, f, _, _, _, rfl, rfl, SqL.of hf, atI_nat (j := 4) rfl, _, _, rfl, rfl, _, rfl, f, _, _, 4, rfl, rfl, hf, rfl, ?_⟩
      have hf2 : upd H1 f (.lst ([V.ref c, V.int i, V.int p, V.int z, V.int r].set 4 (V.int (r + 1)))) f = some (.lst [.ref c, .int i, .int p, .int z, .int (r + 1)]) := upd_same
      refine ⟨_, rfl, f, _, _, _, rfl, rfl, SqL.of hf2, atI_nat (j := 3) rfl, _, _, rfl, rfl, .inl ⟨by omega, by omega⟩, _, _, rfl, rfl, _, rfl, f, _, _, _, rfl, rfl, SqL.of hf2, atI_nat (j := 4) rfl, _, _, rfl, rfl, _, _, rfl, rfl, (by show (0 : Int) < 2147483647; decide), _, rfl, f, _, _, 3, rfl, rfl, hf2, rfl, ?_⟩
      have z0 : 0 ≤ (z * 48271 + 12820163 + (r + 1)) % 2147483647 := Int.emod_nonneg _ (by decide)
      have z1 : (z * 48271 + 12820163 + (r + 1)) % 2147483647 < 2147483647 := Int.emod_lt_of_pos _ (by decide)
      have hf3 : upd (upd H1 f (.lst ([V.ref c, V.int i, V.int p, V.int z, V.int r].set 4 (V.int (r + 1))))) f (.lst ([V.ref c, V.int i, V.int p, V.int z, V.int (r + 1)].set 3 (V.int ((z * 48271 + 12820163 + (r + 1)) % 2147483647)))) f =
        some (.lst [.ref c, .int i, .int p, .int ((z * 48271 + 12820163 + (r + 1)) % 2147483647), .int (r + 1)]) := upd_same
      have hc3 : upd (upd H1 f (.lst ([V.ref c, V.int i, V.int p, V.int z, V.int r].set 4 (V.int (r + 1))))) f (.lst ([V.ref c, V.int i, V.int p, V.int z, V.int (r + 1)].set 3 (V.int ((z * 48271 + 12820163 + (r + 1)) % 2147483647)))) c = some (.lst (ns.map V.int)) := by
        rw [upd_ne ncf, upd_ne ncf]
        exact hc
      refine ⟨_, rfl, f, _, _, _, rfl, rfl, SqL.of hf3, atI_nat (j := 3) rfl, _, _, rfl, rfl, (by show (0 : Int) < 65521; decide), _, _, rfl, rfl, _, rfl, f, _, _, _, rfl, rfl, SqL.of hf3, atI_nat (j := 3) rfl, _, _, rfl, rfl, ⟨by decide, by decide⟩, _, _, rfl, rfl, _, _, rfl, rfl, .inl ⟨?_, ?_⟩, _, _, rfl, rfl, (by show (0 : Int) < 1000003; decide), _, _, rfl, rfl, ⟨by decide, by decide⟩, _, rfl, _, _, rfl, rfl, m0, ?_⟩
      · omega
      · omega
      · rw [eD]
        exact q _ _ (Int.emod_nonneg _ (by omega)) (Int.emod_lt_of_pos _ m0) ⟨ns, i, p, _, r + 1, hf3, hc3, hi, hp, z0, z1⟩ bt.upd.upd
  refine ⟨_, rfl, f, _, _, _, rfl, rfl, SqL.of hf, atI_nat (j := 2) rfl, rfl, _, rfl, if_bl (fun c1 => ?_) (fun c1 => ?_)⟩
  · refine ⟨_, rfl, f, _, _, _, rfl, rfl, SqL.of hf, atI_nat (j := 1) rfl, _, rfl, f, _, _, _, rfl, rfl, SqL.of hf, atI_nat (j := 0) rfl, c, _, rfl, .inl (SqL.of hc), _, _, rfl, rfl, _, rfl, if_bl (fun c2 => ?_) (fun c2 => ?_)⟩
    · have c3 : i < ((ns.map V.int).length : Int) := of_decide_eq_true c2
      rw [List.length_map] at c3
      obtain ⟨v, hv⟩ := at_ints hi c3
      refine ⟨_, rfl, f, _, _, _, rfl, rfl, SqL.of hf, atI_nat (j := 0) rfl, _, rfl, f, _, _, _, rfl, rfl, SqL.of hf, atI_nat (j := 1) rfl, c, _, i, _, rfl, rfl, SqL.of hc, hv, ?_⟩
      refine ⟨_, rfl, f, _, _, _, rfl, rfl, SqL.of hf, atI_nat (j := 1) rfl, _, _, rfl, rfl, _, rfl, f, _, _, 1, rfl, rfl, hf, rfl, ?_⟩
      have hf2 : upd H f (.lst ([V.ref c, V.int i, V.int p, V.int z, V.int r].set 1 (V.int (i + 1)))) f = some (.lst [.ref c, .int (i + 1), .int p, .int z, .int r]) := upd_same
      refine ⟨_, rfl, _, _, rfl, rfl, ⟨by decide, by decide, by decide⟩, _, _, rfl, rfl, _, rfl, if_bl (fun c4 => ?_) (fun c4 => ?_)⟩
      · have c5 : (10 : Int) ^ (18 : Int).toNat ≤ v := of_decide_eq_true c4
        have c6 : (0 : Int) ≤ (10 : Int) ^ (18 : Int).toNat := by decide
        refine ⟨_, rfl, _, rfl, f, _, _, 2, rfl, rfl, hf2, rfl, rfl, _, rfl, ⟨i + 1, v, z, r, upd_same, ?_, by omega, by omega, hz, hz2⟩, But.refl.upd.upd⟩
        rw [upd_ne ncf, upd_ne ncf]
        exact hc
      · refine ⟨_, rfl, f, _, _, _, rfl, rfl, SqL.of hf2, atI_nat (j := 3) rfl, _, _, rfl, rfl, .inl ⟨by omega, by omega⟩, _, rfl, _, _, rfl, rfl, (by show (0 : Int) < 1000003; decide), _, _, rfl, rfl, _, _, rfl, rfl, _, _, rfl, rfl, (by show (0 : Int) < 2147483647; decide), _, rfl, f, _, _, 3, rfl, rfl, hf2, rfl, rfl, _, rfl, ⟨i + 1, p, _, r, upd_same, ?_, by omega, hp, Int.emod_nonneg _ (by decide), Int.emod_lt_of_pos _ (by decide)⟩, But.refl.upd.upd⟩
        rw [upd_ne ncf, upd_ne ncf]
        exact hc
    · exact ⟨rfl, _, rfl, ⟨i, p, z, r, hf, hc, hi, hp, hz, hz2⟩, But.refl⟩
  · exact ⟨rfl, _, rfl, ⟨i, p, z, r, hf, hc, hi, hp, hz, hz2⟩, But.refl⟩
end
/-! ### rooms: what they are -/
/-- a hand: its rule's word, its number if it has one, its moments -/
structure HR where
  wd : Str
  no : Option Int
  mom : Int
/-- a belt -/
structure BR where
  one : Nat
  to : Nat
  th : List Int
abbrev ruleL (h : HR) : List V := .str h.wd :: (match h.no with | none => [] | some n => [.int n])
def HandAt (H : Hp) (v : V) (h : HR) : Prop := ∃ t r : Addr, v = .ref t ∧ H t = some (.tup [.ref r, .int h.mom]) ∧ H r = some (.tup (ruleL h))
def BeltAt (H : Hp) (v : V) (b : BR) : Prop := ∃ t g : Addr, v = .ref t ∧ H t = some (.tup [.int (b.one : Nat), .int (b.to : Nat), .ref g]) ∧ H g = some (.tup (b.th.map V.int))
theorem HandAt.keep {H H' : Hp} {v : V} {h : HR} (a : HandAt H v h) (k : TK H H') : HandAt H' v h := by
  obtain ⟨t, r, e, e1, e2⟩ := a
  exact ⟨t, r, e, k _ _ e1, k _ _ e2⟩
theorem BeltAt.keep {H H' : Hp} {v : V} {b : BR} (a : BeltAt H v b) (k : TK H H') : BeltAt H' v b := by
  obtain ⟨t, r, e, e1, e2⟩ := a
  exact ⟨t, r, e, k _ _ e1, k _ _ e2⟩
def nine : List Str := ["always", "same", "times", "sum", "gap", "below", "most", "least", "pick"]
def needs (wd : Str) : Int := if wd ∈ (["in", "always"] : List Str) then 0 else if wd ∈ (["out", "same", "times"] : List Str) then 1 else 2 + (if wd = "pick" then 1 else 0)
/-- a rule of one of the nine words -/
structure GoodRule (h : HR) : Prop where
  wd : h.wd ∈ nine
  no : h.no.isSome = true ↔ h.wd = "times" ∨ h.wd = "always"
  big : ∀ n, h.no = some n → -1000000 ≤ n ∧ n ≤ 1000000
def GoodHand (h : HR) : Prop := (GoodRule h ∨ ((h.wd = "in" ∨ h.wd = "out") ∧ h.no = none ∧ h.mom = 0)) ∧ 0 ≤ h.mom ∧ h.mom ≤ 30
def Small (v : Int) : Prop := -1000000 ≤ v ∧ v ≤ 1000000
section
variable {P : Program} {w : World} {K : PySem.W.Frag} {mg : Str → Option Value} {base : Heap}
def sp_law_thing (K : PySem.W.Frag) : Sp := fun vs H Q _ => ∃ f c : Addr, vs = [.ref f] ∧ Flow H f c ∧ ∀ (v : Int) (H' : Hp), Small v → Flow H' f c → But f H H' → Q (.int v) H'
theorem ok_law_thing {f : Addr} {fd : FuncData} (F : Fun K "_law_thing" "_law_thing" s_law_thing f fd) (T : Top w K mg) : FnOk P w K mg base CX0 2 f fd ["_law_flow_here"] (sp_law_thing K) := by
  obtain ⟨f_law_pick, fd_law_pick, F_law_pick, b_law_pick, m_law_pick⟩ := T.d_law_pick
  have G_law_pick := ok_law_pick (P := P) (w := w) (base := base) F_law_pick T
  refine F.ok sc_law_thing (fun vs H Q E h => ?_) (fun cdv A outer s H vs Q E hr h => ?_)
  · obtain ⟨f, c, rfl, _⟩ := h
    rfl
  obtain ⟨f, c, rfl, hF, q⟩ := h
  refine ⟨_, (pss_cons (ps_if (pt_cmpR op_gt (pe_call G_law_pick (hr.mono (by decide)) (by rfl) m_law_pick F_law_pick.kp b_law_pick .nil pass0 (pa_cons (pv 0) (pa_cons pe_int pa_nil))) pe_int (nomark _)) (pss_one (ps_ret (pe_op op_sub (pe_call G_law_pick (hr.mono (by decide)) (by rfl) m_law_pick F_law_pick.kp b_law_pick .nil pass0 (pa_cons (pv 0) (pa_cons pe_int pa_nil))) pe_int))) pss_nil)
      (pss_one (ps_ret (pe_op op_sub (pe_call G_law_pick (hr.mono (by decide)) (by rfl) m_law_pick F_law_pick.kp b_law_pick .nil pass0 (pa_cons (pv 0) (pa_cons pe_int pa_nil))) pe_int)))), ?_⟩
  refine ⟨_, rfl, f, c, 3, rfl, by decide, by decide +kernel, hF, fun v1 H1 a1 b1 F1 B1 => ⟨_, _, rfl, rfl, _, rfl, if_bl (fun _ => ?_) (fun _ => ?_)⟩⟩
  · exact ⟨_, rfl, f, c, 7, rfl, by decide, by decide +kernel, F1, fun v2 H2 a2 b2 F2 B2 => ⟨_, _, rfl, rfl, q _ _ ⟨by omega, by omega⟩ F2 (B1.trans B2)⟩⟩
  · exact ⟨_, rfl, f, c, 2000001, rfl, by decide, by decide +kernel, F1, fun v2 H2 a2 b2 F2 B2 => ⟨_, _, rfl, rfl, q _ _ ⟨by omega, by omega⟩ F2 (B1.trans B2)⟩⟩
def sp_law_needs (K : PySem.W.Frag) : Sp := fun vs H Q _ => ∃ (r : Addr) (wd : Str) (l : List V), vs = [.ref r] ∧ SqT K H r (.str wd :: l) ∧ ∀ H', Same H H' → Q (.int (needs wd)) H'
theorem ok_law_needs {f : Addr} {fd : FuncData} (F : Fun K "_law_needs" "_law_needs" s_law_needs f fd) (T : Top w K mg) : FnOk P w K mg base CX0 1 f fd ["_law_rule_here"] (sp_law_needs K) := by
  refine F.ok sc_law_needs (fun vs H Q E h => ?_) (fun cdv A outer s H vs Q E hr h => ?_)
  · obtain ⟨r, wd, l, rfl, _⟩ := h
    rfl
  obtain ⟨r, wd, l, rfl, hR, q⟩ := h
  unfold needs at q
  refine ⟨_, (pss_cons (ps_if (pt_cmpR (op_in_seqK K rfl) (pe_ix (ix_tupK K rfl) (pv 0) pe_int (fun _ _ => rfl)) (pe_tup (pa_cons pe_str (pa_cons pe_str pa_nil))) (by with_unfolding_all rfl)) (pss_one (ps_ret pe_int)) pss_nil)
      (pss_cons (ps_if (pt_cmpR (op_in_seqK K rfl) (pe_ix (ix_tupK K rfl) (pv 0) pe_int (fun _ _ => rfl)) (pe_tup (pa_cons pe_str (pa_cons pe_str (pa_cons pe_str pa_nil)))) (by with_unfolding_all rfl)) (pss_one (ps_ret pe_int)) pss_nil)
      (pss_one (ps_ret (pe_op op_add pe_int (pe_callTy call_int1 (by rfl) T.m_int (by decide +kernel) (pa_cons (pe_cmpR op_eq (pe_ix (ix_tupK K rfl) (pv 0) pe_int (fun _ _ => rfl)) pe_str (nomark _)) pa_nil))))))), ?_⟩
  refine ⟨_, rfl, r, _, _, _, rfl, rfl, hR, atI_nat (j := 0) rfl, (by show 2 ≤ sizeLine; decide), fun p np => ⟨p, _, rfl, .inr (SqT.of upd_same), rfl, rfl, _, rfl, if_in (zs := ["in", "always"]) (fun e => ?_) (fun e => ?_)⟩⟩
  · have q := q _ (same_new (o := .tup [V.str "in", V.str "always"]) np)
    rw [if_pos e] at q
    exact q
  have s1 := same_new (o := .tup [V.str "in", V.str "always"]) np
  refine ⟨_, rfl, r, _, _, _, rfl, rfl, same_seqT s1 hR, atI_nat (j := 0) rfl, (by show 3 ≤ sizeLine; decide), fun p2 np2 => ⟨p2, _, rfl, .inr (SqT.of upd_same), rfl, rfl, _, rfl, if_in (zs := ["out", "same", "times"]) (fun e2 => ?_) (fun e2 => ?_)⟩⟩
  · have q := q _ (s1.trans (same_new (o := .tup [V.str "out", V.str "same", V.str "times"]) np2))
    rw [if_neg e, if_pos e2] at q
    exact q
  have s2 := s1.trans (same_new (o := .tup [V.str "out", V.str "same", V.str "times"]) np2)
  have q := q _ s2
  rw [if_neg e, if_neg e2] at q
  refine ⟨_, rfl, r, _, _, _, rfl, rfl, same_seqT s2 hR, atI_nat (j := 0) rfl, rfl, .inr ⟨_, rfl, _, _, rfl, rfl, ?_⟩⟩
  by_cases k : wd = "pick"
  · rw [if_pos k] at q
    rw [decide_eq_true (show V.str wd = V.str "pick" by rw [k])]
    exact q
  · rw [if_neg k] at q
    rw [decide_eq_false (show ¬ V.str wd = V.str "pick" from fun z => k (V.str.inj z))]
    exact q
theorem nine_at {m : Int} (h0 : 0 ≤ m) (h9 : m < 9) : ∃ wd : Str, wd ∈ nine ∧ atI (nine.map V.str) m = some (.str wd) ∧ (m < 1 → needs wd ≤ 0) ∧ (m < 3 → needs wd ≤ 1) ∧ (m < 8 → needs wd ≤ 2) ∧ needs wd ≤ 3 ∧ 0 ≤ needs wd := by
  have : m = 0 ∨ m = 1 ∨ m = 2 ∨ m = 3 ∨ m = 4 ∨ m = 5 ∨ m = 6 ∨ m = 7 ∨ m = 8 := by omega
  rcases this with rfl | rfl | rfl | rfl | rfl | rfl | rfl | rfl | rfl
  · exact ⟨"always", by decide +kernel, rfl, by decide +kernel, by decide +kernel, by decide +kernel, by decide +kernel, by decide +kernel⟩
  · exact ⟨"same", by decide +kernel, rfl, by decide +kernel, by decide +kernel, by decide +kernel, by decide +kernel, by decide +kernel⟩
  · exact ⟨"times", by decide +kernel, rfl, by decide +kernel, by decide +kernel, by decide +kernel, by decide +kernel, by decide +kernel⟩
  · exact ⟨"sum", by decide +kernel, rfl, by decide +kernel, by decide +kernel, by decide +kernel, by decide +kernel, by decide +kernel⟩
  · exact ⟨"gap", by decide +kernel, rfl, by decide +kernel, by decide +kernel, by decide +kernel, by decide +kernel, by decide +kernel⟩
  · exact ⟨"below", by decide +kernel, rfl, by decide +kernel, by decide +kernel, by decide +kernel, by decide +kernel, by decide +kernel⟩
  · exact ⟨"most", by decide +kernel, rfl, by decide +kernel, by decide +kernel, by decide +kernel, by decide +kernel, by decide +kernel⟩
  · exact ⟨"least", by decide +kernel, rfl, by decide +kernel, by decide +kernel, by decide +kernel, by decide +kernel, by decide +kernel⟩
  · exact ⟨"pick", by decide +kernel, rfl, by decide +kernel, by decide +kernel, by decide +kernel, by decide +kernel, by decide +kernel⟩
def sp_law_rule (K : PySem.W.Frag) : Sp := fun vs H Q _ => ∃ (f c : Addr) (m : Int), vs = [.ref f, .int m] ∧ 0 ≤ m ∧ Flow H f c ∧
  ∀ (r : Addr) (h : HR) (H' : Hp), H' r = some (.tup (ruleL h)) → GoodRule h → needs h.wd ≤ m → 0 ≤ needs h.wd → h.mom = 0 → Flow H' f c → But f H H' → Q (.ref r) H'
theorem ok_law_rule {f : Addr} {fd : FuncData} (F : Fun K "_law_rule" "_law_rule" s_law_rule f fd) (T : Top w K mg) : FnOk P w K mg base CX0 3 f fd ["_law_flow_here", "_law_most"] (sp_law_rule K) := by
  obtain ⟨f_law_pick, fd_law_pick, F_law_pick, b_law_pick, m_law_pick⟩ := T.d_law_pick
  have G_law_pick := ok_law_pick (P := P) (w := w) (base := base) F_law_pick T
  obtain ⟨f_law_thing, fd_law_thing, F_law_thing, b_law_thing, m_law_thing⟩ := T.d_law_thing
  have G_law_thing := ok_law_thing (P := P) (w := w) (base := base) F_law_thing T
  refine F.ok sc_law_rule (fun vs H Q E h => ?_) (fun cdv A outer s H vs Q E hr h => ?_)
  · obtain ⟨f, c, m, rfl, _⟩ := h
    rfl
  obtain ⟨f, c, m, rfl, m0, hF, q⟩ := h
  refine ⟨_, (pss_cons (ps_set (i := 2) sc_law_rule.nd rfl (Or.inl rfl) (pe_lst (pa_cons pe_str (pa_cons pe_str (pa_cons pe_str (pa_cons pe_str (pa_cons pe_str (pa_cons pe_str (pa_cons pe_str (pa_cons pe_str (pa_cons pe_str pa_nil)))))))))))
      (pss_cons (ps_set (i := 3) sc_law_rule.nd rfl (Or.inl rfl) (pe_ix (ix_listK K rfl) (pv 2) (pe_call G_law_pick (hr.mono (by decide)) (by rfl) m_law_pick F_law_pick.kp b_law_pick .nil pass0 (pa_cons (pv 0) (pa_cons (pe_ix (ix_listK K rfl) (pe_lst (pa_cons pe_int (pa_cons pe_int (pa_cons pe_int (pa_cons pe_int pa_nil))))) (pe_callB (call_min2 rfl) (by rfl) T.m_min (by decide +kernel) (pa_cons pe_int (pa_cons (pv 1) pa_nil))) (fun _ _ => rfl)) pa_nil))) (fun _ _ => rfl)))
      (pss_cons (ps_if (pt_cmpR op_eq (pv 3) pe_str (nomark _)) (pss_one (ps_ret (pe_tup (pa_cons (pv 3) (pa_cons (pe_op op_sub (pe_call G_law_pick (hr.mono (by decide)) (by rfl) m_law_pick F_law_pick.kp b_law_pick .nil pass0 (pa_cons (pv 0) (pa_cons pe_int pa_nil))) pe_int) pa_nil))))) pss_nil)
      (pss_cons (ps_if (pt_cmpR op_eq (pv 3) pe_str (nomark _)) (pss_one (ps_ret (pe_tup (pa_cons (pv 3) (pa_cons (pe_call G_law_thing (hr.mono (by decide)) (by rfl) m_law_thing F_law_thing.kp b_law_thing .nil pass0 (pa_cons (pv 0) pa_nil)) pa_nil))))) pss_nil)
      (pss_one (ps_ret (pe_tup (pa_cons (pv 3) pa_nil)))))))), ?_⟩
  refine ⟨(by show 9 ≤ sizeLine; decide), fun wl nwl => ?_⟩
  have F1 : Flow (upd H wl (.lst (nine.map V.str))) f c := hF.new nwl
  refine ⟨_, rfl, _, rfl, (by show 4 ≤ sizeLine; decide), fun cl ncl => ?_⟩
  have F2 : Flow (upd (upd H wl (.lst (nine.map V.str))) cl (.lst [V.int 1, V.int 3, V.int 8, V.int 9])) f c := F1.new ncl
  have B2 : But f H (upd (upd H wl (.lst (nine.map V.str))) cl (.lst [V.int 1, V.int 3, V.int 8, V.int 9])) := (But.refl.new nwl).new ncl
  obtain ⟨j, hj, j1, j9, jn⟩ : ∃ j : Int, atI [V.int 1, V.int 3, V.int 8, V.int 9] (if m < 3 then m else 3) = some (.int j) ∧ 1 ≤ j ∧ j ≤ 9 ∧ ((j = 1 ∧ m = 0) ∨ (j = 3 ∧ m = 1) ∨ (j = 8 ∧ m = 2) ∨ (j = 9 ∧ 3 ≤ m)) := by
    by_cases k : m < 3
    · rw [if_pos k]
      have : m = 0 ∨ m = 1 ∨ m = 2 := by omega
      rcases this with rfl | rfl | rfl
      · exact ⟨1, rfl, by decide, by decide, by decide⟩
      · exact ⟨3, rfl, by decide, by decide, by decide⟩
      · exact ⟨8, rfl, by decide, by decide, by decide⟩
    · rw [if_neg k]
      exact ⟨9, rfl, by decide, by decide, by omega⟩
  refine ⟨_, rfl, _, _, rfl, cl, _, _, _, rfl, rfl, SqL.of upd_same, hj, f, c, j, rfl, by omega, ?_, F2, fun v H1 v0 v1 F3 B3 => ?_⟩
  · have : j = 1 ∨ j = 3 ∨ j = 8 ∨ j = 9 := by omega
    rcases this with rfl | rfl | rfl | rfl <;> decide +kernel
  obtain ⟨wd, hw, hat, n1, n3, n8, n9, n0⟩ := nine_at v0 (by omega)
  have hn : needs wd ≤ m := by
    rcases jn with ⟨rfl, rfl⟩ | ⟨rfl, rfl⟩ | ⟨rfl, rfl⟩ | ⟨rfl, k⟩
    · exact n1 v1
    · exact n3 v1
    · exact n8 v1
    · omega
  have hwl : H1 wl = some (.lst (nine.map V.str)) := B3 _ _ (same_new ncl _ _ upd_same) (hF.ne nwl)
  refine ⟨wl, _, _, _, rfl, rfl, SqL.of hwl, hat, ?_⟩
  have BB := B2.trans B3
  refine ⟨_, rfl, rfl, _, rfl, if_str (fun e => ?_) (fun e => ?_)⟩
  · refine ⟨_, rfl, _, rfl, f, c, 19, rfl, by decide, by decide +kernel, F3, fun v2 H2 a2 b2 F4 B4 => ⟨_, _, rfl, rfl, (by show 2 ≤ sizeLine; decide), fun r nr => ?_⟩⟩
    exact q r ⟨wd, some (v2 - 9), 0⟩ _ upd_same ⟨hw, ⟨fun _ => .inl e, fun _ => rfl⟩, fun n en => by cases en; exact ⟨by omega, by omega⟩⟩ hn n0 rfl (F4.new nr) ((BB.trans B4).new nr)
  refine ⟨_, rfl, rfl, _, rfl, if_str (fun e2 => ?_) (fun e2 => ?_)⟩
  · refine ⟨_, rfl, _, rfl, f, c, rfl, F3, fun v2 H2 s2 F4 B4 => ⟨(by show 2 ≤ sizeLine; decide), fun r nr => ?_⟩⟩
    exact q r ⟨wd, some v2, 0⟩ _ upd_same ⟨hw, ⟨fun _ => .inr e2, fun _ => rfl⟩, fun n en => by cases en; exact s2⟩ hn n0 rfl (F4.new nr) ((BB.trans B4).new nr)
  · refine ⟨_, rfl, (by show 1 ≤ sizeLine; decide), fun r nr => ?_⟩
    exact q r ⟨wd, none, 0⟩ _ upd_same ⟨hw, ⟨(fun z => nomatch z), fun z => absurd z (fun z => z.elim e e2)⟩, (fun n en => nomatch en)⟩ hn n0 rfl (F3.new nr) (BB.new nr)
def sp_law_shuffled (K : PySem.W.Frag) : Sp := fun vs H Q _ => ∃ (f c l : Addr) (xs : List V), vs = [.ref f, .ref l] ∧ SqL K H l xs ∧ l ≠ f ∧ xs.length ≤ 500 ∧ Flow H f c ∧
  ∀ (p : Addr) (ys : List V) (H' : Hp), ys.Perm xs → H p = none → H' p = some (.lst ys) → Flow H' f c → But f H H' → Q (.ref p) H'
theorem But.seqL {K : PySem.W.Frag} {f a : Addr} {H H1 : Hp} {xs : List V} (b : But f H H1) (h : SqL K H a xs) (n : a ≠ f) : SqL K H1 a xs := by
  rcases h with h | h
  · left
    rcases h with h | ⟨o, h⟩
    · exact .inl (b _ _ h n)
    · exact .inr ⟨o, b _ _ h n⟩
  · exact .inr h
theorem same_seqL {K : PySem.W.Frag} {a : Addr} {H H1 : Hp} {xs : List V} (b : Same H H1) (h : SqL K H a xs) : SqL K H1 a xs := by
  rcases h with h | h
  · left
    rcases h with h | ⟨o, h⟩
    · exact .inl (b _ _ h)
    · exact .inr ⟨o, b _ _ h⟩
  · exact .inr h
theorem log_small {m : Nat} (h : m ≤ 500) : ((m : Int)).natAbs.log2 < 9000 := by
  rw [Int.natAbs_natCast]
  exact Nat.lt_of_le_of_lt (Nat.log2_le_self m) (by omega)
theorem perm_erase {α : Type} : ∀ {l : List α} {j : Nat} {y : α}, l[j]? = some y → (y :: l.eraseIdx j).Perm l
  | [], _, _, h => nomatch h
  | a :: l, 0, y, h => by
    cases h
    exact List.Perm.refl _
  | a :: l, j + 1, y, h => by
    have ih : (y :: l.eraseIdx j).Perm l := perm_erase h
    exact (List.Perm.swap a y _).trans (ih.cons a)
theorem ok_law_shuffled {f : Addr} {fd : FuncData} (F : Fun K "_law_shuffled" "_law_shuffled" s_law_shuffled f fd) (T : Top w K mg) : FnOk P w K mg base CX0 2 f fd ["_law_flow_here", "_law_some"] (sp_law_shuffled K) := by
  obtain ⟨f_law_pick, fd_law_pick, F_law_pick, b_law_pick, m_law_pick⟩ := T.d_law_pick
  have G_law_pick := ok_law_pick (P := P) (w := w) (base := base) F_law_pick T
  refine F.ok sc_law_shuffled (fun vs H Q E h => ?_) (fun cdv A outer s H vs Q E hr h => ?_)
  · obtain ⟨f, c, l, xs, rfl, _⟩ := h
    rfl
  obtain ⟨f, c, l, xs, rfl, hL, nl, hlen, hF, q⟩ := h
  refine ⟨_, (pss_cons (ps_set (i := 2) sc_law_shuffled.nd rfl (Or.inr rfl) (pe_callTy (call_list_ofK K rfl) (by rfl) T.m_list (by decide +kernel) (pa_cons (pv 1) pa_nil)))
      (pss_one (ps_ret (pe_lc (own := [("_law_k", 3)]) (g := gName 3) (tt := tYes) (by rfl) sc_law_shuffled.nd (pi_range1 (by rfl) T.m_range (pa_cons (pe_callB (call_len_seqK K rfl) (by rfl) T.m_len (by decide +kernel) (pa_cons (pv 1) pa_nil)) pa_nil)) (blkOk_by (own := [("_law_k", 3)]) (N := N_law_shuffled) (sc := defScope s_law_shuffled) (by decide +kernel)) (fun _ _ _ _ _ => (pg_name (i := 3) sc_law_shuffled.nd rfl (Or.inl rfl))) (fun _ _ _ _ _ => pts_nil) (fun _ _ _ _ _ => (pe_bmK K rfl PySem.F.plainAttrs_list PySem.F.slot_list_pop PySem.F.type_list_pop mt_popAt (pv 2) (pa_cons (pe_call G_law_pick (hr.mono (by decide)) (by rfl) m_law_pick F_law_pick.kp b_law_pick .nil pass0 (pa_cons (pv 0) (pa_cons (pe_callB (call_len_seqK K rfl) (by rfl) T.m_len (by decide +kernel) (pa_cons (pv 2) pa_nil)) pa_nil))) pa_nil))))))), ?_⟩
  refine ⟨_, rfl, l, _, rfl, .inl hL, fun lf nlf => ?_⟩
  refine ⟨_, rfl, l, _, rfl, .inl (same_seqL (same_new nlf) hL), _, rfl, by omega, (by omega), fun D nD => ?_⟩
  have F1 : Flow (upd H lf (.lst xs)) f c := hF.new nlf
  have dl : D ≠ lf := (ne_of_none upd_same nD).symm
  refine lc_range (lo := 0) (n := xs.length) (fun i H5 => ∃ acc rest : List V, H5 D = some (.lst acc) ∧ H5 lf = some (.lst rest) ∧ acc.length = i ∧ rest.length + i = xs.length ∧ (acc ++ rest).Perm xs ∧ Flow H5 f c ∧ But f H H5)
    ⟨[], xs, upd_same, by rw [upd_ne dl.symm]; exact upd_same, rfl, by omega, List.Perm.refl _, F1.new nD, (But.refl.new nlf).new nD⟩ ?_ ?_
  · rintro i H5 hi ⟨acc, rest, hD, hl, ha, hr2, hp, F5, B5⟩
    refine ⟨rfl, yes_in ?_⟩
    refine ⟨_, rfl, .inl ⟨rfl, _, SqL.of hl⟩, _, rfl, _, rfl, lf, _, rfl, .inl (SqL.of hl), f, c, ((rest.length : Nat) : Int), rfl, by omega, log_small (by omega), F5, fun v H6 v0 v1 F6 B6 => ?_⟩
    have hl6 := B6 _ _ hl (hF.ne nlf)
    have hv : v.toNat < rest.length := by omega
    have e1 : seqIndex? v rest.length = some v.toNat := by
      rw [seqIndex_of v0 (by omega)]
    refine ⟨lf, rest, v, v.toNat, rest[v.toNat], rfl, rfl, hl6, by omega, by omega, e1, List.getElem?_eq_getElem hv, ?_⟩
    have hD6 := B6 _ _ hD (fun e => by rw [e] at nD; rw [show upd H lf (.lst xs) f = H f from upd_ne (hF.ne nlf).symm] at nD; obtain ⟨_, _, _, _, _, e1, _⟩ := hF; rw [e1] at nD; cases nD)
    refine ⟨acc, by rw [upd_ne dl]; exact hD6, small1000 (by omega), acc ++ [rest[v.toNat]], rest.eraseIdx v.toNat, upd_same, by rw [upd_ne dl.symm]; exact upd_same, by rw [List.length_append, ha]; rfl, ?_, ?_, ?_, ?_⟩
    · rw [List.length_eraseIdx, if_pos hv]
      omega
    · refine List.Perm.trans ?_ hp
      rw [List.append_assoc]
      exact List.Perm.append_left acc (perm_erase (List.getElem?_eq_getElem hv))
    · have dc : D ≠ c := fun e => by
        rw [e] at nD
        obtain ⟨_, _, _, _, _, _, e1, _⟩ := F1
        rw [e1] at nD
        cases nD
      exact (F6.lst (hF.ne nlf) (hF.nec nlf)).lst (F1.ne nD) dc
    · exact ((B5.trans B6).own nlf).own (same_none (same_new nlf) nD)
  · rintro H5 ⟨acc, rest, hD, hl, ha, hr2, hp, F5, B5⟩
    have er : rest = [] := by
      cases rest with
      | nil => rfl
      | cons a l => simp at hr2
    subst er
    rw [List.append_nil] at hp
    exact q D acc H5 hp (same_none (same_new nlf) nD) hD F5 B5
end
/-! ### the hands of a drawn room -/
def unS : V → Str
  | .str s => s
  | _ => ""
theorem perm_strs {ys : List V} {zs : List Str} (h : ys.Perm (zs.map V.str)) : ∃ ss : List Str, ys = ss.map V.str ∧ ss.Perm zs := by
  refine ⟨ys.map unS, ?_, ?_⟩
  · rw [List.map_map]
    symm
    refine (List.map_congr_left (g := id) fun y hy => ?_).trans (List.map_id _)
    obtain ⟨z, _, e⟩ := List.mem_map.mp (h.mem_iff.mp hy)
    subst e
    rfl
  · have q := h.map unS
    rw [List.map_map] at q
    have e : zs.map (unS ∘ V.str) = zs := (List.map_congr_left (g := id) fun z _ => rfl).trans (List.map_id _)
    rw [e] at q
    exact q
theorem flat_rep {α : Type} (x : α) : ∀ n : Nat, (List.replicate n [x]).flatten = List.replicate n x
  | 0 => rfl
  | n + 1 => by
    rw [List.replicate_succ, List.flatten_cons, flat_rep x n]
    rfl
def cnt (ss : List Str) : Nat := (ss.filter fun s => !decide (s = ("in" : Str))).length
theorem cnt_le (ss : List Str) : cnt ss ≤ ss.length := List.length_filter_le ..
theorem cut_drop (xs : List V) (k : Nat) : cutV xs (some ((k : Nat) : Int)) none = xs.drop k := by
  unfold cutV
  rw [HT.sIx_nat, HT.sIx_none]
  by_cases h : k ≤ xs.length
  · rw [Nat.min_eq_left h]
    exact List.take_of_length_le (by rw [List.length_drop]; exact Nat.le_refl _)
  · rw [Nat.min_eq_right (by omega), Nat.sub_self, List.take_zero, List.drop_eq_nil_of_le (by omega)]
structure HInv (f c sl hh : Addr) (ss : List Str) (H0 H : Hp) (i : Nat) (vs : List V) (hs : List HR) (left : Int) : Prop where
  fl : Flow H f c
  bt : But f H0 H
  hsl : H sl = some (.lst (ss.map V.str))
  hhh : H hh = some (.lst vs)
  al : All2 (HandAt H) vs hs
  len : hs.length = i
  good : ∀ h ∈ hs, GoodHand h
  lf : (cnt (ss.drop i) : Int) ≤ left
  sum : (hs.map fun h => needs h.wd).sum + left = 20
  nz : ∀ h ∈ hs, 0 ≤ needs h.wd
  one : ("hand" : Str) ∈ ss.take i → ∃ h ∈ hs, h.wd ≠ "out"
  n1 : sl ≠ f
  n2 : sl ≠ hh
  n3 : hh ≠ f
  n4 : hh ≠ c
  n5 : H0 hh = none
section
variable {f c sl hh : Addr} {ss : List Str} {H0 H H' : Hp} {i : Nat} {vs : List V} {hs : List HR} {left : Int}
theorem HInv.but (s : HInv f c sl hh ss H0 H i vs hs left) (F : Flow H' f c) (b : But f H H') : HInv f c sl hh ss H0 H' i vs hs left :=
  { s with fl := F, bt := s.bt.trans b, hsl := b _ _ s.hsl s.n1, hhh := b _ _ s.hhh s.n3, al := s.al.imp fun _ _ k => k.keep (TK.but s.fl b) }
theorem HInv.new {p : Addr} {o : HO} (s : HInv f c sl hh ss H0 H i vs hs left) (n : H p = none) : HInv f c sl hh ss H0 (upd H p o) i vs hs left :=
  { s with fl := s.fl.new n, bt := s.bt.new n, hsl := same_new n _ _ s.hsl, hhh := same_new n _ _ s.hhh, al := s.al.imp fun _ _ k => k.keep (TK.new n) }
theorem HInv.same (s : HInv f c sl hh ss H0 H i vs hs left) (k : Same H H') : HInv f c sl hh ss H0 H' i vs hs left :=
  { s with fl := s.fl.same k, bt := s.bt.same k, hsl := k _ _ s.hsl, hhh := k _ _ s.hhh, al := s.al.imp fun _ _ z => z.keep (TK.same k) }
theorem HInv.step {x : V} {h : HR} {sd : Str} (s : HInv f c sl hh ss H0 H i vs hs left) (hx : HandAt H x h) (g : GoodHand h) (z : 0 ≤ needs h.wd) (k : needs h.wd + (cnt (ss.drop (i + 1)) : Int) ≤ left) (e : ss[i]? = some sd) (o : sd = "hand" → h.wd ≠ "out") :
    HInv f c sl hh ss H0 (upd H hh (.lst (vs ++ [x]))) (i + 1) (vs ++ [x]) (hs ++ [h]) (left - needs h.wd) := by
  refine { s with fl := s.fl.lst s.n3 s.n4, bt := s.bt.own s.n5, hsl := by rw [upd_ne s.n2]; exact s.hsl, hhh := upd_same, al := (s.al.snoc hx).imp fun _ _ z => z.keep (TK.lst s.hhh), len := by rw [List.length_append, s.len]; rfl, good := ?_, lf := by omega, sum := ?_, nz := ?_, one := ?_ }
  · intro y hy
    rcases List.mem_append.mp hy with hy | hy
    · exact s.good y hy
    · obtain rfl : y = h := by simpa using hy
      exact g
  · have := s.sum
    rw [List.map_append, List.sum_append]
    simp only [List.map_cons, List.map_nil, List.sum_cons, List.sum_nil]
    omega
  · intro y hy
    rcases List.mem_append.mp hy with hy | hy
    · exact s.nz y hy
    · obtain rfl : y = h := by simpa using hy
      exact z
  · intro hm
    rw [List.take_add_one, e] at hm
    rcases List.mem_append.mp hm with hm | hm
    · obtain ⟨y, h1, h2⟩ := s.one hm
      exact ⟨y, List.mem_append_left _ h1, h2⟩
    · have e2 : ("hand" : Str) = sd := by simpa using hm
      exact ⟨h, List.mem_append_right _ (by simp), o e2.symm⟩
end
theorem cnt_cons {ss : List Str} {i : Nat} {sd : Str} (e : ss[i]? = some sd) : cnt (ss.drop i) = (if sd = "in" then 0 else 1) + cnt (ss.drop (i + 1)) := by
  have hi := (List.getElem?_eq_some_iff.mp e).1
  have e2 : ss.drop i = sd :: ss.drop (i + 1) := by
    rw [List.drop_eq_getElem_cons hi, (List.getElem?_eq_some_iff.mp e).2]
  rw [e2]
  unfold cnt
  rw [List.filter_cons]
  by_cases k : sd = "in"
  · rw [if_pos k, decide_eq_true k]
    simp
  · rw [if_neg k, decide_eq_false k]
    simp only [Bool.not_false, if_true, List.length_cons]
    omega
section
variable {P : Program} {w : World} {K : PySem.W.Frag} {mg : Str → Option Value} {base : Heap}
structure HandsOk (hs : List HR) : Prop where
  len : hs.length ≤ 12
  good : ∀ h ∈ hs, GoodHand h
  sum : (hs.map fun h => needs h.wd).sum ≤ 20
  nz : ∀ h ∈ hs, 0 ≤ needs h.wd
  one : ∃ h ∈ hs, h.wd ≠ "out"
def sp_law_hands (K : PySem.W.Frag) : Sp := fun vs H Q _ => ∃ (f c : Addr) (m : Int), vs = [.ref f, .int m] ∧ 1 ≤ m ∧ m ≤ 8 ∧ Flow H f c ∧
  ∀ (p : Addr) (xs : List V) (hs : List HR) (H' : Hp), H p = none → H' p = some (.lst xs) → All2 (HandAt H') xs hs → HandsOk hs → Flow H' f c → But f H H' → Q (.ref p) H'
theorem ok_law_hands {f : Addr} {fd : FuncData} (F : Fun K "_law_hands" "_law_hands" s_law_hands f fd) (T : Top w K mg) : FnOk P w K mg base CX0 4 f fd ["_law_flow_here", "_law_many"] (sp_law_hands K) := by
  obtain ⟨f_law_shuffled, fd_law_shuffled, F_law_shuffled, b_law_shuffled, m_law_shuffled⟩ := T.d_law_shuffled
  have G_law_shuffled := ok_law_shuffled (P := P) (w := w) (base := base) F_law_shuffled T
  obtain ⟨f_law_rule, fd_law_rule, F_law_rule, b_law_rule, m_law_rule⟩ := T.d_law_rule
  have G_law_rule := ok_law_rule (P := P) (w := w) (base := base) F_law_rule T
  obtain ⟨f_law_needs, fd_law_needs, F_law_needs, b_law_needs, m_law_needs⟩ := T.d_law_needs
  have G_law_needs := ok_law_needs (P := P) (w := w) (base := base) F_law_needs T
  obtain ⟨f_law_pick, fd_law_pick, F_law_pick, b_law_pick, m_law_pick⟩ := T.d_law_pick
  have G_law_pick := ok_law_pick (P := P) (w := w) (base := base) F_law_pick T
  refine F.ok sc_law_hands (fun vs H Q E h => ?_) (fun cdv A outer s H vs Q E hr h => ?_)
  · obtain ⟨f, c, m, rfl, _⟩ := h
    rfl
  obtain ⟨f, c, m, rfl, m1, m8, hF, q⟩ := h
  let R1 : TS := fun D' σ' H' => D'.rt = Q ∧ ∃ (sl : Addr) (ss : List Str), σ' = [some (.ref f), some (.int m), some (.ref sl), none, none, none, none, none, none, none] ∧ H' sl = some (.lst (ss.map V.str)) ∧ sl ≠ f ∧ ss.length ≤ 12 ∧ ("hand" : Str) ∈ ss ∧ (∀ s ∈ ss, s = "in" ∨ s = "out" ∨ s = "hand") ∧ Flow H' f c ∧ But f H H'
  refine ⟨_, (pss_cons (ps_set (i := 2) sc_law_hands.nd rfl (Or.inl rfl) (pe_op op_cat (pe_op op_cat (pe_op op_rep (pe_lst (pa_cons pe_str pa_nil)) (pe_call G_law_pick (hr.mono (by decide)) (by rfl) m_law_pick F_law_pick.kp b_law_pick .nil pass0 (pa_cons (pv 0) (pa_cons pe_int pa_nil)))) (pe_op op_rep (pe_lst (pa_cons pe_str pa_nil)) (pe_call G_law_pick (hr.mono (by decide)) (by rfl) m_law_pick F_law_pick.kp b_law_pick .nil pass0 (pa_cons (pv 0) (pa_cons pe_int pa_nil))))) (pe_op op_rep (pe_lst (pa_cons pe_str pa_nil)) (pv 1))))
      (pss_cons (ps_set (i := 2) sc_law_hands.nd rfl (Or.inl rfl) (pe_call G_law_shuffled (hr.mono (by decide)) (by rfl) m_law_shuffled F_law_shuffled.kp b_law_shuffled .nil pass0 (pa_cons (pv 0) (pa_cons (pv 2) pa_nil))))
      (PSs.to (pss_cons (ps_set (i := 3) sc_law_hands.nd rfl (Or.inl rfl) pe_int)
      (pss_cons (ps_set (i := 4) sc_law_hands.nd rfl (Or.inl rfl) (pe_lst pa_nil))
      (pss_cons (ps_for PassesOwn.never rfl (pi_enumK K rfl (by rfl) T.m_enumerate (pa_cons (pv 2) pa_nil)) (pg_tupK K rfl rfl (pgs_cons (pg_name (i := 5) sc_law_hands.nd rfl (Or.inl rfl)) (pgs_cons (pg_name (i := 6) sc_law_hands.nd rfl (Or.inl rfl)) pgs_nil)))
        (pss_cons (ps_if (pt_cmpR op_eq (pv 6) pe_str (nomark _)) (pss_cons (ps_set (i := 7) sc_law_hands.nd rfl (Or.inl rfl) (pe_callB (call_len_seqK K rfl) (by rfl) T.m_len (by decide +kernel) (pa_cons (pe_lc (own := [("_law_other", 8)]) (g := gName 8) (by rfl) sc_law_hands.nd (pi_listK K rfl (pe_slice (sl_listK K rfl) (pv 2) (po_some (pe_op op_add (pv 5) pe_int)) po_none)) (blkOk_by (own := [("_law_other", 8)]) (N := N_law_hands) (sc := defScope s_law_hands) (by decide +kernel)) (fun _ _ _ _ _ => (pg_name (i := 8) sc_law_hands.nd rfl (Or.inl rfl))) (fun _ _ _ _ _ => pts_one (pt_cmpR op_ne (pv 8) pe_str (nomark _))) (fun _ _ _ _ _ => (pv 8))) pa_nil)))
      (pss_cons (ps_set (i := 9) sc_law_hands.nd rfl (Or.inl rfl) (pe_call G_law_rule (hr.mono (by decide)) (by rfl) m_law_rule F_law_rule.kp b_law_rule .nil pass0 (pa_cons (pv 0) (pa_cons (pe_op op_sub (pv 3) (pv 7)) pa_nil))))
      (pss_one (ps_expr (pe_bmK K rfl PySem.F.plainAttrs_list PySem.F.slot_list_append PySem.F.type_list_append mt_append (pv 4) (pa_cons (pe_tup (pa_cons (pv 9) (pa_cons (pe_call G_law_pick (hr.mono (by decide)) (by rfl) m_law_pick F_law_pick.kp b_law_pick .nil pass0 (pa_cons (pv 0) (pa_cons (pe_ix (ix_listK K rfl) (pe_lst (pa_cons pe_int (pa_cons pe_int (pa_cons pe_int pa_nil)))) (pe_call G_law_pick (hr.mono (by decide)) (by rfl) m_law_pick F_law_pick.kp b_law_pick .nil pass0 (pa_cons (pv 0) (pa_cons pe_int pa_nil))) (fun _ _ => rfl)) pa_nil))) pa_nil))) pa_nil)))))) (pss_one (ps_expr (pe_bmK K rfl PySem.F.plainAttrs_list PySem.F.slot_list_append PySem.F.type_list_append mt_append (pv 4) (pa_cons (pe_tup (pa_cons (pe_tup (pa_cons (pv 6) pa_nil)) (pa_cons pe_int pa_nil))) pa_nil)))))
      (pss_one (ps_set (i := 3) sc_law_hands.nd rfl (Or.inl rfl) (pe_op op_sub (pv 3) (pe_call G_law_needs (hr.mono (by decide)) (by rfl) m_law_needs F_law_needs.kp b_law_needs .nil pass0 (pa_cons (pe_ix (ix_tupK K rfl) (pe_ix (ix_listK K rfl) (pv 4) (pe_un un_neg pe_int) (fun _ _ => rfl)) pe_int (fun _ _ => rfl)) pa_nil)))))))
      (pss_one (ps_ret (pv 4)))))) R1 ?tail1))), ?_⟩
  case tail1 =>
    rintro D' σ' H1 ⟨eD, sl, ss, rfl, hsl, nsl, hlen, hhand, hall, F1, B1⟩
    refine ⟨(by show 0 ≤ sizeLine; decide), fun hh nhh => ?_⟩
    have I0 : HInv f c sl hh ss H (upd H1 hh (.lst [])) 0 [] [] 20 :=
      { fl := F1.new nhh, bt := B1.new nhh, hsl := same_new nhh _ _ hsl, hhh := upd_same, al := .nil, len := rfl, good := (fun _ h => nomatch h), lf := by have := cnt_le (ss.drop 0); rw [List.length_drop] at this; omega, sum := rfl, nz := (fun _ h => nomatch h), one := (fun h => nomatch h), n1 := nsl, n2 := ne_of_none hsl nhh, n3 := F1.ne nhh, n4 := F1.nec nhh, n5 := B1.none nhh (F1.ne nhh) }
    refine ⟨_, rfl, sl, _, rfl, SqL.of I0.hsl, for_it (n := ss.length) (fun i σ H2 => ∃ (vs : List V) (hs : List HR) (left : Int) (v5 v6 v7 v8 v9 : Option V), σ = [some (.ref f), some (.int m), some (.ref sl), some (.int left), some (.ref hh), v5, v6, v7, v8, v9] ∧ HInv f c sl hh ss H H2 i vs hs left)
      ⟨[], [], 20, none, none, none, none, none, rfl, I0⟩ ?_ ?_ ?_ ?_⟩
    · rintro i σ H2 hi ⟨vs, hs, left, v5, v6, v7, v8, v9, rfl, I⟩
      exact ⟨_, _, SqL.of I.hsl, by rw [List.getElem?_map, List.getElem?_eq_getElem hi]; rfl⟩
    · rintro σ H2 ⟨vs, hs, left, v5, v6, v7, v8, v9, rfl, I⟩
      exact ⟨_, SqL.of I.hsl, by rw [List.length_map]; exact Nat.le_refl _⟩
    · rintro i x σ H2 H3 hi ⟨vs, hs, left, v5, v6, v7, v8, v9, rfl, I⟩ ⟨t, y, rfl, nt, rfl, fy⟩
      have ei : ss[i]? = some ss[i] := List.getElem?_eq_getElem hi
      obtain ⟨sd, hsd⟩ : ∃ sd, sd = ss[i] := ⟨_, rfl⟩
      rw [← hsd] at ei
      have ey : y = V.str sd := by
        have := fy _ (SqL.of I.hsl)
        rw [List.getElem?_map, ei] at this
        exact (Option.some.inj this).symm
      subst ey
      have I1 := I.new (o := .tup [V.int ((i : Nat) : Int), V.str sd]) nt
      have hc1 := cnt_cons ei
      have hl := I.lf
      have sz : vs.length < sizeLine := small1000 (by rw [I.al.length, I.len]; omega)
      refine ⟨t, _, rfl, SqT.of upd_same, rfl, _, _, rfl, _, _, rfl, rfl, ?_⟩
      refine ⟨_, rfl, rfl, _, rfl, if_str (fun e => ?_) (fun e => ?_)⟩
      · -- a hand
        refine ⟨_, rfl, _, rfl, _, _, rfl, rfl, _, rfl, sl, _, rfl, SqL.of I1.hsl, fun cp ncp => ?_⟩
        have I2 := I1.new (o := .lst (cutV (ss.map V.str) (some (((i : Nat) : Int) + 1)) none)) ncp
        have ecut : cutV (ss.map V.str) (some (((i : Nat) : Int) + 1)) none = (ss.drop (i + 1)).map V.str := by
          rw [show ((i : Nat) : Int) + 1 = ((i + 1 : Nat) : Int) by omega, cut_drop, List.map_drop]
        refine ⟨cp, rfl, ⟨_, SqL.of upd_same⟩, fun D nD => lc_list (K := K) (a := cp) (xs := cutV (ss.map V.str) (some (((i : Nat) : Int) + 1)) none) (fun j H5 => ∃ acc : List V, H5 D = some (.lst acc) ∧ acc.length = cnt ((ss.drop (i + 1)).take j) ∧ H5 cp = some (.lst (cutV (ss.map V.str) (some (((i : Nat) : Int) + 1)) none)) ∧ HInv f c sl hh ss H H5 i vs hs left ∧ D ≠ cp ∧ D ≠ f ∧ D ≠ c ∧ D ≠ sl ∧ D ≠ hh ∧ H D = Option.none)
          ⟨[], upd_same, rfl, same_new nD _ _ upd_same, I2.new nD, (ne_of_none upd_same nD).symm, I2.fl.ne nD, I2.fl.nec nD, (ne_of_none I2.hsl nD).symm, (ne_of_none I2.hhh nD).symm, I2.bt.none nD (I2.fl.ne nD)⟩ (fun j H5 _ ⟨_, _, _, h, _⟩ => SqL.of h) ?_ ?_⟩
        · rintro j z H5 hz ⟨acc, hD, hacc, hcp, I5, d1, d2, d3, d4, d5, d6⟩
          rw [ecut, List.getElem?_map] at hz
          cases ez : (ss.drop (i + 1))[j]? with
          | none => rw [ez] at hz; cases hz
          | some so =>
            rw [ez] at hz
            obtain rfl : V.str so = z := Option.some.inj hz
            refine ⟨rfl, _, rfl, rfl, _, rfl, if_bl (fun k => ?_) (fun k => ?_)⟩
            · have k2 : ¬ so = "in" := fun y => by
                rw [y] at k
                exact absurd k (by decide +kernel)
              refine ⟨_, rfl, acc, hD, ?_, acc ++ [V.str so], upd_same, ?_, by rw [upd_ne d1.symm]; exact hcp, ?_, d1, d2, d3, d4, d5, d6⟩
              · rw [hacc]
                have := cnt_le ((ss.drop (i + 1)).take j)
                rw [List.length_take, List.length_drop] at this
                exact small1000 (by omega)
              · rw [List.length_append, hacc, List.take_add_one, ez]
                unfold cnt
                rw [List.filter_append, List.length_append]
                simp [k2]
              · exact { I5 with fl := I5.fl.lst d2 d3, bt := I5.bt.own d6, hsl := by rw [upd_ne d4.symm]; exact I5.hsl, hhh := by rw [upd_ne d5.symm]; exact I5.hhh, al := I5.al.imp fun _ _ y => y.keep (TK.lst hD) }
            · have k2 : so = "in" := by
                by_cases y : so = "in"
                · exact y
                · have k3 : (!decide (V.str so = V.str "in")) = false := k
                  rw [decide_eq_false (fun y2 => y (V.str.inj y2))] at k3
                  cases k3
              refine ⟨acc, hD, ?_, hcp, I5, d1, d2, d3, d4, d5, d6⟩
              rw [hacc, List.take_add_one, ez]
              unfold cnt
              rw [List.filter_append, List.length_append]
              simp [k2]
        · rintro H5 ⟨acc, hD, hacc, hcp, I5, d1, d2, d3, d4, d5, d6⟩
          have hacc2 : acc.length = cnt (ss.drop (i + 1)) := by
            rw [hacc, List.take_of_length_le]
            rw [ecut, List.length_map]
            exact Nat.le_refl _
          have hm0 : 0 ≤ left - ((acc.length : Nat) : Int) := by
            have hne : ¬ sd = "in" := by rw [e]; decide +kernel
            rw [hacc2]
            rw [hc1, if_neg hne] at hl
            omega
          refine ⟨D, _, rfl, .inl (SqL.of hD), ?_⟩
          refine ⟨_, rfl, _, rfl, _, rfl, _, _, rfl, rfl, f, c, _, rfl, hm0, I5.fl, fun r hR H6 hr6 gR n1 n0 mo F6 B6 => ?_⟩
          have I6 := I5.but F6 B6
          refine ⟨_, rfl, .inl ⟨rfl, _, SqL.of I6.hhh⟩, _, rfl, _, rfl, (by show 3 ≤ sizeLine; decide), fun ml nml => ?_⟩
          have I7 := I6.new (o := .lst [V.int 5, V.int 5, V.int 31]) nml
          refine ⟨_, rfl, f, c, 3, rfl, by decide, by decide +kernel, I7.fl, fun z H8 z0 z3 F8 B8 => ?_⟩
          have I8 := I7.but F8 B8
          have hml := B8 _ _ upd_same (I6.fl.ne nml)
          obtain ⟨mm, hmm, mk⟩ : ∃ mm : Int, atI [V.int 5, V.int 5, V.int 31] z = some (.int mm) ∧ (mm = 5 ∨ mm = 31) := by
            have : z = 0 ∨ z = 1 ∨ z = 2 := by omega
            rcases this with rfl | rfl | rfl
            · exact ⟨5, rfl, .inl rfl⟩
            · exact ⟨5, rfl, .inl rfl⟩
            · exact ⟨31, rfl, .inr rfl⟩
          refine ⟨ml, _, _, _, rfl, rfl, SqL.of hml, hmm, f, c, mm, rfl, by omega, (by rcases mk with rfl | rfl <;> decide +kernel), I8.fl, fun mo2 H9 o0 o1 F9 B9 => ?_⟩
          have I9 := I8.but F9 B9
          refine ⟨(by show 2 ≤ sizeLine; decide), fun t2 nt2 => ?_⟩
          have I10 := I9.new (o := .tup [V.ref r, V.int mo2]) nt2
          have sz10 : vs.length < sizeLine := sz
          refine ⟨hh, _, _, rfl, rfl, I10.hhh, sz10, ?_⟩
          have k9 : TK H6 H9 := ((TK.new nml).trans (TK.but I7.fl B8)).trans (TK.but I8.fl B9)
          have hx : HandAt (upd H9 t2 (.tup [V.ref r, V.int mo2])) (V.ref t2) ⟨hR.wd, hR.no, mo2⟩ := ⟨t2, r, rfl, upd_same, TK.new nt2 _ _ (k9 _ _ hr6)⟩
          have gd : GoodHand ⟨hR.wd, hR.no, mo2⟩ := ⟨.inl ⟨gR.wd, gR.no, gR.big⟩, o0, (show mo2 ≤ 30 by omega)⟩
          have nout : hR.wd ≠ "out" := fun y => by
            have := gR.wd
            rw [y] at this
            exact absurd this (by decide +kernel)
          have I11 := I10.step (h := ⟨hR.wd, hR.no, mo2⟩) hx gd n0 (by show needs hR.wd + _ ≤ left; rw [hacc2] at n1; omega) ei (fun _ => nout)
          refine ⟨_, rfl, _, rfl, 1, rfl, hh, _, -1, _, rfl, rfl, SqL.of I11.hhh, atI_last _ _, t2, _, _, _, rfl, rfl, SqT.of (TK.lst I10.hhh _ _ upd_same), atI_nat (j := 0) rfl, r, hR.wd, _, rfl, SqT.of (TK.lst I10.hhh _ _ (TK.new nt2 _ _ (k9 _ _ hr6))), fun H12 s12 => ⟨_, _, rfl, rfl, ?_⟩⟩
          exact ⟨_, _, _, _, _, _, _, _, rfl, I11.same s12⟩
      · -- a door
        refine ⟨_, rfl, .inl ⟨rfl, _, SqL.of I1.hhh⟩, _, rfl, (by show 1 ≤ sizeLine; decide), fun r nr => ⟨(by show 2 ≤ sizeLine; decide), fun t2 nt2 => ?_⟩⟩
        have I2 := (I1.new (o := .tup [V.str sd]) nr).new (o := .tup [V.ref r, V.int 0]) nt2
        refine ⟨hh, _, _, rfl, rfl, I2.hhh, sz, ?_⟩
        have hsd2 : sd = "in" ∨ sd = "out" := by
          rcases hall sd (List.mem_of_getElem? ei) with y | y | y
          · exact .inl y
          · exact .inr y
          · exact absurd y e
        have hn : needs sd = (if sd = "in" then 0 else 1) := by
          rcases hsd2 with y | y <;> rw [y] <;> decide +kernel
        have hx : HandAt (upd (upd (upd H2 t (.tup [V.int ((i : Nat) : Int), V.str sd])) r (.tup [V.str sd])) t2 (.tup [V.ref r, V.int 0])) (V.ref t2) ⟨sd, none, 0⟩ := ⟨t2, r, rfl, upd_same, same_new nt2 _ _ upd_same⟩
        have I3 := I2.step (h := ⟨sd, none, 0⟩) hx ⟨.inr ⟨hsd2, rfl, rfl⟩, (show (0 : Int) ≤ 0 by decide), (show (0 : Int) ≤ 30 by decide)⟩ (by show 0 ≤ needs sd; rw [hn]; split <;> decide) (by
          show needs sd + _ ≤ left
          rw [hn]
          rw [hc1] at hl
          by_cases y : sd = "in"
          · rw [if_pos y] at hl ⊢; omega
          · rw [if_neg y] at hl ⊢; omega) ei (fun y => absurd y e)
        refine ⟨_, rfl, _, rfl, 1, rfl, hh, _, -1, _, rfl, rfl, SqL.of I3.hhh, atI_last _ _, t2, _, _, _, rfl, rfl, SqT.of (TK.lst I2.hhh _ _ upd_same), atI_nat (j := 0) rfl, r, sd, _, rfl, SqT.of (TK.lst I2.hhh _ _ (same_new nt2 _ _ upd_same)), fun H12 s12 => ⟨_, _, rfl, rfl, ?_⟩⟩
        exact ⟨_, _, _, _, _, _, _, _, rfl, I3.same s12⟩
    · rintro σ H2 ⟨vs, hs, left, v5, v6, v7, v8, v9, rfl, I⟩
      refine ⟨_, rfl, ?_⟩
      rw [eD]
      refine q hh vs hs H2 I.n5 I.hhh I.al ⟨by rw [I.len]; exact hlen, I.good, ?_, I.nz, I.one (by rw [List.take_length]; exact hhand)⟩ I.fl I.bt
      have := I.sum
      have := I.lf
      omega
  refine ⟨(by show 1 ≤ sizeLine; decide), fun l1 nl1 => ?_⟩
  refine ⟨_, rfl, f, c, 3, rfl, by decide, by decide +kernel, hF.new nl1, fun v1 H1 a1 b1 F1 B1 => ?_⟩
  have g1 := B1 _ _ upd_same (hF.ne nl1)
  have small : ∀ v : Int, 0 ≤ v → v ≤ 8 → [V.str "in"].length * v.toNat ≤ sizeLine := fun v v0 v8 => little (by show 1 * v.toNat ≤ 1000; omega)
  refine ⟨l1, v1, _, rfl, rfl, g1, by omega, by omega, small v1 a1 (by omega), fun p1 np1 => ?_⟩
  rw [flat_rep]
  have F2 := F1.new (o := .lst (List.replicate v1.toNat (V.str "in"))) np1
  refine ⟨(by show 1 ≤ sizeLine; decide), fun l2 nl2 => ?_⟩
  refine ⟨_, rfl, f, c, 3, rfl, by decide, by decide +kernel, F2.new nl2, fun v2 H3 a2 b2 F3 B3 => ?_⟩
  have g2 := B3 _ _ upd_same (F2.ne nl2)
  have h1 := B3 _ _ (same_new nl2 _ _ upd_same) (F1.ne np1)
  refine ⟨l2, v2, _, rfl, rfl, g2, by omega, by omega, small v2 a2 (by omega), fun p2 np2 => ?_⟩
  rw [flat_rep]
  have F4 := F3.new (o := .lst (List.replicate v2.toNat (V.str "out"))) np2
  refine ⟨p1, p2, _, _, rfl, rfl, same_new np2 _ _ h1, upd_same, ?_, fun p3 np3 => ?_⟩
  · rw [List.length_replicate, List.length_replicate]; exact little (by omega)
  have F5 := F4.new (o := .lst (List.replicate v1.toNat (V.str "in") ++ List.replicate v2.toNat (V.str "out"))) np3
  refine ⟨(by show 1 ≤ sizeLine; decide), fun l4 nl4 => ⟨_, rfl, l4, m, _, rfl, rfl, upd_same, by omega, by omega, small m (by omega) m8, fun p5 np5 => ?_⟩⟩
  rw [flat_rep]
  have F6 := F5.new (o := .lst [V.str "hand"]) nl4
  have F7 := F6.new (o := .lst (List.replicate m.toNat (V.str "hand"))) np5
  refine ⟨p3, p5, _, _, rfl, rfl, same_new np5 _ _ (same_new nl4 _ _ upd_same), upd_same, ?_, fun p6 np6 => ?_⟩
  · rw [List.length_append, List.length_replicate, List.length_replicate, List.length_replicate]; exact little (by omega)
  refine ⟨_, rfl, _, rfl, f, c, p6, _, rfl, SqL.of upd_same, F7.ne np6, ?_, F7.new np6, fun p ys H8 hp np hy F8 B8 => ?_⟩
  · rw [List.length_append, List.length_append, List.length_replicate, List.length_replicate, List.length_replicate]; omega
  have ez : (List.replicate v1.toNat (V.str "in") ++ List.replicate v2.toNat (V.str "out")) ++ List.replicate m.toNat (V.str "hand") = ((List.replicate v1.toNat ("in" : Str) ++ List.replicate v2.toNat ("out" : Str)) ++ List.replicate m.toNat ("hand" : Str)).map V.str := by
    rw [List.map_append, List.map_append, List.map_replicate, List.map_replicate, List.map_replicate]
  rw [ez] at hp
  obtain ⟨ss, rfl, hss⟩ := perm_strs hp
  have pf : p ≠ f := fun y => by
    rw [y] at np
    obtain ⟨_, _, _, _, _, e1, _⟩ := F7.new (o := .lst ((List.replicate v1.toNat (V.str "in") ++ List.replicate v2.toNat (V.str "out")) ++ List.replicate m.toNat (V.str "hand"))) np6
    rw [e1] at np
    cases np
  refine ⟨rfl, p, ss, rfl, hy, pf, ?_, ?_, ?_, F8, But.trans ((((((((((But.refl.new nl1).trans B1).new np1).new nl2).trans B3).new np2).new np3).new nl4).new np5).new np6) B8⟩
  · rw [hss.length_eq, List.length_append, List.length_append, List.length_replicate, List.length_replicate, List.length_replicate]; omega
  · refine hss.mem_iff.mpr (List.mem_append_right _ (List.mem_replicate.mpr ⟨by omega, rfl⟩))
  · intro s hs
    rcases List.mem_append.mp (hss.mem_iff.mp hs) with hs | hs
    · rcases List.mem_append.mp hs with hs | hs
      · exact .inl (List.mem_replicate.mp hs).2
      · exact .inr (.inl (List.mem_replicate.mp hs).2)
    · exact .inr (.inr (List.mem_replicate.mp hs).2)
end
/-! ### rules as data -/
abbrev ruleD (h : HR) : List PyData := .str h.wd :: (match h.no with | none => [] | some n => [.int n])
theorem rule_dp {K : PySem.W.Frag} {H : Hp} {r : Addr} {h : HR} (e : H r = some (.tup (ruleL h))) : Dp K H (.ref r) (.tuple (ruleD h)) := by
  obtain ⟨wd, no, mom⟩ := h
  cases no with
  | none => exact .tup (SqT.of e) (.cons (.str _) .nil)
  | some n => exact .tup (SqT.of e) (.cons (.str _) (.cons (.int _) .nil))
theorem rule_shaped {h : HR} (k : PyData.canLay0 (.str h.wd) = true) : SeqAt.shaped (.tuple (ruleD h)) = true := by
  obtain ⟨wd, no, mom⟩ := h
  have k : PyData.canLay0 (.str wd) = true := k
  cases no <;> simp [SeqAt.shaped, PyData.canLay0, PyData.canLayAll0, PyData.depth, PyData.depthAll] <;> simpa [PyData.canLay0] using k
theorem GoodHand.lay {h : HR} (g : GoodHand h) : PyData.canLay0 (.str h.wd) = true := by
  have : h.wd ∈ nine ∨ h.wd = "in" ∨ h.wd = "out" := g.1.elim (fun k => .inl k.wd) (fun k => .inr k.1)
  rcases this with k | k | k
  · unfold nine at k
    simp only [List.mem_cons, List.not_mem_nil, or_false] at k
    rcases k with k | k | k | k | k | k | k | k | k <;> rw [k] <;> decide +kernel
  · rw [k]; decide +kernel
  · rw [k]; decide +kernel
theorem one_shaped {z : Str} (k : PyData.canLay0 (.str z) = true) : SeqAt.shaped (.tuple [.str z]) = true := rule_shaped (h := ⟨z, none, 0⟩) k
theorem at0 {xs : List V} {i : Nat} {v : V} (h : xs[i]? = some v) : atI xs (0 + ((i : Nat) : Int)) = some v := by
  rw [Int.zero_add]
  exact atI_nat h
theorem rule_eqv (h : HR) (z : Str) : PyData.eqv (.tuple (ruleD h)) (.tuple [.str z]) = (decide (h.wd = z) && h.no.isNone) := by
  obtain ⟨wd, no, mom⟩ := h
  have e : (wd == z) = decide (wd = z) := by
    by_cases k : wd = z
    · rw [k, decide_eq_true rfl]; exact beq_self_eq_true z
    · rw [decide_eq_false k]; exact beq_eq_false_iff_ne.mpr k
  cases no with
  | none =>
    show (wd == z && true) = (decide (wd = z) && true)
    rw [e]
  | some n =>
    show (wd == z && false) = (decide (wd = z) && false)
    rw [Bool.and_false, Bool.and_false]
theorem GoodHand.door {h : HR} (g : GoodHand h) (z : Str) (hz : z = "in" ∨ z = "out") : (decide (h.wd = z) && h.no.isNone) = decide (h.wd = z) := by
  by_cases k : h.wd = z
  · rw [decide_eq_true k, Bool.true_and]
    rcases g.1 with g | g
    · have := g.wd
      rw [k] at this
      rcases hz with rfl | rfl <;> exact absurd this (by decide +kernel)
    · rw [g.2.1]; rfl
  · rw [decide_eq_false k]; rfl
theorem GoodHand.mom0 {h : HR} (g : GoodHand h) (z : h.wd = "in" ∨ h.wd = "out") : h.mom = 0 := by
  rcases g.1 with k | k
  · have := k.wd
    rcases z with z | z <;> rw [z] at this <;> exact absurd this (by decide +kernel)
  · exact k.2.2
/-! ### numbers in lists -/
abbrev nV (n : Nat) : V := .int (n : Nat)
def unN : V → Nat
  | .int i => i.toNat
  | _ => 0
def unI : V → Int
  | .int i => i
  | _ => 0
theorem perm_inv {α : Type} {f : α → V} {g : V → α} (k : ∀ a, g (f a) = a) {ys : List V} {zs : List α} (h : ys.Perm (zs.map f)) : ∃ ss : List α, ys = ss.map f ∧ ss.Perm zs := by
  refine ⟨ys.map g, ?_, ?_⟩
  · rw [List.map_map]
    symm
    refine (List.map_congr_left (g := id) fun y hy => ?_).trans (List.map_id _)
    obtain ⟨z, _, e⟩ := List.mem_map.mp (h.mem_iff.mp hy)
    subst e
    show f (g (f z)) = f z
    rw [k]
  · have q := h.map g
    rw [List.map_map] at q
    have e : zs.map (g ∘ f) = zs := (List.map_congr_left (g := id) fun z _ => k z).trans (List.map_id _)
    rw [e] at q
    exact q
def nd (hs : List HR) (j : Nat) : Nat := match hs[j]? with | some h => (needs h.wd).toNat | none => 0
def tkTo (hs : List HR) : Nat → List Nat
  | 0 => []
  | n + 1 => tkTo hs n ++ List.replicate (nd hs n) n
theorem tk_count (hs : List HR) (k : Nat) : ∀ n, (tkTo hs n).count k = if k < n then nd hs k else 0
  | 0 => by simp [tkTo]
  | n + 1 => by
    unfold tkTo
    rw [List.count_append, tk_count hs k n, List.count_replicate]
    by_cases h1 : k < n
    · have h2 : ¬ (n == k) = true := by simp; omega
      rw [if_pos h1, if_neg h2, if_pos (show k < n + 1 by omega), Nat.add_zero]
    · by_cases h2 : n = k
      · subst h2
        rw [if_neg h1, if_pos (beq_self_eq_true n), if_pos (show n < n + 1 by omega), Nat.zero_add]
      · have h3 : ¬ (n == k) = true := by simpa using h2
        rw [if_neg h1, if_neg h3, if_neg (show ¬ k < n + 1 by omega)]
theorem tk_mem (hs : List HR) : ∀ n k, k ∈ tkTo hs n → k < n
  | 0, k, h => nomatch h
  | n + 1, k, h => by
    rcases List.mem_append.mp h with h | h
    · exact Nat.lt_succ_of_lt (tk_mem hs n k h)
    · rw [(List.mem_replicate.mp h).2]; exact Nat.lt_succ_self n
theorem tk_len (hs : List HR) (z : ∀ h ∈ hs, 0 ≤ needs h.wd) : ∀ n, n ≤ hs.length → ((tkTo hs n).length : Int) = ((hs.take n).map fun h => needs h.wd).sum
  | 0, _ => rfl
  | n + 1, hn => by
    have e : hs[n]? = some hs[n] := List.getElem?_eq_getElem (by omega)
    unfold tkTo
    rw [List.length_append, List.length_replicate, List.take_add_one, e, List.map_append, List.sum_append, Int.natCast_add, tk_len hs z n (by omega)]
    unfold nd
    rw [e]
    have := z hs[n] (List.getElem_mem _)
    simp only [Option.toList, List.map_cons, List.map_nil, List.sum_cons, List.sum_nil]
    omega
structure RoomOk (hs : List HR) (bs : List BR) : Prop where
  hands : hs.length ≤ 12
  good : ∀ h ∈ hs, GoodHand h
  ends : ∀ b ∈ bs, b.one < hs.length ∧ b.to < hs.length
  out : ∀ b ∈ bs, ∀ h, hs[b.one]? = some h → h.wd ≠ "out"
  th : ∀ b ∈ bs, b.th.length ≤ 6 ∧ ∀ x ∈ b.th, Small x
  rank : ∃ rk : Nat → Int, ∀ b ∈ bs, b.th = [] → rk b.one < rk b.to
  count : ∀ k h, hs[k]? = some h → (((bs.map BR.to).count k : Nat) : Int) = needs h.wd
  many : bs.length ≤ 20
structure RoomAt (H : Hp) (r : Addr) (hs : List HR) (bs : List BR) : Prop where
  ex : ∃ (ha ba : Addr) (hv bv : List V), H r = some (.tup [.ref ha, .ref ba]) ∧ H ha = some (.tup hv) ∧ H ba = some (.tup bv) ∧ All2 (HandAt H) hv hs ∧ All2 (BeltAt H) bv bs
theorem RoomAt.keep {H H' : Hp} {r : Addr} {hs : List HR} {bs : List BR} (a : RoomAt H r hs bs) (k : TK H H') : RoomAt H' r hs bs := by
  obtain ⟨ha, ba, hv, bv, e1, e2, e3, a1, a2⟩ := a.ex
  exact ⟨ha, ba, hv, bv, k _ _ e1, k _ _ e2, k _ _ e3, a1.imp fun _ _ z => z.keep k, a2.imp fun _ _ z => z.keep k⟩
section
variable {P : Program} {w : World} {K : PySem.W.Frag} {mg : Str → Option Value} {base : Heap}
def sp_law_room (K : PySem.W.Frag) : Sp := fun vs H Q _ => ∃ (f c : Addr) (m : Int), vs = [.ref f, .int m] ∧ 1 ≤ m ∧ m ≤ 8 ∧ Flow H f c ∧
  ∀ (r : Addr) (hs : List HR) (bs : List BR) (H' : Hp), RoomAt H' r hs bs → RoomOk hs bs → 0 < hs.length → Flow H' f c → But f H H' → Q (.ref r) H'
/-- what stands while a room is drawn: the draws, the list of its hands -/
structure RI (f c hh : Addr) (H0 H : Hp) (xs : List V) (hs : List HR) : Prop where
  fl : Flow H f c
  bt : But f H0 H
  lh : H hh = some (.lst xs)
  al : All2 (HandAt H) xs hs
  n1 : hh ≠ f
  n2 : H0 hh = none
section
variable {f c hh : Addr} {H0 H H' : Hp} {xs : List V} {hs : List HR}
theorem RI.but (s : RI f c hh H0 H xs hs) (F : Flow H' f c) (b : But f H H') : RI f c hh H0 H' xs hs :=
  { s with fl := F, bt := s.bt.trans b, lh := b _ _ s.lh s.n1, al := s.al.imp fun _ _ k => k.keep (TK.but s.fl b) }
theorem RI.new {p : Addr} {o : HO} (s : RI f c hh H0 H xs hs) (n : H p = none) : RI f c hh H0 (upd H p o) xs hs :=
  { s with fl := s.fl.new n, bt := s.bt.new n, lh := same_new n _ _ s.lh, al := s.al.imp fun _ _ k => k.keep (TK.new n) }
theorem RI.same (s : RI f c hh H0 H xs hs) (k : Same H H') : RI f c hh H0 H' xs hs :=
  { s with fl := s.fl.same k, bt := s.bt.same k, lh := k _ _ s.lh, al := s.al.imp fun _ _ z => z.keep (TK.same k) }
theorem RI.lst {D : Addr} {as bs : List V} (s : RI f c hh H0 H xs hs) (h : H D = some (.lst as)) (d1 : D ≠ f) (d2 : D ≠ c) (d3 : D ≠ hh) (d4 : H0 D = none) : RI f c hh H0 (upd H D (.lst bs)) xs hs :=
  { s with fl := s.fl.lst d1 d2, bt := s.bt.own d4, lh := by rw [upd_ne d3.symm]; exact s.lh, al := s.al.imp fun _ _ z => z.keep (TK.lst h) }
end
theorem ok_law_room {f : Addr} {fd : FuncData} (F : Fun K "_law_room" "_law_room" s_law_room f fd) (T : Top w K mg) : FnOk P w K mg base CX0 5 f fd ["_law_flow_here", "_law_most"] (sp_law_room K) := by
  obtain ⟨f_law_hands, fd_law_hands, F_law_hands, b_law_hands, m_law_hands⟩ := T.d_law_hands
  have G_law_hands := ok_law_hands (P := P) (w := w) (base := base) F_law_hands T
  obtain ⟨f_law_shuffled, fd_law_shuffled, F_law_shuffled, b_law_shuffled, m_law_shuffled⟩ := T.d_law_shuffled
  have G_law_shuffled := ok_law_shuffled (P := P) (w := w) (base := base) F_law_shuffled T
  obtain ⟨f_law_pick, fd_law_pick, F_law_pick, b_law_pick, m_law_pick⟩ := T.d_law_pick
  have G_law_pick := ok_law_pick (P := P) (w := w) (base := base) F_law_pick T
  obtain ⟨f_law_needs, fd_law_needs, F_law_needs, b_law_needs, m_law_needs⟩ := T.d_law_needs
  have G_law_needs := ok_law_needs (P := P) (w := w) (base := base) F_law_needs T
  obtain ⟨f_law_thing, fd_law_thing, F_law_thing, b_law_thing, m_law_thing⟩ := T.d_law_thing
  have G_law_thing := ok_law_thing (P := P) (w := w) (base := base) F_law_thing T
  refine F.ok sc_law_room (fun vs H Q E h => ?_) (fun cdv A outer s H vs Q E hr h => ?_)
  · obtain ⟨f, c, m, rfl, _⟩ := h
    rfl
  obtain ⟨f, c, m, rfl, m1, m8, hF, q⟩ := h
  have hm9 : m.natAbs.log2 < 9000 := by
    obtain ⟨j, rfl⟩ : ∃ j : Nat, m = (j : Int) := ⟨m.toNat, by omega⟩
    exact log_small (by omega)
  let R1 : TS := fun D' σ' H' => D'.rt = Q ∧ ∃ (hh rk gv : Addr) (xs : List V) (hs : List HR) (is : List Int) (gs : List Nat), σ' = [some (.ref f), some (.int m), some (.ref hh), some (.ref rk), some (.ref gv), none, none, none, none, none, none] ∧ RI f c hh H H' xs hs ∧ HandsOk hs ∧ H' rk = some (.lst (is.map V.int)) ∧ is.length = hs.length ∧ H' gv = some (.lst (gs.map nV)) ∧ gs ≠ [] ∧ gs.length ≤ 12 ∧ (∀ k ∈ gs, ∃ h, hs[k]? = some h ∧ h.wd ≠ "out") ∧ rk ≠ f ∧ gv ≠ f
  let R2 : TS := fun D' σ' H' => D'.rt = Q ∧ ∃ (hh rk gv tk : Addr) (xs : List V) (hs : List HR) (is : List Int) (gs ts : List Nat) (v5 : Option V), σ' = [some (.ref f), some (.int m), some (.ref hh), some (.ref rk), some (.ref gv), v5, some (.ref tk), none, none, none, none] ∧ RI f c hh H H' xs hs ∧ HandsOk hs ∧ H' rk = some (.lst (is.map V.int)) ∧ is.length = hs.length ∧ H' gv = some (.lst (gs.map nV)) ∧ gs ≠ [] ∧ gs.length ≤ 12 ∧ (∀ k ∈ gs, ∃ h, hs[k]? = some h ∧ h.wd ≠ "out") ∧ rk ≠ f ∧ gv ≠ f ∧ tk ≠ f ∧ H' tk = some (.lst (ts.map nV)) ∧ ts = tkTo hs hs.length
  refine ⟨_, (pss_cons (ps_set (i := 2) sc_law_room.nd rfl (Or.inr rfl) (pe_call G_law_hands (hr.mono (by decide)) (by rfl) m_law_hands F_law_hands.kp b_law_hands .nil pass0 (pa_cons (pv 0) (pa_cons (pe_op op_add pe_int (pe_call G_law_pick (hr.mono (by decide)) (by rfl) m_law_pick F_law_pick.kp b_law_pick .nil pass0 (pa_cons (pv 0) (pa_cons (pv 1) pa_nil)))) pa_nil))))
      (pss_cons (ps_set (i := 3) sc_law_room.nd rfl (Or.inl rfl) (pe_call G_law_shuffled (hr.mono (by decide)) (by rfl) m_law_shuffled F_law_shuffled.kp b_law_shuffled .nil pass0 (pa_cons (pv 0) (pa_cons (pe_listRg rfl (by rfl) T.m_list (prg_1 (by rfl) T.m_range (pe_callB (call_len_seqK K rfl) (by rfl) T.m_len (by decide +kernel) (pa_cons (pv 2) pa_nil)))) pa_nil))))
      (pss_cons (ps_setLc (i := 4) (own := [("_law_k", 5)]) (g := gName 5) (by rfl) sc_law_room.nd rfl rfl (sw_true rfl rfl rfl (by decide +kernel)) (pi_range1 (by rfl) T.m_range (pa_cons (pe_callB (call_len_seqK K rfl) (by rfl) T.m_len (by decide +kernel) (pa_cons (pv 2) pa_nil)) pa_nil)) (blkOk_by (own := [("_law_k", 5)]) (N := N_law_room) (sc := defScope s_law_room) (by decide +kernel)) (fun _ _ _ _ _ => (pg_name (i := 5) sc_law_room.nd rfl (Or.inl rfl))) (fun _ _ _ _ _ => pts_one (pt_cmpR (op_neDK K rfl hr.units) (pe_ix (ix_tupK K rfl) (pe_ix (ix_listK K rfl) (pv 2) (pv 5) (fun _ _ => rfl)) pe_int (fun _ _ => rfl)) (pe_tup (pa_cons pe_str pa_nil)) (nomark _))) (fun _ _ _ _ _ => (pv 5)))
      (PSs.to (pss_cons (ps_set (i := 6) sc_law_room.nd rfl (Or.inl rfl) (pe_lst pa_nil))
      (pss_cons (ps_for PassesOwn.never rfl (pi_range1 (by rfl) T.m_range (pa_cons (pe_callB (call_len_seqK K rfl) (by rfl) T.m_len (by decide +kernel) (pa_cons (pv 2) pa_nil)) pa_nil)) (pg_name (i := 5) sc_law_room.nd rfl (Or.inl rfl))
        (pss_one (ps_set (i := 6) sc_law_room.nd rfl (Or.inl rfl) (pe_op op_cat (pv 6) (pe_op op_rep (pe_lst (pa_cons (pv 5) pa_nil)) (pe_call G_law_needs (hr.mono (by decide)) (by rfl) m_law_needs F_law_needs.kp b_law_needs .nil pass0 (pa_cons (pe_ix (ix_tupK K rfl) (pe_ix (ix_listK K rfl) (pv 2) (pv 5) (fun _ _ => rfl)) pe_int (fun _ _ => rfl)) pa_nil)))))))
      (PSs.to (pss_cons (ps_set (i := 7) sc_law_room.nd rfl (Or.inl rfl) (pe_lst pa_nil))
      (pss_cons (ps_for PassesOwn.never rfl (pi_listK K rfl (pe_call G_law_shuffled (hr.mono (by decide)) (by rfl) m_law_shuffled F_law_shuffled.kp b_law_shuffled .nil pass0 (pa_cons (pv 0) (pa_cons (pv 6) pa_nil)))) (pg_name (i := 8) sc_law_room.nd rfl (Or.inl rfl))
        (pss_cons (ps_set (i := 9) sc_law_room.nd rfl (Or.inl rfl) (pe_ix (ix_listK K rfl) (pv 4) (pe_call G_law_pick (hr.mono (by decide)) (by rfl) m_law_pick F_law_pick.kp b_law_pick .nil pass0 (pa_cons (pv 0) (pa_cons (pe_callB (call_len_seqK K rfl) (by rfl) T.m_len (by decide +kernel) (pa_cons (pv 4) pa_nil)) pa_nil))) (fun _ _ => rfl)))
      (pss_cons (ps_set (i := 10) sc_law_room.nd rfl (Or.inl rfl) (pe_ix (ix_listK K rfl) (pe_lst (pa_cons pe_int (pa_cons pe_int (pa_cons pe_int (pa_cons pe_int (pa_cons pe_int (pa_cons pe_int (pa_cons pe_int (pa_cons pe_int pa_nil))))))))) (pe_call G_law_pick (hr.mono (by decide)) (by rfl) m_law_pick F_law_pick.kp b_law_pick .nil pass0 (pa_cons (pv 0) (pa_cons pe_int pa_nil))) (fun _ _ => rfl)))
      (pss_cons (ps_if (pt_cmpR op_ge (pe_ix (ix_listK K rfl) (pv 3) (pv 9) (fun _ _ => rfl)) (pe_ix (ix_listK K rfl) (pv 3) (pv 8) (fun _ _ => rfl)) (nomark _)) (pss_one (ps_set (i := 10) sc_law_room.nd rfl (Or.inl rfl) (pe_callB (call_max2 rfl) (by rfl) T.m_max (by decide +kernel) (pa_cons pe_int (pa_cons (pv 10) pa_nil))))) pss_nil)
      (pss_one (ps_expr (pe_bmK K rfl PySem.F.plainAttrs_list PySem.F.slot_list_append PySem.F.type_list_append mt_append (pv 7) (pa_cons (pe_tup (pa_cons (pv 9) (pa_cons (pv 8) (pa_cons (pe_callTy (call_tuple_ofK K rfl) (by rfl) T.m_tuple (by decide +kernel) (pa_cons (pe_lc (own := [("_law_k", 5)]) (g := gName 5) (tt := tYes) (by rfl) sc_law_room.nd (pi_range1 (by rfl) T.m_range (pa_cons (pv 10) pa_nil)) (blkOk_by (own := [("_law_k", 5)]) (N := N_law_room) (sc := defScope s_law_room) (by decide +kernel)) (fun _ _ _ _ _ => (pg_name (i := 5) sc_law_room.nd rfl (Or.inl rfl))) (fun _ _ _ _ _ => pts_nil) (fun _ _ _ _ _ => (pe_call G_law_thing (hr.mono (by decide)) (by rfl) m_law_thing F_law_thing.kp b_law_thing .nil pass0 (pa_cons (pv 0) pa_nil)))) pa_nil)) pa_nil)))) pa_nil))))))))
      (pss_one (ps_ret (pe_tup (pa_cons (pe_callTy (call_tuple_ofK K rfl) (by rfl) T.m_tuple (by decide +kernel) (pa_cons (pv 2) pa_nil)) (pa_cons (pe_callTy (call_tuple_ofK K rfl) (by rfl) T.m_tuple (by decide +kernel) (pa_cons (pv 7) pa_nil)) pa_nil))))))) R2 ?tail2))) R1 ?tail1)))), ?_⟩
  case tail2 =>
    rintro D' σ' H1 ⟨eD, hh, rk, gv, tk, xs, hs, is, gs, ts, v5, rfl, I1, ok, hrk, lis, hgv, gne, glen, gok, nrk, ngv, ntk, htk, ets⟩
    have hx : xs.length = hs.length := I1.al.length
    have len12 := ok.len
    have lts : ts.length ≤ 20 := by
      have a := tk_len hs ok.nz hs.length (Nat.le_refl _)
      rw [List.take_length, ← ets] at a
      have := ok.sum
      omega
    refine ⟨(by show 0 ≤ sizeLine; decide), fun bl nbl => ?_⟩
    have I2 := I1.new (o := .lst []) nbl
    refine ⟨_, rfl, _, rfl, f, c, tk, _, rfl, SqL.of (same_new nbl _ _ htk), ntk, by rw [List.length_map]; omega, I2.fl, fun sh ys H3 hp nsh hsh F3 B3 => ?_⟩
    obtain ⟨tt, rfl, htt⟩ := perm_inv (f := nV) (g := unN) (fun n => by show ((n : Nat) : Int).toNat = n; omega) hp
    have I3 := I2.but F3 B3
    have bf : bl ≠ f := I1.fl.ne nbl
    have bc : bl ≠ c := I1.fl.nec nbl
    have hbl3 := B3 _ _ upd_same bf
    have bsh : bl ≠ sh := fun e => by rw [← e, upd_same] at nsh; cases nsh
    have bnone : H bl = Option.none := I1.bt.none nbl bf
    have rank : Nat → Int := fun k => is.getD k 0
    refine ⟨sh, rfl, ⟨_, SqL.of hsh⟩, for_list (K := K) (a := sh) (xs := tt.map nV) (fun i σ H4 => ∃ (bv : List V) (bs : List BR) (v5 v8 v9 v10 : Option V), σ = [some (.ref f), some (.int m), some (.ref hh), some (.ref rk), some (.ref gv), v5, some (.ref tk), some (.ref bl), v8, v9, v10] ∧ RI f c hh H H4 xs hs ∧ H4 rk = some (.lst (is.map V.int)) ∧ H4 gv = some (.lst (gs.map nV)) ∧ H4 sh = some (.lst (tt.map nV)) ∧ H4 bl = some (.lst bv) ∧ All2 (BeltAt H4) bv bs ∧ bs.map BR.to = tt.take i ∧
        (∀ b ∈ bs, b.one < hs.length ∧ (∀ h, hs[b.one]? = some h → h.wd ≠ "out") ∧ b.th.length ≤ 6 ∧ (∀ x ∈ b.th, Small x) ∧ (b.th = [] → is.getD b.one 0 < is.getD b.to 0)))
      ⟨[], [], v5, none, none, none, rfl, I3, B3 _ _ (same_new nbl _ _ hrk) nrk, B3 _ _ (same_new nbl _ _ hgv) ngv, hsh, hbl3, .nil, rfl, (fun _ h => nomatch h)⟩ (fun i σ H4 _ ⟨_, _, _, _, _, _, _, _, _, _, h, _⟩ => SqL.of h) ?_ ?_⟩
    · rintro i y σ H4 hi ⟨bv, bs, v5, v8, v9, v10, rfl, I4, hrk4, hgv4, hsh4, hbl4, al, em, hb⟩
      rw [List.getElem?_map] at hi
      cases et : tt[i]? with
      | none => rw [et] at hi; cases hi
      | some to =>
      rw [et] at hi
      obtain rfl : nV to = y := Option.some.inj hi
      have toL : to < hs.length := tk_mem hs _ _ (by rw [← ets]; exact htt.mem_iff.mp (List.mem_of_getElem? et))
      have il : i < 20 := by have := (List.getElem?_eq_some_iff.mp et).1; rw [htt.length_eq] at this; omega
      have lb : bs.length = i := by
        have := congrArg List.length em
        rw [List.length_map, List.length_take, Nat.min_eq_left (Nat.le_of_lt (List.getElem?_eq_some_iff.mp et).1)] at this
        exact this
      have g0 : 0 < gs.length := List.length_pos_iff.mpr gne
      refine ⟨_, rfl, _, rfl, _, rfl, gv, _, rfl, .inl (SqL.of hgv4), f, c, _, rfl, (by rw [List.length_map]; omega), (by rw [List.length_map]; exact log_small (by omega)), I4.fl, fun z H5 z0 z1 F5 B5 => ?_⟩
      rw [List.length_map] at z1
      have I5 := I4.but F5 B5
      have hgv5 := B5 _ _ hgv4 ngv
      obtain ⟨one, eo, ho⟩ : ∃ one, atI (gs.map nV) z = some (nV one) ∧ one ∈ gs := by
        have hk : z.toNat < gs.length := by omega
        have ek : z = ((z.toNat : Nat) : Int) := by omega
        refine ⟨gs[z.toNat], ?_, List.getElem_mem _⟩
        have q2 : atI (gs.map nV) ((z.toNat : Nat) : Int) = some (nV gs[z.toNat]) := atI_nat (by rw [List.getElem?_map, List.getElem?_eq_getElem hk]; rfl)
        rw [← ek] at q2
        exact q2
      obtain ⟨ho1, eh1, hout⟩ := gok one ho
      have oneL : one < hs.length := (List.getElem?_eq_some_iff.mp eh1).1
      refine ⟨gv, _, _, _, rfl, rfl, SqL.of hgv5, eo, ?_⟩
      refine ⟨(by show 8 ≤ sizeLine; decide), fun tl ntl => ?_⟩
      have I6 := I5.new (o := .lst [V.int 0, V.int 0, V.int 0, V.int 1, V.int 1, V.int 2, V.int 3, V.int 6]) ntl
      refine ⟨_, rfl, f, c, 8, rfl, by decide, by decide +kernel, I6.fl, fun y2 H7 y0 y8 F7 B7 => ?_⟩
      have I7 := I6.but F7 B7
      have htl := B7 _ _ upd_same (I5.fl.ne ntl)
      obtain ⟨tr, htr, tr0, tr6⟩ : ∃ tr : Int, atI [V.int 0, V.int 0, V.int 0, V.int 1, V.int 1, V.int 2, V.int 3, V.int 6] y2 = some (.int tr) ∧ 0 ≤ tr ∧ tr ≤ 6 := by
        have : y2 = 0 ∨ y2 = 1 ∨ y2 = 2 ∨ y2 = 3 ∨ y2 = 4 ∨ y2 = 5 ∨ y2 = 6 ∨ y2 = 7 := by omega
        rcases this with rfl | rfl | rfl | rfl | rfl | rfl | rfl | rfl
        · exact ⟨0, rfl, by decide, by decide⟩
        · exact ⟨0, rfl, by decide, by decide⟩
        · exact ⟨0, rfl, by decide, by decide⟩
        · exact ⟨1, rfl, by decide, by decide⟩
        · exact ⟨1, rfl, by decide, by decide⟩
        · exact ⟨2, rfl, by decide, by decide⟩
        · exact ⟨3, rfl, by decide, by decide⟩
        · exact ⟨6, rfl, by decide, by decide⟩
      refine ⟨tl, _, _, _, rfl, rfl, SqL.of htl, htr, ?_⟩
      have k7 : But f H4 H7 := (B5.new ntl).trans B7
      have hrk7 := k7 _ _ hrk4 nrk
      have hgv7 := k7 _ _ hgv4 ngv
      have shf : sh ≠ f := fun e => by rw [e] at nsh; obtain ⟨_, _, _, _, _, e1, _⟩ := I2.fl; rw [e1] at nsh; cases nsh
      have hsh7 := k7 _ _ hsh4 shf
      have hbl7 := k7 _ _ hbl4 bf
      have tk7 : TK H4 H7 := (TK.but I4.fl B5).trans ((TK.new ntl).trans (TK.but I6.fl B7))
      have al7 : All2 (BeltAt H7) bv bs := al.imp fun _ _ z => z.keep tk7
      have r1 : (is.map V.int)[one]? = some (.int (is.getD one 0)) := by
        rw [List.getElem?_map, List.getD_eq_getElem?_getD, List.getElem?_eq_getElem (by omega)]; rfl
      have r2 : (is.map V.int)[to]? = some (.int (is.getD to 0)) := by
        rw [List.getElem?_map, List.getD_eq_getElem?_getD, List.getElem?_eq_getElem (by omega)]; rfl
      have bvl : bv.length = i := by rw [al.length, lb]
      -- the end of a turn, with so many trays
      refine ⟨_, rfl, _, rfl, rk, _, _, _, rfl, rfl, SqL.of hrk7, atI_nat r1, _, rfl, _, rfl, rk, _, _, _, rfl, rfl, SqL.of hrk7, atI_nat r2, _, _, rfl, rfl, _, rfl, if_bl (fun kk => ?_) (fun kk => ?_)⟩
      · refine ⟨_, rfl, _, _, rfl, ?_⟩
        generalize ht : (if tr > 1 then tr else 1) = tn
        have tn0 : 0 ≤ tn := by rw [← ht]; split <;> omega
        have tn6 : tn ≤ 6 := by rw [← ht]; split <;> omega
        have ttt : tn.toNat = 0 → is.getD one 0 < is.getD to 0 := fun e => by
          exfalso
          have : 1 ≤ tn := by rw [← ht]; split <;> omega
          omega
        refine ⟨_, rfl, .inl ⟨rfl, _, SqL.of hbl7⟩, _, rfl, _, rfl, _, rfl, _, rfl, by omega, by omega, fun D nD => lc_range (lo := 0) (n := tn.toNat) (fun j H8 => ∃ vs : List Int, vs.length = j ∧ H8 D = some (.lst (vs.map V.int)) ∧ (∀ x ∈ vs, Small x) ∧ RI f c hh H H8 xs hs ∧ But f H7 H8 ∧ TK H7 H8 ∧ D ≠ f ∧ D ≠ c ∧ D ≠ hh ∧ H D = Option.none ∧ H7 D = Option.none)
          ⟨[], rfl, upd_same, (fun _ h => nomatch h), I7.new nD, But.refl.new nD, TK.new nD, I7.fl.ne nD, I7.fl.nec nD, (ne_of_none I7.lh nD).symm, I7.bt.none nD (I7.fl.ne nD), nD⟩ ?_ ?_⟩
        · rintro j H8 hj ⟨vs, lv, hD, sm, I8, b8, t8, d1, d2, d3, d4, d5⟩
          refine ⟨rfl, yes_in ⟨_, rfl, f, c, rfl, I8.fl, fun x H9 sx F9 B9 => ⟨_, B9 _ _ hD d1, ?_, vs ++ [x], by rw [List.length_append, lv]; rfl, ?_, ?_, (I8.but F9 B9).lst (B9 _ _ hD d1) d1 d2 d3 d4, (b8.trans B9).own d5, (t8.trans (TK.but I8.fl B9)).trans (TK.lst (B9 _ _ hD d1)), d1, d2, d3, d4, d5⟩⟩⟩
          · rw [List.length_map, lv]; exact small1000 (by omega)
          · rw [upd_same, List.map_append]; rfl
          · intro y hy
            rcases List.mem_append.mp hy with hy | hy
            · exact sm y hy
            · obtain rfl : y = x := by simpa using hy
              exact sx
        · rintro H8 ⟨vs, lv, hD, sm, I8, b8, t8, d1, d2, d3, d4, d5⟩
          refine ⟨D, _, rfl, .inl ⟨SqL.of hD, fun g ng => ⟨(by show 3 ≤ sizeLine; decide), fun t nt => ?_⟩⟩⟩
          have I9 := (I8.new (o := .tup (vs.map V.int)) ng).new (o := .tup [nV one, nV to, V.ref g]) nt
          have hbl8 := same_new (o := .tup [nV one, nV to, V.ref g]) nt _ _ (same_new (o := .tup (vs.map V.int)) ng _ _ (b8 _ _ hbl7 bf))
          have t9 : TK H7 (upd (upd H8 g (.tup (vs.map V.int))) t (.tup [nV one, nV to, V.ref g])) := (t8.trans (TK.new ng)).trans (TK.new nt)
          have s9 : ∀ b o, H7 b = some o → b ≠ f → (upd (upd H8 g (.tup (vs.map V.int))) t (.tup [nV one, nV to, V.ref g])) b = some o := fun b o e n => same_new nt _ _ (same_new ng _ _ (b8 _ _ e n))
          have bh : bl ≠ hh := fun e => by
            have h1 := I1.lh
            rw [← e, nbl] at h1
            cases h1
          have brk : bl ≠ rk := fun e => by
            have h1 := hrk
            rw [← e, nbl] at h1
            cases h1
          have bgv : bl ≠ gv := fun e => by
            have h1 := hgv
            rw [← e, nbl] at h1
            cases h1
          refine ⟨bl, _, _, rfl, rfl, hbl8, small1000 (by rw [bvl]; omega), ?_⟩
          refine ⟨bv ++ [V.ref t], bs ++ [⟨one, to, vs⟩], _, _, _, _, rfl, I9.lst hbl8 bf bc bh bnone, ?_, ?_, ?_, upd_same, ?_, ?_, ?_⟩
          · rw [upd_ne brk.symm]; exact s9 _ _ hrk7 nrk
          · rw [upd_ne bgv.symm]; exact s9 _ _ hgv7 ngv
          · rw [upd_ne bsh.symm]; exact s9 _ _ hsh7 shf
          · exact ((al7.imp fun _ _ z => z.keep t9).snoc ⟨t, g, rfl, upd_same, same_new nt _ _ upd_same⟩).imp fun _ _ z => z.keep (TK.lst hbl8)
          · rw [List.map_append, em, List.take_add_one, et]; rfl
          · intro b hb2
            rcases List.mem_append.mp hb2 with hb2 | hb2
            · exact hb b hb2
            · obtain rfl : b = ⟨one, to, vs⟩ := by simpa using hb2
              refine ⟨oneL, fun h e => ?_, by show vs.length ≤ 6; omega, sm, fun e => ?_⟩
              · have e : hs[one]? = some h := e
                rw [eh1] at e
                cases e
                exact hout
              · have e : vs = [] := e
                rw [e] at lv
                exact ttt (by simpa using lv.symm)
      · obtain ⟨tn, ht⟩ : ∃ tn, tn = tr := ⟨_, rfl⟩
        rw [← ht]
        have tn0 : 0 ≤ tn := by omega
        have tn6 : tn ≤ 6 := by omega
        have ttt : tn.toNat = 0 → is.getD one 0 < is.getD to 0 := fun _ => by
          have : ¬ is.getD to 0 ≤ is.getD one 0 := of_decide_eq_false kk
          omega
        refine ⟨_, rfl, .inl ⟨rfl, _, SqL.of hbl7⟩, _, rfl, _, rfl, _, rfl, _, rfl, by omega, by omega, fun D nD => lc_range (lo := 0) (n := tn.toNat) (fun j H8 => ∃ vs : List Int, vs.length = j ∧ H8 D = some (.lst (vs.map V.int)) ∧ (∀ x ∈ vs, Small x) ∧ RI f c hh H H8 xs hs ∧ But f H7 H8 ∧ TK H7 H8 ∧ D ≠ f ∧ D ≠ c ∧ D ≠ hh ∧ H D = Option.none ∧ H7 D = Option.none)
          ⟨[], rfl, upd_same, (fun _ h => nomatch h), I7.new nD, But.refl.new nD, TK.new nD, I7.fl.ne nD, I7.fl.nec nD, (ne_of_none I7.lh nD).symm, I7.bt.none nD (I7.fl.ne nD), nD⟩ ?_ ?_⟩
        · rintro j H8 hj ⟨vs, lv, hD, sm, I8, b8, t8, d1, d2, d3, d4, d5⟩
          refine ⟨rfl, yes_in ⟨_, rfl, f, c, rfl, I8.fl, fun x H9 sx F9 B9 => ⟨_, B9 _ _ hD d1, ?_, vs ++ [x], by rw [List.length_append, lv]; rfl, ?_, ?_, (I8.but F9 B9).lst (B9 _ _ hD d1) d1 d2 d3 d4, (b8.trans B9).own d5, (t8.trans (TK.but I8.fl B9)).trans (TK.lst (B9 _ _ hD d1)), d1, d2, d3, d4, d5⟩⟩⟩
          · rw [List.length_map, lv]; exact small1000 (by omega)
          · rw [upd_same, List.map_append]; rfl
          · intro y hy
            rcases List.mem_append.mp hy with hy | hy
            · exact sm y hy
            · obtain rfl : y = x := by simpa using hy
              exact sx
        · rintro H8 ⟨vs, lv, hD, sm, I8, b8, t8, d1, d2, d3, d4, d5⟩
          refine ⟨D, _, rfl, .inl ⟨SqL.of hD, fun g ng => ⟨(by show 3 ≤ sizeLine; decide), fun t nt => ?_⟩⟩⟩
          have I9 := (I8.new (o := .tup (vs.map V.int)) ng).new (o := .tup [nV one, nV to, V.ref g]) nt
          have hbl8 := same_new (o := .tup [nV one, nV to, V.ref g]) nt _ _ (same_new (o := .tup (vs.map V.int)) ng _ _ (b8 _ _ hbl7 bf))
          have t9 : TK H7 (upd (upd H8 g (.tup (vs.map V.int))) t (.tup [nV one, nV to, V.ref g])) := (t8.trans (TK.new ng)).trans (TK.new nt)
          have s9 : ∀ b o, H7 b = some o → b ≠ f → (upd (upd H8 g (.tup (vs.map V.int))) t (.tup [nV one, nV to, V.ref g])) b = some o := fun b o e n => same_new nt _ _ (same_new ng _ _ (b8 _ _ e n))
          have bh : bl ≠ hh := fun e => by
            have h1 := I1.lh
            rw [← e, nbl] at h1
            cases h1
          have brk : bl ≠ rk := fun e => by
            have h1 := hrk
            rw [← e, nbl] at h1
            cases h1
          have bgv : bl ≠ gv := fun e => by
            have h1 := hgv
            rw [← e, nbl] at h1
            cases h1
          refine ⟨bl, _, _, rfl, rfl, hbl8, small1000 (by rw [bvl]; omega), ?_⟩
          refine ⟨bv ++ [V.ref t], bs ++ [⟨one, to, vs⟩], _, _, _, _, rfl, I9.lst hbl8 bf bc bh bnone, ?_, ?_, ?_, upd_same, ?_, ?_, ?_⟩
          · rw [upd_ne brk.symm]; exact s9 _ _ hrk7 nrk
          · rw [upd_ne bgv.symm]; exact s9 _ _ hgv7 ngv
          · rw [upd_ne bsh.symm]; exact s9 _ _ hsh7 shf
          · exact ((al7.imp fun _ _ z => z.keep t9).snoc ⟨t, g, rfl, upd_same, same_new nt _ _ upd_same⟩).imp fun _ _ z => z.keep (TK.lst hbl8)
          · rw [List.map_append, em, List.take_add_one, et]; rfl
          · intro b hb2
            rcases List.mem_append.mp hb2 with hb2 | hb2
            · exact hb b hb2
            · obtain rfl : b = ⟨one, to, vs⟩ := by simpa using hb2
              refine ⟨oneL, fun h e => ?_, by show vs.length ≤ 6; omega, sm, fun e => ?_⟩
              · have e : hs[one]? = some h := e
                rw [eh1] at e
                cases e
                exact hout
              · have e : vs = [] := e
                rw [e] at lv
                exact ttt (by simpa using lv.symm)
    · rintro σ H4 ⟨bv, bs, v5, v8, v9, v10, rfl, I4, hrk4, hgv4, hsh4, hbl4, al, em, hb⟩
      rw [List.length_map, List.take_length] at em
      have lb : bs.length = ts.length := by
        have := congrArg List.length em
        rw [List.length_map] at this
        rw [this, htt.length_eq]
      refine ⟨_, rfl, hh, _, rfl, .inl ⟨SqL.of I4.lh, fun a1 na1 => ⟨_, rfl, bl, _, rfl, .inl ⟨SqL.of (same_new na1 _ _ hbl4), fun a2 na2 => ⟨(by show 2 ≤ sizeLine; decide), fun a3 na3 => ?_⟩⟩⟩⟩⟩
      rw [eD]
      have k1 : TK H4 (upd (upd (upd H4 a1 (.tup xs)) a2 (.tup bv)) a3 (.tup [V.ref a1, V.ref a2])) := ((TK.new na1).trans (TK.new na2)).trans (TK.new na3)
      refine q a3 hs bs _ ⟨a1, a2, xs, bv, upd_same, same_new na3 _ _ (same_new na2 _ _ upd_same), same_new na3 _ _ upd_same, I4.al.imp fun _ _ z => z.keep k1, al.imp fun _ _ z => z.keep k1⟩ ⟨ok.len, ok.good, fun b hb2 => ⟨(hb b hb2).1, ?_⟩, fun b hb2 => (hb b hb2).2.1, fun b hb2 => ⟨(hb b hb2).2.2.1, (hb b hb2).2.2.2.1⟩, ⟨fun k => is.getD k 0, fun b hb2 => (hb b hb2).2.2.2.2⟩, fun k h hk => ?_, by omega⟩ (by obtain ⟨h1, hm1, _⟩ := ok.one; exact List.length_pos_of_mem hm1) (((I4.fl.new na1).new na2).new na3) (((I4.bt.new na1).new na2).new na3)
      · have : b.to ∈ bs.map BR.to := List.mem_map.mpr ⟨b, hb2, rfl⟩
        rw [em] at this
        exact tk_mem hs _ _ (by rw [← ets]; exact htt.mem_iff.mp this)
      · rw [em, htt.count_eq, ets, tk_count, if_pos (List.getElem?_eq_some_iff.mp hk).1]
        unfold nd
        rw [hk]
        have := ok.nz h (List.mem_of_getElem? hk)
        show (((needs h.wd).toNat : Nat) : Int) = needs h.wd
        omega
  case tail1 =>
    rintro D' σ' H1 ⟨eD, hh, rk, gv, xs, hs, is, gs, rfl, I1, ok, hrk, lis, hgv, gne, glen, gok, nrk, ngv⟩
    refine ⟨(by show 0 ≤ sizeLine; decide), fun tk ntk => ?_⟩
    have I2 := I1.new (o := .lst []) ntk
    have hx : xs.length = hs.length := I1.al.length
    refine ⟨_, rfl, hh, _, rfl, .inl (SqL.of I2.lh), _, rfl, by omega, (by rw [hx]; have := ok.len; omega), for_range (lo := 0) (n := xs.length) (fun i σ H2 => ∃ (tk : Addr) (v5 : Option V), σ = [some (.ref f), some (.int m), some (.ref hh), some (.ref rk), some (.ref gv), v5, some (.ref tk), none, none, none, none] ∧ RI f c hh H H2 xs hs ∧ H2 rk = some (.lst (is.map V.int)) ∧ H2 gv = some (.lst (gs.map nV)) ∧ tk ≠ f ∧ H2 tk = some (.lst ((tkTo hs i).map nV)))
      ⟨tk, none, rfl, I2, same_new ntk _ _ hrk, same_new ntk _ _ hgv, I1.fl.ne ntk, upd_same⟩ ?_ ?_⟩
    · rintro i σ H2 hi ⟨tk, v5, rfl, I3, hrk3, hgv3, tf, htk⟩
      have eh : hs[i]? = some hs[i] := List.getElem?_eq_getElem (by omega)
      obtain ⟨x, ex, ⟨t, r, rfl, e1, e2⟩⟩ := I3.al.get eh
      have z0 := ok.nz _ (List.mem_of_getElem? eh)
      have zs : needs hs[i].wd ≤ 3 := by
        unfold needs
        split
        · decide
        · split
          · decide
          · split <;> decide
      have sz : (tkTo hs i).length ≤ 20 := by
        have a := tk_len hs ok.nz i (by omega)
        have b : ((hs.take i).map fun h => needs h.wd).sum ≤ (hs.map fun h => needs h.wd).sum := by
          have e : hs.map (fun h => needs h.wd) = (hs.take i).map (fun h => needs h.wd) ++ (hs.drop i).map (fun h => needs h.wd) := by rw [← List.map_append, List.take_append_drop]
          rw [e, List.sum_append]
          have : 0 ≤ ((hs.drop i).map fun h => needs h.wd).sum := by
            have hz : ∀ h ∈ hs.drop i, 0 ≤ needs h.wd := fun h hh => ok.nz h (List.mem_of_mem_drop hh)
            revert hz
            generalize hs.drop i = l
            intro hz
            induction l with
            | nil => decide
            | cons a l ih =>
              have := hz a (List.mem_cons_self ..)
              have := ih fun h hh => hz h (List.mem_cons_of_mem _ hh)
              rw [List.map_cons, List.sum_cons]
              omega
          omega
        have := ok.sum
        omega
      refine ⟨_, rfl, _, rfl, (by show 1 ≤ sizeLine; decide), fun l1 nl1 => ?_⟩
      have I4 := I3.new (o := .lst [V.int (0 + ((i : Nat) : Int))]) nl1
      refine ⟨_, rfl, _, rfl, hh, _, _, _, rfl, rfl, SqL.of I4.lh, at0 ex, t, _, _, _, rfl, rfl, SqT.of (same_new nl1 _ _ e1), atI_nat (j := 0) rfl, r, hs[i].wd, _, rfl, SqT.of (same_new nl1 _ _ e2), fun H5 s5 => ?_⟩
      have I5 := I4.same s5
      have g1 := s5 _ _ upd_same
      have g2 := s5 _ _ (same_new nl1 _ _ htk)
      refine ⟨l1, _, _, rfl, rfl, g1, by omega, by omega, little (by show 1 * (needs hs[i].wd).toNat ≤ 1000; omega), fun l2 nl2 => ?_⟩
      rw [flat_rep]
      have I6 := I5.new (o := .lst (List.replicate (needs hs[i].wd).toNat (V.int (0 + ((i : Nat) : Int))))) nl2
      refine ⟨tk, l2, _, _, rfl, rfl, same_new nl2 _ _ g2, upd_same, ?_, fun l3 nl3 => ?_⟩
      · rw [List.length_map, List.length_replicate]; exact little (by omega)
      refine ⟨l3, _, rfl, I6.new nl3, same_new nl3 _ _ (same_new nl2 _ _ (s5 _ _ (same_new nl1 _ _ hrk3))), same_new nl3 _ _ (same_new nl2 _ _ (s5 _ _ (same_new nl1 _ _ hgv3))), I6.fl.ne nl3, ?_⟩
      rw [upd_same]
      have e : nd hs i = (needs hs[i].wd).toNat := by unfold nd; rw [eh]
      rw [show tkTo hs (i + 1) = tkTo hs i ++ List.replicate (nd hs i) i from rfl, List.map_append, List.map_replicate, e, Int.zero_add]
    · rintro σ H2 ⟨tk, v5, rfl, I3, hrk3, hgv3, tf, htk⟩
      exact ⟨eD, hh, rk, gv, tk, xs, hs, is, gs, _, v5, rfl, I3, ok, hrk3, lis, hgv3, gne, glen, gok, nrk, ngv, tf, htk, by rw [hx]⟩
  refine ⟨_, rfl, _, rfl, _, rfl, f, c, m, rfl, by omega, hm9, hF, fun v1 H1 a1 b1 F1 B1 => ?_⟩
  refine ⟨_, _, rfl, rfl, f, c, _, rfl, by omega, by omega, F1, fun hh xs hs H2 nhh hhh al ok F2 B2 => ?_⟩
  have hx : xs.length = hs.length := al.length
  have len12 := ok.len
  have nf : hh ≠ f := F1.ne nhh
  have I2 : RI f c hh H H2 xs hs := ⟨F2, B1.trans B2, hhh, al, nf, B1.none nhh nf⟩
  -- ranks
  refine ⟨_, rfl, _, rfl, hh, _, rfl, .inl (SqL.of I2.lh), _, rfl, ⟨by omega, by omega, by omega, by omega, by omega⟩, fun rg nrg => ?_⟩
  have I3 := I2.new (o := .lst (rgV 0 ((xs.length : Nat) : Int))) nrg
  refine ⟨f, c, rg, _, rfl, SqL.of upd_same, I2.fl.ne nrg, ?_, I3.fl, fun rk ys H4 hp nrk hrk F4 B4 => ?_⟩
  · rw [rgV_length]; omega
  have erg : rgV 0 ((xs.length : Nat) : Int) = ((List.range xs.length).map fun i => ((i : Nat) : Int)).map V.int := by
    unfold rgV
    rw [List.map_map, show (((xs.length : Nat) : Int) - 0).toNat = xs.length by omega]
    refine List.map_congr_left fun i _ => ?_
    show V.int (0 + ((i : Nat) : Int)) = V.int ((i : Nat) : Int)
    rw [Int.zero_add]
  rw [erg] at hp
  obtain ⟨is, rfl, his⟩ := perm_inv (f := V.int) (g := unI) (fun _ => rfl) hp
  have lis : is.length = hs.length := by rw [his.length_eq, List.length_map, List.length_range, hx]
  have I4 := I3.but F4 B4
  have rkf : rk ≠ f := I3.fl.ne nrk
  -- givers
  refine ⟨_, rfl, hh, _, rfl, .inl (SqL.of I4.lh), _, rfl, by omega, by omega, fun D nD => lc_range (lo := 0) (n := xs.length) (fun i H5 => ∃ gs : List Nat, H5 D = some (.lst (gs.map nV)) ∧ gs.length ≤ i ∧ RI f c hh H H5 xs hs ∧ H5 rk = some (.lst (is.map V.int)) ∧ (∀ k ∈ gs, ∃ h, hs[k]? = some h ∧ h.wd ≠ "out") ∧ (∀ k h, k < i → hs[k]? = some h → h.wd ≠ "out" → gs ≠ []) ∧ D ≠ f ∧ D ≠ c ∧ D ≠ hh ∧ D ≠ rk ∧ H D = Option.none)
    ⟨[], upd_same, Nat.le_refl _, I4.new nD, same_new nD _ _ hrk, (fun _ h => nomatch h), (fun k h hk => absurd hk (Nat.not_lt_zero _)), I4.fl.ne nD, I4.fl.nec nD, (ne_of_none I4.lh nD).symm, (ne_of_none hrk nD).symm, I4.bt.none nD (I4.fl.ne nD)⟩ ?_ ?_⟩
  · rintro i H5 hi ⟨gs, hD, lg, I5, hrk5, g1, g2, d1, d2, d3, d4, d5⟩
    have eh : hs[i]? = some hs[i] := List.getElem?_eq_getElem (by omega)
    obtain ⟨x, ex, ⟨t, r, rfl, e1, e2⟩⟩ := I5.al.get eh
    have gh := ok.good _ (List.mem_of_getElem? eh)
    refine ⟨rfl, _, rfl, _, rfl, hh, _, _, _, rfl, rfl, SqL.of I5.lh, at0 ex, t, _, _, _, rfl, rfl, SqT.of e1, atI_nat (j := 0) rfl, (by show 1 ≤ sizeLine; decide), fun o1 no1 => ?_⟩
    have I6 := I5.new (o := .tup [V.str "out"]) no1
    have hD6 : (upd H5 o1 (.tup [V.str "out"])) D = some (.lst (gs.map nV)) := same_new no1 _ _ hD
    refine ⟨_, _, rule_dp (same_new no1 _ _ e2), .tup (SqT.of upd_same) (.cons (.str _) .nil), rule_shaped gh.lay, one_shaped (by decide +kernel), _, rfl, ?_⟩
    rw [rule_eqv, gh.door "out" (.inr rfl)]
    by_cases k : hs[i].wd = "out"
    · rw [decide_eq_true k]
      refine if_bl (fun z => absurd z (by decide)) (fun _ => ⟨gs, hD6, by omega, I6, same_new no1 _ _ hrk5, g1, fun k' h' hk hk2 hk3 => ?_, d1, d2, d3, d4, d5⟩)
      by_cases y : k' = i
      · subst y
        rw [eh] at hk2
        cases hk2
        exact absurd k hk3
      · exact g2 k' h' (by omega) hk2 hk3
    · rw [decide_eq_false k]
      refine if_bl (fun _ => ⟨_, rfl, _, hD6, ?_, gs ++ [i], ?_, ?_, I6.lst hD6 d1 d2 d3 d5, ?_, ?_, fun _ _ _ _ _ z => by simp at z, d1, d2, d3, d4, d5⟩) (fun z => absurd z (by decide))
      · rw [List.length_map]; exact small1000 (by omega)
      · rw [upd_same, List.map_append, Int.zero_add]; rfl
      · rw [List.length_append]; show gs.length + 1 ≤ i + 1; omega
      · rw [upd_ne d4.symm]; exact same_new no1 _ _ hrk5
      · intro k' hk
        rcases List.mem_append.mp hk with hk | hk
        · exact g1 k' hk
        · obtain rfl : k' = i := by simpa using hk
          exact ⟨_, eh, k⟩
  · rintro H5 ⟨gs, hD, lg, I5, hrk5, g1, g2, d1, d2, d3, d4, d5⟩
    obtain ⟨h1, hm1, hm2⟩ := ok.one
    obtain ⟨k1, hk1⟩ := List.getElem?_of_mem hm1
    have k1l := (List.getElem?_eq_some_iff.mp hk1).1
    exact ⟨rfl, hh, rk, D, xs, hs, is, gs, rfl, I5, ok, hrk5, lis, hD, g2 k1 h1 (by omega) hk1 hm2, by omega, g1, rkf, d1⟩
end
/-! ### data of known size -/
structure Neat (d : PyData) (dp wt : Nat) : Prop where
  lay : d.canLay0 = true
  dep : d.depth ≤ dp
  wei : d.weight ≤ wt
  sho : d.intsShort 13 = true
  say : d.showable = true
  nod : d.hasDict = false
structure NeatAll (ds : List PyData) (dp wt : Nat) : Prop where
  lay : PyData.canLayAll0 ds = true
  dep : PyData.depthAll ds ≤ dp
  wei : PyData.weightAll ds ≤ wt
  sho : PyData.intsShortAll 13 ds = true
  say : PyData.showableAll ds = true
  nod : PyData.hasDictAll ds = false
theorem Neat.non {dp : Nat} : Neat .none dp 0 := ⟨rfl, Nat.zero_le _, Nat.le_refl _, by simp [PyData.intsShort], by simp [PyData.showable], by simp [PyData.hasDict]⟩
theorem Neat.bool {b : Bool} {dp : Nat} : Neat (.bool b) dp 0 := ⟨rfl, Nat.zero_le _, Nat.le_refl _, by simp [PyData.intsShort], by simp [PyData.showable], by simp [PyData.hasDict]⟩
theorem Neat.int {i : Int} {dp : Nat} (h : i.natAbs < 10 ^ 12) : Neat (.int i) dp 41 := by
  have l : i.natAbs.log2 < 40 := by
    by_cases z : i.natAbs = 0
    · rw [z]; decide
    · exact (Nat.log2_lt z).mpr (Nat.lt_trans h (by decide))
  refine ⟨rfl, Nat.zero_le _, ?_, ?_, ?_, by simp [PyData.hasDict]⟩
  · simp only [PyData.weight]
    split <;> omega
  · simp only [PyData.intsShort, decide_eq_true_eq]
    exact PyData.shown_int_le h
  · simp only [PyData.showable, decide_eq_true_eq]
    omega
theorem Neat.str {x : Str} {n dp : Nat} (h : PyData.canLay0 (.str x) = true) (hn : x.cps.size ≤ n) : Neat (.str x) dp n := ⟨h, Nat.zero_le _, hn, by simp [PyData.intsShort], by simp [PyData.showable], by simp [PyData.hasDict]⟩
theorem NeatAll.nil {dp : Nat} : NeatAll [] dp 0 := ⟨rfl, Nat.zero_le _, Nat.le_refl _, by simp [PyData.intsShortAll], by simp [PyData.showableAll], by simp [PyData.hasDictAll]⟩
theorem NeatAll.cons {d : PyData} {ds : List PyData} {dp a b : Nat} (h : Neat d dp a) (t : NeatAll ds dp b) : NeatAll (d :: ds) dp (a + 1 + b) := by
  refine ⟨?_, ?_, ?_, ?_, ?_, ?_⟩
  · simp only [PyData.canLayAll0, h.lay, t.lay, Bool.and_self]
  · simp only [PyData.depthAll]
    exact Nat.max_le.mpr ⟨h.dep, t.dep⟩
  · simp only [PyData.weightAll]
    have := h.wei
    have := t.wei
    omega
  · simp only [PyData.intsShortAll, h.sho, t.sho, Bool.and_self]
  · simp only [PyData.showableAll, h.say, t.say, Bool.and_self]
  · simp only [PyData.hasDictAll, h.nod, t.nod, Bool.or_self]
theorem Neat.mono {d : PyData} {a b c e : Nat} (h : Neat d a b) (x : a ≤ c) (y : b ≤ e) : Neat d c e := ⟨h.lay, Nat.le_trans h.dep x, Nat.le_trans h.wei y, h.sho, h.say, h.nod⟩
theorem NeatAll.mono {d : List PyData} {a b c e : Nat} (h : NeatAll d a b) (x : a ≤ c) (y : b ≤ e) : NeatAll d c e := ⟨h.lay, Nat.le_trans h.dep x, Nat.le_trans h.wei y, h.sho, h.say, h.nod⟩
theorem Neat.tup {ds : List PyData} {dp n : Nat} (h : NeatAll ds dp n) : Neat (.tuple ds) (dp + 1) n := by
  refine ⟨?_, ?_, ?_, ?_, ?_, ?_⟩
  · simp only [PyData.canLay0, h.lay]
  · simp only [PyData.depth]
    have := h.dep
    omega
  · simp only [PyData.weight]
    exact h.wei
  · simp only [PyData.intsShort, h.sho]
  · simp only [PyData.showable, h.say]
  · simp only [PyData.hasDict, h.nod]
theorem Neat.lst {ds : List PyData} {dp n : Nat} (h : NeatAll ds dp n) : Neat (.list ds) (dp + 1) n := by
  refine ⟨?_, ?_, ?_, ?_, ?_, ?_⟩
  · simp only [PyData.canLay0, h.lay]
  · simp only [PyData.depth]
    have := h.dep
    omega
  · simp only [PyData.weight]
    exact h.wei
  · simp only [PyData.intsShort, h.sho]
  · simp only [PyData.showable, h.say]
  · simp only [PyData.hasDict, h.nod]
theorem NeatAll.map {α : Type} {f : α → PyData} {dp n : Nat} : ∀ {l : List α}, (∀ x ∈ l, Neat (f x) dp n) → NeatAll (l.map f) dp (l.length * (n + 1))
  | [], _ => by rw [List.length_nil, Nat.zero_mul]; exact .nil
  | x :: l, h => by
    have t : NeatAll (l.map f) dp (l.length * (n + 1)) := NeatAll.map fun y hy => h y (List.mem_cons_of_mem _ hy)
    have := NeatAll.cons (h x (List.mem_cons_self ..)) t
    refine NeatAll.mono this (Nat.le_refl _) ?_
    rw [List.length_cons, Nat.add_mul]
    omega
theorem Neat.shaped {d : PyData} {dp n : Nat} (h : Neat d dp n) (k : dp ≤ 60) : SeqAt.shaped d = true := by
  unfold SeqAt.shaped
  rw [h.lay, Bool.true_and]
  exact decide_eq_true (by have := h.dep; omega)
theorem Neat.fits {d : PyData} {dp n : Nat} (h : Neat d dp n) (k : dp ≤ 60) (m : n ≤ 1000000) : d.shown.length ≤ sizeLine := by
  refine PyData.shown_fits_of_layable0 (B := 13) (by decide) (by decide) ?_ h.sho
  have a : d.canLay0 = true := h.lay
  have b : decide (d.depth ≤ 64) = true := decide_eq_true (by have := h.dep; omega)
  have c : decide (d.weight ≤ 2 ^ 20) = true := decide_eq_true (by have := h.wei; omega)
  unfold PyData.layable0
  rw [a, b, c]
  rfl
theorem dp_ints {K : PySem.W.Frag} {H : Hp} : ∀ ns : List Int, DpAll K H (ns.map V.int) (ns.map PyData.int)
  | [] => .nil
  | n :: ns => .cons (.int n) (dp_ints ns)
theorem dp_nats {K : PySem.W.Frag} {H : Hp} : ∀ ns : List Nat, DpAll K H (ns.map nV) (ns.map fun n => PyData.int ((n : Nat) : Int))
  | [] => .nil
  | n :: ns => .cons (.int _) (dp_nats ns)
theorem eqv_nil {ds : List PyData} : PyData.eqvAll ds [] = ds.isEmpty := by cases ds <;> rfl
/-! ### a room as data -/
abbrev handD (h : HR) : PyData := .tuple [.tuple (ruleD h), .int h.mom]
abbrev beltD (b : BR) : PyData := .tuple [.int ((b.one : Nat) : Int), .int ((b.to : Nat) : Int), .tuple (b.th.map PyData.int)]
abbrev roomD (hs : List HR) (bs : List BR) : PyData := .tuple [.tuple (hs.map handD), .tuple (bs.map beltD)]
theorem hands_dp {K : PySem.W.Frag} {H : Hp} {vs : List V} {hs : List HR} (a : All2 (HandAt H) vs hs) : DpAll K H vs (hs.map handD) := by
  induction a with
  | nil => exact .nil
  | cons h t ih =>
    obtain ⟨t, r, rfl, e1, e2⟩ := h
    exact .cons (.tup (SqT.of e1) (.cons (rule_dp e2) (.cons (.int _) .nil))) ih
theorem belts_dp {K : PySem.W.Frag} {H : Hp} {vs : List V} {bs : List BR} (a : All2 (BeltAt H) vs bs) : DpAll K H vs (bs.map beltD) := by
  induction a with
  | nil => exact .nil
  | cons h t ih =>
    obtain ⟨t, r, rfl, e1, e2⟩ := h
    exact .cons (.tup (SqT.of e1) (.cons (.int _) (.cons (.int _) (.cons (.tup (SqT.of e2) (dp_ints _)) .nil)))) ih
theorem RoomAt.dp {K : PySem.W.Frag} {H : Hp} {r : Addr} {hs : List HR} {bs : List BR} (a : RoomAt H r hs bs) : Dp K H (.ref r) (roomD hs bs) := by
  obtain ⟨ha, ba, hv, bv, e1, e2, e3, a1, a2⟩ := a.ex
  exact .tup (SqT.of e1) (.cons (.tup (SqT.of e2) (hands_dp a1)) (.cons (.tup (SqT.of e3) (belts_dp a2)) .nil))
theorem GoodHand.size {h : HR} (g : GoodHand h) : h.wd.cps.size ≤ 10 := by
  have : h.wd ∈ nine ∨ h.wd = "in" ∨ h.wd = "out" := g.1.elim (fun k => .inl k.wd) (fun k => .inr k.1)
  rcases this with k | k | k
  · unfold nine at k
    simp only [List.mem_cons, List.not_mem_nil, or_false] at k
    rcases k with k | k | k | k | k | k | k | k | k <;> rw [k] <;> decide +kernel
  · rw [k]; decide +kernel
  · rw [k]; decide +kernel
theorem GoodHand.neat {h : HR} (g : GoodHand h) : Neat (handD h) 2 200 := by
  obtain ⟨wd, no, mom⟩ := h
  have r : NeatAll (ruleD ⟨wd, no, mom⟩) 0 60 := by
    cases no with
    | none => exact (NeatAll.cons (Neat.str g.lay g.size) .nil).mono (Nat.le_refl _) (by decide)
    | some n =>
      have : -1000000 ≤ n ∧ n ≤ 1000000 := by
        rcases g.1 with k | k
        · exact k.big n rfl
        · exact nomatch k.2.1
      exact (NeatAll.cons (Neat.str g.lay g.size) (.cons (Neat.int (by omega)) .nil)).mono (Nat.le_refl _) (by decide)
  have m : Neat (.int mom) 1 41 := Neat.int (by have := g.2.1; have := g.2.2; simp only at *; omega)
  exact (Neat.tup (.cons (Neat.tup r) (.cons m .nil))).mono (Nat.le_refl _) (by decide)
theorem one_eqv (h : HR) (z : Str) : PyData.eqv (.tuple [.str z]) (.tuple (ruleD h)) = (decide (h.wd = z) && h.no.isNone) := by
  obtain ⟨wd, no, mom⟩ := h
  have e : (z == wd) = decide (wd = z) := by
    by_cases k : wd = z
    · rw [k, decide_eq_true rfl]; exact beq_self_eq_true z
    · rw [decide_eq_false k]; exact beq_eq_false_iff_ne.mpr fun y => k y.symm
  cases no with
  | none => show (z == wd && true) = (decide (wd = z) && true); rw [e]
  | some n => show (z == wd && false) = (decide (wd = z) && false); rw [Bool.and_false, Bool.and_false]
/-! ### numbers as they come up -/
theorem snoc_ind {α : Type} {Pr : List α → Prop} (h0 : Pr []) (h1 : ∀ l x, Pr l → Pr (l ++ [x])) : ∀ l, Pr l := by
  have : ∀ r : List α, Pr r.reverse := by
    intro r
    induction r with
    | nil => exact h0
    | cons x r ih => rw [List.reverse_cons]; exact h1 _ _ ih
  intro l
  have := this l.reverse
  rwa [List.reverse_reverse] at this
section
variable {α β : Type} [DecidableEq α] [DecidableEq β]
def uqF (acc : List α) (x : α) : List α := if x ∈ acc then acc else acc ++ [x]
/-- the different ones, as they come up -/
def uniq (l : List α) : List α := l.foldl uqF []
theorem uniq_snoc (l : List α) (x : α) : uniq (l ++ [x]) = if x ∈ uniq l then uniq l else uniq l ++ [x] := by
  unfold uniq
  rw [List.foldl_append]
  rfl
theorem mem_uniq : ∀ (l : List α) (x : α), x ∈ uniq l ↔ x ∈ l := by
  intro l
  induction l using snoc_ind with
  | h0 => intro x; exact Iff.rfl
  | h1 l y ih =>
    intro x
    rw [uniq_snoc]
    by_cases h : y ∈ uniq l
    · rw [if_pos h, ih x, List.mem_append, List.mem_singleton]
      constructor
      · exact .inl
      · rintro (z | rfl)
        · exact z
        · exact (ih _).mp h
    · rw [if_neg h, List.mem_append, List.mem_append, ih x]
theorem uniq_nodup : ∀ l : List α, (uniq l).Nodup := by
  intro l
  induction l using snoc_ind with
  | h0 => exact List.nodup_nil
  | h1 l y ih =>
    rw [uniq_snoc]
    by_cases h : y ∈ uniq l
    · rw [if_pos h]; exact ih
    · rw [if_neg h, List.nodup_append]
      refine ⟨ih, by simp, fun a ha b hb => ?_⟩
      rw [List.mem_singleton.mp hb]
      exact fun e => h (e ▸ ha)
theorem uniq_map {f : α → β} : ∀ l : List α, (∀ x ∈ l, ∀ y ∈ l, f x = f y → x = y) → uniq (l.map f) = (uniq l).map f := by
  intro l
  induction l using snoc_ind with
  | h0 => intro _; rfl
  | h1 l y ih =>
    intro inj
    have ih := ih fun a ha b hb => inj a (List.mem_append.mpr (.inl ha)) b (List.mem_append.mpr (.inl hb))
    rw [List.map_append, List.map_cons, List.map_nil, uniq_snoc, uniq_snoc, ih]
    by_cases h : y ∈ uniq l
    · rw [if_pos h, if_pos (List.mem_map.mpr ⟨y, h, rfl⟩)]
    · rw [if_neg h, if_neg, List.map_append]
      · rfl
      · intro z
        obtain ⟨x, hx, e⟩ := List.mem_map.mp z
        have xl := (mem_uniq l x).mp hx
        have := inj x (List.mem_append.mpr (.inl xl)) y (List.mem_append.mpr (.inr (List.mem_singleton.mpr rfl))) e
        exact h (this ▸ hx)
theorem uniq_pre (l : List α) : ∀ m : List α, ∃ t, uniq (l ++ m) = uniq l ++ t := by
  intro m
  induction m using snoc_ind with
  | h0 => exact ⟨[], by rw [List.append_nil, List.append_nil]⟩
  | h1 m y ih =>
    obtain ⟨t, e⟩ := ih
    rw [← List.append_assoc, uniq_snoc]
    by_cases h : y ∈ uniq (l ++ m)
    · rw [if_pos h]; exact ⟨t, e⟩
    · rw [if_neg h, e]; exact ⟨t ++ [y], by rw [List.append_assoc]⟩
theorem uniq_len (l : List α) : (uniq l).length ≤ l.length := by
  induction l using snoc_ind with
  | h0 => exact Nat.le_refl _
  | h1 l y ih =>
    rw [uniq_snoc]
    split
    · rw [List.length_append]; omega
    · rw [List.length_append, List.length_append]; show _ + 1 ≤ _ + 1; omega
/-- each is one of those ahead, or the number of different ones ahead -/
def Canon (l : List Nat) : Prop := ∀ i x, l[i]? = some x → x ∈ l.take i ∨ x = (uniq (l.take i)).length
/-- numbers for the marks ks -/
structure NumOf (ks : List α) (l : List Nat) : Prop where
  len : l.length = ks.length
  canon : Canon l
  same : ∀ i j, i < ks.length → j < ks.length → (l[i]? = l[j]? ↔ ks[i]? = ks[j]?)
theorem idx_inj2 {l : List α} {a b : α} (ha : a ∈ l) (hb : b ∈ l) (h : l.idxOf a = l.idxOf b) : a = b := by
  have e1 := List.getElem_idxOf (List.idxOf_lt_length_of_mem ha)
  have e2 := List.getElem_idxOf (List.idxOf_lt_length_of_mem hb)
  rw [← e1, ← e2]
  congr 1
theorem idx_app {l : List α} {x : α} (m : List α) (h : x ∉ l) : (l ++ m).idxOf x = l.length + m.idxOf x := by
  induction l with
  | nil => rw [List.nil_append]; exact (Nat.zero_add _).symm
  | cons y l ih =>
    have h1 : y ≠ x := fun e => h (e ▸ List.mem_cons_self ..)
    have h2 : x ∉ l := fun e => h (List.mem_cons_of_mem _ e)
    rw [List.cons_append, List.idxOf_cons, List.length_cons, ih h2]
    rw [show (y == x) = false from beq_eq_false_iff_ne.mpr h1]
    show _ + 1 = _
    omega
theorem num_of (ks : List α) : NumOf ks (ks.map fun k => (uniq ks).idxOf k) := by
  have inj : ∀ x ∈ ks, ∀ y ∈ ks, (uniq ks).idxOf x = (uniq ks).idxOf y → x = y := fun x hx y hy e => idx_inj2 ((mem_uniq ks x).mpr hx) ((mem_uniq ks y).mpr hy) e
  refine ⟨List.length_map .., fun i x hx => ?_, fun i j hi hj => ?_⟩
  · rw [List.getElem?_map] at hx
    cases hk : ks[i]? with
    | none => rw [hk] at hx; cases hx
    | some k =>
      rw [hk] at hx
      obtain rfl : (uniq ks).idxOf k = x := Option.some.inj hx
      rw [← List.map_take]
      by_cases m : k ∈ ks.take i
      · exact .inl (List.mem_map.mpr ⟨k, m, rfl⟩)
      · right
        have il := (List.getElem?_eq_some_iff.mp hk).1
        rw [uniq_map _ fun a ha b hb => inj a (List.mem_of_mem_take ha) b (List.mem_of_mem_take hb), List.length_map]
        have e1 : ks.take (i + 1) = ks.take i ++ [k] := by rw [List.take_add_one, hk]; rfl
        obtain ⟨t, e2⟩ := uniq_pre (ks.take (i + 1)) (ks.drop (i + 1))
        rw [List.take_append_drop, e1, uniq_snoc, if_neg (fun z => m ((mem_uniq _ _).mp z))] at e2
        rw [e2, List.append_assoc, idx_app _ (fun z => m ((mem_uniq _ _).mp z)), List.singleton_append, List.idxOf_cons_self, Nat.add_zero]
  · rw [List.getElem?_map, List.getElem?_map, List.getElem?_eq_getElem hi, List.getElem?_eq_getElem hj]
    constructor
    · intro e
      exact congrArg some (inj _ (List.getElem_mem hi) _ (List.getElem_mem hj) (Option.some.inj e))
    · intro e
      rw [Option.some.inj e]
/-- lists of such numbers that part alike are the same -/
theorem canon_eq {l m : List Nat} (len : l.length = m.length) (cl : Canon l) (cm : Canon m) (same : ∀ i j, i < l.length → j < l.length → (l[i]? = l[j]? ↔ m[i]? = m[j]?)) : l = m := by
  have : ∀ i, i ≤ l.length → l.take i = m.take i := by
    intro i
    induction i with
    | zero => intro _; rw [List.take_zero, List.take_zero]
    | succ i ih =>
      intro hi
      have ih := ih (by omega)
      have hl : l[i]? = some l[i] := List.getElem?_eq_getElem (by omega)
      have hm : m[i]? = some (m[i]'(by omega)) := List.getElem?_eq_getElem (by omega)
      have mem : ∀ {t : List Nat} {x : Nat}, x ∈ t.take i → i ≤ t.length → ∃ j, j < i ∧ t[j]? = some x := fun {t x} h ht => by
        obtain ⟨j, hj, e⟩ := List.getElem_of_mem h
        rw [List.length_take] at hj
        rw [List.getElem_take] at e
        exact ⟨j, by omega, by rw [← e]; exact List.getElem?_eq_getElem (by omega)⟩
      have atp : ∀ {j}, j < i → l[j]? = m[j]? := fun {j} hj => by
        have e := congrArg (fun t : List Nat => t[j]?) ih
        simp only [List.getElem?_take, if_pos hj] at e
        exact e
      have e : l[i] = m[i]'(by omega) := by
        rcases cl i _ hl with a | a
        · obtain ⟨j, hj, ej⟩ := mem a (by omega)
          have q := (same i j (by omega) (by omega)).mp (by rw [hl, ej])
          rw [hm, ← atp hj, ej] at q
          exact (Option.some.inj q).symm
        · rcases cm i _ hm with b | b
          · obtain ⟨j, hj, ej⟩ := mem b (by omega)
            have q := (same i j (by omega) (by omega)).mpr (by rw [hm, ej])
            rw [hl, atp hj, ej] at q
            exact Option.some.inj q
          · rw [a, b, ih]
      rw [List.take_add_one, List.take_add_one, ih, hl, hm, e]
  have h := this l.length (Nat.le_refl _)
  rw [List.take_length, len, List.take_length] at h
  exact h
end
/-! ### hands alike -/
def comingN (bs : List BR) (k : Nat) : List Nat := (List.range bs.length).filter fun i => decide (bs[i]?.map BR.to = some k)
def comeB (bs : List BR) (k : Nat) : List BR := bs.filter fun b => decide (b.to = k)
def isDoor (h : HR) : Bool := decide (h.wd = "in") || decide (h.wd = "out")
/-- what a door is alike: itself; any other hand: one with the same rule -/
def SameFirst (hs : List HR) (i j : Nat) : Prop := i = j ∨ ∃ g h, hs[i]? = some g ∧ hs[j]? = some h ∧ g.wd = h.wd ∧ g.no = h.no ∧ isDoor g = false
/-- those who could be one -/
structure Bis (hs : List HR) (bs : List BR) (R : Nat → Nat → Prop) : Prop where
  first : ∀ i j, R i j → i < hs.length → j < hs.length → SameFirst hs i j
  come : ∀ i j, R i j → i < hs.length → j < hs.length → All2 (fun b c : BR => b.th = c.th ∧ R b.one c.one) (comeB bs i) (comeB bs j)
def AlikeH (hs : List HR) (bs : List BR) (i j : Nat) : Prop := ∃ R, Bis hs bs R ∧ R i j
/-- the kinds of a room -/
structure KindsOf (hs : List HR) (bs : List BR) (t : List Nat) : Prop where
  len : t.length = hs.length
  canon : Canon t
  same : ∀ i j, i < hs.length → j < hs.length → (t[i]? = t[j]? ↔ AlikeH hs bs i j)
theorem KindsOf.one {hs : List HR} {bs : List BR} {t u : List Nat} (a : KindsOf hs bs t) (b : KindsOf hs bs u) : t = u :=
  canon_eq (by rw [a.len, b.len]) a.canon b.canon fun i j hi hj => (a.same i j (by rw [← a.len]; exact hi) (by rw [← a.len]; exact hj)).trans (b.same i j (by rw [← a.len]; exact hi) (by rw [← a.len]; exact hj)).symm
section
variable {P : Program} {w : World} {K : PySem.W.Frag} {mg : Str → Option Value} {base : Heap}
theorem filt_succ {p : Nat → Bool} (i : Nat) : (List.range (i + 1)).filter p = (List.range i).filter p ++ (if p i = true then [i] else []) := by
  rw [List.range_succ, List.filter_append]
  cases h : p i <;> simp [h]
theorem filt_len {p : Nat → Bool} (i : Nat) : ((List.range i).filter p).length ≤ i := by
  refine Nat.le_trans (List.length_filter_le ..) ?_
  rw [List.length_range]
  exact Nat.le_refl _
def sp_comings (K : PySem.W.Frag) : Sp := fun vs H Q _ => ∃ (r : Addr) (hs : List HR) (bs : List BR) (k : Nat), vs = [.ref r, nV k] ∧ RoomAt H r hs bs ∧ bs.length ≤ 400 ∧ ∀ (p : Addr) (H' : Hp), H p = none → H' p = some (.lst ((comingN bs k).map nV)) → Same H H' → Q (.ref p) H'
theorem ok_comings {f : Addr} {fd : FuncData} (F : Fun K "comings" "comings" s_comings f fd) (T : Top w K mg) : FnOk P w K mg base CX0 1 f fd ["room", "hand"] (sp_comings K) := by
  refine F.ok sc_comings (fun vs H Q E h => ?_) (fun cdv A outer s H vs Q E hr h => ?_)
  · obtain ⟨r, hs, bs, k, rfl, _⟩ := h
    rfl
  obtain ⟨r, hs, bs, k, rfl, hR, lb, q⟩ := h
  obtain ⟨ha, ba, hv, bv, er, eh, eb, alh, alb⟩ := hR.ex
  have lbv := alb.length
  refine ⟨_, (pss_one (ps_ret (pe_lc (own := [("number", 2), ("belt", 3)]) (g := gTup K 2 (gCons (gName 2) (gCons (gName 3) gNil))) (by rfl) sc_comings.nd (pi_enumT K rfl (by rfl) T.m_enumerate (pa_cons (pe_ix (ix_tupK K rfl) (pv 0) pe_int (fun _ _ => rfl)) pa_nil)) (blkOk_by (own := [("number", 2), ("belt", 3)]) (N := N_comings) (sc := defScope s_comings) (by decide +kernel)) (fun _ _ _ _ _ => (pg_tupK K rfl rfl (pgs_cons (pg_name (i := 2) sc_comings.nd rfl (Or.inl rfl)) (pgs_cons (pg_name (i := 3) sc_comings.nd rfl (Or.inl rfl)) pgs_nil)))) (fun _ _ _ _ _ => pts_one (pt_cmpR op_eq (pe_ix (ix_tupK K rfl) (pv 3) pe_int (fun _ _ => rfl)) (pv 1) (nomark _))) (fun _ _ _ _ _ => (pv 2))))), ?_⟩
  refine ⟨_, rfl, r, _, _, _, rfl, rfl, SqT.of er, atI_nat (j := 1) rfl, ba, bv, rfl, SqT.of eb, fun D nD => lc_it (J := IteT K ba bv) (n := bv.length) (fun i H5 => H5 D = some (.lst (((List.range i).filter fun j => decide (bs[j]?.map BR.to = some k)).map nV)) ∧ Same H H5) ⟨upd_same, same_new nD⟩ ?_ ?_ ?_ ?_⟩
  · rintro i H5 hi ⟨hD, s5⟩
    exact ⟨SqT.of (s5 _ _ eb), hi⟩
  · rintro H5 ⟨hD, s5⟩
    exact ⟨SqT.of (s5 _ _ eb), rfl⟩
  · rintro i x H5 H6 hi ⟨hD, s5⟩ ⟨t, y, rfl, nt, rfl, ey⟩
    obtain ⟨b, eb2, ⟨t2, g, rfl, e1, e2⟩⟩ := alb.getL ey
    have s6 := s5.trans (same_new (o := .tup [V.int ((i : Nat) : Int), V.ref t2]) nt)
    have hD6 := same_new (o := .tup [V.int ((i : Nat) : Int), V.ref t2]) nt _ _ hD
    have few := filt_len (p := fun j => decide (bs[j]?.map BR.to = some k)) i
    refine ⟨t, _, rfl, SqT.of upd_same, rfl, _, _, rfl, _, _, rfl, rfl, rfl, _, rfl, t2, _, _, _, rfl, rfl, SqT.of (s6 _ _ e1), atI_nat (j := 1) rfl, _, rfl, rfl, _, rfl, if_bl (fun c => ?_) (fun c => ?_)⟩
    · have c : b.to = k := by have := V.int.inj (of_decide_eq_true c); omega
      refine ⟨_, rfl, _, hD6, by rw [List.length_map]; exact small1000 (by omega), ?_, Same.own s6 nD⟩
      rw [upd_same, filt_succ, if_pos (decide_eq_true (by rw [eb2, ← c]; rfl)), List.map_append]
      rfl
    · have c : ¬ b.to = k := fun z => of_decide_eq_false c (by rw [z])
      refine ⟨?_, s6⟩
      rw [filt_succ, if_neg fun z => c (by have := of_decide_eq_true z; rw [eb2] at this; exact Option.some.inj this), List.append_nil]
      exact hD6
  · rintro H5 ⟨hD, s5⟩
    refine q D H5 nD ?_ s5
    rw [hD, lbv]
    rfl
end
/-! ### numbered -/
section
variable {P : Program} {w : World} {K : PySem.W.Frag} {mg : Str → Option Value} {base : Heap}
theorem nk_idx : ∀ {kas : List (NestedKey × Addr × Int)} {c : Nat} {k : NestedKey}, (∀ (q : Nat) e, kas[q]? = some e → e.2.2 = (((c + q : Nat) : Nat) : Int)) → k ∈ kas.map (·.1) → nkAt kas k = some (((c + (kas.map (·.1)).idxOf k : Nat) : Nat) : Int) := by
  intro kas
  induction kas with
  | nil => intro c k _ h; cases h
  | cons e r ih =>
    intro c k num h
    unfold nkAt
    rw [List.find?_cons, List.map_cons, List.idxOf_cons]
    by_cases z : e.1 = k
    · rw [decide_eq_true z, show (e.1 == k) = true from beq_iff_eq.mpr z]
      have := num 0 e rfl
      show some e.2.2 = some (((c + 0 : Nat) : Nat) : Int)
      rw [this]
    · rw [decide_eq_false z, show (e.1 == k) = false from beq_eq_false_iff_ne.mpr z]
      rw [List.map_cons] at h
      have h2 : k ∈ r.map (·.1) := by
        rcases List.mem_cons.mp h with q | q
        · exact absurd q.symm z
        · exact q
      have := ih (c := c + 1) (k := k) (fun q e' hq => by rw [num (q + 1) e' hq]; congr 1; omega) h2
      unfold nkAt at this
      show (r.find? fun q => decide (q.1 = k)).map (fun q => q.2.2) = some (((c + ((r.map (·.1)).idxOf k + 1) : Nat) : Nat) : Int)
      rw [this]
      congr 2
      omega
theorem nk_no {kas : List (NestedKey × Addr × Int)} {k : NestedKey} (h : k ∉ kas.map (·.1)) : nkAt kas k = none := by
  unfold nkAt
  rw [List.find?_eq_none.mpr]
  · rfl
  · intro e he z
    exact h (List.mem_map.mpr ⟨e, he, of_decide_eq_true z⟩)
/-- the marks of a list -/
def MarkAt (H : Hp) (v : V) (k : NestedKey) : Prop := ∃ a : Addr, v = .ref a ∧ NkV H k (.ref a) ∧ k.depth ≤ 8
theorem MarkAt.keep {H H' : Hp} {v : V} {k : NestedKey} (m : MarkAt H v k) (kp : TK H H') : MarkAt H' v k := by
  obtain ⟨a, e, n, d⟩ := m
  exact ⟨a, e, n.keep kp, d⟩
def sp_numbered (K : PySem.W.Frag) : Sp := fun vs H Q _ => ∃ (ml : Addr) (mv : List V) (ks : List NestedKey), vs = [.ref ml] ∧ H ml = some (.lst mv) ∧ All2 (MarkAt H) mv ks ∧ ks.length ≤ 1000 ∧
  ∀ (p : Addr) (l : List Nat) (H' : Hp), NumOf ks l → H p = none → H' p = some (.tup (l.map nV)) → Same H H' → Q (.ref p) H'
theorem ok_numbered {f : Addr} {fd : FuncData} (F : Fun K "numbered" "numbered" s_numbered f fd) (T : Top w K mg) : FnOk P w K mg base CX0 1 f fd ["marks"] (sp_numbered K) := by
  refine F.ok sc_numbered (fun vs H Q E h => ?_) (fun cdv A outer s H vs Q E hr h => ?_)
  · obtain ⟨ml, mv, ks, rfl, _⟩ := h
    rfl
  obtain ⟨ml, mv, ks, rfl, hml, al, lk, q⟩ := h
  have lmv := al.length
  refine ⟨_, (pss_cons (ps_set (i := 1) sc_numbered.nd rfl (Or.inr rfl) (pe_nknew P w rfl rfl))
      (pss_cons (ps_for PassesOwn.never rfl (pi_listK K rfl (pv 0)) (pg_name (i := 2) sc_numbered.nd rfl (Or.inl rfl))
        (pss_one (ps_if (pt_cmp (pc_nkout P w rfl rfl (hu65 hr) (pv 2) (pv 1)) (by with_unfolding_all rfl)) (pss_one (ps_nkput P w rfl rfl (hu65 hr) (pv 1) (pv 2) (pe_callB (call_lenNk P w rfl rfl) (by rfl) T.m_len (by decide +kernel) (pa_cons (pv 1) pa_nil)) (by rfl))) pss_nil)))
      (pss_one (ps_ret (pe_callTy (call_tuple_ofK K rfl) (by rfl) T.m_tuple (by decide +kernel) (pa_cons (pe_lc (own := [("mark", 2)]) (g := gName 2) (tt := tYes) (by rfl) sc_numbered.nd (pi_listK K rfl (pv 0)) (blkOk_by (own := [("mark", 2)]) (N := N_numbered) (sc := defScope s_numbered) (by decide +kernel)) (fun _ _ _ _ _ => (pg_name (i := 2) sc_numbered.nd rfl (Or.inl rfl))) (fun _ _ _ _ _ => pts_nil) (fun _ _ _ _ _ => (pe_nkget P w rfl rfl (hu65 hr) (pv 1) (pv 2) (fun _ _ => rfl)))) pa_nil)))))), ?_⟩
  refine fun d nd D0 => ?_
  refine ⟨_, rfl, ml, rfl, ⟨_, SqL.of (same_new nd _ _ hml)⟩, for_list (K := K) (a := ml) (xs := mv) (fun i σ H5 => ∃ (x : Option V) (kas : List (NestedKey × Addr × Int)), σ = [some (.ref ml), some (.ref d), x] ∧ NkD P w H5 d kas ∧ kas.map (·.1) = uniq (ks.take i) ∧ (∀ (q : Nat) e, kas[q]? = some e → e.2.2 = (((0 + q : Nat) : Nat) : Int)) ∧ Same H H5) ⟨_, [], rfl, D0, rfl, (fun _ _ z => by cases z), same_new nd⟩ (fun i σ H5 _ ⟨_, _, _, _, _, _, s⟩ => SqL.of (s _ _ hml)) ?_ ?_⟩
  · rintro i v σ H5 hx ⟨x, kas, rfl, D5, ek, num, s5⟩
    obtain ⟨k, hk, a, rfl, kv, dp⟩ := al.getL hx
    have kv5 := kv.keep (TK.same s5)
    have e1 : ks.take (i + 1) = ks.take i ++ [k] := by rw [List.take_add_one, hk]; rfl
    have lkas : kas.length ≤ 1000 := by
      have h1 := congrArg List.length ek
      rw [List.length_map] at h1
      have h2 := uniq_len (ks.take i)
      rw [List.length_take] at h2
      omega
    refine ⟨_, rfl, _, rfl, d, a, kas, k, rfl, rfl, D5, kv5, dp, _, rfl, if_bl (fun c => ?_) (fun c => ?_)⟩
    · have nk : k ∉ kas.map (·.1) := fun z => by
        rw [nk_idx num z] at c
        cases c
      have nk0 := nk_no nk
      refine ⟨_, rfl, d, kas, rfl, D5, _, rfl, _, rfl, d, a, kas, k, _, rfl, rfl, rfl, D5, kv5, dp, nk0, small1000 (by omega), fun D6 => ?_⟩
      refine ⟨_, kas ++ [(k, a, ((kas.length : Nat) : Int))], rfl, D6, ?_, fun q e he => ?_, Same.own s5 nd⟩
      · rw [List.map_append, e1, uniq_snoc, if_neg (by rw [← ek]; exact nk), ek]
        rfl
      · by_cases hq : q < kas.length
        · rw [List.getElem?_append_left hq] at he
          exact num q e he
        · rw [List.getElem?_append_right (by omega)] at he
          have : q - kas.length = 0 := by
            cases hz : q - kas.length with
            | zero => rfl
            | succ z => rw [hz] at he; cases he
          rw [this] at he
          have he : (k, a, ((kas.length : Nat) : Int)) = e := Option.some.inj he
          rw [← he]
          show ((kas.length : Nat) : Int) = _
          congr 1
          omega
    · have yk : k ∈ kas.map (·.1) := Classical.byContradiction fun z => by
        rw [nk_no z] at c
        cases c
      exact ⟨_, kas, rfl, D5, by rw [e1, uniq_snoc, if_pos (by rw [← ek]; exact yk), ek], num, s5⟩
  · rintro σ H5 ⟨x, kas, rfl, D5, ek, num, s5⟩
    rw [lmv, List.take_length] at ek
    have no := num_of ks
    have lp : (ks.map fun k => (uniq ks).idxOf k).length = ks.length := List.length_map ..
    refine ⟨_, rfl, ml, rfl, ⟨_, SqL.of (s5 _ _ hml)⟩, fun D nD => lc_list (K := K) (a := ml) (xs := mv) (fun i H6 => H6 D = some (.lst (((ks.take i).map fun k => (uniq ks).idxOf k).map nV)) ∧ Same H5 H6) ⟨upd_same, same_new nD⟩ (fun i H6 _ ⟨_, s6⟩ => SqL.of (s6 _ _ (s5 _ _ hml))) ?_ ?_⟩
    · rintro i v H6 hx ⟨hD, s6⟩
      obtain ⟨k, hk, a, rfl, kv, dp⟩ := al.getL hx
      have kv6 := (kv.keep (TK.same s5)).keep (TK.same s6)
      have yk : k ∈ kas.map (·.1) := by rw [ek]; exact (mem_uniq ks k).mpr (List.mem_of_getElem? hk)
      have at_ := nk_idx num yk
      rw [Nat.zero_add, ek] at at_
      refine ⟨rfl, yes_in ⟨_, rfl, _, rfl, d, a, kas, k, _, rfl, rfl, D5.same s6, kv6, dp, at_, _, hD, ?_, ?_, Same.own s6 nD⟩⟩
      · rw [List.length_map, List.length_map, List.length_take]; exact small1000 (by omega)
      · rw [upd_same, List.take_add_one, hk, List.map_append, List.map_append]
        rfl
    · rintro H6 ⟨hD, s6⟩
      rw [lmv, List.take_length] at hD
      refine ⟨D, _, rfl, .inl ⟨SqL.of hD, fun p np => ?_⟩⟩
      exact q p _ _ no (same_none s5 (same_none s6 np)) upd_same fun b o e => same_new np _ _ (s6 _ _ (s5 _ _ e))
end
/-! ### marks -/
def ruleK (h : HR) : NestedKey := .tup (.text h.wd :: (match h.no with | none => [] | some n => [.num n]))
def mark1 (k : Nat) (h : HR) : NestedKey := if isDoor h then .tup [ruleK h, .num (k : Nat)] else .tup [ruleK h]
def thK (b : BR) : NestedKey := .tup (b.th.map .num)
def mark2 (t : List Nat) (bs : List BR) (k : Nat) : NestedKey := .tup [.num ((t.getD k 0 : Nat) : Int), .tup ((comeB bs k).map fun b => .tup [.num ((t.getD b.one 0 : Nat) : Int), thK b])]
theorem ruleK_at {H : Hp} {r : Addr} {h : HR} (e : H r = some (.tup (ruleL h))) : NkV H (ruleK h) (.ref r) := by
  obtain ⟨wd, no, mom⟩ := h
  cases no with
  | none => exact .tup e (.cons (.text _) .nil)
  | some n => exact .tup e (.cons (.text _) (.cons (.num _) .nil))
theorem nums_at {H : Hp} : ∀ l : List Int, NkL H (l.map .num) (l.map V.int)
  | [] => .nil
  | _ :: r => .cons (.num _) (nums_at r)
theorem ruleK_depth (h : HR) : (ruleK h).depth ≤ 1 := by
  obtain ⟨wd, no, mom⟩ := h
  cases no <;> simp [ruleK, NestedKey.depth, NestedKey.depthAll]
theorem depth_nums : ∀ l : List Int, NestedKey.depthAll (l.map .num) = 0
  | [] => rfl
  | _ :: r => by rw [List.map_cons, NestedKey.depthAll, depth_nums r]; rfl
theorem mark1_depth (k : Nat) (h : HR) : (mark1 k h).depth ≤ 8 := by
  have := ruleK_depth h
  unfold mark1
  split
  · simp only [NestedKey.depth, NestedKey.depthAll]; omega
  · simp only [NestedKey.depth, NestedKey.depthAll]; omega
theorem mark2_depth (t : List Nat) (bs : List BR) (k : Nat) : (mark2 t bs k).depth ≤ 8 := by
  have : ∀ l : List BR, NestedKey.depthAll (l.map fun b => NestedKey.tup [.num ((t.getD b.one 0 : Nat) : Int), thK b]) ≤ 2 := by
    intro l
    induction l with
    | nil => exact Nat.zero_le _
    | cons b r ih =>
      rw [List.map_cons, NestedKey.depthAll]
      have h1 : (thK b).depth = 1 := by unfold thK; rw [NestedKey.depth, depth_nums]
      simp only [NestedKey.depth, NestedKey.depthAll, h1] at ih ⊢
      omega
  have := this (comeB bs k)
  unfold mark2
  simp only [NestedKey.depth, NestedKey.depthAll] at this ⊢
  omega
theorem ruleK_inj {g h : HR} : ruleK g = ruleK h ↔ g.wd = h.wd ∧ g.no = h.no := by
  obtain ⟨wd, no, mom⟩ := g
  obtain ⟨wd2, no2, mom2⟩ := h
  cases no <;> cases no2 <;> simp [ruleK]
theorem come_list (bs : List BR) (k : Nat) : All2 (fun i b => bs[i]? = some b) (comingN bs k) (comeB bs k) := by
  induction bs using snoc_ind with
  | h0 => exact .nil
  | h1 l b ih =>
    have e1 : comingN (l ++ [b]) k = comingN l k ++ (if b.to = k then [l.length] else []) := by
      unfold comingN
      rw [List.length_append, show l.length + [b].length = l.length + 1 from rfl, filt_succ]
      congr 1
      · refine List.filter_congr fun i hi => ?_
        rw [List.getElem?_append_left (List.mem_range.mp hi)]
      · rw [List.getElem?_append_right (Nat.le_refl _), Nat.sub_self]
        by_cases h : b.to = k
        · rw [if_pos h, if_pos (decide_eq_true (by rw [← h]; rfl))]
        · rw [if_neg h, if_neg]
          intro z
          exact h (Option.some.inj (of_decide_eq_true z))
    have e2 : comeB (l ++ [b]) k = comeB l k ++ (if b.to = k then [b] else []) := by
      unfold comeB
      rw [List.filter_append]
      congr 1
      by_cases h : b.to = k
      · rw [if_pos h]; simp [h]
      · rw [if_neg h]; simp [h]
    have ih2 : All2 (fun i c => (l ++ [b])[i]? = some c) (comingN l k) (comeB l k) := ih.imp fun i c e => by
      rw [List.getElem?_append_left (List.getElem?_eq_some_iff.mp e).1]; exact e
    rw [e1, e2]
    by_cases h : b.to = k
    · rw [if_pos h, if_pos h]
      refine ih2.snoc ?_
      rw [List.getElem?_append_right (Nat.le_refl _), Nat.sub_self]
      rfl
    · rw [if_neg h, if_neg h, List.append_nil, List.append_nil]
      exact ih2
theorem NkL.snoc {H : Hp} {k : NestedKey} {x : V} : ∀ {ks : List NestedKey} {xs : List V}, NkL H ks xs → NkV H k x → NkL H (ks ++ [k]) (xs ++ [x])
  | _, _, .nil, h => .cons h .nil
  | _, _, .cons a b, h => .cons a (NkL.snoc b h)
section
variable {P : Program} {w : World} {K : PySem.W.Frag} {mg : Str → Option Value} {base : Heap}
def sp_first_mark (K : PySem.W.Frag) : Sp := fun vs H Q _ => ∃ (r : Addr) (h : HR) (k : Nat), vs = [.ref r, nV k] ∧ H r = some (.tup (ruleL h)) ∧ GoodHand h ∧ ∀ (p : Addr) (H' : Hp), NkV H' (mark1 k h) (.ref p) → Same H H' → Q (.ref p) H'
theorem ok_first_mark {f : Addr} {fd : FuncData} (F : Fun K "first_mark" "first_mark" s_first_mark f fd) (T : Top w K mg) : FnOk P w K mg base CX0 1 f fd ["rule", "hand"] (sp_first_mark K) := by
  refine F.ok sc_first_mark (fun vs H Q E h => ?_) (fun cdv A outer s H vs Q E hr h => ?_)
  · obtain ⟨r, h, k, rfl, _⟩ := h
    rfl
  obtain ⟨r, h, k, rfl, hr0, gh, q⟩ := h
  obtain ⟨aI, mI, hI⟩ := T.x_in
  obtain ⟨aO, mO, hO⟩ := T.x_out
  refine ⟨_, (pss_one (ps_ret (pe_ifExp (pt_cmpR (op_inDTK K rfl (hu65 hr)) (pv 0) (pe_tup (pa_cons (pe_glob (v := .ref aI) (by rfl) mI rfl) (pa_cons (pe_glob (v := .ref aO) (by rfl) mO rfl) pa_nil))) (by with_unfolding_all rfl)) (pe_tup (pa_cons (pv 0) (pa_cons (pv 1) pa_nil))) (pe_tup (pa_cons (pv 0) pa_nil))))), ?_⟩
  refine ⟨_, rfl, (by show 2 ≤ sizeLine; decide), fun t nt => ?_⟩
  have s1 := same_new (o := .tup [V.ref aI, V.ref aO]) nt
  refine ⟨.tuple (ruleD h), [.tuple [.str "in"], .tuple [.str "out"]], rule_dp (s1 _ _ hr0), .tup (SqT.of upd_same) (.cons (.tup (hI _) (.cons (.str _) .nil)) (.cons (.tup (hO _) (.cons (.str _) .nil)) .nil)), rule_shaped gh.lay, by decide +kernel, _, rfl, ?_⟩
  have val : ([PyData.tuple [.str "in"], .tuple [.str "out"]].any fun z => PyData.eqv z (.tuple (ruleD h))) = isDoor h := by
    rw [List.any_cons, List.any_cons, List.any_nil, Bool.or_false, one_eqv, one_eqv, gh.door "in" (.inl rfl), gh.door "out" (.inr rfl)]
    rfl
  rw [val]
  unfold mark1 at q
  refine if_bl (fun c => ?_) (fun c => ?_)
  · rw [if_pos c] at q
    refine ⟨_, rfl, _, rfl, (by show 2 ≤ sizeLine; decide), fun p np => ?_⟩
    have s2 := same_new (o := .tup [V.ref r, nV k]) np
    exact q p _ (.tup upd_same (.cons (ruleK_at (s2 _ _ (s1 _ _ hr0))) (.cons (.num _) .nil))) (fun b o e => s2 _ _ (s1 _ _ e))
  · rw [if_neg (by rw [c]; exact Bool.false_ne_true)] at q
    refine ⟨_, rfl, (by show 1 ≤ sizeLine; decide), fun p np => ?_⟩
    have s2 := same_new (o := .tup [V.ref r]) np
    exact q p _ (.tup upd_same (.cons (ruleK_at (s2 _ _ (s1 _ _ hr0))) .nil)) (fun b o e => s2 _ _ (s1 _ _ e))
def sp_mark_by (K : PySem.W.Frag) : Sp := fun vs H Q _ => ∃ (r tl : Addr) (hs : List HR) (bs : List BR) (t : List Nat) (k : Nat), vs = [.ref r, .ref tl, nV k] ∧ RoomAt H r hs bs ∧ (∀ b ∈ bs, b.one < t.length) ∧ bs.length ≤ 400 ∧ H tl = some (.tup (t.map nV)) ∧ k < t.length ∧
  ∀ (p : Addr) (H' : Hp), NkV H' (mark2 t bs k) (.ref p) → Same H H' → Q (.ref p) H'
theorem ok_mark_by {f : Addr} {fd : FuncData} (F : Fun K "mark_by" "mark_by" s_mark_by f fd) (T : Top w K mg) : FnOk P w K mg base CX0 2 f fd ["room", "told", "hand"] (sp_mark_by K) := by
  obtain ⟨f_comings, fd_comings, F_comings, b_comings, m_comings⟩ := T.d_comings
  have G_comings := ok_comings (P := P) (w := w) (base := base) F_comings T
  refine F.ok sc_mark_by (fun vs H Q E h => ?_) (fun cdv A outer s H vs Q E hr h => ?_)
  · obtain ⟨r, tl, hs, bs, t, k, rfl, _⟩ := h
    rfl
  obtain ⟨r, tl, hs, bs, t, k, rfl, hR, ends, lb, htl, hk, q⟩ := h
  obtain ⟨ha, ba, hv, bv, er, eh, eb, alh, alb⟩ := hR.ex
  have lbv := alb.length
  refine ⟨_, (pss_cons (ps_setLc (i := 3) (own := [("number", 4)]) (g := gName 4) (tt := tYes) (by rfl) sc_mark_by.nd rfl rfl (sw_true rfl rfl rfl (by decide +kernel)) (pi_listK K rfl (pe_call G_comings (hr.mono (by decide)) (by rfl) m_comings F_comings.kp b_comings .nil pass0 (pa_cons (pv 0) (pa_cons (pv 2) pa_nil)))) (blkOk_by (own := [("number", 4)]) (N := N_mark_by) (sc := defScope s_mark_by) (by decide +kernel)) (fun _ _ _ _ _ => (pg_name (i := 4) sc_mark_by.nd rfl (Or.inl rfl))) (fun _ _ _ _ _ => pts_nil) (fun _ _ _ _ _ => (pe_ix (ix_tupK K rfl) (pe_ix (ix_tupK K rfl) (pv 0) pe_int (fun _ _ => rfl)) (pv 4) (fun _ _ => rfl))))
      (pss_one (ps_ret (pe_tup (pa_cons (pe_ix (ix_tupK K rfl) (pv 1) (pv 2) (fun _ _ => rfl)) (pa_cons (pe_callTy (call_tuple_ofK K rfl) (by rfl) T.m_tuple (by decide +kernel) (pa_cons (pe_lc (own := [("giver", 5), ("taker", 6), ("things", 7)]) (g := gTup K 3 (gCons (gName 5) (gCons (gName 6) (gCons (gName 7) gNil)))) (tt := tYes) (by rfl) sc_mark_by.nd (pi_listK K rfl (pv 3)) (blkOk_by (own := [("giver", 5), ("taker", 6), ("things", 7)]) (N := N_mark_by) (sc := defScope s_mark_by) (by decide +kernel)) (fun _ _ _ _ _ => (pg_tupK K rfl rfl (pgs_cons (pg_name (i := 5) sc_mark_by.nd rfl (Or.inl rfl)) (pgs_cons (pg_name (i := 6) sc_mark_by.nd rfl (Or.inl rfl)) (pgs_cons (pg_name (i := 7) sc_mark_by.nd rfl (Or.inl rfl)) pgs_nil))))) (fun _ _ _ _ _ => pts_nil) (fun _ _ _ _ _ => (pe_tup (pa_cons (pe_ix (ix_tupK K rfl) (pv 1) (pv 5) (fun _ _ => rfl)) (pa_cons (pv 7) pa_nil))))) pa_nil)) pa_nil)))))), ?_⟩
  refine ⟨_, rfl, _, rfl, r, hs, bs, k, rfl, hR, lb, fun c H1 nc hc s1 => ?_⟩
  have cl := come_list bs k
  have lc := cl.length
  have lc2 : (comeB bs k).length ≤ 400 := by unfold comeB; exact Nat.le_trans (List.length_filter_le ..) lb
  refine ⟨c, rfl, ⟨_, SqL.of hc⟩, fun D nD => lc_list (K := K) (a := c) (xs := (comingN bs k).map nV) (fun i H5 => ∃ vs : List V, H5 D = some (.lst vs) ∧ All2 (BeltAt H5) vs ((comeB bs k).take i) ∧ Same H1 H5) ⟨[], upd_same, .nil, same_new nD⟩ (fun i H5 _ ⟨_, _, _, s5⟩ => SqL.of (s5 _ _ hc)) ?_ ?_⟩
  · rintro i v H5 hx ⟨vs, hD, alv, s5⟩
    rw [List.getElem?_map] at hx
    cases hj : (comingN bs k)[i]? with
    | none => rw [hj] at hx; cases hx
    | some j =>
      rw [hj] at hx
      obtain rfl : nV j = v := Option.some.inj hx
      obtain ⟨b, eb1, eb2⟩ := cl.getL hj
      obtain ⟨x, ex, bx⟩ := alb.get eb2
      have s15 : Same H H5 := fun a o e => s5 _ _ (s1 _ _ e)
      have lv := alv.length
      rw [List.length_take] at lv
      refine ⟨rfl, yes_in ⟨_, rfl, r, _, _, _, rfl, rfl, SqT.of (s15 _ _ er), atI_nat (j := 1) rfl, _, rfl, ba, _, _, _, rfl, rfl, SqT.of (s15 _ _ eb), atI_nat ex, _, hD, small1000 (by omega), vs ++ [x], upd_same, ?_, Same.own s5 nD⟩⟩
      rw [List.take_add_one, eb1]
      exact ((alv.imp fun _ _ z => z.keep (TK.lst hD)).snoc ((bx.keep (TK.same s15)).keep (TK.lst hD)))
  rintro H5 ⟨vs, hD, alv, s5⟩
  rw [List.length_map, lc, List.take_length] at alv
  have s15 : Same H H5 := fun a o e => s5 _ _ (s1 _ _ e)
  have lv := alv.length
  have nat_at : ∀ {j : Nat}, j < t.length → (t.map nV)[j]? = some (nV (t.getD j 0)) := fun {j} h => by
    rw [List.getElem?_map, List.getElem?_eq_getElem h, List.getD_eq_getElem?_getD, List.getElem?_eq_getElem h]; rfl
  refine ⟨_, rfl, _, rfl, tl, _, _, _, rfl, rfl, SqT.of (s15 _ _ htl), atI_nat (nat_at hk), ?_⟩
  refine ⟨_, rfl, D, rfl, ⟨_, SqL.of hD⟩, fun E nE => lc_list (K := K) (a := D) (xs := vs) (fun i H6 => ∃ us : List V, H6 E = some (.lst us) ∧ us.length = i ∧ NkL H6 (((comeB bs k).take i).map fun b => NestedKey.tup [.num ((t.getD b.one 0 : Nat) : Int), thK b]) us ∧ Same H5 H6) ⟨[], upd_same, rfl, .nil, same_new nE⟩ (fun i H6 _ ⟨_, _, _, _, s6⟩ => SqL.of (s6 _ _ hD)) ?_ ?_⟩
  · rintro i v H6 hx ⟨us, hE, lu, nk, s6⟩
    obtain ⟨b, eb1, tb, g, rfl, e1, e2⟩ := alv.getL hx
    have bm : b ∈ bs := (List.mem_filter.mp (List.mem_of_getElem? eb1)).1
    have s16 : Same H H6 := fun a o e => s6 _ _ (s15 _ _ e)
    have il := (List.getElem?_eq_some_iff.mp eb1).1
    refine ⟨tb, _, rfl, SqT.of (s6 _ _ e1), rfl, _, _, rfl, _, _, rfl, _, _, rfl, rfl, rfl, yes_in ⟨_, rfl, _, rfl, tl, _, _, _, rfl, rfl, SqT.of (s16 _ _ htl), atI_nat (nat_at (ends b bm)), _, rfl, (by show 2 ≤ sizeLine; decide), fun p2 np2 => ?_⟩⟩
    have s7 := same_new (o := .tup [nV (t.getD b.one 0), V.ref g]) np2
    have hE7 := s7 _ _ hE
    refine ⟨_, hE7, small1000 (by omega), us ++ [.ref p2], upd_same, by rw [List.length_append, lu]; rfl, ?_, Same.own (fun a o e => s7 _ _ (s6 _ _ e)) nE⟩
    rw [List.take_add_one, eb1, List.map_append]
    refine NkL.snoc (NkL.keep ((TK.same s7).trans (TK.lst hE7)) nk) (.tup (TK.lst hE7 _ _ upd_same) (.cons (.num _) (.cons (.tup (TK.lst hE7 _ _ (s7 _ _ (s6 _ _ e2))) (nums_at _)) .nil)))
  · rintro H6 ⟨us, hE, lu, nk, s6⟩
    rw [lv, List.take_length] at nk
    refine ⟨E, _, rfl, .inl ⟨SqL.of hE, fun p3 np3 => ⟨(by show 2 ≤ sizeLine; decide), fun p np => ?_⟩⟩⟩
    have s7 := same_new (o := .tup us) np3
    have s8 := same_new (o := .tup [nV (t.getD k 0), V.ref p3]) np
    refine q p _ (.tup upd_same (.cons (.num _) (.cons (.tup (s8 _ _ upd_same) (NkL.keep ((TK.same s7).trans (TK.same s8)) nk)) .nil))) fun a o e => s8 _ _ (s7 _ _ (s6 _ _ (s15 _ _ e)))
end
/-! ### kinds -/
def m1 (hs : List HR) (k : Nat) : NestedKey := (hs[k]?.map (mark1 k)).getD .none
theorem getD_eq {t : List Nat} {i j : Nat} (hi : i < t.length) (hj : j < t.length) : t[i]? = t[j]? ↔ t.getD i 0 = t.getD j 0 := by
  rw [List.getD_eq_getElem?_getD, List.getD_eq_getElem?_getD, List.getElem?_eq_getElem hi, List.getElem?_eq_getElem hj]
  exact ⟨fun e => congrArg (Option.getD · 0) e, fun e => congrArg some e⟩
theorem m1_eq {hs : List HR} {i j : Nat} (hi : i < hs.length) (hj : j < hs.length) : m1 hs i = m1 hs j ↔ SameFirst hs i j := by
  unfold m1
  rw [List.getElem?_eq_getElem hi, List.getElem?_eq_getElem hj]
  show mark1 i hs[i] = mark1 j hs[j] ↔ _
  unfold mark1
  constructor
  · intro e
    by_cases d1 : isDoor hs[i] = true
    · rw [if_pos d1] at e
      by_cases d2 : isDoor hs[j] = true
      · rw [if_pos d2] at e
        left
        have z : ruleK hs[i] = ruleK hs[j] ∧ ((i : Nat) : Int) = (j : Nat) := by simpa using NestedKey.tup.inj e
        have := z.2
        omega
      · rw [if_neg d2] at e
        simp at e
    · rw [if_neg d1] at e
      by_cases d2 : isDoor hs[j] = true
      · rw [if_pos d2] at e
        simp at e
      · rw [if_neg d2] at e
        have e : ruleK hs[i] = ruleK hs[j] := by simpa using NestedKey.tup.inj e
        obtain ⟨e1, e2⟩ := ruleK_inj.mp e
        exact .inr ⟨_, _, List.getElem?_eq_getElem hi, List.getElem?_eq_getElem hj, e1, e2, by simpa using d1⟩
  · rintro (rfl | ⟨g, h, eg, eh, e1, e2, d⟩)
    · rfl
    · rw [List.getElem?_eq_getElem hi] at eg
      rw [List.getElem?_eq_getElem hj] at eh
      rw [Option.some.inj eg, Option.some.inj eh]
      have d2 : isDoor h = false := by unfold isDoor at d ⊢; rw [← e1]; exact d
      rw [d, d2, ruleK_inj.mpr ⟨e1, e2⟩]
      rfl
theorem ths_inj {b c : BR} : thK b = thK c ↔ b.th = c.th := by
  unfold thK
  constructor
  · intro e
    have e := NestedKey.tup.inj e
    have : ∀ l m : List Int, l.map NestedKey.num = m.map NestedKey.num → l = m := by
      intro l
      induction l with
      | nil => intro m h; cases m with
        | nil => rfl
        | cons y r => cases h
      | cons x r ih => intro m h; cases m with
        | nil => cases h
        | cons y s =>
          rw [List.map_cons, List.map_cons] at h
          obtain ⟨h1, h2⟩ := List.cons.inj h
          rw [NestedKey.num.inj h1, ih s h2]
    exact this _ _ e
  · intro e; rw [e]
theorem comes_eq (t : List Nat) : ∀ {l m : List BR}, (l.map fun b => NestedKey.tup [.num ((t.getD b.one 0 : Nat) : Int), thK b]) = (m.map fun b => NestedKey.tup [.num ((t.getD b.one 0 : Nat) : Int), thK b]) ↔ All2 (fun b c : BR => b.th = c.th ∧ t.getD b.one 0 = t.getD c.one 0) l m
  | [], [] => ⟨fun _ => .nil, fun _ => rfl⟩
  | [], _ :: _ => ⟨fun z => (by cases z), fun z => (by cases z)⟩
  | _ :: _, [] => ⟨fun z => (by cases z), fun z => (by cases z)⟩
  | b :: l, c :: m => by
    rw [List.map_cons, List.map_cons]
    constructor
    · intro z
      obtain ⟨z1, z2⟩ := List.cons.inj z
      have z1 := NestedKey.tup.inj z1
      obtain ⟨z3, z4⟩ := List.cons.inj z1
      have z5 := ths_inj.mp (List.cons.inj z4).1
      have z6 := NestedKey.num.inj z3
      exact .cons ⟨z5, by omega⟩ ((comes_eq t).mp z2)
    · intro z
      cases z with
      | cons r rest => rw [(comes_eq t).mpr rest, r.2, ths_inj.mpr r.1]
theorem mark2_eq (t : List Nat) (bs : List BR) (i j : Nat) : mark2 t bs i = mark2 t bs j ↔ t.getD i 0 = t.getD j 0 ∧ All2 (fun b c : BR => b.th = c.th ∧ t.getD b.one 0 = t.getD c.one 0) (comeB bs i) (comeB bs j) := by
  unfold mark2
  constructor
  · intro z
    have z := NestedKey.tup.inj z
    obtain ⟨z1, z2⟩ := List.cons.inj z
    have z3 := NestedKey.num.inj z1
    have z4 := NestedKey.tup.inj (List.cons.inj z2).1
    exact ⟨by omega, (comes_eq t).mp z4⟩
  · rintro ⟨a, b⟩
    rw [a, (comes_eq t).mpr b]
/-- a parting on the way: as coarse as can be, doors apart -/
structure Stage (hs : List HR) (bs : List BR) (t : List Nat) : Prop where
  len : t.length = hs.length
  canon : Canon t
  coarse : ∀ i j, i < hs.length → j < hs.length → AlikeH hs bs i j → t.getD i 0 = t.getD j 0
  first : ∀ i j, i < hs.length → j < hs.length → t.getD i 0 = t.getD j 0 → SameFirst hs i j
theorem All2.imp_mem {α β : Type} {R S : α → β → Prop} : ∀ {as : List α} {bs : List β}, All2 R as bs → (∀ a ∈ as, ∀ b ∈ bs, R a b → S a b) → All2 S as bs
  | _, _, .nil, _ => .nil
  | _, _, .cons r t, f => .cons (f _ (List.mem_cons_self ..) _ (List.mem_cons_self ..) r) (All2.imp_mem t fun a ha b hb => f a (List.mem_cons_of_mem _ ha) b (List.mem_cons_of_mem _ hb))
theorem AlikeH.come {hs : List HR} {bs : List BR} {i j : Nat} (h : AlikeH hs bs i j) (hi : i < hs.length) (hj : j < hs.length) : All2 (fun b c : BR => b.th = c.th ∧ AlikeH hs bs b.one c.one) (comeB bs i) (comeB bs j) := by
  obtain ⟨R, B, r⟩ := h
  exact (B.come i j r hi hj).imp fun _ _ ⟨a, b⟩ => ⟨a, R, B, b⟩
theorem AlikeH.first {hs : List HR} {bs : List BR} {i j : Nat} (h : AlikeH hs bs i j) (hi : i < hs.length) (hj : j < hs.length) : SameFirst hs i j := by
  obtain ⟨R, B, r⟩ := h
  exact B.first i j r hi hj
theorem come_mem {bs : List BR} {k : Nat} {b : BR} (h : b ∈ comeB bs k) : b ∈ bs := (List.mem_filter.mp h).1
theorem stage0 {hs : List HR} {bs : List BR} {l : List Nat} (no : NumOf ((List.range hs.length).map (m1 hs)) l) : Stage hs bs l := by
  have ln : l.length = hs.length := by rw [no.len, List.length_map, List.length_range]
  have at_ : ∀ {i}, i < hs.length → ((List.range hs.length).map (m1 hs))[i]? = some (m1 hs i) := fun {i} h => by rw [List.getElem?_map, List.getElem?_range h]; rfl
  have kl : ((List.range hs.length).map (m1 hs)).length = hs.length := by rw [List.length_map, List.length_range]
  have sm : ∀ i j, i < hs.length → j < hs.length → (l.getD i 0 = l.getD j 0 ↔ SameFirst hs i j) := fun i j hi hj => by
    rw [← getD_eq (by omega) (by omega), no.same i j (by omega) (by omega), at_ hi, at_ hj, ← m1_eq hi hj]
    exact ⟨fun z => Option.some.inj z, fun z => congrArg some z⟩
  exact ⟨ln, no.canon, fun i j hi hj a => (sm i j hi hj).mpr (a.first hi hj), fun i j hi hj e => (sm i j hi hj).mp e⟩
theorem next_same {hs : List HR} {bs : List BR} {t l : List Nat} (lt : t.length = hs.length) (no : NumOf ((List.range t.length).map (mark2 t bs)) l) {i j : Nat} (hi : i < hs.length) (hj : j < hs.length) :
    l.getD i 0 = l.getD j 0 ↔ t.getD i 0 = t.getD j 0 ∧ All2 (fun b c : BR => b.th = c.th ∧ t.getD b.one 0 = t.getD c.one 0) (comeB bs i) (comeB bs j) := by
  have kl : ((List.range t.length).map (mark2 t bs)).length = t.length := by rw [List.length_map, List.length_range]
  have ln : l.length = t.length := by rw [no.len, kl]
  have at_ : ∀ {i}, i < t.length → ((List.range t.length).map (mark2 t bs))[i]? = some (mark2 t bs i) := fun {i} h => by rw [List.getElem?_map, List.getElem?_range h]; rfl
  rw [← getD_eq (by omega) (by omega), no.same i j (by omega) (by omega), at_ (by omega), at_ (by omega), ← mark2_eq]
  exact ⟨fun z => Option.some.inj z, fun z => congrArg some z⟩
theorem Stage.next {hs : List HR} {bs : List BR} {t l : List Nat} (st : Stage hs bs t) (ends : ∀ b ∈ bs, b.one < hs.length) (no : NumOf ((List.range t.length).map (mark2 t bs)) l) : Stage hs bs l := by
  have ln : l.length = hs.length := by rw [no.len, List.length_map, List.length_range, st.len]
  refine ⟨ln, no.canon, fun i j hi hj a => ?_, fun i j hi hj e => ?_⟩
  · refine (next_same st.len no hi hj).mpr ⟨st.coarse i j hi hj a, ?_⟩
    exact (a.come hi hj).imp_mem fun b hb c hc ⟨z1, z2⟩ => ⟨z1, st.coarse _ _ (ends b (come_mem hb)) (ends c (come_mem hc)) z2⟩
  · exact st.first i j hi hj ((next_same st.len no hi hj).mp e).1
theorem Stage.done {hs : List HR} {bs : List BR} {t : List Nat} (st : Stage hs bs t) (no : NumOf ((List.range t.length).map (mark2 t bs)) t) : KindsOf hs bs t := by
  refine ⟨st.len, st.canon, fun i j hi hj => ?_⟩
  rw [getD_eq (by rw [st.len]; exact hi) (by rw [st.len]; exact hj)]
  refine ⟨fun e => ⟨fun i j => t.getD i 0 = t.getD j 0, ⟨fun i j r hi hj => st.first i j hi hj r, fun i j r hi hj => ((next_same st.len no hi hj).mp r).2⟩, e⟩, st.coarse i j hi hj⟩
/-- how many pairs are alike -/
def prs (n : Nat) : List (Nat × Nat) := (List.range n).flatMap fun i => (List.range n).map fun j => (i, j)
def cnt2 (n : Nat) (t : List Nat) : Nat := (prs n).countP fun p => decide (t.getD p.1 0 = t.getD p.2 0)
theorem mem_prs {n i j : Nat} (hi : i < n) (hj : j < n) : (i, j) ∈ prs n := List.mem_flatMap.mpr ⟨i, List.mem_range.mpr hi, List.mem_map.mpr ⟨j, List.mem_range.mpr hj, rfl⟩⟩
theorem of_prs {n : Nat} {p : Nat × Nat} (h : p ∈ prs n) : p.1 < n ∧ p.2 < n := by
  obtain ⟨i, hi, h⟩ := List.mem_flatMap.mp h
  obtain ⟨j, hj, rfl⟩ := List.mem_map.mp h
  exact ⟨List.mem_range.mp hi, List.mem_range.mp hj⟩
theorem count_less {α : Type} {p q : α → Bool} : ∀ {l : List α}, (∀ x ∈ l, p x = true → q x = true) → (∃ x ∈ l, q x = true ∧ p x = false) → l.countP p < l.countP q
  | [], _, h => by obtain ⟨x, hx, _⟩ := h; cases hx
  | y :: l, sub, h => by
    have le : l.countP p ≤ l.countP q := List.countP_mono_left fun x hx => sub x (List.mem_cons_of_mem _ hx)
    rw [List.countP_cons, List.countP_cons]
    obtain ⟨x, hx, h1, h2⟩ := h
    rcases List.mem_cons.mp hx with rfl | hx
    · rw [if_neg (by rw [h2]; exact Bool.false_ne_true), if_pos h1]
      omega
    · have lt := count_less (fun z hz => sub z (List.mem_cons_of_mem _ hz)) ⟨x, hx, h1, h2⟩
      have := sub y (List.mem_cons_self ..)
      by_cases py : p y = true
      · rw [if_pos py, if_pos (this py)]; omega
      · rw [if_neg py]; split <;> omega
theorem Stage.less {hs : List HR} {bs : List BR} {t l : List Nat} (st : Stage hs bs t) (no : NumOf ((List.range t.length).map (mark2 t bs)) l) (ne : l ≠ t) : cnt2 hs.length l < cnt2 hs.length t := by
  have kl : ((List.range t.length).map (mark2 t bs)).length = t.length := by rw [List.length_map, List.length_range]
  have ln : l.length = t.length := by rw [no.len, kl]
  refine count_less (fun p hp h => ?_) (Classical.byContradiction fun no2 => ne (canon_eq ln no.canon st.canon fun i j hi hj => ?_))
  · obtain ⟨h1, h2⟩ := of_prs hp
    exact decide_eq_true ((next_same st.len no h1 h2).mp (of_decide_eq_true h)).1
  · have hi2 : i < hs.length := by rw [← st.len, ← ln]; exact hi
    have hj2 : j < hs.length := by rw [← st.len, ← ln]; exact hj
    rw [getD_eq hi hj, getD_eq (by omega) (by omega)]
    constructor
    · intro e
      exact ((next_same st.len no hi2 hj2).mp e).1
    · intro e
      refine Classical.byContradiction fun z => no2 ⟨(i, j), mem_prs hi2 hj2, decide_eq_true e, decide_eq_false z⟩
theorem kinds_eqv (l m : List Nat) : PyData.eqvAll (l.map fun n => PyData.int ((n : Nat) : Int)) (m.map fun n => PyData.int ((n : Nat) : Int)) = decide (l = m) := by
  induction l generalizing m with
  | nil => cases m with
    | nil => rfl
    | cons y s => rfl
  | cons x r ih => cases m with
    | nil => rfl
    | cons y s =>
      rw [List.map_cons, List.map_cons, PyData.eqvAll, ih]
      show (decide (((x : Nat) : Int) = ((y : Nat) : Int)) && decide (r = s)) = decide (x :: r = y :: s)
      by_cases h : x = y
      · subst h
        rw [decide_eq_true rfl, Bool.true_and]
        by_cases h2 : r = s
        · rw [h2, decide_eq_true rfl, decide_eq_true rfl]
        · rw [decide_eq_false h2, decide_eq_false (fun z => h2 (List.cons.inj z).2)]
      · rw [decide_eq_false (by omega : ¬ ((x : Nat) : Int) = ((y : Nat) : Int)), Bool.false_and, decide_eq_false (fun z => h (List.cons.inj z).1)]
theorem lay_nats : ∀ m : List Nat, PyData.canLayAll0 (m.map fun n => PyData.int ((n : Nat) : Int)) = true
  | [] => rfl
  | x :: m => by
    rw [List.map_cons]
    simp only [PyData.canLayAll0, PyData.canLay0, lay_nats m, Bool.and_self]
theorem dep_nats : ∀ m : List Nat, PyData.depthAll (m.map fun n => PyData.int ((n : Nat) : Int)) ≤ 0
  | [] => Nat.le_refl _
  | x :: m => by
    rw [List.map_cons]
    simp only [PyData.depthAll, PyData.depth]
    have := dep_nats m
    omega
theorem nats_shaped (m : List Nat) : SeqAt.shaped (.tuple (m.map fun n => PyData.int ((n : Nat) : Int))) = true := by
  unfold SeqAt.shaped
  simp only [PyData.canLay0, lay_nats, Bool.true_and, PyData.depth]
  have := dep_nats m
  exact decide_eq_true (by omega)
section
variable {P : Program} {w : World} {K : PySem.W.Frag} {mg : Str → Option Value} {base : Heap}
def sp_kinds (K : PySem.W.Frag) : Sp := fun vs H Q _ => ∃ (r : Addr) (hs : List HR) (bs : List BR), vs = [.ref r] ∧ RoomAt H r hs bs ∧ (∀ h ∈ hs, GoodHand h) ∧ hs.length ≤ 400 ∧ (∀ b ∈ bs, b.one < hs.length) ∧ bs.length ≤ 400 ∧
  ∀ (p : Addr) (t : List Nat) (H' : Hp), KindsOf hs bs t → H p = none → H' p = some (.tup (t.map nV)) → Same H H' → Q (.ref p) H'
theorem ok_kinds {f : Addr} {fd : FuncData} (F : Fun K "kinds" "kinds" s_kinds f fd) (T : Top w K mg) : FnOk P w K mg base CX0 3 f fd ["room"] (sp_kinds K) := by
  obtain ⟨f_numbered, fd_numbered, F_numbered, b_numbered, m_numbered⟩ := T.d_numbered
  have G_numbered := ok_numbered (P := P) (w := w) (base := base) F_numbered T
  obtain ⟨f_first_mark, fd_first_mark, F_first_mark, b_first_mark, m_first_mark⟩ := T.d_first_mark
  have G_first_mark := ok_first_mark (P := P) (w := w) (base := base) F_first_mark T
  obtain ⟨f_mark_by, fd_mark_by, F_mark_by, b_mark_by, m_mark_by⟩ := T.d_mark_by
  have G_mark_by := ok_mark_by (P := P) (w := w) (base := base) F_mark_by T
  refine F.ok sc_kinds (fun vs H Q E h => ?_) (fun cdv A outer s H vs Q E hr h => ?_)
  · obtain ⟨r, hs, bs, rfl, _⟩ := h
    rfl
  obtain ⟨r, hs, bs, rfl, hR, gd, lh, ends, lb, q⟩ := h
  obtain ⟨ha, ba, hv, bv, er, eh, eb, alh, alb⟩ := hR.ex
  have lhv := alh.length
  refine ⟨_, (pss_cons (ps_set (i := 1) sc_kinds.nd rfl (Or.inl rfl) (pe_call G_numbered (hr.mono (by decide)) (by rfl) m_numbered F_numbered.kp b_numbered .nil pass0 (pa_cons (pe_lc (own := [("hand", 2), ("rule", 3), ("moments", 4)]) (g := gTup K 2 (gCons (gName 2) (gCons (gTup K 2 (gCons (gName 3) (gCons (gName 4) gNil))) gNil))) (tt := tYes) (by rfl) sc_kinds.nd (pi_enumT K rfl (by rfl) T.m_enumerate (pa_cons (pe_ix (ix_tupK K rfl) (pv 0) pe_int (fun _ _ => rfl)) pa_nil)) (blkOk_by (own := [("hand", 2), ("rule", 3), ("moments", 4)]) (N := N_kinds) (sc := defScope s_kinds) (by decide +kernel)) (fun _ _ _ _ _ => (pg_tupK K rfl rfl (pgs_cons (pg_name (i := 2) sc_kinds.nd rfl (Or.inl rfl)) (pgs_cons (pg_tupK K rfl rfl (pgs_cons (pg_name (i := 3) sc_kinds.nd rfl (Or.inl rfl)) (pgs_cons (pg_name (i := 4) sc_kinds.nd rfl (Or.inl rfl)) pgs_nil))) pgs_nil)))) (fun _ _ _ _ _ => pts_nil) (fun _ _ _ _ _ => (pe_call G_first_mark (hr.mono (by decide)) (by rfl) m_first_mark F_first_mark.kp b_first_mark .nil pass0 (pa_cons (pv 3) (pa_cons (pv 2) pa_nil))))) pa_nil)))
      (pss_cons (ps_set (i := 5) sc_kinds.nd rfl (Or.inr rfl) pe_non)
      (pss_cons (ps_while PassesOwn.never (pt_cmpR (op_neDK K rfl hr.units) (pv 1) (pv 5) (nomark _))
        (pss_cons (ps_set (i := 5) sc_kinds.nd rfl (Or.inr rfl) (pv 1))
      (pss_one (ps_set (i := 1) sc_kinds.nd rfl (Or.inl rfl) (pe_call G_numbered (hr.mono (by decide)) (by rfl) m_numbered F_numbered.kp b_numbered .nil pass0 (pa_cons (pe_lc (own := [("hand", 2)]) (g := gName 2) (tt := tYes) (by rfl) sc_kinds.nd (pi_range1 (by rfl) T.m_range (pa_cons (pe_callB (call_len_seqK K rfl) (by rfl) T.m_len (by decide +kernel) (pa_cons (pv 5) pa_nil)) pa_nil)) (blkOk_by (own := [("hand", 2)]) (N := N_kinds) (sc := defScope s_kinds) (by decide +kernel)) (fun _ _ _ _ _ => (pg_name (i := 2) sc_kinds.nd rfl (Or.inl rfl))) (fun _ _ _ _ _ => pts_nil) (fun _ _ _ _ _ => (pe_call G_mark_by (hr.mono (by decide)) (by rfl) m_mark_by F_mark_by.kp b_mark_by .nil pass0 (pa_cons (pv 0) (pa_cons (pv 5) (pa_cons (pv 2) pa_nil)))))) pa_nil))))))
      (pss_one (ps_ret (pv 1)))))), ?_⟩
  refine ⟨_, rfl, r, _, _, _, rfl, rfl, SqT.of er, atI_nat (j := 0) rfl, ha, hv, rfl, SqT.of eh, fun D nD => lc_it (J := IteT K ha hv) (n := hv.length) (fun i H5 => ∃ mv : List V, H5 D = some (.lst mv) ∧ All2 (MarkAt H5) mv ((List.range i).map (m1 hs)) ∧ Same H H5) ⟨[], upd_same, .nil, same_new nD⟩ ?_ ?_ ?_ ?_⟩
  · rintro i H5 hi ⟨mv, hD, al, s5⟩
    exact ⟨SqT.of (s5 _ _ eh), hi⟩
  · rintro H5 ⟨mv, hD, al, s5⟩
    exact ⟨SqT.of (s5 _ _ eh), rfl⟩
  · rintro i x H5 H6 hi ⟨mv, hD, al, s5⟩ ⟨t, y, rfl, nt, rfl, ey⟩
    obtain ⟨h, eh2, t2, rr, rfl, e1, e2⟩ := alh.getL ey
    have s6 := s5.trans (same_new (o := .tup [V.int ((i : Nat) : Int), V.ref t2]) nt)
    have hD6 := same_new (o := .tup [V.int ((i : Nat) : Int), V.ref t2]) nt _ _ hD
    have lm := al.length
    rw [List.length_map, List.length_range] at lm
    refine ⟨t, _, rfl, SqT.of upd_same, rfl, _, _, rfl, _, _, rfl, t2, _, rfl, SqT.of (s6 _ _ e1), rfl, _, _, rfl, _, _, rfl, rfl, rfl, rfl, yes_in ?_⟩
    refine ⟨_, rfl, _, rfl, rr, h, i, rfl, s6 _ _ e2, gd h (List.mem_of_getElem? eh2), fun p H7 kv s7 => ⟨_, s7 _ _ hD6, small1000 (by omega), mv ++ [.ref p], upd_same, ?_, Same.own (fun a o e => s7 _ _ (s6 _ _ e)) nD⟩⟩
    have k7 := (TK.new (o := .tup [V.int ((i : Nat) : Int), V.ref t2]) nt).trans ((TK.same s7).trans (TK.lst (ys := mv ++ [V.ref p]) (s7 _ _ hD6)))
    rw [List.range_succ, List.map_append]
    refine (al.imp fun _ _ z => z.keep k7).snoc ⟨p, rfl, ?_, ?_⟩
    · show NkV _ (m1 hs i) _
      unfold m1
      rw [eh2]
      exact kv.keep (TK.lst (s7 _ _ hD6))
    · show (m1 hs i).depth ≤ 8
      unfold m1
      rw [eh2]
      exact mark1_depth i h
  rintro H5 ⟨mv, hD, al, s5⟩
  rw [lhv] at al
  refine ⟨D, mv, _, rfl, hD, al, by rw [List.length_map, List.length_range]; omega, fun p l H6 no np hp s6 => ?_⟩
  have s16 := s5.trans s6
  have st := stage0 (bs := bs) no
  have pn : H p = none := same_none s5 np
  have ln : l.length = hs.length := st.len
  let W : Nat → L2.St → Hp → Prop := fun m σ H' => ∃ (p : Addr) (l : List Nat) (bv : V), σ = [some (.ref r), some (.ref p), none, none, none, some bv] ∧ H p = none ∧ H' p = some (.tup (l.map nV)) ∧ Same H H' ∧ Stage hs bs l ∧
    ((bv = .non ∧ m = 2 * cnt2 hs.length l + 1) ∨ ∃ (b : Addr) (t : List Nat), bv = .ref b ∧ H' b = some (.tup (t.map nV)) ∧ Stage hs bs t ∧ NumOf ((List.range t.length).map (mark2 t bs)) l ∧ m = 2 * cnt2 hs.length l + if l = t then 0 else 1)
  refine ⟨W, ⟨_, p, l, .non, rfl, pn, hp, s16, st, .inl ⟨rfl, rfl⟩⟩, ?_⟩
  clear np hp s6 no st pn s16 ln hD al s5
  rintro m σ H1 ⟨p, l, bv, rfl, pn, hp, s1, st, hb⟩
  have hb2 : ∃ e, Dp K H1 bv e ∧ SeqAt.shaped e = true ∧ ((PyData.eqv (.tuple (l.map fun n => PyData.int ((n : Nat) : Int))) e = true ∧ KindsOf hs bs l) ∨ (PyData.eqv (.tuple (l.map fun n => PyData.int ((n : Nat) : Int))) e = false ∧ 2 * cnt2 hs.length l + 1 ≤ m)) := by
    rcases hb with ⟨rfl, rfl⟩ | ⟨b, t, rfl, hbt, stt, no, rfl⟩
    · exact ⟨.none, .non, rfl, .inr ⟨rfl, Nat.le_refl _⟩⟩
    · refine ⟨.tuple (t.map fun n => PyData.int ((n : Nat) : Int)), .tup (SqT.of hbt) (dp_nats t), nats_shaped t, ?_⟩
      have ev : PyData.eqv (.tuple (l.map fun n => PyData.int ((n : Nat) : Int))) (.tuple (t.map fun n => PyData.int ((n : Nat) : Int))) = decide (l = t) := kinds_eqv l t
      rw [ev]
      by_cases h : l = t
      · subst h
        exact .inl ⟨decide_eq_true rfl, stt.done no⟩
      · exact .inr ⟨decide_eq_false h, by rw [if_neg h]; exact Nat.le_refl _⟩
  obtain ⟨e, d1, d2, alt⟩ := hb2
  refine ⟨_, rfl, _, rfl, _, e, .tup (SqT.of hp) (dp_nats l), d1, nats_shaped l, d2, _, rfl, ?_⟩
  rcases alt with ⟨z, kd⟩ | ⟨z, hm⟩ <;> rw [z]
  · exact if_bl (fun z => nomatch z) (fun _ => ⟨_, rfl, q p l H1 kd pn hp s1⟩)
  · refine if_bl (fun _ => ⟨fun σ' H' => ∃ m', m' < m ∧ W m' σ' H', fun _ _ z => z, ?_⟩) (fun z => nomatch z)
    have ll : (l.map nV).length = l.length := List.length_map ..
    have lh2 := st.len
    refine ⟨_, rfl, _, rfl, p, _, rfl, .inr (SqT.of hp), _, rfl, by omega, by omega, fun D nD => lc_range (lo := 0) (n := (l.map nV).length) (fun i H5 => ∃ mv : List V, H5 D = some (.lst mv) ∧ All2 (MarkAt H5) mv ((List.range i).map (mark2 l bs)) ∧ Same H1 H5) ⟨[], upd_same, .nil, same_new nD⟩ ?_ ?_⟩
    · rintro i H5 hi ⟨mv, hD, al, s5⟩
      have lm := al.length
      rw [List.length_map, List.length_range] at lm
      have s15 : Same H H5 := fun a o e => s5 _ _ (s1 _ _ e)
      refine ⟨rfl, yes_in ⟨_, rfl, _, rfl, _, rfl, r, p, hs, bs, l, i, congrArg (fun z => [V.ref r, V.ref p, V.int z]) (Int.zero_add _), hR.keep (TK.same s15), fun b hb => by rw [lh2]; exact ends b hb, lb, s5 _ _ hp, by omega, fun p2 H6 kv s6 => ?_⟩⟩
      refine ⟨_, s6 _ _ hD, small1000 (by omega), mv ++ [.ref p2], upd_same, ?_, Same.own (fun a o e => s6 _ _ (s5 _ _ e)) nD⟩
      have k7 := (TK.same s6).trans (TK.lst (ys := mv ++ [V.ref p2]) (s6 _ _ hD))
      rw [List.range_succ, List.map_append]
      exact (al.imp fun _ _ z => z.keep k7).snoc ⟨p2, rfl, kv.keep (TK.lst (s6 _ _ hD)), mark2_depth l bs i⟩
    · rintro H5 ⟨mv, hD, al, s5⟩
      rw [ll] at al
      refine ⟨D, mv, _, rfl, hD, al, by rw [List.length_map, List.length_range]; omega, fun p2 l2 H6 no np hp2 s6 => ?_⟩
      have s56 : Same H1 H6 := fun a o e => s6 _ _ (s5 _ _ e)
      refine ⟨_, ?_, p2, l2, .ref p, rfl, same_none s1 (same_none s5 np), hp2, fun a o e => s56 _ _ (s1 _ _ e), st.next ends no, .inr ⟨p, l, rfl, s56 _ _ hp, st, no, rfl⟩⟩
      by_cases h : l2 = l
      · rw [if_pos h, h]; omega
      · rw [if_neg h]
        have := st.less no h
        omega
end
theorem idx_at {l : List Nat} (nd : l.Nodup) {j k : Nat} (h : l[j]? = some k) : l.idxOf k = j := by
  have jl := (List.getElem?_eq_some_iff.mp h).1
  have m := List.mem_of_getElem? h
  have il := List.idxOf_lt_length_of_mem m
  exact (List.getElem_inj nd (h₀ := il) (h₁ := jl)).mp ((List.getElem_idxOf il).trans (List.getElem?_eq_some_iff.mp h).2.symm)
section
variable {P : Program} {w : World} {K : PySem.W.Frag} {mg : Str → Option Value} {base : Heap}
def sp_law_any_room (K : PySem.W.Frag) : Sp := fun vs H Q _ => ∃ f c : Addr, vs = [.ref f] ∧ Flow H f c ∧ ∀ (r : Addr) (hs : List HR) (bs : List BR) (H' : Hp), RoomAt H' r hs bs → RoomOk hs bs → Flow H' f c → But f H H' → Q (.ref r) H'
theorem bare_ok {hs : List HR} (l : hs.length ≤ 12) (g : ∀ h ∈ hs, GoodHand h ∧ (h.wd = "in" ∨ h.wd = "always")) : RoomOk hs [] := by
  refine ⟨l, fun h hh => (g h hh).1, (fun _ z => nomatch z), (fun _ z => nomatch z), (fun _ z => nomatch z), ⟨fun _ => 0, (fun _ z => nomatch z)⟩, fun k h e => ?_, by decide⟩
  have := (g h (List.mem_of_getElem? e)).2
  show ((0 : Nat) : Int) = needs h.wd
  rcases this with z | z <;> rw [z] <;> decide +kernel
theorem ok_law_any_room {f : Addr} {fd : FuncData} (F : Fun K "_law_any_room" "_law_any_room" s_law_any_room f fd) (T : Top w K mg) : FnOk P w K mg base CX0 6 f fd ["_law_flow_here"] (sp_law_any_room K) := by
  obtain ⟨f_law_pick, fd_law_pick, F_law_pick, b_law_pick, m_law_pick⟩ := T.d_law_pick
  have G_law_pick := ok_law_pick (P := P) (w := w) (base := base) F_law_pick T
  obtain ⟨f_law_room, fd_law_room, F_law_room, b_law_room, m_law_room⟩ := T.d_law_room
  have G_law_room := ok_law_room (P := P) (w := w) (base := base) F_law_room T
  obtain ⟨f_law_thing, fd_law_thing, F_law_thing, b_law_thing, m_law_thing⟩ := T.d_law_thing
  have G_law_thing := ok_law_thing (P := P) (w := w) (base := base) F_law_thing T
  refine F.ok sc_law_any_room (fun vs H Q E h => ?_) (fun cdv A outer s H vs Q E hr h => ?_)
  · obtain ⟨f, c, rfl, _⟩ := h
    rfl
  obtain ⟨f, c, rfl, hF, q⟩ := h
  refine ⟨_, (pss_cons (ps_set (i := 1) sc_law_any_room.nd rfl (Or.inl rfl) (pe_call G_law_pick (hr.mono (by decide)) (by rfl) m_law_pick F_law_pick.kp b_law_pick .nil pass0 (pa_cons (pv 0) (pa_cons pe_int pa_nil))))
      (pss_cons (ps_if (pt_cmpR op_eq (pv 1) pe_int (nomark _)) (pss_one (ps_ret (pe_tup (pa_cons (pe_tup pa_nil) (pa_cons (pe_tup pa_nil) pa_nil))))) pss_nil)
      (pss_cons (ps_if (pt_cmpR op_eq (pv 1) pe_int (nomark _)) (pss_cons (ps_set (i := 2) sc_law_any_room.nd rfl (Or.inl rfl) (pe_lst pa_nil))
      (pss_cons (ps_for PassesOwn.never rfl (pi_range1 (by rfl) T.m_range (pa_cons (pe_op op_add pe_int (pe_call G_law_pick (hr.mono (by decide)) (by rfl) m_law_pick F_law_pick.kp b_law_pick .nil pass0 (pa_cons (pv 0) (pa_cons pe_int pa_nil)))) pa_nil)) (pg_name (i := 3) sc_law_any_room.nd rfl (Or.inl rfl))
        (pss_one (ps_expr (pe_bmK K rfl PySem.F.plainAttrs_list PySem.F.slot_list_append PySem.F.type_list_append mt_append (pv 2) (pa_cons (pe_ix (ix_listK K rfl) (pe_lst (pa_cons (pe_tup (pa_cons (pe_tup (pa_cons pe_str pa_nil)) (pa_cons pe_int pa_nil))) (pa_cons (pe_tup (pa_cons (pe_tup (pa_cons pe_str (pa_cons (pe_call G_law_thing (hr.mono (by decide)) (by rfl) m_law_thing F_law_thing.kp b_law_thing .nil pass0 (pa_cons (pv 0) pa_nil)) pa_nil))) (pa_cons (pe_call G_law_pick (hr.mono (by decide)) (by rfl) m_law_pick F_law_pick.kp b_law_pick .nil pass0 (pa_cons (pv 0) (pa_cons pe_int pa_nil))) pa_nil))) pa_nil))) (pe_call G_law_pick (hr.mono (by decide)) (by rfl) m_law_pick F_law_pick.kp b_law_pick .nil pass0 (pa_cons (pv 0) (pa_cons pe_int pa_nil))) (fun _ _ => rfl)) pa_nil)))))
      (pss_one (ps_ret (pe_tup (pa_cons (pe_callTy (call_tuple_ofK K rfl) (by rfl) T.m_tuple (by decide +kernel) (pa_cons (pv 2) pa_nil)) (pa_cons (pe_tup pa_nil) pa_nil))))))) pss_nil)
      (pss_one (ps_ret (pe_call G_law_room (hr.mono (by decide)) (by rfl) m_law_room F_law_room.kp b_law_room .nil pass0 (pa_cons (pv 0) (pa_cons (pe_ix (ix_listK K rfl) (pe_lst (pa_cons pe_int (pa_cons pe_int (pa_cons pe_int pa_nil)))) (pe_call G_law_pick (hr.mono (by decide)) (by rfl) m_law_pick F_law_pick.kp b_law_pick .nil pass0 (pa_cons (pv 0) (pa_cons pe_int pa_nil))) (fun _ _ => rfl)) pa_nil)))))))), ?_⟩
  refine ⟨_, rfl, f, c, 16, rfl, by decide, by decide +kernel, hF, fun v H1 v0 v1 F1 B1 => ?_⟩
  refine ⟨_, rfl, rfl, _, rfl, if_bl (fun _ => ?_) (fun _ => ?_)⟩
  · refine ⟨(by show 0 ≤ sizeLine; decide), fun t1 nt1 => ⟨(by show 0 ≤ sizeLine; decide), fun t2 nt2 => ⟨(by show 2 ≤ sizeLine; decide), fun t3 nt3 => ?_⟩⟩⟩
    exact q t3 [] [] _ ⟨t1, t2, [], [], upd_same, same_new nt3 _ _ (same_new nt2 _ _ upd_same), same_new nt3 _ _ upd_same, .nil, .nil⟩ (bare_ok (by decide) (fun _ z => nomatch z)) (((F1.new nt1).new nt2).new nt3) (((B1.new nt1).new nt2).new nt3)
  refine ⟨_, rfl, rfl, _, rfl, if_bl (fun _ => ?_) (fun _ => ?_)⟩
  · refine ⟨(by show 0 ≤ sizeLine; decide), fun hh nhh => ?_⟩
    have hf : hh ≠ f := F1.ne nhh
    have hc : hh ≠ c := F1.nec nhh
    have nh0 : H hh = none := B1.none nhh hf
    refine ⟨_, rfl, f, c, 4, rfl, by decide, by decide +kernel, F1.new nhh, fun n H2 n0 n4 F2 B2 => ?_⟩
    refine ⟨_, _, rfl, rfl, _, rfl, by omega, by omega, for_range (lo := 0) (n := (1 + n).toNat) (fun i σ H3 => ∃ (vs : List V) (hs : List HR) (v3 : Option V), σ = [some (.ref f), some (.int v), some (.ref hh), v3] ∧ H3 hh = some (.lst vs) ∧ All2 (HandAt H3) vs hs ∧ hs.length = i ∧ (∀ h ∈ hs, GoodHand h ∧ (h.wd = "in" ∨ h.wd = "always")) ∧ Flow H3 f c ∧ But f H H3)
      ⟨[], [], none, rfl, B2 _ _ upd_same hf, .nil, rfl, (fun _ z => nomatch z), F2, (B1.new nhh).trans B2⟩ ?_ ?_⟩
    · rintro i σ H3 hi ⟨vs, hs, v3, rfl, hhh, al, li, good, F3, B3⟩
      refine ⟨_, rfl, .inl ⟨rfl, _, SqL.of hhh⟩, (by show 1 ≤ sizeLine; decide), fun a1 na1 => ⟨(by show 2 ≤ sizeLine; decide), fun a2 na2 => ?_⟩⟩
      have F5 := (F3.new (o := .tup [V.str "in"]) na1).new (o := .tup [V.ref a1, V.int 0]) na2
      have B5 := (B3.new (o := .tup [V.str "in"]) na1).new (o := .tup [V.ref a1, V.int 0]) na2
      have k5 : TK H3 _ := (TK.new (o := .tup [V.str "in"]) na1).trans (TK.new (o := .tup [V.ref a1, V.int 0]) na2)
      have h5 := same_new (o := .tup [V.ref a1, V.int 0]) na2 _ _ (same_new (o := .tup [V.str "in"]) na1 _ _ hhh)
      refine ⟨_, rfl, f, c, rfl, F5, fun n1 H6 s6 F6 B6 => ⟨(by show 2 ≤ sizeLine; decide), fun a3 na3 => ?_⟩⟩
      have F7 := F6.new (o := .tup [V.str "always", V.int n1]) na3
      refine ⟨_, rfl, f, c, 31, rfl, by decide, by decide +kernel, F7, fun n2 H8 m0 m31 F8 B8 => ⟨(by show 2 ≤ sizeLine; decide), fun a4 na4 => ⟨(by show 2 ≤ sizeLine; decide), fun l nl => ?_⟩⟩⟩
      have F9 := (F8.new (o := .tup [V.ref a3, V.int n2]) na4).new (o := .lst [V.ref a2, V.ref a4]) nl
      refine ⟨_, rfl, f, c, 2, rfl, by decide, by decide +kernel, F9, fun z H10 z0 z2 F10 B10 => ?_⟩
      have hl := B10 _ _ upd_same ((F8.new (o := .tup [V.ref a3, V.int n2]) na4).ne nl)
      have k8 : TK H6 _ := (TK.new (o := .tup [V.str "always", V.int n1]) na3).trans (TK.but F7 B8)
      have k10 : TK H8 H10 := ((TK.new (o := .tup [V.ref a3, V.int n2]) na4).trans (TK.new (o := .lst [V.ref a2, V.ref a4]) nl)).trans (TK.but F9 B10)
      have ka : TK _ H10 := (TK.but F5 B6).trans (k8.trans k10)
      have x0 : HandAt H10 (V.ref a2) ⟨"in", none, 0⟩ := ⟨a2, a1, rfl, ka _ _ upd_same, ka _ _ (same_new na2 _ _ upd_same)⟩
      have x1 : HandAt H10 (V.ref a4) ⟨"always", some n1, n2⟩ := ⟨a4, a3, rfl, TK.but F9 B10 _ _ (same_new nl _ _ upd_same), k10 _ _ (TK.but F7 B8 _ _ upd_same)⟩
      have g0 : GoodHand ⟨"in", none, 0⟩ := ⟨.inr ⟨.inl rfl, rfl, rfl⟩, (show (0 : Int) ≤ 0 by decide), (show (0 : Int) ≤ 30 by decide)⟩
      have g1 : GoodHand ⟨"always", some n1, n2⟩ := ⟨.inl ⟨(show ("always" : Str) ∈ nine by decide +kernel), ⟨fun _ => .inr rfl, fun _ => rfl⟩, fun n e => by cases e; exact s6⟩, m0, (show n2 ≤ 30 by omega)⟩
      obtain ⟨x, y, hx, hy, gy, wy⟩ : ∃ (x : V) (y : HR), atI [V.ref a2, V.ref a4] z = some x ∧ HandAt H10 x y ∧ GoodHand y ∧ (y.wd = "in" ∨ y.wd = "always") := by
        have : z = 0 ∨ z = 1 := by omega
        rcases this with rfl | rfl
        · exact ⟨_, _, rfl, x0, g0, .inl rfl⟩
        · exact ⟨_, _, rfl, x1, g1, .inr rfl⟩
      have Ball := (((((B5.trans B6).new na3).trans B8).new na4).new nl).trans B10
      have hh10 := B10 _ _ (same_new nl _ _ (same_new na4 _ _ (B8 _ _ (same_new na3 _ _ (B6 _ _ h5 hf)) hf))) hf
      refine ⟨l, _, _, _, rfl, rfl, SqL.of hl, hx, hh, _, _, rfl, rfl, hh10, by rw [al.length, li]; exact small1000 (by omega), ?_⟩
      refine ⟨vs ++ [x], hs ++ [y], _, rfl, upd_same, ?_, by rw [List.length_append, li]; rfl, fun h hm => ?_, F10.lst hf hc, Ball.own nh0⟩
      · exact ((al.imp fun _ _ z => z.keep (k5.trans ka)).snoc hy).imp fun _ _ z => z.keep (TK.lst hh10)
      · rcases List.mem_append.mp hm with hm | hm
        · exact good h hm
        · obtain rfl : h = y := by simpa using hm
          exact ⟨gy, wy⟩
    · rintro σ H3 ⟨vs, hs, v3, rfl, hhh, al, li, good, F3, B3⟩
      refine ⟨_, rfl, hh, _, rfl, .inl ⟨SqL.of hhh, fun a1 na1 => ⟨(by show 0 ≤ sizeLine; decide), fun a2 na2 => ⟨(by show 2 ≤ sizeLine; decide), fun a3 na3 => ?_⟩⟩⟩⟩
      have k1 : TK H3 (upd (upd (upd H3 a1 (.tup vs)) a2 (.tup [])) a3 (.tup [V.ref a1, V.ref a2])) := ((TK.new na1).trans (TK.new na2)).trans (TK.new na3)
      exact q a3 hs [] _ ⟨a1, a2, vs, [], upd_same, same_new na3 _ _ (same_new na2 _ _ upd_same), same_new na3 _ _ upd_same, al.imp fun _ _ z => z.keep k1, .nil⟩ (bare_ok (by omega) good) (((F3.new na1).new na2).new na3) (((B3.new na1).new na2).new na3)
  refine ⟨_, rfl, (by show 3 ≤ sizeLine; decide), fun l nl => ⟨_, rfl, f, c, 3, rfl, by decide, by decide +kernel, F1.new nl, fun z H2 z0 z3 F2 B2 => ?_⟩⟩
  obtain ⟨mm, hmm, m1, m8⟩ : ∃ mm : Int, atI [V.int 3, V.int 5, V.int 8] z = some (.int mm) ∧ 1 ≤ mm ∧ mm ≤ 8 := by
    have : z = 0 ∨ z = 1 ∨ z = 2 := by omega
    rcases this with rfl | rfl | rfl
    · exact ⟨3, rfl, by decide, by decide⟩
    · exact ⟨5, rfl, by decide, by decide⟩
    · exact ⟨8, rfl, by decide, by decide⟩
  exact ⟨l, _, _, _, rfl, rfl, SqL.of (B2 _ _ upd_same (F1.ne nl)), hmm, f, c, mm, rfl, m1, m8, F2, fun r hs bs H3 hR ok _ F3 B3 => q r hs bs H3 hR ok F3 (((B1.new nl).trans B2).trans B3)⟩
end
/-! ### standing on, going on -/
theorem mt_indexK {X : Cx} (K : PySem.W.Frag) (h : X.K = K) : MtR X "list.index" (rIndex K) := by subst h; exact mt_index
/-! ### a room turned: its hands in another order -/
def ren (ord : List Nat) (b : BR) : BR := ⟨ord.idxOf b.one, ord.idxOf b.to, b.th⟩
structure Turned (hs : List HR) (bs : List BR) (ord : List Nat) (hs' : List HR) (bs' : List BR) : Prop where
  perm : ord.Perm (List.range hs.length)
  hlen : hs'.length = ord.length
  hand : ∀ j k : Nat, ord[j]? = some k → hs'[j]? = hs[k]?
  len : bs'.length = bs.length
  of : ∀ b' ∈ bs', ∃ b ∈ bs, b' = ren ord b
  at_ : ∀ k, k < hs.length → bs'.filter (fun b => decide (b.to = ord.idxOf k)) = (bs.filter fun b => decide (b.to = k)).map (ren ord)
theorem rest_pop {p : BR → Bool} {x : BR} {t : List BR} : ∀ {rest : List BR}, rest.filter p = x :: t → ∃ rest' : List BR, rest'.length + 1 = rest.length ∧ rest'.filter p = t ∧ (∀ q : BR → Bool, q x = false → rest'.filter q = rest.filter q) ∧ (∀ b ∈ rest', b ∈ rest)
  | [], h => nomatch h
  | a :: l, h => by
    cases e : p a with
    | true =>
      rw [List.filter_cons_of_pos e] at h
      injection h with h1 h2
      refine ⟨l, rfl, h2, fun q hq => ?_, fun b hb => List.mem_cons_of_mem _ hb⟩
      rw [List.filter_cons_of_neg (by rw [h1, hq]; exact Bool.false_ne_true)]
    | false =>
      rw [List.filter_cons_of_neg (by rw [e]; exact Bool.false_ne_true)] at h
      obtain ⟨r, h1, h2, h3, h4⟩ := rest_pop h
      refine ⟨a :: r, congrArg (· + 1) h1, ?_, fun q hq => ?_, fun b hb => ?_⟩
      · rw [List.filter_cons_of_neg (by rw [e]; exact Bool.false_ne_true), h2]
      · rw [List.filter_cons, List.filter_cons, h3 q hq]
      · rcases List.mem_cons.mp hb with z | z
        · rw [z]; exact List.mem_cons_self ..
        · exact List.mem_cons_of_mem _ (h4 b z)
structure Mid (n : Nat) (bs : List BR) (ord : List Nat) (found rest : List BR) : Prop where
  len : found.length + rest.length = bs.length
  of : ∀ b' ∈ found, ∃ b ∈ bs, b' = ren ord b
  sub : ∀ b ∈ rest, b ∈ bs
  at_ : ∀ k, k < n → found.filter (fun b => decide (b.to = ord.idxOf k)) ++ (rest.filter fun b => decide (b.to = k)).map (ren ord) = (bs.filter fun b => decide (b.to = k)).map (ren ord)
theorem Mid.zero {n : Nat} {bs : List BR} {ord : List Nat} : Mid n bs ord [] bs := ⟨Nat.zero_add _, (fun _ z => nomatch z), (fun _ z => z), fun _ _ => rfl⟩
theorem idx_inj {l : List Nat} {a b : Nat} (ha : a ∈ l) (h : l.idxOf a = l.idxOf b) (hb : b ∈ l) : a = b := by
  have i1 := List.idxOf_lt_length_of_mem ha
  have i2 := List.idxOf_lt_length_of_mem hb
  have e1 := List.getElem_idxOf i1
  have e2 := List.getElem_idxOf i2
  rw [← e1, ← e2]
  simp only [h]
theorem Mid.step {n : Nat} {bs : List BR} {ord : List Nat} {found rest t : List BR} {x : BR} {k0 : Nat} (h : Mid n bs ord found rest) (pm : ∀ k, k < n → k ∈ ord) (k0n : k0 < n) (e : rest.filter (fun b => decide (b.to = k0)) = x :: t) :
    ∃ rest' : List BR, Mid n bs ord (found ++ [ren ord x]) rest' ∧ rest'.length + 1 = rest.length ∧ rest'.filter (fun b => decide (b.to = k0)) = t ∧ ∀ k, k ≠ k0 → rest'.filter (fun b => decide (b.to = k)) = rest.filter fun b => decide (b.to = k) := by
  have hx : x ∈ rest.filter (fun b => decide (b.to = k0)) := by rw [e]; exact List.mem_cons_self ..
  have xr := (List.mem_filter.mp hx).1
  have xt : x.to = k0 := of_decide_eq_true (List.mem_filter.mp hx).2
  obtain ⟨r, h1, h2, h3, h4⟩ := rest_pop e
  have h3' : ∀ k, k ≠ k0 → r.filter (fun b => decide (b.to = k)) = rest.filter fun b => decide (b.to = k) := fun k hk => h3 _ (decide_eq_false fun z => hk (z.symm.trans xt))
  refine ⟨r, ⟨?_, fun b hb => ?_, fun b hb => h.sub b (h4 b hb), fun k hk => ?_⟩, h1, h2, h3'⟩
  · have := h.len
    rw [List.length_append]
    show found.length + 1 + r.length = _
    omega
  · rcases List.mem_append.mp hb with z | z
    · exact h.of b z
    · rw [List.mem_singleton.mp z]; exact ⟨x, h.sub x xr, rfl⟩
  · rw [List.filter_append]
    have q := h.at_ k hk
    by_cases ek : k = k0
    · subst ek
      rw [e, List.map_cons] at q
      rw [h2, List.filter_cons_of_pos (by rw [show (ren ord x).to = ord.idxOf x.to from rfl, xt]; exact decide_eq_true rfl), List.filter_nil, List.append_assoc]
      exact q
    · rw [h3' k ek, List.filter_cons_of_neg, List.filter_nil, List.append_nil]
      · exact q
      · rw [decide_eq_true_eq, show (ren ord x).to = ord.idxOf x.to from rfl, xt]
        exact fun z => ek (idx_inj (pm k0 k0n) z (pm k hk)).symm
theorem Mid.some {n : Nat} {bs : List BR} {ord : List Nat} {found rest : List BR} (h : Mid n bs ord found rest) (ends : ∀ b ∈ bs, b.to < n) (l : found.length < bs.length) : ∃ k, k < n ∧ rest.filter (fun b => decide (b.to = k)) ≠ [] := by
  have hl := h.len
  cases er : rest with
  | nil => rw [er] at hl; simp at hl; omega
  | cons b r =>
    have hb : b ∈ rest := by rw [er]; exact List.mem_cons_self ..
    refine ⟨b.to, ends b (h.sub b hb), fun z => ?_⟩
    have y : b ∈ (b :: r).filter (fun a => decide (a.to = b.to)) := List.mem_filter.mpr ⟨List.mem_cons_self .., decide_eq_true rfl⟩
    rw [z] at y
    cases y
/-! #### what a turned room keeps -/
theorem Turned.mem {hs : List HR} {bs : List BR} {ord : List Nat} {hs' : List HR} {bs' : List BR} (t : Turned hs bs ord hs' bs') {k : Nat} : k ∈ ord ↔ k < hs.length := by
  rw [t.perm.mem_iff, List.mem_range]
theorem Turned.nd {hs : List HR} {bs : List BR} {ord : List Nat} {hs' : List HR} {bs' : List BR} (t : Turned hs bs ord hs' bs') : ord.Nodup := t.perm.nodup_iff.mpr List.nodup_range
theorem Turned.olen {hs : List HR} {bs : List BR} {ord : List Nat} {hs' : List HR} {bs' : List BR} (t : Turned hs bs ord hs' bs') : ord.length = hs.length := by
  rw [t.perm.length_eq, List.length_range]
theorem Turned.back {hs : List HR} {bs : List BR} {ord : List Nat} {hs' : List HR} {bs' : List BR} (t : Turned hs bs ord hs' bs') {k : Nat} (h : k < hs.length) : ord[ord.idxOf k]? = some k := by
  have il := List.idxOf_lt_length_of_mem (t.mem.mpr h)
  rw [List.getElem?_eq_getElem il, List.getElem_idxOf]
theorem Turned.lt {hs : List HR} {bs : List BR} {ord : List Nat} {hs' : List HR} {bs' : List BR} (t : Turned hs bs ord hs' bs') {k : Nat} (h : k < hs.length) : ord.idxOf k < hs'.length := by
  rw [t.hlen]; exact List.idxOf_lt_length_of_mem (t.mem.mpr h)
theorem Turned.pre {hs : List HR} {bs : List BR} {ord : List Nat} {hs' : List HR} {bs' : List BR} (t : Turned hs bs ord hs' bs') {j : Nat} {h : HR} (e : hs'[j]? = some h) : ∃ k, ord[j]? = some k ∧ hs[k]? = some h ∧ k < hs.length ∧ ord.idxOf k = j := by
  have jl := (List.getElem?_eq_some_iff.mp e).1
  have jo : j < ord.length := by rw [← t.hlen]; exact jl
  have ek : ord[j]? = some ord[j] := List.getElem?_eq_getElem jo
  exact ⟨_, ek, (t.hand _ _ ek).symm.trans e, t.mem.mp (List.mem_of_getElem? ek), idx_at t.nd ek⟩
theorem count_filter (bs : List BR) (k : Nat) : (bs.map BR.to).count k = (bs.filter fun b => decide (b.to = k)).length := by
  induction bs with
  | nil => rfl
  | cons b bs ih =>
    rw [List.map_cons, List.count_cons, List.filter_cons, ih]
    by_cases e : b.to = k
    · rw [if_pos (by simp [e]), if_pos (by simp [e])]; rfl
    · rw [if_neg (by simp [e]), if_neg (by simp [e])]; rfl
theorem Turned.ok {hs : List HR} {bs : List BR} {ord : List Nat} {hs' : List HR} {bs' : List BR} (t : Turned hs bs ord hs' bs') (ok : RoomOk hs bs) : RoomOk hs' bs' := by
  obtain ⟨rk, hrk⟩ := ok.rank
  have lh := ok.hands
  have lo := t.olen
  have hl := t.hlen
  refine ⟨by omega, fun h hh => ?_, fun b' hb => ?_, fun b' hb h e => ?_, fun b' hb => ?_, ⟨fun j => rk (ord.getD j 0), fun b' hb e => ?_⟩, fun j h e => ?_, by rw [t.len]; exact ok.many⟩
  · obtain ⟨j, ej⟩ := List.getElem?_of_mem hh
    obtain ⟨k, _, e2, _⟩ := t.pre ej
    exact ok.good h (List.mem_of_getElem? e2)
  · obtain ⟨b, hbm, rfl⟩ := t.of b' hb
    exact ⟨t.lt (ok.ends b hbm).1, t.lt (ok.ends b hbm).2⟩
  · obtain ⟨b, hbm, rfl⟩ := t.of b' hb
    obtain ⟨k, e1, e2, e3, e4⟩ := t.pre e
    have : ord[ord.idxOf b.one]? = some b.one := t.back (ok.ends b hbm).1
    rw [show (ren ord b).one = ord.idxOf b.one from rfl, this] at e1
    cases e1
    exact ok.out b hbm h e2
  · obtain ⟨b, hbm, rfl⟩ := t.of b' hb
    exact ok.th b hbm
  · obtain ⟨b, hbm, rfl⟩ := t.of b' hb
    show rk (ord.getD (ord.idxOf b.one) 0) < rk (ord.getD (ord.idxOf b.to) 0)
    rw [List.getD_eq_getElem?_getD, List.getD_eq_getElem?_getD, t.back (ok.ends b hbm).1, t.back (ok.ends b hbm).2]
    exact hrk b hbm e
  · obtain ⟨k, e1, e2, e3, e4⟩ := t.pre e
    have q := ok.count k h e2
    rw [count_filter] at q ⊢
    have z := t.at_ k e3
    rw [e4] at z
    rw [z, List.length_map]
    exact q
/-! ### the queues of a turned room -/
structure QsAt (H0 H : Hp) (od ql : Addr) (qa : Nat → Addr) (n : Nat) (rest : List BR) : Prop where
  hq : H ql = some (.lst ((List.range n).map fun k => V.ref (qa k)))
  at_ : ∀ k, k < n → ∃ vs : List V, H (qa k) = some (.lst vs) ∧ All2 (BeltAt H) vs (rest.filter fun b => decide (b.to = k))
  inj : ∀ k m, k < n → m < n → qa k = qa m → k = m
  old : ∀ k, k < n → H0 (qa k) = none
  nod : ∀ k, k < n → qa k ≠ od ∧ qa k ≠ ql
  ql0 : H0 ql = none ∧ ql ≠ od
theorem QsAt.get {H0 H : Hp} {od ql : Addr} {qa : Nat → Addr} {n : Nat} {rest : List BR} {k : Nat} (h : k < n) : ((List.range n).map fun k => V.ref (qa k))[k]? = some (V.ref (qa k)) := by
  rw [List.getElem?_map, List.getElem?_range h]; rfl
theorem QsAt.go {H0 H H' : Hp} {od ql : Addr} {qa : Nat → Addr} {n : Nat} {rest : List BR} (t : QsAt H0 H od ql qa n rest) (e1 : H' ql = H ql) (e2 : ∀ k, k < n → H' (qa k) = H (qa k)) (kk : TK H H') : QsAt H0 H' od ql qa n rest := by
  refine ⟨e1.trans t.hq, fun k hk => ?_, t.inj, t.old, t.nod, t.ql0⟩
  obtain ⟨vs, h1, h2⟩ := t.at_ k hk
  exact ⟨vs, (e2 k hk).trans h1, h2.imp fun _ _ z => z.keep kk⟩
theorem QsAt.same {H0 H H' : Hp} {od ql : Addr} {qa : Nat → Addr} {n : Nat} {rest : List BR} (t : QsAt H0 H od ql qa n rest) (s : Same H H') : QsAt H0 H' od ql qa n rest := by
  refine t.go ((s _ _ t.hq).trans t.hq.symm) (fun k hk => ?_) (TK.same s)
  obtain ⟨vs, h1, _⟩ := t.at_ k hk
  exact (s _ _ h1).trans h1.symm
theorem QsAt.more {H0 H H' : Hp} {od ql D2 : Addr} {qa : Nat → Addr} {j : Nat} {rest : List BR} {vs : List V} (t : QsAt H0 H od ql qa j rest) (n2 : H D2 = none) (s : Same H H') (h2 : H' D2 = some (.lst vs)) (al : All2 (BeltAt H') vs (rest.filter fun b => decide (b.to = j))) (z0 : H0 D2 = none) (nod : D2 ≠ od) :
    QsAt H0 (upd H' ql (.lst (((List.range j).map fun k => V.ref (qa k)) ++ [.ref D2]))) od ql (fun k => if k = j then D2 else qa k) (j + 1) rest := by
  have hq' := s _ _ t.hq
  have kk : TK H' (upd H' ql (.lst (((List.range j).map fun k => V.ref (qa k)) ++ [.ref D2]))) := TK.lst hq'
  have dq : D2 ≠ ql := (ne_of_none t.hq n2).symm
  have q2 : ∀ k, k < j → qa k ≠ D2 := fun k hk => by
    obtain ⟨vs, h1, _⟩ := t.at_ k hk
    exact ne_of_none h1 n2
  refine ⟨?_, fun k hk => ?_, fun k m hk hm e => ?_, fun k hk => ?_, fun k hk => ?_, t.ql0⟩
  · rw [upd_same, List.range_succ, List.map_append]
    refine congrArg (fun l => some (HO.lst l)) ?_
    refine congr (congrArg _ (List.map_congr_left fun k hk => ?_)) ?_
    · show V.ref (qa k) = V.ref (if k = j then D2 else qa k)
      rw [if_neg (by have := List.mem_range.mp hk; omega)]
    · show [V.ref D2] = [V.ref (if j = j then D2 else qa j)]
      rw [if_pos rfl]
  · by_cases e : k = j
    · refine ⟨vs, ?_, ?_⟩
      · show upd H' ql _ (if k = j then D2 else qa k) = _
        rw [if_pos e, upd_ne dq]; exact h2
      · rw [e]; exact al.imp fun _ _ z => z.keep kk
    · obtain ⟨us, h1, h3⟩ := t.at_ k (by omega)
      refine ⟨us, ?_, h3.imp fun _ _ z => z.keep ((TK.same s).trans kk)⟩
      show upd H' ql _ (if k = j then D2 else qa k) = _
      rw [if_neg e, upd_ne (t.nod k (by omega)).2]; exact s _ _ h1
  · by_cases e1 : k = j
    · by_cases e2 : m = j
      · omega
      · rw [if_pos e1, if_neg e2] at e
        exact absurd e.symm (q2 m (by omega))
    · by_cases e2 : m = j
      · rw [if_neg e1, if_pos e2] at e
        exact absurd e (q2 k (by omega))
      · rw [if_neg e1, if_neg e2] at e
        exact t.inj k m (by omega) (by omega) e
  · by_cases e : k = j
    · rw [if_pos e]; exact z0
    · rw [if_neg e]; exact t.old k (by omega)
  · by_cases e : k = j
    · rw [if_pos e]; exact ⟨nod, dq⟩
    · rw [if_neg e]; exact t.nod k (by omega)
theorem QsAt.pop {H0 H : Hp} {od ql : Addr} {qa : Nat → Addr} {n k0 : Nat} {rest rest' t' : List BR} {v : V} {vs : List V} {x : BR} (t : QsAt H0 H od ql qa n rest) (hk : k0 < n) (h : H (qa k0) = some (.lst (v :: vs))) (al : All2 (BeltAt H) (v :: vs) (x :: t'))
    (e1 : rest'.filter (fun b => decide (b.to = k0)) = t') (e2 : ∀ k, k ≠ k0 → rest'.filter (fun b => decide (b.to = k)) = rest.filter fun b => decide (b.to = k)) : QsAt H0 (upd H (qa k0) (.lst vs)) od ql qa n rest' := by
  have kk : TK H (upd H (qa k0) (.lst vs)) := TK.lst h
  refine ⟨by rw [upd_ne (t.nod k0 hk).2.symm]; exact t.hq, fun k hk' => ?_, t.inj, t.old, t.nod, t.ql0⟩
  by_cases e : k = k0
  · subst e
    cases al with
    | cons a b => exact ⟨vs, upd_same, by rw [e1]; exact b.imp fun _ _ z => z.keep kk⟩
  · obtain ⟨us, h1, h3⟩ := t.at_ k hk'
    exact ⟨us, by rw [upd_ne fun z => e (t.inj k k0 hk' hk z)]; exact h1, by rw [e2 k e]; exact h3.imp fun _ _ z => z.keep kk⟩
theorem index_nat {K : PySem.W.Frag} {H : Hp} {od : Addr} {ord : List Nat} {k : Nat} {Q : VK} (h : H od = some (.lst (ord.map nV))) (m : k ∈ ord) (q : Q (nV (ord.idxOf k)) H) : rIndex K (.ref od) [nV k] H Q := by
  have il := List.idxOf_lt_length_of_mem m
  refine ⟨od, _, nV k, ord.idxOf k, nV k, rfl, rfl, SqL.of h, rfl, ?_, ?_, ?_, fun i z hi hz => ?_, q⟩
  · rw [List.all_map]
    exact List.all_eq_true.mpr fun _ _ => rfl
  · rw [List.getElem?_map, List.getElem?_eq_getElem il, List.getElem_idxOf]; rfl
  · show (((k : Nat) : Int) == ((k : Nat) : Int)) = true
    exact beq_self_eq_true _
  · have il' : i < ord.length := by omega
    rw [List.getElem?_map, List.getElem?_eq_getElem il'] at hz
    obtain rfl : nV ord[i] = z := Option.some.inj hz
    show (((ord[i] : Nat) : Int) == ((k : Nat) : Int)) = false
    have ne : ord[i] ≠ k := by
      have := List.not_of_lt_findIdx (p := (· == k)) (xs := ord) (i := i) hi
      simpa using this
    exact beq_eq_false_iff_ne.mpr (by omega)
section
variable {P : Program} {w : World} {K : PySem.W.Frag} {mg : Str → Option Value} {base : Heap}
def sp_law_turned_room (K : PySem.W.Frag) : Sp := fun vs H Q _ => ∃ (f c r : Addr) (hs : List HR) (bs : List BR), vs = [.ref f, .ref r] ∧ Flow H f c ∧ RoomAt H r hs bs ∧ RoomOk hs bs ∧
  ∀ (t r' od : Addr) (ord : List Nat) (hs' : List HR) (bs' : List BR) (H' : Hp), H' t = some (.tup [.ref r', .ref od]) → RoomAt H' r' hs' bs' → H' od = some (.lst (ord.map nV)) → H od = none → Turned hs bs ord hs' bs' → Flow H' f c → But f H H' → Q (.ref t) H'
theorem ok_law_turned_room {f : Addr} {fd : FuncData} (F : Fun K "_law_turned_room" "_law_turned_room" s_law_turned_room f fd) (T : Top w K mg) : FnOk P w K mg base CX0 3 f fd ["_law_flow_here", "_law_room_here"] (sp_law_turned_room K) := by
  obtain ⟨f_law_shuffled, fd_law_shuffled, F_law_shuffled, b_law_shuffled, m_law_shuffled⟩ := T.d_law_shuffled
  have G_law_shuffled := ok_law_shuffled (P := P) (w := w) (base := base) F_law_shuffled T
  obtain ⟨f_law_pick, fd_law_pick, F_law_pick, b_law_pick, m_law_pick⟩ := T.d_law_pick
  have G_law_pick := ok_law_pick (P := P) (w := w) (base := base) F_law_pick T
  refine F.ok sc_law_turned_room (fun vs H Q E h => ?_) (fun cdv A outer s H vs Q E hr h => ?_)
  · obtain ⟨f, c, r, hs, bs, rfl, _⟩ := h
    rfl
  obtain ⟨f, c, r, hs, bs, rfl, hF, hR, ok, q⟩ := h
  obtain ⟨ha, ba, hv, bv, er, eh, eb, alh, alb⟩ := hR.ex
  have lhv := alh.length
  have lbv := alb.length
  have lh := ok.hands
  have lb := ok.many
  have hF' := hF
  obtain ⟨_, _, _, _, _, efl, efc, _⟩ := hF'
  let R1 : TS := fun D' σ' H' => D'.rt = Q ∧ ∃ (od : Addr) (ord : List Nat), σ' = [some (.ref f), some (.ref r), some (.ref ha), some (.ref ba), some (.ref od), none, none, none, none, none, none, none, none, none] ∧ H' od = some (.lst (ord.map nV)) ∧ ord.Perm (List.range hs.length) ∧ H od = none ∧ Flow H' f c ∧ But f H H'
  let R2 : TS := fun D' σ' H' => D'.rt = Q ∧ ∃ (od ql : Addr) (qa : Nat → Addr) (ord : List Nat), σ' = [some (.ref f), some (.ref r), some (.ref ha), some (.ref ba), some (.ref od), some (.ref ql), none, none, none, none, none, none, none, none] ∧ QsAt H H' od ql qa hs.length bs ∧ H' od = some (.lst (ord.map nV)) ∧ ord.Perm (List.range hs.length) ∧ H od = none ∧ Flow H' f c ∧ But f H H'
  let R3 : TS := fun D' σ' H' => D'.rt = Q ∧ ∃ (od fd : Addr) (ord : List Nat) (found : List BR) (fv : List V) (v5 v9 v10 v11 v12 v13 : Option V), σ' = [some (.ref f), some (.ref r), some (.ref ha), some (.ref ba), some (.ref od), v5, none, none, some (.ref fd), v9, v10, v11, v12, v13] ∧ H' fd = some (.lst fv) ∧ All2 (BeltAt H') fv found ∧ Mid hs.length bs ord found [] ∧ H' od = some (.lst (ord.map nV)) ∧ ord.Perm (List.range hs.length) ∧ H od = none ∧ Flow H' f c ∧ But f H H'
  refine ⟨_, (pss_cons (ps_asg (pv 1) (pg_tupK K rfl rfl (pgs_cons (pg_name (i := 2) sc_law_turned_room.nd rfl (Or.inr rfl)) (pgs_cons (pg_name (i := 3) sc_law_turned_room.nd rfl (Or.inr rfl)) pgs_nil))))
      (pss_cons (ps_set (i := 4) sc_law_turned_room.nd rfl (Or.inl rfl) (pe_call G_law_shuffled (hr.mono (by decide)) (by rfl) m_law_shuffled F_law_shuffled.kp b_law_shuffled .nil pass0 (pa_cons (pv 0) (pa_cons (pe_listRg rfl (by rfl) T.m_list (prg_1 (by rfl) T.m_range (pe_callB (call_len_seqK K rfl) (by rfl) T.m_len (by decide +kernel) (pa_cons (pv 2) pa_nil)))) pa_nil))))
      (PSs.to (pss_cons (ps_set (i := 5) sc_law_turned_room.nd rfl (Or.inr rfl) (pe_lc (own := [("_law_k", 7)]) (g := gName 7) (tt := tYes) (by rfl) sc_law_turned_room.nd (pi_range1 (by rfl) T.m_range (pa_cons (pe_callB (call_len_seqK K rfl) (by rfl) T.m_len (by decide +kernel) (pa_cons (pv 2) pa_nil)) pa_nil)) (blkOk_by (own := [("_law_k", 7)]) (N := N_law_turned_room) (sc := defScope s_law_turned_room) (by decide +kernel)) (fun _ _ _ _ _ => (pg_name (i := 7) sc_law_turned_room.nd rfl (Or.inr rfl))) (fun _ _ _ _ _ => pts_nil) (fun _ _ _ _ _ => (pe_lc (own := [("_law_belt", 6)]) (g := gName 6) (by rfl) sc_law_turned_room.nd (pi_tupK K rfl (pv 3)) (blkOk_by (own := [("_law_belt", 6)]) (N := N_law_turned_room) (sc := { kind := .function, names := [(".0", .local), ("_law_k", .cell), ("_law_belts", .cell)], isGenerator := false, isCoroutine := false }) (by decide +kernel)) (fun _ _ _ _ _ => (pg_name (i := 6) sc_law_turned_room.nd rfl (Or.inl rfl))) (fun _ _ _ _ _ => pts_one (pt_cmpR op_eq (pe_ix (ix_tupK K rfl) (pv 6) pe_int (fun _ _ => rfl)) (pv 7) (nomark _))) (fun _ _ _ _ _ => (pv 6))))))
      (PSs.to (pss_cons (ps_set (i := 8) sc_law_turned_room.nd rfl (Or.inl rfl) (pe_lst pa_nil))
      (pss_cons (ps_for PassesOwn.never rfl (pi_range1 (by rfl) T.m_range (pa_cons (pe_callB (call_len_seqK K rfl) (by rfl) T.m_len (by decide +kernel) (pa_cons (pv 3) pa_nil)) pa_nil)) (pg_name (i := 9) sc_law_turned_room.nd rfl (Or.inl rfl))
        (pss_cons (ps_setLc (i := 10) (own := [("_law_k", 7)]) (g := gName 7) (by rfl) sc_law_turned_room.nd rfl rfl (sw_true rfl rfl rfl (by decide +kernel)) (pi_range1 (by rfl) T.m_range (pa_cons (pe_callB (call_len_seqK K rfl) (by rfl) T.m_len (by decide +kernel) (pa_cons (pv 2) pa_nil)) pa_nil)) (blkOk_by (own := [("_law_k", 7)]) (N := N_law_turned_room) (sc := defScope s_law_turned_room) (by decide +kernel)) (fun _ _ _ _ _ => (pg_name (i := 7) sc_law_turned_room.nd rfl (Or.inl rfl))) (fun _ _ _ _ _ => pts_one (pt_cmpR op_gt (pe_callB (call_len_seqK K rfl) (by rfl) T.m_len (by decide +kernel) (pa_cons (pe_ix (ix_listK K rfl) (pv 5) (pv 7) (fun _ _ => rfl)) pa_nil)) pe_int (nomark _))) (fun _ _ _ _ _ => (pv 7)))
      (pss_cons (ps_asg (pe_bmK K rfl PySem.F.plainAttrs_list PySem.F.slot_list_pop PySem.F.type_list_pop mt_popAt (pe_ix (ix_listK K rfl) (pv 5) (pe_ix (ix_listK K rfl) (pv 10) (pe_call G_law_pick (hr.mono (by decide)) (by rfl) m_law_pick F_law_pick.kp b_law_pick .nil pass0 (pa_cons (pv 0) (pa_cons (pe_callB (call_len_seqK K rfl) (by rfl) T.m_len (by decide +kernel) (pa_cons (pv 10) pa_nil)) pa_nil))) (fun _ _ => rfl)) (fun _ _ => rfl)) (pa_cons pe_int pa_nil)) (pg_tupK K rfl rfl (pgs_cons (pg_name (i := 11) sc_law_turned_room.nd rfl (Or.inl rfl)) (pgs_cons (pg_name (i := 12) sc_law_turned_room.nd rfl (Or.inl rfl)) (pgs_cons (pg_name (i := 13) sc_law_turned_room.nd rfl (Or.inl rfl)) pgs_nil)))))
      (pss_one (ps_expr (pe_bmK K rfl PySem.F.plainAttrs_list PySem.F.slot_list_append PySem.F.type_list_append mt_append (pv 8) (pa_cons (pe_tup (pa_cons (pe_bmK K rfl PySem.F.plainAttrs_list PySem.F.slot_list_index PySem.F.type_list_index (mt_indexK K rfl) (pv 4) (pa_cons (pv 11) pa_nil)) (pa_cons (pe_bmK K rfl PySem.F.plainAttrs_list PySem.F.slot_list_index PySem.F.type_list_index (mt_indexK K rfl) (pv 4) (pa_cons (pv 12) pa_nil)) (pa_cons (pv 13) pa_nil)))) pa_nil)))))))
      (PSs.to (pss_one (ps_ret (pe_tup (pa_cons (pe_tup (pa_cons (pe_callTy (call_tuple_ofK K rfl) (by rfl) T.m_tuple (by decide +kernel) (pa_cons (pe_lc (own := [("_law_k", 7)]) (g := gName 7) (tt := tYes) (by rfl) sc_law_turned_room.nd (pi_listK K rfl (pv 4)) (blkOk_by (own := [("_law_k", 7)]) (N := N_law_turned_room) (sc := defScope s_law_turned_room) (by decide +kernel)) (fun _ _ _ _ _ => (pg_name (i := 7) sc_law_turned_room.nd rfl (Or.inl rfl))) (fun _ _ _ _ _ => pts_nil) (fun _ _ _ _ _ => (pe_ix (ix_tupK K rfl) (pv 2) (pv 7) (fun _ _ => rfl)))) pa_nil)) (pa_cons (pe_callTy (call_tuple_ofK K rfl) (by rfl) T.m_tuple (by decide +kernel) (pa_cons (pv 8) pa_nil)) pa_nil))) (pa_cons (pv 4) pa_nil))))) R3 ?tail3))) R2 ?tail2)) R1 ?tail1))), ?_⟩
  case tail3 =>
    rintro D' σ' H1 ⟨eD, od, fd, ord, found, fv, v5, v9, v10, v11, v12, v13, rfl, hfd, alf, mid, hod, pm, od0, F1, B1⟩
    have k1 : TK H H1 := TK.but hF B1
    have lo : ord.length = hs.length := by rw [pm.length_eq, List.length_range]
    have olt : ∀ k ∈ ord, k < hs.length := fun k hk => List.mem_range.mp (pm.mem_iff.mp hk)
    let gh : Nat → HR := fun k => hs.getD k ⟨"in", none, 0⟩
    refine ⟨_, rfl, od, rfl, ⟨_, SqL.of hod⟩, fun D nD => lc_list (K := K) (a := od) (xs := ord.map nV) (fun i H5 => ∃ ov : List V, H5 D = some (.lst ov) ∧ All2 (HandAt H5) ov ((ord.take i).map gh) ∧ Same H1 H5 ∧ ov.length ≤ i) ⟨[], upd_same, .nil, same_new nD, Nat.le_refl _⟩ (fun i H5 _ ⟨_, _, _, s5, _⟩ => SqL.of (s5 _ _ hod)) ?_ ?_⟩
    · rintro i x H5 hx ⟨ov, hD, al, s5, lv⟩
      rw [List.getElem?_map] at hx
      cases ek : ord[i]? with
      | none => rw [ek] at hx; cases hx
      | some k =>
      rw [ek] at hx
      obtain rfl : nV k = x := Option.some.inj hx
      have il := (List.getElem?_eq_some_iff.mp ek).1
      have kl := olt k (List.mem_of_getElem? ek)
      have ehk : hs[k]? = some (gh k) := by
        show _ = some (hs.getD k _)
        rw [List.getD_eq_getElem?_getD, List.getElem?_eq_getElem kl]; rfl
      obtain ⟨v, ev, hv'⟩ := alh.get ehk
      refine ⟨rfl, yes_in ⟨_, rfl, _, rfl, ha, _, _, _, rfl, rfl, SqT.of (s5 _ _ (k1 _ _ eh)), atI_nat ev, ov, hD, small1000 (by omega), ov ++ [v], upd_same, ?_, Same.own s5 nD, by rw [List.length_append]; show ov.length + 1 ≤ i + 1; omega⟩⟩
      rw [List.take_add_one, ek, List.map_append]
      exact (al.snoc (hv'.keep (k1.trans (TK.same s5)))).imp fun _ _ z => z.keep (TK.lst hD)
    · rintro H5 ⟨ov, hD, al, s5, lv⟩
      rw [List.length_map, List.take_length] at al
      refine ⟨D, _, rfl, .inl ⟨SqL.of hD, fun tq ntq => ?_⟩⟩
      have s6 := s5.trans (same_new (o := .tup ov) ntq)
      refine ⟨_, rfl, fd, _, rfl, .inl ⟨SqL.of (s6 _ _ hfd), fun tb ntb => ?_⟩⟩
      have s7 := s6.trans (same_new (o := .tup fv) ntb)
      refine ⟨(by show 2 ≤ sizeLine; decide), fun r' nr' => ?_⟩
      have s8 := s7.trans (same_new (o := .tup [V.ref tq, V.ref tb]) nr')
      refine ⟨_, rfl, (by show 2 ≤ sizeLine; decide), fun t nt => ?_⟩
      have s9 := s8.trans (same_new (o := .tup [V.ref r', V.ref od]) nt)
      rw [eD]
      have sx : Same H5 (upd (upd (upd (upd H5 tq (.tup ov)) tb (.tup fv)) r' (.tup [V.ref tq, V.ref tb])) t (.tup [V.ref r', V.ref od])) := (((same_new ntq).trans (same_new ntb)).trans (same_new nr')).trans (same_new nt)
      refine q t r' od ord (ord.map gh) found _ upd_same ⟨tq, tb, ov, fv, same_new nt _ _ upd_same, same_new nt _ _ (same_new nr' _ _ (same_new ntb _ _ upd_same)), same_new nt _ _ (same_new nr' _ _ upd_same), al.imp fun _ _ z => z.keep (TK.same sx), alf.imp fun _ _ z => z.keep (TK.same s9)⟩ (s9 _ _ hod) od0 ⟨pm, by rw [List.length_map], fun j k e => ?_, ?_, mid.of, fun k hk => ?_⟩ (F1.same s9) (B1.same s9)
      · have kl := olt k (List.mem_of_getElem? e)
        rw [List.getElem?_map, e, List.getElem?_eq_getElem kl]
        show some (hs.getD k _) = _
        rw [List.getD_eq_getElem?_getD, List.getElem?_eq_getElem kl]; rfl
      · have := mid.len
        simpa using this
      · have := mid.at_ k hk
        simpa using this
  case tail2 =>
    rintro D' σ' H1 ⟨eD, od, ql, qa, ord, rfl, qs, hod, pm, od0, F1, B1⟩
    have omem : ∀ k, k < hs.length → k ∈ ord := fun k hk => pm.mem_iff.mpr (List.mem_range.mpr hk)
    refine ⟨(by show 0 ≤ sizeLine; decide), fun fd nfd => ?_⟩
    have fd0 : H fd = none := B1.none nfd (F1.ne nfd)
    have fdf : fd ≠ f := hF.ne fd0
    have fdc : fd ≠ c := hF.nec fd0
    have fdq : fd ≠ ql := (ne_of_none qs.hq nfd).symm
    have fdo : fd ≠ od := (ne_of_none hod nfd).symm
    have fdk : ∀ k, k < hs.length → qa k ≠ fd := fun k hk => by
      obtain ⟨vs, h1, _⟩ := qs.at_ k hk
      exact ne_of_none h1 nfd
    have k1 : TK H H1 := TK.but hF B1
    refine ⟨_, rfl, ba, _, rfl, .inr (SqT.of (same_new nfd _ _ (k1 _ _ eb))), _, rfl, by omega, by omega, for_range (lo := 0) (n := bv.length) (fun i σ H2 => ∃ (found rest : List BR) (fv : List V) (v9 v10 v11 v12 v13 : Option V), σ = [some (.ref f), some (.ref r), some (.ref ha), some (.ref ba), some (.ref od), some (.ref ql), none, none, some (.ref fd), v9, v10, v11, v12, v13] ∧ QsAt H H2 od ql qa hs.length rest ∧ H2 fd = some (.lst fv) ∧ All2 (BeltAt H2) fv found ∧ Mid hs.length bs ord found rest ∧ found.length = i ∧ H2 od = some (.lst (ord.map nV)) ∧ Flow H2 f c ∧ But f H H2)
      ⟨[], bs, [], none, none, none, none, none, rfl, qs.same (same_new nfd), upd_same, .nil, Mid.zero, rfl, same_new nfd _ _ hod, F1.new nfd, B1.new nfd⟩ ?_ ?_⟩
    · rintro i σ H2 hi ⟨found, rest, fv, v9, v10, v11, v12, v13, rfl, qs2, hfd2, alf, mid, lf, hod2, F2, B2⟩
      have k2 : TK H H2 := TK.but hF B2
      refine ⟨_, rfl, ha, _, rfl, .inr (SqT.of (k2 _ _ eh)), _, rfl, by omega, by omega, fun sm nsm => lc_range (lo := 0) (n := hv.length) (fun j H5 => ∃ ks : List Nat, H5 sm = some (.lst (ks.map nV)) ∧ Same H2 H5 ∧ ks.length ≤ j ∧ ∀ k, k ∈ ks ↔ k < j ∧ rest.filter (fun b => decide (b.to = k)) ≠ []) ⟨[], upd_same, same_new nsm, Nat.le_refl _, fun k => ⟨(fun z => nomatch z), (fun z => absurd z.1 (Nat.not_lt_zero _))⟩⟩ ?_ ?_⟩
      · rintro j H5 hj ⟨ks, hsm, s5, lk, mem⟩
        obtain ⟨vs, hq, al⟩ := qs2.at_ j (by omega)
        have lal := al.length
        refine ⟨rfl, _, rfl, _, rfl, ql, _, _, _, rfl, rfl, SqL.of (s5 _ _ qs2.hq), at0 (QsAt.get (H0 := H) (H := H) (od := od) (ql := ql) (rest := rest) (by omega)), qa j, _, rfl, .inl (SqL.of (s5 _ _ hq)), _, _, rfl, rfl, _, rfl, if_bl (fun kk => ?_) (fun kk => ?_)⟩
        · have pos := of_decide_eq_true kk
          have ne : rest.filter (fun b => decide (b.to = j)) ≠ [] := fun z => by rw [z] at lal; simp at lal; simp [lal] at pos
          refine ⟨_, rfl, _, hsm, by rw [List.length_map]; exact small1000 (by omega), ks ++ [j], by rw [upd_same, List.map_append, Int.zero_add]; rfl, Same.own s5 nsm, by rw [List.length_append]; show ks.length + 1 ≤ j + 1; omega, fun k => ?_⟩
          rw [List.mem_append, mem, List.mem_singleton]
          constructor
          · rintro (z | z)
            · exact ⟨by omega, z.2⟩
            · rw [z]; exact ⟨by omega, ne⟩
          · rintro ⟨z1, z2⟩
            by_cases e : k = j
            · exact .inr e
            · exact .inl ⟨by omega, z2⟩
        · have neg := of_decide_eq_false kk
          have em : rest.filter (fun b => decide (b.to = j)) = [] := List.length_eq_zero_iff.mp (by omega)
          refine ⟨ks, hsm, s5, by omega, fun k => ?_⟩
          rw [mem]
          constructor
          · rintro ⟨z1, z2⟩
            exact ⟨by omega, z2⟩
          · rintro ⟨z1, z2⟩
            refine ⟨?_, z2⟩
            by_cases e : k = j
            · exact absurd (by rw [e]; exact em) z2
            · omega
      · rintro H5 ⟨ks, hsm, s5, lk, mem⟩
        rw [lhv] at mem
        obtain ⟨k1', k1n, hk1⟩ := mid.some (fun b hb => (ok.ends b hb).2) (by omega)
        have kpos : 0 < ks.length := List.length_pos_iff.mpr fun z => by
          have := (mem k1').mpr ⟨k1n, hk1⟩
          rw [z] at this
          cases this
        have F5 := F2.same s5
        have smf : sm ≠ f := F2.ne nsm
        refine ⟨_, rfl, _, rfl, _, rfl, _, rfl, sm, _, rfl, .inl (SqL.of hsm), f, c, _, rfl, by rw [List.length_map]; omega, by rw [List.length_map]; exact log_small (by omega), F5, fun v H6 v0 v1 F6 B6 => ?_⟩
        rw [List.length_map] at v1
        obtain ⟨u, rfl⟩ : ∃ u : Nat, v = ((u : Nat) : Int) := ⟨v.toNat, by omega⟩
        have ul : u < ks.length := by omega
        obtain ⟨k0, ek0⟩ : ∃ k0, ks[u]? = some k0 := ⟨_, List.getElem?_eq_getElem ul⟩
        obtain ⟨k0n, hk0⟩ := (mem k0).mp (List.mem_of_getElem? ek0)
        have k26 : TK H2 H6 := (TK.same s5).trans (TK.but F5 B6)
        have b26 : ∀ b o, H2 b = some o → b ≠ f → H6 b = some o := fun b o e n => B6 _ _ (s5 _ _ e) n
        have qf : ∀ k, k < hs.length → qa k ≠ f := fun k hk => hF.ne (qs2.old k hk)
        have qs6 : QsAt H H6 od ql qa hs.length rest := qs2.go ((b26 _ _ qs2.hq (hF.ne qs2.ql0.1)).trans qs2.hq.symm) (fun k hk => by
          obtain ⟨vs, h1, _⟩ := qs2.at_ k hk
          exact (b26 _ _ h1 (qf k hk)).trans h1.symm) k26
        obtain ⟨vs0, hq0, al0⟩ := qs6.at_ k0 k0n
        obtain ⟨x, t', ef⟩ : ∃ x t', rest.filter (fun b => decide (b.to = k0)) = x :: t' := by
          cases e : rest.filter (fun b => decide (b.to = k0)) with
          | nil => exact absurd e hk0
          | cons x t' => exact ⟨x, t', rfl⟩
        rw [ef] at al0
        have xin : x ∈ rest := (List.mem_filter.mp (by rw [ef]; exact List.mem_cons_self .. : x ∈ rest.filter (fun b => decide (b.to = k0)))).1
        have xe := ok.ends x (mid.sub x xin)
        cases al0 with
        | @cons w0 _ vs' _ hb alt =>
        have al0' : All2 (BeltAt H6) (w0 :: vs') (x :: t') := .cons hb alt
        obtain ⟨t, g, rfl, e1, e2⟩ := id hb
        obtain ⟨rest', mid', lr', f1, f2⟩ := mid.step omem k0n ef
        have qs7 := qs6.pop k0n hq0 al0' f1 f2
        have k67 : TK H6 (upd H6 (qa k0) (.lst vs')) := TK.lst hq0
        refine ⟨sm, _, _, _, rfl, rfl, SqL.of (B6 _ _ hsm smf), atI_nat (by rw [List.getElem?_map, ek0]; rfl), ql, _, _, _, rfl, rfl, SqL.of qs6.hq, atI_nat (QsAt.get (H0 := H) (H := H) (od := od) (ql := ql) (rest := rest) k0n), .inl ⟨rfl, _, SqL.of hq0⟩, qa k0, _, 0, 0, _, rfl, rfl, hq0, by decide, by decide, seqIndex_of (Int.le_refl 0) (by rw [List.length_cons]; omega), rfl, ?_⟩
        have hfd7 : upd H6 (qa k0) (.lst vs') fd = some (.lst fv) := by rw [upd_ne (fdk k0 k0n).symm]; exact b26 _ _ hfd2 fdf
        have hod7 : upd H6 (qa k0) (.lst vs') od = some (.lst (ord.map nV)) := by rw [upd_ne (qs6.nod k0 k0n).1.symm]; exact b26 _ _ hod2 (hF.ne od0)
        refine ⟨t, _, rfl, SqT.of (k67 _ _ e1), rfl, _, _, rfl, _, _, rfl, _, _, rfl, rfl, ?_⟩
        refine ⟨_, rfl, .inl ⟨rfl, _, SqL.of hfd7⟩, _, rfl, .inl ⟨rfl, _, SqL.of hod7⟩, _, rfl, ?_⟩
        dsimp only [tNil]
        refine index_nat hod7 (omem _ xe.1) ?_
        refine ⟨_, rfl, .inl ⟨rfl, _, SqL.of hod7⟩, _, rfl, ?_⟩
        dsimp only [tNil]
        refine index_nat hod7 (omem _ xe.2) ?_
        refine ⟨_, rfl, (by show 3 ≤ sizeLine; decide), fun tp ntp => ?_⟩
        have s78 : Same (upd H6 (qa k0) (.lst vs')) (upd (upd H6 (qa k0) (.lst vs')) tp (.tup [nV (ord.idxOf x.one), nV (ord.idxOf x.to), V.ref g])) := same_new ntp
        have hfd8 := s78 _ _ hfd7
        have lfv := alf.length
        refine ⟨fd, _, _, rfl, rfl, hfd8, small1000 (by omega), ?_⟩
        have k79 := (TK.same s78).trans (TK.lst (ys := fv ++ [V.ref tp]) hfd8)
        have F7 : Flow (upd H6 (qa k0) (.lst vs')) f c := F6.lst (qf k0 k0n) (hF.nec (qs2.old k0 k0n))
        have B7 : But f H (upd H6 (qa k0) (.lst vs')) := ((B2.same s5).trans B6).own (qs2.old k0 k0n)
        refine ⟨found ++ [ren ord x], rest', fv ++ [V.ref tp], _, _, _, _, _, rfl, (qs7.same s78).go (upd_ne fdq.symm) (fun k hk => upd_ne (fdk k hk)) (TK.lst hfd8), upd_same, ?_, mid', by rw [List.length_append, lf]; rfl, by rw [upd_ne fdo.symm]; exact s78 _ _ hod7, (F7.same s78).lst fdf fdc, (B7.same s78).own fd0⟩
        exact ((alf.imp fun _ _ z => z.keep (k26.trans (k67.trans (TK.same s78)))).snoc (⟨tp, g, rfl, upd_same, s78 _ _ (k67 _ _ e2)⟩ : BeltAt _ (V.ref tp) (ren ord x))).imp fun _ _ z => z.keep (TK.lst hfd8)
    · rintro σ H2 ⟨found, rest, fv, v9, v10, v11, v12, v13, rfl, qs2, hfd2, alf, mid, lf, hod2, F2, B2⟩
      have er : rest = [] := by
        have := mid.len
        exact List.length_eq_zero_iff.mp (by omega)
      subst er
      exact ⟨eD, od, fd, ord, found, fv, _, v9, v10, v11, v12, v13, rfl, hfd2, alf, mid, hod2, pm, od0, F2, B2⟩
  case tail1 =>
    rintro D' σ' H1 ⟨eD, od, ord, rfl, hod, pm, od0, F1, B1⟩
    have k1 : TK H H1 := TK.but hF B1
    refine ⟨_, rfl, ha, _, rfl, .inr (SqT.of (k1 _ _ eh)), _, rfl, by omega, by omega, fun ql nql => lc_range (lo := 0) (n := hv.length) (fun j H5 => ∃ qa : Nat → Addr, QsAt H H5 od ql qa j bs ∧ Same H1 H5) ?_ ?_ ?_⟩
    · refine ⟨fun _ => 0, ⟨upd_same, (fun _ z => absurd z (Nat.not_lt_zero _)), (fun _ _ z => absurd z (Nat.not_lt_zero _)), (fun _ z => absurd z (Nat.not_lt_zero _)), (fun _ z => absurd z (Nat.not_lt_zero _)), B1.none nql (F1.ne nql), (ne_of_none hod nql).symm⟩, same_new nql⟩
    · rintro j H5 hj ⟨qa, qs, s5⟩
      have k5 := k1.trans (TK.same s5)
      refine ⟨rfl, yes_in ⟨_, rfl, ba, rfl, ⟨_, SqT.of (k5 _ _ eb)⟩, fun D2 nD2 => lc_tup (K := K) (a := ba) (xs := bv) (fun i H6 => ∃ vs : List V, H6 D2 = some (.lst vs) ∧ All2 (BeltAt H6) vs ((bs.take i).filter fun b => decide (b.to = j)) ∧ Same H5 H6 ∧ vs.length ≤ i) ⟨[], upd_same, .nil, same_new nD2, Nat.le_refl _⟩ (fun i H6 _ ⟨_, _, _, s6, _⟩ => SqT.of (s6 _ _ (k5 _ _ eb))) ?_ ?_⟩⟩
      · rintro i x H6 hx ⟨vs, hD2, al, s6, lv⟩
        have il := (List.getElem?_eq_some_iff.mp hx).1
        obtain ⟨b, eb', hB⟩ := alb.getL hx
        obtain ⟨t, g, rfl, e1, e2⟩ := hB.keep (k5.trans (TK.same s6))
        refine ⟨rfl, _, rfl, t, _, _, _, rfl, rfl, SqT.of e1, atI_nat (j := 1) rfl, _, rfl, rfl, _, rfl, if_bl (fun kk => ?_) (fun kk => ?_)⟩
        · have ek : b.to = j := by
            have := V.int.inj (of_decide_eq_true kk)
            omega
          refine ⟨_, rfl, vs, hD2, small1000 (by omega), vs ++ [V.ref t], upd_same, ?_, Same.own s6 nD2, by rw [List.length_append]; show vs.length + 1 ≤ i + 1; omega⟩
          rw [List.take_add_one, eb', List.filter_append, Option.toList, List.filter_cons_of_pos (by rw [ek]; exact decide_eq_true rfl), List.filter_nil]
          exact (al.snoc (⟨t, g, rfl, e1, e2⟩ : BeltAt H6 (V.ref t) b)).imp fun _ _ z => z.keep (TK.lst hD2)
        · have ek : b.to ≠ j := fun z => of_decide_eq_false kk (by rw [z, Int.zero_add])
          refine ⟨vs, hD2, ?_, s6, by omega⟩
          rw [List.take_add_one, eb', List.filter_append, Option.toList, List.filter_cons_of_neg (by rw [decide_eq_true_eq]; exact ek), List.filter_nil, List.append_nil]
          exact al
      · rintro H6 ⟨vs, hD2, al, s6, lv⟩
        rw [lbv, List.take_length] at al
        have n1 := same_none s5 nD2
        exact ⟨_, s6 _ _ qs.hq, by rw [List.length_map, List.length_range]; exact small1000 (by omega), _, qs.more nD2 s6 hD2 al (B1.none n1 (F1.ne n1)) (ne_of_none (s5 _ _ hod) nD2).symm, Same.own (s5.trans s6) nql⟩
    · rintro H5 ⟨qa, qs, s5⟩
      rw [lhv] at qs
      exact ⟨eD, od, ql, qa, ord, rfl, qs, s5 _ _ hod, pm, od0, F1.same s5, B1.same s5⟩
  refine ⟨_, rfl, r, _, rfl, SqT.of er, rfl, _, _, rfl, _, _, rfl, rfl, ?_⟩
  refine ⟨_, rfl, _, rfl, ha, _, rfl, .inr (SqT.of eh), _, rfl, ⟨by omega, by omega, by omega, by omega, by omega⟩, fun lf nlf => ?_⟩
  have erg : rgV 0 ((hv.length : Nat) : Int) = (List.range hs.length).map nV := by
    unfold rgV
    rw [show (((hv.length : Nat) : Int) - 0).toNat = hs.length by omega]
    refine List.map_congr_left fun i _ => ?_
    show V.int (0 + ((i : Nat) : Int)) = V.int ((i : Nat) : Int)
    rw [Int.zero_add]
  rw [erg]
  refine ⟨f, c, lf, _, rfl, SqL.of upd_same, hF.ne nlf, by rw [List.length_map, List.length_range]; omega, hF.new nlf, fun od ys H1 pm nod hod F1 B1 => ?_⟩
  obtain ⟨ord, rfl, pm'⟩ := perm_inv (f := nV) (g := unN) (fun _ => rfl) pm
  exact ⟨rfl, od, ord, rfl, hod, pm', same_none (same_new nlf) nod, F1, (But.refl.new nlf).trans B1⟩
end
theorem All2.perm {α β : Type} {R : α → β → Prop} : ∀ {as as' : List α} {bs : List β}, as'.Perm as → All2 R as bs → ∃ bs' : List β, bs'.Perm bs ∧ All2 R as' bs' := by
  intro as as' bs p
  induction p generalizing bs with
  | nil => intro a; exact ⟨bs, .refl _, a⟩
  | cons x _ ih =>
    intro a
    cases a with
    | cons h t => obtain ⟨b', p', a'⟩ := ih t; exact ⟨_ :: b', p'.cons _, .cons h a'⟩
  | swap x y l =>
    intro a
    cases a with
    | cons h t => cases t with
      | cons h2 t2 => exact ⟨_ :: _ :: _, .swap .., .cons h2 (.cons h t2)⟩
  | trans _ _ ih1 ih2 =>
    intro a
    obtain ⟨b1, p1, a1⟩ := ih2 a
    obtain ⟨b2, p2, a2⟩ := ih1 a1
    exact ⟨b2, p2.trans p1, a2⟩
/-! ### rooms copied: some hands of a room several times -/
def cT (bs : List BR) (k : Nat) : Nat := (bs.map BR.to).count k
def sumC (bs : List BR) (ms : List (Nat × Int)) : Nat := (ms.map fun m => cT bs m.1).sum
def MdAt (H : Hp) (v : V) (m : Nat × Int) : Prop := ∃ a : Addr, v = .ref a ∧ H a = some (.tup [nV m.1, .int m.2])
theorem MdAt.keep {H H' : Hp} {v : V} {m : Nat × Int} (h : MdAt H v m) (k : TK H H') : MdAt H' v m := by
  obtain ⟨a, e, e1⟩ := h
  exact ⟨a, e, k _ _ e1⟩
theorem cT_snoc (bs : List BR) (b : BR) (k : Nat) : cT (bs ++ [b]) k = cT bs k + if b.to = k then 1 else 0 := by
  unfold cT
  rw [List.map_append, List.count_append]
  congr 1
  show [b.to].count k = _
  rw [List.count_singleton]
  by_cases h : b.to = k
  · rw [if_pos h]; simp [h]
  · rw [if_neg h]; simp [h]
theorem ind_sum {n k : Nat} (h : k < n) : ((List.range n).map fun j => if k = j then 1 else 0).sum = 1 := by
  induction n with
  | zero => omega
  | succ n ih =>
    rw [List.range_succ, List.map_append, List.sum_append]
    by_cases e : k = n
    · have z : ((List.range n).map fun j => if k = j then 1 else 0).sum = 0 := by
        have : ∀ m, m ≤ k → ((List.range m).map fun j => if k = j then 1 else 0).sum = 0 := by
          intro m
          induction m with
          | zero => intro _; rfl
          | succ m ih2 =>
            intro hm
            rw [List.range_succ, List.map_append, List.sum_append, ih2 (by omega)]
            show 0 + ((if k = m then 1 else 0) + 0) = 0
            rw [if_neg (by omega : ¬ k = m)]
            exact Nat.zero_add _
        exact this n (by omega)
      rw [z]
      show 0 + ((if k = n then 1 else 0) + 0) = 1
      rw [if_pos e]
      exact Nat.zero_add _
    · rw [ih (by omega)]
      show 1 + ((if k = n then 1 else 0) + 0) = 1
      rw [if_neg e]
      exact Nat.add_zero _
theorem sum_add {f g : Nat → Nat} (l : List Nat) : (l.map fun j => f j + g j).sum = (l.map f).sum + (l.map g).sum := by
  induction l with
  | nil => rfl
  | cons x r ih => rw [List.map_cons, List.map_cons, List.map_cons, List.sum_cons, List.sum_cons, List.sum_cons, ih]; omega
theorem cT_sum {n : Nat} : ∀ bs : List BR, (∀ b ∈ bs, b.to < n) → ((List.range n).map (cT bs)).sum = bs.length := by
  intro bs
  induction bs using snoc_ind with
  | h0 =>
    intro _
    have : ∀ l : List Nat, (l.map (cT [])).sum = 0 := by
      intro l
      induction l with
      | nil => rfl
      | cons x r ih => rw [List.map_cons, List.sum_cons, ih]; rfl
    exact this _
  | h1 l b ih =>
    intro h
    have e : (fun j => cT (l ++ [b]) j) = fun j => cT l j + if b.to = j then 1 else 0 := funext fun j => cT_snoc l b j
    show ((List.range n).map fun j => cT (l ++ [b]) j).sum = _
    rw [e, sum_add, ind_sum (h b (List.mem_append.mpr (.inr (List.mem_singleton.mpr rfl)))), List.length_append]
    rw [show ((List.range n).map fun j => cT l j).sum = l.length from ih fun c hc => h c (List.mem_append.mpr (.inl hc))]
    rfl
/-- the hands' numbers and moments of a room copied -/
structure Made (hs : List HR) (bs : List BR) (ms : List (Nat × Int)) : Prop where
  few : ms.length ≤ 12
  ok : ∀ m ∈ ms, m.1 < hs.length ∧ 0 ≤ m.2 ∧ m.2 ≤ 30 ∧ ∀ h, hs[m.1]? = some h → h.wd = "in" ∨ h.wd = "out" → m.2 = 0
  all : ∀ k, k < hs.length → ∃ m ∈ ms, m.1 = k
  sum : sumC bs ms ≤ 20
theorem Made.perm {hs : List HR} {bs : List BR} {ms ns : List (Nat × Int)} (h : Made hs bs ms) (p : ns.Perm ms) : Made hs bs ns := by
  refine ⟨by rw [p.length_eq]; exact h.few, fun m hm => h.ok m (p.mem_iff.mp hm), fun k hk => ?_, ?_⟩
  · obtain ⟨m, hm, e⟩ := h.all k hk
    exact ⟨m, p.mem_iff.mpr hm, e⟩
  · have : sumC bs ns = sumC bs ms := List.Perm.sum_nat (List.Perm.map (fun m : Nat × Int => cT bs m.1) p)
    rw [this]; exact h.sum
def kOf (ms : List (Nat × Int)) (j : Nat) : Nat := (ms.getD j (0, 0)).1
theorem kOf_at {ms : List (Nat × Int)} {j : Nat} {m : Nat × Int} (h : ms[j]? = some m) : kOf ms j = m.1 := by
  unfold kOf
  rw [List.getD_eq_getElem?_getD, h]; rfl
def handN (hs : List HR) (m : Nat × Int) : HR := match hs[m.1]? with
  | some h => ⟨h.wd, h.no, m.2⟩
  | none => ⟨"", none, 0⟩
/-- the belts found till now: all of the first j hands, of the next one those among i -/
structure Fd (bs : List BR) (ms : List (Nat × Int)) (j i : Nat) (fs : List BR) : Prop where
  of : ∀ f ∈ fs, ∃ b ∈ bs, f.th = b.th ∧ f.one < ms.length ∧ kOf ms f.one = b.one ∧ f.to < ms.length ∧ kOf ms f.to = b.to
  at_ : ∀ j', cT fs j' = if j' < j then cT bs (kOf ms j') else if j' = j then cT (bs.take i) (kOf ms j) else 0
  len : fs.length ≤ 20 * j + i
theorem Fd.zero {bs : List BR} {ms : List (Nat × Int)} : Fd bs ms 0 0 [] := ⟨(fun _ z => nomatch z), fun j' => by
  rw [if_neg (by omega)]
  split <;> rfl, Nat.zero_le _⟩
theorem Fd.skip {bs : List BR} {ms : List (Nat × Int)} {j i : Nat} {fs : List BR} {b : BR} (h : Fd bs ms j i fs) (eb : bs[i]? = some b) (ne : b.to ≠ kOf ms j) : Fd bs ms j (i + 1) fs := by
  refine ⟨h.of, fun j' => ?_, by have := h.len; omega⟩
  rw [h.at_ j', List.take_add_one, eb]
  show _ = if j' < j then _ else if j' = j then cT (bs.take i ++ [b]) (kOf ms j) else 0
  rw [cT_snoc, if_neg ne, Nat.add_zero]
theorem Fd.more {bs : List BR} {ms : List (Nat × Int)} {j i o : Nat} {fs : List BR} {b : BR} (h : Fd bs ms j i fs) (eb : bs[i]? = some b) (e : b.to = kOf ms j) (jl : j < ms.length) (ol : o < ms.length) (eo : kOf ms o = b.one) : Fd bs ms j (i + 1) (fs ++ [⟨o, j, b.th⟩]) := by
  refine ⟨fun f hf => ?_, fun j' => ?_, by have := h.len; rw [List.length_append]; show _ + 1 ≤ _; omega⟩
  · rcases List.mem_append.mp hf with hf | hf
    · exact h.of f hf
    · rw [List.mem_singleton.mp hf]
      exact ⟨b, List.mem_of_getElem? eb, rfl, ol, eo, jl, e.symm⟩
  · rw [cT_snoc, h.at_ j', List.take_add_one, eb]
    show (if j' < j then _ else if j' = j then cT (bs.take i) (kOf ms j) else 0) + (if j = j' then 1 else 0) = if j' < j then _ else if j' = j then cT (bs.take i ++ [b]) (kOf ms j) else 0
    rw [cT_snoc, if_pos e]
    by_cases h1 : j' < j
    · rw [if_pos h1, if_pos h1, if_neg (by omega)]
      exact Nat.add_zero _
    · rw [if_neg h1, if_neg h1]
      by_cases h2 : j' = j
      · rw [if_pos h2, if_pos h2, if_pos h2.symm]
      · rw [if_neg h2, if_neg h2, if_neg (fun z => h2 z.symm)]
theorem Fd.up {bs : List BR} {ms : List (Nat × Int)} {j : Nat} {fs : List BR} (h : Fd bs ms j bs.length fs) (l : bs.length ≤ 20) : Fd bs ms (j + 1) 0 fs := by
  refine ⟨h.of, fun j' => ?_, by have := h.len; omega⟩
  rw [h.at_ j', List.take_length]
  by_cases h1 : j' < j
  · rw [if_pos h1, if_pos (by omega)]
  · rw [if_neg h1]
    by_cases h2 : j' = j
    · rw [if_pos h2, if_pos (by omega), h2]
    · rw [if_neg h2, if_neg (by omega)]
      split <;> rfl
theorem copied_ok {hs : List HR} {bs fs : List BR} {ms : List (Nat × Int)} (ok : RoomOk hs bs) (md : Made hs bs ms) (fd : Fd bs ms ms.length 0 fs) : RoomOk (ms.map (handN hs)) fs := by
  have hk : ∀ {m : Nat × Int}, m ∈ ms → ∃ h, hs[m.1]? = some h ∧ handN hs m = ⟨h.wd, h.no, m.2⟩ := fun {m} hm => by
    have ml := (md.ok m hm).1
    have e := List.getElem?_eq_getElem ml
    exact ⟨_, e, by unfold handN; rw [e]⟩
  have at_ : ∀ {j}, j < ms.length → ∃ m h, ms[j]? = some m ∧ m ∈ ms ∧ kOf ms j = m.1 ∧ hs[m.1]? = some h ∧ (ms.map (handN hs))[j]? = some ⟨h.wd, h.no, m.2⟩ := fun {j} hj => by
    have e := List.getElem?_eq_getElem hj
    obtain ⟨h, e1, e2⟩ := hk (List.getElem_mem hj)
    exact ⟨_, h, e, List.getElem_mem hj, kOf_at e, e1, by rw [List.getElem?_map, e]; exact congrArg some e2⟩
  have lm : (ms.map (handN hs)).length = ms.length := List.length_map ..
  have cnt : ∀ j, j < ms.length → cT fs j = cT bs (kOf ms j) := fun j hj => by rw [fd.at_ j, if_pos hj]
  obtain ⟨rk, hrk⟩ := ok.rank
  refine ⟨by rw [lm]; exact md.few, fun h hh => ?_, fun f hf => ?_, fun f hf h eh => ?_, fun f hf => ?_, ⟨fun j => rk (kOf ms j), fun f hf e => ?_⟩, fun j h eh => ?_, ?_⟩
  · obtain ⟨m, hm, rfl⟩ := List.mem_map.mp hh
    obtain ⟨h0, e1, e2⟩ := hk hm
    rw [e2]
    obtain ⟨g1, g2, g3⟩ := ok.good h0 (List.mem_of_getElem? e1)
    obtain ⟨_, m0, m1, m2⟩ := md.ok m hm
    refine ⟨?_, m0, m1⟩
    rcases g1 with g | g
    · exact .inl ⟨g.wd, g.no, g.big⟩
    · exact .inr ⟨g.1, g.2.1, m2 h0 e1 g.1⟩
  · obtain ⟨b, hb, _, a1, _, a2, _⟩ := fd.of f hf
    rw [lm]
    exact ⟨a1, a2⟩
  · obtain ⟨b, hb, _, a1, a2, _⟩ := fd.of f hf
    obtain ⟨m, h0, e1, e2, e3, e4, e5⟩ := at_ a1
    rw [e5] at eh
    rw [← Option.some.inj eh]
    exact ok.out b hb h0 (by rw [← a2, e3]; exact e4)
  · obtain ⟨b, hb, e, _⟩ := fd.of f hf
    rw [e]
    exact ok.th b hb
  · obtain ⟨b, hb, e0, a1, a2, a3, a4⟩ := fd.of f hf
    show rk (kOf ms f.one) < rk (kOf ms f.to)
    rw [a2, a4]
    exact hrk b hb (by rw [← e0]; exact e)
  · have jl : j < ms.length := by rw [← lm]; exact (List.getElem?_eq_some_iff.mp eh).1
    obtain ⟨m, h0, e1, e2, e3, e4, e5⟩ := at_ jl
    rw [e5] at eh
    rw [← Option.some.inj eh]
    have c := cnt j jl
    have d := ok.count m.1 h0 e4
    show ((cT fs j : Nat) : Int) = needs h0.wd
    rw [c, e3]
    exact d
  · have e := cT_sum fs fun f hf => by obtain ⟨b, hb, _, _, _, a, _⟩ := fd.of f hf; exact a
    have : ((List.range ms.length).map (cT fs)).sum = sumC bs ms := by
      unfold sumC
      congr 1
      refine List.ext_getElem? fun i => ?_
      rw [List.getElem?_map, List.getElem?_map]
      by_cases hi : i < ms.length
      · rw [List.getElem?_range hi, List.getElem?_eq_getElem hi]
        show some (cT fs i) = some (cT bs ms[i].1)
        rw [cnt i hi, kOf_at (List.getElem?_eq_getElem hi)]
      · rw [List.getElem?_eq_none (by rw [List.length_range]; omega), List.getElem?_eq_none (by omega)]
        rfl
    rw [this] at e
    rw [← e]
    exact md.sum
/-- while hands are copied -/
structure Mding (hs : List HR) (bs : List BR) (i : Nat) (ms : List (Nat × Int)) (left : Int) : Prop where
  few : ms.length + (hs.length - i) ≤ 12
  ok : ∀ m ∈ ms, m.1 < hs.length ∧ 0 ≤ m.2 ∧ m.2 ≤ 30 ∧ ∀ h, hs[m.1]? = some h → h.wd = "in" ∨ h.wd = "out" → m.2 = 0
  all : ∀ k, k < i → ∃ m ∈ ms, m.1 = k
  sum : ((sumC bs ms : Nat) : Int) + left + bs.length = 20 + ((((List.range i).map (cT bs)).sum : Nat) : Int)
  left : 0 ≤ left
theorem sumC_snoc (bs : List BR) (ms : List (Nat × Int)) (m : Nat × Int) : sumC bs (ms ++ [m]) = sumC bs ms + cT bs m.1 := by
  unfold sumC
  rw [List.map_append, List.sum_append]
  show _ + (cT bs m.1 + 0) = _
  omega
theorem Mding.own {hs : List HR} {bs : List BR} {i : Nat} {ms : List (Nat × Int)} {left : Int} {h : HR} (q : Mding hs bs i ms left) (e : hs[i]? = some h) (g : GoodHand h) : Mding hs bs (i + 1) (ms ++ [(i, h.mom)]) left := by
  have il := (List.getElem?_eq_some_iff.mp e).1
  refine ⟨by have := q.few; rw [List.length_append]; show _ + 1 + _ ≤ _; omega, fun m hm => ?_, fun k hk => ?_, ?_, q.left⟩
  · rcases List.mem_append.mp hm with hm | hm
    · exact q.ok m hm
    · rw [List.mem_singleton.mp hm]; exact ⟨il, g.2.1, g.2.2, fun h2 e2 z => by have e2 : hs[i]? = some h2 := e2; rw [e] at e2; rw [← Option.some.inj e2] at z; exact g.mom0 z⟩
  · by_cases hk2 : k < i
    · obtain ⟨m, hm, e⟩ := q.all k hk2
      exact ⟨m, List.mem_append.mpr (.inl hm), e⟩
    · exact ⟨(i, h.mom), List.mem_append.mpr (.inr (List.mem_singleton.mpr rfl)), by show i = k; omega⟩
  · rw [sumC_snoc, List.range_succ, List.map_append, List.sum_append]
    have := q.sum
    show _ = 20 + (((_ + (cT bs i + 0)) : Nat) : Int)
    push_cast
    omega
theorem Mding.more {hs : List HR} {bs : List BR} {i : Nat} {ms : List (Nat × Int)} {left v : Int} {h : HR} (q : Mding hs bs (i + 1) ms left) (e : hs[i]? = some h) (cn : ((cT bs i : Nat) : Int) = needs h.wd) (few : ms.length + 1 + (hs.length - (i + 1)) ≤ 12) (v0 : 0 ≤ v) (v1 : v < 31) (lf : needs h.wd ≤ left) (nd : ¬ (h.wd = "in" ∨ h.wd = "out")) : Mding hs bs (i + 1) (ms ++ [(i, v)]) (left - needs h.wd) := by
  have il := (List.getElem?_eq_some_iff.mp e).1
  refine ⟨by rw [List.length_append]; exact few, fun m hm => ?_, fun k hk => ?_, ?_, by omega⟩
  · rcases List.mem_append.mp hm with hm | hm
    · exact q.ok m hm
    · rw [List.mem_singleton.mp hm]; exact ⟨il, v0, by show v ≤ 30; omega, fun h2 e2 z => by have e2 : hs[i]? = some h2 := e2; rw [e] at e2; rw [← Option.some.inj e2] at z; exact absurd z nd⟩
  · obtain ⟨m, hm, e⟩ := q.all k hk
    exact ⟨m, List.mem_append.mpr (.inl hm), e⟩
  · have := q.sum
    rw [sumC_snoc]
    push_cast
    show ((sumC bs ms : Nat) : Int) + ((cT bs i : Nat) : Int) + (left - needs h.wd) + _ = _
    omega
theorem Mding.done {hs : List HR} {bs : List BR} {ms : List (Nat × Int)} {left : Int} (q : Mding hs bs hs.length ms left) (ok : RoomOk hs bs) : Made hs bs ms := by
  refine ⟨by have := q.few; omega, q.ok, q.all, ?_⟩
  have := q.sum
  have e := cT_sum (n := hs.length) bs fun b hb => (ok.ends b hb).2
  rw [e] at this
  have := q.left
  omega
theorem small_mul {v : Int} {b : Bool} (h0 : 0 ≤ v) (h1 : v < 3) : 0 ≤ v * (if b = true then 1 else 0) ∧ v * (if b = true then 1 else 0) ≤ 2 := by
  cases b
  · rw [if_neg Bool.false_ne_true]; omega
  · rw [if_pos rfl]; omega
section
variable {P : Program} {w : World} {K : PySem.W.Frag} {mg : Str → Option Value} {base : Heap}
def sp_law_copied (K : PySem.W.Frag) : Sp := fun vs H Q _ => ∃ f c : Addr, vs = [.ref f] ∧ Flow H f c ∧ ∀ (r : Addr) (hs : List HR) (bs : List BR) (H' : Hp), RoomAt H' r hs bs → RoomOk hs bs → 0 < hs.length → Flow H' f c → But f H H' → Q (.ref r) H'
theorem ok_law_copied {f : Addr} {fd : FuncData} (F : Fun K "_law_copied" "_law_copied" s_law_copied f fd) (T : Top w K mg) : FnOk P w K mg base CX0 6 f fd ["_law_flow_here"] (sp_law_copied K) := by
  obtain ⟨f_law_room, fd_law_room, F_law_room, b_law_room, m_law_room⟩ := T.d_law_room
  have G_law_room := ok_law_room (P := P) (w := w) (base := base) F_law_room T
  obtain ⟨f_law_shuffled, fd_law_shuffled, F_law_shuffled, b_law_shuffled, m_law_shuffled⟩ := T.d_law_shuffled
  have G_law_shuffled := ok_law_shuffled (P := P) (w := w) (base := base) F_law_shuffled T
  obtain ⟨f_law_pick, fd_law_pick, F_law_pick, b_law_pick, m_law_pick⟩ := T.d_law_pick
  have G_law_pick := ok_law_pick (P := P) (w := w) (base := base) F_law_pick T
  obtain ⟨f_law_needs, fd_law_needs, F_law_needs, b_law_needs, m_law_needs⟩ := T.d_law_needs
  have G_law_needs := ok_law_needs (P := P) (w := w) (base := base) F_law_needs T
  refine F.ok sc_law_copied (fun vs H Q E h => ?_) (fun cdv A outer s H vs Q E hr h => ?_)
  · obtain ⟨f, c, rfl, _⟩ := h
    rfl
  obtain ⟨f, c, rfl, hF, q⟩ := h
  let R1 : TS := fun D' σ' H' => D'.rt = Q ∧ ∃ (ha ba ml : Addr) (hv bv mv : List V) (hs : List HR) (bs : List BR) (ms : List (Nat × Int)) (x4 x5 x6 x7 x8 : Option V), σ' = [some (.ref f), some (.ref ha), some (.ref ba), some (.ref ml), x4, x5, x6, x7, x8, none, none, none, none, none, none, none] ∧
    H' ha = some (.tup hv) ∧ H' ba = some (.tup bv) ∧ All2 (HandAt H') hv hs ∧ All2 (BeltAt H') bv bs ∧ RoomOk hs bs ∧ 0 < hs.length ∧ H' ml = some (.lst mv) ∧ All2 (MdAt H') mv ms ∧ Made hs bs ms ∧ ml ≠ f ∧ Flow H' f c ∧ But f H H'
  let R2 : TS := fun D' σ' H' => D'.rt = Q ∧ ∃ (ha ml fl : Addr) (hv mv fv : List V) (hs : List HR) (bs fs : List BR) (ms : List (Nat × Int)) (x2 x4 x5 x6 x7 x8 x10 x11 x12 x13 x14 : Option V), σ' = [some (.ref f), some (.ref ha), x2, some (.ref ml), x4, x5, x6, x7, x8, some (.ref fl), x10, x11, x12, x13, x14, none] ∧
    H' ha = some (.tup hv) ∧ All2 (HandAt H') hv hs ∧ RoomOk hs bs ∧ 0 < hs.length ∧ H' ml = some (.lst mv) ∧ All2 (MdAt H') mv ms ∧ Made hs bs ms ∧ H' fl = some (.lst fv) ∧ All2 (BeltAt H') fv fs ∧ Fd bs ms ms.length 0 fs ∧ Flow H' f c ∧ But f H H'
  refine ⟨_, (pss_cons (ps_asg (pe_call G_law_room (hr.mono (by decide)) (by rfl) m_law_room F_law_room.kp b_law_room .nil pass0 (pa_cons (pv 0) (pa_cons pe_int pa_nil))) (pg_tupK K rfl rfl (pgs_cons (pg_name (i := 1) sc_law_copied.nd rfl (Or.inr rfl)) (pgs_cons (pg_name (i := 2) sc_law_copied.nd rfl (Or.inl rfl)) pgs_nil))))
      (pss_cons (ps_set (i := 3) sc_law_copied.nd rfl (Or.inr rfl) (pe_lst pa_nil))
      (pss_cons (ps_set (i := 4) sc_law_copied.nd rfl (Or.inl rfl) (pe_op op_sub pe_int (pe_callB (call_len_seqK K rfl) (by rfl) T.m_len (by decide +kernel) (pa_cons (pv 2) pa_nil))))
      (pss_cons (ps_for PassesOwn.never rfl (pi_enumT K rfl (by rfl) T.m_enumerate (pa_cons (pv 1) pa_nil)) (pg_tupK K rfl rfl (pgs_cons (pg_name (i := 5) sc_law_copied.nd rfl (Or.inl rfl)) (pgs_cons (pg_tupK K rfl rfl (pgs_cons (pg_name (i := 6) sc_law_copied.nd rfl (Or.inl rfl)) (pgs_cons (pg_name (i := 7) sc_law_copied.nd rfl (Or.inl rfl)) pgs_nil))) pgs_nil)))
        (pss_cons (ps_expr (pe_bmK K rfl PySem.F.plainAttrs_list PySem.F.slot_list_append PySem.F.type_list_append mt_append (pv 3) (pa_cons (pe_tup (pa_cons (pv 5) (pa_cons (pv 7) pa_nil))) pa_nil)))
      (pss_one (ps_for PassesOwn.never rfl (pi_range1 (by rfl) T.m_range (pa_cons (pe_op op_mul (pe_call G_law_pick (hr.mono (by decide)) (by rfl) m_law_pick F_law_pick.kp b_law_pick .nil pass0 (pa_cons (pv 0) (pa_cons pe_int pa_nil))) (pe_callTy call_int1 (by rfl) T.m_int (by decide +kernel) (pa_cons (pe_cmpR (op_notIn_seqK K rfl) (pe_ix (ix_tupK K rfl) (pv 6) pe_int (fun _ _ => rfl)) (pe_tup (pa_cons pe_str (pa_cons pe_str pa_nil))) (by with_unfolding_all rfl)) pa_nil))) pa_nil)) (pg_name (i := 8) sc_law_copied.nd rfl (Or.inl rfl))
        (pss_one (ps_if (PW.pt (pw_and (pt_cmpR op_lt (pe_op op_sub (pe_op op_add (pe_callB (call_len_seqK K rfl) (by rfl) T.m_len (by decide +kernel) (pa_cons (pv 1) pa_nil)) (pe_callB (call_len_seqK K rfl) (by rfl) T.m_len (by decide +kernel) (pa_cons (pv 3) pa_nil))) (pv 5)) pe_int (nomark _)) (pw_and1 (pt_cmpR op_ge (pv 4) (pe_call G_law_needs (hr.mono (by decide)) (by rfl) m_law_needs F_law_needs.kp b_law_needs .nil pass0 (pa_cons (pv 6) pa_nil)) (nomark _))))) (pss_cons (ps_expr (pe_bmK K rfl PySem.F.plainAttrs_list PySem.F.slot_list_append PySem.F.type_list_append mt_append (pv 3) (pa_cons (pe_tup (pa_cons (pv 5) (pa_cons (pe_call G_law_pick (hr.mono (by decide)) (by rfl) m_law_pick F_law_pick.kp b_law_pick .nil pass0 (pa_cons (pv 0) (pa_cons pe_int pa_nil))) pa_nil))) pa_nil)))
      (pss_one (ps_set (i := 4) sc_law_copied.nd rfl (Or.inl rfl) (pe_op op_sub (pv 4) (pe_call G_law_needs (hr.mono (by decide)) (by rfl) m_law_needs F_law_needs.kp b_law_needs .nil pass0 (pa_cons (pv 6) pa_nil)))))) pss_nil))))))
      (PSs.to (pss_cons (ps_set (i := 3) sc_law_copied.nd rfl (Or.inr rfl) (pe_call G_law_shuffled (hr.mono (by decide)) (by rfl) m_law_shuffled F_law_shuffled.kp b_law_shuffled .nil pass0 (pa_cons (pv 0) (pa_cons (pv 3) pa_nil))))
      (pss_cons (ps_set (i := 9) sc_law_copied.nd rfl (Or.inl rfl) (pe_lst pa_nil))
      (pss_cons (ps_for PassesOwn.never rfl (pi_enumK K rfl (by rfl) T.m_enumerate (pa_cons (pv 3) pa_nil)) (pg_tupK K rfl rfl (pgs_cons (pg_name (i := 10) sc_law_copied.nd rfl (Or.inl rfl)) (pgs_cons (pg_tupK K rfl rfl (pgs_cons (pg_name (i := 5) sc_law_copied.nd rfl (Or.inl rfl)) (pgs_cons (pg_name (i := 7) sc_law_copied.nd rfl (Or.inl rfl)) pgs_nil))) pgs_nil)))
        (pss_one (ps_for PassesOwn.never rfl (pi_tupK K rfl (pv 2)) (pg_tupK K rfl rfl (pgs_cons (pg_name (i := 11) sc_law_copied.nd rfl (Or.inr rfl)) (pgs_cons (pg_name (i := 12) sc_law_copied.nd rfl (Or.inl rfl)) (pgs_cons (pg_name (i := 13) sc_law_copied.nd rfl (Or.inl rfl)) pgs_nil))))
        (pss_one (ps_if (pt_cmpR op_eq (pv 12) (pv 5) (nomark _)) (pss_cons (ps_setLc (i := 14) (own := [("_law_j", 15)]) (g := gName 15) (by rfl) sc_law_copied.nd rfl rfl (sw_true rfl rfl rfl (by decide +kernel)) (pi_range1 (by rfl) T.m_range (pa_cons (pe_callB (call_len_seqK K rfl) (by rfl) T.m_len (by decide +kernel) (pa_cons (pv 3) pa_nil)) pa_nil)) (blkOk_by (own := [("_law_j", 15)]) (N := N_law_copied) (sc := defScope s_law_copied) (by decide +kernel)) (fun _ _ _ _ _ => (pg_name (i := 15) sc_law_copied.nd rfl (Or.inl rfl))) (fun _ _ _ _ _ => pts_one (pt_cmpR op_eq (pe_ix (ix_tupK K rfl) (pe_ix (ix_listK K rfl) (pv 3) (pv 15) (fun _ _ => rfl)) pe_int (fun _ _ => rfl)) (pv 11) (nomark _))) (fun _ _ _ _ _ => (pv 15)))
      (pss_one (ps_expr (pe_bmK K rfl PySem.F.plainAttrs_list PySem.F.slot_list_append PySem.F.type_list_append mt_append (pv 9) (pa_cons (pe_tup (pa_cons (pe_ix (ix_listK K rfl) (pv 14) (pe_call G_law_pick (hr.mono (by decide)) (by rfl) m_law_pick F_law_pick.kp b_law_pick .nil pass0 (pa_cons (pv 0) (pa_cons (pe_callB (call_len_seqK K rfl) (by rfl) T.m_len (by decide +kernel) (pa_cons (pv 14) pa_nil)) pa_nil))) (fun _ _ => rfl)) (pa_cons (pv 10) (pa_cons (pv 13) pa_nil)))) pa_nil))))) pss_nil)))))
      (PSs.to (pss_one (ps_ret (pe_tup (pa_cons (pe_callTy (call_tuple_ofK K rfl) (by rfl) T.m_tuple (by decide +kernel) (pa_cons (pe_lc (own := [("_law_k", 5), ("_law_moments", 7)]) (g := gTup K 2 (gCons (gName 5) (gCons (gName 7) gNil))) (tt := tYes) (by rfl) sc_law_copied.nd (pi_listK K rfl (pv 3)) (blkOk_by (own := [("_law_k", 5), ("_law_moments", 7)]) (N := N_law_copied) (sc := defScope s_law_copied) (by decide +kernel)) (fun _ _ _ _ _ => (pg_tupK K rfl rfl (pgs_cons (pg_name (i := 5) sc_law_copied.nd rfl (Or.inl rfl)) (pgs_cons (pg_name (i := 7) sc_law_copied.nd rfl (Or.inl rfl)) pgs_nil)))) (fun _ _ _ _ _ => pts_nil) (fun _ _ _ _ _ => (pe_tup (pa_cons (pe_ix (ix_tupK K rfl) (pe_ix (ix_tupK K rfl) (pv 1) (pv 5) (fun _ _ => rfl)) pe_int (fun _ _ => rfl)) (pa_cons (pv 7) pa_nil))))) pa_nil)) (pa_cons (pe_callTy (call_tuple_ofK K rfl) (by rfl) T.m_tuple (by decide +kernel) (pa_cons (pv 9) pa_nil)) pa_nil))))) R2 ?tail2)))) R1 ?tail1))))), ?_⟩
  case tail1 =>
    rintro D' σ' H1 ⟨eD, ha, ba, ml, hv, bv, mv, hs, bs, ms, x4, x5, x6, x7, x8, rfl, hha, hba, alh, alb, ok, n0, hml, alm, md, mf, F1, B1⟩
    have few := md.few
    have lmv := alm.length
    have l20 := ok.many
    have lbv := alb.length
    refine ⟨_, rfl, _, rfl, f, c, ml, mv, rfl, SqL.of hml, mf, by omega, F1, fun p ys H2 pm np hp F2 B2 => ?_⟩
    obtain ⟨ns, pn, aln⟩ := alm.perm pm
    have md2 := md.perm pn
    have few2 := md2.few
    have lys := aln.length
    have k2 := TK.but F1 B2
    refine ⟨(by show 0 ≤ sizeLine; decide), fun fl nfl => ?_⟩
    have ff : fl ≠ f := F2.ne nfl
    have fc : fl ≠ c := F2.nec nfl
    have B12 := B1.trans B2
    have fl0 : H fl = none := B12.none nfl ff
    have k3 := TK.new (o := .lst []) nfl
    have hp3 := same_new (o := .lst []) nfl _ _ hp
    have pf : fl ≠ p := fun z => by rw [z, hp] at nfl; cases nfl
    refine ⟨_, rfl, p, ys, rfl, SqL.of hp3, for_it (J := Ite K p) (n := ys.length) (fun j σ H5 => ∃ (fv : List V) (fs : List BR) (x5 x7 x10 x11 x12 x13 x14 : Option V), σ = [some (.ref f), some (.ref ha), some (.ref ba), some (.ref p), x4, x5, x6, x7, x8, some (.ref fl), x10, x11, x12, x13, x14, none] ∧
      TK H2 H5 ∧ H5 p = some (.lst ys) ∧ H5 fl = some (.lst fv) ∧ All2 (BeltAt H5) fv fs ∧ Fd bs ns j 0 fs ∧ Flow H5 f c ∧ But f H H5) ⟨[], [], _, _, _, _, _, _, _, rfl, k3, hp3, upd_same, .nil, Fd.zero, F2.new nfl, B12.new nfl⟩ ?_ ?_ ?_ ?_⟩
    · rintro i σ H5 hi ⟨fv, fs, _, _, _, _, _, _, _, rfl, k5, hp5, _⟩
      exact ⟨ys, _, SqL.of hp5, List.getElem?_eq_getElem hi⟩
    · rintro σ H5 ⟨fv, fs, _, _, _, _, _, _, _, rfl, k5, hp5, _⟩
      exact ⟨ys, SqL.of hp5, Nat.le_refl _⟩
    · rintro j x σ H5 H6 hj ⟨fv, fs, x5, x7, x10, x11, x12, x13, x14, rfl, k5, hp5, hfl5, alf5, fd5, F5, B5⟩ ⟨t, y, rfl, nt, rfl, ey⟩
      obtain ⟨m, em, am, rfl, e1⟩ := aln.getL (ey ys (SqL.of hp5))
      have km : kOf ns j = m.1 := kOf_at em
      have kt := TK.new (o := .tup [V.int ((j : Nat) : Int), V.ref am]) nt
      have k6 := k5.trans kt
      have hm6 := k6 _ _ (k2 _ _ e1)
      refine ⟨t, _, rfl, SqT.of upd_same, rfl, _, _, rfl, _, _, rfl, am, _, rfl, SqT.of hm6, rfl, _, _, rfl, _, _, rfl, rfl, rfl, ?_⟩
      have k26 : TK H1 _ := k2.trans k6
      refine ⟨_, rfl, ba, rfl, ⟨_, SqT.of (k26 _ _ hba)⟩, for_tup (K := K) (a := ba) (xs := bv) (fun i σ H7 => ∃ (fv : List V) (fs : List BR) (x11 x12 x13 x14 : Option V), σ = [some (.ref f), some (.ref ha), some (.ref ba), some (.ref p), x4, some (nV m.1), x6, some (.int m.2), x8, some (.ref fl), some (nV j), x11, x12, x13, x14, none] ∧
        TK H2 H7 ∧ H7 p = some (.lst ys) ∧ H7 fl = some (.lst fv) ∧ All2 (BeltAt H7) fv fs ∧ Fd bs ns j i fs ∧ Flow H7 f c ∧ But f H H7) ⟨fv, fs, _, _, _, _, rfl, k6, same_new nt _ _ hp5, same_new nt _ _ hfl5, alf5.imp fun _ _ z => z.keep kt, fd5, F5.new nt, B5.new nt⟩ (fun i σ H7 _ ⟨_, _, _, _, _, _, _, k7, _⟩ => SqT.of (k7 _ _ (k2 _ _ hba))) ?_ ?_⟩
      · rintro i v σ H7 hx ⟨fv, fs, x11, x12, x13, x14, rfl, k7, hp7, hfl7, alf7, fd7, F7, B7⟩
        obtain ⟨b, eb1, tb, g, rfl, e2, e3⟩ := alb.getL hx
        have bm := List.mem_of_getElem? eb1
        have il := (List.getElem?_eq_some_iff.mp eb1).1
        have k17 := k2.trans k7
        have lfv := alf7.length
        have lfs := fd7.len
        refine ⟨tb, _, rfl, SqT.of (k17 _ _ e2), rfl, _, _, rfl, _, _, rfl, _, _, rfl, rfl, ?_⟩
        refine ⟨_, rfl, _, rfl, rfl, _, rfl, if_bl (fun c1 => ?_) (fun c1 => ?_)⟩
        · have c1 : b.to = m.1 := by have := V.int.inj (of_decide_eq_true c1); omega
          refine ⟨_, rfl, p, _, rfl, .inl (SqL.of hp7), _, rfl, by omega, by omega, fun D nD => lc_range (lo := 0) (n := ys.length) (fun q H8 => H8 D = some (.lst (((List.range q).filter fun z => decide (kOf ns z = b.one)).map nV)) ∧ Same H7 H8) ⟨upd_same, same_new nD⟩ ?_ ?_⟩
          · rintro q H8 hq ⟨hD, s8⟩
            obtain ⟨z, ez⟩ : ∃ z, ys[q]? = some z := ⟨_, List.getElem?_eq_getElem hq⟩
            obtain ⟨n, en, an, rfl, e4⟩ := aln.getL ez
            have kn : kOf ns q = n.1 := kOf_at en
            have fewq := filt_len (p := fun z => decide (kOf ns z = b.one)) q
            refine ⟨rfl, _, rfl, _, rfl, p, _, _, _, rfl, rfl, SqL.of (s8 _ _ hp7), at0 ez, an, _, _, _, rfl, rfl, SqT.of (s8 _ _ (k7 _ _ (k2 _ _ e4))), atI_nat (j := 0) rfl, _, rfl, rfl, _, rfl, if_bl (fun c2 => ?_) (fun c2 => ?_)⟩
            · have c2 : n.1 = b.one := by have := V.int.inj (of_decide_eq_true c2); omega
              refine ⟨_, rfl, _, hD, by rw [List.length_map]; exact small1000 (by omega), ?_, Same.own s8 nD⟩
              rw [upd_same, filt_succ, if_pos (decide_eq_true (by rw [kn]; exact c2)), List.map_append, Int.zero_add]
              rfl
            · have c2 : n.1 ≠ b.one := fun z => of_decide_eq_false c2 (by rw [z])
              refine ⟨?_, s8⟩
              rw [filt_succ, if_neg (fun z => c2 (by have := of_decide_eq_true z; rw [kn] at this; exact this)), List.append_nil]
              exact hD
          · rintro H8 ⟨hD, s8⟩
            obtain ⟨n0', hn0, en0⟩ := md2.all b.one (ok.ends b bm).1
            obtain ⟨z0, hz0, ez0⟩ := List.getElem_of_mem hn0
            have pos : 0 < ((List.range ys.length).filter fun z => decide (kOf ns z = b.one)).length := by
              refine List.length_pos_of_mem (a := z0) (List.mem_filter.mpr ⟨List.mem_range.mpr (by omega), decide_eq_true ?_⟩)
              rw [kOf_at (by rw [List.getElem?_eq_getElem hz0, ez0]), en0]
            have fewq := filt_len (p := fun z => decide (kOf ns z = b.one)) ys.length
            have Df : D ≠ f := F7.ne nD
            refine ⟨_, rfl, .inl ⟨rfl, _, SqL.of (s8 _ _ hfl7)⟩, _, rfl, _, rfl, _, rfl, D, _, rfl, .inl (SqL.of hD), f, c, _, rfl, by rw [List.length_map]; omega, Nat.lt_of_le_of_lt (Nat.log2_le_self _) (by rw [List.length_map]; omega), F7.same s8, fun u H9 u0 u1 F9 B9 => ?_⟩
            rw [List.length_map] at u1
            obtain ⟨o, eo⟩ : ∃ o, ((List.range ys.length).filter fun z => decide (kOf ns z = b.one))[u.toNat]? = some o := ⟨_, List.getElem?_eq_getElem (by omega)⟩
            obtain ⟨o1, o2⟩ := List.mem_filter.mp (List.mem_of_getElem? eo)
            have o1 := List.mem_range.mp o1
            have o2 : kOf ns o = b.one := of_decide_eq_true o2
            have uo : atI (((List.range ys.length).filter fun z => decide (kOf ns z = b.one)).map nV) u = some (nV o) := by
              have := atI_nat (xs := ((List.range ys.length).filter fun z => decide (kOf ns z = b.one)).map nV) (j := u.toNat) (v := nV o) (by rw [List.getElem?_map, eo]; rfl)
              rw [show ((u.toNat : Nat) : Int) = u by omega] at this
              exact this
            refine ⟨D, _, u, _, rfl, rfl, SqL.of (B9 _ _ hD Df), uo, _, rfl, _, rfl, (by show 3 ≤ sizeLine; decide), fun a na => ?_⟩
            have hfl9 := B9 _ _ (s8 _ _ hfl7) ff
            have hfl10 := same_new (o := .tup [nV o, nV j, V.ref g]) na _ _ hfl9
            have kk : TK H7 (upd (upd H9 a (.tup [nV o, nV j, V.ref g])) fl (.lst (fv ++ [V.ref a]))) := (((TK.same s8).trans (TK.but (F7.same s8) B9)).trans (TK.new (o := .tup [nV o, nV j, V.ref g]) na)).trans (TK.lst hfl10)
            refine ⟨fl, _, _, rfl, rfl, hfl10, small1000 (by omega), fv ++ [.ref a], fs ++ [⟨o, j, b.th⟩], _, _, _, _, rfl, k7.trans kk, ?_, upd_same, ?_, ?_, (F9.new na).lst ff fc, (((B7.same s8).trans B9).new na).own fl0⟩
            · rw [upd_ne pf.symm]
              exact same_new na _ _ (B9 _ _ (s8 _ _ hp7) (F1.ne np))
            · exact (alf7.imp fun _ _ z => z.keep kk).snoc ⟨a, g, rfl, TK.lst hfl10 _ _ upd_same, kk _ _ (k17 _ _ e3)⟩
            · exact fd7.more eb1 (by rw [km]; exact c1) (by omega) (by omega) o2
        · have c1 : b.to ≠ m.1 := fun z => of_decide_eq_false c1 (by rw [z])
          exact ⟨fv, fs, _, _, _, _, rfl, k7, hp7, hfl7, alf7, fd7.skip eb1 (by rw [km]; exact c1), F7, B7⟩
      · rintro σ H7 ⟨fv, fs, x11, x12, x13, x14, rfl, k7, hp7, hfl7, alf7, fd7, F7, B7⟩
        rw [lbv] at fd7
        exact ⟨fv, fs, _, _, _, _, _, _, _, rfl, k7, hp7, hfl7, alf7, fd7.up l20, F7, B7⟩
    · rintro σ H5 ⟨fv, fs, x5, x7, x10, x11, x12, x13, x14, rfl, k5, hp5, hfl5, alf5, fd5, F5, B5⟩
      have k15 := k2.trans k5
      rw [lys] at fd5
      exact ⟨eD, ha, p, fl, hv, ys, fv, hs, bs, fs, ns, _, _, _, _, _, _, _, _, _, _, _, rfl, k15 _ _ hha, alh.imp fun _ _ z => z.keep k15, ok, n0, hp5, aln.imp fun _ _ z => z.keep k15, md2, hfl5, alf5, fd5, F5, B5⟩
  case tail2 =>
    rintro D' σ' H1 ⟨eD, ha, ml, fl, hv, mv, fv, hs, bs, fs, ms, x2, x4, x5, x6, x7, x8, x10, x11, x12, x13, x14, rfl, hha, alh, ok, n0, hml, alm, md, hfl, alf, fd, F1, B1⟩
    have lmv := alm.length
    have lfv := alf.length
    have few := md.few
    have f20 : fs.length ≤ 300 := by have := fd.len; omega
    refine ⟨_, rfl, ml, rfl, ⟨_, SqL.of hml⟩, fun D nD => lc_list (K := K) (a := ml) (xs := mv) (fun i H5 => ∃ us : List V, H5 D = some (.lst us) ∧ us.length = i ∧ All2 (HandAt H5) us ((ms.take i).map (handN hs)) ∧ Same H1 H5) ⟨[], upd_same, rfl, .nil, same_new nD⟩ (fun i H5 _ ⟨_, _, _, _, s5⟩ => SqL.of (s5 _ _ hml)) ?_ ?_⟩
    · rintro i v H5 hx ⟨us, hD, lu, alu, s5⟩
      obtain ⟨m, em, am, rfl, e1⟩ := alm.getL hx
      have il := (List.getElem?_eq_some_iff.mp em).1
      obtain ⟨h0, eh0⟩ : ∃ h0, hs[m.1]? = some h0 := ⟨_, List.getElem?_eq_getElem (md.ok m (List.mem_of_getElem? em)).1⟩
      obtain ⟨x, ex, th, rr, rfl, e2, e3⟩ := alh.get eh0
      refine ⟨am, _, rfl, SqT.of (s5 _ _ e1), rfl, _, _, rfl, _, _, rfl, rfl, rfl, yes_in ⟨_, rfl, _, rfl, ha, _, _, _, rfl, rfl, SqT.of (s5 _ _ hha), atI_nat ex, th, _, _, _, rfl, rfl, SqT.of (s5 _ _ e2), atI_nat (j := 0) rfl, _, rfl, (by show 2 ≤ sizeLine; decide), fun p2 np2 => ?_⟩⟩
      have s7 := same_new (o := .tup [V.ref rr, V.int m.2]) np2
      have hD7 := s7 _ _ hD
      refine ⟨_, hD7, small1000 (by omega), us ++ [.ref p2], upd_same, by rw [List.length_append, lu]; rfl, ?_, Same.own (fun a o e => s7 _ _ (s5 _ _ e)) nD⟩
      rw [List.take_add_one, em, List.map_append]
      refine (alu.imp fun _ _ z => z.keep ((TK.same s7).trans (TK.lst hD7))).snoc ?_
      show HandAt _ _ (handN hs m)
      unfold handN
      rw [eh0]
      exact ⟨p2, rr, rfl, TK.lst hD7 _ _ upd_same, TK.lst hD7 _ _ (s7 _ _ (s5 _ _ e3))⟩
    · rintro H5 ⟨us, hD, lu, alu, s5⟩
      rw [lmv, List.take_length] at alu
      refine ⟨D, _, rfl, .inl ⟨SqL.of hD, fun p3 np3 => ?_⟩⟩
      have s6 := same_new (o := .tup us) np3
      refine ⟨_, rfl, fl, _, rfl, .inl ⟨SqL.of (s6 _ _ (s5 _ _ hfl)), fun p4 np4 => ⟨(by show 2 ≤ sizeLine; decide), fun r nr => ?_⟩⟩⟩
      have s7 := same_new (o := .tup fv) np4
      have s8 := same_new (o := .tup [V.ref p3, V.ref p4]) nr
      have s58 : Same H5 _ := fun a o e => s8 _ _ (s7 _ _ (s6 _ _ e))
      have s18 : Same H1 _ := fun a o e => s58 _ _ (s5 _ _ e)
      show D'.rt (.ref r) _
      rw [eD]
      exact q r _ fs _ ⟨p3, p4, us, fv, upd_same, s8 _ _ (s7 _ _ upd_same), s8 _ _ upd_same, alu.imp fun _ _ z => z.keep (TK.same s58), alf.imp fun _ _ z => z.keep (TK.same s18)⟩ (copied_ok ok md fd) (by obtain ⟨m, hm, _⟩ := md.all 0 n0; rw [List.length_map]; exact List.length_pos_of_mem hm) (F1.same s18) (B1.same s18)
  refine ⟨_, rfl, f, c, 3, rfl, by decide, by decide, hF, fun r hs bs H1 hR ok n0 F1 B1 => ?_⟩
  obtain ⟨ha, ba, hv, bv, er, eh, eb, alh, alb⟩ := hR.ex
  have lhv := alh.length
  have lbv := alb.length
  have l12 := ok.hands
  have l20 := ok.many
  refine ⟨r, _, rfl, SqT.of er, rfl, _, _, rfl, _, _, rfl, rfl, (by show 0 ≤ sizeLine; decide), fun ml nml => ?_⟩
  have mf : ml ≠ f := F1.ne nml
  have mc : ml ≠ c := F1.nec nml
  have k1 := TK.new (o := .lst []) nml
  have ml0 : H ml = none := B1.none nml mf
  refine ⟨_, rfl, ba, _, rfl, .inr (SqT.of (k1 _ _ eb)), _, _, rfl, rfl, ?_⟩
  refine ⟨_, rfl, ha, hv, rfl, SqT.of (k1 _ _ eh), for_it (J := IteT K ha hv) (n := hv.length) (fun i σ H5 => ∃ (mv : List V) (ms : List (Nat × Int)) (left : Int) (x5 x6 x7 x8 : Option V), σ = [some (.ref f), some (.ref ha), some (.ref ba), some (.ref ml), some (.int left), x5, x6, x7, x8, none, none, none, none, none, none, none] ∧
    TK H1 H5 ∧ H5 ml = some (.lst mv) ∧ All2 (MdAt H5) mv ms ∧ Mding hs bs i ms left ∧ Flow H5 f c ∧ But f H H5) ?_ ?_ ?_ ?_ ?_⟩
  · refine ⟨[], [], _, _, _, _, _, rfl, k1, upd_same, .nil, ⟨by show 0 + (hs.length - 0) ≤ 12; omega, (fun _ z => nomatch z), (fun _ z => absurd z (Nat.not_lt_zero _)), ?_, by omega⟩, F1.new nml, B1.new nml⟩
    show ((0 : Nat) : Int) + _ + _ = 20 + ((0 : Nat) : Int)
    omega
  · rintro i σ H5 hi ⟨mv, ms, left, x5, x6, x7, x8, rfl, k5, _⟩
    exact ⟨SqT.of (k5 _ _ eh), hi⟩
  · rintro σ H5 ⟨mv, ms, left, x5, x6, x7, x8, rfl, k5, _⟩
    exact ⟨SqT.of (k5 _ _ eh), rfl⟩
  · rintro i x σ H5 H6 hi ⟨mv, ms, left, x5, x6, x7, x8, rfl, k5, hml, alm, mi, F5, B5⟩ ⟨t, y, rfl, nt, rfl, ey⟩
    obtain ⟨h, eh2, t2, rr, rfl, e1, e2⟩ := alh.getL ey
    have gh := ok.good h (List.mem_of_getElem? eh2)
    have k6 := k5.trans (TK.new (o := .tup [V.int ((i : Nat) : Int), V.ref t2]) nt)
    have hml6 := same_new (o := .tup [V.int ((i : Nat) : Int), V.ref t2]) nt _ _ hml
    have F6 := F5.new (o := .tup [V.int ((i : Nat) : Int), V.ref t2]) nt
    have B6 := B5.new (o := .tup [V.int ((i : Nat) : Int), V.ref t2]) nt
    have lmv := alm.length
    have few := mi.few
    refine ⟨t, _, rfl, SqT.of upd_same, rfl, _, _, rfl, _, _, rfl, t2, _, rfl, SqT.of (k6 _ _ e1), rfl, _, _, rfl, _, _, rfl, rfl, rfl, ?_⟩
    refine ⟨_, rfl, .inl ⟨rfl, _, SqL.of hml6⟩, _, rfl, _, rfl, (by show 2 ≤ sizeLine; decide), fun a na => ⟨ml, _, _, rfl, rfl, same_new na _ _ hml6, small1000 (by omega), ?_⟩⟩
    have hml7 := same_new (o := .tup [nV i, V.int h.mom]) na _ _ hml6
    have kk : TK _ (upd (upd (upd H5 t (.tup [V.int ((i : Nat) : Int), V.ref t2])) a (.tup [nV i, V.int h.mom])) ml (.lst (mv ++ [V.ref a]))) := (TK.new (o := .tup [nV i, V.int h.mom]) na).trans (TK.lst hml7)
    have k7 := k6.trans kk
    have alm7 := (alm.imp fun _ _ z => z.keep ((TK.new (o := .tup [V.int ((i : Nat) : Int), V.ref t2]) nt).trans kk)).snoc (show MdAt (upd (upd (upd H5 t (.tup [V.int ((i : Nat) : Int), V.ref t2])) a (.tup [nV i, V.int h.mom])) ml (.lst (mv ++ [V.ref a]))) (V.ref a) (i, h.mom) from ⟨a, rfl, TK.lst hml7 _ _ upd_same⟩)
    have mi7 := mi.own eh2 gh
    have F7 := (F6.new (o := .tup [nV i, V.int h.mom]) na).lst (o := .lst (mv ++ [V.ref a])) mf mc
    have B7 : But f H (upd (upd (upd H5 t (.tup [V.int ((i : Nat) : Int), V.ref t2])) a (.tup [nV i, V.int h.mom])) ml (.lst (mv ++ [V.ref a]))) := (B6.new (o := .tup [nV i, V.int h.mom]) na).own ml0
    have il := (List.getElem?_eq_some_iff.mp eh2).1
    have h7 : (upd (upd (upd H5 t (.tup [V.int ((i : Nat) : Int), V.ref t2])) a (.tup [nV i, V.int h.mom])) ml (.lst (mv ++ [V.ref a]))) ml = some (.lst (mv ++ [V.ref a])) := upd_same
    generalize (upd (upd (upd H5 t (.tup [V.int ((i : Nat) : Int), V.ref t2])) a (.tup [nV i, V.int h.mom])) ml (.lst (mv ++ [V.ref a]))) = H7 at h7 k7 alm7 F7 B7 ⊢
    refine ⟨_, rfl, f, c, 3, rfl, by decide, by decide +kernel, F7, fun v H8 v0 v1 F8 B8 => ?_⟩
    have k8 := k7.trans (TK.but F7 B8)
    have sm := fun b => small_mul (v := v) (b := b) v0 (by omega)
    refine ⟨_, rfl, rr, _, _, _, rfl, rfl, SqT.of (k8 _ _ e2), atI_nat (j := 0) rfl, (by show 2 ≤ sizeLine; decide), fun u nu => ⟨u, _, rfl, .inr (SqT.of upd_same), rfl, rfl, .inr ⟨_, rfl, _, _, rfl, rfl, .inl ⟨by omega, by omega⟩, _, rfl, Int.le_trans (by decide) (sm _).1, Int.lt_of_le_of_lt (sm _).2 (by decide), for_range (lo := 0) (n := _) (fun i' σ H9 => ∃ (mv : List V) (ms : List (Nat × Int)) (left : Int) (x8 : Option V), σ = [some (.ref f), some (.ref ha), some (.ref ba), some (.ref ml), some (.int left), some (nV i), some (.ref rr), some (.int h.mom), x8, none, none, none, none, none, none, none] ∧
      TK H1 H9 ∧ H9 ml = some (.lst mv) ∧ All2 (MdAt H9) mv ms ∧ Mding hs bs (i + 1) ms left ∧ Flow H9 f c ∧ But f H H9) ?_ ?_ ?_⟩⟩⟩
    · have nu1 := TK.new (o := .tup [V.str "in", V.str "out"]) nu
      exact ⟨_, _, left, _, rfl, k8.trans nu1, same_new nu _ _ (B8 _ _ h7 mf), alm7.imp fun _ _ z => z.keep ((TK.but F7 B8).trans nu1), mi7, F8.new nu, (B7.trans B8).new nu⟩
    · rintro i' σ H9 hi' ⟨mv, ms, left, x8, rfl, k9, hml9, alm9, mi9, F9, B9⟩
      have lm9 := alm9.length
      have few9 := mi9.few
      have nd : ¬ (h.wd = "in" ∨ h.wd = "out") := fun z => by
        have e : inV (.str h.wd) [V.str "in", V.str "out"] = true := by rcases z with z | z <;> rw [z] <;> decide +kernel
        rw [e] at hi'
        simp at hi'
      refine ⟨_, rfl, ha, _, rfl, .inr (SqT.of (k9 _ _ eh)), _, rfl, ml, _, rfl, .inl (SqL.of hml9), _, _, rfl, rfl, _, rfl, _, _, rfl, rfl, _, _, rfl, rfl, _, rfl, if_bl (fun c1 => ?_) (fun c1 => ?_)⟩
      · have c1 := of_decide_eq_true c1
        refine ⟨_, rfl, _, rfl, rr, h.wd, _, rfl, SqT.of (k9 _ _ e2), fun H10 s10 => ⟨_, _, rfl, rfl, _, rfl, if_bl (fun c2 => ?_) (fun c2 => ?_)⟩⟩
        · have c2 := of_decide_eq_true c2
          refine ⟨_, rfl, .inl ⟨rfl, _, SqL.of (s10 _ _ hml9)⟩, _, rfl, _, rfl, f, c, 31, rfl, by decide, by decide +kernel, F9.same s10, fun v2 H11 w0 w1 F11 B11 => ⟨(by show 2 ≤ sizeLine; decide), fun a2 na2 => ⟨ml, _, _, rfl, rfl, same_new na2 _ _ (B11 _ _ (s10 _ _ hml9) mf), small1000 (by omega), ?_⟩⟩⟩
          have hml11 := same_new (o := .tup [nV i, V.int v2]) na2 _ _ (B11 _ _ (s10 _ _ hml9) mf)
          have kk : TK H9 (upd (upd H11 a2 (.tup [nV i, V.int v2])) ml (.lst (mv ++ [V.ref a2]))) := (((TK.same s10).trans (TK.but (F9.same s10) B11)).trans (TK.new (o := .tup [nV i, V.int v2]) na2)).trans (TK.lst hml11)
          have F12 := (F11.new (o := .tup [nV i, V.int v2]) na2).lst (o := .lst (mv ++ [V.ref a2])) mf mc
          have B12 : But f H (upd (upd H11 a2 (.tup [nV i, V.int v2])) ml (.lst (mv ++ [V.ref a2]))) := (((B9.same s10).trans B11).new (o := .tup [nV i, V.int v2]) na2).own ml0
          refine ⟨_, rfl, _, rfl, rr, h.wd, _, rfl, SqT.of (kk _ _ (k9 _ _ e2)), fun H12 s12 => ⟨_, _, rfl, rfl, ?_⟩⟩
          exact ⟨_, ms ++ [(i, v2)], left - needs h.wd, _, rfl, (k9.trans kk).trans (TK.same s12), s12 _ _ upd_same, ((alm9.imp fun _ _ z => z.keep kk).snoc (show MdAt _ (V.ref a2) (i, v2) from ⟨a2, rfl, TK.lst hml11 _ _ upd_same⟩)).imp fun _ _ z => z.keep (TK.same s12), mi9.more eh2 (ok.count i h eh2) (by omega) w0 w1 (by omega) nd, F12.same s12, B12.same s12⟩
        · exact ⟨mv, ms, left, _, rfl, k9.trans (TK.same s10), s10 _ _ hml9, alm9.imp fun _ _ z => z.keep (TK.same s10), mi9, F9.same s10, B9.same s10⟩
      · exact ⟨mv, ms, left, _, rfl, k9, hml9, alm9, mi9, F9, B9⟩
    · rintro σ H9 ⟨mv, ms, left, x8, rfl, k9, hml9, alm9, mi9, F9, B9⟩
      exact ⟨mv, ms, left, _, _, _, _, rfl, k9, hml9, alm9, mi9, F9, B9⟩
  · rintro σ H5 ⟨mv, ms, left, x5, x6, x7, x8, rfl, k5, hml, alm, mi, F5, B5⟩
    rw [lhv] at mi
    exact ⟨rfl, ha, ba, ml, hv, bv, mv, hs, bs, ms, _, _, _, _, _, rfl, k5 _ _ eh, k5 _ _ eb, alh.imp fun _ _ z => z.keep k5, alb.imp fun _ _ z => z.keep k5, ok, n0, hml, alm, mi.done ok, mf, F5, B5⟩
end
/-! ### slices and sums of tuples, whatever they are -/
theorem slA_of {K : PySem.W.Frag} {H : Hp} {a : Addr} {xs : List V} {lo hi : Option Int} {Q : VK} (h : H a = some (.tup xs)) (k : ∀ (p : Addr) (H' : Hp), H' p = some (.tup (cutV xs lo hi)) → Same H H' → Q (.ref p) H') : rSlA K (.ref a) lo hi H Q := by
  refine ⟨a, xs, rfl, SqT.of h, fun z => k a H ?_ (Same.refl _), fun _ p np => k p _ upd_same (same_new np)⟩
  unfold cutV
  rw [z.1, z.2, List.drop_zero, Nat.sub_zero, List.take_length]
  exact h
theorem catA_of {K : PySem.W.Frag} {H : Hp} {a b : Addr} {xs ys : List V} {Q : VK} (h : H a = some (.tup xs)) (g : H b = some (.tup ys)) (l : xs.length + ys.length ≤ 1000) (k : ∀ (p : Addr) (H' : Hp), H' p = some (.tup (xs ++ ys)) → Same H H' → Q (.ref p) H') : rCatA K (.ref a) (.ref b) H Q := by
  refine ⟨a, b, xs, ys, rfl, rfl, SqT.of h, SqT.of g, little l, fun e => k b H ?_ (Same.refl _), fun _ e => k a H ?_ (Same.refl _), fun _ _ p np => k p _ upd_same (same_new np)⟩
  · rw [e]; exact g
  · rw [e, List.append_nil]; exact h
theorem cut_take (xs : List V) (k : Nat) : cutV xs none (some ((k : Nat) : Int)) = xs.take k := by
  unfold cutV
  rw [HT.sIx_nat, HT.sIx_none, List.drop_zero, Nat.sub_zero]
  by_cases h : k ≤ xs.length
  · rw [Nat.min_eq_left h]
  · rw [Nat.min_eq_right (by omega), List.take_length, List.take_of_length_le (by omega)]
theorem cut_part {xs : List V} {lo hi : Option Int} : ∀ x ∈ cutV xs lo hi, x ∈ xs := fun x hx => List.mem_of_mem_drop (List.mem_of_mem_take hx)
theorem cut_nats {ns : List Nat} {lo hi : Option Int} : ∃ ms : List Nat, cutV (ns.map nV) lo hi = ms.map nV ∧ ms.length ≤ ns.length ∧ ∀ x ∈ ms, x ∈ ns := by
  refine ⟨(ns.drop (HT.sIx (ns.map nV).length 0 lo)).take (HT.sIx (ns.map nV).length (ns.map nV).length hi - HT.sIx (ns.map nV).length 0 lo), ?_, ?_, fun x hx => List.mem_of_mem_drop (List.mem_of_mem_take hx)⟩
  · unfold cutV
    rw [List.map_take, List.map_drop]
  · rw [List.length_take, List.length_drop]
    omega
/-! ### rooms marred: one thing of a room otherwise -/
theorem All2.tk {α β : Type} {R : α → β → Prop} : ∀ {as : List α} {bs : List β} (k : Nat), All2 R as bs → All2 R (as.take k) (bs.take k)
  | _, _, 0, _ => .nil
  | _, _, _ + 1, .nil => .nil
  | _, _, k + 1, .cons a b => .cons a (All2.tk k b)
theorem All2.dr {α β : Type} {R : α → β → Prop} : ∀ {as : List α} {bs : List β} (k : Nat), All2 R as bs → All2 R (as.drop k) (bs.drop k)
  | _, _, 0, h => h
  | _, _, _ + 1, .nil => .nil
  | _, _, k + 1, .cons _ b => All2.dr k b
theorem All2.ap {α β : Type} {R : α → β → Prop} {cs : List α} {ds : List β} (b : All2 R cs ds) : ∀ {as : List α} {bs : List β}, All2 R as bs → All2 R (as ++ cs) (bs ++ ds)
  | _, _, .nil => b
  | _, _, .cons h t => .cons h (All2.ap b t)
/-- l with x at place k -/
theorem set_cut {α : Type} : ∀ {l : List α} {k : Nat} {x : α}, k < l.length → l.set k x = l.take k ++ [x] ++ l.drop (k + 1)
  | _ :: _, 0, _, _ => rfl
  | y :: l, k + 1, x, h => by
    show y :: l.set k x = y :: (l.take k ++ [x] ++ l.drop (k + 1))
    rw [set_cut (by simpa using h)]
theorem All2.cutIn {α β : Type} {R : α → β → Prop} {as : List α} {bs : List β} {k : Nat} {a : α} {b : β} (h : All2 R as bs) (r : R a b) (hk : k < bs.length) : All2 R (as.take k ++ [a] ++ as.drop (k + 1)) (bs.set k b) := by
  rw [set_cut hk]
  exact All2.ap (h.dr (k + 1)) (All2.ap (.cons r .nil) (h.tk k))
theorem cut_end (xs : List V) (k : Nat) : cutV xs (some (((k : Nat) : Int) + 1)) none = xs.drop (k + 1) := by
  unfold cutV
  have e : ((k : Nat) : Int) + 1 = (((k + 1 : Nat)) : Int) := by omega
  rw [e, HT.sIx_nat, HT.sIx_none]
  by_cases h : k + 1 ≤ xs.length
  · rw [Nat.min_eq_left h, List.take_of_length_le (by rw [List.length_drop]; omega)]
  · rw [Nat.min_eq_right (by omega), Nat.sub_self, List.take_zero, List.drop_eq_nil_of_le (by omega)]
theorem set_map {α β : Type} {f : α → β} {l : List α} {k : Nat} {x y : α} (e : l[k]? = some y) (h : f x = f y) : (l.set k x).map f = l.map f := by
  refine List.ext_getElem? fun i => ?_
  rw [List.getElem?_map, List.getElem?_map, List.getElem?_set]
  by_cases z : k = i
  · subst z
    rw [if_pos rfl, if_pos (List.getElem?_eq_some_iff.mp e).1, e]
    exact congrArg some h
  · rw [if_neg z]
theorem hand_ok {hs : List HR} {bs : List BR} {k : Nat} {g h : HR} (ok : RoomOk hs bs) (e : hs[k]? = some h) (gd : GoodHand g) (no : g.wd ≠ "out") (nd : needs g.wd = needs h.wd) : RoomOk (hs.set k g) bs := by
  have ln : (hs.set k g).length = hs.length := List.length_set ..
  have kl := (List.getElem?_eq_some_iff.mp e).1
  have at_ : ∀ {j h'}, (hs.set k g)[j]? = some h' → (j = k ∧ h' = g) ∨ hs[j]? = some h' := fun {j h'} z => by
    rw [List.getElem?_set] at z
    by_cases q : k = j
    · subst q
      rw [if_pos rfl, if_pos kl] at z
      exact .inl ⟨rfl, (Option.some.inj z).symm⟩
    · rw [if_neg q] at z; exact .inr z
  refine ⟨by rw [ln]; exact ok.hands, fun h' hm => ?_, fun b hb => by rw [ln]; exact ok.ends b hb, fun b hb h' z => ?_, ok.th, ok.rank, fun j h' z => ?_, ok.many⟩
  · rcases List.mem_or_eq_of_mem_set hm with q | q
    · exact ok.good h' q
    · rw [q]; exact gd
  · rcases at_ z with ⟨_, q⟩ | q
    · rw [q]; exact no
    · exact ok.out b hb h' q
  · rcases at_ z with ⟨q1, q2⟩ | q
    · rw [q1, q2, nd]; exact ok.count k h e
    · exact ok.count j h' q
theorem belt_ok {hs : List HR} {bs : List BR} {k : Nat} {b c : BR} (ok : RoomOk hs bs) (e : bs[k]? = some b) (to : c.to = b.to) (one : c.one < hs.length) (out : ∀ h, hs[c.one]? = some h → h.wd ≠ "out") (th : c.th.length ≤ 6 ∧ ∀ x ∈ c.th, Small x) (ne : c.th = [] → c.one = b.one ∧ b.th = []) : RoomOk hs (bs.set k c) := by
  have bm := List.mem_of_getElem? e
  obtain ⟨rk, hrk⟩ := ok.rank
  have mem : ∀ {x}, x ∈ bs.set k c → x ∈ bs ∨ x = c := fun hx => List.mem_or_eq_of_mem_set hx
  refine ⟨ok.hands, ok.good, fun x hx => ?_, fun x hx h z => ?_, fun x hx => ?_, ⟨rk, fun x hx z => ?_⟩, fun j h z => ?_, by rw [List.length_set]; exact ok.many⟩
  · rcases mem hx with q | q
    · exact ok.ends x q
    · rw [q]; exact ⟨one, by rw [to]; exact (ok.ends b bm).2⟩
  · rcases mem hx with q | q
    · exact ok.out x q h z
    · rw [q] at z; exact out h z
  · rcases mem hx with q | q
    · exact ok.th x q
    · rw [q]; exact th
  · rcases mem hx with q | q
    · exact hrk x q z
    · subst q
      obtain ⟨a1, a2⟩ := ne z
      rw [a1, to]
      exact hrk b bm a2
  · rw [set_map e to]; exact ok.count j h z
section
variable {P : Program} {w : World} {K : PySem.W.Frag} {mg : Str → Option Value} {base : Heap}
def sp_law_marred (K : PySem.W.Frag) : Sp := fun vs H Q _ => ∃ (f c r : Addr) (hs : List HR) (bs : List BR), vs = [.ref f, .ref r] ∧ Flow H f c ∧ RoomAt H r hs bs ∧ RoomOk hs bs ∧ 0 < hs.length ∧
  ∀ (r' : Addr) (hs' : List HR) (bs' : List BR) (H' : Hp), RoomAt H' r' hs' bs' → RoomOk hs' bs' → 0 < hs'.length → Flow H' f c → But f H H' → Q (.ref r') H'
theorem ok_law_marred {f : Addr} {fd : FuncData} (F : Fun K "_law_marred" "_law_marred" s_law_marred f fd) (T : Top w K mg) : FnOk P w K mg base CX0 2 f fd ["_law_flow_here", "_law_room_here"] (sp_law_marred K) := by
  obtain ⟨f_law_pick, fd_law_pick, F_law_pick, b_law_pick, m_law_pick⟩ := T.d_law_pick
  have G_law_pick := ok_law_pick (P := P) (w := w) (base := base) F_law_pick T
  obtain ⟨f_law_needs, fd_law_needs, F_law_needs, b_law_needs, m_law_needs⟩ := T.d_law_needs
  have G_law_needs := ok_law_needs (P := P) (w := w) (base := base) F_law_needs T
  refine F.ok sc_law_marred (fun vs H Q E h => ?_) (fun cdv A outer s H vs Q E hr h => ?_)
  · obtain ⟨f, c, r, hs, bs, rfl, _⟩ := h
    rfl
  obtain ⟨f, c, r, hs, bs, rfl, hF, hR, ok, n0, q⟩ := h
  obtain ⟨ha, ba, hv, bv, er, eh, eb, alh, alb⟩ := hR.ex
  have lhv := alh.length
  have lbv := alb.length
  have l12 := ok.hands
  have l20 := ok.many
  let R1 : TS := fun D' σ' H' => D'.rt = Q ∧ ∃ (v : Int) (k : Nat) (x6 x7 : Option V), σ' = [some (.ref f), some (.ref r), some (.ref ha), some (.ref ba), some (.int v), some (nV k), x6, x7, none, none, none, none, none, none, none, none] ∧ Flow H' f c ∧ But f H H'
  let Fin : L2.St → Hp → Prop := fun σ' H' => ∃ (at_ : Nat) (b b' : BR) (g : Addr) (x4 x5 x6 x7 x13 x15 : Option V), σ' = [some (.ref f), some (.ref r), some (.ref ha), some (.ref ba), x4, x5, x6, x7, none, some (nV at_), some (nV b'.one), some (nV b'.to), some (.ref g), x13, none, x15] ∧
    bs[at_]? = some b ∧ H' g = some (.tup (b'.th.map V.int)) ∧ RoomOk hs (bs.set at_ b') ∧ Flow H' f c ∧ But f H H'
  let R2 : TS := fun D' σ' H' => (∀ σ H, Fin σ H → D'.nx σ H) ∧ ∃ (at_ : Nat) (b : BR) (g : Addr) (x4 x5 x6 x7 : Option V), σ' = [some (.ref f), some (.ref r), some (.ref ha), some (.ref ba), x4, x5, x6, x7, none, some (nV at_), some (nV b.one), some (nV b.to), some (.ref g), none, none, none] ∧
    bs[at_]? = some b ∧ H' g = some (.tup (b.th.map V.int)) ∧ Flow H' f c ∧ But f H H'
  let R3 : TS := fun D' σ' H' => D'.rt = Q ∧ Fin σ' H'
  have same : ∀ {i : Nat} {b : BR}, bs[i]? = some b → RoomOk hs (bs.set i b) := fun {i b} e => belt_ok ok e rfl (ok.ends b (List.mem_of_getElem? e)).1 (fun h z => ok.out b (List.mem_of_getElem? e) h z) (ok.th b (List.mem_of_getElem? e)) fun z => ⟨rfl, z⟩
  refine ⟨_, (pss_cons (ps_asg (pv 1) (pg_tupK K rfl rfl (pgs_cons (pg_name (i := 2) sc_law_marred.nd rfl (Or.inr rfl)) (pgs_cons (pg_name (i := 3) sc_law_marred.nd rfl (Or.inl rfl)) pgs_nil))))
      (pss_cons (ps_set (i := 4) sc_law_marred.nd rfl (Or.inl rfl) (pe_call G_law_pick (hr.mono (by decide)) (by rfl) m_law_pick F_law_pick.kp b_law_pick .nil pass0 (pa_cons (pv 0) (pa_cons pe_int pa_nil))))
      (pss_cons (ps_set (i := 5) sc_law_marred.nd rfl (Or.inr rfl) (pe_call G_law_pick (hr.mono (by decide)) (by rfl) m_law_pick F_law_pick.kp b_law_pick .nil pass0 (pa_cons (pv 0) (pa_cons (pe_callB (call_len_seqK K rfl) (by rfl) T.m_len (by decide +kernel) (pa_cons (pv 2) pa_nil)) pa_nil))))
      (pss_cons (ps_if (PW.pt (pw_and (pt_cmpR op_eq (pv 4) pe_int (nomark _)) (pw_and1 (pt_cmpR (op_notIn_seqK K rfl) (pe_ix (ix_tupK K rfl) (pe_ix (ix_tupK K rfl) (pe_ix (ix_tupK K rfl) (pv 2) (pv 5) (fun _ _ => rfl)) pe_int (fun _ _ => rfl)) pe_int (fun _ _ => rfl)) (pe_tup (pa_cons pe_str (pa_cons pe_str pa_nil))) (by with_unfolding_all rfl))))) (pss_cons (ps_set (i := 6) sc_law_marred.nd rfl (Or.inl rfl) (pe_lst (pa_cons (pe_tup (pa_cons pe_str pa_nil)) (pa_cons (pe_tup (pa_cons pe_str (pa_cons pe_int pa_nil))) (pa_cons (pe_tup (pa_cons pe_str pa_nil)) (pa_cons (pe_tup (pa_cons pe_str pa_nil)) pa_nil))))))
      (pss_cons (ps_setLc (i := 7) (own := [("_law_rule_here", 8)]) (g := gName 8) (by rfl) sc_law_marred.nd rfl rfl (sw_true rfl rfl rfl (by decide +kernel)) (pi_listK K rfl (pv 6)) (blkOk_by (own := [("_law_rule_here", 8)]) (N := N_law_marred) (sc := defScope s_law_marred) (by decide +kernel)) (fun _ _ _ _ _ => (pg_name (i := 8) sc_law_marred.nd rfl (Or.inl rfl))) (fun _ _ _ _ _ => pts_one (pt_cmpR op_eq (pe_call G_law_needs (hr.mono (by decide)) (by rfl) m_law_needs F_law_needs.kp b_law_needs .nil pass0 (pa_cons (pv 8) pa_nil)) (pe_call G_law_needs (hr.mono (by decide)) (by rfl) m_law_needs F_law_needs.kp b_law_needs .nil pass0 (pa_cons (pe_ix (ix_tupK K rfl) (pe_ix (ix_tupK K rfl) (pv 2) (pv 5) (fun _ _ => rfl)) pe_int (fun _ _ => rfl)) pa_nil)) (nomark _))) (fun _ _ _ _ _ => (pv 8)))
      (pss_one (ps_if (pt_cmpR op_gt (pe_callB (call_len_seqK K rfl) (by rfl) T.m_len (by decide +kernel) (pa_cons (pv 7) pa_nil)) pe_int (nomark _)) (pss_one (ps_ret (pe_tup (pa_cons (pe_op (op_catAK K rfl) (pe_op (op_catAK K rfl) (pe_slice (sl_tupAK K rfl) (pv 2) po_none (po_some (pv 5))) (pe_tup (pa_cons (pe_tup (pa_cons (pe_ix (ix_listK K rfl) (pv 7) (pe_call G_law_pick (hr.mono (by decide)) (by rfl) m_law_pick F_law_pick.kp b_law_pick .nil pass0 (pa_cons (pv 0) (pa_cons (pe_callB (call_len_seqK K rfl) (by rfl) T.m_len (by decide +kernel) (pa_cons (pv 7) pa_nil)) pa_nil))) (fun _ _ => rfl)) (pa_cons (pe_ix (ix_tupK K rfl) (pe_ix (ix_tupK K rfl) (pv 2) (pv 5) (fun _ _ => rfl)) pe_int (fun _ _ => rfl)) pa_nil))) pa_nil))) (pe_slice (sl_tupAK K rfl) (pv 2) (po_some (pe_op op_add (pv 5) pe_int)) po_none)) (pa_cons (pv 3) pa_nil))))) pss_nil)))) pss_nil)
      (PSs.to (pss_cons (ps_if (pt_cmpR op_eq (pe_callB (call_len_seqK K rfl) (by rfl) T.m_len (by decide +kernel) (pa_cons (pv 3) pa_nil)) pe_int (nomark _)) (pss_one (ps_ret (pv 1))) pss_nil)
      (pss_cons (ps_set (i := 9) sc_law_marred.nd rfl (Or.inl rfl) (pe_call G_law_pick (hr.mono (by decide)) (by rfl) m_law_pick F_law_pick.kp b_law_pick .nil pass0 (pa_cons (pv 0) (pa_cons (pe_callB (call_len_seqK K rfl) (by rfl) T.m_len (by decide +kernel) (pa_cons (pv 3) pa_nil)) pa_nil))))
      (pss_cons (ps_asg (pe_ix (ix_tupK K rfl) (pv 3) (pv 9) (fun _ _ => rfl)) (pg_tupK K rfl rfl (pgs_cons (pg_name (i := 10) sc_law_marred.nd rfl (Or.inl rfl)) (pgs_cons (pg_name (i := 11) sc_law_marred.nd rfl (Or.inl rfl)) (pgs_cons (pg_name (i := 12) sc_law_marred.nd rfl (Or.inl rfl)) pgs_nil)))))
      (pss_cons (ps_if (PW.pt (pw_and (pt_cmpR op_eq (pv 4) pe_int (nomark _)) (pw_and1 (pt_cmpR op_lt (pe_callB (call_len_seqK K rfl) (by rfl) T.m_len (by decide +kernel) (pa_cons (pv 12) pa_nil)) pe_int (nomark _))))) (pss_one (ps_set (i := 12) sc_law_marred.nd rfl (Or.inl rfl) (pe_op (op_catAK K rfl) (pv 12) (pe_tup (pa_cons (pe_call G_law_pick (hr.mono (by decide)) (by rfl) m_law_pick F_law_pick.kp b_law_pick .nil pass0 (pa_cons (pv 0) (pa_cons pe_int pa_nil))) pa_nil))))) (pss_one (ps_if (PW.pt (pw_and (pt_cmpR op_eq (pv 4) pe_int (nomark _)) (pw_and1 (pt_cmpR op_gt (pe_callB (call_len_seqK K rfl) (by rfl) T.m_len (by decide +kernel) (pa_cons (pv 12) pa_nil)) pe_int (nomark _))))) (pss_cons (ps_setLc (i := 13) (own := [("_law_j", 14)]) (g := gName 14) (by rfl) sc_law_marred.nd rfl rfl (sw_true rfl rfl rfl (by decide +kernel)) (pi_range1 (by rfl) T.m_range (pa_cons (pe_callB (call_len_seqK K rfl) (by rfl) T.m_len (by decide +kernel) (pa_cons (pv 2) pa_nil)) pa_nil)) (blkOk_by (own := [("_law_j", 14)]) (N := N_law_marred) (sc := defScope s_law_marred) (by decide +kernel)) (fun _ _ _ _ _ => (pg_name (i := 14) sc_law_marred.nd rfl (Or.inl rfl))) (fun _ _ _ _ _ => pts_one (pt_cmpR (op_neDK K rfl hr.units) (pe_ix (ix_tupK K rfl) (pe_ix (ix_tupK K rfl) (pv 2) (pv 14) (fun _ _ => rfl)) pe_int (fun _ _ => rfl)) (pe_tup (pa_cons pe_str pa_nil)) (nomark _))) (fun _ _ _ _ _ => (pv 14)))
      (pss_one (ps_set (i := 10) sc_law_marred.nd rfl (Or.inl rfl) (pe_ix (ix_listK K rfl) (pv 13) (pe_call G_law_pick (hr.mono (by decide)) (by rfl) m_law_pick F_law_pick.kp b_law_pick .nil pass0 (pa_cons (pv 0) (pa_cons (pe_callB (call_len_seqK K rfl) (by rfl) T.m_len (by decide +kernel) (pa_cons (pv 13) pa_nil)) pa_nil))) (fun _ _ => rfl))))) (PSs.to (pss_one (ps_if (pt_cmpR op_gt (pe_callB (call_len_seqK K rfl) (by rfl) T.m_len (by decide +kernel) (pa_cons (pv 12) pa_nil)) pe_int (nomark _)) (pss_cons (ps_set (i := 15) sc_law_marred.nd rfl (Or.inl rfl) (pe_call G_law_pick (hr.mono (by decide)) (by rfl) m_law_pick F_law_pick.kp b_law_pick .nil pass0 (pa_cons (pv 0) (pa_cons (pe_callB (call_len_seqK K rfl) (by rfl) T.m_len (by decide +kernel) (pa_cons (pv 12) pa_nil)) pa_nil))))
      (pss_one (ps_set (i := 12) sc_law_marred.nd rfl (Or.inl rfl) (pe_op (op_catAK K rfl) (pe_op (op_catAK K rfl) (pe_slice (sl_tupAK K rfl) (pv 12) po_none (po_some (pv 15))) (pe_tup (pa_cons (pe_op op_add (pe_ix (ix_tupK K rfl) (pv 12) (pv 15) (fun _ _ => rfl)) (pe_ix (ix_listK K rfl) (pe_lst (pa_cons pe_int (pa_cons (pe_un un_neg pe_int) pa_nil))) (pe_callTy call_int1 (by rfl) T.m_int (by decide +kernel) (pa_cons (pe_cmpR op_gt (pe_ix (ix_tupK K rfl) (pv 12) (pv 15) (fun _ _ => rfl)) pe_int (nomark _)) pa_nil)) (fun _ _ => rfl))) pa_nil))) (pe_slice (sl_tupAK K rfl) (pv 12) (po_some (pe_op op_add (pv 15) pe_int)) po_none))))) pss_nil)) R2 ?tail2))))
      (PSs.to (pss_one (ps_ret (pe_tup (pa_cons (pv 2) (pa_cons (pe_op (op_catAK K rfl) (pe_op (op_catAK K rfl) (pe_slice (sl_tupAK K rfl) (pv 3) po_none (po_some (pv 9))) (pe_tup (pa_cons (pe_tup (pa_cons (pv 10) (pa_cons (pv 11) (pa_cons (pv 12) pa_nil)))) pa_nil))) (pe_slice (sl_tupAK K rfl) (pv 3) (po_some (pe_op op_add (pv 9) pe_int)) po_none)) pa_nil))))) R3 ?tail3))))) R1 ?tail1))))), ?_⟩
  case tail2 =>
    rintro D' σ' H1 ⟨nx, at_, b, g, x4, x5, x6, x7, rfl, ebt, hg, F1, B1⟩
    have bm := List.mem_of_getElem? ebt
    obtain ⟨th6, thS⟩ := ok.th b bm
    have lth : (b.th.map V.int).length = b.th.length := List.length_map ..
    refine ⟨_, rfl, g, _, rfl, .inr (SqT.of hg), _, _, rfl, rfl, _, rfl, if_bl (fun c1 => ?_) (fun c1 => ?_)⟩
    · have c1 : 0 < b.th.length := by have := of_decide_eq_true c1; omega
      refine ⟨_, rfl, _, rfl, g, _, rfl, .inr (SqT.of hg), f, c, _, rfl, by omega, Nat.lt_of_le_of_lt (Nat.log2_le_self _) (by omega), F1, fun tv H2 v0 v1 F2 B2 => ?_⟩
      obtain ⟨j, rfl⟩ := Int.eq_ofNat_of_zero_le v0
      have jl : j < b.th.length := by have : ((j : Nat) : Int) < _ := v1; omega
      obtain ⟨y, ey⟩ : ∃ y, b.th[j]? = some y := ⟨_, List.getElem?_eq_getElem jl⟩
      have hg2 := TK.but F1 B2 _ _ hg
      have ay : (b.th.map V.int)[j]? = some (V.int y) := by rw [List.getElem?_map, ey]; rfl
      refine ⟨_, rfl, _, rfl, _, rfl, slA_of hg2 fun p1 H3 h1 s1 => ?_⟩
      rw [cut_take] at h1
      refine ⟨_, rfl, _, rfl, g, _, _, _, rfl, rfl, SqT.of (s1 _ _ hg2), atI_nat ay, ?_⟩
      obtain ⟨sg, es, sy⟩ : ∃ sg : Int, atI [V.int 1, V.int (-1)] (if decide (0 < y) = true then 1 else 0) = some (V.int sg) ∧ Small (y + sg) := by
        have ys : Small y := thS y (List.mem_of_getElem? ey)
        by_cases h : 0 < y
        · rw [decide_eq_true h, if_pos rfl]
          exact ⟨-1, rfl, by have := ys.2; constructor <;> omega⟩
        · rw [decide_eq_false h, if_neg Bool.false_ne_true]
          exact ⟨1, rfl, by have := ys.1; constructor <;> omega⟩
      refine ⟨_, rfl, (by show 2 ≤ sizeLine; decide), fun l nl => ?_⟩
      have s2 := same_new (o := .lst [V.int 1, V.int (-1)]) nl
      refine ⟨_, rfl, _, rfl, g, _, _, _, rfl, rfl, SqT.of (s2 _ _ (s1 _ _ hg2)), atI_nat ay, _, _, rfl, rfl, .inr ⟨_, rfl, l, _, _, _, rfl, rfl, SqL.of upd_same, es, _, _, rfl, rfl, (by show 1 ≤ sizeLine; decide), fun u nu => ?_⟩⟩
      have s3 := same_new (o := .tup [V.int (y + sg)]) nu
      refine catA_of (s3 _ _ (s2 _ _ h1)) upd_same (by rw [List.length_take]; show _ + 1 ≤ 1000; omega) fun p3 H4 h3 s4 => ?_
      have s24 : Same H2 H4 := fun a o e => s4 _ _ (s3 _ _ (s2 _ _ (s1 _ _ e)))
      refine ⟨_, rfl, _, rfl, _, _, rfl, rfl, _, rfl, ?_⟩
      dsimp only [tNoPart]
      refine slA_of (s24 _ _ hg2) fun p4 H5 h4 s5 => ?_
      rw [cut_end] at h4
      refine catA_of (s5 _ _ h3) h4 (by rw [List.length_append, List.length_take, List.length_drop]; show _ + 1 + _ ≤ 1000; omega) fun p5 H6 h5 s6 => ?_
      have s26 : Same H2 H6 := fun a o e => s6 _ _ (s5 _ _ (s24 _ _ e))
      have ev : (b.th.map V.int).take j ++ [V.int (y + sg)] ++ (b.th.map V.int).drop (j + 1) = (b.th.set j (y + sg)).map V.int := by
        rw [set_cut jl, List.map_append, List.map_append, List.map_take, List.map_drop]
        rfl
      refine nx _ _ ⟨at_, b, ⟨b.one, b.to, b.th.set j (y + sg)⟩, p5, _, _, _, _, _, _, rfl, ebt, h5.trans (congrArg (fun l => some (HO.tup l)) ev), belt_ok ok ebt rfl (ok.ends b bm).1 (fun h z => ok.out b bm h z) ⟨by rw [List.length_set]; exact th6, fun x hx => ?_⟩ (fun z => ?_), F2.same s26, (B1.trans B2).same s26⟩
      · rcases List.mem_or_eq_of_mem_set hx with z | z
        · exact thS x z
        · rw [z]; exact sy
      · have z := congrArg List.length z
        rw [List.length_set] at z
        have z : b.th.length = 0 := z
        omega
    · exact nx _ _ ⟨at_, b, b, g, _, _, _, _, _, _, rfl, ebt, hg, same ebt, F1, B1⟩
  case tail3 =>
    rintro D' σ' H1 ⟨eD, at_, b, b', g, x4, x5, x6, x7, x13, x15, rfl, ebt, hg, ok', F1, B1⟩
    have k1 := TK.but hF B1
    have atl := (List.getElem?_eq_some_iff.mp ebt).1
    refine ⟨_, rfl, _, rfl, _, rfl, _, rfl, slA_of (k1 _ _ eb) fun p1 H2 h1 s1 => ?_⟩
    rw [cut_take] at h1
    refine ⟨_, rfl, _, rfl, _, rfl, (by show 3 ≤ sizeLine; decide), fun t nt => ⟨(by show 1 ≤ sizeLine; decide), fun u nu => ?_⟩⟩
    have st := same_new (o := .tup [nV b'.one, nV b'.to, V.ref g]) nt
    have su := same_new (o := .tup [V.ref t]) nu
    refine catA_of (su _ _ (st _ _ h1)) upd_same (by rw [List.length_take]; show _ + 1 ≤ 1000; omega) fun p3 H4 h3 s4 => ?_
    have s14 : Same H1 H4 := fun a o e => s4 _ _ (su _ _ (st _ _ (s1 _ _ e)))
    refine ⟨_, rfl, _, rfl, _, _, rfl, rfl, _, rfl, ?_⟩
    dsimp only [tNoPart]
    refine slA_of (s14 _ _ (k1 _ _ eb)) fun p4 H5 h4 s5 => ?_
    rw [cut_end] at h4
    refine catA_of (s5 _ _ h3) h4 (by rw [List.length_append, List.length_take, List.length_drop]; show _ + 1 + _ ≤ 1000; omega) fun p5 H6 h5 s6 => ⟨(by show 2 ≤ sizeLine; decide), fun r' nr => ?_⟩
    have s7 := same_new (o := .tup [V.ref ha, V.ref p5]) nr
    have s17 : Same H1 _ := fun a o e => s7 _ _ (s6 _ _ (s5 _ _ (s14 _ _ e)))
    have k17 := k1.trans (TK.same s17)
    have x0 : BeltAt _ (V.ref t) b' := ⟨t, g, rfl, s7 _ _ (s6 _ _ (s5 _ _ (s4 _ _ (su _ _ upd_same)))), s17 _ _ hg⟩
    show D'.rt (.ref r') _
    rw [eD]
    exact q r' hs _ _ ⟨ha, p5, hv, _, upd_same, k17 _ _ eh, s7 _ _ h5, alh.imp fun _ _ z => z.keep k17, (alb.imp fun _ _ z => z.keep k17).cutIn x0 atl⟩ ok' n0 (F1.same s17) (B1.same s17)
  case tail1 =>
    rintro D' σ' H1 ⟨eD, v, k, x6, x7, rfl, F1, B1⟩
    have k1 := TK.but hF B1
    refine ⟨_, rfl, ba, _, rfl, .inr (SqT.of (k1 _ _ eb)), rfl, _, rfl, if_bl (fun c1 => ?_) (fun c1 => ?_)⟩
    · refine ⟨_, rfl, ?_⟩
      show D'.rt (.ref r) _
      rw [eD]
      exact q r hs bs _ (hR.keep k1) ok n0 F1 B1
    have c1 : bv.length ≠ 0 := fun z => of_decide_eq_false c1 (by rw [z]; rfl)
    refine ⟨_, rfl, _, rfl, ba, _, rfl, .inr (SqT.of (k1 _ _ eb)), f, c, _, rfl, by omega, Nat.lt_of_le_of_lt (Nat.log2_le_self _) (by omega), F1, fun ta H2 a0 a1 F2 B2 => ?_⟩
    obtain ⟨at_, rfl⟩ := Int.eq_ofNat_of_zero_le a0
    have k2 := k1.trans (TK.but F1 B2)
    have B12 := B1.trans B2
    obtain ⟨b, ebt⟩ : ∃ b, bs[at_]? = some b := ⟨_, List.getElem?_eq_getElem (by have : ((at_ : Nat) : Int) < _ := a1; omega)⟩
    have bm := List.mem_of_getElem? ebt
    obtain ⟨x, ex, tb, g, rfl, e1, e2⟩ := alb.get ebt
    obtain ⟨th6, thS⟩ := ok.th b bm
    refine ⟨_, rfl, _, rfl, ba, _, _, _, rfl, rfl, SqT.of (k2 _ _ eb), atI_nat ex, tb, _, rfl, SqT.of (k2 _ _ e1), rfl, _, _, rfl, _, _, rfl, _, _, rfl, rfl, ?_⟩
    have nx : ∀ σ H, Fin σ H → R3 D' σ H := fun σ H z => ⟨eD, z⟩
    have lth : (b.th.map V.int).length = b.th.length := List.length_map ..
    refine ⟨_, rfl, rfl, _, rfl, if_bl (fun c2 => ?_) (fun c2 => ?_)⟩
    · refine ⟨_, rfl, g, _, rfl, .inr (SqT.of (k2 _ _ e2)), _, _, rfl, rfl, _, rfl, if_bl (fun c3 => ?_) (fun c3 => ?_)⟩
      · have c3 : b.th.length < 6 := by have := of_decide_eq_true c3; omega
        refine ⟨_, rfl, _, rfl, f, c, 3, rfl, by decide, by decide +kernel, F2, fun y H3 y0 y1 F3 B3 => ⟨(by show 1 ≤ sizeLine; decide), fun u nu => ?_⟩⟩
        have k3 := (TK.but F2 B3).trans (TK.new (o := .tup [V.int y]) nu)
        refine catA_of (k3 _ _ (k2 _ _ e2)) upd_same (by rw [lth]; show _ + 1 ≤ 1000; omega) fun p3 H4 h3 s4 => ?_
        have ev : b.th.map V.int ++ [V.int y] = (b.th ++ [y]).map V.int := by rw [List.map_append]; rfl
        refine nx _ _ ⟨at_, b, ⟨b.one, b.to, b.th ++ [y]⟩, p3, _, _, _, _, _, _, rfl, ebt, h3.trans (congrArg (fun l => some (HO.tup l)) ev), belt_ok ok ebt rfl (ok.ends b bm).1 (fun h z => ok.out b bm h z) ⟨by rw [List.length_append]; show _ + 1 ≤ 6; omega, fun x hx => ?_⟩ (fun z => by simp at z), (F3.new nu).same s4, ((B12.trans B3).new nu).same s4⟩
        rcases List.mem_append.mp hx with z | z
        · exact thS x z
        · rw [List.mem_singleton.mp z]; constructor <;> omega
      · refine ⟨_, rfl, rfl, _, rfl, if_bl (fun c4 => ?_) (fun _ => ?_)⟩
        · have a1 := V.int.inj (of_decide_eq_true c2)
          have a2 := V.int.inj (of_decide_eq_true c4)
          omega
        · exact ⟨nx, at_, b, g, _, _, _, _, rfl, ebt, k2 _ _ e2, F2, B12⟩
    · refine ⟨_, rfl, rfl, _, rfl, if_bl (fun c4 => ?_) (fun _ => ?_)⟩
      · refine ⟨_, rfl, g, _, rfl, .inr (SqT.of (k2 _ _ e2)), _, _, rfl, rfl, _, rfl, if_bl (fun c3 => ?_) (fun c3 => ?_)⟩
        · have c3 : 0 < b.th.length := by have := of_decide_eq_true c3; omega
          refine ⟨_, rfl, ha, _, rfl, .inr (SqT.of (k2 _ _ eh)), _, rfl, by omega, by omega, fun D nD => lc_range (lo := 0) (n := hv.length) (fun i H5 => H5 D = some (.lst (((List.range i).filter fun j => decide (hs[j]?.map HR.wd ≠ some "out")).map nV)) ∧ Same H2 H5) ⟨upd_same, same_new nD⟩ ?_ ?_⟩
          · rintro i H5 hi ⟨hD, s5⟩
            obtain ⟨hx, ehx⟩ : ∃ x, hv[i]? = some x := ⟨_, List.getElem?_eq_getElem hi⟩
            obtain ⟨hh, ehh, t2, rr, rfl, g1, g2⟩ := alh.getL ehx
            have gh := ok.good hh (List.mem_of_getElem? ehh)
            have few := filt_len (p := fun j => decide (hs[j]?.map HR.wd ≠ some "out")) i
            refine ⟨rfl, _, rfl, _, rfl, ha, _, _, _, rfl, rfl, SqT.of (s5 _ _ (k2 _ _ eh)), at0 ehx, t2, _, _, _, rfl, rfl, SqT.of (s5 _ _ (k2 _ _ g1)), atI_nat (j := 0) rfl, (by show 1 ≤ sizeLine; decide), fun o1 no1 => ?_⟩
            have s6 := same_new (o := .tup [V.str "out"]) no1
            refine ⟨_, _, rule_dp (s6 _ _ (s5 _ _ (k2 _ _ g2))), .tup (SqT.of upd_same) (.cons (.str _) .nil), rule_shaped gh.lay, one_shaped (by decide +kernel), _, rfl, ?_⟩
            rw [rule_eqv, gh.door "out" (.inr rfl)]
            by_cases kk : hh.wd = "out"
            · rw [decide_eq_true kk]
              refine if_bl (fun z => absurd z (by decide)) (fun _ => ⟨?_, fun a o e => s6 _ _ (s5 _ _ e)⟩)
              rw [filt_succ, if_neg (fun z => (of_decide_eq_true z) (by rw [ehh]; exact congrArg some kk)), List.append_nil]
              exact s6 _ _ hD
            · rw [decide_eq_false kk]
              refine if_bl (fun _ => ⟨_, rfl, _, s6 _ _ hD, by rw [List.length_map]; exact small1000 (by omega), ?_, Same.own (fun a o e => s6 _ _ (s5 _ _ e)) nD⟩) (fun z => absurd z (by decide))
              rw [upd_same, filt_succ, if_pos (decide_eq_true (by rw [ehh]; exact fun z => kk (Option.some.inj z))), List.map_append, Int.zero_add]
              rfl
          · rintro H5 ⟨hD, s5⟩
            have Df : D ≠ f := F2.ne nD
            obtain ⟨h1, eh1⟩ : ∃ h1, hs[b.one]? = some h1 := ⟨_, List.getElem?_eq_getElem (ok.ends b bm).1⟩
            have pos : 0 < ((List.range hv.length).filter fun j => decide (hs[j]?.map HR.wd ≠ some "out")).length := by
              refine List.length_pos_of_mem (a := b.one) (List.mem_filter.mpr ⟨List.mem_range.mpr (by rw [lhv]; exact (ok.ends b bm).1), decide_eq_true ?_⟩)
              rw [eh1]
              exact fun z => ok.out b bm h1 eh1 (Option.some.inj z)
            have few := filt_len (p := fun j => decide (hs[j]?.map HR.wd ≠ some "out")) hv.length
            refine ⟨_, rfl, _, rfl, _, rfl, D, _, rfl, .inl (SqL.of hD), f, c, _, rfl, by rw [List.length_map]; omega, Nat.lt_of_le_of_lt (Nat.log2_le_self _) (by rw [List.length_map]; omega), F2.same s5, fun u H6 u0 u1 F6 B6 => ?_⟩
            rw [List.length_map] at u1
            obtain ⟨o, eo⟩ : ∃ o, ((List.range hv.length).filter fun j => decide (hs[j]?.map HR.wd ≠ some "out"))[u.toNat]? = some o := ⟨_, List.getElem?_eq_getElem (by omega)⟩
            obtain ⟨o1, o2⟩ := List.mem_filter.mp (List.mem_of_getElem? eo)
            have o1 := List.mem_range.mp o1
            have o2 := of_decide_eq_true o2
            have uo : atI (((List.range hv.length).filter fun j => decide (hs[j]?.map HR.wd ≠ some "out")).map nV) u = some (nV o) := by
              have := atI_nat (xs := ((List.range hv.length).filter fun j => decide (hs[j]?.map HR.wd ≠ some "out")).map nV) (j := u.toNat) (v := nV o) (by rw [List.getElem?_map, eo]; rfl)
              rw [show ((u.toNat : Nat) : Int) = u by omega] at this
              exact this
            refine ⟨D, _, u, _, rfl, rfl, SqL.of (B6 _ _ hD Df), uo, ?_⟩
            refine nx _ _ ⟨at_, b, ⟨o, b.to, b.th⟩, g, _, _, _, _, _, _, rfl, ebt, TK.but (F2.same s5) B6 _ _ (s5 _ _ (k2 _ _ e2)), belt_ok ok ebt rfl (show o < hs.length by omega) (fun h z q => o2 (by rw [z]; exact congrArg some q)) (ok.th b bm) (fun z => ?_), F6, (B12.same s5).trans B6⟩
            have z : b.th = [] := z
            rw [z] at c3
            exact absurd c3 (Nat.not_lt_zero _)
        · exact ⟨nx, at_, b, g, _, _, _, _, rfl, ebt, k2 _ _ e2, F2, B12⟩
      · exact ⟨nx, at_, b, g, _, _, _, _, rfl, ebt, k2 _ _ e2, F2, B12⟩
  have eD0 : ({ nx := fun x H' => Q V.non H', rt := Q } : Ends).rt = Q := rfl
  refine ⟨_, rfl, r, _, rfl, SqT.of er, rfl, _, _, rfl, _, _, rfl, rfl, ?_⟩
  refine ⟨_, rfl, f, c, 4, rfl, by decide, by decide +kernel, hF, fun v H1 v0 v1 F1 B1 => ?_⟩
  have k1 := TK.but hF B1
  refine ⟨_, rfl, _, rfl, ha, _, rfl, .inr (SqT.of (k1 _ _ eh)), f, c, _, rfl, by omega, Nat.lt_of_le_of_lt (Nat.log2_le_self _) (by omega), F1, fun tk H2 t0 t1 F2 B2 => ?_⟩
  obtain ⟨k, rfl⟩ := Int.eq_ofNat_of_zero_le t0
  have kl : k < hs.length := by have : ((k : Nat) : Int) < _ := t1; omega
  have k2 := k1.trans (TK.but F1 B2)
  have B12 := B1.trans B2
  obtain ⟨h, ehk⟩ : ∃ h, hs[k]? = some h := ⟨_, List.getElem?_eq_getElem kl⟩
  obtain ⟨x, ex, t, rr, rfl, e1, e2⟩ := alh.get ehk
  have gh := ok.good h (List.mem_of_getElem? ehk)
  refine ⟨_, rfl, rfl, _, rfl, if_bl (fun c1 => ?_) (fun c1 => ⟨eD0, v, k, _, _, rfl, F2, B12⟩)⟩
  refine ⟨_, rfl, _, rfl, ha, _, _, _, rfl, rfl, SqT.of (k2 _ _ eh), atI_nat ex, t, _, _, _, rfl, rfl, SqT.of (k2 _ _ e1), atI_nat (j := 0) rfl, rr, _, _, _, rfl, rfl, SqT.of (k2 _ _ e2), atI_nat (j := 0) rfl, (by show 2 ≤ sizeLine; decide), fun u nu => ⟨u, _, rfl, .inr (SqT.of upd_same), rfl, rfl, _, rfl, ?_⟩⟩
  rw [if_pos (rfl : true = true)]
  have k3 := k2.trans (TK.new (o := .tup [V.str "in", V.str "out"]) nu)
  have F3 := F2.new (o := .tup [V.str "in", V.str "out"]) nu
  have B3 := B12.new (o := .tup [V.str "in", V.str "out"]) nu
  refine if_bl (fun c2 => ?_) (fun c2 => ⟨eD0, v, k, _, _, rfl, F3, B3⟩)
  have nin : h.wd ∉ (["in", "out"] : List Str) := fun z => by
    have := (inV_strs (x := h.wd) (zs := ["in", "out"])).mpr z
    have c2 : (!inV (V.str h.wd) ((["in", "out"] : List Str).map V.str)) = true := c2
    rw [this] at c2
    cases c2
  let G : List HR := [⟨"same", none, 0⟩, ⟨"times", some 1, 0⟩, ⟨"sum", none, 0⟩, ⟨"gap", none, 0⟩]
  have gG : ∀ g ∈ G, GoodRule g ∧ g.wd ≠ "out" := fun g hg => by
    simp only [G, List.mem_cons, List.not_mem_nil, or_false] at hg
    rcases hg with rfl | rfl | rfl | rfl
    · exact ⟨⟨by decide +kernel, by decide +kernel, (fun n z => nomatch z)⟩, by decide +kernel⟩
    · exact ⟨⟨by decide +kernel, by decide +kernel, (fun n z => by rw [← Option.some.inj z]; exact ⟨by decide, by decide⟩)⟩, by decide +kernel⟩
    · exact ⟨⟨by decide +kernel, by decide +kernel, (fun n z => nomatch z)⟩, by decide +kernel⟩
    · exact ⟨⟨by decide +kernel, by decide +kernel, (fun n z => nomatch z)⟩, by decide +kernel⟩
  refine ⟨(by show 1 ≤ sizeLine; decide), fun a1 n1 => ⟨(by show 2 ≤ sizeLine; decide), fun a2 n2 => ⟨(by show 1 ≤ sizeLine; decide), fun a3 n3 => ⟨(by show 1 ≤ sizeLine; decide), fun a4 n4 => ⟨(by show 4 ≤ sizeLine; decide), fun pl npl => ?_⟩⟩⟩⟩⟩
  have t1 := same_new (o := .tup [V.str "same"]) n1
  have t2 := same_new (o := .tup [V.str "times", V.int 1]) n2
  have t3 := same_new (o := .tup [V.str "sum"]) n3
  have t4 := same_new (o := .tup [V.str "gap"]) n4
  have t5 := same_new (o := .lst [V.ref a1, V.ref a2, V.ref a3, V.ref a4]) npl
  have s5 : Same _ _ := fun a o e => t5 a o (t4 a o (t3 a o (t2 a o (t1 a o e))))
  have k5 := k3.trans (TK.same s5)
  have F5 := F3.same s5
  have B5 := B3.same s5
  have alG : All2 (fun (v : V) (g : HR) => ∃ a : Addr, v = .ref a ∧ (upd (upd (upd (upd (upd (upd H2 u (.tup [V.str "in", V.str "out"])) a1 (.tup [V.str "same"])) a2 (.tup [V.str "times", V.int 1])) a3 (.tup [V.str "sum"])) a4 (.tup [V.str "gap"])) pl (.lst [V.ref a1, V.ref a2, V.ref a3, V.ref a4])) a = some (.tup (ruleL g))) [V.ref a1, V.ref a2, V.ref a3, V.ref a4] G :=
    .cons ⟨a1, rfl, t5 _ _ (t4 _ _ (t3 _ _ (t2 _ _ upd_same)))⟩ (.cons ⟨a2, rfl, t5 _ _ (t4 _ _ (t3 _ _ upd_same))⟩ (.cons ⟨a3, rfl, t5 _ _ (t4 _ _ upd_same)⟩ (.cons ⟨a4, rfl, t5 _ _ upd_same⟩ .nil)))
  have hpl : (upd (upd (upd (upd (upd (upd H2 u (.tup [V.str "in", V.str "out"])) a1 (.tup [V.str "same"])) a2 (.tup [V.str "times", V.int 1])) a3 (.tup [V.str "sum"])) a4 (.tup [V.str "gap"])) pl (.lst [V.ref a1, V.ref a2, V.ref a3, V.ref a4])) pl = some (.lst [V.ref a1, V.ref a2, V.ref a3, V.ref a4]) := upd_same
  clear s5 t1 t2 t3 t4 t5
  generalize (upd (upd (upd (upd (upd (upd H2 u (.tup [V.str "in", V.str "out"])) a1 (.tup [V.str "same"])) a2 (.tup [V.str "times", V.int 1])) a3 (.tup [V.str "sum"])) a4 (.tup [V.str "gap"])) pl (.lst [V.ref a1, V.ref a2, V.ref a3, V.ref a4])) = H5 at k5 F5 B5 alG hpl ⊢
  refine ⟨_, rfl, pl, rfl, ⟨_, SqL.of hpl⟩, fun D nD => lc_list (K := K) (a := pl) (xs := [V.ref a1, V.ref a2, V.ref a3, V.ref a4]) (fun i H6 => ∃ us : List V, H6 D = some (.lst us) ∧ us.length ≤ i ∧ (∀ y ∈ us, ∃ (a : Addr) (g : HR), y = .ref a ∧ H5 a = some (.tup (ruleL g)) ∧ GoodRule g ∧ g.wd ≠ "out" ∧ needs g.wd = needs h.wd) ∧ Same H5 H6) ⟨[], upd_same, Nat.le_refl _, (fun _ z => nomatch z), same_new nD⟩ (fun i H6 _ ⟨_, _, _, _, s6⟩ => SqL.of (s6 _ _ hpl)) ?_ ?_⟩
  · rintro i y H6 hx ⟨us, hD, lu, gu, s6⟩
    obtain ⟨g, eg, ag, rfl, e3⟩ := alG.getL hx
    obtain ⟨g1, g2⟩ := gG g (List.mem_of_getElem? eg)
    have il : i < 4 := (List.getElem?_eq_some_iff.mp hx).1
    refine ⟨rfl, _, rfl, ag, g.wd, _, rfl, SqT.of (s6 _ _ e3), fun H7 s7 => ⟨_, rfl, _, rfl, ha, _, _, _, rfl, rfl, SqT.of (s7 _ _ (s6 _ _ (k5 _ _ eh))), atI_nat ex, t, _, _, _, rfl, rfl, SqT.of (s7 _ _ (s6 _ _ (k5 _ _ e1))), atI_nat (j := 0) rfl, rr, h.wd, _, rfl, SqT.of (s7 _ _ (s6 _ _ (k5 _ _ e2))), fun H8 s8 => ⟨rfl, _, rfl, if_bl (fun c3 => ?_) (fun c3 => ?_)⟩⟩⟩
    · have c3 := V.int.inj (of_decide_eq_true c3)
      have s68 : Same H5 H8 := fun a o e => s8 _ _ (s7 _ _ (s6 _ _ e))
      refine ⟨_, rfl, _, s8 _ _ (s7 _ _ hD), small1000 (by omega), us ++ [.ref ag], upd_same, by rw [List.length_append]; show _ + 1 ≤ i + 1; omega, fun y hy => ?_, Same.own s68 nD⟩
      rcases List.mem_append.mp hy with hy | hy
      · exact gu y hy
      · exact ⟨ag, g, List.mem_singleton.mp hy, e3, g1, g2, c3⟩
    · exact ⟨us, s8 _ _ (s7 _ _ hD), by omega, gu, fun a o e => s8 _ _ (s7 _ _ (s6 _ _ e))⟩
  rintro H6 ⟨us, hD, lu, gu, s6⟩
  have lu : us.length ≤ 4 := lu
  have F6 := F5.same s6
  have B6 := B5.same s6
  have Df : D ≠ f := F5.ne nD
  refine ⟨_, rfl, D, _, rfl, .inl (SqL.of hD), _, _, rfl, rfl, _, rfl, if_bl (fun c3 => ?_) (fun c3 => ⟨eD0, v, k, _, _, rfl, F6, B6⟩)⟩
  have c3 : 0 < us.length := by have := of_decide_eq_true c3; omega
  have k6 := k5.trans (TK.same s6)
  refine ⟨_, rfl, _, rfl, _, rfl, slA_of (k6 _ _ eh) fun p1 H7 h1 s7 => ?_⟩
  rw [cut_take] at h1
  refine ⟨_, rfl, _, rfl, _, rfl, D, _, rfl, .inl (SqL.of (s7 _ _ hD)), f, c, _, rfl, by omega, Nat.lt_of_le_of_lt (Nat.log2_le_self _) (by omega), F6.same s7, fun w H8 w0 w1 F8 B8 => ?_⟩
  have k78 := (TK.same s7).trans (TK.but (F6.same s7) B8)
  have k8 := k6.trans k78
  obtain ⟨y, ey⟩ : ∃ y, us[w.toNat]? = some y := ⟨_, List.getElem?_eq_getElem (by omega)⟩
  obtain ⟨ag, g, rfl, e3, g1, g2, g3⟩ := gu y (List.mem_of_getElem? ey)
  have aw : atI us w = some (V.ref ag) := by
    have := atI_nat ey
    rw [show ((w.toNat : Nat) : Int) = w by omega] at this
    exact this
  refine ⟨D, _, w, _, rfl, rfl, SqL.of (B8 _ _ (s7 _ _ hD) Df), aw, _, rfl, _, rfl, ha, _, _, _, rfl, rfl, SqT.of (k8 _ _ eh), atI_nat ex, t, _, _, _, rfl, rfl, SqT.of (k8 _ _ e1), atI_nat (j := 1) rfl, (by show 2 ≤ sizeLine; decide), fun a na => ⟨(by show 1 ≤ sizeLine; decide), fun b nb => ?_⟩⟩
  have sa := same_new (o := .tup [V.ref ag, V.int h.mom]) na
  have sb := same_new (o := .tup [V.ref a]) nb
  refine catA_of (sb _ _ (sa _ _ (TK.but (F6.same s7) B8 _ _ h1))) upd_same (by rw [List.length_take]; show _ + 1 ≤ 1000; omega) fun p3 H9 h3 s9 => ?_
  have s89 : Same H8 H9 := fun a o e => s9 _ _ (sb _ _ (sa _ _ e))
  refine ⟨_, rfl, _, rfl, _, _, rfl, rfl, _, rfl, ?_⟩
  dsimp only [tNoPart]
  refine slA_of (s89 _ _ (k8 _ _ eh)) fun p4 H10 h4 s10 => ?_
  rw [cut_end] at h4
  refine catA_of (s10 _ _ h3) h4 (by rw [List.length_append, List.length_take, List.length_drop]; show _ + 1 + _ ≤ 1000; omega) fun p5 H11 h5 s11 => ⟨_, rfl, (by show 2 ≤ sizeLine; decide), fun r' nr => ?_⟩
  have s12 := same_new (o := .tup [V.ref p5, V.ref ba]) nr
  have s812 : Same H8 _ := fun a o e => s12 _ _ (s11 _ _ (s10 _ _ (s89 _ _ e)))
  have k12 := k8.trans (TK.same s812)
  have x0 : HandAt _ (V.ref a) ⟨g.wd, g.no, h.mom⟩ := ⟨a, ag, rfl, s12 _ _ (s11 _ _ (s10 _ _ (s9 _ _ (sb _ _ upd_same)))), s812 _ _ (k78 _ _ (s6 _ _ e3))⟩
  refine q r' _ bs _ ⟨p5, ba, _, bv, upd_same, s12 _ _ h5, k12 _ _ eb, (alh.imp fun _ _ z => z.keep k12).cutIn x0 kl, alb.imp fun _ _ z => z.keep k12⟩ (hand_ok ok ehk ⟨.inl ⟨g1.wd, g1.no, g1.big⟩, gh.2⟩ g2 g3) (by rw [List.length_set]; exact n0) (F8.same s812) ((((B6.same s7).trans B8)).same s812)
end
/-! ### a tuple times 0 or 1: nothing, or itself -/
/-- an object of the tuple type, with these items -/
abbrev TupO (its : List Value) (n : Nat) (dd : Option Addr) (sl : Array (Option Value)) : Obj := { cls := .type "tuple", dict := dd, data := .seq its.toArray n, slots := sl }
theorem once_tup (l : Addr) (its : List Value) (n : Nat) (dd : Option Addr) (sl : Array (Option Value)) (u : Tok) :
    PySem.Meets (Builtin.«tuple.__mul__» ⟨[.ref l, .int 1 u], []⟩) (fun _ R z => z.heap.get? l = some (TupO its n dd sl) ∧ R (.ok (.ret (Value.ref l))) z) := by
  refine .of_wp fun prog w A R z hz => ?_
  obtain ⟨zh, zg, zd, zt, zo⟩ := z
  have at_l := hz.1
  have read := AutoSeq1.idx_int
  wp_walk using wpAny_loadPart' at_l
  exact ⟨_, rfl, hz.2⟩
theorem none_tup (l : Addr) (x : Value) (its : List Value) (n : Nat) (dd : Option Addr) (sl : Array (Option Value)) (u : Tok) :
    PySem.Meets (Builtin.«tuple.__mul__» ⟨[.ref l, .int 0 u], []⟩) (fun _ R z => z.heap.get? l = some (TupO (x :: its) n dd sl) ∧ R (.ok (.ret (Value.ref z.heap.objs.size))) { z with heap := z.heap.push { cls := Value.type "tuple", data := Data.seq #[] }, toks := z.toks }) := by
  refine .of_wp fun prog w A R z hz => ?_
  obtain ⟨zh, zg, zd, zt, zo⟩ := z
  have at_l := hz.1
  have read := AutoSeq1.idx_int
  wp_walk using wpAny_loadPart' at_l
  exact ⟨_, rfl, hz.2⟩
def rRep01 (K : PySem.W.Frag) : R2 := fun x y H Q => ∃ l k xs, x = .ref l ∧ y = .int k ∧ SqT K H l xs ∧ xs ≠ [] ∧ (k = 0 ∨ k = 1) ∧ (k = 1 → Q (.ref l) H) ∧ (k = 0 → ∀ p, H p = none → Q (.ref p) (upd H p (.tup [])))
section
variable {X : Cx}
/-- the operator comes to the tuple's own method -/
theorem mul_to_own {z : Shared} {l : Addr} {k : Int} {t : Tok} {its : List Value} {n : Nat} {dd : Option Addr} {sl : Array (Option Value)} {pins : List (Addr × Obj)} {σ : L2.St} {Q : VK} (o : z.heap.get? l = some (TupO its n dd sl))
    (go : wpAny (model X.prog X.w) X.A (PySem.call (.builtin "tuple.__mul__") [.ref l, .int k t]) (EP X pins σ Q) X.xe z) : wpAny (model X.prog X.w) X.A (binaryOp .Mult (.ref l) (.int k t)) (EP X pins σ Q) X.xe z :=
  PySem.wpAny_binaryOp_repeat_ref (T := "tuple") (U := "int") (by decide) ⟨_, o, rfl⟩ (PySem.typeIs_int · k t) noFill_tuple_mul PySem.F.fills_int_mul PySem.F.slot_int_rmul repeat_tuple PySem.F.slot_int_index.lookup
    (PySem.call_meets PySem.F.slot_int_rmul (PySem.typeIs_int z k t) PySem.F.entry_int_rmul (PySem.F.args_int_rmul_2 _ _) (int_rmul_tuple k t l its.toArray n dd sl) ⟨o, rfl, ⟨_, o, rfl⟩, go⟩)
theorem op_rep01 (K : PySem.W.Frag) (hk : X.K = K) : OpR X (binaryOp .Mult) (rRep01 K) := by
  rintro pins z σ H x y v u Q I rx ry ⟨l, k, xs, rfl, rfl, hT, some_, two, one_, none_⟩
  rw [← hk] at hT
  obtain rfl : v = .ref l := by cases rx; rfl
  obtain ⟨t, rfl⟩ := ry
  obtain ⟨its, same, ⟨⟨cls, dd, data, sl⟩, o, ec, n, ed⟩, _⟩ := I.tuple hT
  dsimp only at ec ed
  subst ec ed
  cases its with
  | nil => exact absurd (List.eq_nil_of_length_eq_zero same.length) some_
  | cons i its =>
    refine mul_to_own o ?_
    rcases two with rfl | rfl
    · refine PySem.call_meets PySem.F.slot_tuple_mul ⟨_, o, rfl⟩ PySem.F.entry_tuple_mul (PySem.F.args_tuple_mul_2 _ _) (none_tup l i its n dd sl t) ⟨o, ?_⟩
      exact ⟨.ref z.heap.objs.size, _, I.laid (t' := z.toks) (o := .tup []) (fun b ob e => PySem.Heap.get?_push_of_some _ e) (Nat.le_refl _) ⟨Nat.zero_le _, [], .nil, IsTup.new _ _⟩, rfl, none_ rfl _ (I.hok.fresh (Nat.le_refl _))⟩
    · exact PySem.call_meets PySem.F.slot_tuple_mul ⟨_, o, rfl⟩ PySem.F.entry_tuple_mul (PySem.F.args_tuple_mul_2 _ _) (once_tup l (i :: its) n dd sl t) ⟨o, .ref l, H, I, rfl, one_ rfl⟩
end
/-! ### a tuple times 1 or 2 -/
def rRep12 (K : PySem.W.Frag) : R2 := fun x y H Q => rRep01 K x y H Q ∨ rRepT K x y H Q
theorem op_rep12 {X : Cx} (K : PySem.W.Frag) (hk : X.K = K) : OpR X (binaryOp .Mult) (rRep12 K) := by
  intro pins z σ H x y v u Q I rx ry h
  rcases h with h | h
  · exact op_rep01 K hk pins z σ H x y v u Q I rx ry h
  · rw [← hk] at h
    exact op_repT pins z σ H x y v u Q I rx ry h
/-! ### lines and rings of hands -/
def ThAt (H : Hp) (v : V) (t : List Int) : Prop := ∃ g : Addr, v = .ref g ∧ H g = some (.tup (t.map V.int))
theorem ThAt.keep {H H' : Hp} {v : V} {t : List Int} (h : ThAt H v t) (k : TK H H') : ThAt H' v t := by
  obtain ⟨g, e, e1⟩ := h
  exact ⟨g, e, k _ _ e1⟩
def lineH (first : Int) (ms : List Int) : List HR := ⟨"always", some first, 2⟩ :: ms.map fun m => ⟨"same", none, m⟩
def lineB (p : Nat) (n : Nat) (ths : List (List Int)) : List BR := (List.range n).map fun k => ⟨p + k, p + k + 1, ths.getD k []⟩
theorem up_count (p j : Nat) : ∀ m, ((List.range m).map fun k => p + k + 1).count (p + j) = if 0 < j ∧ j ≤ m then 1 else 0 := by
  intro m
  induction m with
  | zero => rw [if_neg (by omega)]; rfl
  | succ m ih =>
    rw [List.range_succ, List.map_append, List.count_append, ih]
    show _ + [p + m + 1].count (p + j) = _
    rw [List.count_singleton]
    by_cases h : p + m + 1 = p + j
    · rw [show (p + m + 1 == p + j) = true from beq_iff_eq.mpr h, if_pos rfl, if_neg (by omega), if_pos (by omega)]
    · rw [show (p + m + 1 == p + j) = false from beq_eq_false_iff_ne.mpr h, if_neg Bool.false_ne_true]
      by_cases h2 : 0 < j ∧ j ≤ m
      · rw [if_pos h2, if_pos (by omega)]
      · rw [if_neg h2, if_neg (by omega)]
theorem needs_always : needs "always" = 0 := by decide +kernel
theorem needs_same : needs "same" = 1 := by decide +kernel
theorem needs_times : needs "times" = 1 := by decide +kernel
theorem nil_ok : RoomOk [] [] := ⟨by decide, (fun _ z => nomatch z), (fun _ z => nomatch z), (fun _ z => nomatch z), (fun _ z => nomatch z), ⟨fun _ => 0, (fun _ z => nomatch z)⟩, (fun _ _ z => by cases z), by decide⟩
theorem line_ok {hs : List HR} {bs : List BR} {first : Int} {ms : List Int} {ths : List (List Int)} (ok : RoomOk hs bs) (f0 : Small first) (hm : ∀ m ∈ ms, 0 ≤ m ∧ m ≤ 30) (ht : ∀ t ∈ ths, t.length ≤ 6 ∧ ∀ x ∈ t, Small x) (l1 : hs.length + (ms.length + 1) ≤ 12) (l2 : bs.length + ms.length ≤ 20) (lt : ths.length = ms.length) : RoomOk (hs ++ lineH first ms) (bs ++ lineB hs.length ms.length ths) := by
  have ll : (lineH first ms).length = ms.length + 1 := by show (ms.map _).length + 1 = _; rw [List.length_map]
  have lb : (lineB hs.length ms.length ths).length = ms.length := by show ((List.range _).map _).length = _; rw [List.length_map, List.length_range]
  have inB : ∀ {b}, b ∈ lineB hs.length ms.length ths → ∃ k, k < ms.length ∧ b = ⟨hs.length + k, hs.length + k + 1, ths.getD k []⟩ := fun {b} hb => by
    obtain ⟨k, hk, e⟩ := List.mem_map.mp hb
    exact ⟨k, List.mem_range.mp hk, e.symm⟩
  have gd : ∀ {k}, k < ms.length → ths.getD k [] ∈ ths := fun {k} hk => by
    rw [List.getD_eq_getElem?_getD, List.getElem?_eq_getElem (by omega)]
    exact List.getElem_mem _
  have goodL : ∀ h ∈ lineH first ms, GoodHand h ∧ h.wd ≠ "out" := fun h hh => by
    rcases List.mem_cons.mp hh with rfl | hh
    · exact ⟨⟨.inl ⟨(show ("always" : Str) ∈ nine by decide +kernel), ⟨fun _ => .inr rfl, fun _ => rfl⟩, fun n e => by cases e; exact f0⟩, (show (0 : Int) ≤ 2 by decide), (show (2 : Int) ≤ 30 by decide)⟩, (show ("always" : Str) ≠ "out" by decide +kernel)⟩
    · obtain ⟨m, hm2, rfl⟩ := List.mem_map.mp hh
      exact ⟨⟨.inl ⟨(show ("same" : Str) ∈ nine by decide +kernel), (show (none : Option Int).isSome = true ↔ ("same" : Str) = "times" ∨ ("same" : Str) = "always" by decide +kernel), fun n e => by cases e⟩, hm m hm2⟩, (show ("same" : Str) ≠ "out" by decide +kernel)⟩
  obtain ⟨rk, hrk⟩ := ok.rank
  refine ⟨by rw [List.length_append, ll]; exact l1, fun h hh => ?_, fun b hb => ?_, fun b hb h e => ?_, fun b hb => ?_, ⟨fun j => if j < hs.length then rk j else (j : Nat), fun b hb z => ?_⟩, fun k h e => ?_, by rw [List.length_append, lb]; exact l2⟩
  · rcases List.mem_append.mp hh with hh | hh
    · exact ok.good h hh
    · exact (goodL h hh).1
  · rw [List.length_append, ll]
    rcases List.mem_append.mp hb with hb | hb
    · have := ok.ends b hb
      omega
    · obtain ⟨k, hk, rfl⟩ := inB hb
      show hs.length + k < _ ∧ hs.length + k + 1 < _
      omega
  · rcases List.mem_append.mp hb with hb | hb
    · rw [List.getElem?_append_left (ok.ends b hb).1] at e
      exact ok.out b hb h e
    · obtain ⟨k, hk, rfl⟩ := inB hb
      have e : (hs ++ lineH first ms)[hs.length + k]? = some h := e
      rw [List.getElem?_append_right (by omega)] at e
      exact (goodL h (List.mem_of_getElem? e)).2
  · rcases List.mem_append.mp hb with hb | hb
    · exact ok.th b hb
    · obtain ⟨k, hk, rfl⟩ := inB hb
      exact ht _ (gd hk)
  · rcases List.mem_append.mp hb with hb | hb
    · have := ok.ends b hb
      show (if b.one < hs.length then rk b.one else ((b.one : Nat) : Int)) < if b.to < hs.length then rk b.to else ((b.to : Nat) : Int)
      rw [if_pos this.1, if_pos this.2]
      exact hrk b hb z
    · obtain ⟨k, hk, rfl⟩ := inB hb
      show (if hs.length + k < hs.length then rk (hs.length + k) else ((hs.length + k : Nat) : Int)) < if hs.length + k + 1 < hs.length then rk (hs.length + k + 1) else ((hs.length + k + 1 : Nat) : Int)
      rw [if_neg (by omega), if_neg (by omega)]
      omega
  · rw [List.map_append, List.count_append]
    have eB : (lineB hs.length ms.length ths).map BR.to = (List.range ms.length).map fun k => hs.length + k + 1 := by
      show ((List.range _).map _).map _ = _
      rw [List.map_map]
      rfl
    rw [eB]
    by_cases hk : k < hs.length
    · rw [List.getElem?_append_left hk] at e
      have c := ok.count k h e
      have z : ((List.range ms.length).map fun j => hs.length + j + 1).count k = 0 := by
        rw [List.count_eq_zero]
        intro m
        obtain ⟨j, _, e⟩ := List.mem_map.mp m
        omega
      rw [z, Nat.add_zero]
      exact c
    · rw [List.getElem?_append_right (by omega)] at e
      have z : (bs.map BR.to).count k = 0 := by
        rw [List.count_eq_zero]
        intro m
        obtain ⟨b, hb, e⟩ := List.mem_map.mp m
        have := (ok.ends b hb).2
        omega
      obtain ⟨j, rfl⟩ : ∃ j, k = hs.length + j := ⟨k - hs.length, by omega⟩
      rw [z, up_count, Nat.zero_add]
      rw [show hs.length + j - hs.length = j by omega] at e
      cases j with
      | zero =>
        have e : (⟨"always", some first, 2⟩ : HR) = h := Option.some.inj e
        rw [if_neg (by omega), ← e, needs_always]
        rfl
      | succ j =>
        have e : (ms.map fun m => (⟨"same", none, m⟩ : HR))[j]? = some h := e
        have jl : j < ms.length := by
          have := (List.getElem?_eq_some_iff.mp e).1
          rwa [List.length_map] at this
        obtain ⟨m, _, rfl⟩ := List.mem_map.mp (List.mem_of_getElem? e)
        rw [if_pos (by omega), needs_same]
        rfl
theorem All2.st {α β : Type} {R : α → β → Prop} {a : α} {b : β} : ∀ {as : List α} {bs : List β}, All2 R as bs → ∀ k : Nat, R a b → All2 R (as.set k a) (bs.set k b)
  | _, _, .nil, _, _ => .nil
  | _, _, .cons _ t, 0, h => .cons h t
  | _, _, .cons x t, k + 1, h => .cons x (All2.st t k h)
def ringB (n : Nat) : List BR := (List.range n).map fun k => ⟨k, (k + 1) % n, [5]⟩
theorem ring_count {n k : Nat} (n0 : 0 < n) (hk : k < n) : ((ringB n).map BR.to).count k = 1 := by
  obtain ⟨m, rfl⟩ : ∃ m, n = m + 1 := ⟨n - 1, by omega⟩
  have e : (ringB (m + 1)).map BR.to = ((List.range m).map fun k => 0 + k + 1) ++ [0] := by
    unfold ringB
    rw [List.map_map, List.range_succ, List.map_append]
    congr 1
    · refine List.map_congr_left fun j hj => ?_
      have := List.mem_range.mp hj
      show (j + 1) % (m + 1) = 0 + j + 1
      rw [Nat.mod_eq_of_lt (by omega)]
      omega
    · show [(m + 1) % (m + 1)] = [0]
      rw [Nat.mod_self]
  have u := up_count 0 k m
  rw [Nat.zero_add] at u
  rw [e, List.count_append, u, List.count_singleton]
  by_cases h : k = 0
  · subst h
    rfl
  · rw [if_pos (by omega), show ((0 : Nat) == k) = false from beq_eq_false_iff_ne.mpr fun z => h z.symm]
    rfl
theorem ring_ok {n at_ : Nat} {x : Int} {ms : List Int} (n0 : 0 < n) (n12 : n ≤ 12) (hx : Small x) (hm : ∀ m ∈ ms, 0 ≤ m ∧ m ≤ 30) (lm : ms.length = n) (ha : at_ < n) : RoomOk (ms.map fun m => ⟨"times", some 1, m⟩) ((ringB n).set at_ ⟨at_, (at_ + 1) % n, [x]⟩) := by
  have ln : (ms.map fun m => (⟨"times", some 1, m⟩ : HR)).length = n := by rw [List.length_map, lm]
  have lb : (ringB n).length = n := by unfold ringB; rw [List.length_map, List.length_range]
  have wd : ∀ h ∈ ms.map fun m => (⟨"times", some 1, m⟩ : HR), ∃ m ∈ ms, h = ⟨"times", some 1, m⟩ := fun h hh => by
    obtain ⟨m, hm, e⟩ := List.mem_map.mp hh
    exact ⟨m, hm, e.symm⟩
  have base : RoomOk (ms.map fun m => (⟨"times", some 1, m⟩ : HR)) (ringB n) := by
    have inB : ∀ {b}, b ∈ ringB n → ∃ k, k < n ∧ b = ⟨k, (k + 1) % n, [5]⟩ := fun {b} hb => by
      obtain ⟨k, hk, e⟩ := List.mem_map.mp hb
      exact ⟨k, List.mem_range.mp hk, e.symm⟩
    refine ⟨by rw [ln]; exact n12, fun h hh => ?_, fun b hb => ?_, fun b hb h e => ?_, fun b hb => ?_, ⟨fun _ => 0, fun b hb z => ?_⟩, fun k h e => ?_, by rw [lb]; omega⟩
    · obtain ⟨m, hmm, rfl⟩ := wd h hh
      exact ⟨.inl ⟨(show ("times" : Str) ∈ nine by decide +kernel), ⟨fun _ => .inl rfl, fun _ => rfl⟩, fun n e => by cases e; exact ⟨by decide, by decide⟩⟩, hm m hmm⟩
    · obtain ⟨k, hk, rfl⟩ := inB hb
      rw [ln]
      exact ⟨hk, Nat.mod_lt _ n0⟩
    · obtain ⟨m, hmm, rfl⟩ := wd h (List.mem_of_getElem? e)
      exact (show ("times" : Str) ≠ "out" by decide +kernel)
    · obtain ⟨k, hk, rfl⟩ := inB hb
      exact ⟨(show 1 ≤ 6 by decide), fun y hy => by rw [List.mem_singleton.mp hy]; exact ⟨by decide, by decide⟩⟩
    · obtain ⟨k, hk, rfl⟩ := inB hb
      cases z
    · have kl := (List.getElem?_eq_some_iff.mp e).1
      rw [ln] at kl
      obtain ⟨m, hmm, rfl⟩ := wd h (List.mem_of_getElem? e)
      rw [ring_count n0 kl, needs_times]
      rfl
  have e : (ringB n)[at_]? = some ⟨at_, (at_ + 1) % n, [5]⟩ := by unfold ringB; rw [List.getElem?_map, List.getElem?_range ha]; rfl
  exact belt_ok base e rfl (by rw [ln]; exact ha) (fun h z => by obtain ⟨m, hmm, rfl⟩ := wd h (List.mem_of_getElem? z); exact (show ("times" : Str) ≠ "out" by decide +kernel)) ⟨(show 1 ≤ 6 by decide), fun y hy => by rw [List.mem_singleton.mp hy]; exact hx⟩ (fun z => by cases z)
section
variable {P : Program} {w : World} {K : PySem.W.Frag} {mg : Str → Option Value} {base : Heap}
def sp_law_lines (K : PySem.W.Frag) : Sp := fun vs H Q _ => ∃ f c : Addr, vs = [.ref f] ∧ Flow H f c ∧ ∀ (r : Addr) (hs : List HR) (bs : List BR) (H' : Hp), RoomAt H' r hs bs → RoomOk hs bs → 0 < hs.length → Flow H' f c → But f H H' → Q (.ref r) H'
theorem ok_law_lines {f : Addr} {fd : FuncData} (F : Fun K "_law_lines" "_law_lines" s_law_lines f fd) (T : Top w K mg) : FnOk P w K mg base CX0 2 f fd ["_law_flow_here"] (sp_law_lines K) := by
  obtain ⟨f_law_pick, fd_law_pick, F_law_pick, b_law_pick, m_law_pick⟩ := T.d_law_pick
  have G_law_pick := ok_law_pick (P := P) (w := w) (base := base) F_law_pick T
  refine F.ok sc_law_lines (fun vs H Q E h => ?_) (fun cdv A outer s H vs Q E hr h => ?_)
  · obtain ⟨f, c, rfl, _⟩ := h
    rfl
  obtain ⟨f, c, rfl, hF, q⟩ := h
  refine ⟨_, (pss_cons (ps_set (i := 1) sc_law_lines.nd rfl (Or.inl rfl) (pe_call G_law_pick (hr.mono (by decide)) (by rfl) m_law_pick F_law_pick.kp b_law_pick .nil pass0 (pa_cons (pv 0) (pa_cons pe_int pa_nil))))
      (pss_cons (ps_if (pt_cmpR op_eq (pe_call G_law_pick (hr.mono (by decide)) (by rfl) m_law_pick F_law_pick.kp b_law_pick .nil pass0 (pa_cons (pv 0) (pa_cons pe_int pa_nil))) pe_int (nomark _)) (pss_cons (ps_set (i := 2) sc_law_lines.nd rfl (Or.inr rfl) (pe_op op_add pe_int (pe_call G_law_pick (hr.mono (by decide)) (by rfl) m_law_pick F_law_pick.kp b_law_pick .nil pass0 (pa_cons (pv 0) (pa_cons pe_int pa_nil)))))
      (pss_cons (ps_set (i := 3) sc_law_lines.nd rfl (Or.inl rfl) (pe_call G_law_pick (hr.mono (by decide)) (by rfl) m_law_pick F_law_pick.kp b_law_pick .nil pass0 (pa_cons (pv 0) (pa_cons pe_int pa_nil))))
      (pss_cons (ps_set (i := 4) sc_law_lines.nd rfl (Or.inr rfl) (pe_lc (own := [("_law_k", 5)]) (g := gName 5) (tt := tYes) (by rfl) sc_law_lines.nd (pi_range1 (by rfl) T.m_range (pa_cons (pe_op op_sub (pv 2) pe_int) pa_nil)) (blkOk_by (own := [("_law_k", 5)]) (N := N_law_lines) (sc := defScope s_law_lines) (by decide +kernel)) (fun _ _ _ _ _ => (pg_name (i := 5) sc_law_lines.nd rfl (Or.inl rfl))) (fun _ _ _ _ _ => pts_nil) (fun _ _ _ _ _ => (pe_op (op_rep12 K rfl) (pe_tup (pa_cons pe_int pa_nil)) (pe_call G_law_pick (hr.mono (by decide)) (by rfl) m_law_pick F_law_pick.kp b_law_pick .nil pass0 (pa_cons (pv 0) (pa_cons pe_int pa_nil)))))))
      (pss_cons (ps_set (i := 6) sc_law_lines.nd rfl (Or.inl rfl) (pe_lst pa_nil))
      (pss_cons (ps_set (i := 7) sc_law_lines.nd rfl (Or.inl rfl) (pe_lst pa_nil))
      (pss_cons (ps_for PassesOwn.never rfl (pi_tupK K rfl (pe_tup (pa_cons (pv 3) (pa_cons (pe_op op_add (pv 3) (pv 1)) pa_nil)))) (pg_name (i := 8) sc_law_lines.nd rfl (Or.inl rfl))
        (pss_cons (ps_set (i := 9) sc_law_lines.nd rfl (Or.inr rfl) (pe_callB (call_len_seqK K rfl) (by rfl) T.m_len (by decide +kernel) (pa_cons (pv 6) pa_nil)))
      (pss_cons (ps_set (i := 6) sc_law_lines.nd rfl (Or.inl rfl) (pe_op op_cat (pe_op op_cat (pv 6) (pe_lst (pa_cons (pe_tup (pa_cons (pe_tup (pa_cons pe_str (pa_cons (pv 8) pa_nil))) (pa_cons pe_int pa_nil))) pa_nil))) (pe_lc (own := [("_law_k", 5)]) (g := gName 5) (tt := tYes) (by rfl) sc_law_lines.nd (pi_range1 (by rfl) T.m_range (pa_cons (pe_op op_sub (pv 2) pe_int) pa_nil)) (blkOk_by (own := [("_law_k", 5)]) (N := N_law_lines) (sc := defScope s_law_lines) (by decide +kernel)) (fun _ _ _ _ _ => (pg_name (i := 5) sc_law_lines.nd rfl (Or.inl rfl))) (fun _ _ _ _ _ => pts_nil) (fun _ _ _ _ _ => (pe_tup (pa_cons (pe_tup (pa_cons pe_str pa_nil)) (pa_cons (pe_call G_law_pick (hr.mono (by decide)) (by rfl) m_law_pick F_law_pick.kp b_law_pick .nil pass0 (pa_cons (pv 0) (pa_cons pe_int pa_nil))) pa_nil)))))))
      (pss_one (ps_expr (pe_bmK K rfl PySem.F.plainAttrs_list PySem.F.slot_list_extend PySem.F.type_list_extend mt_extend (pv 7) (pa_cons (pe_lc (own := [("_law_k", 5)]) (g := gName 5) (tt := tYes) (by rfl) sc_law_lines.nd (pi_range1 (by rfl) T.m_range (pa_cons (pe_op op_sub (pv 2) pe_int) pa_nil)) (blkOk_by (own := [("_law_k", 5)]) (N := N_law_lines) (sc := defScope s_law_lines) (by decide +kernel)) (fun _ _ _ _ _ => (pg_name (i := 5) sc_law_lines.nd rfl (Or.inl rfl))) (fun _ _ _ _ _ => pts_nil) (fun _ _ _ _ _ => (pe_tup (pa_cons (pe_op op_add (pv 9) (pv 5)) (pa_cons (pe_op op_add (pe_op op_add (pv 9) (pv 5)) pe_int) (pa_cons (pe_ix (ix_listK K rfl) (pv 4) (pv 5) (fun _ _ => rfl)) pa_nil)))))) pa_nil)))))))
      (pss_one (ps_ret (pe_tup (pa_cons (pe_callTy (call_tuple_ofK K rfl) (by rfl) T.m_tuple (by decide +kernel) (pa_cons (pv 6) pa_nil)) (pa_cons (pe_callTy (call_tuple_ofK K rfl) (by rfl) T.m_tuple (by decide +kernel) (pa_cons (pv 7) pa_nil)) pa_nil))))))))))) pss_nil)
      (pss_cons (ps_set (i := 2) sc_law_lines.nd rfl (Or.inr rfl) (pe_op op_add pe_int (pe_call G_law_pick (hr.mono (by decide)) (by rfl) m_law_pick F_law_pick.kp b_law_pick .nil pass0 (pa_cons (pv 0) (pa_cons pe_int pa_nil)))))
      (pss_cons (ps_setLc (i := 7) (own := [("_law_k", 5)]) (g := gName 5) (tt := tYes) (by rfl) sc_law_lines.nd rfl rfl (sw_true rfl rfl rfl (by decide +kernel)) (pi_range1 (by rfl) T.m_range (pa_cons (pv 2) pa_nil)) (blkOk_by (own := [("_law_k", 5)]) (N := N_law_lines) (sc := defScope s_law_lines) (by decide +kernel)) (fun _ _ _ _ _ => (pg_name (i := 5) sc_law_lines.nd rfl (Or.inl rfl))) (fun _ _ _ _ _ => pts_nil) (fun _ _ _ _ _ => (pe_tup (pa_cons (pv 5) (pa_cons (pe_op op_mod (pe_op op_add (pv 5) pe_int) (pv 2)) (pa_cons (pe_tup (pa_cons pe_int pa_nil)) pa_nil))))))
      (pss_cons (ps_set (i := 10) sc_law_lines.nd rfl (Or.inl rfl) (pe_call G_law_pick (hr.mono (by decide)) (by rfl) m_law_pick F_law_pick.kp b_law_pick .nil pass0 (pa_cons (pv 0) (pa_cons (pv 2) pa_nil))))
      (pss_cons (ps_asg (pe_tup (pa_cons (pv 10) (pa_cons (pe_op op_mod (pe_op op_add (pv 10) pe_int) (pv 2)) (pa_cons (pe_tup (pa_cons (pe_op op_add pe_int (pv 1)) pa_nil)) pa_nil)))) (pg_sub (pv 7) (pv 10) set_list))
      (pss_one (ps_ret (pe_tup (pa_cons (pe_callTy (call_tuple_ofK K rfl) (by rfl) T.m_tuple (by decide +kernel) (pa_cons (pe_lc (own := [("_law_k", 5)]) (g := gName 5) (tt := tYes) (by rfl) sc_law_lines.nd (pi_range1 (by rfl) T.m_range (pa_cons (pv 2) pa_nil)) (blkOk_by (own := [("_law_k", 5)]) (N := N_law_lines) (sc := defScope s_law_lines) (by decide +kernel)) (fun _ _ _ _ _ => (pg_name (i := 5) sc_law_lines.nd rfl (Or.inl rfl))) (fun _ _ _ _ _ => pts_nil) (fun _ _ _ _ _ => (pe_tup (pa_cons (pe_tup (pa_cons pe_str (pa_cons pe_int pa_nil))) (pa_cons (pe_call G_law_pick (hr.mono (by decide)) (by rfl) m_law_pick F_law_pick.kp b_law_pick .nil pass0 (pa_cons (pv 0) (pa_cons pe_int pa_nil))) pa_nil))))) pa_nil)) (pa_cons (pe_callTy (call_tuple_ofK K rfl) (by rfl) T.m_tuple (by decide +kernel) (pa_cons (pv 7) pa_nil)) pa_nil))))))))))), ?_⟩
  refine ⟨_, rfl, f, c, 2, rfl, by decide, by decide +kernel, hF, fun ot H1 o0 o1 F1 B1 => ?_⟩
  refine ⟨_, rfl, f, c, 2, rfl, by decide, by decide +kernel, F1, fun v H2 v0 v1 F2 B2 => ⟨rfl, _, rfl, if_bl (fun c1 => ?_) (fun c1 => ?_)⟩⟩
  · refine ⟨_, rfl, f, c, 5, rfl, by decide, by decide +kernel, F2, fun m5 H3 m0 m1 F3 B3 => ⟨_, _, rfl, rfl, ?_⟩⟩
    refine ⟨_, rfl, f, c, 9, rfl, by decide, by decide +kernel, F3, fun nu H4 u0 u1 F4 B4 => ?_⟩
    obtain ⟨n, en, n1, n5⟩ : ∃ n : Nat, (2 + m5 - 1) = ((n : Nat) : Int) ∧ 1 ≤ n ∧ n ≤ 5 := ⟨(2 + m5 - 1).toNat, by omega, by omega, by omega⟩
    have B14 := ((B1.trans B2).trans B3).trans B4
    refine ⟨_, rfl, _, _, rfl, rfl, _, rfl, by omega, by omega, fun D nD => ?_⟩
    dsimp only
    rw [en]
    refine lc_range (lo := 0) (n := n) (fun i H5 => ∃ (us : List V) (ths : List (List Int)), H5 D = some (.lst us) ∧ ths.length = i ∧ All2 (ThAt H5) us ths ∧ (∀ t ∈ ths, t.length ≤ 6 ∧ ∀ x ∈ t, Small x) ∧ Flow H5 f c ∧ But f H4 H5) ⟨[], [], upd_same, rfl, .nil, (fun _ z => nomatch z), F4.new nD, But.refl.new nD⟩ ?_ ?_
    · rintro i H5 hi ⟨us, ths, hD, lt, alt, gt, F5, B5⟩
      have Df : D ≠ f := F4.ne nD
      have Dc : D ≠ c := F4.nec nD
      have lus := alt.length
      refine ⟨rfl, yes_in ⟨(by show 1 ≤ sizeLine; decide), fun o1 no1 => ⟨_, rfl, f, c, 3, rfl, by decide, by decide +kernel, F5.new no1, fun w H6 w0 w1 F6 B6 => ?_⟩⟩⟩
      have k56 : TK H5 H6 := (TK.new (o := .tup [V.int 1]) no1).trans (TK.but (F5.new no1) B6)
      have o6 : H6 o1 = some (.tup [V.int 1]) := B6 _ _ upd_same (F5.ne no1)
      have hD6 : H6 D = some (.lst us) := B6 _ _ (same_new no1 _ _ hD) Df
      have B56 : But f H4 H6 := (B5.new no1).trans B6
      have fin : ∀ (g : Addr) (t : List Int) (H7 : Hp), H7 g = some (.tup (t.map V.int)) → (t.length ≤ 6 ∧ ∀ x ∈ t, Small x) → Same H6 H7 → ∃ acc, H7 D = some (.lst acc) ∧ acc.length < sizeLine ∧ ∃ (us : List V) (ths : List (List Int)), upd H7 D (.lst (acc ++ [V.ref g])) D = some (.lst us) ∧ ths.length = i + 1 ∧ All2 (ThAt (upd H7 D (.lst (acc ++ [V.ref g])))) us ths ∧ (∀ t ∈ ths, t.length ≤ 6 ∧ ∀ x ∈ t, Small x) ∧ Flow (upd H7 D (.lst (acc ++ [V.ref g]))) f c ∧ But f H4 (upd H7 D (.lst (acc ++ [V.ref g]))) := fun g t H7 hg ht s7 => by
        have kk : TK H5 (upd H7 D (.lst (us ++ [V.ref g]))) := (k56.trans (TK.same s7)).trans (TK.lst (s7 _ _ hD6))
        refine ⟨us, s7 _ _ hD6, small1000 (by omega), us ++ [.ref g], ths ++ [t], upd_same, by rw [List.length_append, lt]; rfl, (alt.imp fun _ _ z => z.keep kk).snoc ⟨g, rfl, TK.lst (s7 _ _ hD6) _ _ hg⟩, fun t' h' => ?_, (F6.same s7).lst Df Dc, (B56.same s7).own nD⟩
        rcases List.mem_append.mp h' with z | z
        · exact gt t' z
        · rw [List.mem_singleton.mp z]; exact ht
      have one : Small 1 := ⟨by decide, by decide⟩
      have : w = 0 ∨ w = 1 ∨ w = 2 := by omega
      rcases this with rfl | rfl | rfl
      · exact .inl ⟨o1, 0, _, rfl, rfl, SqT.of o6, (fun z => by cases z), .inl rfl, (fun z => absurd z (by decide)), fun _ p np => fin p [] _ upd_same ⟨by decide, (fun _ z => nomatch z)⟩ (same_new np)⟩
      · exact .inl ⟨o1, 1, _, rfl, rfl, SqT.of o6, (fun z => by cases z), .inr rfl, (fun _ => fin o1 [1] H6 o6 ⟨by decide, fun x hx => by rw [List.mem_singleton.mp hx]; exact one⟩ (Same.refl _)), fun z => absurd z (by decide)⟩
      · exact .inr ⟨o1, 2, _, rfl, rfl, SqT.of o6, (fun z => by cases z), by decide, by decide, (by show 1 ≤ 1000; decide), fun p np => fin p [1, 1] _ upd_same ⟨by decide, fun x hx => by
          have : x = 1 := by simpa using hx
          rw [this]; exact one⟩ (same_new np)⟩
    · rintro H5 ⟨us, ths, hD, lt, alt, gt, F5, B5⟩
      have B5' := B14.trans B5
      refine ⟨(by show 0 ≤ sizeLine; decide), fun hl0 nhl0 => ⟨(by show 0 ≤ sizeLine; decide), fun bl nbl => ?_⟩⟩
      have F6 := F5.new (o := .lst []) nhl0
      have F7 := F6.new (o := .lst []) nbl
      have blf : bl ≠ f := F6.ne nbl
      have blc : bl ≠ c := F6.nec nbl
      have B6 := B5'.new (o := .lst []) nhl0
      have bl0 : H bl = none := B6.none nbl blf
      have B7 := B6.new (o := .lst []) nbl
      have k57 : TK H5 _ := (TK.new (o := .lst []) nhl0).trans (TK.new (o := .lst []) nbl)
      have hD7 := same_new (o := .lst []) nbl _ _ (same_new (o := .lst []) nhl0 _ _ hD)
      have Dbl : D ≠ bl := fun z => by
        have := same_new (o := .lst []) nhl0 _ _ hD
        rw [z, nbl] at this
        cases this
      have hh7 : (upd (upd H5 hl0 (.lst [])) bl (.lst [])) hl0 = some (.lst []) := same_new nbl _ _ upd_same
      have hb7 : (upd (upd H5 hl0 (.lst [])) bl (.lst [])) bl = some (.lst []) := upd_same
      have hlbl : hl0 ≠ bl := fun z => by rw [← z, upd_same] at nbl; cases nbl
      generalize (upd (upd H5 hl0 (.lst [])) bl (.lst [])) = H7 at F7 B7 k57 hD7 hh7 hb7 ⊢
      refine ⟨_, rfl, _, rfl, _, rfl, _, _, rfl, rfl, (by show 2 ≤ sizeLine; decide), fun tt ntt => ?_⟩
      have k8 := k57.trans (TK.new (o := .tup [V.int nu, V.int (nu + ot)]) ntt)
      have s8 := same_new (o := .tup [V.int nu, V.int (nu + ot)]) ntt
      refine ⟨tt, rfl, ⟨_, SqT.of upd_same⟩, for_tup (K := K) (a := tt) (xs := [.int nu, .int (nu + ot)]) (fun i σ H8 => ∃ (hl : Addr) (hv bv : List V) (hs : List HR) (bs : List BR) (x8 x9 : Option V), σ = [some (.ref f), some (.int ot), some (.int (2 + m5)), some (.int nu), some (.ref D), none, some (.ref hl), some (.ref bl), x8, x9, none] ∧
        H8 tt = some (.tup [.int nu, .int (nu + ot)]) ∧ H8 D = some (.lst us) ∧ All2 (ThAt H8) us ths ∧ H8 hl = some (.lst hv) ∧ All2 (HandAt H8) hv hs ∧ H8 bl = some (.lst bv) ∧ All2 (BeltAt H8) bv bs ∧ hl ≠ bl ∧ RoomOk hs bs ∧ hs.length = i * (n + 1) ∧ bs.length = i * n ∧ Flow H8 f c ∧ But f H H8)
        ⟨hl0, [], [], [], [], _, _, rfl, upd_same, s8 _ _ hD7, alt.imp fun _ _ z => z.keep k8, s8 _ _ hh7, .nil, s8 _ _ hb7, .nil, hlbl, nil_ok, by rw [Nat.zero_mul]; rfl, by rw [Nat.zero_mul]; rfl, F7.new ntt, B7.new ntt⟩ (fun i σ H8 _ ⟨_, _, _, _, _, _, _, _, h, _⟩ => SqT.of h) ?_ ?_⟩
      · rintro i v9 σ H8 hx ⟨hl, hv, bv, hs, bs, x8, x9, rfl, htt, hD8, alt8, hhl, alh, hbl, alb, hlb, ok, lh, lb, F8, B8⟩
        obtain ⟨first, rfl, fs⟩ : ∃ first : Int, v9 = .int first ∧ Small first := by
          have il : i < 2 := (List.getElem?_eq_some_iff.mp hx).1
          have : i = 0 ∨ i = 1 := by omega
          rcases this with rfl | rfl
          · exact ⟨nu, (Option.some.inj hx).symm, by constructor <;> omega⟩
          · exact ⟨nu + ot, (Option.some.inj hx).symm, by constructor <;> omega⟩
        have il : i < 2 := (List.getElem?_eq_some_iff.mp hx).1
        have lhv := alh.length
        have lbv := alb.length
        have lh10 : hs.length ≤ 6 := by
          have : i * (n + 1) ≤ 1 * (n + 1) := Nat.mul_le_mul_right _ (by omega)
          omega
        have lb10 : bs.length ≤ 5 := by
          have : i * n ≤ 1 * n := Nat.mul_le_mul_right _ (by omega)
          omega
        refine ⟨_, rfl, hl, _, rfl, .inl (SqL.of hhl), ?_⟩
        refine ⟨_, rfl, _, rfl, (by show 2 ≤ sizeLine; decide), fun r1 nr1 => ⟨(by show 2 ≤ sizeLine; decide), fun t1 nt1 => ⟨(by show 1 ≤ sizeLine; decide), fun l1 nl1 => ?_⟩⟩⟩
        have z1 := same_new (o := .tup [V.str "always", V.int first]) nr1
        have z2 := same_new (o := .tup [V.ref r1, V.int 2]) nt1
        have z3 := same_new (o := .lst [V.ref t1]) nl1
        refine ⟨hl, l1, _, _, rfl, rfl, z3 _ _ (z2 _ _ (z1 _ _ hhl)), upd_same, little (by show _ + 1 ≤ 1000; omega), fun l2 nl2 => ?_⟩
        have z4 := same_new (o := .lst (hv ++ [V.ref t1])) nl2
        have z84 : Same H8 _ := fun a o e => z4 _ _ (z3 _ _ (z2 _ _ (z1 _ _ e)))
        have l2f : l2 ≠ f := (((F8.new nr1).new nt1).new nl1).ne nl2
        have hl2 : (upd (upd (upd (upd H8 r1 (.tup [V.str "always", V.int first])) t1 (.tup [V.ref r1, V.int 2])) l1 (.lst [V.ref t1])) l2 (.lst (hv ++ [V.ref t1]))) l2 = some (.lst (hv ++ [V.ref t1])) := upd_same
        have ht1 : (upd (upd (upd (upd H8 r1 (.tup [V.str "always", V.int first])) t1 (.tup [V.ref r1, V.int 2])) l1 (.lst [V.ref t1])) l2 (.lst (hv ++ [V.ref t1]))) t1 = some (.tup [V.ref r1, V.int 2]) := z4 _ _ (z3 _ _ upd_same)
        have hr1 : (upd (upd (upd (upd H8 r1 (.tup [V.str "always", V.int first])) t1 (.tup [V.ref r1, V.int 2])) l1 (.lst [V.ref t1])) l2 (.lst (hv ++ [V.ref t1]))) r1 = some (.tup [V.str "always", V.int first]) := z4 _ _ (z3 _ _ (z2 _ _ upd_same))
        have F9 := F8.same z84
        have B9 := B8.same z84
        clear z1 z2 z3 z4
        generalize (upd (upd (upd (upd H8 r1 (.tup [V.str "always", V.int first])) t1 (.tup [V.ref r1, V.int 2])) l1 (.lst [V.ref t1])) l2 (.lst (hv ++ [V.ref t1]))) = H9 at z84 hl2 ht1 hr1 F9 B9 ⊢
        have x0 : HandAt H9 (V.ref t1) ⟨"always", some first, 2⟩ := ⟨t1, r1, rfl, ht1, hr1⟩
        refine ⟨_, rfl, _, _, rfl, rfl, _, rfl, by omega, by omega, fun E nE => ?_⟩
        dsimp only
        rw [en]
        refine lc_range (lo := 0) (n := n) (fun j H10 => ∃ (ws : List V) (ms : List Int), H10 E = some (.lst ws) ∧ ms.length = j ∧ All2 (HandAt H10) ws (ms.map fun m => ⟨"same", none, m⟩) ∧ (∀ m ∈ ms, 0 ≤ m ∧ m ≤ 30) ∧ Flow H10 f c ∧ But f H9 H10) ⟨[], [], upd_same, rfl, .nil, (fun _ z => nomatch z), F9.new nE, But.refl.new nE⟩ ?_ ?_
        · rintro j H10 hj ⟨ws, ms, hE, lm, alw, gm, F10, B10⟩
          have Ef : E ≠ f := F9.ne nE
          have Ec : E ≠ c := F9.nec nE
          have lw := alw.length
          rw [List.length_map] at lw
          refine ⟨rfl, yes_in ⟨(by show 1 ≤ sizeLine; decide), fun r2 nr2 => ⟨_, rfl, f, c, 9, rfl, by decide, by decide +kernel, F10.new nr2, fun m H11 w0 w1 F11 B11 => ⟨(by show 2 ≤ sizeLine; decide), fun t2 nt2 => ?_⟩⟩⟩⟩
          have hE11 := same_new (o := .tup [V.ref r2, V.int m]) nt2 _ _ (B11 _ _ (same_new nr2 _ _ hE) Ef)
          have kk : TK H10 (upd (upd H11 t2 (.tup [V.ref r2, V.int m])) E (.lst (ws ++ [V.ref t2]))) := (((TK.new (o := .tup [V.str "same"]) nr2).trans (TK.but (F10.new nr2) B11)).trans (TK.new (o := .tup [V.ref r2, V.int m]) nt2)).trans (TK.lst hE11)
          refine ⟨_, hE11, small1000 (by omega), ws ++ [.ref t2], ms ++ [m], upd_same, by rw [List.length_append, lm]; rfl, ?_, fun m' h' => ?_, (F11.new nt2).lst Ef Ec, (((B10.new nr2).trans B11).new nt2).own nE⟩
          · rw [List.map_append]
            exact (alw.imp fun _ _ z => z.keep kk).snoc ⟨t2, r2, rfl, TK.lst hE11 _ _ upd_same, TK.lst hE11 _ _ (TK.new (o := .tup [V.ref r2, V.int m]) nt2 _ _ (TK.but (F10.new nr2) B11 _ _ upd_same))⟩
          · rcases List.mem_append.mp h' with z | z
            · exact gm m' z
            · rw [List.mem_singleton.mp z]; omega
        rintro H10 ⟨ws, ms, hE, lm, alw, gm, F10, B10⟩
        have lw := alw.length
        rw [List.length_map] at lw
        have B910 := B9.trans B10
        have k10 : TK H8 H10 := (TK.same z84).trans (TK.but F9 B10)
        have Df : D ≠ f := F4.ne nD
        have hbl10 := B10 _ _ (z84 _ _ hbl) blf
        have hD10 := B10 _ _ (z84 _ _ hD8) Df
        refine ⟨l2, E, _, _, rfl, rfl, B10 _ _ hl2 l2f, hE, little (by rw [List.length_append]; show _ + 1 + _ ≤ 1000; omega), fun hl' nhl' => ?_⟩
        have y1 := same_new (o := .lst (hv ++ [V.ref t1] ++ ws)) nhl'
        have k11 := k10.trans (TK.same y1)
        have hbl11 := y1 _ _ hbl10
        have hD11 := y1 _ _ hD10
        have F11 := F10.same y1
        have B11 := B910.same y1
        have hlb' : hl' ≠ bl := fun z => by rw [z, hbl10] at nhl'; cases nhl'
        have hh11 : (upd H10 hl' (.lst (hv ++ [V.ref t1] ++ ws))) hl' = some (.lst (hv ++ [V.ref t1] ++ ws)) := upd_same
        have alh11 := (((alh.imp fun _ _ z => z.keep k11).snoc (show HandAt _ (V.ref t1) ⟨"always", some first, 2⟩ from x0.keep ((TK.but F9 B10).trans (TK.same y1)))))
        have alw11 := alw.imp fun _ _ z => z.keep (TK.same y1)
        have alA := All2.ap alw11 alh11
        generalize (upd H10 hl' (.lst (hv ++ [V.ref t1] ++ ws))) = H11 at k11 hbl11 hD11 F11 B11 hh11 alh11 alw11 alA ⊢
        refine ⟨_, rfl, .inl ⟨rfl, _, SqL.of hbl11⟩, _, rfl, _, _, rfl, rfl, _, rfl, by omega, by omega, fun G nG => ?_⟩
        dsimp only
        rw [en]
        refine lc_range (lo := 0) (n := n) (fun j H12 => ∃ gs : List V, H12 G = some (.lst gs) ∧ gs.length = j ∧ All2 (BeltAt H12) gs ((List.range j).map fun k => (⟨hs.length + k, hs.length + k + 1, ths.getD k []⟩ : BR)) ∧ Same H11 H12) ⟨[], upd_same, rfl, .nil, same_new nG⟩ ?_ ?_
        · rintro j H12 hj ⟨gs, hG, lg, alg, s12⟩
          obtain ⟨t, et⟩ : ∃ t, ths[j]? = some t := ⟨_, List.getElem?_eq_getElem (by omega)⟩
          obtain ⟨x, ex, g, rfl, eg⟩ := alt8.get et
          refine ⟨rfl, yes_in ⟨_, rfl, _, rfl, _, _, rfl, rfl, _, rfl, _, rfl, _, _, rfl, rfl, _, _, rfl, rfl, _, rfl, _, rfl, D, _, _, _, rfl, rfl, SqL.of (s12 _ _ hD11), at0 ex, (by show 3 ≤ sizeLine; decide), fun t3 nt3 => ?_⟩⟩
          have q1 := same_new (o := .tup [V.int (((hv.length : Nat) : Int) + (0 + ((j : Nat) : Int))), V.int (((hv.length : Nat) : Int) + (0 + ((j : Nat) : Int)) + 1), V.ref g]) nt3
          have hG1 := q1 _ _ hG
          have kk : TK H12 _ := (TK.same q1).trans (TK.lst (ys := gs ++ [V.ref t3]) hG1)
          refine ⟨_, hG1, small1000 (by omega), gs ++ [.ref t3], upd_same, by rw [List.length_append, lg]; rfl, ?_, Same.own (fun a o e => q1 _ _ (s12 _ _ e)) nG⟩
          rw [List.range_succ, List.map_append]
          refine (alg.imp fun _ _ z => z.keep kk).snoc ⟨t3, g, rfl, ?_, ?_⟩
          · have e1 : ((hv.length : Nat) : Int) + (0 + ((j : Nat) : Int)) = ((hs.length + j : Nat) : Int) := by omega
            have e2 : ((hs.length + j : Nat) : Int) + 1 = ((hs.length + j + 1 : Nat) : Int) := by omega
            refine (TK.lst hG1 t3 _ upd_same).trans (congrArg (fun l => some (HO.tup l)) ?_)
            show [V.int (((hv.length : Nat) : Int) + (0 + ((j : Nat) : Int))), V.int (((hv.length : Nat) : Int) + (0 + ((j : Nat) : Int)) + 1), V.ref g] = [V.int ((hs.length + j : Nat) : Int), V.int ((hs.length + j + 1 : Nat) : Int), V.ref g]
            rw [e1, e2]
          · have e3 : ths.getD j [] = t := by rw [List.getD_eq_getElem?_getD, et]; rfl
            show _ = some (HO.tup ((ths.getD j []).map V.int))
            rw [e3]
            exact kk _ _ (s12 _ _ |> fun z => z (k11 _ _ eg))
        · rintro H12 ⟨gs, hG, lg, alg, s12⟩
          have hbl12 := s12 _ _ hbl11
          have blk : TK H12 (upd H12 bl (.lst (bv ++ gs))) := TK.lst hbl12
          have k13 := (k11.trans (TK.same s12)).trans blk
          refine ⟨bl, G, _, _, rfl, rfl, hbl12, hG, little (by omega), hl', hv ++ [V.ref t1] ++ ws, bv ++ gs, hs ++ lineH first ms, bs ++ lineB hs.length ms.length ths, _, _, rfl, k13 _ _ htt, ?_, alt8.imp fun _ _ z => z.keep k13, ?_, ?_, upd_same, ?_, hlb', line_ok ok fs gm gt (by omega) (by omega) (by omega), ?_, ?_, (F11.same s12).lst blf blc, (B11.same s12).own bl0⟩
          · rw [upd_ne Dbl]; exact s12 _ _ hD11
          · rw [upd_ne hlb']; exact s12 _ _ hh11
          · have e : hs ++ lineH first ms = (hs ++ [⟨"always", some first, 2⟩]) ++ ms.map fun m => ⟨"same", none, m⟩ := by rw [List.append_assoc]; rfl
            rw [e]
            exact alA.imp fun _ _ z => z.keep ((TK.same s12).trans blk)
          · rw [show lineB hs.length ms.length ths = (List.range n).map fun k => (⟨hs.length + k, hs.length + k + 1, ths.getD k []⟩ : BR) by unfold lineB; rw [lm]]
            exact All2.ap (alg.imp fun _ _ z => z.keep blk) (alb.imp fun _ _ z => z.keep k13)
          · have : (lineH first ms).length = n + 1 := by show (ms.map _).length + 1 = _; rw [List.length_map, lm]
            rw [List.length_append, this, lh, Nat.succ_mul]
          · have : (lineB hs.length ms.length ths).length = n := by unfold lineB; rw [List.length_map, List.length_range, lm]
            rw [List.length_append, this, lb, Nat.succ_mul]
      · rintro σ H8 ⟨hl, hv, bv, hs, bs, x8, x9, rfl, htt, hD8, alt8, hhl, alh, hbl, alb, hlb, ok, lh, lb, F8, B8⟩
        refine ⟨_, rfl, hl, _, rfl, .inl ⟨SqL.of hhl, fun p3 np3 => ⟨_, rfl, bl, _, rfl, .inl ⟨SqL.of (same_new np3 _ _ hbl), fun p4 np4 => ⟨(by show 2 ≤ sizeLine; decide), fun r nr => ?_⟩⟩⟩⟩⟩
        have z1 := same_new (o := .tup hv) np3
        have z2 := same_new (o := .tup bv) np4
        have z3 := same_new (o := .tup [V.ref p3, V.ref p4]) nr
        have z13 : Same H8 _ := fun a o e => z3 _ _ (z2 _ _ (z1 _ _ e))
        exact q r hs bs _ ⟨p3, p4, hv, bv, upd_same, z3 _ _ (z2 _ _ upd_same), z3 _ _ upd_same, alh.imp fun _ _ z => z.keep (TK.same z13), alb.imp fun _ _ z => z.keep (TK.same z13)⟩ ok (by rw [lh]; show 0 < 2 * (n + 1); omega) (F8.same z13) (B8.same z13)
  · refine ⟨_, rfl, f, c, 9, rfl, by decide, by decide +kernel, F2, fun m9 H3 m0 m1 F3 B3 => ⟨_, _, rfl, rfl, ?_⟩⟩
    obtain ⟨n, en, n1, n5⟩ : ∃ n : Nat, (2 + m9) = ((n : Nat) : Int) ∧ 2 ≤ n ∧ n ≤ 10 := ⟨(2 + m9).toNat, by omega, by omega, by omega⟩
    dsimp only
    rw [en]
    have B13 := (B1.trans B2).trans B3
    refine ⟨_, rfl, _, rfl, by omega, by omega, fun D nD => ?_⟩
    have atn : ∀ {j : Nat}, j < n → (ringB n)[j]? = some ⟨j, (j + 1) % n, [5]⟩ := fun {j} h => by unfold ringB; rw [List.getElem?_map, List.getElem?_range h]; rfl
    have lr : (ringB n).length = n := by unfold ringB; rw [List.length_map, List.length_range]
    refine lc_range (lo := 0) (n := n) (fun i H5 => ∃ us : List V, H5 D = some (.lst us) ∧ All2 (BeltAt H5) us ((ringB n).take i) ∧ Same H3 H5) ⟨[], upd_same, .nil, same_new nD⟩ ?_ ?_
    · rintro j H5 hj ⟨us, hD, al, s5⟩
      have lu := al.length
      rw [List.length_take] at lu
      refine ⟨rfl, yes_in ⟨_, rfl, _, rfl, _, _, rfl, rfl, _, rfl, _, _, rfl, rfl, (show (0 : Int) < (n : Nat) by omega), (by show 1 ≤ sizeLine; decide), fun g ng => ⟨(by show 3 ≤ sizeLine; decide), fun t nt => ?_⟩⟩⟩
      have z1 := same_new (o := .tup [V.int 5]) ng
      have z2 := same_new (o := .tup [V.int (0 + ((j : Nat) : Int)), V.int ((0 + ((j : Nat) : Int) + 1) % ((n : Nat) : Int)), V.ref g]) nt
      have z12 : Same H5 _ := fun a o e => z2 _ _ (z1 _ _ e)
      have hD2 := z12 _ _ hD
      have kk : TK H5 _ := (TK.same z12).trans (TK.lst (ys := us ++ [V.ref t]) hD2)
      refine ⟨_, hD2, small1000 (by omega), us ++ [.ref t], upd_same, ?_, Same.own (fun a o e => z12 _ _ (s5 _ _ e)) nD⟩
      rw [List.take_add_one, atn hj]
      refine (al.imp fun _ _ z => z.keep kk).snoc ⟨t, g, rfl, ?_, TK.lst hD2 _ _ (z2 _ _ upd_same)⟩
      refine (TK.lst hD2 t _ upd_same).trans (congrArg (fun l => some (HO.tup l)) ?_)
      have e1 : 0 + ((j : Nat) : Int) = ((j : Nat) : Int) := Int.zero_add _
      show [V.int (0 + ((j : Nat) : Int)), V.int ((0 + ((j : Nat) : Int) + 1) % ((n : Nat) : Int)), V.ref g] = [V.int ((j : Nat) : Int), V.int (((j + 1) % n : Nat) : Int), V.ref g]
      rw [e1]
      rfl
    rintro H5 ⟨us, hD, al, s5⟩
    rw [List.take_of_length_le (by omega)] at al
    have lu := al.length
    have Df : D ≠ f := F3.ne nD
    have Dc : D ≠ c := F3.nec nD
    have D0 : H D = none := B13.none nD Df
    refine ⟨_, rfl, _, rfl, f, c, _, rfl, (show (0 : Int) < (n : Nat) by omega), Nat.lt_of_le_of_lt (Nat.log2_le_self _) (by show n < 9000; omega), F3.same s5, fun ta H6 a0 a1 F6 B6 => ?_⟩
    obtain ⟨at_, rfl⟩ := Int.eq_ofNat_of_zero_le a0
    have al_ : at_ < n := by have : ((at_ : Nat) : Int) < (n : Nat) := a1; omega
    have k56 := TK.but (F3.same s5) B6
    refine ⟨_, rfl, _, rfl, _, _, rfl, rfl, _, rfl, _, _, rfl, rfl, (show (0 : Int) < (n : Nat) by omega), _, rfl, _, _, rfl, rfl, (by show 1 ≤ sizeLine; decide), fun g ng => ⟨(by show 3 ≤ sizeLine; decide), fun t nt => ?_⟩⟩
    have z1 := same_new (o := .tup [V.int (5 + ot)]) ng
    have z2 := same_new (o := .tup [V.int ((at_ : Nat) : Int), V.int ((((at_ : Nat) : Int) + 1) % ((n : Nat) : Int)), V.ref g]) nt
    have z12 : Same H6 _ := fun a o e => z2 _ _ (z1 _ _ e)
    have hD7 := z12 _ _ (B6 _ _ hD Df)
    refine ⟨_, rfl, _, rfl, D, us, _, at_, rfl, rfl, hD7, by unfold ixN; rw [if_pos (by omega), if_pos (by omega)]; rfl, ?_⟩
    have k8 : TK H6 _ := (TK.same z12).trans (TK.lst (ys := us.set at_ (V.ref t)) hD7)
    have x0 : BeltAt _ (V.ref t) ⟨at_, (at_ + 1) % n, [5 + ot]⟩ := ⟨t, g, rfl, TK.lst (ys := us.set at_ (V.ref t)) hD7 t _ upd_same, TK.lst (ys := us.set at_ (V.ref t)) hD7 g _ (z2 _ _ upd_same)⟩
    have al8 := (al.imp fun _ _ z => z.keep (k56.trans k8)).st at_ x0
    have F8 := ((F6.same z12)).lst (o := .lst (us.set at_ (V.ref t))) Df Dc
    have B8 := ((((B13.same s5).trans B6).same z12)).own (o := .lst (us.set at_ (V.ref t))) D0
    have hD8 : (upd _ D (.lst (us.set at_ (V.ref t)))) D = some (.lst (us.set at_ (V.ref t))) := upd_same (H := (upd (upd H6 g (.tup [V.int (5 + ot)])) t (.tup [V.int ((at_ : Nat) : Int), V.int ((((at_ : Nat) : Int) + 1) % ((n : Nat) : Int)), V.ref g])))
    refine ⟨_, rfl, _, rfl, by omega, by omega, fun E nE => ?_⟩
    refine lc_range (lo := 0) (n := n) (fun j H10 => ∃ (ws : List V) (ms : List Int), H10 E = some (.lst ws) ∧ ms.length = j ∧ All2 (HandAt H10) ws (ms.map fun m => ⟨"times", some 1, m⟩) ∧ (∀ m ∈ ms, 0 ≤ m ∧ m ≤ 30) ∧ Flow H10 f c ∧ But f _ H10) ⟨[], [], upd_same, rfl, .nil, (fun _ z => nomatch z), F8.new nE, But.refl.new nE⟩ ?_ ?_
    · rintro j H10 hj ⟨ws, ms, hE, lm, alw, gm, F10, B10⟩
      have Ef : E ≠ f := F8.ne nE
      have Ec : E ≠ c := F8.nec nE
      have lw := alw.length
      rw [List.length_map] at lw
      refine ⟨rfl, yes_in ⟨(by show 2 ≤ sizeLine; decide), fun r2 nr2 => ⟨_, rfl, f, c, 9, rfl, by decide, by decide +kernel, F10.new nr2, fun m H11 w0 w1 F11 B11 => ⟨(by show 2 ≤ sizeLine; decide), fun t2 nt2 => ?_⟩⟩⟩⟩
      have hE11 := same_new (o := .tup [V.ref r2, V.int m]) nt2 _ _ (B11 _ _ (same_new nr2 _ _ hE) Ef)
      have kk : TK H10 (upd (upd H11 t2 (.tup [V.ref r2, V.int m])) E (.lst (ws ++ [V.ref t2]))) := (((TK.new (o := .tup [V.str "times", V.int 1]) nr2).trans (TK.but (F10.new nr2) B11)).trans (TK.new (o := .tup [V.ref r2, V.int m]) nt2)).trans (TK.lst hE11)
      refine ⟨_, hE11, small1000 (by omega), ws ++ [.ref t2], ms ++ [m], upd_same, by rw [List.length_append, lm]; rfl, ?_, fun m' h' => ?_, (F11.new nt2).lst Ef Ec, (((B10.new nr2).trans B11).new nt2).own nE⟩
      · rw [List.map_append]
        exact (alw.imp fun _ _ z => z.keep kk).snoc ⟨t2, r2, rfl, TK.lst hE11 _ _ upd_same, TK.lst hE11 _ _ (TK.new (o := .tup [V.ref r2, V.int m]) nt2 _ _ (TK.but (F10.new nr2) B11 _ _ upd_same))⟩
      · rcases List.mem_append.mp h' with z | z
        · exact gm m' z
        · rw [List.mem_singleton.mp z]; omega
    rintro H10 ⟨ws, ms, hE, lm, alw, gm, F10, B10⟩
    refine ⟨E, _, rfl, .inl ⟨SqL.of hE, fun p3 np3 => ⟨_, rfl, D, _, rfl, .inl ⟨SqL.of (same_new np3 _ _ (B10 _ _ hD8 Df)), fun p4 np4 => ⟨(by show 2 ≤ sizeLine; decide), fun r nr => ?_⟩⟩⟩⟩⟩
    have y1 := same_new (o := .tup ws) np3
    have y2 := same_new (o := .tup (us.set at_ (V.ref t))) np4
    have y3 := same_new (o := .tup [V.ref p3, V.ref p4]) nr
    have y13 : Same H10 _ := fun a o e => y3 _ _ (y2 _ _ (y1 _ _ e))
    exact q r _ _ _ ⟨p3, p4, _, _, upd_same, y3 _ _ (y2 _ _ upd_same), y3 _ _ upd_same, alw.imp fun _ _ z => z.keep (TK.same y13), al8.imp fun _ _ z => z.keep ((TK.but F8 B10).trans (TK.same y13))⟩ (ring_ok (by omega) (by omega) (by constructor <;> omega) gm lm al_) (by rw [List.length_map, lm]; omega) (F10.same y13) ((B8.trans B10).same y13)
def sp_law_some_copied (K : PySem.W.Frag) : Sp := fun vs H Q _ => ∃ f c : Addr, vs = [.ref f] ∧ Flow H f c ∧ ∀ (r : Addr) (hs : List HR) (bs : List BR) (H' : Hp), RoomAt H' r hs bs → RoomOk hs bs → 0 < hs.length → Flow H' f c → But f H H' → Q (.ref r) H'
theorem ok_law_some_copied {f : Addr} {fd : FuncData} (F : Fun K "_law_some_copied" "_law_some_copied" s_law_some_copied f fd) (T : Top w K mg) : FnOk P w K mg base CX0 7 f fd ["_law_flow_here"] (sp_law_some_copied K) := by
  obtain ⟨f_law_copied, fd_law_copied, F_law_copied, b_law_copied, m_law_copied⟩ := T.d_law_copied
  have G_law_copied := ok_law_copied (P := P) (w := w) (base := base) F_law_copied T
  obtain ⟨f_law_pick, fd_law_pick, F_law_pick, b_law_pick, m_law_pick⟩ := T.d_law_pick
  have G_law_pick := ok_law_pick (P := P) (w := w) (base := base) F_law_pick T
  obtain ⟨f_law_marred, fd_law_marred, F_law_marred, b_law_marred, m_law_marred⟩ := T.d_law_marred
  have G_law_marred := ok_law_marred (P := P) (w := w) (base := base) F_law_marred T
  obtain ⟨f_law_turned_room, fd_law_turned_room, F_law_turned_room, b_law_turned_room, m_law_turned_room⟩ := T.d_law_turned_room
  have G_law_turned_room := ok_law_turned_room (P := P) (w := w) (base := base) F_law_turned_room T
  obtain ⟨f_law_lines, fd_law_lines, F_law_lines, b_law_lines, m_law_lines⟩ := T.d_law_lines
  have G_law_lines := ok_law_lines (P := P) (w := w) (base := base) F_law_lines T
  refine F.ok sc_law_some_copied (fun vs H Q E h => ?_) (fun cdv A outer s H vs Q E hr h => ?_)
  · obtain ⟨f, c, rfl, _⟩ := h
    rfl
  obtain ⟨f, c, rfl, hF, q⟩ := h
  refine ⟨_, (pss_cons (ps_if (pt_cmpR op_eq (pe_call G_law_pick (hr.mono (by decide)) (by rfl) m_law_pick F_law_pick.kp b_law_pick .nil pass0 (pa_cons (pv 0) (pa_cons pe_int pa_nil))) pe_int (nomark _)) (pss_one (ps_ret (pe_ix (ix_tupK K rfl) (pe_call G_law_turned_room (hr.mono (by decide)) (by rfl) m_law_turned_room F_law_turned_room.kp b_law_turned_room .nil pass0 (pa_cons (pv 0) (pa_cons (pe_call G_law_lines (hr.mono (by decide)) (by rfl) m_law_lines F_law_lines.kp b_law_lines .nil pass0 (pa_cons (pv 0) pa_nil)) pa_nil))) pe_int (fun _ _ => rfl)))) pss_nil)
      (pss_cons (ps_set (i := 1) sc_law_some_copied.nd rfl (Or.inl rfl) (pe_call G_law_copied (hr.mono (by decide)) (by rfl) m_law_copied F_law_copied.kp b_law_copied .nil pass0 (pa_cons (pv 0) pa_nil)))
      (pss_cons (ps_if (pt_cmpR op_eq (pe_call G_law_pick (hr.mono (by decide)) (by rfl) m_law_pick F_law_pick.kp b_law_pick .nil pass0 (pa_cons (pv 0) (pa_cons pe_int pa_nil))) pe_int (nomark _)) (pss_one (ps_set (i := 1) sc_law_some_copied.nd rfl (Or.inl rfl) (pe_call G_law_marred (hr.mono (by decide)) (by rfl) m_law_marred F_law_marred.kp b_law_marred .nil pass0 (pa_cons (pv 0) (pa_cons (pv 1) pa_nil))))) pss_nil)
      (pss_one (ps_ret (pe_ix (ix_tupK K rfl) (pe_call G_law_turned_room (hr.mono (by decide)) (by rfl) m_law_turned_room F_law_turned_room.kp b_law_turned_room .nil pass0 (pa_cons (pv 0) (pa_cons (pv 1) pa_nil))) pe_int (fun _ _ => rfl))))))), ?_⟩
  refine ⟨_, rfl, f, c, 4, rfl, by decide, by decide +kernel, hF, fun v H1 v0 v1 F1 B1 => ⟨rfl, _, rfl, if_bl (fun _ => ?_) (fun _ => ?_)⟩⟩
  · refine ⟨_, rfl, _, rfl, f, c, rfl, F1, fun r hs bs H2 hR ok n0 F2 B2 => ?_⟩
    refine ⟨f, c, r, hs, bs, rfl, F2, hR, ok, fun t r' od ord hs' bs' H3 ht hR' hod nod tu F3 B3 => ?_⟩
    exact ⟨t, _, _, _, rfl, rfl, SqT.of ht, atI_nat (j := 0) rfl, q r' hs' bs' H3 hR' (tu.ok ok) (by rw [tu.hlen, tu.olen]; exact n0) F3 ((B1.trans B2).trans B3)⟩
  · refine ⟨_, rfl, f, c, rfl, F1, fun r hs bs H2 hR ok n0 F2 B2 => ?_⟩
    refine ⟨_, rfl, f, c, 2, rfl, by decide, by decide +kernel, F2, fun v2 H3 u0 u1 F3 B3 => ⟨rfl, _, rfl, if_bl (fun _ => ?_) (fun _ => ?_)⟩⟩
    · refine ⟨_, rfl, _, rfl, f, c, r, hs, bs, rfl, F3, hR.keep (TK.but F2 B3), ok, n0, fun r2 hs2 bs2 H4 hR2 ok2 n2 F4 B4 => ?_⟩
      refine ⟨_, rfl, _, rfl, f, c, r2, hs2, bs2, rfl, F4, hR2, ok2, fun t r' od ord hs' bs' H5 ht hR' hod nod tu F5 B5 => ?_⟩
      exact ⟨t, _, _, _, rfl, rfl, SqT.of ht, atI_nat (j := 0) rfl, q r' hs' bs' H5 hR' (tu.ok ok2) (by rw [tu.hlen, tu.olen]; exact n2) F5 ((((B1.trans B2).trans B3).trans B4).trans B5)⟩
    · refine ⟨_, rfl, _, rfl, f, c, r, hs, bs, rfl, F3, hR.keep (TK.but F2 B3), ok, fun t r' od ord hs' bs' H5 ht hR' hod nod tu F5 B5 => ?_⟩
      exact ⟨t, _, _, _, rfl, rfl, SqT.of ht, atI_nat (j := 0) rfl, q r' hs' bs' H5 hR' (tu.ok ok) (by rw [tu.hlen, tu.olen]; exact n0) F5 (((B1.trans B2).trans B3).trans B5)⟩
end
/-! ### list(zip(a, b)): a zip whose pairs are kept -/
section
set_option maxHeartbeats 1000000
section
open PySem PySem.Spec
abbrev IsZM (h : Heap) (z TI TO T : Addr) (b : Bool) : Prop :=
  h.get? z = some { cls := .type "zip", dict := none, data := .fields #[rawInt T, .bool b, .bool false, .ref TI, .ref TO], slots := #[] }
section
variable {prog : Program} {w : World} {A : Around} {E : Value → Shared → Prop} {s : Shared}
theorem wpAny_loadAlive {a : Addr} {Q : Option Obj → Shared → Prop} (h : Q (s.heap.get? a) s) : wpAny (model prog w) A (loadIfAlive a) Q E s := fun _ _ _ => h
theorem ownedM {z TI TO T : Addr} {fl : Bool} {o : Obj} {Q : Bool → Shared → Prop} (hz : IsZM s.heap z TI TO T fl) (hTo : s.heap.get? T = some o)
    (h : ∀ h', IsZM h' z TI TO T true → Heap.SameBut z s.heap h' → Q false { s with heap := h' }) : wpAny (model prog w) A (Builtin.SmallTypes.ownedTupleIsFree (.ref z)) Q E s := by
  unfold Builtin.SmallTypes.ownedTupleIsFree
  refine wpAny_bind (wpAny_field hz rfl (x := rawInt T) rfl ?_)
  simp only [rawInt]
  refine wpAny_bind (wpAny_loadAlive ?_)
  rw [Int.toNat_natCast, hTo]
  show wpAny _ _ (field (.ref z) 1 >>= _) _ _ _
  refine wpAny_bind (wpAny_field hz rfl (x := .bool fl) rfl ?_)
  cases fl with
  | false =>
    show wpAny _ _ (setField (.ref z) 1 (.bool true) >>= _) _ _ _
    refine wpAny_bind (wpAny_setField_rec hz (by simp) fun h₁ hz₁ hs₁ => wpAny_pure (h _ hz₁ hs₁))
  | true =>
    show wpAny _ _ (pure false) _ _ _
    exact wpAny_pure (h _ hz (Heap.SameBut.refl _ _))
theorem zipM_next_item {z TI TO T i1 i2 l1 l2 : Addr} {fl : Bool} {o : Obj} {k1 k2 : Nat} {xs ys : Array Value} {x y : Value} {Q : Value → Shared → Prop} (D : ZipApart z TI TO i1 i2 l1 l2)
    (hz : IsZM s.heap z TI TO T fl) (hTo : s.heap.get? T = some o) (hTI : IsPair s.heap TI (.ref i1) (.ref i2))
    (h1 : s.heap.IsListIter i1 l1 k1) (h2 : s.heap.IsListIter i2 l2 k2) (hl1 : s.heap.IsList l1 xs) (hl2 : s.heap.IsList l2 ys) (hx : xs[k1]? = some x) (hy : ys[k2]? = some y)
    (hQ : ∀ h', IsZM h' z TI TO T true → h'.IsListIter i1 l1 (k1 + 1) → h'.IsListIter i2 l2 (k2 + 1) → IsPair h' s.heap.objs.size x y → h'.objs.size = s.heap.objs.size + 1 →
      (∀ c o, c ≠ z → c ≠ i1 → c ≠ i2 → s.heap.get? c = some o → h'.get? c = some o) → Q (.ref s.heap.objs.size) { s with heap := h' }) :
    wpAny (model prog w) A (Builtin.«zip.__next__» ⟨[.ref z], []⟩) (fun fin s' => ∃ v, fin = .done (.ret v) ∧ Q v s') E s := by
  show wpAny _ _ (field (.ref z) 2 >>= _) _ _ _
  refine wpAny_bind (wpAny_field hz rfl (x := .bool false) rfl ?_)
  show wpAny _ _ (field (.ref z) 3 >>= _) _ _ _
  refine wpAny_bind (wpAny_field hz rfl (x := .ref TI) rfl ?_)
  refine wpAny_bind (wpAny_seqItems hTI rfl ?_)
  show wpAny _ _ (Builtin.SmallTypes.ownedTupleIsFree (.ref z) >>= _) _ _ _
  refine wpAny_bind (ownedM hz hTo fun h₁ hz₁ hs₁ => ?_)
  simp only [Bool.false_eq_true, if_false]
  refine wpAny_bind ?_
  simp only [List.forIn_toArray, List.forIn_cons, List.forIn_nil]
  refine wpAny_bind (wpAny_bind (wpAny_holding ?_))
  show wpAny _ _ (Builtin.SmallTypes.nextOf (.ref i1) >>= _) _ _ _
  refine wpAny_bind (wpAny_nextOf_list_item (h1.extBut hs₁.extBut D.i1z) (hl1.extBut hs₁.extBut D.l1z) hx fun h₂ h1₂ hs₂ => wpAny_pure ?_)
  refine wpAny_pure ?_
  refine wpAny_bind (wpAny_bind (wpAny_holding ?_))
  show wpAny _ _ (Builtin.SmallTypes.nextOf (.ref i2) >>= _) _ _ _
  refine wpAny_bind (wpAny_nextOf_list_item ((h2.extBut hs₁.extBut D.i2z).extBut hs₂.extBut D.i12.symm) ((hl2.extBut hs₁.extBut D.l2z).extBut hs₂.extBut D.l2i1) hy fun h₃ h2₃ hs₃ => wpAny_pure ?_)
  refine wpAny_pure (wpAny_pure ?_)
  show wpAny _ _ (newTuple [x, y] >>= _) _ _ _
  refine wpAny_bind (wpAny_newTuple ?_)
  have hsz : h₃.objs.size = s.heap.objs.size := by rw [hs₃.1, hs₂.1, hs₁.1]
  have hk : ∀ c o, c ≠ z → c ≠ i1 → c ≠ i2 → s.heap.get? c = some o → h₃.get? c = some o := fun c o c1 c2 c3 e => hs₃.extBut _ _ c3 (hs₂.extBut _ _ c2 (hs₁.extBut _ _ c1 e))
  refine wpAny_pure ⟨_, rfl, ?_⟩
  show Q (.ref h₃.objs.size) _
  rw [hsz]
  have hz₃ : IsZM h₃ z TI TO T true := hs₃.extBut _ _ D.i2z.symm (hs₂.extBut _ _ D.i1z.symm hz₁)
  have nw : IsPair (h₃.push { cls := .type "tuple", data := .seq #[x, y] }) s.heap.objs.size x y := by rw [← hsz]; exact Heap.get?_push_size _ rfl
  exact hQ _ (Heap.get?_push_of_some _ hz₃) ((h1₂.extBut hs₃.extBut D.i12).at fun o e => Heap.get?_push_of_some _ e) (h2₃.at fun o e => Heap.get?_push_of_some _ e) nw (by rw [Heap.size_push, hsz]) fun c o c1 c2 c3 e => Heap.get?_push_of_some _ (hk c o c1 c2 c3 e)
theorem zipM_next_end {z TI TO T i1 i2 l1 l2 : Addr} {fl : Bool} {o : Obj} {k1 k2 : Nat} {xs ys : Array Value} {Q : Fin → Shared → Prop} (hh : A.handled = none) (D : ZipApart z TI TO i1 i2 l1 l2)
    (hz : IsZM s.heap z TI TO T fl) (hTo : s.heap.get? T = some o) (hTI : IsPair s.heap TI (.ref i1) (.ref i2))
    (h1 : s.heap.IsListIter i1 l1 k1) (h2 : s.heap.IsListIter i2 l2 k2) (hl1 : s.heap.IsList l1 xs) (hl2 : s.heap.IsList l2 ys) (hend : xs[k1]? = none ∨ ys[k2]? = none)
    (hE : ∀ h' e, (∀ c o, c ≠ z → c ≠ i1 → c ≠ i2 → s.heap.get? c = some o → h'.get? c = some o) → (∃ o, h'.get? e = some o ∧ o.cls = .type "StopIteration") → E (.ref e) { s with heap := h' }) :
    wpAny (model prog w) A (Builtin.«zip.__next__» ⟨[.ref z], []⟩) Q E s := by
  show wpAny _ _ (field (.ref z) 2 >>= _) _ _ _
  refine wpAny_bind (wpAny_field hz rfl (x := .bool false) rfl ?_)
  show wpAny _ _ (field (.ref z) 3 >>= _) _ _ _
  refine wpAny_bind (wpAny_field hz rfl (x := .ref TI) rfl ?_)
  refine wpAny_bind (wpAny_seqItems hTI rfl ?_)
  show wpAny _ _ (Builtin.SmallTypes.ownedTupleIsFree (.ref z) >>= _) _ _ _
  refine wpAny_bind (ownedM hz hTo fun h₁ hz₁ hs₁ => ?_)
  simp only [Bool.false_eq_true, if_false]
  refine wpAny_bind ?_
  simp only [List.forIn_toArray, List.forIn_cons, List.forIn_nil]
  refine wpAny_bind (wpAny_bind (wpAny_holding ?_))
  show wpAny _ _ (Builtin.SmallTypes.nextOf (.ref i1) >>= _) _ _ _
  cases hx : xs[k1]? with
  | none =>
    refine wpAny_bind (wpAny_nextOf_list_end hh (h1.extBut hs₁.extBut D.i1z) (hl1.extBut hs₁.extBut D.l1z) hx fun h₂ e hs₂ he => ?_)
    exact hE h₂ e (fun c o c1 c3 _ x => hs₂ _ _ c3 (hs₁.extBut _ _ c1 x)) he
  | some x =>
    have hy : ys[k2]? = none := by rcases hend with h | h; rw [hx] at h; cases h; exact h
    refine wpAny_bind (wpAny_nextOf_list_item (h1.extBut hs₁.extBut D.i1z) (hl1.extBut hs₁.extBut D.l1z) hx fun h₂ h1₂ hs₂ => wpAny_pure ?_)
    refine wpAny_pure ?_
    refine wpAny_bind (wpAny_bind (wpAny_holding ?_))
    show wpAny _ _ (Builtin.SmallTypes.nextOf (.ref i2) >>= _) _ _ _
    refine wpAny_bind (wpAny_nextOf_list_end hh ((h2.extBut hs₁.extBut D.i2z).extBut hs₂.extBut D.i12.symm) ((hl2.extBut hs₁.extBut D.l2z).extBut hs₂.extBut D.l2i1) hy fun h₃ e hs₃ he => ?_)
    exact hE h₃ e (fun c o c1 c3 c4 x => hs₃ _ _ c4 (hs₂.extBut _ _ c3 (hs₁.extBut _ _ c1 x))) he
/-- how a zip of two lists stands while its pairs are kept -/
def ZipStand (h : Heap) (z TI TO : Addr) : Prop := (∃ a b, IsPair h TO a b) ∧ (IsZip h z TI TO .none ∨ ∃ T fl a b, IsZM h z TI TO T fl ∧ IsPair h T a b)
theorem pyNext_zipL_item {z TI TO i1 i2 l1 l2 : Addr} {k1 k2 : Nat} {xs ys : Array Value} {x y : Value} {Q : Option Value → Shared → Prop} (D : ZipApart z TI TO i1 i2 l1 l2)
    (hz : ZipStand s.heap z TI TO) (hTI : IsPair s.heap TI (.ref i1) (.ref i2))
    (h1 : s.heap.IsListIter i1 l1 k1) (h2 : s.heap.IsListIter i2 l2 k2) (hl1 : s.heap.IsList l1 xs) (hl2 : s.heap.IsList l2 ys) (hx : xs[k1]? = some x) (hy : ys[k2]? = some y)
    (hQ : ∀ h', ZipStand h' z TI TO → h'.IsListIter i1 l1 (k1 + 1) → h'.IsListIter i2 l2 (k2 + 1) → IsPair h' s.heap.objs.size x y → h'.objs.size = s.heap.objs.size + 1 →
      (∀ c o, c ≠ z → c ≠ TO → c ≠ i1 → c ≠ i2 → s.heap.get? c = some o → h'.get? c = some o) → Q (some (.ref s.heap.objs.size)) { s with heap := h' }) :
    wpAny (model prog w) A (pyNext (.ref z)) Q E s := by
  obtain ⟨⟨a, b, hTO⟩, hz⟩ := hz
  rcases hz with hz | ⟨T, fl, c1, c2, hz, hT0⟩
  · have zl : z < s.heap.objs.size := Heap.lt_size hz
    exact wpAny_pyNext_zip_item D hz hTI hTO h1 h2 hl1 hl2 hx hy fun h' a1 a2 a3 a4 a5 a6 a7 => hQ h' ⟨⟨_, _, a2⟩, .inr ⟨_, false, _, _, a1, a5⟩⟩ a3 a4 a5 a6 a7
  · have hT : s.TypeIs (.ref z) "zip" := ⟨_, hz, rfl⟩
    have nz : T ≠ z := fun e => by
      subst e
      have q := congrArg Obj.cls (Option.some.inj (hz.symm.trans hT0))
      revert q
      simp
    have n1 : T ≠ i1 := fun e => by
      subst e
      obtain ⟨o, e1, e2, _⟩ := h1
      obtain rfl := Option.some.inj (hT0.symm.trans e1)
      revert e2
      simp
    have n2 : T ≠ i2 := fun e => by
      subst e
      obtain ⟨o, e1, e2, _⟩ := h2
      obtain rfl := Option.some.inj (hT0.symm.trans e1)
      revert e2
      simp
    unfold pyNext
    refine wpAny_bind (wpAny_attempt (wpAny_callSpecial?_slot (name := Str.ofString "__next__") hT F.slot_zip_next
      (wpAny_call_entry F.slot_zip_next hT F.entry_zip_next
        (zipM_next_item D hz hT0 hTI h1 h2 hl1 hl2 hx hy fun h' a1 a3 a4 a5 a6 a7 => wpAny_pure (hQ h' ⟨⟨a, b, a7 _ _ D.TOz D.TOi1 D.TOi2 hTO⟩, .inr ⟨T, true, c1, c2, a1, a7 _ _ nz n1 n2 hT0⟩⟩ a3 a4 a5 a6 fun c o c1 _ c3 c4 e => a7 c o c1 c3 c4 e)) (F.args_zip_next_1 _))))
theorem pyNext_zipL_end {z TI TO i1 i2 l1 l2 : Addr} {k1 k2 : Nat} {xs ys : Array Value} {Q : Option Value → Shared → Prop} (hh : A.handled = none) (D : ZipApart z TI TO i1 i2 l1 l2)
    (hz : ZipStand s.heap z TI TO) (hTI : IsPair s.heap TI (.ref i1) (.ref i2))
    (h1 : s.heap.IsListIter i1 l1 k1) (h2 : s.heap.IsListIter i2 l2 k2) (hl1 : s.heap.IsList l1 xs) (hl2 : s.heap.IsList l2 ys) (hend : xs[k1]? = none ∨ ys[k2]? = none)
    (hQ : ∀ h', (∀ c o, c ≠ z → c ≠ TO → c ≠ i1 → c ≠ i2 → s.heap.get? c = some o → h'.get? c = some o) → Q none { s with heap := h' }) : wpAny (model prog w) A (pyNext (.ref z)) Q E s := by
  obtain ⟨⟨a, b, hTO⟩, hz⟩ := hz
  rcases hz with hz | ⟨T, fl, c1, c2, hz, hT0⟩
  · exact wpAny_pyNext_zip_end hh D hz hTI hTO h1 h2 hl1 hl2 hend hQ
  · have hT : s.TypeIs (.ref z) "zip" := ⟨_, hz, rfl⟩
    unfold pyNext
    refine wpAny_bind (wpAny_attempt (wpAny_callSpecial?_slot (name := Str.ofString "__next__") hT F.slot_zip_next
      (wpAny_call_entry F.slot_zip_next hT F.entry_zip_next (zipM_next_end hh D hz hT0 hTI h1 h2 hl1 hl2 hend fun h' e hk he => ?_) (F.args_zip_next_1 _))))
    obtain ⟨o, ho, hc⟩ := he
    refine wpAny_bind (wpAny_isInstance (T := "StopIteration") (b := true) ⟨o, ho, hc⟩ isSubtype_stop ?_)
    exact wpAny_pure (hQ _ fun c o c1 _ c3 c4 e => hk c o c1 c3 c4 e)
end
end
section
open PySem PySem.Spec PyProof.Rows
theorem zip_no_len : typeLookup (.type "zip") "__len__" = pure none := by rw [typeLookup_type, builtinLookup_eq_fast]; kernel_rfl
theorem zip_no_hint : typeLookup (.type "zip") "__length_hint__" = pure none := by rw [typeLookup_type, builtinLookup_eq_fast]; kernel_rfl
def PrOf (H : Hp) (xs ys : List V) (as : List Addr) : Prop := ∀ (j : Nat) (t : Addr), as[j]? = some t → ∃ x y, xs[j]? = some x ∧ ys[j]? = some y ∧ H t = some (.tup [x, y])
section
variable {X : Cx} {pins : List (Addr × Obj)} {σ : L2.St} {R : Result → Shared → Prop} {A : Around} {z TI TO i1 i2 l1 l2 S : Addr} {xs ys : List V} {H0 : Hp}
theorem zipl_loop (hh : A.handled = none) (D : ZipApart z TI TO i1 i2 l1 l2) (res : Value) (few : xs.length ≤ 1000000) (n : Nat) (hn : n = min xs.length ys.length) :
    ∀ (k i : Nat) (s : Shared) (H : Hp) (as : List Addr), n - i = k → i ≤ n → Inv X pins σ H s → (∀ b ∈ [z, TI, TO, i1, i2], FpOk X pins H b) → ZipStand s.heap z TI TO → IsPair s.heap TI (.ref i1) (.ref i2) →
      s.heap.IsListIter i1 l1 i → s.heap.IsListIter i2 l2 i → SqL X.K H l1 xs → SqL X.K H l2 ys → H S = some (.lst (as.map V.ref)) → as.length = i → PrOf H xs ys as → (∀ b o, H0 b = some o → H b = some o ∧ b ≠ S) → S ≠ l1 → S ≠ l2 →
      (∀ (s' : Shared) (H' : Hp) (as' : List Addr), Inv X pins σ H' s' → H' S = some (.lst (as'.map V.ref)) → as'.length = n → PrOf H' xs ys as' → (∀ b o, H0 b = some o → H' b = some o) → R (.ok (.ret res)) s') →
      codeAny (model X.prog X.w) A (.builtin "list.extend.loop" ⟨[.ref S, .ref z, res], []⟩) R s := by
  intro k
  induction k with
  | zero =>
    intro i s H as hk hi I fp st hTI h1 h2 q1 q2 hS ha pr keep n1 n2 done
    have hin : i = n := by omega
    subst hin
    refine codeAny_builtin PySem.F.entry_extend_loop ?_
    rw [Around.under_plainId PySem.F.plain_extend_loop _]
    show wpAny _ A.in1 (pyNext (.ref z) >>= _) _ _ s
    obtain ⟨its, rv, p, _⟩ := I.list q1
    obtain ⟨its2, rv2, p2, _⟩ := I.list q2
    have e1 := rv.length
    have e2 := rv2.length
    have he : its.toArray[i]? = none ∨ its2.toArray[i]? = none := by
      by_cases h : xs.length ≤ ys.length
      · exact .inl (by simp; omega)
      · exact .inr (by simp; omega)
    refine wpAny_bind (pyNext_zipL_end (by simp [hh]) D st hTI h1 h2 p.isList p2.isList he fun h' hk2 => ?_)
    have I1 : Inv X pins σ H { s with heap := h' } := I.turnedL (t' := s.toks) (ch := [z, TI, TO, i1, i2]) (fun c o hb q =>
      hk2 c o (fun q' => hb (by simp [q'])) (fun q' => hb (by simp [q'])) (fun q' => hb (by simp [q'])) (fun q' => hb (by simp [q'])) q) fp
    exact wpAny_pure (done _ H as I1 hS ha pr fun b o e => (keep b o e).1)
  | succ k ih =>
    intro i s H as hk hi I fp st hTI h1 h2 q1 q2 hS ha pr keep n1 n2 done
    refine codeAny_builtin PySem.F.entry_extend_loop ?_
    rw [Around.under_plainId PySem.F.plain_extend_loop _]
    show wpAny _ A.in1 (pyNext (.ref z) >>= _) _ _ s
    obtain ⟨its, rv, p, _⟩ := I.list q1
    obtain ⟨its2, rv2, p2, _⟩ := I.list q2
    have hx : xs[i]? = some xs[i] := List.getElem?_eq_getElem (by omega)
    have hy : ys[i]? = some ys[i] := List.getElem?_eq_getElem (by omega)
    obtain ⟨u, hu, ru⟩ := rv.get hx
    obtain ⟨u2, hu2, ru2⟩ := rv2.get hy
    refine wpAny_bind (pyNext_zipL_item D st hTI h1 h2 p.isList p2.isList (x := u) (y := u2) (by simpa using hu) (by simpa using hu2) fun h' st' h1' h2' hT hsz hk2 => ?_)
    have kp : ∀ c o, c ∉ [z, TI, TO, i1, i2] → s.heap.get? c = some o → h'.get? c = some o := fun c o hb q => hk2 c o (fun q' => hb (by simp [q'])) (fun q' => hb (by simp [q'])) (fun q' => hb (by simp [q'])) (fun q' => hb (by simp [q'])) q
    have new : ObjOk X.prog X.w (upd H s.heap.objs.size (.tup [xs[i], ys[i]])) h' s.heap.objs.size (.tup [xs[i], ys[i]]) :=
      ⟨by show 2 ≤ sizeLine; decide, [u, u2], .cons ru (.cons ru2 .nil), ⟨_, hT, rfl, _, rfl⟩⟩
    have I1 : Inv X pins σ (upd H s.heap.objs.size (.tup [xs[i], ys[i]])) { s with heap := h' } := I.turnedNew (t' := s.toks) (ch := [z, TI, TO, i1, i2]) kp fp (Nat.le_refl _) new
    have fresh : H s.heap.objs.size = none := I.hok.fresh (Nat.le_refl _)
    have nT : ∀ {b : Addr} {o : HO}, H b = some o → b ≠ s.heap.objs.size := fun {b o} e z => by rw [z, fresh] at e; cases e
    have hS1 : upd H s.heap.objs.size (.tup [xs[i], ys[i]]) S = some (.lst (as.map V.ref)) := by rw [upd_ne (nT hS)]; exact hS
    obtain ⟨lz, its3, m, rl, ll, eS⟩ := I1.lstM hS1
    rw [List.length_map] at ll
    show wpAny _ A.in1 (updateSeq S (·.push (.ref s.heap.objs.size)) >>= _) _ _ _
    have I2 : Inv X pins σ (upd (upd H s.heap.objs.size (.tup [xs[i], ys[i]])) S (.lst ((as ++ [s.heap.objs.size]).map V.ref))) { s with heap := h'.update S (Obj.mapSeq (·.push (.ref s.heap.objs.size))) } := by
      refine I1.lset (t' := s.toks) (its' := its3 ++ [.ref s.heap.objs.size]) hS1 eS (by simp) ?_ ?_
      · rw [List.map_append]
        exact rl.append (.cons rfl .nil)
      · rw [List.length_map, List.length_append]
        show as.length + 1 ≤ _
        rw [sizeLine_eq]
        omega
    refine wpAny_bind (wpAny_updateSeq eS rfl ?_ (by rw [List.size_toArray, sizeLine_eq]; omega) (by rw [Array.size_push, List.size_toArray, sizeLine_eq]; omega))
    have zs : ∀ {b : Addr}, H b = none → b ≠ S := fun {b} e z => by rw [z, hS] at e; cases e
    have fpn : ∀ b ∈ [z, TI, TO, i1, i2], b ≠ S := fun b hb => zs (fp b hb).1
    have up : ∀ b o, b ≠ S → h'.get? b = some o → (h'.update S (Obj.mapSeq (·.push (.ref s.heap.objs.size)))).get? b = some o := fun b o hb e => (Heap.get?_update_other _ _ (Ne.symm hb)).trans e
    have szS : s.heap.objs.size ≠ S := fun e => by rw [← e] at hS; rw [fresh] at hS; cases hS
    have HH : ∀ b o, H b = some o → b ≠ S → upd (upd H s.heap.objs.size (.tup [xs[i], ys[i]])) S (.lst ((as ++ [s.heap.objs.size]).map V.ref)) b = some o := fun b o e n => by rw [upd_ne n, upd_ne (nT e)]; exact e
    have sq : ∀ {a : Addr} {zs : List V}, a ≠ S → SqL X.K H a zs → SqL X.K (upd (upd H s.heap.objs.size (.tup [xs[i], ys[i]])) S (.lst ((as ++ [s.heap.objs.size]).map V.ref))) a zs := fun {a zs} n h => by
      rcases h with h | h
      · left
        rcases h with h | ⟨o, h⟩
        · exact .inl (HH _ _ h n)
        · exact .inr ⟨o, HH _ _ h n⟩
      · exact .inr h
    have lt : ∀ b ∈ [z, TI, TO, i1, i2], b < s.heap.objs.size := fun b hb => by
      have e' : b = z ∨ b = TI ∨ b = TO ∨ b = i1 ∨ b = i2 := by simpa using hb
      rcases e' with q | q | q | q | q
      · rw [q]
        rcases st.2 with hz | ⟨T, fl, c1, c2, hz, _⟩
        · exact Heap.lt_size hz
        · exact Heap.lt_size hz
      · rw [q]; exact Heap.lt_size hTI
      · rw [q]; obtain ⟨⟨_, _, e1⟩, _⟩ := st; exact Heap.lt_size e1
      · rw [q]; obtain ⟨_, e1, _⟩ := h1; exact Heap.lt_size e1
      · rw [q]; obtain ⟨_, e1, _⟩ := h2; exact Heap.lt_size e1
    refine wpAny_pure ⟨plainId_quiet PySem.F.plain_extend_loop _, ih (i + 1) _ _ (as ++ [s.heap.objs.size]) (by omega) (by omega) I2 (fun b hb => ⟨?_, (fp b hb).2⟩) ?_ (up _ _ (fpn TI (by simp)) (hk2 _ _ D.TIz D.TITO D.TIi1 D.TIi2 hTI)) (h1'.at fun o e => up _ _ (fpn i1 (by simp)) e) (h2'.at fun o e => up _ _ (fpn i2 (by simp)) e) (sq (Ne.symm n1) q1) (sq (Ne.symm n2) q2) upd_same (by rw [List.length_append, ha]; rfl) ?_ (fun b o e => ⟨HH _ _ (keep b o e).1 (keep b o e).2, (keep b o e).2⟩) n1 n2 done⟩
    · rw [upd_ne (fpn b hb), upd_ne (Nat.ne_of_lt (lt b hb))]
      exact (fp b hb).1
    · obtain ⟨⟨c, d, eTO⟩, alt⟩ := st'
      refine ⟨⟨c, d, up _ _ (fpn TO (by simp)) eTO⟩, ?_⟩
      rcases alt with hz | ⟨T, fl, c1, c2, hz, hT0⟩
      · exact .inl (up _ _ (fpn z (by simp)) hz)
      · refine .inr ⟨T, fl, c1, c2, up _ _ (fpn z (by simp)) hz, up _ _ (fun e => ?_) hT0⟩
        subst e
        have q := congrArg Obj.cls (Option.some.inj (eS.symm.trans hT0))
        revert q
        simp
    · intro j t e
      rcases Nat.lt_or_ge j as.length with l | l
      · rw [List.getElem?_append_left l] at e
        obtain ⟨x, y, e1, e2, e3⟩ := pr j t e
        exact ⟨x, y, e1, e2, HH _ _ e3 (fun q => by rw [q, hS] at e3; cases e3)⟩
      · rw [List.getElem?_append_right l] at e
        have j0 : j - as.length = 0 := by
          have := (List.getElem?_eq_some_iff.mp e).1
          simp at this
          omega
        rw [j0] at e
        obtain rfl := Option.some.inj e
        have ji : j = i := by omega
        subst ji
        exact ⟨_, _, hx, hy, by rw [upd_ne szS]; exact upd_same⟩
theorem zipl_stay {s : Shared} {its : List Value} {m : Nat} {f : Array Value → Array Value} (st : ZipStand s.heap z TI TO) (fpn : ∀ b ∈ [z, TI, TO, i1, i2], b ≠ S) (eS : s.heap.get? S = some { cls := .type "list", data := .seq its.toArray m })
    (hTI : IsPair s.heap TI (.ref i1) (.ref i2)) {k1 k2 : Nat} (h1 : s.heap.IsListIter i1 l1 k1) (h2 : s.heap.IsListIter i2 l2 k2) :
    ZipStand (s.heap.update S (Obj.mapSeq f)) z TI TO ∧ IsPair (s.heap.update S (Obj.mapSeq f)) TI (.ref i1) (.ref i2) ∧ (s.heap.update S (Obj.mapSeq f)).IsListIter i1 l1 k1 ∧ (s.heap.update S (Obj.mapSeq f)).IsListIter i2 l2 k2 := by
  have up : ∀ b o, b ≠ S → s.heap.get? b = some o → (s.heap.update S (Obj.mapSeq f)).get? b = some o := fun b o hb e => (Heap.get?_update_other _ _ (Ne.symm hb)).trans e
  refine ⟨?_, up _ _ (fpn TI (by simp)) hTI, h1.at fun o e => up _ _ (fpn i1 (by simp)) e, h2.at fun o e => up _ _ (fpn i2 (by simp)) e⟩
  obtain ⟨⟨c, d, eTO⟩, alt⟩ := st
  refine ⟨⟨c, d, up _ _ (fpn TO (by simp)) eTO⟩, ?_⟩
  rcases alt with hz | ⟨T, fl, c1, c2, hz, hT0⟩
  · exact .inl (up _ _ (fpn z (by simp)) hz)
  · refine .inr ⟨T, fl, c1, c2, up _ _ (fpn z (by simp)) hz, up _ _ (fun e => ?_) hT0⟩
    subst e
    have q := congrArg Obj.cls (Option.some.inj (eS.symm.trans hT0))
    revert q
    simp
theorem zipl_extend {s : Shared} {H : Hp} (hh : A.handled = none) (D : ZipApart z TI TO i1 i2 l1 l2) (res : Value) (few : xs.length ≤ 1000000) (I : Inv X pins σ H s) (fp : ∀ b ∈ [z, TI, TO, i1, i2], FpOk X pins H b)
    (hz : IsZip s.heap z TI TO .none) (hTO : ∃ a b, IsPair s.heap TO a b) (hTI : IsPair s.heap TI (.ref i1) (.ref i2)) (h1 : s.heap.IsListIter i1 l1 0) (h2 : s.heap.IsListIter i2 l2 0) (q1 : SqL X.K H l1 xs) (q2 : SqL X.K H l2 ys)
    (hS : H S = some (.lst [])) (keep : ∀ b o, H0 b = some o → H b = some o ∧ b ≠ S) (n1 : S ≠ l1) (n2 : S ≠ l2)
    (done : ∀ (s' : Shared) (H' : Hp) (as' : List Addr), Inv X pins σ H' s' → H' S = some (.lst (as'.map V.ref)) → as'.length = min xs.length ys.length → PrOf H' xs ys as' → (∀ b o, H0 b = some o → H' b = some o) → R (.ok (.ret res)) s') :
    wpAny (model X.prog X.w) A.in1 (Builtin.List.listExtendWith (.ref S) (.ref z) res)
      (fun fin s' => match fin with | .done f => R (.ok f) s' | .again c' => c'.quiet = true ∧ codeAny (model X.prog X.w) A c' R s') (fun e s' => R (.error e) s') s := by
  have zsn : ∀ {b : Addr}, H b = none → b ≠ S := fun {b} e z => by rw [z, hS] at e; cases e
  have fpn : ∀ b ∈ [z, TI, TO, i1, i2], b ≠ S := fun b hb => zsn (fp b hb).1
  have hT : s.TypeIs (.ref z) "zip" := ⟨_, hz, rfl⟩
  unfold Builtin.List.listExtendWith
  refine wpAny_bind (wpAny_typeOf hT ?_)
  have a1 : Builtin.List.listSameRef (.ref S) (.ref z) = false := by simp [Builtin.List.listSameRef, Ne.symm (fpn z (by simp))]
  have a2 : (Value.type "zip" == Value.type "list") = false := by decide
  have a3 : (Value.type "zip" == Value.type "tuple") = false := by decide
  simp only [a1, a2, a3, Bool.or_false, Bool.false_eq_true, if_false]
  refine wpAny_bind (wpAny_pyIter_zip hz ?_)
  refine wpAny_bind (wpAny_holding ?_)
  unfold Builtin.List.listLengthHint
  refine wpAny_bind (wpAny_specialOf hT zip_no_len ?_)
  show wpAny _ A.in1 (specialOf (Value.ref z) (Str.ofString "__length_hint__") >>= _) _ _ _
  refine wpAny_bind (wpAny_specialOf hT zip_no_hint ?_)
  refine wpAny_pure ?_
  show wpAny _ A.in1 (rule "list.extend.makes-room" >>= fun _ => Builtin.List.listTouch (.ref S) >>= fun _ =>
    again (.builtin "list.extend.loop" ⟨[.ref S, .ref z, res], []⟩)) _ _ _
  refine wpAny_bind (wpAny_rule ?_)
  refine wpAny_bind ?_
  show wpAny _ A.in1 (updateSeq S (·.push .none) >>= fun _ => updateSeq S (·.pop)) _ _ _
  obtain ⟨_, its, m, rl, ll, eS⟩ := I.lstM hS
  obtain rfl : its = [] := List.eq_nil_of_length_eq_zero ll.symm
  have I1 : Inv X pins σ (upd H S (.lst [V.non])) { s with heap := s.heap.update S (Obj.mapSeq (·.push Value.none)) } :=
    I.lset (t' := s.toks) (its' := [Value.none]) hS eS rfl (.cons rfl .nil) (by show 1 ≤ sizeLine; decide)
  obtain ⟨b1, b2, b3, b4⟩ := zipl_stay (f := (·.push Value.none)) ⟨hTO, .inl hz⟩ fpn eS hTI h1 h2
  refine wpAny_bind (wpAny_updateSeq eS rfl ?_ (by show 0 ≤ sizeLine; decide) (by show 1 ≤ sizeLine + 1; decide))
  have hS1 : upd H S (.lst [V.non]) S = some (.lst [V.non]) := upd_same
  obtain ⟨_, its1, m1, rl1, ll1, eS1⟩ := I1.lstM hS1
  obtain ⟨u, rfl, ru⟩ := vals1 rl1
  have I2 : Inv X pins σ (upd (upd H S (.lst [V.non])) S (.lst [])) { s with heap := (s.heap.update S (Obj.mapSeq (·.push Value.none))).update S (Obj.mapSeq (·.pop)) } :=
    I1.lset (t' := s.toks) (its' := []) hS1 eS1 rfl .nil (Nat.zero_le _)
  obtain ⟨c1, c2, c3, c4⟩ := zipl_stay (s := { s with heap := s.heap.update S (Obj.mapSeq (·.push Value.none)) }) (f := (·.pop)) b1 fpn eS1 b2 b3 b4
  refine wpAny_updateSeq eS1 rfl ?_ (by show 1 ≤ sizeLine; decide) (by show 0 ≤ sizeLine + 1; decide)
  have HH : ∀ b o, H b = some o → b ≠ S → upd (upd H S (.lst [V.non])) S (.lst []) b = some o := fun b o e n => by rw [upd_ne n, upd_ne n]; exact e
  have sq : ∀ {a : Addr} {zs : List V}, a ≠ S → SqL X.K H a zs → SqL X.K (upd (upd H S (.lst [V.non])) S (.lst [])) a zs := fun {a zs} n h => by
    rcases h with h | h
    · left
      rcases h with h | ⟨o, h⟩
      · exact .inl (HH _ _ h n)
      · exact .inr ⟨o, HH _ _ h n⟩
    · exact .inr h
  exact wpAny_pure ⟨plainId_quiet PySem.F.plain_extend_loop _, zipl_loop (S := S) hh D res few _ rfl _ 0 _ _ [] rfl (Nat.zero_le _) I2 (fun b hb => ⟨by rw [upd_ne (fpn b hb), upd_ne (fpn b hb)]; exact (fp b hb).1, (fp b hb).2⟩) c1 c2 c3 c4 (sq (Ne.symm n1) q1) (sq (Ne.symm n2) q2) upd_same rfl (fun j t e => nomatch e) (fun b o e => ⟨HH _ _ (keep b o e).1 (keep b o e).2, (keep b o e).2⟩) n1 n2 done⟩
theorem zipl_init {s : Shared} {H : Hp} (hh : A.handled = none) (D : ZipApart z TI TO i1 i2 l1 l2) (few : xs.length ≤ 1000000) (I : Inv X pins σ H s) (fp : ∀ b ∈ [z, TI, TO, i1, i2], FpOk X pins H b)
    (hz : IsZip s.heap z TI TO .none) (hTO : ∃ a b, IsPair s.heap TO a b) (hTI : IsPair s.heap TI (.ref i1) (.ref i2)) (h1 : s.heap.IsListIter i1 l1 0) (h2 : s.heap.IsListIter i2 l2 0) (q1 : SqL X.K H l1 xs) (q2 : SqL X.K H l2 ys)
    (hS : H S = some (.lst [])) (keep : ∀ b o, H0 b = some o → H b = some o ∧ b ≠ S) (n1 : S ≠ l1) (n2 : S ≠ l2)
    (done : ∀ (s' : Shared) (H' : Hp) (as' : List Addr), Inv X pins σ H' s' → H' S = some (.lst (as'.map V.ref)) → as'.length = min xs.length ys.length → PrOf H' xs ys as' → (∀ b o, H0 b = some o → H' b = some o) → R (.ok (.ret .none)) s') :
    wpAny (model X.prog X.w) A.in1 (Builtin.«list.__init__» ⟨[.ref S, .ref z], []⟩)
      (fun fin s' => match fin with | .done f => R (.ok f) s' | .again c' => c'.quiet = true ∧ codeAny (model X.prog X.w) A c' R s') (fun e s' => R (.error e) s') s := by
  have zsn : ∀ {b : Addr}, H b = none → b ≠ S := fun {b} e z => by rw [z, hS] at e; cases e
  have fpn : ∀ b ∈ [z, TI, TO, i1, i2], b ≠ S := fun b hb => zsn (fp b hb).1
  obtain ⟨_, its, m, rl, ll, eS⟩ := I.lstM hS
  obtain rfl : its = [] := List.eq_nil_of_length_eq_zero ll.symm
  show wpAny _ A.in1 (do let old ← Builtin.List.listItems (.ref S); Builtin.List.listUpdate (.ref S) (fun _ => #[]); letGo old.toList.reverse; Builtin.List.listExtendWith (.ref S) (.ref z) .none) _ _ s
  refine wpAny_bind ?_
  unfold Builtin.List.listItems
  refine wpAny_bind (wpAny_seqItems eS rfl (wpAny_pure ?_))
  show wpAny _ A.in1 (updateSeq S (fun _ => #[]) >>= fun _ => letGo (#[] : Array Value).toList.reverse >>= fun _ => Builtin.List.listExtendWith (.ref S) (.ref z) .none) _ _ s
  have I1 : Inv X pins σ (upd H S (.lst [])) { s with heap := s.heap.update S (Obj.mapSeq (fun _ => #[])) } := I.lset (t' := s.toks) (its' := []) hS eS rfl .nil (Nat.zero_le _)
  obtain ⟨b1, b2, b3, b4⟩ := zipl_stay (f := fun _ => #[]) ⟨hTO, .inl hz⟩ fpn eS hTI h1 h2
  refine wpAny_bind (wpAny_updateSeq eS rfl ?_ (by show 0 ≤ sizeLine; decide) (by show 0 ≤ sizeLine + 1; decide))
  refine wpAny_bind (wpAny_letGo ?_)
  have up : ∀ b o, b ≠ S → s.heap.get? b = some o → (s.heap.update S (Obj.mapSeq (fun _ => #[]))).get? b = some o := fun b o hb e => (Heap.get?_update_other _ _ (Ne.symm hb)).trans e
  have HH : ∀ b o, H b = some o → b ≠ S → upd H S (.lst []) b = some o := fun b o e n => by rw [upd_ne n]; exact e
  have sq : ∀ {a : Addr} {zs : List V}, a ≠ S → SqL X.K H a zs → SqL X.K (upd H S (.lst [])) a zs := fun {a zs} n h => by
    rcases h with h | h
    · left
      rcases h with h | ⟨o, h⟩
      · exact .inl (HH _ _ h n)
      · exact .inr ⟨o, HH _ _ h n⟩
    · exact .inr h
  exact zipl_extend hh D .none few I1 (fun b hb => ⟨by rw [upd_ne (fpn b hb)]; exact (fp b hb).1, (fp b hb).2⟩) (up _ _ (fpn z (by simp)) hz) b1.1 b2 b3 b4 (sq (Ne.symm n1) q1) (sq (Ne.symm n2) q2) upd_same (fun b o e => ⟨HH _ _ (keep b o e).1 (keep b o e).2, (keep b o e).2⟩) n1 n2 done
end
section
variable {X : Cx}
def tListZip (K : PySem.W.Frag) (ta : TA) : TE := fun σ H Q => ta σ H fun vs H1 => ∃ a b xs ys, vs = [.ref a, .ref b] ∧ SqL K H1 a xs ∧ SqL K H1 b ys ∧ xs.length ≤ 1000000 ∧
  ∀ (p : Addr) (as : List Addr) (H' : Hp), H1 p = none → H' p = some (.lst (as.map V.ref)) → as.length = min xs.length ys.length → PrOf H' xs ys as → (∀ b o, H1 b = some o → H' b = some o) → Q (.ref p) H'
theorem pe_listZip (K : PySem.W.Frag) (same : X.K = K) {e e2 : Expr} {ta : TA} {p p2 pos pos2 : Pos} (hg : Gl X "list") (hm : X.mg "list" = none) (hg2 : Gl X "zip") (hm2 : X.mg "zip" = none) (ha : PA X [e, e2] ta) (hc : X.calm = true := by rfl)
    (na : starEach [Expr.Call (.Name "zip" p2) [e, e2] [] pos2] X.env = (false, eval (Expr.Call (.Name "zip" p2) [e, e2] [] pos2) X.env) :: starEach [] X.env := by rfl)
    (hs : starEach [e, e2] X.env = (false, eval e X.env) :: starEach [e2] X.env := by rfl) (hpl : (backTo pos2 (starEach [e2] X.env)).any (·.1) = false := by rfl) :
    PE X (.Call (.Name "list" p) [.Call (.Name "zip" p2) [e, e2] [] pos2] [] pos) (tListZip K ta) := by
  subst same
  refine ⟨fun pins s σ H Q I h => ?_⟩
  refine Call_ (ld_blt I hg hm boot_list ?_)
  refine PyProof.Rows.callWith_type1 (args_cons ?_ na) na rfl
  refine Call_ (ld_blt I hg2 hm2 PyProof.Rows.boot_zip (PyProof.Rows.callWith_type1 (thn (ha.run pos2 pins s σ H _ I h) fun us s1 ⟨vs, H1, I1, r1, q1⟩ => ?_) hs hpl))
  obtain ⟨a, b, xs, ys, ex, hqx, hqy, few, q1⟩ := q1
  subst ex
  cases r1 with
  | cons r rr =>
    cases rr with
    | cons r' rr =>
      cases rr
      cases r
      cases r'
      obtain ⟨its, rv, p1, _⟩ := I1.list hqx
      obtain ⟨its2, rv2, p2, _⟩ := I1.list hqy
      refine call_zip_2 p1.isList p2.isList fun h' hz hTI hTO h1 h2 hsz hk => ?_
      refine args_nil ?_
      have I2 : Inv X pins σ H1 { s1 with heap := h' } := I1.kept (t' := s1.toks) hk
      have fresh5 : ∀ c, c ∈ [s1.heap.objs.size + 4, s1.heap.objs.size + 2, s1.heap.objs.size + 3, s1.heap.objs.size, s1.heap.objs.size + 1] → FpOk X pins H1 c ∧ c < s1.heap.objs.size + 5 := fun c hcm => by
        have e' : c = s1.heap.objs.size + 4 ∨ c = s1.heap.objs.size + 2 ∨ c = s1.heap.objs.size + 3 ∨ c = s1.heap.objs.size ∨ c = s1.heap.objs.size + 1 := by simpa using hcm
        have hle : s1.heap.objs.size ≤ c := by
          rcases e' with z | z | z | z | z
          · rw [z]; exact Nat.le_add_right _ _
          · rw [z]; exact Nat.le_add_right _ _
          · rw [z]; exact Nat.le_add_right _ _
          · rw [z]; exact Nat.le_refl _
          · rw [z]; exact Nat.le_add_right _ _
        refine ⟨I1.fpOk hle (I1.hok.fresh hle), ?_⟩
        rcases e' with z | z | z | z | z
        · rw [z]; exact Nat.add_lt_add_left (by decide) _
        · rw [z]; exact Nat.add_lt_add_left (by decide) _
        · rw [z]; exact Nat.add_lt_add_left (by decide) _
        · rw [z]; exact Nat.lt_add_of_pos_right (by decide)
        · rw [z]; exact Nat.add_lt_add_left (by decide) _
      have D := PySem.W.ktu_apart s1.heap.objs.size a b p1.lt p2.lt
      have hS : (h'.push { cls := .type "list", data := .seq #[] }).get? h'.objs.size = some { cls := .type "list", data := .seq #[] } := Heap.get?_push_size _ rfl
      have I3 : Inv X pins σ (upd H1 h'.objs.size (.lst [])) { s1 with heap := h'.push { cls := .type "list", data := .seq #[] } } := I2.lnew (t' := s1.toks) (its := []) .nil (Nat.zero_le _)
      have fr : H1 h'.objs.size = none := I2.hok.fresh (Nat.le_refl _)
      have nS : ∀ {c : Addr}, c < s1.heap.objs.size + 5 → c ≠ h'.objs.size := fun {c} l e => by rw [e, hsz] at l; exact absurd l (Nat.lt_irrefl _)
      have nK : ∀ b o, H1 b = some o → b ≠ h'.objs.size := fun b o e z => by rw [z, fr] at e; cases e
      have HH : ∀ b o, H1 b = some o → upd H1 h'.objs.size (.lst []) b = some o := fun b o e => by rw [upd_ne (nK b o e)]; exact e
      have sq : ∀ {a : Addr} {zs : List V}, SqL X.K H1 a zs → SqL X.K (upd H1 h'.objs.size (.lst [])) a zs := fun {a zs} h => by
        rcases h with h | h
        · left
          rcases h with h | ⟨o, h⟩
          · exact .inl (HH _ _ h)
          · exact .inr ⟨o, HH _ _ h⟩
        · exact .inr h
      refine callType_codes (Q₁ := fun obj s₁ => obj = .ref h'.objs.size ∧ s₁ = { s1 with heap := h'.push { cls := .type "list", data := .seq #[] } }) PySem.F.called_list (PySem.F.typeCall_list_1 _) PySem.F.entry_list_init (code_list_new _ ⟨rfl, rfl⟩) fun obj s₁ h₁ => ?_
      obtain ⟨rfl, rfl⟩ := h₁
      have push : ∀ {c : Addr} {o : Obj}, h'.get? c = some o → (h'.push { cls := .type "list", data := .seq #[] }).get? c = some o := fun e => Heap.get?_push_of_some _ e
      refine ⟨⟨_, hS, rfl⟩, PySem.F.args_list_init_2 _ _, ?_⟩
      refine zipl_init (X := X) (A := X.A.in1) (H0 := H1) (by simp [I1.ok.hd hc]) D few I3 (fun c hcm => ⟨?_, (fresh5 c hcm).1.2⟩) (push hz) ⟨_, _, push hTO⟩ (push hTI) (h1.at fun o e => push e) (h2.at fun o e => push e) (sq hqx) (sq hqy) upd_same (fun b o e => ⟨HH b o e, nK b o e⟩) ?_ ?_ fun s' H' as' I4 e1 e2 e3 e4 => ?_
      · rw [upd_ne (nS (fresh5 c hcm).2)]
        exact (fresh5 c hcm).1.1
      · exact (nS (Nat.lt_of_lt_of_le p1.lt (Nat.le_add_right _ _))).symm
      · exact (nS (Nat.lt_of_lt_of_le p2.lt (Nat.le_add_right _ _))).symm
      · exact ⟨rfl, .ref h'.objs.size, H', I4, rfl, q1 _ as' H' fr e1 e2 e3 e4⟩
end
end
end
theorem firstMet_uniq (ns : List Int) : ∀ i, i ≤ ns.length → PyProof.Rows.firstMet (fun j => ns.getD j 0) i = uniq (ns.take i)
  | 0, _ => rfl
  | i + 1, h => by
    have ih := firstMet_uniq ns i (by omega)
    have e : ns[i]? = some ns[i] := List.getElem?_eq_getElem (by omega)
    rw [PyProof.Rows.firstMet_succ, ih, List.take_add_one, e]
    show PyProof.Rows.step_dedup _ (ns.getD i 0) = uniq (ns.take i ++ [ns[i]])
    rw [uniq_snoc, List.getD_eq_getElem?_getD, e]
    show PyProof.Rows.step_dedup _ ns[i] = _
    unfold PyProof.Rows.step_dedup
    by_cases m : ns[i] ∈ uniq (ns.take i) <;> simp [m]
theorem ints_of_valsG : ∀ {ns : List Int} {us : List Value}, Vals (ns.map V.int) us → PyProof.Rows.IntsAre us ns
  | [], _, .nil => .nil
  | _ :: _, _, .cons r t => by
    obtain ⟨k, rfl⟩ := r
    exact .cons _ k (ints_of_valsG t)
def tLenSetL (K : PySem.W.Frag) (ta : TE) : TE := fun σ H Q => ta σ H fun x H1 => ∃ (l : Addr) (ns : List Int), x = .ref l ∧ SqL K H1 l (ns.map V.int) ∧ ns.length ≤ 400 ∧ Q (.int (((uniq ns).length : Nat) : Int)) H1
theorem pe_lenSetL (K : PySem.W.Frag) {X : Cx} (same : X.K = K) {a : Expr} {ta : TE} {p p2 q pos : Pos} (hg : Gl X "len") (hm : X.mg "len" = none) (hg2 : Gl X "set") (hm2 : X.mg "set" = none) (ha : PE X a ta) (hc : X.calm = true := by rfl)
    (na : starEach [a] X.env = (false, eval a X.env) :: starEach [] X.env := by rfl) : PE X (.Call (.Name "len" p) [.Call (.Name "set" p2) [a] [] q] [] pos) (tLenSetL K ta) := by
  subst same
  constructor
  intro pins s σ H Q I h
  refine Call_
    (ld_blt I hg hm boot_len ?_)
  refine PyProof.Rows.callWith_builtin1
    (PyProof.Rows.args_cons ?_ rfl) rfl rfl
  refine Call_
    (ld_blt I hg2 hm2 boot_set ?_)
  refine PyProof.Rows.callWith_type1
    (PyProof.Rows.args_cons (thn (ha.run pins s σ H _ I h) ?_) na) na rfl
  rintro v s1 ⟨x, H1, I1, r1, l, ns, rfl, hq, hl, q1⟩
  refine PyProof.Rows.args_nil ?_
  cases r1
  have ⟨its, r, pl, _⟩ := I1.list hq
  have big : its.toArray.size = ns.length := by rw [List.size_toArray, ← r.length, List.length_map]
  refine call_set_list (ns := ns) (I1.ok.hd hc) pl.isList (by simpa using ints_of_valsG r) (by unfold scanBound; omega) ?_
  intro h' tk hS hk
  refine PyProof.Rows.args_nil ?_
  rw [big, firstMet_uniq ns ns.length (Nat.le_refl _), List.take_length] at hS
  have ⟨o, es, ep, t, ho, hex, hd, _, _, _, hf, hn⟩ := hS
  have I2 : Inv X pins σ H1 { s1 with heap := h', toks := tk } := I1.kept fun b o e => hk b o (Heap.lt_size e) e
  have lu := uniq_len ns
  refine call_len_set ho hex hd hf (by rw [hn]; omega) ?_
  exact ⟨.int (((uniq ns).length : Nat) : Int), H1, I2.tok _, ⟨_, by rw [hn]⟩, q1⟩
/-- a tuple of whole numbers -/
def RowAt (H : Hp) (v : V) (m : List Int) : Prop := ∃ t : Addr, v = .ref t ∧ H t = some (.tup (m.map V.int))
theorem RowAt.keep {H H' : Hp} {v : V} {m : List Int} (a : RowAt H v m) (k : TK H H') : RowAt H' v m := by
  obtain ⟨t, e, h⟩ := a
  exact ⟨t, e, k _ _ h⟩
abbrev rowD (m : List Int) : PyData := .tuple (m.map PyData.int)
theorem rows_dp {K : PySem.W.Frag} {H : Hp} {vs : List V} {ms : List (List Int)} (a : All2 (RowAt H) vs ms) : DpAll K H vs (ms.map rowD) := by
  induction a with
  | nil => exact .nil
  | cons h t ih =>
    obtain ⟨t, rfl, e1⟩ := h
    exact .cons (.tup (SqT.of e1) (dp_ints _)) ih
theorem lay_ints : ∀ m : List Int, PyData.canLayAll0 (m.map PyData.int) = true
  | [] => rfl
  | x :: m => by
    rw [List.map_cons]
    simp only [PyData.canLayAll0, PyData.canLay0, lay_ints m, Bool.and_self]
theorem lay_rows : ∀ m : List (List Int), PyData.canLayAll0 (m.map rowD) = true
  | [] => rfl
  | x :: m => by
    rw [List.map_cons]
    simp only [PyData.canLayAll0, PyData.canLay0, lay_rows m, lay_ints, Bool.and_self]
theorem dep_ints : ∀ m : List Int, PyData.depthAll (m.map PyData.int) ≤ 0
  | [] => Nat.le_refl _
  | x :: m => by
    rw [List.map_cons]
    simp only [PyData.depthAll, PyData.depth]
    have := dep_ints m
    omega
theorem dep_rows : ∀ m : List (List Int), PyData.depthAll (m.map rowD) ≤ 1
  | [] => Nat.zero_le _
  | x :: m => by
    rw [List.map_cons]
    simp only [PyData.depthAll, PyData.depth]
    have := dep_ints x
    have := dep_rows m
    omega
theorem rows_lay (m : List (List Int)) : PyData.canLay0 (.list (m.map rowD)) = true := by
  simp only [PyData.canLay0, lay_rows]
theorem rows_shaped (m : List (List Int)) : SeqAt.shaped (.list (m.map rowD)) = true := by
  unfold SeqAt.shaped
  rw [rows_lay, Bool.true_and]
  refine decide_eq_true ?_
  simp only [PyData.depth]
  have := dep_rows m
  omega
theorem belt_lay (b : BR) : PyData.canLay0 (beltD b) = true := by
  simp only [PyData.canLay0, PyData.canLayAll0, lay_ints, Bool.and_self]
theorem belt_shaped (b : BR) : SeqAt.shaped (beltD b) = true := by
  unfold SeqAt.shaped
  rw [belt_lay, Bool.true_and]
  refine decide_eq_true ?_
  simp only [PyData.depth, PyData.depthAll]
  have := dep_ints b.th
  omega
theorem hands_neat {hs : List HR} (g : ∀ h ∈ hs, GoodHand h) : Neat (.tuple (hs.map handD)) 3 (hs.length * 201) := Neat.tup (NeatAll.map fun h hh => (g h hh).neat)
/-! ### who gives to a hand; hands that look alike -/
def GivAt (H : Hp) (v : V) (b : BR) : Prop := ∃ t g : Addr, v = .ref t ∧ H t = some (.tup [nV b.one, .ref g]) ∧ H g = some (.tup (b.th.map V.int))
theorem GivAt.keep {H H' : Hp} {v : V} {b : BR} (a : GivAt H v b) (k : TK H H') : GivAt H' v b := by
  obtain ⟨t, g, e, e1, e2⟩ := a
  exact ⟨t, g, e, k _ _ e1, k _ _ e2⟩
theorem ints_eqvA (l m : List Int) : PyData.eqvAll (l.map PyData.int) (m.map PyData.int) = decide (l = m) := by
  induction l generalizing m with
  | nil => cases m with
    | nil => rfl
    | cons y s => rfl
  | cons x r ih => cases m with
    | nil => rfl
    | cons y s =>
      rw [List.map_cons, List.map_cons, PyData.eqvAll, ih]
      show (decide (x = y) && decide (r = s)) = decide (x :: r = y :: s)
      by_cases h : x = y
      · subst h
        rw [decide_eq_true rfl, Bool.true_and]
        by_cases h2 : r = s
        · rw [h2, decide_eq_true rfl, decide_eq_true rfl]
        · rw [decide_eq_false h2, decide_eq_false (fun z => h2 (List.cons.inj z).2)]
      · rw [decide_eq_false h, Bool.false_and, decide_eq_false (fun z => h (List.cons.inj z).1)]
theorem rows_eqvA (l m : List (List Int)) : PyData.eqvAll (l.map rowD) (m.map rowD) = decide (l = m) := by
  induction l generalizing m with
  | nil => cases m with
    | nil => rfl
    | cons y s => rfl
  | cons x r ih => cases m with
    | nil => rfl
    | cons y s =>
      rw [List.map_cons, List.map_cons, PyData.eqvAll, ih, show (rowD x).eqv (rowD y) = PyData.eqvAll (x.map PyData.int) (y.map PyData.int) by show PyData.eqv (.tuple (x.map PyData.int)) (.tuple (y.map PyData.int)) = _; simp only [PyData.eqv], ints_eqvA]
      by_cases h : x = y
      · subst h
        rw [decide_eq_true rfl, Bool.true_and]
        by_cases h2 : r = s
        · rw [h2, decide_eq_true rfl, decide_eq_true rfl]
        · rw [decide_eq_false h2, decide_eq_false (fun z => h2 (List.cons.inj z).2)]
      · rw [decide_eq_false h, Bool.false_and, decide_eq_false (fun z => h (List.cons.inj z).1)]
theorem rules_eqv (g h : HR) : PyData.eqv (.tuple (ruleD g)) (.tuple (ruleD h)) = decide (g.wd = h.wd ∧ g.no = h.no) := by
  obtain ⟨wd, no, mom⟩ := g
  obtain ⟨wd2, no2, mom2⟩ := h
  have e : (wd == wd2) = decide (wd = wd2) := by
    by_cases k : wd = wd2
    · rw [k, decide_eq_true rfl]; exact beq_self_eq_true wd2
    · rw [decide_eq_false k]; exact beq_eq_false_iff_ne.mpr k
  cases no with
  | none =>
    cases no2 with
    | none =>
      show (wd == wd2 && true) = _
      rw [e, Bool.and_true]
      simp
    | some n =>
      show (wd == wd2 && false) = _
      rw [Bool.and_false]
      simp
  | some m =>
    cases no2 with
    | none =>
      show (wd == wd2 && false) = _
      rw [Bool.and_false]
      simp
    | some n =>
      show (wd == wd2 && (decide (m = n) && true)) = _
      rw [e, Bool.and_true]
      simp
def Looks (hs : List HR) (bs : List BR) (j k : Nat) : Prop := (∃ g h, hs[j]? = some g ∧ hs[k]? = some h ∧ g.wd = h.wd ∧ g.no = h.no ∧ isDoor g = false) ∧ (comeB bs j).map BR.th = (comeB bs k).map BR.th
section
variable {P : Program} {w : World} {K : PySem.W.Frag} {mg : Str → Option Value} {base : Heap}
def sp_law_givers (K : PySem.W.Frag) : Sp := fun vs H Q _ => ∃ (r : Addr) (hs : List HR) (bs : List BR) (k : Nat), vs = [.ref r, nV k] ∧ RoomAt H r hs bs ∧ bs.length ≤ 400 ∧
  ∀ (p : Addr) (gv : List V) (H' : Hp), H p = none → H' p = some (.lst gv) → All2 (GivAt H') gv (comeB bs k) → Same H H' → Q (.ref p) H'
theorem ok_law_givers {f : Addr} {fd : FuncData} (F : Fun K "_law_givers" "_law_givers" s_law_givers f fd) (T : Top w K mg) : FnOk P w K mg base CX0 1 f fd ["_law_room_here", "_law_k"] (sp_law_givers K) := by
  refine F.ok sc_law_givers (fun vs H Q E h => ?_) (fun cdv A outer s H vs Q E hr h => ?_)
  · obtain ⟨r, hs, bs, k, rfl, _⟩ := h
    rfl
  obtain ⟨r, hs, bs, k, rfl, hR, lb, q⟩ := h
  obtain ⟨ha, ba, hv, bv, er, eh, eb, alh, alb⟩ := hR.ex
  have lbv := alb.length
  refine ⟨_, (pss_one (ps_ret (pe_lc (own := [("_law_one", 2), ("_law_to", 3), ("_law_things", 4)]) (g := gTup K 3 (gCons (gName 2) (gCons (gName 3) (gCons (gName 4) gNil)))) (by rfl) sc_law_givers.nd (pi_tupK K rfl (pe_ix (ix_tupK K rfl) (pv 0) pe_int (fun _ _ => rfl))) (blkOk_by (own := [("_law_one", 2), ("_law_to", 3), ("_law_things", 4)]) (N := N_law_givers) (sc := defScope s_law_givers) (by decide +kernel)) (fun _ _ _ _ _ => (pg_tupK K rfl rfl (pgs_cons (pg_name (i := 2) sc_law_givers.nd rfl (Or.inl rfl)) (pgs_cons (pg_name (i := 3) sc_law_givers.nd rfl (Or.inl rfl)) (pgs_cons (pg_name (i := 4) sc_law_givers.nd rfl (Or.inl rfl)) pgs_nil))))) (fun _ _ _ _ _ => pts_one (pt_cmpR op_eq (pv 3) (pv 1) (nomark _))) (fun _ _ _ _ _ => (pe_tup (pa_cons (pv 2) (pa_cons (pv 4) pa_nil))))))), ?_⟩
  refine ⟨_, rfl, r, _, _, _, rfl, rfl, SqT.of er, atI_nat (j := 1) rfl, ba, rfl, ⟨_, SqT.of eb⟩, fun D nD => lc_tup (K := K) (a := ba) (xs := bv) (fun i H5 => ∃ gv : List V, H5 D = some (.lst gv) ∧ All2 (GivAt H5) gv (comeB (bs.take i) k) ∧ Same H H5) ⟨[], upd_same, .nil, same_new nD⟩ (fun i H5 _ ⟨_, _, _, s5⟩ => SqT.of (s5 _ _ eb)) ?_ ?_⟩
  · rintro i x H5 hx ⟨gv, hD, al, s5⟩
    obtain ⟨b, eb1, tb, g, rfl, e1, e2⟩ := alb.getL hx
    have lg := al.length
    have lc : (comeB (bs.take i) k).length ≤ 400 := by
      unfold comeB
      exact Nat.le_trans (List.length_filter_le ..) (Nat.le_trans (List.length_take_le ..) (by
        have := (List.getElem?_eq_some_iff.mp eb1).1
        omega))
    have ct : comeB (bs.take (i + 1)) k = comeB (bs.take i) k ++ (if b.to = k then [b] else []) := by
      unfold comeB
      rw [List.take_add_one, eb1, List.filter_append]
      congr 1
      by_cases h : b.to = k
      · rw [if_pos h]; simp [h]
      · rw [if_neg h]; simp [h]
    refine ⟨tb, _, rfl, SqT.of (s5 _ _ e1), rfl, _, _, rfl, _, _, rfl, _, _, rfl, rfl, rfl, _, rfl, _, rfl, rfl, _, rfl, if_bl (fun c => ?_) (fun c => ?_)⟩
    · have c : b.to = k := by have := V.int.inj (of_decide_eq_true c); omega
      refine ⟨_, rfl, _, rfl, (by show 2 ≤ sizeLine; decide), fun p np => ?_⟩
      have s6 := same_new (o := .tup [nV b.one, V.ref g]) np
      have hD6 := s6 _ _ hD
      have k6 : TK H5 _ := (TK.same s6).trans (TK.lst (ys := gv ++ [V.ref p]) hD6)
      refine ⟨gv, hD6, small1000 (by omega), gv ++ [.ref p], upd_same, ?_, Same.own (fun a o e => s6 _ _ (s5 _ _ e)) nD⟩
      rw [ct, if_pos c]
      exact (al.imp fun _ _ z => z.keep k6).snoc ⟨p, g, rfl, TK.lst hD6 _ _ upd_same, k6 _ _ (s5 _ _ e2)⟩
    · have c : ¬ b.to = k := fun z => of_decide_eq_false c (by rw [z])
      refine ⟨gv, hD, ?_, s5⟩
      rw [ct, if_neg c, List.append_nil]
      exact al
  · rintro H5 ⟨gv, hD, al, s5⟩
    rw [lbv, List.take_length] at al
    exact q D gv H5 nD hD al s5
def sp_law_looks_alike (K : PySem.W.Frag) : Sp := fun vs H Q _ => ∃ (r : Addr) (hs : List HR) (bs : List BR) (j k : Nat), vs = [.ref r, nV j, nV k] ∧ RoomAt H r hs bs ∧ (∀ h ∈ hs, GoodHand h) ∧ bs.length ≤ 400 ∧ j < hs.length ∧ k < hs.length ∧
  ∀ (b : Bool) (H' : Hp), (b = true ↔ Looks hs bs j k) → Same H H' → Q (.bl b) H'
theorem ok_law_looks_alike {f : Addr} {fd : FuncData} (F : Fun K "_law_looks_alike" "_law_looks_alike" s_law_looks_alike f fd) (T : Top w K mg) : FnOk P w K mg base CX0 2 f fd ["_law_room_here", "_law_j", "_law_k"] (sp_law_looks_alike K) := by
  obtain ⟨f_law_givers, fd_law_givers, F_law_givers, b_law_givers, m_law_givers⟩ := T.d_law_givers
  have G_law_givers := ok_law_givers (P := P) (w := w) (base := base) F_law_givers T
  refine F.ok sc_law_looks_alike (fun vs H Q E h => ?_) (fun cdv A outer s H vs Q E hr h => ?_)
  · obtain ⟨r, hs, bs, j, k, rfl, _⟩ := h
    rfl
  obtain ⟨r, hs, bs, j, k, rfl, hR, gd, lb, hj, hk, q⟩ := h
  obtain ⟨ha, ba, hv, bv, er, eh, eb, alh, alb⟩ := hR.ex
  have ej := List.getElem?_eq_getElem hj
  have ek := List.getElem?_eq_getElem hk
  obtain ⟨v1, ev1, t1, r1, rfl, f1, g1⟩ := alh.get ej
  obtain ⟨v2, ev2, t2, r2, rfl, f2, g2⟩ := alh.get ek
  have gj := gd _ (List.mem_of_getElem? ej)
  have gk := gd _ (List.mem_of_getElem? ek)
  refine ⟨_, (pss_cons (ps_if (PW.pt (pw_or (pt_cmpR (op_neDK K rfl hr.units) (pe_ix (ix_tupK K rfl) (pe_ix (ix_tupK K rfl) (pe_ix (ix_tupK K rfl) (pv 0) pe_int (fun _ _ => rfl)) (pv 1) (fun _ _ => rfl)) pe_int (fun _ _ => rfl)) (pe_ix (ix_tupK K rfl) (pe_ix (ix_tupK K rfl) (pe_ix (ix_tupK K rfl) (pv 0) pe_int (fun _ _ => rfl)) (pv 2) (fun _ _ => rfl)) pe_int (fun _ _ => rfl)) (nomark _)) (pw_or1 (pt_cmpR (op_in_seqK K rfl) (pe_ix (ix_tupK K rfl) (pe_ix (ix_tupK K rfl) (pe_ix (ix_tupK K rfl) (pe_ix (ix_tupK K rfl) (pv 0) pe_int (fun _ _ => rfl)) (pv 1) (fun _ _ => rfl)) pe_int (fun _ _ => rfl)) pe_int (fun _ _ => rfl)) (pe_tup (pa_cons pe_str (pa_cons pe_str pa_nil))) (by with_unfolding_all rfl))))) (pss_one (ps_ret pe_bl)) pss_nil)
      (pss_one (ps_ret (pe_cmpR (op_eqDK K rfl hr.units) (pe_lc (own := [("_law_one", 3), ("_law_things", 4)]) (g := gTup K 2 (gCons (gName 3) (gCons (gName 4) gNil))) (tt := tYes) (by rfl) sc_law_looks_alike.nd (pi_listK K rfl (pe_call G_law_givers (hr.mono (by decide)) (by rfl) m_law_givers F_law_givers.kp b_law_givers .nil pass0 (pa_cons (pv 0) (pa_cons (pv 1) pa_nil)))) (blkOk_by (own := [("_law_one", 3), ("_law_things", 4)]) (N := N_law_looks_alike) (sc := defScope s_law_looks_alike) (by decide +kernel)) (fun _ _ _ _ _ => (pg_tupK K rfl rfl (pgs_cons (pg_name (i := 3) sc_law_looks_alike.nd rfl (Or.inl rfl)) (pgs_cons (pg_name (i := 4) sc_law_looks_alike.nd rfl (Or.inl rfl)) pgs_nil)))) (fun _ _ _ _ _ => pts_nil) (fun _ _ _ _ _ => (pv 4))) (pe_lc (own := [("_law_one", 3), ("_law_things", 4)]) (g := gTup K 2 (gCons (gName 3) (gCons (gName 4) gNil))) (tt := tYes) (by rfl) sc_law_looks_alike.nd (pi_listK K rfl (pe_call G_law_givers (hr.mono (by decide)) (by rfl) m_law_givers F_law_givers.kp b_law_givers .nil pass0 (pa_cons (pv 0) (pa_cons (pv 2) pa_nil)))) (blkOk_by (own := [("_law_one", 3), ("_law_things", 4)]) (N := N_law_looks_alike) (sc := defScope s_law_looks_alike) (by decide +kernel)) (fun _ _ _ _ _ => (pg_tupK K rfl rfl (pgs_cons (pg_name (i := 3) sc_law_looks_alike.nd rfl (Or.inl rfl)) (pgs_cons (pg_name (i := 4) sc_law_looks_alike.nd rfl (Or.inl rfl)) pgs_nil)))) (fun _ _ _ _ _ => pts_nil) (fun _ _ _ _ _ => (pv 4))) (nomark _))))), ?_⟩
  refine ⟨_, rfl, r, _, _, _, rfl, rfl, SqT.of er, atI_nat (j := 0) rfl, _, rfl, ha, _, _, _, rfl, rfl, SqT.of eh, atI_nat ev1, t1, _, _, _, rfl, rfl, SqT.of f1, atI_nat (j := 0) rfl, ?_⟩
  refine ⟨_, rfl, r, _, _, _, rfl, rfl, SqT.of er, atI_nat (j := 0) rfl, _, rfl, ha, _, _, _, rfl, rfl, SqT.of eh, atI_nat ev2, t2, _, _, _, rfl, rfl, SqT.of f2, atI_nat (j := 0) rfl, ?_⟩
  refine ⟨.tuple (ruleD hs[j]), .tuple (ruleD hs[k]), rule_dp g1, rule_dp g2, rule_shaped gj.lay, rule_shaped gk.lay, _, rfl, ?_⟩
  rw [rules_eqv]
  have things : ∀ {H1 : Hp} {gv : List V} {cs : List BR} {p : Addr} {σ σ0 : L2.St} {Qd : Hp → Prop}, True := trivial
  refine if_bl (fun z => ?_) (fun z => ?_)
  · refine if_bl (fun _ => q false _ ⟨fun y => (nomatch y), fun y => ?_⟩ (fun _ _ e => e)) (fun y => nomatch y)
    obtain ⟨⟨g, h, x1, x2, x3, x4, x5⟩, _⟩ := y
    rw [ej] at x1
    rw [ek] at x2
    rw [Option.some.inj x1, Option.some.inj x2] at z
    rw [decide_eq_true ⟨x3, x4⟩] at z
    exact absurd z (by decide)
  have same : hs[j].wd = hs[k].wd ∧ hs[j].no = hs[k].no := by
    refine Classical.byContradiction fun y => ?_
    rw [decide_eq_false y] at z
    exact absurd z (by decide)
  refine ⟨_, rfl, r, _, _, _, rfl, rfl, SqT.of er, atI_nat (j := 0) rfl, _, rfl, ha, _, _, _, rfl, rfl, SqT.of eh, atI_nat ev1, t1, _, _, _, rfl, rfl, SqT.of f1, atI_nat (j := 0) rfl, r1, _, _, _, rfl, rfl, SqT.of g1, atI_nat (j := 0) rfl, (by show 2 ≤ sizeLine; decide), fun p np => ⟨p, _, rfl, .inr (SqT.of upd_same), rfl, rfl, _, rfl, if_in (zs := ["in", "out"]) (fun e => ?_) (fun e => ?_)⟩⟩
  · refine q false _ ⟨fun y => (nomatch y), fun y => ?_⟩ (same_new np)
    obtain ⟨⟨g, h, x1, x2, x3, x4, x5⟩, _⟩ := y
    rw [ej] at x1
    rw [← Option.some.inj x1] at x5
    unfold isDoor at x5
    simp only [List.mem_cons, List.not_mem_nil, or_false] at e
    rcases e with e | e <;> simp [e] at x5
  have nd : isDoor hs[j] = false := by
    unfold isDoor
    simp only [List.mem_cons, List.not_mem_nil, or_false, not_or] at e
    rw [decide_eq_false e.1, decide_eq_false e.2]
    rfl
  have s1 : Same H (upd H p (.tup [V.str "in", V.str "out"])) := same_new np
  refine ⟨_, rfl, _, rfl, r, hs, bs, j, rfl, hR.keep (TK.same s1), lb, fun p1 gv1 H2 np1 hp1 al1 s2 => ⟨p1, rfl, ⟨_, SqL.of hp1⟩, fun D nD => lc_list (K := K) (a := p1) (xs := gv1) (fun i H5 => ∃ tv : List V, H5 D = some (.lst tv) ∧ All2 (RowAt H5) tv (((comeB bs j).take i).map BR.th) ∧ Same H2 H5) ⟨[], upd_same, .nil, same_new nD⟩ (fun i H5 _ ⟨_, _, _, s5⟩ => SqL.of (s5 _ _ hp1)) ?_ ?_⟩⟩
  · rintro i x H5 hx ⟨tv, hD, al, s5⟩
    obtain ⟨b, eb1, t, g, rfl, e1, e2⟩ := al1.getL hx
    have lg := al.length
    rw [List.length_map, List.length_take] at lg
    have lc : (comeB bs j).length ≤ 400 := by unfold comeB; exact Nat.le_trans (List.length_filter_le ..) lb
    have k5 := TK.same s5
    refine ⟨t, _, rfl, SqT.of (k5 _ _ e1), rfl, _, _, rfl, _, _, rfl, rfl, rfl, yes_in ⟨_, rfl, tv, hD, small1000 (by omega), tv ++ [.ref g], upd_same, ?_, Same.own s5 nD⟩⟩
    rw [List.take_add_one, eb1, List.map_append]
    exact (al.imp fun _ _ z => z.keep (TK.lst hD)).snoc ⟨g, rfl, TK.lst hD _ _ (k5 _ _ e2)⟩
  rintro H3 ⟨tv1, hD1, ar1, s3⟩
  rw [al1.length, List.take_length] at ar1
  have s13 := s2.trans s3
  refine ⟨_, rfl, _, rfl, r, hs, bs, k, rfl, hR.keep (TK.same (s1.trans s13)), lb, fun p2 gv2 H4 np2 hp2 al2 s4 => ⟨p2, rfl, ⟨_, SqL.of hp2⟩, fun D2 nD2 => lc_list (K := K) (a := p2) (xs := gv2) (fun i H5 => ∃ tv : List V, H5 D2 = some (.lst tv) ∧ All2 (RowAt H5) tv (((comeB bs k).take i).map BR.th) ∧ Same H4 H5) ⟨[], upd_same, .nil, same_new nD2⟩ (fun i H5 _ ⟨_, _, _, s5⟩ => SqL.of (s5 _ _ hp2)) ?_ ?_⟩⟩
  · rintro i x H5 hx ⟨tv, hD, al, s5⟩
    obtain ⟨b, eb1, t, g, rfl, e1, e2⟩ := al2.getL hx
    have lg := al.length
    rw [List.length_map, List.length_take] at lg
    have lc : (comeB bs k).length ≤ 400 := by unfold comeB; exact Nat.le_trans (List.length_filter_le ..) lb
    have k5 := TK.same s5
    refine ⟨t, _, rfl, SqT.of (k5 _ _ e1), rfl, _, _, rfl, _, _, rfl, rfl, rfl, yes_in ⟨_, rfl, tv, hD, small1000 (by omega), tv ++ [.ref g], upd_same, ?_, Same.own s5 nD2⟩⟩
    rw [List.take_add_one, eb1, List.map_append]
    exact (al.imp fun _ _ z => z.keep (TK.lst hD)).snoc ⟨g, rfl, TK.lst hD _ _ (k5 _ _ e2)⟩
  rintro H5 ⟨tv2, hD2, ar2, s5⟩
  rw [al2.length, List.take_length] at ar2
  have s35 := s4.trans s5
  refine ⟨.list (((comeB bs j).map BR.th).map rowD), .list (((comeB bs k).map BR.th).map rowD), .lst (SqL.of (s35 _ _ hD1)) (rows_dp (ar1.imp fun _ _ z => z.keep (TK.same s35))), .lst (SqL.of hD2) (rows_dp ar2), rows_shaped _, rows_shaped _, ?_⟩
  refine q _ H5 ?_ (s1.trans (s13.trans s35))
  rw [show PyData.eqv (.list (((comeB bs j).map BR.th).map rowD)) (.list (((comeB bs k).map BR.th).map rowD)) = decide ((comeB bs j).map BR.th = (comeB bs k).map BR.th) by simp only [PyData.eqv]; exact rows_eqvA _ _]
  rw [decide_eq_true_iff]
  exact ⟨fun y => ⟨⟨_, _, ej, ek, same.1, same.2, nd⟩, y⟩, fun y => y.2⟩
end
/-! ### pairs of hands marked unlike, till no more come -/
def kd (t : List Nat) (i : Nat) : Nat := t.getD i 0
theorem kd_at {t : List Nat} {i x : Nat} (e : t[i]? = some x) : kd t i = x := by
  unfold kd
  rw [List.getD_eq_getElem?_getD, e]; rfl
theorem at_kd {t : List Nat} {i : Nat} (h : i < t.length) : t[i]? = some (kd t i) := by
  rw [List.getElem?_eq_getElem h]
  unfold kd
  rw [List.getD_eq_getElem?_getD, List.getElem?_eq_getElem h]; rfl
theorem kinds_alike {hs : List HR} {bs : List BR} {t : List Nat} (K : KindsOf hs bs t) {i j : Nat} (hi : i < hs.length) (hj : j < hs.length) : kd t i = kd t j ↔ AlikeH hs bs i j := by
  rw [← K.same i j hi hj, at_kd (by rw [K.len]; exact hi), at_kd (by rw [K.len]; exact hj)]
  exact ⟨fun z => congrArg some z, fun z => Option.some.inj z⟩
def PairsOk (bs : List BR) (A : Nat → Nat → Bool) (j k : Nat) : Prop := ∀ (i : Nat) (x y : BR), (comeB bs j)[i]? = some x → (comeB bs k)[i]? = some y → A x.one y.one = true
structure PA (hs : List HR) (bs : List BR) (t : List Nat) (A : Nat → Nat → Bool) : Prop where
  sym : ∀ j k, j < hs.length → k < hs.length → A j k = A k j
  self : ∀ j, j < hs.length → A j j = true
  look : ∀ j k, j < hs.length → k < hs.length → A j k = true → j = k ∨ Looks hs bs j k
  keep : ∀ j k, j < hs.length → k < hs.length → kd t j = kd t k → A j k = true
def offA (A : Nat → Nat → Bool) (j k : Nat) : Nat → Nat → Bool := fun a b => if (a = j ∧ b = k) ∨ (a = k ∧ b = j) then false else A a b
section
variable {hs : List HR} {bs : List BR} {t : List Nat} {A : Nat → Nat → Bool}
theorem All2.getBoth {α β : Type} {R : α → β → Prop} {as : List α} {cs : List β} (h : All2 R as cs) {i : Nat} {a : α} {b : β} (e1 : as[i]? = some a) (e2 : cs[i]? = some b) : R a b := by
  obtain ⟨b2, e3, r⟩ := h.getL e1
  rw [e2] at e3
  rw [Option.some.inj e3]
  exact r
theorem PA.off (K : KindsOf hs bs t) (ends : ∀ b ∈ bs, b.one < hs.length) (p : PA hs bs t A) {j k : Nat} (hj : j < hs.length) (hk : k < hs.length) (ne : j ≠ k) (bad : ¬ PairsOk bs A j k) : PA hs bs t (offA A j k) := by
  have un : kd t j ≠ kd t k := fun e => bad fun i x y e1 e2 => by
    have al := (((kinds_alike K hj hk).mp e).come hj hk).getBoth e1 e2
    have mx := (List.mem_filter.mp (List.mem_of_getElem? e1)).1
    have my := (List.mem_filter.mp (List.mem_of_getElem? e2)).1
    exact p.keep _ _ (ends x mx) (ends y my) ((kinds_alike K (ends x mx) (ends y my)).mpr al.2)
  refine ⟨fun a b ha hb => ?_, fun a ha => ?_, fun a b ha hb e => ?_, fun a b ha hb e => ?_⟩
  · unfold offA
    by_cases c : (a = j ∧ b = k) ∨ (a = k ∧ b = j)
    · rw [if_pos c, if_pos (c.elim (fun z => .inr ⟨z.2, z.1⟩) fun z => .inl ⟨z.2, z.1⟩)]
    · rw [if_neg c, if_neg fun z => c (z.elim (fun z => .inr ⟨z.2, z.1⟩) fun z => .inl ⟨z.2, z.1⟩)]
      exact p.sym a b ha hb
  · unfold offA
    rw [if_neg]
    · exact p.self a ha
    · rintro (⟨rfl, z⟩ | ⟨rfl, z⟩)
      · exact ne z
      · exact ne z.symm
  · unfold offA at e
    by_cases c : (a = j ∧ b = k) ∨ (a = k ∧ b = j)
    · rw [if_pos c] at e; cases e
    · rw [if_neg c] at e
      exact p.look a b ha hb e
  · unfold offA
    rw [if_neg]
    · exact p.keep a b ha hb e
    · rintro (⟨rfl, rfl⟩ | ⟨rfl, rfl⟩)
      · exact un e
      · exact un e.symm
theorem All2.ofGet {α β : Type} {R : α → β → Prop} : ∀ {as : List α} {cs : List β}, as.length = cs.length → (∀ (i : Nat) (a : α) (b : β), as[i]? = some a → cs[i]? = some b → R a b) → All2 R as cs
  | [], [], _, _ => .nil
  | [], _ :: _, h, _ => by cases h
  | _ :: _, [], h, _ => by cases h
  | a :: as, b :: cs, h, f => .cons (f 0 a b rfl rfl) (All2.ofGet (Nat.succ.inj h) fun i x y e1 e2 => f (i + 1) x y e1 e2)
theorem PA.done (K : KindsOf hs bs t) (ends : ∀ b ∈ bs, b.one < hs.length) (p : PA hs bs t A) (all : ∀ j k, j < hs.length → k < j → A j k = true → PairsOk bs A j k) {j k : Nat} (hj : j < hs.length) (hk : k < hs.length) : A j k = true ↔ kd t j = kd t k := by
  refine ⟨fun e => (kinds_alike K hj hk).mpr ⟨fun a b => a < hs.length ∧ b < hs.length ∧ A a b = true, ⟨fun a b ⟨ha, hb, r⟩ _ _ => ?_, fun a b ⟨ha, hb, r⟩ _ _ => ?_⟩, hj, hk, e⟩, p.keep j k hj hk⟩
  · rcases p.look a b ha hb r with z | ⟨z, _⟩
    · exact .inl z
    · exact .inr z
  · have ok : PairsOk bs A a b := by
      rcases Nat.lt_trichotomy a b with l | rfl | l
      · have q := all b a hb l (by rw [p.sym b a hb ha]; exact r)
        intro i x y e1 e2
        have mx := (List.mem_filter.mp (List.mem_of_getElem? e1)).1
        have my := (List.mem_filter.mp (List.mem_of_getElem? e2)).1
        rw [p.sym _ _ (ends x mx) (ends y my)]
        exact q i y x e2 e1
      · intro i x y e1 e2
        rw [e1] at e2
        rw [← Option.some.inj e2]
        exact p.self _ (ends x (List.mem_filter.mp (List.mem_of_getElem? e1)).1)
      · exact all a b ha l r
    have th : (comeB bs a).map BR.th = (comeB bs b).map BR.th := by
      rcases p.look a b ha hb r with rfl | ⟨_, z⟩
      · rfl
      · exact z
    refine All2.ofGet (by have := congrArg List.length th; rwa [List.length_map, List.length_map] at this) fun i x y e1 e2 => ⟨?_, ends x (List.mem_filter.mp (List.mem_of_getElem? e1)).1, ends y (List.mem_filter.mp (List.mem_of_getElem? e2)).1, ok i x y e1 e2⟩
    have q := congrArg (fun l => l[i]?) th
    simp only [List.getElem?_map, e1, e2, Option.map_some] at q
    exact Option.some.inj q
theorem PA.first (K : KindsOf hs bs t) (ends : ∀ b ∈ bs, b.one < hs.length) {A : Nat → Nat → Bool} (h : ∀ j k, j < hs.length → k < hs.length → (A j k = true ↔ j = k ∨ Looks hs bs j k)) : PA hs bs t A := by
  have bo : ∀ {x y : Bool}, (x = true ↔ y = true) → x = y := fun {x y} z => by cases x <;> cases y <;> simp_all
  have sl : ∀ {j k}, Looks hs bs j k → Looks hs bs k j := fun {j k} ⟨⟨g, h, e1, e2, e3, e4, e5⟩, z⟩ => ⟨⟨h, g, e2, e1, e3.symm, e4.symm, by unfold isDoor at e5 ⊢; rw [← e3]; exact e5⟩, z.symm⟩
  refine ⟨fun j k hj hk => bo ?_, fun j hj => (h j j hj hj).mpr (.inl rfl), fun j k hj hk => (h j k hj hk).mp, fun j k hj hk e => (h j k hj hk).mpr ?_⟩
  · rw [h j k hj hk, h k j hk hj]
    exact ⟨fun z => z.elim (fun y => .inl y.symm) fun y => .inr (sl y), fun z => z.elim (fun y => .inl y.symm) fun y => .inr (sl y)⟩
  · have al := (kinds_alike K hj hk).mp e
    rcases al.first hj hk with z | z
    · exact .inl z
    · refine .inr ⟨z, ?_⟩
      have c := al.come hj hk
      have : ∀ {as cs : List BR}, All2 (fun b c : BR => b.th = c.th ∧ AlikeH hs bs b.one c.one) as cs → as.map BR.th = cs.map BR.th := by
        intro as cs a
        induction a with
        | nil => rfl
        | cons r _ ih => rw [List.map_cons, List.map_cons, ih, r.1]
      exact this c
/-- how many pairs are marked alike -/
def cntA (n : Nat) (A : Nat → Nat → Bool) : Nat := (prs n).countP fun p => A p.1 p.2
theorem cntA_off {n j k : Nat} (hj : j < n) (hk : k < n) (e : A j k = true) : cntA n (offA A j k) < cntA n A := by
  unfold cntA
  refine count_less (fun p _ h => ?_) ⟨(j, k), mem_prs hj hk, e, ?_⟩
  · unfold offA at h
    split at h
    · cases h
    · exact h
  · unfold offA
    exact if_pos (.inl ⟨rfl, rfl⟩)
end
abbrev kk (j k : Nat) : List Key := [.inl ((j : Nat) : Int), .inl ((k : Nat) : Int)]
theorem kk_inj {a b j k : Nat} : kk a b = kk j k ↔ a = j ∧ b = k := by
  constructor
  · intro e
    have h1 := Sum.inl.inj (List.cons.inj e).1
    have h2 := Sum.inl.inj (List.cons.inj (List.cons.inj e).2).1
    exact ⟨by omega, by omega⟩
  · rintro ⟨rfl, rfl⟩; rfl
/-- the room, the givers of each hand and the marks, as they stand -/
structure PG (H H' : Hp) (r gl d : Addr) (hs : List HR) (bs : List BR) (gv : List V) (kvs : List (List Key × V)) : Prop where
  room : RoomAt H' r hs bs
  gl : H' gl = some (.lst gv)
  giv : ∀ j, j < hs.length → ∃ a, gv[j]? = some (.ref a) ∧ H' a = some (.lst ((comeB bs j).map fun b => nV b.one))
  same : Same H H'
  dn : H d = none
  d : H' d = some (.dT kvs)
theorem PG.put {H H' : Hp} {r gl d : Addr} {hs : List HR} {bs : List BR} {gv : List V} {kvs kvs' : List (List Key × V)} (g : PG H H' r gl d hs bs gv kvs) : PG H (upd H' d (.dT kvs')) r gl d hs bs gv kvs' := by
  refine ⟨g.room.keep fun b xs e => ?_, ?_, fun j hj => ?_, Same.own g.same g.dn, g.dn, upd_same⟩
  · rw [upd_ne (fun z => by rw [z, g.d] at e; cases e)]; exact e
  · rw [upd_ne (fun z => by have e := g.gl; rw [z, g.d] at e; cases e)]; exact g.gl
  · obtain ⟨a, e1, e2⟩ := g.giv j hj
    exact ⟨a, e1, by rw [upd_ne (fun z => by rw [z, g.d] at e2; cases e2)]; exact e2⟩
theorem PG.on {H H' H2 : Hp} {r gl d : Addr} {hs : List HR} {bs : List BR} {gv : List V} {kvs : List (List Key × V)} (g : PG H H' r gl d hs bs gv kvs) (s : Same H' H2) : PG H H2 r gl d hs bs gv kvs :=
  ⟨g.room.keep (TK.same s), s _ _ g.gl, fun j hj => let ⟨a, e1, e2⟩ := g.giv j hj; ⟨a, e1, s _ _ e2⟩, fun a o e => s _ _ (g.same _ _ e), g.dn, s _ _ g.d⟩
def TabA (kvs : List (List Key × V)) (n : Nat) (A : Nat → Nat → Bool) : Prop := ∀ j k, j < n → k < n → valV kvs (kk j k) = some (.bl (A j k))
theorem put_len (c : List (List Key × V)) (k : List Key) (x : V) : (putK c k x).length ≤ c.length + 1 := by
  unfold putK
  split
  · rw [List.length_map]; exact Nat.le_succ _
  · rw [List.length_append]; exact Nat.le_refl _
theorem put_same (c : List (List Key × V)) (k : List Key) (x y : V) (h : valV c k = some y) : (putK c k x).length = c.length := by
  unfold putK
  rw [if_pos (by rw [valV_any, h]; rfl), List.length_map]
theorem TabA.off {kvs : List (List Key × V)} {n j k : Nat} {A : Nat → Nat → Bool} (h : TabA kvs n A) : TabA (putK (putK kvs (kk j k) (.bl false)) (kk k j) (.bl false)) n (offA A j k) := fun a b ha hb => by
  rw [valV_put, valV_put]
  unfold offA
  by_cases e1 : a = k ∧ b = j
  · rw [if_pos (kk_inj.mpr e1), if_pos (.inr e1)]
  · rw [if_neg (fun z => e1 (kk_inj.mp z))]
    by_cases e2 : a = j ∧ b = k
    · rw [if_pos (kk_inj.mpr e2), if_pos (.inl e2)]
    · rw [if_neg (fun z => e2 (kk_inj.mp z)), if_neg (fun z => z.elim e2 e1)]
      exact h a b ha hb
def zsOf (bs : List BR) (A : Nat → Nat → Bool) (j k : Nat) : List Bool := List.zipWith (fun x y : BR => A x.one y.one) (comeB bs j) (comeB bs k)
theorem zs_ok {bs : List BR} {A : Nat → Nat → Bool} {j k : Nat} : (zsOf bs A j k).all id = true ↔ PairsOk bs A j k := by
  rw [List.all_eq_true]
  constructor
  · intro h i x y e1 e2
    exact h _ (List.mem_of_getElem? (i := i) (by unfold zsOf; rw [List.getElem?_zipWith, e1, e2]))
  · intro h b hb
    obtain ⟨i, e⟩ := List.getElem?_of_mem hb
    unfold zsOf at e
    rw [List.getElem?_zipWith] at e
    cases e1 : (comeB bs j)[i]? with
    | none => rw [e1] at e; cases e
    | some x =>
      cases e2 : (comeB bs k)[i]? with
      | none => rw [e1, e2] at e; cases e
      | some y =>
        rw [e1, e2] at e
        rw [← Option.some.inj e]
        exact h i x y e1 e2
def aOf (kvs : List (List Key × V)) (j k : Nat) : Bool := match valV kvs (kk j k) with
  | some (.bl b) => b
  | _ => false
section
variable {P : Program} {w : World} {K : PySem.W.Frag} {mg : Str → Option Value} {base : Heap}
def sp_law_parting (K : PySem.W.Frag) : Sp := fun vs H Q _ => ∃ (r : Addr) (hs : List HR) (bs : List BR) (t : List Nat), vs = [.ref r] ∧ RoomAt H r hs bs ∧ (∀ h ∈ hs, GoodHand h) ∧ hs.length ≤ 12 ∧ bs.length ≤ 20 ∧ (∀ b ∈ bs, b.one < hs.length) ∧ KindsOf hs bs t ∧
  ∀ (p : Addr) (H' : Hp), H p = none → H' p = some (.tup (t.map nV)) → Same H H' → Q (.ref p) H'
theorem ok_law_parting {f : Addr} {fd : FuncData} (F : Fun K "_law_parting" "_law_parting" s_law_parting f fd) (T : Top w K mg) : FnOk P w K mg base CX0 3 f fd ["_law_room_here"] (sp_law_parting K) := by
  obtain ⟨f_law_givers, fd_law_givers, F_law_givers, b_law_givers, m_law_givers⟩ := T.d_law_givers
  have G_law_givers := ok_law_givers (P := P) (w := w) (base := base) F_law_givers T
  obtain ⟨f_law_looks_alike, fd_law_looks_alike, F_law_looks_alike, b_law_looks_alike, m_law_looks_alike⟩ := T.d_law_looks_alike
  have G_law_looks_alike := ok_law_looks_alike (P := P) (w := w) (base := base) F_law_looks_alike T
  refine F.ok sc_law_parting (fun vs H Q E h => ?_) (fun cdv A outer s H vs Q E hr h => ?_)
  · obtain ⟨r, hs, bs, t, rfl, _⟩ := h
    rfl
  obtain ⟨r, hs, bs, t, rfl, hR, gd, lh, lb, ends, kd0, q⟩ := h
  let R1 : TS := fun D' σ' H' => D'.rt = Q ∧ ∃ (gl d : Addr) (gv : List V), σ' = [some (.ref r), some (nV hs.length), some (.ref gl), none, none, none, some (.ref d), none, none, none, none, none, none] ∧ PG H H' r gl d hs bs gv []
  let R2 : TS := fun D' σ' H' => D'.rt = Q ∧ ∃ (gl d : Addr) (gv : List V) (kvs : List (List Key × V)) (A : Nat → Nat → Bool) (v5 v7 : Option V), σ' = [some (.ref r), some (nV hs.length), some (.ref gl), none, none, v5, some (.ref d), v7, some (.bl true), none, none, none, none] ∧ PG H H' r gl d hs bs gv kvs ∧ TabA kvs hs.length A ∧ PA hs bs t A ∧ kvs.length ≤ 1000
  let R3 : TS := fun D' σ' H' => D'.rt = Q ∧ ∃ (gl d : Addr) (gv : List V) (kvs : List (List Key × V)) (A : Nat → Nat → Bool) (v5 v7 v8 v9 v10 : Option V), σ' = [some (.ref r), some (nV hs.length), some (.ref gl), none, none, v5, some (.ref d), v7, v8, v9, v10, none, none] ∧ PG H H' r gl d hs bs gv kvs ∧ TabA kvs hs.length A ∧ ∀ j k, j < hs.length → k < hs.length → (A j k = true ↔ kd t j = kd t k)
  obtain ⟨ha, ba, hv, bv, er, eh, eb, alh, alb⟩ := hR.ex
  have lhv := alh.length
  refine ⟨_, (pss_cons (ps_set (i := 1) sc_law_parting.nd rfl (Or.inl rfl) (pe_callB (call_len_seqK K rfl) (by rfl) T.m_len (by decide +kernel) (pa_cons (pe_ix (ix_tupK K rfl) (pv 0) pe_int (fun _ _ => rfl)) pa_nil)))
      (pss_cons (ps_setLc (i := 2) (own := [("_law_k", 5)]) (g := gName 5) (tt := tYes) (by rfl) sc_law_parting.nd rfl rfl (sw_true rfl rfl rfl (by decide +kernel)) (pi_range1 (by rfl) T.m_range (pa_cons (pv 1) pa_nil)) (blkOk_by (own := [("_law_k", 5)]) (N := N_law_parting) (sc := defScope s_law_parting) (by decide +kernel)) (fun _ _ _ _ _ => (pg_name (i := 5) sc_law_parting.nd rfl (Or.inl rfl))) (fun _ _ _ _ _ => pts_nil) (fun _ _ _ _ _ => (pe_lc (own := [("_law_one", 3), ("_law_things", 4)]) (g := gTup K 2 (gCons (gName 3) (gCons (gName 4) gNil))) (tt := tYes) (by rfl) sc_law_parting.nd (pi_listK K rfl (pe_call G_law_givers (hr.mono (by decide)) (by rfl) m_law_givers F_law_givers.kp b_law_givers .nil pass0 (pa_cons (pv 0) (pa_cons (pv 5) pa_nil)))) (blkOk_by (own := [("_law_one", 3), ("_law_things", 4)]) (N := N_law_parting) (sc := { kind := .function, names := [(".0", .local), ("_law_k", .local), ("_law_givers", .globalImplicit), ("_law_room_here", .cell)], isGenerator := false, isCoroutine := false }) (by decide +kernel)) (fun _ _ _ _ _ => (pg_tupK K rfl rfl (pgs_cons (pg_name (i := 3) sc_law_parting.nd rfl (Or.inl rfl)) (pgs_cons (pg_name (i := 4) sc_law_parting.nd rfl (Or.inl rfl)) pgs_nil)))) (fun _ _ _ _ _ => pts_nil) (fun _ _ _ _ _ => (pv 3)))))
      (pss_cons (ps_set (i := 6) sc_law_parting.nd rfl (Or.inr rfl) pe_dnewT)
      (PSs.to (pss_cons (ps_for PassesOwn.never rfl (pi_range1 (by rfl) T.m_range (pa_cons (pv 1) pa_nil)) (pg_name (i := 7) sc_law_parting.nd rfl (Or.inl rfl))
        (pss_one (ps_for PassesOwn.never rfl (pi_range1 (by rfl) T.m_range (pa_cons (pv 1) pa_nil)) (pg_name (i := 5) sc_law_parting.nd rfl (Or.inr rfl))
        (pss_one (ps_dput (hu_of hr) (pv 6) (pe_tup (pa_cons (pv 7) (pa_cons (pv 5) pa_nil))) (pe_or (pe_cmpR op_eq (pv 7) (pv 5) (nomark _)) (pe_one (pe_call G_law_looks_alike (hr.mono (by decide)) (by rfl) m_law_looks_alike F_law_looks_alike.kp b_law_looks_alike .nil pass0 (pa_cons (pv 0) (pa_cons (pv 7) (pa_cons (pv 5) pa_nil)))))) (by rfl))))))
      (pss_cons (ps_set (i := 8) sc_law_parting.nd rfl (Or.inl rfl) pe_bl)
      (PSs.to (pss_cons (ps_while PassesOwn.never (pt_val (pv 8))
        (pss_cons (ps_set (i := 8) sc_law_parting.nd rfl (Or.inl rfl) pe_bl)
      (pss_one (ps_for PassesOwn.never rfl (pi_range1 (by rfl) T.m_range (pa_cons (pv 1) pa_nil)) (pg_name (i := 7) sc_law_parting.nd rfl (Or.inl rfl))
        (pss_one (ps_for PassesOwn.never rfl (pi_range1 (by rfl) T.m_range (pa_cons (pv 7) pa_nil)) (pg_name (i := 5) sc_law_parting.nd rfl (Or.inr rfl))
        (pss_cons (ps_set (i := 9) sc_law_parting.nd rfl (Or.inl rfl) (pe_listZip K rfl (by rfl) T.m_list (by rfl) T.m_zip (pa_cons (pe_ix (ix_listK K rfl) (pv 2) (pv 7) (fun _ _ => rfl)) (pa_cons (pe_ix (ix_listK K rfl) (pv 2) (pv 5) (fun _ _ => rfl)) pa_nil))))
      (pss_one (ps_if (PW.pt (pw_and (pt_truthK K rfl (pe_dget (hu_of hr) (pv 6) (pe_tup (pa_cons (pv 7) (pa_cons (pv 5) pa_nil))) (fun _ _ => rfl)) (by intro _; rfl)) (pw_and1 (pt_not (pt_val (pe_callB (cr_allK K rfl rfl) (by rfl) T.m_all (by decide +kernel) (pa_cons (pe_lc (own := [("_law_pair", 10)]) (g := gName 10) (tt := tYes) (by rfl) sc_law_parting.nd (pi_listK K rfl (pv 9)) (blkOk_by (own := [("_law_pair", 10)]) (N := N_law_parting) (sc := defScope s_law_parting) (by decide +kernel)) (fun _ _ _ _ _ => (pg_name (i := 10) sc_law_parting.nd rfl (Or.inl rfl))) (fun _ _ _ _ _ => pts_nil) (fun _ _ _ _ _ => (pe_dget (hu_of hr) (pv 6) (pv 10) (fun _ _ => rfl)))) pa_nil))))))) (pss_cons (ps_dput (hu_of hr) (pv 6) (pe_tup (pa_cons (pv 7) (pa_cons (pv 5) pa_nil))) pe_bl (by rfl))
      (pss_cons (ps_dput (hu_of hr) (pv 6) (pe_tup (pa_cons (pv 5) (pa_cons (pv 7) pa_nil))) pe_bl (by rfl))
      (pss_one (ps_set (i := 8) sc_law_parting.nd rfl (Or.inl rfl) pe_bl)))) pss_nil)))))))))
      (PSs.to (pss_cons (ps_set (i := 11) sc_law_parting.nd rfl (Or.inl rfl) (pe_lst pa_nil))
      (pss_cons (ps_for PassesOwn.never rfl (pi_range1 (by rfl) T.m_range (pa_cons (pv 1) pa_nil)) (pg_name (i := 5) sc_law_parting.nd rfl (Or.inr rfl))
        (pss_cons (ps_setLc (i := 12) (own := [("_law_j", 7)]) (g := gName 7) (by rfl) sc_law_parting.nd rfl rfl (sw_true rfl rfl rfl (by decide +kernel)) (pi_range1 (by rfl) T.m_range (pa_cons (pv 5) pa_nil)) (blkOk_by (own := [("_law_j", 7)]) (N := N_law_parting) (sc := defScope s_law_parting) (by decide +kernel)) (fun _ _ _ _ _ => (pg_name (i := 7) sc_law_parting.nd rfl (Or.inl rfl))) (fun _ _ _ _ _ => pts_one (pt_truthK K rfl (pe_dget (hu_of hr) (pv 6) (pe_tup (pa_cons (pv 7) (pa_cons (pv 5) pa_nil))) (fun _ _ => rfl)) (by intro _; rfl))) (fun _ _ _ _ _ => (pv 7)))
      (pss_one (ps_if (pt_cmpR op_gt (pe_callB (call_len_seqK K rfl) (by rfl) T.m_len (by decide +kernel) (pa_cons (pv 12) pa_nil)) pe_int (nomark _)) (pss_one (ps_expr (pe_bmK K rfl PySem.F.plainAttrs_list PySem.F.slot_list_append PySem.F.type_list_append mt_append (pv 11) (pa_cons (pe_ix (ix_listK K rfl) (pv 11) (pe_ix (ix_listK K rfl) (pv 12) pe_int (fun _ _ => rfl)) (fun _ _ => rfl)) pa_nil)))) (pss_one (ps_expr (pe_bmK K rfl PySem.F.plainAttrs_list PySem.F.slot_list_append PySem.F.type_list_append mt_append (pv 11) (pa_cons (pe_lenSetL K rfl (by rfl) T.m_len (by rfl) T.m_set (pv 11)) pa_nil))))))))
      (pss_one (ps_ret (pe_callTy (call_tuple_ofK K rfl) (by rfl) T.m_tuple (by decide +kernel) (pa_cons (pv 11) pa_nil)))))) R3 ?tail3)) R2 ?tail2))) R1 ?tail1)))), ?_⟩
  case tail3 =>
    rintro D' σ' H1 ⟨eD, gl, d, gv, kvs, A, v5, v7, v8, v9, v10, rfl, g, tab, fin⟩
    have tl := kd0.len
    have tat : ∀ {k : Nat}, k < hs.length → t[k]? = some (kd t k) := fun {k} h => at_kd (by omega)
    refine ⟨(by show 0 ≤ sizeLine; decide), fun fl nfl => ?_⟩
    have s1 := same_new (o := .lst []) nfl
    refine ⟨_, rfl, _, rfl, by omega, by omega, for_range (lo := 0) (n := hs.length) (fun k σ H5 => ∃ v5 v7 v12 : Option V, σ = [some (.ref r), some (nV hs.length), some (.ref gl), none, none, v5, some (.ref d), v7, v8, v9, v10, some (.ref fl), v12] ∧ H5 fl = some (.lst ((t.take k).map nV)) ∧ Same H1 H5) ⟨_, _, _, rfl, upd_same, s1⟩ ?_ ?_⟩
    · rintro k σ H5 hk ⟨v5, v7, v12, rfl, hfl, s5⟩
      rw [Int.zero_add]
      refine ⟨_, rfl, _, rfl, by omega, by omega, fun D nD => lc_range (lo := 0) (n := k) (fun i H6 => H6 D = some (.lst (((List.range i).filter fun j => A j k).map nV)) ∧ Same H5 H6) ⟨upd_same, same_new nD⟩ ?_ ?_⟩
      · rintro i H6 hi ⟨hD, s6⟩
        rw [Int.zero_add]
        have few := filt_len (p := fun j => A j k) i
        refine ⟨rfl, _, rfl, _, rfl, _, rfl, (by show 2 ≤ sizeLine; decide), fun u nu => ?_⟩
        have s7 : Same H6 (upd H6 u (.tup [nV i, nV k])) := same_new nu
        have g7 := ((g.on s5).on s6).on s7
        refine ⟨d, .bl (A i k), rfl, .inr ⟨kvs, kk i k, u, .inl g7.d, rfl, upd_same, (tab i k (by omega) hk).symm⟩, A i k, rfl, if_bl (fun e => ?_) (fun e => ?_)⟩
        · refine ⟨_, rfl, _, s7 _ _ hD, by rw [List.length_map]; exact small1000 (by omega), ?_, Same.own (s6.trans s7) nD⟩
          rw [upd_same, filt_succ, if_pos e, List.map_append]
          rfl
        · refine ⟨?_, s6.trans s7⟩
          rw [filt_succ, if_neg (by rw [e]; exact Bool.false_ne_true), List.append_nil]
          exact s7 _ _ hD
      · rintro H6 ⟨hD, s6⟩
        have hfl6 := s6 _ _ hfl
        have step : t.take (k + 1) = t.take k ++ [kd t k] := by rw [List.take_add_one, tat hk]; rfl
        have nDf : D ≠ fl := fun e => by rw [e, hfl] at nD; cases nD
        have few : (t.take k).length ≤ 12 := by rw [List.length_take]; omega
        have few2 := filt_len (p := fun j => A j k) k
        refine ⟨_, rfl, D, _, rfl, .inl (SqL.of hD), _, _, rfl, rfl, _, rfl, if_bl (fun e => ?_) (fun e => ?_)⟩
        · cases hf : (List.range k).filter fun j => A j k with
          | nil => rw [hf] at e; exact absurd (of_decide_eq_true e) (by decide)
          | cons s0 rest =>
            have m0 : s0 ∈ (List.range k).filter fun j => A j k := by rw [hf]; exact List.mem_cons_self ..
            obtain ⟨m1, m2⟩ := List.mem_filter.mp m0
            have l0 := List.mem_range.mp m1
            have es := (fin s0 k (by omega) hk).mp m2
            have at0 : atI (((List.range k).filter fun j => A j k).map nV) 0 = some (nV s0) := by rw [hf]; exact atI_nat (j := 0) rfl
            have at1 : ((t.take k).map nV)[s0]? = some (nV (kd t k)) := by
              rw [List.getElem?_map, List.getElem?_take, if_pos l0, tat (by omega), es]; rfl
            refine ⟨_, rfl, .inl ⟨rfl, _, SqL.of hfl6⟩, _, rfl, _, rfl, D, _, _, _, rfl, rfl, SqL.of hD, at0, fl, _, _, _, rfl, rfl, SqL.of hfl6, atI_nat at1, fl, _, _, rfl, rfl, hfl6, by rw [List.length_map]; exact small1000 (by omega), _, _, _, rfl, ?_, Same.own (s5.trans s6) nfl⟩
            rw [upd_same, step, List.map_append]
            rfl
        · have emp : (List.range k).filter (fun j => A j k) = [] := by
            cases hf : (List.range k).filter fun j => A j k with
            | nil => rfl
            | cons s0 rest =>
              rw [hf] at e
              exact absurd (of_decide_eq_false e) (fun z => z (by show (0 : Int) < (((rest.map nV).length + 1 : Nat) : Int); omega))
          have new : kd t k = (uniq (t.take k)).length := by
            refine (kd0.canon k _ (tat hk)).resolve_left fun m => ?_
            obtain ⟨j, hj, ej⟩ := List.getElem_of_mem m
            rw [List.length_take] at hj
            rw [List.getElem_take] at ej
            have : A j k = true := (fin j k (by omega) hk).mpr (by rw [← ej]; exact kd_at (List.getElem?_eq_getElem (by omega)))
            have : j ∈ (List.range k).filter fun j => A j k := List.mem_filter.mpr ⟨List.mem_range.mpr (by omega), this⟩
            rw [emp] at this
            cases this
          have un : (uniq ((t.take k).map fun n => ((n : Nat) : Int))).length = kd t k := by
            rw [uniq_map (f := fun n : Nat => (n : Int)) _ (fun x _ y _ e => Int.ofNat.inj e), List.length_map, new]
          refine ⟨_, rfl, .inl ⟨rfl, _, SqL.of hfl6⟩, _, rfl, fl, (t.take k).map (fun n => ((n : Nat) : Int)), rfl, SqL.of (by rw [List.map_map]; exact hfl6), by rw [List.length_map]; omega, ?_⟩
          rw [un]
          refine ⟨fl, _, _, rfl, rfl, hfl6, by rw [List.length_map]; exact small1000 (by omega), _, _, _, rfl, ?_, Same.own (s5.trans s6) nfl⟩
          rw [upd_same, step, List.map_append]
          rfl
    · rintro σ H5 ⟨v5, v7, v12, rfl, hfl, s5⟩
      rw [show t.take hs.length = t from List.take_of_length_le (by omega)] at hfl
      refine ⟨_, rfl, fl, _, rfl, .inl ⟨SqL.of hfl, fun p np => ?_⟩⟩
      rw [eD]
      have s6 := g.same.trans (s5.trans (same_new (o := .tup (t.map nV)) np))
      exact q p _ (same_none (g.same.trans s5) np) upd_same s6
  case tail2 =>
    rintro D' σ' H1 ⟨eD, gl, d, gv, kvs, A, v5, v7, rfl, g, tab, pa, lk⟩
    let St : List (List Key × V) → (Nat → Nat → Bool) → Bool → L2.St → Hp → Prop := fun kvs A mv σ H5 => ∃ v5 v7 v9 v10 : Option V, σ = [some (.ref r), some (nV hs.length), some (.ref gl), none, none, v5, some (.ref d), v7, some (.bl mv), v9, v10, none, none] ∧ PG H H5 r gl d hs bs gv kvs ∧ TabA kvs hs.length A ∧ PA hs bs t A ∧ kvs.length ≤ 1000
    let W : Nat → L2.St → Hp → Prop := fun m σ H5 => ∃ kvs A mv, St kvs A mv σ H5 ∧ ((mv = true ∧ m = cntA hs.length A + 1) ∨ (mv = false ∧ ∀ j k, j < hs.length → k < j → A j k = true → PairsOk bs A j k))
    refine ⟨W, ⟨_, kvs, A, true, ⟨_, _, _, _, rfl, g, tab, pa, lk⟩, .inl ⟨rfl, rfl⟩⟩, ?_⟩
    clear tab pa lk g kvs A v5 v7
    rintro m σ H2 ⟨kvs, A, mv, ⟨v5, v7, v9, v10, rfl, g, tab, pa, lk⟩, alt⟩
    refine ⟨_, rfl, _, rfl, if_bl (fun e => ?_) (fun e => ?_)⟩
    · obtain ⟨rfl, rfl⟩ := alt.resolve_right fun z => by rw [e] at z; exact absurd z.1 (by decide)
      refine ⟨fun σ' H' => ∃ m', m' < cntA hs.length A + 1 ∧ W m' σ' H', fun _ _ z => z, ?_⟩
      let O : (Nat → Nat → Prop) → L2.St → Hp → Prop := fun done σ H5 => ∃ (kvs' : List (List Key × V)) (A' : Nat → Nat → Bool) (mv : Bool), St kvs' A' mv σ H5 ∧ cntA hs.length A' ≤ cntA hs.length A ∧ (mv = true → cntA hs.length A' < cntA hs.length A) ∧ (mv = false → ∀ a b, a < hs.length → b < a → done a b → A' a b = true → PairsOk bs A' a b)
      refine ⟨_, rfl, _, rfl, by omega, by omega, for_range (lo := 0) (n := hs.length) (fun j σ H5 => O (fun a b => a < j) σ H5) ⟨kvs, A, false, ⟨_, _, _, _, rfl, g, tab, pa, lk⟩, Nat.le_refl _, (fun z => nomatch z), fun _ a b _ _ z => absurd z (Nat.not_lt_zero _)⟩ ?_ ?_⟩
      · rintro j σ H5 hj ⟨kvs1, A1, mv, ⟨v5, v7, v9, v10, rfl, g1, tab1, pa1, lk1⟩, c1, c2, c3⟩
        rw [Int.zero_add]
        refine ⟨_, rfl, _, rfl, by omega, by omega, for_range (lo := 0) (n := j) (fun k σ H5 => (∃ v5 v8 v9 v10 : Option V, σ = [some (.ref r), some (nV hs.length), some (.ref gl), none, none, v5, some (.ref d), some (nV j), v8, v9, v10, none, none]) ∧ O (fun a b => a < j ∨ (a = j ∧ b < k)) σ H5) ⟨⟨_, _, _, _, rfl⟩, kvs1, A1, mv, ⟨_, _, _, _, rfl, g1, tab1, pa1, lk1⟩, c1, c2, fun z a b ha hb h => c3 z a b ha hb (h.elim id fun y => absurd y.2 (Nat.not_lt_zero _))⟩ ?_ ?_⟩
        · rintro k σ H6 hk ⟨⟨w5, w8, w9, w10, es⟩, kvs2, A2, mv2, ⟨v5', v7', v9', v10', es2, g2, tab2, pa2, lk2⟩, c1, c2, c3⟩
          rw [es] at es2
          obtain ⟨rfl, rfl, rfl, rfl, rfl⟩ : w5 = v5' ∧ some (nV j) = v7' ∧ w8 = some (V.bl mv2) ∧ w9 = v9' ∧ w10 = v10' := by
            simp only [List.cons.injEq] at es2
            exact ⟨es2.2.2.2.2.2.1, es2.2.2.2.2.2.2.2.1, es2.2.2.2.2.2.2.2.2.1, es2.2.2.2.2.2.2.2.2.2.1, es2.2.2.2.2.2.2.2.2.2.2.1⟩
          subst es
          rw [Int.zero_add]
          obtain ⟨a1, ea1, ha1⟩ := g2.giv j hj
          obtain ⟨a2, ea2, ha2⟩ := g2.giv k (by omega)
          have lc : ∀ x, (comeB bs x).length ≤ 20 := fun x => by unfold comeB; exact Nat.le_trans (List.length_filter_le ..) lb
          have lcj := lc j
          refine ⟨_, rfl, _, rfl, gl, _, _, _, rfl, rfl, SqL.of g2.gl, atI_nat ea1, _, rfl, _, rfl, gl, _, _, _, rfl, rfl, SqL.of g2.gl, atI_nat ea2, a1, a2, _, _, rfl, SqL.of ha1, SqL.of ha2, by rw [List.length_map]; omega, fun p as H7 np hp la pr keep => ?_⟩
          have s7 : Same H6 H7 := keep
          refine ⟨_, rfl, _, rfl, _, rfl, (by show 2 ≤ sizeLine; decide), fun u nu => ?_⟩
          have s8 : Same H7 (upd H7 u (.tup [nV j, nV k])) := same_new nu
          have g8 := (g2.on s7).on s8
          have hp8 := s8 _ _ hp
          have out : ∀ (w9' w10' : Option V) (kvs3 : List (List Key × V)) (A3 : Nat → Nat → Bool) (mv3 : Bool) (H9 : Hp), PG H H9 r gl d hs bs gv kvs3 → TabA kvs3 hs.length A3 → PA hs bs t A3 → kvs3.length ≤ 1000 → cntA hs.length A3 ≤ cntA hs.length A → (mv3 = true → cntA hs.length A3 < cntA hs.length A) → (mv3 = false → ∀ a b, a < hs.length → b < a → (a < j ∨ (a = j ∧ b < k + 1)) → A3 a b = true → PairsOk bs A3 a b) →
              ((∃ v5 v8 v9 v10 : Option V, [some (.ref r), some (nV hs.length), some (.ref gl), none, none, some (nV k), some (.ref d), some (nV j), some (.bl mv3), w9', w10', none, none] = [some (.ref r), some (nV hs.length), some (.ref gl), none, none, v5, some (.ref d), some (nV j), v8, v9, v10, none, none]) ∧ O (fun a b => a < j ∨ (a = j ∧ b < k + 1)) [some (.ref r), some (nV hs.length), some (.ref gl), none, none, some (nV k), some (.ref d), some (nV j), some (.bl mv3), w9', w10', none, none] H9) :=
            fun w9' w10' kvs3 A3 mv3 H9 x1 x2 x3 x4 x5 x6 x7 => ⟨⟨_, _, _, _, rfl⟩, kvs3, A3, mv3, ⟨_, _, _, _, rfl, x1, x2, x3, x4⟩, x5, x6, x7⟩
          refine ⟨d, .bl (A2 j k), rfl, .inr ⟨kvs2, kk j k, u, .inl g8.d, rfl, upd_same, (tab2 j k hj (by omega)).symm⟩, A2 j k, rfl, if_bl (fun e => ?_) (fun e => if_bl (fun z => nomatch z) (fun _ => ?_))⟩
          · have lz : (zsOf bs A2 j k).length = as.length := by
              unfold zsOf
              rw [List.length_zipWith, la, List.length_map, List.length_map]
            refine ⟨_, rfl, p, rfl, ⟨_, SqL.of hp8⟩, fun D nD => lc_list (K := K) (a := p) (xs := as.map V.ref) (fun i H9 => H9 D = some (.lst (((zsOf bs A2 j k).take i).map V.bl)) ∧ Same (upd H7 u (.tup [nV j, nV k])) H9) ⟨upd_same, same_new nD⟩ (fun i H9 _ ⟨_, s9⟩ => SqL.of (s9 _ _ hp8)) ?_ ?_⟩
            · rintro i x H9 hx ⟨hD, s9⟩
              rw [List.getElem?_map] at hx
              cases hi : as[i]? with
              | none => rw [hi] at hx; cases hx
              | some q1 =>
                rw [hi] at hx
                obtain rfl : V.ref q1 = x := Option.some.inj hx
                obtain ⟨x1, y1, ex, ey, eq1⟩ := pr i q1 hi
                rw [List.getElem?_map] at ex ey
                cases h1 : (comeB bs j)[i]? with
                | none => rw [h1] at ex; cases ex
                | some b1 =>
                  cases h2 : (comeB bs k)[i]? with
                  | none => rw [h2] at ey; cases ey
                  | some b2 =>
                    rw [h1] at ex
                    rw [h2] at ey
                    obtain rfl := Option.some.inj ex
                    obtain rfl := Option.some.inj ey
                    have m1 := ends b1 (List.mem_filter.mp (List.mem_of_getElem? h1)).1
                    have m2 := ends b2 (List.mem_filter.mp (List.mem_of_getElem? h2)).1
                    have g9 := g8.on s9
                    have ez : (zsOf bs A2 j k)[i]? = some (A2 b1.one b2.one) := by unfold zsOf; rw [List.getElem?_zipWith, h1, h2]
                    have il := (List.getElem?_eq_some_iff.mp h1).1
                    refine ⟨rfl, yes_in ⟨_, rfl, _, rfl, d, .bl (A2 b1.one b2.one), rfl, .inr ⟨kvs2, kk b1.one b2.one, q1, .inl g9.d, rfl, s9 _ _ (s8 _ _ eq1), (tab2 _ _ m1 m2).symm⟩, _, hD, ?_, ?_, Same.own s9 nD⟩⟩
                    · rw [List.length_map, List.length_take]
                      exact small1000 (by omega)
                    · rw [upd_same, List.take_add_one, ez, List.map_append]
                      rfl
            rintro H9 ⟨hD, s9⟩
            rw [List.length_map, ← lz, List.take_length] at hD
            have g9 := g8.on s9
            refine ⟨D, zsOf bs A2 j k, rfl, SqL.of hD, _, rfl, if_bl (fun z => ?_) (fun z => ?_)⟩
            · have bad : ¬ PairsOk bs A2 j k := fun y => by rw [zs_ok.mpr y] at z; exact absurd z (by decide)
              refine ⟨_, rfl, _, rfl, _, rfl, (by show 2 ≤ sizeLine; decide), fun u2 nu2 => ?_⟩
              have g10 := g9.on (same_new (o := .tup [nV j, nV k]) nu2)
              refine ⟨d, _, rfl, .inr ⟨kvs2, kk j k, u2, g10.d, rfl, upd_same, small1000 lk2, rfl⟩, ?_⟩
              have g11 := g10.put (kvs' := putK kvs2 (kk j k) (.bl false))
              refine ⟨_, rfl, _, rfl, _, rfl, (by show 2 ≤ sizeLine; decide), fun u3 nu3 => ?_⟩
              have g12 := g11.on (same_new (o := .tup [nV k, nV j]) nu3)
              have p1 := put_same kvs2 (kk j k) (.bl false) _ (tab2 j k hj (by omega))
              have p2 : (putK (putK kvs2 (kk j k) (.bl false)) (kk k j) (.bl false)).length = kvs2.length := by
                rw [put_same _ (kk k j) (.bl false) (.bl (A2 k j)) (by rw [valV_put, if_neg (fun z => by have := (kk_inj.mp z).1; omega)]; exact tab2 k j (by omega) hj), p1]
              refine ⟨d, _, rfl, .inr ⟨_, kk k j, u3, g12.d, rfl, upd_same, small1000 (by omega), rfl⟩, ?_⟩
              have lt := cntA_off (n := hs.length) hj (by omega) e
              exact out _ _ _ (offA A2 j k) true _ g12.put tab2.off (pa2.off kd0 ends hj (by omega) (by omega) bad) (by omega) (by omega) (fun _ => by omega) (fun z => nomatch z)
            · have good : PairsOk bs A2 j k := zs_ok.mp (by cases hz : (zsOf bs A2 j k).all id with | true => rfl | false => rw [hz] at z; exact absurd z (by decide))
              exact out _ _ kvs2 A2 mv2 _ g9 tab2 pa2 lk2 c1 c2 fun zz a b ha hb h ab => by
                by_cases y : a = j ∧ b = k
                · obtain ⟨rfl, rfl⟩ := y
                  exact good
                · exact c3 zz a b ha hb (by omega) ab
          · exact out _ _ kvs2 A2 mv2 _ g8 tab2 pa2 lk2 c1 c2 fun zz a b ha hb h ab => by
              by_cases y : a = j ∧ b = k
              · obtain ⟨rfl, rfl⟩ := y
                rw [e] at ab
                cases ab
              · exact c3 zz a b ha hb (by omega) ab
        · rintro σ H6 ⟨⟨w5, w8, w9, w10, es⟩, kvs2, A2, mv2, st, c1, c2, c3⟩
          exact ⟨kvs2, A2, mv2, st, c1, c2, fun z a b ha hb h => c3 z a b ha hb (by omega)⟩
      · rintro σ H5 ⟨kvs1, A1, mv, st, c1, c2, c3⟩
        cases mv with
        | true => exact ⟨_, Nat.succ_lt_succ (c2 rfl), kvs1, A1, true, st, .inl ⟨rfl, rfl⟩⟩
        | false => exact ⟨0, Nat.succ_pos _, kvs1, A1, false, st, .inr ⟨rfl, fun a b ha hb e => c3 rfl a b ha hb ha e⟩⟩
    · have q := (alt.resolve_left fun z => by rw [e] at z; exact absurd z.1 (by decide)).2
      exact ⟨eD, gl, d, gv, kvs, A, _, _, _, _, _, rfl, g, tab, fun j k hj hk => pa.done kd0 ends q hj hk⟩
  case tail1 =>
    rintro D' σ' H1 ⟨eD, gl, d, gv, rfl, g⟩
    have row : ∀ (j : Nat) (kvs : List (List Key × V)), j < hs.length → True := fun _ _ _ => trivial
    refine ⟨_, rfl, _, rfl, by omega, by omega, for_range (lo := 0) (n := hs.length) (fun j σ H5 => ∃ (kvs : List (List Key × V)) (v5 v7 : Option V), σ = [some (.ref r), some (nV hs.length), some (.ref gl), none, none, v5, some (.ref d), v7, none, none, none, none, none] ∧ PG H H5 r gl d hs bs gv kvs ∧ kvs.length ≤ j * 12 ∧ ∀ a b, a < j → b < hs.length → ∃ c : Bool, valV kvs (kk a b) = some (.bl c) ∧ (c = true ↔ a = b ∨ Looks hs bs a b)) ⟨[], _, _, rfl, g, Nat.zero_le _, fun a b h => absurd h (Nat.not_lt_zero _)⟩ ?_ ?_⟩
    · rintro j σ H5 hj ⟨kvs, v5, v7, rfl, g5, lk, tb⟩
      rw [Int.zero_add]
      refine ⟨_, rfl, _, rfl, by omega, by omega, for_range (lo := 0) (n := hs.length) (fun k σ H5 => ∃ (kvs : List (List Key × V)) (v5 : Option V), σ = [some (.ref r), some (nV hs.length), some (.ref gl), none, none, v5, some (.ref d), some (nV j), none, none, none, none, none] ∧ PG H H5 r gl d hs bs gv kvs ∧ kvs.length ≤ j * 12 + k ∧ ∀ a b, b < hs.length → (a < j ∨ (a = j ∧ b < k)) → ∃ c : Bool, valV kvs (kk a b) = some (.bl c) ∧ (c = true ↔ a = b ∨ Looks hs bs a b)) ⟨kvs, _, rfl, g5, lk, fun a b hb h => tb a b (h.elim id fun z => absurd z.2 (Nat.not_lt_zero _)) hb⟩ ?_ ?_⟩
      · rintro k σ H6 hk ⟨kvs, v5, rfl, g6, lk, tb⟩
        rw [Int.zero_add]
        have tb' : ∀ (c : Bool), (c = true ↔ j = k ∨ Looks hs bs j k) → ∀ a b, b < hs.length → (a < j ∨ a = j ∧ b < k + 1) → ∃ c' : Bool, valV (putK kvs (kk j k) (.bl c)) (kk a b) = some (.bl c') ∧ (c' = true ↔ a = b ∨ Looks hs bs a b) := fun c hc a b hb h => by
          rw [valV_put]
          by_cases e : a = j ∧ b = k
          · obtain ⟨rfl, rfl⟩ := e
            rw [if_pos rfl]
            exact ⟨c, rfl, hc⟩
          · rw [if_neg (fun z => e (kk_inj.mp z))]
            exact tb a b hb (h.elim .inl fun z => .inr ⟨z.1, by have : b ≠ k := fun y => e ⟨z.1, y⟩; omega⟩)
        have ln : ∀ c : Bool, (putK kvs (kk j k) (V.bl c)).length ≤ j * 12 + (k + 1) := fun c => by
          have := put_len kvs (kk j k) (V.bl c)
          omega
        refine ⟨_, rfl, _, rfl, rfl, _, rfl, if_bl (fun e => ?_) (fun e => ?_)⟩
        · have e : j = k := by have := V.int.inj (of_decide_eq_true e); omega
          refine ⟨_, rfl, _, rfl, _, rfl, (by show 2 ≤ sizeLine; decide), fun u nu => ?_⟩
          have g7 := g6.on (same_new (o := .tup [nV j, nV k]) nu)
          exact ⟨d, _, rfl, .inr ⟨kvs, kk j k, u, g7.d, rfl, upd_same, small1000 (by omega), rfl⟩, _, _, rfl, g7.put, ln true, tb' true ⟨fun _ => .inl e, fun _ => rfl⟩⟩
        · have e : ¬ j = k := fun z => of_decide_eq_false e (by rw [z])
          refine ⟨_, rfl, _, rfl, _, rfl, r, hs, bs, j, k, rfl, g6.room, gd, by omega, hj, hk, fun c H7 hc s7 => ?_⟩
          refine ⟨_, rfl, _, rfl, _, rfl, (by show 2 ≤ sizeLine; decide), fun u nu => ?_⟩
          have g7 := (g6.on s7).on (same_new (o := .tup [nV j, nV k]) nu)
          exact ⟨d, _, rfl, .inr ⟨kvs, kk j k, u, g7.d, rfl, upd_same, small1000 (by omega), rfl⟩, _, _, rfl, g7.put, ln c, tb' c ⟨fun z => .inr (hc.mp z), fun z => hc.mpr (z.resolve_left e)⟩⟩
      · rintro σ H6 ⟨kvs, v5, rfl, g6, lk, tb⟩
        exact ⟨kvs, _, _, rfl, g6, by omega, fun a b ha hb => tb a b hb (by omega)⟩
    · rintro σ H5 ⟨kvs, v5, v7, rfl, g5, lk, tb⟩
      have bo : ∀ a b, a < hs.length → b < hs.length → valV kvs (kk a b) = some (.bl (aOf kvs a b)) ∧ (aOf kvs a b = true ↔ a = b ∨ Looks hs bs a b) := fun a b ha hb => by
        obtain ⟨c, e1, e2⟩ := tb a b ha hb
        have : aOf kvs a b = c := by unfold aOf; rw [e1]
        rw [this]
        exact ⟨e1, e2⟩
      exact ⟨eD, gl, d, gv, kvs, aOf kvs, _, _, rfl, g5, fun a b ha hb => (bo a b ha hb).1, PA.first kd0 ends fun a b ha hb => (bo a b ha hb).2, by omega⟩
  refine ⟨_, rfl, r, _, _, _, rfl, rfl, SqT.of er, atI_nat (j := 0) rfl, ha, _, rfl, .inr (SqT.of eh), ?_⟩
  rw [lhv]
  refine ⟨_, rfl, _, rfl, by omega, by omega, fun D nD => lc_range (lo := 0) (n := hs.length) (fun i H5 => ∃ gv : List V, H5 D = some (.lst gv) ∧ gv.length = i ∧ (∀ j, j < i → ∃ a, gv[j]? = some (.ref a) ∧ a ≠ D ∧ H5 a = some (.lst ((comeB bs j).map fun b => nV b.one))) ∧ Same H H5) ⟨[], upd_same, rfl, (fun j hj => absurd hj (Nat.not_lt_zero _)), same_new nD⟩ ?_ ?_⟩
  · rintro i H5 hi ⟨gv, hD, lg, al, s5⟩
    refine ⟨rfl, yes_in ⟨_, rfl, _, rfl, r, hs, bs, i, congrArg (fun z => [V.ref r, V.int z]) (Int.zero_add _), hR.keep (TK.same s5), by omega, fun p gv2 H6 np hp al2 s6 => ⟨p, rfl, ⟨_, SqL.of hp⟩, fun E nE => lc_list (K := K) (a := p) (xs := gv2) (fun j H7 => H7 E = some (.lst (((comeB bs i).take j).map fun b => nV b.one)) ∧ Same H6 H7) ⟨upd_same, same_new nE⟩ (fun j H7 _ ⟨_, s7⟩ => SqL.of (s7 _ _ hp)) ?_ ?_⟩⟩⟩
    · rintro j x H7 hx ⟨hE, s7⟩
      obtain ⟨b, eb1, u, g, rfl, e1, e2⟩ := al2.getL hx
      have lc : (comeB bs i).length ≤ 400 := by unfold comeB; exact Nat.le_trans (List.length_filter_le ..) (by omega)
      refine ⟨u, _, rfl, SqT.of (s7 _ _ e1), rfl, _, _, rfl, _, _, rfl, rfl, rfl, yes_in ⟨_, rfl, _, hE, ?_, ?_, Same.own s7 nE⟩⟩
      · rw [List.length_map, List.length_take]
        exact small1000 (by omega)
      · rw [upd_same, List.take_add_one, eb1, List.map_append]
        rfl
    · rintro H7 ⟨hE, s7⟩
      rw [al2.length, List.take_length] at hE
      have s57 : Same H5 H7 := s6.trans s7
      have hD7 := s57 _ _ hD
      have nE5 : E ≠ D := fun e => absurd (same_none s6 nE) (by rw [e, hD]; exact fun z => nomatch z)
      refine ⟨gv, hD7, small1000 (by omega), gv ++ [.ref E], upd_same, by rw [List.length_append, lg]; rfl, fun j hj => ?_, Same.own (fun a o e => s57 _ _ (s5 _ _ e)) nD⟩
      rcases Nat.lt_or_ge j i with l | l
      · obtain ⟨a, e1, en, e2⟩ := al j l
        exact ⟨a, by rw [List.getElem?_append_left (by omega)]; exact e1, en, by rw [upd_ne en]; exact s57 _ _ e2⟩
      · obtain rfl : j = i := by omega
        exact ⟨E, by rw [List.getElem?_append_right (by omega), lg, Nat.sub_self]; rfl, nE5, by rw [upd_ne nE5]; exact hE⟩
  · rintro H5 ⟨gv, hD, lg, al, s5⟩
    refine fun d nd => ?_
    have s6 := same_new (o := .dT []) nd
    exact ⟨rfl, D, d, gv, rfl, hR.keep (TK.same (s5.trans s6)), s6 _ _ hD, fun j hj => let ⟨a, e1, _, e2⟩ := al j hj; ⟨a, e1, s6 _ _ e2⟩, s5.trans s6, same_none s5 nd, upd_same⟩
end
def doorsOf (z : Str) (hs : List HR) : List Nat := (List.range hs.length).filter fun i => decide (hs[i]?.map HR.wd = some z)
/-! ### the room that has one hand for each kind -/
theorem Canon.take {t : List Nat} (c : Canon t) (k : Nat) : Canon (t.take k) := by
  intro i x e
  rw [List.getElem?_take] at e
  by_cases h : i < k
  · rw [if_pos h] at e
    rw [List.take_take, Nat.min_eq_left (Nat.le_of_lt h)]
    exact c i x e
  · rw [if_neg h] at e; cases e
theorem canon_all : ∀ {t : List Nat}, Canon t → ∀ x, x ∈ t ↔ x < (uniq t).length := by
  intro t
  induction t using snoc_ind with
  | h0 => intro _ x; exact ⟨fun z => (by cases z), fun z => absurd z (Nat.not_lt_zero _)⟩
  | h1 l y ih =>
    intro c x
    have cl : Canon l := by
      have := c.take l.length
      rwa [List.take_left'] at this
      rfl
    have ih := ih cl
    have cy := c l.length y (by rw [List.getElem?_append_right (Nat.le_refl _), Nat.sub_self]; rfl)
    rw [List.take_left' rfl] at cy
    rw [uniq_snoc, List.mem_append, List.mem_singleton, ih x]
    by_cases h : y ∈ l
    · rw [if_pos ((mem_uniq l y).mpr h)]
      constructor
      · rintro (z | rfl)
        · exact z
        · exact (ih _).mp h
      · exact .inl
    · rw [if_neg (fun z => h ((mem_uniq l y).mp z)), List.length_append]
      have : y = (uniq l).length := cy.resolve_left h
      show _ ↔ x < _ + 1
      omega
def alk (t : List Nat) (k : Nat) : List Nat := (List.range t.length).filter fun i => decide (t[i]? = some k)
def rep (t : List Nat) (k : Nat) : Nat := (alk t k).headD 0
def minL : List Int → Int
  | [] => 0
  | [x] => x
  | x :: y :: r => min x (minL (y :: r))
theorem minL_le : ∀ {l : List Int}, ∀ x ∈ l, minL l ≤ x
  | [_], x, h => by rw [List.mem_singleton.mp h]; exact Int.le_refl _
  | y :: z :: r, x, h => by
    show min y (minL (z :: r)) ≤ x
    rcases List.mem_cons.mp h with rfl | h
    · exact Int.min_le_left ..
    · exact Int.le_trans (Int.min_le_right ..) (minL_le x h)
theorem minL_mem : ∀ {l : List Int}, l ≠ [] → minL l ∈ l
  | [x], _ => List.mem_singleton.mpr rfl
  | y :: z :: r, _ => by
    show min y (minL (z :: r)) ∈ _
    by_cases h : y ≤ minL (z :: r)
    · rw [Int.min_eq_left h]; exact List.mem_cons_self ..
    · rw [Int.min_eq_right (by omega)]; exact List.mem_cons_of_mem _ (minL_mem (List.cons_ne_nil _ _))
def gH (hs : List HR) (i : Nat) : HR := hs.getD i ⟨"", none, 0⟩
def joinH1 (hs : List HR) (t : List Nat) (k : Nat) : HR := ⟨(gH hs (rep t k)).wd, (gH hs (rep t k)).no, minL ((alk t k).map fun i => (gH hs i).mom)⟩
def joinB1 (bs : List BR) (t : List Nat) (k : Nat) : List BR := (comeB bs (rep t k)).map fun b => ⟨kd t b.one, k, b.th⟩
def joinH (hs : List HR) (t : List Nat) : List HR := (List.range (uniq t).length).map (joinH1 hs t)
def joinB (bs : List BR) (t : List Nat) : List BR := (List.range (uniq t).length).flatMap (joinB1 bs t)
theorem gH_at {hs : List HR} {i : Nat} {h : HR} (e : hs[i]? = some h) : gH hs i = h := by
  unfold gH
  rw [List.getD_eq_getElem?_getD, e]; rfl
theorem rep_of {t : List Nat} {k : Nat} (h : k ∈ t) : rep t k < t.length ∧ t[rep t k]? = some k ∧ rep t k ∈ alk t k ∧ ∃ r, alk t k = rep t k :: r := by
  obtain ⟨i, hi, e⟩ := List.getElem_of_mem h
  have m : i ∈ alk t k := List.mem_filter.mpr ⟨List.mem_range.mpr hi, decide_eq_true (by rw [List.getElem?_eq_getElem hi, e])⟩
  cases hl : alk t k with
  | nil => rw [hl] at m; cases m
  | cons a r =>
    have e1 : rep t k = a := by unfold rep; rw [hl]; rfl
    have m2 : a ∈ alk t k := by rw [hl]; exact List.mem_cons_self ..
    obtain ⟨q1, q2⟩ := List.mem_filter.mp m2
    rw [e1]
    exact ⟨List.mem_range.mp q1, of_decide_eq_true q2, List.mem_cons_self .., r, rfl⟩
section
variable {hs : List HR} {bs : List BR} {t : List Nat}
theorem kd_lt (K : KindsOf hs bs t) {i : Nat} (h : i < hs.length) : kd t i < (uniq t).length := by
  have e := at_kd (t := t) (i := i) (by rw [K.len]; exact h)
  exact (canon_all K.canon _).mp (List.mem_of_getElem? e)
theorem rep_lt (K : KindsOf hs bs t) {k : Nat} (h : k < (uniq t).length) : rep t k < hs.length ∧ kd t (rep t k) = k := by
  obtain ⟨a, b, _⟩ := rep_of ((canon_all K.canon k).mpr h)
  exact ⟨by rw [← K.len]; exact a, kd_at b⟩
theorem flat_filter {f : Nat → List BR} (hf : ∀ k, ∀ b ∈ f k, b.to = k) (k : Nat) : ∀ m, ((List.range m).flatMap f).filter (fun b => decide (b.to = k)) = if k < m then f k else [] := by
  intro m
  induction m with
  | zero => rfl
  | succ m ih =>
    rw [List.range_succ, List.flatMap_append, List.filter_append, ih]
    have e : ([m].flatMap f).filter (fun b => decide (b.to = k)) = if k = m then f k else [] := by
      rw [List.flatMap_singleton]
      by_cases h : k = m
      · rw [if_pos h, h]
        exact List.filter_eq_self.mpr fun b hb => decide_eq_true (hf m b hb)
      · rw [if_neg h]
        exact List.filter_eq_nil_iff.mpr fun b hb z => h ((of_decide_eq_true z).symm.trans (hf m b hb))
    rw [e]
    by_cases h1 : k < m
    · rw [if_pos h1, if_neg (by omega), if_pos (by omega), List.append_nil]
    · rw [if_neg h1, List.nil_append]
      by_cases h2 : k = m
      · rw [if_pos h2, if_pos (by omega)]
      · rw [if_neg h2, if_neg (by omega)]
theorem joinB1_to {k : Nat} : ∀ b ∈ joinB1 bs t k, b.to = k := fun b hb => by
  obtain ⟨c, _, rfl⟩ := List.mem_map.mp hb
  rfl
theorem come_join {k : Nat} (h : k < (uniq t).length) : comeB (joinB bs t) k = joinB1 bs t k := by
  show ((List.range (uniq t).length).flatMap (joinB1 bs t)).filter _ = _
  rw [flat_filter (fun k b hb => joinB1_to b hb), if_pos h]
theorem mem_join {c : BR} (h : c ∈ joinB bs t) : ∃ k, k < (uniq t).length ∧ c ∈ joinB1 bs t k := by
  obtain ⟨k, hk, hc⟩ := List.mem_flatMap.mp h
  exact ⟨k, List.mem_range.mp hk, hc⟩
theorem All2.mapR {α β γ : Type} {R : α → γ → Prop} {f : β → γ} : ∀ {as : List α} {bs : List β}, All2 (fun a b => R a (f b)) as bs → All2 R as (bs.map f)
  | _, _, .nil => .nil
  | _, _, .cons h t => .cons h (All2.mapR t)
theorem All2.mapL {α β γ : Type} {R : γ → β → Prop} {f : α → γ} : ∀ {as : List α} {bs : List β}, All2 (fun a b => R (f a) b) as bs → All2 R (as.map f) bs
  | _, _, .nil => .nil
  | _, _, .cons h t => .cons h (All2.mapL t)
theorem pw_eq : ∀ {l m : List Nat}, l.Pairwise (· < ·) → m.Pairwise (· < ·) → (∀ x, x ∈ l ↔ x ∈ m) → l = m
  | [], [], _, _, _ => rfl
  | [], y :: m, _, _, h => absurd ((h y).mpr (List.mem_cons_self ..)) (fun z => (by cases z))
  | x :: l, [], _, _, h => absurd ((h x).mp (List.mem_cons_self ..)) (fun z => (by cases z))
  | x :: l, y :: m, a, b, h => by
    obtain ⟨a1, a2⟩ := List.pairwise_cons.mp a
    obtain ⟨b1, b2⟩ := List.pairwise_cons.mp b
    have e : x = y := by
      rcases List.mem_cons.mp ((h x).mp (List.mem_cons_self ..)) with e | hx
      · exact e
      · rcases List.mem_cons.mp ((h y).mpr (List.mem_cons_self ..)) with e | hy
        · exact e.symm
        · have := a1 y hy
          have := b1 x hx
          omega
    subst e
    rw [pw_eq a2 b2 fun z => ?_]
    constructor
    · intro hz
      rcases List.mem_cons.mp ((h z).mp (List.mem_cons_of_mem _ hz)) with e | q
      · rw [e] at hz
        exact absurd (a1 x hz) (Nat.lt_irrefl _)
      · exact q
    · intro hz
      rcases List.mem_cons.mp ((h z).mpr (List.mem_cons_of_mem _ hz)) with e | q
      · rw [e] at hz
        exact absurd (b1 x hz) (Nat.lt_irrefl _)
      · exact q
/-- each hand goes on in its kind -/
structure Join (hs : List HR) (bs : List BR) (t : List Nat) (hs' : List HR) (bs' : List BR) : Prop where
  tlen : t.length = hs.length
  hand : ∀ i h, hs[i]? = some h → ∃ h', hs'[kd t i]? = some h' ∧ h'.wd = h.wd ∧ h'.no = h.no ∧ h'.mom ≤ h.mom
  doors : ∀ z : Str, z = "in" ∨ z = "out" → doorsOf z hs' = (doorsOf z hs).map (kd t)
  come : ∀ i, i < hs.length → All2 (fun b c : BR => b.th = c.th ∧ c.one = kd t b.one) (comeB bs i) (comeB bs' (kd t i))
  ends : ∀ b ∈ bs, b.one < hs.length
theorem doors_pw {z : Str} {hs : List HR} : (doorsOf z hs).Pairwise (· < ·) := List.Pairwise.filter _ List.pairwise_lt_range
theorem mem_doors {z : Str} {hs : List HR} {k : Nat} : k ∈ doorsOf z hs ↔ ∃ h, hs[k]? = some h ∧ h.wd = z := by
  unfold doorsOf
  rw [List.mem_filter, List.mem_range]
  constructor
  · rintro ⟨a, b⟩
    have b := of_decide_eq_true b
    rw [List.getElem?_eq_getElem a] at b
    exact ⟨_, List.getElem?_eq_getElem a, Option.some.inj b⟩
  · rintro ⟨h, e, w⟩
    exact ⟨(List.getElem?_eq_some_iff.mp e).1, decide_eq_true (by rw [e]; exact congrArg some w)⟩
theorem joinH_at {k : Nat} (h : k < (uniq t).length) : (joinH hs t)[k]? = some (joinH1 hs t k) := by
  unfold joinH
  rw [List.getElem?_map, List.getElem?_range h]; rfl
theorem same_rule (K : KindsOf hs bs t) {i : Nat} {h : HR} (e : hs[i]? = some h) : (joinH1 hs t (kd t i)).wd = h.wd ∧ (joinH1 hs t (kd t i)).no = h.no ∧ (joinH1 hs t (kd t i)).mom ≤ h.mom := by
  have il := (List.getElem?_eq_some_iff.mp e).1
  obtain ⟨r1, r2⟩ := rep_lt K (kd_lt K il)
  have al := (kinds_alike K il r1).mp r2.symm
  have im : i ∈ alk t (kd t i) := List.mem_filter.mpr ⟨List.mem_range.mpr (by rw [K.len]; exact il), decide_eq_true (at_kd (by rw [K.len]; exact il))⟩
  have mm : (joinH1 hs t (kd t i)).mom ≤ h.mom := minL_le _ (List.mem_map.mpr ⟨i, im, by rw [gH_at e]⟩)
  rcases al.first il r1 with q | ⟨g, h2, e1, e2, e3, e4, _⟩
  · refine ⟨?_, ?_, mm⟩
    · show (gH hs (rep t (kd t i))).wd = _
      rw [← q, gH_at e]
    · show (gH hs (rep t (kd t i))).no = _
      rw [← q, gH_at e]
  · rw [e] at e1
    obtain rfl := Option.some.inj e1
    refine ⟨?_, ?_, mm⟩
    · show (gH hs (rep t (kd t i))).wd = _
      rw [gH_at e2, e3]
    · show (gH hs (rep t (kd t i))).no = _
      rw [gH_at e2, e4]
theorem join_ok (K : KindsOf hs bs t) (ends : ∀ b ∈ bs, b.one < hs.length) : Join hs bs t (joinH hs t) (joinB bs t) := by
  have rule := fun i h (e : hs[i]? = some h) => same_rule K e
  refine ⟨K.len, fun i h e => ⟨_, joinH_at (kd_lt K (List.getElem?_eq_some_iff.mp e).1), rule i h e⟩, fun z hz => ?_, fun i hi => ?_, ends⟩
  · refine pw_eq doors_pw ?_ fun x => ?_
    · rw [List.pairwise_map]
      refine List.Pairwise.imp_of_mem ?_ (doors_pw (z := z) (hs := hs))
      intro a b ha hb lt
      obtain ⟨h1, e1, w1⟩ := mem_doors.mp ha
      obtain ⟨h2, e2, w2⟩ := mem_doors.mp hb
      have al := (List.getElem?_eq_some_iff.mp e1).1
      have bl := (List.getElem?_eq_some_iff.mp e2).1
      have ta := at_kd (t := t) (i := a) (by rw [K.len]; exact al)
      have tb := at_kd (t := t) (i := b) (by rw [K.len]; exact bl)
      have am : kd t a ∈ t.take b := List.mem_of_getElem? (i := a) (by rw [List.getElem?_take, if_pos lt]; exact ta)
      rcases K.canon b _ tb with m | e
      · exfalso
        obtain ⟨j, hj, ej⟩ := List.getElem_of_mem m
        rw [List.length_take] at hj
        rw [List.getElem_take] at ej
        have tj : t[j]? = some (kd t b) := by rw [← ej]; exact List.getElem?_eq_getElem (by omega)
        have jl : j < hs.length := by rw [← K.len]; omega
        have q := (kinds_alike K jl bl).mp (kd_at tj)
        rcases q.first jl bl with e | ⟨g, h3, g1, g2, g3, g4, g5⟩
        · omega
        · rw [e2] at g2
          rw [← Option.some.inj g2, w2] at g3
          unfold isDoor at g5
          rw [g3] at g5
          rcases hz with rfl | rfl
          · revert g5; decide +kernel
          · revert g5; decide +kernel
      · rw [e]
        exact (canon_all (K.canon.take b) _).mp am
    · rw [mem_doors, List.mem_map]
      constructor
      · rintro ⟨h', e, w⟩
        have xl : x < (uniq t).length := by
          have := (List.getElem?_eq_some_iff.mp e).1
          unfold joinH at this
          rwa [List.length_map, List.length_range] at this
        obtain ⟨r1, r2⟩ := rep_lt K xl
        have er := List.getElem?_eq_getElem r1
        refine ⟨rep t x, mem_doors.mpr ⟨_, er, ?_⟩, r2⟩
        rw [joinH_at xl] at e
        rw [← w, ← Option.some.inj e]
        show _ = (gH hs (rep t x)).wd
        rw [gH_at er]
      · rintro ⟨i, hi, rfl⟩
        obtain ⟨h, e, w⟩ := mem_doors.mp hi
        exact ⟨_, joinH_at (kd_lt K (List.getElem?_eq_some_iff.mp e).1), (rule i h e).1.trans w⟩
  · have kl := kd_lt K hi
    obtain ⟨r1, r2⟩ := rep_lt K kl
    have al := (kinds_alike K hi r1).mp r2.symm
    rw [come_join kl]
    refine All2.mapR ((al.come hi r1).imp_mem fun b hb c hc ⟨z1, z2⟩ => ⟨z1, ?_⟩)
    exact ((kinds_alike K (ends b (come_mem hb)) (ends c (come_mem hc))).mpr z2).symm
theorem All2.memR {α β : Type} {R : α → β → Prop} : ∀ {as : List α} {bs : List β}, All2 R as bs → ∀ b ∈ bs, ∃ a ∈ as, R a b
  | _, _, .cons r t, b, h => by
    rcases List.mem_cons.mp h with rfl | h
    · exact ⟨_, List.mem_cons_self .., r⟩
    · obtain ⟨a, ha, ra⟩ := All2.memR t b h
      exact ⟨a, List.mem_cons_of_mem _ ha, ra⟩
theorem rep_least {t : List Nat} {k i : Nat} (h : i ∈ alk t k) : rep t k ≤ i := by
  have p : (alk t k).Pairwise (· < ·) := List.Pairwise.filter _ List.pairwise_lt_range
  unfold rep
  cases hl : alk t k with
  | nil => rw [hl] at h; cases h
  | cons a r =>
    rw [hl] at p h
    rcases List.mem_cons.mp h with rfl | h
    · exact Nat.le_refl _
    · exact Nat.le_of_lt ((List.pairwise_cons.mp p).1 i h)
theorem rep_new {t : List Nat} {i k : Nat} (e : t[i]? = some k) (no : k ∉ t.take i) : rep t k = i := by
  have il := (List.getElem?_eq_some_iff.mp e).1
  have m : i ∈ alk t k := List.mem_filter.mpr ⟨List.mem_range.mpr il, decide_eq_true e⟩
  have le := rep_least m
  obtain ⟨_, q, _⟩ := rep_of (List.mem_of_getElem? e)
  rcases Nat.lt_or_ge (rep t k) i with lt | ge
  · exact absurd (List.mem_of_getElem? (i := rep t k) (by rw [List.getElem?_take, if_pos lt]; exact q)) no
  · omega
theorem rep_sum {t : List Nat} (c : Canon t) (f : Nat → Nat) : ∀ i, i ≤ t.length → ((List.range (uniq (t.take i)).length).map fun k => f (rep t k)).sum ≤ ((List.range i).map f).sum := by
  intro i
  induction i with
  | zero => intro _; exact Nat.le_refl _
  | succ i ih =>
    intro h
    have ih := ih (by omega)
    have e : t[i]? = some t[i] := List.getElem?_eq_getElem (by omega)
    have e1 : t.take (i + 1) = t.take i ++ [t[i]] := by rw [List.take_add_one, e]; rfl
    rw [e1, uniq_snoc, List.range_succ, List.map_append, List.sum_append]
    by_cases m : t[i] ∈ uniq (t.take i)
    · rw [if_pos m]
      exact Nat.le_trans ih (Nat.le_add_right _ _)
    · rw [if_neg m, List.length_append, show [t[i]].length = 1 from rfl, List.range_succ, List.map_append, List.sum_append]
      have no : t[i] ∉ t.take i := fun z => m ((mem_uniq _ _).mpr z)
      have v := (c i _ e).resolve_left no
      have r := rep_new e no
      show _ + (f (rep t (uniq (t.take i)).length) + 0) ≤ _ + (f i + 0)
      have r2 : rep t (uniq (t.take i)).length = i := by rw [← v]; exact r
      rw [r2]
      exact Nat.add_le_add_right ih _
theorem join_many (ok : RoomOk hs bs) (K : KindsOf hs bs t) : (joinB bs t).length ≤ bs.length := by
  have e : (joinB bs t).length = ((List.range (uniq t).length).map fun k => cT bs (rep t k)).sum := by
    unfold joinB
    rw [List.length_flatMap]
    congr 1
    refine List.map_congr_left fun k _ => ?_
    unfold joinB1 cT
    rw [List.length_map, count_filter]
    rfl
  have s := rep_sum K.canon (cT bs) t.length (Nat.le_refl _)
  rw [List.take_length] at s
  rw [e]
  refine Nat.le_trans s ?_
  rw [cT_sum bs fun b hb => by rw [K.len]; exact (ok.ends b hb).2]
  exact Nat.le_refl _
/-- a rank for the kinds -/
def rkK (t : List Nat) (rk : Nat → Int) (k : Nat) : Int := minL ((alk t k).map rk)
theorem join_rank (ok : RoomOk hs bs) (K : KindsOf hs bs t) {rk : Nat → Int} (hrk : ∀ b ∈ bs, b.th = [] → rk b.one < rk b.to) : ∀ c ∈ joinB bs t, c.th = [] → rkK t rk c.one < rkK t rk c.to := by
  intro c hc e
  obtain ⟨k, hk, h1⟩ := mem_join hc
  obtain ⟨b, hb, rfl⟩ := List.mem_map.mp h1
  obtain ⟨r1, r2⟩ := rep_lt K hk
  have ne : (alk t k).map rk ≠ [] := fun z => by
    obtain ⟨_, _, m, _⟩ := rep_of ((canon_all K.canon k).mpr hk)
    rw [List.map_eq_nil_iff.mp z] at m
    cases m
  obtain ⟨i, hi, ei⟩ := List.mem_map.mp (minL_mem ne)
  obtain ⟨i1, i2⟩ := List.mem_filter.mp hi
  have il : i < hs.length := by rw [← K.len]; exact List.mem_range.mp i1
  have ik := kd_at (of_decide_eq_true i2)
  have al := (kinds_alike K il r1).mp (by rw [ik, r2])
  obtain ⟨b2, hb2, z1, z2⟩ := (al.come il r1).memR b hb
  have m2 := come_mem hb2
  have to2 : b2.to = i := of_decide_eq_true (List.mem_filter.mp hb2).2
  have o2 := (ok.ends b2 m2).1
  have e2 : kd t b2.one = kd t b.one := (kinds_alike K o2 (ok.ends b (come_mem hb)).1).mpr z2
  have lt := hrk b2 m2 (z1.trans e)
  have le : rkK t rk (kd t b.one) ≤ rk b2.one := by
    refine minL_le _ (List.mem_map.mpr ⟨b2.one, List.mem_filter.mpr ⟨List.mem_range.mpr (by rw [K.len]; exact o2), decide_eq_true ?_⟩, rfl⟩)
    rw [at_kd (by rw [K.len]; exact o2), e2]
  show rkK t rk (kd t b.one) < minL ((alk t k).map rk)
  rw [← ei]
  rw [to2] at lt
  omega
theorem join_room (ok : RoomOk hs bs) (K : KindsOf hs bs t) : RoomOk (joinH hs t) (joinB bs t) := by
  have ln : (joinH hs t).length = (uniq t).length := by unfold joinH; rw [List.length_map, List.length_range]
  have lm := uniq_len t
  rw [K.len] at lm
  have ends : ∀ b ∈ bs, b.one < hs.length := fun b hb => (ok.ends b hb).1
  have J := join_ok K ends
  obtain ⟨rk, hrk⟩ := ok.rank
  have of_ : ∀ {c}, c ∈ joinB bs t → ∃ k b, k < (uniq t).length ∧ b ∈ comeB bs (rep t k) ∧ c = ⟨kd t b.one, k, b.th⟩ := fun {c} hc => by
    obtain ⟨k, hk, h1⟩ := mem_join hc
    obtain ⟨b, hb, e⟩ := List.mem_map.mp h1
    exact ⟨k, b, hk, hb, e.symm⟩
  refine ⟨by rw [ln]; exact Nat.le_trans lm ok.hands, fun h hh => ?_, fun c hc => ?_, fun c hc h e => ?_, fun c hc => ?_, ⟨rkK t rk, join_rank ok K hrk⟩, fun k h e => ?_, Nat.le_trans (join_many ok K) ok.many⟩
  · obtain ⟨k, hk, rfl⟩ := List.mem_map.mp hh
    have hk := List.mem_range.mp hk
    obtain ⟨r1, r2⟩ := rep_lt K hk
    have er := List.getElem?_eq_getElem r1
    obtain ⟨g1, _⟩ := ok.good _ (List.mem_of_getElem? er)
    have ne : (alk t k).map (fun i => (gH hs i).mom) ≠ [] := fun z => by
      obtain ⟨_, _, m, _⟩ := rep_of ((canon_all K.canon k).mpr hk)
      rw [List.map_eq_nil_iff.mp z] at m
      cases m
    obtain ⟨i, hi, ei⟩ := List.mem_map.mp (minL_mem ne)
    have il : i < hs.length := by rw [← K.len]; exact List.mem_range.mp (List.mem_filter.mp hi).1
    have gi := (ok.good _ (List.mem_of_getElem? (List.getElem?_eq_getElem il))).2
    have mo : (joinH1 hs t k).mom = hs[i].mom := by
      show minL ((alk t k).map fun i => (gH hs i).mom) = _
      rw [← ei, gH_at (List.getElem?_eq_getElem il)]
    have w1 : (joinH1 hs t k).wd = hs[rep t k].wd := by show (gH hs (rep t k)).wd = _; rw [gH_at er]
    have w2 : (joinH1 hs t k).no = hs[rep t k].no := by show (gH hs (rep t k)).no = _; rw [gH_at er]
    refine ⟨?_, by rw [mo]; exact gi⟩
    rcases g1 with g | g
    · exact .inl ⟨by rw [w1]; exact g.wd, by rw [w1, w2]; exact g.no, by rw [w2]; exact g.big⟩
    · refine .inr ⟨by rw [w1]; exact g.1, by rw [w2]; exact g.2.1, ?_⟩
      rw [mo]
      have ki : kd t i = k := kd_at (of_decide_eq_true (List.mem_filter.mp hi).2)
      have sw := (same_rule K (List.getElem?_eq_getElem il)).1
      rw [ki, w1] at sw
      rcases (ok.good _ (List.mem_of_getElem? (List.getElem?_eq_getElem il))).1 with z | z
      · have zw := z.wd
        rw [← sw] at zw
        rcases g.1 with y | y <;> rw [y] at zw <;> exact absurd zw (by decide +kernel)
      · exact z.2.2
  · obtain ⟨k, b, hk, hb, rfl⟩ := of_ hc
    rw [ln]
    exact ⟨kd_lt K (ends b (come_mem hb)), hk⟩
  · obtain ⟨k, b, hk, hb, rfl⟩ := of_ hc
    have bl := ends b (come_mem hb)
    have eb := List.getElem?_eq_getElem bl
    obtain ⟨h', e1, w, _⟩ := J.hand _ _ eb
    have e : (joinH hs t)[kd t b.one]? = some h := e
    rw [e] at e1
    rw [Option.some.inj e1, w]
    exact ok.out b (come_mem hb) _ eb
  · obtain ⟨k, b, hk, hb, rfl⟩ := of_ hc
    exact ok.th b (come_mem hb)
  · have kl : k < (uniq t).length := by rw [← ln]; exact (List.getElem?_eq_some_iff.mp e).1
    obtain ⟨r1, r2⟩ := rep_lt K kl
    have er := List.getElem?_eq_getElem r1
    have c := ok.count _ _ er
    rw [joinH_at kl] at e
    rw [← Option.some.inj e]
    have w1 : (joinH1 hs t k).wd = hs[rep t k].wd := by show (gH hs (rep t k)).wd = _; rw [gH_at er]
    rw [w1, ← c, count_filter, count_filter]
    have cj := come_join (bs := bs) kl
    show (((comeB (joinB bs t) k).length : Nat) : Int) = _
    rw [cj]
    unfold joinB1
    rw [List.length_map]
    rfl
end
/-! ### max, min of a list with a default -/
def rMaxDf (K : PySem.W.Frag) : List V → List V → Hp → VK → Prop := fun xs zs H Q => ∃ (a : Addr) (ns : List Int) (d : V), xs = [.ref a] ∧ zs = [d] ∧ SqL K H a (ns.map V.int) ∧ (ns = [] → Q d H) ∧ ∀ m, m ∈ ns → (∀ y ∈ ns, y ≤ m) → Q (.int m) H
def rMinDf (K : PySem.W.Frag) : List V → List V → Hp → VK → Prop := fun xs zs H Q => ∃ (a : Addr) (ns : List Int) (d : V), xs = [.ref a] ∧ zs = [d] ∧ SqL K H a (ns.map V.int) ∧ (ns = [] → Q d H) ∧ ∀ m, m ∈ ns → (∀ y ∈ ns, m ≤ y) → Q (.int m) H
theorem ints_val {ns : List Int} {its : List Value} (rv : Vals (ns.map V.int) its) : ∀ i v, its.toArray[i]? = some v → ∃ t, v = Value.int (ns.getD i 0) t := fun i v e => by
  rw [List.getElem?_toArray] at e
  have il : i < ns.length := by
    have h1 := (List.getElem?_eq_some_iff.mp e).1
    have h2 := rv.length
    rw [List.length_map] at h2
    omega
  obtain ⟨u, eu, t, ru⟩ := rv.get (i := i) (x := .int ns[i]) (by rw [List.getElem?_map, List.getElem?_eq_getElem il]; rfl)
  rw [e] at eu
  cases eu
  exact ⟨t, by rw [ru, List.getD_eq_getElem?_getD, List.getElem?_eq_getElem il]; rfl⟩
section
variable {X : Cx}
theorem cr_maxDf (K : PySem.W.Frag) (hk : X.K = K) (hc : X.calm = true) : CallRK X (.builtin "max") ["default"] (rMaxDf K) := by
  subst hk
  intro pins s σ H xs zs us ws Q I r r2 h
  obtain ⟨a, ns, d, rfl, rfl, hs, q0, q1⟩ := h
  obtain ⟨its, rv, hl, _⟩ := I.list hs
  rw [Vals.ref1 r]
  obtain ⟨dv, rfl, rd⟩ := vals1 r2
  have hh := I.ok.hd hc
  have ln : its.length = ns.length := by rw [← rv.length, List.length_map]
  show wpAny _ _ (call (.builtin "max") [.ref a] [(Str.ofString "default", dv)]) _ _ s
  refine PySem.call_max_walkD (PySem.W.iter_listW (A := X.A.in1) hh hl.isList fun s₂ e W st hfp hw hk => ?_)
  refine ⟨_, _, _, _, _, _, _, s.heap, (fun i j => decide (ns.getD i 0 > ns.getD j 0)), rfl, W, st, hfp, hw, hk, fun hz s' m => ?_, fun hp => ⟨fun i j vi vj s3 Q3 E3 _ p1 p2 q3 => ?_, fun v s' hP m => ?_⟩⟩
  · obtain ⟨h', tk, rfl, hk'⟩ := PySem.W.moved_old e rfl m
    refine ⟨d, H, I.kept hk', rd, q0 ?_⟩
    exact List.eq_nil_of_length_eq_zero (by have : its.toArray.size = 0 := hz; rw [List.size_toArray] at this; omega)
  · exact (CmpOf.ints_gt (fun i => ns.getD i 0) (ints_val rv)) i j vi vj s3 Q3 E3 p1 p2 q3
  · obtain ⟨h', tk, rfl, hk'⟩ := PySem.W.moved_old e rfl m
    have hp : 0 < its.length := by have : 0 < its.toArray.size := hp; rw [List.size_toArray] at this; exact this
    have hsz : its.toArray.size = its.length := List.size_toArray
    obtain ⟨t, rfl⟩ := ints_val rv _ v hP
    obtain ⟨h1, h2⟩ := argBest_gt (fun i => ns.getD i 0) (its.toArray.size - 1)
    refine ⟨.int _, H, I.kept hk', ⟨_, rfl⟩, q1 _ ?_ fun y hy => ?_⟩
    · have il : argBest (fun i j => decide (ns.getD i 0 > ns.getD j 0)) (its.toArray.size - 1) < ns.length := by omega
      rw [List.getD_eq_getElem?_getD, List.getElem?_eq_getElem il]
      exact List.getElem_mem _
    · obtain ⟨j, hj⟩ := List.getElem?_of_mem hy
      have jl := (List.getElem?_eq_some_iff.mp hj).1
      have := h2 j (by omega)
      rw [show ns.getD j 0 = y by rw [List.getD_eq_getElem?_getD, hj]; rfl] at this
      exact this
theorem cr_minDf (K : PySem.W.Frag) (hk : X.K = K) (hc : X.calm = true) : CallRK X (.builtin "min") ["default"] (rMinDf K) := by
  subst hk
  intro pins s σ H xs zs us ws Q I r r2 h
  obtain ⟨a, ns, d, rfl, rfl, hs, q0, q1⟩ := h
  obtain ⟨its, rv, hl, _⟩ := I.list hs
  rw [Vals.ref1 r]
  obtain ⟨dv, rfl, rd⟩ := vals1 r2
  have hh := I.ok.hd hc
  have ln : its.length = ns.length := by rw [← rv.length, List.length_map]
  show wpAny _ _ (call (.builtin "min") [.ref a] [(Str.ofString "default", dv)]) _ _ s
  refine PySem.call_min_walkD (PySem.W.iter_listW (A := X.A.in1) hh hl.isList fun s₂ e W st hfp hw hk => ?_)
  refine ⟨_, _, _, _, _, _, _, s.heap, (fun i j => decide (ns.getD i 0 < ns.getD j 0)), rfl, W, st, hfp, hw, hk, fun hz s' m => ?_, fun hp => ⟨fun i j vi vj s3 Q3 E3 _ p1 p2 q3 => ?_, fun v s' hP m => ?_⟩⟩
  · obtain ⟨h', tk, rfl, hk'⟩ := PySem.W.moved_old e rfl m
    refine ⟨d, H, I.kept hk', rd, q0 ?_⟩
    exact List.eq_nil_of_length_eq_zero (by have : its.toArray.size = 0 := hz; rw [List.size_toArray] at this; omega)
  · exact (CmpOf.ints_lt (fun i => ns.getD i 0) (ints_val rv)) i j vi vj s3 Q3 E3 p1 p2 q3
  · obtain ⟨h', tk, rfl, hk'⟩ := PySem.W.moved_old e rfl m
    have hp : 0 < its.length := by have : 0 < its.toArray.size := hp; rw [List.size_toArray] at this; exact this
    have hsz : its.toArray.size = its.length := List.size_toArray
    obtain ⟨t, rfl⟩ := ints_val rv _ v hP
    obtain ⟨h1, h2⟩ := argBest_lt (fun i => ns.getD i 0) (its.toArray.size - 1)
    refine ⟨.int _, H, I.kept hk', ⟨_, rfl⟩, q1 _ ?_ fun y hy => ?_⟩
    · have il : argBest (fun i j => decide (ns.getD i 0 < ns.getD j 0)) (its.toArray.size - 1) < ns.length := by omega
      rw [List.getD_eq_getElem?_getD, List.getElem?_eq_getElem il]
      exact List.getElem_mem _
    · obtain ⟨j, hj⟩ := List.getElem?_of_mem hy
      have jl := (List.getElem?_eq_some_iff.mp hj).1
      have := h2 j (by omega)
      rw [show ns.getD j 0 = y by rw [List.getD_eq_getElem?_getD, hj]; rfl] at this
      exact this
end
/-! ### max of a tuple of numbers, with a default -/
def rMaxDfT (K : PySem.W.Frag) : List V → List V → Hp → VK → Prop := fun xs zs H Q => ∃ (a : Addr) (ns : List Int) (d : V), xs = [.ref a] ∧ zs = [d] ∧ SqT K H a (ns.map V.int) ∧ ∀ v, (ns = [] ∧ v = d ∨ ∃ m, m ∈ ns ∧ v = .int m ∧ ∀ y ∈ ns, y ≤ m) → Q v H
theorem cr_maxDfT {X : Cx} (K : PySem.W.Frag) (hk : X.K = K) (hc : X.calm = true) : CallRK X (.builtin "max") ["default"] (rMaxDfT K) := by
  subst hk
  intro pins s σ H xs zs us ws Q I r r2 h
  obtain ⟨a, ns, d, rfl, rfl, hs, q⟩ := h
  obtain ⟨its, rv, hl, _⟩ := I.tuple hs
  rw [Vals.ref1 r]
  obtain ⟨dv, rfl, rd⟩ := vals1 r2
  have hh := I.ok.hd hc
  have ln : its.length = ns.length := by rw [← rv.length, List.length_map]
  show wpAny _ _ (call (.builtin "max") [.ref a] [(Str.ofString "default", dv)]) _ _ s
  refine PySem.call_max_walkD (PySem.W.iter_tupleW (A := X.A.in1) hh hl fun s₂ e W st hfp hw hk => ?_)
  refine ⟨_, _, _, _, _, _, _, s.heap, (fun i j => decide (ns.getD i 0 > ns.getD j 0)), rfl, W, st, hfp, hw, hk, fun hz s' m => ?_, fun hp => ⟨fun i j vi vj s3 Q3 E3 _ p1 p2 q3 => ?_, fun v s' hP m => ?_⟩⟩
  · obtain ⟨h', tk, rfl, hk'⟩ := PySem.W.moved_old e rfl m
    refine ⟨d, H, I.kept hk', rd, q _ (.inl ⟨?_, rfl⟩)⟩
    exact List.eq_nil_of_length_eq_zero (by have : its.toArray.size = 0 := hz; rw [List.size_toArray] at this; omega)
  · exact (CmpOf.ints_gt (fun i => ns.getD i 0) (ints_val rv)) i j vi vj s3 Q3 E3 p1 p2 q3
  · obtain ⟨h', tk, rfl, hk'⟩ := PySem.W.moved_old e rfl m
    have hp : 0 < its.length := by have : 0 < its.toArray.size := hp; rw [List.size_toArray] at this; exact this
    have hsz : its.toArray.size = its.length := List.size_toArray
    obtain ⟨t, rfl⟩ := ints_val rv _ v hP
    obtain ⟨h1, h2⟩ := argBest_gt (fun i => ns.getD i 0) (its.toArray.size - 1)
    refine ⟨.int _, H, I.kept hk', ⟨_, rfl⟩, q _ (.inr ⟨_, ?_, rfl, fun y hy => ?_⟩)⟩
    · have il : argBest (fun i j => decide (ns.getD i 0 > ns.getD j 0)) (its.toArray.size - 1) < ns.length := by omega
      rw [List.getD_eq_getElem?_getD, List.getElem?_eq_getElem il]
      exact List.getElem_mem _
    · obtain ⟨j, hj⟩ := List.getElem?_of_mem hy
      have jl := (List.getElem?_eq_some_iff.mp hj).1
      have := h2 j (by omega)
      rw [show ns.getD j 0 = y by rw [List.getD_eq_getElem?_getD, hj]; rfl] at this
      exact this
/-! ### how many things a set of a tuple of numbers has -/
theorem nd_le : ∀ l D : List Int, l.Nodup → (∀ x ∈ l, x ∈ D) → l.length ≤ D.length
  | [], _, _, _ => Nat.zero_le _
  | x :: l, D, h, sub => by
    obtain ⟨h1, h2⟩ := List.nodup_cons.mp h
    have mx := sub x (List.mem_cons_self ..)
    have ih := nd_le l (D.erase x) h2 fun y hy => (List.mem_erase_of_ne (fun e => h1 (by rw [← e]; exact hy))).mpr (sub y (List.mem_cons_of_mem _ hy))
    rw [List.length_erase_of_mem mx] at ih
    have := List.length_pos_of_mem mx
    rw [List.length_cons]
    omega
def tLenSetT (K : PySem.W.Frag) (ta : TE) : TE := fun σ H Q => ta σ H fun x H1 => ∃ (l : Addr) (ns : List Int), x = .ref l ∧ SqT K H1 l (ns.map V.int) ∧ ns.length ≤ 400 ∧ Q (.int (((uniq ns).length : Nat) : Int)) H1
theorem pe_lenSetT (K : PySem.W.Frag) {X : Cx} (same : X.K = K) {a : Expr} {ta : TE} {p p2 q pos : Pos} (hg : Gl X "len") (hm : X.mg "len" = none) (hg2 : Gl X "set") (hm2 : X.mg "set" = none) (ha : PE X a ta) (hc : X.calm = true := by rfl)
    (na : starEach [a] X.env = (false, eval a X.env) :: starEach [] X.env := by rfl) : PE X (.Call (.Name "len" p) [.Call (.Name "set" p2) [a] [] q] [] pos) (tLenSetT K ta) := by
  subst same
  constructor
  intro pins s σ H Q I h
  refine Call_
    (ld_blt I hg hm boot_len ?_)
  refine PyProof.Rows.callWith_builtin1
    (PyProof.Rows.args_cons ?_ rfl) rfl rfl
  refine Call_
    (ld_blt I hg2 hm2 boot_set ?_)
  refine PyProof.Rows.callWith_type1
    (PyProof.Rows.args_cons (thn (ha.run pins s σ H _ I h) ?_) na) na rfl
  rintro v s1 ⟨x, H1, I1, r1, l, ns, rfl, hq, hl, q1⟩
  refine PyProof.Rows.args_nil ?_
  cases r1
  have ⟨its, r, pl, _⟩ := I1.tuple hq
  refine call_set_tupI ns (I1.ok.hd hc) pl (by simpa using ints_of_valsG r) (by unfold scanBound; omega) fun h' tk c hS hle hk => ?_
  refine PyProof.Rows.args_nil ?_
  obtain ⟨o, es, ep, t, ho, hex, hd, _, nd, mem, _, hf, hn, _⟩ := hS
  have I2 : Inv X pins σ H1 { s1 with heap := h', toks := tk } := I1.kept hk
  have lk : (es.toList.map keyOf).length = es.size := by rw [List.length_map, Array.length_toList]
  have e1 := nd_le _ (uniq ns) nd fun x hx => (mem_uniq ns x).mpr (of_decide_eq_true ((mem x).mpr hx))
  have e2 := nd_le _ (es.toList.map keyOf) (uniq_nodup ns) fun x hx => (mem x).mp (decide_eq_true ((mem_uniq ns x).mp hx))
  have e : es.size = (uniq ns).length := by omega
  have lu := uniq_len ns
  refine call_len_set ho hex hd hf (by rw [e]; omega) ?_
  exact ⟨.int (((uniq ns).length : Nat) : Int), H1, I2.tok _, ⟨_, by rw [e]⟩, q1⟩
section
variable {P : Program} {w : World} {K : PySem.W.Frag} {mg : Str → Option Value} {base : Heap}
theorem flat_len {f : Nat → List BR} (hf : ∀ k, (f k).length ≤ 20) : ∀ m, ((List.range m).flatMap f).length ≤ m * 20
  | 0 => Nat.le_refl _
  | m + 1 => by
    rw [List.range_succ, List.flatMap_append, List.length_append, List.flatMap_singleton]
    have := flat_len hf m
    have := hf m
    omega
theorem joinB1_len {bs : List BR} {t : List Nat} (h : bs.length ≤ 20) (k : Nat) : (joinB1 bs t k).length ≤ 20 := by
  unfold joinB1 comeB
  rw [List.length_map]
  exact Nat.le_trans (List.length_filter_le ..) h
theorem max_kinds {t : List Nat} (c : Canon t) {m : Int} (hm : m ∈ t.map fun n => ((n : Nat) : Int)) (hall : ∀ y ∈ t.map (fun n => ((n : Nat) : Int)), y ≤ m) : m + 1 = (((uniq t).length : Nat) : Int) := by
  obtain ⟨x, hx, rfl⟩ := List.mem_map.mp hm
  have lt := (canon_all c x).mp hx
  have hl : (uniq t).length - 1 ∈ t := (canon_all c _).mpr (by omega)
  have := hall _ (List.mem_map.mpr ⟨_, hl, rfl⟩)
  omega
theorem alk_lt {t : List Nat} {k i : Nat} (h : i ∈ alk t k) : i < t.length := List.mem_range.mp (List.mem_filter.mp h).1
def sp_joined_alike (K : PySem.W.Frag) : Sp := fun vs H Q _ => ∃ (r : Addr) (hs : List HR) (bs : List BR), vs = [.ref r] ∧ RoomAt H r hs bs ∧ RoomOk hs bs ∧
  ∀ (r' : Addr) (t : List Nat) (H' : Hp), KindsOf hs bs t → RoomAt H' r' (joinH hs t) (joinB bs t) → Same H H' → Q (.ref r') H'
theorem ok_joined_alike {f : Addr} {fd : FuncData} (F : Fun K "joined_alike" "joined_alike" s_joined_alike f fd) (T : Top w K mg) : FnOk P w K mg base CX0 4 f fd ["room"] (sp_joined_alike K) := by
  obtain ⟨f_kinds, fd_kinds, F_kinds, b_kinds, m_kinds⟩ := T.d_kinds
  have G_kinds := ok_kinds (P := P) (w := w) (base := base) F_kinds T
  obtain ⟨f_comings, fd_comings, F_comings, b_comings, m_comings⟩ := T.d_comings
  have G_comings := ok_comings (P := P) (w := w) (base := base) F_comings T
  refine F.ok sc_joined_alike (fun vs H Q E h => ?_) (fun cdv A outer s H vs Q E hr h => ?_)
  · obtain ⟨r, hs, bs, rfl, _⟩ := h
    rfl
  obtain ⟨r, hs, bs, rfl, hR, ok, q⟩ := h
  have lh := ok.hands
  have lb := ok.many
  refine ⟨_, (pss_cons (ps_set (i := 1) sc_joined_alike.nd rfl (Or.inl rfl) (pe_call G_kinds (hr.mono (by decide)) (by rfl) m_kinds F_kinds.kp b_kinds .nil pass0 (pa_cons (pv 0) pa_nil)))
      (pss_cons (ps_set (i := 2) sc_joined_alike.nd rfl (Or.inl rfl) (pe_lst pa_nil))
      (pss_cons (ps_set (i := 3) sc_joined_alike.nd rfl (Or.inl rfl) (pe_lst pa_nil))
      (pss_cons (ps_for PassesOwn.never rfl (pi_range1 (by rfl) T.m_range (pa_cons (pe_op op_add (pe_callBK (cr_maxDfT K rfl rfl) (by rfl) T.m_max (by decide +kernel) (pa_cons (pv 1) pa_nil) (pk_cons (pe_un un_neg pe_int) pk_nil)) pe_int) pa_nil)) (pg_name (i := 4) sc_joined_alike.nd rfl (Or.inr rfl))
        (pss_cons (ps_setLc (i := 5) (own := [("hand", 6), ("own", 7)]) (g := gTup K 2 (gCons (gName 6) (gCons (gName 7) gNil))) (by rfl) sc_joined_alike.nd rfl rfl (sw_true rfl rfl rfl (by decide +kernel)) (pi_enumT K rfl (by rfl) T.m_enumerate (pa_cons (pv 1) pa_nil)) (blkOk_by (own := [("hand", 6), ("own", 7)]) (N := N_joined_alike) (sc := defScope s_joined_alike) (by decide +kernel)) (fun _ _ _ _ _ => (pg_tupK K rfl rfl (pgs_cons (pg_name (i := 6) sc_joined_alike.nd rfl (Or.inl rfl)) (pgs_cons (pg_name (i := 7) sc_joined_alike.nd rfl (Or.inl rfl)) pgs_nil)))) (fun _ _ _ _ _ => pts_one (pt_cmpR op_eq (pv 7) (pv 4) (nomark _))) (fun _ _ _ _ _ => (pv 6)))
      (pss_cons (ps_expr (pe_bmK K rfl PySem.F.plainAttrs_list PySem.F.slot_list_append PySem.F.type_list_append mt_append (pv 2) (pa_cons (pe_tup (pa_cons (pe_ix (ix_tupK K rfl) (pe_ix (ix_tupK K rfl) (pe_ix (ix_tupK K rfl) (pv 0) pe_int (fun _ _ => rfl)) (pe_ix (ix_listK K rfl) (pv 5) pe_int (fun _ _ => rfl)) (fun _ _ => rfl)) pe_int (fun _ _ => rfl)) (pa_cons (pe_callB (cr_minKK K rfl rfl) (by rfl) T.m_min (by decide +kernel) (pa_cons (pe_lc (own := [("hand", 6)]) (g := gName 6) (tt := tYes) (by rfl) sc_joined_alike.nd (pi_listK K rfl (pv 5)) (blkOk_by (own := [("hand", 6)]) (N := N_joined_alike) (sc := defScope s_joined_alike) (by decide +kernel)) (fun _ _ _ _ _ => (pg_name (i := 6) sc_joined_alike.nd rfl (Or.inl rfl))) (fun _ _ _ _ _ => pts_nil) (fun _ _ _ _ _ => (pe_ix (ix_tupK K rfl) (pe_ix (ix_tupK K rfl) (pe_ix (ix_tupK K rfl) (pv 0) pe_int (fun _ _ => rfl)) (pv 6) (fun _ _ => rfl)) pe_int (fun _ _ => rfl)))) pa_nil)) pa_nil))) pa_nil)))
      (pss_one (ps_for PassesOwn.never rfl (pi_listK K rfl (pe_call G_comings (hr.mono (by decide)) (by rfl) m_comings F_comings.kp b_comings .nil pass0 (pa_cons (pv 0) (pa_cons (pe_ix (ix_listK K rfl) (pv 5) pe_int (fun _ _ => rfl)) pa_nil)))) (pg_name (i := 8) sc_joined_alike.nd rfl (Or.inl rfl))
        (pss_cons (ps_asg (pe_ix (ix_tupK K rfl) (pe_ix (ix_tupK K rfl) (pv 0) pe_int (fun _ _ => rfl)) (pv 8) (fun _ _ => rfl)) (pg_tupK K rfl rfl (pgs_cons (pg_name (i := 9) sc_joined_alike.nd rfl (Or.inl rfl)) (pgs_cons (pg_name (i := 10) sc_joined_alike.nd rfl (Or.inl rfl)) (pgs_cons (pg_name (i := 11) sc_joined_alike.nd rfl (Or.inl rfl)) pgs_nil)))))
      (pss_one (ps_expr (pe_bmK K rfl PySem.F.plainAttrs_list PySem.F.slot_list_append PySem.F.type_list_append mt_append (pv 3) (pa_cons (pe_tup (pa_cons (pe_ix (ix_tupK K rfl) (pv 1) (pv 9) (fun _ _ => rfl)) (pa_cons (pv 4) (pa_cons (pv 11) pa_nil)))) pa_nil))))))))))
      (pss_one (ps_ret (pe_tup (pa_cons (pe_callTy (call_tuple_ofK K rfl) (by rfl) T.m_tuple (by decide +kernel) (pa_cons (pv 2) pa_nil)) (pa_cons (pe_callTy (call_tuple_ofK K rfl) (by rfl) T.m_tuple (by decide +kernel) (pa_cons (pv 3) pa_nil)) pa_nil))))))))), ?_⟩
  refine ⟨_, rfl, r, hs, bs, rfl, hR, ok.good, by omega, fun b hb => (ok.ends b hb).1, by omega, fun p t H1 kd np hp s1 => ?_⟩
  refine ⟨(by show 0 ≤ sizeLine; decide), fun hl nhl => ⟨(by show 0 ≤ sizeLine; decide), fun bl nbl => ?_⟩⟩
  have tl := kd.len
  let Lv : Nat → L2.St → Hp → Prop := fun k σ H5 => ∃ (hv bv : List V) (x4 x5 x6 x7 x8 x9 x10 x11 : Option V), σ = [some (.ref r), some (.ref p), some (.ref hl), some (.ref bl), x4, x5, x6, x7, x8, x9, x10, x11] ∧ H5 hl = some (.lst hv) ∧ H5 bl = some (.lst bv) ∧ All2 (HandAt H5) hv ((List.range k).map (joinH1 hs t)) ∧ All2 (BeltAt H5) bv ((List.range k).flatMap (joinB1 bs t)) ∧ H5 p = some (.tup (t.map nV)) ∧ Same H H5
  have n1 : hl ≠ bl := fun e => by rw [e] at nbl; rw [upd_same] at nbl; cases nbl
  have s3 : Same H (upd (upd H1 hl (.lst [])) bl (.lst [])) := fun a o e => same_new nbl _ _ (same_new nhl _ _ (s1 _ _ e))
  have hp3 := same_new (o := .lst ([] : List V)) nbl _ _ (same_new (o := .lst ([] : List V)) nhl _ _ hp)
  refine ⟨_, rfl, 1, rfl, p, t.map (fun n => ((n : Nat) : Int)), .int (-(1 : Int)), rfl, rfl, SqT.of (by rw [List.map_map]; exact hp3), fun v hv => ?_⟩
  obtain ⟨m, rfl, me⟩ : ∃ m : Int, v = .int m ∧ m + 1 = (((uniq t).length : Nat) : Int) := by
    rcases hv with ⟨z, rfl⟩ | ⟨m, hm, rfl, hall⟩
    · have : t = [] := List.map_eq_nil_iff.mp z
      exact ⟨_, rfl, by rw [this]; rfl⟩
    · exact ⟨m, rfl, max_kinds kd.canon hm hall⟩
  have ul := uniq_len t
  have nat_at : ∀ {j : Nat}, j < t.length → (t.map nV)[j]? = some (nV (Mine.kd t j)) := fun {j} h => by
    rw [List.getElem?_map, at_kd h]; rfl
  refine ⟨_, _, rfl, rfl, _, congrArg (fun z => [V.int z]) me, by omega, by omega, for_range (lo := 0) (n := (uniq t).length) Lv ⟨[], [], _, _, _, _, _, _, _, _, rfl, by rw [upd_ne n1]; exact upd_same, upd_same, .nil, .nil, hp3, s3⟩ ?_ ?_⟩
  · rintro k σ H5 hk ⟨hv, bv, x4, x5, x6, x7, x8, x9, x10, x11, rfl, hH, hB, alh, alb, hp5, s5⟩
    obtain ⟨rp1, rp2, rp3, rr, rp4⟩ := rep_of ((canon_all kd.canon k).mpr hk)
    obtain ⟨ha, ba, hv0, bv0, er, eh, eb, alh0, alb0⟩ := hR.ex
    rw [Int.zero_add]
    have nH : ∀ {D : Addr}, H5 D = none → D ≠ hl ∧ D ≠ bl ∧ D ≠ p := fun {D} z => ⟨fun e => (by rw [e, hH] at z; cases z), fun e => (by rw [e, hB] at z; cases z), fun e => (by rw [e, hp5] at z; cases z)⟩
    refine ⟨_, rfl, p, t.map nV, rfl, SqT.of hp5, fun D nD => lc_it (J := IteT K p (t.map nV)) (n := (t.map nV).length) (fun i H6 => H6 D = some (.lst (((List.range i).filter fun j => decide (t[j]? = some k)).map nV)) ∧ Same H5 H6) ⟨upd_same, same_new nD⟩ ?_ ?_ ?_ ?_⟩
    · rintro i H6 hi ⟨hD, s6⟩
      exact ⟨SqT.of (s6 _ _ hp5), hi⟩
    · rintro H6 ⟨hD, s6⟩
      exact ⟨SqT.of (s6 _ _ hp5), rfl⟩
    · rintro i x H6 H7 hi ⟨hD, s6⟩ ⟨u, y, rfl, nu, rfl, ey⟩
      have il : i < t.length := by rw [List.length_map] at hi; exact hi
      rw [nat_at il] at ey
      obtain rfl := Option.some.inj ey
      have s7 := s6.trans (same_new (o := .tup [V.int ((i : Nat) : Int), nV (Mine.kd t i)]) nu)
      have hD7 := same_new (o := .tup [V.int ((i : Nat) : Int), nV (Mine.kd t i)]) nu _ _ hD
      have few := filt_len (p := fun j => decide (t[j]? = some k)) i
      refine ⟨u, _, rfl, SqT.of upd_same, rfl, _, _, rfl, _, _, rfl, rfl, rfl, _, rfl, _, rfl, rfl, _, rfl, if_bl (fun c => ?_) (fun c => ?_)⟩
      · have c : Mine.kd t i = k := by have := V.int.inj (of_decide_eq_true c); omega
        refine ⟨_, rfl, _, hD7, by rw [List.length_map]; exact small1000 (by omega), ?_, Same.own s7 nD⟩
        rw [upd_same, filt_succ, if_pos (decide_eq_true (by rw [at_kd il, c])), List.map_append]
        rfl
      · have c : ¬ Mine.kd t i = k := fun z => of_decide_eq_false c (by rw [z])
        refine ⟨?_, s7⟩
        rw [filt_succ, if_neg fun z => c (by have := of_decide_eq_true z; rw [at_kd il] at this; exact Option.some.inj this), List.append_nil]
        exact hD7
    rintro H6 ⟨hD, s6⟩
    rw [List.length_map] at hD
    replace hD : H6 D = some (.lst ((alk t k).map nV)) := hD
    obtain ⟨gv, egv, t2, rr2, rfl, e1, e2⟩ := alh0.get (List.getElem?_eq_getElem (l := hs) (i := rep t k) (by omega))
    have s06 : Same H H6 := s5.trans s6
    have al0 : atI ((alk t k).map nV) 0 = some (nV (rep t k)) := by rw [rp4]; exact atI_nat (j := 0) rfl
    have hH6 := s6 _ _ hH
    refine ⟨_, rfl, .inl ⟨rfl, _, SqL.of hH6⟩, _, rfl, r, _, _, _, rfl, rfl, SqT.of (s06 _ _ er), atI_nat (j := 0) rfl, _, rfl, D, _, _, _, rfl, rfl, SqL.of hD, al0, ha, _, _, _, rfl, rfl, SqT.of (s06 _ _ eh), atI_nat egv, t2, _, _, _, rfl, rfl, SqT.of (s06 _ _ e1), atI_nat (j := 0) rfl, ?_⟩
    refine ⟨_, rfl, D, rfl, ⟨_, SqL.of hD⟩, fun E nE => lc_list (K := K) (a := D) (xs := (alk t k).map nV) (fun i H7 => H7 E = some (.lst (((alk t k).take i).map fun j => V.int (gH hs j).mom)) ∧ Same H6 H7) ⟨upd_same, same_new nE⟩ (fun i H7 _ ⟨_, s7⟩ => SqL.of (s7 _ _ hD)) ?_ ?_⟩
    · rintro i v H7 hx ⟨hE, s7⟩
      rw [List.getElem?_map] at hx
      cases hj : (alk t k)[i]? with
      | none => rw [hj] at hx; cases hx
      | some j =>
        rw [hj] at hx
        obtain rfl : nV j = v := Option.some.inj hx
        have jl := alk_lt (List.mem_of_getElem? hj)
        have ej := List.getElem?_eq_getElem (l := hs) (i := j) (by omega)
        obtain ⟨gv3, egv3, t3, rr3, rfl, e3, e4⟩ := alh0.get ej
        have s07 : Same H H7 := s06.trans s7
        have il := (List.getElem?_eq_some_iff.mp hj).1
        have al2 : (alk t k).length ≤ t.length := Nat.le_trans (List.length_filter_le ..) (by rw [List.length_range]; exact Nat.le_refl _)
        refine ⟨rfl, yes_in ⟨_, rfl, r, _, _, _, rfl, rfl, SqT.of (s07 _ _ er), atI_nat (j := 0) rfl, _, rfl, ha, _, _, _, rfl, rfl, SqT.of (s07 _ _ eh), atI_nat egv3, t3, _, _, _, rfl, rfl, SqT.of (s07 _ _ e3), atI_nat (j := 1) rfl, _, hE, by rw [List.length_map, List.length_take]; exact small1000 (by omega), ?_, Same.own s7 nE⟩⟩
        rw [upd_same, List.take_add_one, hj, List.map_append, ← gH_at ej]
        rfl
    rintro H7 ⟨hE, s7⟩
    rw [List.length_map, List.take_length] at hE
    have s07 : Same H H7 := s06.trans s7
    have s57 : Same H5 H7 := s6.trans s7
    refine ⟨E, (alk t k).map fun j => (gH hs j).mom, rfl, SqL.of (by rw [List.map_map]; exact hE), by rw [List.length_map, rp4]; exact Nat.succ_pos _, fun m hm hall => ?_⟩
    obtain rfl : m = (joinH1 hs t k).mom := Int.le_antisymm (hall _ (minL_mem (List.ne_nil_of_mem hm))) (minL_le _ hm)
    have hHn := same_none s1 nhl
    have nbl1 : H1 bl = none := by rw [← nbl, upd_ne (fun e => by rw [e] at nbl; rw [upd_same] at nbl; cases nbl)]
    have hBn := same_none s1 nbl1
    refine ⟨(by show 2 ≤ sizeLine; decide), fun q1 nq1 => ?_⟩
    have s8 := same_new (o := .tup [V.ref rr2, V.int (joinH1 hs t k).mom]) nq1
    have hH7 := s57 _ _ hH
    have hH8 := s8 _ _ hH7
    have lhv := alh.length
    rw [List.length_map, List.length_range] at lhv
    have k8 : TK H5 (upd (upd H7 q1 (.tup [V.ref rr2, V.int (joinH1 hs t k).mom])) hl (.lst (hv ++ [V.ref q1]))) := ((TK.same s57).trans (TK.same s8)).trans (TK.lst hH8)
    have s09 : Same H (upd (upd H7 q1 (.tup [V.ref rr2, V.int (joinH1 hs t k).mom])) hl (.lst (hv ++ [V.ref q1]))) := Same.own (fun a o e => s8 _ _ (s07 _ _ e)) hHn
    have nD5 := nH (same_none (same_new (o := .lst ([] : List V)) nD |> fun _ => (fun _ _ e => e : Same H5 H5)) nD)
    have hD7 : H7 D = some (.lst ((alk t k).map nV)) := s7 _ _ hD
    have hD9 : upd (upd H7 q1 (.tup [V.ref rr2, V.int (joinH1 hs t k).mom])) hl (.lst (hv ++ [V.ref q1])) D = some (.lst ((alk t k).map nV)) := by rw [upd_ne nD5.1]; exact s8 _ _ hD7
    have hB9 : upd (upd H7 q1 (.tup [V.ref rr2, V.int (joinH1 hs t k).mom])) hl (.lst (hv ++ [V.ref q1])) bl = some (.lst bv) := by rw [upd_ne (Ne.symm n1)]; exact s8 _ _ (s57 _ _ hB)
    have hH9 : upd (upd H7 q1 (.tup [V.ref rr2, V.int (joinH1 hs t k).mom])) hl (.lst (hv ++ [V.ref q1])) hl = some (.lst (hv ++ [V.ref q1])) := upd_same
    have hp9 := k8 _ _ hp5
    have alh9 : All2 (HandAt (upd (upd H7 q1 (.tup [V.ref rr2, V.int (joinH1 hs t k).mom])) hl (.lst (hv ++ [V.ref q1])))) (hv ++ [V.ref q1]) ((List.range (k + 1)).map (joinH1 hs t)) := by
      rw [List.range_succ, List.map_append]
      refine (alh.imp fun _ _ z => z.keep k8).snoc ⟨q1, rr2, rfl, TK.lst hH8 _ _ upd_same, ?_⟩
      have := s09 _ _ e2
      rw [this]
      unfold ruleL joinH1
      rw [gH_at (List.getElem?_eq_getElem (l := hs) (i := rep t k) (by omega))]
    have alb9 := alb.imp fun _ _ z => z.keep k8
    refine ⟨hl, hv, _, rfl, rfl, hH8, small1000 (by omega), ?_⟩
    generalize upd (upd H7 q1 (.tup [V.ref rr2, V.int (joinH1 hs t k).mom])) hl (.lst (hv ++ [V.ref q1])) = H9 at *
    refine ⟨_, rfl, _, rfl, D, _, _, _, rfl, rfl, SqL.of hD9, al0, r, hs, bs, rep t k, rfl, hR.keep (TK.same s09), by omega, fun c Hc nc hc sc => ⟨c, rfl, ⟨_, SqL.of hc⟩, for_list (K := K) (a := c) (xs := (comingN bs (rep t k)).map nV) (fun i σ H10 => ∃ (bv2 : List V) (y8 y9 y10 y11 : Option V), σ = [some (.ref r), some (.ref p), some (.ref hl), some (.ref bl), some (nV k), some (.ref D), x6, x7, y8, y9, y10, y11] ∧ H10 hl = some (.lst (hv ++ [V.ref q1])) ∧ H10 bl = some (.lst bv2) ∧ All2 (HandAt H10) (hv ++ [V.ref q1]) ((List.range (k + 1)).map (joinH1 hs t)) ∧ All2 (BeltAt H10) bv2 ((List.range k).flatMap (joinB1 bs t) ++ (joinB1 bs t k).take i) ∧ H10 p = some (.tup (t.map nV)) ∧ H10 c = some (.lst ((comingN bs (rep t k)).map nV)) ∧ Same H H10)
      ⟨bv, _, _, _, _, rfl, sc _ _ hH9, sc _ _ hB9, alh9.imp fun _ _ z => z.keep (TK.same sc), by rw [List.take_zero, List.append_nil]; exact alb9.imp fun _ _ z => z.keep (TK.same sc), sc _ _ hp9, hc, s09.trans sc⟩ (fun i σ H10 _ ⟨_, _, _, _, _, _, _, _, _, _, _, h, _⟩ => SqL.of h) ?_ ?_⟩⟩
    · rintro i v σ H10 hx ⟨bv2, y8, y9, y10, y11, rfl, hH10, hB10, alh10, alb10, hp10, hc10, s10⟩
      have cl := come_list bs (rep t k)
      rw [List.getElem?_map] at hx
      cases hj : (comingN bs (rep t k))[i]? with
      | none => rw [hj] at hx; cases hx
      | some j =>
        rw [hj] at hx
        obtain rfl : nV j = v := Option.some.inj hx
        obtain ⟨b, eb1, eb2⟩ := cl.getL hj
        obtain ⟨bvx, ebx, tb, g, rfl, e5, e6⟩ := alb0.get eb2
        have bl_ := (ok.ends b (List.mem_of_getElem? eb2)).1
        have lbv := alb10.length
        rw [List.length_append, List.length_take] at lbv
        have fl := flat_len (fun k => joinB1_len (t := t) lb k) k
        have jl := joinB1_len (t := t) lb k
        refine ⟨_, rfl, r, _, _, _, rfl, rfl, SqT.of (s10 _ _ er), atI_nat (j := 1) rfl, _, rfl, ba, _, _, _, rfl, rfl, SqT.of (s10 _ _ eb), atI_nat ebx, tb, _, rfl, SqT.of (s10 _ _ e5), rfl, _, _, rfl, _, _, rfl, _, _, rfl, rfl, _, rfl, .inl ⟨rfl, _, SqL.of hB10⟩, _, rfl, _, rfl, p, _, _, _, rfl, rfl, SqT.of hp10, atI_nat (nat_at (by omega)), _, rfl, _, rfl, (by show 3 ≤ sizeLine; decide), fun q2 nq2 => ?_⟩
        have s11 := same_new (o := .tup [nV (Mine.kd t b.one), nV k, V.ref g]) nq2
        have hB11 := s11 _ _ hB10
        have k11 : TK H10 _ := (TK.same s11).trans (TK.lst (ys := bv2 ++ [V.ref q2]) hB11)
        refine ⟨bl, bv2, _, rfl, rfl, hB11, small1000 (by omega), bv2 ++ [V.ref q2], _, _, _, _, rfl, by rw [upd_ne n1]; exact s11 _ _ hH10, upd_same, alh10.imp fun _ _ z => z.keep k11, ?_, k11 _ _ hp10, ?_, Same.own (fun a o e => s11 _ _ (s10 _ _ e)) hBn⟩
        · rw [show (joinB1 bs t k).take (i + 1) = (joinB1 bs t k).take i ++ [⟨Mine.kd t b.one, k, b.th⟩] by
            rw [List.take_add_one]
            unfold joinB1
            rw [List.getElem?_map, eb1]
            rfl, ← List.append_assoc]
          exact (alb10.imp fun _ _ z => z.keep k11).snoc ⟨q2, g, rfl, TK.lst hB11 _ _ upd_same, k11 _ _ (s10 _ _ e6)⟩
        · rw [upd_ne (fun e => by rw [e, hB9] at nc; cases nc)]
          exact s11 _ _ hc10
    · rintro σ H10 ⟨bv2, y8, y9, y10, y11, rfl, hH10, hB10, alh10, alb10, hp10, hc10, s10⟩
      refine ⟨_, _, _, _, _, _, _, _, _, _, rfl, hH10, hB10, alh10, ?_, hp10, s10⟩
      rw [List.length_map, (come_list bs (rep t k)).length] at alb10
      rw [show (joinB1 bs t k).take (comeB bs (rep t k)).length = joinB1 bs t k from List.take_of_length_le (by unfold joinB1; rw [List.length_map]; exact Nat.le_refl _)] at alb10
      rw [List.range_succ, List.flatMap_append, List.flatMap_singleton]
      exact alb10
  · rintro σ H5 ⟨hv, bv, x4, x5, x6, x7, x8, x9, x10, x11, rfl, hH, hB, alh, alb, hp5, s5⟩
    refine ⟨_, rfl, hl, hv, rfl, .inl ⟨SqL.of hH, fun h1 nh1 => ?_⟩⟩
    have s6 := same_new (o := .tup hv) nh1
    refine ⟨_, rfl, bl, bv, rfl, .inl ⟨SqL.of (s6 _ _ hB), fun h2 nh2 => ?_⟩⟩
    have s7 := s6.trans (same_new (o := .tup bv) nh2)
    refine ⟨(by show 2 ≤ sizeLine; decide), fun r' nr' => ?_⟩
    have s8 := same_new (o := .tup [V.ref h1, V.ref h2]) nr'
    have k8 := (TK.same s7).trans (TK.same s8)
    exact q r' t _ kd ⟨h1, h2, hv, bv, upd_same, s8 _ _ (same_new (o := .tup bv) nh2 _ _ upd_same), s8 _ _ upd_same, alh.imp fun _ _ z => z.keep k8, alb.imp fun _ _ z => z.keep k8⟩ fun a o e => s8 _ _ (s7 _ _ (s5 _ _ e))
end
/-! ### all(..), any(..) over anything that can be walked, whatever a def of ours does in the element -/
section
open PySem.Spec GxR GenW
/-- the table's growth, when the generator's code object was got -/
structure GotC (P : Addr) (ps : Array Value) (z z' : Shared) : Prop where
  same : z' = { z with heap := z'.heap, toks := z'.toks }
  ext : Heap.ExtBut P z.heap z'.heap
  tab : ∃ more, z'.heap.get? P = some { cls := .none, data := .fields (ps ++ more) } ∧ TriplesOk (ps ++ more).toList
theorem code_gotC {prog : Program} {w : World} {A : Around} {E : Value → Shared → Prop} {env : Env} {gpos : Pos} {nm : Str} {scope : Scope} {c P : Addr} {ps : Array Value} {z : Shared}
    (hcode : env.code = .ref c) (cd : PySem.W.CodeHd z.heap c P) (hP : z.heap.get? P = some { cls := .none, data := .fields ps }) (ht : TriplesOk ps.toList) :
    wpAny (model prog w) A (genexprCode env gpos nm scope) (fun _ z' => GotC P ps z z') E z := by
  cases among : codeAmong gpos ps.toList with
  | some cv => exact wpAny_genexprCode_hit hcode (cd.code hP ht) among ⟨rfl, .refl _ _, #[], by simpa using hP, by simpa using ht⟩
  | none =>
    refine wpAny_genexprCodeX hcode (cd.code hP ht) (cd.tab hP) among fun c' h' tk ext ge lt co _ tab _ => ?_
    obtain ⟨_, _, _, _, _, _, _, _, _, _, _, _, _, _, _, _, _, _, _, tr, _⟩ := co
    exact ⟨rfl, ext, _, tab.2, tr⟩
/-- the generator sleeps: others may have run generators, nothing else has changed -/
def Woke (s s' : Shared) : Prop := ∃ (g' : Array GenState) (tk : Nat), s' = { s with gens := g', toks := tk } ∧ AllBare g'
theorem Woke.trans {a b c : Shared} (h : Woke a b) (k : Woke b c) : Woke a c := by
  obtain ⟨g1, t1, rfl, _⟩ := h
  obtain ⟨g2, t2, rfl, b2⟩ := k
  exact ⟨g2, t2, rfl, b2⟩
theorem inv_woke {X : Cx} {pins : List (Addr × Obj)} {σ : L2.St} {H : Hp} {s s' : Shared} (I : Inv X pins σ H s) (k : Woke s s') : Inv X pins σ H s' := by
  obtain ⟨g', tk, rfl, b⟩ := k
  exact I.call (h' := s.heap) (d' := s.drawn) (ch := []) Un.refl I.hok b (fun _ z => nomatch z)
theorem bare_set {a : Array GenState} {g : Nat} {x : GenState} (h : AllBare a) (hx : x.bare = true) : AllBare (a.setIfInBounds g x) := fun y hy => by
  obtain ⟨i, hi, e⟩ := Array.mem_iff_getElem.mp hy
  rw [Array.getElem_setIfInBounds] at e
  · by_cases z : g = i
    · rw [if_pos z] at e
      rw [← e]; exact hx
    · rw [if_neg z] at e
      rw [← e]; exact h _ (Array.getElem_mem _)
  · rw [Array.size_setIfInBounds] at hi
    exact hi
/-- the context of a generator's frame: the objects at fp are its iterator's -/
abbrev gcx (X : Cx) (A' : Around) (N' : List Str) (s : Shared) (H : Hp) (cenv : Env) (fp : List Addr) (pn : List (Addr × Obj)) : Cx :=
  { X with A := A', N := N', s_0 := s, H_0 := H, env := cenv, outer := X.stack, stack := cenv :: X.stack, ex := fp, fn := fun _ => false, pn := pn, xe := fun _ _ => False }
/-- a generator's names: its own, and those that it takes from the def around it -/
structure GenN (X : Cx) (scope : Scope) (N' : List Str) (sg : L2.St → L2.St) : Prop where
  kind : scope.kind = .function
  co : scope.isCoroutine = false
  cell : ∀ y ∈ scope.names, y.2 ≠ .cell
  dot : scope.names.lookup (".0" : Str) = some NameKind.local
  free : ∀ y ∈ scope.names, y.2 = .free → X.env.scope.names.lookup y.1 = some .cell ∨ X.env.scope.names.lookup y.1 = some .free
  len : ∀ σ, (sg σ).length = N'.length
  took : ∀ σ (i : Nat) x v, N'[i]? = some x → (sg σ)[i]? = some (some v) → scope.names.lookup x = some .free ∧ ∃ j : Nat, X.N[j]? = some x ∧ σ[j]? = some (some v)
theorem gen_start {X : Cx} {pins : List (Addr × Obj)} {σ : L2.St} {H : Hp} {s : Shared} {scope : Scope} {N' : List Str} {sg : L2.St → L2.St} {A' : Around} {it : Value} {fp : List Addr} {code : Value} {h' : Heap} {go : Obj} {gens' : Array GenState} {tk : Nat}
    (I : Inv X pins σ H s) (S : GenN X scope N' sg) (hfp : ∀ b ∈ fp, FpOk X pins H b ∧ b < s.heap.objs.size)
    (hA : A'.frames = some (genEnv scope (cloFrom X.env.cells scope.names []) s.heap.objs.size code builtinsNs X.env :: X.stack)) (hh : A'.handled = none)
    (hn : h'.Ns s.heap.objs.size (fun y => if y = ".0" then some it else none)) (sb : Heap.SameBut s.heap.objs.size (s.heap.push { cls := .type "frame", data := .dict #[] }) h') (hd : ∀ v, go.data ≠ .cell v)
    (hpush : (h'.push go).get? h'.objs.size = some go) (bare : AllBare gens') :
    Inv (gcx X A' N' s H (genEnv scope (cloFrom X.env.cells scope.names []) s.heap.objs.size code builtinsNs X.env) fp [(h'.objs.size, go)]) [] (sg σ) H { s with gens := gens', toks := tk, heap := h'.push go } := by
  have sz : h'.objs.size = s.heap.objs.size + 1 := by rw [sb.1, Heap.size_push]
  have keep : ∀ b o, s.heap.get? b = some o → (h'.push go).get? b = some o := fun b o e => Heap.get?_push_of_some _ (sb.extBut b o (Nat.ne_of_lt (Heap.lt_size e)) (Heap.get?_push_of_some _ e))
  have has : ∀ y ∈ scope.names, y.2 = .free → ∃ c, X.env.cells.lookup y.1 = some c := fun y hy e => I.ok.has _ ((S.free y hy e).elim .inl .inr)
  have look : ∀ {x : Str} {c : Addr}, (cloFrom X.env.cells scope.names []).lookup x = some c → (x, NameKind.free) ∈ scope.names ∧ X.env.cells.lookup x = some c := fun {x c} e => by
    rcases cloFrom_mem (PySem.mem_of_lookup e) with z | ⟨z1, z2⟩
    · cases z
    · obtain ⟨c', e'⟩ := has _ z1 rfl
      rw [e'] at z2
      exact ⟨z1, by rw [e', z2]; rfl⟩
  have find : ∀ {x : Str}, scope.names.lookup x = some .free → ∃ c, (cloFrom X.env.cells scope.names []).lookup x = some c := fun {x} e => mem_lookup (cloFrom_has (PySem.mem_of_lookup e))
  have apart : ∀ b, s.heap.objs.size ≤ b → b ∉ frs X.stack := fun b hb m => by
    rcases List.mem_cons.mp (I.stkSub b m) with z | z
    · exact absurd (Nat.lt_of_lt_of_le I.lt (z ▸ hb)) (Nat.lt_irrefl _)
    · exact I.nofs hb z
  refine ⟨⟨I.ok.mod, S.kind, I.ok.glob, rfl, Nat.le_refl _, fun x y c h1 h2 => I.ok.inj x y c (look h1).2 (look h2).2, fun x hx => ?_, (fun x c h _ => nomatch h), fun _ => hh, hA, .inr ⟨rfl, rfl⟩, fun b hb => ⟨Nat.ne_of_lt (hfp b hb).2, fun x c e => (hfp b hb).1.2.2.2.2.1 x c (look e).2⟩, I.bs, Nat.le_trans I.ok.bsz I.sz, fun b o e hb => ?_, fun b hb m => ?_, I.stack, I.stkFree⟩,
    rfl, bare, Un.kept keep, ⟨_, hn.push _, fun i x v h1 h2 h3 => ?_⟩, fun x c e => ?_, I.hok.fresh (Nat.le_refl _), fun x c e => I.freeC x c (look e).2, fun p hp => ?_, I.hok.kept keep, S.len σ⟩
  · rcases hx with hx | hx
    · exact absurd rfl (S.cell _ (PySem.mem_of_lookup (show scope.names.lookup x = some .cell from hx)))
    · exact find hx
  · rcases (hfp b hb).1.2.2.2.1 with z | z
    · exact I.ok.noex b o e z
    · exact absurd (Nat.lt_of_lt_of_le (Heap.lt_size e) (Nat.le_trans I.ok.bsz z)) (Nat.lt_irrefl _)
  · rcases List.mem_cons.mp (I.stkSub b m) with z | z
    · exact (hfp b hb).1.2.1 z
    · exact (hfp b hb).1.2.2.1 z
  · obtain ⟨fr, j, e1, e2⟩ := S.took σ i x v h1 h2
    have kn := S.free _ (PySem.mem_of_lookup fr) rfl
    obtain ⟨m0, _, hl⟩ := I.loc
    obtain ⟨u, r, lk⟩ := hl j x v e1 e2 (kn.elim (fun z => .inr (.inl z)) (fun z => .inr (.inr z)))
    refine ⟨u, r, ?_⟩
    rcases lk with ⟨z, _⟩ | ⟨_, c, ec, ic⟩
    · have z : X.env.scope.names.lookup x = some .local := z
      rcases kn with k | k <;> rw [k] at z <;> cases z
    · obtain ⟨c', e'⟩ := find fr
      have e3 := (look e').2
      rw [ec] at e3
      obtain rfl := Option.some.inj e3
      obtain ⟨o, ho, hc⟩ := ic
      exact .inr ⟨.inr fr, _, e', o, keep _ _ ho, hc⟩
  · obtain ⟨v, o, ho, hc⟩ := I.cell x c (look e).2
    exact ⟨v, o, keep _ _ ho, hc⟩
  · have hp : p ∈ [(h'.objs.size, go)] ++ ([] : List (Addr × Obj)) := hp
    rw [List.append_nil, List.mem_singleton] at hp
    subst hp
    exact ⟨hpush, I.hok.fresh (by rw [sz]; exact Nat.le_succ _), by show h'.objs.size ≠ s.heap.objs.size; rw [sz]; exact Nat.succ_ne_self _, apart _ (by rw [sz]; exact Nat.le_succ _), hd⟩
end
section
open PySem.Spec GxR GenW
variable {X : Cx} {A2 : Around} {N' : List Str} {s0 : Shared} {H0 : Hp} {cenv : Env} {fp : List Addr} {pn : List (Addr × Obj)} {tg elt iter : Expr} {scope : Scope} {gpos : Pos} {it : Addr}
/-- the around of a generator's turn -/
abbrev genA (A2 : Around) (tg elt iter : Expr) (scope : Scope) (gpos : Pos) (it : Addr) (cenv : Env) : Around := A2.over (.compLoop (.GeneratorExp elt [⟨tg, iter, [], 0⟩] scope gpos) 0 (.ref it) .none cenv) []
/-- what a generator tells at its end -/
def genR (G : Cx) (sgσ : L2.St) (kp : Bool) (Q : Bool → Hp → Prop) : GenEnd := fun _ _ r s1 => r = .ok .next ∧ ∃ H, Inv G [] sgσ H s1 ∧ Q kp H
/-- what it hands out: a truth; the truth kp, and it may be woken again -/
def genY (G : Cx) (sgσ : L2.St) (kp : Bool) (Q : Bool → Hp → Prop) : Protocol := fun _ _ v s1 kap => ∃ b H, v = .bool b ∧ Inv G [] sgσ H s1 ∧ (b ≠ kp → Q b H) ∧ (b = kp → ∀ s2, Woke s1 s2 → kap (.send .none) s2)
theorem gen_loop {J : It} {tn : Nat → Heap → Prop} {g : TG} {te : TE} {sgσ : L2.St} {vs : List Nat} {kp : Bool} {Q : Bool → Hp → Prop} {W : Nat → Nat → Hp → Prop}
    (T : Turn X.prog X.w X.K tg J fp it tn) (hc : X.calm = true) (hco : cenv.scope.isCoroutine = false) (hpn : ∀ p ∈ pn, ∀ b ∈ fp, p.1 ≠ b)
    (pg : L2.PG (gcx X (genA A2 tg elt iter scope gpos it cenv) N' s0 H0 cenv fp pn) tg g) (pe : L2.PE (gcx X (genA A2 tg elt iter scope gpos it cenv) N' s0 H0 cenv fp pn) elt te)
    (turn : ∀ i m H, W i m H → (J.stop i H ∧ Q kp H) ∨ (J.go i H ∧ ∃ Nx : Hp → Prop, (∀ H', Nx H' → ∃ m', m' < m ∧ W (i + 1) m' H') ∧ ∀ x H', J.yld i H x H' → g x sgσ H' fun σ2 H2 => wipe σ2 vs = sgσ ∧ te σ2 H2 fun y H3 => ∃ b, y = .bl b ∧ (b ≠ kp → Q b H3) ∧ (b = kp → Nx H3))) :
    ∀ (n i m : Nat) (s₀ s : Shared) (H : Hp), m < n → Inv (gcx X (genA A2 tg elt iter scope gpos it cenv) N' s0 H0 cenv fp pn) [] sgσ H s → tn i s.heap → (∀ b ∈ fp, H b = none) → W i m H →
      Seg (model X.prog X.w) A2 (genR (gcx X (genA A2 tg elt iter scope gpos it cenv) N' s0 H0 cenv fp pn) sgσ kp Q) (genY (gcx X (genA A2 tg elt iter scope gpos it cenv) N' s0 H0 cenv fp pn) sgσ kp Q) n s₀
        (.compLoop (.GeneratorExp elt [⟨tg, iter, [], 0⟩] scope gpos) 0 (.ref it) .none cenv) ((model X.prog X.w).den (.compLoop (.GeneratorExp elt [⟨tg, iter, [], 0⟩] scope gpos) 0 (.ref it) .none cenv)) [] s := by
  have stat : ∀ {σ' : L2.St} {H' : Hp} {s' : Shared}, Inv (gcx X (genA A2 tg elt iter scope gpos it cenv) N' s0 H0 cenv fp pn) [] σ' H' s' → (∀ b ∈ fp, H' b = none) → ∀ b ∈ fp, FpOk (gcx X (genA A2 tg elt iter scope gpos it cenv) N' s0 H0 cenv fp pn) [] H' b := fun {σ' H' s'} I' hn b hb =>
    ⟨hn b hb, (I'.ok.exf b hb).1, I'.ok.exfs b hb, .inl hb, fun x c e => (I'.ok.exf b hb).2 x c e, fun p hp => hpn p (by simpa using hp) b hb⟩
  intro n
  induction n with
  | zero => intro i m s₀ s H h; exact absurd h (Nat.not_lt_zero _)
  | succ n ih =>
    intro i m s₀ s H hm I st nf w
    show Seg _ A2 _ _ _ s₀ _ ((compTurn (.GeneratorExp elt [⟨tg, iter, [], 0⟩] scope gpos) 0 (.ref it) .none cenv).onRaise (leaving cenv)) [] s
    rw [compTurn_gen, Sem.onRaise_eq_wrap]
    refine seg_bind_wrap (wpAny_standAt ?_)
    rcases turn i m H w with ⟨stop, q⟩ | ⟨go, Nx, hNx, step⟩
    · refine seg_bind_wrap (wpAny_mono (T.done (gcx X (genA A2 tg elt iter scope gpos it cenv) N' s0 H0 cenv fp pn) rfl rfl rfl hc i [] s _ H (fun _ _ => False) I (stat I nf) st stop) (fun r s6 ⟨hr, I6⟩ => ?_) fun _ _ z => z.elim)
      subst hr
      exact seg_end (.ok .next) ⟨rfl, H, I6, q⟩
    · refine seg_bind_wrap (wpAny_mono (T.item (gcx X (genA A2 tg elt iter scope gpos it cenv) N' s0 H0 cenv fp pn) rfl rfl rfl hc i [] s _ H (fun _ _ => False) I (stat I nf) st go) (fun r s6 ⟨u, hr, h6⟩ => ?_) fun _ _ z => z.elim)
      subst hr
      refine seg_bind_wrap (wpAny_mono h6 (fun _ s7 ⟨x, H7, I7, r7, y7, st7, n7⟩ => ?_) fun _ _ z => z.elim)
      have I7' := I7.pinned (stat I7 n7) (T.obj _ _ st7)
      refine seg_bind_wrap (wpAny_mono (pg.run _ s7 _ H7 x u _ I7' r7 (step x H7 y7)) (fun _ s8 ⟨σ8, H8, I8, hw8, q8⟩ => ?_) fun _ _ z => z.elim)
      refine seg_bind_wrap ?_
      rw [List.forIn_nil]
      refine wpAny_pure ?_
      simp only [if_true]
      have hy : ∀ v, yieldOut cenv v = yieldValue v := fun v => by simp only [yieldOut, hco, Bool.false_eq_true, if_false]
      simp only [hy]
      rw [Sem.bind_eq_wrap', Sem.bind_eq_wrap', Sem.wrap_wrap, Sem.wrap_wrap]
      refine seg_wrap (wpAny_mono (pe.run _ s8 σ8 H8 _ I8 q8) (fun z s9 ⟨yv, H9, I9, r9, b, ey, no, yes⟩ => ?_) fun _ _ z => z.elim)
      subst ey
      obtain rfl : z = .bool b := r9
      have pin' : ∀ b ∈ fp, ∀ o, s7.heap.get? b = some o → s9.heap.get? b = some o ∧ H9 b = none := fun b hb o e =>
        let z := I9.pin (b, o) (List.mem_append_right _ (List.mem_append_right _ (mem_pinsAt hb e)))
        ⟨z.1, z.2.1⟩
      have hl : sgσ.length = σ8.length := by rw [← hw8, wipe_length]
      have I10 : Inv (gcx X (genA A2 tg elt iter scope gpos it cenv) N' s0 H0 cenv fp pn) [] sgσ H9 s9 := (I9.unpinned (pins := [])).weak hl fun j v e => by
        rw [← hw8] at e
        exact (wipe_some e).1
      have st9 := T.keep _ _ _ st7 fun b hb o e => (pin' b hb o e).1
      have n9 : ∀ b ∈ fp, H9 b = none := fun b hb => by
        obtain ⟨o, e, _⟩ := T.obj _ _ st7 b hb
        exact (pin' b hb o e).2
      refine seg_at (seg_yield rfl rfl rfl ⟨b, H9, rfl, I10, no, fun eb s2 wk => ?_⟩)
      obtain ⟨m', lt, w'⟩ := hNx H9 (yes eb)
      have I2 := inv_woke I10 wk
      obtain ⟨g', tk, rfl, _⟩ := wk
      exact seg_again rfl (ih (i + 1) m' _ _ H9 (by omega) I2 st9 n9 w')
end
section
open PySem.Spec GxR GenW
variable {X : Cx} {A2 : Around} {N' : List Str} {s0 : Shared} {H0 : Hp} {cenv : Env} {fp : List Addr} {pn : List (Addr × Obj)} {tg elt iter : Expr} {scope : Scope} {gpos : Pos} {it : Addr}
theorem gen_begin {J : It} {tn : Nat → Heap → Prop} {R : GenEnd} {Y : Protocol} {n : Nat} {s₀ s : Shared} (T : Turn X.prog X.w X.K tg J fp it tn) (st : tn 0 s.heap)
    (loop : Seg (model X.prog X.w) A2 R Y n s₀ (.compLoop (.GeneratorExp elt [⟨tg, iter, [], 0⟩] scope gpos) 0 (.ref it) .none cenv) ((model X.prog X.w).den (.compLoop (.GeneratorExp elt [⟨tg, iter, [], 0⟩] scope gpos) 0 (.ref it) .none cenv)) [] s) :
    Seg (model X.prog X.w) A2 R Y n s₀ (.compStart (.GeneratorExp elt [⟨tg, iter, [], 0⟩] scope gpos) 0 (.ref it) .none cenv) ((model X.prog X.w).den (.compStart (.GeneratorExp elt [⟨tg, iter, [], 0⟩] scope gpos) 0 (.ref it) .none cenv)) [] s := by
  show Seg _ A2 _ _ _ s₀ _ ((compStart (.GeneratorExp elt [⟨tg, iter, [], 0⟩] scope gpos) 0 (.ref it) .none cenv).onRaise (leaving cenv)) [] s
  unfold compStart
  rw [Sem.onRaise_eq_wrap]
  show Seg _ A2 _ _ _ s₀ _ ((ask >>= _).wrap _ _ _ _) [] s
  refine seg_bind_wrap (wpAny_askSetting ?_)
  split
  · exact seg_again rfl loop
  · refine seg_bind_wrap (wpAny_rule (seg_bind_wrap (wpAny_standAt (seg_bind_wrap (T.self _ 0 s _ _ st (seg_again rfl loop))))))
/-- a generator asleep, that may be woken n times more -/
structure Asleep (X : Cx) (A2 : Around) (G : Cx) (sgσ : L2.St) (kp : Bool) (Q : Bool → Hp → Prop) (a : Addr) (k : Nat) (n : Nat) (s : Shared) : Prop where
  inv : ∃ H, Inv G [] sgσ H s
  is : ∀ {s' : Shared} {H' : Hp}, Inv G [] sgσ H' s' → s'.heap.IsGen a k
  at_ : ∃ gs, s.gens[k]? = some gs ∧ ∀ s2, Woke s s2 → gs.Goes (model X.prog X.w) A2 (genR G sgσ kp Q) (genY G sgσ kp Q) n (.send .none) s2
theorem setGen_woke {s : Shared} {k : Nat} {x : GenState} (h : AllBare s.gens) (hx : x.bare = true) : Woke s (s.setGen k x) := ⟨_, s.toks, rfl, bare_set h hx⟩
theorem setGen_at {s : Shared} {k : Nat} {x : GenState} (h : k < s.gens.size) : (s.setGen k x).gens[k]? = some x := by
  show (s.gens.setIfInBounds k x)[k]? = some x
  rw [Array.getElem?_setIfInBounds_self, if_pos h]
theorem gen_next {A : Around} {G : Cx} {sgσ : L2.St} {kp : Bool} {Q : Bool → Hp → Prop} {a : Addr} {k n : Nat} {s : Shared} {R : Option Value → Shared → Prop} {E : Value → Shared → Prop} (hh : A.handled = none) (hd : A.depth < recursionLimit) (z : Asleep X A.in1 G sgσ kp Q a k n s)
    (yes : ∀ n' s', n = n' + 1 → Asleep X A.in1 G sgσ kp Q a k n' s' → R (some (.bool kp)) s')
    (no : ∀ b H s', b ≠ kp → Inv G [] sgσ H s' → Q b H → R (some (.bool b)) s') (done : ∀ H s', Inv G [] sgσ H s' → Q kp H → R none s') : wpAny (model X.prog X.w) A (pyNext (.ref a)) R E s := by
  obtain ⟨H0, I0⟩ := z.inv
  obtain ⟨gs, hgs, hgo⟩ := z.at_
  have ks : k < s.gens.size := by
    rcases Nat.lt_or_ge k s.gens.size with h | h
    · exact h
    · rw [Array.getElem?_eq_none h] at hgs; cases hgs
  refine wpAny_gsz (n := k + 1) ks ?_
  refine wpAny_pyNext_genexpQ (P := fun _ _ s1 => ∃ H, Inv G [] sgσ H s1 ∧ Q kp H) (Y := genY G sgσ kp Q) hh I0.nolimit hd (z.is I0) hgs (hgo _ (setGen_woke I0.bare rfl)) (fun v s1 gs' hb hy => ?_) fun s1 ⟨H, I, q⟩ h' hk _ => ?_
  · obtain ⟨b, H, rfl, I, stop, on⟩ := hy
    have wk := setGen_woke (k := k) I.bare hb
    intro sz
    have sz : k < s1.gens.size := by
      have e : (s1.setGen k gs').gens.size = s1.gens.size := setGen_size ..
      rw [e] at sz
      exact sz
    by_cases eb : b = kp
    · subst eb
      have on := on rfl
      cases n with
      | zero => exact (on s1 ⟨s1.gens, s1.toks, rfl, I.bare⟩).elim
      | succ n' => exact yes n' _ rfl ⟨⟨H, inv_woke I wk⟩, z.is, gs', setGen_at sz, fun s2 w2 => on s2 (wk.trans w2)⟩
    · exact no b H _ eb (inv_woke I wk) (stop eb)
  · have J : Inv G [] sgσ H { s1.setGen k .finished with heap := h' } := by
      have J1 := inv_woke I (setGen_woke (k := k) (x := .finished) I.bare rfl)
      exact J1.kept (t' := s1.toks) hk
    exact done H _ J q
theorem all_loop {A : Around} {G : Cx} {sgσ : L2.St} {Q : Bool → Hp → Prop} {a : Addr} {k : Nat} (hh : A.handled = none) (hd : A.depth < recursionLimit) :
    ∀ (n : Nat) (s : Shared), Asleep X A.in1.in1 G sgσ true Q a k n s → codeAny (model X.prog X.w) A (.builtin "all.loop" ⟨[.ref a], []⟩) (fun r s' => ∃ b H, r = .ok (.ret (.bool b)) ∧ Inv G [] sgσ H s' ∧ Q b H) s := by
  intro n
  induction n with
  | zero =>
    intro s z
    refine codeAny_builtin F.entry_all_loop ?_
    rw [Around.under_plainId F.plain_all_loop _]
    show wpAny _ A.in1 (pyNext (.ref a) >>= _) _ _ s
    refine wpAny_bind (gen_next (A := A.in1) hh hd z (fun n' s' e => nomatch e) (fun b H s' eb I q => ?_) fun H s' I q => ?_)
    · obtain rfl : b = false := by cases b <;> first | rfl | exact absurd rfl eb
      refine wpAny_bind (wpAny_holding (wpAny_truthy_bool ?_))
      refine wpAny_bind (wpAny_letGo ?_)
      simp only [Bool.false_eq_true, if_false]
      exact wpAny_bind (wpAny_rule (wpAny_pure ⟨false, H, rfl, I, q⟩))
    · exact wpAny_bind (wpAny_rule (wpAny_pure ⟨true, H, rfl, I, q⟩))
  | succ n ih =>
    intro s z
    refine codeAny_builtin F.entry_all_loop ?_
    rw [Around.under_plainId F.plain_all_loop _]
    show wpAny _ A.in1 (pyNext (.ref a) >>= _) _ _ s
    refine wpAny_bind (gen_next (A := A.in1) hh hd z (fun n' s' e z' => ?_) (fun b H s' eb I q => ?_) fun H s' I q => ?_)
    · obtain rfl : n' = n := by omega
      refine wpAny_bind (wpAny_holding (wpAny_truthy_bool ?_))
      refine wpAny_bind (wpAny_letGo ?_)
      simp only [if_true]
      exact wpAny_pure ⟨plainId_quiet F.plain_all_loop _, ih _ z'⟩
    · obtain rfl : b = false := by cases b <;> first | rfl | exact absurd rfl eb
      refine wpAny_bind (wpAny_holding (wpAny_truthy_bool ?_))
      refine wpAny_bind (wpAny_letGo ?_)
      simp only [Bool.false_eq_true, if_false]
      exact wpAny_bind (wpAny_rule (wpAny_pure ⟨false, H, rfl, I, q⟩))
    · exact wpAny_bind (wpAny_rule (wpAny_pure ⟨true, H, rfl, I, q⟩))
theorem any_loop {A : Around} {G : Cx} {sgσ : L2.St} {Q : Bool → Hp → Prop} {a : Addr} {k : Nat} (hh : A.handled = none) (hd : A.depth < recursionLimit) :
    ∀ (n : Nat) (s : Shared), Asleep X A.in1.in1 G sgσ false Q a k n s → codeAny (model X.prog X.w) A (.builtin "any.loop" ⟨[.ref a], []⟩) (fun r s' => ∃ b H, r = .ok (.ret (.bool b)) ∧ Inv G [] sgσ H s' ∧ Q b H) s := by
  intro n
  induction n with
  | zero =>
    intro s z
    refine codeAny_builtin F.entry_any_loop ?_
    rw [Around.under_plainId F.plain_any_loop _]
    show wpAny _ A.in1 (pyNext (.ref a) >>= _) _ _ s
    refine wpAny_bind (gen_next (A := A.in1) hh hd z (fun n' s' e => nomatch e) (fun b H s' eb I q => ?_) fun H s' I q => ?_)
    · obtain rfl : b = true := by cases b <;> first | rfl | exact absurd rfl eb
      refine wpAny_bind (wpAny_holding (wpAny_truthy_bool ?_))
      refine wpAny_bind (wpAny_letGo ?_)
      simp only [if_true]
      exact wpAny_bind (wpAny_rule (wpAny_pure ⟨true, H, rfl, I, q⟩))
    · exact wpAny_bind (wpAny_rule (wpAny_pure ⟨false, H, rfl, I, q⟩))
  | succ n ih =>
    intro s z
    refine codeAny_builtin F.entry_any_loop ?_
    rw [Around.under_plainId F.plain_any_loop _]
    show wpAny _ A.in1 (pyNext (.ref a) >>= _) _ _ s
    refine wpAny_bind (gen_next (A := A.in1) hh hd z (fun n' s' e z' => ?_) (fun b H s' eb I q => ?_) fun H s' I q => ?_)
    · obtain rfl : n' = n := by omega
      refine wpAny_bind (wpAny_holding (wpAny_truthy_bool ?_))
      refine wpAny_bind (wpAny_letGo ?_)
      simp only [Bool.false_eq_true, if_false]
      exact wpAny_pure ⟨plainId_quiet F.plain_any_loop _, ih _ z'⟩
    · obtain rfl : b = true := by cases b <;> first | rfl | exact absurd rfl eb
      refine wpAny_bind (wpAny_holding (wpAny_truthy_bool ?_))
      refine wpAny_bind (wpAny_letGo ?_)
      simp only [if_true]
      exact wpAny_bind (wpAny_rule (wpAny_pure ⟨true, H, rfl, I, q⟩))
    · exact wpAny_bind (wpAny_rule (wpAny_pure ⟨false, H, rfl, I, q⟩))
end
section
open PySem.Spec GxR GenW
/-- all (kp true), any (kp false): over what comes, g puts it under its names, te tells the element; the table at P may grow -/
def tQuant (kp : Bool) (P : Addr) (wi : TI) (sg : L2.St → L2.St) (g : TG) (te : TE) (vs : List Nat) : TE := fun σ H Q => wi σ H fun J H1 => TabG H1 P ∧ ∀ H2, Tabbed P H1 H2 → ∃ W : Nat → Nat → Hp → Prop, (∃ m, W 0 m H2) ∧ ∀ i m H, W i m H →
  (J.stop i H ∧ Q (.bl kp) H) ∨ (J.go i H ∧ ∃ Nx : Hp → Prop, (∀ H', Nx H' → ∃ m', m' < m ∧ W (i + 1) m' H') ∧ ∀ x H', J.yld i H x H' → g x (sg σ) H' fun σ2 H3 => wipe σ2 vs = sg σ ∧ te σ2 H3 fun y H4 => ∃ b, y = .bl b ∧ (b ≠ kp → Q (.bl b) H4) ∧ (b = kp → Nx H4))
theorem over_gen {A : Around} {elt tg iter : Expr} {scope : Scope} {gpos : Pos} {it acc : Value} {cenv : Env} : A.over (.compLoop (.GeneratorExp elt [⟨tg, iter, [], 0⟩] scope gpos) 0 it acc cenv) [] = A.deeper cenv := by
  first
    | rfl
    | (obtain ⟨hd, d, fr, gs, u⟩ := A; simp [Around.over, Around.deeper, marksOver, frameCount, unitsOf, envsOf, guardsOf, pushEnvs, pushGuards, Code.envs, Code.env?, Code.isFrame, Code.guards, Code.isGuard, Code.weight, Code.frames, Code.isCreation, Code.isCaller, Code.cUnits])
theorem gen_made {X : Cx} {c P : Addr} {elt iter tg : Expr} {scope : Scope} {gpos : Pos} {N' : List Str} {sg : L2.St → L2.St} {kp : Bool} {wi : TI} {g : TG} {te : TE} {vs : List Nat} {k : Nat} {pins : List (Addr × Obj)} {σ : L2.St} {H : Hp} {s : Shared} {Q : VK}
    (hr : Room (k + 1) X.A) (hc : X.calm = true) (TB : TabB X.base X.mg c P) (hcode : X.env.code = .ref c) (S : GenN X scope N' sg) (hi : L2.PI X tg iter wi) (hs : ∀ v, genFold iter X.env v = pure v)
    (pg : ∀ (A' : Around) (s : Shared) (H : Hp) (cl : List (Str × Addr)) (C bi : Addr) (code : Value) (fp : List Addr) (pn : List (Addr × Obj)), Room k A' → L2.PG (gcx X A' N' s H (genEnv scope cl C code bi X.env) fp pn) tg g)
    (pe : ∀ (A' : Around) (s : Shared) (H : Hp) (cl : List (Str × Addr)) (C bi : Addr) (code : Value) (fp : List Addr) (pn : List (Addr × Obj)), Room k A' → L2.PE (gcx X A' N' s H (genEnv scope cl C code bi X.env) fp pn) elt te)
    (I : Inv X pins σ H s) (h : tQuant kp P wi sg g te vs σ H Q) :
    wpAny (model X.prog X.w) X.A (eval (.GeneratorExp elt [⟨tg, iter, [], 0⟩] scope gpos) X.env) (fun gv z => ∃ (a : Addr) (kk n : Nat) (G : Cx), gv = .ref a ∧ Asleep X X.A.in1.in1 G (sg σ) kp (fun b H' => Q (.bl b) H') a kk n z ∧ ∀ s' b H', Inv G [] (sg σ) H' s' → Q (.bl b) H' → EP X pins σ Q (.bool b) s') X.xe s := by
  have has : ∀ y ∈ scope.names, y.2 = .free → ∃ c, X.env.cells.lookup y.1 = some c := fun y hy e => I.ok.has _ ((S.free y hy e).elim .inl .inr)
  refine wpAny_GeneratorExp_make S.co (closure_ok has) S.cell S.dot S.kind (by have := hr.dp; omega) ?_ hs
  refine thn (hi.run pins s σ H _ I h) fun xv s1 hx => thn hx fun itv s2 ⟨it, fp, tn, J, H2, ei, I2, T, st2, f2, ⟨ps, hP, tri⟩, q⟩ => ?_
  subst ei
  have tabP : s2.heap.get? P = some { cls := .none, data := .fields ps } := I2.hok P _ hP
  refine ⟨I2.nolimit, thn (code_gotC (ps := ps) hcode (TB.code.keeps fun b o e => I2.bk b o e) tabP tri) fun code s3 got => ?_⟩
  obtain ⟨eq3, ext, more, hP3, tri3⟩ := got
  obtain ⟨h3, g3, d3, t3, o3⟩ := s3
  obtain ⟨rfl, rfl, rfl⟩ : g3 = s2.gens ∧ d3 = s2.drawn ∧ o3 = s2.os := by
    have := eq3
    simp only [Shared.mk.injEq] at this
    exact ⟨this.2.1, this.2.2.1, this.2.2.2.2⟩
  replace ext : Heap.ExtBut P s2.heap h3 := ext
  replace hP3 : h3.get? P = some { cls := .none, data := .fields (ps ++ more) } := hP3
  have kept : ∀ b o, b ≠ P → s2.heap.get? b = some o → h3.get? b = some o := fun b o nb e => ext b o nb e
  have neP : ∀ b ∈ fp, b ≠ P := fun b hb e => by
    have := (f2 b hb).1
    rw [e, hP] at this
    cases this
  have I3 : Inv X pins σ (upd H2 P (.tbl (ps ++ more))) { s2 with heap := h3, toks := t3 } := inv_tab (more := more) (h' := h3) (g' := s2.gens) (d' := s2.drawn) (t' := t3) I2 hP kept hP3 I2.bare
  have tb : Tabbed P H2 (upd H2 P (.tbl (ps ++ more))) := ⟨⟨_, upd_same, tri3⟩, fun b nb => upd_ne nb⟩
  obtain ⟨W, ⟨m0, w0⟩, turn⟩ := q _ tb
  have st3 : tn 0 h3 := T.keep _ _ _ st2 fun b hb o e => kept b o (neP b hb) e
  have n3 : ∀ b ∈ fp, upd H2 P (.tbl (ps ++ more)) b = none := fun b hb => by rw [upd_ne (neP b hb)]; exact (f2 b hb).1
  have f3 : ∀ b ∈ fp, FpOk X pins (upd H2 P (.tbl (ps ++ more))) b ∧ b < h3.objs.size := fun b hb => by
    obtain ⟨o, e, _⟩ := T.obj _ _ st3 b hb
    exact ⟨⟨n3 b hb, (f2 b hb).2⟩, Heap.lt_size e⟩
  generalize upd H2 P (.tbl (ps ++ more)) = H3 at *
  obtain ⟨bm, ob, b1, b2, b3, b4, b5, b6, b7, b8⟩ := TB.bm
  refine wpAny_builtinsFor (m := X.mg) (by rw [I2.ok.glob]; exact (I2.mod.glob.keeps fun b o e => I2.bk b o e).extBut ext TB.gP) b1 b2 (kept _ _ b4 (I2.bk _ _ b5)) b6 b7 b8 ?_
  intro h' hn' sb'
  have sz : h'.objs.size = h3.objs.size + 1 := by
    have := sb'.1
    rw [this, Heap.size_push]
  generalize ego : ({ cls := .type "generator", data := .fields #[.int s2.gens.size 0, .str "<genexpr>" (t3 + 1), .str (X.env.qual ++ "<genexpr>") (t3 + 1 + 1)] } : Obj) = go
  have hpush : (h'.push go).get? h'.objs.size = some go := by
    rw [← ego]
    exact Heap.get?_push_size _ rfl
  have hgen : ∀ hh : Heap, hh.get? h'.objs.size = some go → hh.IsGen h'.objs.size s2.gens.size := fun hh e => by
    rw [← ego] at e
    exact ⟨_, _, _, e, rfl, rfl, rfl⟩
  have hd : ∀ v, go.data ≠ .cell v := fun v z => by rw [← ego] at z; cases z
  have hbare : AllBare (s2.gens.push (.fresh (.compStart (.GeneratorExp elt [⟨tg, iter, [], 0⟩] scope gpos) 0 (.ref it) .none (genEnv scope (cloFrom X.env.cells scope.names []) h3.objs.size code builtinsNs X.env)))) := AllBare.push I2.bare rfl
  have hA : (genA X.A.in1.in1 tg elt iter scope gpos it (genEnv scope (cloFrom X.env.cells scope.names []) h3.objs.size code builtinsNs X.env)).frames = some (genEnv scope (cloFrom X.env.cells scope.names []) h3.objs.size code builtinsNs X.env :: X.stack) := by
    rw [show genA X.A.in1.in1 tg elt iter scope gpos it _ = _ from over_gen]
    exact Around.frames_deeper I3.ok.frames
  have hroom : Room k (genA X.A.in1.in1 tg elt iter scope gpos it (genEnv scope (cloFrom X.env.cells scope.names []) h3.objs.size code builtinsNs X.env)) := by
    rw [show genA X.A.in1.in1 tg elt iter scope gpos it _ = _ from over_gen]
    refine ⟨hr.hd, ?_, ?_⟩
    · have := hr.dp
      show X.A.depth + 1 + 3 * k + 5 < _
      omega
    · have := hr.un
      show X.A.units + 1 + 1 + 3 + 16 * k + 200 < _
      omega
  have I4 := gen_start (tk := t3 + 1 + 1 + 1) (gens' := s2.gens.push (.fresh (.compStart (.GeneratorExp elt [⟨tg, iter, [], 0⟩] scope gpos) 0 (.ref it) .none (genEnv scope (cloFrom X.env.cells scope.names []) h3.objs.size code builtinsNs X.env)))) I3 S f3 hA hr.hd hn' sb' hd hpush hbare
  have hpn : ∀ p ∈ [(h'.objs.size, go)], ∀ b ∈ fp, p.1 ≠ b := fun p hp b hb e => by
    rw [List.mem_singleton.mp hp] at e
    have := (f3 b hb).2
    rw [← e] at this
    have this : h'.objs.size < h3.objs.size := this
    omega
  refine ⟨h'.objs.size, s2.gens.size, m0 + 1, _, rfl, ⟨⟨H3, I4⟩, fun {s' H'} I' => hgen _ (I'.pin (h'.objs.size, go) (List.mem_append_left _ (List.mem_singleton.mpr rfl))).1, _, Array.getElem?_push_size .., fun s5 wk => ⟨rfl, ?_⟩⟩, fun s' b H' I' qb => ?_⟩
  · have I5 := inv_woke I4 wk
    have st5 : tn 0 s5.heap := by
      obtain ⟨g', tk, rfl, _⟩ := wk
      exact T.keep _ _ _ st3 fun b hb o e => Heap.get?_push_of_some _ (sb'.extBut b o (Nat.ne_of_lt (Heap.lt_size e)) (Heap.get?_push_of_some _ e))
    exact gen_begin T st5 (gen_loop (kp := kp) (Q := fun b H' => Q (.bl b) H') (vs := vs) T hc S.co hpn (pg _ _ _ _ _ _ _ _ _ hroom) (pe _ _ _ _ _ _ _ _ _ hroom) turn _ 0 m0 _ _ H3 (Nat.lt_succ_self _) I5 st5 n3 w0)
  · exact ⟨.bl b, H', I3.call' (ch := fp) I'.os I'.base I'.hok I'.bare fun b hb => ⟨(f3 b hb).1.2.2.2.1, (f3 b hb).1.2.1, (f3 b hb).1.2.2.2.2.1, (f3 b hb).1.2.2.2.2.2⟩, rfl, qb⟩
end
section
open PySem.Spec GxR GenW
variable {X : Cx} {c P : Addr} {elt iter tg : Expr} {scope : Scope} {p pos gpos : Pos} {N' : List Str} {sg : L2.St → L2.St} {wi : TI} {g : TG} {te : TE} {vs : List Nat} {k : Nat}
theorem pe_allG (hr : Room (k + 1) X.A) (hc : X.calm = true) (hg : Gl X "all") (hm : X.mg "all" = none) (hb : bootBuiltins "all" = some (.builtin "all")) (TB : TabB X.base X.mg c P) (hcode : X.env.code = .ref c) (S : GenN X scope N' sg) (hi : L2.PI X tg iter wi) (hs : ∀ v, genFold iter X.env v = pure v)
    (pg : ∀ (A' : Around) (s : Shared) (H : Hp) (cl : List (Str × Addr)) (C bi : Addr) (code : Value) (fp : List Addr) (pn : List (Addr × Obj)), Room k A' → L2.PG (gcx X A' N' s H (genEnv scope cl C code bi X.env) fp pn) tg g)
    (pe : ∀ (A' : Around) (s : Shared) (H : Hp) (cl : List (Str × Addr)) (C bi : Addr) (code : Value) (fp : List Addr) (pn : List (Addr × Obj)), Room k A' → L2.PE (gcx X A' N' s H (genEnv scope cl C code bi X.env) fp pn) elt te) :
    L2.PE X (.Call (.Name "all" p) [.GeneratorExp elt [⟨tg, iter, [], 0⟩] scope gpos] [] pos) (tQuant true P wi sg g te vs) := by
  refine ⟨fun pins s σ H Q I h => ?_⟩
  refine wpAny_Call_Name_kw (ld_blt I hg hm hb (PyProof.Rows.callWith_builtin1 ?_ rfl rfl))
  show wpAny _ _ (spliced ((false, eval (.GeneratorExp elt [⟨tg, iter, [], 0⟩] scope gpos) X.env) :: backTo pos (starEach [] X.env))) _ _ s
  refine Calls.spliced_cons (thn (gen_made hr hc TB hcode S hi hs pg pe I h) fun gv z ⟨a, kk, n, G, ev, sl, fin⟩ => Calls.spliced_nil ?_)
  subst ev
  refine call_function_tree F.kind_all F.plain_all F.entry_all (F.args_all1 _) ?_
  unfold Builtin.«all»
  refine wpAny_bind (m := oneArg "all" _) (wpAny_pure ?_)
  obtain ⟨H0, I0⟩ := sl.inv
  refine wpAny_bind (wpAny_pyIter_gen (sl.is I0) ?_)
  refine wpAny_pure ⟨plainId_quiet F.plain_all_loop _, codeAny_mono (all_loop hr.hd (by have := hr.dp; omega) n z sl) fun r s' ⟨b, H', er, I', q⟩ => ?_⟩
  subst er
  exact fin s' b H' I' q
theorem pe_anyG (hr : Room (k + 1) X.A) (hc : X.calm = true) (hg : Gl X "any") (hm : X.mg "any" = none) (hb : bootBuiltins "any" = some (.builtin "any")) (TB : TabB X.base X.mg c P) (hcode : X.env.code = .ref c) (S : GenN X scope N' sg) (hi : L2.PI X tg iter wi) (hs : ∀ v, genFold iter X.env v = pure v)
    (pg : ∀ (A' : Around) (s : Shared) (H : Hp) (cl : List (Str × Addr)) (C bi : Addr) (code : Value) (fp : List Addr) (pn : List (Addr × Obj)), Room k A' → L2.PG (gcx X A' N' s H (genEnv scope cl C code bi X.env) fp pn) tg g)
    (pe : ∀ (A' : Around) (s : Shared) (H : Hp) (cl : List (Str × Addr)) (C bi : Addr) (code : Value) (fp : List Addr) (pn : List (Addr × Obj)), Room k A' → L2.PE (gcx X A' N' s H (genEnv scope cl C code bi X.env) fp pn) elt te) :
    L2.PE X (.Call (.Name "any" p) [.GeneratorExp elt [⟨tg, iter, [], 0⟩] scope gpos] [] pos) (tQuant false P wi sg g te vs) := by
  refine ⟨fun pins s σ H Q I h => ?_⟩
  refine wpAny_Call_Name_kw (ld_blt I hg hm hb (PyProof.Rows.callWith_builtin1 ?_ rfl rfl))
  show wpAny _ _ (spliced ((false, eval (.GeneratorExp elt [⟨tg, iter, [], 0⟩] scope gpos) X.env) :: backTo pos (starEach [] X.env))) _ _ s
  refine Calls.spliced_cons (thn (gen_made hr hc TB hcode S hi hs pg pe I h) fun gv z ⟨a, kk, n, G, ev, sl, fin⟩ => Calls.spliced_nil ?_)
  subst ev
  refine call_function_tree F.kind_any F.plain_any F.entry_any (F.args_any1 _) ?_
  unfold Builtin.«any»
  refine wpAny_bind (m := oneArg "any" _) (wpAny_pure ?_)
  obtain ⟨H0, I0⟩ := sl.inv
  refine wpAny_bind (wpAny_pyIter_gen (sl.is I0) ?_)
  refine wpAny_pure ⟨plainId_quiet F.plain_any_loop _, codeAny_mono (any_loop hr.hd (by have := hr.dp; omega) n z sl) fun r s' ⟨b, H', er, I', q⟩ => ?_⟩
  subst er
  exact fin s' b H' I' q
end
section
theorem genN_none {X : Cx} {scope : Scope} {N' : List Str} {n : Nat} (h1 : scope.kind = .function) (h2 : scope.isCoroutine = false) (h3 : ∀ y ∈ scope.names, y.2 ≠ .cell) (h4 : scope.names.lookup (".0" : Str) = some NameKind.local) (h5 : ∀ y ∈ scope.names, y.2 ≠ .free) (h6 : n = N'.length := by rfl) :
    GenN X scope N' (fun _ => List.replicate n none) :=
  ⟨h1, h2, h3, h4, fun y hy z => absurd z (h5 y hy), fun _ => by rw [List.length_replicate]; exact h6, fun σ i x v _ e => by
    rw [List.getElem?_replicate] at e
    split at e <;> cases e⟩
theorem genN_one {X : Cx} {scope : Scope} {ts : List Str} {f : Str} {j : Nat} (h1 : scope.kind = .function) (h2 : scope.isCoroutine = false) (h3 : ∀ y ∈ scope.names, y.2 ≠ .cell) (h4 : scope.names.lookup (".0" : Str) = some NameKind.local) (h5 : ∀ y ∈ scope.names, y.2 = .free → y.1 = f)
    (h6 : scope.names.lookup f = some .free) (h7 : X.N[j]? = some f) (h8 : X.env.scope.names.lookup f = some .cell ∨ X.env.scope.names.lookup f = some .free) :
    GenN X scope (ts ++ [f]) (fun σ => List.replicate ts.length none ++ [σ.getD j none]) :=
  ⟨h1, h2, h3, h4, fun y hy z => by rw [h5 y hy z]; exact h8, fun _ => by rw [List.length_append, List.length_append, List.length_replicate]; rfl, fun σ i x v e1 e2 => by
    by_cases h : i < ts.length
    · rw [List.getElem?_append_left (by rw [List.length_replicate]; exact h), List.getElem?_replicate] at e2
      split at e2 <;> cases e2
    · rw [List.getElem?_append_right (by omega)] at e1
      rw [List.getElem?_append_right (by rw [List.length_replicate]; omega), List.length_replicate] at e2
      cases hz : i - ts.length with
      | zero =>
        rw [hz] at e1 e2
        obtain rfl : f = x := Option.some.inj e1
        have e2 : σ.getD j none = some v := Option.some.inj e2
        refine ⟨h6, j, h7, ?_⟩
        rw [List.getD_eq_getElem?_getD] at e2
        cases hj : σ[j]? with
        | none => rw [hj] at e2; cases e2
        | some z => rw [hj] at e2; rw [show z = some v from e2]
      | succ z => rw [hz] at e1; cases e1⟩
end
/-! ### places that steps lead back to -/
/-- one or more steps from p -/
inductive OnW (st : Nat → List Nat) (p : Nat) : Nat → Prop
  | one {x : Nat} : x ∈ st p → OnW st p x
  | more {x y : Nat} : OnW st p x → y ∈ st x → OnW st p y
theorem OnW.lt {st : Nat → List Nat} {n p x : Nat} (hp : p < n) (hs : ∀ i, i < n → ∀ y ∈ st i, y < n) (h : OnW st p x) : x < n := by
  induction h with
  | one m => exact hs _ hp _ m
  | more _ m ih => exact hs _ ih _ m
theorem OnW.inside {st : Nat → List Nat} {p y : Nat} {S : List Nat} (h0 : ∀ x ∈ st p, x ∈ S) (h1 : ∀ x ∈ S, ∀ y ∈ st x, y ∈ S) (h : OnW st p y) : y ∈ S := by
  induction h with
  | one m => exact h0 _ m
  | more _ m ih => exact h1 _ ih _ m
theorem OnW.rank {st : Nat → List Nat} {rk : Nat → Int} (h : ∀ x, ∀ y ∈ st x, rk x < rk y) {p y : Nat} (w : OnW st p y) : rk p < rk y := by
  induction w with
  | one m => exact h _ _ m
  | more _ m ih => exact Int.lt_trans ih (h _ _ m)
/-- the dict of the steps -/
abbrev stK (adr : Nat → Addr) (n : Nat) : List (Key × V) := (List.range n).map fun i => (Sum.inl ((i : Nat) : Int), V.ref (adr i))
theorem stK_at {adr : Nat → Addr} {n p : Nat} (h : p < n) : valV (stK adr n) (Sum.inl ((p : Nat) : Int)) = some (V.ref (adr p)) := by
  unfold valV
  rw [List.find?_map]
  have : (List.range n).find? ((fun kv : Key × V => decide (kv.1 = Sum.inl ((p : Nat) : Int))) ∘ fun i => (Sum.inl ((i : Nat) : Int), V.ref (adr i))) = some p := by
    rw [List.find?_range_eq_some]
    refine ⟨decide_eq_true rfl, List.mem_range.mpr h, fun j hj => ?_⟩
    show (!decide ((Sum.inl ((j : Nat) : Int) : Key) = Sum.inl ((p : Nat) : Int))) = true
    rw [decide_eq_false fun e => by have := Sum.inl.inj e; omega]
    rfl
  rw [this]
  rfl
structure StAt (H : Hp) (d : Addr) (n : Nat) (st : Nat → List Nat) : Prop where
  ex : ∃ adr : Nat → Addr, H d = some (.dK (stK adr n)) ∧ ∀ i, i < n → H (adr i) = some (.lst ((st i).map nV))
theorem StAt.same {H H' : Hp} {d : Addr} {n : Nat} {st : Nat → List Nat} (a : StAt H d n st) (s : Same H H') : StAt H' d n st := by
  obtain ⟨adr, e1, e2⟩ := a.ex
  exact ⟨adr, s _ _ e1, fun i hi => s _ _ (e2 i hi)⟩
theorem StAt.get {H : Hp} {d : Addr} {n : Nat} {st : Nat → List Nat} (a : StAt H d n st) {p : Nat} (h : p < n) : ∃ l, DGet H d (nV p) (some (.ref l)) ∧ H l = some (.lst ((st p).map nV)) := by
  obtain ⟨adr, e1, e2⟩ := a.ex
  refine ⟨adr p, ?_, e2 p h⟩
  have := DGet.k (k := Sum.inl ((p : Nat) : Int)) e1
  rwa [stK_at h] at this
theorem few_below : ∀ {n : Nat} {l : List Nat}, l.Nodup → (∀ x ∈ l, x < n) → l.length ≤ n := by
  intro n l nd h
  have : ∀ {l m : List Nat}, l.Nodup → (∀ x ∈ l, x ∈ m) → l.length ≤ m.length := by
    intro l
    induction l with
    | nil => intro _ _ _; exact Nat.zero_le _
    | cons x l ih =>
      intro m nd h
      obtain ⟨n1, n2⟩ := List.nodup_cons.mp nd
      have i := ih (m := m.erase x) n2 fun y hy => (List.mem_erase_of_ne (fun e : y = x => n1 (e ▸ hy))).mpr (h y (List.mem_cons_of_mem _ hy))
      have := List.length_erase_of_mem (h x (List.mem_cons_self ..))
      have pos : 0 < m.length := List.length_pos_of_mem (h x (List.mem_cons_self ..))
      show l.length + 1 ≤ m.length
      omega
  have := this (m := List.range n) nd fun x hx => List.mem_range.mpr (h x hx)
  rwa [List.length_range] at this
section
variable {P : Program} {w : World} {K : PySem.W.Frag} {mg : Str → Option Value} {base : Heap}
def sp_comes_back (K : PySem.W.Frag) : Sp := fun vs H Q _ => ∃ (d : Addr) (n p : Nat) (st : Nat → List Nat), vs = [nV p, .ref d] ∧ StAt H d n st ∧ p < n ∧ n ≤ 400 ∧ (∀ i, i < n → (st i).length ≤ 400 ∧ ∀ y ∈ st i, y < n) ∧
  ∀ (b : Bool) (H' : Hp), (b = true ↔ OnW st p p) → Same H H' → Q (.bl b) H'
theorem ok_comes_back {f : Addr} {fd : FuncData} (F : Fun K "comes_back" "comes_back" s_comes_back f fd) (T : Top w K mg) : FnOk P w K mg base CX0 1 f fd ["place", "steps"] (sp_comes_back K) := by
  refine F.ok sc_comes_back (fun vs H Q E h => ?_) (fun cdv A outer s H vs Q E hr h => ?_)
  · obtain ⟨d, n, p, st, rfl, _⟩ := h
    rfl
  obtain ⟨d, n, p, st, rfl, hd, hp, hn, hs, q⟩ := h
  have hlt : ∀ i, i < n → ∀ y ∈ st i, y < n := fun i hi => (hs i hi).2
  refine ⟨_, (pss_cons (ps_set (i := 2) sc_comes_back.nd rfl (Or.inl rfl) (pe_callTy0 cr_set0 (by rfl) T.m_set (by decide +kernel)))
      (pss_cons (ps_set (i := 3) sc_comes_back.nd rfl (Or.inl rfl) (pe_callTy (call_list_ofK K rfl) (by rfl) T.m_list (by decide +kernel) (pa_cons (pe_dget (hu_of hr) (pv 1) (pv 0) (fun _ _ => rfl)) pa_nil)))
      (pss_cons (ps_while PassesOwn.never (pt_truthK K rfl (pv 3) (by intro _; rfl))
        (pss_cons (ps_set (i := 4) sc_comes_back.nd rfl (Or.inl rfl) (pe_bm0K K rfl PySem.F.plainAttrs_list PySem.F.slot_list_pop PySem.F.type_list_pop mt_pop (pv 3)))
      (pss_cons (ps_if (pt_cmpR op_eq (pv 4) (pv 0) (nomark _)) (pss_one (ps_ret pe_bl)) pss_nil)
      (pss_one (ps_if (pt_cmpR or_snotin (pv 4) (pv 2) (by with_unfolding_all rfl)) (pss_cons (ps_expr (pe_sadd (pv 2) (pa_cons (pv 4) pa_nil)))
      (pss_one (ps_expr (pe_bmK K rfl PySem.F.plainAttrs_list PySem.F.slot_list_extend PySem.F.type_list_extend mt_extend (pv 3) (pa_cons (pe_dget (hu_of hr) (pv 1) (pv 4) (fun _ _ => rfl)) pa_nil))))) pss_nil)))))
      (pss_one (ps_ret pe_bl))))), ?_⟩
  refine ⟨rfl, fun sp nsp => ?_⟩
  have s1 : Same H (upd H sp (SetO w sp (fun _ => false) 0)) := same_new nsp
  obtain ⟨l0, g0, hl0⟩ := (hd.same s1).get hp
  refine ⟨_, rfl, _, rfl, d, _, rfl, g0, l0, _, rfl, .inl (SqL.of hl0), fun ll nll => ?_⟩
  have s2 := s1.trans (same_new (o := .lst ((st p).map nV)) nll)
  have nel : sp ≠ ll := fun z => by rw [← z, upd_same] at nll; cases nll
  have nll0 : H ll = none := same_none s1 nll
  let W : Nat → L2.St → Hp → Prop := fun m σ H5 => ∃ (S L : List Nat) (Sf : Int → Bool) (v4 : Option V), σ = [some (nV p), some (.ref d), some (.ref sp), some (.ref ll), v4] ∧ H5 sp = some (SetO w sp Sf S.length) ∧ H5 ll = some (.lst (L.map nV)) ∧ Same H H5 ∧ S.Nodup ∧ (∀ x : Nat, Sf ((x : Nat) : Int) = true ↔ x ∈ S) ∧
    (∀ x ∈ S, x < n ∧ x ≠ p ∧ OnW st p x) ∧ (∀ x ∈ L, x < n ∧ OnW st p x) ∧ (∀ y ∈ st p, y ∈ S ∨ y ∈ L) ∧ (∀ x ∈ S, ∀ y ∈ st x, y ∈ S ∨ y ∈ L) ∧ m = 401 * (n - S.length) + L.length ∧ m ≤ 401 * n + 400
  refine ⟨W, ⟨_, [], st p, fun _ => false, _, rfl, by rw [upd_ne nel]; exact upd_same, upd_same, s2, List.nodup_nil, fun x => ⟨(fun z => nomatch z), fun z => (by cases z)⟩, (fun x z => by cases z), fun x hx => ⟨hlt p hp x hx, .one hx⟩, fun y hy => .inr hy, (fun x z => by cases z), rfl, ?_⟩, ?_⟩
  · have := (hs p hp).1
    show 401 * (n - 0) + _ ≤ _
    omega
  rintro m σ H5 ⟨S, L, Sf, v4, rfl, hsp, hll, s5, nd, sf, hS, hL, c0, c1, em, mb⟩
  refine ⟨_, rfl, !(L.map nV).isEmpty, .inl ⟨_, SqL.of hll, rfl⟩, ?_⟩
  have sl := few_below nd fun x hx => (hS x hx).1
  rcases List.eq_nil_or_concat L with rfl | ⟨L', x, rfl⟩
  · show (if (false : Bool) = true then _ else _)
    rw [if_neg Bool.false_ne_true]
    refine q false H5 ⟨(fun z => nomatch z), fun z => ?_⟩ s5
    exact absurd rfl (hS p (z.inside (fun y hy => (c0 y hy).resolve_right fun z => by cases z) (fun x hx y hy => (c1 x hx y hy).resolve_right fun z => by cases z))).2.1
  have tr : (!((L'.concat x).map nV).isEmpty) = true := by
    rw [List.concat_eq_append, List.map_append]
    cases L'.map nV <;> rfl
  rw [List.concat_eq_append] at *
  rw [tr]
  refine if_bl (fun _ => ?_) (fun z => nomatch z)
  refine ⟨fun σ' H' => ∃ m', m' < m ∧ W m' σ' H', fun _ _ z => z, ?_⟩
  have lL : (L' ++ [x]).length = L'.length + 1 := by rw [List.length_append]; rfl
  obtain ⟨xn, xw⟩ := hL x (List.mem_append.mpr (.inr (List.mem_singleton.mpr rfl)))
  refine ⟨_, rfl, .inl ⟨rfl, _, SqL.of hll⟩, ll, _, nV x, rfl, rfl, hll, by rw [List.map_append, List.length_append, List.getElem?_append_right (by rw [List.length_map]; exact Nat.le_refl _)]; simp, ?_⟩
  have dl : ((L' ++ [x]).map nV).dropLast = L'.map nV := by rw [List.map_append]; exact List.dropLast_concat
  rw [dl]
  have s6 : Same H (upd H5 ll (.lst (L'.map nV))) := Same.own s5 nll0
  have hsp6 : upd H5 ll (.lst (L'.map nV)) sp = some (SetO w sp Sf S.length) := by rw [upd_ne nel]; exact hsp
  have hll6 : upd H5 ll (.lst (L'.map nV)) ll = some (.lst (L'.map nV)) := upd_same
  generalize upd H5 ll (.lst (L'.map nV)) = H6 at *
  refine ⟨_, rfl, _, rfl, rfl, _, rfl, if_bl (fun e => ?_) (fun e => ?_)⟩
  · have e : x = p := by have := V.int.inj (of_decide_eq_true e); omega
    rw [e] at xw
    exact q true H6 ⟨fun _ => xw, fun _ => rfl⟩ s6
  have xp : x ≠ p := fun z => of_decide_eq_false e (by rw [z])
  refine ⟨_, rfl, _, rfl, _, sp, Sf, _, rfl, rfl, hsp6, _, rfl, if_bl (fun e => ?_) (fun e => ?_)⟩
  · have xS : x ∉ S := fun z => by
      rw [(sf x).mpr z] at e
      cases e
    have xf : Sf ((x : Nat) : Int) = false := by
      cases h : Sf ((x : Nat) : Int) with
      | false => rfl
      | true => exact absurd ((sf x).mp h) xS
    have nd2 : (x :: S).Nodup := List.nodup_cons.mpr ⟨xS, nd⟩
    have sl2 := few_below (n := n) nd2 fun y hy => by
      rcases List.mem_cons.mp hy with rfl | hy
      · exact xn
      · exact (hS y hy).1
    rw [List.length_cons] at sl2
    refine ⟨_, rfl, ⟨sp, _, _, rfl, hsp6⟩, _, rfl, sp, _, Sf, _, rfl, rfl, hsp6, by unfold scanBound; omega, ?_⟩
    rw [xf, if_neg Bool.false_ne_true]
    generalize e7 : upd H6 sp _ = H7
    have s7 : Same H H7 := by rw [← e7]; exact Same.own s6 nsp
    have hsp7 : H7 sp = some (SetO w sp (fun j => Sf j || decide (j = ((x : Nat) : Int))) (x :: S).length) := by rw [← e7]; exact upd_same
    have hll7 : H7 ll = some (.lst (L'.map nV)) := by rw [← e7, upd_ne (Ne.symm nel)]; exact hll6
    clear e7
    obtain ⟨lx, gx, hlx⟩ := (hd.same s7).get xn
    have sx := (hs x xn).1
    refine ⟨_, rfl, .inl ⟨rfl, _, SqL.of hll7⟩, _, rfl, _, rfl, d, _, rfl, gx, ll, lx, _, _, rfl, rfl, hll7, hlx, by rw [List.length_map, List.length_map]; rw [sizeLine_eq]; omega, ?_⟩
    refine ⟨401 * (n - (S.length + 1)) + (L' ++ st x).length, by rw [List.length_append]; omega, x :: S, L' ++ st x, _, _, rfl, by rw [upd_ne nel]; exact hsp7, by rw [upd_same, List.map_append], Same.own s7 nll0, nd2, fun y => ?_, fun y hy => ?_, fun y hy => ?_, fun y hy => ?_, fun z hz y hy => ?_, rfl, by rw [List.length_append]; omega⟩
    · rw [List.mem_cons]
      by_cases z : y = x
      · subst z; simp
      · have : (decide (((y : Nat) : Int) = ((x : Nat) : Int))) = false := decide_eq_false fun e => z (by omega)
        show (Sf _ || decide _) = true ↔ _
        rw [this, Bool.or_false, sf y]
        exact ⟨.inr, fun h => h.resolve_left z⟩
    · rcases List.mem_cons.mp hy with rfl | hy
      · exact ⟨xn, xp, xw⟩
      · exact hS y hy
    · rcases List.mem_append.mp hy with hy | hy
      · exact hL y (List.mem_append.mpr (.inl hy))
      · exact ⟨hlt x xn y hy, .more xw hy⟩
    · rcases c0 y hy with z | z
      · exact .inl (List.mem_cons_of_mem _ z)
      · rcases List.mem_append.mp z with z | z
        · exact .inr (List.mem_append.mpr (.inl z))
        · rw [List.mem_singleton.mp z]; exact .inl (List.mem_cons_self ..)
    · rcases List.mem_cons.mp hz with rfl | hz
      · exact .inr (List.mem_append.mpr (.inr hy))
      · rcases c1 z hz y hy with z | z
        · exact .inl (List.mem_cons_of_mem _ z)
        · rcases List.mem_append.mp z with z | z
          · exact .inr (List.mem_append.mpr (.inl z))
          · rw [List.mem_singleton.mp z]; exact .inl (List.mem_cons_self ..)
  · have xS : x ∈ S := (sf x).mp (by
      cases h : Sf ((x : Nat) : Int) with
      | true => rfl
      | false => rw [h] at e; cases e)
    have out : ∀ y, y ∈ S ∨ y ∈ L' ++ [x] → y ∈ S ∨ y ∈ L' := fun y z => by
      rcases z with z | z
      · exact .inl z
      · rcases List.mem_append.mp z with z | z
        · exact .inr z
        · rw [List.mem_singleton.mp z]; exact .inl xS
    exact ⟨401 * (n - S.length) + L'.length, by omega, S, L', Sf, _, rfl, hsp6, hll6, s6, nd, sf, hS, fun y hy => hL y (List.mem_append.mpr (.inl hy)), fun y hy => out y (c0 y hy), fun z hz y hy => out y (c1 z hz y hy), rfl, by omega⟩
def FirstW (st : Nat → List Nat) (ps : List Nat) (v : V) : Prop := (v = .non ∧ ∀ x ∈ ps, ¬ OnW st x x) ∨ ∃ i x : Nat, ps[i]? = some x ∧ v = nV x ∧ OnW st x x ∧ ∀ j y : Nat, j < i → ps[j]? = some y → ¬ OnW st y y
def sp_first_on_ring (K : PySem.W.Frag) : Sp := fun vs H Q _ => ∃ (pl d : Addr) (n : Nat) (ps : List Nat) (st : Nat → List Nat), vs = [.ref pl, .ref d] ∧ H pl = some (.lst (ps.map nV)) ∧ (∀ x ∈ ps, x < n) ∧ StAt H d n st ∧ n ≤ 400 ∧ (∀ i, i < n → (st i).length ≤ 400 ∧ ∀ y ∈ st i, y < n) ∧
  ∀ (v : V) (H' : Hp), FirstW st ps v → Same H H' → Q v H'
theorem ok_first_on_ring {f : Addr} {fd : FuncData} (F : Fun K "first_on_ring" "first_on_ring" s_first_on_ring f fd) (T : Top w K mg) : FnOk P w K mg base CX0 2 f fd ["places", "steps"] (sp_first_on_ring K) := by
  obtain ⟨f_comes_back, fd_comes_back, F_comes_back, b_comes_back, m_comes_back⟩ := T.d_comes_back
  have G_comes_back := ok_comes_back (P := P) (w := w) (base := base) F_comes_back T
  refine F.ok sc_first_on_ring (fun vs H Q E h => ?_) (fun cdv A outer s H vs Q E hr h => ?_)
  · obtain ⟨pl, d, n, ps, st, rfl, _⟩ := h
    rfl
  obtain ⟨pl, d, n, ps, st, rfl, hpl, hps, hd, hn, hs, q⟩ := h
  refine ⟨_, (pss_cons (ps_for PassesOwn.never rfl (pi_listK K rfl (pv 0)) (pg_name (i := 2) sc_first_on_ring.nd rfl (Or.inl rfl))
        (pss_one (ps_if (pt_val (pe_call G_comes_back (hr.mono (by decide)) (by rfl) m_comes_back F_comes_back.kp b_comes_back .nil pass0 (pa_cons (pv 2) (pa_cons (pv 1) pa_nil)))) (pss_one (ps_ret (pv 2))) pss_nil)))
      (pss_one (ps_ret pe_non))), ?_⟩
  refine ⟨_, rfl, pl, rfl, ⟨_, SqL.of hpl⟩, for_list (K := K) (a := pl) (xs := ps.map nV) (fun i σ H5 => ∃ v2 : Option V, σ = [some (.ref pl), some (.ref d), v2] ∧ Same H H5 ∧ ∀ j y : Nat, j < i → ps[j]? = some y → ¬ OnW st y y) ⟨_, rfl, fun _ _ e => e, fun j y h => absurd h (Nat.not_lt_zero _)⟩ (fun i σ H5 _ ⟨_, _, s5, _⟩ => SqL.of (s5 _ _ hpl)) ?_ ?_⟩
  · rintro i v σ H5 hx ⟨v2, rfl, s5, no⟩
    rw [List.getElem?_map] at hx
    cases hk : ps[i]? with
    | none => rw [hk] at hx; cases hx
    | some x =>
      rw [hk] at hx
      obtain rfl : nV x = v := Option.some.inj hx
      refine ⟨_, rfl, _, rfl, d, n, x, st, rfl, hd.same s5, hps x (List.mem_of_getElem? hk), hn, hs, fun b H6 hb s6 => ?_⟩
      refine ⟨_, rfl, if_bl (fun e => ?_) (fun e => ?_)⟩
      · exact ⟨_, rfl, q _ H6 (.inr ⟨i, x, hk, rfl, hb.mp e, no⟩) (s5.trans s6)⟩
      · refine ⟨_, rfl, s5.trans s6, fun j y hj ey => ?_⟩
        by_cases h : j = i
        · subst h
          rw [hk] at ey
          rw [← Option.some.inj ey]
          exact fun w => by rw [hb.mpr w] at e; cases e
        · exact no j y (by omega) ey
  · rintro σ H5 ⟨v2, rfl, s5, no⟩
    refine q _ H5 (.inl ⟨rfl, fun x hx => ?_⟩) s5
    obtain ⟨j, ej⟩ := List.getElem?_of_mem hx
    exact no j x (by have := (List.getElem?_eq_some_iff.mp ej).1; rw [List.length_map]; exact this) ej
end
/-! ### a name told a dict written out -/
section
variable {X : Cx}
theorem ps_setDc {i : Nat} {y : Str} {py : Pos} {kx vx tg iter : Expr} {ifs : List Expr} {scope : Scope} {own : List (Str × Nat)} {pos spos : Pos} {wi : TI} {g : TG} {tt : TT} {tk tv : TE} (hc : X.calm = true) (hN : X.N.Nodup) (hy : X.N[i]? = some y) (hyl : X.env.scope.names.lookup y = some .local)
    (hsw : swapsWith (.DictComp kx vx [⟨tg, iter, ifs, 0⟩] scope pos) (some (.Name y py)) spos.line X.env = pure true) (hi : L2.PI X tg iter wi) (ok : BlkOk X.N X.env.scope scope own)
    (hg : ∀ (s : Shared) (H : Hp) (C : Addr) (cl : List (Str × Addr)) (fp : List Addr), L2.PG (X.blk s H scope (compEnvC scope cl C X.env) fp) tg g) (ht : ∀ (s : Shared) (H : Hp) (C : Addr) (cl : List (Str × Addr)) (fp : List Addr), PTs (X.blk s H scope (compEnvC scope cl C X.env) fp) ifs tt)
    (hk : ∀ (s : Shared) (H : Hp) (C : Addr) (cl : List (Str × Addr)) (fp : List Addr), L2.PE (X.blk s H scope (compEnvC scope cl C X.env) fp) kx tk)
    (he : ∀ (s : Shared) (H : Hp) (C : Addr) (cl : List (Str × Addr)) (fp : List Addr), L2.PE (X.blk s H scope (compEnvC scope cl C X.env) fp) vx tv) (hs : ∀ x, foldedSetIterable iter X.env x = pure x := by intro _; rfl) :
    PS X (.Assign [.Name y py] (.DictComp kx vx [⟨tg, iter, ifs, 0⟩] scope pos) spos) (tAsg (tDc wi g tt tk tv (own.map (·.2))) (gName i)) := by
  refine ⟨fun pins s σ H D I h => ?_⟩
  rw [exec_Assign_Name_used _ _ _ _ hsw]
  refine wpAny_bind (wpAny_standAt (wpAny_bind ?_))
  show wpAny _ X.A (do let _ ← comprehension (.DictComp kx vx [⟨tg, iter, ifs, 0⟩] scope pos) scope X.env (firstIterPos [⟨tg, iter, ifs, 0⟩] pos) newDict false (eval iter X.env) (some (assign (.Name y py) X.env))) _ _ s
  have h : tDc wi g tt tk tv (own.map (·.2)) σ H (fun x H1 => gName i x σ H1 D.nx) := h
  refine wpAny_bind (thn (dc_core (Qf := fun _ s' => SP X pins D .next s') hc hN I hi ok hg ht hk he hs h fun L C s' m H' I' q hn f => ?_) fun _ s' hq => wpAny_pure (wpAny_pure hq))
  refine wpAny_assign_Name (store_ok2 (v := V.ref L) I' hN hy (.inl hyl) rfl (fun s2 I2 ⟨a, sb, ha⟩ => ?_) (.inr hyl))
  obtain ⟨f0, f1, f2, f3, f4, f5⟩ := f
  have haC : C ≠ a := ha.elim (fun z => by rw [z]; exact f1) fun z e => f4 y a z e.symm
  exact ⟨m, hn.sameBut sb haC, fun h3 sb3 => ⟨_, H', I2.turned (t' := s2.toks) (fun b o hb e => (sb3.2 b hb).trans e) f0 f1 f3 f4 f5, q⟩⟩
theorem sw_dc {kx vx : Expr} {gs : List Comprehension} {scope : Scope} {pos py : Pos} {y : Str} {l : Nat} {env : Env} (hk : env.scope.kind = .function) (hy : env.scope.names.lookup y = some .local) (hl : (py.line == pos.line) = true)
    (ha : (scope.names.any fun (n, k) => n == y && (k == .local || k == .cell)) = false) : swapsWith (.DictComp kx vx gs scope pos) (some (.Name y py)) l env = pure true := by
  have ky : env.kindOf y = some .local := hy
  have hb : env.blockKind = .function := by unfold Env.blockKind; rw [hk]; rfl
  unfold swapsWith
  simp only [hb, ky, ha, Expr.pos, hl]
  rfl
end
/-! ### a room looked at -/
def Tb2 (PT : Addr × Addr) (H : Hp) : Prop := GxR.TabG H PT.1 ∧ GxR.TabG H PT.2
theorem Tb2.same {PT : Addr × Addr} {H H' : Hp} (t : Tb2 PT H) (s : Same H H') : Tb2 PT H' := by
  obtain ⟨⟨p1, e1, t1⟩, p2, e2, t2⟩ := t
  exact ⟨⟨p1, s _ _ e1, t1⟩, p2, s _ _ e2, t2⟩
theorem Tb2.but {PT : Addr × Addr} {f c : Addr} {H H' : Hp} (t : Tb2 PT H) (F : Flow H f c) (b : But f H H') : Tb2 PT H' := by
  obtain ⟨⟨p1, e1, t1⟩, p2, e2, t2⟩ := t
  obtain ⟨_, _, _, _, _, ef, _⟩ := F
  exact ⟨⟨p1, b _ _ e1 (fun z => by rw [z, ef] at e1; cases e1), t1⟩, p2, b _ _ e2 (fun z => by rw [z, ef] at e2; cases e2), t2⟩
theorem tabbed_ext {P : Addr} {H H' : Hp} (h : GxR.TabG H P) (t : GxR.Tabbed P H H') : LamX.ExtN H H' := fun b o e n => by
  obtain ⟨ps, ep, _⟩ := h
  rw [t.2 b (fun z => by rw [z, ep] at e; exact n ps (Option.some.inj e).symm)]
  exact e
theorem Tb2.tab1 {PT : Addr × Addr} {H H' : Hp} (g : Tb2 PT H) (t : GxR.Tabbed PT.1 H H') : Tb2 PT H' := by
  refine ⟨t.1, ?_⟩
  by_cases h : PT.2 = PT.1
  · rw [h]; exact t.1
  · obtain ⟨_, p2, e2, t2⟩ := g
    exact ⟨p2, by rw [t.2 _ h]; exact e2, t2⟩
theorem Tb2.tab2 {PT : Addr × Addr} {H H' : Hp} (g : Tb2 PT H) (t : GxR.Tabbed PT.2 H H') : Tb2 PT H' := by
  refine ⟨?_, t.1⟩
  by_cases h : PT.1 = PT.2
  · rw [h]; exact t.1
  · obtain ⟨⟨p1, e1, t1⟩, _⟩ := g
    exact ⟨p1, by rw [t.2 _ h]; exact e1, t1⟩
theorem tk_ext {H H' : Hp} (e : LamX.ExtN H H') : TK H H' := fun a xs h => e a _ h (fun ps z => nomatch z)
theorem ext_same {H H' : Hp} (s : Same H H') : LamX.ExtN H H' := fun a o h _ => s a o h
/-- the code objects of has_form and is_belt_triple -/
class TabF (K : PySem.W.Frag) (mg : Str → Option Value) (base : Heap) (cF : outParam Addr) (PT : outParam (Addr × Addr)) : Prop where
  tb : GxR.TabB base mg cF PT.1
  cd : ∀ (f : Addr) (fd : FuncData), Fun K "has_form" "has_form" s_has_form f fd → mg "has_form" = some (.ref f) → fd.code = .ref cF
class TabC (K : PySem.W.Frag) (mg : Str → Option Value) (base : Heap) (cB : outParam Addr) (PT : outParam (Addr × Addr)) : Prop where
  tb : GxR.TabB base mg cB PT.2
  cd : ∀ (f : Addr) (fd : FuncData), Fun K "is_belt_triple" "is_belt_triple" s_is_belt_triple f fd → mg "is_belt_triple" = some (.ref f) → fd.code = .ref cB
/-- a def of which the code object is known -/
theorem ok_code {P : Program} {w : World} {K : PySem.W.Frag} {mg : Str → Option Value} {base : Heap} {x qual : Str} {st : Stmt} {f c : Addr} {fd : FuncData} {N ps : List Str} {k : Nat} {sp : Sp} (F : Fun K x qual st f fd) (hc : fd.code = .ref c) (S : FnScope N ps (defScope st)) (len : ∀ vs H Q E, sp vs H Q E → vs.length = ps.length)
    (hbody : ∀ (A : Around) (outer : List Env) (s : Shared) (H : Hp) (vs : List V) (Q : VK) (E : XK), Room k (A.deeper (envOfC qual (defScope st) s.heap.objs.size f (.ref c))) → sp vs H Q E →
      ∃ t, PSs (cxOf CX0 P w K mg base N qual (defScope st) f (.ref c) A outer s H E).nox (defBody st) t ∧ t { nx := fun _ H' => Q .non H', rt := Q } (L2.start N vs) H) : FnOk P w K mg base CX0 (k + 1) f fd ps sp := by
  obtain ⟨kl, kd, kV, dc, pm, an, cv, ct, ks, rfl, look, cin⟩ := F.ex
  obtain rfl : cv = .ref c := hc
  refine fn_of look cin S len fun A outer s H vs Q E hr now => ?_
  obtain ⟨t, h, q⟩ := hbody A outer s H vs Q E hr now
  exact ⟨t, h.nox, q⟩
/-- a statement that is never come to -/
theorem ps_dead {X : Cx} {st : Stmt} : PS X st (fun _ _ _ => False) := ⟨fun _ _ _ _ _ _ h => h.elim⟩
/-- all, any: over a tuple that the elements leave as it is -/
theorem qt_tup {K : PySem.W.Frag} {a : Addr} {xs : List V} {g : TG} {te : TE} {vs : List Nat} {sgσ : L2.St} {kp : Bool} {H2 : Hp} {Q : VK} (Pv : Nat → Hp → Prop) (h0 : Pv 0 H2) (hl : ∀ i H, i ≤ xs.length → Pv i H → SqT K H a xs)
    (hs : ∀ i x H, xs[i]? = some x → Pv i H → g x sgσ H fun σ2 H3 => wipe σ2 vs = sgσ ∧ te σ2 H3 fun y H4 => ∃ b, y = .bl b ∧ (b ≠ kp → Q (.bl b) H4) ∧ (b = kp → Pv (i + 1) H4)) (hd : ∀ H, Pv xs.length H → Q (.bl kp) H) :
    ∃ W : Nat → Nat → Hp → Prop, (∃ m, W 0 m H2) ∧ ∀ i m H, W i m H →
      ((Itt K a).stop i H ∧ Q (.bl kp) H) ∨ ((Itt K a).go i H ∧ ∃ Nx : Hp → Prop, (∀ H', Nx H' → ∃ m', m' < m ∧ W (i + 1) m' H') ∧ ∀ x H', (Itt K a).yld i H x H' → g x sgσ H' fun σ2 H3 => wipe σ2 vs = sgσ ∧ te σ2 H3 fun y H4 => ∃ b, y = .bl b ∧ (b ≠ kp → Q (.bl b) H4) ∧ (b = kp → Nx H4)) := by
  refine ⟨fun i m H => i + m = xs.length ∧ Pv i H, ⟨xs.length, Nat.zero_add _, h0⟩, fun i m H ⟨total, here⟩ => ?_⟩
  have seen := hl i H (by omega) here
  cases m with
  | zero =>
    have : i = xs.length := by omega
    subst this
    exact .inl ⟨⟨xs, seen, Nat.le_refl _⟩, hd H here⟩
  | succ m =>
    have lt : i < xs.length := by omega
    refine .inr ⟨⟨xs, xs[i], seen, List.getElem?_eq_getElem lt⟩, Pv (i + 1), fun H' p' => ⟨m, Nat.lt_succ_self m, by omega, p'⟩, fun x H' y => ?_⟩
    obtain ⟨rfl, y⟩ := y
    exact hs i x _ (y xs seen) here
section
variable {P : Program} {w : World} {K : PySem.W.Frag} {mg : Str → Option Value} {base : Heap}
def sp_is_whole (K : PySem.W.Frag) : Sp := fun vs H Q _ => ∃ n : Int, vs = [.int n] ∧ Q (.bl true) H
theorem ok_is_whole {f : Addr} {fd : FuncData} (F : Fun K "is_whole" "is_whole" s_is_whole f fd) (T : Top w K mg) : FnOk P w K mg base CX0 1 f fd ["thing"] (sp_is_whole K) := by
  refine F.ok sc_is_whole (fun vs H Q E h => ?_) (fun cdv A outer s H vs Q E hr h => ?_)
  · obtain ⟨n, rfl, _⟩ := h
    rfl
  obtain ⟨n, rfl, q⟩ := h
  refine ⟨_, (pss_one (ps_ret (pe_and (pe_callB (call_isiKK K rfl) (by rfl) T.m_isinstance (by decide +kernel) (pa_cons (pv 0) (pa_cons (pe_bltn (v := .ty "int") (by rfl) T.m_int (by decide +kernel) rfl) pa_nil))) (pe_one (pe_not (pe_callB (call_isiKK K rfl) (by rfl) T.m_isinstance (by decide +kernel) (pa_cons (pv 0) (pa_cons (pe_bltn (v := .ty "bool") (by rfl) T.m_bool (by decide +kernel) rfl) pa_nil)))))))), ?_⟩
  refine ⟨_, rfl, _, _, _, _, true, rfl, .ty "int", .base (.int _), kit_ty (by decide +kernel), _, rfl, if_bl (fun _ => ?_) (fun z => nomatch z)⟩
  exact ⟨_, rfl, _, _, _, _, false, rfl, .ty "bool", .base (.int _), kit_ty (by decide +kernel), _, rfl, q⟩
def sp_is_tuple_of (K : PySem.W.Frag) : Sp := fun vs H Q _ => ∃ (a : Addr) (xs : List V) (k : Nat), vs = [.ref a, nV k] ∧ H a = some (.tup xs) ∧ xs.length = k ∧ Q (.bl true) H
theorem ok_is_tuple_of {f : Addr} {fd : FuncData} (F : Fun K "is_tuple_of" "is_tuple_of" s_is_tuple_of f fd) (T : Top w K mg) : FnOk P w K mg base CX0 1 f fd ["thing", "many"] (sp_is_tuple_of K) := by
  refine F.ok sc_is_tuple_of (fun vs H Q E h => ?_) (fun cdv A outer s H vs Q E hr h => ?_)
  · obtain ⟨a, xs, k, rfl, _⟩ := h
    rfl
  obtain ⟨a, xs, k, rfl, ha, lk, q⟩ := h
  refine ⟨_, (pss_one (ps_ret (pe_and (pe_callB (call_isiKK K rfl) (by rfl) T.m_isinstance (by decide +kernel) (pa_cons (pv 0) (pa_cons (pe_bltn (v := .ty "tuple") (by rfl) T.m_tuple (by decide +kernel) rfl) pa_nil))) (pe_one (pe_cmpR op_eq (pe_callB (call_len_seqK K rfl) (by rfl) T.m_len (by decide +kernel) (pa_cons (pv 0) pa_nil)) (pv 1) (nomark _)))))), ?_⟩
  refine ⟨_, rfl, _, _, _, _, true, rfl, .ty "tuple", .base (.tup ha), kit_ty (by decide +kernel), _, rfl, if_bl (fun _ => ?_) (fun z => nomatch z)⟩
  refine ⟨_, rfl, a, _, rfl, .inr (SqT.of ha), _, rfl, rfl, ?_⟩
  rw [lk, decide_eq_true (show V.int ((k : Nat) : Int) = nV k from rfl)]
  exact q
def sp_is_hand_pair (K : PySem.W.Frag) : Sp := fun vs H Q _ => ∃ (t : Addr) (x : V) (n : Int), vs = [.ref t] ∧ H t = some (.tup [x, .int n]) ∧ Q (.bl true) H
theorem ok_is_hand_pair {f : Addr} {fd : FuncData} (F : Fun K "is_hand_pair" "is_hand_pair" s_is_hand_pair f fd) (T : Top w K mg) : FnOk P w K mg base CX0 2 f fd ["hand"] (sp_is_hand_pair K) := by
  obtain ⟨f_is_tuple_of, fd_is_tuple_of, F_is_tuple_of, b_is_tuple_of, m_is_tuple_of⟩ := T.d_is_tuple_of
  have G_is_tuple_of := ok_is_tuple_of (P := P) (w := w) (base := base) F_is_tuple_of T
  obtain ⟨f_is_whole, fd_is_whole, F_is_whole, b_is_whole, m_is_whole⟩ := T.d_is_whole
  have G_is_whole := ok_is_whole (P := P) (w := w) (base := base) F_is_whole T
  refine F.ok sc_is_hand_pair (fun vs H Q E h => ?_) (fun cdv A outer s H vs Q E hr h => ?_)
  · obtain ⟨t, x, n, rfl, _⟩ := h
    rfl
  obtain ⟨t, x, n, rfl, ht, q⟩ := h
  refine ⟨_, (pss_one (ps_ret (pe_and (pe_call G_is_tuple_of (hr.mono (by decide)) (by rfl) m_is_tuple_of F_is_tuple_of.kp b_is_tuple_of .nil pass0 (pa_cons (pv 0) (pa_cons pe_int pa_nil))) (pe_one (pe_call G_is_whole (hr.mono (by decide)) (by rfl) m_is_whole F_is_whole.kp b_is_whole .nil pass0 (pa_cons (pe_ix (ix_tupK K rfl) (pv 0) pe_int (fun _ _ => rfl)) pa_nil)))))), ?_⟩
  refine ⟨_, rfl, t, _, 2, rfl, ht, rfl, _, rfl, if_bl (fun _ => ?_) (fun z => nomatch z)⟩
  exact ⟨_, rfl, t, _, _, _, rfl, rfl, SqT.of ht, atI_nat (j := 1) rfl, n, rfl, q⟩
variable {cF cB : Addr} {PT : Addr × Addr} [TF : TabF K mg base cF PT] [TC : TabC K mg base cB PT]
section
omit TF
include TC
def sp_is_belt_triple (K : PySem.W.Frag) (PT : Addr × Addr) : Sp := fun vs H Q _ => ∃ (t g : Addr) (a b : Int) (ns : List Int), vs = [.ref t] ∧ H t = some (.tup [.int a, .int b, .ref g]) ∧ H g = some (.tup (ns.map V.int)) ∧ Tb2 PT H ∧ ∀ H', LamX.ExtN H H' → Tb2 PT H' → Q (.bl true) H'
theorem ok_is_belt_triple {f : Addr} {fd : FuncData} (F : Fun K "is_belt_triple" "is_belt_triple" s_is_belt_triple f fd) (hcd : fd.code = .ref cB) (T : Top w K mg) : FnOk P w K mg base CX0 3 f fd ["belt"] (sp_is_belt_triple K PT) := by
  obtain ⟨f_is_whole, fd_is_whole, F_is_whole, b_is_whole, m_is_whole⟩ := T.d_is_whole
  have G_is_whole := ok_is_whole (P := P) (w := w) (base := base) F_is_whole T
  obtain ⟨f_is_tuple_of, fd_is_tuple_of, F_is_tuple_of, b_is_tuple_of, m_is_tuple_of⟩ := T.d_is_tuple_of
  have G_is_tuple_of := ok_is_tuple_of (P := P) (w := w) (base := base) F_is_tuple_of T
  refine ok_code F hcd sc_is_belt_triple (fun vs H Q E h => ?_) (fun A outer s H vs Q E hr h => ?_)
  · obtain ⟨t, g, a, b, ns, rfl, _⟩ := h
    rfl
  obtain ⟨t, g, a, b, ns, rfl, ht, hg, tb, q⟩ := h
  refine ⟨_, (pss_cons (ps_if (PW.pt (pw_or (pt_not (pt_val (pe_call G_is_tuple_of (hr.mono (by decide)) (by rfl) m_is_tuple_of F_is_tuple_of.kp b_is_tuple_of .nil pass0 (pa_cons (pv 0) (pa_cons pe_int pa_nil))))) (pw_or1 (pt_not (pt_val (pe_callB (call_isiKK K rfl) (by rfl) T.m_isinstance (by decide +kernel) (pa_cons (pe_ix (ix_tupK K rfl) (pv 0) pe_int (fun _ _ => rfl)) (pa_cons (pe_bltn (v := .ty "tuple") (by rfl) T.m_tuple (by decide +kernel) rfl) pa_nil)))))))) (pss_one (ps_ret pe_bl)) pss_nil)
      (pss_one (ps_ret (pe_and (pe_call G_is_whole (hr.mono (by decide)) (by rfl) m_is_whole F_is_whole.kp b_is_whole .nil pass0 (pa_cons (pe_ix (ix_tupK K rfl) (pv 0) pe_int (fun _ _ => rfl)) pa_nil)) (pe_and (pe_call G_is_whole (hr.mono (by decide)) (by rfl) m_is_whole F_is_whole.kp b_is_whole .nil pass0 (pa_cons (pe_ix (ix_tupK K rfl) (pv 0) pe_int (fun _ _ => rfl)) pa_nil)) (pe_one (pe_allG (k := 1) (N' := ["thing"]) (sg := (fun _ => List.replicate 1 none)) (vs := [0]) (g := gName 0) (hr.mono (by decide)) rfl (by rfl) T.m_all (by decide +kernel) TC.tb rfl (genN_none rfl rfl (by decide +kernel) rfl (by decide +kernel)) (pi_tupK K rfl (pe_ix (ix_tupK K rfl) (pv 0) pe_int (fun _ _ => rfl))) (fun _ => rfl) (fun _ _ _ _ _ _ _ _ _ hr => (pg_name (i := 0) (show List.Nodup (["thing"] : List Str) from by decide +kernel) rfl (Or.inl rfl))) (fun _ _ _ _ _ _ _ _ _ hr => (pe_call G_is_whole (hr.mono (by decide)) (by rfl) m_is_whole F_is_whole.kp b_is_whole .nil pass0 (pa_cons (pv 0) pa_nil)))))))))), ?_⟩
  refine ⟨_, rfl, t, _, 3, rfl, ht, rfl, _, rfl, if_bl (fun z => nomatch z) (fun _ => ?_)⟩
  refine ⟨_, rfl, t, _, _, _, rfl, rfl, SqT.of ht, atI_nat (j := 2) rfl, _, _, _, _, true, rfl, .ty "tuple", .base (.tup hg), kit_ty (by decide +kernel), _, rfl, if_bl (fun z => nomatch z) (fun _ => ?_)⟩
  refine ⟨_, rfl, t, _, _, _, rfl, rfl, SqT.of ht, atI_nat (j := 0) rfl, a, rfl, _, rfl, if_bl (fun _ => ?_) (fun z => nomatch z)⟩
  refine ⟨_, rfl, t, _, _, _, rfl, rfl, SqT.of ht, atI_nat (j := 1) rfl, b, rfl, _, rfl, if_bl (fun _ => ?_) (fun z => nomatch z)⟩
  refine ⟨_, rfl, t, _, _, _, rfl, rfl, SqT.of ht, atI_nat (j := 2) rfl, g, rfl, ⟨_, SqT.of hg⟩, tb.2, fun H2 t2 => ?_⟩
  have e2 := tabbed_ext tb.2 t2
  have g2 := tk_ext e2 _ _ hg
  refine qt_tup (K := K) (a := g) (xs := ns.map V.int) (fun i H5 => H5 = H2) rfl (fun i H5 _ e => by subst e; exact SqT.of g2) (fun i x H5 hx e => ?_) fun H5 e => ?_
  · subst e
    rw [List.getElem?_map] at hx
    cases hn : ns[i]? with
    | none => rw [hn] at hx; cases hx
    | some n =>
      rw [hn] at hx
      obtain rfl : V.int n = x := Option.some.inj hx
      exact ⟨rfl, _, rfl, n, rfl, true, rfl, (fun z => absurd rfl z), fun _ => rfl⟩
  · subst e
    exact q _ e2 (tb.tab2 t2)
end
include TF TC
def sp_has_form (K : PySem.W.Frag) (PT : Addr × Addr) : Sp := fun vs H Q _ => ∃ (r : Addr) (hs : List HR) (bs : List BR), vs = [.ref r] ∧ RoomAt H r hs bs ∧ Tb2 PT H ∧ ∀ H', LamX.ExtN H H' → Tb2 PT H' → Q (.bl true) H'
theorem ok_has_form {f : Addr} {fd : FuncData} (F : Fun K "has_form" "has_form" s_has_form f fd) (hcd : fd.code = .ref cF) (T : Top w K mg) : FnOk P w K mg base CX0 5 f fd ["room"] (sp_has_form K PT) := by
  obtain ⟨f_is_tuple_of, fd_is_tuple_of, F_is_tuple_of, b_is_tuple_of, m_is_tuple_of⟩ := T.d_is_tuple_of
  have G_is_tuple_of := ok_is_tuple_of (P := P) (w := w) (base := base) F_is_tuple_of T
  obtain ⟨f_is_hand_pair, fd_is_hand_pair, F_is_hand_pair, b_is_hand_pair, m_is_hand_pair⟩ := T.d_is_hand_pair
  have G_is_hand_pair := ok_is_hand_pair (P := P) (w := w) (base := base) F_is_hand_pair T
  obtain ⟨f_is_belt_triple, fd_is_belt_triple, F_is_belt_triple, b_is_belt_triple, m_is_belt_triple⟩ := T.d_is_belt_triple
  have G_is_belt_triple := ok_is_belt_triple (P := P) (w := w) (base := base) F_is_belt_triple (TC.cd _ _ F_is_belt_triple m_is_belt_triple) T
  refine ok_code F hcd sc_has_form (fun vs H Q E h => ?_) (fun A outer s H vs Q E hr h => ?_)
  · obtain ⟨r, hs, bs, rfl, _⟩ := h
    rfl
  obtain ⟨r, hs, bs, rfl, hR, tb, q⟩ := h
  obtain ⟨ha, ba, hv, bv, er, eh, eb, alh, alb⟩ := hR.ex
  refine ⟨_, (pss_cons (ps_if (pt_not (pt_val (pe_call G_is_tuple_of (hr.mono (by decide)) (by rfl) m_is_tuple_of F_is_tuple_of.kp b_is_tuple_of .nil pass0 (pa_cons (pv 0) (pa_cons pe_int pa_nil))))) (pss_one (ps_ret pe_bl)) pss_nil)
      (pss_cons (ps_asg (pv 0) (pg_tupK K rfl rfl (pgs_cons (pg_name (i := 1) sc_has_form.nd rfl (Or.inl rfl)) (pgs_cons (pg_name (i := 2) sc_has_form.nd rfl (Or.inl rfl)) pgs_nil))))
      (pss_cons (ps_if (PW.pt (pw_or (pt_not (pt_val (pe_callB (call_isiKK K rfl) (by rfl) T.m_isinstance (by decide +kernel) (pa_cons (pv 1) (pa_cons (pe_bltn (v := .ty "tuple") (by rfl) T.m_tuple (by decide +kernel) rfl) pa_nil))))) (pw_or1 (pt_not (pt_val (pe_callB (call_isiKK K rfl) (by rfl) T.m_isinstance (by decide +kernel) (pa_cons (pv 2) (pa_cons (pe_bltn (v := .ty "tuple") (by rfl) T.m_tuple (by decide +kernel) rfl) pa_nil)))))))) (pss_one (ps_ret pe_bl)) pss_nil)
      (pss_one (ps_ret (pe_and (pe_allG (k := 2) (N' := ["hand"]) (sg := (fun _ => List.replicate 1 none)) (vs := [0]) (g := gName 0) (hr.mono (by decide)) rfl (by rfl) T.m_all (by decide +kernel) TF.tb rfl (genN_none rfl rfl (by decide +kernel) rfl (by decide +kernel)) (pi_tupK K rfl (pv 1)) (fun _ => rfl) (fun _ _ _ _ _ _ _ _ _ hr => (pg_name (i := 0) (show List.Nodup (["hand"] : List Str) from by decide +kernel) rfl (Or.inl rfl))) (fun _ _ _ _ _ _ _ _ _ hr => (pe_call G_is_hand_pair (hr.mono (by decide)) (by rfl) m_is_hand_pair F_is_hand_pair.kp b_is_hand_pair .nil pass0 (pa_cons (pv 0) pa_nil)))) (pe_one (pe_allG (k := 3) (N' := ["belt"]) (sg := (fun _ => List.replicate 1 none)) (vs := [0]) (g := gName 0) (hr.mono (by decide)) rfl (by rfl) T.m_all (by decide +kernel) TF.tb rfl (genN_none rfl rfl (by decide +kernel) rfl (by decide +kernel)) (pi_tupK K rfl (pv 2)) (fun _ => rfl) (fun _ _ _ _ _ _ _ _ _ hr => (pg_name (i := 0) (show List.Nodup (["belt"] : List Str) from by decide +kernel) rfl (Or.inl rfl))) (fun _ _ _ _ _ _ _ _ _ hr => (pe_call G_is_belt_triple (hr.mono (by decide)) (by rfl) m_is_belt_triple F_is_belt_triple.kp b_is_belt_triple .nil pass0 (pa_cons (pv 0) pa_nil))))))))))), ?_⟩
  refine ⟨_, rfl, r, _, 2, rfl, er, rfl, _, rfl, if_bl (fun z => nomatch z) (fun _ => ?_)⟩
  refine ⟨_, rfl, r, _, rfl, SqT.of er, rfl, _, _, rfl, _, _, rfl, rfl, ?_⟩
  refine ⟨_, rfl, _, _, _, _, true, rfl, .ty "tuple", .base (.tup eh), kit_ty (by decide +kernel), _, rfl, if_bl (fun z => nomatch z) (fun _ => ?_)⟩
  refine ⟨_, rfl, _, _, _, _, true, rfl, .ty "tuple", .base (.tup eb), kit_ty (by decide +kernel), _, rfl, if_bl (fun z => nomatch z) (fun _ => ?_)⟩
  refine ⟨_, rfl, ha, rfl, ⟨_, SqT.of eh⟩, tb.1, fun H2 t2 => ?_⟩
  have e2 := tabbed_ext tb.1 t2
  have tb2 := tb.tab1 t2
  refine qt_tup (K := K) (a := ha) (xs := hv) (kp := true) (Q := fun x H1 => ∃ c, x = V.bl c ∧ if c = true then tQuant true PT.1 (iTup K (tVar 2)) (fun _ => List.replicate 1 none) (gName 0) (tCall (sp_is_belt_triple K PT) [] E0 (tCons (tVar 0) tNil)) [0] ((List.set (L2.start N_has_form [V.ref r]) 1 (some (V.ref ha))).set 2 (some (V.ref ba))) H1 Q else Q (.bl false) H1) (fun i H5 => H5 = H2) rfl (fun i H5 _ e => e ▸ SqT.of (tk_ext e2 _ _ eh)) (fun i x H5 hx e => ?_) fun H5 e => ?_
  · subst e
    obtain ⟨h, _, t, rr, rfl, e3, e4⟩ := alh.getL hx
    exact ⟨rfl, _, rfl, t, _, _, rfl, tk_ext e2 _ _ e3, true, rfl, (fun z => absurd rfl z), fun _ => rfl⟩
  subst e
  refine ⟨_, rfl, if_bl (fun _ => ?_) (fun z => nomatch z)⟩
  refine ⟨_, rfl, ba, rfl, ⟨_, SqT.of (tk_ext e2 _ _ eb)⟩, tb2.1, fun H3 t3 => ?_⟩
  have e3 := e2.trans (tabbed_ext tb2.1 t3)
  have tb3 := tb2.tab1 t3
  refine qt_tup (K := K) (a := ba) (xs := bv) (fun i H6 => LamX.ExtN H H6 ∧ Tb2 PT H6) ⟨e3, tb3⟩ (fun i H6 _ ⟨e, _⟩ => SqT.of (tk_ext e _ _ eb)) (fun i x H6 hx ⟨e6, tb6⟩ => ?_) fun H6 ⟨e6, tb6⟩ => q _ e6 tb6
  obtain ⟨b, _, t, g, rfl, e4, e5⟩ := alb.getL hx
  exact ⟨rfl, _, rfl, t, g, _, _, _, rfl, tk_ext e6 _ _ e4, tk_ext e6 _ _ e5, tb6, fun H7 e7 tb7 => ⟨true, rfl, (fun z => absurd rfl z), fun _ => ⟨e6.trans e7, tb7⟩⟩⟩
end
theorem nine_eleven {z : Str} (h : z ∈ nine) : z ∈ eleven := by
  unfold nine at h
  simp only [List.mem_cons, List.not_mem_nil, or_false] at h
  rcases h with h | h | h | h | h | h | h | h | h <;> rw [h] <;> decide +kernel
theorem GoodHand.eleven {h : HR} (g : GoodHand h) : h.wd ∈ Mine.eleven := by
  rcases g.1 with k | k
  · exact nine_eleven k.wd
  · rcases k.1 with z | z <;> rw [z] <;> decide +kernel
theorem needs_needN {z : Str} (h : z ∈ eleven) : needs z = needN z := by
  unfold eleven at h
  simp only [List.mem_cons, List.not_mem_nil, or_false] at h
  rcases h with h | h | h | h | h | h | h | h | h | h | h <;> rw [h] <;> decide +kernel
theorem GoodHand.lone {h : HR} (g : GoodHand h) : (h.no.isSome = true ↔ h.wd = "times" ∨ h.wd = "always") := by
  rcases g.1 with k | k
  · exact k.no
  · rw [k.2.1]
    refine ⟨(fun z => nomatch z), fun z => ?_⟩
    rcases k.1 with y | y <;> rw [y] at z <;> rcases z with z | z <;> exact absurd z (by decide +kernel)
section
variable {P : Program} {w : World} {K : PySem.W.Frag} {mg : Str → Option Value} {base : Heap}
def sp_is_rule (K : PySem.W.Frag) : Sp := fun vs H Q _ => ∃ (rr : Addr) (h : HR), vs = [.ref rr] ∧ H rr = some (.tup (ruleL h)) ∧ GoodHand h ∧ Q (.bl true) H
theorem ok_is_rule {f : Addr} {fd : FuncData} (F : Fun K "is_rule" "is_rule" s_is_rule f fd) (T : Top w K mg) : FnOk P w K mg base CX0 2 f fd ["thing"] (sp_is_rule K) := by
  obtain ⟨f_is_whole, fd_is_whole, F_is_whole, b_is_whole, m_is_whole⟩ := T.d_is_whole
  have G_is_whole := ok_is_whole (P := P) (w := w) (base := base) F_is_whole T
  refine F.ok sc_is_rule (fun vs H Q E h => ?_) (fun cdv A outer s H vs Q E hr h => ?_)
  · obtain ⟨rr, h, rfl, _⟩ := h
    rfl
  obtain ⟨rr, h, rfl, hr0, g, q⟩ := h
  obtain ⟨aN, mN, hN⟩ := T.x_needs
  obtain ⟨aW, mW, hW⟩ := T.x_with
  obtain ⟨es, nn, hKD⟩ := hN.dict
  refine ⟨_, (pss_cons (ps_if (PW.pt (pw_or (pt_not (pt_val (pe_callB (call_isiKK K rfl) (by rfl) T.m_isinstance (by decide +kernel) (pa_cons (pv 0) (pa_cons (pe_bltn (v := .ty "tuple") (by rfl) T.m_tuple (by decide +kernel) rfl) pa_nil))))) (pw_or1 (pt_cmpR op_lt (pe_callB (call_len_seqK K rfl) (by rfl) T.m_len (by decide +kernel) (pa_cons (pv 0) pa_nil)) pe_int (nomark _))))) (pss_one (ps_ret pe_bl)) pss_nil)
      (pss_cons (ps_set (i := 1) sc_is_rule.nd rfl (Or.inl rfl) (pe_ix (ix_tupK K rfl) (pv 0) pe_int (fun _ _ => rfl)))
      (pss_cons (ps_if (PW.pt (pw_or (pt_not (pt_val (pe_callB (call_isiKK K rfl) (by rfl) T.m_isinstance (by decide +kernel) (pa_cons (pv 1) (pa_cons (pe_bltn (v := .ty "str") (by rfl) T.m_str (by decide +kernel) rfl) pa_nil))))) (pw_or1 (pt_cmpR (op_notIn_kd hKD) (pv 1) (pe_glob (v := .ref aN) (by rfl) mN rfl) (by with_unfolding_all rfl))))) (pss_one (ps_ret pe_bl)) pss_nil)
      (pss_cons (ps_if (pt_cmpR (op_in_seqK K rfl) (pv 1) (pe_glob (v := .ref aW) (by rfl) mW rfl) (by with_unfolding_all rfl)) (pss_one (ps_ret (pe_and (pe_cmpR op_eq (pe_callB (call_len_seqK K rfl) (by rfl) T.m_len (by decide +kernel) (pa_cons (pv 0) pa_nil)) pe_int (nomark _)) (pe_one (pe_call G_is_whole (hr.mono (by decide)) (by rfl) m_is_whole F_is_whole.kp b_is_whole .nil pass0 (pa_cons (pe_ix (ix_tupK K rfl) (pv 0) pe_int (fun _ _ => rfl)) pa_nil)))))) pss_nil)
      (pss_one (ps_ret (pe_cmpR op_eq (pe_callB (call_len_seqK K rfl) (by rfl) T.m_len (by decide +kernel) (pa_cons (pv 0) pa_nil)) pe_int (nomark _)))))))), ?_⟩
  refine ⟨_, rfl, _, _, _, _, true, rfl, .ty "tuple", .base (.tup hr0), kit_ty (by decide +kernel), _, rfl, if_bl (fun z => nomatch z) (fun _ => ?_)⟩
  refine ⟨_, rfl, rr, _, rfl, .inr (SqT.of hr0), _, _, rfl, rfl, _, rfl, if_bl (fun z => ?_) (fun _ => ?_)⟩
  · have z := of_decide_eq_true z
    rw [List.length_cons] at z
    omega
  refine ⟨_, rfl, rr, _, _, _, rfl, rfl, SqT.of hr0, atI_nat (j := 0) rfl, ?_⟩
  refine ⟨_, rfl, _, _, _, _, true, rfl, .ty "str", .base (.str _), kit_ty (by decide +kernel), _, rfl, if_bl (fun z => nomatch z) (fun _ => ?_)⟩
  obtain ⟨t, hy⟩ := hN.yes h.wd g.eleven
  refine ⟨_, rfl, h.wd, _, rfl, rfl, hy, _, rfl, if_bl (fun y => nomatch y) (fun _ => ?_)⟩
  have lone := g.lone
  refine ⟨_, rfl, aW, _, rfl, .inr (hW _), rfl, rfl, _, rfl, if_in (zs := ["times", "always"]) (fun e => ?_) (fun e => ?_)⟩
  · have e2 : h.wd = "times" ∨ h.wd = "always" := by simpa using e
    have so := lone.mpr e2
    obtain ⟨wd, no, mom⟩ := h
    cases no with
    | none => cases so
    | some n =>
      refine ⟨_, rfl, rr, _, rfl, .inr (SqT.of hr0), rfl, _, rfl, if_bl (fun _ => ?_) (fun z => nomatch z)⟩
      exact ⟨_, rfl, rr, _, _, _, rfl, rfl, SqT.of hr0, atI_nat (j := 1) rfl, n, rfl, q⟩
  · have e2 : ¬ (h.wd = "times" ∨ h.wd = "always") := by simpa using e
    obtain ⟨wd, no, mom⟩ := h
    cases no with
    | some n => exact absurd (lone.mp rfl) e2
    | none => exact ⟨_, rfl, rr, _, rfl, .inr (SqT.of hr0), rfl, q⟩
def sp_needs (K : PySem.W.Frag) : Sp := fun vs H Q _ => ∃ (r : Addr) (z : Str) (l : List V), vs = [.ref r] ∧ H r = some (.tup (.str z :: l)) ∧ z ∈ eleven ∧ Q (.int (needN z)) H
theorem ok_needs {f : Addr} {fd : FuncData} (F : Fun K "needs" "needs" s_needs f fd) (T : Top w K mg) : FnOk P w K mg base CX0 1 f fd ["rule"] (sp_needs K) := by
  refine F.ok sc_needs (fun vs H Q E h => ?_) (fun cdv A outer s H vs Q E hr h => ?_)
  · obtain ⟨r, z, l, rfl, _⟩ := h
    rfl
  obtain ⟨r, z, l, rfl, hr0, hz, q⟩ := h
  obtain ⟨aN, mN, hN⟩ := T.x_needs
  obtain ⟨es, nn, hKD⟩ := hN.dict
  obtain ⟨t, hy⟩ := hN.yes z hz
  refine ⟨_, (pss_one (ps_ret (pe_ix ix_kdict (pe_glob (v := .ref aN) (by rfl) mN rfl) (pe_ix (ix_tupK K rfl) (pv 0) pe_int (fun _ _ => rfl)) (fun _ _ => rfl)))), ?_⟩
  exact ⟨_, rfl, r, _, _, _, rfl, rfl, SqT.of hr0, atI_nat (j := 0) rfl, aN, z, .int (needN z), rfl, rfl, ⟨es, nn, _, hKD.at_, hKD.lit, hy, ⟨t, rfl⟩⟩, q⟩
def sp_wrong_hand (K : PySem.W.Frag) : Sp := fun vs H Q _ => ∃ (r : Addr) (hs : List HR) (bs : List BR), vs = [.ref r] ∧ RoomAt H r hs bs ∧ RoomOk hs bs ∧ ∀ H', Same H H' → Q .non H'
theorem ok_wrong_hand {f : Addr} {fd : FuncData} (F : Fun K "wrong_hand" "wrong_hand" s_wrong_hand f fd) (T : Top w K mg) : FnOk P w K mg base CX0 3 f fd ["room"] (sp_wrong_hand K) := by
  obtain ⟨f_is_rule, fd_is_rule, F_is_rule, b_is_rule, m_is_rule⟩ := T.d_is_rule
  have G_is_rule := ok_is_rule (P := P) (w := w) (base := base) F_is_rule T
  refine F.ok sc_wrong_hand (fun vs H Q E h => ?_) (fun cdv A outer s H vs Q E hr h => ?_)
  · obtain ⟨r, hs, bs, rfl, _⟩ := h
    rfl
  obtain ⟨r, hs, bs, rfl, hR, ok, q⟩ := h
  obtain ⟨ha, ba, hv, bv, er, eh, eb, alh, alb⟩ := hR.ex
  obtain ⟨aI, mI, hI⟩ := T.x_in
  obtain ⟨aO, mO, hO⟩ := T.x_out
  refine ⟨_, (pss_cons (ps_for PassesOwn.never rfl (pi_enumT K rfl (by rfl) T.m_enumerate (pa_cons (pe_ix (ix_tupK K rfl) (pv 0) pe_int (fun _ _ => rfl)) pa_nil)) (pg_tupK K rfl rfl (pgs_cons (pg_name (i := 1) sc_wrong_hand.nd rfl (Or.inl rfl)) (pgs_cons (pg_tupK K rfl rfl (pgs_cons (pg_name (i := 2) sc_wrong_hand.nd rfl (Or.inl rfl)) (pgs_cons (pg_name (i := 3) sc_wrong_hand.nd rfl (Or.inl rfl)) pgs_nil))) pgs_nil)))
        (pss_cons (ps_if (PW.pt (pw_or (pt_not (pt_val (pe_call G_is_rule (hr.mono (by decide)) (by rfl) m_is_rule F_is_rule.kp b_is_rule .nil pass0 (pa_cons (pv 2) pa_nil)))) (pw_or1 (pt_cmpR op_lt (pv 3) pe_int (nomark _))))) (pss_one (ps_ret (pv 1))) pss_nil)
      (pss_one (ps_if (PW.pt (pw_and (pt_cmpR op_ne (pv 3) pe_int (nomark _)) (pw_and1 (pt_cmpR (op_inDTK K rfl (hu65 hr)) (pv 2) (pe_tup (pa_cons (pe_glob (v := .ref aI) (by rfl) mI rfl) (pa_cons (pe_glob (v := .ref aO) (by rfl) mO rfl) pa_nil))) (by with_unfolding_all rfl))))) (pss_one (ps_ret (pv 1))) pss_nil))))
      (pss_one (ps_ret pe_non))), ?_⟩
  refine ⟨_, rfl, r, _, _, _, rfl, rfl, SqT.of er, atI_nat (j := 0) rfl, ha, hv, rfl, SqT.of eh, for_it (J := IteT K ha hv) (n := hv.length) (fun i σ H5 => ∃ v1 v2 v3 : Option V, σ = [some (.ref r), v1, v2, v3] ∧ Same H H5) ⟨_, _, _, rfl, fun _ _ e => e⟩ ?_ ?_ ?_ ?_⟩
  · rintro i σ H5 hi ⟨v1, v2, v3, rfl, s5⟩
    exact ⟨SqT.of (s5 _ _ eh), hi⟩
  · rintro σ H5 ⟨v1, v2, v3, rfl, s5⟩
    exact ⟨SqT.of (s5 _ _ eh), rfl⟩
  · rintro i x σ H5 H6 hi ⟨v1, v2, v3, rfl, s5⟩ ⟨t, y, rfl, nt, rfl, ey⟩
    obtain ⟨h, eh2, t2, rr, rfl, e1, e2⟩ := alh.getL ey
    have gh := ok.good h (List.mem_of_getElem? eh2)
    have s6 := s5.trans (same_new (o := .tup [V.int ((i : Nat) : Int), V.ref t2]) nt)
    refine ⟨t, _, rfl, SqT.of upd_same, rfl, _, _, rfl, _, _, rfl, t2, _, rfl, SqT.of (s6 _ _ e1), rfl, _, _, rfl, _, _, rfl, rfl, rfl, ?_⟩
    refine ⟨_, rfl, rr, h, rfl, s6 _ _ e2, gh, _, rfl, if_bl (fun z => nomatch z) (fun _ => ?_)⟩
    refine ⟨_, rfl, _, _, rfl, rfl, _, rfl, if_bl (fun z => ?_) (fun _ => ?_)⟩
    · have := of_decide_eq_true z
      have := gh.2.1
      omega
    refine ⟨_, rfl, rfl, _, rfl, if_bl (fun e => ?_) (fun _ => ⟨_, _, _, rfl, s6⟩)⟩
    have m0 : h.mom ≠ 0 := fun z => by
      rw [z] at e
      exact absurd e (by decide)
    refine ⟨_, rfl, (by show 2 ≤ sizeLine; decide), fun p np => ?_⟩
    have s7 := same_new (o := .tup [V.ref aI, V.ref aO]) np
    refine ⟨.tuple (ruleD h), [.tuple [.str "in"], .tuple [.str "out"]], rule_dp (s7 _ _ (s6 _ _ e2)), .tup (SqT.of upd_same) (.cons (.tup (hI _) (.cons (.str _) .nil)) (.cons (.tup (hO _) (.cons (.str _) .nil)) .nil)), rule_shaped gh.lay, by decide +kernel, _, rfl, ?_⟩
    have val : ([PyData.tuple [.str "in"], .tuple [.str "out"]].any fun z => PyData.eqv z (.tuple (ruleD h))) = false := by
      rw [List.any_cons, List.any_cons, List.any_nil, Bool.or_false, one_eqv, one_eqv, gh.door "in" (.inl rfl), gh.door "out" (.inr rfl)]
      rw [decide_eq_false fun z => m0 (gh.mom0 (.inl z)), decide_eq_false fun z => m0 (gh.mom0 (.inr z))]
      rfl
    rw [val]
    exact if_bl (fun z => nomatch z) (fun _ => ⟨_, _, _, rfl, s6.trans s7⟩)
  · rintro σ H5 ⟨v1, v2, v3, rfl, s5⟩
    exact q _ s5
def sp_wrong_belt (K : PySem.W.Frag) : Sp := fun vs H Q _ => ∃ (r : Addr) (hs : List HR) (bs : List BR), vs = [.ref r] ∧ RoomAt H r hs bs ∧ RoomOk hs bs ∧ ∀ H', Same H H' → Q .non H'
theorem ok_wrong_belt {f : Addr} {fd : FuncData} (F : Fun K "wrong_belt" "wrong_belt" s_wrong_belt f fd) (T : Top w K mg) : FnOk P w K mg base CX0 1 f fd ["room"] (sp_wrong_belt K) := by
  refine F.ok sc_wrong_belt (fun vs H Q E h => ?_) (fun cdv A outer s H vs Q E hr h => ?_)
  · obtain ⟨r, hs, bs, rfl, _⟩ := h
    rfl
  obtain ⟨r, hs, bs, rfl, hR, ok, q⟩ := h
  obtain ⟨ha, ba, hv, bv, er, eh, eb, alh, alb⟩ := hR.ex
  have lhv := alh.length
  obtain ⟨aO, mO, hO⟩ := T.x_out
  refine ⟨_, (pss_cons (ps_asg (pv 0) (pg_tupK K rfl rfl (pgs_cons (pg_name (i := 1) sc_wrong_belt.nd rfl (Or.inl rfl)) (pgs_cons (pg_name (i := 2) sc_wrong_belt.nd rfl (Or.inl rfl)) pgs_nil))))
      (pss_cons (ps_for PassesOwn.never rfl (pi_enumT K rfl (by rfl) T.m_enumerate (pa_cons (pv 2) pa_nil)) (pg_tupK K rfl rfl (pgs_cons (pg_name (i := 3) sc_wrong_belt.nd rfl (Or.inl rfl)) (pgs_cons (pg_tupK K rfl rfl (pgs_cons (pg_name (i := 4) sc_wrong_belt.nd rfl (Or.inl rfl)) (pgs_cons (pg_name (i := 5) sc_wrong_belt.nd rfl (Or.inl rfl)) (pgs_cons (pg_name (i := 6) sc_wrong_belt.nd rfl (Or.inl rfl)) pgs_nil)))) pgs_nil)))
        (pss_cons (ps_if (PW.pt (pw_or (pt_not (pt_chain op_le op_lt pe_int (pv 4) (pe_callB (call_len_seqK K rfl) (by rfl) T.m_len (by decide +kernel) (pa_cons (pv 1) pa_nil)))) (pw_or1 (pt_not (pt_chain op_le op_lt pe_int (pv 5) (pe_callB (call_len_seqK K rfl) (by rfl) T.m_len (by decide +kernel) (pa_cons (pv 1) pa_nil))))))) (pss_one (ps_ret (pv 3))) pss_nil)
      (pss_one (ps_if (pt_cmpR (op_eqDK K rfl hr.units) (pe_ix (ix_tupK K rfl) (pe_ix (ix_tupK K rfl) (pv 1) (pv 4) (fun _ _ => rfl)) pe_int (fun _ _ => rfl)) (pe_glob (v := .ref aO) (by rfl) mO rfl) (nomark _)) (pss_one (ps_ret (pv 3))) pss_nil))))
      (pss_one (ps_ret pe_non)))), ?_⟩
  refine ⟨_, rfl, r, _, rfl, SqT.of er, rfl, _, _, rfl, _, _, rfl, rfl, ?_⟩
  refine ⟨_, rfl, ba, bv, rfl, SqT.of eb, for_it (J := IteT K ba bv) (n := bv.length) (fun i σ H5 => ∃ v3 v4 v5 v6 : Option V, σ = [some (.ref r), some (.ref ha), some (.ref ba), v3, v4, v5, v6] ∧ Same H H5) ⟨_, _, _, _, rfl, fun _ _ e => e⟩ ?_ ?_ ?_ ?_⟩
  · rintro i σ H5 hi ⟨v3, v4, v5, v6, rfl, s5⟩
    exact ⟨SqT.of (s5 _ _ eb), hi⟩
  · rintro σ H5 ⟨v3, v4, v5, v6, rfl, s5⟩
    exact ⟨SqT.of (s5 _ _ eb), rfl⟩
  · rintro i x σ H5 H6 hi ⟨v3, v4, v5, v6, rfl, s5⟩ ⟨t, y, rfl, nt, rfl, ey⟩
    obtain ⟨b, eb2, t2, g, rfl, e1, e2⟩ := alb.getL ey
    have mb := List.mem_of_getElem? eb2
    obtain ⟨n1, n2⟩ := ok.ends b mb
    have s6 := s5.trans (same_new (o := .tup [V.int ((i : Nat) : Int), V.ref t2]) nt)
    refine ⟨t, _, rfl, SqT.of upd_same, rfl, _, _, rfl, _, _, rfl, t2, _, rfl, SqT.of (s6 _ _ e1), rfl, _, _, rfl, _, _, rfl, _, _, rfl, rfl, rfl, ?_⟩
    have in0 : ∀ n : Nat, n < hs.length → (decide ((0 : Int) ≤ ((n : Nat) : Int)) = true) ∧ decide (((n : Nat) : Int) < ((hv.length : Nat) : Int)) = true := fun n hn => ⟨decide_eq_true (Int.natCast_nonneg _), decide_eq_true (by omega)⟩
    obtain ⟨c1, c2⟩ := in0 _ n1
    obtain ⟨c3, c4⟩ := in0 _ n2
    have e6 := SqT.of (K := K) (s6 _ _ eh)
    refine ⟨_, rfl, _, _, rfl, rfl, _, rfl, if_bl (fun _ => ?_) (fun z => absurd (z.symm.trans c1) (by decide))⟩
    refine ⟨_, rfl, ha, hv, rfl, .inr e6, _, _, rfl, rfl, _, rfl, if_bl (fun z => ?_) (fun _ => ?_)⟩
    · rw [c2] at z; cases z
    refine ⟨_, rfl, _, _, rfl, rfl, _, rfl, if_bl (fun _ => ?_) (fun z => absurd (z.symm.trans c3) (by decide))⟩
    refine ⟨_, rfl, ha, hv, rfl, .inr e6, _, _, rfl, rfl, _, rfl, if_bl (fun z => ?_) (fun _ => ?_)⟩
    · rw [c4] at z; cases z
    obtain ⟨h, eh3⟩ : ∃ h, hs[b.one]? = some h := ⟨_, List.getElem?_eq_getElem n1⟩
    have gh := ok.good h (List.mem_of_getElem? eh3)
    obtain ⟨x, ex, t3, rr, rfl, e3, e4⟩ := alh.get eh3
    refine ⟨_, rfl, _, rfl, ha, _, _, _, rfl, rfl, e6, atI_nat ex, t3, _, _, _, rfl, rfl, SqT.of (s6 _ _ e3), atI_nat (j := 0) rfl, ?_⟩
    refine ⟨_, _, rule_dp (s6 _ _ e4), .tup (hO _) (.cons (.str _) .nil), rule_shaped gh.lay, one_shaped (by decide +kernel), _, rfl, ?_⟩
    rw [rule_eqv, gh.door "out" (.inr rfl), decide_eq_false (ok.out b mb h eh3)]
    exact if_bl (fun z => nomatch z) (fun _ => ⟨_, _, _, _, rfl, s6⟩)
  · rintro σ H5 ⟨v3, v4, v5, v6, rfl, s5⟩
    exact q _ s5
def sp_wrong_count (K : PySem.W.Frag) : Sp := fun vs H Q _ => ∃ (r : Addr) (hs : List HR) (bs : List BR), vs = [.ref r] ∧ RoomAt H r hs bs ∧ RoomOk hs bs ∧ ∀ H', Same H H' → Q .non H'
theorem ok_wrong_count {f : Addr} {fd : FuncData} (F : Fun K "wrong_count" "wrong_count" s_wrong_count f fd) (T : Top w K mg) : FnOk P w K mg base CX0 2 f fd ["room"] (sp_wrong_count K) := by
  obtain ⟨f_needs, fd_needs, F_needs, b_needs, m_needs⟩ := T.d_needs
  have G_needs := ok_needs (P := P) (w := w) (base := base) F_needs T
  obtain ⟨f_comings, fd_comings, F_comings, b_comings, m_comings⟩ := T.d_comings
  have G_comings := ok_comings (P := P) (w := w) (base := base) F_comings T
  refine F.ok sc_wrong_count (fun vs H Q E h => ?_) (fun cdv A outer s H vs Q E hr h => ?_)
  · obtain ⟨r, hs, bs, rfl, _⟩ := h
    rfl
  obtain ⟨r, hs, bs, rfl, hR, ok, q⟩ := h
  obtain ⟨ha, ba, hv, bv, er, eh, eb, alh, alb⟩ := hR.ex
  have lb := ok.many
  refine ⟨_, (pss_cons (ps_for PassesOwn.never rfl (pi_enumT K rfl (by rfl) T.m_enumerate (pa_cons (pe_ix (ix_tupK K rfl) (pv 0) pe_int (fun _ _ => rfl)) pa_nil)) (pg_tupK K rfl rfl (pgs_cons (pg_name (i := 1) sc_wrong_count.nd rfl (Or.inl rfl)) (pgs_cons (pg_tupK K rfl rfl (pgs_cons (pg_name (i := 2) sc_wrong_count.nd rfl (Or.inl rfl)) (pgs_cons (pg_name (i := 3) sc_wrong_count.nd rfl (Or.inl rfl)) pgs_nil))) pgs_nil)))
        (pss_one (ps_if (pt_cmpR op_ne (pe_callB (call_len_seqK K rfl) (by rfl) T.m_len (by decide +kernel) (pa_cons (pe_call G_comings (hr.mono (by decide)) (by rfl) m_comings F_comings.kp b_comings .nil pass0 (pa_cons (pv 0) (pa_cons (pv 1) pa_nil))) pa_nil)) (pe_call G_needs (hr.mono (by decide)) (by rfl) m_needs F_needs.kp b_needs .nil pass0 (pa_cons (pv 2) pa_nil)) (nomark _)) (pss_one (ps_ret (pv 1))) pss_nil)))
      (pss_one (ps_ret pe_non))), ?_⟩
  refine ⟨_, rfl, r, _, _, _, rfl, rfl, SqT.of er, atI_nat (j := 0) rfl, ha, hv, rfl, SqT.of eh, for_it (J := IteT K ha hv) (n := hv.length) (fun i σ H5 => ∃ v1 v2 v3 : Option V, σ = [some (.ref r), v1, v2, v3] ∧ Same H H5) ⟨_, _, _, rfl, fun _ _ e => e⟩ ?_ ?_ ?_ ?_⟩
  · rintro i σ H5 hi ⟨v1, v2, v3, rfl, s5⟩
    exact ⟨SqT.of (s5 _ _ eh), hi⟩
  · rintro σ H5 ⟨v1, v2, v3, rfl, s5⟩
    exact ⟨SqT.of (s5 _ _ eh), rfl⟩
  · rintro i x σ H5 H6 hi ⟨v1, v2, v3, rfl, s5⟩ ⟨t, y, rfl, nt, rfl, ey⟩
    obtain ⟨h, eh2, t2, rr, rfl, e1, e2⟩ := alh.getL ey
    have gh := ok.good h (List.mem_of_getElem? eh2)
    have s6 := s5.trans (same_new (o := .tup [V.int ((i : Nat) : Int), V.ref t2]) nt)
    refine ⟨t, _, rfl, SqT.of upd_same, rfl, _, _, rfl, _, _, rfl, t2, _, rfl, SqT.of (s6 _ _ e1), rfl, _, _, rfl, _, _, rfl, rfl, rfl, ?_⟩
    refine ⟨_, rfl, _, rfl, r, hs, bs, i, rfl, hR.keep (TK.same s6), by omega, fun c H7 nc hc s7 => ?_⟩
    refine ⟨c, _, rfl, .inl (SqL.of hc), _, rfl, rr, h.wd, _, rfl, s7 _ _ (s6 _ _ e2), gh.eleven, rfl, _, rfl, if_bl (fun e => ?_) (fun _ => ⟨_, _, _, rfl, s6.trans s7⟩)⟩
    have cnt := ok.count i h eh2
    rw [needs_needN gh.eleven, count_filter] at cnt
    have lc : ((comingN bs i).map nV).length = (comeB bs i).length := by rw [List.length_map]; exact (come_list bs i).length
    rw [lc] at e
    unfold comeB at e
    rw [cnt] at e
    simp at e
  · rintro σ H5 ⟨v1, v2, v3, rfl, s5⟩
    exact q _ s5
end
/-! ### belts without things -/
abbrev DSt (g : TG) (tt : TT) (tk tv : TE) (vs : List Nat) (σ : L2.St) (D : Addr) (x : V) (H' : Hp) (N : Hp → Prop) : Prop := g x (wipe σ vs) H' fun σ2 H2 => wipe σ2 vs = wipe σ vs ∧ tt σ2 H2 fun b H3 => if b = true then (tk σ2 H3 fun y H4 => tv σ2 H4 fun z H5 => ∃ kvs k, y = kV k ∧ H5 D = some (.dK kvs) ∧ kvs.length < sizeLine ∧ N (upd H5 D (.dK (putK kvs k z)))) else N H3
theorem dc_range {lo : Int} {n : Nat} {g : TG} {tt : TT} {tk tv : TE} {vs : List Nat} {σ : L2.St} {H1 : Hp} {D : Addr} {Qd : Hp → Prop} (Pv : Nat → Hp → Prop) (h0 : Pv 0 (upd H1 D (.dK []))) (hs : ∀ i H, i < n → Pv i H → DSt g tt tk tv vs σ D (.int (lo + i)) H (Pv (i + 1))) (hd : ∀ H, Pv n H → Qd H) :
    ∃ W : Nat → Nat → Hp → Prop, (∃ m, W 0 m (upd H1 D (.dK []))) ∧ ∀ i m H, W i m H → ((Itr lo n).stop i H ∧ Qd H) ∨ ((Itr lo n).go i H ∧ ∃ Nx : Hp → Prop, (∀ H', Nx H' → ∃ m', m' < m ∧ W (i + 1) m' H') ∧ ∀ x H', (Itr lo n).yld i H x H' → DSt g tt tk tv vs σ D x H' Nx) := by
  refine ⟨fun i m H => m = n - i ∧ i ≤ n ∧ Pv i H, ⟨n, by simp, Nat.zero_le _, h0⟩, ?_⟩
  rintro i m H ⟨rfl, hi, p⟩
  by_cases hlt : i < n
  · refine .inr ⟨hlt, Pv (i + 1), fun H' p' => ⟨n - (i + 1), by omega, rfl, hlt, p'⟩, fun x H' y => ?_⟩
    obtain ⟨e, y⟩ := y
    subst e y
    exact hs i _ hlt p
  · have e : i = n := by omega
    subst e
    exact .inl ⟨Nat.le_refl _, hd H p⟩
/-- the hands that the belts without things lead to -/
def bareSt (bs : List BR) (i : Nat) : List Nat := (bs.filter fun b => decide (b.one = i) && b.th.isEmpty).map BR.to
theorem bare_snoc (bs : List BR) (b : BR) (i : Nat) : bareSt (bs ++ [b]) i = if b.one = i ∧ b.th = [] then bareSt bs i ++ [b.to] else bareSt bs i := by
  unfold bareSt
  rw [List.filter_append, List.map_append]
  by_cases h : b.one = i ∧ b.th = []
  · rw [if_pos h, List.filter_cons, if_pos (by rw [h.1, h.2, decide_eq_true rfl]; rfl)]
    rfl
  · rw [if_neg h, List.filter_cons, if_neg (fun z => h ?_)]
    · exact List.append_nil _
    · rw [Bool.and_eq_true, decide_eq_true_eq, List.isEmpty_iff] at z
      exact z
theorem bare_mem {bs : List BR} {i y : Nat} (h : y ∈ bareSt bs i) : ∃ b ∈ bs, b.one = i ∧ b.th = [] ∧ b.to = y := by
  unfold bareSt at h
  obtain ⟨b, hb, e⟩ := List.mem_map.mp h
  obtain ⟨m, z⟩ := List.mem_filter.mp hb
  rw [Bool.and_eq_true, decide_eq_true_eq, List.isEmpty_iff] at z
  exact ⟨b, m, z.1, z.2, e⟩
theorem bare_len (bs : List BR) (i : Nat) : (bareSt bs i).length ≤ bs.length := by
  unfold bareSt
  rw [List.length_map]
  exact List.length_filter_le ..
theorem bare_none {hs : List HR} {bs : List BR} (ok : RoomOk hs bs) (x : Nat) : ¬ OnW (bareSt bs) x x := fun h => by
  obtain ⟨rk, hr⟩ := ok.rank
  have := h.rank (rk := rk) fun x y hy => (by
    obtain ⟨b, hb, e1, e2, e3⟩ := bare_mem hy
    rw [← e1, ← e3]
    exact hr b hb e2)
  omega
theorem stK_none (adr : Nat → Addr) (n : Nat) : valV (stK adr n) (Sum.inl ((n : Nat) : Int)) = none := by
  unfold valV
  rw [Option.map_eq_none_iff, List.find?_eq_none]
  intro kv hk
  obtain ⟨i, hi, rfl⟩ := List.mem_map.mp hk
  have := List.mem_range.mp hi
  intro z
  have := Sum.inl.inj (of_decide_eq_true z)
  omega
theorem stK_put (adr : Nat → Addr) (n : Nat) (p : Addr) : putK (stK adr n) (Sum.inl ((n : Nat) : Int)) (.ref p) = stK (fun j => if j = n then p else adr j) (n + 1) := by
  rw [putK_new _ (stK_none adr n)]
  unfold stK
  rw [List.range_succ, List.map_append]
  congr 1
  · refine List.map_congr_left fun i hi => ?_
    have := List.mem_range.mp hi
    show (_, V.ref (adr i)) = (_, V.ref (if i = n then p else adr i))
    rw [if_neg (by omega)]
  · show [_] = [(_, V.ref (if n = n then p else adr n))]
    rw [if_pos rfl]
/-- the steps under way -/
structure StU (H0 H : Hp) (d : Addr) (n : Nat) (st : Nat → List Nat) : Prop where
  ex : ∃ adr : Nat → Addr, H d = some (.dK (stK adr n)) ∧ (∀ i, i < n → H (adr i) = some (.lst ((st i).map nV)) ∧ H0 (adr i) = none) ∧ (∀ i j, i < n → j < n → adr i = adr j → i = j) ∧ Same H0 H
section
variable {P : Program} {w : World} {K : PySem.W.Frag} {mg : Str → Option Value} {base : Heap}
def sp_hand_on_ring (K : PySem.W.Frag) : Sp := fun vs H Q _ => ∃ (r : Addr) (hs : List HR) (bs : List BR), vs = [.ref r] ∧ RoomAt H r hs bs ∧ RoomOk hs bs ∧ ∀ H', Same H H' → Q .non H'
theorem ok_hand_on_ring {f : Addr} {fd : FuncData} (F : Fun K "hand_on_ring" "hand_on_ring" s_hand_on_ring f fd) (T : Top w K mg) : FnOk P w K mg base CX0 3 f fd ["room"] (sp_hand_on_ring K) := by
  obtain ⟨f_first_on_ring, fd_first_on_ring, F_first_on_ring, b_first_on_ring, m_first_on_ring⟩ := T.d_first_on_ring
  have G_first_on_ring := ok_first_on_ring (P := P) (w := w) (base := base) F_first_on_ring T
  refine F.ok sc_hand_on_ring (fun vs H Q E h => ?_) (fun cdv A outer s H vs Q E hr h => ?_)
  · obtain ⟨r, hs, bs, rfl, _⟩ := h
    rfl
  obtain ⟨r, hs, bs, rfl, hR, ok, q⟩ := h
  obtain ⟨ha, ba, hv, bv, er, eh, eb, alh, alb⟩ := hR.ex
  have lhv := alh.length
  have lbv := alb.length
  have lh := ok.hands
  have lb := ok.many
  refine ⟨_, (pss_cons (ps_asg (pv 0) (pg_tupK K rfl rfl (pgs_cons (pg_name (i := 1) sc_hand_on_ring.nd rfl (Or.inl rfl)) (pgs_cons (pg_name (i := 2) sc_hand_on_ring.nd rfl (Or.inl rfl)) pgs_nil))))
      (pss_cons (ps_setDc (i := 3) (own := [("number", 4)]) (g := gName 4) (tt := tYes) (by rfl) sc_hand_on_ring.nd rfl rfl (sw_dc rfl rfl rfl (by decide +kernel)) (pi_range1 (by rfl) T.m_range (pa_cons (pe_callB (call_len_seqK K rfl) (by rfl) T.m_len (by decide +kernel) (pa_cons (pv 1) pa_nil)) pa_nil)) (blkOk_by (own := [("number", 4)]) (N := N_hand_on_ring) (sc := defScope s_hand_on_ring) (by decide +kernel)) (fun _ _ _ _ _ => (pg_name (i := 4) sc_hand_on_ring.nd rfl (Or.inl rfl))) (fun _ _ _ _ _ => pts_nil) (fun _ _ _ _ _ => (pv 4)) (fun _ _ _ _ _ => (pe_lst pa_nil)))
      (pss_cons (ps_for PassesOwn.never rfl (pi_tupK K rfl (pv 2)) (pg_tupK K rfl rfl (pgs_cons (pg_name (i := 5) sc_hand_on_ring.nd rfl (Or.inl rfl)) (pgs_cons (pg_name (i := 6) sc_hand_on_ring.nd rfl (Or.inl rfl)) (pgs_cons (pg_name (i := 7) sc_hand_on_ring.nd rfl (Or.inl rfl)) pgs_nil))))
        (pss_one (ps_if (pt_not (pt_truthK K rfl (pv 7) (by intro _; rfl))) (pss_one (ps_expr (pe_bmK K rfl PySem.F.plainAttrs_list PySem.F.slot_list_append PySem.F.type_list_append mt_append (pe_dget (hu_of hr) (pv 3) (pv 5) (fun _ _ => rfl)) (pa_cons (pv 6) pa_nil)))) pss_nil)))
      (pss_one (ps_ret (pe_call G_first_on_ring (hr.mono (by decide)) (by rfl) m_first_on_ring F_first_on_ring.kp b_first_on_ring .nil pass0 (pa_cons (pe_callTy (call_list_dK rfl) (by rfl) T.m_list (by decide +kernel) (pa_cons (pv 3) pa_nil)) (pa_cons (pv 3) pa_nil)))))))), ?_⟩
  refine ⟨_, rfl, r, _, rfl, SqT.of er, rfl, _, _, rfl, _, _, rfl, rfl, ?_⟩
  refine ⟨_, rfl, ha, _, rfl, .inr (SqT.of eh), _, rfl, by omega, by omega, fun D nD => dc_range (fun i H5 => StU H H5 D i (fun _ => [])) ⟨fun _ => D, upd_same, (fun i z => absurd z (Nat.not_lt_zero _)), (fun i j z => absurd z (Nat.not_lt_zero _)), same_new nD⟩ ?_ ?_⟩
  · rintro i H5 hi ⟨adr, hD, had, inj, s5⟩
    refine ⟨rfl, _, rfl, (by show 0 ≤ sizeLine; decide), fun p np => ?_⟩
    have pD : p ≠ D := fun z => by rw [z, hD] at np; cases np
    have u := same_new (o := .lst []) np
    have lK : (stK adr i).length = i := by unfold stK; rw [List.length_map, List.length_range]
    refine ⟨stK adr i, Sum.inl ((i : Nat) : Int), by rw [Int.zero_add]; rfl, u _ _ hD, by rw [lK]; exact small1000 (by omega), ?_⟩
    rw [stK_put]
    refine ⟨_, upd_same, fun j hj => ?_, fun j k hj hk e => ?_, Same.own (s5.trans u) nD⟩
    · by_cases z : j = i
      · rw [if_pos z]
        refine ⟨by rw [upd_ne pD, upd_same]; rfl, ?_⟩
        cases h0 : H p with
        | none => rfl
        | some o => rw [s5 _ _ h0] at np; cases np
      · rw [if_neg z]
        obtain ⟨a1, a2⟩ := had j (by omega)
        have aD : adr j ≠ D := fun y => by rw [y, hD] at a1; cases a1
        exact ⟨by rw [upd_ne aD]; exact u _ _ a1, a2⟩
    · by_cases z : j = i
      · by_cases y : k = i
        · omega
        · simp only [if_pos z, if_neg y] at e
          rw [e, (had k (by omega)).1] at np
          cases np
      · by_cases y : k = i
        · simp only [if_neg z, if_pos y] at e
          rw [← e, (had j (by omega)).1] at np
          cases np
        · simp only [if_neg z, if_neg y] at e
          exact inj j k (by omega) (by omega) e
  intro H2 su0
  rw [lhv] at su0
  have same0 : ∀ {H5 : Hp} {n : Nat} {st : Nat → List Nat}, StU H H5 D n st → Same H H5 := fun su => by
    obtain ⟨adr, _, _, _, s⟩ := su.ex
    exact s
  refine ⟨_, rfl, ba, rfl, ⟨_, SqT.of (same0 su0 _ _ eb)⟩, for_tup (K := K) (a := ba) (xs := bv) (fun i σ H5 => ∃ v4 v5 v6 v7 : Option V, σ = [some (.ref r), some (.ref ha), some (.ref ba), some (.ref D), v4, v5, v6, v7] ∧ StU H H5 D hs.length (bareSt (bs.take i))) ⟨_, _, _, _, rfl, su0⟩ (fun i σ H5 _ ⟨_, _, _, _, _, su⟩ => SqT.of (same0 su _ _ eb)) ?_ ?_⟩
  · rintro i x σ H5 hx ⟨v4, v5, v6, v7, rfl, su⟩
    obtain ⟨adr, hD, had, inj, s5⟩ := su.ex
    obtain ⟨b, eb2, t, g, rfl, e4, e5⟩ := alb.getL hx
    have tk : bs.take (i + 1) = bs.take i ++ [b] := by rw [List.take_add_one, eb2]; rfl
    obtain ⟨n1, n2⟩ := ok.ends b (List.mem_of_getElem? eb2)
    have bq : ∀ j, bareSt (bs.take (i + 1)) j = if b.one = j ∧ b.th = [] then bareSt (bs.take i) j ++ [b.to] else bareSt (bs.take i) j := fun j => by rw [tk, bare_snoc]
    refine ⟨t, _, rfl, SqT.of (s5 _ _ e4), rfl, _, _, rfl, _, _, rfl, _, _, rfl, rfl, ?_⟩
    refine ⟨_, rfl, _, .inr (.inl ⟨_, SqT.of (s5 _ _ e5), rfl⟩), if_bl (fun z => ?_) (fun z => ?_)⟩
    · have bare : b.th = [] := by
        cases hb : b.th with
        | nil => rfl
        | cons y l => rw [hb] at z; cases z
      obtain ⟨a1, a2⟩ := had b.one n1
      have st5 : StAt H5 D hs.length (bareSt (bs.take i)) := ⟨adr, hD, fun j hj => (had j hj).1⟩
      have gt : DGet H5 D (nV b.one) (some (.ref (adr b.one))) := by
        have := DGet.k (k := Sum.inl ((b.one : Nat) : Int)) hD
        rwa [stK_at n1] at this
      have few := bare_len (bs.take i) b.one
      have few2 : (bs.take i).length ≤ bs.length := by rw [List.length_take]; exact Nat.min_le_right ..
      have aD : D ≠ adr b.one := fun y => by rw [← y, hD] at a1; cases a1
      refine ⟨_, rfl, _, rfl, D, _, rfl, gt, .inl ⟨rfl, _, SqL.of a1⟩, _, rfl, adr b.one, _, _, rfl, rfl, a1, by rw [List.length_map]; exact small1000 (by omega), _, _, _, _, rfl, ⟨adr, by rw [upd_ne aD]; exact hD, fun j hj => ⟨?_, (had j hj).2⟩, inj, Same.own s5 a2⟩⟩
      rw [bq]
      by_cases y : b.one = j
      · subst y
        rw [if_pos ⟨rfl, bare⟩, upd_same, List.map_append]
        rfl
      · rw [if_neg (fun c => y c.1), upd_ne (fun c => y (inj _ _ hj n1 c).symm)]
        exact (had j hj).1
    · have bare : b.th ≠ [] := fun y => by rw [y] at z; cases z
      refine ⟨_, _, _, _, rfl, ⟨adr, hD, fun j hj => ⟨?_, (had j hj).2⟩, inj, s5⟩⟩
      rw [bq, if_neg (fun c => bare c.2)]
      exact (had j hj).1
  · rintro σ H5 ⟨v4, v5, v6, v7, rfl, su⟩
    rw [lbv, List.take_length] at su
    obtain ⟨adr, hD, had, inj, s5⟩ := su.ex
    refine ⟨_, rfl, D, _, rfl, hD, fun pl npl => ?_⟩
    have s6 := same_new (o := .lst ((stK adr hs.length).map fun kv => kV kv.1)) npl
    refine ⟨_, rfl, pl, D, hs.length, List.range hs.length, bareSt bs, rfl, ?_, fun x hx => List.mem_range.mp hx, ⟨adr, s6 _ _ hD, fun j hj => s6 _ _ (had j hj).1⟩, by omega, fun j hj => ⟨by have := bare_len bs j; omega, fun y hy => ?_⟩, fun v H7 fw s7 => ?_⟩
    · rw [upd_same]
      unfold stK
      rw [List.map_map]
      rfl
    · obtain ⟨b, hb, _, _, e⟩ := bare_mem hy
      rw [← e]
      exact (ok.ends b hb).2
    · rcases fw with ⟨rfl, _⟩ | ⟨_, x, _, _, hw, _⟩
      · exact q _ (s5.trans (s6.trans s7))
      · exact absurd hw (bare_none ok x)
def sp_refuse_room (K : PySem.W.Frag) : Sp := fun vs H Q _ => ∃ z : Str, vs = [.str z, .non] ∧ Q .non H
theorem ok_refuse_room {f : Addr} {fd : FuncData} (F : Fun K "refuse_room" "refuse_room" s_refuse_room f fd) (T : Top w K mg) : FnOk P w K mg base CX0 1 f fd ["word", "at"] (sp_refuse_room K) := by
  refine F.ok sc_refuse_room (fun vs H Q E h => ?_) (fun cdv A outer s H vs Q E hr h => ?_)
  · obtain ⟨z, rfl, _⟩ := h
    rfl
  obtain ⟨z, rfl, q⟩ := h
  refine ⟨_, (pss_one (ps_if (pt_cmpR op_notN (pv 1) pe_non (nomark _)) (pss_one ps_dead) pss_nil)), ?_⟩
  exact ⟨_, rfl, rfl, _, rfl, if_bl (fun z => nomatch z) (fun _ => q)⟩
variable {cF cB : Addr} {PT : Addr × Addr} [TF : TabF K mg base cF PT] [TC : TabC K mg base cB PT]
include TF TC
def sp_look_room (K : PySem.W.Frag) (PT : Addr × Addr) : Sp := fun vs H Q _ => ∃ (r : Addr) (hs : List HR) (bs : List BR), vs = [.ref r] ∧ RoomAt H r hs bs ∧ RoomOk hs bs ∧ Tb2 PT H ∧ ∀ H', LamX.ExtN H H' → Tb2 PT H' → Q (.bl true) H'
theorem ok_look_room {f : Addr} {fd : FuncData} (F : Fun K "look_room" "look_room" s_look_room f fd) (T : Top w K mg) : FnOk P w K mg base CX0 6 f fd ["room"] (sp_look_room K PT) := by
  obtain ⟨f_refuse_room, fd_refuse_room, F_refuse_room, b_refuse_room, m_refuse_room⟩ := T.d_refuse_room
  have G_refuse_room := ok_refuse_room (P := P) (w := w) (base := base) F_refuse_room T
  obtain ⟨f_has_form, fd_has_form, F_has_form, b_has_form, m_has_form⟩ := T.d_has_form
  have G_has_form := ok_has_form (P := P) (w := w) (base := base) F_has_form (TF.cd _ _ F_has_form m_has_form) T
  obtain ⟨f_wrong_hand, fd_wrong_hand, F_wrong_hand, b_wrong_hand, m_wrong_hand⟩ := T.d_wrong_hand
  have G_wrong_hand := ok_wrong_hand (P := P) (w := w) (base := base) F_wrong_hand T
  obtain ⟨f_wrong_belt, fd_wrong_belt, F_wrong_belt, b_wrong_belt, m_wrong_belt⟩ := T.d_wrong_belt
  have G_wrong_belt := ok_wrong_belt (P := P) (w := w) (base := base) F_wrong_belt T
  obtain ⟨f_wrong_count, fd_wrong_count, F_wrong_count, b_wrong_count, m_wrong_count⟩ := T.d_wrong_count
  have G_wrong_count := ok_wrong_count (P := P) (w := w) (base := base) F_wrong_count T
  obtain ⟨f_hand_on_ring, fd_hand_on_ring, F_hand_on_ring, b_hand_on_ring, m_hand_on_ring⟩ := T.d_hand_on_ring
  have G_hand_on_ring := ok_hand_on_ring (P := P) (w := w) (base := base) F_hand_on_ring T
  refine F.ok sc_look_room (fun vs H Q E h => ?_) (fun cdv A outer s H vs Q E hr h => ?_)
  · obtain ⟨r, hs, bs, rfl, _⟩ := h
    rfl
  obtain ⟨r, hs, bs, rfl, hR, ok, tb, q⟩ := h
  refine ⟨_, (pss_cons (ps_if (pt_not (pt_val (pe_call G_has_form (hr.mono (by decide)) (by rfl) m_has_form F_has_form.kp b_has_form .nil pass0 (pa_cons (pv 0) pa_nil)))) (pss_one ps_dead) pss_nil)
      (pss_cons (ps_expr (pe_call G_refuse_room (hr.mono (by decide)) (by rfl) m_refuse_room F_refuse_room.kp b_refuse_room .nil pass0 (pa_cons pe_str (pa_cons (pe_call G_wrong_hand (hr.mono (by decide)) (by rfl) m_wrong_hand F_wrong_hand.kp b_wrong_hand .nil pass0 (pa_cons (pv 0) pa_nil)) pa_nil))))
      (pss_cons (ps_expr (pe_call G_refuse_room (hr.mono (by decide)) (by rfl) m_refuse_room F_refuse_room.kp b_refuse_room .nil pass0 (pa_cons pe_str (pa_cons (pe_call G_wrong_belt (hr.mono (by decide)) (by rfl) m_wrong_belt F_wrong_belt.kp b_wrong_belt .nil pass0 (pa_cons (pv 0) pa_nil)) pa_nil))))
      (pss_cons (ps_expr (pe_call G_refuse_room (hr.mono (by decide)) (by rfl) m_refuse_room F_refuse_room.kp b_refuse_room .nil pass0 (pa_cons pe_str (pa_cons (pe_call G_wrong_count (hr.mono (by decide)) (by rfl) m_wrong_count F_wrong_count.kp b_wrong_count .nil pass0 (pa_cons (pv 0) pa_nil)) pa_nil))))
      (pss_cons (ps_expr (pe_call G_refuse_room (hr.mono (by decide)) (by rfl) m_refuse_room F_refuse_room.kp b_refuse_room .nil pass0 (pa_cons pe_str (pa_cons (pe_call G_hand_on_ring (hr.mono (by decide)) (by rfl) m_hand_on_ring F_hand_on_ring.kp b_hand_on_ring .nil pass0 (pa_cons (pv 0) pa_nil)) pa_nil))))
      (pss_one (ps_ret pe_bl))))))), ?_⟩
  refine ⟨_, rfl, r, hs, bs, rfl, hR, tb, fun H1 e1 tb1 => ⟨_, rfl, if_bl (fun z => nomatch z) (fun _ => ?_)⟩⟩
  have hR1 := hR.keep (tk_ext e1)
  refine ⟨_, rfl, r, hs, bs, rfl, hR1, ok, fun H2 s2 => ⟨_, rfl, ?_⟩⟩
  have hR2 := hR1.keep (TK.same s2)
  refine ⟨_, rfl, r, hs, bs, rfl, hR2, ok, fun H3 s3 => ⟨_, rfl, ?_⟩⟩
  have hR3 := hR2.keep (TK.same s3)
  refine ⟨_, rfl, r, hs, bs, rfl, hR3, ok, fun H4 s4 => ⟨_, rfl, ?_⟩⟩
  have hR4 := hR3.keep (TK.same s4)
  refine ⟨_, rfl, r, hs, bs, rfl, hR4, ok, fun H5 s5 => ⟨_, rfl, ?_⟩⟩
  have ss := s2.trans (s3.trans (s4.trans s5))
  exact q _ (e1.trans (ext_same ss)) (tb1.same ss)
end
theorem op_notB {X : Cx} : OpR X (compareOp .IsNot) (fun x y H Q => ∃ a b : Bool, x = .bl a ∧ y = .bl b ∧ Q (.bl (!decide (a = b))) H) := by
  intro pins s σ H x y v u Q I rx ry h
  obtain ⟨a, b, rfl, rfl, q⟩ := h
  obtain rfl : v = Value.bool a := rx
  obtain rfl : u = Value.bool b := ry
  exact wpAny_isNot_plain rfl (fin_bl I q (by cases a <;> cases b <;> rfl))
theorem op_isB {X : Cx} : OpR X (compareOp .Is) (fun x y H Q => ∃ a b : Bool, x = .bl a ∧ y = .bl b ∧ Q (.bl (decide (a = b))) H) := by
  intro pins s σ H x y v u Q I rx ry h
  obtain ⟨a, b, rfl, rfl, q⟩ := h
  obtain rfl : v = Value.bool a := rx
  obtain rfl : u = Value.bool b := ry
  exact wpAny_is_plain rfl (fin_bl I q (by cases a <;> cases b <;> rfl))
/-! ### two things alike -/
def Leaf (v u : V) : Prop := (∃ a : Int, v = .int a ∧ u = .int a) ∨ (∃ z : Str, v = .str z ∧ u = .str z ∧ PyData.canLay0 (.str z) = true) ∨ (v = .non ∧ u = .non)
def Al : Nat → Hp → V → V → Prop
  | 0, _, v, u => Leaf v u
  | n + 1, H, v, u => Leaf v u ∨ ∃ (p q : Addr) (xs ys : List V), v = .ref p ∧ u = .ref q ∧ ((H p = some (.lst xs) ∧ H q = some (.lst ys)) ∨ (H p = some (.tup xs) ∧ H q = some (.tup ys))) ∧ xs.length ≤ 400 ∧ All2 (Al n H) xs ys
theorem Al.same {H H' : Hp} (s : Same H H') : ∀ {n : Nat} {v u : V}, Al n H v u → Al n H' v u
  | 0, _, _, h => h
  | n + 1, _, _, h => by
    rcases h with h | ⟨p, q, xs, ys, e1, e2, e3, e4, e5⟩
    · exact .inl h
    exact .inr ⟨p, q, xs, ys, e1, e2, e3.imp (fun z => ⟨s _ _ z.1, s _ _ z.2⟩) (fun z => ⟨s _ _ z.1, s _ _ z.2⟩), e4, e5.imp fun _ _ z => Al.same s z⟩
def spA : Nat → Sp
  | 0 => fun _ _ _ _ => False
  | n + 1 => fun vs H Q _ => ∃ v u : V, vs = [v, u] ∧ Al n H v u ∧ ∀ H', Same H H' → Q (.bl true) H'
theorem kit_lst {K : PySem.W.Frag} : PySem.W.kitAny K (.type "list") [.type "list", .type "tuple"] = some true := by
  unfold PySem.W.kitAny
  rw [kit_ty (show kitB "list" "list" = some true by decide +kernel)]
theorem kit_tup {K : PySem.W.Frag} : PySem.W.kitAny K (.type "tuple") [.type "list", .type "tuple"] = some true := by
  unfold PySem.W.kitAny
  rw [kit_ty (show kitB "tuple" "list" = some false by decide +kernel)]
  unfold PySem.W.kitAny
  rw [kit_ty (show kitB "tuple" "tuple" = some true by decide +kernel)]
theorem kit_int {K : PySem.W.Frag} : PySem.W.kitAny K (.type "int") [.type "list", .type "tuple"] = some false := by
  unfold PySem.W.kitAny
  rw [kit_ty (show kitB "int" "list" = some false by decide +kernel)]
  unfold PySem.W.kitAny
  rw [kit_ty (show kitB "int" "tuple" = some false by decide +kernel)]
  rfl
theorem kit_str {K : PySem.W.Frag} : PySem.W.kitAny K (.type "str") [.type "list", .type "tuple"] = some false := by
  unfold PySem.W.kitAny
  rw [kit_ty (show kitB "str" "list" = some false by decide +kernel)]
  unfold PySem.W.kitAny
  rw [kit_ty (show kitB "str" "tuple" = some false by decide +kernel)]
  rfl
theorem kit_non {K : PySem.W.Frag} : PySem.W.kitAny K (.type "NoneType") [.type "list", .type "tuple"] = some false := by
  unfold PySem.W.kitAny
  rw [kit_ty (show kitB "NoneType" "list" = some false by decide +kernel)]
  unfold PySem.W.kitAny
  rw [kit_ty (show kitB "NoneType" "tuple" = some false by decide +kernel)]
  rfl
theorem or_zip {K : PySem.W.Frag} {ta : TA} {σ : L2.St} {H : Hp} {R : It → Hp → Prop} {p q : Addr} {xs ys : List V} (ht : ∀ Q : List V → Hp → Prop, Q [.ref p, .ref q] H → ta σ H Q) (h : (H p = some (.lst xs) ∧ H q = some (.lst ys)) ∨ (H p = some (.tup xs) ∧ H q = some (.tup ys))) (hl : xs.length = ys.length)
    (k : ∀ J : It, (∀ i H', (H' p = H p ∧ H' q = H q) → i < xs.length → J.go i H') → (∀ H', (H' p = H p ∧ H' q = H q) → J.stop xs.length H') → (∀ i H' v H'', (H' p = H p ∧ H' q = H q) → J.yld i H' v H'' → ∃ T x y, v = .ref T ∧ H' T = none ∧ H'' = upd H' T (.tup [x, y]) ∧ xs[i]? = some x ∧ ys[i]? = some y) → R J H) :
    RZ.iZipA K ta σ H R := by
  rcases h with ⟨e1, e2⟩ | ⟨e1, e2⟩
  · refine ht _ ⟨p, q, xs, ys, rfl, .inl ⟨SqL.of e1, SqL.of e2, k _ (fun i H' st hi => ?_) (fun H' st => ?_) fun i H' v H'' st y => ?_⟩⟩
    · exact ⟨xs, ys, _, _, SqL.of (st.1.trans e1), SqL.of (st.2.trans e2), List.getElem?_eq_getElem hi, List.getElem?_eq_getElem (by omega)⟩
    · exact ⟨xs, ys, SqL.of (st.1.trans e1), SqL.of (st.2.trans e2), .inl (Nat.le_refl _)⟩
    · obtain ⟨T, x, z, q1, q2, q3, q4, q5⟩ := y
      exact ⟨T, x, z, q1, q2, q3, q4 _ (SqL.of (st.1.trans e1)), q5 _ (SqL.of (st.2.trans e2))⟩
  · refine ht _ ⟨p, q, xs, ys, rfl, .inr ⟨SqT.of e1, SqT.of e2, k _ (fun i H' st hi => ?_) (fun H' st => ?_) fun i H' v H'' st y => ?_⟩⟩
    · exact ⟨xs, ys, _, _, SqT.of (st.1.trans e1), SqT.of (st.2.trans e2), List.getElem?_eq_getElem hi, List.getElem?_eq_getElem (by omega)⟩
    · exact ⟨xs, ys, SqT.of (st.1.trans e1), SqT.of (st.2.trans e2), .inl (Nat.le_refl _)⟩
    · obtain ⟨T, x, z, q1, q2, q3, q4, q5⟩ := y
      exact ⟨T, x, z, q1, q2, q3, q4 _ (SqT.of (st.1.trans e1)), q5 _ (SqT.of (st.2.trans e2))⟩
section
variable {P : Program} {w : World} {K : PySem.W.Frag} {mg : Str → Option Value} {base : Heap}
theorem leaf_shaped {x : Str} (h : PyData.canLay0 (.str x) = true) : SeqAt.shaped (.str x) = true := by
  unfold SeqAt.shaped
  rw [h]
  rfl
theorem alike_step (T : Top w K mg) (n : Nat) (below : ∀ (f : Addr) (fd : FuncData), Fun K "_law_alike" "_law_alike" s_law_alike f fd → FnOk P w K mg base CX0 n f fd ["_law_found", "_law_due"] (spA n)) {f : Addr} {fd : FuncData} (F : Fun K "_law_alike" "_law_alike" s_law_alike f fd) :
    FnOk P w K mg base CX0 (n + 1) f fd ["_law_found", "_law_due"] (spA (n + 1)) := by
  obtain ⟨f_law_alike, fd_law_alike, F_law_alike, b_law_alike, m_law_alike⟩ := T.d_law_alike
  have G_law_alike := below f_law_alike fd_law_alike F_law_alike
  refine F.ok sc_law_alike (fun vs H Q E h => ?_) (fun cdv A outer s H vs Q E hr h => ?_)
  · obtain ⟨v, u, rfl, _⟩ := h
    rfl
  obtain ⟨v, u, rfl, al, q⟩ := h
  refine ⟨_, (pss_cons (ps_if (pt_val (pe_callB (call_isiTK K rfl) (by rfl) T.m_isinstance (by decide +kernel) (pa_cons (pv 1) (pa_cons (pe_tup (pa_cons (pe_bltn (v := .ty "list") (by rfl) T.m_list (by decide +kernel) rfl) (pa_cons (pe_bltn (v := .ty "tuple") (by rfl) T.m_tuple (by decide +kernel) rfl) pa_nil))) pa_nil)))) (pss_cons (ps_if (PW.pt (pw_or (pt_cmpR op_ne (pe_callB (call_isiKK K rfl) (by rfl) T.m_isinstance (by decide +kernel) (pa_cons (pv 0) (pa_cons (pe_bltn (v := .ty "list") (by rfl) T.m_list (by decide +kernel) rfl) pa_nil))) (pe_callB (call_isiKK K rfl) (by rfl) T.m_isinstance (by decide +kernel) (pa_cons (pv 1) (pa_cons (pe_bltn (v := .ty "list") (by rfl) T.m_list (by decide +kernel) rfl) pa_nil))) (nomark _)) (pw_or1 (pt_cmpR op_ne (pe_callB (call_isiKK K rfl) (by rfl) T.m_isinstance (by decide +kernel) (pa_cons (pv 0) (pa_cons (pe_bltn (v := .ty "tuple") (by rfl) T.m_tuple (by decide +kernel) rfl) pa_nil))) (pe_callB (call_isiKK K rfl) (by rfl) T.m_isinstance (by decide +kernel) (pa_cons (pv 1) (pa_cons (pe_bltn (v := .ty "tuple") (by rfl) T.m_tuple (by decide +kernel) rfl) pa_nil))) (nomark _))))) (pss_one (ps_ret pe_bl)) pss_nil)
      (pss_cons (ps_if (pt_cmpR op_ne (pe_callB (call_len_seqK K rfl) (by rfl) T.m_len (by decide +kernel) (pa_cons (pv 0) pa_nil)) (pe_callB (call_len_seqK K rfl) (by rfl) T.m_len (by decide +kernel) (pa_cons (pv 1) pa_nil)) (nomark _)) (pss_one (ps_ret pe_bl)) pss_nil)
      (pss_one (ps_ret (pe_callB (cr_allK K rfl rfl) (by rfl) T.m_all (by decide +kernel) (pa_cons (pe_lc (own := [("_law_one", 2), ("_law_other", 3)]) (g := gTup K 2 (gCons (gName 2) (gCons (gName 3) gNil))) (tt := tYes) (by rfl) sc_law_alike.nd (pi_zipAK K rfl (by rfl) T.m_zip (pa_cons (pv 0) (pa_cons (pv 1) pa_nil))) (blkOk_by (own := [("_law_one", 2), ("_law_other", 3)]) (N := N_law_alike) (sc := defScope s_law_alike) (by decide +kernel)) (fun _ _ _ _ _ => (pg_tupK K rfl rfl (pgs_cons (pg_name (i := 2) sc_law_alike.nd rfl (Or.inl rfl)) (pgs_cons (pg_name (i := 3) sc_law_alike.nd rfl (Or.inl rfl)) pgs_nil)))) (fun _ _ _ _ _ => pts_nil) (fun _ _ _ _ _ => (pe_call G_law_alike (hr.mono (Nat.le_refl _)) (by rfl) m_law_alike F_law_alike.kp b_law_alike .nil pass0 (pa_cons (pv 2) (pa_cons (pv 3) pa_nil))))) pa_nil)))))) pss_nil)
      (pss_cons (ps_if (PW.pt (pw_or (pt_val (pe_callB (call_isiKK K rfl) (by rfl) T.m_isinstance (by decide +kernel) (pa_cons (pv 1) (pa_cons (pe_bltn (v := .ty "str") (by rfl) T.m_str (by decide +kernel) rfl) pa_nil)))) (pw_or1 (pt_cmpR op_isN (pv 1) pe_non (nomark _))))) (pss_one (ps_ret (pe_and (pe_cmpR op_eq (pe_callB (call_isiKK K rfl) (by rfl) T.m_isinstance (by decide +kernel) (pa_cons (pv 0) (pa_cons (pe_bltn (v := .ty "str") (by rfl) T.m_str (by decide +kernel) rfl) pa_nil))) (pe_callB (call_isiKK K rfl) (by rfl) T.m_isinstance (by decide +kernel) (pa_cons (pv 1) (pa_cons (pe_bltn (v := .ty "str") (by rfl) T.m_str (by decide +kernel) rfl) pa_nil))) (nomark _)) (pe_one (pe_cmpR (op_eqDK K rfl hr.units) (pv 0) (pv 1) (nomark _)))))) pss_nil)
      (pss_one (ps_ret (pe_and (pe_callB (call_isiKK K rfl) (by rfl) T.m_isinstance (by decide +kernel) (pa_cons (pv 0) (pa_cons (pe_bltn (v := .ty "int") (by rfl) T.m_int (by decide +kernel) rfl) pa_nil))) (pe_and (pe_cmpR op_eq (pe_callB (call_isiKK K rfl) (by rfl) T.m_isinstance (by decide +kernel) (pa_cons (pv 0) (pa_cons (pe_bltn (v := .ty "bool") (by rfl) T.m_bool (by decide +kernel) rfl) pa_nil))) (pe_callB (call_isiKK K rfl) (by rfl) T.m_isinstance (by decide +kernel) (pa_cons (pv 1) (pa_cons (pe_bltn (v := .ty "bool") (by rfl) T.m_bool (by decide +kernel) rfl) pa_nil))) (nomark _)) (pe_one (pe_cmpR (op_eqDK K rfl hr.units) (pv 0) (pv 1) (nomark _))))))))), ?_⟩
  refine ⟨_, rfl, (by show 2 ≤ sizeLine; decide), fun tp ntp => ?_⟩
  have cases2 : Leaf v u ∨ ∃ m, n = m + 1 ∧ ∃ (p q : Addr) (xs ys : List V), v = .ref p ∧ u = .ref q ∧ ((H p = some (.lst xs) ∧ H q = some (.lst ys)) ∨ (H p = some (.tup xs) ∧ H q = some (.tup ys))) ∧ xs.length ≤ 400 ∧ All2 (Al m H) xs ys := by
    cases n with
    | zero => exact .inl al
    | succ m => exact al.imp id fun z => ⟨m, rfl, z⟩
  rcases cases2 with (⟨a, rfl, rfl⟩ | ⟨x, rfl, rfl, lay⟩ | ⟨rfl, rfl⟩) | ⟨m, rfl, p, q2, xs, ys, rfl, rfl, kinds, few, al⟩
  · skip
    refine ⟨_, tp, _, _, _, false, rfl, upd_same, .cons (.ty "list") (.cons (.ty "tuple") .nil), .base (.int _), kit_int, _, rfl, if_bl (fun z => nomatch z) (fun _ => ?_)⟩
    refine ⟨_, rfl, _, _, _, _, false, rfl, .ty "str", .base (.int _), kit_ty (by decide +kernel), _, rfl, if_bl (fun z => nomatch z) (fun _ => ?_)⟩
    refine ⟨_, rfl, rfl, _, rfl, if_bl (fun z => absurd (of_decide_eq_true z) (fun y => nomatch y)) (fun _ => ?_)⟩
    refine ⟨_, rfl, _, _, _, _, true, rfl, .ty "int", .base (.int _), kit_ty (by decide +kernel), _, rfl, if_bl (fun _ => ?_) (fun z => nomatch z)⟩
    refine ⟨_, rfl, _, _, _, _, false, rfl, .ty "bool", .base (.int _), kit_ty (by decide +kernel), _, rfl, _, _, _, _, false, rfl, .ty "bool", .base (.int _), kit_ty (by decide +kernel), rfl, _, rfl, if_bl (fun _ => ?_) (fun z => nomatch z)⟩
    refine ⟨_, rfl, _, rfl, _, _, .int a, .int a, rfl, rfl, ?_⟩
    rw [show PyData.eqv (.int a) (.int a) = true by simp [PyData.eqv]]
    exact q _ (same_new ntp)
  · skip
    refine ⟨_, tp, _, _, _, false, rfl, upd_same, .cons (.ty "list") (.cons (.ty "tuple") .nil), .base (.str _), kit_str, _, rfl, if_bl (fun z => nomatch z) (fun _ => ?_)⟩
    refine ⟨_, rfl, _, _, _, _, true, rfl, .ty "str", .base (.str _), kit_ty (by decide +kernel), _, rfl, if_bl (fun _ => ?_) (fun z => nomatch z)⟩
    refine ⟨_, rfl, _, _, _, _, true, rfl, .ty "str", .base (.str _), kit_ty (by decide +kernel), _, rfl, _, _, _, _, true, rfl, .ty "str", .base (.str _), kit_ty (by decide +kernel), rfl, _, rfl, if_bl (fun _ => ?_) (fun z => nomatch z)⟩
    refine ⟨_, rfl, _, rfl, _, _, .str x, .str x, leaf_shaped lay, leaf_shaped lay, ?_⟩
    rw [PySem.SeqAt.eqv_refl (.str x) lay]
    exact q _ (same_new ntp)
  · skip
    refine ⟨_, tp, _, _, _, false, rfl, upd_same, .cons (.ty "list") (.cons (.ty "tuple") .nil), .base .non, kit_non, _, rfl, if_bl (fun z => nomatch z) (fun _ => ?_)⟩
    refine ⟨_, rfl, _, _, _, _, false, rfl, .ty "str", .base .non, kit_ty (by decide +kernel), _, rfl, if_bl (fun z => nomatch z) (fun _ => ?_)⟩
    refine ⟨_, rfl, rfl, _, rfl, if_bl (fun _ => ?_) (fun z => absurd rfl (of_decide_eq_false z))⟩
    refine ⟨_, rfl, _, _, _, _, false, rfl, .ty "str", .base .non, kit_ty (by decide +kernel), _, rfl, _, _, _, _, false, rfl, .ty "str", .base .non, kit_ty (by decide +kernel), rfl, _, rfl, if_bl (fun _ => ?_) (fun z => nomatch z)⟩
    refine ⟨_, rfl, _, rfl, _, _, .non, .non, rfl, rfl, ?_⟩
    rw [show PyData.eqv .none .none = true by simp [PyData.eqv]]
    exact q _ (same_new ntp)
  rcases kinds with ⟨hp, hq⟩ | ⟨hp, hq⟩
  · have hp1 := same_new (o := .tup [V.ty "list", V.ty "tuple"]) ntp _ _ hp
    have hq1 := same_new (o := .tup [V.ty "list", V.ty "tuple"]) ntp _ _ hq
    refine ⟨_, tp, _, _, _, true, rfl, upd_same, .cons (.ty "list") (.cons (.ty "tuple") .nil), .base (.lst hq1), kit_lst, _, rfl, if_bl (fun _ => ?_) (fun z => nomatch z)⟩
    refine ⟨_, rfl, _, _, _, _, true, rfl, .ty "list", .base (.lst hp1), kit_ty (by decide +kernel), _, rfl, _, _, _, _, true, rfl, .ty "list", .base (.lst hq1), kit_ty (by decide +kernel), rfl, _, rfl, if_bl (fun z => nomatch z) (fun _ => ?_)⟩
    refine ⟨_, rfl, _, _, _, _, false, rfl, .ty "tuple", .base (.lst hp1), kit_ty (by decide +kernel), _, rfl, _, _, _, _, false, rfl, .ty "tuple", .base (.lst hq1), kit_ty (by decide +kernel), rfl, _, rfl, if_bl (fun z => nomatch z) (fun _ => ?_)⟩
    refine ⟨_, rfl, p, _, rfl, .inl (SqL.of hp1), _, rfl, q2, _, rfl, .inl (SqL.of hq1), rfl, _, rfl, if_bl (fun z => ?_) (fun _ => ?_)⟩
    · rw [al.length, decide_eq_true rfl] at z
      cases z
    dsimp only [tNext, tRet, tCB, tCons, tLc]
    refine or_zip (p := p) (q := q2) (xs := xs) (ys := ys) (fun Q q => ⟨_, rfl, _, rfl, q⟩) (.inl ⟨hp1, hq1⟩) al.length (fun J gj sj yj D nD => lc_it (J := J) (n := xs.length) (fun i H5 => H5 D = some (.lst ((List.replicate i true).map V.bl)) ∧ Same (upd H tp (.tup [V.ty "list", V.ty "tuple"])) H5) ⟨upd_same, same_new nD⟩ ?_ ?_ ?_ ?_)
    · rintro i H5 hi ⟨hD, s5⟩
      exact gj i H5 ⟨(s5 _ _ hp1).trans hp1.symm, (s5 _ _ hq1).trans hq1.symm⟩ hi
    · rintro H5 ⟨hD, s5⟩
      exact sj H5 ⟨(s5 _ _ hp1).trans hp1.symm, (s5 _ _ hq1).trans hq1.symm⟩
    · rintro i v H5 H6 hi ⟨hD, s5⟩ y
      obtain ⟨t, x, z, rfl, nt, rfl, ex, ez⟩ := yj i H5 v H6 ⟨(s5 _ _ hp1).trans hp1.symm, (s5 _ _ hq1).trans hq1.symm⟩ y
      obtain ⟨z', ez', ha⟩ := al.getL ex
      rw [ez] at ez'
      cases ez'
      have s6 := s5.trans (same_new (o := .tup [x, z]) nt)
      refine ⟨t, _, rfl, SqT.of upd_same, rfl, _, _, rfl, _, _, rfl, rfl, rfl, yes_in ⟨_, rfl, _, rfl, x, z, rfl, ha.same ((same_new ntp).trans s6), fun H7 s7 => ⟨_, s7 _ _ (same_new nt _ _ hD), ?_, ?_, Same.own (s6.trans s7) nD⟩⟩⟩
      · rw [List.length_map, List.length_replicate]; exact small1000 (by omega)
      · rw [upd_same, List.replicate_succ', List.map_append]; rfl
    · rintro H5 ⟨hD, s5⟩
      refine ⟨D, _, rfl, SqL.of hD, ?_⟩
      rw [show (List.replicate xs.length true).all id = true by simp]
      exact q _ ((same_new ntp).trans s5)
  · have hp1 := same_new (o := .tup [V.ty "list", V.ty "tuple"]) ntp _ _ hp
    have hq1 := same_new (o := .tup [V.ty "list", V.ty "tuple"]) ntp _ _ hq
    refine ⟨_, tp, _, _, _, true, rfl, upd_same, .cons (.ty "list") (.cons (.ty "tuple") .nil), .base (.tup hq1), kit_tup, _, rfl, if_bl (fun _ => ?_) (fun z => nomatch z)⟩
    refine ⟨_, rfl, _, _, _, _, false, rfl, .ty "list", .base (.tup hp1), kit_ty (by decide +kernel), _, rfl, _, _, _, _, false, rfl, .ty "list", .base (.tup hq1), kit_ty (by decide +kernel), rfl, _, rfl, if_bl (fun z => nomatch z) (fun _ => ?_)⟩
    refine ⟨_, rfl, _, _, _, _, true, rfl, .ty "tuple", .base (.tup hp1), kit_ty (by decide +kernel), _, rfl, _, _, _, _, true, rfl, .ty "tuple", .base (.tup hq1), kit_ty (by decide +kernel), rfl, _, rfl, if_bl (fun z => nomatch z) (fun _ => ?_)⟩
    refine ⟨_, rfl, p, _, rfl, .inr (SqT.of hp1), _, rfl, q2, _, rfl, .inr (SqT.of hq1), rfl, _, rfl, if_bl (fun z => ?_) (fun _ => ?_)⟩
    · rw [al.length, decide_eq_true rfl] at z
      cases z
    dsimp only [tNext, tRet, tCB, tCons, tLc]
    refine or_zip (p := p) (q := q2) (xs := xs) (ys := ys) (fun Q q => ⟨_, rfl, _, rfl, q⟩) (.inr ⟨hp1, hq1⟩) al.length (fun J gj sj yj D nD => lc_it (J := J) (n := xs.length) (fun i H5 => H5 D = some (.lst ((List.replicate i true).map V.bl)) ∧ Same (upd H tp (.tup [V.ty "list", V.ty "tuple"])) H5) ⟨upd_same, same_new nD⟩ ?_ ?_ ?_ ?_)
    · rintro i H5 hi ⟨hD, s5⟩
      exact gj i H5 ⟨(s5 _ _ hp1).trans hp1.symm, (s5 _ _ hq1).trans hq1.symm⟩ hi
    · rintro H5 ⟨hD, s5⟩
      exact sj H5 ⟨(s5 _ _ hp1).trans hp1.symm, (s5 _ _ hq1).trans hq1.symm⟩
    · rintro i v H5 H6 hi ⟨hD, s5⟩ y
      obtain ⟨t, x, z, rfl, nt, rfl, ex, ez⟩ := yj i H5 v H6 ⟨(s5 _ _ hp1).trans hp1.symm, (s5 _ _ hq1).trans hq1.symm⟩ y
      obtain ⟨z', ez', ha⟩ := al.getL ex
      rw [ez] at ez'
      cases ez'
      have s6 := s5.trans (same_new (o := .tup [x, z]) nt)
      refine ⟨t, _, rfl, SqT.of upd_same, rfl, _, _, rfl, _, _, rfl, rfl, rfl, yes_in ⟨_, rfl, _, rfl, x, z, rfl, ha.same ((same_new ntp).trans s6), fun H7 s7 => ⟨_, s7 _ _ (same_new nt _ _ hD), ?_, ?_, Same.own (s6.trans s7) nD⟩⟩⟩
      · rw [List.length_map, List.length_replicate]; exact small1000 (by omega)
      · rw [upd_same, List.replicate_succ', List.map_append]; rfl
    · rintro H5 ⟨hD, s5⟩
      refine ⟨D, _, rfl, SqL.of hD, ?_⟩
      rw [show (List.replicate xs.length true).all id = true by simp]
      exact q _ ((same_new ntp).trans s5)
theorem ok_alike (T : Top w K mg) : ∀ (n : Nat) (f : Addr) (fd : FuncData), Fun K "_law_alike" "_law_alike" s_law_alike f fd → FnOk P w K mg base CX0 n f fd ["_law_found", "_law_due"] (spA n)
  | 0, _, _, _ => ⟨fun _ _ _ _ h => h.elim, fun _ _ _ _ _ _ _ _ _ _ _ _ _ h => h.elim⟩
  | n + 1, _, _, F => alike_step T n (ok_alike T n) F
abbrev sp_law_alike (K : PySem.W.Frag) : Sp := spA 5
theorem ok_law_alike {f : Addr} {fd : FuncData} (F : Fun K "_law_alike" "_law_alike" s_law_alike f fd) (T : Top w K mg) : FnOk P w K mg base CX0 5 f fd ["_law_found", "_law_due"] (sp_law_alike K) := ok_alike T 5 f fd F
end
/-! ### a room joined, told again -/
theorem Tb2.lst {PT : Addr × Addr} {H : Hp} {l : Addr} {xs ys : List V} (t : Tb2 PT H) (h : H l = some (.lst xs)) : Tb2 PT (upd H l (.lst ys)) := by
  obtain ⟨⟨p1, e1, t1⟩, p2, e2, t2⟩ := t
  exact ⟨⟨p1, by rw [upd_ne (fun z => by rw [z, h] at e1; cases e1)]; exact e1, t1⟩, p2, by rw [upd_ne (fun z => by rw [z, h] at e2; cases e2)]; exact e2, t2⟩
theorem All2.app {α β : Type} {R : α → β → Prop} {as : List α} {bs : List β} {cs : List α} {ds : List β} (a : All2 R as bs) (b : All2 R cs ds) : All2 R (as ++ cs) (bs ++ ds) := by
  induction a with
  | nil => exact b
  | cons h _ ih => exact .cons h ih
def Rm (H : Hp) (v : V) : Prop := ∃ (r : Addr) (hs : List HR) (bs : List BR), v = .ref r ∧ RoomAt H r hs bs ∧ RoomOk hs bs
theorem Rm.keep {H H' : Hp} {v : V} (a : Rm H v) (k : TK H H') : Rm H' v := by
  obtain ⟨r, hs, bs, e, h, ok⟩ := a
  exact ⟨r, hs, bs, e, h.keep k, ok⟩
theorem All2.join {α β γ : Type} {R : α → γ → Prop} {R' : β → γ → Prop} {S : α → β → Prop} {as : List α} {cs : List γ} (a : All2 R as cs) : ∀ {bs : List β}, All2 R' bs cs → (∀ x y c, c ∈ cs → R x c → R' y c → S x y) → All2 S as bs := by
  induction a with
  | nil => intro bs b _; cases b; exact .nil
  | cons h t ih =>
    intro bs b k
    cases b with
    | cons h' t' => exact .cons (k _ _ _ (List.mem_cons_self ..) h h') (ih t' fun x y c hc => k x y c (List.mem_cons_of_mem _ hc))
theorem al_ints {H : Hp} : ∀ m : List Int, All2 (Al 0 H) (m.map V.int) (m.map V.int)
  | [] => .nil
  | a :: m => .cons (.inl ⟨a, rfl, rfl⟩) (al_ints m)
theorem al_room {H : Hp} {p q : Addr} {hs : List HR} {bs : List BR} (a : RoomAt H p hs bs) (b : RoomAt H q hs bs) (lh : hs.length ≤ 400) (lb : bs.length ≤ 400) (good : ∀ h ∈ hs, GoodHand h) (th : ∀ b ∈ bs, b.th.length ≤ 400) : Al 4 H (.ref p) (.ref q) := by
  obtain ⟨ha, ba, hv, bv, er, eh, eb, alh, alb⟩ := a.ex
  obtain ⟨ha', ba', hv', bv', er', eh', eb', alh', alb'⟩ := b.ex
  refine .inr ⟨p, q, _, _, rfl, rfl, .inr ⟨er, er'⟩, (by show 2 ≤ 400; decide), .cons (.inr ⟨ha, ha', _, _, rfl, rfl, .inr ⟨eh, eh'⟩, by rw [alh.length]; exact lh, ?_⟩) (.cons (.inr ⟨ba, ba', _, _, rfl, rfl, .inr ⟨eb, eb'⟩, by rw [alb.length]; exact lb, ?_⟩) .nil)⟩
  · refine alh.join alh' fun x y h hm hx hy => ?_
    obtain ⟨t, r, rfl, e1, e2⟩ := hx
    obtain ⟨t', r', rfl, e1', e2'⟩ := hy
    refine .inr ⟨t, t', _, _, rfl, rfl, .inr ⟨e1, e1'⟩, (by show 2 ≤ 400; decide), .cons (.inr ⟨r, r', _, _, rfl, rfl, .inr ⟨e2, e2'⟩, ?_, ?_⟩) (.cons (.inl (.inl ⟨_, rfl, rfl⟩)) .nil)⟩
    · show ((match h.no with | none => [] | some n => [V.int n]).length + 1) ≤ 400
      cases h.no <;> simp
    · refine .cons (.inr (.inl ⟨_, rfl, rfl, (good h hm).lay⟩)) ?_
      cases h.no with
      | none => exact .nil
      | some n => exact .cons (.inl ⟨n, rfl, rfl⟩) .nil
  · refine alb.join alb' fun x y c hm hx hy => ?_
    obtain ⟨t, r, rfl, e1, e2⟩ := hx
    obtain ⟨t', r', rfl, e1', e2'⟩ := hy
    exact .inr ⟨t, t', _, _, rfl, rfl, .inr ⟨e1, e1'⟩, (by show 3 ≤ 400; decide), .cons (.inl (.inl ⟨_, rfl, rfl⟩)) (.cons (.inl (.inl ⟨_, rfl, rfl⟩)) (.cons (.inr ⟨r, r', _, _, rfl, rfl, .inr ⟨e2, e2'⟩, by rw [List.length_map]; exact th c hm, al_ints _⟩) .nil))⟩
section
variable {P : Program} {w : World} {K : PySem.W.Frag} {mg : Str → Option Value} {base : Heap}
def sp_law_joined (K : PySem.W.Frag) : Sp := fun vs H Q _ => ∃ (r : Addr) (hs : List HR) (bs : List BR) (t : List Nat), vs = [.ref r] ∧ RoomAt H r hs bs ∧ RoomOk hs bs ∧ KindsOf hs bs t ∧
  ∀ (r' : Addr) (H' : Hp), RoomAt H' r' (joinH hs t) (joinB bs t) → Same H H' → Q (.ref r') H'
theorem ok_law_joined {f : Addr} {fd : FuncData} (F : Fun K "_law_joined" "_law_joined" s_law_joined f fd) (T : Top w K mg) : FnOk P w K mg base CX0 4 f fd ["_law_room_here"] (sp_law_joined K) := by
  obtain ⟨f_law_parting, fd_law_parting, F_law_parting, b_law_parting, m_law_parting⟩ := T.d_law_parting
  have G_law_parting := ok_law_parting (P := P) (w := w) (base := base) F_law_parting T
  obtain ⟨f_law_givers, fd_law_givers, F_law_givers, b_law_givers, m_law_givers⟩ := T.d_law_givers
  have G_law_givers := ok_law_givers (P := P) (w := w) (base := base) F_law_givers T
  refine F.ok sc_law_joined (fun vs H Q E h => ?_) (fun cdv A outer s H vs Q E hr h => ?_)
  · obtain ⟨r, hs, bs, t, rfl, _⟩ := h
    rfl
  obtain ⟨r, hs, bs, t, rfl, hR, ok, kd, q⟩ := h
  have lh := ok.hands
  have lb := ok.many
  have tl := kd.len
  refine ⟨_, (pss_cons (ps_set (i := 1) sc_law_joined.nd rfl (Or.inr rfl) (pe_call G_law_parting (hr.mono (by decide)) (by rfl) m_law_parting F_law_parting.kp b_law_parting .nil pass0 (pa_cons (pv 0) pa_nil)))
      (pss_cons (ps_set (i := 2) sc_law_joined.nd rfl (Or.inl rfl) (pe_lst pa_nil))
      (pss_cons (ps_set (i := 3) sc_law_joined.nd rfl (Or.inl rfl) (pe_lst pa_nil))
      (pss_cons (ps_for PassesOwn.never rfl (pi_range1 (by rfl) T.m_range (pa_cons (pe_lenSetT K rfl (by rfl) T.m_len (by rfl) T.m_set (pv 1)) pa_nil)) (pg_name (i := 4) sc_law_joined.nd rfl (Or.inr rfl))
        (pss_cons (ps_setLc (i := 5) (own := [("_law_k", 6)]) (g := gName 6) (by rfl) sc_law_joined.nd rfl rfl (sw_true rfl rfl rfl (by decide +kernel)) (pi_range1 (by rfl) T.m_range (pa_cons (pe_callB (call_len_seqK K rfl) (by rfl) T.m_len (by decide +kernel) (pa_cons (pv 1) pa_nil)) pa_nil)) (blkOk_by (own := [("_law_k", 6)]) (N := N_law_joined) (sc := defScope s_law_joined) (by decide +kernel)) (fun _ _ _ _ _ => (pg_name (i := 6) sc_law_joined.nd rfl (Or.inl rfl))) (fun _ _ _ _ _ => pts_one (pt_cmpR op_eq (pe_ix (ix_tupK K rfl) (pv 1) (pv 6) (fun _ _ => rfl)) (pv 4) (nomark _))) (fun _ _ _ _ _ => (pv 6)))
      (pss_cons (ps_expr (pe_bmK K rfl PySem.F.plainAttrs_list PySem.F.slot_list_append PySem.F.type_list_append mt_append (pv 2) (pa_cons (pe_tup (pa_cons (pe_ix (ix_tupK K rfl) (pe_ix (ix_tupK K rfl) (pe_ix (ix_tupK K rfl) (pv 0) pe_int (fun _ _ => rfl)) (pe_ix (ix_listK K rfl) (pv 5) pe_int (fun _ _ => rfl)) (fun _ _ => rfl)) pe_int (fun _ _ => rfl)) (pa_cons (pe_callB (cr_minKK K rfl rfl) (by rfl) T.m_min (by decide +kernel) (pa_cons (pe_lc (own := [("_law_k", 6)]) (g := gName 6) (tt := tYes) (by rfl) sc_law_joined.nd (pi_listK K rfl (pv 5)) (blkOk_by (own := [("_law_k", 6)]) (N := N_law_joined) (sc := defScope s_law_joined) (by decide +kernel)) (fun _ _ _ _ _ => (pg_name (i := 6) sc_law_joined.nd rfl (Or.inl rfl))) (fun _ _ _ _ _ => pts_nil) (fun _ _ _ _ _ => (pe_ix (ix_tupK K rfl) (pe_ix (ix_tupK K rfl) (pe_ix (ix_tupK K rfl) (pv 0) pe_int (fun _ _ => rfl)) (pv 6) (fun _ _ => rfl)) pe_int (fun _ _ => rfl)))) pa_nil)) pa_nil))) pa_nil)))
      (pss_one (ps_expr (pe_bmK K rfl PySem.F.plainAttrs_list PySem.F.slot_list_extend PySem.F.type_list_extend mt_extend (pv 3) (pa_cons (pe_lc (own := [("_law_one", 7), ("_law_things", 8)]) (g := gTup K 2 (gCons (gName 7) (gCons (gName 8) gNil))) (tt := tYes) (by rfl) sc_law_joined.nd (pi_listK K rfl (pe_call G_law_givers (hr.mono (by decide)) (by rfl) m_law_givers F_law_givers.kp b_law_givers .nil pass0 (pa_cons (pv 0) (pa_cons (pe_ix (ix_listK K rfl) (pv 5) pe_int (fun _ _ => rfl)) pa_nil)))) (blkOk_by (own := [("_law_one", 7), ("_law_things", 8)]) (N := N_law_joined) (sc := defScope s_law_joined) (by decide +kernel)) (fun _ _ _ _ _ => (pg_tupK K rfl rfl (pgs_cons (pg_name (i := 7) sc_law_joined.nd rfl (Or.inl rfl)) (pgs_cons (pg_name (i := 8) sc_law_joined.nd rfl (Or.inl rfl)) pgs_nil)))) (fun _ _ _ _ _ => pts_nil) (fun _ _ _ _ _ => (pe_tup (pa_cons (pe_ix (ix_tupK K rfl) (pv 1) (pv 7) (fun _ _ => rfl)) (pa_cons (pv 4) (pa_cons (pv 8) pa_nil)))))) pa_nil)))))))
      (pss_one (ps_ret (pe_tup (pa_cons (pe_callTy (call_tuple_ofK K rfl) (by rfl) T.m_tuple (by decide +kernel) (pa_cons (pv 2) pa_nil)) (pa_cons (pe_callTy (call_tuple_ofK K rfl) (by rfl) T.m_tuple (by decide +kernel) (pa_cons (pv 3) pa_nil)) pa_nil))))))))), ?_⟩
  refine ⟨_, rfl, r, hs, bs, t, rfl, hR, ok.good, by omega, by omega, fun b hb => (ok.ends b hb).1, kd, fun p H1 np hp s1 => ?_⟩
  refine ⟨(by show 0 ≤ sizeLine; decide), fun hl nhl => ⟨(by show 0 ≤ sizeLine; decide), fun bl nbl => ?_⟩⟩
  let Lv : Nat → L2.St → Hp → Prop := fun k σ H5 => ∃ (hv bv : List V) (x4 x5 x6 x7 x8 : Option V), σ = [some (.ref r), some (.ref p), some (.ref hl), some (.ref bl), x4, x5, x6, x7, x8] ∧ H5 hl = some (.lst hv) ∧ H5 bl = some (.lst bv) ∧ All2 (HandAt H5) hv ((List.range k).map (joinH1 hs t)) ∧ All2 (BeltAt H5) bv ((List.range k).flatMap (joinB1 bs t)) ∧ H5 p = some (.tup (t.map nV)) ∧ Same H H5
  have n1 : hl ≠ bl := fun e => by rw [e] at nbl; rw [upd_same] at nbl; cases nbl
  have s3 : Same H (upd (upd H1 hl (.lst [])) bl (.lst [])) := fun a o e => same_new nbl _ _ (same_new nhl _ _ (s1 _ _ e))
  have hp3 := same_new (o := .lst ([] : List V)) nbl _ _ (same_new (o := .lst ([] : List V)) nhl _ _ hp)
  have ul := uniq_len t
  have un : (uniq (t.map fun n => ((n : Nat) : Int))).length = (uniq t).length := by
    rw [uniq_map (f := fun n : Nat => (n : Int)) t (fun x _ y _ e => Int.ofNat.inj e), List.length_map]
  have nat_at : ∀ {j : Nat}, j < t.length → (t.map nV)[j]? = some (nV (Mine.kd t j)) := fun {j} h => by
    rw [List.getElem?_map, at_kd h]; rfl
  refine ⟨_, rfl, p, t.map (fun n => ((n : Nat) : Int)), rfl, SqT.of (by rw [List.map_map]; exact hp3), by rw [List.length_map]; omega, ?_⟩
  refine ⟨_, congrArg (fun z => [V.int ((z : Nat) : Int)]) un, by omega, by omega, for_range (lo := 0) (n := (uniq t).length) Lv ⟨[], [], _, _, _, _, _, rfl, by rw [upd_ne n1]; exact upd_same, upd_same, .nil, .nil, hp3, s3⟩ ?_ ?_⟩
  · rintro k σ H5 hk ⟨hv, bv, x4, x5, x6, x7, x8, rfl, hH, hB, alh, alb, hp5, s5⟩
    obtain ⟨rp1, rp2, rp3, rr, rp4⟩ := rep_of ((canon_all kd.canon k).mpr hk)
    obtain ⟨ha, ba, hv0, bv0, er, eh, eb, alh0, alb0⟩ := hR.ex
    rw [Int.zero_add]
    have tm : (t.map nV).length = t.length := List.length_map ..
    refine ⟨_, rfl, p, t.map nV, rfl, .inr (SqT.of hp5), _, rfl, by omega, by omega, fun D nD => lc_range (lo := 0) (n := (t.map nV).length) (fun i H6 => H6 D = some (.lst (((List.range i).filter fun j => decide (t[j]? = some k)).map nV)) ∧ Same H5 H6) ⟨upd_same, same_new nD⟩ ?_ ?_⟩
    · rintro i H6 hi ⟨hD, s6⟩
      have il : i < t.length := by omega
      have few := filt_len (p := fun j => decide (t[j]? = some k)) i
      rw [Int.zero_add]
      refine ⟨rfl, _, rfl, _, rfl, p, _, _, _, rfl, rfl, SqT.of (s6 _ _ hp5), atI_nat (nat_at il), _, rfl, rfl, _, rfl, if_bl (fun c => ?_) (fun c => ?_)⟩
      · have c : Mine.kd t i = k := by have := V.int.inj (of_decide_eq_true c); omega
        refine ⟨_, rfl, _, hD, by rw [List.length_map]; exact small1000 (by omega), ?_, Same.own s6 nD⟩
        rw [upd_same, filt_succ, if_pos (decide_eq_true (by rw [at_kd il, c])), List.map_append]
        rfl
      · have c : ¬ Mine.kd t i = k := fun z => of_decide_eq_false c (by rw [z])
        refine ⟨?_, s6⟩
        rw [filt_succ, if_neg fun z => c (by have := of_decide_eq_true z; rw [at_kd il] at this; exact Option.some.inj this), List.append_nil]
        exact hD
    rintro H6 ⟨hD, s6⟩
    rw [List.length_map] at hD
    replace hD : H6 D = some (.lst ((alk t k).map nV)) := hD
    obtain ⟨gv, egv, t2, rr2, rfl, e1, e2⟩ := alh0.get (List.getElem?_eq_getElem (l := hs) (i := rep t k) (by omega))
    have s06 : Same H H6 := s5.trans s6
    have al0 : atI ((alk t k).map nV) 0 = some (nV (rep t k)) := by rw [rp4]; exact atI_nat (j := 0) rfl
    have hH6 := s6 _ _ hH
    refine ⟨_, rfl, .inl ⟨rfl, _, SqL.of hH6⟩, _, rfl, r, _, _, _, rfl, rfl, SqT.of (s06 _ _ er), atI_nat (j := 0) rfl, _, rfl, D, _, _, _, rfl, rfl, SqL.of hD, al0, ha, _, _, _, rfl, rfl, SqT.of (s06 _ _ eh), atI_nat egv, t2, _, _, _, rfl, rfl, SqT.of (s06 _ _ e1), atI_nat (j := 0) rfl, ?_⟩
    refine ⟨_, rfl, D, rfl, ⟨_, SqL.of hD⟩, fun E nE => lc_list (K := K) (a := D) (xs := (alk t k).map nV) (fun i H7 => H7 E = some (.lst (((alk t k).take i).map fun j => V.int (gH hs j).mom)) ∧ Same H6 H7) ⟨upd_same, same_new nE⟩ (fun i H7 _ ⟨_, s7⟩ => SqL.of (s7 _ _ hD)) ?_ ?_⟩
    · rintro i v H7 hx ⟨hE, s7⟩
      rw [List.getElem?_map] at hx
      cases hj : (alk t k)[i]? with
      | none => rw [hj] at hx; cases hx
      | some j =>
        rw [hj] at hx
        obtain rfl : nV j = v := Option.some.inj hx
        have jl := alk_lt (List.mem_of_getElem? hj)
        have ej := List.getElem?_eq_getElem (l := hs) (i := j) (by omega)
        obtain ⟨gv3, egv3, t3, rr3, rfl, e3, e4⟩ := alh0.get ej
        have s07 : Same H H7 := s06.trans s7
        have il := (List.getElem?_eq_some_iff.mp hj).1
        have al2 : (alk t k).length ≤ t.length := Nat.le_trans (List.length_filter_le ..) (by rw [List.length_range]; exact Nat.le_refl _)
        refine ⟨rfl, yes_in ⟨_, rfl, r, _, _, _, rfl, rfl, SqT.of (s07 _ _ er), atI_nat (j := 0) rfl, _, rfl, ha, _, _, _, rfl, rfl, SqT.of (s07 _ _ eh), atI_nat egv3, t3, _, _, _, rfl, rfl, SqT.of (s07 _ _ e3), atI_nat (j := 1) rfl, _, hE, by rw [List.length_map, List.length_take]; exact small1000 (by omega), ?_, Same.own s7 nE⟩⟩
        rw [upd_same, List.take_add_one, hj, List.map_append, ← gH_at ej]
        rfl
    rintro H7 ⟨hE, s7⟩
    rw [List.length_map, List.take_length] at hE
    have s07 : Same H H7 := s06.trans s7
    have s57 : Same H5 H7 := s6.trans s7
    refine ⟨E, (alk t k).map fun j => (gH hs j).mom, rfl, SqL.of (by rw [List.map_map]; exact hE), by rw [List.length_map, rp4]; exact Nat.succ_pos _, fun m hm hall => ?_⟩
    obtain rfl : m = (joinH1 hs t k).mom := Int.le_antisymm (hall _ (minL_mem (List.ne_nil_of_mem hm))) (minL_le _ hm)
    have hHn := same_none s1 nhl
    have nbl1 : H1 bl = none := by rw [← nbl, upd_ne (fun e => by rw [e] at nbl; rw [upd_same] at nbl; cases nbl)]
    have hBn := same_none s1 nbl1
    refine ⟨(by show 2 ≤ sizeLine; decide), fun q1 nq1 => ?_⟩
    have s8 := same_new (o := .tup [V.ref rr2, V.int (joinH1 hs t k).mom]) nq1
    have hH7 := s57 _ _ hH
    have hH8 := s8 _ _ hH7
    have lhv := alh.length
    rw [List.length_map, List.length_range] at lhv
    have lbv := alb.length
    have k8 : TK H5 (upd (upd H7 q1 (.tup [V.ref rr2, V.int (joinH1 hs t k).mom])) hl (.lst (hv ++ [V.ref q1]))) := ((TK.same s57).trans (TK.same s8)).trans (TK.lst hH8)
    have s09 : Same H (upd (upd H7 q1 (.tup [V.ref rr2, V.int (joinH1 hs t k).mom])) hl (.lst (hv ++ [V.ref q1]))) := Same.own (fun a o e => s8 _ _ (s07 _ _ e)) hHn
    have nD5 : D ≠ hl := fun e => by rw [e, hH] at nD; cases nD
    have hD7 : H7 D = some (.lst ((alk t k).map nV)) := s7 _ _ hD
    have hD9 : upd (upd H7 q1 (.tup [V.ref rr2, V.int (joinH1 hs t k).mom])) hl (.lst (hv ++ [V.ref q1])) D = some (.lst ((alk t k).map nV)) := by rw [upd_ne nD5]; exact s8 _ _ hD7
    have hB9 : upd (upd H7 q1 (.tup [V.ref rr2, V.int (joinH1 hs t k).mom])) hl (.lst (hv ++ [V.ref q1])) bl = some (.lst bv) := by rw [upd_ne (Ne.symm n1)]; exact s8 _ _ (s57 _ _ hB)
    have hH9 : upd (upd H7 q1 (.tup [V.ref rr2, V.int (joinH1 hs t k).mom])) hl (.lst (hv ++ [V.ref q1])) hl = some (.lst (hv ++ [V.ref q1])) := upd_same
    have hp9 := k8 _ _ hp5
    have alh9 : All2 (HandAt (upd (upd H7 q1 (.tup [V.ref rr2, V.int (joinH1 hs t k).mom])) hl (.lst (hv ++ [V.ref q1])))) (hv ++ [V.ref q1]) ((List.range (k + 1)).map (joinH1 hs t)) := by
      rw [List.range_succ, List.map_append]
      refine (alh.imp fun _ _ z => z.keep k8).snoc ⟨q1, rr2, rfl, TK.lst hH8 _ _ upd_same, ?_⟩
      have := s09 _ _ e2
      rw [this]
      unfold ruleL joinH1
      rw [gH_at (List.getElem?_eq_getElem (l := hs) (i := rep t k) (by omega))]
    have alb9 := alb.imp fun _ _ z => z.keep k8
    refine ⟨hl, hv, _, rfl, rfl, hH8, small1000 (by omega), ?_⟩
    generalize upd (upd H7 q1 (.tup [V.ref rr2, V.int (joinH1 hs t k).mom])) hl (.lst (hv ++ [V.ref q1])) = H9 at *
    have jl : (joinB1 bs t k).length = (comeB bs (rep t k)).length := by unfold joinB1; rw [List.length_map]
    have cl20 : (comeB bs (rep t k)).length ≤ 20 := Nat.le_trans (by unfold comeB; exact List.length_filter_le ..) lb
    refine ⟨_, rfl, .inl ⟨rfl, _, SqL.of hB9⟩, _, rfl, _, rfl, D, _, _, _, rfl, rfl, SqL.of hD9, al0, r, hs, bs, rep t k, rfl, hR.keep (TK.same s09), by omega, fun c gv Hc nc hc algv sc => ⟨c, rfl, ⟨_, SqL.of hc⟩, fun L nL => lc_list (K := K) (a := c) (xs := gv) (fun i H10 => ∃ nb : List V, H10 L = some (.lst nb) ∧ All2 (BeltAt H10) nb ((joinB1 bs t k).take i) ∧ Same Hc H10)
      ⟨[], upd_same, by rw [List.take_zero]; exact .nil, same_new nL⟩ (fun i H10 _ ⟨_, _, _, h⟩ => SqL.of (h _ _ hc)) ?_ ?_⟩⟩
    · rintro i x H10 hx ⟨nb, hL, alnb, s10⟩
      obtain ⟨b, eb1, t3, g, rfl, e5, e6⟩ := algv.getL hx
      have bm : b ∈ bs := (List.mem_filter.mp (List.mem_of_getElem? eb1)).1
      have bl_ := (ok.ends b bm).1
      have lnb := alnb.length
      rw [List.length_take] at lnb
      have s9x := sc.trans s10
      refine ⟨t3, _, rfl, SqT.of (s10 _ _ e5), rfl, _, _, rfl, _, _, rfl, rfl, rfl, yes_in ⟨_, rfl, _, rfl, p, _, _, _, rfl, rfl, SqT.of (s9x _ _ hp9), atI_nat (nat_at (by omega)), _, rfl, _, rfl, (by show 3 ≤ sizeLine; decide), fun q2 nq2 => ?_⟩⟩
      have s11 := same_new (o := .tup [nV (Mine.kd t b.one), nV k, V.ref g]) nq2
      have hL11 := s11 _ _ hL
      have k11 : TK H10 _ := (TK.same s11).trans (TK.lst (ys := nb ++ [V.ref q2]) hL11)
      refine ⟨nb, hL11, small1000 (by omega), nb ++ [V.ref q2], upd_same, ?_, Same.own (s10.trans s11) nL⟩
      rw [show (joinB1 bs t k).take (i + 1) = (joinB1 bs t k).take i ++ [⟨Mine.kd t b.one, k, b.th⟩] by
        rw [List.take_add_one]
        unfold joinB1
        rw [List.getElem?_map, eb1]
        rfl]
      exact (alnb.imp fun _ _ z => z.keep k11).snoc ⟨q2, g, rfl, TK.lst hL11 _ _ upd_same, k11 _ _ (s10 _ _ e6)⟩
    · rintro H10 ⟨nb, hL, alnb, s10⟩
      rw [algv.length, ← jl, List.take_length] at alnb
      have s9x := sc.trans s10
      have lnb := alnb.length
      have fl := flat_len (fun k => joinB1_len (t := t) lb k) k
      have hB10 := s9x _ _ hB9
      have kx : TK H9 _ := (TK.same s9x).trans (TK.lst (ys := bv ++ nb) hB10)
      refine ⟨bl, L, bv, nb, rfl, rfl, hB10, hL, Nat.le_of_lt (small1000 (by omega)), ?_⟩
      refine ⟨hv ++ [V.ref q1], bv ++ nb, _, _, _, _, _, rfl, by rw [upd_ne n1]; exact s9x _ _ hH9, upd_same, alh9.imp fun _ _ z => z.keep kx, ?_, kx _ _ hp9, Same.own (s09.trans s9x) hBn⟩
      rw [List.range_succ, List.flatMap_append, List.flatMap_singleton]
      exact All2.app (alb9.imp fun _ _ z => z.keep kx) (alnb.imp fun _ _ z => z.keep (TK.lst hB10))
  · rintro σ H5 ⟨hv, bv, x4, x5, x6, x7, x8, rfl, hH, hB, alh, alb, hp5, s5⟩
    refine ⟨_, rfl, hl, hv, rfl, .inl ⟨SqL.of hH, fun h1 nh1 => ?_⟩⟩
    have s6 := same_new (o := .tup hv) nh1
    refine ⟨_, rfl, bl, bv, rfl, .inl ⟨SqL.of (s6 _ _ hB), fun h2 nh2 => ?_⟩⟩
    have s7 := s6.trans (same_new (o := .tup bv) nh2)
    refine ⟨(by show 2 ≤ sizeLine; decide), fun r' nr' => ?_⟩
    have s8 := same_new (o := .tup [V.ref h1, V.ref h2]) nr'
    have k8 := (TK.same s7).trans (TK.same s8)
    exact q r' _ ⟨h1, h2, hv, bv, upd_same, s8 _ _ (same_new (o := .tup bv) nh2 _ _ upd_same), s8 _ _ upd_same, alh.imp fun _ _ z => z.keep k8, alb.imp fun _ _ z => z.keep k8⟩ fun a o e => s8 _ _ (s7 _ _ (s5 _ _ e))
variable {cF cB : Addr} {PT : Addr × Addr} [TF : TabF K mg base cF PT] [TC : TabC K mg base cB PT]
include TF TC
def sp_law (K : PySem.W.Frag) (PT : Addr × Addr) : Sp := fun vs H Q _ => ∃ (a : Addr) (ns : List Int), vs = [.ref a] ∧ SqL K H a (ns.map V.int) ∧ ns.length ≤ 63 ∧ Tb2 PT H ∧ ∀ H', Q (.bl true) H'
theorem ok_law {f : Addr} {fd : FuncData} (F : Fun K "law" "law" s_law f fd) (T : Top w K mg) : FnOk P w K mg base CX0 8 f fd ["_law_script"] (sp_law K PT) := by
  obtain ⟨f_law_flow, fd_law_flow, F_law_flow, b_law_flow, m_law_flow⟩ := T.d_law_flow
  have G_law_flow := ok_law_flow (P := P) (w := w) (base := base) F_law_flow T
  obtain ⟨f_joined_alike, fd_joined_alike, F_joined_alike, b_joined_alike, m_joined_alike⟩ := T.d_joined_alike
  have G_joined_alike := ok_joined_alike (P := P) (w := w) (base := base) F_joined_alike T
  obtain ⟨f_law_pick, fd_law_pick, F_law_pick, b_law_pick, m_law_pick⟩ := T.d_law_pick
  have G_law_pick := ok_law_pick (P := P) (w := w) (base := base) F_law_pick T
  obtain ⟨f_law_any_room, fd_law_any_room, F_law_any_room, b_law_any_room, m_law_any_room⟩ := T.d_law_any_room
  have G_law_any_room := ok_law_any_room (P := P) (w := w) (base := base) F_law_any_room T
  obtain ⟨f_law_some_copied, fd_law_some_copied, F_law_some_copied, b_law_some_copied, m_law_some_copied⟩ := T.d_law_some_copied
  have G_law_some_copied := ok_law_some_copied (P := P) (w := w) (base := base) F_law_some_copied T
  obtain ⟨f_law_alike, fd_law_alike, F_law_alike, b_law_alike, m_law_alike⟩ := T.d_law_alike
  have G_law_alike := ok_law_alike (P := P) (w := w) (base := base) F_law_alike T
  obtain ⟨f_look_room, fd_look_room, F_look_room, b_look_room, m_look_room⟩ := T.d_look_room
  have G_look_room := ok_look_room (P := P) (w := w) (base := base) F_look_room T
  obtain ⟨f_law_joined, fd_law_joined, F_law_joined, b_law_joined, m_law_joined⟩ := T.d_law_joined
  have G_law_joined := ok_law_joined (P := P) (w := w) (base := base) F_law_joined T
  refine F.ok sc_law (fun vs H Q E h => ?_) (fun cdv A outer s H vs Q E hr h => ?_)
  · obtain ⟨a, ns, rfl, _⟩ := h
    rfl
  obtain ⟨a, ns, rfl, hS, hlen, tb0, q⟩ := h
  refine ⟨_, (pss_cons (ps_set (i := 1) sc_law.nd rfl (Or.inl rfl) (pe_call G_law_flow (hr.mono (by decide)) (by rfl) m_law_flow F_law_flow.kp b_law_flow .nil pass0 (pa_cons (pv 0) pa_nil)))
      (pss_cons (ps_set (i := 2) sc_law.nd rfl (Or.inl rfl) (pe_lst pa_nil))
      (pss_cons (ps_for PassesOwn.never rfl (pi_range1 (by rfl) T.m_range (pa_cons pe_int pa_nil)) (pg_name (i := 3) sc_law.nd rfl (Or.inl rfl))
        (pss_one (ps_if (pt_cmpR op_eq (pe_call G_law_pick (hr.mono (by decide)) (by rfl) m_law_pick F_law_pick.kp b_law_pick .nil pass0 (pa_cons (pv 1) (pa_cons pe_int pa_nil))) pe_int (nomark _)) (pss_one (ps_expr (pe_bmK K rfl PySem.F.plainAttrs_list PySem.F.slot_list_append PySem.F.type_list_append mt_append (pv 2) (pa_cons (pe_call G_law_any_room (hr.mono (by decide)) (by rfl) m_law_any_room F_law_any_room.kp b_law_any_room .nil pass0 (pa_cons (pv 1) pa_nil)) pa_nil)))) (pss_one (ps_expr (pe_bmK K rfl PySem.F.plainAttrs_list PySem.F.slot_list_append PySem.F.type_list_append mt_append (pv 2) (pa_cons (pe_call G_law_some_copied (hr.mono (by decide)) (by rfl) m_law_some_copied F_law_some_copied.kp b_law_some_copied .nil pass0 (pa_cons (pv 1) pa_nil)) pa_nil)))))))
      (pss_cons (ps_for PassesOwn.never rfl (pi_listK K rfl (pe_op op_cat (pv 2) (pe_slice (sl_listK K rfl) (pv 2) po_none (po_some pe_int)))) (pg_name (i := 4) sc_law.nd rfl (Or.inl rfl))
        (pss_cons (ps_set (i := 5) sc_law.nd rfl (Or.inl rfl) (pe_call G_joined_alike (hr.mono (by decide)) (by rfl) m_joined_alike F_joined_alike.kp b_joined_alike .nil pass0 (pa_cons (pv 4) pa_nil)))
      (pss_one (ps_if (PW.pt (pw_or (pt_not (pt_val (pe_call G_law_alike (hr.mono (by decide)) (by rfl) m_law_alike F_law_alike.kp b_law_alike .nil pass0 (pa_cons (pv 5) (pa_cons (pe_call G_law_joined (hr.mono (by decide)) (by rfl) m_law_joined F_law_joined.kp b_law_joined .nil pass0 (pa_cons (pv 4) pa_nil)) pa_nil))))) (pw_or1 (pt_cmpR op_notB (pe_call G_look_room (hr.mono (by decide)) (by rfl) m_look_room F_look_room.kp b_look_room .nil pass0 (pa_cons (pv 5) pa_nil)) pe_bl (nomark _))))) (pss_one (ps_ret pe_bl)) pss_nil))))
      (pss_one (ps_ret pe_bl)))))), ?_⟩
  refine ⟨_, rfl, a, ns, rfl, hS, fun f c H1 nf nc F1 s1 => ?_⟩
  refine ⟨(by show 0 ≤ sizeLine; decide), fun sl nsl => ?_⟩
  have slf := F1.ne nsl
  have slc := F1.nec nsl
  refine ⟨_, rfl, by decide, by decide, for_range (lo := 0) (n := 2) (fun i σ H2 => ∃ (rv : List V) (v3 v4 v5 : Option V), σ = [some (.ref a), some (.ref f), some (.ref sl), v3, v4, v5] ∧ H2 sl = some (.lst rv) ∧ rv.length = i ∧ (∀ v ∈ rv, Rm H2 v) ∧ Flow H2 f c ∧ Tb2 PT H2)
    ⟨[], none, none, none, rfl, upd_same, rfl, (fun _ z => nomatch z), F1.new nsl, (tb0.same s1).same (same_new nsl)⟩ ?_ ?_⟩
  · rintro i σ H2 hi ⟨rv, v3, v4, v5, rfl, hsl, lrv, rms, F2, tb2⟩
    have app : ∀ (H3 : Hp) (x : V), H3 sl = some (.lst rv) → (∀ v ∈ rv, Rm H3 v) → Rm H3 x → Flow H3 f c → Tb2 PT H3 → ∃ (rv' : List V) (v3' v4' v5' : Option V), [some (.ref a), some (.ref f), some (.ref sl), some (V.int (0 + ((i : Nat) : Int))), v4, v5] = [some (.ref a), some (.ref f), some (.ref sl), v3', v4', v5'] ∧ (upd H3 sl (.lst (rv ++ [x]))) sl = some (.lst rv') ∧ rv'.length = i + 1 ∧ (∀ v ∈ rv', Rm (upd H3 sl (.lst (rv ++ [x]))) v) ∧ Flow (upd H3 sl (.lst (rv ++ [x]))) f c ∧ Tb2 PT (upd H3 sl (.lst (rv ++ [x]))) := fun H3 x h1 h2 h3 F3 tb3 =>
      ⟨rv ++ [x], _, _, _, rfl, upd_same, by rw [List.length_append, lrv]; rfl, fun v hv => (by
        rcases List.mem_append.mp hv with hv | hv
        · exact (h2 v hv).keep (TK.lst h1)
        · obtain rfl : v = x := by simpa using hv
          exact h3.keep (TK.lst h1)), F3.lst slf slc, tb3.lst h1⟩
    refine ⟨_, rfl, f, c, _, rfl, by decide, by decide +kernel, F2, fun z H3 z0 z6 F3 B3 => ?_⟩
    have hsl3 := B3 _ _ hsl slf
    have k3 : TK H2 H3 := TK.but F2 B3
    have tb3 := tb2.but F2 B3
    have go : ∀ (r : Addr) (hs : List HR) (bs : List BR) (H4 : Hp), RoomAt H4 r hs bs → RoomOk hs bs → Flow H4 f c → But f H3 H4 → H4 sl = some (.lst rv) ∧ (∀ v ∈ rv, Rm H4 v) ∧ Rm H4 (.ref r) ∧ Tb2 PT H4 := fun r hs bs H4 hR ok F4 B4 =>
      ⟨B4 _ _ hsl3 slf, fun v hv => (rms v hv).keep (k3.trans (TK.but F3 B4)), ⟨r, hs, bs, rfl, hR, ok⟩, tb3.but F3 B4⟩
    refine ⟨rfl, _, rfl, if_bl (fun _ => ?_) (fun _ => ?_)⟩
    · refine ⟨_, rfl, .inl ⟨rfl, _, SqL.of hsl3⟩, _, rfl, f, c, rfl, F3, fun r hs bs H4 hR ok F4 B4 => ?_⟩
      obtain ⟨h1, h2, h3, h4⟩ := go r hs bs H4 hR ok F4 B4
      exact ⟨sl, _, _, rfl, rfl, h1, by rw [lrv]; exact small1000 (by omega), app H4 _ h1 h2 h3 F4 h4⟩
    · refine ⟨_, rfl, .inl ⟨rfl, _, SqL.of hsl3⟩, _, rfl, f, c, rfl, F3, fun r hs bs H4 hR ok pos F4 B4 => ?_⟩
      obtain ⟨h1, h2, h3, h4⟩ := go r hs bs H4 hR ok F4 B4
      exact ⟨sl, _, _, rfl, rfl, h1, by rw [lrv]; exact small1000 (by omega), app H4 _ h1 h2 h3 F4 h4⟩
  · rintro σ H4 ⟨rv, v3, v4, v5, rfl, hsl, lrv, rms, F4, tb4⟩
    have lcut := cutV_length rv none (some 1)
    refine ⟨_, rfl, _, rfl, _, rfl, sl, _, rfl, SqL.of hsl, fun l2 nl2 => ?_⟩
    refine ⟨sl, l2, _, _, rfl, rfl, same_new nl2 _ _ hsl, upd_same, little (by omega), fun l3 nl3 => ?_⟩
    have s4 := (same_new (o := .lst (cutV rv none (some 1))) nl2).trans (same_new (o := .lst (rv ++ cutV rv none (some 1))) nl3)
    refine ⟨l3, rfl, ⟨_, SqL.of upd_same⟩, for_list (K := K) (a := l3) (xs := rv ++ cutV rv none (some 1)) (fun i σ H5 => ∃ y4 y5 : Option V, σ = [some (.ref a), some (.ref f), some (.ref sl), v3, y4, y5] ∧ LamX.ExtN (upd (upd H4 l2 (.lst (cutV rv none (some 1)))) l3 (.lst (rv ++ cutV rv none (some 1)))) H5 ∧ Tb2 PT H5) ⟨_, _, rfl, ext_same (Same.refl _), tb4.same s4⟩ (fun i σ H5 _ ⟨_, _, _, e5, _⟩ => SqL.of (e5 _ _ upd_same (fun ps z => nomatch z))) ?_ ?_⟩
    · rintro i x σ H5 hx ⟨y4, y5, rfl, e5, tb5⟩
      have mx : x ∈ rv := by
        rcases List.mem_append.mp (List.mem_of_getElem? hx) with z | z
        · exact z
        · exact cut_part x z
      obtain ⟨r, hs, bs, rfl, hR, ok⟩ := (rms x mx).keep ((TK.same s4).trans (tk_ext e5))
      have lh := ok.hands
      have lb := ok.many
      refine ⟨_, rfl, r, hs, bs, rfl, hR, ok, fun r' t H6 kd hR' s6 => ?_⟩
      have ok' := join_room ok kd
      have lh' := ok'.hands
      have lb' := ok'.many
      refine ⟨_, rfl, _, rfl, r, hs, bs, t, rfl, hR.keep (TK.same s6), ok, kd, fun r2 H7 hR2 s7 => ?_⟩
      refine ⟨V.ref r', V.ref r2, rfl, al_room (hR'.keep (TK.same s7)) hR2 (by omega) (by omega) ok'.good (fun b hb => by have := (ok'.th b hb).1; omega), fun H8 s8 => ⟨_, rfl, if_bl (fun z => nomatch z) (fun _ => ?_)⟩⟩
      have s68 := s6.trans (s7.trans s8)
      refine ⟨_, rfl, r', _, _, rfl, hR'.keep (TK.same (s7.trans s8)), ok', tb5.same s68, fun H9 e9 tb9 => ?_⟩
      exact ⟨_, _, rfl, rfl, _, rfl, if_bl (fun z => nomatch z) (fun _ => ⟨_, _, rfl, e5.trans ((ext_same s68).trans e9), tb9⟩)⟩
    · rintro σ H5 ⟨y4, y5, rfl, e5, tb5⟩
      exact q _
end
theorem fun_of_D {K : PySem.W.Frag} {x q : Str} {st : Stmt} {f : Addr} {fd : FuncData} (D : FunD K x q (defArgs st) (defBody st) (defScope st) [] [] f fd) : Fun K x q st f fd := by
  obtain ⟨⟨oc, od, dV, kV, doc, pm, an, cdv, ct, osl, e, lk, ci, dfl, _⟩, kp⟩ := D
  have z : dV = .none := by
    rcases dfl with ⟨_, h⟩ | ⟨h, _⟩
    · exact h
    · exact absurd rfl h
  subst z
  exact ⟨⟨oc, od, kV, doc, pm, an, cdv, ct, osl, e, lk, ci⟩, kp⟩
def hd_first_on_ring : He.DefD := ⟨("first_on_ring", none), "first_on_ring", "first_on_ring", defArgs s_first_on_ring, defBody s_first_on_ring, defScope s_first_on_ring, [], []⟩
def hd_comes_back : He.DefD := ⟨("comes_back", none), "comes_back", "comes_back", defArgs s_comes_back, defBody s_comes_back, defScope s_comes_back, [], []⟩
def hd_is_whole : He.DefD := ⟨("is_whole", none), "is_whole", "is_whole", defArgs s_is_whole, defBody s_is_whole, defScope s_is_whole, [], []⟩
def hd_is_rule : He.DefD := ⟨("is_rule", none), "is_rule", "is_rule", defArgs s_is_rule, defBody s_is_rule, defScope s_is_rule, [], []⟩
def hd_needs : He.DefD := ⟨("needs", none), "needs", "needs", defArgs s_needs, defBody s_needs, defScope s_needs, [], []⟩
def hd_look_room : He.DefD := ⟨("look_room", none), "look_room", "look_room", defArgs s_look_room, defBody s_look_room, defScope s_look_room, [], []⟩
def hd_refuse_room : He.DefD := ⟨("refuse_room", none), "refuse_room", "refuse_room", defArgs s_refuse_room, defBody s_refuse_room, defScope s_refuse_room, [], []⟩
def hd_is_tuple_of : He.DefD := ⟨("is_tuple_of", none), "is_tuple_of", "is_tuple_of", defArgs s_is_tuple_of, defBody s_is_tuple_of, defScope s_is_tuple_of, [], []⟩
def hd_has_form : He.DefD := ⟨("has_form", none), "has_form", "has_form", defArgs s_has_form, defBody s_has_form, defScope s_has_form, [], []⟩
def hd_is_hand_pair : He.DefD := ⟨("is_hand_pair", none), "is_hand_pair", "is_hand_pair", defArgs s_is_hand_pair, defBody s_is_hand_pair, defScope s_is_hand_pair, [], []⟩
def hd_is_belt_triple : He.DefD := ⟨("is_belt_triple", none), "is_belt_triple", "is_belt_triple", defArgs s_is_belt_triple, defBody s_is_belt_triple, defScope s_is_belt_triple, [], []⟩
def hd_wrong_hand : He.DefD := ⟨("wrong_hand", none), "wrong_hand", "wrong_hand", defArgs s_wrong_hand, defBody s_wrong_hand, defScope s_wrong_hand, [], []⟩
def hd_wrong_belt : He.DefD := ⟨("wrong_belt", none), "wrong_belt", "wrong_belt", defArgs s_wrong_belt, defBody s_wrong_belt, defScope s_wrong_belt, [], []⟩
def hd_wrong_count : He.DefD := ⟨("wrong_count", none), "wrong_count", "wrong_count", defArgs s_wrong_count, defBody s_wrong_count, defScope s_wrong_count, [], []⟩
def hd_hand_on_ring : He.DefD := ⟨("hand_on_ring", none), "hand_on_ring", "hand_on_ring", defArgs s_hand_on_ring, defBody s_hand_on_ring, defScope s_hand_on_ring, [], []⟩
def hd_comings : He.DefD := ⟨("comings", none), "comings", "comings", defArgs s_comings, defBody s_comings, defScope s_comings, [], []⟩
def hd_kinds : He.DefD := ⟨("kinds", none), "kinds", "kinds", defArgs s_kinds, defBody s_kinds, defScope s_kinds, [], []⟩
def hd_numbered : He.DefD := ⟨("numbered", none), "numbered", "numbered", defArgs s_numbered, defBody s_numbered, defScope s_numbered, [], []⟩
def hd_first_mark : He.DefD := ⟨("first_mark", none), "first_mark", "first_mark", defArgs s_first_mark, defBody s_first_mark, defScope s_first_mark, [], []⟩
def hd_mark_by : He.DefD := ⟨("mark_by", none), "mark_by", "mark_by", defArgs s_mark_by, defBody s_mark_by, defScope s_mark_by, [], []⟩
def hd_joined_alike : He.DefD := ⟨("joined_alike", none), "joined_alike", "joined_alike", defArgs s_joined_alike, defBody s_joined_alike, defScope s_joined_alike, [], []⟩
def hd_law_flow : He.DefD := ⟨("_law_flow", none), "_law_flow", "_law_flow", defArgs s_law_flow, defBody s_law_flow, defScope s_law_flow, [], []⟩
def hd_law_pick : He.DefD := ⟨("_law_pick", none), "_law_pick", "_law_pick", defArgs s_law_pick, defBody s_law_pick, defScope s_law_pick, [], []⟩
def hd_law_thing : He.DefD := ⟨("_law_thing", none), "_law_thing", "_law_thing", defArgs s_law_thing, defBody s_law_thing, defScope s_law_thing, [], []⟩
def hd_law_needs : He.DefD := ⟨("_law_needs", none), "_law_needs", "_law_needs", defArgs s_law_needs, defBody s_law_needs, defScope s_law_needs, [], []⟩
def hd_law_rule : He.DefD := ⟨("_law_rule", none), "_law_rule", "_law_rule", defArgs s_law_rule, defBody s_law_rule, defScope s_law_rule, [], []⟩
def hd_law_shuffled : He.DefD := ⟨("_law_shuffled", none), "_law_shuffled", "_law_shuffled", defArgs s_law_shuffled, defBody s_law_shuffled, defScope s_law_shuffled, [], []⟩
def hd_law_hands : He.DefD := ⟨("_law_hands", none), "_law_hands", "_law_hands", defArgs s_law_hands, defBody s_law_hands, defScope s_law_hands, [], []⟩
def hd_law_room : He.DefD := ⟨("_law_room", none), "_law_room", "_law_room", defArgs s_law_room, defBody s_law_room, defScope s_law_room, [], []⟩
def hd_law_turned_room : He.DefD := ⟨("_law_turned_room", none), "_law_turned_room", "_law_turned_room", defArgs s_law_turned_room, defBody s_law_turned_room, defScope s_law_turned_room, [], []⟩
def hd_law_copied : He.DefD := ⟨("_law_copied", none), "_law_copied", "_law_copied", defArgs s_law_copied, defBody s_law_copied, defScope s_law_copied, [], []⟩
def hd_law_marred : He.DefD := ⟨("_law_marred", none), "_law_marred", "_law_marred", defArgs s_law_marred, defBody s_law_marred, defScope s_law_marred, [], []⟩
def hd_law_lines : He.DefD := ⟨("_law_lines", none), "_law_lines", "_law_lines", defArgs s_law_lines, defBody s_law_lines, defScope s_law_lines, [], []⟩
def hd_law_some_copied : He.DefD := ⟨("_law_some_copied", none), "_law_some_copied", "_law_some_copied", defArgs s_law_some_copied, defBody s_law_some_copied, defScope s_law_some_copied, [], []⟩
def hd_law_alike : He.DefD := ⟨("_law_alike", none), "_law_alike", "_law_alike", defArgs s_law_alike, defBody s_law_alike, defScope s_law_alike, [], []⟩
def hd_law_any_room : He.DefD := ⟨("_law_any_room", none), "_law_any_room", "_law_any_room", defArgs s_law_any_room, defBody s_law_any_room, defScope s_law_any_room, [], []⟩
def hd_law_givers : He.DefD := ⟨("_law_givers", none), "_law_givers", "_law_givers", defArgs s_law_givers, defBody s_law_givers, defScope s_law_givers, [], []⟩
def hd_law_looks_alike : He.DefD := ⟨("_law_looks_alike", none), "_law_looks_alike", "_law_looks_alike", defArgs s_law_looks_alike, defBody s_law_looks_alike, defScope s_law_looks_alike, [], []⟩
def hd_law_parting : He.DefD := ⟨("_law_parting", none), "_law_parting", "_law_parting", defArgs s_law_parting, defBody s_law_parting, defScope s_law_parting, [], []⟩
def hd_law_joined : He.DefD := ⟨("_law_joined", none), "_law_joined", "_law_joined", defArgs s_law_joined, defBody s_law_joined, defScope s_law_joined, [], []⟩
def hd_law : He.DefD := ⟨("law", none), "law", "law", defArgs s_law, defBody s_law, defScope s_law, [], []⟩
def hFn : List He.DefD := [hd_first_on_ring, hd_comes_back, hd_is_whole, hd_is_rule, hd_needs, hd_look_room, hd_refuse_room, hd_is_tuple_of, hd_has_form, hd_is_hand_pair, hd_is_belt_triple, hd_wrong_hand, hd_wrong_belt, hd_wrong_count, hd_hand_on_ring, hd_comings, hd_kinds, hd_numbered, hd_first_mark, hd_mark_by, hd_joined_alike, hd_law_flow, hd_law_pick, hd_law_thing, hd_law_needs, hd_law_rule, hd_law_shuffled, hd_law_hands, hd_law_room, hd_law_turned_room, hd_law_copied, hd_law_marred, hd_law_lines, hd_law_some_copied, hd_law_alike, hd_law_any_room, hd_law_givers, hd_law_looks_alike, hd_law_parting, hd_law_joined, hd_law]
def needsL : List (Str × He.Dv) := [("same", .int 1), ("sum", .int 2), ("gap", .int 2), ("below", .int 2), ("most", .int 2), ("least", .int 2), ("pick", .int 3), ("times", .int 1), ("always", .int 0), ("in", .int 0), ("out", .int 1)]
def needsT : He.Tab := (fun K => He.ga K "NEEDS", ["same", "sum", "gap", "below", "most", "least", "pick", "times", "always", "in", "out"])
theorem needs_yes {K : PySem.W.Frag} (h : He.valsB K (He.ga K "NEEDS") needsL = true) {z : Str} (hz : z ∈ eleven) : ∃ t, PySem.W.nsIn K (He.ga K "NEEDS") z = some (some (.int (needN z) t)) := by
  have key : ∀ i : Int, (z, He.Dv.int i) ∈ needsL → ∃ t, PySem.W.nsIn K (He.ga K "NEEDS") z = some (some (.int i t)) := fun i hm => by
    obtain ⟨u, e, r⟩ := He.valsB_ok h hm
    obtain ⟨t, rfl⟩ := r
    exact ⟨t, e⟩
  have key2 : ∀ i : Int, needN z = i → (z, He.Dv.int i) ∈ needsL → ∃ t, PySem.W.nsIn K (He.ga K "NEEDS") z = some (some (.int (needN z) t)) := fun i e hm => by
    rw [e]
    exact key i hm
  unfold needsL at key2
  unfold eleven at hz
  simp only [List.mem_cons, List.not_mem_nil, or_false] at hz
  rcases hz with h | h | h | h | h | h | h | h | h | h | h <;> subst h
  · exact key2 1 (by decide +kernel) (List.mem_cons_self ..)
  · exact key2 2 (by decide +kernel) (List.mem_cons_of_mem _ (List.mem_cons_self ..))
  · exact key2 2 (by decide +kernel) (List.mem_cons_of_mem _ (List.mem_cons_of_mem _ (List.mem_cons_self ..)))
  · exact key2 2 (by decide +kernel) (List.mem_cons_of_mem _ (List.mem_cons_of_mem _ (List.mem_cons_of_mem _ (List.mem_cons_self ..))))
  · exact key2 2 (by decide +kernel) (List.mem_cons_of_mem _ (List.mem_cons_of_mem _ (List.mem_cons_of_mem _ (List.mem_cons_of_mem _ (List.mem_cons_self ..)))))
  · exact key2 2 (by decide +kernel) (List.mem_cons_of_mem _ (List.mem_cons_of_mem _ (List.mem_cons_of_mem _ (List.mem_cons_of_mem _ (List.mem_cons_of_mem _ (List.mem_cons_self ..))))))
  · exact key2 3 (by decide +kernel) (List.mem_cons_of_mem _ (List.mem_cons_of_mem _ (List.mem_cons_of_mem _ (List.mem_cons_of_mem _ (List.mem_cons_of_mem _ (List.mem_cons_of_mem _ (List.mem_cons_self ..)))))))
  · exact key2 1 (by decide +kernel) (List.mem_cons_of_mem _ (List.mem_cons_of_mem _ (List.mem_cons_of_mem _ (List.mem_cons_of_mem _ (List.mem_cons_of_mem _ (List.mem_cons_of_mem _ (List.mem_cons_of_mem _ (List.mem_cons_self ..))))))))
  · exact key2 0 (by decide +kernel) (List.mem_cons_of_mem _ (List.mem_cons_of_mem _ (List.mem_cons_of_mem _ (List.mem_cons_of_mem _ (List.mem_cons_of_mem _ (List.mem_cons_of_mem _ (List.mem_cons_of_mem _ (List.mem_cons_of_mem _ (List.mem_cons_self ..)))))))))
  · exact key2 0 (by decide +kernel) (List.mem_cons_of_mem _ (List.mem_cons_of_mem _ (List.mem_cons_of_mem _ (List.mem_cons_of_mem _ (List.mem_cons_of_mem _ (List.mem_cons_of_mem _ (List.mem_cons_of_mem _ (List.mem_cons_of_mem _ (List.mem_cons_of_mem _ (List.mem_cons_self ..))))))))))
  · exact key2 1 (by decide +kernel) (List.mem_cons_of_mem _ (List.mem_cons_of_mem _ (List.mem_cons_of_mem _ (List.mem_cons_of_mem _ (List.mem_cons_of_mem _ (List.mem_cons_of_mem _ (List.mem_cons_of_mem _ (List.mem_cons_of_mem _ (List.mem_cons_of_mem _ (List.mem_cons_of_mem _ (List.mem_cons_self ..)))))))))))
def hFa : List He.Fa := [.glo "first_on_ring", .glo "comes_back", .glo "is_whole", .glo "is_rule", .glo "needs", .glo "look_room", .glo "refuse_room", .glo "is_tuple_of", .glo "has_form", .glo "is_hand_pair", .glo "is_belt_triple", .glo "wrong_hand", .glo "wrong_belt", .glo "wrong_count", .glo "hand_on_ring", .glo "comings", .glo "kinds", .glo "numbered", .glo "first_mark", .glo "mark_by", .glo "joined_alike", .glo "_law_flow", .glo "_law_pick", .glo "_law_thing", .glo "_law_needs", .glo "_law_rule", .glo "_law_shuffled", .glo "_law_hands", .glo "_law_room", .glo "_law_turned_room", .glo "_law_copied", .glo "_law_marred", .glo "_law_lines", .glo "_law_some_copied", .glo "_law_alike", .glo "_law_any_room", .glo "_law_givers", .glo "_law_looks_alike", .glo "_law_parting", .glo "_law_joined", .glo "law", .free "all", .free "bool", .free "enumerate", .free "int", .free "isinstance", .free "len", .free "list", .free "max", .free "min", .free "range", .free "set", .free "str", .free "tuple", .free "zip", .glo "IN_RULE", .glo "OUT_RULE", .glo "WITH_NUMBER", .glo "NEEDS"]
def hEx (K : PySem.W.Frag) : Bool := He.tupB K "IN_RULE" [.str "in"] && He.tupB K "OUT_RULE" [.str "out"] && He.tupB K "WITH_NUMBER" [.str "times", .str "always"] && He.valsB K (He.ga K "NEEDS") needsL
def hTf : List (Str × Option Str) := [("has_form", none), ("is_belt_triple", none)]
abbrev hR : PySem.W.OpenRow := PySem.W.OpenLaw.row PySem.Challenge.rw_beltshift_k69_hands_made_one
abbrev hk : PySem.W.Hook := He.hookX 4 hFa hFn [needsT] hTf hEx
def hOb (s : PySem.W.SharedT) : He.AlX := He.obsX 4 hFa hFn [needsT] hTf hEx (HandSHeadRun.getT s)
theorem hOb_eq (s : PySem.W.SharedT) : hOb s = hk.obs s.abs := He.obsX_eq (HandSHeadRun.getT_eq s)
def hN0 : List Str := ["BeltError", "NoRoom", "first_on_ring", "comes_back", "is_whole", "NEEDS", "WITH_NUMBER", "is_rule", "needs", "IN_RULE", "OUT_RULE", "look_room", "refuse_room", "is_tuple_of", "has_form", "is_hand_pair", "is_belt_triple", "wrong_hand", "wrong_belt", "wrong_count", "hand_on_ring", "comings", "kinds", "numbered", "first_mark", "mark_by", "joined_alike", "_law_flow", "_law_pick", "_law_thing"]
def hN1 : List Str := ["_law_needs", "_law_rule", "_law_shuffled", "_law_hands", "_law_room", "_law_turned_room", "_law_copied", "_law_marred", "_law_lines", "_law_some_copied", "_law_alike", "_law_any_room", "_law_givers", "_law_looks_alike", "_law_parting", "_law_joined"]
def hNames : List Str := hN0 ++ hN1
set_option maxHeartbeats 0 in
theorem all_mkX {w : World} {K : PySem.W.Frag} {h : Heap} {mg : Str → Option Value} {fa : Addr} (X : K.In h) (G : h.Ns mainGlobals mg) (hfa : mg "law" = some (.ref fa)) (c : He.SaysX hFa hFn [needsT] hTf hEx w h K) : LamX.LawAtS PySem.Challenge.rw_beltshift_k69_hands_made_one w K CX0 8 63 "_law_script" mg fa h := by
  have cd := c.t.d
  obtain ⟨fd0, D0⟩ := cd.def_ 0 (d := hd_first_on_ring) rfl
  have F0 : Fun K "first_on_ring" "first_on_ring" s_first_on_ring (He.ga K "first_on_ring") fd0 := fun_of_D D0
  have g0 : mg "first_on_ring" = some (.ref (He.ga K "first_on_ring")) := He.glo_ok X G (cd.fact 0 (f := .glo "first_on_ring") rfl)
  have b0 := F0.binds (ps := ["places", "steps"]) fun _ _ _ _ _ _ us hl => match us, hl with | [_, _], _ => rfl
  obtain ⟨fd1, D1⟩ := cd.def_ 1 (d := hd_comes_back) rfl
  have F1 : Fun K "comes_back" "comes_back" s_comes_back (He.ga K "comes_back") fd1 := fun_of_D D1
  have g1 : mg "comes_back" = some (.ref (He.ga K "comes_back")) := He.glo_ok X G (cd.fact 1 (f := .glo "comes_back") rfl)
  have b1 := F1.binds (ps := ["place", "steps"]) fun _ _ _ _ _ _ us hl => match us, hl with | [_, _], _ => rfl
  obtain ⟨fd2, D2⟩ := cd.def_ 2 (d := hd_is_whole) rfl
  have F2 : Fun K "is_whole" "is_whole" s_is_whole (He.ga K "is_whole") fd2 := fun_of_D D2
  have g2 : mg "is_whole" = some (.ref (He.ga K "is_whole")) := He.glo_ok X G (cd.fact 2 (f := .glo "is_whole") rfl)
  have b2 := F2.binds (ps := ["thing"]) fun _ _ _ _ _ _ us hl => match us, hl with | [_], _ => rfl
  obtain ⟨fd3, D3⟩ := cd.def_ 3 (d := hd_is_rule) rfl
  have F3 : Fun K "is_rule" "is_rule" s_is_rule (He.ga K "is_rule") fd3 := fun_of_D D3
  have g3 : mg "is_rule" = some (.ref (He.ga K "is_rule")) := He.glo_ok X G (cd.fact 3 (f := .glo "is_rule") rfl)
  have b3 := F3.binds (ps := ["thing"]) fun _ _ _ _ _ _ us hl => match us, hl with | [_], _ => rfl
  obtain ⟨fd4, D4⟩ := cd.def_ 4 (d := hd_needs) rfl
  have F4 : Fun K "needs" "needs" s_needs (He.ga K "needs") fd4 := fun_of_D D4
  have g4 : mg "needs" = some (.ref (He.ga K "needs")) := He.glo_ok X G (cd.fact 4 (f := .glo "needs") rfl)
  have b4 := F4.binds (ps := ["rule"]) fun _ _ _ _ _ _ us hl => match us, hl with | [_], _ => rfl
  obtain ⟨fd5, D5⟩ := cd.def_ 5 (d := hd_look_room) rfl
  have F5 : Fun K "look_room" "look_room" s_look_room (He.ga K "look_room") fd5 := fun_of_D D5
  have g5 : mg "look_room" = some (.ref (He.ga K "look_room")) := He.glo_ok X G (cd.fact 5 (f := .glo "look_room") rfl)
  have b5 := F5.binds (ps := ["room"]) fun _ _ _ _ _ _ us hl => match us, hl with | [_], _ => rfl
  obtain ⟨fd6, D6⟩ := cd.def_ 6 (d := hd_refuse_room) rfl
  have F6 : Fun K "refuse_room" "refuse_room" s_refuse_room (He.ga K "refuse_room") fd6 := fun_of_D D6
  have g6 : mg "refuse_room" = some (.ref (He.ga K "refuse_room")) := He.glo_ok X G (cd.fact 6 (f := .glo "refuse_room") rfl)
  have b6 := F6.binds (ps := ["word", "at"]) fun _ _ _ _ _ _ us hl => match us, hl with | [_, _], _ => rfl
  obtain ⟨fd7, D7⟩ := cd.def_ 7 (d := hd_is_tuple_of) rfl
  have F7 : Fun K "is_tuple_of" "is_tuple_of" s_is_tuple_of (He.ga K "is_tuple_of") fd7 := fun_of_D D7
  have g7 : mg "is_tuple_of" = some (.ref (He.ga K "is_tuple_of")) := He.glo_ok X G (cd.fact 7 (f := .glo "is_tuple_of") rfl)
  have b7 := F7.binds (ps := ["thing", "many"]) fun _ _ _ _ _ _ us hl => match us, hl with | [_, _], _ => rfl
  obtain ⟨fd8, D8⟩ := cd.def_ 8 (d := hd_has_form) rfl
  have F8 : Fun K "has_form" "has_form" s_has_form (He.ga K "has_form") fd8 := fun_of_D D8
  have g8 : mg "has_form" = some (.ref (He.ga K "has_form")) := He.glo_ok X G (cd.fact 8 (f := .glo "has_form") rfl)
  have b8 := F8.binds (ps := ["room"]) fun _ _ _ _ _ _ us hl => match us, hl with | [_], _ => rfl
  obtain ⟨fd9, D9⟩ := cd.def_ 9 (d := hd_is_hand_pair) rfl
  have F9 : Fun K "is_hand_pair" "is_hand_pair" s_is_hand_pair (He.ga K "is_hand_pair") fd9 := fun_of_D D9
  have g9 : mg "is_hand_pair" = some (.ref (He.ga K "is_hand_pair")) := He.glo_ok X G (cd.fact 9 (f := .glo "is_hand_pair") rfl)
  have b9 := F9.binds (ps := ["hand"]) fun _ _ _ _ _ _ us hl => match us, hl with | [_], _ => rfl
  obtain ⟨fd10, D10⟩ := cd.def_ 10 (d := hd_is_belt_triple) rfl
  have F10 : Fun K "is_belt_triple" "is_belt_triple" s_is_belt_triple (He.ga K "is_belt_triple") fd10 := fun_of_D D10
  have g10 : mg "is_belt_triple" = some (.ref (He.ga K "is_belt_triple")) := He.glo_ok X G (cd.fact 10 (f := .glo "is_belt_triple") rfl)
  have b10 := F10.binds (ps := ["belt"]) fun _ _ _ _ _ _ us hl => match us, hl with | [_], _ => rfl
  obtain ⟨fd11, D11⟩ := cd.def_ 11 (d := hd_wrong_hand) rfl
  have F11 : Fun K "wrong_hand" "wrong_hand" s_wrong_hand (He.ga K "wrong_hand") fd11 := fun_of_D D11
  have g11 : mg "wrong_hand" = some (.ref (He.ga K "wrong_hand")) := He.glo_ok X G (cd.fact 11 (f := .glo "wrong_hand") rfl)
  have b11 := F11.binds (ps := ["room"]) fun _ _ _ _ _ _ us hl => match us, hl with | [_], _ => rfl
  obtain ⟨fd12, D12⟩ := cd.def_ 12 (d := hd_wrong_belt) rfl
  have F12 : Fun K "wrong_belt" "wrong_belt" s_wrong_belt (He.ga K "wrong_belt") fd12 := fun_of_D D12
  have g12 : mg "wrong_belt" = some (.ref (He.ga K "wrong_belt")) := He.glo_ok X G (cd.fact 12 (f := .glo "wrong_belt") rfl)
  have b12 := F12.binds (ps := ["room"]) fun _ _ _ _ _ _ us hl => match us, hl with | [_], _ => rfl
  obtain ⟨fd13, D13⟩ := cd.def_ 13 (d := hd_wrong_count) rfl
  have F13 : Fun K "wrong_count" "wrong_count" s_wrong_count (He.ga K "wrong_count") fd13 := fun_of_D D13
  have g13 : mg "wrong_count" = some (.ref (He.ga K "wrong_count")) := He.glo_ok X G (cd.fact 13 (f := .glo "wrong_count") rfl)
  have b13 := F13.binds (ps := ["room"]) fun _ _ _ _ _ _ us hl => match us, hl with | [_], _ => rfl
  obtain ⟨fd14, D14⟩ := cd.def_ 14 (d := hd_hand_on_ring) rfl
  have F14 : Fun K "hand_on_ring" "hand_on_ring" s_hand_on_ring (He.ga K "hand_on_ring") fd14 := fun_of_D D14
  have g14 : mg "hand_on_ring" = some (.ref (He.ga K "hand_on_ring")) := He.glo_ok X G (cd.fact 14 (f := .glo "hand_on_ring") rfl)
  have b14 := F14.binds (ps := ["room"]) fun _ _ _ _ _ _ us hl => match us, hl with | [_], _ => rfl
  obtain ⟨fd15, D15⟩ := cd.def_ 15 (d := hd_comings) rfl
  have F15 : Fun K "comings" "comings" s_comings (He.ga K "comings") fd15 := fun_of_D D15
  have g15 : mg "comings" = some (.ref (He.ga K "comings")) := He.glo_ok X G (cd.fact 15 (f := .glo "comings") rfl)
  have b15 := F15.binds (ps := ["room", "hand"]) fun _ _ _ _ _ _ us hl => match us, hl with | [_, _], _ => rfl
  obtain ⟨fd16, D16⟩ := cd.def_ 16 (d := hd_kinds) rfl
  have F16 : Fun K "kinds" "kinds" s_kinds (He.ga K "kinds") fd16 := fun_of_D D16
  have g16 : mg "kinds" = some (.ref (He.ga K "kinds")) := He.glo_ok X G (cd.fact 16 (f := .glo "kinds") rfl)
  have b16 := F16.binds (ps := ["room"]) fun _ _ _ _ _ _ us hl => match us, hl with | [_], _ => rfl
  obtain ⟨fd17, D17⟩ := cd.def_ 17 (d := hd_numbered) rfl
  have F17 : Fun K "numbered" "numbered" s_numbered (He.ga K "numbered") fd17 := fun_of_D D17
  have g17 : mg "numbered" = some (.ref (He.ga K "numbered")) := He.glo_ok X G (cd.fact 17 (f := .glo "numbered") rfl)
  have b17 := F17.binds (ps := ["marks"]) fun _ _ _ _ _ _ us hl => match us, hl with | [_], _ => rfl
  obtain ⟨fd18, D18⟩ := cd.def_ 18 (d := hd_first_mark) rfl
  have F18 : Fun K "first_mark" "first_mark" s_first_mark (He.ga K "first_mark") fd18 := fun_of_D D18
  have g18 : mg "first_mark" = some (.ref (He.ga K "first_mark")) := He.glo_ok X G (cd.fact 18 (f := .glo "first_mark") rfl)
  have b18 := F18.binds (ps := ["rule", "hand"]) fun _ _ _ _ _ _ us hl => match us, hl with | [_, _], _ => rfl
  obtain ⟨fd19, D19⟩ := cd.def_ 19 (d := hd_mark_by) rfl
  have F19 : Fun K "mark_by" "mark_by" s_mark_by (He.ga K "mark_by") fd19 := fun_of_D D19
  have g19 : mg "mark_by" = some (.ref (He.ga K "mark_by")) := He.glo_ok X G (cd.fact 19 (f := .glo "mark_by") rfl)
  have b19 := F19.binds (ps := ["room", "told", "hand"]) fun _ _ _ _ _ _ us hl => match us, hl with | [_, _, _], _ => rfl
  obtain ⟨fd20, D20⟩ := cd.def_ 20 (d := hd_joined_alike) rfl
  have F20 : Fun K "joined_alike" "joined_alike" s_joined_alike (He.ga K "joined_alike") fd20 := fun_of_D D20
  have g20 : mg "joined_alike" = some (.ref (He.ga K "joined_alike")) := He.glo_ok X G (cd.fact 20 (f := .glo "joined_alike") rfl)
  have b20 := F20.binds (ps := ["room"]) fun _ _ _ _ _ _ us hl => match us, hl with | [_], _ => rfl
  obtain ⟨fd21, D21⟩ := cd.def_ 21 (d := hd_law_flow) rfl
  have F21 : Fun K "_law_flow" "_law_flow" s_law_flow (He.ga K "_law_flow") fd21 := fun_of_D D21
  have g21 : mg "_law_flow" = some (.ref (He.ga K "_law_flow")) := He.glo_ok X G (cd.fact 21 (f := .glo "_law_flow") rfl)
  have b21 := F21.binds (ps := ["_law_script"]) fun _ _ _ _ _ _ us hl => match us, hl with | [_], _ => rfl
  obtain ⟨fd22, D22⟩ := cd.def_ 22 (d := hd_law_pick) rfl
  have F22 : Fun K "_law_pick" "_law_pick" s_law_pick (He.ga K "_law_pick") fd22 := fun_of_D D22
  have g22 : mg "_law_pick" = some (.ref (He.ga K "_law_pick")) := He.glo_ok X G (cd.fact 22 (f := .glo "_law_pick") rfl)
  have b22 := F22.binds (ps := ["_law_flow_here", "_law_many"]) fun _ _ _ _ _ _ us hl => match us, hl with | [_, _], _ => rfl
  obtain ⟨fd23, D23⟩ := cd.def_ 23 (d := hd_law_thing) rfl
  have F23 : Fun K "_law_thing" "_law_thing" s_law_thing (He.ga K "_law_thing") fd23 := fun_of_D D23
  have g23 : mg "_law_thing" = some (.ref (He.ga K "_law_thing")) := He.glo_ok X G (cd.fact 23 (f := .glo "_law_thing") rfl)
  have b23 := F23.binds (ps := ["_law_flow_here"]) fun _ _ _ _ _ _ us hl => match us, hl with | [_], _ => rfl
  obtain ⟨fd24, D24⟩ := cd.def_ 24 (d := hd_law_needs) rfl
  have F24 : Fun K "_law_needs" "_law_needs" s_law_needs (He.ga K "_law_needs") fd24 := fun_of_D D24
  have g24 : mg "_law_needs" = some (.ref (He.ga K "_law_needs")) := He.glo_ok X G (cd.fact 24 (f := .glo "_law_needs") rfl)
  have b24 := F24.binds (ps := ["_law_rule_here"]) fun _ _ _ _ _ _ us hl => match us, hl with | [_], _ => rfl
  obtain ⟨fd25, D25⟩ := cd.def_ 25 (d := hd_law_rule) rfl
  have F25 : Fun K "_law_rule" "_law_rule" s_law_rule (He.ga K "_law_rule") fd25 := fun_of_D D25
  have g25 : mg "_law_rule" = some (.ref (He.ga K "_law_rule")) := He.glo_ok X G (cd.fact 25 (f := .glo "_law_rule") rfl)
  have b25 := F25.binds (ps := ["_law_flow_here", "_law_most"]) fun _ _ _ _ _ _ us hl => match us, hl with | [_, _], _ => rfl
  obtain ⟨fd26, D26⟩ := cd.def_ 26 (d := hd_law_shuffled) rfl
  have F26 : Fun K "_law_shuffled" "_law_shuffled" s_law_shuffled (He.ga K "_law_shuffled") fd26 := fun_of_D D26
  have g26 : mg "_law_shuffled" = some (.ref (He.ga K "_law_shuffled")) := He.glo_ok X G (cd.fact 26 (f := .glo "_law_shuffled") rfl)
  have b26 := F26.binds (ps := ["_law_flow_here", "_law_some"]) fun _ _ _ _ _ _ us hl => match us, hl with | [_, _], _ => rfl
  obtain ⟨fd27, D27⟩ := cd.def_ 27 (d := hd_law_hands) rfl
  have F27 : Fun K "_law_hands" "_law_hands" s_law_hands (He.ga K "_law_hands") fd27 := fun_of_D D27
  have g27 : mg "_law_hands" = some (.ref (He.ga K "_law_hands")) := He.glo_ok X G (cd.fact 27 (f := .glo "_law_hands") rfl)
  have b27 := F27.binds (ps := ["_law_flow_here", "_law_many"]) fun _ _ _ _ _ _ us hl => match us, hl with | [_, _], _ => rfl
  obtain ⟨fd28, D28⟩ := cd.def_ 28 (d := hd_law_room) rfl
  have F28 : Fun K "_law_room" "_law_room" s_law_room (He.ga K "_law_room") fd28 := fun_of_D D28
  have g28 : mg "_law_room" = some (.ref (He.ga K "_law_room")) := He.glo_ok X G (cd.fact 28 (f := .glo "_law_room") rfl)
  have b28 := F28.binds (ps := ["_law_flow_here", "_law_most"]) fun _ _ _ _ _ _ us hl => match us, hl with | [_, _], _ => rfl
  obtain ⟨fd29, D29⟩ := cd.def_ 29 (d := hd_law_turned_room) rfl
  have F29 : Fun K "_law_turned_room" "_law_turned_room" s_law_turned_room (He.ga K "_law_turned_room") fd29 := fun_of_D D29
  have g29 : mg "_law_turned_room" = some (.ref (He.ga K "_law_turned_room")) := He.glo_ok X G (cd.fact 29 (f := .glo "_law_turned_room") rfl)
  have b29 := F29.binds (ps := ["_law_flow_here", "_law_room_here"]) fun _ _ _ _ _ _ us hl => match us, hl with | [_, _], _ => rfl
  obtain ⟨fd30, D30⟩ := cd.def_ 30 (d := hd_law_copied) rfl
  have F30 : Fun K "_law_copied" "_law_copied" s_law_copied (He.ga K "_law_copied") fd30 := fun_of_D D30
  have g30 : mg "_law_copied" = some (.ref (He.ga K "_law_copied")) := He.glo_ok X G (cd.fact 30 (f := .glo "_law_copied") rfl)
  have b30 := F30.binds (ps := ["_law_flow_here"]) fun _ _ _ _ _ _ us hl => match us, hl with | [_], _ => rfl
  obtain ⟨fd31, D31⟩ := cd.def_ 31 (d := hd_law_marred) rfl
  have F31 : Fun K "_law_marred" "_law_marred" s_law_marred (He.ga K "_law_marred") fd31 := fun_of_D D31
  have g31 : mg "_law_marred" = some (.ref (He.ga K "_law_marred")) := He.glo_ok X G (cd.fact 31 (f := .glo "_law_marred") rfl)
  have b31 := F31.binds (ps := ["_law_flow_here", "_law_room_here"]) fun _ _ _ _ _ _ us hl => match us, hl with | [_, _], _ => rfl
  obtain ⟨fd32, D32⟩ := cd.def_ 32 (d := hd_law_lines) rfl
  have F32 : Fun K "_law_lines" "_law_lines" s_law_lines (He.ga K "_law_lines") fd32 := fun_of_D D32
  have g32 : mg "_law_lines" = some (.ref (He.ga K "_law_lines")) := He.glo_ok X G (cd.fact 32 (f := .glo "_law_lines") rfl)
  have b32 := F32.binds (ps := ["_law_flow_here"]) fun _ _ _ _ _ _ us hl => match us, hl with | [_], _ => rfl
  obtain ⟨fd33, D33⟩ := cd.def_ 33 (d := hd_law_some_copied) rfl
  have F33 : Fun K "_law_some_copied" "_law_some_copied" s_law_some_copied (He.ga K "_law_some_copied") fd33 := fun_of_D D33
  have g33 : mg "_law_some_copied" = some (.ref (He.ga K "_law_some_copied")) := He.glo_ok X G (cd.fact 33 (f := .glo "_law_some_copied") rfl)
  have b33 := F33.binds (ps := ["_law_flow_here"]) fun _ _ _ _ _ _ us hl => match us, hl with | [_], _ => rfl
  obtain ⟨fd34, D34⟩ := cd.def_ 34 (d := hd_law_alike) rfl
  have F34 : Fun K "_law_alike" "_law_alike" s_law_alike (He.ga K "_law_alike") fd34 := fun_of_D D34
  have g34 : mg "_law_alike" = some (.ref (He.ga K "_law_alike")) := He.glo_ok X G (cd.fact 34 (f := .glo "_law_alike") rfl)
  have b34 := F34.binds (ps := ["_law_found", "_law_due"]) fun _ _ _ _ _ _ us hl => match us, hl with | [_, _], _ => rfl
  obtain ⟨fd35, D35⟩ := cd.def_ 35 (d := hd_law_any_room) rfl
  have F35 : Fun K "_law_any_room" "_law_any_room" s_law_any_room (He.ga K "_law_any_room") fd35 := fun_of_D D35
  have g35 : mg "_law_any_room" = some (.ref (He.ga K "_law_any_room")) := He.glo_ok X G (cd.fact 35 (f := .glo "_law_any_room") rfl)
  have b35 := F35.binds (ps := ["_law_flow_here"]) fun _ _ _ _ _ _ us hl => match us, hl with | [_], _ => rfl
  obtain ⟨fd36, D36⟩ := cd.def_ 36 (d := hd_law_givers) rfl
  have F36 : Fun K "_law_givers" "_law_givers" s_law_givers (He.ga K "_law_givers") fd36 := fun_of_D D36
  have g36 : mg "_law_givers" = some (.ref (He.ga K "_law_givers")) := He.glo_ok X G (cd.fact 36 (f := .glo "_law_givers") rfl)
  have b36 := F36.binds (ps := ["_law_room_here", "_law_k"]) fun _ _ _ _ _ _ us hl => match us, hl with | [_, _], _ => rfl
  obtain ⟨fd37, D37⟩ := cd.def_ 37 (d := hd_law_looks_alike) rfl
  have F37 : Fun K "_law_looks_alike" "_law_looks_alike" s_law_looks_alike (He.ga K "_law_looks_alike") fd37 := fun_of_D D37
  have g37 : mg "_law_looks_alike" = some (.ref (He.ga K "_law_looks_alike")) := He.glo_ok X G (cd.fact 37 (f := .glo "_law_looks_alike") rfl)
  have b37 := F37.binds (ps := ["_law_room_here", "_law_j", "_law_k"]) fun _ _ _ _ _ _ us hl => match us, hl with | [_, _, _], _ => rfl
  obtain ⟨fd38, D38⟩ := cd.def_ 38 (d := hd_law_parting) rfl
  have F38 : Fun K "_law_parting" "_law_parting" s_law_parting (He.ga K "_law_parting") fd38 := fun_of_D D38
  have g38 : mg "_law_parting" = some (.ref (He.ga K "_law_parting")) := He.glo_ok X G (cd.fact 38 (f := .glo "_law_parting") rfl)
  have b38 := F38.binds (ps := ["_law_room_here"]) fun _ _ _ _ _ _ us hl => match us, hl with | [_], _ => rfl
  obtain ⟨fd39, D39⟩ := cd.def_ 39 (d := hd_law_joined) rfl
  have F39 : Fun K "_law_joined" "_law_joined" s_law_joined (He.ga K "_law_joined") fd39 := fun_of_D D39
  have g39 : mg "_law_joined" = some (.ref (He.ga K "_law_joined")) := He.glo_ok X G (cd.fact 39 (f := .glo "_law_joined") rfl)
  have b39 := F39.binds (ps := ["_law_room_here"]) fun _ _ _ _ _ _ us hl => match us, hl with | [_], _ => rfl
  obtain ⟨fd40, D40⟩ := cd.def_ 40 (d := hd_law) rfl
  have F40 : Fun K "law" "law" s_law (He.ga K "law") fd40 := fun_of_D D40
  have g40 : mg "law" = some (.ref (He.ga K "law")) := He.glo_ok X G (cd.fact 40 (f := .glo "law") rfl)
  have ex := c.more
  unfold hEx at ex
  simp only [Bool.and_eq_true] at ex
  obtain ⟨⟨⟨ex0, ex1⟩, ex2⟩, ex3⟩ := ex
  have T : Top w K mg := ⟨⟨_, fd0, F0, b0, g0⟩, ⟨_, fd1, F1, b1, g1⟩, ⟨_, fd2, F2, b2, g2⟩, ⟨_, fd3, F3, b3, g3⟩, ⟨_, fd4, F4, b4, g4⟩, ⟨_, fd5, F5, b5, g5⟩, ⟨_, fd6, F6, b6, g6⟩, ⟨_, fd7, F7, b7, g7⟩, ⟨_, fd8, F8, b8, g8⟩, ⟨_, fd9, F9, b9, g9⟩, ⟨_, fd10, F10, b10, g10⟩, ⟨_, fd11, F11, b11, g11⟩, ⟨_, fd12, F12, b12, g12⟩, ⟨_, fd13, F13, b13, g13⟩, ⟨_, fd14, F14, b14, g14⟩, ⟨_, fd15, F15, b15, g15⟩, ⟨_, fd16, F16, b16, g16⟩, ⟨_, fd17, F17, b17, g17⟩, ⟨_, fd18, F18, b18, g18⟩, ⟨_, fd19, F19, b19, g19⟩, ⟨_, fd20, F20, b20, g20⟩, ⟨_, fd21, F21, b21, g21⟩, ⟨_, fd22, F22, b22, g22⟩, ⟨_, fd23, F23, b23, g23⟩, ⟨_, fd24, F24, b24, g24⟩, ⟨_, fd25, F25, b25, g25⟩, ⟨_, fd26, F26, b26, g26⟩, ⟨_, fd27, F27, b27, g27⟩, ⟨_, fd28, F28, b28, g28⟩, ⟨_, fd29, F29, b29, g29⟩, ⟨_, fd30, F30, b30, g30⟩, ⟨_, fd31, F31, b31, g31⟩, ⟨_, fd32, F32, b32, g32⟩, ⟨_, fd33, F33, b33, g33⟩, ⟨_, fd34, F34, b34, g34⟩, ⟨_, fd35, F35, b35, g35⟩, ⟨_, fd36, F36, b36, g36⟩, ⟨_, fd37, F37, b37, g37⟩, ⟨_, fd38, F38, b38, g38⟩, ⟨_, fd39, F39, b39, g39⟩, He.free_ok X G (cd.fact 41 (f := .free "all") rfl), He.free_ok X G (cd.fact 42 (f := .free "bool") rfl), He.free_ok X G (cd.fact 43 (f := .free "enumerate") rfl), He.free_ok X G (cd.fact 44 (f := .free "int") rfl), He.free_ok X G (cd.fact 45 (f := .free "isinstance") rfl), He.free_ok X G (cd.fact 46 (f := .free "len") rfl), He.free_ok X G (cd.fact 47 (f := .free "list") rfl), He.free_ok X G (cd.fact 48 (f := .free "max") rfl), He.free_ok X G (cd.fact 49 (f := .free "min") rfl), He.free_ok X G (cd.fact 50 (f := .free "range") rfl), He.free_ok X G (cd.fact 51 (f := .free "set") rfl), He.free_ok X G (cd.fact 52 (f := .free "str") rfl), He.free_ok X G (cd.fact 53 (f := .free "tuple") rfl), He.free_ok X G (cd.fact 54 (f := .free "zip") rfl), ⟨_, He.glo_ok X G (cd.fact 55 (f := .glo "IN_RULE") rfl), fun H => He.tupB_ok ex0 H⟩, ⟨_, He.glo_ok X G (cd.fact 56 (f := .glo "OUT_RULE") rfl), fun H => He.tupB_ok ex1 H⟩, ⟨_, He.glo_ok X G (cd.fact 57 (f := .glo "WITH_NUMBER") rfl), fun H => He.tupB_ok ex2 H⟩, ⟨_, He.glo_ok X G (cd.fact 58 (f := .glo "NEEDS") rfl), ⟨c.t.tab 0 (t := needsT), fun z hz => needs_yes ex3 hz⟩⟩⟩
  have e := hfa.symm.trans g40
  cases e
  have law_b : ∀ (s : Shared) (v : Value), BindsTo s fd40 ⟨[v], []⟩ [("_law_script", v)] := fun s v => by
    obtain ⟨_, _, _, _, _, _, _, _, _, rfl, _, _⟩ := F40.ex
    exact .of_eq rfl
  refine ⟨fd40, [He.cT K ("has_form", none), He.cT K ("is_belt_triple", none)], sp_law K ((He.cT K ("has_form", none)).2, (He.cT K ("is_belt_triple", none)).2), fun p hp => ?_, fun p hp => ?_, fun p hp => ?_, law_b, fun H a ns hl _ hT hS => ⟨a, ns, rfl, hS, hl, ⟨⟨#[], hT (He.cT K ("has_form", none)) (List.mem_cons_self ..), trivial⟩, ⟨#[], hT (He.cT K ("is_belt_triple", none)) (List.mem_cons_of_mem _ (List.mem_cons_self ..)), trivial⟩⟩, fun _ => rfl⟩, fun base _ _ TB => ?_⟩
  · have hin : ∀ p ∈ [He.cT K ("has_form", none), He.cT K ("is_belt_triple", none)], ∃ q ∈ hTf, p = He.cT K q := fun p hp => by
      rcases List.mem_cons.mp hp with rfl | hp
      · exact ⟨_, List.mem_cons_self .., rfl⟩
      rcases List.mem_cons.mp hp with rfl | hp
      · exact ⟨_, (List.mem_cons_of_mem _ (List.mem_cons_self ..)), rfl⟩
      cases hp
    obtain ⟨q, hq, rfl⟩ := hin p hp
    exact c.empty _ hq
  · have hin : ∀ p ∈ [He.cT K ("has_form", none), He.cT K ("is_belt_triple", none)], ∃ q ∈ hTf, p = He.cT K q := fun p hp => by
      rcases List.mem_cons.mp hp with rfl | hp
      · exact ⟨_, List.mem_cons_self .., rfl⟩
      rcases List.mem_cons.mp hp with rfl | hp
      · exact ⟨_, (List.mem_cons_of_mem _ (List.mem_cons_self ..)), rfl⟩
      cases hp
    obtain ⟨q, hq, rfl⟩ := hin p hp
    exact c.out _ hq
  · have hin : ∀ p ∈ [He.cT K ("has_form", none), He.cT K ("is_belt_triple", none)], ∃ q ∈ hTf, p = He.cT K q := fun p hp => by
      rcases List.mem_cons.mp hp with rfl | hp
      · exact ⟨_, List.mem_cons_self .., rfl⟩
      rcases List.mem_cons.mp hp with rfl | hp
      · exact ⟨_, (List.mem_cons_of_mem _ (List.mem_cons_self ..)), rfl⟩
      cases hp
    obtain ⟨q, hq, rfl⟩ := hin p hp
    exact PySem.W.codeHd_of_K X (c.hd _ hq)
  have TB0 := TB _ (List.mem_cons_self ..)
  have TC0 : GxR.TabB base mg (He.codeOf K ("has_form", none)) (He.tabOf K (He.codeOf K ("has_form", none))) := ⟨TB0.code, TB0.bm, TB0.gP⟩
  haveI : TabF K mg base _ ((He.cT K ("has_form", none)).2, (He.cT K ("is_belt_triple", none)).2) := ⟨TC0, fun f fd F m => by
    have e := m.symm.trans g8
    cases e
    obtain ⟨_, _, _, _, _, _, cdv, _, _, rfl, lk, ci⟩ := F.ex
    obtain ⟨c0, rfl⟩ := He.codeIn_ref ci
    exact congrArg Value.ref (He.codeOf_eq (p := ("has_form", none)) lk rfl).symm⟩
  have TB1 := TB _ (List.mem_cons_of_mem _ (List.mem_cons_self ..))
  have TC1 : GxR.TabB base mg (He.codeOf K ("is_belt_triple", none)) (He.tabOf K (He.codeOf K ("is_belt_triple", none))) := ⟨TB1.code, TB1.bm, TB1.gP⟩
  haveI : TabC K mg base _ ((He.cT K ("has_form", none)).2, (He.cT K ("is_belt_triple", none)).2) := ⟨TC1, fun f fd F m => by
    have e := m.symm.trans g10
    cases e
    obtain ⟨_, _, _, _, _, _, cdv, _, _, rfl, lk, ci⟩ := F.ex
    obtain ⟨c0, rfl⟩ := He.codeIn_ref ci
    exact congrArg Value.ref (He.codeOf_eq (p := ("is_belt_triple", none)) lk rfl).symm⟩
  exact ok_law F40 T
end Mine
open PySem PySem.W PySem.Calls PyProof.Rows
set_option maxRecDepth 100000 in
set_option maxHeartbeats 0 in
theorem PySem.Challenge.cw_beltshift_k69_hands_made_one_holds : PySem.Challenge.rw_beltshift_k69_hands_made_one.Holds := by
  w_on; o_law
  o_head Mine.hk
  case hw => w_witness2
  case hc =>
    refine LamX.walk_ofTsE (l := PySem.Challenge.rw_beltshift_k69_hands_made_one) (n := 63) (k := 8) (x := "_law_script") (CX := fun _ => L2.CX0) rfl (by decide) (by kernel_rfl) ⟨rfl, by decide, by decide⟩ ?F (fun _ _ _ _ _ z => z)
    intro w mg fa h Y G hmg0
    obtain ⟨K, KX, c⟩ := Y
    have hmg : mg ("law" : PySem.Str) = some (.ref fa) := by
      have e : (HandSHeadRun.topDef Mine.hR.prog 53).name = ("law" : PySem.Str) := by kernel_rfl
      rw [← e]
      exact hmg0
    exact ⟨K, KX, Mine.all_mkX KX G hmg c⟩
