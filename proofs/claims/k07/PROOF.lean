import PyProof.Rows.All
import Wide.All
import OpenK.AllK
import Wide.FinOn
import HandS.ForMost
import HandS.DictComp
import HandS.Wide
import HandS.Style
import HandS.IsInst
import HandS.TupAny
import HandS.NoneIn
import HandS.SetFor
import HandS.Conv
import HandS.Zip
import HandS.SortKw
import HandS.Deep
import KE.DataMinMax
import KE.GoesMore
import KE.KDictZip
import KE.GoesZip
import KE.GoesEnum
import HandS.AnyAll
import HandS.GenOver
import HandS.Strs
import HandS.TupLen
import KE.KeyNested
import PyProof.Rows.TupTab
import HandS.TupMul
import HandS.Words
import HandS.EndTab
import HandS.HeadWalk
import HandS.Defaults
import HandS.Head0
import HandS.Head1
import HandS.Head2
import HandS.HeadEnd
import HandS.HeadHook1
import HandS.HeadHook2
import HandS.HeadHook3
import HandS.HeadHook4
import KE.KStateDown
import KE.KIsAll
import KE.KNestM
import PyProof.GenCompD
import PyProof.WalksMore
import PyProof.ReprRoads
import PySem.Challenge.RW_beltshift_k07_the_first_of_several
import HandS.Lambda
import KE.KLam
import KE.DataMinKey
import HandS.TryOnly
import HandS.ExcInit
import HandS.WordsExc
import HandS.ExcIs
import HandS.ExcField
import HandS.ExcOwn
set_option Elab.async false
set_option linter.all false
set_option maxRecDepth 100000
namespace Mine
open PySem PyProof.Rows L2
def topS (i : Nat) : Stmt := PySem.Challenge.pw_beltshift_k07_the_first_of_several.main.body.getD i (.Pass ⟨0, 0, 0, 0⟩)
abbrev s_first_on_ring : Stmt := topS 9
abbrev N_first_on_ring : List Str := ["places", "steps", "place"]
theorem sc_first_on_ring : FnScope N_first_on_ring ["places", "steps"] (defScope s_first_on_ring) := ⟨rfl, rfl, rfl, by decide +kernel, rfl, by decide +kernel, by decide +kernel⟩
abbrev s_comes_back : Stmt := topS 10
abbrev N_comes_back : List Str := ["place", "steps", "seen", "left", "here"]
theorem sc_comes_back : FnScope N_comes_back ["place", "steps"] (defScope s_comes_back) := ⟨rfl, rfl, rfl, by decide +kernel, rfl, by decide +kernel, by decide +kernel⟩
abbrev s_is_whole : Stmt := topS 12
abbrev N_is_whole : List Str := ["thing"]
theorem sc_is_whole : FnScope N_is_whole ["thing"] (defScope s_is_whole) := ⟨rfl, rfl, rfl, by decide +kernel, rfl, by decide +kernel, by decide +kernel⟩
abbrev s_is_rule : Stmt := topS 16
abbrev N_is_rule : List Str := ["thing", "word"]
theorem sc_is_rule : FnScope N_is_rule ["thing"] (defScope s_is_rule) := ⟨rfl, rfl, rfl, by decide +kernel, rfl, by decide +kernel, by decide +kernel⟩
abbrev s_needs : Stmt := topS 17
abbrev N_needs : List Str := ["rule"]
theorem sc_needs : FnScope N_needs ["rule"] (defScope s_needs) := ⟨rfl, rfl, rfl, by decide +kernel, rfl, by decide +kernel, by decide +kernel⟩
abbrev s_look_room : Stmt := topS 21
abbrev N_look_room : List Str := ["room"]
theorem sc_look_room : FnScope N_look_room ["room"] (defScope s_look_room) := ⟨rfl, rfl, rfl, by decide +kernel, rfl, by decide +kernel, by decide +kernel⟩
abbrev s_refuse_room : Stmt := topS 22
abbrev N_refuse_room : List Str := ["word", "at"]
theorem sc_refuse_room : FnScope N_refuse_room ["word", "at"] (defScope s_refuse_room) := ⟨rfl, rfl, rfl, by decide +kernel, rfl, by decide +kernel, by decide +kernel⟩
abbrev s_is_tuple_of : Stmt := topS 23
abbrev N_is_tuple_of : List Str := ["thing", "many"]
theorem sc_is_tuple_of : FnScope N_is_tuple_of ["thing", "many"] (defScope s_is_tuple_of) := ⟨rfl, rfl, rfl, by decide +kernel, rfl, by decide +kernel, by decide +kernel⟩
abbrev s_has_form : Stmt := topS 24
abbrev N_has_form : List Str := ["room", "hands", "belts"]
theorem sc_has_form : FnScope N_has_form ["room"] (defScope s_has_form) := ⟨rfl, rfl, rfl, by decide +kernel, rfl, by decide +kernel, by decide +kernel⟩
abbrev s_is_hand_pair : Stmt := topS 25
abbrev N_is_hand_pair : List Str := ["hand"]
theorem sc_is_hand_pair : FnScope N_is_hand_pair ["hand"] (defScope s_is_hand_pair) := ⟨rfl, rfl, rfl, by decide +kernel, rfl, by decide +kernel, by decide +kernel⟩
abbrev s_is_belt_triple : Stmt := topS 26
abbrev N_is_belt_triple : List Str := ["belt"]
theorem sc_is_belt_triple : FnScope N_is_belt_triple ["belt"] (defScope s_is_belt_triple) := ⟨rfl, rfl, rfl, by decide +kernel, rfl, by decide +kernel, by decide +kernel⟩
abbrev s_wrong_hand : Stmt := topS 27
abbrev N_wrong_hand : List Str := ["room", "number", "rule", "moments"]
theorem sc_wrong_hand : FnScope N_wrong_hand ["room"] (defScope s_wrong_hand) := ⟨rfl, rfl, rfl, by decide +kernel, rfl, by decide +kernel, by decide +kernel⟩
abbrev s_wrong_belt : Stmt := topS 28
abbrev N_wrong_belt : List Str := ["room", "hands", "belts", "number", "giver", "taker", "things"]
theorem sc_wrong_belt : FnScope N_wrong_belt ["room"] (defScope s_wrong_belt) := ⟨rfl, rfl, rfl, by decide +kernel, rfl, by decide +kernel, by decide +kernel⟩
abbrev s_wrong_count : Stmt := topS 29
abbrev N_wrong_count : List Str := ["room", "number", "rule", "moments"]
theorem sc_wrong_count : FnScope N_wrong_count ["room"] (defScope s_wrong_count) := ⟨rfl, rfl, rfl, by decide +kernel, rfl, by decide +kernel, by decide +kernel⟩
abbrev s_hand_on_ring : Stmt := topS 30
abbrev N_hand_on_ring : List Str := ["room", "hands", "belts", "steps", "number", "giver", "taker", "things"]
theorem sc_hand_on_ring : FnScope N_hand_on_ring ["room"] (defScope s_hand_on_ring) := ⟨rfl, rfl, rfl, by decide +kernel, rfl, by decide +kernel, by decide +kernel⟩
abbrev s_comings : Stmt := topS 31
abbrev N_comings : List Str := ["room", "hand", "number", "belt"]
theorem sc_comings : FnScope N_comings ["room", "hand"] (defScope s_comings) := ⟨rfl, rfl, rfl, by decide +kernel, rfl, by decide +kernel, by decide +kernel⟩
abbrev s_law_flow : Stmt := topS 33
abbrev N_law_flow : List Str := ["_law_script"]
theorem sc_law_flow : FnScope N_law_flow ["_law_script"] (defScope s_law_flow) := ⟨rfl, rfl, rfl, by decide +kernel, rfl, by decide +kernel, by decide +kernel⟩
abbrev s_law_pick : Stmt := topS 34
abbrev N_law_pick : List Str := ["_law_flow_here", "_law_many", "_law_cell", "_law_digit"]
theorem sc_law_pick : FnScope N_law_pick ["_law_flow_here", "_law_many"] (defScope s_law_pick) := ⟨rfl, rfl, rfl, by decide +kernel, rfl, by decide +kernel, by decide +kernel⟩
abbrev s_law_thing : Stmt := topS 35
abbrev N_law_thing : List Str := ["_law_flow_here"]
theorem sc_law_thing : FnScope N_law_thing ["_law_flow_here"] (defScope s_law_thing) := ⟨rfl, rfl, rfl, by decide +kernel, rfl, by decide +kernel, by decide +kernel⟩
abbrev s_law_needs : Stmt := topS 36
abbrev N_law_needs : List Str := ["_law_rule_here"]
theorem sc_law_needs : FnScope N_law_needs ["_law_rule_here"] (defScope s_law_needs) := ⟨rfl, rfl, rfl, by decide +kernel, rfl, by decide +kernel, by decide +kernel⟩
abbrev s_law_rule : Stmt := topS 37
abbrev N_law_rule : List Str := ["_law_flow_here", "_law_most", "_law_words", "_law_word"]
theorem sc_law_rule : FnScope N_law_rule ["_law_flow_here", "_law_most"] (defScope s_law_rule) := ⟨rfl, rfl, rfl, by decide +kernel, rfl, by decide +kernel, by decide +kernel⟩
abbrev s_law_shuffled : Stmt := topS 38
abbrev N_law_shuffled : List Str := ["_law_flow_here", "_law_some", "_law_left", "_law_k"]
theorem sc_law_shuffled : FnScope N_law_shuffled ["_law_flow_here", "_law_some"] (defScope s_law_shuffled) := ⟨rfl, rfl, rfl, by decide +kernel, rfl, by decide +kernel, by decide +kernel⟩
abbrev s_law_hands : Stmt := topS 39
abbrev N_law_hands : List Str := ["_law_flow_here", "_law_many", "_law_sorts", "_law_left", "_law_hands_here", "_law_k", "_law_sort", "_law_behind", "_law_other", "_law_rule_here"]
theorem sc_law_hands : FnScope N_law_hands ["_law_flow_here", "_law_many"] (defScope s_law_hands) := ⟨rfl, rfl, rfl, by decide +kernel, rfl, by decide +kernel, by decide +kernel⟩
abbrev s_law_room : Stmt := topS 40
abbrev N_law_room : List Str := ["_law_flow_here", "_law_most", "_law_hands_here", "_law_ranks", "_law_givers", "_law_k", "_law_takers", "_law_belts", "_law_to", "_law_one", "_law_trays"]
theorem sc_law_room : FnScope N_law_room ["_law_flow_here", "_law_most"] (defScope s_law_room) := ⟨rfl, rfl, rfl, by decide +kernel, rfl, by decide +kernel, by decide +kernel⟩
abbrev s_law_put : Stmt := topS 41
abbrev N_law_put : List Str := ["_law_flow_here", "_law_some", "_law_one", "_law_way", "_law_at"]
theorem sc_law_put : FnScope N_law_put ["_law_flow_here", "_law_some", "_law_one"] (defScope s_law_put) := ⟨rfl, rfl, rfl, by decide +kernel, rfl, by decide +kernel, by decide +kernel⟩
abbrev s_law_is_whole : Stmt := topS 42
abbrev N_law_is_whole : List Str := ["_law_thing_here"]
theorem sc_law_is_whole : FnScope N_law_is_whole ["_law_thing_here"] (defScope s_law_is_whole) := ⟨rfl, rfl, rfl, by decide +kernel, rfl, by decide +kernel, by decide +kernel⟩
abbrev s_law_is_rule : Stmt := topS 43
abbrev N_law_is_rule : List Str := ["_law_thing_here", "_law_some"]
theorem sc_law_is_rule : FnScope N_law_is_rule ["_law_thing_here"] (defScope s_law_is_rule) := ⟨rfl, rfl, rfl, by decide +kernel, rfl, by decide +kernel, by decide +kernel⟩
abbrev s_law_pairs : Stmt := topS 44
abbrev N_law_pairs : List Str := ["_law_things", "_law_many", "_law_one"]
theorem sc_law_pairs : FnScope N_law_pairs ["_law_things", "_law_many"] (defScope s_law_pairs) := ⟨rfl, rfl, rfl, by decide +kernel, rfl, by decide +kernel, by decide +kernel⟩
abbrev s_law_formed : Stmt := topS 45
abbrev N_law_formed : List Str := ["_law_room_here", "_law_numbers", "_law_hand", "_law_one", "_law_to", "_law_things", "_law_number"]
theorem sc_law_formed : FnScope N_law_formed ["_law_room_here"] (defScope s_law_formed) := ⟨rfl, rfl, rfl, by decide +kernel, rfl, by decide +kernel, by decide +kernel⟩
abbrev s_law_round : Stmt := topS 46
abbrev N_law_round : List Str := ["_law_room_here", "_law_many", "_law_leads", "_law_k", "_law_one", "_law_to", "_law_things"]
theorem sc_law_round : FnScope N_law_round ["_law_room_here"] (defScope s_law_round) := ⟨rfl, rfl, rfl, by decide +kernel, rfl, by decide +kernel, by decide +kernel⟩
abbrev s_law_due : Stmt := topS 47
abbrev N_law_due : List Str := ["_law_room_here", "_law_hands_here", "_law_belts", "_law_k", "_law_hand", "_law_b", "_law_belt", "_law_on"]
theorem sc_law_due : FnScope N_law_due ["_law_room_here"] (defScope s_law_due) := ⟨rfl, rfl, rfl, by decide +kernel, rfl, by decide +kernel, by decide +kernel⟩
abbrev s_law_told : Stmt := topS 48
abbrev N_law_told : List Str := ["_law_room_here", "_law_told_here", "_law_copied", "e"]
theorem sc_law_told : FnScope N_law_told ["_law_room_here"] (defScope s_law_told) := ⟨rfl, rfl, rfl, by decide +kernel, rfl, by decide +kernel, by decide +kernel⟩
abbrev s_law_odd : Stmt := topS 49
abbrev N_law_odd : List Str := ["_law_flow_here", "_law_some"]
theorem sc_law_odd : FnScope N_law_odd ["_law_flow_here"] (defScope s_law_odd) := ⟨rfl, rfl, rfl, by decide +kernel, rfl, by decide +kernel, by decide +kernel⟩
abbrev s_law_other_kind : Stmt := topS 50
abbrev N_law_other_kind : List Str := ["_law_flow_here", "_law_room_here", "_law_side", "_law_parts", "_law_some", "_law_at"]
theorem sc_law_other_kind : FnScope N_law_other_kind ["_law_flow_here", "_law_room_here", "_law_side"] (defScope s_law_other_kind) := ⟨rfl, rfl, rfl, by decide +kernel, rfl, by decide +kernel, by decide +kernel⟩
abbrev s_law_changed : Stmt := topS 51
abbrev N_law_changed : List Str := ["_law_flow_here", "_law_room_here", "_law_hands_here", "_law_hand", "_law_belts", "_law_belt", "_law_way", "_law_some", "_law_at", "_law_more"]
theorem sc_law_changed : FnScope N_law_changed ["_law_flow_here", "_law_room_here"] (defScope s_law_changed) := ⟨rfl, rfl, rfl, by decide +kernel, rfl, by decide +kernel, by decide +kernel⟩
abbrev s_law_alike : Stmt := topS 52
abbrev N_law_alike : List Str := ["_law_found", "_law_due_here"]
theorem sc_law_alike : FnScope N_law_alike ["_law_found", "_law_due_here"] (defScope s_law_alike) := ⟨rfl, rfl, rfl, by decide +kernel, rfl, by decide +kernel, by decide +kernel⟩
abbrev s_law_wrong : Stmt := topS 53
abbrev N_law_wrong : List Str := ["_law_flow_here", "_law_room_here", "_law_k"]
theorem sc_law_wrong : FnScope N_law_wrong ["_law_flow_here", "_law_room_here"] (defScope s_law_wrong) := ⟨rfl, rfl, rfl, by decide +kernel, rfl, by decide +kernel, by decide +kernel⟩
abbrev s_law_no_pair : Stmt := topS 54
abbrev N_law_no_pair : List Str := ["_law_flow_here", "_law_room_here", "_law_some"]
theorem sc_law_no_pair : FnScope N_law_no_pair ["_law_flow_here", "_law_room_here"] (defScope s_law_no_pair) := ⟨rfl, rfl, rfl, by decide +kernel, rfl, by decide +kernel, by decide +kernel⟩
abbrev s_law : Stmt := topS 55
abbrev N_law : List Str := ["_law_script", "_law_flow_here", "_law_room_here", "_law_wrong_here", "_law_one"]
theorem sc_law : FnScope N_law ["_law_script"] (defScope s_law) := ⟨rfl, rfl, rfl, by decide +kernel, rfl, by decide +kernel, by decide +kernel⟩

/-- a def of the text stands, binds and is bound -/
def Dd (K : PySem.W.Frag) (mg : Str → Option Value) (name : Str) (st : Stmt) (ps : List Str) : Prop :=
  ∃ (f : Addr) (fd : FuncData), Fun K name name st f fd ∧ Binds K fd ps [] ∧ mg name = some (.ref f)
/-! ### the table of the rules -/
def eleven : List Str := ["same", "sum", "gap", "below", "most", "least", "pick", "times", "always", "in", "out"]
def needN (z : Str) : Int := if z = "always" ∨ z = "in" then 0 else if z = "same" ∨ z = "times" ∨ z = "out" then 1 else if z = "pick" then 3 else 2
structure NeedsAt (K : PySem.W.Frag) (w : World) (a : Addr) : Prop where
  dict : ∃ es n, KDict K w a es n
  yes : ∀ z ∈ eleven, ∃ t, PySem.W.nsIn K a z = some (some (.int (needN z) t))
  no : ∀ z, z ∉ eleven → PySem.W.nsIn K a z = some none
def knownK (K : PySem.W.Frag) (a : Addr) : Bool := match K.lookup a with
  | some ⟨_, _, .dict es _, _⟩ => es.toList.all fun e => match e.key with
    | .str s _ => decide (s ∈ eleven)
    | _ => false
  | _ => false
theorem knownK_no {K : PySem.W.Frag} {a : Addr} (h : knownK K a = true) {z : Str} (hz : z ∉ eleven) : PySem.W.nsIn K a z = some none := by
  unfold knownK at h
  unfold PySem.W.nsIn
  split at h
  · rename_i es n sl e
    rw [e]
    have all := List.all_eq_true.mp h
    have f1 : es.toList.find? (fun e => e.key.isStr z) = none := by
      rw [List.find?_eq_none]
      intro x hx y
      have := all x hx
      revert this y
      cases x.key with
      | str s t =>
        intro y this
        have y : (s == z) = true := y
        have := of_decide_eq_true this
        rw [eq_of_beq y] at this
        exact hz this
      | _ => intro _ this; cases this
    have f2 : es.toList.any (fun e => e.refKey) = false := by
      rw [List.any_eq_false]
      intro x hx y
      have := all x hx
      revert this y
      unfold DictEntry.refKey
      cases x.key with
      | str s t => intro y; cases y
      | _ => intro _ this; cases this
    dsimp only
    rw [f1]
    dsimp only
    rw [f2]
    rfl
  · cases h
/-! ### an own error with fields -/
abbrev s_NoRoom_init : Stmt := inClass (topS 3) 0
abbrev N_NoRoom_init : List Str := ["self", "word", "at"]
theorem sc_NoRoom_init : FnScope N_NoRoom_init ["self", "word", "at"] (defScope s_NoRoom_init) := ⟨rfl, rfl, rfl, by decide +kernel, rfl, by decide +kernel, by decide +kernel⟩
structure NsC (K : PySem.W.Frag) (mg : Str → Option Value) (C CB fI : Addr) (fd : FuncData) : Prop where
  gC : mg "NoRoom" = some (.ref C)
  gB : mg "BeltError" = some (.ref CB)
  T : OexC K C
  nw : PySem.W.findIn K (.ref C) "word" = some none
  na : PySem.W.findIn K (.ref C) "at" = some none
  iC : PySem.W.findIn K (.ref C) "__init__" = some (some (.ref fI))
  tI : PySem.W.typeIn K (.ref fI) = some (.type "function")
  F : Fun K "__init__" "NoRoom.__init__" s_NoRoom_init fI fd
  b : Binds K fd ["self", "word", "at"] []
  te : PySem.W.exmOne K (.ref C) (.ref CB) = some true
  xf : XfC K C
  is_ : ExcC K C
  tc : PySem.W.exmOne K (.ref C) (.ref C) = some true
  kb : PySem.W.kitOne K (.ref C) (.ref CB) = some true
  ko : PySem.W.kitAny K (.ref C) [.ref (He.ga K "NoText"), .ref (He.ga K "NoShift"), .ref (He.ga K "NoFormula"), .ref (He.ga K "NoName"), .ref (He.ga K "NoRow")] = some false
structure Top (w : World) (K : PySem.W.Frag) (mg : Str → Option Value) : Prop where
  d_first_on_ring : Dd K mg "first_on_ring" s_first_on_ring ["places", "steps"]
  d_comes_back : Dd K mg "comes_back" s_comes_back ["place", "steps"]
  d_is_whole : Dd K mg "is_whole" s_is_whole ["thing"]
  d_is_rule : Dd K mg "is_rule" s_is_rule ["thing"]
  d_needs : Dd K mg "needs" s_needs ["rule"]
  d_look_room : Dd K mg "look_room" s_look_room ["room"]
  d_refuse_room : Dd K mg "refuse_room" s_refuse_room ["word", "at"]
  d_is_tuple_of : Dd K mg "is_tuple_of" s_is_tuple_of ["thing", "many"]
  d_has_form : Dd K mg "has_form" s_has_form ["room"]
  d_is_hand_pair : Dd K mg "is_hand_pair" s_is_hand_pair ["hand"]
  d_is_belt_triple : Dd K mg "is_belt_triple" s_is_belt_triple ["belt"]
  d_wrong_hand : Dd K mg "wrong_hand" s_wrong_hand ["room"]
  d_wrong_belt : Dd K mg "wrong_belt" s_wrong_belt ["room"]
  d_wrong_count : Dd K mg "wrong_count" s_wrong_count ["room"]
  d_hand_on_ring : Dd K mg "hand_on_ring" s_hand_on_ring ["room"]
  d_comings : Dd K mg "comings" s_comings ["room", "hand"]
  d_law_flow : Dd K mg "_law_flow" s_law_flow ["_law_script"]
  d_law_pick : Dd K mg "_law_pick" s_law_pick ["_law_flow_here", "_law_many"]
  d_law_thing : Dd K mg "_law_thing" s_law_thing ["_law_flow_here"]
  d_law_needs : Dd K mg "_law_needs" s_law_needs ["_law_rule_here"]
  d_law_rule : Dd K mg "_law_rule" s_law_rule ["_law_flow_here", "_law_most"]
  d_law_shuffled : Dd K mg "_law_shuffled" s_law_shuffled ["_law_flow_here", "_law_some"]
  d_law_hands : Dd K mg "_law_hands" s_law_hands ["_law_flow_here", "_law_many"]
  d_law_room : Dd K mg "_law_room" s_law_room ["_law_flow_here", "_law_most"]
  d_law_put : Dd K mg "_law_put" s_law_put ["_law_flow_here", "_law_some", "_law_one"]
  d_law_is_whole : Dd K mg "_law_is_whole" s_law_is_whole ["_law_thing_here"]
  d_law_is_rule : Dd K mg "_law_is_rule" s_law_is_rule ["_law_thing_here"]
  d_law_pairs : Dd K mg "_law_pairs" s_law_pairs ["_law_things", "_law_many"]
  d_law_formed : Dd K mg "_law_formed" s_law_formed ["_law_room_here"]
  d_law_round : Dd K mg "_law_round" s_law_round ["_law_room_here"]
  d_law_due : Dd K mg "_law_due" s_law_due ["_law_room_here"]
  d_law_told : Dd K mg "_law_told" s_law_told ["_law_room_here"]
  d_law_odd : Dd K mg "_law_odd" s_law_odd ["_law_flow_here"]
  d_law_other_kind : Dd K mg "_law_other_kind" s_law_other_kind ["_law_flow_here", "_law_room_here", "_law_side"]
  d_law_changed : Dd K mg "_law_changed" s_law_changed ["_law_flow_here", "_law_room_here"]
  d_law_alike : Dd K mg "_law_alike" s_law_alike ["_law_found", "_law_due_here"]
  d_law_wrong : Dd K mg "_law_wrong" s_law_wrong ["_law_flow_here", "_law_room_here"]
  d_law_no_pair : Dd K mg "_law_no_pair" s_law_no_pair ["_law_flow_here", "_law_room_here"]
  m_all : mg "all" = none
  m_bool : mg "bool" = none
  m_enumerate : mg "enumerate" = none
  m_int : mg "int" = none
  m_isinstance : mg "isinstance" = none
  m_len : mg "len" = none
  m_list : mg "list" = none
  m_max : mg "max" = none
  m_min : mg "min" = none
  m_range : mg "range" = none
  m_repr : mg "repr" = none
  m_set : mg "set" = none
  m_str : mg "str" = none
  m_tuple : mg "tuple" = none
  x_in : ∃ aI : Addr, mg "IN_RULE" = some (.ref aI) ∧ ∀ H : Hp, SqT K H aI [.str "in"]
  x_out : ∃ aO : Addr, mg "OUT_RULE" = some (.ref aO) ∧ ∀ H : Hp, SqT K H aO [.str "out"]
  x_with : ∃ aW : Addr, mg "WITH_NUMBER" = some (.ref aW) ∧ ∀ H : Hp, SqT K H aW [.str "times", .str "always"]
  x_needs : ∃ aN : Addr, mg "NEEDS" = some (.ref aN) ∧ NeedsAt K w aN
  x_ns : ∃ fd : FuncData, NsC K mg (He.ga K "NoRoom") (He.ga K "BeltError") (He.fAd K ("NoRoom", some "__init__")) fd
  x_NoText : mg "NoText" = some (.ref (He.ga K "NoText"))
  x_NoShift : mg "NoShift" = some (.ref (He.ga K "NoShift"))
  x_NoFormula : mg "NoFormula" = some (.ref (He.ga K "NoFormula"))
  x_NoName : mg "NoName" = some (.ref (He.ga K "NoName"))
  x_NoRow : mg "NoRow" = some (.ref (He.ga K "NoRow"))

/-! ### heaps -/
def But (f : Addr) (H H' : Hp) : Prop := ∀ b o, H b = some o → b ≠ f → H' b = some o
theorem But.refl {f : Addr} {H : Hp} : But f H H := fun _ _ e _ => e
theorem But.trans {f : Addr} {H H1 H2 : Hp} (a : But f H H1) (b : But f H1 H2) : But f H H2 := fun x o e n => b x o (a x o e n) n
theorem But.upd {f : Addr} {H H1 : Hp} {o : HO} (a : But f H H1) : But f H (upd H1 f o) := fun x u e n => by rw [upd_ne n]; exact a x u e n
theorem But.new {f p : Addr} {H H1 : Hp} {o : HO} (a : But f H H1) (h : H1 p = none) : But f H (L2.upd H1 p o) := fun x u e n => by
  have e1 := a x u e n
  rw [upd_ne (ne_of_none e1 h)]
  exact e1
theorem same_new {H : Hp} {p : Addr} {o : HO} (h : H p = none) : Same H (upd H p o) := fun b u q => by rw [upd_ne (ne_of_none q h)]; exact q
theorem But.same {f : Addr} {H H1 H2 : Hp} (a : But f H H1) (b : Same H1 H2) : But f H H2 := fun x o e n => b x o (a x o e n)
theorem But.seqT {K : PySem.W.Frag} {f a : Addr} {H H1 : Hp} {xs : List V} (b : But f H H1) (h : SqT K H a xs) (n : a ≠ f) : SqT K H1 a xs := by
  rcases h with h | h
  · left
    rcases h with h | ⟨o, h⟩
    · exact .inl (b _ _ h n)
    · exact .inr ⟨o, b _ _ h n⟩
  · exact .inr h
/-- a comprehension without a test -/
theorem yes_in {σ : L2.St} {H : Hp} {A B : Hp → Prop} (h : A H) : tYes σ H (fun b H3 => if b = true then A H3 else B H3) := by
  show (if true = true then A H else B H)
  rw [if_pos rfl]
  exact h
/-! ### the draw -/
/-- the list of the law's draws at f, the script's copy at c -/
def Flow (H : Hp) (f c : Addr) : Prop := ∃ (ns : List Int) (i p q r : Int), H f = some (.lst [.ref c, .int i, .int p, .int q, .int r]) ∧ H c = some (.lst (ns.map V.int)) ∧ 0 ≤ i ∧ 0 ≤ p ∧ 0 ≤ q ∧ q < 2147483647
theorem Flow.new {H : Hp} {f c p : Addr} {o : HO} (h : Flow H f c) (n : H p = none) : Flow (upd H p o) f c := by
  obtain ⟨ns, i, a, q, r, e1, e2, e⟩ := h
  exact ⟨ns, i, a, q, r, same_new n _ _ e1, same_new n _ _ e2, e⟩
theorem Flow.ne {H : Hp} {f c p : Addr} (h : Flow H f c) (n : H p = none) : p ≠ f := by
  obtain ⟨ns, i, a, q, r, e1, _⟩ := h
  exact fun e => by rw [e, e1] at n; cases n
theorem Flow.nec {H : Hp} {f c p : Addr} (h : Flow H f c) (n : H p = none) : p ≠ c := by
  obtain ⟨ns, i, a, q, r, _, e1, _⟩ := h
  exact fun e => by rw [e, e1] at n; cases n
theorem Flow.lst {H : Hp} {f c p : Addr} {o : HO} (h : Flow H f c) (n1 : p ≠ f) (n2 : p ≠ c) : Flow (upd H p o) f c := by
  obtain ⟨ns, i, a, q, r, e1, e2, e⟩ := h
  exact ⟨ns, i, a, q, r, by rw [upd_ne n1.symm]; exact e1, by rw [upd_ne n2.symm]; exact e2, e⟩
theorem Flow.same {H H' : Hp} {f c : Addr} (h : Flow H f c) (s : Same H H') : Flow H' f c := by
  obtain ⟨ns, i, a, q, r, e1, e2, e⟩ := h
  exact ⟨ns, i, a, q, r, s _ _ e1, s _ _ e2, e⟩
theorem Flow.tup {H : Hp} {f c p : Addr} {xs : List V} (h : Flow H f c) (e : H p = some (.tup xs)) : p ≠ f := by
  obtain ⟨ns, i, a, q, r, e1, _⟩ := h
  exact ne_of e e1 (by intro z; cases z)
theorem at_ints {ns : List Int} {i : Int} (h0 : 0 ≤ i) (h1 : i < (ns.length : Int)) : ∃ v : Int, atI (ns.map V.int) i = some (.int v) := by
  have hk : i.toNat < ns.length := by omega
  have ek : i = ((i.toNat : Nat) : Int) := by omega
  have q : atI (ns.map V.int) ((i.toNat : Nat) : Int) = some (.int ns[i.toNat]) := atI_nat (by rw [List.getElem?_map, List.getElem?_eq_getElem hk]; rfl)
  rw [← ek] at q
  exact ⟨_, q⟩
/-- a block by less than it asks -/
theorem PSs.to {X : Cx} {ss : List Stmt} {t : TS} (h : PSs X ss t) (u : TS) (k : ∀ D σ H, u D σ H → t D σ H) : PSs X ss u := ⟨fun pins s σ H D I q => h.run pins s σ H D I (k D σ H q)⟩
theorem if_bl {b : Bool} {A B : Prop} (h1 : b = true → A) (h2 : b = false → B) : if b = true then A else B := by
  cases b
  · rw [if_neg Bool.false_ne_true]; exact h2 rfl
  · rw [if_pos rfl]; exact h1 rfl
/-! ### defs whose callers are showing nothing: a promise that may lean on it (repr of a list or tuple asks) -/
structure FnG (P : Program) (w : World) (K : PySem.W.Frag) (mg : Str → Option Value) (base : Heap) (CX : CXT) (lv : Nat) (fn : Addr) (dat : FuncData) (names : List Str) (sp : Sp) : Prop where
  many : ∀ xs H Q E, sp xs H Q E → xs.length = names.length
  goes : ∀ (A : Around) (outer : List Env) (st : Shared) (H : Hp) (given : Args) (us : List Value) (xs : List V) (Q : VK) (E : XK), Room lv A → A.guards = some [] →
    Env0 P w K mg base A outer st H → BindsTo st dat given (names.zip us) → Vals xs us → sp xs H Q E → codeAny (model P w) A (.call (.ref fn) given) (CR CX outer P w H st Q E) st
theorem FnG.of {P : Program} {w : World} {K : PySem.W.Frag} {mg : Str → Option Value} {base : Heap} {CX : CXT} {lv : Nat} {fn : Addr} {dat : FuncData} {names : List Str} {sp : Sp} (h : FnOk P w K mg base CX lv fn dat names sp) : FnG P w K mg base CX lv fn dat names sp :=
  ⟨h.len, fun A o st H g us xs Q E r _ e b v q => h.run A o st H g us xs Q E r e b v q⟩
section
variable {P : Program} {w : World} {K : PySem.W.Frag} {mg : Str → Option Value} {base : Heap} {CX : CXT} {lv : Nat}
theorem fnG_of {fn : Addr} {nm ql : Str} {pr : Arguments} {bd : List Stmt} {sc : Scope} {d1 d2 d3 d4 d5 d6 d7 : Value} {o1 o2 : Option Addr} {o3 : Array (Option Value)} {N names : List Str} {sp : Sp}
    (at_ : K.lookup fn = some ⟨d7, o2, .func (PySem.W.fnOf nm ql pr bd sc d1 d2 d3 d4 o1 d5 d6), o3⟩) (code : PySem.W.codeIn K d5 ql = true) (S : FnScope N names sc) (many : ∀ xs H Q E, sp xs H Q E → xs.length = names.length)
    (body : ∀ (A : Around) (outer : List Env) (st : Shared) (H : Hp) (xs : List V) (Q : VK) (E : XK), Room lv (A.deeper (envOfC ql sc st.heap.objs.size fn d5)) → (A.deeper (envOfC ql sc st.heap.objs.size fn d5)).guards = some [] → sp xs H Q E →
      ∃ t, PSs (cxOf CX P w K mg base N ql sc fn d5 A outer st H E) bd t ∧ t { nx := fun _ H' => Q .non H', rt := Q } (start N xs) H) :
    FnG P w K mg base CX (lv + 1) fn (PySem.W.fnOf nm ql pr bd sc d1 d2 d3 d4 o1 d5 d6) names sp := by
  refine ⟨many, fun A outer st H given us xs Q E rm gd e0 bnd rel asked => ?_⟩
  have inK : K.In st.heap := e0.mod.kin.keeps fun z u e => (e0.bs z u e).1
  have noL : st.heap.NoLimit := e0.mod.nolimit.keeps fun z u e => (e0.bs z u e).1
  have kinds : ∀ z ∈ names.zip us, sc.names.lookup z.1 = some .local ∨ (sc.names.lookup z.1 = some .cell ∧ ((cellsFrom (st.heap.objs.size + 1) sc.names []).lookup z.1).isSome = true) := by
    intro z hz
    rcases S.par z.1 (List.of_mem_zip (a := z.1) (b := z.2) hz).1 with k | k
    · left; exact k
    · right; exact ⟨k, PySem.W.cellsFrom_some _ _ _ (.inl k)⟩
  refine codeAny_call_function rm.depth (inK _ _ at_) rfl S.co S.gen rfl (PySem.W.codeRec_of inK code) (bnd _ _ _ _ ?_)
  refine wpAny_newFunctionEnv_cells S.kind kinds fun env eenv st1 inn => ?_
  subst eenv
  refine ⟨noL.keeps inn.toInCall.keep, codeAny_func ?_⟩
  obtain ⟨t, der, now⟩ := body A outer st H xs Q E (rm.deeper _) gd asked
  have J0 := inv_start (CX := CX) (E := E) S rm.hd e0 (many _ _ _ _ asked) rel inn
  refine wpAny_mono (der.run [] st1 (start N xs) H _ J0 now) (fun flow st' got => ?_) fun _ _ z => z
  cases flow with
  | ret u =>
    obtain ⟨v, σ', H', J, rv, fine⟩ := got
    exact ⟨v, H', J.os, J.bare, J.base, J.hok, rv, fine⟩
  | next =>
    obtain ⟨σ', H', J, fine⟩ := got
    exact ⟨V.non, H', J.os, J.bare, J.base, J.hok, rfl, fine⟩
  | brk =>
    obtain ⟨_, _, _, no⟩ := got
    exact no.elim
  | cont =>
    obtain ⟨_, _, _, no⟩ := got
    exact no.elim
theorem Fun.okG {nm ql : Str} {st : Stmt} {fn : Addr} {dat : FuncData} {N names : List Str} {sp : Sp} (F : L2.Fun K nm ql st fn dat) (S : FnScope N names (defScope st)) (many : ∀ xs H Q E, sp xs H Q E → xs.length = names.length)
    (body : ∀ (cdv : Value) (A : Around) (outer : List Env) (s : Shared) (H : Hp) (xs : List V) (Q : VK) (E : XK), Room lv (A.deeper (envOfC ql (defScope st) s.heap.objs.size fn cdv)) → (A.deeper (envOfC ql (defScope st) s.heap.objs.size fn cdv)).guards = some [] → sp xs H Q E →
      ∃ t, PSs (cxOf CX0 P w K mg base N ql (defScope st) fn cdv A outer s H E).nox (defBody st) t ∧ t { nx := fun _ H' => Q .non H', rt := Q } (start N xs) H) : FnG P w K mg base CX0 (lv + 1) fn dat names sp := by
  obtain ⟨c1, c2, c3, c4, c5, c6, cdv, c8, c9, rfl, at_, code⟩ := F.ex
  refine fnG_of at_ code S many fun A outer s H xs Q E rm gd asked => ?_
  obtain ⟨t, der, now⟩ := body cdv A outer s H xs Q E rm gd asked
  exact ⟨t, der.nox, now⟩
end
section
variable {X : Cx} {CX : CXT} {lv : Nat} {fn : Addr} {dat : FuncData} {names : List Str} {sp : Sp} {more : List V} {ds : List Value} {E : XK}
theorem goesG {pins : List (Addr × Obj)} {σ : L2.St} {H : Hp} {st : Shared} {Q : VK} {us : List Value} {xs : List V} (F : FnG X.prog X.w X.K X.mg X.base CX lv fn dat names sp) (rm : Room lv X.A) (gd : X.A.guards = some []) (bnd : Binds X.K dat names ds) (dv : Vals more ds) (out : Passes CX X E)
    (J : Inv X pins σ H st) (rel : Vals xs us) (asked : sp (xs ++ more) H Q E) : wpAny (model X.prog X.w) X.A (call (.ref fn) us) (EP X pins σ Q) X.xe st := by
  have rel2 := rel.append dv
  have len2 : (us ++ ds).length = names.length := by
    rw [← rel2.length]
    exact F.many _ _ _ _ asked
  refine wpAny_call (codeAny_mono (F.goes X.A X.stack st H ⟨us, []⟩ (us ++ ds) (xs ++ more) Q E rm gd J.env0 (bnd st us J.kIn len2) rel2 asked) fun res st' got => ?_)
  cases res with
  | error e => exact out pins σ H st e st' J got
  | ok flow =>
    cases flow with
    | ret u => exact J.after got
    | next => exact got.elim
    | brk => exact got.elim
    | cont => exact got.elim
theorem pe_callG {x : Str} {p pos : Pos} {e : Expr} {es : List Expr} {t : TA} (F : FnG X.prog X.w X.K X.mg X.base CX lv fn dat names sp) (rm : Room lv X.A) (gd : X.A.guards = some []) (glob : Gl X x) (here : X.mg x = some (.ref fn)) (kept : PySem.W.keepIn X.K (.ref fn) = true)
    (bnd : Binds X.K dat names ds) (dv : Vals more ds) (out : Passes CX X E) (args : PA X (e :: es) t) (n1 : (x == ("__debug__" : Str)) = false := by decide)
    (n2 : starEach (e :: es) X.env = (false, eval e X.env) :: starEach es X.env := by rfl) (n3 : (backTo pos (starEach es X.env)).any (·.1) = false := by rfl) : PE X (.Call (.Name x p) (e :: es) [] pos) (tCall sp more E t) := by
  refine ⟨fun pins st σ H Q J asked => ?_⟩
  refine wpAny_Call_Name_kw (ld_glob J glob here ?_ n1)
  exact PySem.W.callWith_K (h₀ := X.base) J.ok.mod.kin kept (thn (args.run pos pins st σ H _ J asked) fun us st1 ⟨xs, H1, J1, rel, now⟩ => ⟨J1.kIn, goesG F rm gd bnd dv out J1 rel now⟩) n2 n3
theorem pe_call0G {x : Str} {p pos : Pos} (F : FnG X.prog X.w X.K X.mg X.base CX lv fn dat names sp) (rm : Room lv X.A) (gd : X.A.guards = some []) (glob : Gl X x) (here : X.mg x = some (.ref fn)) (kept : PySem.W.keepIn X.K (.ref fn) = true)
    (bnd : Binds X.K dat names ds) (dv : Vals more ds) (out : Passes CX X E) (n1 : (x == ("__debug__" : Str)) = false := by decide) : PE X (.Call (.Name x p) [] [] pos) (tCall sp more E tNil) := by
  refine ⟨fun pins st σ H Q J asked => ?_⟩
  refine wpAny_Call_Name_kw (ld_glob J glob here ?_ n1)
  exact PySem.W.callWith_K0 J.kIn kept (goesG (us := []) F rm gd bnd dv out J .nil asked)
/-- repr of data -/
def rReprD (K : PySem.W.Frag) : List V → Hp → VK → Prop := fun xs H Q => ∃ (a : Addr) (d : PyData), xs = [.ref a] ∧ Dp K H (.ref a) d ∧ d.showable = true ∧ d.hasDict = false ∧ d.depth ≤ 60 ∧ d.shown.length ≤ sizeLine ∧ Q (.str d.shown) H
theorem call_reprD (gd : X.A.guards = some []) (un : X.A.units + 64 < cLine) : CallR X (.builtin "repr") (rReprD X.K) := by
  intro pins st σ H xs us Q J rel asked
  obtain ⟨a, d, rfl, hd, h1, h2, h3, h4, now⟩ := asked
  obtain ⟨u, rfl, ru⟩ := vals1 rel
  obtain rfl : u = Value.ref a := ru
  obtain ⟨as, rd⟩ := Dp.reads J d _ _ hd rfl
  exact repr_of_reads' rd h1 (PyData.noDict_hsm h2) gd (by omega) (fun _ _ e => e) (fun h' u tk kp => ⟨.str d.shown, H, J.kept (t' := tk) kp, ⟨_, rfl⟩, now⟩) h4
end
/-! ### the law's own call, its code objects' tables told, by a promise that leans on nothing being shown -/
theorem endGT {P : Program} {w : World} {K : PySem.W.Frag} {mg mb : Str → Option Value} {CX : CXT} {lv : Nat} {fn a : Addr} {dat : FuncData} {x : Str} {sp : Sp} {st : Shared} {us : List Value} {ns : List Int} {cs : List (Addr × Addr)}
    (inK : K.In st.heap) (gl : st.heap.Ns mainGlobals mg) (bl : st.heap.Ns builtinsNs mb) (boot : ∀ z : Str, z ≠ "__name__" → mb z = bootBuiltins z) (noL : st.heap.NoLimit) (gens : st.gens = #[])
    (bm : ∃ (m : Addr) (o : Obj), mg "__builtins__" = some (.ref m) ∧ m ≠ builtinsNs ∧ st.heap.get? m = some o ∧ o.cls = .type "module" ∧ o.dict = some builtinsNs ∧ o.data = .plain)
    (tabs : ∀ p ∈ cs, st.heap.get? p.2 = some { cls := .none, data := .fields #[] }) (free : ∀ p ∈ cs, K.lookup p.2 = none) (codes : ∀ p ∈ cs, PySem.W.CodeHd st.heap p.1 p.2)
    (obj : st.heap.get? a = some { cls := .type "list", data := .seq us.toArray }) (iv : IntsAre us ns) (short : ns.length ≤ sizeLine) (rm : Room lv callerA)
    (F : ∀ bs : Heap, K.In bs → bs.Ns mainGlobals mg → (∀ p ∈ cs, LamX.TabB bs mg p.1 p.2) → FnG P w K mg bs CX lv fn dat [x] sp) (bnd : ∀ (z : Shared) (u : Value), BindsTo z dat ⟨[u], []⟩ [(x, u)])
    (asked : ∀ H : Hp, (∀ p ∈ cs, H p.2 = some (.tbl #[])) → SqL K H a (ns.map V.int) → sp [.ref a] H (fun v _ => v = .bl true) fun _ _ _ => False)
    (never : ∀ H e st', CX [] H st (fun _ _ _ => False) e st' → False) :
    codeAny (model P w) callerA (.call (.ref fn) ⟨[.ref a], []⟩) (fun res st' => res = .ok (.ret (.bool true)) ∧ OldK st.heap st'.heap ∧ st'.os = st.os ∧ AllBare st'.gens) st := by
  classical
  have rel := vals_ints iv
  have many := iv.length
  let tb : Addr → Prop := fun b => ∃ p ∈ cs, p.2 = b
  have tObj : ∀ {b : Addr}, tb b → st.heap.get? b = some { cls := .none, data := .fields #[] } := fun {b} ⟨p, hp, e⟩ => e ▸ tabs p hp
  have aT : ¬ tb a := fun h => by
    have z : Data.fields #[] = Data.seq us.toArray _ := congrArg Obj.data (Option.some.inj ((tObj h).symm.trans obj))
    cases z
  have main : ∀ H : Hp, (∀ b, tb b → H b = some (.tbl #[])) → (∀ b, H b = none ∨ tb b ∨ (b = a ∧ K.lookup a = none ∧ ∃ o xs, H b = some (.frz o (.lst xs)))) → SqL K H a (ns.map V.int) → HOk P w H st.heap →
      codeAny (model P w) callerA (.call (.ref fn) ⟨[.ref a], []⟩) (fun res st' => res = .ok (.ret (.bool true)) ∧ OldK st.heap st'.heap ∧ st'.os = st.os ∧ AllBare st'.gens) st := by
    intro H ht trk sq ok
    have kClear : ∀ {b : Addr} {o : Obj}, K.lookup b = some o → H b = none := fun {b o} e => by
      rcases trk b with h | ⟨p, hp, rfl⟩ | ⟨rfl, h, _⟩
      · exact h
      · rw [free p hp] at e; cases e
      · rw [h] at e; cases e
    have dClear : ∀ {b : Addr} {o : Obj}, st.heap.get? b = some o → o.data ≠ .fields #[] → (∀ vs n, o.data ≠ .seq vs n) → H b = none := fun {b o} e n1 n2 => by
      rcases trk b with h | h | ⟨rfl, _⟩
      · exact h
      · rw [tObj h] at e; cases e; exact (n1 rfl).elim
      · rw [obj] at e; cases e; exact (n2 _ _ rfl).elim
    have names : ∀ {b : Addr} {m : Str → Option Value}, st.heap.Ns b m → (hidT st.heap H).Ns b m := by
      rintro b m ⟨u, es, ep, e, d, r⟩
      exact ⟨u, es, ep, hidT_get e (dClear e (by rw [d]; exact fun z => nomatch z) (by rw [d]; exact fun _ _ z => nomatch z)), d, r⟩
    have inB : K.In (hidT st.heap H) := fun b u e => hidT_get (inK b u e) (kClear e)
    have TB : ∀ p ∈ cs, LamX.TabB (hidT st.heap H) mg p.1 p.2 := fun p hp => by
      obtain ⟨o, vs, file, tf, flags, tg, inF, text, tt, e1, r1, r2, r3, rest⟩ := codes p hp
      obtain ⟨m, ob, b1, b2, b3, b4, b5, b6⟩ := bm
      obtain ⟨og, es, ep, eg, dg, _⟩ := gl
      have nG : m ≠ mainGlobals := fun z => by
        rw [z, eg] at b3; cases b3; rw [dg] at b6; cases b6
      have nP : m ≠ p.2 := fun z => by
        rw [z, tabs p hp] at b3; cases b3; cases b6
      refine ⟨⟨o, vs, file, tf, flags, tg, inF, text, tt, hidT_get e1 (dClear e1 (fun z => ?_) (by rw [r2]; exact fun _ _ z => nomatch z)), r1, r2, r3, rest⟩, ⟨m, ob, b1, b2, nG, nP, hidT_get b3 (dClear b3 (by rw [b6]; exact fun z => nomatch z) (by rw [b6]; exact fun _ _ z => nomatch z)), b4, b5, b6⟩, fun z => ?_⟩
      · rw [r2] at z; cases z; simp at r3
      · rw [z, tabs p hp] at eg; cases eg; cases dg
    obtain ⟨mc, l1, l2⟩ := noL
    have env : Env0 P w K mg (hidT st.heap H) callerA [] st H :=
      ⟨rfl, ⟨inB, names gl, ⟨mb, names bl, boot⟩, ⟨mc, names l1, l2⟩⟩, fun b u e => of_hidT e, Nat.le_of_eq (hidT_size _ _), trivial, (fun b z => nomatch z), ok, .of_eq gens⟩
    refine codeAny_mono ((F _ inB (names gl) TB).goes callerA [] st H ⟨[.ref a], []⟩ [.ref a] [.ref a] _ _ rm rfl env (bnd st (.ref a)) (.cons rfl .nil) (asked H (fun p hp => ht _ ⟨p, hp, rfl⟩) sq)) fun res st' got => ?_
    cases res with
    | error e => exact (never H e st' got).elim
    | ok flow =>
      cases flow with
      | next => exact got.elim
      | brk => exact got.elim
      | cont => exact got.elim
      | ret u =>
        obtain ⟨v, H', os, bare, un, ok', rv, now⟩ := got
        obtain rfl : v = V.bl true := now
        obtain rfl : u = Value.bool true := rv
        have stay : ∀ b o, ¬ tb b → st.heap.get? b = some o → st'.heap.get? b = some o := fun b o nb e => by
          rcases trk b with h | h | ⟨_, _, ob, xs, h⟩
          · exact un.keep b o e h (fun z => by cases z) (by simp)
          · exact absurd h nb
          · obtain ⟨f1, _⟩ := ok b _ h
            obtain ⟨f2, _⟩ := ok' b _ (un.frzs b ob _ h)
            rw [e] at f1
            cases f1
            exact f2
        have grown : ∀ p ∈ cs, ∃ more : Array Value, st'.heap.get? p.2 = some { cls := .none, data := .fields more } := fun p hp => by
          obtain ⟨more, z⟩ := un.tbls p.2 #[] (ht _ ⟨p, hp, rfl⟩)
          exact ⟨_, ok' p.2 _ z⟩
        refine ⟨rfl, ⟨fun b o e => ?_, fun b o e => ?_⟩, os, bare⟩
        · by_cases h : tb b
          · obtain ⟨p, hp, rfl⟩ := h
            obtain ⟨more, g⟩ := grown p hp
            rw [tabs p hp] at e
            cases e
            exact .inr (.inl ⟨((codes p hp).tab (tabs p hp)).isCodeTable, rfl, #[], more, rfl, by rw [Array.empty_append]; exact g⟩)
          · exact .inl (stay b o h e)
        · by_cases h : tb b
          · obtain ⟨p, hp, rfl⟩ := h
            obtain ⟨more, g⟩ := grown p hp
            exact ⟨_, g⟩
          · exact ⟨o, stay b o h e⟩
  cases hk : K.lookup a with
  | some u =>
    have e := inK a u hk
    rw [obj] at e
    cases e
    refine main (fun b => if tb b then some (.tbl #[]) else none) (fun b h => if_pos h) (fun b => ?_) (.inr ⟨_, us.toArray, _, hk, rfl, rfl, rfl, by rw [List.size_toArray, many]; exact short, by simpa using rel⟩) fun b z k => ?_
    · by_cases h : tb b
      · exact .inr (.inl h)
      · exact .inl (if_neg h)
    · by_cases h : tb b
      · have k2 := (if_pos h).symm.trans k
        cases k2
        exact tObj h
      · have k2 := (if_neg h).symm.trans k
        cases k2
  | none =>
    refine main (fun b => if b = a then some (.frz { cls := .type "list", data := .seq us.toArray } (.lst (ns.map V.int))) else if tb b then some (.tbl #[]) else none) (fun b h => (if_neg (fun (z : b = a) => aT (by rw [← z]; exact h))).trans (if_pos h)) (fun b => ?_) (.inl (.inr ⟨_, if_pos rfl⟩)) fun b z k => ?_
    · by_cases j : b = a
      · exact .inr (.inr ⟨j, hk, _, _, if_pos j⟩)
      · by_cases h : tb b
        · exact .inr (.inl h)
        · exact .inl ((if_neg j).trans (if_neg h))
    · by_cases j : b = a
      · have k2 := (if_pos j).symm.trans k
        cases k2
        subst j
        exact ⟨obj, by rw [List.length_map]; exact short, us, _, rel, obj⟩
      · have k1 := (if_neg j).symm.trans k
        by_cases h : tb b
        · have k2 := (if_pos h).symm.trans k1
          cases k2
          exact tObj h
        · have k2 := (if_neg h).symm.trans k1
          cases k2
/-- what is known of such a law's promise at the head's heap -/
def LawAtG (l : PySem.W.OpenLaw) (w : World) (K : PySem.W.Frag) (CX : CXT) (lv n : Nat) (x : Str) (mg : Str → Option Value) (fn : Addr) (h : Heap) : Prop :=
  ∃ (dat : FuncData) (cs : List (Addr × Addr)) (sp : Sp), (∀ p ∈ cs, h.get? p.2 = some { cls := .none, data := .fields #[] }) ∧ (∀ p ∈ cs, K.lookup p.2 = none) ∧ (∀ p ∈ cs, PySem.W.CodeHd h p.1 p.2) ∧ (∀ (z : Shared) (u : Value), BindsTo z dat ⟨[u], []⟩ [(x, u)]) ∧
    (∀ (H : Hp) (a : Addr) (ns : List Int), ns.length ≤ n → (∀ z ∈ ns, Builtin.Int.intBits z ≤ 1048576) → (∀ p ∈ cs, H p.2 = some (.tbl #[])) → SqL K H a (ns.map V.int) → sp [.ref a] H (fun v _ => v = .bl true) fun _ _ _ => False) ∧
    ∀ bs : Heap, K.In bs → bs.Ns mainGlobals mg → (∀ p ∈ cs, LamX.TabB bs mg p.1 p.2) → FnG l.prog w K mg bs CX lv fn dat [x] sp
theorem walkGT {l : PySem.W.OpenLaw} {n k : Nat} {q : Program} {loose : List Str} {XP : (Str → Option Value) → Heap → Prop} {YP : World → Heap → Prop} {d : DefRec} {CX : World → CXT} {x : Str}
    (h1 : l.most = some n) (h2 : n ≤ sizeLine) (h3 : d.params.defaults = []) (rm : Room k callerA)
    (F : ∀ (w : World) (mg : Str → Option Value) (fn : Addr) (h : Heap), YP w h → h.Ns mainGlobals mg → mg d.name = some (.ref fn) → ∃ K : PySem.W.Frag, K.In h ∧ LawAtG l w K (CX w) k n x mg fn h)
    (h6 : ∀ (w : World) (H : Hp) (s : Shared) (e : Value) (s' : Shared), CX w [] H s (fun _ _ _ => False) e s' → False) :
    PySem.W.WalkO q loose XP YP l.row.toRowW d [] (fun f vs => PySem.call f vs) := by
  refine Att.attach_callB h1 h3 fun w s₀ s₁ mg mb fn o pm cd doc a us ns G Y ho hd hcd hmg hobj hints hlen hbits hg => ?_
  obtain ⟨K, inK, dat, cs, sp, t1, t2, t3, bnd, ask, got⟩ := F w mg fn _ Y G.T.g hmg
  exact endGT inK G.T.g G.T.b G.T.builtins G.T.nolimit hg G.T.bmain t1 t2 t3 hobj hints (Nat.le_trans hlen h2) rm got bnd (fun H t o => ask H a ns hlen hbits t o) fun H e s' => h6 w H s₁ e s'
/-! ### lists, two by two -/
inductive All2 {α β : Type} (R : α → β → Prop) : List α → List β → Prop
  | nil : All2 R [] []
  | cons {a b as bs} : R a b → All2 R as bs → All2 R (a :: as) (b :: bs)
theorem All2.imp {α β : Type} {R S : α → β → Prop} (h : ∀ a b, R a b → S a b) : ∀ {as bs}, All2 R as bs → All2 S as bs
  | _, _, .nil => .nil
  | _, _, .cons a b => .cons (h _ _ a) (All2.imp h b)
theorem All2.length {α β : Type} {R : α → β → Prop} : ∀ {as bs}, All2 R as bs → as.length = bs.length
  | _, _, .nil => rfl
  | _, _, .cons _ b => congrArg (· + 1) (All2.length b)
theorem All2.snoc {α β : Type} {R : α → β → Prop} {a b} (r : R a b) : ∀ {as bs}, All2 R as bs → All2 R (as ++ [a]) (bs ++ [b])
  | _, _, .nil => .cons r .nil
  | _, _, .cons h t => .cons h (All2.snoc r t)
theorem All2.get {α β : Type} {R : α → β → Prop} {as : List α} {bs : List β} (h : All2 R as bs) : ∀ {i : Nat} {b : β}, bs[i]? = some b → ∃ a, as[i]? = some a ∧ R a b := by
  induction h with
  | nil => intro i b e; cases e
  | cons r t ih =>
    intro i b e
    cases i with
    | zero => cases e; exact ⟨_, rfl, r⟩
    | succ i => exact ih e
theorem All2.getL {α β : Type} {R : α → β → Prop} {as : List α} {bs : List β} (h : All2 R as bs) : ∀ {i : Nat} {a : α}, as[i]? = some a → ∃ b, bs[i]? = some b ∧ R a b := by
  induction h with
  | nil => intro i b e; cases e
  | cons r t ih =>
    intro i b e
    cases i with
    | zero => cases e; exact ⟨_, rfl, r⟩
    | succ i => exact ih e
/-! ### tuples stay -/
def TK (H H' : Hp) : Prop := ∀ b xs, H b = some (.tup xs) → H' b = some (.tup xs)
theorem TK.refl {H : Hp} : TK H H := fun _ _ e => e
theorem TK.trans {H H1 H2 : Hp} (a : TK H H1) (b : TK H1 H2) : TK H H2 := fun x xs e => b x xs (a x xs e)
theorem TK.same {H H' : Hp} (s : Same H H') : TK H H' := fun x xs e => s _ _ e
theorem TK.new {H : Hp} {p : Addr} {o : HO} (n : H p = none) : TK H (upd H p o) := fun x xs e => same_new n _ _ e
theorem TK.lst {H : Hp} {p : Addr} {xs ys : List V} (h : H p = some (.lst xs)) : TK H (upd H p (.lst ys)) := fun x zs e => by
  rw [upd_ne (ne_of e h (by intro z; cases z))]
  exact e
theorem TK.but {H H' : Hp} {f c : Addr} (F : Flow H f c) (b : But f H H') : TK H H' := fun x xs e => b _ _ e (F.tup e)
theorem same_none {H H' : Hp} {p : Addr} (s : Same H H') (n : H' p = none) : H p = none := by
  cases e : H p with
  | none => rfl
  | some o => rw [s _ _ e] at n; cases n
theorem But.none {f p : Addr} {H H' : Hp} (b : But f H H') (n : H' p = Option.none) (h : p ≠ f) : H p = Option.none := by
  cases e : H p with
  | none => rfl
  | some o => rw [b _ _ e h] at n; cases n
theorem But.of {f : Addr} {H H' : Hp} (s : Same H H') : But f H H' := fun _ _ e _ => s _ _ e
/-- a list that was not there is written: what was stays -/
theorem But.own {f p : Addr} {H H1 : Hp} {o : HO} (a : But f H H1) (h : H p = Option.none) : But f H (L2.upd H1 p o) := fun x u e n => by
  rw [upd_ne (ne_of_none e h)]
  exact a x u e n
theorem Same.own {p : Addr} {H H1 : Hp} {o : HO} (a : Same H H1) (h : H p = Option.none) : Same H (L2.upd H1 p o) := fun x u e => by
  rw [upd_ne (ne_of_none e h)]
  exact a x u e
/-! ### loops over any iterator -/
theorem for_it {J : It} {n : Nat} {g : TG} {tb : TS} {D : Ends} {σ : L2.St} {H : Hp} (Pv : Nat → L2.St → Hp → Prop) (h0 : Pv 0 σ H) (go : ∀ i σ H, i < n → Pv i σ H → J.go i H) (st : ∀ σ H, Pv n σ H → J.stop n H)
    (hs : ∀ i x σ H H', i < n → Pv i σ H → J.yld i H x H' → g x σ H' fun σ2 H2 => tb { D with nx := Pv (i + 1), ct := Pv (i + 1), bk := D.nx } σ2 H2) (hd : ∀ σ H, Pv n σ H → D.nx σ H) :
    ∃ W : Nat → Nat → L2.St → Hp → Prop, (∃ m, W 0 m σ H) ∧ ∀ i m σ H, W i m σ H →
      (J.stop i H ∧ D.nx σ H) ∨ (J.go i H ∧ ∃ N : L2.St → Hp → Prop, (∀ σ' H', N σ' H' → ∃ m', m' < m ∧ W (i + 1) m' σ' H') ∧ ∀ x H', J.yld i H x H' → g x σ H' fun σ2 H2 => tb { D with nx := N, ct := N, bk := D.nx } σ2 H2) := by
  refine ⟨fun i m σ H => i + m = n ∧ Pv i σ H, ⟨n, by omega, h0⟩, fun i m σ H ⟨e, p⟩ => ?_⟩
  by_cases k : i < n
  · exact .inr ⟨go i σ H k p, Pv (i + 1), fun σ' H' p' => ⟨m - 1, by omega, by omega, p'⟩, fun x H' y => hs i x σ H H' k p y⟩
  · have z : i = n := by omega
    subst z
    exact .inl ⟨st σ H p, hd σ H p⟩
theorem lc_it {J : It} {n : Nat} {g : TG} {tt : TT} {te : TE} {vs : List Nat} {σ : L2.St} {H1 : Hp} {D : Addr} {Qd : Hp → Prop} (Pv : Nat → Hp → Prop) (h0 : Pv 0 (upd H1 D (.lst []))) (go : ∀ i H, i < n → Pv i H → J.go i H) (st : ∀ H, Pv n H → J.stop n H)
    (hs : ∀ i x H H', i < n → Pv i H → J.yld i H x H' → g x (wipe σ vs) H' fun σ2 H2 => wipe σ2 vs = wipe σ vs ∧ tt σ2 H2 fun b H3 =>
      if b = true then te σ2 H3 fun y H4 => ∃ acc, H4 D = some (.lst acc) ∧ acc.length < sizeLine ∧ Pv (i + 1) (upd H4 D (.lst (acc ++ [y]))) else Pv (i + 1) H3) (hd : ∀ H, Pv n H → Qd H) :
    ∃ W : Nat → Nat → Hp → Prop, (∃ m, W 0 m (upd H1 D (.lst []))) ∧ ∀ i m H, W i m H →
      (J.stop i H ∧ Qd H) ∨ (J.go i H ∧ ∃ Nx : Hp → Prop, (∀ H', Nx H' → ∃ m', m' < m ∧ W (i + 1) m' H') ∧ ∀ x H', J.yld i H x H' → g x (wipe σ vs) H' fun σ2 H2 => wipe σ2 vs = wipe σ vs ∧ tt σ2 H2 fun b H3 =>
        if b = true then te σ2 H3 fun y H4 => ∃ acc, H4 D = some (.lst acc) ∧ acc.length < sizeLine ∧ Nx (upd H4 D (.lst (acc ++ [y]))) else Nx H3) := by
  refine ⟨fun i m H => i + m = n ∧ Pv i H, ⟨n, by omega, h0⟩, fun i m H ⟨e, p⟩ => ?_⟩
  by_cases k : i < n
  · exact .inr ⟨go i H k p, Pv (i + 1), fun H' p' => ⟨m - 1, by omega, by omega, p'⟩, fun x H' y => hs i x H H' k p y⟩
  · have z : i = n := by omega
    subst z
    exact .inl ⟨st H p, hd H p⟩
/-! ### tests -/
theorem if_str {x z : Str} {A B : Prop} (h1 : x = z → A) (h2 : x ≠ z → B) : if decide (V.str x = V.str z) = true then A else B :=
  if_bl (fun e => h1 (V.str.inj (of_decide_eq_true e))) (fun e => h2 (fun q => of_decide_eq_false e (congrArg V.str q)))
theorem inV_strs {x : Str} {zs : List Str} : inV (.str x) (zs.map V.str) = true ↔ x ∈ zs := by
  unfold inV
  induction zs with
  | nil => simp
  | cons z zs ih =>
    rw [List.map_cons, List.any_cons, Bool.or_eq_true, ih, List.mem_cons]
    constructor
    · rintro (h | h)
      · exact .inl (by simpa [eqV] using (show (z == x) = true from h) |> fun k => (eq_of_beq k).symm)
      · exact .inr h
    · rintro (h | h)
      · exact .inl (show (z == x) = true by rw [h]; exact beq_self_eq_true z)
      · exact .inr h
theorem if_in {x : Str} {zs : List Str} {A B : Prop} (h1 : x ∈ zs → A) (h2 : x ∉ zs → B) : if (if false = true then !inV (.str x) (zs.map V.str) else inV (.str x) (zs.map V.str)) = true then A else B := by
  have e : (if false = true then !inV (.str x) (zs.map V.str) else inV (.str x) (zs.map V.str)) = inV (.str x) (zs.map V.str) := if_neg Bool.false_ne_true
  rw [e]
  exact if_bl (fun c => h1 (inV_strs.mp c)) (fun c => h2 (fun k => by rw [inV_strs.mpr k] at c; cases c))
theorem same_seqT {K : PySem.W.Frag} {a : Addr} {H H1 : Hp} {xs : List V} (b : Same H H1) (h : SqT K H a xs) : SqT K H1 a xs := by
  rcases h with h | h
  · left
    rcases h with h | ⟨o, h⟩
    · exact .inl (b _ _ h)
    · exact .inr ⟨o, b _ _ h⟩
  · exact .inr h
theorem little {n : Nat} (h : n ≤ 1000) : n ≤ sizeLine := Nat.le_of_lt (small1000 h)
/-! ### xs[i] op= e -/
def rGetL (K : PySem.W.Frag) : V → V → Hp → VK → Prop := fun o i H Q => ∃ (p : Addr) (xs : List V) (j : Nat) (v : V), o = .ref p ∧ i = .int (j : Nat) ∧ SqL K H p xs ∧ xs[j]? = some v ∧ Q v H
theorem get_list {X : Cx} : PGet X (rGetL X.K) := by
  intro pins st σ H o i ov iv Q J ro ri asked
  obtain ⟨p, xs, j, v, rfl, rfl, hq, hj, now⟩ := asked
  cases ro
  obtain ⟨t, rfl⟩ := ri
  obtain ⟨its, r, pl, hz⟩ := J.list hq
  obtain ⟨u, eu, ru⟩ := r.get hj
  have n1 := (List.getElem?_eq_some_iff.mp hj).1
  have n2 := line63
  exact wpAny_getItem_list pl.isList (by omega) (by omega) (by simpa using eu) ⟨v, H, J, ru, now⟩
/-! ### the same rules, the written part named (so that they fit within comprehensions) -/
section
variable {X : Cx}
theorem ix_listK (K : PySem.W.Frag) (h : X.K = K) : IxR X (rIxL K) := by subst h; exact ix_list
theorem ix_tupK (K : PySem.W.Frag) (h : X.K = K) : IxR X (rIxT K) := by subst h; exact ix_tup
def rLenK (K : PySem.W.Frag) : List V → Hp → VK → Prop := fun xs H Q => ∃ (p : Addr) (ys : List V), xs = [.ref p] ∧ (SqL K H p ys ∨ SqT K H p ys) ∧ Q (.int (ys.length : Nat)) H
theorem call_len_seqK (K : PySem.W.Frag) (h : X.K = K) : CallR X (.builtin "len") (rLenK K) := by subst h; exact call_len_seq
def rListOfK (K : PySem.W.Frag) : List V → Hp → VK → Prop := fun xs H Q => ∃ (p : Addr) (ys : List V), xs = [.ref p] ∧ (SqL K H p ys ∨ SqT K H p ys) ∧ ∀ l, H l = none → Q (.ref l) (upd H l (.lst ys))
theorem call_list_ofK (K : PySem.W.Frag) (h : X.K = K) : CallR X (.type "list") (rListOfK K) := by subst h; exact call_list_of
def rTupOfK (K : PySem.W.Frag) : List V → Hp → VK → Prop := fun xs H Q => ∃ (p : Addr) (ys : List V), xs = [.ref p] ∧ ((SqL K H p ys ∧ ∀ l, H l = none → Q (.ref l) (upd H l (.tup ys))) ∨ (SqT K H p ys ∧ Q (.ref p) H))
theorem call_tuple_ofK (K : PySem.W.Frag) (h : X.K = K) : CallR X (.type "tuple") (rTupOfK K) := by subst h; exact call_tuple_of
theorem op_in_seqK (K : PySem.W.Frag) (h : X.K = K) : OpR X (compareOp .In) (rIn K false) := by subst h; exact op_in_seq
theorem op_notIn_seqK (K : PySem.W.Frag) (h : X.K = K) : OpR X (compareOp .NotIn) (rIn K true) := by subst h; exact op_notIn_seq
theorem sl_listK (K : PySem.W.Frag) (h : X.K = K) : SlR X (rSlL K) := by subst h; exact sl_list
theorem sl_tupAK (K : PySem.W.Frag) (h : X.K = K) : SlR X (rSlA K) := by subst h; exact sl_tupA
theorem op_eqDK (K : PySem.W.Frag) (h : X.K = K) (hu : X.A.units + 64 < cLine) : OpR X (compareOp .Eq) (rEqD K) := by subst h; exact op_eqD hu
theorem op_neDK (K : PySem.W.Frag) (h : X.K = K) (hu : X.A.units + 64 < cLine) : OpR X (compareOp .NotEq) (rNeD K) := by subst h; exact op_neD hu
theorem call_isiKK (K : PySem.W.Frag) (h : X.K = K) : CallR X (.builtin "isinstance") (rIsi K) := by subst h; exact call_isi
theorem cr_allK (K : PySem.W.Frag) (h : X.K = K) (hc : X.calm = true) : CallR X (.builtin "all") (rAll K) := by subst h; exact cr_all hc
theorem cr_anyK (K : PySem.W.Frag) (h : X.K = K) (hc : X.calm = true) : CallR X (.builtin "any") (rAny K) := by subst h; exact cr_any hc
theorem cr_minKK (K : PySem.W.Frag) (h : X.K = K) (hc : X.calm = true) : CallR X (.builtin "min") (rMin K) := by subst h; exact cr_min hc
theorem cr_maxKK (K : PySem.W.Frag) (h : X.K = K) (hc : X.calm = true) : CallR X (.builtin "max") (rMax K) := by subst h; exact cr_max hc
def tTruK (K : PySem.W.Frag) (ta : TE) : TT := fun σ H Q => ta σ H fun x H' => ∃ k, TruV K x H' k ∧ Q k H'
theorem pt_truthK (K : PySem.W.Frag) (h : X.K = K) {a : Expr} {ta : TE} (ha : PE X a ta) (he : ∀ whole, isTrue a X.env whole = (do let v ← whole; standAt a.pos; holding [v] (truthy v))) : PT X a (tTruK K ta) := by subst h; exact pt_truth ha he
theorem get_listK (K : PySem.W.Frag) (h : X.K = K) : PGet X (rGetL K) := by subst h; exact get_list
theorem pg_tupK (K : PySem.W.Frag) (h : X.K = K) {es : List Expr} {k n : Nat} {t : TGs} {pos : Pos} (hc : X.calm = true) (g : PGs X es t)
    (hn : (assignEach es X.env).length = n := by rfl) (hst : (assignEach es X.env).findIdx? (·.1) = none := by rfl) : PG X (.Tuple es k pos) (gTup K n t) := by subst h; exact pg_tup hc g hn hst
theorem pg_unlK (K : PySem.W.Frag) (h : X.K = K) {es : List Expr} {k n : Nat} {t : TGs} {pos : Pos} (hc : X.calm = true) (g : PGs X es t)
    (hn : (assignEach es X.env).length = n := by rfl) (hst : (assignEach es X.env).findIdx? (·.1) = none := by rfl) : PG X (.Tuple es k pos) (gUnl K n t) := by subst h; exact pg_unl hc g hn hst
theorem pi_listK (K : PySem.W.Frag) (h : X.K = K) {tg e : Expr} {te : TE} (he : PE X e te) : PI X tg e (iList K te) := by subst h; exact pi_list he
theorem pi_tupK (K : PySem.W.Frag) (h : X.K = K) {tg e : Expr} {te : TE} (he : PE X e te) : PI X tg e (iTup K te) := by subst h; exact pi_tup he
theorem pe_revLK (K : PySem.W.Frag) (h : X.K = K) {e : Expr} {te : TE} {k : Nat} {p1 p2 p3 pos : Pos} (he : PE X e te) : PE X (.Subscript e (.Slice none none (some (.UnaryOp .USub (.Constant (.int 1) k p1) p2)) p3) pos) (tRevL K te) := by subst h; exact pe_revL he
theorem pe_bmK (K : PySem.W.Frag) (h : X.K = K) {o e : Expr} {es : List Expr} {to : TE} {t : TA} {name : Str} {apos cpos : Pos} {T id : String} {r : V → List V → Hp → VK → Prop}
    (pa : PlainAttrs T) (slot : Slot T name id) (hty : typeOf (.builtin id) = pure (.type "method_descriptor")) (hm : MtR X id r) (ho : PE X o to) (ha : PA X (e :: es) t)
    (n1 : attributeBase o name X.env (eval o X.env) = eval o X.env := by rfl)
    (n2 : ((backTo cpos (starEach (e :: es) X.env)).all (fun x => !x.1) && (backToKw cpos (keywordEach [] X.env)).all (fun x => x.1.isSome) && decide ((e :: es).length + ([] : List Keyword).length + (if ([] : List Keyword).isEmpty then 0 else 1) < 30)) = true := by rfl)
    (n3 : (apos.endLine == cpos.line) = true := by rfl) (n4 : starEach (e :: es) X.env = (false, eval e X.env) :: starEach es X.env := by rfl) (n5 : (backTo cpos (starEach es X.env)).any (·.1) = false := by rfl) :
    PE X (.Call (.Attribute o name apos) (e :: es) [] cpos) (tBM K T r to t) := by subst h; exact pe_bm pa slot hty hm ho ha n1 n2 n3 n4 n5
theorem pe_bm0K (K : PySem.W.Frag) (h : X.K = K) {o : Expr} {to : TE} {name : Str} {apos cpos : Pos} {T id : String} {r : V → List V → Hp → VK → Prop}
    (pa : PlainAttrs T) (slot : Slot T name id) (hty : typeOf (.builtin id) = pure (.type "method_descriptor")) (hm : MtR X id r) (ho : PE X o to)
    (n1 : attributeBase o name X.env (eval o X.env) = eval o X.env := by rfl) (n3 : (apos.endLine == cpos.line) = true := by rfl) : PE X (.Call (.Attribute o name apos) [] [] cpos) (tBM0 K T r to) := by subst h; exact pe_bm0 pa slot hty hm ho n1 n3
theorem op_catAK (K : PySem.W.Frag) (h : X.K = K) : OpR X (binaryOp .Add) (rCatA K) := by subst h; exact op_catA
theorem call_isiTK (K : PySem.W.Frag) (h : X.K = K) : CallR X (.builtin "isinstance") (rIsiT K) := by subst h; exact call_isiT
theorem pi_zipAK (K : PySem.W.Frag) (h : X.K = K) {e e2 : Expr} {ta : TA} {p pos tpos : Pos} {elts : List Expr} {kk : Nat} (hg : Gl X "zip") (hm : X.mg "zip" = none) (ha : PA X [e, e2] ta)
    (hs : starEach [e, e2] X.env = (false, eval e X.env) :: starEach [e2] X.env := by rfl) (hpl : (backTo pos (starEach [e2] X.env)).any (·.1) = false := by rfl) :
    PI X (.Tuple elts kk tpos) (.Call (.Name "zip" p) [e, e2] [] pos) (RZ.iZipA K ta) := by subst h; exact RZ.pi_zipA hg hm ha hs hpl
theorem pi_or {tg e : Expr} {t1 t2 : TI} (h1 : PI X tg e t1) (h2 : PI X tg e t2) : PI X tg e (fun σ H R => t1 σ H R ∨ t2 σ H R) := ⟨fun pins s σ H R I h => h.elim (h1.run pins s σ H R I) (h2.run pins s σ H R I)⟩
theorem pe_fldK (K : PySem.W.Frag) (h : X.K = K) {e : Expr} {ta : TE} {f : Str} {pos : Pos} (he : PE X e ta) (hb : attributeBase e f X.env (eval e X.env) = eval e X.env) : PE X (.Attribute e f pos) (tFld K ta f) := by subst h; exact pe_fld he hb
theorem ps_fldK (K : PySem.W.Frag) (h : X.K = K) {o value : Expr} {ta tv : TE} {f : Str} {pos pos' : Pos} (ha : PE X o ta) (hv : PE X value tv) (hs : swapsWith value (some (.Attribute o f pos')) pos.line X.env = pure false) : PS X (.Assign [.Attribute o f pos'] value pos) (sFld K ta tv f) := by subst h; exact ps_fld ha hv hs
theorem ps_fldaugK (K : PySem.W.Frag) (h : X.K = K) {o value : Expr} {ta tv : TE} {f : Str} {pos tpos : Pos} {op : Operator} {rd : V → V → Hp → VK → Prop} (ha : PE X o ta) (hv : PE X value tv) (hop : InOp X op rd) : PS X (.AugAssign (.Attribute o f tpos) op value pos) (sFldAug K ta tv rd f) := by subst h; exact ps_fldaug ha hv hop
end
section
variable {X : Cx}
theorem cr_sumK (K : PySem.W.Frag) (h : X.K = K) (hc : X.calm = true) : CallR X (.builtin "sum") (rSum K) := by subst h; exact cr_sum hc
end
section
variable {X : Cx}
theorem op_ltTK (K : PySem.W.Frag) (h : X.K = K) (hu : X.A.units < cLine) : OpR X (compareOp .Lt) (rLtT K) := by subst h; exact op_ltT hu
end
section
variable {X : Cx}
theorem cr_sortedRevK (K : PySem.W.Frag) (h : X.K = K) {b : Bool} : CallRK X (.builtin "sorted") [Str.ofString "reverse"] (rSortedKw K b [.bl b]) := by subst h; exact cr_sortedRev
theorem op_inDK (K : PySem.W.Frag) (h : X.K = K) (hu : X.A.units + 65 < cLine) : OpR X (compareOp .In) (rInD K) := by subst h; exact op_inD hu
end
theorem hu65 {A : Around} {k : Nat} (hr : Room k A) : A.units + 65 < cLine := by have := hr.un; omega
section
variable {X : Cx}
/-- x not in t, t a tuple of data of any depth -/
def rNotInDT (K : PySem.W.Frag) : R2 := fun x y H Q => ∃ d ds, Dp K H x d ∧ Dp K H y (.tuple ds) ∧ SeqAt.shaped d = true ∧ SeqAt.shaped (.tuple ds) = true ∧ Q (.bl (!ds.any fun z => PyData.eqv z d)) H
theorem op_notInDTK (K : PySem.W.Frag) (same : X.K = K) (room : X.A.units + 65 < cLine) : OpR X (compareOp .NotIn) (rNotInDT K) := by
  subst same
  intro pins st σ H one many ov mv Q J ro rm asked
  have ⟨d, ds, dpO, dpM, shO, shM, done⟩ := asked
  have ⟨_, readO⟩ := Dp.reads J d one ov dpO ro
  have ⟨_, readM⟩ := Dp.reads J (.tuple ds) many mv dpM rm
  exact SeqAt.notIn_tuple_reads readM readO (SeqAt.canLay_of_shaped shM) (SeqAt.canLay_of_shaped shO) (room_in_shaped shO room) ⟨.bl _, H, J, rfl, done⟩
end
section
variable {X : Cx}
/-- x in t, t a tuple of data of any depth -/
def rInDT (K : PySem.W.Frag) : R2 := fun x y H Q => ∃ d ds, Dp K H x d ∧ Dp K H y (.tuple ds) ∧ SeqAt.shaped d = true ∧ SeqAt.shaped (.tuple ds) = true ∧ Q (.bl (ds.any fun z => PyData.eqv z d)) H
theorem op_inDTK (K : PySem.W.Frag) (same : X.K = K) (room : X.A.units + 65 < cLine) : OpR X (compareOp .In) (rInDT K) := by
  subst same
  intro pins st σ H one many ov mv Q J ro rm asked
  have ⟨d, ds, dpO, dpM, shO, shM, done⟩ := asked
  have ⟨_, readO⟩ := Dp.reads J d one ov dpO ro
  have ⟨_, readM⟩ := Dp.reads J (.tuple ds) many mv dpM rm
  exact SeqAt.in_tuple_reads readM readO (SeqAt.canLay_of_shaped shM) (SeqAt.canLay_of_shaped shO) (room_in_shaped shO room) ⟨.bl _, H, J, rfl, done⟩
end
section
variable {X : Cx}
def rReprG (K : PySem.W.Frag) : List V → Hp → VK → Prop := fun xs H Q => ∃ (x : V) (d : PyData), xs = [x] ∧ Dp K H x d ∧ d.showable = true ∧ d.hasDict = false ∧ d.depth ≤ 60 ∧ d.shown.length ≤ sizeLine ∧ Q (.str d.shown) H
theorem call_reprG (K : PySem.W.Frag) (hk : X.K = K) (gd : X.A.guards = some []) (un : X.A.units + 64 < cLine) : CallR X (.builtin "repr") (rReprG K) := by
  subst hk
  intro pins st σ H xs us Q J rel asked
  obtain ⟨x, d, rfl, hd, h1, h2, h3, h4, now⟩ := asked
  obtain ⟨u, rfl, ru⟩ := vals1 rel
  cases hd with
  | non =>
    obtain rfl : u = Value.none := ru
    exact PySem.P.repr_of_none ⟨.str _, H, J.tok _, ⟨_, rfl⟩, now⟩
  | bl b =>
    obtain rfl : u = Value.bool b := ru
    refine PySem.P.repr_of_bool ⟨.str (PyData.bool b).shown, H, J.tok _, ⟨st.toks, ?_⟩, now⟩
    cases b <;> rfl
  | int i =>
    obtain ⟨t, rfl⟩ := ru
    refine PySem.P.repr_of_int (by simpa [PyData.showable] using h1) ⟨.str (PyData.int i).shown, H, J.tok _, ⟨st.toks, ?_⟩, now⟩
    first | rfl | (simp only [PyData.shown]; rfl)
  | str z =>
    obtain ⟨t, rfl⟩ := ru
    refine PySem.P.repr_of_str ⟨.str (PyData.str z).shown, H, J.tok _, ⟨st.toks, ?_⟩, now⟩ (by simpa only [PyData.shown] using h4)
    first | rfl | (simp only [PyData.shown])
  | lst a b =>
    obtain rfl : u = Value.ref _ := ru
    obtain ⟨as, rd⟩ := Dp.reads J _ _ _ (.lst a b) rfl
    exact repr_of_reads' rd h1 (PyData.noDict_hsm h2) gd (by omega) (fun _ _ e => e) (fun h' u tk kp => ⟨.str _, H, J.kept (t' := tk) kp, ⟨_, rfl⟩, now⟩) h4
  | tup a b =>
    obtain rfl : u = Value.ref _ := ru
    obtain ⟨as, rd⟩ := Dp.reads J _ _ _ (.tup a b) rfl
    exact repr_of_reads' rd h1 (PyData.noDict_hsm h2) gd (by omega) (fun _ _ e => e) (fun h' u tk kp => ⟨.str _, H, J.kept (t' := tk) kp, ⟨_, rfl⟩, now⟩) h4
end
/-! ### for i, x in enumerate(t), t a tuple -/
section
open Sem (wp)
open AutoSeq1 (wpAny_loadPart')
theorem enum_of_tup (t : Addr) (its : Array Value) (n : Nat) (dct : Option Addr) (sl : Array (Option Value)) :
    Meets (Builtin.«enumerate.__new__» ⟨[.type "enumerate", .ref t], []⟩) (fun _ R st => st.heap.get? t = some { cls := .type "tuple", dict := dct, data := .seq its n, slots := sl } ∧
      R (.ok (.ret (.ref (st.heap.push { cls := .type "tuple_iterator", data := .fields #[.ref t, .int 0 0] }).objs.size)))
        { st with heap := (st.heap.push { cls := .type "tuple_iterator", data := .fields #[.ref t, .int 0 0] }).push { cls := .type "enumerate", data := .fields #[.none, .bool false, .ref st.heap.objs.size, rawInt 0, .none, .none] } }) :=
  .of_wp fun prog w A R st asked => by
    obtain ⟨hp, g, d, tk, os⟩ := st; obtain ⟨at_, asked⟩ := asked
    have sub := sub_enumerate
    have hT : Heap.IsTuple (Shared.heap ⟨hp, g, d, tk, os⟩) t its := ⟨_, at_, rfl, n, rfl⟩
    wp_walk using wpAny_loadPart' at_
    refine wpAny_stack_any fun stk => wpAny_pure ?_
    split
    · rename_i c _ _ _ _ _
      cases (c == Value.type "enumerate")
      · wp_walk using wpAny_loadPart' at_, wpAny_pyIter_tuple hT
        exact ⟨_, rfl, asked⟩
      · wp_walk using wpAny_loadPart' at_, wpAny_pyIter_tuple hT
        exact ⟨_, rfl, asked⟩
    · wp_walk using wpAny_loadPart' at_, wpAny_pyIter_tuple hT
      exact ⟨_, rfl, asked⟩
theorem call_enum_tup {prog : Program} {w : World} {A : Around} {E : Value → Shared → Prop} {st : Shared} {t : Addr} {its : Array Value} {Q : Value → Shared → Prop} (hT : st.heap.IsTuple t its)
    (now : ∀ h', IsEnum h' (st.heap.objs.size + 1) st.heap.objs.size 0 .none → h'.IsTupleIter st.heap.objs.size t 0 → h'.objs.size = st.heap.objs.size + 2 →
      (∀ b o, st.heap.get? b = some o → h'.get? b = some o) → Q (.ref (st.heap.objs.size + 1)) { st with heap := h' }) :
    wpAny (model prog w) A (call (.type "enumerate") [.ref t]) Q E st := by
  obtain ⟨⟨c, dct, dt, sl⟩, at_, hc, n, hd⟩ := hT
  replace hc : c = .type "tuple" := hc
  replace hd : dt = .seq its n := hd
  subst hc hd
  refine callType_new F.called_enumerate (by decide) (F.typeCall_enumerate_1 _) (F.newCall_enumerate_1 _) (fun obj => F.args_object_init_2 obj _) F.entry_enumerate_new (enum_of_tup t its n dct sl) ⟨at_, ?_⟩
  have size1 : (st.heap.push { cls := .type "tuple_iterator", data := .fields #[.ref t, .int 0 0] }).objs.size = st.heap.objs.size + 1 := Heap.size_push ..
  show _ ∧ _
  rw [size1]
  have made := Heap.get?_push_size (st.heap.push { cls := .type "tuple_iterator", data := .fields #[.ref t, .int 0 0] }) (o := { cls := .type "enumerate", data := .fields #[.none, .bool false, .ref st.heap.objs.size, rawInt 0, .none, .none] }) rfl
  rw [size1] at made
  exact ⟨⟨_, made, rfl⟩, now _ made ⟨_, Heap.get?_push_of_some _ (Heap.get?_push_size _ rfl), rfl, rfl⟩ (by rw [Heap.size_push, size1]) fun b o e => Heap.get?_push_of_some _ (Heap.get?_push_of_some _ e)⟩
end
/-- the tuple at a, each item in a new pair -/
def IteT (K : PySem.W.Frag) (a : Addr) (xs : List V) : It :=
  ⟨fun i H => SqT K H a xs ∧ i < xs.length, fun i H v H' => ∃ T x, v = .ref T ∧ H T = none ∧ H' = upd H T (.tup [.int (i : Nat), x]) ∧ xs[i]? = some x, fun i H => SqT K H a xs ∧ i = xs.length⟩
theorem turn_enumT {P : Program} {w : World} {K : PySem.W.Frag} {elts : List Expr} {kk : Nat} {tpos : Pos} (a e it : Addr) (xs : List V) :
    Turn P w K (.Tuple elts kk tpos) (IteT K a xs) [e, it] e (fun i h => (∃ old, IsEnum h e it ((i : Nat) : Int) old) ∧ h.IsTupleIter it a i ∧ e ≠ it ∧ a ≠ it ∧ a ≠ e) where
  mem := by simp
  obj := fun i h st b hb => by
    obtain ⟨⟨old, he⟩, ⟨o, ho, hc, hd⟩, _⟩ := st
    have either : b = e ∨ b = it := by simpa using hb
    rcases either with z | z
    · rw [z]; exact ⟨_, he, fun v q => nomatch q⟩
    · rw [z]; exact ⟨o, ho, fun v q => by rw [hd] at q; cases q⟩
  keep := fun i h h' st k => let ⟨⟨old, he⟩, hi, apart⟩ := st; ⟨⟨old, k e (by simp) _ he⟩, hi.at fun o q => k it (by simp) o q, apart⟩
  item := by
    intro X hP hw hK hc i pins st σ H E J hf stt going
    subst hP hw hK
    obtain ⟨⟨old, he⟩, hit, n1, n2, n3⟩ := stt
    obtain ⟨hq, hi⟩ := going
    obtain ⟨its, rv, tup, hz⟩ := J.tuple hq
    have len := rv.length
    have el : e < st.heap.objs.size := Heap.lt_size he
    have il : it < st.heap.objs.size := by obtain ⟨_, q, _⟩ := hit; exact Heap.lt_size q
    have D := Draws.tuple (prog := X.prog) (w := X.w) (A := X.A.in1) (J.ok.hd hc) it a n2 its.toArray
    refine wpAny_pyNext_enum_itemD D he ⟨hit, tup⟩ (by rw [List.size_toArray]; omega) n1 (by simp [n1, n3.symm]) fun u h' tk px out stt' new size kp => ?_
    refine ⟨_, rfl, wpAny_letOwnedTupleGo_enum (s := { st with heap := h', toks := tk + 1 }) out fun h'' he' sb => ?_⟩
    obtain ⟨x, hx⟩ : ∃ x, xs[i]? = some x := ⟨_, List.getElem?_eq_getElem hi⟩
    obtain ⟨u', hu', ru⟩ := rv.get hx
    have eu : u' = u := by
      have px : its.toArray[i]? = some u := px
      rw [List.getElem?_toArray, hu'] at px
      exact Option.some.inj px
    subst eu
    have there : h''.get? st.heap.objs.size = some { cls := .type "tuple", data := .seq #[.int i tk, u'] } := (sb.2 _ (Nat.ne_of_gt el)).trans new
    have ok2 : ObjOk X.prog X.w (upd H st.heap.objs.size (.tup [.int (i : Nat), x])) h'' st.heap.objs.size (.tup [.int (i : Nat), x]) :=
      ⟨by show 2 ≤ sizeLine; decide, [.int i tk, u'], .cons ⟨_, rfl⟩ (.cons ru .nil), ⟨_, there, rfl, _, rfl⟩⟩
    have J1 : Inv X pins σ (upd H st.heap.objs.size (.tup [.int (i : Nat), x])) { st with heap := h'', toks := tk + 1 } :=
      J.turnedNew (ch := [e, it]) (fun b ob hb q => (sb.2 b (fun z => hb (by simp [z]))).trans (kp b ob (fun z => hb (by simp [z])) (fun z => hb (by simp [z])) q)) hf (Nat.le_refl _) ok2
    refine ⟨.ref st.heap.objs.size, _, J1, rfl, ⟨_, x, rfl, J.hok.fresh (Nat.le_refl _), rfl, hx⟩, ⟨⟨u', ?_⟩, stt'.1.at fun o q => (sb.2 it (Ne.symm n1)).trans q, n1, n2, n3⟩, fun b hb => ?_⟩
    · rw [show ((i + 1 : Nat) : Int) = (i : Int) + 1 by omega]
      exact he'
    · have bl : b < st.heap.objs.size := by
        have either : b = e ∨ b = it := by simpa using hb
        rcases either with z | z
        · rw [z]; exact el
        · rw [z]; exact il
      rw [upd_ne (Nat.ne_of_lt bl)]
      exact (hf b hb).1
  done := by
    intro X hP hw hK hc i pins st σ H E J hf stt over
    subst hP hw hK
    obtain ⟨⟨old, he⟩, hit, n1, n2, n3⟩ := stt
    obtain ⟨hq, hi⟩ := over
    obtain ⟨its, rv, tup, hz⟩ := J.tuple hq
    obtain ⟨f0, f1, f2, f3, f4, f5⟩ := hf it (by simp)
    have len := rv.length
    have D := Draws.tuple (prog := X.prog) (w := X.w) (A := X.A.in1) (J.ok.hd hc) it a n2 its.toArray
    have ei : its.toArray.size = i := by rw [List.size_toArray]; omega
    exact wpAny_pyNext_enum_endD D he ⟨by rw [ei]; exact hit, tup⟩ fun h' eb => ⟨rfl, J.turned (t' := st.toks) (fun b o hb q => eb b o hb q) f0 f1 f3 f4 f5⟩
  self := fun A i st Q E stt now => let ⟨⟨_, he⟩, _⟩ := stt; wpAny_pyIter_enum he now
def iEnumT (K : PySem.W.Frag) (ta : TA) : TI := fun σ H R => ta σ H fun vs H1 => ∃ a xs, vs = [.ref a] ∧ SqT K H1 a xs ∧ R (IteT K a xs) H1
theorem pi_enumT (K : PySem.W.Frag) {X : Cx} (hk : X.K = K) {e : Expr} {ta : TA} {p pos tpos : Pos} {elts : List Expr} {kk : Nat} (hg : Gl X "enumerate") (hm : X.mg "enumerate" = none) (ha : PA X [e] ta) (hs : starEach [e] X.env = [(false, eval e X.env)] := by rfl) :
    PI X (.Tuple elts kk tpos) (.Call (.Name "enumerate" p) [e] [] pos) (iEnumT K ta) := by
  subst hk
  refine ⟨fun pins st σ H R J asked => ?_⟩
  refine Call_ (ld_blt J hg hm boot_enumerate (PyProof.Rows.callWith_type1 (thn (ha.run pos pins st σ H _ J asked) fun us st1 ⟨vs, H1, J1, rel, now⟩ => ?_) hs rfl))
  obtain ⟨a, xs, ex, hq, now⟩ := now
  subst ex
  obtain ⟨u, rfl, ru⟩ := vals1 rel
  obtain rfl : u = Value.ref a := ru
  obtain ⟨its, rv, tup, hz⟩ := J1.tuple hq
  have al : a < st1.heap.objs.size := by obtain ⟨o, ho, _⟩ := tup; exact Heap.lt_size ho
  refine call_enum_tup tup fun h' he hit size kp => wpAny_pyIter_enum he ?_
  have J2 : Inv X pins σ H1 { st1 with heap := h' } := J1.kept (t' := st1.toks) kp
  refine ⟨st1.heap.objs.size + 1, [st1.heap.objs.size + 1, st1.heap.objs.size], _, _, H1, rfl, J2, turn_enumT a (st1.heap.objs.size + 1) st1.heap.objs.size xs, ⟨⟨.none, he⟩, hit, Nat.succ_ne_self _, Nat.ne_of_lt al, Nat.ne_of_lt (Nat.lt_succ_of_lt al)⟩, fun b hb => ?_, now⟩
  have either : b = st1.heap.objs.size + 1 ∨ b = st1.heap.objs.size := by simpa using hb
  have low : st1.heap.objs.size ≤ b := by
    rcases either with z | z
    · rw [z]; exact Nat.le_add_right _ _
    · rw [z]; exact Nat.le_refl _
  exact J1.fpOk low (J1.hok.fresh low)
theorem pi_enumK (K : PySem.W.Frag) (h : X.K = K) {e : Expr} {ta : TA} {p pos tpos : Pos} {elts : List Expr} {kk : Nat} (hg : Gl X "enumerate") (hm : X.mg "enumerate" = none) (ha : PA X [e] ta) (hs : starEach [e] X.env = [(false, eval e X.env)] := by rfl) :
    PI X (.Tuple elts kk tpos) (.Call (.Name "enumerate" p) [e] [] pos) (iEnum K ta) := by subst h; exact pi_enum hg hm ha hs
/-! ### dict(zip(xs, ys)), xs a list, ys a tuple -/
section
open Sem (wp)
variable {prog : Program} {w : World} {A : Around} {E : Value → Shared → Prop} {st : Shared} {z TI TO T i1 i2 : Addr} {fp1 fp2 : List Addr} {n1 n2 i : Nat} {P1 P2 : Nat → Value → Prop} {S1 S2 : Nat → Heap → Prop} {f : Bool} {oT : Obj}
theorem out_next (S : ZipSep2 z TI TO i1 i2 fp1 fp2) (D1 : Draws prog w A i1 fp1 n1 P1 S1) (D2 : Draws prog w A i2 fp2 n2 P2 S2) {Q : Value → Shared → Prop}
    (out : IsZipHeld st.heap z TI TO T f) (hT : st.heap.get? T = some oT) (both : IsTupOf2 st.heap TI (.ref i1) (.ref i2)) (at1 : S1 i st.heap) (at2 : S2 i st.heap) (l1 : i < n1) (l2 : i < n2)
    (now : ∀ x y h' tk, P1 i x → P2 i y → IsZipHeld h' z TI TO T true → S1 (i + 1) h' → S2 (i + 1) h' → IsTupOf2 h' st.heap.objs.size x y → (∀ c o, c ≠ z → c ≠ i1 → c ≠ i2 → st.heap.get? c = some o → h'.get? c = some o) → Q (.ref st.heap.objs.size) { st with heap := h', toks := tk }) :
    wpAny (model prog w) A (Builtin.«zip.__next__» ⟨[.ref z], []⟩) (fun fin s' => ∃ v, fin = .done (.ret v) ∧ Q v s') E st := by
  obtain ⟨hp, g, d, tk0, os⟩ := st
  show wpAny _ _ (field (.ref z) 2 >>= _) _ _ _; refine wpAny_bind (wpAny_field out rfl (x := .bool false) rfl ?_)
  show wpAny _ _ (field (.ref z) 3 >>= _) _ _ _; refine wpAny_bind (wpAny_field out rfl (x := .ref TI) rfl ?_)
  refine wpAny_bind (wpAny_seqItems both rfl ?_); show wpAny _ _ (Builtin.SmallTypes.ownedTupleIsFree (.ref z) >>= _) _ _ _
  refine wpAny_bind (wpAny_tupleHeld_zip out hT fun g1 out1 b1 => ?_)
  replace b1 : Heap.SameBut z hp g1 := b1
  simp only [Bool.false_eq_true, if_false]; refine wpAny_bind ?_; rw [← Array.forIn_toList]; simp only [List.forIn_cons, List.forIn_nil]
  refine wpAny_bind (wpAny_bind (wpAny_holding ?_)); show wpAny _ _ (Builtin.SmallTypes.nextOf (.ref i1) >>= _) _ _ ⟨g1, g, d, tk0, os⟩
  refine wpAny_bind (D1.item i _ _ _ l1 (D1.over at1 b1 S.zf1) fun x g2 tk1 px n1' b2 => wpAny_pure ?_)
  replace b2 : Heap.SameBut i1 g1 g2 := b2
  refine wpAny_pure ?_; refine wpAny_bind (wpAny_bind (wpAny_holding ?_)); show wpAny _ _ (Builtin.SmallTypes.nextOf (.ref i2) >>= _) _ _ ⟨g2, g, d, tk1, os⟩
  refine wpAny_bind (D2.item i _ _ _ l2 (D2.over (D2.over at2 b1 S.zf2) b2 S.sep1_2) fun y g3 tk2 py n2' b3 => wpAny_pure ?_)
  replace b3 : Heap.SameBut i2 g2 g3 := b3
  refine wpAny_pure (wpAny_pure ?_); show wpAny _ _ (newTuple [x, y] >>= _) _ _ ⟨g3, g, d, tk2, os⟩
  refine wpAny_bind (wpAny_newTuple ?_); refine wpAny_pure ⟨_, rfl, ?_⟩
  have size : g3.objs.size = hp.objs.size := by rw [b3.1, b2.1, b1.1]
  have out3 : IsZipHeld g3 z TI TO T true := b3.extBut _ _ S.zi2 (b2.extBut _ _ S.zi1 out1)
  have new : IsTupOf2 (g3.push { cls := .type "tuple", data := .seq #[x, y] }) g3.objs.size x y := Heap.get?_push_size _ rfl
  show Q (.ref g3.objs.size) _
  rw [size] at new ⊢
  exact now x y _ tk2 px py (Heap.get?_push_of_some _ out3) (D1.frame _ _ _ (D1.over n1' b3 S.sep2_1) fun _ _ _ q => Heap.get?_push_of_some _ q) (D2.frame _ _ _ n2' fun _ _ _ q => Heap.get?_push_of_some _ q) new
    fun c o c1 c2 c3 q => Heap.get?_push_of_some _ (b3.extBut _ _ c3 (b2.extBut _ _ c2 (b1.extBut _ _ c1 q)))
theorem out_end (S : ZipSep2 z TI TO i1 i2 fp1 fp2) (D1 : Draws prog w A i1 fp1 n1 P1 S1) (D2 : Draws prog w A i2 fp2 n2 P2 S2) {Q : Fin → Shared → Prop}
    (out : IsZipHeld st.heap z TI TO T f) (hT : st.heap.get? T = some oT) (both : IsTupOf2 st.heap TI (.ref i1) (.ref i2)) (at1 : S1 i st.heap) (at2 : S2 i st.heap) (l1 : i ≤ n1) (l2 : i ≤ n2) (last : i = n1 ∨ i = n2)
    (now : ∀ h' tk e, (∀ c o, c ≠ z → c ≠ i1 → c ≠ i2 → st.heap.get? c = some o → h'.get? c = some o) → (∃ o, h'.get? e = some o ∧ o.cls = .type "StopIteration") → E (.ref e) { st with heap := h', toks := tk }) :
    wpAny (model prog w) A (Builtin.«zip.__next__» ⟨[.ref z], []⟩) Q E st := by
  obtain ⟨hp, g, d, tk0, os⟩ := st
  show wpAny _ _ (field (.ref z) 2 >>= _) _ _ _; refine wpAny_bind (wpAny_field out rfl (x := .bool false) rfl ?_)
  show wpAny _ _ (field (.ref z) 3 >>= _) _ _ _; refine wpAny_bind (wpAny_field out rfl (x := .ref TI) rfl ?_)
  refine wpAny_bind (wpAny_seqItems both rfl ?_); show wpAny _ _ (Builtin.SmallTypes.ownedTupleIsFree (.ref z) >>= _) _ _ _
  refine wpAny_bind (wpAny_tupleHeld_zip out hT fun g1 out1 b1 => ?_)
  replace b1 : Heap.SameBut z hp g1 := b1
  simp only [Bool.false_eq_true, if_false]; refine wpAny_bind ?_; rw [← Array.forIn_toList]; simp only [List.forIn_cons, List.forIn_nil]
  refine wpAny_bind (wpAny_bind (wpAny_holding ?_)); show wpAny _ _ (Builtin.SmallTypes.nextOf (.ref i1) >>= _) _ _ ⟨g1, g, d, tk0, os⟩
  by_cases more : i < n1
  · refine wpAny_bind (D1.item i _ _ _ more (D1.over at1 b1 S.zf1) fun x g2 tk1 px n1' b2 => wpAny_pure ?_)
    replace b2 : Heap.SameBut i1 g1 g2 := b2
    refine wpAny_pure ?_; refine wpAny_bind (wpAny_bind (wpAny_holding ?_)); show wpAny _ _ (Builtin.SmallTypes.nextOf (.ref i2) >>= _) _ _ ⟨g2, g, d, tk1, os⟩
    have e2 : i = n2 := by omega
    subst e2
    refine wpAny_bind (D2.done _ _ _ (D2.over (D2.over at2 b1 S.zf2) b2 S.sep1_2) fun g3 e b3 he => ?_)
    exact now g3 tk1 e (fun c o c1 c2 c3 q => b3 _ _ c3 (b2.extBut _ _ c2 (b1.extBut _ _ c1 q))) he
  · have e1 : i = n1 := by omega
    subst e1
    refine wpAny_bind (D1.done _ _ _ (D1.over at1 b1 S.zf1) fun g3 e b3 he => ?_)
    exact now g3 tk0 e (fun c o c1 c2 c3 q => b3 _ _ c2 (b1.extBut _ _ c1 q)) he
theorem out_pyNext (S : ZipSep2 z TI TO i1 i2 fp1 fp2) (D1 : Draws prog w A.in1 i1 fp1 n1 P1 S1) (D2 : Draws prog w A.in1 i2 fp2 n2 P2 S2) {Q : Option Value → Shared → Prop}
    (out : IsZipHeld st.heap z TI TO T f) (hT : st.heap.get? T = some oT) (both : IsTupOf2 st.heap TI (.ref i1) (.ref i2)) (at1 : S1 i st.heap) (at2 : S2 i st.heap) (l1 : i < n1) (l2 : i < n2)
    (now : ∀ x y h' tk, P1 i x → P2 i y → IsZipHeld h' z TI TO T true → S1 (i + 1) h' → S2 (i + 1) h' → IsTupOf2 h' st.heap.objs.size x y → (∀ c o, c ≠ z → c ≠ i1 → c ≠ i2 → st.heap.get? c = some o → h'.get? c = some o) → Q (some (.ref st.heap.objs.size)) { st with heap := h', toks := tk }) :
    wpAny (model prog w) A (pyNext (.ref z)) Q E st := by
  have ty : st.TypeIs (.ref z) "zip" := ⟨_, out, rfl⟩
  unfold pyNext
  refine wpAny_bind (wpAny_attempt (wpAny_callSpecial?_slot (name := Str.ofString "__next__") ty F.slot_zip_next (wpAny_call_entry F.slot_zip_next ty F.entry_zip_next (out_next S D1 D2 out hT both at1 at2 l1 l2 ?_) (F.args_zip_next_1 _))))
  exact fun x y h' tk a b c d e g k => wpAny_pure (now x y h' tk a b c d e g k)
theorem out_pyNext_end (S : ZipSep2 z TI TO i1 i2 fp1 fp2) (D1 : Draws prog w A.in1 i1 fp1 n1 P1 S1) (D2 : Draws prog w A.in1 i2 fp2 n2 P2 S2) {Q : Option Value → Shared → Prop}
    (out : IsZipHeld st.heap z TI TO T f) (hT : st.heap.get? T = some oT) (both : IsTupOf2 st.heap TI (.ref i1) (.ref i2)) (at1 : S1 i st.heap) (at2 : S2 i st.heap) (l1 : i ≤ n1) (l2 : i ≤ n2) (last : i = n1 ∨ i = n2)
    (now : ∀ h' tk, (∀ c o, c ≠ z → c ≠ i1 → c ≠ i2 → st.heap.get? c = some o → h'.get? c = some o) → Q none { st with heap := h', toks := tk }) :
    wpAny (model prog w) A (pyNext (.ref z)) Q E st := by
  have ty : st.TypeIs (.ref z) "zip" := ⟨_, out, rfl⟩
  unfold pyNext
  refine wpAny_bind (wpAny_attempt (wpAny_callSpecial?_slot (name := Str.ofString "__next__") ty F.slot_zip_next (wpAny_call_entry F.slot_zip_next ty F.entry_zip_next (out_end S D1 D2 out hT both at1 at2 l1 l2 last ?_) (F.args_zip_next_1 _))))
  rintro h' tk e kp ⟨o, ho, hc⟩
  exact wpAny_bind (wpAny_isInstance (T := "StopIteration") (b := true) ⟨o, ho, hc⟩ isSubtype_stop (wpAny_pure (now _ _ kp)))
/-- the zip of the list l and the tuple t, begun -/
def ZipLT (h : Heap) (z TI TO i1 i2 l t : Addr) (xs ys : Array Value) (n : Nat) : Prop := IsTupOf2 h TI (.ref i1) (.ref i2) ∧ (h.IsListIter i1 l n ∧ h.IsList l xs) ∧ (h.IsTupleIter i2 t n ∧ h.IsTuple t ys)
theorem ZipLT.keep {h h' : Heap} {z TI TO i1 i2 l t : Addr} {xs ys : Array Value} {n : Nat} (q : ZipLT h z TI TO i1 i2 l t xs ys n) (k : ∀ b, b = TI ∨ b = i1 ∨ b = i2 ∨ b = l ∨ b = t → ∀ o, h.get? b = some o → h'.get? b = some o) : ZipLT h' z TI TO i1 i2 l t xs ys n :=
  ⟨k _ (.inl rfl) _ q.1, ⟨q.2.1.1.at fun o e => k _ (.inr (.inl rfl)) o e, q.2.1.2.at fun o e => k _ (.inr (.inr (.inr (.inl rfl)))) o e⟩, ⟨q.2.2.1.at fun o e => k _ (.inr (.inr (.inl rfl))) o e, q.2.2.2.at fun o e => k _ (.inr (.inr (.inr (.inr rfl)))) o e⟩⟩
theorem pairs_LT (z TI TO i1 i2 l t : Addr) (S : ZipSep2 z TI TO i1 i2 [i1, l] [i2, t]) (hl : l ≠ i1) (ht : t ≠ i2) (xs ys : Array Value) :
    PairArg prog w "zip" z [z, TI, TO, i1, i2, l, t] [z, TO, i1, i2] (min xs.size ys.size) (fun i k v => xs[i]? = some k ∧ ys[i]? = some v)
      (fun h => IsZip h z TI TO .none ∧ (∃ a b, IsTupOf2 h TO a b) ∧ ZipLT h z TI TO i1 i2 l t xs ys 0) where
  type := fun s ok => ⟨_, ok.1, rfl⟩
  notDict := by decide
  keep := fun h h' ok k => by
    obtain ⟨a1, ⟨a, b, a2⟩, a3⟩ := ok
    exact ⟨k _ _ a1, ⟨a, b, k _ _ a2⟩, a3.keep fun b _ o e => k b o e⟩
  there := fun h ok b hb => by
    obtain ⟨a1, ⟨a, c, a2⟩, a3, ⟨⟨o1, e1, _⟩, ⟨o2, e2, _⟩⟩, ⟨⟨o3, e3, _⟩, ⟨o4, e4, _⟩⟩⟩ := ok
    have either : b = z ∨ b = TI ∨ b = TO ∨ b = i1 ∨ b = i2 ∨ b = l ∨ b = t := by simpa using hb
    rcases either with q | q | q | q | q | q | q <;> subst q
    · exact ⟨_, a1⟩
    · exact ⟨_, a3⟩
    · exact ⟨_, a2⟩
    · exact ⟨_, e1⟩
    · exact ⟨_, e3⟩
    · exact ⟨_, e2⟩
    · exact ⟨_, e4⟩
  sub := fun b hb => by
    have either : b = z ∨ b = TO ∨ b = i1 ∨ b = i2 := by simpa using hb
    rcases either with q | q | q | q <;> subst q <;> simp
  noKeys := fun A s Q E hA ok now => getAttrOr_miss_zip ok.1 rfl rfl rfl zip_no_keys (by decide +kernel) hA now
  iter := fun A s d Q E hA ok dlt dfar now => by
    obtain ⟨a1, ⟨a, b, a2⟩, a3⟩ := ok
    have far : d ≠ z ∧ d ≠ TI ∧ d ≠ TO ∧ d ≠ i1 ∧ d ≠ i2 ∧ d ≠ l ∧ d ≠ t := by simpa using dfar
    obtain ⟨d1, d2, d3, d4, d5, d6, d7⟩ := far
    have D1 := Draws.list (prog := prog) (w := w) (A := A.in1) hA i1 l hl xs
    have D2 := Draws.tuple (prog := prog) (w := w) (A := A.in1) hA i2 t ht ys
    refine wpAny_pyIter_zip a1 (now z [z, TO, i1, i2] (fun n h => ZipLT h z TI TO i1 i2 l t xs ys n ∧ ((IsZip h z TI TO .none ∧ ∃ a b, IsTupOf2 h TO a b) ∨ ∃ T f oT, IsZipHeld h z TI TO T f ∧ h.get? T = some oT ∧ T ≠ z ∧ T ≠ i1 ∧ T ≠ i2 ∧ T ≠ d)) s.heap s.toks ?_ ⟨a3, .inl ⟨a1, a, b, a2⟩⟩ (fun _ _ e => e) fun b hb => .inl hb)
    refine ⟨fun hm => ?_, fun n h h' q k => ?_, fun n s1 Q1 E1 hn q dl now1 => ?_, fun s1 Q1 E1 q now1 => ?_⟩
    · have either : d = z ∨ d = TO ∨ d = i1 ∨ d = i2 := by simpa using hm
      rcases either with q | q | q | q
      · exact d1 q
      · exact d3 q
      · exact d4 q
      · exact d5 q
    · refine ⟨q.1.keep fun b hb o e => k b o (fun y => ?_) e, ?_⟩
      · rcases hb with q | q | q | q | q <;> rw [q] at y
        · exact d2 y.symm
        · exact d4 y.symm
        · exact d5 y.symm
        · exact d6 y.symm
        · exact d7 y.symm
      · rcases q.2 with ⟨q1, a, b, q2⟩ | ⟨T, f, oT, q1, q2, r1, r2, r3, r4⟩
        · exact .inl ⟨k _ _ (Ne.symm d1) q1, a, b, k _ _ (Ne.symm d3) q2⟩
        · exact .inr ⟨T, f, oT, k _ _ (Ne.symm d1) q1, k _ _ r4 q2, r1, r2, r3, r4⟩
    · obtain ⟨⟨both, at1, at2⟩, q⟩ := q
      have m1 : n < xs.size := Nat.lt_of_lt_of_le hn (Nat.min_le_left ..)
      have m2 : n < ys.size := Nat.lt_of_lt_of_le hn (Nat.min_le_right ..)
      have lt : ∀ {c o}, s1.heap.get? c = some o → s1.heap.objs.size ≠ c := fun e => Nat.ne_of_gt (Heap.lt_size e)
      have j1 : s1.heap.objs.size ≠ i1 := let ⟨_, e⟩ := D1.live _ _ at1; lt e
      have j2 : s1.heap.objs.size ≠ i2 := let ⟨_, e⟩ := D2.live _ _ at2; lt e
      rcases q with ⟨q1, a, b, q2⟩ | ⟨T, f, oT, q1, q2, r1, r2, r3, r4⟩
      · refine wpAny_pyNext_zipD2_item S D1 D2 q1 both q2 at1 at2 m1 m2 fun x y h' tk px py b1 b2 b3 b4 b5 b6 k => ?_
        exact now1 s1.heap.objs.size x y h' tk ⟨px, py⟩ (.inl ⟨_, b5, rfl, _, rfl⟩) ⟨⟨k _ _ S.TIz S.TITO S.TIi1 S.TIi2 both, b3, b4⟩, .inr ⟨_, false, _, b1, b5, lt q1, j1, j2, Nat.ne_of_gt dl⟩⟩
          fun c o hc e => k c o (fun y => hc (by simp [y])) (fun y => hc (by simp [y])) (fun y => hc (by simp [y])) (fun y => hc (by simp [y])) e
      · refine out_pyNext S D1 D2 q1 q2 both at1 at2 m1 m2 fun x y h' tk px py b1 b3 b4 b5 k => ?_
        exact now1 s1.heap.objs.size x y h' tk ⟨px, py⟩ (.inl ⟨_, b5, rfl, _, rfl⟩) ⟨⟨k _ _ S.TIz S.TIi1 S.TIi2 both, b3, b4⟩, .inr ⟨T, true, oT, b1, k _ _ r1 r2 r3 q2, r1, r2, r3, r4⟩⟩
          fun c o hc e => k c o (fun y => hc (by simp [y])) (fun y => hc (by simp [y])) (fun y => hc (by simp [y])) e
    · obtain ⟨⟨both, at1, at2⟩, q⟩ := q
      rcases q with ⟨q1, a, b, q2⟩ | ⟨T, f, oT, q1, q2, r1, r2, r3, r4⟩
      · exact wpAny_pyNext_zipD2_end S D1 D2 q1 both q2 at1 at2 (Nat.min_le_left ..) (Nat.min_le_right ..) (by omega) fun h' tk k => now1 h' tk fun c o hc e => k c o (fun y => hc (by simp [y])) (fun y => hc (by simp [y])) (fun y => hc (by simp [y])) (fun y => hc (by simp [y])) e
      · exact out_pyNext_end S D1 D2 q1 q2 both at1 at2 (Nat.min_le_left ..) (Nat.min_le_right ..) (by omega) fun h' tk k => now1 h' tk fun c o hc e => k c o (fun y => hc (by simp [y])) (fun y => hc (by simp [y])) (fun y => hc (by simp [y])) e
end
/-- dict(zip(e1, e2)): keys from a list, values from a tuple -/
def eDictZip (K : PySem.W.Frag) (ta : TA) : TE := fun σ H Q => ta σ H fun vs H1 => ∃ (a b : Addr) (ks : List Key) (xs : List V), vs = [.ref a, .ref b] ∧ SqL K H1 a (ks.map kV) ∧ SqT K H1 b xs ∧ ∀ p, H1 p = none → Q (.ref p) (upd H1 p (.dK (mergeK [] (ks.zip xs))))
theorem pe_dictZip (K : PySem.W.Frag) {X : Cx} (hk : X.K = K) (hcalm : X.calm = true) {e e2 : Expr} {ta : TA} {p p2 pos pos2 : Pos} (hd : Gl X "dict") (md : X.mg "dict" = none) (hg : Gl X "zip") (hm : X.mg "zip" = none) (ha : PA X [e, e2] ta)
    (hs : starEach [e, e2] X.env = (false, eval e X.env) :: starEach [e2] X.env := by rfl) (hpl : (backTo pos2 (starEach [e2] X.env)).any (·.1) = false := by rfl)
    (hs1 : starEach [.Call (.Name "zip" p2) [e, e2] [] pos2] X.env = [(false, eval (.Call (.Name "zip" p2) [e, e2] [] pos2) X.env)] := by rfl) :
    PE X (.Call (.Name "dict" p) [.Call (.Name "zip" p2) [e, e2] [] pos2] [] pos) (eDictZip K ta) := by
  subst hk
  refine ⟨fun pins st σ H Q J asked => ?_⟩
  refine Call_ (ld_blt J hd md boot_dict (PyProof.Rows.callWith_type1 (args_cons (Call_ (ld_blt J hg hm boot_zip (PyProof.Rows.callWith_type1 (thn (ha.run pos2 pins st σ H _ J asked) fun us st1 ⟨vs, H1, J1, rel, now⟩ => ?_) hs hpl))) hs1) hs1 rfl))
  obtain ⟨a, b, ks, xs, ex, hq1, hq2, now⟩ := now
  subst ex
  cases rel with
  | cons r1 rel =>
  cases rel with
  | cons r2 rel =>
  cases rel
  cases r1
  cases r2
  obtain ⟨its, rv, p1, z1⟩ := J1.list hq1
  obtain ⟨its2, rv2, p2, z2⟩ := J1.tuple hq2
  have al : a < st1.heap.objs.size := p1.lt
  have bl : b < st1.heap.objs.size := by obtain ⟨o, ho, _⟩ := p2; exact Heap.lt_size ho
  have B1 := begins_list a its.toArray
  have B2 := begins_tuple b its2.toArray
  refine zip_begins2 B1 B2 p1.isList p2 fun h' c1 c2 c3 c4 c5 size kp => args_nil ?_
  have S := zip_sep2 (N := st1.heap.objs.size) (fp1 := [a]) (fp2 := [b]) (by simpa using al) (by simpa using bl)
  have P := pairs_LT (prog := X.prog) (w := X.w) _ _ _ _ _ a b S (Nat.ne_of_lt al) (Nat.ne_of_lt (Nat.lt_succ_of_lt bl)) its.toArray its2.toArray
  have n1 := rv.length
  have n2 := rv2.length
  rw [List.length_map] at n1 z1
  have all : ∀ (ks : List Key) (xs : List V) (us vs : List Value), Vals (ks.map kV) us → Vals xs vs → ∃ rs : List (Key × Value), KV (ks.zip xs) rs ∧ rs.length = min us.length vs.length ∧ ∀ (i : Nat) (k v : Value), us[i]? = some k → vs[i]? = some v → ∃ q, rs[i]? = some (q, v) ∧ (mixKind X.prog X.w).is q k = true := by
    intro ks
    induction ks with
    | nil => intro xs us vs r1 r2; cases r1; exact ⟨[], .nil, by simp, fun i k v e => nomatch e⟩
    | cons k ks ih =>
      intro xs us vs r1 r2
      cases r1 with
      | cons h1 t1 =>
      cases r2 with
      | nil => exact ⟨[], .nil, by simp, fun i k v _ e => nomatch e⟩
      | cons h2 t2 =>
        obtain ⟨rs, e1, e2, e3⟩ := ih _ _ _ t1 t2
        refine ⟨(k, _) :: rs, .cons ⟨rfl, h2⟩ e1, by simp only [List.length_cons, e2]; omega, fun i q v e f => ?_⟩
        cases i with
        | zero => cases e; cases f; exact ⟨k, rfl, kV_is h1⟩
        | succ i => exact e3 i q v e f
  obtain ⟨rs, e1, e2, e3⟩ := all ks xs its its2 rv rv2
  have PH : PairsHave (mixKind X.prog X.w) (min its.toArray.size its2.toArray.size) (fun i k v => its.toArray[i]? = some k ∧ its2.toArray[i]? = some v) rs :=
    ⟨by simpa using e2, fun i k v q => e3 i k v (by simpa using q.1) (by simpa using q.2)⟩
  refine _root_.PySem.call_dict_pairs (s := { st1 with heap := h' }) P (J1.ok.hd hcalm) ⟨c1, ⟨_, _, c3⟩, c2, ⟨⟨_, c4, rfl, rfl⟩, B1.keeps _ _ p1.isList kp⟩, ⟨⟨_, c5, rfl, rfl⟩, B2.keeps _ _ p2 kp⟩⟩ PH (by have := n1; have := n2; simp only [List.size_toArray]; omega) fun h2 tk isd kp2 => ?_
  replace isd : h2.DictOf (mixKind X.prog X.w) h'.objs.size (merged [] rs) := isd
  have low : st1.heap.objs.size ≤ h'.objs.size := by rw [size]; exact Nat.le_add_right _ _
  have big : sysModules < h'.objs.size := Nat.lt_of_lt_of_le J1.big low
  have ne : (h'.objs.size == sysModules) = false := beq_eq_false_iff_ne.mpr (Nat.ne_of_gt big)
  have few : (mergeK [] (ks.zip xs)).length ≤ sizeLine := by
    refine Nat.le_trans (length_mergeK _ []) ?_
    rw [List.length_nil, Nat.zero_add, List.length_zip]
    omega
  refine ⟨.ref h'.objs.size, upd H1 h'.objs.size (.dK (mergeK [] (ks.zip xs))), J1.laid (t' := tk) (fun c o q => kp2 c o (fun hm => ?_) (kp c o q)) low (show ObjOk X.prog X.w _ _ _ (.dK (mergeK [] (ks.zip xs))) from ⟨few, ne, merged [] rs, KV.merge e1 .nil, isd⟩), rfl, now _ (J1.hok.fresh low)⟩
  have cl := Heap.lt_size q
  have either : c = st1.heap.objs.size + 4 ∨ c = st1.heap.objs.size + 3 ∨ c = st1.heap.objs.size ∨ c = st1.heap.objs.size + 1 := by simpa using hm
  rcases either with y | y | y | y <;> rw [y] at cl
  · exact absurd cl (Nat.not_lt.mpr (Nat.le_add_right _ _))
  · exact absurd cl (Nat.not_lt.mpr (Nat.le_add_right _ _))
  · exact absurd cl (Nat.lt_irrefl _)
  · exact absurd cl (Nat.not_lt.mpr (Nat.le_add_right _ _))
theorem one_at {K : PySem.W.Frag} {a : Addr} {od : Option Addr} {z : Str} {t1 : Tok} {n : Nat} {sl : Array (Option Value)} (l : K.lookup a = some ⟨.type "tuple", od, .seq #[.str z t1] n, sl⟩) (H : Hp) : SqT K H a [.str z] :=
  .inr ⟨_, _, _, l, rfl, rfl, (show 1 ≤ sizeLine by decide), .cons ⟨_, rfl⟩ .nil⟩
/-! ### dicts whose keys are tuples of tuples -/
mutual
/-- a value that is such a key -/
inductive NkV (H : Hp) : NestedKey → V → Prop
  | num (i : Int) : NkV H (.num i) (.int i)
  | text (x : Str) : NkV H (.text x) (.str x)
  | tup {a : Addr} {xs : List V} {ks : List NestedKey} : H a = some (.tup xs) → NkL H ks xs → NkV H (.tup ks) (.ref a)
inductive NkL (H : Hp) : List NestedKey → List V → Prop
  | nil : NkL H [] []
  | cons {k : NestedKey} {x : V} {ks : List NestedKey} {xs : List V} : NkV H k x → NkL H ks xs → NkL H (k :: ks) (x :: xs)
end
section
variable {P : Program} {w : World} {H H' : Hp} {h : Heap}
mutual
theorem NkV.keep (kp : TK H H') : ∀ {k : NestedKey} {x : V}, NkV H k x → NkV H' k x
  | _, _, .num i => .num i
  | _, _, .text x => .text x
  | _, _, .tup e l => .tup (kp _ _ e) (NkL.keep kp l)
theorem NkL.keep (kp : TK H H') : ∀ {ks : List NestedKey} {xs : List V}, NkL H ks xs → NkL H' ks xs
  | _, _, .nil => .nil
  | _, _, .cons a b => .cons (NkV.keep kp a) (NkL.keep kp b)
end
mutual
theorem NkV.is (ok : HOk P w H h) : ∀ {k : NestedKey} {x : V} {u : Value}, NkV H k x → RelV x u → NestedIs h k u
  | _, _, u, .num i, r => by
    obtain ⟨t, rfl⟩ := (show ∃ t, u = Value.int i t from r)
    exact .int i t
  | _, _, u, .text x, r => by
    obtain ⟨t, rfl⟩ := (show ∃ t, u = Value.str x t from r)
    exact .text x t
  | _, _, u, @NkV.tup _ a xs ks e l, r => by
    obtain rfl : u = Value.ref a := r
    obtain ⟨_, its, rv, o, e1, e2, n, e3⟩ := (show ObjOk P w H h a (.tup xs) from ok a _ e)
    exact .tup e1 e2 e3 (by simpa using NkL.is ok l rv)
theorem NkL.is (ok : HOk P w H h) : ∀ {ks : List NestedKey} {xs : List V} {us : List Value}, NkL H ks xs → Vals xs us → NestedAll h ks us
  | _, _, _, .nil, .nil => .nil
  | _, _, _, .cons a b, .cons r t => .cons (NkV.is ok a r) (NkL.is ok b t)
end
/-- what stands in the heap for a dict with the entries kas: key, the key's address, number -/
def nkRow (k : NestedKey × Addr × Int) (x : NestedKey × Addr × Value) : Prop := x.1 = k.1 ∧ x.2.1 = k.2.1 ∧ ∃ t, x.2.2 = .int k.2.2 t
def nkObj (P : Program) (w : World) (d : Addr) (kas : List (NestedKey × Addr × Int)) (h : Heap) : Prop :=
  (d == sysModules) = false ∧ kas.length ≤ sizeLine ∧ ∃ xs : List (NestedKey × Addr × Value), All2 nkRow kas xs ∧ ∃ o es ep, h.get? d = some o ∧ o.ExactDict ∧ o.data = .dict es ep ∧ es.toList = xs.map (entryOfKey (nestedKind P w)) ∧ (xs.map (·.1)).Nodup
def nkO (P : Program) (w : World) (d : Addr) (kas : List (NestedKey × Addr × Int)) : HO := .ext (nkObj P w d kas)
structure NkD (P : Program) (w : World) (H : Hp) (d : Addr) (kas : List (NestedKey × Addr × Int)) : Prop where
  at_ : H d = some (nkO P w d kas)
  key : ∀ q ∈ kas, NkV H q.1 (.ref q.2.1) ∧ q.1.depth ≤ 8
theorem nkO_tup {d : Addr} {kas : List (NestedKey × Addr × Int)} {xs : List V} : nkO P w d kas ≠ .tup xs := fun z => by
  have z' : HO.ext _ = HO.tup xs := z
  cases z'
theorem nkObj_ok {d : Addr} {kas : List (NestedKey × Addr × Int)} (q : nkObj P w d kas h) : ObjOk P w H h d (nkO P w d kas) := by
  have q0 := q
  obtain ⟨_, _, xs, _, o, es, ep, e, _⟩ := q0
  refine ⟨q, ⟨o, e⟩, fun h1 h2 q1 k => ?_⟩
  obtain ⟨a1, a2, xs, al, o, es, ep, e, r⟩ := q1
  exact ⟨a1, a2, xs, al, o, es, ep, k _ e, r⟩
theorem nk_names : ∀ {kas : List (NestedKey × Addr × Int)} {xs : List (NestedKey × Addr × Value)}, All2 nkRow kas xs → xs.map (·.1) = kas.map (·.1)
  | _, _, .nil => rfl
  | _, _, .cons r t => by rw [List.map_cons, List.map_cons, r.1, nk_names t]
/-- the number at a key -/
def nkAt (kas : List (NestedKey × Addr × Int)) (k : NestedKey) : Option Int := (kas.find? fun q => decide (q.1 = k)).map fun q => q.2.2
theorem nk_at {k : NestedKey} : ∀ {kas : List (NestedKey × Addr × Int)} {xs : List (NestedKey × Addr × Value)}, All2 nkRow kas xs → (nkAt kas k = none ∧ atKey xs k = none) ∨ ∃ n a t, nkAt kas k = some n ∧ atKey xs k = some (a, .int n t)
  | _, _, .nil => .inl ⟨rfl, rfl⟩
  | _, _, @All2.cons _ _ _ c x cs xs r t => by
    unfold nkAt atKey
    rw [List.find?_cons, List.find?_cons, r.1]
    by_cases e : c.1 = k
    · rw [decide_eq_true e]
      obtain ⟨tt, ht⟩ := r.2.2
      refine .inr ⟨c.2.2, x.2.1, tt, rfl, ?_⟩
      show some x.2 = _
      rw [← ht]
    · rw [decide_eq_false e]
      exact nk_at t
theorem NkD.get {d : Addr} {kas : List (NestedKey × Addr × Int)} (D : NkD P w H d kas) (ok : HOk P w H h) : (d == sysModules) = false ∧ kas.length ≤ sizeLine ∧ ∃ xs, All2 nkRow kas xs ∧ h.DictOfH (nestedKind P w) d xs := by
  obtain ⟨⟨a1, a2, xs, al, o, es, ep, e1, e2, e3, e4, e5⟩, _⟩ := (show ObjOk P w H h d (nkO P w d kas) from ok d _ D.at_)
  refine ⟨a1, a2, xs, al, o, es, ep, e1, e2, e3, e4, fun x hx => ?_, e5⟩
  have : ∀ {kas : List (NestedKey × Addr × Int)} {xs : List (NestedKey × Addr × Value)}, All2 nkRow kas xs → ∀ x ∈ xs, ∃ q ∈ kas, x.1 = q.1 ∧ x.2.1 = q.2.1 := by
    intro kas xs al
    induction al with
    | nil => intro x hx; cases hx
    | cons r t ih =>
      intro x hx
      rcases List.mem_cons.mp hx with rfl | hx
      · exact ⟨_, List.mem_cons_self .., r.1, r.2.1⟩
      · obtain ⟨q, hq, z⟩ := ih x hx
        exact ⟨q, List.mem_cons_of_mem _ hq, z⟩
  obtain ⟨q, hq, z1, z2⟩ := this al x hx
  obtain ⟨k1, k2⟩ := D.key q hq
  rw [z1, z2]
  exact ⟨NkV.is ok k1 rfl, k2⟩
theorem NkD.go {d : Addr} {kas : List (NestedKey × Addr × Int)} (D : NkD P w H d kas) (e : H' d = H d) (kp : TK H H') : NkD P w H' d kas := ⟨e.trans D.at_, fun q hq => ⟨(D.key q hq).1.keep kp, (D.key q hq).2⟩⟩
theorem NkD.same {d : Addr} {kas : List (NestedKey × Addr × Int)} (D : NkD P w H d kas) (s : Same H H') : NkD P w H' d kas := D.go ((s _ _ D.at_).trans D.at_.symm) (TK.same s)
end
section
variable {X : Cx} {o i e : Expr} {pos pos' : Pos} {td ty tv : TE}
theorem nk_room {X : Cx} (hu : X.A.units + 65 < cLine) : (nestedKind X.prog X.w).room X.A.in1 := by
  show X.A.in1.units + 8 < cLine
  show X.A.units + 1 + 8 < cLine
  omega
/-- {}, for such keys -/
def tNkNew (P : Program) (w : World) : TE := fun _ H Q => ∀ p, H p = none → NkD P w (upd H p (nkO P w p [])) p [] → Q (.ref p) (upd H p (nkO P w p []))
theorem pe_nknew (P : Program) (w : World) (h1 : X.prog = P) (h2 : X.w = w) : PE X (.Dict [] [] pos) (tNkNew P w) := by
  subst h1 h2
  refine ⟨fun pins s σ H Q I h => ?_⟩
  have hb := I.big
  have ob : nkObj X.prog X.w s.heap.objs.size [] (s.heap.push { cls := .type "dict", data := .dict #[] }) := ⟨beq_eq_false_iff_ne.mpr (Ne.symm (Nat.ne_of_lt hb)), Nat.zero_le _, [], .nil, _, #[], 0, Heap.get?_push_size _ rfl, ⟨rfl, rfl, rfl⟩, rfl, rfl, List.nodup_nil⟩
  exact wpAny_Dict_empty ⟨.ref s.heap.objs.size, _, I.laid (a := s.heap.objs.size) (o := nkO X.prog X.w s.heap.objs.size []) (t' := s.toks) (fun _ _ q => Heap.get?_push_of_some _ q) (Nat.le_refl _) (nkObj_ok ob), rfl, h _ (I.hok.fresh (Nat.le_refl _)) ⟨upd_same, fun q hq => by cases hq⟩⟩
/-- y not in d -/
def tNkOut (P : Program) (w : World) (ty td : TE) : TE := fun σ H Q => ty σ H fun y H1 => td σ H1 fun x H2 => ∃ (d b : Addr) (kas : List (NestedKey × Addr × Int)) (k : NestedKey), x = .ref d ∧ y = .ref b ∧ NkD P w H2 d kas ∧ NkV H2 k (.ref b) ∧ k.depth ≤ 8 ∧ Q (.bl (!(nkAt kas k).isSome)) H2
theorem pc_nkout (P : Program) (w : World) (h1 : X.prog = P) (h2 : X.w = w) (hu : X.A.units + 65 < cLine) (hi : PE X i ty) (ho : PE X o td) : PC X .NotIn i o (tNkOut P w ty td) := by
  subst h1 h2
  refine ⟨fun pins s σ H Q I h => ?_⟩
  refine thn (hi.run pins s σ H _ I h) fun iv s1 ⟨y, H1, I1, ry, q1⟩ => thn (ho.run pins s1 σ H1 _ I1 q1) fun u s2 ⟨x, H2, I2, rx, d, b, kas, k, ex, ey, D, kv, dp, q2⟩ => ?_
  subst ex ey
  obtain rfl : u = Value.ref d := rx
  obtain rfl : iv = Value.ref b := ry
  obtain ⟨a1, a2, xs, al, dd⟩ := D.get I2.hok
  refine wpAny_notIn_heap (nk_room hu) ⟨NkV.is I2.hok kv rfl, dp⟩ a1 dd ⟨.bl (!(nkAt kas k).isSome), H2, I2.tok _, ?_, q2⟩
  rcases nk_at (k := k) al with ⟨z1, z2⟩ | ⟨n, a, t, z1, z2⟩ <;> rw [z1, z2] <;> rfl
/-- d[y] -/
def tNkGet (P : Program) (w : World) (td ty : TE) : TE := fun σ H Q => td σ H fun x H1 => ty σ H1 fun y H2 => ∃ (d b : Addr) (kas : List (NestedKey × Addr × Int)) (k : NestedKey) (n : Int), x = .ref d ∧ y = .ref b ∧ NkD P w H2 d kas ∧ NkV H2 k (.ref b) ∧ k.depth ≤ 8 ∧ nkAt kas k = some n ∧ Q (.int n) H2
theorem pe_nkget (P : Program) (w : World) (h1 : X.prog = P) (h2 : X.w = w) (hu : X.A.units + 65 < cLine) (ho : PE X o td) (hi : PE X i ty) (hs : NoSl i) : PE X (.Subscript o i pos) (tNkGet P w td ty) := by
  subst h1 h2
  refine ⟨fun pins s σ H Q I h => ?_⟩
  refine subD_of PySem.F.slot_dict_getitem.lookup hs (thn (ho.run pins s σ H _ I h) fun u s1 ⟨x, H1, I1, rx, q1⟩ => thn (hi.run pins s1 σ H1 _ I1 q1) fun iv s2 ⟨y, H2, I2, ry, d, b, kas, k, n, ex, ey, D, kv, dp, hk, q2⟩ => ?_)
  subst ex ey
  obtain rfl : u = Value.ref d := rx
  obtain rfl : iv = Value.ref b := ry
  obtain ⟨a1, a2, xs, al, dd⟩ := D.get I2.hok
  refine ⟨dd.typeIs, ?_⟩
  rcases nk_at (k := k) al with ⟨z1, z2⟩ | ⟨m, a, t, z1, z2⟩
  · rw [z1] at hk; cases hk
  · rw [z1] at hk
    cases hk
    exact wpAny_getItem_heap (nk_room hu) ⟨NkV.is I2.hok kv rfl, dp⟩ dd z2 ⟨.int n, H2, I2.tok _, ⟨t, rfl⟩, q2⟩
/-- len(d) -/
theorem call_lenNk (P : Program) (w : World) (h1 : X.prog = P) (h2 : X.w = w) : CallR X (.builtin "len") (fun vs H Q => ∃ (d : Addr) (kas : List (NestedKey × Addr × Int)), vs = [.ref d] ∧ NkD P w H d kas ∧ Q (.int (kas.length : Nat)) H) := by
  subst h1 h2
  intro pins s σ H vs us Q I r asked
  obtain ⟨d, kas, rfl, D, q⟩ := asked
  obtain ⟨u, rfl, ru⟩ := vals1 r
  obtain rfl : u = Value.ref d := ru
  obtain ⟨a1, a2, xs, al, dd⟩ := D.get I.hok
  have l := al.length
  refine PySem.call_len_dictH a1 dd (by rw [← l]; rw [sizeLine_eq] at a2; omega) ?_
  exact ⟨.int (kas.length : Nat), H, I.tok _, ⟨_, by rw [l]⟩, q⟩
/-- d[y] = v, y not yet in d -/
def sNkPut (P : Program) (w : World) (td ty tv : TE) : TS := fun D σ H => tv σ H fun v H1 => td σ H1 fun x H2 => ty σ H2 fun y H3 => ∃ (d b : Addr) (kas : List (NestedKey × Addr × Int)) (k : NestedKey) (n : Int), x = .ref d ∧ y = .ref b ∧ v = .int n ∧ NkD P w H3 d kas ∧ NkV H3 k (.ref b) ∧ k.depth ≤ 8 ∧ nkAt kas k = none ∧ kas.length < sizeLine ∧
  (NkD P w (upd H3 d (nkO P w d (kas ++ [(k, b, n)]))) d (kas ++ [(k, b, n)]) → D.nx σ (upd H3 d (nkO P w d (kas ++ [(k, b, n)]))))
theorem ps_nkput {value : Expr} (P : Program) (w : World) (h1 : X.prog = P) (h2 : X.w = w) (hu : X.A.units + 65 < cLine) (ho : PE X o td) (hi : PE X i ty) (hv : PE X value tv) (hs : swapsWith value (some (.Subscript o i pos')) pos.line X.env = pure false) :
    PS X (.Assign [.Subscript o i pos'] value pos) (sNkPut P w td ty tv) := by
  subst h1 h2
  refine ⟨fun pins s σ H D I h => ?_⟩
  refine wpAny_Assign_Subscript (thn (hv.run pins s σ H _ I h) fun r s1 ⟨v, H1, I1, rv, q1⟩ => thn (ho.run pins s1 σ H1 _ I1 q1) fun u s2 ⟨x, H2, I2, rx, q2⟩ => thn (hi.run pins s2 σ H2 _ I2 q2) fun iv s3 ⟨y, H3, I3, ry, d, b, kas, k, n, ex, ey, ev, Dk, kv, dp, hk, hl, q3⟩ => ?_) hs
  subst ex ey ev
  obtain rfl : u = Value.ref d := rx
  obtain rfl : iv = Value.ref b := ry
  obtain ⟨t, rfl⟩ := (show ∃ t, r = Value.int n t from rv)
  obtain ⟨a1, a2, xs, al, dd⟩ := Dk.get I3.hok
  have l := al.length
  have z2 : atKey xs k = none := by
    rcases nk_at (k := k) al with ⟨z1, z2⟩ | ⟨m, a, t, z1, z2⟩
    · exact z2
    · rw [z1] at hk; cases hk
  refine wpAny_setItem_heap (hsz := by rw [← l]; exact a2) (nk_room hu) ⟨NkV.is I3.hok kv rfl, dp⟩ dd fun h' dd' hsb => ?_
  rw [storedH_new z2] at dd'
  obtain ⟨ob, es, ep, g1, g2, g3, g4, g5, g6⟩ := dd'
  have kp : TK H3 (upd H3 d (nkO X.prog X.w d (kas ++ [(k, b, n)]))) := fun a ys e => by
    rw [upd_ne (ne_of e Dk.at_ (fun z => nkO_tup z.symm))]
    exact e
  have new : nkObj X.prog X.w d (kas ++ [(k, b, n)]) h' := ⟨a1, by rw [List.length_append]; exact hl, _, al.snoc ⟨rfl, rfl, t, rfl⟩, ob, es, ep, g1, g2, g3, g4, g6⟩
  refine ⟨σ, _, d_write I3 (by rw [Dk.at_]; exact True.intro) hsb ⟨ob, g1⟩ (nkObj_ok new), q3 ⟨upd_same, fun q hq => ?_⟩⟩
  rcases List.mem_append.mp hq with hq | hq
  · exact ⟨(Dk.key q hq).1.keep kp, (Dk.key q hq).2⟩
  · rw [List.mem_singleton.mp hq]
    exact ⟨kv.keep kp, dp⟩
end
section
variable {P : Program} {w : World} {K : PySem.W.Frag} {mg : Str → Option Value} {base : Heap}
def sp_law_flow (K : PySem.W.Frag) : Sp := fun vs H Q _ => ∃ (a : Addr) (ns : List Int), vs = [.ref a] ∧ SqL K H a (ns.map V.int) ∧ ∀ (f c : Addr) (H' : Hp), H f = none → H c = none → Flow H' f c → Same H H' → Q (.ref f) H'
theorem ok_law_flow {f : Addr} {fd : FuncData} (F : Fun K "_law_flow" "_law_flow" s_law_flow f fd) (T : Top w K mg) : FnOk P w K mg base CX0 1 f fd ["_law_script"] (sp_law_flow K) := by
  refine F.ok sc_law_flow (fun vs H Q E h => ?_) (fun cdv A outer s H vs Q E hr h => ?_)
  · obtain ⟨a, ns, rfl, _⟩ := h
    rfl
  obtain ⟨a, ns, rfl, hS, q⟩ := h
  refine ⟨_, (pss_one (ps_ret (pe_lst (pa_cons (pe_callTy (call_list_ofK K rfl) (by rfl) T.m_list (by decide +kernel) (pa_cons (pv 0) pa_nil)) (pa_cons pe_int (pa_cons pe_int (pa_cons pe_int (pa_cons pe_int pa_nil)))))))), ?_⟩
  refine ⟨_, rfl, a, _, rfl, .inl hS, fun c hc => ?_⟩
  refine ⟨(by show 5 ≤ sizeLine; decide), fun f hf => ?_⟩
  have nf : H f = none := by
    cases e : H f with
    | none => rfl
    | some o => rw [same_new hc _ _ e] at hf; cases hf
  have s1 := same_new (o := .lst (ns.map V.int)) hc
  refine q f c _ nf hc ⟨ns, 0, 0, 1, 0, upd_same, same_new hf _ _ upd_same, by decide, by decide, by decide, by decide⟩ fun b o e => same_new hf _ _ (s1 _ _ e)
def sp_law_pick (K : PySem.W.Frag) : Sp := fun vs H Q _ => ∃ (f c : Addr) (m : Int), vs = [.ref f, .int m] ∧ 0 < m ∧ m.natAbs.log2 < 9000 ∧ Flow H f c ∧
  ∀ (v : Int) (H' : Hp), 0 ≤ v → v < m → Flow H' f c → But f H H' → Q (.int v) H'
theorem ok_law_pick {f : Addr} {fd : FuncData} (F : Fun K "_law_pick" "_law_pick" s_law_pick f fd) (T : Top w K mg) : FnOk P w K mg base CX0 1 f fd ["_law_flow_here", "_law_many"] (sp_law_pick K) := by
  refine F.ok sc_law_pick (fun vs H Q E h => ?_) (fun cdv A outer s H vs Q E hr h => ?_)
  · obtain ⟨f, c, m, rfl, _⟩ := h
    rfl
  obtain ⟨f, c, m, rfl, m0, m9, hF, q⟩ := h
  obtain ⟨ns, i, p, z, r, hf, hc, hi, hp, hz, hz2⟩ := hF
  have ncf : c ≠ f := ne_of hc hf (by intro e; injection e with e; cases ns with | nil => cases e | cons x l => cases e)
  let R1 : TS := fun D' σ' H' => D'.rt = Q ∧ ∃ x2 : Option V, σ' = [some (.ref f), some (.int m), x2, none] ∧ (∃ (i p z r : Int), H' f = some (.lst [.ref c, .int i, .int p, .int z, .int r]) ∧ H' c = some (.lst (ns.map V.int)) ∧ 0 ≤ i ∧ 0 ≤ p ∧ 0 ≤ z ∧ z < 2147483647) ∧ But f H H'
  refine ⟨_, (pss_cons (ps_if (PW.pt (pw_and (pt_cmpR op_eq (pe_ix (ix_listK K rfl) (pv 0) pe_int (fun _ _ => rfl)) pe_int (nomark _)) (pw_and1 (pt_cmpR op_lt (pe_ix (ix_listK K rfl) (pv 0) pe_int (fun _ _ => rfl)) (pe_callB (call_len_seqK K rfl) (by rfl) T.m_len (by decide +kernel) (pa_cons (pe_ix (ix_listK K rfl) (pv 0) pe_int (fun _ _ => rfl)) pa_nil)) (nomark _))))) (pss_cons (ps_set (i := 2) sc_law_pick.nd rfl (Or.inl rfl) (pe_ix (ix_listK K rfl) (pe_ix (ix_listK K rfl) (pv 0) pe_int (fun _ _ => rfl)) (pe_ix (ix_listK K rfl) (pv 0) pe_int (fun _ _ => rfl)) (fun _ _ => rfl)))
      (pss_cons (ps_asg (pe_op op_add (pe_ix (ix_listK K rfl) (pv 0) pe_int (fun _ _ => rfl)) pe_int) (pg_sub (pv 0) pe_int set_list))
      (pss_one (ps_if (pt_cmpR op_ge (pv 2) (pe_op op_pow pe_int pe_int) (nomark _)) (pss_one (ps_asg (pv 2) (pg_sub (pv 0) pe_int set_list))) (pss_one (ps_asg (pe_op op_mod (pe_op op_add (pe_op op_add (pe_op op_mul (pe_ix (ix_listK K rfl) (pv 0) pe_int (fun _ _ => rfl)) pe_int) (pe_op op_mod (pv 2) pe_int)) pe_int) pe_int) (pg_sub (pv 0) pe_int set_list))))))) pss_nil)
      (PSs.to (pss_cons (ps_if (pt_cmpR op_gt (pe_ix (ix_listK K rfl) (pv 0) pe_int (fun _ _ => rfl)) pe_int (nomark _)) (pss_cons (ps_set (i := 3) sc_law_pick.nd rfl (Or.inl rfl) (pe_op op_mod (pe_ix (ix_listK K rfl) (pv 0) pe_int (fun _ _ => rfl)) (pv 1)))
      (pss_cons (ps_asg (pe_op op_fdivW (pe_ix (ix_listK K rfl) (pv 0) pe_int (fun _ _ => rfl)) (pv 1)) (pg_sub (pv 0) pe_int set_list))
      (pss_one (ps_ret (pv 3))))) pss_nil)
      (pss_cons (ps_asg (pe_op op_add (pe_ix (ix_listK K rfl) (pv 0) pe_int (fun _ _ => rfl)) pe_int) (pg_sub (pv 0) pe_int set_list))
      (pss_cons (ps_asg (pe_op op_mod (pe_op op_add (pe_op op_add (pe_op op_mul (pe_ix (ix_listK K rfl) (pv 0) pe_int (fun _ _ => rfl)) pe_int) pe_int) (pe_ix (ix_listK K rfl) (pv 0) pe_int (fun _ _ => rfl))) pe_int) (pg_sub (pv 0) pe_int set_list))
      (pss_one (ps_ret (pe_op op_mod (pe_op op_fdiv (pe_op op_mod (pe_op op_mul (pe_op op_add (pe_op op_mod (pe_ix (ix_listK K rfl) (pv 0) pe_int (fun _ _ => rfl)) pe_int) pe_int) (pe_op op_add (pe_op op_fdiv (pe_ix (ix_listK K rfl) (pv 0) pe_int (fun _ _ => rfl)) pe_int) pe_int)) pe_int) pe_int) (pv 1))))))) R1 ?tail1)), ?_⟩
  case tail1 =>
    rintro D' σ' H1 ⟨eD, x2, rfl, ⟨i, p, z, r, hf, hc, hi, hp, hz, hz2⟩, bt⟩
    refine ⟨_, rfl, f, _, _, _, rfl, rfl, SqL.of hf, atI_nat (j := 2) rfl, _, _, rfl, rfl, _, rfl, if_bl (fun c1 => ?_) (fun c1 => ?_)⟩
    · refine ⟨_, rfl, f, _, _, _, rfl, rfl, SqL.of hf, atI_nat (j := 2) rfl, _, rfl, _, _, rfl, rfl, m0, ?_⟩
      refine ⟨_, rfl, f, _, _, _, rfl, rfl, SqL.of hf, atI_nat (j := 2) rfl, _, rfl, _, _, rfl, rfl, ⟨m0, m9⟩, _, rfl, f, _, _, 2, rfl, rfl, hf, rfl, ?_⟩
      refine ⟨_, rfl, ?_⟩
      rw [eD]
      exact q _ _ (Int.emod_nonneg _ (by omega)) (Int.emod_lt_of_pos _ m0) ⟨ns, i, p / m, z, r, upd_same, (by rw [upd_ne ncf]; exact hc), hi, Int.ediv_nonneg hp (by omega), hz, hz2⟩ bt.upd
    · refine ⟨_, rfl, f, _, _, _, rfl, rfl, SqL.of hf, atI_nat (j := 4) rfl, _, _, rfl, rfl, _, rfl, f, _, _, 4, rfl, rfl, hf, rfl, ?_⟩
      have hf2 : upd H1 f (.lst ([V.ref c, V.int i, V.int p, V.int z, V.int r].set 4 (V.int (r + 1)))) f = some (.lst [.ref c, .int i, .int p, .int z, .int (r + 1)]) := upd_same
      refine ⟨_, rfl, f, _, _, _, rfl, rfl, SqL.of hf2, atI_nat (j := 3) rfl, _, _, rfl, rfl, .inl ⟨by omega, by omega⟩, _, _, rfl, rfl, _, rfl, f, _, _, _, rfl, rfl, SqL.of hf2, atI_nat (j := 4) rfl, _, _, rfl, rfl, _, _, rfl, rfl, (by show (0 : Int) < 2147483647; decide), _, rfl, f, _, _, 3, rfl, rfl, hf2, rfl, ?_⟩
      have z0 : 0 ≤ (z * 48271 + 12820163 + (r + 1)) % 2147483647 := Int.emod_nonneg _ (by decide)
      have z1 : (z * 48271 + 12820163 + (r + 1)) % 2147483647 < 2147483647 := Int.emod_lt_of_pos _ (by decide)
      have hf3 : upd (upd H1 f (.lst ([V.ref c, V.int i, V.int p, V.int z, V.int r].set 4 (V.int (r + 1))))) f (.lst ([V.ref c, V.int i, V.int p, V.int z, V.int (r + 1)].set 3 (V.int ((z * 48271 + 12820163 + (r + 1)) % 2147483647)))) f =
        some (.lst [.ref c, .int i, .int p, .int ((z * 48271 + 12820163 + (r + 1)) % 2147483647), .int (r + 1)]) := upd_same
      have hc3 : upd (upd H1 f (.lst ([V.ref c, V.int i, V.int p, V.int z, V.int r].set 4 (V.int (r + 1))))) f (.lst ([V.ref c, V.int i, V.int p, V.int z, V.int (r + 1)].set 3 (V.int ((z * 48271 + 12820163 + (r + 1)) % 2147483647)))) c = some (.lst (ns.map V.int)) := by
        rw [upd_ne ncf, upd_ne ncf]
        exact hc
      refine ⟨_, rfl, f, _, _, _, rfl, rfl, SqL.of hf3, atI_nat (j := 3) rfl, _, _, rfl, rfl, (by show (0 : Int) < 65521; decide), _, _, rfl, rfl, _, rfl, f, _, _, _, rfl, rfl, SqL.of hf3, atI_nat (j := 3) rfl, _, _, rfl, rfl, ⟨by decide, by decide⟩, _, _, rfl, rfl, _, _, rfl, rfl, .inl ⟨?_, ?_⟩, _, _, rfl, rfl, (by show (0 : Int) < 1000003; decide), _, _, rfl, rfl, ⟨by decide, by decide⟩, _, rfl, _, _, rfl, rfl, m0, ?_⟩
      · omega
      · omega
      · rw [eD]
        exact q _ _ (Int.emod_nonneg _ (by omega)) (Int.emod_lt_of_pos _ m0) ⟨ns, i, p, _, r + 1, hf3, hc3, hi, hp, z0, z1⟩ bt.upd.upd
  refine ⟨_, rfl, f, _, _, _, rfl, rfl, SqL.of hf, atI_nat (j := 2) rfl, rfl, _, rfl, if_bl (fun c1 => ?_) (fun c1 => ?_)⟩
  · refine ⟨_, rfl, f, _, _, _, rfl, rfl, SqL.of hf, atI_nat (j := 1) rfl, _, rfl, f, _, _, _, rfl, rfl, SqL.of hf, atI_nat (j := 0) rfl, c, _, rfl, .inl (SqL.of hc), _, _, rfl, rfl, _, rfl, if_bl (fun c2 => ?_) (fun c2 => ?_)⟩
    · have c3 : i < ((ns.map V.int).length : Int) := of_decide_eq_true c2
      rw [List.length_map] at c3
      obtain ⟨v, hv⟩ := at_ints hi c3
      refine ⟨_, rfl, f, _, _, _, rfl, rfl, SqL.of hf, atI_nat (j := 0) rfl, _, rfl, f, _, _, _, rfl, rfl, SqL.of hf, atI_nat (j := 1) rfl, c, _, i, _, rfl, rfl, SqL.of hc, hv, ?_⟩
      refine ⟨_, rfl, f, _, _, _, rfl, rfl, SqL.of hf, atI_nat (j := 1) rfl, _, _, rfl, rfl, _, rfl, f, _, _, 1, rfl, rfl, hf, rfl, ?_⟩
      have hf2 : upd H f (.lst ([V.ref c, V.int i, V.int p, V.int z, V.int r].set 1 (V.int (i + 1)))) f = some (.lst [.ref c, .int (i + 1), .int p, .int z, .int r]) := upd_same
      refine ⟨_, rfl, _, _, rfl, rfl, ⟨by decide, by decide, by decide⟩, _, _, rfl, rfl, _, rfl, if_bl (fun c4 => ?_) (fun c4 => ?_)⟩
      · have c5 : (10 : Int) ^ (18 : Int).toNat ≤ v := of_decide_eq_true c4
        have c6 : (0 : Int) ≤ (10 : Int) ^ (18 : Int).toNat := by decide
        refine ⟨_, rfl, _, rfl, f, _, _, 2, rfl, rfl, hf2, rfl, rfl, _, rfl, ⟨i + 1, v, z, r, upd_same, ?_, by omega, by omega, hz, hz2⟩, But.refl.upd.upd⟩
        rw [upd_ne ncf, upd_ne ncf]
        exact hc
      · refine ⟨_, rfl, f, _, _, _, rfl, rfl, SqL.of hf2, atI_nat (j := 3) rfl, _, _, rfl, rfl, .inl ⟨by omega, by omega⟩, _, rfl, _, _, rfl, rfl, (by show (0 : Int) < 1000003; decide), _, _, rfl, rfl, _, _, rfl, rfl, _, _, rfl, rfl, (by show (0 : Int) < 2147483647; decide), _, rfl, f, _, _, 3, rfl, rfl, hf2, rfl, rfl, _, rfl, ⟨i + 1, p, _, r, upd_same, ?_, by omega, hp, Int.emod_nonneg _ (by decide), Int.emod_lt_of_pos _ (by decide)⟩, But.refl.upd.upd⟩
        rw [upd_ne ncf, upd_ne ncf]
        exact hc
    · exact ⟨rfl, _, rfl, ⟨i, p, z, r, hf, hc, hi, hp, hz, hz2⟩, But.refl⟩
  · exact ⟨rfl, _, rfl, ⟨i, p, z, r, hf, hc, hi, hp, hz, hz2⟩, But.refl⟩
end
/-! ### rooms: what they are -/
/-- a hand: its rule's word, its number if it has one, its moments -/
structure HR where
  wd : Str
  no : Option Int
  mom : Int
/-- a belt -/
structure BR where
  one : Nat
  to : Nat
  th : List Int
abbrev ruleL (h : HR) : List V := .str h.wd :: (match h.no with | none => [] | some n => [.int n])
def HandAt (H : Hp) (v : V) (h : HR) : Prop := ∃ t r : Addr, v = .ref t ∧ H t = some (.tup [.ref r, .int h.mom]) ∧ H r = some (.tup (ruleL h))
def BeltAt (H : Hp) (v : V) (b : BR) : Prop := ∃ t g : Addr, v = .ref t ∧ H t = some (.tup [.int (b.one : Nat), .int (b.to : Nat), .ref g]) ∧ H g = some (.tup (b.th.map V.int))
theorem HandAt.keep {H H' : Hp} {v : V} {h : HR} (a : HandAt H v h) (k : TK H H') : HandAt H' v h := by
  obtain ⟨t, r, e, e1, e2⟩ := a
  exact ⟨t, r, e, k _ _ e1, k _ _ e2⟩
theorem BeltAt.keep {H H' : Hp} {v : V} {b : BR} (a : BeltAt H v b) (k : TK H H') : BeltAt H' v b := by
  obtain ⟨t, r, e, e1, e2⟩ := a
  exact ⟨t, r, e, k _ _ e1, k _ _ e2⟩
def nine : List Str := ["always", "same", "times", "sum", "gap", "below", "most", "least", "pick"]
def needs (wd : Str) : Int := if wd ∈ (["in", "always"] : List Str) then 0 else if wd ∈ (["out", "same", "times"] : List Str) then 1 else 2 + (if wd = "pick" then 1 else 0)
/-- a rule of one of the nine words -/
structure GoodRule (h : HR) : Prop where
  wd : h.wd ∈ nine
  no : h.no.isSome = true ↔ h.wd = "times" ∨ h.wd = "always"
  big : ∀ n, h.no = some n → -1000000 ≤ n ∧ n ≤ 1000000
def GoodHand (h : HR) : Prop := (GoodRule h ∨ ((h.wd = "in" ∨ h.wd = "out") ∧ h.no = none ∧ h.mom = 0)) ∧ 0 ≤ h.mom ∧ h.mom ≤ 30
def Small (v : Int) : Prop := -1000000 ≤ v ∧ v ≤ 1000000
section
variable {P : Program} {w : World} {K : PySem.W.Frag} {mg : Str → Option Value} {base : Heap}
def sp_law_thing (K : PySem.W.Frag) : Sp := fun vs H Q _ => ∃ f c : Addr, vs = [.ref f] ∧ Flow H f c ∧ ∀ (v : Int) (H' : Hp), Small v → Flow H' f c → But f H H' → Q (.int v) H'
theorem ok_law_thing {f : Addr} {fd : FuncData} (F : Fun K "_law_thing" "_law_thing" s_law_thing f fd) (T : Top w K mg) : FnOk P w K mg base CX0 2 f fd ["_law_flow_here"] (sp_law_thing K) := by
  obtain ⟨f_law_pick, fd_law_pick, F_law_pick, b_law_pick, m_law_pick⟩ := T.d_law_pick
  have G_law_pick := ok_law_pick (P := P) (w := w) (base := base) F_law_pick T
  refine F.ok sc_law_thing (fun vs H Q E h => ?_) (fun cdv A outer s H vs Q E hr h => ?_)
  · obtain ⟨f, c, rfl, _⟩ := h
    rfl
  obtain ⟨f, c, rfl, hF, q⟩ := h
  refine ⟨_, (pss_cons (ps_if (pt_cmpR op_gt (pe_call G_law_pick (hr.mono (by decide)) (by rfl) m_law_pick F_law_pick.kp b_law_pick .nil pass0 (pa_cons (pv 0) (pa_cons pe_int pa_nil))) pe_int (nomark _)) (pss_one (ps_ret (pe_op op_sub (pe_call G_law_pick (hr.mono (by decide)) (by rfl) m_law_pick F_law_pick.kp b_law_pick .nil pass0 (pa_cons (pv 0) (pa_cons pe_int pa_nil))) pe_int))) pss_nil)
      (pss_one (ps_ret (pe_op op_sub (pe_call G_law_pick (hr.mono (by decide)) (by rfl) m_law_pick F_law_pick.kp b_law_pick .nil pass0 (pa_cons (pv 0) (pa_cons pe_int pa_nil))) pe_int)))), ?_⟩
  refine ⟨_, rfl, f, c, 3, rfl, by decide, by decide +kernel, hF, fun v1 H1 a1 b1 F1 B1 => ⟨_, _, rfl, rfl, _, rfl, if_bl (fun _ => ?_) (fun _ => ?_)⟩⟩
  · exact ⟨_, rfl, f, c, 7, rfl, by decide, by decide +kernel, F1, fun v2 H2 a2 b2 F2 B2 => ⟨_, _, rfl, rfl, q _ _ ⟨by omega, by omega⟩ F2 (B1.trans B2)⟩⟩
  · exact ⟨_, rfl, f, c, 2000001, rfl, by decide, by decide +kernel, F1, fun v2 H2 a2 b2 F2 B2 => ⟨_, _, rfl, rfl, q _ _ ⟨by omega, by omega⟩ F2 (B1.trans B2)⟩⟩
def sp_law_needs (K : PySem.W.Frag) : Sp := fun vs H Q _ => ∃ (r : Addr) (wd : Str) (l : List V), vs = [.ref r] ∧ SqT K H r (.str wd :: l) ∧ ∀ H', Same H H' → Q (.int (needs wd)) H'
theorem ok_law_needs {f : Addr} {fd : FuncData} (F : Fun K "_law_needs" "_law_needs" s_law_needs f fd) (T : Top w K mg) : FnOk P w K mg base CX0 1 f fd ["_law_rule_here"] (sp_law_needs K) := by
  refine F.ok sc_law_needs (fun vs H Q E h => ?_) (fun cdv A outer s H vs Q E hr h => ?_)
  · obtain ⟨r, wd, l, rfl, _⟩ := h
    rfl
  obtain ⟨r, wd, l, rfl, hR, q⟩ := h
  unfold needs at q
  refine ⟨_, (pss_cons (ps_if (pt_cmpR (op_in_seqK K rfl) (pe_ix (ix_tupK K rfl) (pv 0) pe_int (fun _ _ => rfl)) (pe_tup (pa_cons pe_str (pa_cons pe_str pa_nil))) (by with_unfolding_all rfl)) (pss_one (ps_ret pe_int)) pss_nil)
      (pss_cons (ps_if (pt_cmpR (op_in_seqK K rfl) (pe_ix (ix_tupK K rfl) (pv 0) pe_int (fun _ _ => rfl)) (pe_tup (pa_cons pe_str (pa_cons pe_str (pa_cons pe_str pa_nil)))) (by with_unfolding_all rfl)) (pss_one (ps_ret pe_int)) pss_nil)
      (pss_one (ps_ret (pe_op op_add pe_int (pe_callTy call_int1 (by rfl) T.m_int (by decide +kernel) (pa_cons (pe_cmpR op_eq (pe_ix (ix_tupK K rfl) (pv 0) pe_int (fun _ _ => rfl)) pe_str (nomark _)) pa_nil))))))), ?_⟩
  refine ⟨_, rfl, r, _, _, _, rfl, rfl, hR, atI_nat (j := 0) rfl, (by show 2 ≤ sizeLine; decide), fun p np => ⟨p, _, rfl, .inr (SqT.of upd_same), rfl, rfl, _, rfl, if_in (zs := ["in", "always"]) (fun e => ?_) (fun e => ?_)⟩⟩
  · have q := q _ (same_new (o := .tup [V.str "in", V.str "always"]) np)
    rw [if_pos e] at q
    exact q
  have s1 := same_new (o := .tup [V.str "in", V.str "always"]) np
  refine ⟨_, rfl, r, _, _, _, rfl, rfl, same_seqT s1 hR, atI_nat (j := 0) rfl, (by show 3 ≤ sizeLine; decide), fun p2 np2 => ⟨p2, _, rfl, .inr (SqT.of upd_same), rfl, rfl, _, rfl, if_in (zs := ["out", "same", "times"]) (fun e2 => ?_) (fun e2 => ?_)⟩⟩
  · have q := q _ (s1.trans (same_new (o := .tup [V.str "out", V.str "same", V.str "times"]) np2))
    rw [if_neg e, if_pos e2] at q
    exact q
  have s2 := s1.trans (same_new (o := .tup [V.str "out", V.str "same", V.str "times"]) np2)
  have q := q _ s2
  rw [if_neg e, if_neg e2] at q
  refine ⟨_, rfl, r, _, _, _, rfl, rfl, same_seqT s2 hR, atI_nat (j := 0) rfl, rfl, .inr ⟨_, rfl, _, _, rfl, rfl, ?_⟩⟩
  by_cases k : wd = "pick"
  · rw [if_pos k] at q
    rw [decide_eq_true (show V.str wd = V.str "pick" by rw [k])]
    exact q
  · rw [if_neg k] at q
    rw [decide_eq_false (show ¬ V.str wd = V.str "pick" from fun z => k (V.str.inj z))]
    exact q
theorem nine_at {m : Int} (h0 : 0 ≤ m) (h9 : m < 9) : ∃ wd : Str, wd ∈ nine ∧ atI (nine.map V.str) m = some (.str wd) ∧ (m < 1 → needs wd ≤ 0) ∧ (m < 3 → needs wd ≤ 1) ∧ (m < 8 → needs wd ≤ 2) ∧ needs wd ≤ 3 ∧ 0 ≤ needs wd := by
  have : m = 0 ∨ m = 1 ∨ m = 2 ∨ m = 3 ∨ m = 4 ∨ m = 5 ∨ m = 6 ∨ m = 7 ∨ m = 8 := by omega
  rcases this with rfl | rfl | rfl | rfl | rfl | rfl | rfl | rfl | rfl
  · exact ⟨"always", by decide +kernel, rfl, by decide +kernel, by decide +kernel, by decide +kernel, by decide +kernel, by decide +kernel⟩
  · exact ⟨"same", by decide +kernel, rfl, by decide +kernel, by decide +kernel, by decide +kernel, by decide +kernel, by decide +kernel⟩
  · exact ⟨"times", by decide +kernel, rfl, by decide +kernel, by decide +kernel, by decide +kernel, by decide +kernel, by decide +kernel⟩
  · exact ⟨"sum", by decide +kernel, rfl, by decide +kernel, by decide +kernel, by decide +kernel, by decide +kernel, by decide +kernel⟩
  · exact ⟨"gap", by decide +kernel, rfl, by decide +kernel, by decide +kernel, by decide +kernel, by decide +kernel, by decide +kernel⟩
  · exact ⟨"below", by decide +kernel, rfl, by decide +kernel, by decide +kernel, by decide +kernel, by decide +kernel, by decide +kernel⟩
  · exact ⟨"most", by decide +kernel, rfl, by decide +kernel, by decide +kernel, by decide +kernel, by decide +kernel, by decide +kernel⟩
  · exact ⟨"least", by decide +kernel, rfl, by decide +kernel, by decide +kernel, by decide +kernel, by decide +kernel, by decide +kernel⟩
  · exact ⟨"pick", by decide +kernel, rfl, by decide +kernel, by decide +kernel, by decide +kernel, by decide +kernel, by decide +kernel⟩
def sp_law_rule (K : PySem.W.Frag) : Sp := fun vs H Q _ => ∃ (f c : Addr) (m : Int), vs = [.ref f, .int m] ∧ 0 ≤ m ∧ Flow H f c ∧
  ∀ (r : Addr) (h : HR) (H' : Hp), H' r = some (.tup (ruleL h)) → GoodRule h → needs h.wd ≤ m → 0 ≤ needs h.wd → h.mom = 0 → Flow H' f c → But f H H' → Q (.ref r) H'
theorem ok_law_rule {f : Addr} {fd : FuncData} (F : Fun K "_law_rule" "_law_rule" s_law_rule f fd) (T : Top w K mg) : FnOk P w K mg base CX0 3 f fd ["_law_flow_here", "_law_most"] (sp_law_rule K) := by
  obtain ⟨f_law_pick, fd_law_pick, F_law_pick, b_law_pick, m_law_pick⟩ := T.d_law_pick
  have G_law_pick := ok_law_pick (P := P) (w := w) (base := base) F_law_pick T
  obtain ⟨f_law_thing, fd_law_thing, F_law_thing, b_law_thing, m_law_thing⟩ := T.d_law_thing
  have G_law_thing := ok_law_thing (P := P) (w := w) (base := base) F_law_thing T
  refine F.ok sc_law_rule (fun vs H Q E h => ?_) (fun cdv A outer s H vs Q E hr h => ?_)
  · obtain ⟨f, c, m, rfl, _⟩ := h
    rfl
  obtain ⟨f, c, m, rfl, m0, hF, q⟩ := h
  refine ⟨_, (pss_cons (ps_set (i := 2) sc_law_rule.nd rfl (Or.inl rfl) (pe_lst (pa_cons pe_str (pa_cons pe_str (pa_cons pe_str (pa_cons pe_str (pa_cons pe_str (pa_cons pe_str (pa_cons pe_str (pa_cons pe_str (pa_cons pe_str pa_nil)))))))))))
      (pss_cons (ps_set (i := 3) sc_law_rule.nd rfl (Or.inl rfl) (pe_ix (ix_listK K rfl) (pv 2) (pe_call G_law_pick (hr.mono (by decide)) (by rfl) m_law_pick F_law_pick.kp b_law_pick .nil pass0 (pa_cons (pv 0) (pa_cons (pe_ix (ix_listK K rfl) (pe_lst (pa_cons pe_int (pa_cons pe_int (pa_cons pe_int (pa_cons pe_int pa_nil))))) (pe_callB (call_min2 rfl) (by rfl) T.m_min (by decide +kernel) (pa_cons pe_int (pa_cons (pv 1) pa_nil))) (fun _ _ => rfl)) pa_nil))) (fun _ _ => rfl)))
      (pss_cons (ps_if (pt_cmpR op_eq (pv 3) pe_str (nomark _)) (pss_one (ps_ret (pe_tup (pa_cons (pv 3) (pa_cons (pe_op op_sub (pe_call G_law_pick (hr.mono (by decide)) (by rfl) m_law_pick F_law_pick.kp b_law_pick .nil pass0 (pa_cons (pv 0) (pa_cons pe_int pa_nil))) pe_int) pa_nil))))) pss_nil)
      (pss_cons (ps_if (pt_cmpR op_eq (pv 3) pe_str (nomark _)) (pss_one (ps_ret (pe_tup (pa_cons (pv 3) (pa_cons (pe_call G_law_thing (hr.mono (by decide)) (by rfl) m_law_thing F_law_thing.kp b_law_thing .nil pass0 (pa_cons (pv 0) pa_nil)) pa_nil))))) pss_nil)
      (pss_one (ps_ret (pe_tup (pa_cons (pv 3) pa_nil)))))))), ?_⟩
  refine ⟨(by show 9 ≤ sizeLine; decide), fun wl nwl => ?_⟩
  have F1 : Flow (upd H wl (.lst (nine.map V.str))) f c := hF.new nwl
  refine ⟨_, rfl, _, rfl, (by show 4 ≤ sizeLine; decide), fun cl ncl => ?_⟩
  have F2 : Flow (upd (upd H wl (.lst (nine.map V.str))) cl (.lst [V.int 1, V.int 3, V.int 8, V.int 9])) f c := F1.new ncl
  have B2 : But f H (upd (upd H wl (.lst (nine.map V.str))) cl (.lst [V.int 1, V.int 3, V.int 8, V.int 9])) := (But.refl.new nwl).new ncl
  obtain ⟨j, hj, j1, j9, jn⟩ : ∃ j : Int, atI [V.int 1, V.int 3, V.int 8, V.int 9] (if m < 3 then m else 3) = some (.int j) ∧ 1 ≤ j ∧ j ≤ 9 ∧ ((j = 1 ∧ m = 0) ∨ (j = 3 ∧ m = 1) ∨ (j = 8 ∧ m = 2) ∨ (j = 9 ∧ 3 ≤ m)) := by
    by_cases k : m < 3
    · rw [if_pos k]
      have : m = 0 ∨ m = 1 ∨ m = 2 := by omega
      rcases this with rfl | rfl | rfl
      · exact ⟨1, rfl, by decide, by decide, by decide⟩
      · exact ⟨3, rfl, by decide, by decide, by decide⟩
      · exact ⟨8, rfl, by decide, by decide, by decide⟩
    · rw [if_neg k]
      exact ⟨9, rfl, by decide, by decide, by omega⟩
  refine ⟨_, rfl, _, _, rfl, cl, _, _, _, rfl, rfl, SqL.of upd_same, hj, f, c, j, rfl, by omega, ?_, F2, fun v H1 v0 v1 F3 B3 => ?_⟩
  · have : j = 1 ∨ j = 3 ∨ j = 8 ∨ j = 9 := by omega
    rcases this with rfl | rfl | rfl | rfl <;> decide +kernel
  obtain ⟨wd, hw, hat, n1, n3, n8, n9, n0⟩ := nine_at v0 (by omega)
  have hn : needs wd ≤ m := by
    rcases jn with ⟨rfl, rfl⟩ | ⟨rfl, rfl⟩ | ⟨rfl, rfl⟩ | ⟨rfl, k⟩
    · exact n1 v1
    · exact n3 v1
    · exact n8 v1
    · omega
  have hwl : H1 wl = some (.lst (nine.map V.str)) := B3 _ _ (same_new ncl _ _ upd_same) (hF.ne nwl)
  refine ⟨wl, _, _, _, rfl, rfl, SqL.of hwl, hat, ?_⟩
  have BB := B2.trans B3
  refine ⟨_, rfl, rfl, _, rfl, if_str (fun e => ?_) (fun e => ?_)⟩
  · refine ⟨_, rfl, _, rfl, f, c, 19, rfl, by decide, by decide +kernel, F3, fun v2 H2 a2 b2 F4 B4 => ⟨_, _, rfl, rfl, (by show 2 ≤ sizeLine; decide), fun r nr => ?_⟩⟩
    exact q r ⟨wd, some (v2 - 9), 0⟩ _ upd_same ⟨hw, ⟨fun _ => .inl e, fun _ => rfl⟩, fun n en => by cases en; exact ⟨by omega, by omega⟩⟩ hn n0 rfl (F4.new nr) ((BB.trans B4).new nr)
  refine ⟨_, rfl, rfl, _, rfl, if_str (fun e2 => ?_) (fun e2 => ?_)⟩
  · refine ⟨_, rfl, _, rfl, f, c, rfl, F3, fun v2 H2 s2 F4 B4 => ⟨(by show 2 ≤ sizeLine; decide), fun r nr => ?_⟩⟩
    exact q r ⟨wd, some v2, 0⟩ _ upd_same ⟨hw, ⟨fun _ => .inr e2, fun _ => rfl⟩, fun n en => by cases en; exact s2⟩ hn n0 rfl (F4.new nr) ((BB.trans B4).new nr)
  · refine ⟨_, rfl, (by show 1 ≤ sizeLine; decide), fun r nr => ?_⟩
    exact q r ⟨wd, none, 0⟩ _ upd_same ⟨hw, ⟨(fun z => nomatch z), fun z => absurd z (fun z => z.elim e e2)⟩, (fun n en => nomatch en)⟩ hn n0 rfl (F3.new nr) (BB.new nr)
def sp_law_shuffled (K : PySem.W.Frag) : Sp := fun vs H Q _ => ∃ (f c l : Addr) (xs : List V), vs = [.ref f, .ref l] ∧ SqL K H l xs ∧ l ≠ f ∧ xs.length ≤ 500 ∧ Flow H f c ∧
  ∀ (p : Addr) (ys : List V) (H' : Hp), ys.Perm xs → H p = none → H' p = some (.lst ys) → Flow H' f c → But f H H' → Q (.ref p) H'
theorem But.seqL {K : PySem.W.Frag} {f a : Addr} {H H1 : Hp} {xs : List V} (b : But f H H1) (h : SqL K H a xs) (n : a ≠ f) : SqL K H1 a xs := by
  rcases h with h | h
  · left
    rcases h with h | ⟨o, h⟩
    · exact .inl (b _ _ h n)
    · exact .inr ⟨o, b _ _ h n⟩
  · exact .inr h
theorem same_seqL {K : PySem.W.Frag} {a : Addr} {H H1 : Hp} {xs : List V} (b : Same H H1) (h : SqL K H a xs) : SqL K H1 a xs := by
  rcases h with h | h
  · left
    rcases h with h | ⟨o, h⟩
    · exact .inl (b _ _ h)
    · exact .inr ⟨o, b _ _ h⟩
  · exact .inr h
theorem log_small {m : Nat} (h : m ≤ 500) : ((m : Int)).natAbs.log2 < 9000 := by
  rw [Int.natAbs_natCast]
  exact Nat.lt_of_le_of_lt (Nat.log2_le_self m) (by omega)
theorem perm_erase {α : Type} : ∀ {l : List α} {j : Nat} {y : α}, l[j]? = some y → (y :: l.eraseIdx j).Perm l
  | [], _, _, h => nomatch h
  | a :: l, 0, y, h => by
    cases h
    exact List.Perm.refl _
  | a :: l, j + 1, y, h => by
    have ih : (y :: l.eraseIdx j).Perm l := perm_erase h
    exact (List.Perm.swap a y _).trans (ih.cons a)
theorem ok_law_shuffled {f : Addr} {fd : FuncData} (F : Fun K "_law_shuffled" "_law_shuffled" s_law_shuffled f fd) (T : Top w K mg) : FnOk P w K mg base CX0 2 f fd ["_law_flow_here", "_law_some"] (sp_law_shuffled K) := by
  obtain ⟨f_law_pick, fd_law_pick, F_law_pick, b_law_pick, m_law_pick⟩ := T.d_law_pick
  have G_law_pick := ok_law_pick (P := P) (w := w) (base := base) F_law_pick T
  refine F.ok sc_law_shuffled (fun vs H Q E h => ?_) (fun cdv A outer s H vs Q E hr h => ?_)
  · obtain ⟨f, c, l, xs, rfl, _⟩ := h
    rfl
  obtain ⟨f, c, l, xs, rfl, hL, nl, hlen, hF, q⟩ := h
  refine ⟨_, (pss_cons (ps_set (i := 2) sc_law_shuffled.nd rfl (Or.inr rfl) (pe_callTy (call_list_ofK K rfl) (by rfl) T.m_list (by decide +kernel) (pa_cons (pv 1) pa_nil)))
      (pss_one (ps_ret (pe_lc (own := [("_law_k", 3)]) (g := gName 3) (tt := tYes) (by rfl) sc_law_shuffled.nd (pi_range1 (by rfl) T.m_range (pa_cons (pe_callB (call_len_seqK K rfl) (by rfl) T.m_len (by decide +kernel) (pa_cons (pv 1) pa_nil)) pa_nil)) (blkOk_by (own := [("_law_k", 3)]) (N := N_law_shuffled) (sc := defScope s_law_shuffled) (by decide +kernel)) (fun _ _ _ _ _ => (pg_name (i := 3) sc_law_shuffled.nd rfl (Or.inl rfl))) (fun _ _ _ _ _ => pts_nil) (fun _ _ _ _ _ => (pe_bmK K rfl PySem.F.plainAttrs_list PySem.F.slot_list_pop PySem.F.type_list_pop mt_popAt (pv 2) (pa_cons (pe_call G_law_pick (hr.mono (by decide)) (by rfl) m_law_pick F_law_pick.kp b_law_pick .nil pass0 (pa_cons (pv 0) (pa_cons (pe_callB (call_len_seqK K rfl) (by rfl) T.m_len (by decide +kernel) (pa_cons (pv 2) pa_nil)) pa_nil))) pa_nil))))))), ?_⟩
  refine ⟨_, rfl, l, _, rfl, .inl hL, fun lf nlf => ?_⟩
  refine ⟨_, rfl, l, _, rfl, .inl (same_seqL (same_new nlf) hL), _, rfl, by omega, (by omega), fun D nD => ?_⟩
  have F1 : Flow (upd H lf (.lst xs)) f c := hF.new nlf
  have dl : D ≠ lf := (ne_of_none upd_same nD).symm
  refine lc_range (lo := 0) (n := xs.length) (fun i H5 => ∃ acc rest : List V, H5 D = some (.lst acc) ∧ H5 lf = some (.lst rest) ∧ acc.length = i ∧ rest.length + i = xs.length ∧ (acc ++ rest).Perm xs ∧ Flow H5 f c ∧ But f H H5)
    ⟨[], xs, upd_same, by rw [upd_ne dl.symm]; exact upd_same, rfl, by omega, List.Perm.refl _, F1.new nD, (But.refl.new nlf).new nD⟩ ?_ ?_
  · rintro i H5 hi ⟨acc, rest, hD, hl, ha, hr2, hp, F5, B5⟩
    refine ⟨rfl, yes_in ?_⟩
    refine ⟨_, rfl, .inl ⟨rfl, _, SqL.of hl⟩, _, rfl, _, rfl, lf, _, rfl, .inl (SqL.of hl), f, c, ((rest.length : Nat) : Int), rfl, by omega, log_small (by omega), F5, fun v H6 v0 v1 F6 B6 => ?_⟩
    have hl6 := B6 _ _ hl (hF.ne nlf)
    have hv : v.toNat < rest.length := by omega
    have e1 : seqIndex? v rest.length = some v.toNat := by
      rw [seqIndex_of v0 (by omega)]
    refine ⟨lf, rest, v, v.toNat, rest[v.toNat], rfl, rfl, hl6, by omega, by omega, e1, List.getElem?_eq_getElem hv, ?_⟩
    have hD6 := B6 _ _ hD (fun e => by rw [e] at nD; rw [show upd H lf (.lst xs) f = H f from upd_ne (hF.ne nlf).symm] at nD; obtain ⟨_, _, _, _, _, e1, _⟩ := hF; rw [e1] at nD; cases nD)
    refine ⟨acc, by rw [upd_ne dl]; exact hD6, small1000 (by omega), acc ++ [rest[v.toNat]], rest.eraseIdx v.toNat, upd_same, by rw [upd_ne dl.symm]; exact upd_same, by rw [List.length_append, ha]; rfl, ?_, ?_, ?_, ?_⟩
    · rw [List.length_eraseIdx, if_pos hv]
      omega
    · refine List.Perm.trans ?_ hp
      rw [List.append_assoc]
      exact List.Perm.append_left acc (perm_erase (List.getElem?_eq_getElem hv))
    · have dc : D ≠ c := fun e => by
        rw [e] at nD
        obtain ⟨_, _, _, _, _, _, e1, _⟩ := F1
        rw [e1] at nD
        cases nD
      exact (F6.lst (hF.ne nlf) (hF.nec nlf)).lst (F1.ne nD) dc
    · exact ((B5.trans B6).own nlf).own (same_none (same_new nlf) nD)
  · rintro H5 ⟨acc, rest, hD, hl, ha, hr2, hp, F5, B5⟩
    have er : rest = [] := by
      cases rest with
      | nil => rfl
      | cons a l => simp at hr2
    subst er
    rw [List.append_nil] at hp
    exact q D acc H5 hp (same_none (same_new nlf) nD) hD F5 B5
end
/-! ### the hands of a drawn room -/
def unS : V → Str
  | .str s => s
  | _ => ""
theorem perm_strs {ys : List V} {zs : List Str} (h : ys.Perm (zs.map V.str)) : ∃ ss : List Str, ys = ss.map V.str ∧ ss.Perm zs := by
  refine ⟨ys.map unS, ?_, ?_⟩
  · rw [List.map_map]
    symm
    refine (List.map_congr_left (g := id) fun y hy => ?_).trans (List.map_id _)
    obtain ⟨z, _, e⟩ := List.mem_map.mp (h.mem_iff.mp hy)
    subst e
    rfl
  · have q := h.map unS
    rw [List.map_map] at q
    have e : zs.map (unS ∘ V.str) = zs := (List.map_congr_left (g := id) fun z _ => rfl).trans (List.map_id _)
    rw [e] at q
    exact q
theorem flat_rep {α : Type} (x : α) : ∀ n : Nat, (List.replicate n [x]).flatten = List.replicate n x
  | 0 => rfl
  | n + 1 => by
    rw [List.replicate_succ, List.flatten_cons, flat_rep x n]
    rfl
def cnt (ss : List Str) : Nat := (ss.filter fun s => !decide (s = ("in" : Str))).length
theorem cnt_le (ss : List Str) : cnt ss ≤ ss.length := List.length_filter_le ..
theorem cut_drop (xs : List V) (k : Nat) : cutV xs (some ((k : Nat) : Int)) none = xs.drop k := by
  unfold cutV
  rw [HT.sIx_nat, HT.sIx_none]
  by_cases h : k ≤ xs.length
  · rw [Nat.min_eq_left h]
    exact List.take_of_length_le (by rw [List.length_drop]; exact Nat.le_refl _)
  · rw [Nat.min_eq_right (by omega), Nat.sub_self, List.take_zero, List.drop_eq_nil_of_le (by omega)]
structure HInv (f c sl hh : Addr) (ss : List Str) (H0 H : Hp) (i : Nat) (vs : List V) (hs : List HR) (left : Int) : Prop where
  fl : Flow H f c
  bt : But f H0 H
  hsl : H sl = some (.lst (ss.map V.str))
  hhh : H hh = some (.lst vs)
  al : All2 (HandAt H) vs hs
  len : hs.length = i
  good : ∀ h ∈ hs, GoodHand h
  lf : (cnt (ss.drop i) : Int) ≤ left
  sum : (hs.map fun h => needs h.wd).sum + left = 20
  nz : ∀ h ∈ hs, 0 ≤ needs h.wd
  one : ("hand" : Str) ∈ ss.take i → ∃ h ∈ hs, h.wd ≠ "out"
  n1 : sl ≠ f
  n2 : sl ≠ hh
  n3 : hh ≠ f
  n4 : hh ≠ c
  n5 : H0 hh = none
section
variable {f c sl hh : Addr} {ss : List Str} {H0 H H' : Hp} {i : Nat} {vs : List V} {hs : List HR} {left : Int}
theorem HInv.but (s : HInv f c sl hh ss H0 H i vs hs left) (F : Flow H' f c) (b : But f H H') : HInv f c sl hh ss H0 H' i vs hs left :=
  { s with fl := F, bt := s.bt.trans b, hsl := b _ _ s.hsl s.n1, hhh := b _ _ s.hhh s.n3, al := s.al.imp fun _ _ k => k.keep (TK.but s.fl b) }
theorem HInv.new {p : Addr} {o : HO} (s : HInv f c sl hh ss H0 H i vs hs left) (n : H p = none) : HInv f c sl hh ss H0 (upd H p o) i vs hs left :=
  { s with fl := s.fl.new n, bt := s.bt.new n, hsl := same_new n _ _ s.hsl, hhh := same_new n _ _ s.hhh, al := s.al.imp fun _ _ k => k.keep (TK.new n) }
theorem HInv.same (s : HInv f c sl hh ss H0 H i vs hs left) (k : Same H H') : HInv f c sl hh ss H0 H' i vs hs left :=
  { s with fl := s.fl.same k, bt := s.bt.same k, hsl := k _ _ s.hsl, hhh := k _ _ s.hhh, al := s.al.imp fun _ _ z => z.keep (TK.same k) }
theorem HInv.step {x : V} {h : HR} {sd : Str} (s : HInv f c sl hh ss H0 H i vs hs left) (hx : HandAt H x h) (g : GoodHand h) (z : 0 ≤ needs h.wd) (k : needs h.wd + (cnt (ss.drop (i + 1)) : Int) ≤ left) (e : ss[i]? = some sd) (o : sd = "hand" → h.wd ≠ "out") :
    HInv f c sl hh ss H0 (upd H hh (.lst (vs ++ [x]))) (i + 1) (vs ++ [x]) (hs ++ [h]) (left - needs h.wd) := by
  refine { s with fl := s.fl.lst s.n3 s.n4, bt := s.bt.own s.n5, hsl := by rw [upd_ne s.n2]; exact s.hsl, hhh := upd_same, al := (s.al.snoc hx).imp fun _ _ z => z.keep (TK.lst s.hhh), len := by rw [List.length_append, s.len]; rfl, good := ?_, lf := by omega, sum := ?_, nz := ?_, one := ?_ }
  · intro y hy
    rcases List.mem_append.mp hy with hy | hy
    · exact s.good y hy
    · obtain rfl : y = h := by simpa using hy
      exact g
  · have := s.sum
    rw [List.map_append, List.sum_append]
    simp only [List.map_cons, List.map_nil, List.sum_cons, List.sum_nil]
    omega
  · intro y hy
    rcases List.mem_append.mp hy with hy | hy
    · exact s.nz y hy
    · obtain rfl : y = h := by simpa using hy
      exact z
  · intro hm
    rw [List.take_add_one, e] at hm
    rcases List.mem_append.mp hm with hm | hm
    · obtain ⟨y, h1, h2⟩ := s.one hm
      exact ⟨y, List.mem_append_left _ h1, h2⟩
    · have e2 : ("hand" : Str) = sd := by simpa using hm
      exact ⟨h, List.mem_append_right _ (by simp), o e2.symm⟩
end
theorem cnt_cons {ss : List Str} {i : Nat} {sd : Str} (e : ss[i]? = some sd) : cnt (ss.drop i) = (if sd = "in" then 0 else 1) + cnt (ss.drop (i + 1)) := by
  have hi := (List.getElem?_eq_some_iff.mp e).1
  have e2 : ss.drop i = sd :: ss.drop (i + 1) := by
    rw [List.drop_eq_getElem_cons hi, (List.getElem?_eq_some_iff.mp e).2]
  rw [e2]
  unfold cnt
  rw [List.filter_cons]
  by_cases k : sd = "in"
  · rw [if_pos k, decide_eq_true k]
    simp
  · rw [if_neg k, decide_eq_false k]
    simp only [Bool.not_false, if_true, List.length_cons]
    omega
section
variable {P : Program} {w : World} {K : PySem.W.Frag} {mg : Str → Option Value} {base : Heap}
structure HandsOk (hs : List HR) : Prop where
  len : hs.length ≤ 12
  good : ∀ h ∈ hs, GoodHand h
  sum : (hs.map fun h => needs h.wd).sum ≤ 20
  nz : ∀ h ∈ hs, 0 ≤ needs h.wd
  one : ∃ h ∈ hs, h.wd ≠ "out"
def sp_law_hands (K : PySem.W.Frag) : Sp := fun vs H Q _ => ∃ (f c : Addr) (m : Int), vs = [.ref f, .int m] ∧ 1 ≤ m ∧ m ≤ 8 ∧ Flow H f c ∧
  ∀ (p : Addr) (xs : List V) (hs : List HR) (H' : Hp), H p = none → H' p = some (.lst xs) → All2 (HandAt H') xs hs → HandsOk hs → Flow H' f c → But f H H' → Q (.ref p) H'
theorem ok_law_hands {f : Addr} {fd : FuncData} (F : Fun K "_law_hands" "_law_hands" s_law_hands f fd) (T : Top w K mg) : FnOk P w K mg base CX0 4 f fd ["_law_flow_here", "_law_many"] (sp_law_hands K) := by
  obtain ⟨f_law_shuffled, fd_law_shuffled, F_law_shuffled, b_law_shuffled, m_law_shuffled⟩ := T.d_law_shuffled
  have G_law_shuffled := ok_law_shuffled (P := P) (w := w) (base := base) F_law_shuffled T
  obtain ⟨f_law_rule, fd_law_rule, F_law_rule, b_law_rule, m_law_rule⟩ := T.d_law_rule
  have G_law_rule := ok_law_rule (P := P) (w := w) (base := base) F_law_rule T
  obtain ⟨f_law_needs, fd_law_needs, F_law_needs, b_law_needs, m_law_needs⟩ := T.d_law_needs
  have G_law_needs := ok_law_needs (P := P) (w := w) (base := base) F_law_needs T
  obtain ⟨f_law_pick, fd_law_pick, F_law_pick, b_law_pick, m_law_pick⟩ := T.d_law_pick
  have G_law_pick := ok_law_pick (P := P) (w := w) (base := base) F_law_pick T
  refine F.ok sc_law_hands (fun vs H Q E h => ?_) (fun cdv A outer s H vs Q E hr h => ?_)
  · obtain ⟨f, c, m, rfl, _⟩ := h
    rfl
  obtain ⟨f, c, m, rfl, m1, m8, hF, q⟩ := h
  let R1 : TS := fun D' σ' H' => D'.rt = Q ∧ ∃ (sl : Addr) (ss : List Str), σ' = [some (.ref f), some (.int m), some (.ref sl), none, none, none, none, none, none, none] ∧ H' sl = some (.lst (ss.map V.str)) ∧ sl ≠ f ∧ ss.length ≤ 12 ∧ ("hand" : Str) ∈ ss ∧ (∀ s ∈ ss, s = "in" ∨ s = "out" ∨ s = "hand") ∧ Flow H' f c ∧ But f H H'
  refine ⟨_, (pss_cons (ps_set (i := 2) sc_law_hands.nd rfl (Or.inl rfl) (pe_op op_cat (pe_op op_cat (pe_op op_rep (pe_lst (pa_cons pe_str pa_nil)) (pe_call G_law_pick (hr.mono (by decide)) (by rfl) m_law_pick F_law_pick.kp b_law_pick .nil pass0 (pa_cons (pv 0) (pa_cons pe_int pa_nil)))) (pe_op op_rep (pe_lst (pa_cons pe_str pa_nil)) (pe_call G_law_pick (hr.mono (by decide)) (by rfl) m_law_pick F_law_pick.kp b_law_pick .nil pass0 (pa_cons (pv 0) (pa_cons pe_int pa_nil))))) (pe_op op_rep (pe_lst (pa_cons pe_str pa_nil)) (pv 1))))
      (pss_cons (ps_set (i := 2) sc_law_hands.nd rfl (Or.inl rfl) (pe_call G_law_shuffled (hr.mono (by decide)) (by rfl) m_law_shuffled F_law_shuffled.kp b_law_shuffled .nil pass0 (pa_cons (pv 0) (pa_cons (pv 2) pa_nil))))
      (PSs.to (pss_cons (ps_set (i := 3) sc_law_hands.nd rfl (Or.inl rfl) pe_int)
      (pss_cons (ps_set (i := 4) sc_law_hands.nd rfl (Or.inl rfl) (pe_lst pa_nil))
      (pss_cons (ps_for PassesOwn.never rfl (pi_enumK K rfl (by rfl) T.m_enumerate (pa_cons (pv 2) pa_nil)) (pg_tupK K rfl rfl (pgs_cons (pg_name (i := 5) sc_law_hands.nd rfl (Or.inl rfl)) (pgs_cons (pg_name (i := 6) sc_law_hands.nd rfl (Or.inl rfl)) pgs_nil)))
        (pss_cons (ps_if (pt_cmpR op_eq (pv 6) pe_str (nomark _)) (pss_cons (ps_set (i := 7) sc_law_hands.nd rfl (Or.inl rfl) (pe_callB (call_len_seqK K rfl) (by rfl) T.m_len (by decide +kernel) (pa_cons (pe_lc (own := [("_law_other", 8)]) (g := gName 8) (by rfl) sc_law_hands.nd (pi_listK K rfl (pe_slice (sl_listK K rfl) (pv 2) (po_some (pe_op op_add (pv 5) pe_int)) po_none)) (blkOk_by (own := [("_law_other", 8)]) (N := N_law_hands) (sc := defScope s_law_hands) (by decide +kernel)) (fun _ _ _ _ _ => (pg_name (i := 8) sc_law_hands.nd rfl (Or.inl rfl))) (fun _ _ _ _ _ => pts_one (pt_cmpR op_ne (pv 8) pe_str (nomark _))) (fun _ _ _ _ _ => (pv 8))) pa_nil)))
      (pss_cons (ps_set (i := 9) sc_law_hands.nd rfl (Or.inl rfl) (pe_call G_law_rule (hr.mono (by decide)) (by rfl) m_law_rule F_law_rule.kp b_law_rule .nil pass0 (pa_cons (pv 0) (pa_cons (pe_op op_sub (pv 3) (pv 7)) pa_nil))))
      (pss_one (ps_expr (pe_bmK K rfl PySem.F.plainAttrs_list PySem.F.slot_list_append PySem.F.type_list_append mt_append (pv 4) (pa_cons (pe_tup (pa_cons (pv 9) (pa_cons (pe_call G_law_pick (hr.mono (by decide)) (by rfl) m_law_pick F_law_pick.kp b_law_pick .nil pass0 (pa_cons (pv 0) (pa_cons (pe_ix (ix_listK K rfl) (pe_lst (pa_cons pe_int (pa_cons pe_int (pa_cons pe_int pa_nil)))) (pe_call G_law_pick (hr.mono (by decide)) (by rfl) m_law_pick F_law_pick.kp b_law_pick .nil pass0 (pa_cons (pv 0) (pa_cons pe_int pa_nil))) (fun _ _ => rfl)) pa_nil))) pa_nil))) pa_nil)))))) (pss_one (ps_expr (pe_bmK K rfl PySem.F.plainAttrs_list PySem.F.slot_list_append PySem.F.type_list_append mt_append (pv 4) (pa_cons (pe_tup (pa_cons (pe_tup (pa_cons (pv 6) pa_nil)) (pa_cons pe_int pa_nil))) pa_nil)))))
      (pss_one (ps_set (i := 3) sc_law_hands.nd rfl (Or.inl rfl) (pe_op op_sub (pv 3) (pe_call G_law_needs (hr.mono (by decide)) (by rfl) m_law_needs F_law_needs.kp b_law_needs .nil pass0 (pa_cons (pe_ix (ix_tupK K rfl) (pe_ix (ix_listK K rfl) (pv 4) (pe_un un_neg pe_int) (fun _ _ => rfl)) pe_int (fun _ _ => rfl)) pa_nil)))))))
      (pss_one (ps_ret (pv 4)))))) R1 ?tail1))), ?_⟩
  case tail1 =>
    rintro D' σ' H1 ⟨eD, sl, ss, rfl, hsl, nsl, hlen, hhand, hall, F1, B1⟩
    refine ⟨(by show 0 ≤ sizeLine; decide), fun hh nhh => ?_⟩
    have I0 : HInv f c sl hh ss H (upd H1 hh (.lst [])) 0 [] [] 20 :=
      { fl := F1.new nhh, bt := B1.new nhh, hsl := same_new nhh _ _ hsl, hhh := upd_same, al := .nil, len := rfl, good := (fun _ h => nomatch h), lf := by have := cnt_le (ss.drop 0); rw [List.length_drop] at this; omega, sum := rfl, nz := (fun _ h => nomatch h), one := (fun h => nomatch h), n1 := nsl, n2 := ne_of_none hsl nhh, n3 := F1.ne nhh, n4 := F1.nec nhh, n5 := B1.none nhh (F1.ne nhh) }
    refine ⟨_, rfl, sl, _, rfl, SqL.of I0.hsl, for_it (n := ss.length) (fun i σ H2 => ∃ (vs : List V) (hs : List HR) (left : Int) (v5 v6 v7 v8 v9 : Option V), σ = [some (.ref f), some (.int m), some (.ref sl), some (.int left), some (.ref hh), v5, v6, v7, v8, v9] ∧ HInv f c sl hh ss H H2 i vs hs left)
      ⟨[], [], 20, none, none, none, none, none, rfl, I0⟩ ?_ ?_ ?_ ?_⟩
    · rintro i σ H2 hi ⟨vs, hs, left, v5, v6, v7, v8, v9, rfl, I⟩
      exact ⟨_, _, SqL.of I.hsl, by rw [List.getElem?_map, List.getElem?_eq_getElem hi]; rfl⟩
    · rintro σ H2 ⟨vs, hs, left, v5, v6, v7, v8, v9, rfl, I⟩
      exact ⟨_, SqL.of I.hsl, by rw [List.length_map]; exact Nat.le_refl _⟩
    · rintro i x σ H2 H3 hi ⟨vs, hs, left, v5, v6, v7, v8, v9, rfl, I⟩ ⟨t, y, rfl, nt, rfl, fy⟩
      have ei : ss[i]? = some ss[i] := List.getElem?_eq_getElem hi
      obtain ⟨sd, hsd⟩ : ∃ sd, sd = ss[i] := ⟨_, rfl⟩
      rw [← hsd] at ei
      have ey : y = V.str sd := by
        have := fy _ (SqL.of I.hsl)
        rw [List.getElem?_map, ei] at this
        exact (Option.some.inj this).symm
      subst ey
      have I1 := I.new (o := .tup [V.int ((i : Nat) : Int), V.str sd]) nt
      have hc1 := cnt_cons ei
      have hl := I.lf
      have sz : vs.length < sizeLine := small1000 (by rw [I.al.length, I.len]; omega)
      refine ⟨t, _, rfl, SqT.of upd_same, rfl, _, _, rfl, _, _, rfl, rfl, ?_⟩
      refine ⟨_, rfl, rfl, _, rfl, if_str (fun e => ?_) (fun e => ?_)⟩
      · -- a hand
        refine ⟨_, rfl, _, rfl, _, _, rfl, rfl, _, rfl, sl, _, rfl, SqL.of I1.hsl, fun cp ncp => ?_⟩
        have I2 := I1.new (o := .lst (cutV (ss.map V.str) (some (((i : Nat) : Int) + 1)) none)) ncp
        have ecut : cutV (ss.map V.str) (some (((i : Nat) : Int) + 1)) none = (ss.drop (i + 1)).map V.str := by
          rw [show ((i : Nat) : Int) + 1 = ((i + 1 : Nat) : Int) by omega, cut_drop, List.map_drop]
        refine ⟨cp, rfl, ⟨_, SqL.of upd_same⟩, fun D nD => lc_list (K := K) (a := cp) (xs := cutV (ss.map V.str) (some (((i : Nat) : Int) + 1)) none) (fun j H5 => ∃ acc : List V, H5 D = some (.lst acc) ∧ acc.length = cnt ((ss.drop (i + 1)).take j) ∧ H5 cp = some (.lst (cutV (ss.map V.str) (some (((i : Nat) : Int) + 1)) none)) ∧ HInv f c sl hh ss H H5 i vs hs left ∧ D ≠ cp ∧ D ≠ f ∧ D ≠ c ∧ D ≠ sl ∧ D ≠ hh ∧ H D = Option.none)
          ⟨[], upd_same, rfl, same_new nD _ _ upd_same, I2.new nD, (ne_of_none upd_same nD).symm, I2.fl.ne nD, I2.fl.nec nD, (ne_of_none I2.hsl nD).symm, (ne_of_none I2.hhh nD).symm, I2.bt.none nD (I2.fl.ne nD)⟩ (fun j H5 _ ⟨_, _, _, h, _⟩ => SqL.of h) ?_ ?_⟩
        · rintro j z H5 hz ⟨acc, hD, hacc, hcp, I5, d1, d2, d3, d4, d5, d6⟩
          rw [ecut, List.getElem?_map] at hz
          cases ez : (ss.drop (i + 1))[j]? with
          | none => rw [ez] at hz; cases hz
          | some so =>
            rw [ez] at hz
            obtain rfl : V.str so = z := Option.some.inj hz
            refine ⟨rfl, _, rfl, rfl, _, rfl, if_bl (fun k => ?_) (fun k => ?_)⟩
            · have k2 : ¬ so = "in" := fun y => by
                rw [y] at k
                exact absurd k (by decide +kernel)
              refine ⟨_, rfl, acc, hD, ?_, acc ++ [V.str so], upd_same, ?_, by rw [upd_ne d1.symm]; exact hcp, ?_, d1, d2, d3, d4, d5, d6⟩
              · rw [hacc]
                have := cnt_le ((ss.drop (i + 1)).take j)
                rw [List.length_take, List.length_drop] at this
                exact small1000 (by omega)
              · rw [List.length_append, hacc, List.take_add_one, ez]
                unfold cnt
                rw [List.filter_append, List.length_append]
                simp [k2]
              · exact { I5 with fl := I5.fl.lst d2 d3, bt := I5.bt.own d6, hsl := by rw [upd_ne d4.symm]; exact I5.hsl, hhh := by rw [upd_ne d5.symm]; exact I5.hhh, al := I5.al.imp fun _ _ y => y.keep (TK.lst hD) }
            · have k2 : so = "in" := by
                by_cases y : so = "in"
                · exact y
                · have k3 : (!decide (V.str so = V.str "in")) = false := k
                  rw [decide_eq_false (fun y2 => y (V.str.inj y2))] at k3
                  cases k3
              refine ⟨acc, hD, ?_, hcp, I5, d1, d2, d3, d4, d5, d6⟩
              rw [hacc, List.take_add_one, ez]
              unfold cnt
              rw [List.filter_append, List.length_append]
              simp [k2]
        · rintro H5 ⟨acc, hD, hacc, hcp, I5, d1, d2, d3, d4, d5, d6⟩
          have hacc2 : acc.length = cnt (ss.drop (i + 1)) := by
            rw [hacc, List.take_of_length_le]
            rw [ecut, List.length_map]
            exact Nat.le_refl _
          have hm0 : 0 ≤ left - ((acc.length : Nat) : Int) := by
            have hne : ¬ sd = "in" := by rw [e]; decide +kernel
            rw [hacc2]
            rw [hc1, if_neg hne] at hl
            omega
          refine ⟨D, _, rfl, .inl (SqL.of hD), ?_⟩
          refine ⟨_, rfl, _, rfl, _, rfl, _, _, rfl, rfl, f, c, _, rfl, hm0, I5.fl, fun r hR H6 hr6 gR n1 n0 mo F6 B6 => ?_⟩
          have I6 := I5.but F6 B6
          refine ⟨_, rfl, .inl ⟨rfl, _, SqL.of I6.hhh⟩, _, rfl, _, rfl, (by show 3 ≤ sizeLine; decide), fun ml nml => ?_⟩
          have I7 := I6.new (o := .lst [V.int 5, V.int 5, V.int 31]) nml
          refine ⟨_, rfl, f, c, 3, rfl, by decide, by decide +kernel, I7.fl, fun z H8 z0 z3 F8 B8 => ?_⟩
          have I8 := I7.but F8 B8
          have hml := B8 _ _ upd_same (I6.fl.ne nml)
          obtain ⟨mm, hmm, mk⟩ : ∃ mm : Int, atI [V.int 5, V.int 5, V.int 31] z = some (.int mm) ∧ (mm = 5 ∨ mm = 31) := by
            have : z = 0 ∨ z = 1 ∨ z = 2 := by omega
            rcases this with rfl | rfl | rfl
            · exact ⟨5, rfl, .inl rfl⟩
            · exact ⟨5, rfl, .inl rfl⟩
            · exact ⟨31, rfl, .inr rfl⟩
          refine ⟨ml, _, _, _, rfl, rfl, SqL.of hml, hmm, f, c, mm, rfl, by omega, (by rcases mk with rfl | rfl <;> decide +kernel), I8.fl, fun mo2 H9 o0 o1 F9 B9 => ?_⟩
          have I9 := I8.but F9 B9
          refine ⟨(by show 2 ≤ sizeLine; decide), fun t2 nt2 => ?_⟩
          have I10 := I9.new (o := .tup [V.ref r, V.int mo2]) nt2
          have sz10 : vs.length < sizeLine := sz
          refine ⟨hh, _, _, rfl, rfl, I10.hhh, sz10, ?_⟩
          have k9 : TK H6 H9 := ((TK.new nml).trans (TK.but I7.fl B8)).trans (TK.but I8.fl B9)
          have hx : HandAt (upd H9 t2 (.tup [V.ref r, V.int mo2])) (V.ref t2) ⟨hR.wd, hR.no, mo2⟩ := ⟨t2, r, rfl, upd_same, TK.new nt2 _ _ (k9 _ _ hr6)⟩
          have gd : GoodHand ⟨hR.wd, hR.no, mo2⟩ := ⟨.inl ⟨gR.wd, gR.no, gR.big⟩, o0, (show mo2 ≤ 30 by omega)⟩
          have nout : hR.wd ≠ "out" := fun y => by
            have := gR.wd
            rw [y] at this
            exact absurd this (by decide +kernel)
          have I11 := I10.step (h := ⟨hR.wd, hR.no, mo2⟩) hx gd n0 (by show needs hR.wd + _ ≤ left; rw [hacc2] at n1; omega) ei (fun _ => nout)
          refine ⟨_, rfl, _, rfl, 1, rfl, hh, _, -1, _, rfl, rfl, SqL.of I11.hhh, atI_last _ _, t2, _, _, _, rfl, rfl, SqT.of (TK.lst I10.hhh _ _ upd_same), atI_nat (j := 0) rfl, r, hR.wd, _, rfl, SqT.of (TK.lst I10.hhh _ _ (TK.new nt2 _ _ (k9 _ _ hr6))), fun H12 s12 => ⟨_, _, rfl, rfl, ?_⟩⟩
          exact ⟨_, _, _, _, _, _, _, _, rfl, I11.same s12⟩
      · -- a door
        refine ⟨_, rfl, .inl ⟨rfl, _, SqL.of I1.hhh⟩, _, rfl, (by show 1 ≤ sizeLine; decide), fun r nr => ⟨(by show 2 ≤ sizeLine; decide), fun t2 nt2 => ?_⟩⟩
        have I2 := (I1.new (o := .tup [V.str sd]) nr).new (o := .tup [V.ref r, V.int 0]) nt2
        refine ⟨hh, _, _, rfl, rfl, I2.hhh, sz, ?_⟩
        have hsd2 : sd = "in" ∨ sd = "out" := by
          rcases hall sd (List.mem_of_getElem? ei) with y | y | y
          · exact .inl y
          · exact .inr y
          · exact absurd y e
        have hn : needs sd = (if sd = "in" then 0 else 1) := by
          rcases hsd2 with y | y <;> rw [y] <;> decide +kernel
        have hx : HandAt (upd (upd (upd H2 t (.tup [V.int ((i : Nat) : Int), V.str sd])) r (.tup [V.str sd])) t2 (.tup [V.ref r, V.int 0])) (V.ref t2) ⟨sd, none, 0⟩ := ⟨t2, r, rfl, upd_same, same_new nt2 _ _ upd_same⟩
        have I3 := I2.step (h := ⟨sd, none, 0⟩) hx ⟨.inr ⟨hsd2, rfl, rfl⟩, (show (0 : Int) ≤ 0 by decide), (show (0 : Int) ≤ 30 by decide)⟩ (by show 0 ≤ needs sd; rw [hn]; split <;> decide) (by
          show needs sd + _ ≤ left
          rw [hn]
          rw [hc1] at hl
          by_cases y : sd = "in"
          · rw [if_pos y] at hl ⊢; omega
          · rw [if_neg y] at hl ⊢; omega) ei (fun y => absurd y e)
        refine ⟨_, rfl, _, rfl, 1, rfl, hh, _, -1, _, rfl, rfl, SqL.of I3.hhh, atI_last _ _, t2, _, _, _, rfl, rfl, SqT.of (TK.lst I2.hhh _ _ upd_same), atI_nat (j := 0) rfl, r, sd, _, rfl, SqT.of (TK.lst I2.hhh _ _ (same_new nt2 _ _ upd_same)), fun H12 s12 => ⟨_, _, rfl, rfl, ?_⟩⟩
        exact ⟨_, _, _, _, _, _, _, _, rfl, I3.same s12⟩
    · rintro σ H2 ⟨vs, hs, left, v5, v6, v7, v8, v9, rfl, I⟩
      refine ⟨_, rfl, ?_⟩
      rw [eD]
      refine q hh vs hs H2 I.n5 I.hhh I.al ⟨by rw [I.len]; exact hlen, I.good, ?_, I.nz, I.one (by rw [List.take_length]; exact hhand)⟩ I.fl I.bt
      have := I.sum
      have := I.lf
      omega
  refine ⟨(by show 1 ≤ sizeLine; decide), fun l1 nl1 => ?_⟩
  refine ⟨_, rfl, f, c, 3, rfl, by decide, by decide +kernel, hF.new nl1, fun v1 H1 a1 b1 F1 B1 => ?_⟩
  have g1 := B1 _ _ upd_same (hF.ne nl1)
  have small : ∀ v : Int, 0 ≤ v → v ≤ 8 → [V.str "in"].length * v.toNat ≤ sizeLine := fun v v0 v8 => little (by show 1 * v.toNat ≤ 1000; omega)
  refine ⟨l1, v1, _, rfl, rfl, g1, by omega, by omega, small v1 a1 (by omega), fun p1 np1 => ?_⟩
  rw [flat_rep]
  have F2 := F1.new (o := .lst (List.replicate v1.toNat (V.str "in"))) np1
  refine ⟨(by show 1 ≤ sizeLine; decide), fun l2 nl2 => ?_⟩
  refine ⟨_, rfl, f, c, 3, rfl, by decide, by decide +kernel, F2.new nl2, fun v2 H3 a2 b2 F3 B3 => ?_⟩
  have g2 := B3 _ _ upd_same (F2.ne nl2)
  have h1 := B3 _ _ (same_new nl2 _ _ upd_same) (F1.ne np1)
  refine ⟨l2, v2, _, rfl, rfl, g2, by omega, by omega, small v2 a2 (by omega), fun p2 np2 => ?_⟩
  rw [flat_rep]
  have F4 := F3.new (o := .lst (List.replicate v2.toNat (V.str "out"))) np2
  refine ⟨p1, p2, _, _, rfl, rfl, same_new np2 _ _ h1, upd_same, ?_, fun p3 np3 => ?_⟩
  · rw [List.length_replicate, List.length_replicate]; exact little (by omega)
  have F5 := F4.new (o := .lst (List.replicate v1.toNat (V.str "in") ++ List.replicate v2.toNat (V.str "out"))) np3
  refine ⟨(by show 1 ≤ sizeLine; decide), fun l4 nl4 => ⟨_, rfl, l4, m, _, rfl, rfl, upd_same, by omega, by omega, small m (by omega) m8, fun p5 np5 => ?_⟩⟩
  rw [flat_rep]
  have F6 := F5.new (o := .lst [V.str "hand"]) nl4
  have F7 := F6.new (o := .lst (List.replicate m.toNat (V.str "hand"))) np5
  refine ⟨p3, p5, _, _, rfl, rfl, same_new np5 _ _ (same_new nl4 _ _ upd_same), upd_same, ?_, fun p6 np6 => ?_⟩
  · rw [List.length_append, List.length_replicate, List.length_replicate, List.length_replicate]; exact little (by omega)
  refine ⟨_, rfl, _, rfl, f, c, p6, _, rfl, SqL.of upd_same, F7.ne np6, ?_, F7.new np6, fun p ys H8 hp np hy F8 B8 => ?_⟩
  · rw [List.length_append, List.length_append, List.length_replicate, List.length_replicate, List.length_replicate]; omega
  have ez : (List.replicate v1.toNat (V.str "in") ++ List.replicate v2.toNat (V.str "out")) ++ List.replicate m.toNat (V.str "hand") = ((List.replicate v1.toNat ("in" : Str) ++ List.replicate v2.toNat ("out" : Str)) ++ List.replicate m.toNat ("hand" : Str)).map V.str := by
    rw [List.map_append, List.map_append, List.map_replicate, List.map_replicate, List.map_replicate]
  rw [ez] at hp
  obtain ⟨ss, rfl, hss⟩ := perm_strs hp
  have pf : p ≠ f := fun y => by
    rw [y] at np
    obtain ⟨_, _, _, _, _, e1, _⟩ := F7.new (o := .lst ((List.replicate v1.toNat (V.str "in") ++ List.replicate v2.toNat (V.str "out")) ++ List.replicate m.toNat (V.str "hand"))) np6
    rw [e1] at np
    cases np
  refine ⟨rfl, p, ss, rfl, hy, pf, ?_, ?_, ?_, F8, But.trans ((((((((((But.refl.new nl1).trans B1).new np1).new nl2).trans B3).new np2).new np3).new nl4).new np5).new np6) B8⟩
  · rw [hss.length_eq, List.length_append, List.length_append, List.length_replicate, List.length_replicate, List.length_replicate]; omega
  · refine hss.mem_iff.mpr (List.mem_append_right _ (List.mem_replicate.mpr ⟨by omega, rfl⟩))
  · intro s hs
    rcases List.mem_append.mp (hss.mem_iff.mp hs) with hs | hs
    · rcases List.mem_append.mp hs with hs | hs
      · exact .inl (List.mem_replicate.mp hs).2
      · exact .inr (.inl (List.mem_replicate.mp hs).2)
    · exact .inr (.inr (List.mem_replicate.mp hs).2)
end
/-! ### rules as data -/
abbrev ruleD (h : HR) : List PyData := .str h.wd :: (match h.no with | none => [] | some n => [.int n])
theorem rule_dp {K : PySem.W.Frag} {H : Hp} {r : Addr} {h : HR} (e : H r = some (.tup (ruleL h))) : Dp K H (.ref r) (.tuple (ruleD h)) := by
  obtain ⟨wd, no, mom⟩ := h
  cases no with
  | none => exact .tup (SqT.of e) (.cons (.str _) .nil)
  | some n => exact .tup (SqT.of e) (.cons (.str _) (.cons (.int _) .nil))
theorem rule_shaped {h : HR} (k : PyData.canLay0 (.str h.wd) = true) : SeqAt.shaped (.tuple (ruleD h)) = true := by
  obtain ⟨wd, no, mom⟩ := h
  have k : PyData.canLay0 (.str wd) = true := k
  cases no <;> simp [SeqAt.shaped, PyData.canLay0, PyData.canLayAll0, PyData.depth, PyData.depthAll] <;> simpa [PyData.canLay0] using k
theorem GoodHand.lay {h : HR} (g : GoodHand h) : PyData.canLay0 (.str h.wd) = true := by
  have : h.wd ∈ nine ∨ h.wd = "in" ∨ h.wd = "out" := g.1.elim (fun k => .inl k.wd) (fun k => .inr k.1)
  rcases this with k | k | k
  · unfold nine at k
    simp only [List.mem_cons, List.not_mem_nil, or_false] at k
    rcases k with k | k | k | k | k | k | k | k | k <;> rw [k] <;> decide +kernel
  · rw [k]; decide +kernel
  · rw [k]; decide +kernel
theorem one_shaped {z : Str} (k : PyData.canLay0 (.str z) = true) : SeqAt.shaped (.tuple [.str z]) = true := rule_shaped (h := ⟨z, none, 0⟩) k
theorem at0 {xs : List V} {i : Nat} {v : V} (h : xs[i]? = some v) : atI xs (0 + ((i : Nat) : Int)) = some v := by
  rw [Int.zero_add]
  exact atI_nat h
theorem rule_eqv (h : HR) (z : Str) : PyData.eqv (.tuple (ruleD h)) (.tuple [.str z]) = (decide (h.wd = z) && h.no.isNone) := by
  obtain ⟨wd, no, mom⟩ := h
  have e : (wd == z) = decide (wd = z) := by
    by_cases k : wd = z
    · rw [k, decide_eq_true rfl]; exact beq_self_eq_true z
    · rw [decide_eq_false k]; exact beq_eq_false_iff_ne.mpr k
  cases no with
  | none =>
    show (wd == z && true) = (decide (wd = z) && true)
    rw [e]
  | some n =>
    show (wd == z && false) = (decide (wd = z) && false)
    rw [Bool.and_false, Bool.and_false]
theorem GoodHand.door {h : HR} (g : GoodHand h) (z : Str) (hz : z = "in" ∨ z = "out") : (decide (h.wd = z) && h.no.isNone) = decide (h.wd = z) := by
  by_cases k : h.wd = z
  · rw [decide_eq_true k, Bool.true_and]
    rcases g.1 with g | g
    · have := g.wd
      rw [k] at this
      rcases hz with rfl | rfl <;> exact absurd this (by decide +kernel)
    · rw [g.2.1]; rfl
  · rw [decide_eq_false k]; rfl
theorem GoodHand.mom0 {h : HR} (g : GoodHand h) (z : h.wd = "in" ∨ h.wd = "out") : h.mom = 0 := by
  rcases g.1 with k | k
  · have := k.wd
    rcases z with z | z <;> rw [z] at this <;> exact absurd this (by decide +kernel)
  · exact k.2.2
/-! ### numbers in lists -/
abbrev nV (n : Nat) : V := .int (n : Nat)
def unN : V → Nat
  | .int i => i.toNat
  | _ => 0
def unI : V → Int
  | .int i => i
  | _ => 0
theorem perm_inv {α : Type} {f : α → V} {g : V → α} (k : ∀ a, g (f a) = a) {ys : List V} {zs : List α} (h : ys.Perm (zs.map f)) : ∃ ss : List α, ys = ss.map f ∧ ss.Perm zs := by
  refine ⟨ys.map g, ?_, ?_⟩
  · rw [List.map_map]
    symm
    refine (List.map_congr_left (g := id) fun y hy => ?_).trans (List.map_id _)
    obtain ⟨z, _, e⟩ := List.mem_map.mp (h.mem_iff.mp hy)
    subst e
    show f (g (f z)) = f z
    rw [k]
  · have q := h.map g
    rw [List.map_map] at q
    have e : zs.map (g ∘ f) = zs := (List.map_congr_left (g := id) fun z _ => k z).trans (List.map_id _)
    rw [e] at q
    exact q
def nd (hs : List HR) (j : Nat) : Nat := match hs[j]? with | some h => (needs h.wd).toNat | none => 0
def tkTo (hs : List HR) : Nat → List Nat
  | 0 => []
  | n + 1 => tkTo hs n ++ List.replicate (nd hs n) n
theorem tk_count (hs : List HR) (k : Nat) : ∀ n, (tkTo hs n).count k = if k < n then nd hs k else 0
  | 0 => by simp [tkTo]
  | n + 1 => by
    unfold tkTo
    rw [List.count_append, tk_count hs k n, List.count_replicate]
    by_cases h1 : k < n
    · have h2 : ¬ (n == k) = true := by simp; omega
      rw [if_pos h1, if_neg h2, if_pos (show k < n + 1 by omega), Nat.add_zero]
    · by_cases h2 : n = k
      · subst h2
        rw [if_neg h1, if_pos (beq_self_eq_true n), if_pos (show n < n + 1 by omega), Nat.zero_add]
      · have h3 : ¬ (n == k) = true := by simpa using h2
        rw [if_neg h1, if_neg h3, if_neg (show ¬ k < n + 1 by omega)]
theorem tk_mem (hs : List HR) : ∀ n k, k ∈ tkTo hs n → k < n
  | 0, k, h => nomatch h
  | n + 1, k, h => by
    rcases List.mem_append.mp h with h | h
    · exact Nat.lt_succ_of_lt (tk_mem hs n k h)
    · rw [(List.mem_replicate.mp h).2]; exact Nat.lt_succ_self n
theorem tk_len (hs : List HR) (z : ∀ h ∈ hs, 0 ≤ needs h.wd) : ∀ n, n ≤ hs.length → ((tkTo hs n).length : Int) = ((hs.take n).map fun h => needs h.wd).sum
  | 0, _ => rfl
  | n + 1, hn => by
    have e : hs[n]? = some hs[n] := List.getElem?_eq_getElem (by omega)
    unfold tkTo
    rw [List.length_append, List.length_replicate, List.take_add_one, e, List.map_append, List.sum_append, Int.natCast_add, tk_len hs z n (by omega)]
    unfold nd
    rw [e]
    have := z hs[n] (List.getElem_mem _)
    simp only [Option.toList, List.map_cons, List.map_nil, List.sum_cons, List.sum_nil]
    omega
structure RoomOk (hs : List HR) (bs : List BR) : Prop where
  hands : hs.length ≤ 12
  good : ∀ h ∈ hs, GoodHand h
  ends : ∀ b ∈ bs, b.one < hs.length ∧ b.to < hs.length
  out : ∀ b ∈ bs, ∀ h, hs[b.one]? = some h → h.wd ≠ "out"
  th : ∀ b ∈ bs, b.th.length ≤ 6 ∧ ∀ x ∈ b.th, Small x
  rank : ∃ rk : Nat → Int, ∀ b ∈ bs, b.th = [] → rk b.one < rk b.to
  count : ∀ k h, hs[k]? = some h → (((bs.map BR.to).count k : Nat) : Int) = needs h.wd
  many : bs.length ≤ 20
structure RoomAt (H : Hp) (r : Addr) (hs : List HR) (bs : List BR) : Prop where
  ex : ∃ (ha ba : Addr) (hv bv : List V), H r = some (.tup [.ref ha, .ref ba]) ∧ H ha = some (.tup hv) ∧ H ba = some (.tup bv) ∧ All2 (HandAt H) hv hs ∧ All2 (BeltAt H) bv bs
theorem RoomAt.keep {H H' : Hp} {r : Addr} {hs : List HR} {bs : List BR} (a : RoomAt H r hs bs) (k : TK H H') : RoomAt H' r hs bs := by
  obtain ⟨ha, ba, hv, bv, e1, e2, e3, a1, a2⟩ := a.ex
  exact ⟨ha, ba, hv, bv, k _ _ e1, k _ _ e2, k _ _ e3, a1.imp fun _ _ z => z.keep k, a2.imp fun _ _ z => z.keep k⟩
section
variable {P : Program} {w : World} {K : PySem.W.Frag} {mg : Str → Option Value} {base : Heap}
def sp_law_room (K : PySem.W.Frag) : Sp := fun vs H Q _ => ∃ (f c : Addr) (m : Int), vs = [.ref f, .int m] ∧ 1 ≤ m ∧ m ≤ 8 ∧ Flow H f c ∧
  ∀ (r : Addr) (hs : List HR) (bs : List BR) (H' : Hp), RoomAt H' r hs bs → RoomOk hs bs → Flow H' f c → But f H H' → Q (.ref r) H'
/-- what stands while a room is drawn: the draws, the list of its hands -/
structure RI (f c hh : Addr) (H0 H : Hp) (xs : List V) (hs : List HR) : Prop where
  fl : Flow H f c
  bt : But f H0 H
  lh : H hh = some (.lst xs)
  al : All2 (HandAt H) xs hs
  n1 : hh ≠ f
  n2 : H0 hh = none
section
variable {f c hh : Addr} {H0 H H' : Hp} {xs : List V} {hs : List HR}
theorem RI.but (s : RI f c hh H0 H xs hs) (F : Flow H' f c) (b : But f H H') : RI f c hh H0 H' xs hs :=
  { s with fl := F, bt := s.bt.trans b, lh := b _ _ s.lh s.n1, al := s.al.imp fun _ _ k => k.keep (TK.but s.fl b) }
theorem RI.new {p : Addr} {o : HO} (s : RI f c hh H0 H xs hs) (n : H p = none) : RI f c hh H0 (upd H p o) xs hs :=
  { s with fl := s.fl.new n, bt := s.bt.new n, lh := same_new n _ _ s.lh, al := s.al.imp fun _ _ k => k.keep (TK.new n) }
theorem RI.same (s : RI f c hh H0 H xs hs) (k : Same H H') : RI f c hh H0 H' xs hs :=
  { s with fl := s.fl.same k, bt := s.bt.same k, lh := k _ _ s.lh, al := s.al.imp fun _ _ z => z.keep (TK.same k) }
theorem RI.lst {D : Addr} {as bs : List V} (s : RI f c hh H0 H xs hs) (h : H D = some (.lst as)) (d1 : D ≠ f) (d2 : D ≠ c) (d3 : D ≠ hh) (d4 : H0 D = none) : RI f c hh H0 (upd H D (.lst bs)) xs hs :=
  { s with fl := s.fl.lst d1 d2, bt := s.bt.own d4, lh := by rw [upd_ne d3.symm]; exact s.lh, al := s.al.imp fun _ _ z => z.keep (TK.lst h) }
end
theorem ok_law_room {f : Addr} {fd : FuncData} (F : Fun K "_law_room" "_law_room" s_law_room f fd) (T : Top w K mg) : FnOk P w K mg base CX0 5 f fd ["_law_flow_here", "_law_most"] (sp_law_room K) := by
  obtain ⟨f_law_hands, fd_law_hands, F_law_hands, b_law_hands, m_law_hands⟩ := T.d_law_hands
  have G_law_hands := ok_law_hands (P := P) (w := w) (base := base) F_law_hands T
  obtain ⟨f_law_shuffled, fd_law_shuffled, F_law_shuffled, b_law_shuffled, m_law_shuffled⟩ := T.d_law_shuffled
  have G_law_shuffled := ok_law_shuffled (P := P) (w := w) (base := base) F_law_shuffled T
  obtain ⟨f_law_pick, fd_law_pick, F_law_pick, b_law_pick, m_law_pick⟩ := T.d_law_pick
  have G_law_pick := ok_law_pick (P := P) (w := w) (base := base) F_law_pick T
  obtain ⟨f_law_needs, fd_law_needs, F_law_needs, b_law_needs, m_law_needs⟩ := T.d_law_needs
  have G_law_needs := ok_law_needs (P := P) (w := w) (base := base) F_law_needs T
  obtain ⟨f_law_thing, fd_law_thing, F_law_thing, b_law_thing, m_law_thing⟩ := T.d_law_thing
  have G_law_thing := ok_law_thing (P := P) (w := w) (base := base) F_law_thing T
  refine F.ok sc_law_room (fun vs H Q E h => ?_) (fun cdv A outer s H vs Q E hr h => ?_)
  · obtain ⟨f, c, m, rfl, _⟩ := h
    rfl
  obtain ⟨f, c, m, rfl, m1, m8, hF, q⟩ := h
  have hm9 : m.natAbs.log2 < 9000 := by
    obtain ⟨j, rfl⟩ : ∃ j : Nat, m = (j : Int) := ⟨m.toNat, by omega⟩
    exact log_small (by omega)
  let R1 : TS := fun D' σ' H' => D'.rt = Q ∧ ∃ (hh rk gv : Addr) (xs : List V) (hs : List HR) (is : List Int) (gs : List Nat), σ' = [some (.ref f), some (.int m), some (.ref hh), some (.ref rk), some (.ref gv), none, none, none, none, none, none] ∧ RI f c hh H H' xs hs ∧ HandsOk hs ∧ H' rk = some (.lst (is.map V.int)) ∧ is.length = hs.length ∧ H' gv = some (.lst (gs.map nV)) ∧ gs ≠ [] ∧ gs.length ≤ 12 ∧ (∀ k ∈ gs, ∃ h, hs[k]? = some h ∧ h.wd ≠ "out") ∧ rk ≠ f ∧ gv ≠ f
  let R2 : TS := fun D' σ' H' => D'.rt = Q ∧ ∃ (hh rk gv tk : Addr) (xs : List V) (hs : List HR) (is : List Int) (gs ts : List Nat) (v5 : Option V), σ' = [some (.ref f), some (.int m), some (.ref hh), some (.ref rk), some (.ref gv), v5, some (.ref tk), none, none, none, none] ∧ RI f c hh H H' xs hs ∧ HandsOk hs ∧ H' rk = some (.lst (is.map V.int)) ∧ is.length = hs.length ∧ H' gv = some (.lst (gs.map nV)) ∧ gs ≠ [] ∧ gs.length ≤ 12 ∧ (∀ k ∈ gs, ∃ h, hs[k]? = some h ∧ h.wd ≠ "out") ∧ rk ≠ f ∧ gv ≠ f ∧ tk ≠ f ∧ H' tk = some (.lst (ts.map nV)) ∧ ts = tkTo hs hs.length
  refine ⟨_, (pss_cons (ps_set (i := 2) sc_law_room.nd rfl (Or.inr rfl) (pe_call G_law_hands (hr.mono (by decide)) (by rfl) m_law_hands F_law_hands.kp b_law_hands .nil pass0 (pa_cons (pv 0) (pa_cons (pe_op op_add pe_int (pe_call G_law_pick (hr.mono (by decide)) (by rfl) m_law_pick F_law_pick.kp b_law_pick .nil pass0 (pa_cons (pv 0) (pa_cons (pv 1) pa_nil)))) pa_nil))))
      (pss_cons (ps_set (i := 3) sc_law_room.nd rfl (Or.inl rfl) (pe_call G_law_shuffled (hr.mono (by decide)) (by rfl) m_law_shuffled F_law_shuffled.kp b_law_shuffled .nil pass0 (pa_cons (pv 0) (pa_cons (pe_listRg rfl (by rfl) T.m_list (prg_1 (by rfl) T.m_range (pe_callB (call_len_seqK K rfl) (by rfl) T.m_len (by decide +kernel) (pa_cons (pv 2) pa_nil)))) pa_nil))))
      (pss_cons (ps_setLc (i := 4) (own := [("_law_k", 5)]) (g := gName 5) (by rfl) sc_law_room.nd rfl rfl (sw_true rfl rfl rfl (by decide +kernel)) (pi_range1 (by rfl) T.m_range (pa_cons (pe_callB (call_len_seqK K rfl) (by rfl) T.m_len (by decide +kernel) (pa_cons (pv 2) pa_nil)) pa_nil)) (blkOk_by (own := [("_law_k", 5)]) (N := N_law_room) (sc := defScope s_law_room) (by decide +kernel)) (fun _ _ _ _ _ => (pg_name (i := 5) sc_law_room.nd rfl (Or.inl rfl))) (fun _ _ _ _ _ => pts_one (pt_cmpR (op_neDK K rfl hr.units) (pe_ix (ix_tupK K rfl) (pe_ix (ix_listK K rfl) (pv 2) (pv 5) (fun _ _ => rfl)) pe_int (fun _ _ => rfl)) (pe_tup (pa_cons pe_str pa_nil)) (nomark _))) (fun _ _ _ _ _ => (pv 5)))
      (PSs.to (pss_cons (ps_set (i := 6) sc_law_room.nd rfl (Or.inl rfl) (pe_lst pa_nil))
      (pss_cons (ps_for PassesOwn.never rfl (pi_range1 (by rfl) T.m_range (pa_cons (pe_callB (call_len_seqK K rfl) (by rfl) T.m_len (by decide +kernel) (pa_cons (pv 2) pa_nil)) pa_nil)) (pg_name (i := 5) sc_law_room.nd rfl (Or.inl rfl))
        (pss_one (ps_set (i := 6) sc_law_room.nd rfl (Or.inl rfl) (pe_op op_cat (pv 6) (pe_op op_rep (pe_lst (pa_cons (pv 5) pa_nil)) (pe_call G_law_needs (hr.mono (by decide)) (by rfl) m_law_needs F_law_needs.kp b_law_needs .nil pass0 (pa_cons (pe_ix (ix_tupK K rfl) (pe_ix (ix_listK K rfl) (pv 2) (pv 5) (fun _ _ => rfl)) pe_int (fun _ _ => rfl)) pa_nil)))))))
      (PSs.to (pss_cons (ps_set (i := 7) sc_law_room.nd rfl (Or.inl rfl) (pe_lst pa_nil))
      (pss_cons (ps_for PassesOwn.never rfl (pi_listK K rfl (pe_call G_law_shuffled (hr.mono (by decide)) (by rfl) m_law_shuffled F_law_shuffled.kp b_law_shuffled .nil pass0 (pa_cons (pv 0) (pa_cons (pv 6) pa_nil)))) (pg_name (i := 8) sc_law_room.nd rfl (Or.inl rfl))
        (pss_cons (ps_set (i := 9) sc_law_room.nd rfl (Or.inl rfl) (pe_ix (ix_listK K rfl) (pv 4) (pe_call G_law_pick (hr.mono (by decide)) (by rfl) m_law_pick F_law_pick.kp b_law_pick .nil pass0 (pa_cons (pv 0) (pa_cons (pe_callB (call_len_seqK K rfl) (by rfl) T.m_len (by decide +kernel) (pa_cons (pv 4) pa_nil)) pa_nil))) (fun _ _ => rfl)))
      (pss_cons (ps_set (i := 10) sc_law_room.nd rfl (Or.inl rfl) (pe_ix (ix_listK K rfl) (pe_lst (pa_cons pe_int (pa_cons pe_int (pa_cons pe_int (pa_cons pe_int (pa_cons pe_int (pa_cons pe_int (pa_cons pe_int (pa_cons pe_int pa_nil))))))))) (pe_call G_law_pick (hr.mono (by decide)) (by rfl) m_law_pick F_law_pick.kp b_law_pick .nil pass0 (pa_cons (pv 0) (pa_cons pe_int pa_nil))) (fun _ _ => rfl)))
      (pss_cons (ps_if (pt_cmpR op_ge (pe_ix (ix_listK K rfl) (pv 3) (pv 9) (fun _ _ => rfl)) (pe_ix (ix_listK K rfl) (pv 3) (pv 8) (fun _ _ => rfl)) (nomark _)) (pss_one (ps_set (i := 10) sc_law_room.nd rfl (Or.inl rfl) (pe_callB (call_max2 rfl) (by rfl) T.m_max (by decide +kernel) (pa_cons pe_int (pa_cons (pv 10) pa_nil))))) pss_nil)
      (pss_one (ps_expr (pe_bmK K rfl PySem.F.plainAttrs_list PySem.F.slot_list_append PySem.F.type_list_append mt_append (pv 7) (pa_cons (pe_tup (pa_cons (pv 9) (pa_cons (pv 8) (pa_cons (pe_callTy (call_tuple_ofK K rfl) (by rfl) T.m_tuple (by decide +kernel) (pa_cons (pe_lc (own := [("_law_k", 5)]) (g := gName 5) (tt := tYes) (by rfl) sc_law_room.nd (pi_range1 (by rfl) T.m_range (pa_cons (pv 10) pa_nil)) (blkOk_by (own := [("_law_k", 5)]) (N := N_law_room) (sc := defScope s_law_room) (by decide +kernel)) (fun _ _ _ _ _ => (pg_name (i := 5) sc_law_room.nd rfl (Or.inl rfl))) (fun _ _ _ _ _ => pts_nil) (fun _ _ _ _ _ => (pe_call G_law_thing (hr.mono (by decide)) (by rfl) m_law_thing F_law_thing.kp b_law_thing .nil pass0 (pa_cons (pv 0) pa_nil)))) pa_nil)) pa_nil)))) pa_nil))))))))
      (pss_one (ps_ret (pe_tup (pa_cons (pe_callTy (call_tuple_ofK K rfl) (by rfl) T.m_tuple (by decide +kernel) (pa_cons (pv 2) pa_nil)) (pa_cons (pe_callTy (call_tuple_ofK K rfl) (by rfl) T.m_tuple (by decide +kernel) (pa_cons (pv 7) pa_nil)) pa_nil))))))) R2 ?tail2))) R1 ?tail1)))), ?_⟩
  case tail2 =>
    rintro D' σ' H1 ⟨eD, hh, rk, gv, tk, xs, hs, is, gs, ts, v5, rfl, I1, ok, hrk, lis, hgv, gne, glen, gok, nrk, ngv, ntk, htk, ets⟩
    have hx : xs.length = hs.length := I1.al.length
    have len12 := ok.len
    have lts : ts.length ≤ 20 := by
      have a := tk_len hs ok.nz hs.length (Nat.le_refl _)
      rw [List.take_length, ← ets] at a
      have := ok.sum
      omega
    refine ⟨(by show 0 ≤ sizeLine; decide), fun bl nbl => ?_⟩
    have I2 := I1.new (o := .lst []) nbl
    refine ⟨_, rfl, _, rfl, f, c, tk, _, rfl, SqL.of (same_new nbl _ _ htk), ntk, by rw [List.length_map]; omega, I2.fl, fun sh ys H3 hp nsh hsh F3 B3 => ?_⟩
    obtain ⟨tt, rfl, htt⟩ := perm_inv (f := nV) (g := unN) (fun n => by show ((n : Nat) : Int).toNat = n; omega) hp
    have I3 := I2.but F3 B3
    have bf : bl ≠ f := I1.fl.ne nbl
    have bc : bl ≠ c := I1.fl.nec nbl
    have hbl3 := B3 _ _ upd_same bf
    have bsh : bl ≠ sh := fun e => by rw [← e, upd_same] at nsh; cases nsh
    have bnone : H bl = Option.none := I1.bt.none nbl bf
    have rank : Nat → Int := fun k => is.getD k 0
    refine ⟨sh, rfl, ⟨_, SqL.of hsh⟩, for_list (K := K) (a := sh) (xs := tt.map nV) (fun i σ H4 => ∃ (bv : List V) (bs : List BR) (v5 v8 v9 v10 : Option V), σ = [some (.ref f), some (.int m), some (.ref hh), some (.ref rk), some (.ref gv), v5, some (.ref tk), some (.ref bl), v8, v9, v10] ∧ RI f c hh H H4 xs hs ∧ H4 rk = some (.lst (is.map V.int)) ∧ H4 gv = some (.lst (gs.map nV)) ∧ H4 sh = some (.lst (tt.map nV)) ∧ H4 bl = some (.lst bv) ∧ All2 (BeltAt H4) bv bs ∧ bs.map BR.to = tt.take i ∧
        (∀ b ∈ bs, b.one < hs.length ∧ (∀ h, hs[b.one]? = some h → h.wd ≠ "out") ∧ b.th.length ≤ 6 ∧ (∀ x ∈ b.th, Small x) ∧ (b.th = [] → is.getD b.one 0 < is.getD b.to 0)))
      ⟨[], [], v5, none, none, none, rfl, I3, B3 _ _ (same_new nbl _ _ hrk) nrk, B3 _ _ (same_new nbl _ _ hgv) ngv, hsh, hbl3, .nil, rfl, (fun _ h => nomatch h)⟩ (fun i σ H4 _ ⟨_, _, _, _, _, _, _, _, _, _, h, _⟩ => SqL.of h) ?_ ?_⟩
    · rintro i y σ H4 hi ⟨bv, bs, v5, v8, v9, v10, rfl, I4, hrk4, hgv4, hsh4, hbl4, al, em, hb⟩
      rw [List.getElem?_map] at hi
      cases et : tt[i]? with
      | none => rw [et] at hi; cases hi
      | some to =>
      rw [et] at hi
      obtain rfl : nV to = y := Option.some.inj hi
      have toL : to < hs.length := tk_mem hs _ _ (by rw [← ets]; exact htt.mem_iff.mp (List.mem_of_getElem? et))
      have il : i < 20 := by have := (List.getElem?_eq_some_iff.mp et).1; rw [htt.length_eq] at this; omega
      have lb : bs.length = i := by
        have := congrArg List.length em
        rw [List.length_map, List.length_take, Nat.min_eq_left (Nat.le_of_lt (List.getElem?_eq_some_iff.mp et).1)] at this
        exact this
      have g0 : 0 < gs.length := List.length_pos_iff.mpr gne
      refine ⟨_, rfl, _, rfl, _, rfl, gv, _, rfl, .inl (SqL.of hgv4), f, c, _, rfl, (by rw [List.length_map]; omega), (by rw [List.length_map]; exact log_small (by omega)), I4.fl, fun z H5 z0 z1 F5 B5 => ?_⟩
      rw [List.length_map] at z1
      have I5 := I4.but F5 B5
      have hgv5 := B5 _ _ hgv4 ngv
      obtain ⟨one, eo, ho⟩ : ∃ one, atI (gs.map nV) z = some (nV one) ∧ one ∈ gs := by
        have hk : z.toNat < gs.length := by omega
        have ek : z = ((z.toNat : Nat) : Int) := by omega
        refine ⟨gs[z.toNat], ?_, List.getElem_mem _⟩
        have q2 : atI (gs.map nV) ((z.toNat : Nat) : Int) = some (nV gs[z.toNat]) := atI_nat (by rw [List.getElem?_map, List.getElem?_eq_getElem hk]; rfl)
        rw [← ek] at q2
        exact q2
      obtain ⟨ho1, eh1, hout⟩ := gok one ho
      have oneL : one < hs.length := (List.getElem?_eq_some_iff.mp eh1).1
      refine ⟨gv, _, _, _, rfl, rfl, SqL.of hgv5, eo, ?_⟩
      refine ⟨(by show 8 ≤ sizeLine; decide), fun tl ntl => ?_⟩
      have I6 := I5.new (o := .lst [V.int 0, V.int 0, V.int 0, V.int 1, V.int 1, V.int 2, V.int 3, V.int 6]) ntl
      refine ⟨_, rfl, f, c, 8, rfl, by decide, by decide +kernel, I6.fl, fun y2 H7 y0 y8 F7 B7 => ?_⟩
      have I7 := I6.but F7 B7
      have htl := B7 _ _ upd_same (I5.fl.ne ntl)
      obtain ⟨tr, htr, tr0, tr6⟩ : ∃ tr : Int, atI [V.int 0, V.int 0, V.int 0, V.int 1, V.int 1, V.int 2, V.int 3, V.int 6] y2 = some (.int tr) ∧ 0 ≤ tr ∧ tr ≤ 6 := by
        have : y2 = 0 ∨ y2 = 1 ∨ y2 = 2 ∨ y2 = 3 ∨ y2 = 4 ∨ y2 = 5 ∨ y2 = 6 ∨ y2 = 7 := by omega
        rcases this with rfl | rfl | rfl | rfl | rfl | rfl | rfl | rfl
        · exact ⟨0, rfl, by decide, by decide⟩
        · exact ⟨0, rfl, by decide, by decide⟩
        · exact ⟨0, rfl, by decide, by decide⟩
        · exact ⟨1, rfl, by decide, by decide⟩
        · exact ⟨1, rfl, by decide, by decide⟩
        · exact ⟨2, rfl, by decide, by decide⟩
        · exact ⟨3, rfl, by decide, by decide⟩
        · exact ⟨6, rfl, by decide, by decide⟩
      refine ⟨tl, _, _, _, rfl, rfl, SqL.of htl, htr, ?_⟩
      have k7 : But f H4 H7 := (B5.new ntl).trans B7
      have hrk7 := k7 _ _ hrk4 nrk
      have hgv7 := k7 _ _ hgv4 ngv
      have shf : sh ≠ f := fun e => by rw [e] at nsh; obtain ⟨_, _, _, _, _, e1, _⟩ := I2.fl; rw [e1] at nsh; cases nsh
      have hsh7 := k7 _ _ hsh4 shf
      have hbl7 := k7 _ _ hbl4 bf
      have tk7 : TK H4 H7 := (TK.but I4.fl B5).trans ((TK.new ntl).trans (TK.but I6.fl B7))
      have al7 : All2 (BeltAt H7) bv bs := al.imp fun _ _ z => z.keep tk7
      have r1 : (is.map V.int)[one]? = some (.int (is.getD one 0)) := by
        rw [List.getElem?_map, List.getD_eq_getElem?_getD, List.getElem?_eq_getElem (by omega)]; rfl
      have r2 : (is.map V.int)[to]? = some (.int (is.getD to 0)) := by
        rw [List.getElem?_map, List.getD_eq_getElem?_getD, List.getElem?_eq_getElem (by omega)]; rfl
      have bvl : bv.length = i := by rw [al.length, lb]
      -- the end of a turn, with so many trays
      refine ⟨_, rfl, _, rfl, rk, _, _, _, rfl, rfl, SqL.of hrk7, atI_nat r1, _, rfl, _, rfl, rk, _, _, _, rfl, rfl, SqL.of hrk7, atI_nat r2, _, _, rfl, rfl, _, rfl, if_bl (fun kk => ?_) (fun kk => ?_)⟩
      · refine ⟨_, rfl, _, _, rfl, ?_⟩
        generalize ht : (if tr > 1 then tr else 1) = tn
        have tn0 : 0 ≤ tn := by rw [← ht]; split <;> omega
        have tn6 : tn ≤ 6 := by rw [← ht]; split <;> omega
        have ttt : tn.toNat = 0 → is.getD one 0 < is.getD to 0 := fun e => by
          exfalso
          have : 1 ≤ tn := by rw [← ht]; split <;> omega
          omega
        refine ⟨_, rfl, .inl ⟨rfl, _, SqL.of hbl7⟩, _, rfl, _, rfl, _, rfl, _, rfl, by omega, by omega, fun D nD => lc_range (lo := 0) (n := tn.toNat) (fun j H8 => ∃ vs : List Int, vs.length = j ∧ H8 D = some (.lst (vs.map V.int)) ∧ (∀ x ∈ vs, Small x) ∧ RI f c hh H H8 xs hs ∧ But f H7 H8 ∧ TK H7 H8 ∧ D ≠ f ∧ D ≠ c ∧ D ≠ hh ∧ H D = Option.none ∧ H7 D = Option.none)
          ⟨[], rfl, upd_same, (fun _ h => nomatch h), I7.new nD, But.refl.new nD, TK.new nD, I7.fl.ne nD, I7.fl.nec nD, (ne_of_none I7.lh nD).symm, I7.bt.none nD (I7.fl.ne nD), nD⟩ ?_ ?_⟩
        · rintro j H8 hj ⟨vs, lv, hD, sm, I8, b8, t8, d1, d2, d3, d4, d5⟩
          refine ⟨rfl, yes_in ⟨_, rfl, f, c, rfl, I8.fl, fun x H9 sx F9 B9 => ⟨_, B9 _ _ hD d1, ?_, vs ++ [x], by rw [List.length_append, lv]; rfl, ?_, ?_, (I8.but F9 B9).lst (B9 _ _ hD d1) d1 d2 d3 d4, (b8.trans B9).own d5, (t8.trans (TK.but I8.fl B9)).trans (TK.lst (B9 _ _ hD d1)), d1, d2, d3, d4, d5⟩⟩⟩
          · rw [List.length_map, lv]; exact small1000 (by omega)
          · rw [upd_same, List.map_append]; rfl
          · intro y hy
            rcases List.mem_append.mp hy with hy | hy
            · exact sm y hy
            · obtain rfl : y = x := by simpa using hy
              exact sx
        · rintro H8 ⟨vs, lv, hD, sm, I8, b8, t8, d1, d2, d3, d4, d5⟩
          refine ⟨D, _, rfl, .inl ⟨SqL.of hD, fun g ng => ⟨(by show 3 ≤ sizeLine; decide), fun t nt => ?_⟩⟩⟩
          have I9 := (I8.new (o := .tup (vs.map V.int)) ng).new (o := .tup [nV one, nV to, V.ref g]) nt
          have hbl8 := same_new (o := .tup [nV one, nV to, V.ref g]) nt _ _ (same_new (o := .tup (vs.map V.int)) ng _ _ (b8 _ _ hbl7 bf))
          have t9 : TK H7 (upd (upd H8 g (.tup (vs.map V.int))) t (.tup [nV one, nV to, V.ref g])) := (t8.trans (TK.new ng)).trans (TK.new nt)
          have s9 : ∀ b o, H7 b = some o → b ≠ f → (upd (upd H8 g (.tup (vs.map V.int))) t (.tup [nV one, nV to, V.ref g])) b = some o := fun b o e n => same_new nt _ _ (same_new ng _ _ (b8 _ _ e n))
          have bh : bl ≠ hh := fun e => by
            have h1 := I1.lh
            rw [← e, nbl] at h1
            cases h1
          have brk : bl ≠ rk := fun e => by
            have h1 := hrk
            rw [← e, nbl] at h1
            cases h1
          have bgv : bl ≠ gv := fun e => by
            have h1 := hgv
            rw [← e, nbl] at h1
            cases h1
          refine ⟨bl, _, _, rfl, rfl, hbl8, small1000 (by rw [bvl]; omega), ?_⟩
          refine ⟨bv ++ [V.ref t], bs ++ [⟨one, to, vs⟩], _, _, _, _, rfl, I9.lst hbl8 bf bc bh bnone, ?_, ?_, ?_, upd_same, ?_, ?_, ?_⟩
          · rw [upd_ne brk.symm]; exact s9 _ _ hrk7 nrk
          · rw [upd_ne bgv.symm]; exact s9 _ _ hgv7 ngv
          · rw [upd_ne bsh.symm]; exact s9 _ _ hsh7 shf
          · exact ((al7.imp fun _ _ z => z.keep t9).snoc ⟨t, g, rfl, upd_same, same_new nt _ _ upd_same⟩).imp fun _ _ z => z.keep (TK.lst hbl8)
          · rw [List.map_append, em, List.take_add_one, et]; rfl
          · intro b hb2
            rcases List.mem_append.mp hb2 with hb2 | hb2
            · exact hb b hb2
            · obtain rfl : b = ⟨one, to, vs⟩ := by simpa using hb2
              refine ⟨oneL, fun h e => ?_, by show vs.length ≤ 6; omega, sm, fun e => ?_⟩
              · have e : hs[one]? = some h := e
                rw [eh1] at e
                cases e
                exact hout
              · have e : vs = [] := e
                rw [e] at lv
                exact ttt (by simpa using lv.symm)
      · obtain ⟨tn, ht⟩ : ∃ tn, tn = tr := ⟨_, rfl⟩
        rw [← ht]
        have tn0 : 0 ≤ tn := by omega
        have tn6 : tn ≤ 6 := by omega
        have ttt : tn.toNat = 0 → is.getD one 0 < is.getD to 0 := fun _ => by
          have : ¬ is.getD to 0 ≤ is.getD one 0 := of_decide_eq_false kk
          omega
        refine ⟨_, rfl, .inl ⟨rfl, _, SqL.of hbl7⟩, _, rfl, _, rfl, _, rfl, _, rfl, by omega, by omega, fun D nD => lc_range (lo := 0) (n := tn.toNat) (fun j H8 => ∃ vs : List Int, vs.length = j ∧ H8 D = some (.lst (vs.map V.int)) ∧ (∀ x ∈ vs, Small x) ∧ RI f c hh H H8 xs hs ∧ But f H7 H8 ∧ TK H7 H8 ∧ D ≠ f ∧ D ≠ c ∧ D ≠ hh ∧ H D = Option.none ∧ H7 D = Option.none)
          ⟨[], rfl, upd_same, (fun _ h => nomatch h), I7.new nD, But.refl.new nD, TK.new nD, I7.fl.ne nD, I7.fl.nec nD, (ne_of_none I7.lh nD).symm, I7.bt.none nD (I7.fl.ne nD), nD⟩ ?_ ?_⟩
        · rintro j H8 hj ⟨vs, lv, hD, sm, I8, b8, t8, d1, d2, d3, d4, d5⟩
          refine ⟨rfl, yes_in ⟨_, rfl, f, c, rfl, I8.fl, fun x H9 sx F9 B9 => ⟨_, B9 _ _ hD d1, ?_, vs ++ [x], by rw [List.length_append, lv]; rfl, ?_, ?_, (I8.but F9 B9).lst (B9 _ _ hD d1) d1 d2 d3 d4, (b8.trans B9).own d5, (t8.trans (TK.but I8.fl B9)).trans (TK.lst (B9 _ _ hD d1)), d1, d2, d3, d4, d5⟩⟩⟩
          · rw [List.length_map, lv]; exact small1000 (by omega)
          · rw [upd_same, List.map_append]; rfl
          · intro y hy
            rcases List.mem_append.mp hy with hy | hy
            · exact sm y hy
            · obtain rfl : y = x := by simpa using hy
              exact sx
        · rintro H8 ⟨vs, lv, hD, sm, I8, b8, t8, d1, d2, d3, d4, d5⟩
          refine ⟨D, _, rfl, .inl ⟨SqL.of hD, fun g ng => ⟨(by show 3 ≤ sizeLine; decide), fun t nt => ?_⟩⟩⟩
          have I9 := (I8.new (o := .tup (vs.map V.int)) ng).new (o := .tup [nV one, nV to, V.ref g]) nt
          have hbl8 := same_new (o := .tup [nV one, nV to, V.ref g]) nt _ _ (same_new (o := .tup (vs.map V.int)) ng _ _ (b8 _ _ hbl7 bf))
          have t9 : TK H7 (upd (upd H8 g (.tup (vs.map V.int))) t (.tup [nV one, nV to, V.ref g])) := (t8.trans (TK.new ng)).trans (TK.new nt)
          have s9 : ∀ b o, H7 b = some o → b ≠ f → (upd (upd H8 g (.tup (vs.map V.int))) t (.tup [nV one, nV to, V.ref g])) b = some o := fun b o e n => same_new nt _ _ (same_new ng _ _ (b8 _ _ e n))
          have bh : bl ≠ hh := fun e => by
            have h1 := I1.lh
            rw [← e, nbl] at h1
            cases h1
          have brk : bl ≠ rk := fun e => by
            have h1 := hrk
            rw [← e, nbl] at h1
            cases h1
          have bgv : bl ≠ gv := fun e => by
            have h1 := hgv
            rw [← e, nbl] at h1
            cases h1
          refine ⟨bl, _, _, rfl, rfl, hbl8, small1000 (by rw [bvl]; omega), ?_⟩
          refine ⟨bv ++ [V.ref t], bs ++ [⟨one, to, vs⟩], _, _, _, _, rfl, I9.lst hbl8 bf bc bh bnone, ?_, ?_, ?_, upd_same, ?_, ?_, ?_⟩
          · rw [upd_ne brk.symm]; exact s9 _ _ hrk7 nrk
          · rw [upd_ne bgv.symm]; exact s9 _ _ hgv7 ngv
          · rw [upd_ne bsh.symm]; exact s9 _ _ hsh7 shf
          · exact ((al7.imp fun _ _ z => z.keep t9).snoc ⟨t, g, rfl, upd_same, same_new nt _ _ upd_same⟩).imp fun _ _ z => z.keep (TK.lst hbl8)
          · rw [List.map_append, em, List.take_add_one, et]; rfl
          · intro b hb2
            rcases List.mem_append.mp hb2 with hb2 | hb2
            · exact hb b hb2
            · obtain rfl : b = ⟨one, to, vs⟩ := by simpa using hb2
              refine ⟨oneL, fun h e => ?_, by show vs.length ≤ 6; omega, sm, fun e => ?_⟩
              · have e : hs[one]? = some h := e
                rw [eh1] at e
                cases e
                exact hout
              · have e : vs = [] := e
                rw [e] at lv
                exact ttt (by simpa using lv.symm)
    · rintro σ H4 ⟨bv, bs, v5, v8, v9, v10, rfl, I4, hrk4, hgv4, hsh4, hbl4, al, em, hb⟩
      rw [List.length_map, List.take_length] at em
      have lb : bs.length = ts.length := by
        have := congrArg List.length em
        rw [List.length_map] at this
        rw [this, htt.length_eq]
      refine ⟨_, rfl, hh, _, rfl, .inl ⟨SqL.of I4.lh, fun a1 na1 => ⟨_, rfl, bl, _, rfl, .inl ⟨SqL.of (same_new na1 _ _ hbl4), fun a2 na2 => ⟨(by show 2 ≤ sizeLine; decide), fun a3 na3 => ?_⟩⟩⟩⟩⟩
      rw [eD]
      have k1 : TK H4 (upd (upd (upd H4 a1 (.tup xs)) a2 (.tup bv)) a3 (.tup [V.ref a1, V.ref a2])) := ((TK.new na1).trans (TK.new na2)).trans (TK.new na3)
      refine q a3 hs bs _ ⟨a1, a2, xs, bv, upd_same, same_new na3 _ _ (same_new na2 _ _ upd_same), same_new na3 _ _ upd_same, I4.al.imp fun _ _ z => z.keep k1, al.imp fun _ _ z => z.keep k1⟩ ⟨ok.len, ok.good, fun b hb2 => ⟨(hb b hb2).1, ?_⟩, fun b hb2 => (hb b hb2).2.1, fun b hb2 => ⟨(hb b hb2).2.2.1, (hb b hb2).2.2.2.1⟩, ⟨fun k => is.getD k 0, fun b hb2 => (hb b hb2).2.2.2.2⟩, fun k h hk => ?_, by omega⟩ (((I4.fl.new na1).new na2).new na3) (((I4.bt.new na1).new na2).new na3)
      · have : b.to ∈ bs.map BR.to := List.mem_map.mpr ⟨b, hb2, rfl⟩
        rw [em] at this
        exact tk_mem hs _ _ (by rw [← ets]; exact htt.mem_iff.mp this)
      · rw [em, htt.count_eq, ets, tk_count, if_pos (List.getElem?_eq_some_iff.mp hk).1]
        unfold nd
        rw [hk]
        have := ok.nz h (List.mem_of_getElem? hk)
        show (((needs h.wd).toNat : Nat) : Int) = needs h.wd
        omega
  case tail1 =>
    rintro D' σ' H1 ⟨eD, hh, rk, gv, xs, hs, is, gs, rfl, I1, ok, hrk, lis, hgv, gne, glen, gok, nrk, ngv⟩
    refine ⟨(by show 0 ≤ sizeLine; decide), fun tk ntk => ?_⟩
    have I2 := I1.new (o := .lst []) ntk
    have hx : xs.length = hs.length := I1.al.length
    refine ⟨_, rfl, hh, _, rfl, .inl (SqL.of I2.lh), _, rfl, by omega, (by rw [hx]; have := ok.len; omega), for_range (lo := 0) (n := xs.length) (fun i σ H2 => ∃ (tk : Addr) (v5 : Option V), σ = [some (.ref f), some (.int m), some (.ref hh), some (.ref rk), some (.ref gv), v5, some (.ref tk), none, none, none, none] ∧ RI f c hh H H2 xs hs ∧ H2 rk = some (.lst (is.map V.int)) ∧ H2 gv = some (.lst (gs.map nV)) ∧ tk ≠ f ∧ H2 tk = some (.lst ((tkTo hs i).map nV)))
      ⟨tk, none, rfl, I2, same_new ntk _ _ hrk, same_new ntk _ _ hgv, I1.fl.ne ntk, upd_same⟩ ?_ ?_⟩
    · rintro i σ H2 hi ⟨tk, v5, rfl, I3, hrk3, hgv3, tf, htk⟩
      have eh : hs[i]? = some hs[i] := List.getElem?_eq_getElem (by omega)
      obtain ⟨x, ex, ⟨t, r, rfl, e1, e2⟩⟩ := I3.al.get eh
      have z0 := ok.nz _ (List.mem_of_getElem? eh)
      have zs : needs hs[i].wd ≤ 3 := by
        unfold needs
        split
        · decide
        · split
          · decide
          · split <;> decide
      have sz : (tkTo hs i).length ≤ 20 := by
        have a := tk_len hs ok.nz i (by omega)
        have b : ((hs.take i).map fun h => needs h.wd).sum ≤ (hs.map fun h => needs h.wd).sum := by
          have e : hs.map (fun h => needs h.wd) = (hs.take i).map (fun h => needs h.wd) ++ (hs.drop i).map (fun h => needs h.wd) := by rw [← List.map_append, List.take_append_drop]
          rw [e, List.sum_append]
          have : 0 ≤ ((hs.drop i).map fun h => needs h.wd).sum := by
            have hz : ∀ h ∈ hs.drop i, 0 ≤ needs h.wd := fun h hh => ok.nz h (List.mem_of_mem_drop hh)
            revert hz
            generalize hs.drop i = l
            intro hz
            induction l with
            | nil => decide
            | cons a l ih =>
              have := hz a (List.mem_cons_self ..)
              have := ih fun h hh => hz h (List.mem_cons_of_mem _ hh)
              rw [List.map_cons, List.sum_cons]
              omega
          omega
        have := ok.sum
        omega
      refine ⟨_, rfl, _, rfl, (by show 1 ≤ sizeLine; decide), fun l1 nl1 => ?_⟩
      have I4 := I3.new (o := .lst [V.int (0 + ((i : Nat) : Int))]) nl1
      refine ⟨_, rfl, _, rfl, hh, _, _, _, rfl, rfl, SqL.of I4.lh, at0 ex, t, _, _, _, rfl, rfl, SqT.of (same_new nl1 _ _ e1), atI_nat (j := 0) rfl, r, hs[i].wd, _, rfl, SqT.of (same_new nl1 _ _ e2), fun H5 s5 => ?_⟩
      have I5 := I4.same s5
      have g1 := s5 _ _ upd_same
      have g2 := s5 _ _ (same_new nl1 _ _ htk)
      refine ⟨l1, _, _, rfl, rfl, g1, by omega, by omega, little (by show 1 * (needs hs[i].wd).toNat ≤ 1000; omega), fun l2 nl2 => ?_⟩
      rw [flat_rep]
      have I6 := I5.new (o := .lst (List.replicate (needs hs[i].wd).toNat (V.int (0 + ((i : Nat) : Int))))) nl2
      refine ⟨tk, l2, _, _, rfl, rfl, same_new nl2 _ _ g2, upd_same, ?_, fun l3 nl3 => ?_⟩
      · rw [List.length_map, List.length_replicate]; exact little (by omega)
      refine ⟨l3, _, rfl, I6.new nl3, same_new nl3 _ _ (same_new nl2 _ _ (s5 _ _ (same_new nl1 _ _ hrk3))), same_new nl3 _ _ (same_new nl2 _ _ (s5 _ _ (same_new nl1 _ _ hgv3))), I6.fl.ne nl3, ?_⟩
      rw [upd_same]
      have e : nd hs i = (needs hs[i].wd).toNat := by unfold nd; rw [eh]
      rw [show tkTo hs (i + 1) = tkTo hs i ++ List.replicate (nd hs i) i from rfl, List.map_append, List.map_replicate, e, Int.zero_add]
    · rintro σ H2 ⟨tk, v5, rfl, I3, hrk3, hgv3, tf, htk⟩
      exact ⟨eD, hh, rk, gv, tk, xs, hs, is, gs, _, v5, rfl, I3, ok, hrk3, lis, hgv3, gne, glen, gok, nrk, ngv, tf, htk, by rw [hx]⟩
  refine ⟨_, rfl, _, rfl, _, rfl, f, c, m, rfl, by omega, hm9, hF, fun v1 H1 a1 b1 F1 B1 => ?_⟩
  refine ⟨_, _, rfl, rfl, f, c, _, rfl, by omega, by omega, F1, fun hh xs hs H2 nhh hhh al ok F2 B2 => ?_⟩
  have hx : xs.length = hs.length := al.length
  have len12 := ok.len
  have nf : hh ≠ f := F1.ne nhh
  have I2 : RI f c hh H H2 xs hs := ⟨F2, B1.trans B2, hhh, al, nf, B1.none nhh nf⟩
  -- ranks
  refine ⟨_, rfl, _, rfl, hh, _, rfl, .inl (SqL.of I2.lh), _, rfl, ⟨by omega, by omega, by omega, by omega, by omega⟩, fun rg nrg => ?_⟩
  have I3 := I2.new (o := .lst (rgV 0 ((xs.length : Nat) : Int))) nrg
  refine ⟨f, c, rg, _, rfl, SqL.of upd_same, I2.fl.ne nrg, ?_, I3.fl, fun rk ys H4 hp nrk hrk F4 B4 => ?_⟩
  · rw [rgV_length]; omega
  have erg : rgV 0 ((xs.length : Nat) : Int) = ((List.range xs.length).map fun i => ((i : Nat) : Int)).map V.int := by
    unfold rgV
    rw [List.map_map, show (((xs.length : Nat) : Int) - 0).toNat = xs.length by omega]
    refine List.map_congr_left fun i _ => ?_
    show V.int (0 + ((i : Nat) : Int)) = V.int ((i : Nat) : Int)
    rw [Int.zero_add]
  rw [erg] at hp
  obtain ⟨is, rfl, his⟩ := perm_inv (f := V.int) (g := unI) (fun _ => rfl) hp
  have lis : is.length = hs.length := by rw [his.length_eq, List.length_map, List.length_range, hx]
  have I4 := I3.but F4 B4
  have rkf : rk ≠ f := I3.fl.ne nrk
  -- givers
  refine ⟨_, rfl, hh, _, rfl, .inl (SqL.of I4.lh), _, rfl, by omega, by omega, fun D nD => lc_range (lo := 0) (n := xs.length) (fun i H5 => ∃ gs : List Nat, H5 D = some (.lst (gs.map nV)) ∧ gs.length ≤ i ∧ RI f c hh H H5 xs hs ∧ H5 rk = some (.lst (is.map V.int)) ∧ (∀ k ∈ gs, ∃ h, hs[k]? = some h ∧ h.wd ≠ "out") ∧ (∀ k h, k < i → hs[k]? = some h → h.wd ≠ "out" → gs ≠ []) ∧ D ≠ f ∧ D ≠ c ∧ D ≠ hh ∧ D ≠ rk ∧ H D = Option.none)
    ⟨[], upd_same, Nat.le_refl _, I4.new nD, same_new nD _ _ hrk, (fun _ h => nomatch h), (fun k h hk => absurd hk (Nat.not_lt_zero _)), I4.fl.ne nD, I4.fl.nec nD, (ne_of_none I4.lh nD).symm, (ne_of_none hrk nD).symm, I4.bt.none nD (I4.fl.ne nD)⟩ ?_ ?_⟩
  · rintro i H5 hi ⟨gs, hD, lg, I5, hrk5, g1, g2, d1, d2, d3, d4, d5⟩
    have eh : hs[i]? = some hs[i] := List.getElem?_eq_getElem (by omega)
    obtain ⟨x, ex, ⟨t, r, rfl, e1, e2⟩⟩ := I5.al.get eh
    have gh := ok.good _ (List.mem_of_getElem? eh)
    refine ⟨rfl, _, rfl, _, rfl, hh, _, _, _, rfl, rfl, SqL.of I5.lh, at0 ex, t, _, _, _, rfl, rfl, SqT.of e1, atI_nat (j := 0) rfl, (by show 1 ≤ sizeLine; decide), fun o1 no1 => ?_⟩
    have I6 := I5.new (o := .tup [V.str "out"]) no1
    have hD6 : (upd H5 o1 (.tup [V.str "out"])) D = some (.lst (gs.map nV)) := same_new no1 _ _ hD
    refine ⟨_, _, rule_dp (same_new no1 _ _ e2), .tup (SqT.of upd_same) (.cons (.str _) .nil), rule_shaped gh.lay, one_shaped (by decide +kernel), _, rfl, ?_⟩
    rw [rule_eqv, gh.door "out" (.inr rfl)]
    by_cases k : hs[i].wd = "out"
    · rw [decide_eq_true k]
      refine if_bl (fun z => absurd z (by decide)) (fun _ => ⟨gs, hD6, by omega, I6, same_new no1 _ _ hrk5, g1, fun k' h' hk hk2 hk3 => ?_, d1, d2, d3, d4, d5⟩)
      by_cases y : k' = i
      · subst y
        rw [eh] at hk2
        cases hk2
        exact absurd k hk3
      · exact g2 k' h' (by omega) hk2 hk3
    · rw [decide_eq_false k]
      refine if_bl (fun _ => ⟨_, rfl, _, hD6, ?_, gs ++ [i], ?_, ?_, I6.lst hD6 d1 d2 d3 d5, ?_, ?_, fun _ _ _ _ _ z => by simp at z, d1, d2, d3, d4, d5⟩) (fun z => absurd z (by decide))
      · rw [List.length_map]; exact small1000 (by omega)
      · rw [upd_same, List.map_append, Int.zero_add]; rfl
      · rw [List.length_append]; show gs.length + 1 ≤ i + 1; omega
      · rw [upd_ne d4.symm]; exact same_new no1 _ _ hrk5
      · intro k' hk
        rcases List.mem_append.mp hk with hk | hk
        · exact g1 k' hk
        · obtain rfl : k' = i := by simpa using hk
          exact ⟨_, eh, k⟩
  · rintro H5 ⟨gs, hD, lg, I5, hrk5, g1, g2, d1, d2, d3, d4, d5⟩
    obtain ⟨h1, hm1, hm2⟩ := ok.one
    obtain ⟨k1, hk1⟩ := List.getElem?_of_mem hm1
    have k1l := (List.getElem?_eq_some_iff.mp hk1).1
    exact ⟨rfl, hh, rk, D, xs, hs, is, gs, rfl, I5, ok, hrk5, lis, hD, g2 k1 h1 (by omega) hk1 hm2, by omega, g1, rkf, d1⟩
end
/-! ### data of known size -/
structure Neat (d : PyData) (dp wt : Nat) : Prop where
  lay : d.canLay0 = true
  dep : d.depth ≤ dp
  wei : d.weight ≤ wt
  sho : d.intsShort 13 = true
  say : d.showable = true
  nod : d.hasDict = false
structure NeatAll (ds : List PyData) (dp wt : Nat) : Prop where
  lay : PyData.canLayAll0 ds = true
  dep : PyData.depthAll ds ≤ dp
  wei : PyData.weightAll ds ≤ wt
  sho : PyData.intsShortAll 13 ds = true
  say : PyData.showableAll ds = true
  nod : PyData.hasDictAll ds = false
theorem Neat.non {dp : Nat} : Neat .none dp 0 := ⟨rfl, Nat.zero_le _, Nat.le_refl _, by simp [PyData.intsShort], by simp [PyData.showable], by simp [PyData.hasDict]⟩
theorem Neat.bool {b : Bool} {dp : Nat} : Neat (.bool b) dp 0 := ⟨rfl, Nat.zero_le _, Nat.le_refl _, by simp [PyData.intsShort], by simp [PyData.showable], by simp [PyData.hasDict]⟩
theorem Neat.int {i : Int} {dp : Nat} (h : i.natAbs < 10 ^ 12) : Neat (.int i) dp 41 := by
  have l : i.natAbs.log2 < 40 := by
    by_cases z : i.natAbs = 0
    · rw [z]; decide
    · exact (Nat.log2_lt z).mpr (Nat.lt_trans h (by decide))
  refine ⟨rfl, Nat.zero_le _, ?_, ?_, ?_, by simp [PyData.hasDict]⟩
  · simp only [PyData.weight]
    split <;> omega
  · simp only [PyData.intsShort, decide_eq_true_eq]
    exact PyData.shown_int_le h
  · simp only [PyData.showable, decide_eq_true_eq]
    omega
theorem Neat.str {x : Str} {n dp : Nat} (h : PyData.canLay0 (.str x) = true) (hn : x.cps.size ≤ n) : Neat (.str x) dp n := ⟨h, Nat.zero_le _, hn, by simp [PyData.intsShort], by simp [PyData.showable], by simp [PyData.hasDict]⟩
theorem NeatAll.nil {dp : Nat} : NeatAll [] dp 0 := ⟨rfl, Nat.zero_le _, Nat.le_refl _, by simp [PyData.intsShortAll], by simp [PyData.showableAll], by simp [PyData.hasDictAll]⟩
theorem NeatAll.cons {d : PyData} {ds : List PyData} {dp a b : Nat} (h : Neat d dp a) (t : NeatAll ds dp b) : NeatAll (d :: ds) dp (a + 1 + b) := by
  refine ⟨?_, ?_, ?_, ?_, ?_, ?_⟩
  · simp only [PyData.canLayAll0, h.lay, t.lay, Bool.and_self]
  · simp only [PyData.depthAll]
    exact Nat.max_le.mpr ⟨h.dep, t.dep⟩
  · simp only [PyData.weightAll]
    have := h.wei
    have := t.wei
    omega
  · simp only [PyData.intsShortAll, h.sho, t.sho, Bool.and_self]
  · simp only [PyData.showableAll, h.say, t.say, Bool.and_self]
  · simp only [PyData.hasDictAll, h.nod, t.nod, Bool.or_self]
theorem Neat.mono {d : PyData} {a b c e : Nat} (h : Neat d a b) (x : a ≤ c) (y : b ≤ e) : Neat d c e := ⟨h.lay, Nat.le_trans h.dep x, Nat.le_trans h.wei y, h.sho, h.say, h.nod⟩
theorem NeatAll.mono {d : List PyData} {a b c e : Nat} (h : NeatAll d a b) (x : a ≤ c) (y : b ≤ e) : NeatAll d c e := ⟨h.lay, Nat.le_trans h.dep x, Nat.le_trans h.wei y, h.sho, h.say, h.nod⟩
theorem Neat.tup {ds : List PyData} {dp n : Nat} (h : NeatAll ds dp n) : Neat (.tuple ds) (dp + 1) n := by
  refine ⟨?_, ?_, ?_, ?_, ?_, ?_⟩
  · simp only [PyData.canLay0, h.lay]
  · simp only [PyData.depth]
    have := h.dep
    omega
  · simp only [PyData.weight]
    exact h.wei
  · simp only [PyData.intsShort, h.sho]
  · simp only [PyData.showable, h.say]
  · simp only [PyData.hasDict, h.nod]
theorem Neat.lst {ds : List PyData} {dp n : Nat} (h : NeatAll ds dp n) : Neat (.list ds) (dp + 1) n := by
  refine ⟨?_, ?_, ?_, ?_, ?_, ?_⟩
  · simp only [PyData.canLay0, h.lay]
  · simp only [PyData.depth]
    have := h.dep
    omega
  · simp only [PyData.weight]
    exact h.wei
  · simp only [PyData.intsShort, h.sho]
  · simp only [PyData.showable, h.say]
  · simp only [PyData.hasDict, h.nod]
theorem NeatAll.map {α : Type} {f : α → PyData} {dp n : Nat} : ∀ {l : List α}, (∀ x ∈ l, Neat (f x) dp n) → NeatAll (l.map f) dp (l.length * (n + 1))
  | [], _ => by rw [List.length_nil, Nat.zero_mul]; exact .nil
  | x :: l, h => by
    have t : NeatAll (l.map f) dp (l.length * (n + 1)) := NeatAll.map fun y hy => h y (List.mem_cons_of_mem _ hy)
    have := NeatAll.cons (h x (List.mem_cons_self ..)) t
    refine NeatAll.mono this (Nat.le_refl _) ?_
    rw [List.length_cons, Nat.add_mul]
    omega
theorem Neat.shaped {d : PyData} {dp n : Nat} (h : Neat d dp n) (k : dp ≤ 60) : SeqAt.shaped d = true := by
  unfold SeqAt.shaped
  rw [h.lay, Bool.true_and]
  exact decide_eq_true (by have := h.dep; omega)
theorem Neat.fits {d : PyData} {dp n : Nat} (h : Neat d dp n) (k : dp ≤ 60) (m : n ≤ 1000000) : d.shown.length ≤ sizeLine := by
  refine PyData.shown_fits_of_layable0 (B := 13) (by decide) (by decide) ?_ h.sho
  have a : d.canLay0 = true := h.lay
  have b : decide (d.depth ≤ 64) = true := decide_eq_true (by have := h.dep; omega)
  have c : decide (d.weight ≤ 2 ^ 20) = true := decide_eq_true (by have := h.wei; omega)
  unfold PyData.layable0
  rw [a, b, c]
  rfl
theorem dp_ints {K : PySem.W.Frag} {H : Hp} : ∀ ns : List Int, DpAll K H (ns.map V.int) (ns.map PyData.int)
  | [] => .nil
  | n :: ns => .cons (.int n) (dp_ints ns)
theorem dp_nats {K : PySem.W.Frag} {H : Hp} : ∀ ns : List Nat, DpAll K H (ns.map nV) (ns.map fun n => PyData.int ((n : Nat) : Int))
  | [] => .nil
  | n :: ns => .cons (.int _) (dp_nats ns)
theorem eqv_nil {ds : List PyData} : PyData.eqvAll ds [] = ds.isEmpty := by cases ds <;> rfl
/-! ### a room as data -/
abbrev handD (h : HR) : PyData := .tuple [.tuple (ruleD h), .int h.mom]
abbrev beltD (b : BR) : PyData := .tuple [.int ((b.one : Nat) : Int), .int ((b.to : Nat) : Int), .tuple (b.th.map PyData.int)]
abbrev roomD (hs : List HR) (bs : List BR) : PyData := .tuple [.tuple (hs.map handD), .tuple (bs.map beltD)]
theorem hands_dp {K : PySem.W.Frag} {H : Hp} {vs : List V} {hs : List HR} (a : All2 (HandAt H) vs hs) : DpAll K H vs (hs.map handD) := by
  induction a with
  | nil => exact .nil
  | cons h t ih =>
    obtain ⟨t, r, rfl, e1, e2⟩ := h
    exact .cons (.tup (SqT.of e1) (.cons (rule_dp e2) (.cons (.int _) .nil))) ih
theorem belts_dp {K : PySem.W.Frag} {H : Hp} {vs : List V} {bs : List BR} (a : All2 (BeltAt H) vs bs) : DpAll K H vs (bs.map beltD) := by
  induction a with
  | nil => exact .nil
  | cons h t ih =>
    obtain ⟨t, r, rfl, e1, e2⟩ := h
    exact .cons (.tup (SqT.of e1) (.cons (.int _) (.cons (.int _) (.cons (.tup (SqT.of e2) (dp_ints _)) .nil)))) ih
theorem RoomAt.dp {K : PySem.W.Frag} {H : Hp} {r : Addr} {hs : List HR} {bs : List BR} (a : RoomAt H r hs bs) : Dp K H (.ref r) (roomD hs bs) := by
  obtain ⟨ha, ba, hv, bv, e1, e2, e3, a1, a2⟩ := a.ex
  exact .tup (SqT.of e1) (.cons (.tup (SqT.of e2) (hands_dp a1)) (.cons (.tup (SqT.of e3) (belts_dp a2)) .nil))
theorem GoodHand.size {h : HR} (g : GoodHand h) : h.wd.cps.size ≤ 10 := by
  have : h.wd ∈ nine ∨ h.wd = "in" ∨ h.wd = "out" := g.1.elim (fun k => .inl k.wd) (fun k => .inr k.1)
  rcases this with k | k | k
  · unfold nine at k
    simp only [List.mem_cons, List.not_mem_nil, or_false] at k
    rcases k with k | k | k | k | k | k | k | k | k <;> rw [k] <;> decide +kernel
  · rw [k]; decide +kernel
  · rw [k]; decide +kernel
theorem GoodHand.neat {h : HR} (g : GoodHand h) : Neat (handD h) 2 200 := by
  obtain ⟨wd, no, mom⟩ := h
  have r : NeatAll (ruleD ⟨wd, no, mom⟩) 0 60 := by
    cases no with
    | none => exact (NeatAll.cons (Neat.str g.lay g.size) .nil).mono (Nat.le_refl _) (by decide)
    | some n =>
      have : -1000000 ≤ n ∧ n ≤ 1000000 := by
        rcases g.1 with k | k
        · exact k.big n rfl
        · exact nomatch k.2.1
      exact (NeatAll.cons (Neat.str g.lay g.size) (.cons (Neat.int (by omega)) .nil)).mono (Nat.le_refl _) (by decide)
  have m : Neat (.int mom) 1 41 := Neat.int (by have := g.2.1; have := g.2.2; simp only at *; omega)
  exact (Neat.tup (.cons (Neat.tup r) (.cons m .nil))).mono (Nat.le_refl _) (by decide)
theorem one_eqv (h : HR) (z : Str) : PyData.eqv (.tuple [.str z]) (.tuple (ruleD h)) = (decide (h.wd = z) && h.no.isNone) := by
  obtain ⟨wd, no, mom⟩ := h
  have e : (z == wd) = decide (wd = z) := by
    by_cases k : wd = z
    · rw [k, decide_eq_true rfl]; exact beq_self_eq_true z
    · rw [decide_eq_false k]; exact beq_eq_false_iff_ne.mpr fun y => k y.symm
  cases no with
  | none => show (z == wd && true) = (decide (wd = z) && true); rw [e]
  | some n => show (z == wd && false) = (decide (wd = z) && false); rw [Bool.and_false, Bool.and_false]
def comingN (bs : List BR) (k : Nat) : List Nat := (List.range bs.length).filter fun i => decide (bs[i]?.map BR.to = some k)
theorem filt_succ {p : Nat → Bool} (i : Nat) : (List.range (i + 1)).filter p = (List.range i).filter p ++ (if p i = true then [i] else []) := by
  rw [List.range_succ, List.filter_append]
  cases h : p i <;> simp [h]
theorem filt_len {p : Nat → Bool} (i : Nat) : ((List.range i).filter p).length ≤ i := by
  refine Nat.le_trans (List.length_filter_le ..) ?_
  rw [List.length_range]
  exact Nat.le_refl _
/-! ### all(..), any(..) over anything that can be walked, whatever a def of ours does in the element -/
section
open PySem.Spec GxR GenW
/-- the table's growth, when the generator's code object was got -/
structure GotC (P : Addr) (ps : Array Value) (z z' : Shared) : Prop where
  same : z' = { z with heap := z'.heap, toks := z'.toks }
  ext : Heap.ExtBut P z.heap z'.heap
  tab : ∃ more, z'.heap.get? P = some { cls := .none, data := .fields (ps ++ more) } ∧ TriplesOk (ps ++ more).toList
theorem code_gotC {prog : Program} {w : World} {A : Around} {E : Value → Shared → Prop} {env : Env} {gpos : Pos} {nm : Str} {scope : Scope} {c P : Addr} {ps : Array Value} {z : Shared}
    (hcode : env.code = .ref c) (cd : PySem.W.CodeHd z.heap c P) (hP : z.heap.get? P = some { cls := .none, data := .fields ps }) (ht : TriplesOk ps.toList) :
    wpAny (model prog w) A (genexprCode env gpos nm scope) (fun _ z' => GotC P ps z z') E z := by
  cases among : codeAmong gpos ps.toList with
  | some cv => exact wpAny_genexprCode_hit hcode (cd.code hP ht) among ⟨rfl, .refl _ _, #[], by simpa using hP, by simpa using ht⟩
  | none =>
    refine wpAny_genexprCodeX hcode (cd.code hP ht) (cd.tab hP) among fun c' h' tk ext ge lt co _ tab _ => ?_
    obtain ⟨_, _, _, _, _, _, _, _, _, _, _, _, _, _, _, _, _, _, _, tr, _⟩ := co
    exact ⟨rfl, ext, _, tab.2, tr⟩
/-- the generator sleeps: others may have run generators, nothing else has changed -/
def Woke (s s' : Shared) : Prop := ∃ (g' : Array GenState) (tk : Nat), s' = { s with gens := g', toks := tk } ∧ AllBare g'
theorem Woke.trans {a b c : Shared} (h : Woke a b) (k : Woke b c) : Woke a c := by
  obtain ⟨g1, t1, rfl, _⟩ := h
  obtain ⟨g2, t2, rfl, b2⟩ := k
  exact ⟨g2, t2, rfl, b2⟩
theorem inv_woke {X : Cx} {pins : List (Addr × Obj)} {σ : L2.St} {H : Hp} {s s' : Shared} (I : Inv X pins σ H s) (k : Woke s s') : Inv X pins σ H s' := by
  obtain ⟨g', tk, rfl, b⟩ := k
  exact I.call (h' := s.heap) (d' := s.drawn) (ch := []) Un.refl I.hok b (fun _ z => nomatch z)
theorem bare_set {a : Array GenState} {g : Nat} {x : GenState} (h : AllBare a) (hx : x.bare = true) : AllBare (a.setIfInBounds g x) := fun y hy => by
  obtain ⟨i, hi, e⟩ := Array.mem_iff_getElem.mp hy
  rw [Array.getElem_setIfInBounds] at e
  · by_cases z : g = i
    · rw [if_pos z] at e
      rw [← e]; exact hx
    · rw [if_neg z] at e
      rw [← e]; exact h _ (Array.getElem_mem _)
  · rw [Array.size_setIfInBounds] at hi
    exact hi
/-- the context of a generator's frame: the objects at fp are its iterator's -/
abbrev gcx (X : Cx) (A' : Around) (N' : List Str) (s : Shared) (H : Hp) (cenv : Env) (fp : List Addr) (pn : List (Addr × Obj)) : Cx :=
  { X with A := A', N := N', s_0 := s, H_0 := H, env := cenv, outer := X.stack, stack := cenv :: X.stack, ex := fp, fn := fun _ => false, pn := pn, xe := fun _ _ => False }
/-- a generator's names: its own, and those that it takes from the def around it -/
structure GenN (X : Cx) (scope : Scope) (N' : List Str) (sg : L2.St → L2.St) : Prop where
  kind : scope.kind = .function
  co : scope.isCoroutine = false
  cell : ∀ y ∈ scope.names, y.2 ≠ .cell
  dot : scope.names.lookup (".0" : Str) = some NameKind.local
  free : ∀ y ∈ scope.names, y.2 = .free → X.env.scope.names.lookup y.1 = some .cell ∨ X.env.scope.names.lookup y.1 = some .free
  len : ∀ σ, (sg σ).length = N'.length
  took : ∀ σ (i : Nat) x v, N'[i]? = some x → (sg σ)[i]? = some (some v) → scope.names.lookup x = some .free ∧ ∃ j : Nat, X.N[j]? = some x ∧ σ[j]? = some (some v)
theorem gen_start {X : Cx} {pins : List (Addr × Obj)} {σ : L2.St} {H : Hp} {s : Shared} {scope : Scope} {N' : List Str} {sg : L2.St → L2.St} {A' : Around} {it : Value} {fp : List Addr} {code : Value} {h' : Heap} {go : Obj} {gens' : Array GenState} {tk : Nat}
    (I : Inv X pins σ H s) (S : GenN X scope N' sg) (hfp : ∀ b ∈ fp, FpOk X pins H b ∧ b < s.heap.objs.size)
    (hA : A'.frames = some (genEnv scope (cloFrom X.env.cells scope.names []) s.heap.objs.size code builtinsNs X.env :: X.stack)) (hh : A'.handled = none)
    (hn : h'.Ns s.heap.objs.size (fun y => if y = ".0" then some it else none)) (sb : Heap.SameBut s.heap.objs.size (s.heap.push { cls := .type "frame", data := .dict #[] }) h') (hd : ∀ v, go.data ≠ .cell v)
    (hpush : (h'.push go).get? h'.objs.size = some go) (bare : AllBare gens') :
    Inv (gcx X A' N' s H (genEnv scope (cloFrom X.env.cells scope.names []) s.heap.objs.size code builtinsNs X.env) fp [(h'.objs.size, go)]) [] (sg σ) H { s with gens := gens', toks := tk, heap := h'.push go } := by
  have sz : h'.objs.size = s.heap.objs.size + 1 := by rw [sb.1, Heap.size_push]
  have keep : ∀ b o, s.heap.get? b = some o → (h'.push go).get? b = some o := fun b o e => Heap.get?_push_of_some _ (sb.extBut b o (Nat.ne_of_lt (Heap.lt_size e)) (Heap.get?_push_of_some _ e))
  have has : ∀ y ∈ scope.names, y.2 = .free → ∃ c, X.env.cells.lookup y.1 = some c := fun y hy e => I.ok.has _ ((S.free y hy e).elim .inl .inr)
  have look : ∀ {x : Str} {c : Addr}, (cloFrom X.env.cells scope.names []).lookup x = some c → (x, NameKind.free) ∈ scope.names ∧ X.env.cells.lookup x = some c := fun {x c} e => by
    rcases cloFrom_mem (PySem.mem_of_lookup e) with z | ⟨z1, z2⟩
    · cases z
    · obtain ⟨c', e'⟩ := has _ z1 rfl
      rw [e'] at z2
      exact ⟨z1, by rw [e', z2]; rfl⟩
  have find : ∀ {x : Str}, scope.names.lookup x = some .free → ∃ c, (cloFrom X.env.cells scope.names []).lookup x = some c := fun {x} e => mem_lookup (cloFrom_has (PySem.mem_of_lookup e))
  have apart : ∀ b, s.heap.objs.size ≤ b → b ∉ frs X.stack := fun b hb m => by
    rcases List.mem_cons.mp (I.stkSub b m) with z | z
    · exact absurd (Nat.lt_of_lt_of_le I.lt (z ▸ hb)) (Nat.lt_irrefl _)
    · exact I.nofs hb z
  refine ⟨⟨I.ok.mod, S.kind, I.ok.glob, rfl, Nat.le_refl _, fun x y c h1 h2 => I.ok.inj x y c (look h1).2 (look h2).2, fun x hx => ?_, (fun x c h _ => nomatch h), fun _ => hh, hA, .inr ⟨rfl, rfl⟩, fun b hb => ⟨Nat.ne_of_lt (hfp b hb).2, fun x c e => (hfp b hb).1.2.2.2.2.1 x c (look e).2⟩, I.bs, Nat.le_trans I.ok.bsz I.sz, fun b o e hb => ?_, fun b hb m => ?_, I.stack, I.stkFree⟩,
    rfl, bare, Un.kept keep, ⟨_, hn.push _, fun i x v h1 h2 h3 => ?_⟩, fun x c e => ?_, I.hok.fresh (Nat.le_refl _), fun x c e => I.freeC x c (look e).2, fun p hp => ?_, I.hok.kept keep, S.len σ⟩
  · rcases hx with hx | hx
    · exact absurd rfl (S.cell _ (PySem.mem_of_lookup (show scope.names.lookup x = some .cell from hx)))
    · exact find hx
  · rcases (hfp b hb).1.2.2.2.1 with z | z
    · exact I.ok.noex b o e z
    · exact absurd (Nat.lt_of_lt_of_le (Heap.lt_size e) (Nat.le_trans I.ok.bsz z)) (Nat.lt_irrefl _)
  · rcases List.mem_cons.mp (I.stkSub b m) with z | z
    · exact (hfp b hb).1.2.1 z
    · exact (hfp b hb).1.2.2.1 z
  · obtain ⟨fr, j, e1, e2⟩ := S.took σ i x v h1 h2
    have kn := S.free _ (PySem.mem_of_lookup fr) rfl
    obtain ⟨m0, _, hl⟩ := I.loc
    obtain ⟨u, r, lk⟩ := hl j x v e1 e2 (kn.elim (fun z => .inr (.inl z)) (fun z => .inr (.inr z)))
    refine ⟨u, r, ?_⟩
    rcases lk with ⟨z, _⟩ | ⟨_, c, ec, ic⟩
    · have z : X.env.scope.names.lookup x = some .local := z
      rcases kn with k | k <;> rw [k] at z <;> cases z
    · obtain ⟨c', e'⟩ := find fr
      have e3 := (look e').2
      rw [ec] at e3
      obtain rfl := Option.some.inj e3
      obtain ⟨o, ho, hc⟩ := ic
      exact .inr ⟨.inr fr, _, e', o, keep _ _ ho, hc⟩
  · obtain ⟨v, o, ho, hc⟩ := I.cell x c (look e).2
    exact ⟨v, o, keep _ _ ho, hc⟩
  · have hp : p ∈ [(h'.objs.size, go)] ++ ([] : List (Addr × Obj)) := hp
    rw [List.append_nil, List.mem_singleton] at hp
    subst hp
    exact ⟨hpush, I.hok.fresh (by rw [sz]; exact Nat.le_succ _), by show h'.objs.size ≠ s.heap.objs.size; rw [sz]; exact Nat.succ_ne_self _, apart _ (by rw [sz]; exact Nat.le_succ _), hd⟩
end
section
open PySem.Spec GxR GenW
variable {X : Cx} {A2 : Around} {N' : List Str} {s0 : Shared} {H0 : Hp} {cenv : Env} {fp : List Addr} {pn : List (Addr × Obj)} {tg elt iter : Expr} {scope : Scope} {gpos : Pos} {it : Addr}
/-- the around of a generator's turn -/
abbrev genA (A2 : Around) (tg elt iter : Expr) (scope : Scope) (gpos : Pos) (it : Addr) (cenv : Env) : Around := A2.over (.compLoop (.GeneratorExp elt [⟨tg, iter, [], 0⟩] scope gpos) 0 (.ref it) .none cenv) []
/-- what a generator tells at its end -/
def genR (G : Cx) (sgσ : L2.St) (kp : Bool) (Q : Bool → Hp → Prop) : GenEnd := fun _ _ r s1 => r = .ok .next ∧ ∃ H, Inv G [] sgσ H s1 ∧ Q kp H
/-- what it hands out: a truth; the truth kp, and it may be woken again -/
def genY (G : Cx) (sgσ : L2.St) (kp : Bool) (Q : Bool → Hp → Prop) : Protocol := fun _ _ v s1 kap => ∃ b H, v = .bool b ∧ Inv G [] sgσ H s1 ∧ (b ≠ kp → Q b H) ∧ (b = kp → ∀ s2, Woke s1 s2 → kap (.send .none) s2)
theorem gen_loop {J : It} {tn : Nat → Heap → Prop} {g : TG} {te : TE} {sgσ : L2.St} {vs : List Nat} {kp : Bool} {Q : Bool → Hp → Prop} {W : Nat → Nat → Hp → Prop}
    (T : Turn X.prog X.w X.K tg J fp it tn) (hc : X.calm = true) (hco : cenv.scope.isCoroutine = false) (hpn : ∀ p ∈ pn, ∀ b ∈ fp, p.1 ≠ b)
    (pg : L2.PG (gcx X (genA A2 tg elt iter scope gpos it cenv) N' s0 H0 cenv fp pn) tg g) (pe : L2.PE (gcx X (genA A2 tg elt iter scope gpos it cenv) N' s0 H0 cenv fp pn) elt te)
    (turn : ∀ i m H, W i m H → (J.stop i H ∧ Q kp H) ∨ (J.go i H ∧ ∃ Nx : Hp → Prop, (∀ H', Nx H' → ∃ m', m' < m ∧ W (i + 1) m' H') ∧ ∀ x H', J.yld i H x H' → g x sgσ H' fun σ2 H2 => wipe σ2 vs = sgσ ∧ te σ2 H2 fun y H3 => ∃ b, y = .bl b ∧ (b ≠ kp → Q b H3) ∧ (b = kp → Nx H3))) :
    ∀ (n i m : Nat) (s₀ s : Shared) (H : Hp), m < n → Inv (gcx X (genA A2 tg elt iter scope gpos it cenv) N' s0 H0 cenv fp pn) [] sgσ H s → tn i s.heap → (∀ b ∈ fp, H b = none) → W i m H →
      Seg (model X.prog X.w) A2 (genR (gcx X (genA A2 tg elt iter scope gpos it cenv) N' s0 H0 cenv fp pn) sgσ kp Q) (genY (gcx X (genA A2 tg elt iter scope gpos it cenv) N' s0 H0 cenv fp pn) sgσ kp Q) n s₀
        (.compLoop (.GeneratorExp elt [⟨tg, iter, [], 0⟩] scope gpos) 0 (.ref it) .none cenv) ((model X.prog X.w).den (.compLoop (.GeneratorExp elt [⟨tg, iter, [], 0⟩] scope gpos) 0 (.ref it) .none cenv)) [] s := by
  have stat : ∀ {σ' : L2.St} {H' : Hp} {s' : Shared}, Inv (gcx X (genA A2 tg elt iter scope gpos it cenv) N' s0 H0 cenv fp pn) [] σ' H' s' → (∀ b ∈ fp, H' b = none) → ∀ b ∈ fp, FpOk (gcx X (genA A2 tg elt iter scope gpos it cenv) N' s0 H0 cenv fp pn) [] H' b := fun {σ' H' s'} I' hn b hb =>
    ⟨hn b hb, (I'.ok.exf b hb).1, I'.ok.exfs b hb, .inl hb, fun x c e => (I'.ok.exf b hb).2 x c e, fun p hp => hpn p (by simpa using hp) b hb⟩
  intro n
  induction n with
  | zero => intro i m s₀ s H h; exact absurd h (Nat.not_lt_zero _)
  | succ n ih =>
    intro i m s₀ s H hm I st nf w
    show Seg _ A2 _ _ _ s₀ _ ((compTurn (.GeneratorExp elt [⟨tg, iter, [], 0⟩] scope gpos) 0 (.ref it) .none cenv).onRaise (leaving cenv)) [] s
    rw [compTurn_gen, Sem.onRaise_eq_wrap]
    refine seg_bind_wrap (wpAny_standAt ?_)
    rcases turn i m H w with ⟨stop, q⟩ | ⟨go, Nx, hNx, step⟩
    · refine seg_bind_wrap (wpAny_mono (T.done (gcx X (genA A2 tg elt iter scope gpos it cenv) N' s0 H0 cenv fp pn) rfl rfl rfl hc i [] s _ H (fun _ _ => False) I (stat I nf) st stop) (fun r s6 ⟨hr, I6⟩ => ?_) fun _ _ z => z.elim)
      subst hr
      exact seg_end (.ok .next) ⟨rfl, H, I6, q⟩
    · refine seg_bind_wrap (wpAny_mono (T.item (gcx X (genA A2 tg elt iter scope gpos it cenv) N' s0 H0 cenv fp pn) rfl rfl rfl hc i [] s _ H (fun _ _ => False) I (stat I nf) st go) (fun r s6 ⟨u, hr, h6⟩ => ?_) fun _ _ z => z.elim)
      subst hr
      refine seg_bind_wrap (wpAny_mono h6 (fun _ s7 ⟨x, H7, I7, r7, y7, st7, n7⟩ => ?_) fun _ _ z => z.elim)
      have I7' := I7.pinned (stat I7 n7) (T.obj _ _ st7)
      refine seg_bind_wrap (wpAny_mono (pg.run _ s7 _ H7 x u _ I7' r7 (step x H7 y7)) (fun _ s8 ⟨σ8, H8, I8, hw8, q8⟩ => ?_) fun _ _ z => z.elim)
      refine seg_bind_wrap ?_
      rw [List.forIn_nil]
      refine wpAny_pure ?_
      simp only [if_true]
      have hy : ∀ v, yieldOut cenv v = yieldValue v := fun v => by simp only [yieldOut, hco, Bool.false_eq_true, if_false]
      simp only [hy]
      rw [Sem.bind_eq_wrap', Sem.bind_eq_wrap', Sem.wrap_wrap, Sem.wrap_wrap]
      refine seg_wrap (wpAny_mono (pe.run _ s8 σ8 H8 _ I8 q8) (fun z s9 ⟨yv, H9, I9, r9, b, ey, no, yes⟩ => ?_) fun _ _ z => z.elim)
      subst ey
      obtain rfl : z = .bool b := r9
      have pin' : ∀ b ∈ fp, ∀ o, s7.heap.get? b = some o → s9.heap.get? b = some o ∧ H9 b = none := fun b hb o e =>
        let z := I9.pin (b, o) (List.mem_append_right _ (List.mem_append_right _ (mem_pinsAt hb e)))
        ⟨z.1, z.2.1⟩
      have hl : sgσ.length = σ8.length := by rw [← hw8, wipe_length]
      have I10 : Inv (gcx X (genA A2 tg elt iter scope gpos it cenv) N' s0 H0 cenv fp pn) [] sgσ H9 s9 := (I9.unpinned (pins := [])).weak hl fun j v e => by
        rw [← hw8] at e
        exact (wipe_some e).1
      have st9 := T.keep _ _ _ st7 fun b hb o e => (pin' b hb o e).1
      have n9 : ∀ b ∈ fp, H9 b = none := fun b hb => by
        obtain ⟨o, e, _⟩ := T.obj _ _ st7 b hb
        exact (pin' b hb o e).2
      refine seg_at (seg_yield rfl rfl rfl ⟨b, H9, rfl, I10, no, fun eb s2 wk => ?_⟩)
      obtain ⟨m', lt, w'⟩ := hNx H9 (yes eb)
      have I2 := inv_woke I10 wk
      obtain ⟨g', tk, rfl, _⟩ := wk
      exact seg_again rfl (ih (i + 1) m' _ _ H9 (by omega) I2 st9 n9 w')
end
section
open PySem.Spec GxR GenW
variable {X : Cx} {A2 : Around} {N' : List Str} {s0 : Shared} {H0 : Hp} {cenv : Env} {fp : List Addr} {pn : List (Addr × Obj)} {tg elt iter : Expr} {scope : Scope} {gpos : Pos} {it : Addr}
theorem gen_begin {J : It} {tn : Nat → Heap → Prop} {R : GenEnd} {Y : Protocol} {n : Nat} {s₀ s : Shared} (T : Turn X.prog X.w X.K tg J fp it tn) (st : tn 0 s.heap)
    (loop : Seg (model X.prog X.w) A2 R Y n s₀ (.compLoop (.GeneratorExp elt [⟨tg, iter, [], 0⟩] scope gpos) 0 (.ref it) .none cenv) ((model X.prog X.w).den (.compLoop (.GeneratorExp elt [⟨tg, iter, [], 0⟩] scope gpos) 0 (.ref it) .none cenv)) [] s) :
    Seg (model X.prog X.w) A2 R Y n s₀ (.compStart (.GeneratorExp elt [⟨tg, iter, [], 0⟩] scope gpos) 0 (.ref it) .none cenv) ((model X.prog X.w).den (.compStart (.GeneratorExp elt [⟨tg, iter, [], 0⟩] scope gpos) 0 (.ref it) .none cenv)) [] s := by
  show Seg _ A2 _ _ _ s₀ _ ((compStart (.GeneratorExp elt [⟨tg, iter, [], 0⟩] scope gpos) 0 (.ref it) .none cenv).onRaise (leaving cenv)) [] s
  unfold compStart
  rw [Sem.onRaise_eq_wrap]
  show Seg _ A2 _ _ _ s₀ _ ((ask >>= _).wrap _ _ _ _) [] s
  refine seg_bind_wrap (wpAny_askSetting ?_)
  split
  · exact seg_again rfl loop
  · refine seg_bind_wrap (wpAny_rule (seg_bind_wrap (wpAny_standAt (seg_bind_wrap (T.self _ 0 s _ _ st (seg_again rfl loop))))))
/-- a generator asleep, that may be woken n times more -/
structure Asleep (X : Cx) (A2 : Around) (G : Cx) (sgσ : L2.St) (kp : Bool) (Q : Bool → Hp → Prop) (a : Addr) (k : Nat) (n : Nat) (s : Shared) : Prop where
  inv : ∃ H, Inv G [] sgσ H s
  is : ∀ {s' : Shared} {H' : Hp}, Inv G [] sgσ H' s' → s'.heap.IsGen a k
  at_ : ∃ gs, s.gens[k]? = some gs ∧ ∀ s2, Woke s s2 → gs.Goes (model X.prog X.w) A2 (genR G sgσ kp Q) (genY G sgσ kp Q) n (.send .none) s2
theorem setGen_woke {s : Shared} {k : Nat} {x : GenState} (h : AllBare s.gens) (hx : x.bare = true) : Woke s (s.setGen k x) := ⟨_, s.toks, rfl, bare_set h hx⟩
theorem setGen_at {s : Shared} {k : Nat} {x : GenState} (h : k < s.gens.size) : (s.setGen k x).gens[k]? = some x := by
  show (s.gens.setIfInBounds k x)[k]? = some x
  rw [Array.getElem?_setIfInBounds_self, if_pos h]
theorem gen_next {A : Around} {G : Cx} {sgσ : L2.St} {kp : Bool} {Q : Bool → Hp → Prop} {a : Addr} {k n : Nat} {s : Shared} {R : Option Value → Shared → Prop} {E : Value → Shared → Prop} (hh : A.handled = none) (hd : A.depth < recursionLimit) (z : Asleep X A.in1 G sgσ kp Q a k n s)
    (yes : ∀ n' s', n = n' + 1 → Asleep X A.in1 G sgσ kp Q a k n' s' → R (some (.bool kp)) s')
    (no : ∀ b H s', b ≠ kp → Inv G [] sgσ H s' → Q b H → R (some (.bool b)) s') (done : ∀ H s', Inv G [] sgσ H s' → Q kp H → R none s') : wpAny (model X.prog X.w) A (pyNext (.ref a)) R E s := by
  obtain ⟨H0, I0⟩ := z.inv
  obtain ⟨gs, hgs, hgo⟩ := z.at_
  have ks : k < s.gens.size := by
    rcases Nat.lt_or_ge k s.gens.size with h | h
    · exact h
    · rw [Array.getElem?_eq_none h] at hgs; cases hgs
  refine wpAny_gsz (n := k + 1) ks ?_
  refine wpAny_pyNext_genexpQ (P := fun _ _ s1 => ∃ H, Inv G [] sgσ H s1 ∧ Q kp H) (Y := genY G sgσ kp Q) hh I0.nolimit hd (z.is I0) hgs (hgo _ (setGen_woke I0.bare rfl)) (fun v s1 gs' hb hy => ?_) fun s1 ⟨H, I, q⟩ h' hk _ => ?_
  · obtain ⟨b, H, rfl, I, stop, on⟩ := hy
    have wk := setGen_woke (k := k) I.bare hb
    intro sz
    have sz : k < s1.gens.size := by
      have e : (s1.setGen k gs').gens.size = s1.gens.size := setGen_size ..
      rw [e] at sz
      exact sz
    by_cases eb : b = kp
    · subst eb
      have on := on rfl
      cases n with
      | zero => exact (on s1 ⟨s1.gens, s1.toks, rfl, I.bare⟩).elim
      | succ n' => exact yes n' _ rfl ⟨⟨H, inv_woke I wk⟩, z.is, gs', setGen_at sz, fun s2 w2 => on s2 (wk.trans w2)⟩
    · exact no b H _ eb (inv_woke I wk) (stop eb)
  · have J : Inv G [] sgσ H { s1.setGen k .finished with heap := h' } := by
      have J1 := inv_woke I (setGen_woke (k := k) (x := .finished) I.bare rfl)
      exact J1.kept (t' := s1.toks) hk
    exact done H _ J q
theorem all_loop {A : Around} {G : Cx} {sgσ : L2.St} {Q : Bool → Hp → Prop} {a : Addr} {k : Nat} (hh : A.handled = none) (hd : A.depth < recursionLimit) :
    ∀ (n : Nat) (s : Shared), Asleep X A.in1.in1 G sgσ true Q a k n s → codeAny (model X.prog X.w) A (.builtin "all.loop" ⟨[.ref a], []⟩) (fun r s' => ∃ b H, r = .ok (.ret (.bool b)) ∧ Inv G [] sgσ H s' ∧ Q b H) s := by
  intro n
  induction n with
  | zero =>
    intro s z
    refine codeAny_builtin F.entry_all_loop ?_
    rw [Around.under_plainId F.plain_all_loop _]
    show wpAny _ A.in1 (pyNext (.ref a) >>= _) _ _ s
    refine wpAny_bind (gen_next (A := A.in1) hh hd z (fun n' s' e => nomatch e) (fun b H s' eb I q => ?_) fun H s' I q => ?_)
    · obtain rfl : b = false := by cases b <;> first | rfl | exact absurd rfl eb
      refine wpAny_bind (wpAny_holding (wpAny_truthy_bool ?_))
      refine wpAny_bind (wpAny_letGo ?_)
      simp only [Bool.false_eq_true, if_false]
      exact wpAny_bind (wpAny_rule (wpAny_pure ⟨false, H, rfl, I, q⟩))
    · exact wpAny_bind (wpAny_rule (wpAny_pure ⟨true, H, rfl, I, q⟩))
  | succ n ih =>
    intro s z
    refine codeAny_builtin F.entry_all_loop ?_
    rw [Around.under_plainId F.plain_all_loop _]
    show wpAny _ A.in1 (pyNext (.ref a) >>= _) _ _ s
    refine wpAny_bind (gen_next (A := A.in1) hh hd z (fun n' s' e z' => ?_) (fun b H s' eb I q => ?_) fun H s' I q => ?_)
    · obtain rfl : n' = n := by omega
      refine wpAny_bind (wpAny_holding (wpAny_truthy_bool ?_))
      refine wpAny_bind (wpAny_letGo ?_)
      simp only [if_true]
      exact wpAny_pure ⟨plainId_quiet F.plain_all_loop _, ih _ z'⟩
    · obtain rfl : b = false := by cases b <;> first | rfl | exact absurd rfl eb
      refine wpAny_bind (wpAny_holding (wpAny_truthy_bool ?_))
      refine wpAny_bind (wpAny_letGo ?_)
      simp only [Bool.false_eq_true, if_false]
      exact wpAny_bind (wpAny_rule (wpAny_pure ⟨false, H, rfl, I, q⟩))
    · exact wpAny_bind (wpAny_rule (wpAny_pure ⟨true, H, rfl, I, q⟩))
theorem any_loop {A : Around} {G : Cx} {sgσ : L2.St} {Q : Bool → Hp → Prop} {a : Addr} {k : Nat} (hh : A.handled = none) (hd : A.depth < recursionLimit) :
    ∀ (n : Nat) (s : Shared), Asleep X A.in1.in1 G sgσ false Q a k n s → codeAny (model X.prog X.w) A (.builtin "any.loop" ⟨[.ref a], []⟩) (fun r s' => ∃ b H, r = .ok (.ret (.bool b)) ∧ Inv G [] sgσ H s' ∧ Q b H) s := by
  intro n
  induction n with
  | zero =>
    intro s z
    refine codeAny_builtin F.entry_any_loop ?_
    rw [Around.under_plainId F.plain_any_loop _]
    show wpAny _ A.in1 (pyNext (.ref a) >>= _) _ _ s
    refine wpAny_bind (gen_next (A := A.in1) hh hd z (fun n' s' e => nomatch e) (fun b H s' eb I q => ?_) fun H s' I q => ?_)
    · obtain rfl : b = true := by cases b <;> first | rfl | exact absurd rfl eb
      refine wpAny_bind (wpAny_holding (wpAny_truthy_bool ?_))
      refine wpAny_bind (wpAny_letGo ?_)
      simp only [if_true]
      exact wpAny_bind (wpAny_rule (wpAny_pure ⟨true, H, rfl, I, q⟩))
    · exact wpAny_bind (wpAny_rule (wpAny_pure ⟨false, H, rfl, I, q⟩))
  | succ n ih =>
    intro s z
    refine codeAny_builtin F.entry_any_loop ?_
    rw [Around.under_plainId F.plain_any_loop _]
    show wpAny _ A.in1 (pyNext (.ref a) >>= _) _ _ s
    refine wpAny_bind (gen_next (A := A.in1) hh hd z (fun n' s' e z' => ?_) (fun b H s' eb I q => ?_) fun H s' I q => ?_)
    · obtain rfl : n' = n := by omega
      refine wpAny_bind (wpAny_holding (wpAny_truthy_bool ?_))
      refine wpAny_bind (wpAny_letGo ?_)
      simp only [Bool.false_eq_true, if_false]
      exact wpAny_pure ⟨plainId_quiet F.plain_any_loop _, ih _ z'⟩
    · obtain rfl : b = true := by cases b <;> first | rfl | exact absurd rfl eb
      refine wpAny_bind (wpAny_holding (wpAny_truthy_bool ?_))
      refine wpAny_bind (wpAny_letGo ?_)
      simp only [if_true]
      exact wpAny_bind (wpAny_rule (wpAny_pure ⟨true, H, rfl, I, q⟩))
    · exact wpAny_bind (wpAny_rule (wpAny_pure ⟨false, H, rfl, I, q⟩))
end
section
open PySem.Spec GxR GenW
/-- all (kp true), any (kp false): over what comes, g puts it under its names, te tells the element; the table at P may grow -/
def tQuant (kp : Bool) (P : Addr) (wi : TI) (sg : L2.St → L2.St) (g : TG) (te : TE) (vs : List Nat) : TE := fun σ H Q => wi σ H fun J H1 => TabG H1 P ∧ ∀ H2, Tabbed P H1 H2 → ∃ W : Nat → Nat → Hp → Prop, (∃ m, W 0 m H2) ∧ ∀ i m H, W i m H →
  (J.stop i H ∧ Q (.bl kp) H) ∨ (J.go i H ∧ ∃ Nx : Hp → Prop, (∀ H', Nx H' → ∃ m', m' < m ∧ W (i + 1) m' H') ∧ ∀ x H', J.yld i H x H' → g x (sg σ) H' fun σ2 H3 => wipe σ2 vs = sg σ ∧ te σ2 H3 fun y H4 => ∃ b, y = .bl b ∧ (b ≠ kp → Q (.bl b) H4) ∧ (b = kp → Nx H4))
theorem over_gen {A : Around} {elt tg iter : Expr} {scope : Scope} {gpos : Pos} {it acc : Value} {cenv : Env} : A.over (.compLoop (.GeneratorExp elt [⟨tg, iter, [], 0⟩] scope gpos) 0 it acc cenv) [] = A.deeper cenv := by
  first
    | rfl
    | (obtain ⟨hd, d, fr, gs, u⟩ := A; simp [Around.over, Around.deeper, marksOver, frameCount, unitsOf, envsOf, guardsOf, pushEnvs, pushGuards, Code.envs, Code.env?, Code.isFrame, Code.guards, Code.isGuard, Code.weight, Code.frames, Code.isCreation, Code.isCaller, Code.cUnits])
theorem gen_made {X : Cx} {c P : Addr} {elt iter tg : Expr} {scope : Scope} {gpos : Pos} {N' : List Str} {sg : L2.St → L2.St} {kp : Bool} {wi : TI} {g : TG} {te : TE} {vs : List Nat} {k : Nat} {pins : List (Addr × Obj)} {σ : L2.St} {H : Hp} {s : Shared} {Q : VK}
    (hr : Room (k + 1) X.A) (hc : X.calm = true) (TB : TabB X.base X.mg c P) (hcode : X.env.code = .ref c) (S : GenN X scope N' sg) (hi : L2.PI X tg iter wi) (hs : ∀ v, genFold iter X.env v = pure v)
    (pg : ∀ (A' : Around) (s : Shared) (H : Hp) (cl : List (Str × Addr)) (C bi : Addr) (code : Value) (fp : List Addr) (pn : List (Addr × Obj)), Room k A' → L2.PG (gcx X A' N' s H (genEnv scope cl C code bi X.env) fp pn) tg g)
    (pe : ∀ (A' : Around) (s : Shared) (H : Hp) (cl : List (Str × Addr)) (C bi : Addr) (code : Value) (fp : List Addr) (pn : List (Addr × Obj)), Room k A' → L2.PE (gcx X A' N' s H (genEnv scope cl C code bi X.env) fp pn) elt te)
    (I : Inv X pins σ H s) (h : tQuant kp P wi sg g te vs σ H Q) :
    wpAny (model X.prog X.w) X.A (eval (.GeneratorExp elt [⟨tg, iter, [], 0⟩] scope gpos) X.env) (fun gv z => ∃ (a : Addr) (kk n : Nat) (G : Cx), gv = .ref a ∧ Asleep X X.A.in1.in1 G (sg σ) kp (fun b H' => Q (.bl b) H') a kk n z ∧ ∀ s' b H', Inv G [] (sg σ) H' s' → Q (.bl b) H' → EP X pins σ Q (.bool b) s') X.xe s := by
  have has : ∀ y ∈ scope.names, y.2 = .free → ∃ c, X.env.cells.lookup y.1 = some c := fun y hy e => I.ok.has _ ((S.free y hy e).elim .inl .inr)
  refine wpAny_GeneratorExp_make S.co (closure_ok has) S.cell S.dot S.kind (by have := hr.dp; omega) ?_ hs
  refine thn (hi.run pins s σ H _ I h) fun xv s1 hx => thn hx fun itv s2 ⟨it, fp, tn, J, H2, ei, I2, T, st2, f2, ⟨ps, hP, tri⟩, q⟩ => ?_
  subst ei
  have tabP : s2.heap.get? P = some { cls := .none, data := .fields ps } := I2.hok P _ hP
  refine ⟨I2.nolimit, thn (code_gotC (ps := ps) hcode (TB.code.keeps fun b o e => I2.bk b o e) tabP tri) fun code s3 got => ?_⟩
  obtain ⟨eq3, ext, more, hP3, tri3⟩ := got
  obtain ⟨h3, g3, d3, t3, o3⟩ := s3
  obtain ⟨rfl, rfl, rfl⟩ : g3 = s2.gens ∧ d3 = s2.drawn ∧ o3 = s2.os := by
    have := eq3
    simp only [Shared.mk.injEq] at this
    exact ⟨this.2.1, this.2.2.1, this.2.2.2.2⟩
  replace ext : Heap.ExtBut P s2.heap h3 := ext
  replace hP3 : h3.get? P = some { cls := .none, data := .fields (ps ++ more) } := hP3
  have kept : ∀ b o, b ≠ P → s2.heap.get? b = some o → h3.get? b = some o := fun b o nb e => ext b o nb e
  have neP : ∀ b ∈ fp, b ≠ P := fun b hb e => by
    have := (f2 b hb).1
    rw [e, hP] at this
    cases this
  have I3 : Inv X pins σ (upd H2 P (.tbl (ps ++ more))) { s2 with heap := h3, toks := t3 } := inv_tab (more := more) (h' := h3) (g' := s2.gens) (d' := s2.drawn) (t' := t3) I2 hP kept hP3 I2.bare
  have tb : Tabbed P H2 (upd H2 P (.tbl (ps ++ more))) := ⟨⟨_, upd_same, tri3⟩, fun b nb => upd_ne nb⟩
  obtain ⟨W, ⟨m0, w0⟩, turn⟩ := q _ tb
  have st3 : tn 0 h3 := T.keep _ _ _ st2 fun b hb o e => kept b o (neP b hb) e
  have n3 : ∀ b ∈ fp, upd H2 P (.tbl (ps ++ more)) b = none := fun b hb => by rw [upd_ne (neP b hb)]; exact (f2 b hb).1
  have f3 : ∀ b ∈ fp, FpOk X pins (upd H2 P (.tbl (ps ++ more))) b ∧ b < h3.objs.size := fun b hb => by
    obtain ⟨o, e, _⟩ := T.obj _ _ st3 b hb
    exact ⟨⟨n3 b hb, (f2 b hb).2⟩, Heap.lt_size e⟩
  generalize upd H2 P (.tbl (ps ++ more)) = H3 at *
  obtain ⟨bm, ob, b1, b2, b3, b4, b5, b6, b7, b8⟩ := TB.bm
  refine wpAny_builtinsFor (m := X.mg) (by rw [I2.ok.glob]; exact (I2.mod.glob.keeps fun b o e => I2.bk b o e).extBut ext TB.gP) b1 b2 (kept _ _ b4 (I2.bk _ _ b5)) b6 b7 b8 ?_
  intro h' hn' sb'
  have sz : h'.objs.size = h3.objs.size + 1 := by
    have := sb'.1
    rw [this, Heap.size_push]
  generalize ego : ({ cls := .type "generator", data := .fields #[.int s2.gens.size 0, .str "<genexpr>" (t3 + 1), .str (X.env.qual ++ "<genexpr>") (t3 + 1 + 1)] } : Obj) = go
  have hpush : (h'.push go).get? h'.objs.size = some go := by
    rw [← ego]
    exact Heap.get?_push_size _ rfl
  have hgen : ∀ hh : Heap, hh.get? h'.objs.size = some go → hh.IsGen h'.objs.size s2.gens.size := fun hh e => by
    rw [← ego] at e
    exact ⟨_, _, _, e, rfl, rfl, rfl⟩
  have hd : ∀ v, go.data ≠ .cell v := fun v z => by rw [← ego] at z; cases z
  have hbare : AllBare (s2.gens.push (.fresh (.compStart (.GeneratorExp elt [⟨tg, iter, [], 0⟩] scope gpos) 0 (.ref it) .none (genEnv scope (cloFrom X.env.cells scope.names []) h3.objs.size code builtinsNs X.env)))) := AllBare.push I2.bare rfl
  have hA : (genA X.A.in1.in1 tg elt iter scope gpos it (genEnv scope (cloFrom X.env.cells scope.names []) h3.objs.size code builtinsNs X.env)).frames = some (genEnv scope (cloFrom X.env.cells scope.names []) h3.objs.size code builtinsNs X.env :: X.stack) := by
    rw [show genA X.A.in1.in1 tg elt iter scope gpos it _ = _ from over_gen]
    exact Around.frames_deeper I3.ok.frames
  have hroom : Room k (genA X.A.in1.in1 tg elt iter scope gpos it (genEnv scope (cloFrom X.env.cells scope.names []) h3.objs.size code builtinsNs X.env)) := by
    rw [show genA X.A.in1.in1 tg elt iter scope gpos it _ = _ from over_gen]
    refine ⟨hr.hd, ?_, ?_⟩
    · have := hr.dp
      show X.A.depth + 1 + 3 * k + 5 < _
      omega
    · have := hr.un
      show X.A.units + 1 + 1 + 3 + 16 * k + 200 < _
      omega
  have I4 := gen_start (tk := t3 + 1 + 1 + 1) (gens' := s2.gens.push (.fresh (.compStart (.GeneratorExp elt [⟨tg, iter, [], 0⟩] scope gpos) 0 (.ref it) .none (genEnv scope (cloFrom X.env.cells scope.names []) h3.objs.size code builtinsNs X.env)))) I3 S f3 hA hr.hd hn' sb' hd hpush hbare
  have hpn : ∀ p ∈ [(h'.objs.size, go)], ∀ b ∈ fp, p.1 ≠ b := fun p hp b hb e => by
    rw [List.mem_singleton.mp hp] at e
    have := (f3 b hb).2
    rw [← e] at this
    have this : h'.objs.size < h3.objs.size := this
    omega
  refine ⟨h'.objs.size, s2.gens.size, m0 + 1, _, rfl, ⟨⟨H3, I4⟩, fun {s' H'} I' => hgen _ (I'.pin (h'.objs.size, go) (List.mem_append_left _ (List.mem_singleton.mpr rfl))).1, _, Array.getElem?_push_size .., fun s5 wk => ⟨rfl, ?_⟩⟩, fun s' b H' I' qb => ?_⟩
  · have I5 := inv_woke I4 wk
    have st5 : tn 0 s5.heap := by
      obtain ⟨g', tk, rfl, _⟩ := wk
      exact T.keep _ _ _ st3 fun b hb o e => Heap.get?_push_of_some _ (sb'.extBut b o (Nat.ne_of_lt (Heap.lt_size e)) (Heap.get?_push_of_some _ e))
    exact gen_begin T st5 (gen_loop (kp := kp) (Q := fun b H' => Q (.bl b) H') (vs := vs) T hc S.co hpn (pg _ _ _ _ _ _ _ _ _ hroom) (pe _ _ _ _ _ _ _ _ _ hroom) turn _ 0 m0 _ _ H3 (Nat.lt_succ_self _) I5 st5 n3 w0)
  · exact ⟨.bl b, H', I3.call' (ch := fp) I'.os I'.base I'.hok I'.bare fun b hb => ⟨(f3 b hb).1.2.2.2.1, (f3 b hb).1.2.1, (f3 b hb).1.2.2.2.2.1, (f3 b hb).1.2.2.2.2.2⟩, rfl, qb⟩
end
section
open PySem.Spec GxR GenW
variable {X : Cx} {c P : Addr} {elt iter tg : Expr} {scope : Scope} {p pos gpos : Pos} {N' : List Str} {sg : L2.St → L2.St} {wi : TI} {g : TG} {te : TE} {vs : List Nat} {k : Nat}
theorem pe_allG (hr : Room (k + 1) X.A) (hc : X.calm = true) (hg : Gl X "all") (hm : X.mg "all" = none) (hb : bootBuiltins "all" = some (.builtin "all")) (TB : TabB X.base X.mg c P) (hcode : X.env.code = .ref c) (S : GenN X scope N' sg) (hi : L2.PI X tg iter wi) (hs : ∀ v, genFold iter X.env v = pure v)
    (pg : ∀ (A' : Around) (s : Shared) (H : Hp) (cl : List (Str × Addr)) (C bi : Addr) (code : Value) (fp : List Addr) (pn : List (Addr × Obj)), Room k A' → L2.PG (gcx X A' N' s H (genEnv scope cl C code bi X.env) fp pn) tg g)
    (pe : ∀ (A' : Around) (s : Shared) (H : Hp) (cl : List (Str × Addr)) (C bi : Addr) (code : Value) (fp : List Addr) (pn : List (Addr × Obj)), Room k A' → L2.PE (gcx X A' N' s H (genEnv scope cl C code bi X.env) fp pn) elt te) :
    L2.PE X (.Call (.Name "all" p) [.GeneratorExp elt [⟨tg, iter, [], 0⟩] scope gpos] [] pos) (tQuant true P wi sg g te vs) := by
  refine ⟨fun pins s σ H Q I h => ?_⟩
  refine wpAny_Call_Name_kw (ld_blt I hg hm hb (PyProof.Rows.callWith_builtin1 ?_ rfl rfl))
  show wpAny _ _ (spliced ((false, eval (.GeneratorExp elt [⟨tg, iter, [], 0⟩] scope gpos) X.env) :: backTo pos (starEach [] X.env))) _ _ s
  refine Calls.spliced_cons (thn (gen_made hr hc TB hcode S hi hs pg pe I h) fun gv z ⟨a, kk, n, G, ev, sl, fin⟩ => Calls.spliced_nil ?_)
  subst ev
  refine call_function_tree F.kind_all F.plain_all F.entry_all (F.args_all1 _) ?_
  unfold Builtin.«all»
  refine wpAny_bind (m := oneArg "all" _) (wpAny_pure ?_)
  obtain ⟨H0, I0⟩ := sl.inv
  refine wpAny_bind (wpAny_pyIter_gen (sl.is I0) ?_)
  refine wpAny_pure ⟨plainId_quiet F.plain_all_loop _, codeAny_mono (all_loop hr.hd (by have := hr.dp; omega) n z sl) fun r s' ⟨b, H', er, I', q⟩ => ?_⟩
  subst er
  exact fin s' b H' I' q
theorem pe_anyG (hr : Room (k + 1) X.A) (hc : X.calm = true) (hg : Gl X "any") (hm : X.mg "any" = none) (hb : bootBuiltins "any" = some (.builtin "any")) (TB : TabB X.base X.mg c P) (hcode : X.env.code = .ref c) (S : GenN X scope N' sg) (hi : L2.PI X tg iter wi) (hs : ∀ v, genFold iter X.env v = pure v)
    (pg : ∀ (A' : Around) (s : Shared) (H : Hp) (cl : List (Str × Addr)) (C bi : Addr) (code : Value) (fp : List Addr) (pn : List (Addr × Obj)), Room k A' → L2.PG (gcx X A' N' s H (genEnv scope cl C code bi X.env) fp pn) tg g)
    (pe : ∀ (A' : Around) (s : Shared) (H : Hp) (cl : List (Str × Addr)) (C bi : Addr) (code : Value) (fp : List Addr) (pn : List (Addr × Obj)), Room k A' → L2.PE (gcx X A' N' s H (genEnv scope cl C code bi X.env) fp pn) elt te) :
    L2.PE X (.Call (.Name "any" p) [.GeneratorExp elt [⟨tg, iter, [], 0⟩] scope gpos] [] pos) (tQuant false P wi sg g te vs) := by
  refine ⟨fun pins s σ H Q I h => ?_⟩
  refine wpAny_Call_Name_kw (ld_blt I hg hm hb (PyProof.Rows.callWith_builtin1 ?_ rfl rfl))
  show wpAny _ _ (spliced ((false, eval (.GeneratorExp elt [⟨tg, iter, [], 0⟩] scope gpos) X.env) :: backTo pos (starEach [] X.env))) _ _ s
  refine Calls.spliced_cons (thn (gen_made hr hc TB hcode S hi hs pg pe I h) fun gv z ⟨a, kk, n, G, ev, sl, fin⟩ => Calls.spliced_nil ?_)
  subst ev
  refine call_function_tree F.kind_any F.plain_any F.entry_any (F.args_any1 _) ?_
  unfold Builtin.«any»
  refine wpAny_bind (m := oneArg "any" _) (wpAny_pure ?_)
  obtain ⟨H0, I0⟩ := sl.inv
  refine wpAny_bind (wpAny_pyIter_gen (sl.is I0) ?_)
  refine wpAny_pure ⟨plainId_quiet F.plain_any_loop _, codeAny_mono (any_loop hr.hd (by have := hr.dp; omega) n z sl) fun r s' ⟨b, H', er, I', q⟩ => ?_⟩
  subst er
  exact fin s' b H' I' q
end
section
theorem genN_none {X : Cx} {scope : Scope} {N' : List Str} {n : Nat} (h1 : scope.kind = .function) (h2 : scope.isCoroutine = false) (h3 : ∀ y ∈ scope.names, y.2 ≠ .cell) (h4 : scope.names.lookup (".0" : Str) = some NameKind.local) (h5 : ∀ y ∈ scope.names, y.2 ≠ .free) (h6 : n = N'.length := by rfl) :
    GenN X scope N' (fun _ => List.replicate n none) :=
  ⟨h1, h2, h3, h4, fun y hy z => absurd z (h5 y hy), fun _ => by rw [List.length_replicate]; exact h6, fun σ i x v _ e => by
    rw [List.getElem?_replicate] at e
    split at e <;> cases e⟩
theorem genN_one {X : Cx} {scope : Scope} {ts : List Str} {f : Str} {j : Nat} (h1 : scope.kind = .function) (h2 : scope.isCoroutine = false) (h3 : ∀ y ∈ scope.names, y.2 ≠ .cell) (h4 : scope.names.lookup (".0" : Str) = some NameKind.local) (h5 : ∀ y ∈ scope.names, y.2 = .free → y.1 = f)
    (h6 : scope.names.lookup f = some .free) (h7 : X.N[j]? = some f) (h8 : X.env.scope.names.lookup f = some .cell ∨ X.env.scope.names.lookup f = some .free) :
    GenN X scope (ts ++ [f]) (fun σ => List.replicate ts.length none ++ [σ.getD j none]) :=
  ⟨h1, h2, h3, h4, fun y hy z => by rw [h5 y hy z]; exact h8, fun _ => by rw [List.length_append, List.length_append, List.length_replicate]; rfl, fun σ i x v e1 e2 => by
    by_cases h : i < ts.length
    · rw [List.getElem?_append_left (by rw [List.length_replicate]; exact h), List.getElem?_replicate] at e2
      split at e2 <;> cases e2
    · rw [List.getElem?_append_right (by omega)] at e1
      rw [List.getElem?_append_right (by rw [List.length_replicate]; omega), List.length_replicate] at e2
      cases hz : i - ts.length with
      | zero =>
        rw [hz] at e1 e2
        obtain rfl : f = x := Option.some.inj e1
        have e2 : σ.getD j none = some v := Option.some.inj e2
        refine ⟨h6, j, h7, ?_⟩
        rw [List.getD_eq_getElem?_getD] at e2
        cases hj : σ[j]? with
        | none => rw [hj] at e2; cases e2
        | some z => rw [hj] at e2; rw [show z = some v from e2]
      | succ z => rw [hz] at e1; cases e1⟩
end
/-! ### places that steps lead back to -/
/-- one or more steps from p -/
inductive OnW (st : Nat → List Nat) (p : Nat) : Nat → Prop
  | one {x : Nat} : x ∈ st p → OnW st p x
  | more {x y : Nat} : OnW st p x → y ∈ st x → OnW st p y
theorem OnW.lt {st : Nat → List Nat} {n p x : Nat} (hp : p < n) (hs : ∀ i, i < n → ∀ y ∈ st i, y < n) (h : OnW st p x) : x < n := by
  induction h with
  | one m => exact hs _ hp _ m
  | more _ m ih => exact hs _ ih _ m
theorem OnW.inside {st : Nat → List Nat} {p y : Nat} {S : List Nat} (h0 : ∀ x ∈ st p, x ∈ S) (h1 : ∀ x ∈ S, ∀ y ∈ st x, y ∈ S) (h : OnW st p y) : y ∈ S := by
  induction h with
  | one m => exact h0 _ m
  | more _ m ih => exact h1 _ ih _ m
theorem OnW.rank {st : Nat → List Nat} {rk : Nat → Int} (h : ∀ x, ∀ y ∈ st x, rk x < rk y) {p y : Nat} (w : OnW st p y) : rk p < rk y := by
  induction w with
  | one m => exact h _ _ m
  | more _ m ih => exact Int.lt_trans ih (h _ _ m)
/-- the dict of the steps -/
abbrev stK (adr : Nat → Addr) (n : Nat) : List (Key × V) := (List.range n).map fun i => (Sum.inl ((i : Nat) : Int), V.ref (adr i))
theorem stK_at {adr : Nat → Addr} {n p : Nat} (h : p < n) : valV (stK adr n) (Sum.inl ((p : Nat) : Int)) = some (V.ref (adr p)) := by
  unfold valV
  rw [List.find?_map]
  have : (List.range n).find? ((fun kv : Key × V => decide (kv.1 = Sum.inl ((p : Nat) : Int))) ∘ fun i => (Sum.inl ((i : Nat) : Int), V.ref (adr i))) = some p := by
    rw [List.find?_range_eq_some]
    refine ⟨decide_eq_true rfl, List.mem_range.mpr h, fun j hj => ?_⟩
    show (!decide ((Sum.inl ((j : Nat) : Int) : Key) = Sum.inl ((p : Nat) : Int))) = true
    rw [decide_eq_false fun e => by have := Sum.inl.inj e; omega]
    rfl
  rw [this]
  rfl
structure StAt (H : Hp) (d : Addr) (n : Nat) (st : Nat → List Nat) : Prop where
  ex : ∃ adr : Nat → Addr, H d = some (.dK (stK adr n)) ∧ ∀ i, i < n → H (adr i) = some (.lst ((st i).map nV))
theorem StAt.same {H H' : Hp} {d : Addr} {n : Nat} {st : Nat → List Nat} (a : StAt H d n st) (s : Same H H') : StAt H' d n st := by
  obtain ⟨adr, e1, e2⟩ := a.ex
  exact ⟨adr, s _ _ e1, fun i hi => s _ _ (e2 i hi)⟩
theorem StAt.get {H : Hp} {d : Addr} {n : Nat} {st : Nat → List Nat} (a : StAt H d n st) {p : Nat} (h : p < n) : ∃ l, DGet H d (nV p) (some (.ref l)) ∧ H l = some (.lst ((st p).map nV)) := by
  obtain ⟨adr, e1, e2⟩ := a.ex
  refine ⟨adr p, ?_, e2 p h⟩
  have := DGet.k (k := Sum.inl ((p : Nat) : Int)) e1
  rwa [stK_at h] at this
theorem few_below : ∀ {n : Nat} {l : List Nat}, l.Nodup → (∀ x ∈ l, x < n) → l.length ≤ n := by
  intro n l nd h
  have : ∀ {l m : List Nat}, l.Nodup → (∀ x ∈ l, x ∈ m) → l.length ≤ m.length := by
    intro l
    induction l with
    | nil => intro _ _ _; exact Nat.zero_le _
    | cons x l ih =>
      intro m nd h
      obtain ⟨n1, n2⟩ := List.nodup_cons.mp nd
      have i := ih (m := m.erase x) n2 fun y hy => (List.mem_erase_of_ne (fun e : y = x => n1 (e ▸ hy))).mpr (h y (List.mem_cons_of_mem _ hy))
      have := List.length_erase_of_mem (h x (List.mem_cons_self ..))
      have pos : 0 < m.length := List.length_pos_of_mem (h x (List.mem_cons_self ..))
      show l.length + 1 ≤ m.length
      omega
  have := this (m := List.range n) nd fun x hx => List.mem_range.mpr (h x hx)
  rwa [List.length_range] at this
section
variable {P : Program} {w : World} {K : PySem.W.Frag} {mg : Str → Option Value} {base : Heap}
def sp_comes_back (K : PySem.W.Frag) : Sp := fun vs H Q _ => ∃ (d : Addr) (n p : Nat) (st : Nat → List Nat), vs = [nV p, .ref d] ∧ StAt H d n st ∧ p < n ∧ n ≤ 400 ∧ (∀ i, i < n → (st i).length ≤ 400 ∧ ∀ y ∈ st i, y < n) ∧
  ∀ (b : Bool) (H' : Hp), (b = true ↔ OnW st p p) → Same H H' → Q (.bl b) H'
theorem ok_comes_back {f : Addr} {fd : FuncData} (F : Fun K "comes_back" "comes_back" s_comes_back f fd) (T : Top w K mg) : FnOk P w K mg base CX0 1 f fd ["place", "steps"] (sp_comes_back K) := by
  refine F.ok sc_comes_back (fun vs H Q E h => ?_) (fun cdv A outer s H vs Q E hr h => ?_)
  · obtain ⟨d, n, p, st, rfl, _⟩ := h
    rfl
  obtain ⟨d, n, p, st, rfl, hd, hp, hn, hs, q⟩ := h
  have hlt : ∀ i, i < n → ∀ y ∈ st i, y < n := fun i hi => (hs i hi).2
  refine ⟨_, (pss_cons (ps_set (i := 2) sc_comes_back.nd rfl (Or.inl rfl) (pe_callTy0 cr_set0 (by rfl) T.m_set (by decide +kernel)))
      (pss_cons (ps_set (i := 3) sc_comes_back.nd rfl (Or.inl rfl) (pe_callTy (call_list_ofK K rfl) (by rfl) T.m_list (by decide +kernel) (pa_cons (pe_dget (hu_of hr) (pv 1) (pv 0) (fun _ _ => rfl)) pa_nil)))
      (pss_cons (ps_while PassesOwn.never (pt_truthK K rfl (pv 3) (by intro _; rfl))
        (pss_cons (ps_set (i := 4) sc_comes_back.nd rfl (Or.inl rfl) (pe_bm0K K rfl PySem.F.plainAttrs_list PySem.F.slot_list_pop PySem.F.type_list_pop mt_pop (pv 3)))
      (pss_cons (ps_if (pt_cmpR op_eq (pv 4) (pv 0) (nomark _)) (pss_one (ps_ret pe_bl)) pss_nil)
      (pss_one (ps_if (pt_cmpR or_snotin (pv 4) (pv 2) (by with_unfolding_all rfl)) (pss_cons (ps_expr (pe_sadd (pv 2) (pa_cons (pv 4) pa_nil)))
      (pss_one (ps_expr (pe_bmK K rfl PySem.F.plainAttrs_list PySem.F.slot_list_extend PySem.F.type_list_extend mt_extend (pv 3) (pa_cons (pe_dget (hu_of hr) (pv 1) (pv 4) (fun _ _ => rfl)) pa_nil))))) pss_nil)))))
      (pss_one (ps_ret pe_bl))))), ?_⟩
  refine ⟨rfl, fun sp nsp => ?_⟩
  have s1 : Same H (upd H sp (SetO w sp (fun _ => false) 0)) := same_new nsp
  obtain ⟨l0, g0, hl0⟩ := (hd.same s1).get hp
  refine ⟨_, rfl, _, rfl, d, _, rfl, g0, l0, _, rfl, .inl (SqL.of hl0), fun ll nll => ?_⟩
  have s2 := s1.trans (same_new (o := .lst ((st p).map nV)) nll)
  have nel : sp ≠ ll := fun z => by rw [← z, upd_same] at nll; cases nll
  have nll0 : H ll = none := same_none s1 nll
  let W : Nat → L2.St → Hp → Prop := fun m σ H5 => ∃ (S L : List Nat) (Sf : Int → Bool) (v4 : Option V), σ = [some (nV p), some (.ref d), some (.ref sp), some (.ref ll), v4] ∧ H5 sp = some (SetO w sp Sf S.length) ∧ H5 ll = some (.lst (L.map nV)) ∧ Same H H5 ∧ S.Nodup ∧ (∀ x : Nat, Sf ((x : Nat) : Int) = true ↔ x ∈ S) ∧
    (∀ x ∈ S, x < n ∧ x ≠ p ∧ OnW st p x) ∧ (∀ x ∈ L, x < n ∧ OnW st p x) ∧ (∀ y ∈ st p, y ∈ S ∨ y ∈ L) ∧ (∀ x ∈ S, ∀ y ∈ st x, y ∈ S ∨ y ∈ L) ∧ m = 401 * (n - S.length) + L.length ∧ m ≤ 401 * n + 400
  refine ⟨W, ⟨_, [], st p, fun _ => false, _, rfl, by rw [upd_ne nel]; exact upd_same, upd_same, s2, List.nodup_nil, fun x => ⟨(fun z => nomatch z), fun z => (by cases z)⟩, (fun x z => by cases z), fun x hx => ⟨hlt p hp x hx, .one hx⟩, fun y hy => .inr hy, (fun x z => by cases z), rfl, ?_⟩, ?_⟩
  · have := (hs p hp).1
    show 401 * (n - 0) + _ ≤ _
    omega
  rintro m σ H5 ⟨S, L, Sf, v4, rfl, hsp, hll, s5, nd, sf, hS, hL, c0, c1, em, mb⟩
  refine ⟨_, rfl, !(L.map nV).isEmpty, .inl ⟨_, SqL.of hll, rfl⟩, ?_⟩
  have sl := few_below nd fun x hx => (hS x hx).1
  rcases List.eq_nil_or_concat L with rfl | ⟨L', x, rfl⟩
  · show (if (false : Bool) = true then _ else _)
    rw [if_neg Bool.false_ne_true]
    refine q false H5 ⟨(fun z => nomatch z), fun z => ?_⟩ s5
    exact absurd rfl (hS p (z.inside (fun y hy => (c0 y hy).resolve_right fun z => by cases z) (fun x hx y hy => (c1 x hx y hy).resolve_right fun z => by cases z))).2.1
  have tr : (!((L'.concat x).map nV).isEmpty) = true := by
    rw [List.concat_eq_append, List.map_append]
    cases L'.map nV <;> rfl
  rw [List.concat_eq_append] at *
  rw [tr]
  refine if_bl (fun _ => ?_) (fun z => nomatch z)
  refine ⟨fun σ' H' => ∃ m', m' < m ∧ W m' σ' H', fun _ _ z => z, ?_⟩
  have lL : (L' ++ [x]).length = L'.length + 1 := by rw [List.length_append]; rfl
  obtain ⟨xn, xw⟩ := hL x (List.mem_append.mpr (.inr (List.mem_singleton.mpr rfl)))
  refine ⟨_, rfl, .inl ⟨rfl, _, SqL.of hll⟩, ll, _, nV x, rfl, rfl, hll, by rw [List.map_append, List.length_append, List.getElem?_append_right (by rw [List.length_map]; exact Nat.le_refl _)]; simp, ?_⟩
  have dl : ((L' ++ [x]).map nV).dropLast = L'.map nV := by rw [List.map_append]; exact List.dropLast_concat
  rw [dl]
  have s6 : Same H (upd H5 ll (.lst (L'.map nV))) := Same.own s5 nll0
  have hsp6 : upd H5 ll (.lst (L'.map nV)) sp = some (SetO w sp Sf S.length) := by rw [upd_ne nel]; exact hsp
  have hll6 : upd H5 ll (.lst (L'.map nV)) ll = some (.lst (L'.map nV)) := upd_same
  generalize upd H5 ll (.lst (L'.map nV)) = H6 at *
  refine ⟨_, rfl, _, rfl, rfl, _, rfl, if_bl (fun e => ?_) (fun e => ?_)⟩
  · have e : x = p := by have := V.int.inj (of_decide_eq_true e); omega
    rw [e] at xw
    exact q true H6 ⟨fun _ => xw, fun _ => rfl⟩ s6
  have xp : x ≠ p := fun z => of_decide_eq_false e (by rw [z])
  refine ⟨_, rfl, _, rfl, _, sp, Sf, _, rfl, rfl, hsp6, _, rfl, if_bl (fun e => ?_) (fun e => ?_)⟩
  · have xS : x ∉ S := fun z => by
      rw [(sf x).mpr z] at e
      cases e
    have xf : Sf ((x : Nat) : Int) = false := by
      cases h : Sf ((x : Nat) : Int) with
      | false => rfl
      | true => exact absurd ((sf x).mp h) xS
    have nd2 : (x :: S).Nodup := List.nodup_cons.mpr ⟨xS, nd⟩
    have sl2 := few_below (n := n) nd2 fun y hy => by
      rcases List.mem_cons.mp hy with rfl | hy
      · exact xn
      · exact (hS y hy).1
    rw [List.length_cons] at sl2
    refine ⟨_, rfl, ⟨sp, _, _, rfl, hsp6⟩, _, rfl, sp, _, Sf, _, rfl, rfl, hsp6, by unfold scanBound; omega, ?_⟩
    rw [xf, if_neg Bool.false_ne_true]
    generalize e7 : upd H6 sp _ = H7
    have s7 : Same H H7 := by rw [← e7]; exact Same.own s6 nsp
    have hsp7 : H7 sp = some (SetO w sp (fun j => Sf j || decide (j = ((x : Nat) : Int))) (x :: S).length) := by rw [← e7]; exact upd_same
    have hll7 : H7 ll = some (.lst (L'.map nV)) := by rw [← e7, upd_ne (Ne.symm nel)]; exact hll6
    clear e7
    obtain ⟨lx, gx, hlx⟩ := (hd.same s7).get xn
    have sx := (hs x xn).1
    refine ⟨_, rfl, .inl ⟨rfl, _, SqL.of hll7⟩, _, rfl, _, rfl, d, _, rfl, gx, ll, lx, _, _, rfl, rfl, hll7, hlx, by rw [List.length_map, List.length_map]; rw [sizeLine_eq]; omega, ?_⟩
    refine ⟨401 * (n - (S.length + 1)) + (L' ++ st x).length, by rw [List.length_append]; omega, x :: S, L' ++ st x, _, _, rfl, by rw [upd_ne nel]; exact hsp7, by rw [upd_same, List.map_append], Same.own s7 nll0, nd2, fun y => ?_, fun y hy => ?_, fun y hy => ?_, fun y hy => ?_, fun z hz y hy => ?_, rfl, by rw [List.length_append]; omega⟩
    · rw [List.mem_cons]
      by_cases z : y = x
      · subst z; simp
      · have : (decide (((y : Nat) : Int) = ((x : Nat) : Int))) = false := decide_eq_false fun e => z (by omega)
        show (Sf _ || decide _) = true ↔ _
        rw [this, Bool.or_false, sf y]
        exact ⟨.inr, fun h => h.resolve_left z⟩
    · rcases List.mem_cons.mp hy with rfl | hy
      · exact ⟨xn, xp, xw⟩
      · exact hS y hy
    · rcases List.mem_append.mp hy with hy | hy
      · exact hL y (List.mem_append.mpr (.inl hy))
      · exact ⟨hlt x xn y hy, .more xw hy⟩
    · rcases c0 y hy with z | z
      · exact .inl (List.mem_cons_of_mem _ z)
      · rcases List.mem_append.mp z with z | z
        · exact .inr (List.mem_append.mpr (.inl z))
        · rw [List.mem_singleton.mp z]; exact .inl (List.mem_cons_self ..)
    · rcases List.mem_cons.mp hz with rfl | hz
      · exact .inr (List.mem_append.mpr (.inr hy))
      · rcases c1 z hz y hy with z | z
        · exact .inl (List.mem_cons_of_mem _ z)
        · rcases List.mem_append.mp z with z | z
          · exact .inr (List.mem_append.mpr (.inl z))
          · rw [List.mem_singleton.mp z]; exact .inl (List.mem_cons_self ..)
  · have xS : x ∈ S := (sf x).mp (by
      cases h : Sf ((x : Nat) : Int) with
      | true => rfl
      | false => rw [h] at e; cases e)
    have out : ∀ y, y ∈ S ∨ y ∈ L' ++ [x] → y ∈ S ∨ y ∈ L' := fun y z => by
      rcases z with z | z
      · exact .inl z
      · rcases List.mem_append.mp z with z | z
        · exact .inr z
        · rw [List.mem_singleton.mp z]; exact .inl xS
    exact ⟨401 * (n - S.length) + L'.length, by omega, S, L', Sf, _, rfl, hsp6, hll6, s6, nd, sf, hS, fun y hy => hL y (List.mem_append.mpr (.inl hy)), fun y hy => out y (c0 y hy), fun z hz y hy => out y (c1 z hz y hy), rfl, by omega⟩
def FirstW (st : Nat → List Nat) (ps : List Nat) (v : V) : Prop := (v = .non ∧ ∀ x ∈ ps, ¬ OnW st x x) ∨ ∃ i x : Nat, ps[i]? = some x ∧ v = nV x ∧ OnW st x x ∧ ∀ j y : Nat, j < i → ps[j]? = some y → ¬ OnW st y y
def sp_first_on_ring (K : PySem.W.Frag) : Sp := fun vs H Q _ => ∃ (pl d : Addr) (n : Nat) (ps : List Nat) (st : Nat → List Nat), vs = [.ref pl, .ref d] ∧ H pl = some (.lst (ps.map nV)) ∧ (∀ x ∈ ps, x < n) ∧ StAt H d n st ∧ n ≤ 400 ∧ (∀ i, i < n → (st i).length ≤ 400 ∧ ∀ y ∈ st i, y < n) ∧
  ∀ (v : V) (H' : Hp), FirstW st ps v → Same H H' → Q v H'
theorem ok_first_on_ring {f : Addr} {fd : FuncData} (F : Fun K "first_on_ring" "first_on_ring" s_first_on_ring f fd) (T : Top w K mg) : FnOk P w K mg base CX0 2 f fd ["places", "steps"] (sp_first_on_ring K) := by
  obtain ⟨f_comes_back, fd_comes_back, F_comes_back, b_comes_back, m_comes_back⟩ := T.d_comes_back
  have G_comes_back := ok_comes_back (P := P) (w := w) (base := base) F_comes_back T
  refine F.ok sc_first_on_ring (fun vs H Q E h => ?_) (fun cdv A outer s H vs Q E hr h => ?_)
  · obtain ⟨pl, d, n, ps, st, rfl, _⟩ := h
    rfl
  obtain ⟨pl, d, n, ps, st, rfl, hpl, hps, hd, hn, hs, q⟩ := h
  refine ⟨_, (pss_cons (ps_for PassesOwn.never rfl (pi_listK K rfl (pv 0)) (pg_name (i := 2) sc_first_on_ring.nd rfl (Or.inl rfl))
        (pss_one (ps_if (pt_val (pe_call G_comes_back (hr.mono (by decide)) (by rfl) m_comes_back F_comes_back.kp b_comes_back .nil pass0 (pa_cons (pv 2) (pa_cons (pv 1) pa_nil)))) (pss_one (ps_ret (pv 2))) pss_nil)))
      (pss_one (ps_ret pe_non))), ?_⟩
  refine ⟨_, rfl, pl, rfl, ⟨_, SqL.of hpl⟩, for_list (K := K) (a := pl) (xs := ps.map nV) (fun i σ H5 => ∃ v2 : Option V, σ = [some (.ref pl), some (.ref d), v2] ∧ Same H H5 ∧ ∀ j y : Nat, j < i → ps[j]? = some y → ¬ OnW st y y) ⟨_, rfl, fun _ _ e => e, fun j y h => absurd h (Nat.not_lt_zero _)⟩ (fun i σ H5 _ ⟨_, _, s5, _⟩ => SqL.of (s5 _ _ hpl)) ?_ ?_⟩
  · rintro i v σ H5 hx ⟨v2, rfl, s5, no⟩
    rw [List.getElem?_map] at hx
    cases hk : ps[i]? with
    | none => rw [hk] at hx; cases hx
    | some x =>
      rw [hk] at hx
      obtain rfl : nV x = v := Option.some.inj hx
      refine ⟨_, rfl, _, rfl, d, n, x, st, rfl, hd.same s5, hps x (List.mem_of_getElem? hk), hn, hs, fun b H6 hb s6 => ?_⟩
      refine ⟨_, rfl, if_bl (fun e => ?_) (fun e => ?_)⟩
      · exact ⟨_, rfl, q _ H6 (.inr ⟨i, x, hk, rfl, hb.mp e, no⟩) (s5.trans s6)⟩
      · refine ⟨_, rfl, s5.trans s6, fun j y hj ey => ?_⟩
        by_cases h : j = i
        · subst h
          rw [hk] at ey
          rw [← Option.some.inj ey]
          exact fun w => by rw [hb.mpr w] at e; cases e
        · exact no j y (by omega) ey
  · rintro σ H5 ⟨v2, rfl, s5, no⟩
    refine q _ H5 (.inl ⟨rfl, fun x hx => ?_⟩) s5
    obtain ⟨j, ej⟩ := List.getElem?_of_mem hx
    exact no j x (by have := (List.getElem?_eq_some_iff.mp ej).1; rw [List.length_map]; exact this) ej
end
section
variable {P : Program} {w : World} {K : PySem.W.Frag} {mg : Str → Option Value} {base : Heap}
def sp_NsInit (K : PySem.W.Frag) (C : Addr) : Sp := fun vs H Q _ => ∃ (a : Addr) (x y : V), vs = [.ref a, x, y] ∧ H a = some (exo a C none) ∧
  ∀ d, H d = none → d ≠ a → Q .non (upd (upd (upd H d (exd d [("word", x)])) a (exo a C (some d))) d (exd d [("at", y), ("word", x)]))
theorem ok_NsInit {C CB fI : Addr} {fd : FuncData} (N : NsC K mg C CB fI fd) : FnOk P w K mg base CX0 1 fI fd ["self", "word", "at"] (sp_NsInit K C) := by
  refine N.F.ok sc_NoRoom_init (fun vs H Q E h => ?_) (fun cdv A outer s H vs Q E hr h => ?_)
  · obtain ⟨a, x, y, rfl, _⟩ := h
    rfl
  obtain ⟨a, x, y, rfl, ha, q⟩ := h
  refine ⟨_, pss_cons (ps_ost (pv 0) (pv 1)) (pss_one (ps_ost (pv 0) (pv 2))), ?_⟩
  refine ⟨_, rfl, _, rfl, a, C, rfl, N.T, N.nw, .inl ⟨ha, fun d nd da => ?_⟩⟩
  refine ⟨_, rfl, _, rfl, a, C, rfl, N.T, N.na, .inr ⟨d, _, upd_same, by rw [upd_ne da, upd_same], by show 1 ≤ 900; decide, q d nd da⟩⟩
end
/-! ### isinstance of a caught error that has fields of its own -/
section
open PySem.W PySem.Calls
variable {prog : Program} {w : World} {A : Around} {K : PySem.W.Frag} {x D : Addr} {ox : Obj} {od : Option Obj}
/-- what the class says with a setter goes before what the instance says -/
theorem found_class (C : ExcC K D) : findObj K D od "__class__" = some (.bind (.builtin "getset_descriptor.__get__") (.builtin "object.__class__")) := by
  have some_cls : ∃ cd, clsIn K D = some cd := by
    obtain ⟨cd, h, _⟩ := any_some C.hd
    exact ⟨cd, h⟩
  obtain ⟨cd, h⟩ := some_cls
  unfold findObj
  simp only [h, C.ha, C.hn, C.ht, Option.bind_some]
/-- the built in reader of fields, asked for the class -/
theorem reader_class {E : Value → Shared → Prop} {Q : Value → Shared → Prop} {hp : Heap} {g : Array GenState} {d : Drawn} {t tk : Nat} {os : OsState} (C : ExcC K D) (X : K.In hp) (I : InstAt hp x ox D od) (q : Q (.ref D) ⟨hp, g, d, t, os⟩) :
    wpAny (model prog w) A (call (.builtin "BaseException.__getattribute__") [.ref x, .str "__class__" tk]) Q E ⟨hp, g, d, t, os⟩ := by
  have known := I.type (M := model prog w)
  refine wpAny_call (codeAny_call_builtin PySem.F.excAttr_ValueError.ga.plain PySem.F.entry_bexc_ga ?_)
  refine @check_slot (model prog w) _ _ ⟨hp, g, d, t, os⟩ "BaseException.__getattribute__" "BaseException" "__getattribute__" (.ref x) [.str "__class__" tk] [] _ (by decide +kernel) (by decide +kernel) (known.andThen (looks_subIn X C.hs)) (PySem.F.args_bexc_ga (.ref x) (.str "__class__" tk)) ?_
  unfold Builtin.«object.__getattribute__»
  refine wpAny_bind (wpAny_of_eq (a := ((Value.ref x : Value), [Value.str "__class__" tk])) (by first | rfl | (simp only [slotArgs]; rfl)) (wpAny_bind (wpAny_pure (wpAny_bind (known.at (wpAny_bind ((looks_find (M := model prog w) X I (found_class C)).at ?_)))))))
  refine wpAny_bind (wpAny_holding (wpAny_call (class_get (s := ⟨hp, g, d, t, os⟩) (ox := ox) (od := od) X I C.hm ?_)))
  refine wpAny_pure ?_
  exact q
theorem asked_class {E : Value → Shared → Prop} {Q : Option Value → Shared → Prop} {s : Shared} (C : ExcC K D) (X : K.In s.heap) (I : InstAt s.heap x ox D od) (q : Q (some (.ref D)) { s with toks := s.toks + 1 }) : wpAny (model prog w) A (getAttr? (.ref x) "__class__") Q E s := by
  obtain ⟨hp, g, d, t, os⟩ := s
  have other : (onTheHeap (Value.ref D) && Value.builtin "BaseException.__getattribute__" == Value.builtin "object.__getattribute__") = false := by
    rw [show (Value.builtin "BaseException.__getattribute__" == Value.builtin "object.__getattribute__") = false by decide +kernel]
    rfl
  unfold getAttr? getAttrBy? getAttrBy
  refine wpAny_bind (wpAny_mkText (wpAny_bind (wpAny_attempt (wpAny_holding (wpAny_bind ((I.type (M := model prog w)).at (wpAny_bind ((looks_findIn (M := model prog w) X C.hg).at ?_))))))))
  show wpAny _ _ (if (onTheHeap (Value.ref D) && Value.builtin "BaseException.__getattribute__" == Value.builtin "object.__getattribute__") = true then _ else _) _ _ _
  rw [other, if_neg Bool.false_ne_true]
  unfold getAttrByItsOwn hookBefore
  rw [if_pos (show onTheHeap (Value.ref D) = true from rfl)]
  refine wpAny_bind ((looks_findIn (M := model prog w) X C.hk).at (wpAny_bind (wpAny_attempt (wpAny_holding ?_))))
  unfold callGetattribute
  rw [show (false && onTheHeap (Value.builtin "BaseException.__getattribute__")) = false from rfl, if_neg Bool.false_ne_true]
  unfold boundAndCalled
  rw [PySem.F.excAttr_ValueError.ga.bind (.ref x)]
  refine wpAny_bind (wpAny_pure ?_)
  refine reader_class C X I ?_
  first
    | exact wpAny_pure (wpAny_pure q)
    | exact wpAny_pure q
    | exact wpAny_pure (wpAny_bind (wpAny_pure (wpAny_pure q)))
    | exact q
/-- isinstance's own question, for such an error -/
theorem kit_fields (C : ExcC K D) : KitX K (.ref x) (.ref D) (fun h => InstAt h x ox D od) := by
  have place : ∃ c' d' cd' sl', K.lookup D = some ⟨c', d', .cls cd', sl'⟩ := by
    obtain ⟨cd, h, _⟩ := any_some C.hd
    unfold clsIn at h
    split at h
    · rename_i c' d' cd' sl' ho
      exact ⟨_, _, _, _, ho⟩
    · cases h
  obtain ⟨c', d', cd', sl', ho⟩ := place
  refine ⟨fun _ _ _ I => I.type, fun _ _ X _ => ?_, fun h tp dd its n sl X htp => ?_, fun X I k => asked_class C X I k⟩
  · intro A' Q' E' s' k q
    unfold isType loadHead
    exact wpAny_bind (wpAny_loadPart (k _ _ (X _ _ ho)) (wpAny_pure q))
  · refine Bool.eq_false_iff.mpr fun z => ?_
    obtain rfl : D = tp := Value.ref.inj (beq_iff_eq.mp z)
    have := (X _ _ ho).symm.trans htp
    cases this
end
theorem call_isF {X : Cx} {a D : Addr} {cls : Value} {d : Option Addr} {oe : Obj} {pn : List (Addr × Obj)} (C : ExcC X.K D) (hz : Zc cls d oe) (hf : ∃ vs, oe.data = .fields vs) : CallR (X.suite a ((a, oe) :: pn)) (.builtin "isinstance") (fun xs H Q => cls = .ref D ∧ (∃ dd fs, d = some dd ∧ H dd = some (.xd fs)) ∧ rIsE X.K D a xs H Q) := by
  intro pins s σ H xs us Q I r h
  obtain ⟨rfl, ⟨dd, fs, rfl, hdd⟩, c, cv, b, rfl, hcv, e, q⟩ := h
  cases r with
  | cons rx rr =>
    cases rr with
    | cons rt rr =>
      cases rr
      cases rx
      have ec := hcv _ rt
      subst ec
      obtain ⟨at_, _⟩ := I.pin (a, oe) (List.mem_append.mpr (.inl List.mem_cons_self))
      obtain ⟨vs, hv⟩ := hf
      obtain ⟨mA, hns, _⟩ := (I.hok dd _ hdd : ObjOk X.prog X.w H s.heap dd (.xd fs))
      obtain ⟨od, ho, _⟩ := lookIn_ns hns
      have J : PySem.W.InstAt s.heap a oe D (some od) := ⟨at_, hz.1, by unfold PySem.W.notCls; rw [hv] <;> rfl, by rw [hz.2]; exact ho⟩
      exact PySem.W.kia_one (kit_fields C) I.kIn J e (fun z => nomatch z) fun tk => ⟨.bl b, H, I.kept (t' := tk) fun _ _ z => z, rfl, q⟩
theorem call_isFT {X : Cx} {a D : Addr} {cls : Value} {d : Option Addr} {oe : Obj} {pn : List (Addr × Obj)} (C : ExcC X.K D) (hz : Zc cls d oe) (hf : ∃ vs, oe.data = .fields vs) : CallR (X.suite a ((a, oe) :: pn)) (.builtin "isinstance") (fun xs H Q => cls = .ref D ∧ (∃ dd fs, d = some dd ∧ H dd = some (.xd fs)) ∧ ∃ (tp : Addr) (cs : List V) (us : List Value) (b : Bool), xs = [.ref a, .ref tp] ∧ H tp = some (.tup cs) ∧ Paired ClsV cs us ∧ PySem.W.kitAny X.K (.ref D) us = some b ∧ Q (.bl b) H) := by
  intro pins s σ H xs us Q I r h
  obtain ⟨rfl, ⟨dd, fs, rfl, hdd⟩, tp, cs, ws, b, rfl, hT, k, e, q⟩ := h
  cases r with
  | cons rx rr =>
    cases rr with
    | cons rt rr =>
      cases rr
      cases rx
      cases rt
      obtain ⟨at_, _⟩ := I.pin (a, oe) (List.mem_append.mpr (.inl List.mem_cons_self))
      obtain ⟨vs, hv⟩ := hf
      obtain ⟨mA, hns, _⟩ := (I.hok dd _ hdd : ObjOk X.prog X.w H s.heap dd (.xd fs))
      obtain ⟨od, ho, _⟩ := lookIn_ns hns
      have J : PySem.W.InstAt s.heap a oe D (some od) := ⟨at_, hz.1, by unfold PySem.W.notCls; rw [hv] <;> rfl, by rw [hz.2]; exact ho⟩
      obtain ⟨_, its, rv, o, h1, h2, n, h3⟩ := (show ObjOk X.prog X.w H s.heap tp (.tup cs) from I.hok tp _ hT)
      have e3 := ClsV.all k rv
      subst e3
      obtain ⟨oc, od2, dt, sl⟩ := o
      simp only at h2 h3
      subst h2 h3
      exact PySem.W.kia_tup (kit_fields C) I.kIn J h1 e (fun z => nomatch z) fun tk => ⟨.bl b, H, I.kept (t' := tk) fun _ _ z => z, rfl, q⟩
theorem snoc_ind {α : Type} {Pr : List α → Prop} (h0 : Pr []) (h1 : ∀ l x, Pr l → Pr (l ++ [x])) : ∀ l, Pr l := by
  have : ∀ r : List α, Pr r.reverse := by
    intro r
    induction r with
    | nil => exact h0
    | cons x r ih => rw [List.reverse_cons]; exact h1 _ _ ih
  intro l
  have := this l.reverse
  rwa [List.reverse_reverse] at this
def comeB (bs : List BR) (k : Nat) : List BR := bs.filter fun b => decide (b.to = k)
theorem come_list (bs : List BR) (k : Nat) : All2 (fun i b => bs[i]? = some b) (comingN bs k) (comeB bs k) := by
  induction bs using snoc_ind with
  | h0 => exact .nil
  | h1 l b ih =>
    have e1 : comingN (l ++ [b]) k = comingN l k ++ (if b.to = k then [l.length] else []) := by
      unfold comingN
      rw [List.length_append, show l.length + [b].length = l.length + 1 from rfl, filt_succ]
      congr 1
      · refine List.filter_congr fun i hi => ?_
        rw [List.getElem?_append_left (List.mem_range.mp hi)]
      · rw [List.getElem?_append_right (Nat.le_refl _), Nat.sub_self]
        by_cases h : b.to = k
        · rw [if_pos h, if_pos (decide_eq_true (by rw [← h]; rfl))]
        · rw [if_neg h, if_neg]
          intro z
          exact h (Option.some.inj (of_decide_eq_true z))
    have e2 : comeB (l ++ [b]) k = comeB l k ++ (if b.to = k then [b] else []) := by
      unfold comeB
      rw [List.filter_append]
      congr 1
      by_cases h : b.to = k
      · rw [if_pos h]; simp [h]
      · rw [if_neg h]; simp [h]
    have ih2 : All2 (fun i c => (l ++ [b])[i]? = some c) (comingN l k) (comeB l k) := ih.imp fun i c e => by
      rw [List.getElem?_append_left (List.getElem?_eq_some_iff.mp e).1]; exact e
    rw [e1, e2]
    by_cases h : b.to = k
    · rw [if_pos h, if_pos h]
      refine ih2.snoc ?_
      rw [List.getElem?_append_right (Nat.le_refl _), Nat.sub_self]
      rfl
    · rw [if_neg h, if_neg h, List.append_nil, List.append_nil]
      exact ih2
theorem count_filter (bs : List BR) (k : Nat) : (bs.map BR.to).count k = (bs.filter fun b => decide (b.to = k)).length := by
  induction bs with
  | nil => rfl
  | cons b bs ih =>
    rw [List.map_cons, List.count_cons, List.filter_cons, ih]
    by_cases e : b.to = k
    · rw [if_pos (by simp [e]), if_pos (by simp [e])]; rfl
    · rw [if_neg (by simp [e]), if_neg (by simp [e])]; rfl
/-! ### a name told a dict written out -/
section
variable {X : Cx}
theorem ps_setDc {i : Nat} {y : Str} {py : Pos} {kx vx tg iter : Expr} {ifs : List Expr} {scope : Scope} {own : List (Str × Nat)} {pos spos : Pos} {wi : TI} {g : TG} {tt : TT} {tk tv : TE} (hc : X.calm = true) (hN : X.N.Nodup) (hy : X.N[i]? = some y) (hyl : X.env.scope.names.lookup y = some .local)
    (hsw : swapsWith (.DictComp kx vx [⟨tg, iter, ifs, 0⟩] scope pos) (some (.Name y py)) spos.line X.env = pure true) (hi : L2.PI X tg iter wi) (ok : BlkOk X.N X.env.scope scope own)
    (hg : ∀ (s : Shared) (H : Hp) (C : Addr) (cl : List (Str × Addr)) (fp : List Addr), L2.PG (X.blk s H scope (compEnvC scope cl C X.env) fp) tg g) (ht : ∀ (s : Shared) (H : Hp) (C : Addr) (cl : List (Str × Addr)) (fp : List Addr), PTs (X.blk s H scope (compEnvC scope cl C X.env) fp) ifs tt)
    (hk : ∀ (s : Shared) (H : Hp) (C : Addr) (cl : List (Str × Addr)) (fp : List Addr), L2.PE (X.blk s H scope (compEnvC scope cl C X.env) fp) kx tk)
    (he : ∀ (s : Shared) (H : Hp) (C : Addr) (cl : List (Str × Addr)) (fp : List Addr), L2.PE (X.blk s H scope (compEnvC scope cl C X.env) fp) vx tv) (hs : ∀ x, foldedSetIterable iter X.env x = pure x := by intro _; rfl) :
    PS X (.Assign [.Name y py] (.DictComp kx vx [⟨tg, iter, ifs, 0⟩] scope pos) spos) (tAsg (tDc wi g tt tk tv (own.map (·.2))) (gName i)) := by
  refine ⟨fun pins s σ H D I h => ?_⟩
  rw [exec_Assign_Name_used _ _ _ _ hsw]
  refine wpAny_bind (wpAny_standAt (wpAny_bind ?_))
  show wpAny _ X.A (do let _ ← comprehension (.DictComp kx vx [⟨tg, iter, ifs, 0⟩] scope pos) scope X.env (firstIterPos [⟨tg, iter, ifs, 0⟩] pos) newDict false (eval iter X.env) (some (assign (.Name y py) X.env))) _ _ s
  have h : tDc wi g tt tk tv (own.map (·.2)) σ H (fun x H1 => gName i x σ H1 D.nx) := h
  refine wpAny_bind (thn (dc_core (Qf := fun _ s' => SP X pins D .next s') hc hN I hi ok hg ht hk he hs h fun L C s' m H' I' q hn f => ?_) fun _ s' hq => wpAny_pure (wpAny_pure hq))
  refine wpAny_assign_Name (store_ok2 (v := V.ref L) I' hN hy (.inl hyl) rfl (fun s2 I2 ⟨a, sb, ha⟩ => ?_) (.inr hyl))
  obtain ⟨f0, f1, f2, f3, f4, f5⟩ := f
  have haC : C ≠ a := ha.elim (fun z => by rw [z]; exact f1) fun z e => f4 y a z e.symm
  exact ⟨m, hn.sameBut sb haC, fun h3 sb3 => ⟨_, H', I2.turned (t' := s2.toks) (fun b o hb e => (sb3.2 b hb).trans e) f0 f1 f3 f4 f5, q⟩⟩
theorem sw_dc {kx vx : Expr} {gs : List Comprehension} {scope : Scope} {pos py : Pos} {y : Str} {l : Nat} {env : Env} (hk : env.scope.kind = .function) (hy : env.scope.names.lookup y = some .local) (hl : (py.line == pos.line) = true)
    (ha : (scope.names.any fun (n, k) => n == y && (k == .local || k == .cell)) = false) : swapsWith (.DictComp kx vx gs scope pos) (some (.Name y py)) l env = pure true := by
  have ky : env.kindOf y = some .local := hy
  have hb : env.blockKind = .function := by unfold Env.blockKind; rw [hk]; rfl
  unfold swapsWith
  simp only [hb, ky, ha, Expr.pos, hl]
  rfl
end
theorem op_notB {X : Cx} : OpR X (compareOp .IsNot) (fun x y H Q => ∃ a b : Bool, x = .bl a ∧ y = .bl b ∧ Q (.bl (!decide (a = b))) H) := by
  intro pins s σ H x y v u Q I rx ry h
  obtain ⟨a, b, rfl, rfl, q⟩ := h
  obtain rfl : v = Value.bool a := rx
  obtain rfl : u = Value.bool b := ry
  exact wpAny_isNot_plain rfl (fin_bl I q (by cases a <;> cases b <;> rfl))
theorem op_isB {X : Cx} : OpR X (compareOp .Is) (fun x y H Q => ∃ a b : Bool, x = .bl a ∧ y = .bl b ∧ Q (.bl (decide (a = b))) H) := by
  intro pins s σ H x y v u Q I rx ry h
  obtain ⟨a, b, rfl, rfl, q⟩ := h
  obtain rfl : v = Value.bool a := rx
  obtain rfl : u = Value.bool b := ry
  exact wpAny_is_plain rfl (fin_bl I q (by cases a <;> cases b <;> rfl))
/-! ### tables; all and any over tuples -/
def Tb2 (PT : Addr × Addr) (H : Hp) : Prop := GxR.TabG H PT.1 ∧ GxR.TabG H PT.2
theorem Tb2.same {PT : Addr × Addr} {H H' : Hp} (t : Tb2 PT H) (s : Same H H') : Tb2 PT H' := by
  obtain ⟨⟨p1, e1, t1⟩, p2, e2, t2⟩ := t
  exact ⟨⟨p1, s _ _ e1, t1⟩, p2, s _ _ e2, t2⟩
theorem Tb2.but {PT : Addr × Addr} {f c : Addr} {H H' : Hp} (t : Tb2 PT H) (F : Flow H f c) (b : But f H H') : Tb2 PT H' := by
  obtain ⟨⟨p1, e1, t1⟩, p2, e2, t2⟩ := t
  obtain ⟨_, _, _, _, _, ef, _⟩ := F
  exact ⟨⟨p1, b _ _ e1 (fun z => by rw [z, ef] at e1; cases e1), t1⟩, p2, b _ _ e2 (fun z => by rw [z, ef] at e2; cases e2), t2⟩
theorem tabbed_ext {P : Addr} {H H' : Hp} (h : GxR.TabG H P) (t : GxR.Tabbed P H H') : LamX.ExtN H H' := fun b o e n => by
  obtain ⟨ps, ep, _⟩ := h
  rw [t.2 b (fun z => by rw [z, ep] at e; exact n ps (Option.some.inj e).symm)]
  exact e
theorem Tb2.tab1 {PT : Addr × Addr} {H H' : Hp} (g : Tb2 PT H) (t : GxR.Tabbed PT.1 H H') : Tb2 PT H' := by
  refine ⟨t.1, ?_⟩
  by_cases h : PT.2 = PT.1
  · rw [h]; exact t.1
  · obtain ⟨_, p2, e2, t2⟩ := g
    exact ⟨p2, by rw [t.2 _ h]; exact e2, t2⟩
theorem Tb2.tab2 {PT : Addr × Addr} {H H' : Hp} (g : Tb2 PT H) (t : GxR.Tabbed PT.2 H H') : Tb2 PT H' := by
  refine ⟨?_, t.1⟩
  by_cases h : PT.1 = PT.2
  · rw [h]; exact t.1
  · obtain ⟨⟨p1, e1, t1⟩, _⟩ := g
    exact ⟨p1, by rw [t.2 _ h]; exact e1, t1⟩
theorem tk_ext {H H' : Hp} (e : LamX.ExtN H H') : TK H H' := fun a xs h => e a _ h (fun ps z => nomatch z)
theorem ext_same {H H' : Hp} (s : Same H H') : LamX.ExtN H H' := fun a o h _ => s a o h
/-- the code objects of has_form and is_belt_triple -/
class TabF (K : PySem.W.Frag) (mg : Str → Option Value) (base : Heap) (cF : outParam Addr) (PT : outParam (Addr × Addr)) : Prop where
  tb : GxR.TabB base mg cF PT.1
  cd : ∀ (f : Addr) (fd : FuncData), Fun K "has_form" "has_form" s_has_form f fd → mg "has_form" = some (.ref f) → fd.code = .ref cF
class TabC (K : PySem.W.Frag) (mg : Str → Option Value) (base : Heap) (cB : outParam Addr) (PT : outParam (Addr × Addr)) : Prop where
  tb : GxR.TabB base mg cB PT.2
  cd : ∀ (f : Addr) (fd : FuncData), Fun K "is_belt_triple" "is_belt_triple" s_is_belt_triple f fd → mg "is_belt_triple" = some (.ref f) → fd.code = .ref cB
/-- a def of which the code object is known -/
theorem ok_code {P : Program} {w : World} {K : PySem.W.Frag} {mg : Str → Option Value} {base : Heap} {x qual : Str} {st : Stmt} {f c : Addr} {fd : FuncData} {N ps : List Str} {k : Nat} {sp : Sp} (F : Fun K x qual st f fd) (hc : fd.code = .ref c) (S : FnScope N ps (defScope st)) (len : ∀ vs H Q E, sp vs H Q E → vs.length = ps.length)
    (hbody : ∀ (A : Around) (outer : List Env) (s : Shared) (H : Hp) (vs : List V) (Q : VK) (E : XK), Room k (A.deeper (envOfC qual (defScope st) s.heap.objs.size f (.ref c))) → sp vs H Q E →
      ∃ t, PSs (cxOf CX0 P w K mg base N qual (defScope st) f (.ref c) A outer s H E).nox (defBody st) t ∧ t { nx := fun _ H' => Q .non H', rt := Q } (L2.start N vs) H) : FnOk P w K mg base CX0 (k + 1) f fd ps sp := by
  obtain ⟨kl, kd, kV, dc, pm, an, cv, ct, ks, rfl, look, cin⟩ := F.ex
  obtain rfl : cv = .ref c := hc
  refine fn_of look cin S len fun A outer s H vs Q E hr now => ?_
  obtain ⟨t, h, q⟩ := hbody A outer s H vs Q E hr now
  exact ⟨t, h.nox, q⟩
/-- a statement that is never come to -/
theorem ps_dead {X : Cx} {st : Stmt} : PS X st (fun _ _ _ => False) := ⟨fun _ _ _ _ _ _ h => h.elim⟩
/-- all, any: over a tuple that the elements leave as it is -/
theorem qt_tup {K : PySem.W.Frag} {a : Addr} {xs : List V} {g : TG} {te : TE} {vs : List Nat} {sgσ : L2.St} {kp : Bool} {H2 : Hp} {Q : VK} (Pv : Nat → Hp → Prop) (h0 : Pv 0 H2) (hl : ∀ i H, i ≤ xs.length → Pv i H → SqT K H a xs)
    (hs : ∀ i x H, xs[i]? = some x → Pv i H → g x sgσ H fun σ2 H3 => wipe σ2 vs = sgσ ∧ te σ2 H3 fun y H4 => ∃ b, y = .bl b ∧ (b ≠ kp → Q (.bl b) H4) ∧ (b = kp → Pv (i + 1) H4)) (hd : ∀ H, Pv xs.length H → Q (.bl kp) H) :
    ∃ W : Nat → Nat → Hp → Prop, (∃ m, W 0 m H2) ∧ ∀ i m H, W i m H →
      ((Itt K a).stop i H ∧ Q (.bl kp) H) ∨ ((Itt K a).go i H ∧ ∃ Nx : Hp → Prop, (∀ H', Nx H' → ∃ m', m' < m ∧ W (i + 1) m' H') ∧ ∀ x H', (Itt K a).yld i H x H' → g x sgσ H' fun σ2 H3 => wipe σ2 vs = sgσ ∧ te σ2 H3 fun y H4 => ∃ b, y = .bl b ∧ (b ≠ kp → Q (.bl b) H4) ∧ (b = kp → Nx H4)) := by
  refine ⟨fun i m H => i + m = xs.length ∧ Pv i H, ⟨xs.length, Nat.zero_add _, h0⟩, fun i m H ⟨total, here⟩ => ?_⟩
  have seen := hl i H (by omega) here
  cases m with
  | zero =>
    have : i = xs.length := by omega
    subst this
    exact .inl ⟨⟨xs, seen, Nat.le_refl _⟩, hd H here⟩
  | succ m =>
    have lt : i < xs.length := by omega
    refine .inr ⟨⟨xs, xs[i], seen, List.getElem?_eq_getElem lt⟩, Pv (i + 1), fun H' p' => ⟨m, Nat.lt_succ_self m, by omega, p'⟩, fun x H' y => ?_⟩
    obtain ⟨rfl, y⟩ := y
    exact hs i x _ (y xs seen) here
/-! ### belts without things -/
abbrev DSt (g : TG) (tt : TT) (tk tv : TE) (vs : List Nat) (σ : L2.St) (D : Addr) (x : V) (H' : Hp) (N : Hp → Prop) : Prop := g x (wipe σ vs) H' fun σ2 H2 => wipe σ2 vs = wipe σ vs ∧ tt σ2 H2 fun b H3 => if b = true then (tk σ2 H3 fun y H4 => tv σ2 H4 fun z H5 => ∃ kvs k, y = kV k ∧ H5 D = some (.dK kvs) ∧ kvs.length < sizeLine ∧ N (upd H5 D (.dK (putK kvs k z)))) else N H3
theorem dc_range {lo : Int} {n : Nat} {g : TG} {tt : TT} {tk tv : TE} {vs : List Nat} {σ : L2.St} {H1 : Hp} {D : Addr} {Qd : Hp → Prop} (Pv : Nat → Hp → Prop) (h0 : Pv 0 (upd H1 D (.dK []))) (hs : ∀ i H, i < n → Pv i H → DSt g tt tk tv vs σ D (.int (lo + i)) H (Pv (i + 1))) (hd : ∀ H, Pv n H → Qd H) :
    ∃ W : Nat → Nat → Hp → Prop, (∃ m, W 0 m (upd H1 D (.dK []))) ∧ ∀ i m H, W i m H → ((Itr lo n).stop i H ∧ Qd H) ∨ ((Itr lo n).go i H ∧ ∃ Nx : Hp → Prop, (∀ H', Nx H' → ∃ m', m' < m ∧ W (i + 1) m' H') ∧ ∀ x H', (Itr lo n).yld i H x H' → DSt g tt tk tv vs σ D x H' Nx) := by
  refine ⟨fun i m H => m = n - i ∧ i ≤ n ∧ Pv i H, ⟨n, by simp, Nat.zero_le _, h0⟩, ?_⟩
  rintro i m H ⟨rfl, hi, p⟩
  by_cases hlt : i < n
  · refine .inr ⟨hlt, Pv (i + 1), fun H' p' => ⟨n - (i + 1), by omega, rfl, hlt, p'⟩, fun x H' y => ?_⟩
    obtain ⟨e, y⟩ := y
    subst e y
    exact hs i _ hlt p
  · have e : i = n := by omega
    subst e
    exact .inl ⟨Nat.le_refl _, hd H p⟩
/-- the hands that the belts without things lead to -/
def bareSt (bs : List BR) (i : Nat) : List Nat := (bs.filter fun b => decide (b.one = i) && b.th.isEmpty).map BR.to
theorem bare_snoc (bs : List BR) (b : BR) (i : Nat) : bareSt (bs ++ [b]) i = if b.one = i ∧ b.th = [] then bareSt bs i ++ [b.to] else bareSt bs i := by
  unfold bareSt
  rw [List.filter_append, List.map_append]
  by_cases h : b.one = i ∧ b.th = []
  · rw [if_pos h, List.filter_cons, if_pos (by rw [h.1, h.2, decide_eq_true rfl]; rfl)]
    rfl
  · rw [if_neg h, List.filter_cons, if_neg (fun z => h ?_)]
    · exact List.append_nil _
    · rw [Bool.and_eq_true, decide_eq_true_eq, List.isEmpty_iff] at z
      exact z
theorem bare_mem {bs : List BR} {i y : Nat} (h : y ∈ bareSt bs i) : ∃ b ∈ bs, b.one = i ∧ b.th = [] ∧ b.to = y := by
  unfold bareSt at h
  obtain ⟨b, hb, e⟩ := List.mem_map.mp h
  obtain ⟨m, z⟩ := List.mem_filter.mp hb
  rw [Bool.and_eq_true, decide_eq_true_eq, List.isEmpty_iff] at z
  exact ⟨b, m, z.1, z.2, e⟩
theorem bare_len (bs : List BR) (i : Nat) : (bareSt bs i).length ≤ bs.length := by
  unfold bareSt
  rw [List.length_map]
  exact List.length_filter_le ..
theorem bare_none {hs : List HR} {bs : List BR} (ok : RoomOk hs bs) (x : Nat) : ¬ OnW (bareSt bs) x x := fun h => by
  obtain ⟨rk, hr⟩ := ok.rank
  have := h.rank (rk := rk) fun x y hy => (by
    obtain ⟨b, hb, e1, e2, e3⟩ := bare_mem hy
    rw [← e1, ← e3]
    exact hr b hb e2)
  omega
theorem stK_none (adr : Nat → Addr) (n : Nat) : valV (stK adr n) (Sum.inl ((n : Nat) : Int)) = none := by
  unfold valV
  rw [Option.map_eq_none_iff, List.find?_eq_none]
  intro kv hk
  obtain ⟨i, hi, rfl⟩ := List.mem_map.mp hk
  have := List.mem_range.mp hi
  intro z
  have := Sum.inl.inj (of_decide_eq_true z)
  omega
theorem stK_put (adr : Nat → Addr) (n : Nat) (p : Addr) : putK (stK adr n) (Sum.inl ((n : Nat) : Int)) (.ref p) = stK (fun j => if j = n then p else adr j) (n + 1) := by
  rw [putK_new _ (stK_none adr n)]
  unfold stK
  rw [List.range_succ, List.map_append]
  congr 1
  · refine List.map_congr_left fun i hi => ?_
    have := List.mem_range.mp hi
    show (_, V.ref (adr i)) = (_, V.ref (if i = n then p else adr i))
    rw [if_neg (by omega)]
  · show [_] = [(_, V.ref (if n = n then p else adr n))]
    rw [if_pos rfl]
/-- the steps under way -/
structure StU (H0 H : Hp) (d : Addr) (n : Nat) (st : Nat → List Nat) : Prop where
  ex : ∃ adr : Nat → Addr, H d = some (.dK (stK adr n)) ∧ (∀ i, i < n → H (adr i) = some (.lst ((st i).map nV)) ∧ H0 (adr i) = none) ∧ (∀ i j, i < n → j < n → adr i = adr j → i = j) ∧ Same H0 H
/-! ### things: any data, its lists other than the draws' -/
mutual
inductive Th (f : Addr → Prop) (H : Hp) : V → PyData → Prop
  | non : Th f H .non .none
  | bl (b : Bool) : Th f H (.bl b) (.bool b)
  | int (i : Int) : Th f H (.int i) (.int i)
  | str (x : Str) : Th f H (.str x) (.str x)
  | lst {a : Addr} {xs : List V} {ds : List PyData} : H a = some (.lst xs) → f a → ThAll f H xs ds → Th f H (.ref a) (.list ds)
  | tup {a : Addr} {xs : List V} {ds : List PyData} : H a = some (.tup xs) → f a → ThAll f H xs ds → Th f H (.ref a) (.tuple ds)
inductive ThAll (f : Addr → Prop) (H : Hp) : List V → List PyData → Prop
  | nil : ThAll f H [] []
  | cons {v : V} {vs : List V} {d : PyData} {ds : List PyData} : Th f H v d → ThAll f H vs ds → ThAll f H (v :: vs) (d :: ds)
end
mutual
theorem Th.dp {K : PySem.W.Frag} {f : Addr → Prop} {H : Hp} : ∀ {v : V} {d : PyData}, Th f H v d → Dp K H v d
  | _, _, .non => .non
  | _, _, .bl b => .bl b
  | _, _, .int i => .int i
  | _, _, .str x => .str x
  | _, _, .lst a _ b => .lst (SqL.of a) (ThAll.dp b)
  | _, _, .tup a _ b => .tup (SqT.of a) (ThAll.dp b)
theorem ThAll.dp {K : PySem.W.Frag} {f : Addr → Prop} {H : Hp} : ∀ {v : List V} {d : List PyData}, ThAll f H v d → DpAll K H v d
  | _, _, .nil => .nil
  | _, _, .cons a b => .cons (Th.dp a) (ThAll.dp b)
end
mutual
theorem Th.keep {f : Addr → Prop} {H H' : Hp} (k : ∀ b o, H b = some o → f b → H' b = some o) : ∀ {v : V} {d : PyData}, Th f H v d → Th f H' v d
  | _, _, .non => .non
  | _, _, .bl b => .bl b
  | _, _, .int i => .int i
  | _, _, .str x => .str x
  | _, _, .lst a n b => .lst (k _ _ a n) n (ThAll.keep k b)
  | _, _, .tup a n b => .tup (k _ _ a n) n (ThAll.keep k b)
theorem ThAll.keep {f : Addr → Prop} {H H' : Hp} (k : ∀ b o, H b = some o → f b → H' b = some o) : ∀ {v : List V} {d : List PyData}, ThAll f H v d → ThAll f H' v d
  | _, _, .nil => .nil
  | _, _, .cons a b => .cons (Th.keep k a) (ThAll.keep k b)
end
/-- the name of a thing's class -/
def tyN : PyData → String
  | .none => "NoneType"
  | .bool _ => "bool"
  | .int _ => "int"
  | .str _ => "str"
  | .list _ => "list"
  | .tuple _ => "tuple"
  | .dict _ => "dict"
theorem Th.ty {K : PySem.W.Frag} {f : Addr → Prop} {H : Hp} {v : V} {d : PyData} (h : Th f H v d) : TyX K H v (.type (tyN d)) := by
  cases h with
  | non => exact .base .non
  | bl b => exact .base (.bl b)
  | int i => exact .base (.int i)
  | str x => exact .base (.str x)
  | lst a n b => exact .base (.lst a)
  | tup a n b => exact .base (.tup a)
/-- isinstance of a thing -/
def isB (a T : String) : Bool := a == T || (a == "bool" && T == "int")
theorem kit_all : (["NoneType", "bool", "int", "str", "list", "tuple"].all fun a => ["int", "bool", "str", "tuple", "list"].all fun T => decide (kitB a T = some (isB a T))) = true := by decide +kernel
theorem kit_is {K : PySem.W.Frag} {f : Addr → Prop} {H : Hp} {v : V} {d : PyData} (h : Th f H v d) (T : String) (hT : T ∈ ["int", "bool", "str", "tuple", "list"]) : PySem.W.kitOne K (.type (tyN d)) (.type T) = some (isB (tyN d) T) := by
  refine kit_ty ?_
  have m : tyN d ∈ ["NoneType", "bool", "int", "str", "list", "tuple"] := by cases h <;> simp [tyN]
  exact of_decide_eq_true (List.all_eq_true.mp (List.all_eq_true.mp kit_all _ m) _ hT)
/-! ### what a rule is -/
def isInt : PyData → Bool
  | .int _ => true
  | _ => false
def oneInt : List PyData → Bool
  | [x] => isInt x
  | _ => false
def isRule : PyData → Bool
  | .tuple (.str z :: l) => decide (z ∈ eleven) && (if z = "times" ∨ z = "always" then oneInt l else l.isEmpty)
  | _ => false
section
variable {P : Program} {w : World} {K : PySem.W.Frag} {mg : Str → Option Value} {base : Heap}
def sp_is_whole (K : PySem.W.Frag) : Sp := fun vs H Q _ => ∃ (f : Addr → Prop) (v : V) (d : PyData), vs = [v] ∧ Th f H v d ∧ Q (.bl (isInt d)) H
theorem ok_is_whole {f : Addr} {fd : FuncData} (F : Fun K "is_whole" "is_whole" s_is_whole f fd) (T : Top w K mg) : FnOk P w K mg base CX0 1 f fd ["thing"] (sp_is_whole K) := by
  refine F.ok sc_is_whole (fun vs H Q E h => ?_) (fun cdv A outer s H vs Q E hr h => ?_)
  · obtain ⟨f, v, d, rfl, _⟩ := h
    rfl
  obtain ⟨f, v, d, rfl, th, q⟩ := h
  refine ⟨_, (pss_one (ps_ret (pe_and (pe_callB (call_isiKK K rfl) (by rfl) T.m_isinstance (by decide +kernel) (pa_cons (pv 0) (pa_cons (pe_bltn (v := .ty "int") (by rfl) T.m_int (by decide +kernel) rfl) pa_nil))) (pe_one (pe_not (pe_callB (call_isiKK K rfl) (by rfl) T.m_isinstance (by decide +kernel) (pa_cons (pv 0) (pa_cons (pe_bltn (v := .ty "bool") (by rfl) T.m_bool (by decide +kernel) rfl) pa_nil)))))))), ?_⟩
  refine ⟨_, rfl, _, _, _, _, _, rfl, .ty "int", th.ty, kit_is th "int" (by decide), _, rfl, ?_⟩
  have e : isInt d = (isB (tyN d) "int" && !isB (tyN d) "bool") := by cases d <;> rfl
  cases h1 : isB (tyN d) "int" with
  | false =>
    rw [e, h1] at q
    exact q
  | true =>
    refine ⟨_, rfl, _, _, _, _, _, rfl, .ty "bool", th.ty, kit_is th "bool" (by decide), _, rfl, ?_⟩
    rw [e, h1] at q
    exact q
def sp_is_rule (K : PySem.W.Frag) : Sp := fun vs H Q _ => ∃ (f : Addr → Prop) (v : V) (d : PyData), vs = [v] ∧ Th f H v d ∧ Q (.bl (isRule d)) H
theorem ok_is_rule {f : Addr} {fd : FuncData} (F : Fun K "is_rule" "is_rule" s_is_rule f fd) (T : Top w K mg) : FnOk P w K mg base CX0 2 f fd ["thing"] (sp_is_rule K) := by
  obtain ⟨f_is_whole, fd_is_whole, F_is_whole, b_is_whole, m_is_whole⟩ := T.d_is_whole
  have G_is_whole := ok_is_whole (P := P) (w := w) (base := base) F_is_whole T
  refine F.ok sc_is_rule (fun vs H Q E h => ?_) (fun cdv A outer s H vs Q E hr h => ?_)
  · obtain ⟨f, v, d, rfl, _⟩ := h
    rfl
  obtain ⟨f, v, d, rfl, th, q⟩ := h
  obtain ⟨aN, mN, hN⟩ := T.x_needs
  obtain ⟨aW, mW, hW⟩ := T.x_with
  obtain ⟨es, nn, hKD⟩ := hN.dict
  refine ⟨_, (pss_cons (ps_if (PW.pt (pw_or (pt_not (pt_val (pe_callB (call_isiKK K rfl) (by rfl) T.m_isinstance (by decide +kernel) (pa_cons (pv 0) (pa_cons (pe_bltn (v := .ty "tuple") (by rfl) T.m_tuple (by decide +kernel) rfl) pa_nil))))) (pw_or1 (pt_cmpR op_lt (pe_callB (call_len_seqK K rfl) (by rfl) T.m_len (by decide +kernel) (pa_cons (pv 0) pa_nil)) pe_int (nomark _))))) (pss_one (ps_ret pe_bl)) pss_nil)
      (pss_cons (ps_set (i := 1) sc_is_rule.nd rfl (Or.inl rfl) (pe_ix (ix_tupK K rfl) (pv 0) pe_int (fun _ _ => rfl)))
      (pss_cons (ps_if (PW.pt (pw_or (pt_not (pt_val (pe_callB (call_isiKK K rfl) (by rfl) T.m_isinstance (by decide +kernel) (pa_cons (pv 1) (pa_cons (pe_bltn (v := .ty "str") (by rfl) T.m_str (by decide +kernel) rfl) pa_nil))))) (pw_or1 (pt_cmpR (op_notIn_kd hKD) (pv 1) (pe_glob (v := .ref aN) (by rfl) mN rfl) (by with_unfolding_all rfl))))) (pss_one (ps_ret pe_bl)) pss_nil)
      (pss_cons (ps_if (pt_cmpR (op_in_seqK K rfl) (pv 1) (pe_glob (v := .ref aW) (by rfl) mW rfl) (by with_unfolding_all rfl)) (pss_one (ps_ret (pe_and (pe_cmpR op_eq (pe_callB (call_len_seqK K rfl) (by rfl) T.m_len (by decide +kernel) (pa_cons (pv 0) pa_nil)) pe_int (nomark _)) (pe_one (pe_call G_is_whole (hr.mono (by decide)) (by rfl) m_is_whole F_is_whole.kp b_is_whole .nil pass0 (pa_cons (pe_ix (ix_tupK K rfl) (pv 0) pe_int (fun _ _ => rfl)) pa_nil)))))) pss_nil)
      (pss_one (ps_ret (pe_cmpR op_eq (pe_callB (call_len_seqK K rfl) (by rfl) T.m_len (by decide +kernel) (pa_cons (pv 0) pa_nil)) pe_int (nomark _)))))))), ?_⟩
  refine ⟨_, rfl, _, _, _, _, _, rfl, .ty "tuple", th.ty, kit_is th "tuple" (by decide), _, rfl, ?_⟩
  have notTuple : (∀ ds, d ≠ .tuple ds) → isRule d = false ∧ isB (tyN d) "tuple" = false := fun h => by
    cases d <;> first | exact ⟨rfl, rfl⟩ | exact absurd rfl (h _)
  by_cases ht : ∃ ds, d = .tuple ds
  · obtain ⟨ds, rfl⟩ := ht
    refine if_bl (fun z => nomatch (show (!true) = true from z)) (fun _ => ?_)
    cases th with
    | @tup a xs _ ha na al =>
    refine ⟨_, rfl, a, _, rfl, .inr (SqT.of ha), _, _, rfl, rfl, _, rfl, ?_⟩
    cases al with
    | nil => exact q
    | @cons x xr d1 dr h1 hr1 =>
    refine if_bl (fun z => ?_) (fun _ => ?_)
    · have z := of_decide_eq_true z
      rw [List.length_cons] at z
      omega
    refine ⟨_, rfl, a, _, _, _, rfl, rfl, SqT.of ha, atI_nat (j := 0) rfl, ?_⟩
    refine ⟨_, rfl, _, _, _, _, _, rfl, .ty "str", h1.ty, kit_is h1 "str" (by decide), _, rfl, ?_⟩
    by_cases hs : ∃ z, d1 = .str z
    · obtain ⟨z, rfl⟩ := hs
      cases h1
      refine if_bl (fun y => nomatch (show (!true) = true from y)) (fun _ => ?_)
      by_cases hz : z ∈ eleven
      · obtain ⟨t, hy⟩ := hN.yes z hz
        refine ⟨_, rfl, z, _, rfl, rfl, hy, _, rfl, if_bl (fun y => nomatch y) (fun _ => ?_)⟩
        have eq1 : isRule (.tuple (.str z :: dr)) = (if z = "times" ∨ z = "always" then oneInt dr else dr.isEmpty) := by
          show (decide (z ∈ eleven) && (if z = "times" ∨ z = "always" then oneInt dr else dr.isEmpty)) = _
          rw [decide_eq_true hz, Bool.true_and]
        rw [eq1] at q
        refine ⟨_, rfl, aW, _, rfl, .inr (hW _), rfl, rfl, _, rfl, if_in (zs := ["times", "always"]) (fun e => ?_) (fun e => ?_)⟩
        · have e2 : z = "times" ∨ z = "always" := by simpa using e
          rw [if_pos e2] at q
          refine ⟨_, rfl, a, _, rfl, .inr (SqT.of ha), rfl, _, rfl, ?_⟩
          cases hr1 with
          | nil => exact q
          | @cons x2 xr2 d2 dr2 h2 hr2 =>
            cases hr2 with
            | nil =>
              exact ⟨_, rfl, a, _, _, _, rfl, rfl, SqT.of ha, atI_nat (j := 1) rfl, f, _, _, rfl, h2, q⟩
            | @cons x3 xr3 d3 dr3 h3 hr3 =>
              rw [decide_eq_false (show ¬ V.int (((V.str z :: x2 :: x3 :: xr3).length : Nat) : Int) = V.int 2 from fun y => by
                have y := V.int.inj y
                simp only [List.length_cons] at y
                omega)]
              exact q
        · have e2 : ¬ (z = "times" ∨ z = "always") := by simpa using e
          rw [if_neg e2] at q
          refine ⟨_, rfl, a, _, rfl, .inr (SqT.of ha), rfl, ?_⟩
          cases hr1 with
          | nil => exact q
          | @cons x2 xr2 d2 dr2 h2 hr2 =>
            rw [decide_eq_false (show ¬ V.int (((V.str z :: x2 :: xr2).length : Nat) : Int) = V.int 1 from fun y => by
              have y := V.int.inj y
              simp only [List.length_cons] at y
              omega)]
            exact q
      · refine ⟨_, rfl, z, _, rfl, rfl, hN.no z hz, _, rfl, if_bl (fun _ => ?_) (fun y => nomatch y)⟩
        have eq1 : isRule (.tuple (.str z :: dr)) = false := by
          show (decide (z ∈ eleven) && _) = _
          rw [decide_eq_false hz, Bool.false_and]
        rw [eq1] at q
        exact q
    · have e1 : isB (tyN d1) "str" = false := by cases d1 <;> first | rfl | exact absurd ⟨_, rfl⟩ hs
      rw [e1]
      refine if_bl (fun _ => ?_) (fun y => nomatch y)
      have eq1 : isRule (.tuple (d1 :: dr)) = false := by cases d1 <;> first | rfl | exact absurd ⟨_, rfl⟩ hs
      rw [eq1] at q
      exact q
  · obtain ⟨e1, e2⟩ := notTuple (fun ds h => ht ⟨ds, h⟩)
    rw [e1] at q
    rw [e2]
    exact if_bl (fun _ => q) (fun y => nomatch y)
def sp_needs (K : PySem.W.Frag) : Sp := fun vs H Q _ => ∃ (r : Addr) (z : Str) (l : List V), vs = [.ref r] ∧ SqT K H r (.str z :: l) ∧ z ∈ eleven ∧ Q (.int (needN z)) H
theorem ok_needs {f : Addr} {fd : FuncData} (F : Fun K "needs" "needs" s_needs f fd) (T : Top w K mg) : FnOk P w K mg base CX0 1 f fd ["rule"] (sp_needs K) := by
  refine F.ok sc_needs (fun vs H Q E h => ?_) (fun cdv A outer s H vs Q E hr h => ?_)
  · obtain ⟨r, z, l, rfl, _⟩ := h
    rfl
  obtain ⟨r, z, l, rfl, hR, hz, q⟩ := h
  obtain ⟨aN, mN, hN⟩ := T.x_needs
  obtain ⟨es, nn, hKD⟩ := hN.dict
  obtain ⟨t, hy⟩ := hN.yes z hz
  refine ⟨_, (pss_one (ps_ret (pe_ix ix_kdict (pe_glob (v := .ref aN) (by rfl) mN rfl) (pe_ix (ix_tupK K rfl) (pv 0) pe_int (fun _ _ => rfl)) (fun _ _ => rfl)))), ?_⟩
  exact ⟨_, rfl, r, _, _, _, rfl, rfl, hR, atI_nat (j := 0) rfl, aN, z, .int (needN z), rfl, rfl, ⟨es, nn, _, hKD.at_, hKD.lit, hy, ⟨t, rfl⟩⟩, q⟩
end
/-! ### the form of a room, whatever it is -/
def isTupN : PyData → Nat → Bool
  | .tuple ds, k => decide (ds.length = k)
  | _, _ => false
def isPair : PyData → Bool
  | .tuple [_, b] => isInt b
  | _ => false
def isTriple : PyData → Bool
  | .tuple [a, b, .tuple l] => isInt a && (isInt b && l.all isInt)
  | _ => false
def formB : PyData → Bool
  | .tuple [.tuple l, .tuple m] => l.all isPair && m.all isTriple
  | _ => false
theorem ThAll.length {f : Addr → Prop} {H : Hp} : ∀ {vs : List V} {ds : List PyData}, ThAll f H vs ds → vs.length = ds.length
  | _, _, .nil => rfl
  | _, _, .cons _ t => congrArg (· + 1) (ThAll.length t)
theorem ThAll.get {f : Addr → Prop} {H : Hp} : ∀ {vs : List V} {ds : List PyData} {i : Nat} {v : V}, ThAll f H vs ds → vs[i]? = some v → ∃ d, ds[i]? = some d ∧ Th f H v d
  | _, _, 0, _, .cons h _, e => by cases e; exact ⟨_, rfl, h⟩
  | _, _, i + 1, _, .cons _ t, e => ThAll.get (i := i) t e
theorem ThAll.getR {f : Addr → Prop} {H : Hp} : ∀ {vs : List V} {ds : List PyData} {i : Nat} {d : PyData}, ThAll f H vs ds → ds[i]? = some d → ∃ v, vs[i]? = some v ∧ Th f H v d
  | _, _, 0, _, .cons h _, e => by cases e; exact ⟨_, rfl, h⟩
  | _, _, i + 1, _, .cons _ t, e => ThAll.getR (i := i) t e
mutual
theorem Th.ext {f : Addr → Prop} {H H' : Hp} (k : LamX.ExtN H H') : ∀ {v : V} {d : PyData}, Th f H v d → Th f H' v d
  | _, _, .non => .non
  | _, _, .bl b => .bl b
  | _, _, .int i => .int i
  | _, _, .str x => .str x
  | _, _, .lst a n b => .lst (k _ _ a (fun _ z => nomatch z)) n (ThAll.ext k b)
  | _, _, .tup a n b => .tup (k _ _ a (fun _ z => nomatch z)) n (ThAll.ext k b)
theorem ThAll.ext {f : Addr → Prop} {H H' : Hp} (k : LamX.ExtN H H') : ∀ {v : List V} {d : List PyData}, ThAll f H v d → ThAll f H' v d
  | _, _, .nil => .nil
  | _, _, .cons a b => .cons (Th.ext k a) (ThAll.ext k b)
end
theorem Th.same {f : Addr → Prop} {H H' : Hp} {v : V} {d : PyData} (h : Th f H v d) (s : Same H H') : Th f H' v d := h.keep (fun b o e _ => s b o e)
theorem ThAll.same {f : Addr → Prop} {H H' : Hp} {v : List V} {d : List PyData} (h : ThAll f H v d) (s : Same H H') : ThAll f H' v d := h.keep (fun b o e _ => s b o e)
theorem not_tup {d : PyData} (h : ¬ ∃ ds, d = .tuple ds) : isB (tyN d) "tuple" = false := by
  cases d <;> first | rfl | exact absurd ⟨_, rfl⟩ h
theorem tupN_not {d : PyData} {k : Nat} (h : ¬ ∃ ds, d = .tuple ds) : isTupN d k = false := by
  cases d <;> first | rfl | exact absurd ⟨_, rfl⟩ h
theorem tupN_two {d : PyData} (h : isTupN d 2 = true) : ∃ a b, d = .tuple [a, b] := by
  cases d with
  | tuple ds =>
    have h : decide (ds.length = 2) = true := h
    have h := of_decide_eq_true h
    match ds, h with
    | [a, b], _ => exact ⟨a, b, rfl⟩
  | _ => cases h
theorem tupN_three {d : PyData} (h : isTupN d 3 = true) : ∃ a b c, d = .tuple [a, b, c] := by
  cases d with
  | tuple ds =>
    have h : decide (ds.length = 3) = true := h
    have h := of_decide_eq_true h
    match ds, h with
    | [a, b, c], _ => exact ⟨a, b, c, rfl⟩
  | _ => cases h
theorem pair_no {d : PyData} (h : isTupN d 2 = false) : isPair d = false := by
  unfold isPair
  split
  · cases h
  · rfl
theorem triple_no {d : PyData} (h : isTupN d 3 = false) : isTriple d = false := by
  unfold isTriple
  split
  · cases h
  · rfl
theorem triple_no2 {a b c : PyData} (h : ¬ ∃ ds, c = .tuple ds) : isTriple (.tuple [a, b, c]) = false := by
  unfold isTriple
  split
  · rename_i e
    cases e
    exact absurd ⟨_, rfl⟩ h
  · rfl
theorem form_no {d : PyData} (h : isTupN d 2 = false) : formB d = false := by
  unfold formB
  split
  · cases h
  · rfl
theorem form_no2 {a b : PyData} (h : ¬ ((∃ l, a = .tuple l) ∧ ∃ m, b = .tuple m)) : formB (.tuple [a, b]) = false := by
  unfold formB
  split
  · rename_i e
    cases e
    exact absurd ⟨⟨_, rfl⟩, _, rfl⟩ h
  · rfl
theorem all_no {α : Type} {p : α → Bool} {l : List α} {i : Nat} {x : α} (e : l[i]? = some x) (h : p x = false) : l.all p = false := by
  refine Bool.eq_false_iff.mpr fun z => ?_
  have := List.all_eq_true.mp z x (List.mem_of_getElem? e)
  rw [h] at this
  cases this
theorem all_succ {α : Type} {p : α → Bool} {l : List α} {i : Nat} {x : α} (e : l[i]? = some x) (h : (l.take i).all p = true) (hx : p x = true) : (l.take (i + 1)).all p = true := by
  rw [List.take_add_one, e, List.all_append, h, Bool.true_and]
  show (p x && true) = true
  rw [hx]
  rfl
section
variable {P : Program} {w : World} {K : PySem.W.Frag} {mg : Str → Option Value} {base : Heap}
def sp_is_tuple_of (K : PySem.W.Frag) : Sp := fun vs H Q _ => ∃ (f : Addr → Prop) (v : V) (d : PyData) (k : Nat), vs = [v, nV k] ∧ Th f H v d ∧ Q (.bl (isTupN d k)) H
theorem ok_is_tuple_of {f : Addr} {fd : FuncData} (F : Fun K "is_tuple_of" "is_tuple_of" s_is_tuple_of f fd) (T : Top w K mg) : FnOk P w K mg base CX0 1 f fd ["thing", "many"] (sp_is_tuple_of K) := by
  refine F.ok sc_is_tuple_of (fun vs H Q E h => ?_) (fun cdv A outer s H vs Q E hr h => ?_)
  · obtain ⟨f, v, d, k, rfl, _⟩ := h
    rfl
  obtain ⟨f, v, d, k, rfl, th, q⟩ := h
  refine ⟨_, (pss_one (ps_ret (pe_and (pe_callB (call_isiKK K rfl) (by rfl) T.m_isinstance (by decide +kernel) (pa_cons (pv 0) (pa_cons (pe_bltn (v := .ty "tuple") (by rfl) T.m_tuple (by decide +kernel) rfl) pa_nil))) (pe_one (pe_cmpR op_eq (pe_callB (call_len_seqK K rfl) (by rfl) T.m_len (by decide +kernel) (pa_cons (pv 0) pa_nil)) (pv 1) (nomark _)))))), ?_⟩
  refine ⟨_, rfl, _, _, _, _, _, rfl, .ty "tuple", th.ty, kit_is th "tuple" (by decide), _, rfl, ?_⟩
  by_cases ht : ∃ ds, d = .tuple ds
  · obtain ⟨ds, rfl⟩ := ht
    refine if_bl (fun _ => ?_) (fun z => nomatch z)
    cases th with
    | @tup a xs _ ha na al =>
    refine ⟨_, rfl, a, _, rfl, .inr (SqT.of ha), _, rfl, rfl, ?_⟩
    have e : decide (V.int ((xs.length : Nat) : Int) = nV k) = isTupN (.tuple ds) k := by
      show _ = decide (ds.length = k)
      rw [al.length]
      by_cases z : ds.length = k
      · rw [z, decide_eq_true rfl, decide_eq_true rfl]
      · rw [decide_eq_false z, decide_eq_false fun y => z (by have := V.int.inj y; omega)]
    rw [e]
    exact q
  · rw [not_tup ht]
    rw [tupN_not ht] at q
    exact q
def sp_is_hand_pair (K : PySem.W.Frag) : Sp := fun vs H Q _ => ∃ (f : Addr → Prop) (v : V) (d : PyData), vs = [v] ∧ Th f H v d ∧ Q (.bl (isPair d)) H
theorem ok_is_hand_pair {f : Addr} {fd : FuncData} (F : Fun K "is_hand_pair" "is_hand_pair" s_is_hand_pair f fd) (T : Top w K mg) : FnOk P w K mg base CX0 2 f fd ["hand"] (sp_is_hand_pair K) := by
  obtain ⟨f_is_tuple_of, fd_is_tuple_of, F_is_tuple_of, b_is_tuple_of, m_is_tuple_of⟩ := T.d_is_tuple_of
  have G_is_tuple_of := ok_is_tuple_of (P := P) (w := w) (base := base) F_is_tuple_of T
  obtain ⟨f_is_whole, fd_is_whole, F_is_whole, b_is_whole, m_is_whole⟩ := T.d_is_whole
  have G_is_whole := ok_is_whole (P := P) (w := w) (base := base) F_is_whole T
  refine F.ok sc_is_hand_pair (fun vs H Q E h => ?_) (fun cdv A outer s H vs Q E hr h => ?_)
  · obtain ⟨f, v, d, rfl, _⟩ := h
    rfl
  obtain ⟨f, v, d, rfl, th, q⟩ := h
  refine ⟨_, (pss_one (ps_ret (pe_and (pe_call G_is_tuple_of (hr.mono (by decide)) (by rfl) m_is_tuple_of F_is_tuple_of.kp b_is_tuple_of .nil pass0 (pa_cons (pv 0) (pa_cons pe_int pa_nil))) (pe_one (pe_call G_is_whole (hr.mono (by decide)) (by rfl) m_is_whole F_is_whole.kp b_is_whole .nil pass0 (pa_cons (pe_ix (ix_tupK K rfl) (pv 0) pe_int (fun _ _ => rfl)) pa_nil)))))), ?_⟩
  refine ⟨_, rfl, f, v, d, 2, rfl, th, _, rfl, ?_⟩
  cases h2 : isTupN d 2 with
  | false =>
    rw [pair_no h2] at q
    exact q
  | true =>
    obtain ⟨a, b, rfl⟩ := tupN_two h2
    cases th with
    | @tup t xs _ ha na al =>
    cases al with
    | cons h1 al =>
    cases al with
    | cons h2 al =>
    cases al
    exact ⟨_, rfl, t, _, _, _, rfl, rfl, SqT.of ha, atI_nat (j := 1) rfl, f, _, _, rfl, h2, q⟩
variable {cF cB : Addr} {PT : Addr × Addr} [TF : TabF K mg base cF PT] [TC : TabC K mg base cB PT]
section
omit TF
include TC
def sp_is_belt_triple (K : PySem.W.Frag) (PT : Addr × Addr) : Sp := fun vs H Q _ => ∃ (f : Addr → Prop) (v : V) (d : PyData), vs = [v] ∧ Th f H v d ∧ Tb2 PT H ∧ ∀ H', LamX.ExtN H H' → Tb2 PT H' → Q (.bl (isTriple d)) H'
theorem ok_is_belt_triple {f : Addr} {fd : FuncData} (F : Fun K "is_belt_triple" "is_belt_triple" s_is_belt_triple f fd) (hcd : fd.code = .ref cB) (T : Top w K mg) : FnOk P w K mg base CX0 3 f fd ["belt"] (sp_is_belt_triple K PT) := by
  obtain ⟨f_is_whole, fd_is_whole, F_is_whole, b_is_whole, m_is_whole⟩ := T.d_is_whole
  have G_is_whole := ok_is_whole (P := P) (w := w) (base := base) F_is_whole T
  obtain ⟨f_is_tuple_of, fd_is_tuple_of, F_is_tuple_of, b_is_tuple_of, m_is_tuple_of⟩ := T.d_is_tuple_of
  have G_is_tuple_of := ok_is_tuple_of (P := P) (w := w) (base := base) F_is_tuple_of T
  refine ok_code F hcd sc_is_belt_triple (fun vs H Q E h => ?_) (fun A outer s H vs Q E hr h => ?_)
  · obtain ⟨f, v, d, rfl, _⟩ := h
    rfl
  obtain ⟨f, v, d, rfl, th, tb, q⟩ := h
  have q0 := q H (fun _ _ e _ => e) tb
  refine ⟨_, (pss_cons (ps_if (PW.pt (pw_or (pt_not (pt_val (pe_call G_is_tuple_of (hr.mono (by decide)) (by rfl) m_is_tuple_of F_is_tuple_of.kp b_is_tuple_of .nil pass0 (pa_cons (pv 0) (pa_cons pe_int pa_nil))))) (pw_or1 (pt_not (pt_val (pe_callB (call_isiKK K rfl) (by rfl) T.m_isinstance (by decide +kernel) (pa_cons (pe_ix (ix_tupK K rfl) (pv 0) pe_int (fun _ _ => rfl)) (pa_cons (pe_bltn (v := .ty "tuple") (by rfl) T.m_tuple (by decide +kernel) rfl) pa_nil)))))))) (pss_one (ps_ret pe_bl)) pss_nil)
      (pss_one (ps_ret (pe_and (pe_call G_is_whole (hr.mono (by decide)) (by rfl) m_is_whole F_is_whole.kp b_is_whole .nil pass0 (pa_cons (pe_ix (ix_tupK K rfl) (pv 0) pe_int (fun _ _ => rfl)) pa_nil)) (pe_and (pe_call G_is_whole (hr.mono (by decide)) (by rfl) m_is_whole F_is_whole.kp b_is_whole .nil pass0 (pa_cons (pe_ix (ix_tupK K rfl) (pv 0) pe_int (fun _ _ => rfl)) pa_nil)) (pe_one (pe_allG (k := 1) (N' := ["thing"]) (sg := (fun _ => List.replicate 1 none)) (vs := [0]) (g := gName 0) (hr.mono (by decide)) rfl (by rfl) T.m_all (by decide +kernel) TC.tb rfl (genN_none rfl rfl (by decide +kernel) rfl (by decide +kernel)) (pi_tupK K rfl (pe_ix (ix_tupK K rfl) (pv 0) pe_int (fun _ _ => rfl))) (fun _ => rfl) (fun _ _ _ _ _ _ _ _ _ hr => (pg_name (i := 0) (show List.Nodup (["thing"] : List Str) from by decide +kernel) rfl (Or.inl rfl))) (fun _ _ _ _ _ _ _ _ _ hr => (pe_call G_is_whole (hr.mono (by decide)) (by rfl) m_is_whole F_is_whole.kp b_is_whole .nil pass0 (pa_cons (pv 0) pa_nil)))))))))), ?_⟩
  refine ⟨_, rfl, f, v, d, 3, rfl, th, _, rfl, ?_⟩
  cases h3 : isTupN d 3 with
  | false =>
    rw [triple_no h3] at q0
    exact if_bl (fun _ => q0) (fun z => nomatch z)
  | true =>
  refine if_bl (fun z => nomatch z) (fun _ => ?_)
  obtain ⟨a, b, c, rfl⟩ := tupN_three h3
  cases th with
  | @tup t xs _ ht nt al =>
  cases al with
  | cons h1 al =>
  cases al with
  | cons h2 al =>
  cases al with
  | cons h3 al =>
  cases al
  refine ⟨_, rfl, t, _, _, _, rfl, rfl, SqT.of ht, atI_nat (j := 2) rfl, _, _, _, _, _, rfl, .ty "tuple", h3.ty, kit_is h3 "tuple" (by decide), _, rfl, ?_⟩
  by_cases hc : ¬ ∃ ds, c = .tuple ds
  · rw [triple_no2 hc] at q0
    rw [not_tup hc]
    exact if_bl (fun _ => q0) (fun z => nomatch z)
  obtain ⟨l, rfl⟩ := Classical.not_not.mp hc
  refine if_bl (fun z => nomatch z) (fun _ => ?_)
  refine ⟨_, rfl, t, _, _, _, rfl, rfl, SqT.of ht, atI_nat (j := 0) rfl, f, _, _, rfl, h1, _, rfl, ?_⟩
  have e0 : isTriple (.tuple [a, b, .tuple l]) = (isInt a && (isInt b && l.all isInt)) := rfl
  cases ea : isInt a with
  | false =>
    rw [e0, ea] at q0
    exact q0
  | true =>
  refine ⟨_, rfl, t, _, _, _, rfl, rfl, SqT.of ht, atI_nat (j := 1) rfl, f, _, _, rfl, h2, _, rfl, ?_⟩
  cases eb : isInt b with
  | false =>
    rw [e0, ea, eb] at q0
    exact q0
  | true =>
  cases h3 with
  | @tup g ys _ hg ng bl =>
  refine ⟨_, rfl, t, _, _, _, rfl, rfl, SqT.of ht, atI_nat (j := 2) rfl, g, rfl, ⟨_, SqT.of hg⟩, tb.2, fun H2 t2 => ?_⟩
  have e2 := tabbed_ext tb.2 t2
  have g2 := tk_ext e2 _ _ hg
  have q2 := q H2 e2 (tb.tab2 t2)
  rw [e0, ea, eb, Bool.true_and, Bool.true_and] at q2
  refine qt_tup (K := K) (a := g) (xs := ys) (fun i H5 => H5 = H2 ∧ (l.take i).all isInt = true) ⟨rfl, rfl⟩ (fun i H5 _ e => by obtain ⟨rfl, _⟩ := e; exact SqT.of g2) (fun i x H5 hx e => ?_) fun H5 e => ?_
  · obtain ⟨rfl, e5⟩ := e
    obtain ⟨dx, edx, hd⟩ := (bl.ext e2).get hx
    refine ⟨rfl, _, rfl, f, x, dx, rfl, hd, _, rfl, fun z => ?_, fun z => ⟨rfl, all_succ edx e5 z⟩⟩
    have z : isInt dx = false := by cases hh : isInt dx with
      | false => rfl
      | true => exact absurd hh z
    rw [all_no edx z] at q2
    rw [z]
    exact q2
  · obtain ⟨rfl, e5⟩ := e
    rw [bl.length, List.take_length] at e5
    rw [e5] at q2
    exact q2
end
include TF TC
def sp_has_form (K : PySem.W.Frag) (PT : Addr × Addr) : Sp := fun vs H Q _ => ∃ (f : Addr → Prop) (v : V) (d : PyData), vs = [v] ∧ Th f H v d ∧ Tb2 PT H ∧ ∀ H', LamX.ExtN H H' → Tb2 PT H' → Q (.bl (formB d)) H'
theorem ok_has_form {f : Addr} {fd : FuncData} (F : Fun K "has_form" "has_form" s_has_form f fd) (hcd : fd.code = .ref cF) (T : Top w K mg) : FnOk P w K mg base CX0 5 f fd ["room"] (sp_has_form K PT) := by
  obtain ⟨f_is_tuple_of, fd_is_tuple_of, F_is_tuple_of, b_is_tuple_of, m_is_tuple_of⟩ := T.d_is_tuple_of
  have G_is_tuple_of := ok_is_tuple_of (P := P) (w := w) (base := base) F_is_tuple_of T
  obtain ⟨f_is_hand_pair, fd_is_hand_pair, F_is_hand_pair, b_is_hand_pair, m_is_hand_pair⟩ := T.d_is_hand_pair
  have G_is_hand_pair := ok_is_hand_pair (P := P) (w := w) (base := base) F_is_hand_pair T
  obtain ⟨f_is_belt_triple, fd_is_belt_triple, F_is_belt_triple, b_is_belt_triple, m_is_belt_triple⟩ := T.d_is_belt_triple
  have G_is_belt_triple := ok_is_belt_triple (P := P) (w := w) (base := base) F_is_belt_triple (TC.cd _ _ F_is_belt_triple m_is_belt_triple) T
  refine ok_code F hcd sc_has_form (fun vs H Q E h => ?_) (fun A outer s H vs Q E hr h => ?_)
  · obtain ⟨f, v, d, rfl, _⟩ := h
    rfl
  obtain ⟨f, v, d, rfl, th, tb, q⟩ := h
  have q0 := q H (fun _ _ e _ => e) tb
  refine ⟨_, (pss_cons (ps_if (pt_not (pt_val (pe_call G_is_tuple_of (hr.mono (by decide)) (by rfl) m_is_tuple_of F_is_tuple_of.kp b_is_tuple_of .nil pass0 (pa_cons (pv 0) (pa_cons pe_int pa_nil))))) (pss_one (ps_ret pe_bl)) pss_nil)
      (pss_cons (ps_asg (pv 0) (pg_tupK K rfl rfl (pgs_cons (pg_name (i := 1) sc_has_form.nd rfl (Or.inl rfl)) (pgs_cons (pg_name (i := 2) sc_has_form.nd rfl (Or.inl rfl)) pgs_nil))))
      (pss_cons (ps_if (PW.pt (pw_or (pt_not (pt_val (pe_callB (call_isiKK K rfl) (by rfl) T.m_isinstance (by decide +kernel) (pa_cons (pv 1) (pa_cons (pe_bltn (v := .ty "tuple") (by rfl) T.m_tuple (by decide +kernel) rfl) pa_nil))))) (pw_or1 (pt_not (pt_val (pe_callB (call_isiKK K rfl) (by rfl) T.m_isinstance (by decide +kernel) (pa_cons (pv 2) (pa_cons (pe_bltn (v := .ty "tuple") (by rfl) T.m_tuple (by decide +kernel) rfl) pa_nil)))))))) (pss_one (ps_ret pe_bl)) pss_nil)
      (pss_one (ps_ret (pe_and (pe_allG (k := 2) (N' := ["hand"]) (sg := (fun _ => List.replicate 1 none)) (vs := [0]) (g := gName 0) (hr.mono (by decide)) rfl (by rfl) T.m_all (by decide +kernel) TF.tb rfl (genN_none rfl rfl (by decide +kernel) rfl (by decide +kernel)) (pi_tupK K rfl (pv 1)) (fun _ => rfl) (fun _ _ _ _ _ _ _ _ _ hr => (pg_name (i := 0) (show List.Nodup (["hand"] : List Str) from by decide +kernel) rfl (Or.inl rfl))) (fun _ _ _ _ _ _ _ _ _ hr => (pe_call G_is_hand_pair (hr.mono (by decide)) (by rfl) m_is_hand_pair F_is_hand_pair.kp b_is_hand_pair .nil pass0 (pa_cons (pv 0) pa_nil)))) (pe_one (pe_allG (k := 3) (N' := ["belt"]) (sg := (fun _ => List.replicate 1 none)) (vs := [0]) (g := gName 0) (hr.mono (by decide)) rfl (by rfl) T.m_all (by decide +kernel) TF.tb rfl (genN_none rfl rfl (by decide +kernel) rfl (by decide +kernel)) (pi_tupK K rfl (pv 2)) (fun _ => rfl) (fun _ _ _ _ _ _ _ _ _ hr => (pg_name (i := 0) (show List.Nodup (["belt"] : List Str) from by decide +kernel) rfl (Or.inl rfl))) (fun _ _ _ _ _ _ _ _ _ hr => (pe_call G_is_belt_triple (hr.mono (by decide)) (by rfl) m_is_belt_triple F_is_belt_triple.kp b_is_belt_triple .nil pass0 (pa_cons (pv 0) pa_nil))))))))))), ?_⟩
  refine ⟨_, rfl, f, v, d, 2, rfl, th, _, rfl, ?_⟩
  cases hh2 : isTupN d 2 with
  | false =>
    rw [form_no hh2] at q0
    exact if_bl (fun _ => q0) (fun z => nomatch z)
  | true =>
  refine if_bl (fun z => nomatch z) (fun _ => ?_)
  obtain ⟨a, b, rfl⟩ := tupN_two hh2
  cases th with
  | @tup r xs _ er nr al =>
  cases al with
  | @cons va _ _ _ h1 al =>
  cases al with
  | @cons vb _ _ _ h2 al =>
  cases al
  refine ⟨_, rfl, r, _, rfl, SqT.of er, rfl, _, _, rfl, _, _, rfl, rfl, ?_⟩
  refine ⟨_, rfl, _, _, _, _, _, rfl, .ty "tuple", h1.ty, kit_is h1 "tuple" (by decide), _, rfl, ?_⟩
  by_cases ta : ¬ ∃ l, a = .tuple l
  · rw [form_no2 (fun z => ta z.1)] at q0
    rw [not_tup ta]
    exact if_bl (fun _ => q0) (fun z => nomatch z)
  obtain ⟨l, rfl⟩ := Classical.not_not.mp ta
  refine if_bl (fun z => nomatch z) (fun _ => ?_)
  refine ⟨_, rfl, _, _, _, _, _, rfl, .ty "tuple", h2.ty, kit_is h2 "tuple" (by decide), _, rfl, ?_⟩
  by_cases tb2 : ¬ ∃ l, b = .tuple l
  · rw [form_no2 (fun z => tb2 z.2)] at q0
    rw [not_tup tb2]
    exact if_bl (fun _ => q0) (fun z => nomatch z)
  obtain ⟨m, rfl⟩ := Classical.not_not.mp tb2
  refine if_bl (fun z => nomatch z) (fun _ => ?_)
  cases h1 with
  | @tup ha hv _ eh nha alh =>
  cases h2 with
  | @tup ba bv _ eb nba alb =>
  have e0 : formB (.tuple [.tuple l, .tuple m]) = (l.all isPair && m.all isTriple) := rfl
  rw [e0] at q
  refine ⟨_, rfl, ha, rfl, ⟨_, SqT.of eh⟩, tb.1, fun H2 t2 => ?_⟩
  have e2 := tabbed_ext tb.1 t2
  have tb2 := tb.tab1 t2
  refine qt_tup (K := K) (a := ha) (xs := hv) (kp := true) (Q := fun x H1 => ∃ c, x = V.bl c ∧ if c = true then tQuant true PT.1 (iTup K (tVar 2)) (fun _ => List.replicate 1 none) (gName 0) (tCall (sp_is_belt_triple K PT) [] E0 (tCons (tVar 0) tNil)) [0] ((List.set (L2.start N_has_form [V.ref r]) 1 (some (V.ref ha))).set 2 (some (V.ref ba))) H1 Q else Q (.bl false) H1) (fun i H5 => H5 = H2 ∧ (l.take i).all isPair = true) ⟨rfl, rfl⟩ (fun i H5 _ e => e.1 ▸ SqT.of (tk_ext e2 _ _ eh)) (fun i x H5 hx e => ?_) fun H5 e => ?_
  · obtain ⟨rfl, e5⟩ := e
    obtain ⟨dx, edx, hd⟩ := (alh.ext e2).get hx
    refine ⟨rfl, _, rfl, f, x, dx, rfl, hd, _, rfl, fun z => ?_, fun z => ⟨rfl, all_succ edx e5 z⟩⟩
    have z : isPair dx = false := by cases hh : isPair dx with
      | false => rfl
      | true => exact absurd hh z
    rw [z]
    have q2 := q _ e2 tb2
    rw [all_no edx z, Bool.false_and] at q2
    exact ⟨_, rfl, q2⟩
  obtain ⟨rfl, e5⟩ := e
  rw [alh.length, List.take_length] at e5
  refine ⟨_, rfl, if_bl (fun _ => ?_) (fun z => nomatch z)⟩
  rw [e5, Bool.true_and] at q
  refine ⟨_, rfl, ba, rfl, ⟨_, SqT.of (tk_ext e2 _ _ eb)⟩, tb2.1, fun H3 t3 => ?_⟩
  have e3 := e2.trans (tabbed_ext tb2.1 t3)
  have tb3 := tb2.tab1 t3
  refine qt_tup (K := K) (a := ba) (xs := bv) (fun i H6 => (LamX.ExtN H H6 ∧ Tb2 PT H6) ∧ (m.take i).all isTriple = true) ⟨⟨e3, tb3⟩, rfl⟩ (fun i H6 _ ⟨⟨e, _⟩, _⟩ => SqT.of (tk_ext e _ _ eb)) (fun i x H6 hx ⟨⟨e6, tb6⟩, a6⟩ => ?_) fun H6 ⟨⟨e6, tb6⟩, a6⟩ => ?_
  · obtain ⟨dx, edx, hd⟩ := (alb.ext e6).get hx
    refine ⟨rfl, _, rfl, f, x, dx, rfl, hd, tb6, fun H7 e7 tb7 => ⟨_, rfl, fun z => ?_, fun z => ⟨⟨e6.trans e7, tb7⟩, all_succ edx a6 z⟩⟩⟩
    have z : isTriple dx = false := by cases hh : isTriple dx with
      | false => rfl
      | true => exact absurd hh z
    have q2 := q _ (e6.trans e7) tb7
    rw [all_no edx z] at q2
    rw [z]
    exact q2
  · rw [alb.length, List.take_length] at a6
    have q2 := q _ e6 tb6
    rw [a6] at q2
    exact q2
end
/-! ### hands and belts, whatever they are -/
structure HX where
  r : PyData
  m : Int
structure BX where
  one : Int
  to : Int
  th : List Int
def HX.d (h : HX) : PyData := .tuple [h.r, .int h.m]
def BX.d (b : BX) : PyData := .tuple [.int b.one, .int b.to, .tuple (b.th.map PyData.int)]
def roomX (hs : List HX) (bs : List BX) : PyData := .tuple [.tuple (hs.map HX.d), .tuple (bs.map BX.d)]
theorem isInt_ex {d : PyData} (h : isInt d = true) : ∃ i, d = .int i := by
  cases d <;> first | exact ⟨_, rfl⟩ | cases h
theorem pair_ex {d : PyData} (h : isPair d = true) : ∃ x : HX, d = x.d := by
  unfold isPair at h
  split at h
  · obtain ⟨i, rfl⟩ := isInt_ex h
    exact ⟨⟨_, i⟩, rfl⟩
  · cases h
theorem all_ex {α : Type} {p : PyData → Bool} {g : α → PyData} (k : ∀ d, p d = true → ∃ x, d = g x) : ∀ {l : List PyData}, l.all p = true → ∃ xs : List α, l = xs.map g
  | [], _ => ⟨[], rfl⟩
  | d :: l, h => by
    rw [List.all_cons, Bool.and_eq_true] at h
    obtain ⟨x, rfl⟩ := k d h.1
    obtain ⟨xs, rfl⟩ := all_ex k h.2
    exact ⟨x :: xs, rfl⟩
theorem triple_ex {d : PyData} (h : isTriple d = true) : ∃ x : BX, d = x.d := by
  unfold isTriple at h
  split at h
  · rw [Bool.and_eq_true, Bool.and_eq_true] at h
    obtain ⟨i, rfl⟩ := isInt_ex h.1
    obtain ⟨j, rfl⟩ := isInt_ex h.2.1
    obtain ⟨ns, rfl⟩ := all_ex (g := PyData.int) (fun d e => isInt_ex e) h.2.2
    exact ⟨⟨i, j, ns⟩, rfl⟩
  · cases h
theorem form_ex {d : PyData} (h : formB d = true) : ∃ hs bs, d = roomX hs bs := by
  unfold formB at h
  split at h
  · rw [Bool.and_eq_true] at h
    obtain ⟨hs, rfl⟩ := all_ex (g := HX.d) (fun d e => pair_ex e) h.1
    obtain ⟨bs, rfl⟩ := all_ex (g := BX.d) (fun d e => triple_ex e) h.2
    exact ⟨hs, bs, rfl⟩
  · cases h
theorem form_room {hs : List HX} {bs : List BX} : formB (roomX hs bs) = true := by
  show ((hs.map HX.d).all isPair && (bs.map BX.d).all isTriple) = true
  rw [Bool.and_eq_true, List.all_eq_true, List.all_eq_true]
  refine ⟨fun d hd => ?_, fun d hd => ?_⟩
  · obtain ⟨x, _, rfl⟩ := List.mem_map.mp hd
    rfl
  · obtain ⟨x, _, rfl⟩ := List.mem_map.mp hd
    show (true && (true && (x.th.map PyData.int).all isInt)) = true
    rw [Bool.true_and, Bool.true_and, List.all_eq_true]
    intro d hd
    obtain ⟨x, _, rfl⟩ := List.mem_map.mp hd
    rfl
def HxAt (f : Addr → Prop) (H : Hp) (v : V) (h : HX) : Prop := ∃ (t : Addr) (u : V), v = .ref t ∧ f t ∧ H t = some (.tup [u, .int h.m]) ∧ Th f H u h.r
def BxAt (f : Addr → Prop) (H : Hp) (v : V) (b : BX) : Prop := ∃ t g : Addr, v = .ref t ∧ f t ∧ f g ∧ H t = some (.tup [.int b.one, .int b.to, .ref g]) ∧ H g = some (.tup (b.th.map V.int))
structure RmX (f : Addr → Prop) (H : Hp) (r : Addr) (hs : List HX) (bs : List BX) : Prop where
  ex : ∃ (ha ba : Addr) (hv bv : List V), H r = some (.tup [.ref ha, .ref ba]) ∧ H ha = some (.tup hv) ∧ H ba = some (.tup bv) ∧ All2 (HxAt f H) hv hs ∧ All2 (BxAt f H) bv bs
  th : Th f H (.ref r) (roomX hs bs)
theorem th_ints {f : Addr → Prop} {H : Hp} : ∀ {vs : List V} {ns : List Int}, ThAll f H vs (ns.map PyData.int) → vs = ns.map V.int
  | _, [], .nil => rfl
  | _, n :: ns, .cons (.int _) t => by rw [th_ints t]; rfl
theorem th_hx {f : Addr → Prop} {H : Hp} {v : V} {h : HX} (t : Th f H v h.d) : HxAt f H v h := by
  cases t with
  | @tup a xs _ ha na al =>
  cases al with
  | cons h1 al =>
  cases al with
  | cons h2 al =>
  cases al
  cases h2
  exact ⟨a, _, rfl, na, ha, h1⟩
theorem th_bx {f : Addr → Prop} {H : Hp} {v : V} {b : BX} (t : Th f H v b.d) : BxAt f H v b := by
  cases t with
  | @tup a xs _ ha na al =>
  cases al with
  | cons h1 al =>
  cases al with
  | cons h2 al =>
  cases al with
  | cons h3 al =>
  cases al
  cases h1
  cases h2
  cases h3 with
  | @tup g ys _ hg ng bl =>
  exact ⟨a, g, rfl, na, ng, ha, by rw [hg, th_ints bl]⟩
theorem th_all {α : Type} {f : Addr → Prop} {H : Hp} {g : α → PyData} {R : V → α → Prop} (k : ∀ v x, Th f H v (g x) → R v x) : ∀ {vs : List V} {xs : List α}, ThAll f H vs (xs.map g) → All2 R vs xs
  | _, [], .nil => .nil
  | _, x :: xs, .cons h t => .cons (k _ _ h) (th_all k t)
theorem RmX.of {f : Addr → Prop} {H : Hp} {v : V} {hs : List HX} {bs : List BX} (t : Th f H v (roomX hs bs)) : ∃ r, v = .ref r ∧ RmX f H r hs bs := by
  have t0 := t
  cases t with
  | @tup a xs _ ha na al =>
  cases al with
  | cons h1 al =>
  cases al with
  | cons h2 al =>
  cases al
  cases h1 with
  | @tup p hv _ hp np alh =>
  cases h2 with
  | @tup q bv _ hq nq alb =>
  exact ⟨a, rfl, ⟨p, q, hv, bv, ha, hp, hq, th_all (fun _ _ => th_hx) alh, th_all (fun _ _ => th_bx) alb⟩, t0⟩
theorem RmX.get {f : Addr → Prop} {H : Hp} {r : Addr} {hs : List HX} {bs : List BX} (t : Th f H (.ref r) (roomX hs bs)) : RmX f H r hs bs := by
  obtain ⟨r', e, h⟩ := RmX.of t
  cases e
  exact h
theorem RmX.same {f : Addr → Prop} {H H' : Hp} {r : Addr} {hs : List HX} {bs : List BX} (h : RmX f H r hs bs) (s : Same H H') : RmX f H' r hs bs := RmX.get (h.th.same s)
theorem RmX.ext {f : Addr → Prop} {H H' : Hp} {r : Addr} {hs : List HX} {bs : List BX} (h : RmX f H r hs bs) (s : LamX.ExtN H H') : RmX f H' r hs bs := RmX.get (h.th.ext s)
theorem RmX.keep {f : Addr → Prop} {H H' : Hp} {r : Addr} {hs : List HX} {bs : List BX} (h : RmX f H r hs bs) (s : ∀ b o, H b = some o → f b → H' b = some o) : RmX f H' r hs bs := RmX.get (h.th.keep s)
/-! ### the first that is wrong -/
def firstN (n : Nat) (p : Nat → Bool) : Option Nat := (List.range n).find? p
theorem firstN_at {n i : Nat} {p : Nat → Bool} (hi : i < n) (hp : p i = true) (no : ∀ j, j < i → p j = false) : firstN n p = some i := by
  unfold firstN
  rw [List.find?_range_eq_some]
  exact ⟨hp, List.mem_range.mpr hi, fun j hj => by rw [no j hj]; rfl⟩
theorem firstN_none {n : Nat} {p : Nat → Bool} (no : ∀ j, j < n → p j = false) : firstN n p = none := by
  unfold firstN
  rw [List.find?_eq_none]
  intro j hj
  rw [no j (List.mem_range.mp hj)]
  exact Bool.false_ne_true
theorem firstN_no {n : Nat} {p : Nat → Bool} (h : firstN n p = none) : ∀ j, j < n → p j = false := fun j hj => by
  unfold firstN at h
  rw [List.find?_eq_none] at h
  exact Bool.eq_false_iff.mpr (h j (List.mem_range.mpr hj))
def inDoors (d : PyData) : Bool := [PyData.tuple [.str "in"], .tuple [.str "out"]].any fun z => PyData.eqv z d
def hBad (h : HX) : Bool := !isRule h.r || (decide (h.m < 0) || (!decide (h.m = 0) && inDoors h.r))
def hB (hs : List HX) (k : Nat) : Bool := match hs[k]? with
  | some h => hBad h
  | none => false
theorem hB_at {hs : List HX} {k : Nat} {h : HX} (e : hs[k]? = some h) : hB hs k = hBad h := by
  unfold hB
  rw [e]
def outAt (hs : List HX) (k : Nat) : Bool := match hs[k]? with
  | some h => PyData.eqv h.r (.tuple [.str "out"])
  | none => false
def bBad (hs : List HX) (b : BX) : Bool := !(decide (0 ≤ b.one) && decide (b.one < (hs.length : Int))) || (!(decide (0 ≤ b.to) && decide (b.to < (hs.length : Int))) || outAt hs b.one.toNat)
def bB (hs : List HX) (bs : List BX) (k : Nat) : Bool := match bs[k]? with
  | some b => bBad hs b
  | none => false
theorem bB_at {hs : List HX} {bs : List BX} {k : Nat} {b : BX} (e : bs[k]? = some b) : bB hs bs k = bBad hs b := by
  unfold bB
  rw [e]
def wordOf : PyData → Str
  | .tuple (.str z :: _) => z
  | _ => ""
def cntB (bs : List BX) (k : Nat) : Nat := (bs.filter fun b => decide (b.to = (k : Int))).length
def kB (hs : List HX) (bs : List BX) (k : Nat) : Bool := match hs[k]? with
  | some h => !decide (((cntB bs k : Nat) : Int) = needN (wordOf h.r))
  | none => false
theorem kB_at {hs : List HX} {bs : List BX} {k : Nat} {h : HX} (e : hs[k]? = some h) : kB hs bs k = !decide (((cntB bs k : Nat) : Int) = needN (wordOf h.r)) := by
  unfold kB
  rw [e]
theorem rule_word {d : PyData} (h : isRule d = true) : ∃ z l, d = .tuple (.str z :: l) ∧ z ∈ eleven := by
  unfold isRule at h
  split at h
  · rename_i z l
    rw [Bool.and_eq_true] at h
    exact ⟨z, l, rfl, of_decide_eq_true h.1⟩
  · cases h
def onN : Option Nat → V
  | none => .non
  | some k => nV k
section
variable {P : Program} {w : World} {K : PySem.W.Frag} {mg : Str → Option Value} {base : Heap}
def sp_wrong_hand (K : PySem.W.Frag) : Sp := fun vs H Q _ => ∃ (f : Addr → Prop) (r : Addr) (hs : List HX) (bs : List BX), vs = [.ref r] ∧ RmX f H r hs bs ∧ (∀ h ∈ hs, SeqAt.shaped h.r = true) ∧ ∀ H', Same H H' → Q (onN (firstN hs.length (hB hs))) H'
theorem ok_wrong_hand {f : Addr} {fd : FuncData} (F : Fun K "wrong_hand" "wrong_hand" s_wrong_hand f fd) (T : Top w K mg) : FnOk P w K mg base CX0 3 f fd ["room"] (sp_wrong_hand K) := by
  obtain ⟨f_is_rule, fd_is_rule, F_is_rule, b_is_rule, m_is_rule⟩ := T.d_is_rule
  have G_is_rule := ok_is_rule (P := P) (w := w) (base := base) F_is_rule T
  refine F.ok sc_wrong_hand (fun vs H Q E h => ?_) (fun cdv A outer s H vs Q E hr h => ?_)
  · obtain ⟨f, r, hs, bs, rfl, _⟩ := h
    rfl
  obtain ⟨f, r, hs, bs, rfl, hR, sh, q⟩ := h
  obtain ⟨ha, ba, hv, bv, er, eh, eb, alh, alb⟩ := hR.ex
  have lhv := alh.length
  obtain ⟨aI, mI, hI⟩ := T.x_in
  obtain ⟨aO, mO, hO⟩ := T.x_out
  refine ⟨_, (pss_cons (ps_for PassesOwn.never rfl (pi_enumT K rfl (by rfl) T.m_enumerate (pa_cons (pe_ix (ix_tupK K rfl) (pv 0) pe_int (fun _ _ => rfl)) pa_nil)) (pg_tupK K rfl rfl (pgs_cons (pg_name (i := 1) sc_wrong_hand.nd rfl (Or.inl rfl)) (pgs_cons (pg_tupK K rfl rfl (pgs_cons (pg_name (i := 2) sc_wrong_hand.nd rfl (Or.inl rfl)) (pgs_cons (pg_name (i := 3) sc_wrong_hand.nd rfl (Or.inl rfl)) pgs_nil))) pgs_nil)))
        (pss_cons (ps_if (PW.pt (pw_or (pt_not (pt_val (pe_call G_is_rule (hr.mono (by decide)) (by rfl) m_is_rule F_is_rule.kp b_is_rule .nil pass0 (pa_cons (pv 2) pa_nil)))) (pw_or1 (pt_cmpR op_lt (pv 3) pe_int (nomark _))))) (pss_one (ps_ret (pv 1))) pss_nil)
      (pss_one (ps_if (PW.pt (pw_and (pt_cmpR op_ne (pv 3) pe_int (nomark _)) (pw_and1 (pt_cmpR (op_inDTK K rfl (hu65 hr)) (pv 2) (pe_tup (pa_cons (pe_glob (v := .ref aI) (by rfl) mI rfl) (pa_cons (pe_glob (v := .ref aO) (by rfl) mO rfl) pa_nil))) (by with_unfolding_all rfl))))) (pss_one (ps_ret (pv 1))) pss_nil))))
      (pss_one (ps_ret pe_non))), ?_⟩
  refine ⟨_, rfl, r, _, _, _, rfl, rfl, SqT.of er, atI_nat (j := 0) rfl, ha, hv, rfl, SqT.of eh, for_it (J := IteT K ha hv) (n := hv.length) (fun i σ H5 => (∃ v1 v2 v3 : Option V, σ = [some (.ref r), v1, v2, v3]) ∧ Same H H5 ∧ ∀ j, j < i → hB hs j = false) ⟨⟨_, _, _, rfl⟩, Same.refl _, fun j z => absurd z (Nat.not_lt_zero _)⟩ ?_ ?_ ?_ ?_⟩
  · rintro i σ H5 hi ⟨_, s5, _⟩
    exact ⟨SqT.of (s5 _ _ eh), hi⟩
  · rintro σ H5 ⟨_, s5, _⟩
    exact ⟨SqT.of (s5 _ _ eh), rfl⟩
  · rintro i x σ H5 H6 hi ⟨⟨v1, v2, v3, rfl⟩, s5, no⟩ ⟨t, y, rfl, nt, rfl, ey⟩
    obtain ⟨h, eh2, t2, u, rfl, nt2, e1, e2⟩ := alh.getL ey
    have s6 := s5.trans (same_new (o := .tup [V.int ((i : Nat) : Int), V.ref t2]) nt)
    have hit : hBad h = true → ∀ H', Same H H' → Q (nV i) H' := fun b H' s => by
      have := q H' s
      rw [firstN_at (i := i) (by omega) (by rw [hB_at eh2]; exact b) no] at this
      exact this
    have next : hBad h = false → ∀ j, j < i + 1 → hB hs j = false := fun b j hj => by
      by_cases z : j = i
      · rw [z, hB_at eh2]; exact b
      · exact no j (by omega)
    refine ⟨t, _, rfl, SqT.of upd_same, rfl, _, _, rfl, _, _, rfl, t2, _, rfl, SqT.of (s6 _ _ e1), rfl, _, _, rfl, _, _, rfl, rfl, rfl, ?_⟩
    refine ⟨_, rfl, f, u, h.r, rfl, e2.same s6, _, rfl, ?_⟩
    cases hr1 : isRule h.r with
    | false => exact if_bl (fun _ => ⟨_, rfl, hit (by unfold hBad; rw [hr1]; rfl) _ s6⟩) (fun z => nomatch z)
    | true =>
    refine if_bl (fun z => nomatch z) (fun _ => ?_)
    refine ⟨_, rfl, _, _, rfl, rfl, _, rfl, if_bl (fun z => ⟨_, rfl, hit (by unfold hBad; rw [hr1, decide_eq_true (of_decide_eq_true z)]; rfl) _ s6⟩) (fun z => ?_)⟩
    have m0 : ¬ h.m < 0 := of_decide_eq_false z
    refine ⟨_, rfl, rfl, _, rfl, if_bl (fun e => ?_) (fun e => ⟨⟨_, _, _, rfl⟩, s6, next ?_⟩)⟩
    · have mn : ¬ h.m = 0 := fun z => by
        rw [z] at e
        exact absurd e (by decide)
      refine ⟨_, rfl, (by show 2 ≤ sizeLine; decide), fun p np => ?_⟩
      have s7 := same_new (o := .tup [V.ref aI, V.ref aO]) np
      refine ⟨h.r, [.tuple [.str "in"], .tuple [.str "out"]], (e2.same (s6.trans s7)).dp, .tup (SqT.of upd_same) (.cons (.tup (hI _) (.cons (.str _) .nil)) (.cons (.tup (hO _) (.cons (.str _) .nil)) .nil)), sh h (List.mem_of_getElem? eh2), by decide +kernel, _, rfl, ?_⟩
      have val : hBad h = [PyData.tuple [.str "in"], .tuple [.str "out"]].any fun z => PyData.eqv z h.r := by
        unfold hBad inDoors
        rw [hr1, decide_eq_false m0, decide_eq_false mn]
        rfl
      rw [← val]
      exact if_bl (fun z => ⟨_, rfl, hit z _ (s6.trans s7)⟩) (fun z => ⟨⟨_, _, _, rfl⟩, s6.trans s7, next z⟩)
    · have mz : h.m = 0 := by
        refine Classical.byContradiction fun z => ?_
        have e2 : decide (V.int h.m = V.int 0) = false := decide_eq_false fun y => z (V.int.inj y)
        revert e
        simp [z]
      unfold hBad
      rw [hr1, decide_eq_false m0, decide_eq_true mz]
      rfl
  · rintro σ H5 ⟨⟨v1, v2, v3, rfl⟩, s5, no⟩
    have := q H5 s5
    rw [firstN_none (fun j hj => no j (by omega))] at this
    exact this
def sp_wrong_belt (K : PySem.W.Frag) : Sp := fun vs H Q _ => ∃ (f : Addr → Prop) (r : Addr) (hs : List HX) (bs : List BX), vs = [.ref r] ∧ RmX f H r hs bs ∧ (∀ h ∈ hs, SeqAt.shaped h.r = true) ∧ ∀ H', Same H H' → Q (onN (firstN bs.length (bB hs bs))) H'
theorem ok_wrong_belt {f : Addr} {fd : FuncData} (F : Fun K "wrong_belt" "wrong_belt" s_wrong_belt f fd) (T : Top w K mg) : FnOk P w K mg base CX0 1 f fd ["room"] (sp_wrong_belt K) := by
  refine F.ok sc_wrong_belt (fun vs H Q E h => ?_) (fun cdv A outer s H vs Q E hr h => ?_)
  · obtain ⟨f, r, hs, bs, rfl, _⟩ := h
    rfl
  obtain ⟨f, r, hs, bs, rfl, hR, sh, q⟩ := h
  obtain ⟨ha, ba, hv, bv, er, eh, eb, alh, alb⟩ := hR.ex
  have lhv := alh.length
  have lbv := alb.length
  obtain ⟨aO, mO, hO⟩ := T.x_out
  refine ⟨_, (pss_cons (ps_asg (pv 0) (pg_tupK K rfl rfl (pgs_cons (pg_name (i := 1) sc_wrong_belt.nd rfl (Or.inl rfl)) (pgs_cons (pg_name (i := 2) sc_wrong_belt.nd rfl (Or.inl rfl)) pgs_nil))))
      (pss_cons (ps_for PassesOwn.never rfl (pi_enumT K rfl (by rfl) T.m_enumerate (pa_cons (pv 2) pa_nil)) (pg_tupK K rfl rfl (pgs_cons (pg_name (i := 3) sc_wrong_belt.nd rfl (Or.inl rfl)) (pgs_cons (pg_tupK K rfl rfl (pgs_cons (pg_name (i := 4) sc_wrong_belt.nd rfl (Or.inl rfl)) (pgs_cons (pg_name (i := 5) sc_wrong_belt.nd rfl (Or.inl rfl)) (pgs_cons (pg_name (i := 6) sc_wrong_belt.nd rfl (Or.inl rfl)) pgs_nil)))) pgs_nil)))
        (pss_cons (ps_if (PW.pt (pw_or (pt_not (pt_chain op_le op_lt pe_int (pv 4) (pe_callB (call_len_seqK K rfl) (by rfl) T.m_len (by decide +kernel) (pa_cons (pv 1) pa_nil)))) (pw_or1 (pt_not (pt_chain op_le op_lt pe_int (pv 5) (pe_callB (call_len_seqK K rfl) (by rfl) T.m_len (by decide +kernel) (pa_cons (pv 1) pa_nil))))))) (pss_one (ps_ret (pv 3))) pss_nil)
      (pss_one (ps_if (pt_cmpR (op_eqDK K rfl hr.units) (pe_ix (ix_tupK K rfl) (pe_ix (ix_tupK K rfl) (pv 1) (pv 4) (fun _ _ => rfl)) pe_int (fun _ _ => rfl)) (pe_glob (v := .ref aO) (by rfl) mO rfl) (nomark _)) (pss_one (ps_ret (pv 3))) pss_nil))))
      (pss_one (ps_ret pe_non)))), ?_⟩
  refine ⟨_, rfl, r, _, rfl, SqT.of er, rfl, _, _, rfl, _, _, rfl, rfl, ?_⟩
  refine ⟨_, rfl, ba, bv, rfl, SqT.of eb, for_it (J := IteT K ba bv) (n := bv.length) (fun i σ H5 => (∃ v3 v4 v5 v6 : Option V, σ = [some (.ref r), some (.ref ha), some (.ref ba), v3, v4, v5, v6]) ∧ Same H H5 ∧ ∀ j, j < i → bB hs bs j = false) ⟨⟨_, _, _, _, rfl⟩, Same.refl _, fun j z => absurd z (Nat.not_lt_zero _)⟩ ?_ ?_ ?_ ?_⟩
  · rintro i σ H5 hi ⟨_, s5, _⟩
    exact ⟨SqT.of (s5 _ _ eb), hi⟩
  · rintro σ H5 ⟨_, s5, _⟩
    exact ⟨SqT.of (s5 _ _ eb), rfl⟩
  · rintro i x σ H5 H6 hi ⟨⟨v3, v4, v5, v6, rfl⟩, s5, no⟩ ⟨t, y, rfl, nt, rfl, ey⟩
    obtain ⟨b, eb2, t2, g, rfl, _, _, e1, e2⟩ := alb.getL ey
    have s6 := s5.trans (same_new (o := .tup [V.int ((i : Nat) : Int), V.ref t2]) nt)
    have hit : bBad hs b = true → ∀ H', Same H H' → Q (nV i) H' := fun c H' s => by
      have := q H' s
      rw [firstN_at (i := i) (by omega) (by rw [bB_at eb2]; exact c) no] at this
      exact this
    have next : bBad hs b = false → ∀ j, j < i + 1 → bB hs bs j = false := fun c j hj => by
      by_cases z : j = i
      · rw [z, bB_at eb2]; exact c
      · exact no j (by omega)
    refine ⟨t, _, rfl, SqT.of upd_same, rfl, _, _, rfl, _, _, rfl, t2, _, rfl, SqT.of (s6 _ _ e1), rfl, _, _, rfl, _, _, rfl, _, _, rfl, rfl, rfl, ?_⟩
    have e6 := SqT.of (K := K) (s6 _ _ eh)
    have ln : ((hv.length : Nat) : Int) = ((hs.length : Nat) : Int) := by omega
    have bad1 : ¬ (0 ≤ b.one ∧ b.one < (hs.length : Int)) → bBad hs b = true := fun c => by
      unfold bBad
      rw [show (decide (0 ≤ b.one) && decide (b.one < (hs.length : Int))) = false from by rw [Bool.and_eq_false_iff]; by_cases z : 0 ≤ b.one; exact .inr (decide_eq_false fun y => c ⟨z, y⟩); exact .inl (decide_eq_false z)]
      rfl
    have bad2 : ¬ (0 ≤ b.to ∧ b.to < (hs.length : Int)) → bBad hs b = true := fun c => by
      unfold bBad
      rw [show (decide (0 ≤ b.to) && decide (b.to < (hs.length : Int))) = false from by rw [Bool.and_eq_false_iff]; by_cases z : 0 ≤ b.to; exact .inr (decide_eq_false fun y => c ⟨z, y⟩); exact .inl (decide_eq_false z)]
      rw [Bool.not_false, Bool.true_or, Bool.or_true]
    refine ⟨_, rfl, _, _, rfl, rfl, _, rfl, if_bl (fun c1 => ?_) (fun c1 => ?_)⟩
    · have c1 : 0 ≤ b.one := of_decide_eq_true c1
      refine ⟨_, rfl, ha, hv, rfl, .inr e6, _, _, rfl, rfl, _, rfl, if_bl (fun z => ?_) (fun c2 => ?_)⟩
      · refine ⟨_, rfl, hit (bad1 fun y => ?_) _ s6⟩
        have z : (!decide (b.one < ((hv.length : Nat) : Int))) = true := z
        rw [decide_eq_true (by omega)] at z
        cases z
      have c2 : b.one < ((hv.length : Nat) : Int) := by
        have c2 : (!decide (b.one < ((hv.length : Nat) : Int))) = false := c2
        refine Classical.byContradiction fun y => ?_
        rw [decide_eq_false y] at c2
        cases c2
      refine ⟨_, rfl, _, _, rfl, rfl, _, rfl, if_bl (fun c3 => ?_) (fun c3 => ?_)⟩
      · have c3 : 0 ≤ b.to := of_decide_eq_true c3
        refine ⟨_, rfl, ha, hv, rfl, .inr e6, _, _, rfl, rfl, _, rfl, if_bl (fun z => ?_) (fun c4 => ?_)⟩
        · refine ⟨_, rfl, hit (bad2 fun y => ?_) _ s6⟩
          have z : (!decide (b.to < ((hv.length : Nat) : Int))) = true := z
          rw [decide_eq_true (by omega)] at z
          cases z
        have c4 : b.to < ((hv.length : Nat) : Int) := by
          have c4 : (!decide (b.to < ((hv.length : Nat) : Int))) = false := c4
          refine Classical.byContradiction fun y => ?_
          rw [decide_eq_false y] at c4
          cases c4
        obtain ⟨k, ek⟩ : ∃ k : Nat, b.one = ((k : Nat) : Int) := ⟨b.one.toNat, by omega⟩
        obtain ⟨h, eh3⟩ : ∃ h, hs[k]? = some h := ⟨_, List.getElem?_eq_getElem (by omega)⟩
        obtain ⟨x, ex, t3, u3, rfl, _, e3, e4⟩ := alh.get eh3
        refine ⟨_, rfl, _, rfl, ha, _, _, _, rfl, rfl, e6, (by rw [ek]; exact atI_nat ex), t3, _, _, _, rfl, rfl, SqT.of (s6 _ _ e3), atI_nat (j := 0) rfl, ?_⟩
        refine ⟨_, _, (e4.same s6).dp, .tup (hO _) (.cons (.str _) .nil), sh h (List.mem_of_getElem? eh3), one_shaped (by decide +kernel), _, rfl, ?_⟩
        have val : bBad hs b = PyData.eqv h.r (.tuple [.str "out"]) := by
          unfold bBad outAt
          rw [decide_eq_true c1, decide_eq_true c3, decide_eq_true (show b.one < (hs.length : Int) by omega), decide_eq_true (show b.to < (hs.length : Int) by omega), ek, Int.toNat_natCast, eh3]
          rfl
        rw [← val]
        exact if_bl (fun z => ⟨_, rfl, hit z _ s6⟩) (fun z => ⟨⟨_, _, _, _, rfl⟩, s6, next z⟩)
      · exact ⟨_, rfl, if_bl (fun _ => ⟨_, rfl, hit (bad2 fun y => of_decide_eq_false c3 y.1) _ s6⟩) (fun z => nomatch z)⟩
    · exact ⟨_, rfl, if_bl (fun _ => ⟨_, rfl, hit (bad1 fun y => of_decide_eq_false c1 y.1) _ s6⟩) (fun z => nomatch z)⟩
  · rintro σ H5 ⟨⟨v3, v4, v5, v6, rfl⟩, s5, no⟩
    have := q H5 s5
    rw [firstN_none (fun j hj => no j (by omega))] at this
    exact this
def sp_comings (K : PySem.W.Frag) : Sp := fun vs H Q _ => ∃ (f : Addr → Prop) (r : Addr) (hs : List HX) (bs : List BX) (k : Nat), vs = [.ref r, nV k] ∧ RmX f H r hs bs ∧ bs.length ≤ 900 ∧ ∀ (p : Addr) (l : List V) (H' : Hp), H p = none → H' p = some (.lst l) → l.length = cntB bs k → Same H H' → Q (.ref p) H'
theorem ok_comings {f : Addr} {fd : FuncData} (F : Fun K "comings" "comings" s_comings f fd) (T : Top w K mg) : FnOk P w K mg base CX0 1 f fd ["room", "hand"] (sp_comings K) := by
  refine F.ok sc_comings (fun vs H Q E h => ?_) (fun cdv A outer s H vs Q E hr h => ?_)
  · obtain ⟨f, r, hs, bs, k, rfl, _⟩ := h
    rfl
  obtain ⟨f, r, hs, bs, k, rfl, hR, lb, q⟩ := h
  obtain ⟨ha, ba, hv, bv, er, eh, eb, alh, alb⟩ := hR.ex
  have lbv := alb.length
  refine ⟨_, (pss_one (ps_ret (pe_lc (own := [("number", 2), ("belt", 3)]) (g := gTup K 2 (gCons (gName 2) (gCons (gName 3) gNil))) (by rfl) sc_comings.nd (pi_enumT K rfl (by rfl) T.m_enumerate (pa_cons (pe_ix (ix_tupK K rfl) (pv 0) pe_int (fun _ _ => rfl)) pa_nil)) (blkOk_by (own := [("number", 2), ("belt", 3)]) (N := N_comings) (sc := defScope s_comings) (by decide +kernel)) (fun _ _ _ _ _ => (pg_tupK K rfl rfl (pgs_cons (pg_name (i := 2) sc_comings.nd rfl (Or.inl rfl)) (pgs_cons (pg_name (i := 3) sc_comings.nd rfl (Or.inl rfl)) pgs_nil)))) (fun _ _ _ _ _ => pts_one (pt_cmpR op_eq (pe_ix (ix_tupK K rfl) (pv 3) pe_int (fun _ _ => rfl)) (pv 1) (nomark _))) (fun _ _ _ _ _ => (pv 2))))), ?_⟩
  refine ⟨_, rfl, r, _, _, _, rfl, rfl, SqT.of er, atI_nat (j := 1) rfl, ba, bv, rfl, SqT.of eb, fun D nD => lc_it (J := IteT K ba bv) (n := bv.length) (fun i H5 => ∃ l : List V, H5 D = some (.lst l) ∧ l.length = cntB (bs.take i) k ∧ Same H H5) ⟨[], upd_same, rfl, same_new nD⟩ ?_ ?_ ?_ ?_⟩
  · rintro i H5 hi ⟨_, _, _, s5⟩
    exact ⟨SqT.of (s5 _ _ eb), hi⟩
  · rintro H5 ⟨_, _, _, s5⟩
    exact ⟨SqT.of (s5 _ _ eb), rfl⟩
  · rintro i x H5 H6 hi ⟨l, hD, ll, s5⟩ ⟨t, y, rfl, nt, rfl, ey⟩
    obtain ⟨b, eb2, t2, g, rfl, _, _, e1, e2⟩ := alb.getL ey
    have s6 := s5.trans (same_new (o := .tup [V.int ((i : Nat) : Int), V.ref t2]) nt)
    have hD6 := same_new (o := .tup [V.int ((i : Nat) : Int), V.ref t2]) nt _ _ hD
    have few : cntB (bs.take i) k ≤ i := by
      unfold cntB
      refine Nat.le_trans (List.length_filter_le ..) ?_
      rw [List.length_take]
      exact Nat.min_le_left ..
    have step : ∀ c : Bool, decide (b.to = (k : Int)) = c → cntB (bs.take (i + 1)) k = cntB (bs.take i) k + (if c = true then 1 else 0) := fun c hc => by
      unfold cntB
      rw [List.take_add_one, eb2, List.filter_append, List.length_append]
      congr 1
      show (List.filter _ [b]).length = _
      rw [List.filter_cons, hc]
      cases c <;> rfl
    refine ⟨t, _, rfl, SqT.of upd_same, rfl, _, _, rfl, _, _, rfl, rfl, rfl, _, rfl, t2, _, _, _, rfl, rfl, SqT.of (s6 _ _ e1), atI_nat (j := 1) rfl, _, rfl, rfl, _, rfl, if_bl (fun c => ?_) (fun c => ?_)⟩
    · have c : b.to = (k : Int) := V.int.inj (of_decide_eq_true c)
      refine ⟨_, rfl, l, hD6, small1000 (by omega), _, upd_same, ?_, Same.own s6 nD⟩
      rw [List.length_append, step true (decide_eq_true c), ll]
      rfl
    · have c : ¬ b.to = (k : Int) := fun z => of_decide_eq_false c (by rw [z])
      refine ⟨l, hD6, ?_, s6⟩
      rw [step false (decide_eq_false c), ll]
      rfl
  · rintro H5 ⟨l, hD, ll, s5⟩
    rw [lbv, List.take_length] at ll
    exact q D l H5 nD hD ll s5
def sp_wrong_count (K : PySem.W.Frag) : Sp := fun vs H Q _ => ∃ (f : Addr → Prop) (r : Addr) (hs : List HX) (bs : List BX), vs = [.ref r] ∧ RmX f H r hs bs ∧ (∀ h ∈ hs, isRule h.r = true) ∧ bs.length ≤ 900 ∧ ∀ H', Same H H' → Q (onN (firstN hs.length (kB hs bs))) H'
theorem ok_wrong_count {f : Addr} {fd : FuncData} (F : Fun K "wrong_count" "wrong_count" s_wrong_count f fd) (T : Top w K mg) : FnOk P w K mg base CX0 2 f fd ["room"] (sp_wrong_count K) := by
  obtain ⟨f_needs, fd_needs, F_needs, b_needs, m_needs⟩ := T.d_needs
  have G_needs := ok_needs (P := P) (w := w) (base := base) F_needs T
  obtain ⟨f_comings, fd_comings, F_comings, b_comings, m_comings⟩ := T.d_comings
  have G_comings := ok_comings (P := P) (w := w) (base := base) F_comings T
  refine F.ok sc_wrong_count (fun vs H Q E h => ?_) (fun cdv A outer s H vs Q E hr h => ?_)
  · obtain ⟨f, r, hs, bs, rfl, _⟩ := h
    rfl
  obtain ⟨f, r, hs, bs, rfl, hR, rl, lb, q⟩ := h
  obtain ⟨ha, ba, hv, bv, er, eh, eb, alh, alb⟩ := hR.ex
  have lhv := alh.length
  refine ⟨_, (pss_cons (ps_for PassesOwn.never rfl (pi_enumT K rfl (by rfl) T.m_enumerate (pa_cons (pe_ix (ix_tupK K rfl) (pv 0) pe_int (fun _ _ => rfl)) pa_nil)) (pg_tupK K rfl rfl (pgs_cons (pg_name (i := 1) sc_wrong_count.nd rfl (Or.inl rfl)) (pgs_cons (pg_tupK K rfl rfl (pgs_cons (pg_name (i := 2) sc_wrong_count.nd rfl (Or.inl rfl)) (pgs_cons (pg_name (i := 3) sc_wrong_count.nd rfl (Or.inl rfl)) pgs_nil))) pgs_nil)))
        (pss_one (ps_if (pt_cmpR op_ne (pe_callB (call_len_seqK K rfl) (by rfl) T.m_len (by decide +kernel) (pa_cons (pe_call G_comings (hr.mono (by decide)) (by rfl) m_comings F_comings.kp b_comings .nil pass0 (pa_cons (pv 0) (pa_cons (pv 1) pa_nil))) pa_nil)) (pe_call G_needs (hr.mono (by decide)) (by rfl) m_needs F_needs.kp b_needs .nil pass0 (pa_cons (pv 2) pa_nil)) (nomark _)) (pss_one (ps_ret (pv 1))) pss_nil)))
      (pss_one (ps_ret pe_non))), ?_⟩
  refine ⟨_, rfl, r, _, _, _, rfl, rfl, SqT.of er, atI_nat (j := 0) rfl, ha, hv, rfl, SqT.of eh, for_it (J := IteT K ha hv) (n := hv.length) (fun i σ H5 => (∃ v1 v2 v3 : Option V, σ = [some (.ref r), v1, v2, v3]) ∧ Same H H5 ∧ ∀ j, j < i → kB hs bs j = false) ⟨⟨_, _, _, rfl⟩, Same.refl _, fun j z => absurd z (Nat.not_lt_zero _)⟩ ?_ ?_ ?_ ?_⟩
  · rintro i σ H5 hi ⟨_, s5, _⟩
    exact ⟨SqT.of (s5 _ _ eh), hi⟩
  · rintro σ H5 ⟨_, s5, _⟩
    exact ⟨SqT.of (s5 _ _ eh), rfl⟩
  · rintro i x σ H5 H6 hi ⟨⟨v1, v2, v3, rfl⟩, s5, no⟩ ⟨t, y, rfl, nt, rfl, ey⟩
    obtain ⟨h, eh2, t2, u, rfl, nt2, e1, e2⟩ := alh.getL ey
    have s6 := s5.trans (same_new (o := .tup [V.int ((i : Nat) : Int), V.ref t2]) nt)
    refine ⟨t, _, rfl, SqT.of upd_same, rfl, _, _, rfl, _, _, rfl, t2, _, rfl, SqT.of (s6 _ _ e1), rfl, _, _, rfl, _, _, rfl, rfl, rfl, ?_⟩
    refine ⟨_, rfl, _, rfl, f, r, hs, bs, i, rfl, hR.same s6, lb, fun c l H7 nc hc lc s7 => ?_⟩
    have s67 := s6.trans s7
    obtain ⟨z, ws, ez, hz⟩ := rule_word (rl h (List.mem_of_getElem? eh2))
    have e27 := e2.same s67
    rw [ez] at e27
    cases e27 with
    | @tup rr xs _ hrr _ al =>
    cases al with
    | cons h1 al =>
    cases h1
    refine ⟨c, l, rfl, .inl (SqL.of hc), _, rfl, rr, z, _, rfl, SqT.of hrr, hz, rfl, _, rfl, ?_⟩
    have val : kB hs bs i = !decide (V.int ((l.length : Nat) : Int) = V.int (needN z)) := by
      rw [kB_at eh2, ez, lc]
      congr 1
      show decide (((cntB bs i : Nat) : Int) = needN z) = _
      by_cases y : ((cntB bs i : Nat) : Int) = needN z
      · rw [decide_eq_true y, decide_eq_true (by rw [y])]
      · rw [decide_eq_false y, decide_eq_false fun x => y (V.int.inj x)]
    rw [← val]
    refine if_bl (fun c => ?_) (fun c => ⟨⟨_, _, _, rfl⟩, s67, fun j hj => ?_⟩)
    · refine ⟨_, rfl, ?_⟩
      have := q _ s67
      rw [firstN_at (i := i) (by omega) c no] at this
      exact this
    · by_cases z : j = i
      · rw [z]; exact c
      · exact no j (by omega)
  · rintro σ H5 ⟨⟨v1, v2, v3, rfl⟩, s5, no⟩
    have := q H5 s5
    rw [firstN_none (fun j hj => no j (by omega))] at this
    exact this
end
def toBR (b : BX) : BR := ⟨b.one.toNat, b.to.toNat, b.th⟩
def EndsX (n : Nat) (bs : List BX) : Prop := ∀ b ∈ bs, (0 ≤ b.one ∧ b.one < (n : Int)) ∧ (0 ≤ b.to ∧ b.to < (n : Int))
theorem ends_of {n : Nat} {bs : List BX} (e : EndsX n bs) : ∀ b ∈ bs.map toBR, b.one < n ∧ b.to < n := fun b hb => by
  obtain ⟨x, hx, rfl⟩ := List.mem_map.mp hb
  obtain ⟨⟨a, b⟩, c, d⟩ := e x hx
  show x.one.toNat < n ∧ x.to.toNat < n
  omega
theorem belts_of {f : Addr → Prop} {H : Hp} {n : Nat} : ∀ {bv : List V} {bs : List BX}, All2 (BxAt f H) bv bs → EndsX n bs → All2 (BeltAt H) bv (bs.map toBR)
  | _, _, .nil, _ => .nil
  | _, b :: bs, .cons h t, e => by
    obtain ⟨p, g, rfl, _, _, h1, h2⟩ := h
    obtain ⟨⟨e1, _⟩, e2, _⟩ := e b (List.mem_cons_self ..)
    refine .cons ⟨p, g, rfl, ?_, h2⟩ (belts_of t fun x hx => e x (List.mem_cons_of_mem _ hx))
    rw [h1]
    show some (HO.tup [V.int b.one, V.int b.to, V.ref g]) = some (HO.tup [V.int ((b.one.toNat : Nat) : Int), V.int ((b.to.toNat : Nat) : Int), V.ref g])
    rw [Int.toNat_of_nonneg e1, Int.toNat_of_nonneg e2]
section
variable {P : Program} {w : World} {K : PySem.W.Frag} {mg : Str → Option Value} {base : Heap}
def sp_hand_on_ring (K : PySem.W.Frag) : Sp := fun vs H Q _ => ∃ (f : Addr → Prop) (r : Addr) (hs : List HX) (bs : List BX), vs = [.ref r] ∧ RmX f H r hs bs ∧ hs.length ≤ 400 ∧ bs.length ≤ 400 ∧ EndsX hs.length bs ∧ ∀ (v : V) (H' : Hp), FirstW (bareSt (bs.map toBR)) (List.range hs.length) v → Same H H' → Q v H'
theorem ok_hand_on_ring {f : Addr} {fd : FuncData} (F : Fun K "hand_on_ring" "hand_on_ring" s_hand_on_ring f fd) (T : Top w K mg) : FnOk P w K mg base CX0 3 f fd ["room"] (sp_hand_on_ring K) := by
  obtain ⟨f_first_on_ring, fd_first_on_ring, F_first_on_ring, b_first_on_ring, m_first_on_ring⟩ := T.d_first_on_ring
  have G_first_on_ring := ok_first_on_ring (P := P) (w := w) (base := base) F_first_on_ring T
  refine F.ok sc_hand_on_ring (fun vs H Q E h => ?_) (fun cdv A outer s H vs Q E hr h => ?_)
  · obtain ⟨f, r, hs, bs, rfl, _⟩ := h
    rfl
  obtain ⟨f, r, hs, ds, rfl, hR, lh, lb, en, q⟩ := h
  obtain ⟨ha, ba, hv, bv, er, eh, eb, alh, alb0⟩ := hR.ex
  have alb := belts_of alb0 en
  have ends := ends_of en
  have lb2 : (ds.map toBR).length = ds.length := List.length_map ..
  rw [← lb2] at lb
  have lhv := alh.length
  have lbv := alb.length
  clear lb2 alb0 en hR
  generalize ds.map toBR = bs at q alb ends lb lbv
  refine ⟨_, (pss_cons (ps_asg (pv 0) (pg_tupK K rfl rfl (pgs_cons (pg_name (i := 1) sc_hand_on_ring.nd rfl (Or.inl rfl)) (pgs_cons (pg_name (i := 2) sc_hand_on_ring.nd rfl (Or.inl rfl)) pgs_nil))))
      (pss_cons (ps_setDc (i := 3) (own := [("number", 4)]) (g := gName 4) (tt := tYes) (by rfl) sc_hand_on_ring.nd rfl rfl (sw_dc rfl rfl rfl (by decide +kernel)) (pi_range1 (by rfl) T.m_range (pa_cons (pe_callB (call_len_seqK K rfl) (by rfl) T.m_len (by decide +kernel) (pa_cons (pv 1) pa_nil)) pa_nil)) (blkOk_by (own := [("number", 4)]) (N := N_hand_on_ring) (sc := defScope s_hand_on_ring) (by decide +kernel)) (fun _ _ _ _ _ => (pg_name (i := 4) sc_hand_on_ring.nd rfl (Or.inl rfl))) (fun _ _ _ _ _ => pts_nil) (fun _ _ _ _ _ => (pv 4)) (fun _ _ _ _ _ => (pe_lst pa_nil)))
      (pss_cons (ps_for PassesOwn.never rfl (pi_tupK K rfl (pv 2)) (pg_tupK K rfl rfl (pgs_cons (pg_name (i := 5) sc_hand_on_ring.nd rfl (Or.inl rfl)) (pgs_cons (pg_name (i := 6) sc_hand_on_ring.nd rfl (Or.inl rfl)) (pgs_cons (pg_name (i := 7) sc_hand_on_ring.nd rfl (Or.inl rfl)) pgs_nil))))
        (pss_one (ps_if (pt_not (pt_truthK K rfl (pv 7) (by intro _; rfl))) (pss_one (ps_expr (pe_bmK K rfl PySem.F.plainAttrs_list PySem.F.slot_list_append PySem.F.type_list_append mt_append (pe_dget (hu_of hr) (pv 3) (pv 5) (fun _ _ => rfl)) (pa_cons (pv 6) pa_nil)))) pss_nil)))
      (pss_one (ps_ret (pe_call G_first_on_ring (hr.mono (by decide)) (by rfl) m_first_on_ring F_first_on_ring.kp b_first_on_ring .nil pass0 (pa_cons (pe_callTy (call_list_dK rfl) (by rfl) T.m_list (by decide +kernel) (pa_cons (pv 3) pa_nil)) (pa_cons (pv 3) pa_nil)))))))), ?_⟩
  refine ⟨_, rfl, r, _, rfl, SqT.of er, rfl, _, _, rfl, _, _, rfl, rfl, ?_⟩
  refine ⟨_, rfl, ha, _, rfl, .inr (SqT.of eh), _, rfl, by omega, by omega, fun D nD => dc_range (fun i H5 => StU H H5 D i (fun _ => [])) ⟨fun _ => D, upd_same, (fun i z => absurd z (Nat.not_lt_zero _)), (fun i j z => absurd z (Nat.not_lt_zero _)), same_new nD⟩ ?_ ?_⟩
  · rintro i H5 hi ⟨adr, hD, had, inj, s5⟩
    refine ⟨rfl, _, rfl, (by show 0 ≤ sizeLine; decide), fun p np => ?_⟩
    have pD : p ≠ D := fun z => by rw [z, hD] at np; cases np
    have u := same_new (o := .lst []) np
    have lK : (stK adr i).length = i := by unfold stK; rw [List.length_map, List.length_range]
    refine ⟨stK adr i, Sum.inl ((i : Nat) : Int), by rw [Int.zero_add]; rfl, u _ _ hD, by rw [lK]; exact small1000 (by omega), ?_⟩
    rw [stK_put]
    refine ⟨_, upd_same, fun j hj => ?_, fun j k hj hk e => ?_, Same.own (s5.trans u) nD⟩
    · by_cases z : j = i
      · rw [if_pos z]
        refine ⟨by rw [upd_ne pD, upd_same]; rfl, ?_⟩
        cases h0 : H p with
        | none => rfl
        | some o => rw [s5 _ _ h0] at np; cases np
      · rw [if_neg z]
        obtain ⟨a1, a2⟩ := had j (by omega)
        have aD : adr j ≠ D := fun y => by rw [y, hD] at a1; cases a1
        exact ⟨by rw [upd_ne aD]; exact u _ _ a1, a2⟩
    · by_cases z : j = i
      · by_cases y : k = i
        · omega
        · simp only [if_pos z, if_neg y] at e
          rw [e, (had k (by omega)).1] at np
          cases np
      · by_cases y : k = i
        · simp only [if_neg z, if_pos y] at e
          rw [← e, (had j (by omega)).1] at np
          cases np
        · simp only [if_neg z, if_neg y] at e
          exact inj j k (by omega) (by omega) e
  intro H2 su0
  rw [lhv] at su0
  have same0 : ∀ {H5 : Hp} {n : Nat} {st : Nat → List Nat}, StU H H5 D n st → Same H H5 := fun su => by
    obtain ⟨adr, _, _, _, s⟩ := su.ex
    exact s
  refine ⟨_, rfl, ba, rfl, ⟨_, SqT.of (same0 su0 _ _ eb)⟩, for_tup (K := K) (a := ba) (xs := bv) (fun i σ H5 => ∃ v4 v5 v6 v7 : Option V, σ = [some (.ref r), some (.ref ha), some (.ref ba), some (.ref D), v4, v5, v6, v7] ∧ StU H H5 D hs.length (bareSt (bs.take i))) ⟨_, _, _, _, rfl, su0⟩ (fun i σ H5 _ ⟨_, _, _, _, _, su⟩ => SqT.of (same0 su _ _ eb)) ?_ ?_⟩
  · rintro i x σ H5 hx ⟨v4, v5, v6, v7, rfl, su⟩
    obtain ⟨adr, hD, had, inj, s5⟩ := su.ex
    obtain ⟨b, eb2, t, g, rfl, e4, e5⟩ := alb.getL hx
    have tk : bs.take (i + 1) = bs.take i ++ [b] := by rw [List.take_add_one, eb2]; rfl
    obtain ⟨n1, n2⟩ := ends b (List.mem_of_getElem? eb2)
    have bq : ∀ j, bareSt (bs.take (i + 1)) j = if b.one = j ∧ b.th = [] then bareSt (bs.take i) j ++ [b.to] else bareSt (bs.take i) j := fun j => by rw [tk, bare_snoc]
    refine ⟨t, _, rfl, SqT.of (s5 _ _ e4), rfl, _, _, rfl, _, _, rfl, _, _, rfl, rfl, ?_⟩
    refine ⟨_, rfl, _, .inr (.inl ⟨_, SqT.of (s5 _ _ e5), rfl⟩), if_bl (fun z => ?_) (fun z => ?_)⟩
    · have bare : b.th = [] := by
        cases hb : b.th with
        | nil => rfl
        | cons y l => rw [hb] at z; cases z
      obtain ⟨a1, a2⟩ := had b.one n1
      have st5 : StAt H5 D hs.length (bareSt (bs.take i)) := ⟨adr, hD, fun j hj => (had j hj).1⟩
      have gt : DGet H5 D (nV b.one) (some (.ref (adr b.one))) := by
        have := DGet.k (k := Sum.inl ((b.one : Nat) : Int)) hD
        rwa [stK_at n1] at this
      have few := bare_len (bs.take i) b.one
      have few2 : (bs.take i).length ≤ bs.length := by rw [List.length_take]; exact Nat.min_le_right ..
      have aD : D ≠ adr b.one := fun y => by rw [← y, hD] at a1; cases a1
      refine ⟨_, rfl, _, rfl, D, _, rfl, gt, .inl ⟨rfl, _, SqL.of a1⟩, _, rfl, adr b.one, _, _, rfl, rfl, a1, by rw [List.length_map]; exact small1000 (by omega), _, _, _, _, rfl, ⟨adr, by rw [upd_ne aD]; exact hD, fun j hj => ⟨?_, (had j hj).2⟩, inj, Same.own s5 a2⟩⟩
      rw [bq]
      by_cases y : b.one = j
      · subst y
        rw [if_pos ⟨rfl, bare⟩, upd_same, List.map_append]
        rfl
      · rw [if_neg (fun c => y c.1), upd_ne (fun c => y (inj _ _ hj n1 c).symm)]
        exact (had j hj).1
    · have bare : b.th ≠ [] := fun y => by rw [y] at z; cases z
      refine ⟨_, _, _, _, rfl, ⟨adr, hD, fun j hj => ⟨?_, (had j hj).2⟩, inj, s5⟩⟩
      rw [bq, if_neg (fun c => bare c.2)]
      exact (had j hj).1
  · rintro σ H5 ⟨v4, v5, v6, v7, rfl, su⟩
    rw [lbv, List.take_length] at su
    obtain ⟨adr, hD, had, inj, s5⟩ := su.ex
    refine ⟨_, rfl, D, _, rfl, hD, fun pl npl => ?_⟩
    have s6 := same_new (o := .lst ((stK adr hs.length).map fun kv => kV kv.1)) npl
    refine ⟨_, rfl, pl, D, hs.length, List.range hs.length, bareSt bs, rfl, ?_, fun x hx => List.mem_range.mp hx, ⟨adr, s6 _ _ hD, fun j hj => s6 _ _ (had j hj).1⟩, by omega, fun j hj => ⟨by have := bare_len bs j; omega, fun y hy => ?_⟩, fun v H7 fw s7 => ?_⟩
    · rw [upd_same]
      unfold stK
      rw [List.map_map]
      rfl
    · obtain ⟨b, hb, _, _, e⟩ := bare_mem hy
      rw [← e]
      exact (ends b hb).2
    · exact q v _ fw (s5.trans (s6.trans s7))
end
/-! ### all rings at once -/
inductive Via (st : Nat → List Nat) (k : Nat) : Nat → Nat → Prop
  | one {i j : Nat} : j ∈ st i → Via st k i j
  | thru {i m j : Nat} : Via st k i m → m < k → Via st k m j → Via st k i j
theorem Via.up {st : Nat → List Nat} {k i j : Nat} (h : Via st k i j) : Via st (k + 1) i j := by
  induction h with
  | one a => exact .one a
  | thru _ l _ a b => exact .thru a (by omega) b
theorem Via.succ {st : Nat → List Nat} {k i j : Nat} : Via st (k + 1) i j ↔ Via st k i j ∨ (Via st k i k ∧ Via st k k j) := by
  constructor
  · intro h
    induction h with
    | one a => exact .inl (.one a)
    | @thru i m j _ l _ a b =>
      by_cases e : m = k
      · subst e
        exact .inr ⟨a.elim id (·.1), b.elim id (·.2)⟩
      · have l : m < k := by omega
        rcases a with a | ⟨a1, a2⟩
        · rcases b with b | ⟨b1, b2⟩
          · exact .inl (.thru a l b)
          · exact .inr ⟨.thru a l b1, b2⟩
        · rcases b with b | ⟨b1, b2⟩
          · exact .inr ⟨a1, .thru a2 l b⟩
          · exact .inr ⟨a1, b2⟩
  · rintro (h | ⟨a, b⟩)
    · exact h.up
    · exact .thru a.up (Nat.lt_succ_self _) b.up
theorem OnW.trans {st : Nat → List Nat} {a b c : Nat} (h : OnW st a b) (g : OnW st b c) : OnW st a c := by
  induction g with
  | one m => exact .more h m
  | more _ m ih => exact .more ih m
theorem via_on {st : Nat → List Nat} {n i j : Nat} (hi : i < n) (hs : ∀ i, i < n → ∀ y ∈ st i, y < n) : OnW st i j ↔ Via st n i j := by
  constructor
  · intro h
    induction h with
    | one m => exact .one m
    | more w m ih => exact .thru ih (w.lt hi hs) (.one m)
  · intro h
    clear hi
    induction h with
    | one m => exact .one m
    | thru _ _ _ a b => exact a.trans b
def Wr (st : Nat → List Nat) : Nat → Nat → Nat → Bool
  | 0 => fun x y => decide (y ∈ st x)
  | k + 1 => fun x y => Wr st k x y || (Wr st k x k && Wr st k k y)
theorem wr_via {st : Nat → List Nat} : ∀ (k x y : Nat), Wr st k x y = true ↔ Via st k x y
  | 0, x, y => by
    show decide (y ∈ st x) = true ↔ _
    rw [decide_eq_true_eq]
    exact ⟨fun h => .one h, fun h => by
      cases h with
      | one a => exact a
      | thru _ l _ => exact absurd l (Nat.not_lt_zero _)⟩
  | k + 1, x, y => by
    show (Wr st k x y || (Wr st k x k && Wr st k k y)) = true ↔ _
    rw [Bool.or_eq_true, Bool.and_eq_true, wr_via k, wr_via k, wr_via k, Via.succ]
theorem wr_same (st : Nat → List Nat) (k y : Nat) : Wr st (k + 1) k y = Wr st k k y := by
  show (Wr st k k y || (Wr st k k k && Wr st k k y)) = _
  cases Wr st k k y <;> cases Wr st k k k <;> rfl
theorem range_set {α : Type} (n : Nat) (f : Nat → α) (i : Nat) (v : α) : ((List.range n).map f).set i v = (List.range n).map fun x => if x = i then v else f x := by
  refine List.ext_getElem? fun k => ?_
  rw [List.getElem?_set, List.getElem?_map, List.getElem?_map, List.length_map, List.length_range]
  by_cases l : k < n
  · rw [List.getElem?_range l]
    by_cases h : i = k
    · subst h
      rw [if_pos rfl, if_pos l]
      show _ = some (if i = i then v else f i)
      rw [if_pos rfl]
    · rw [if_neg h]
      show _ = some (if k = i then v else f k)
      rw [if_neg (Ne.symm h)]
      rfl
  · rw [List.getElem?_eq_none (by rw [List.length_range]; omega)]
    by_cases h : i = k
    · subst h
      rw [if_pos rfl, if_neg l]
      rfl
    · rw [if_neg h]
      rfl
theorem row_at {α : Type} {n j : Nat} (f : Nat → α) (h : j < n) : ((List.range n).map f)[j]? = some (f j) := by
  rw [List.getElem?_map, List.getElem?_range h]; rfl
/-- the table of which hand leads to which, in rows -/
structure Mx (H0 H : Hp) (D : Addr) (n : Nat) (A : Nat → Nat → Bool) : Prop where
  ex : ∃ adr : Nat → Addr, H D = some (.lst ((List.range n).map fun i => V.ref (adr i))) ∧ (∀ i, i < n → H (adr i) = some (.lst ((List.range n).map fun j => V.bl (A i j))) ∧ H0 (adr i) = none ∧ adr i ≠ D) ∧ (∀ i j, i < n → j < n → adr i = adr j → i = j) ∧ Same H0 H ∧ H0 D = none
theorem Mx.put {H0 H : Hp} {D : Addr} {n i j : Nat} {A : Nat → Nat → Bool} {b : Bool} (m : Mx H0 H D n A) (hi : i < n) : ∃ a : Addr, ((∃ xs, H D = some (.lst xs) ∧ xs[i]? = some (V.ref a)) ∧ H a = some (.lst ((List.range n).map fun j => V.bl (A i j)))) ∧
    Mx H0 (upd H a (.lst (((List.range n).map fun j => V.bl (A i j)).set j (.bl b)))) D n (fun x y => if x = i ∧ y = j then b else A x y) := by
  obtain ⟨adr, hD, hr, inj, s, nD⟩ := m.ex
  obtain ⟨r1, r2, r3⟩ := hr i hi
  refine ⟨adr i, ⟨⟨_, hD, row_at _ hi⟩, r1⟩, adr, by rw [upd_ne (Ne.symm r3)]; exact hD, fun x hx => ?_, inj, Same.own s r2, nD⟩
  obtain ⟨q1, q2, q3⟩ := hr x hx
  refine ⟨?_, q2, q3⟩
  by_cases e : x = i
  · subst e
    rw [upd_same, range_set]
    congr 2
    refine List.map_congr_left fun y _ => ?_
    by_cases z : y = j
    · rw [if_pos z, if_pos ⟨rfl, z⟩]
    · rw [if_neg z, if_neg fun c => z c.2]
  · rw [upd_ne (fun c => e (inj _ _ hx hi c)), q1]
    congr 2
    exact List.map_congr_left fun y _ => by rw [if_neg fun c => e c.1]
theorem Mx.row {H0 H H3 : Hp} {D E : Addr} {n i : Nat} {A : Nat → Nat → Bool} {r : Nat → Bool} {xs : List V} (m : Mx H0 H D n A) (hi : i < n) (s3 : Same H H3) (nE : H E = none) (hE : H3 E = some (.lst ((List.range n).map fun j => V.bl (r j)))) (hx : H3 D = some (.lst xs)) :
    Mx H0 (upd H3 D (.lst (xs.set i (.ref E)))) D n (fun x y => if x = i then r y else A x y) := by
  obtain ⟨adr, hD, hr, inj, s, nD⟩ := m.ex
  rw [s3 _ _ hD] at hx
  cases hx
  have ED : E ≠ D := fun z => by rw [z, hD] at nE; cases nE
  have Ea : ∀ x, x < n → adr x ≠ E := fun x hx z => by rw [← z, (hr x hx).1] at nE; cases nE
  refine ⟨fun x => if x = i then E else adr x, ?_, fun x hx => ?_, fun x y hx hy e => ?_, Same.own (s.trans s3) nD, nD⟩
  · rw [upd_same, range_set]
    congr 2
    refine List.map_congr_left fun x _ => ?_
    show (if x = i then V.ref E else V.ref (adr x)) = V.ref (if x = i then E else adr x)
    by_cases e : x = i
    · rw [if_pos e, if_pos e]
    · rw [if_neg e, if_neg e]
  · dsimp only
    by_cases e : x = i
    · rw [if_pos e]
      refine ⟨?_, same_none s nE, ED⟩
      rw [upd_ne ED, hE]
      congr 2
      exact List.map_congr_left fun y _ => by rw [if_pos e]
    · obtain ⟨q1, q2, q3⟩ := hr x hx
      rw [if_neg e]
      refine ⟨?_, q2, q3⟩
      rw [upd_ne q3, s3 _ _ q1]
      congr 2
      exact List.map_congr_left fun y _ => by rw [if_neg e]
  · by_cases e1 : x = i
    · by_cases e2 : y = i
      · omega
      · simp only [if_pos e1, if_neg e2] at e
        exact absurd e.symm (Ea y hy)
    · by_cases e2 : y = i
      · simp only [if_neg e1, if_pos e2] at e
        exact absurd e (Ea x hx)
      · simp only [if_neg e1, if_neg e2] at e
        exact inj x y hx hy e
theorem Mx.get {H0 H : Hp} {D : Addr} {n i : Nat} {A : Nat → Nat → Bool} (m : Mx H0 H D n A) (hi : i < n) : ∃ (a : Addr) (xs : List V), H D = some (.lst xs) ∧ xs[i]? = some (V.ref a) ∧ H a = some (.lst ((List.range n).map fun j => V.bl (A i j))) := by
  obtain ⟨adr, hD, hr, _⟩ := m.ex
  exact ⟨adr i, _, hD, row_at _ hi, (hr i hi).1⟩
theorem Mx.same0 {H0 H : Hp} {D : Addr} {n : Nat} {A : Nat → Nat → Bool} (m : Mx H0 H D n A) : Same H0 H := by
  obtain ⟨_, _, _, _, s, _⟩ := m.ex
  exact s
theorem Mx.same {H0 H H' : Hp} {D : Addr} {n : Nat} {A : Nat → Nat → Bool} (m : Mx H0 H D n A) (s : Same H H') : Mx H0 H' D n A := by
  obtain ⟨adr, hD, hr, inj, s0, nD⟩ := m.ex
  exact ⟨adr, s _ _ hD, fun i hi => ⟨s _ _ (hr i hi).1, (hr i hi).2⟩, inj, s0.trans s, nD⟩
theorem ixN_at {n k : Nat} (h : k < n) : ixN n ((k : Nat) : Int) = some k := by
  unfold ixN
  rw [if_pos (by omega), if_pos (by omega)]
  rfl
theorem th_shaped {l : List Int} (h : ∀ x ∈ l, Small x) : SeqAt.shaped (.tuple (l.map PyData.int)) = true ∧ PyData.canLay0 (.tuple (l.map PyData.int)) = true := by
  have t1 : NeatAll (l.map PyData.int) 0 (l.length * 42) := NeatAll.map fun x hx => Neat.int (by have := h x hx; unfold Small at this; omega)
  have z := Neat.tup t1
  refine ⟨?_, z.lay⟩
  unfold SeqAt.shaped
  rw [z.lay, Bool.true_and]
  have := z.dep
  exact decide_eq_true (by omega)
theorem eqv_nilT (l : List PyData) : PyData.eqv (.tuple l) (.tuple []) = decide (l = []) := by
  cases l with
  | nil => rfl
  | cons a l => rfl
section
variable {P : Program} {w : World} {K : PySem.W.Frag} {mg : Str → Option Value} {base : Heap}
abbrev nsA (K : PySem.W.Frag) : Addr := He.ga K "NoRoom"
/-- refused: word and what it is about -/
def sp_refuse_room (K : PySem.W.Frag) : Sp := fun vs H Q E => ∃ (z : Str) (y : V), vs = [.str z, y] ∧ (y = .non → Q .non H) ∧ ((∃ k : Nat, y = nV k) ∨ y = .non) ∧
  ∀ (d t : Addr) (H' : Hp), y ≠ .non → H' d = some (.xd [("at", .ref t), ("word", .str z)]) → H' t = some (.tup [y]) → Same H H' → E (.ref (nsA K)) (some d) H'
theorem ok_refuse_room {f : Addr} {fd : FuncData} (F : Fun K "refuse_room" "refuse_room" s_refuse_room f fd) (T : Top w K mg) : FnOk P w K mg base (L2.CX P w) 3 f fd ["word", "at"] (sp_refuse_room K) := by
  obtain ⟨fdI, N⟩ := T.x_ns
  have GI := ok_NsInit (P := P) (w := w) (base := base) N
  refine F.okX sc_refuse_room (fun vs H Q E h => ?_) (fun cdv A outer s H vs Q E hr h => ?_)
  · obtain ⟨z, y, rfl, _⟩ := h
    rfl
  obtain ⟨z, y, rfl, q1, sort, q2⟩ := h
  refine ⟨_, (pss_one (ps_if (pt_cmpR op_notN (pv 1) pe_non (nomark _)) (pss_one (ps_raise rfl (takes_of rfl rfl rfl rfl) (pmk_oex N.T N.iC N.tI GI (hr.mono (by decide)) N.b .nil pass0 rfl N.gC (pa_cons (pv 0) (pa_cons (pe_tup (pa_cons (pv 1) pa_nil)) pa_nil))))) pss_nil)), ?_⟩
  rcases sort with ⟨k, rfl⟩ | rfl
  · refine ⟨_, rfl, rfl, _, rfl, if_bl (fun _ => ?_) (fun z => nomatch z)⟩
    refine ⟨_, rfl, _, rfl, (by show 1 ≤ sizeLine; decide), fun t nt => ⟨by show 2 ≤ 1000; decide, fun a na => ?_⟩⟩
    have s1 := same_new (o := .tup [nV k]) nt
    have ht : (upd H t (.tup [nV k])) t = some (.tup [nV k]) := upd_same
    generalize upd H t (.tup [nV k]) = H1 at s1 ht na ⊢
    refine ⟨a, V.str z, .ref t, rfl, upd_same, fun d nd da => ⟨rfl, d, _, by rw [upd_ne da.symm, upd_same], upd_same, ?_, ?_⟩⟩
    · rw [upd_ne da] at nd; exact nd
    · have nd1 : H1 d = none := by rw [upd_ne da] at nd; exact nd
      have keep : Same H1 (upd (del (upd (upd (upd (upd H1 a (exo a (nsA K) none)) d (exd d [("word", V.str z)])) a (exo a (nsA K) (some d))) d (exd d [("at", V.ref t), ("word", V.str z)])) a) d (.xd [("at", V.ref t), ("word", V.str z)])) := fun b o e => by
        have b1 : b ≠ a := ne_of_none e na
        have b2 : b ≠ d := ne_of_none e nd1
        rw [upd_ne b2, del_ne b1, upd_ne b2, upd_ne b1, upd_ne b2, upd_ne b1]
        exact e
      exact q2 d t _ (fun z => nomatch z) upd_same (keep _ _ ht) (s1.trans keep)
  · exact ⟨_, rfl, rfl, _, rfl, if_bl (fun z => nomatch z) (fun _ => q1 rfl)⟩
end
/-! ### what a room is refused with -/
def lookX (hs : List HX) (bs : List BX) : Option (Str × List Nat) := match firstN hs.length (hB hs) with
  | some k => some (("hand" : Str), [k])
  | none => match firstN bs.length (bB hs bs) with
    | some k => some (("belt" : Str), [k])
    | none => match firstN hs.length (kB hs bs) with
      | some k => some (("count" : Str), [k])
      | none => match firstN hs.length (fun k => Wr (bareSt (bs.map toBR)) hs.length k k) with
        | some k => some (("ring" : Str), [k])
        | none => none
def LookIs (d : PyData) (o : Option (Str × List Nat)) : Prop := (formB d = false ∧ o = some (("form" : Str), ([] : List Nat))) ∨ ∃ hs bs, d = roomX hs bs ∧ o = lookX hs bs
theorem map_inj {α β : Type} {g : α → β} (k : ∀ x y, g x = g y → x = y) : ∀ {l m : List α}, l.map g = m.map g → l = m
  | [], [], _ => rfl
  | [], _ :: _, e => nomatch e
  | _ :: _, [], e => nomatch e
  | x :: l, y :: m, e => by
    rw [List.map_cons, List.map_cons] at e
    obtain ⟨e1, e2⟩ := List.cons.inj e
    rw [k _ _ e1, map_inj k e2]
theorem HX.inj {x y : HX} (e : x.d = y.d) : x = y := by
  obtain ⟨a, b⟩ := x
  obtain ⟨c, d⟩ := y
  have e := PyData.tuple.inj e
  obtain ⟨e1, e2⟩ := List.cons.inj e
  obtain ⟨e2, _⟩ := List.cons.inj e2
  have e1 : a = c := e1
  have e2 : b = d := PyData.int.inj e2
  rw [e1, e2]
theorem BX.inj {x y : BX} (e : x.d = y.d) : x = y := by
  obtain ⟨a, b, c⟩ := x
  obtain ⟨a', b', c'⟩ := y
  have e := PyData.tuple.inj e
  obtain ⟨e1, e⟩ := List.cons.inj e
  obtain ⟨e2, e⟩ := List.cons.inj e
  obtain ⟨e3, _⟩ := List.cons.inj e
  have e1 : a = a' := PyData.int.inj e1
  have e2 : b = b' := PyData.int.inj e2
  have e3 : c = c' := map_inj (fun _ _ => PyData.int.inj) (PyData.tuple.inj e3)
  rw [e1, e2, e3]
theorem roomX_inj {hs hs' : List HX} {bs bs' : List BX} (e : roomX hs bs = roomX hs' bs') : hs = hs' ∧ bs = bs' := by
  have e := PyData.tuple.inj e
  obtain ⟨e1, e⟩ := List.cons.inj e
  obtain ⟨e2, _⟩ := List.cons.inj e
  exact ⟨map_inj (fun _ _ => HX.inj) (PyData.tuple.inj e1), map_inj (fun _ _ => BX.inj) (PyData.tuple.inj e2)⟩
theorem look_ex (d : PyData) : ∃ o, LookIs d o := by
  cases h : formB d with
  | false => exact ⟨_, .inl ⟨h, rfl⟩⟩
  | true =>
    obtain ⟨hs, bs, rfl⟩ := form_ex h
    exact ⟨_, .inr ⟨hs, bs, rfl, rfl⟩⟩
theorem LookIs.room {hs : List HX} {bs : List BX} {o : Option (Str × List Nat)} (h : LookIs (roomX hs bs) o) : o = lookX hs bs := by
  rcases h with ⟨h, _⟩ | ⟨hs', bs', e, rfl⟩
  · rw [form_room] at h; cases h
  · obtain ⟨rfl, rfl⟩ := roomX_inj e
    rfl
def SmD (d : PyData) : Prop := ∀ hs bs, d = roomX hs bs → hs.length ≤ 400 ∧ bs.length ≤ 400 ∧ ∀ h ∈ hs, SeqAt.shaped h.r = true
theorem hB_no {hs : List HX} (no : firstN hs.length (hB hs) = none) : ∀ h ∈ hs, isRule h.r = true ∧ ¬ h.m < 0 := fun h hh => by
  obtain ⟨i, hi, e⟩ := List.getElem_of_mem hh
  have := firstN_no no i hi
  rw [hB_at (List.getElem?_eq_some_iff.mpr ⟨hi, e⟩)] at this
  unfold hBad at this
  rw [Bool.or_eq_false_iff, Bool.or_eq_false_iff] at this
  refine ⟨?_, of_decide_eq_false this.2.1⟩
  cases hr : isRule h.r with
  | true => rfl
  | false => rw [hr] at this; exact this.1.symm
theorem bB_no {hs : List HX} {bs : List BX} (no : firstN bs.length (bB hs bs) = none) : EndsX hs.length bs ∧ ∀ b ∈ bs, outAt hs b.one.toNat = false := by
  have key : ∀ b ∈ bs, bBad hs b = false := fun b hb => by
    obtain ⟨i, hi, e⟩ := List.getElem_of_mem hb
    have := firstN_no no i hi
    rwa [bB_at (List.getElem?_eq_some_iff.mpr ⟨hi, e⟩)] at this
  refine ⟨fun b hb => ?_, fun b hb => ?_⟩
  · have := key b hb
    unfold bBad at this
    rw [Bool.or_eq_false_iff, Bool.or_eq_false_iff] at this
    obtain ⟨t1, t2, _⟩ := this
    have ng : ∀ {c : Bool}, (!c) = false → c = true := fun {c} h => by cases c <;> first | rfl | cases h
    have t1 := ng t1
    have t2 := ng t2
    rw [Bool.and_eq_true, decide_eq_true_eq, decide_eq_true_eq] at t1 t2
    exact ⟨t1, t2⟩
  · have := key b hb
    unfold bBad at this
    rw [Bool.or_eq_false_iff, Bool.or_eq_false_iff] at this
    exact this.2.2
section
variable {P : Program} {w : World} {K : PySem.W.Frag} {mg : Str → Option Value} {base : Heap}
variable {cF cB : Addr} {PT : Addr × Addr} [TF : TabF K mg base cF PT] [TC : TabC K mg base cB PT]
include TF TC
def sp_look_room (K : PySem.W.Frag) (PT : Addr × Addr) : Sp := fun vs H Q E => ∃ (f : Addr → Prop) (v : V) (d : PyData) (o : Option (Str × List Nat)), vs = [v] ∧ Th f H v d ∧ LookIs d o ∧ SmD d ∧ Tb2 PT H ∧
  (∀ H', o = none → LamX.ExtN H H' → Tb2 PT H' → Q (.bl true) H') ∧
  ∀ (dd t : Addr) (z : Str) (ks : List Nat) (H' : Hp), o = some (z, ks) → H' dd = some (.xd [("at", .ref t), ("word", .str z)]) → H' t = some (.tup (ks.map nV)) → LamX.ExtN H H' → Tb2 PT H' → E (.ref (nsA K)) (some dd) H'
theorem ok_look_room {f : Addr} {fd : FuncData} (F : Fun K "look_room" "look_room" s_look_room f fd) (T : Top w K mg) : FnOk P w K mg base (L2.CX P w) 6 f fd ["room"] (sp_look_room K PT) := by
  obtain ⟨f_refuse_room, fd_refuse_room, F_refuse_room, b_refuse_room, m_refuse_room⟩ := T.d_refuse_room
  have G_refuse_room := ok_refuse_room (P := P) (w := w) (base := base) F_refuse_room T
  obtain ⟨f_has_form, fd_has_form, F_has_form, b_has_form, m_has_form⟩ := T.d_has_form
  have G_has_form := ok_has_form (P := P) (w := w) (base := base) F_has_form (TF.cd _ _ F_has_form m_has_form) T
  obtain ⟨f_wrong_hand, fd_wrong_hand, F_wrong_hand, b_wrong_hand, m_wrong_hand⟩ := T.d_wrong_hand
  have G_wrong_hand := ok_wrong_hand (P := P) (w := w) (base := base) F_wrong_hand T
  obtain ⟨f_wrong_belt, fd_wrong_belt, F_wrong_belt, b_wrong_belt, m_wrong_belt⟩ := T.d_wrong_belt
  have G_wrong_belt := ok_wrong_belt (P := P) (w := w) (base := base) F_wrong_belt T
  obtain ⟨f_wrong_count, fd_wrong_count, F_wrong_count, b_wrong_count, m_wrong_count⟩ := T.d_wrong_count
  have G_wrong_count := ok_wrong_count (P := P) (w := w) (base := base) F_wrong_count T
  obtain ⟨f_hand_on_ring, fd_hand_on_ring, F_hand_on_ring, b_hand_on_ring, m_hand_on_ring⟩ := T.d_hand_on_ring
  have G_hand_on_ring := ok_hand_on_ring (P := P) (w := w) (base := base) F_hand_on_ring T
  obtain ⟨fdI, N⟩ := T.x_ns
  have GI := ok_NsInit (P := P) (w := w) (base := base) N
  refine F.okX sc_look_room (fun vs H Q E h => ?_) (fun cdv A outer s H vs Q E hr h => ?_)
  · obtain ⟨f, v, d, o, rfl, _⟩ := h
    rfl
  obtain ⟨f, v, d, o, rfl, th, lk, sm, tb, q1, q2⟩ := h
  refine ⟨_, (pss_cons (ps_if (pt_not (pt_val (pe_call G_has_form (hr.mono (by decide)) (by rfl) m_has_form F_has_form.kp b_has_form .nil pass0 (pa_cons (pv 0) pa_nil)))) (pss_one (ps_raise rfl (takes_of rfl rfl rfl rfl) (pmk_oex N.T N.iC N.tI GI (hr.mono (by decide)) N.b .nil pass0 rfl N.gC (pa_cons pe_str (pa_cons (pe_tup pa_nil) pa_nil))))) pss_nil)
      (pss_cons (ps_expr (pe_callS G_refuse_room (hr.mono (by decide)) (by rfl) m_refuse_room F_refuse_room.kp b_refuse_room (fun σ => passAt (takes_of rfl rfl rfl rfl) σ) (pa_cons pe_str (pa_cons (pe_call G_wrong_hand (hr.mono (by decide)) (by rfl) m_wrong_hand F_wrong_hand.kp b_wrong_hand .nil pass0 (pa_cons (pv 0) pa_nil)) pa_nil))))
      (pss_cons (ps_expr (pe_callS G_refuse_room (hr.mono (by decide)) (by rfl) m_refuse_room F_refuse_room.kp b_refuse_room (fun σ => passAt (takes_of rfl rfl rfl rfl) σ) (pa_cons pe_str (pa_cons (pe_call G_wrong_belt (hr.mono (by decide)) (by rfl) m_wrong_belt F_wrong_belt.kp b_wrong_belt .nil pass0 (pa_cons (pv 0) pa_nil)) pa_nil))))
      (pss_cons (ps_expr (pe_callS G_refuse_room (hr.mono (by decide)) (by rfl) m_refuse_room F_refuse_room.kp b_refuse_room (fun σ => passAt (takes_of rfl rfl rfl rfl) σ) (pa_cons pe_str (pa_cons (pe_call G_wrong_count (hr.mono (by decide)) (by rfl) m_wrong_count F_wrong_count.kp b_wrong_count .nil pass0 (pa_cons (pv 0) pa_nil)) pa_nil))))
      (pss_cons (ps_expr (pe_callS G_refuse_room (hr.mono (by decide)) (by rfl) m_refuse_room F_refuse_room.kp b_refuse_room (fun σ => passAt (takes_of rfl rfl rfl rfl) σ) (pa_cons pe_str (pa_cons (pe_call G_hand_on_ring (hr.mono (by decide)) (by rfl) m_hand_on_ring F_hand_on_ring.kp b_hand_on_ring .nil pass0 (pa_cons (pv 0) pa_nil)) pa_nil))))
      (pss_one (ps_ret pe_bl))))))), ?_⟩
  refine ⟨_, rfl, f, v, d, rfl, th, tb, fun H1 e1 tb1 => ?_⟩
  cases hf : formB d with
  | false =>
    have eo : o = some (("form" : Str), ([] : List Nat)) := by
      rcases lk with ⟨_, e⟩ | ⟨hs, bs, rfl, _⟩
      · exact e
      · rw [form_room] at hf; cases hf
    refine ⟨_, rfl, if_bl (fun _ => ?_) (fun z => nomatch z)⟩
    refine ⟨(by show 0 ≤ sizeLine; decide), fun t nt => ⟨by show 2 ≤ 1000; decide, fun a na => ?_⟩⟩
    have s1 := same_new (o := .tup ([] : List V)) nt
    have ht : (upd H1 t (.tup ([] : List V))) t = some (.tup ([] : List V)) := upd_same
    generalize upd H1 t (.tup ([] : List V)) = H2 at s1 ht na ⊢
    refine ⟨a, V.str "form", .ref t, rfl, upd_same, fun dd nd da => ⟨rfl, dd, _, by rw [upd_ne da.symm, upd_same], upd_same, ?_, ?_⟩⟩
    · rw [upd_ne da] at nd; exact nd
    · have nd1 : H2 dd = none := by rw [upd_ne da] at nd; exact nd
      have keep : Same H2 (upd (del (upd (upd (upd (upd H2 a (exo a (nsA K) none)) dd (exd dd [("word", V.str "form")])) a (exo a (nsA K) (some dd))) dd (exd dd [("at", V.ref t), ("word", V.str "form")])) a) dd (.xd [("at", V.ref t), ("word", V.str "form")])) := fun b o e => by
        have b1 : b ≠ a := ne_of_none e na
        have b2 : b ≠ dd := ne_of_none e nd1
        rw [upd_ne b2, del_ne b1, upd_ne b2, upd_ne b1, upd_ne b2, upd_ne b1]
        exact e
      exact q2 dd t "form" [] _ eo upd_same (keep _ _ ht) (e1.trans (ext_same (s1.trans keep))) (tb1.same (s1.trans keep))
  | true =>
  refine ⟨_, rfl, if_bl (fun z => nomatch z) (fun _ => ?_)⟩
  obtain ⟨hs, bs, rfl⟩ := form_ex hf
  obtain ⟨l1, l2, sh⟩ := sm hs bs rfl
  obtain rfl := lk.room
  obtain ⟨r, rfl, hR⟩ := RmX.of (th.ext e1)
  have stop : ∀ {z : Str} {k : Nat} {y : V} {H2 : Hp}, lookX hs bs = some (z, [k]) → y = nV k → LamX.ExtN H H2 → Tb2 PT H2 → ∀ (dd t : Addr) (H' : Hp), y ≠ .non → H' dd = some (.xd [("at", .ref t), ("word", .str z)]) → H' t = some (.tup [y]) → Same H2 H' → E (.ref (nsA K)) (some dd) H' := fun e ey e2 t2 dd t H' _ h1 h2 s => by
    subst ey
    exact q2 dd t _ _ H' e h1 h2 (e2.trans (ext_same s)) (t2.same s)
  refine ⟨_, rfl, f, r, hs, bs, rfl, hR, sh, fun H2 s2 => ?_⟩
  cases n1 : firstN hs.length (hB hs) with
  | some k => exact ⟨_, _, rfl, (fun z => nomatch z), .inl ⟨k, rfl⟩, stop (by unfold lookX; rw [n1]) rfl (e1.trans (ext_same s2)) (tb1.same s2)⟩
  | none =>
  refine ⟨_, _, rfl, fun _ => ?_, .inr rfl, fun _ _ _ z => absurd rfl z⟩
  refine ⟨_, rfl, f, r, hs, bs, rfl, hR.same s2, sh, fun H3 s3 => ?_⟩
  have s13 := s2.trans s3
  cases n2 : firstN bs.length (bB hs bs) with
  | some k => exact ⟨_, _, rfl, (fun z => nomatch z), .inl ⟨k, rfl⟩, stop (by unfold lookX; rw [n1]; dsimp only; rw [n2]) rfl (e1.trans (ext_same s13)) (tb1.same s13)⟩
  | none =>
  refine ⟨_, _, rfl, fun _ => ?_, .inr rfl, fun _ _ _ z => absurd rfl z⟩
  refine ⟨_, rfl, f, r, hs, bs, rfl, hR.same s13, (fun h hh => (hB_no n1 h hh).1), by omega, fun H4 s4 => ?_⟩
  have s14 := s13.trans s4
  cases n3 : firstN hs.length (kB hs bs) with
  | some k => exact ⟨_, _, rfl, (fun z => nomatch z), .inl ⟨k, rfl⟩, stop (by unfold lookX; rw [n1]; dsimp only; rw [n2]; dsimp only; rw [n3]) rfl (e1.trans (ext_same s14)) (tb1.same s14)⟩
  | none =>
  refine ⟨_, _, rfl, fun _ => ?_, .inr rfl, fun _ _ _ z => absurd rfl z⟩
  obtain ⟨en, _⟩ := bB_no n2
  have ends := ends_of en
  refine ⟨_, rfl, f, r, hs, bs, rfl, hR.same s14, l1, l2, en, fun v H5 fw s5 => ?_⟩
  have s15 := s14.trans s5
  have on : ∀ k, k < hs.length → (Wr (bareSt (bs.map toBR)) hs.length k k = true ↔ OnW (bareSt (bs.map toBR)) k k) := fun k hk => by
    rw [wr_via]
    refine (via_on hk fun i _ y hy => ?_).symm
    obtain ⟨b, hb, _, _, e⟩ := bare_mem hy
    rw [← e]
    exact (ends b hb).2
  rcases fw with ⟨rfl, no⟩ | ⟨i, x, ex, rfl, hw, low⟩
  · refine ⟨_, _, rfl, fun _ => q1 _ ?_ (e1.trans (ext_same s15)) (tb1.same s15), .inr rfl, fun _ _ _ z => absurd rfl z⟩
    have n4 : firstN hs.length (fun k => Wr (bareSt (bs.map toBR)) hs.length k k) = none := firstN_none fun j hj => Bool.eq_false_iff.mpr fun z => no j (List.mem_range.mpr hj) ((on j hj).mp z)
    unfold lookX
    rw [n1]; dsimp only; rw [n2]; dsimp only; rw [n3]; dsimp only; rw [n4]
  · have il := (List.getElem?_eq_some_iff.mp ex).1
    rw [List.length_range] at il
    rw [List.getElem?_range il] at ex
    obtain rfl : i = x := Option.some.inj ex
    have n4 : firstN hs.length (fun k => Wr (bareSt (bs.map toBR)) hs.length k k) = some i := firstN_at il ((on i il).mpr hw) fun j hj => Bool.eq_false_iff.mpr fun z => low j j hj (List.getElem?_range (by omega)) ((on j (by omega)).mp z)
    exact ⟨_, _, rfl, (fun z => nomatch z), .inl ⟨i, rfl⟩, stop (by unfold lookX; rw [n1]; dsimp only; rw [n2]; dsimp only; rw [n3]; dsimp only; rw [n4]) rfl (e1.trans (ext_same s15)) (tb1.same s15)⟩
end
theorem ints_lay : ∀ l : List Int, PyData.canLayAll0 (l.map PyData.int) = true
  | [] => rfl
  | x :: l => by
    rw [List.map_cons]
    simp only [PyData.canLayAll0, ints_lay l]
    rfl
theorem ints_dep : ∀ l : List Int, PyData.depthAll (l.map PyData.int) = 0
  | [] => rfl
  | x :: l => by
    rw [List.map_cons]
    simp only [PyData.depthAll, ints_dep l]
    rfl
theorem ints_shaped (l : List Int) : SeqAt.shaped (.tuple (l.map PyData.int)) = true := by
  unfold SeqAt.shaped
  simp only [PyData.canLay0, ints_lay, PyData.depth, ints_dep]
  decide
section
variable {P : Program} {w : World} {K : PySem.W.Frag} {mg : Str → Option Value} {base : Heap}
def sp_law_round (K : PySem.W.Frag) : Sp := fun vs H Q _ => ∃ (f : Addr → Prop) (r : Addr) (hs : List HX) (bs : List BX), vs = [.ref r] ∧ RmX f H r hs bs ∧ hs.length ≤ 400 ∧ bs.length ≤ 400 ∧ EndsX hs.length bs ∧
  ∀ (p : Addr) (H' : Hp), H p = none → H' p = some (.lst (((List.range hs.length).filter fun k => Wr (bareSt (bs.map toBR)) hs.length k k).map nV)) → Same H H' → Q (.ref p) H'
theorem ok_law_round {f : Addr} {fd : FuncData} (F : Fun K "_law_round" "_law_round" s_law_round f fd) (T : Top w K mg) : FnOk P w K mg base CX0 1 f fd ["_law_room_here"] (sp_law_round K) := by
  refine F.ok sc_law_round (fun vs H Q E h => ?_) (fun cdv A outer s H vs Q E hr h => ?_)
  · obtain ⟨f, r, hs, bs, rfl, _⟩ := h
    rfl
  obtain ⟨f, r, hs, ds, rfl, hR, lh, lb, en, q⟩ := h
  obtain ⟨ha, ba, hv, bv, er, eh, eb, alh, alb0⟩ := hR.ex
  have alb := belts_of alb0 en
  have ends := ends_of en
  have lb2 : (ds.map toBR).length = ds.length := List.length_map ..
  rw [← lb2] at lb
  have lhv := alh.length
  have lbv := alb.length
  clear lb2 alb0 en hR
  generalize ds.map toBR = bs at q alb ends lb lbv
  refine ⟨_, (pss_cons (ps_set (i := 1) sc_law_round.nd rfl (Or.inr rfl) (pe_callB (call_len_seqK K rfl) (by rfl) T.m_len (by decide +kernel) (pa_cons (pe_ix (ix_tupK K rfl) (pv 0) pe_int (fun _ _ => rfl)) pa_nil)))
      (pss_cons (ps_set (i := 2) sc_law_round.nd rfl (Or.inr rfl) (pe_lc (own := [("_law_k", 3)]) (g := gName 3) (tt := tYes) (by rfl) sc_law_round.nd (pi_range1 (by rfl) T.m_range (pa_cons (pv 1) pa_nil)) (blkOk_by (own := [("_law_k", 3)]) (N := N_law_round) (sc := defScope s_law_round) (by decide +kernel)) (fun _ _ _ _ _ => (pg_name (i := 3) sc_law_round.nd rfl (Or.inl rfl))) (fun _ _ _ _ _ => pts_nil) (fun _ _ _ _ _ => (pe_op op_rep (pe_lst (pa_cons pe_bl pa_nil)) (pv 1)))))
      (pss_cons (ps_for PassesOwn.never rfl (pi_tupK K rfl (pe_ix (ix_tupK K rfl) (pv 0) pe_int (fun _ _ => rfl))) (pg_tupK K rfl rfl (pgs_cons (pg_name (i := 4) sc_law_round.nd rfl (Or.inr rfl)) (pgs_cons (pg_name (i := 5) sc_law_round.nd rfl (Or.inl rfl)) (pgs_cons (pg_name (i := 6) sc_law_round.nd rfl (Or.inl rfl)) pgs_nil))))
        (pss_one (ps_if (pt_cmpR (op_eqDK K rfl hr.units) (pv 6) (pe_tup pa_nil) (nomark _)) (pss_one (ps_asg pe_bl (pg_sub (pe_ix (ix_listK K rfl) (pv 2) (pv 4) (fun _ _ => rfl)) (pv 5) set_list))) pss_nil)))
      (pss_cons (ps_for PassesOwn.never rfl (pi_range1 (by rfl) T.m_range (pa_cons (pv 1) pa_nil)) (pg_name (i := 3) sc_law_round.nd rfl (Or.inr rfl))
        (pss_one (ps_for PassesOwn.never rfl (pi_range1 (by rfl) T.m_range (pa_cons (pv 1) pa_nil)) (pg_name (i := 4) sc_law_round.nd rfl (Or.inr rfl))
        (pss_one (ps_if (pt_val (pe_ix (ix_listK K rfl) (pe_ix (ix_listK K rfl) (pv 2) (pv 4) (fun _ _ => rfl)) (pv 3) (fun _ _ => rfl))) (pss_one (ps_asg (pe_lc (own := [("_law_to", 5)]) (g := gName 5) (tt := tYes) (by rfl) sc_law_round.nd (pi_range1 (by rfl) T.m_range (pa_cons (pv 1) pa_nil)) (blkOk_by (own := [("_law_to", 5)]) (N := N_law_round) (sc := defScope s_law_round) (by decide +kernel)) (fun _ _ _ _ _ => (pg_name (i := 5) sc_law_round.nd rfl (Or.inl rfl))) (fun _ _ _ _ _ => pts_nil) (fun _ _ _ _ _ => (pe_or (pe_ix (ix_listK K rfl) (pe_ix (ix_listK K rfl) (pv 2) (pv 4) (fun _ _ => rfl)) (pv 5) (fun _ _ => rfl)) (pe_one (pe_ix (ix_listK K rfl) (pe_ix (ix_listK K rfl) (pv 2) (pv 3) (fun _ _ => rfl)) (pv 5) (fun _ _ => rfl)))))) (pg_sub (pv 2) (pv 4) set_list))) pss_nil)))))
      (pss_one (ps_ret (pe_lc (own := [("_law_k", 3)]) (g := gName 3) (by rfl) sc_law_round.nd (pi_range1 (by rfl) T.m_range (pa_cons (pv 1) pa_nil)) (blkOk_by (own := [("_law_k", 3)]) (N := N_law_round) (sc := defScope s_law_round) (by decide +kernel)) (fun _ _ _ _ _ => (pg_name (i := 3) sc_law_round.nd rfl (Or.inl rfl))) (fun _ _ _ _ _ => pts_one (pt_val (pe_ix (ix_listK K rfl) (pe_ix (ix_listK K rfl) (pv 2) (pv 3) (fun _ _ => rfl)) (pv 3) (fun _ _ => rfl)))) (fun _ _ _ _ _ => (pv 3))))))))), ?_⟩
  refine ⟨_, rfl, r, _, _, _, rfl, rfl, SqT.of er, atI_nat (j := 0) rfl, ha, _, rfl, .inr (SqT.of eh), ?_⟩
  rw [lhv]
  refine ⟨_, rfl, _, rfl, by omega, by omega, fun D nD => lc_range (lo := 0) (n := hs.length) (fun i H5 => ∃ adr : Nat → Addr, H5 D = some (.lst ((List.range i).map fun x => V.ref (adr x))) ∧ (∀ x, x < i → H5 (adr x) = some (.lst ((List.range hs.length).map fun _ => V.bl false)) ∧ H (adr x) = none ∧ adr x ≠ D) ∧ (∀ x y, x < i → y < i → adr x = adr y → x = y) ∧ Same H H5) ⟨fun _ => D, upd_same, (fun x z => absurd z (Nat.not_lt_zero _)), (fun x y z => absurd z (Nat.not_lt_zero _)), same_new nD⟩ ?_ ?_⟩
  · rintro i H5 hi ⟨adr, hD, hr, inj, s5⟩
    refine ⟨rfl, yes_in ⟨(by show 1 ≤ sizeLine; decide), fun p1 np1 => ?_⟩⟩
    have u1 := same_new (o := .lst [V.bl false]) np1
    refine ⟨_, rfl, p1, _, _, rfl, rfl, upd_same, by omega, by omega, ?_, fun p np => ?_⟩
    · show 1 * (((hs.length : Nat) : Int)).toNat ≤ sizeLine
      have := small1000 (n := hs.length) (by omega)
      rw [Int.toNat_natCast]
      omega
    have u2 := u1.trans (same_new (o := .lst (List.replicate (((hs.length : Nat) : Int)).toNat [V.bl false]).flatten) np)
    have hp : ∀ {H7 : Hp}, H7 p = some (.lst (List.replicate (((hs.length : Nat) : Int)).toNat [V.bl false]).flatten) → H7 p = some (.lst ((List.range hs.length).map fun _ => V.bl false)) := fun h => by
      rw [h, Int.toNat_natCast]
      congr 2
      rw [List.map_const', List.length_range]
      simp
    have pD : p ≠ D := fun z => by rw [z, u1 _ _ hD] at np; cases np
    have np5 : H5 p = none := same_none u1 np
    have pa : ∀ x, x < i → adr x ≠ p := fun x hx z => by rw [← z, (hr x hx).1] at np5; cases np5
    have key : ((List.range i).map fun x => V.ref (adr x)) ++ [V.ref p] = (List.range (i + 1)).map fun x => V.ref (if x = i then p else adr x) := by
      rw [List.range_succ, List.map_append]
      have e1 : (List.range i).map (fun x => V.ref (if x = i then p else adr x)) = (List.range i).map fun x => V.ref (adr x) := List.map_congr_left fun x hx => by
        have := List.mem_range.mp hx
        rw [if_neg (by omega)]
      rw [e1]
      show _ = _ ++ [V.ref (if i = i then p else adr i)]
      rw [if_pos rfl]
    refine ⟨_, u2 _ _ hD, by rw [List.length_map, List.length_range]; exact small1000 (by omega), fun x => if x = i then p else adr x, ?_, fun x hx => ?_, fun x y hx hy e => ?_, Same.own (s5.trans u2) nD⟩
    · rw [upd_same]
      exact congrArg (fun l => some (HO.lst l)) key
    · dsimp only
      by_cases e : x = i
      · rw [if_pos e]
        exact ⟨hp (by rw [upd_ne pD, upd_same]), same_none s5 np5, pD⟩
      · rw [if_neg e]
        obtain ⟨q1, q2, q3⟩ := hr x (by omega)
        exact ⟨by rw [upd_ne q3]; exact u2 _ _ q1, q2, q3⟩
    · by_cases e1 : x = i
      · by_cases e2 : y = i
        · omega
        · simp only [if_pos e1, if_neg e2] at e
          exact absurd e.symm (pa y (by omega))
      · by_cases e2 : y = i
        · simp only [if_neg e1, if_pos e2] at e
          exact absurd e (pa x (by omega))
        · simp only [if_neg e1, if_neg e2] at e
          exact inj x y (by omega) (by omega) e
  rintro H2 ⟨adr, hD, hr, inj, s2⟩
  have m0 : Mx H H2 D hs.length (Wr (bareSt (bs.take 0)) 0) := ⟨adr, hD, hr, inj, s2, nD⟩
  clear hD hr inj adr s2
  have s2 := m0.same0
  refine ⟨_, rfl, r, _, _, _, rfl, rfl, SqT.of (s2 _ _ er), atI_nat (j := 1) rfl, ba, rfl, ⟨_, SqT.of (s2 _ _ eb)⟩, for_tup (K := K) (a := ba) (xs := bv) (fun i σ H5 => ∃ x3 x4 x5 x6 : Option V, σ = [some (.ref r), some (nV hs.length), some (.ref D), x3, x4, x5, x6] ∧ Mx H H5 D hs.length (Wr (bareSt (bs.take i)) 0)) ⟨_, _, _, _, rfl, m0⟩ (fun i σ H5 _ ⟨_, _, _, _, _, m⟩ => SqT.of (m.same0 _ _ eb)) ?_ ?_⟩
  · rintro i x σ H5 hx ⟨x3, x4, x5, x6, rfl, m⟩
    have s5 := m.same0
    obtain ⟨b, eb2, t, g, rfl, e4, e5⟩ := alb.getL hx
    have tk : bs.take (i + 1) = bs.take i ++ [b] := by rw [List.take_add_one, eb2]; rfl
    obtain ⟨n1, n2⟩ := ends b (List.mem_of_getElem? eb2)
    have sh1 := ints_shaped b.th
    refine ⟨t, _, rfl, SqT.of (s5 _ _ e4), rfl, _, _, rfl, _, _, rfl, _, _, rfl, rfl, ?_⟩
    refine ⟨_, rfl, (by show 0 ≤ sizeLine; decide), fun u nu => ?_⟩
    have u1 := same_new (o := .tup ([] : List V)) nu
    have mu := m.same u1
    refine ⟨_, _, .tup (SqT.of (u1 _ _ (s5 _ _ e5))) (dp_ints b.th), .tup (SqT.of upd_same) .nil, sh1, by decide +kernel, _, rfl, ?_⟩
    rw [eqv_nilT]
    have bq : ∀ x, bareSt (bs.take (i + 1)) x = if b.one = x ∧ b.th = [] then bareSt (bs.take i) x ++ [b.to] else bareSt (bs.take i) x := fun x => by rw [tk, bare_snoc]
    refine if_bl (fun c => ?_) (fun c => ?_)
    · have bare : b.th = [] := List.map_eq_nil_iff.mp (of_decide_eq_true c)
      obtain ⟨a, ⟨⟨xs, hD, hxs⟩, hrow⟩, mp⟩ := mu.put (j := b.to) (b := true) n1
      refine ⟨_, rfl, _, rfl, D, _, _, _, rfl, rfl, SqL.of hD, atI_nat hxs, _, rfl, a, _, _, b.to, rfl, rfl, hrow, ?_, _, _, _, _, rfl, ?_⟩
      · rw [List.length_map, List.length_range]
        exact ixN_at n2
      · rw [show Wr (bareSt (bs.take (i + 1))) 0 = fun x y => if x = b.one ∧ y = b.to then true else Wr (bareSt (bs.take i)) 0 x y from ?_]
        · exact mp
        · funext x y
          show decide (y ∈ bareSt (bs.take (i + 1)) x) = if x = b.one ∧ y = b.to then true else decide (y ∈ bareSt (bs.take i) x)
          rw [bq]
          by_cases e1 : b.one = x
          · rw [if_pos ⟨e1, bare⟩]
            by_cases e2 : y = b.to
            · rw [if_pos ⟨e1.symm, e2⟩]
              exact decide_eq_true (List.mem_append.mpr (.inr (by rw [e2]; exact List.mem_singleton.mpr rfl)))
            · rw [if_neg fun z => e2 z.2]
              refine decide_eq_decide.mpr ?_
              rw [List.mem_append, List.mem_singleton]
              exact ⟨fun z => z.resolve_right e2, .inl⟩
          · rw [if_neg fun z => e1 z.1, if_neg fun z => e1 z.1.symm]
    · have bare : b.th ≠ [] := fun z => by rw [z] at c; exact absurd c (by decide)
      refine ⟨_, _, _, _, rfl, ?_⟩
      rw [show Wr (bareSt (bs.take (i + 1))) 0 = Wr (bareSt (bs.take i)) 0 from ?_]
      · exact mu
      · funext x y
        show decide (y ∈ bareSt (bs.take (i + 1)) x) = decide (y ∈ bareSt (bs.take i) x)
        rw [bq, if_neg fun z => bare z.2]
  rintro σ H3 ⟨x3, x4, x5, x6, rfl, m3⟩
  rw [lbv, List.take_length] at m3
  refine ⟨_, rfl, _, rfl, by omega, by omega, for_range (lo := 0) (n := hs.length) (fun k σ H5 => ∃ x3 x4 x5 x6 : Option V, σ = [some (.ref r), some (nV hs.length), some (.ref D), x3, x4, x5, x6] ∧ Mx H H5 D hs.length (Wr (bareSt bs) k)) ⟨_, _, _, _, rfl, m3⟩ ?_ ?_⟩
  · rintro k σ H5 hk ⟨x3, x4, x5, x6, rfl, m5⟩
    rw [Int.zero_add]
    refine ⟨_, rfl, _, rfl, by omega, by omega, for_range (lo := 0) (n := hs.length) (fun i σ H6 => ∃ x4 x5 x6 : Option V, σ = [some (.ref r), some (nV hs.length), some (.ref D), some (nV k), x4, x5, x6] ∧ Mx H H6 D hs.length (fun x y => if x < i then Wr (bareSt bs) (k + 1) x y else Wr (bareSt bs) k x y)) ⟨_, _, _, rfl, ?_⟩ ?_ ?_⟩
    · exact m5
    · rintro i σ H6 hi ⟨x4, x5, x6, rfl, m6⟩
      rw [Int.zero_add]
      obtain ⟨a, xs, hD, hxs, hrow⟩ := m6.get hi
      obtain ⟨ak, xs2, hD2, hxs2, hrowk⟩ := m6.get hk
      rw [hD] at hD2
      cases hD2
      have cur : ∀ y, (fun x y => if x < i then Wr (bareSt bs) (k + 1) x y else Wr (bareSt bs) k x y) i y = Wr (bareSt bs) k i y := fun y => if_neg (Nat.lt_irrefl _)
      have curk : ∀ y, (fun x y => if x < i then Wr (bareSt bs) (k + 1) x y else Wr (bareSt bs) k x y) k y = Wr (bareSt bs) k k y := fun y => by
        show (if k < i then Wr (bareSt bs) (k + 1) k y else Wr (bareSt bs) k k y) = _
        rw [wr_same, ite_self]
      refine ⟨_, rfl, _, rfl, D, _, _, _, rfl, rfl, SqL.of hD, atI_nat hxs, _, rfl, a, _, _, _, rfl, rfl, SqL.of hrow, atI_nat (row_at _ hk), _, rfl, if_bl (fun c => ?_) (fun c => ?_)⟩
      · have c := (cur k).symm.trans c
        refine ⟨_, rfl, _, rfl, by omega, by omega, fun E nE => lc_range (lo := 0) (n := hs.length) (fun j H7 => H7 E = some (.lst ((List.range j).map fun y => V.bl (Wr (bareSt bs) k i y || Wr (bareSt bs) k k y))) ∧ Same H6 H7) ⟨upd_same, same_new nE⟩ ?_ ?_⟩
        · rintro j H7 hj ⟨hE, s7⟩
          rw [Int.zero_add]
          have fin : ∀ b : Bool, b = (Wr (bareSt bs) k i j || Wr (bareSt bs) k k j) → ∃ acc, H7 E = some (.lst acc) ∧ acc.length < sizeLine ∧ (upd H7 E (.lst (acc ++ [V.bl b]))) E = some (.lst ((List.range (j + 1)).map fun y => V.bl (Wr (bareSt bs) k i y || Wr (bareSt bs) k k y))) ∧ Same H6 (upd H7 E (.lst (acc ++ [V.bl b]))) := fun b e => by
            refine ⟨_, hE, by rw [List.length_map, List.length_range]; exact small1000 (by omega), ?_, Same.own s7 nE⟩
            rw [upd_same, List.range_succ, List.map_append, e]
            rfl
          refine ⟨rfl, yes_in ⟨_, rfl, _, rfl, D, _, _, _, rfl, rfl, SqL.of (s7 _ _ hD), atI_nat hxs, _, rfl, a, _, _, _, rfl, rfl, SqL.of (s7 _ _ hrow), atI_nat (row_at _ hj), _, rfl, if_bl (fun z => ?_) (fun z => ?_)⟩⟩
          · have z := (cur j).symm.trans z
            exact fin true (by rw [z]; rfl)
          · have z := (cur j).symm.trans z
            refine ⟨_, rfl, _, rfl, D, _, _, _, rfl, rfl, SqL.of (s7 _ _ hD), atI_nat hxs2, _, rfl, ak, _, _, _, rfl, rfl, SqL.of (s7 _ _ hrowk), atI_nat (row_at _ hj), ?_⟩
            exact fin _ ((curk j).trans (by rw [z]; rfl))
        · rintro H7 ⟨hE, s7⟩
          refine ⟨_, rfl, _, rfl, D, xs, _, i, rfl, rfl, s7 _ _ hD, ?_, _, _, _, rfl, ?_⟩
          · exact ixN_at (List.getElem?_eq_some_iff.mp hxs).1
          · rw [show (fun x y => if x < i + 1 then Wr (bareSt bs) (k + 1) x y else Wr (bareSt bs) k x y) = fun x y => if x = i then (Wr (bareSt bs) k i y || Wr (bareSt bs) k k y) else (if x < i then Wr (bareSt bs) (k + 1) x y else Wr (bareSt bs) k x y) from ?_]
            · exact m6.row hi s7 nE hE (s7 _ _ hD)
            · funext x y
              by_cases e : x = i
              · subst e
                rw [if_pos rfl, if_pos (Nat.lt_succ_self _)]
                show (Wr (bareSt bs) k x y || (Wr (bareSt bs) k x k && Wr (bareSt bs) k k y)) = _
                rw [c, Bool.true_and]
              · rw [if_neg e]
                by_cases l : x < i
                · rw [if_pos l, if_pos (by omega)]
                · rw [if_neg l, if_neg (by omega)]
      · have c := (cur k).symm.trans c
        refine ⟨_, _, _, rfl, ?_⟩
        rw [show (fun x y => if x < i + 1 then Wr (bareSt bs) (k + 1) x y else Wr (bareSt bs) k x y) = fun x y => if x < i then Wr (bareSt bs) (k + 1) x y else Wr (bareSt bs) k x y from ?_]
        · exact m6
        · funext x y
          by_cases e : x = i
          · subst e
            rw [if_pos (Nat.lt_succ_self _), if_neg (Nat.lt_irrefl _)]
            show (Wr (bareSt bs) k x y || (Wr (bareSt bs) k x k && Wr (bareSt bs) k k y)) = _
            rw [c, Bool.false_and, Bool.or_false]
          · by_cases l : x < i
            · rw [if_pos l, if_pos (by omega)]
            · rw [if_neg l, if_neg (by omega)]
    · rintro σ H6 ⟨x4, x5, x6, rfl, m6⟩
      refine ⟨_, _, _, _, rfl, ?_⟩
      obtain ⟨adr, hD, hr, inj, s0, nD0⟩ := m6.ex
      refine ⟨adr, hD, fun x hx => ⟨?_, (hr x hx).2⟩, inj, s0, nD0⟩
      rw [(hr x hx).1]
      congr 2
      exact List.map_congr_left fun y _ => by rw [if_pos hx]
  rintro σ H5 ⟨x3, x4, x5, x6, rfl, m5⟩
  refine ⟨_, rfl, _, rfl, by omega, by omega, fun E nE => lc_range (lo := 0) (n := hs.length) (fun i H6 => H6 E = some (.lst (((List.range i).filter fun k => Wr (bareSt bs) hs.length k k).map nV)) ∧ Same H5 H6) ⟨upd_same, same_new nE⟩ ?_ ?_⟩
  · rintro i H6 hi ⟨hE, s6⟩
    rw [Int.zero_add]
    obtain ⟨a, xs, hD, hxs, hrow⟩ := m5.get hi
    have few := filt_len (p := fun k => Wr (bareSt bs) hs.length k k) i
    refine ⟨rfl, _, rfl, _, rfl, D, _, _, _, rfl, rfl, SqL.of (s6 _ _ hD), atI_nat hxs, _, rfl, a, _, _, _, rfl, rfl, SqL.of (s6 _ _ hrow), atI_nat (row_at _ hi), _, rfl, if_bl (fun c => ?_) (fun c => ?_)⟩
    · refine ⟨_, rfl, _, hE, by rw [List.length_map]; exact small1000 (by omega), ?_, Same.own s6 nE⟩
      rw [upd_same, filt_succ, if_pos c, List.map_append]
      rfl
    · refine ⟨?_, s6⟩
      rw [filt_succ, if_neg (by rw [c]; exact Bool.false_ne_true), List.append_nil]
      exact hE
  · rintro H6 ⟨hE, s6⟩
    exact q E _ (same_none m5.same0 nE) hE (m5.same0.trans s6)
end
/-! ### what the law finds itself -/
theorem nats_neat : ∀ l : List Nat, (∀ x ∈ l, x < 1000) → ∃ n, NeatAll (l.map fun n => PyData.int ((n : Nat) : Int)) 0 n
  | [], _ => ⟨_, .nil⟩
  | x :: l, h => by
    obtain ⟨n, e⟩ := nats_neat l fun y hy => h y (List.mem_cons_of_mem _ hy)
    have := h x (List.mem_cons_self ..)
    exact ⟨_, .cons (Neat.int (by omega)) e⟩
theorem nats_shaped (l : List Nat) (h : ∀ x ∈ l, x < 1000) : SeqAt.shaped (.list (l.map fun n => PyData.int ((n : Nat) : Int))) = true := by
  obtain ⟨n, e⟩ := nats_neat l h
  have z := Neat.lst e
  unfold SeqAt.shaped
  rw [z.lay, Bool.true_and]
  have := z.dep
  exact decide_eq_true (by omega)
theorem filt_lt {n : Nat} {p : Nat → Bool} (h : n ≤ 999) : ∀ x ∈ (List.range n).filter p, x < 1000 := fun x hx => by
  have := List.mem_range.mp (List.mem_filter.mp hx).1
  omega
theorem eqv_nilL (l : List PyData) : PyData.eqv (.list l) (.list []) = decide (l = []) := by
  cases l with
  | nil => rfl
  | cons a l => rfl
theorem wt_all_len : ∀ ds : List PyData, ds.length ≤ PyData.weightAll ds
  | [] => Nat.zero_le _
  | d :: ds => by
    have := wt_all_len ds
    simp only [PyData.weightAll, List.length_cons]
    omega
theorem wt_mem : ∀ {ds : List PyData} {d : PyData}, d ∈ ds → d.weight ≤ PyData.weightAll ds
  | x :: ds, d, h => by
    simp only [PyData.weightAll]
    rcases List.mem_cons.mp h with rfl | h
    · omega
    · have := wt_mem h
      omega
theorem wt_tup {ds : List PyData} : (PyData.tuple ds).weight = PyData.weightAll ds := by simp only [PyData.weight]
theorem wt_app : ∀ l m : List PyData, PyData.weightAll (l ++ m) = PyData.weightAll l + PyData.weightAll m
  | [], m => by simp only [List.nil_append, PyData.weightAll]; omega
  | x :: l, m => by
    rw [List.cons_append]
    simp only [PyData.weightAll, wt_app l m]
    omega
def pairsB : PyData → Nat → Bool
  | .tuple ds, k => ds.all fun x => isTupN x k
  | _, _ => false
theorem pairs_not {d : PyData} {k : Nat} (h : ¬ ∃ ds, d = .tuple ds) : pairsB d k = false := by
  cases d <;> first | rfl | exact absurd ⟨_, rfl⟩ h
def sndD : PyData → PyData
  | .tuple [_, b] => b
  | d => d
def numsD : PyData → List PyData
  | .tuple [a, b, .tuple l] => a :: b :: l
  | _ => []
def thrB : PyData → Bool
  | .tuple [_, _, .tuple _] => true
  | _ => false
theorem pair_snd {x : PyData} (h : isTupN x 2 = true) : isPair x = isInt (sndD x) := by
  obtain ⟨a, b, rfl⟩ := tupN_two h
  rfl
theorem triple_nums {x : PyData} (h : thrB x = true) : isTriple x = (numsD x).all isInt := by
  unfold thrB at h
  split at h
  · rfl
  · cases h
theorem triple_thr {x : PyData} (h : thrB x = false) : isTriple x = false := by
  unfold isTriple
  split
  · cases h
  · rfl
theorem nums_len {x : PyData} : (numsD x).length ≤ x.weight := by
  unfold numsD
  split
  · rename_i a b l
    have := wt_all_len l
    rw [wt_tup]
    simp only [PyData.weightAll, PyData.weight, List.length_cons]
    omega
  · exact Nat.zero_le _
theorem nums_all_len : ∀ l : List PyData, (l.flatMap numsD).length ≤ PyData.weightAll l
  | [] => Nat.zero_le _
  | x :: l => by
    have := nums_all_len l
    have := nums_len (x := x)
    rw [List.flatMap_cons, List.length_append]
    simp only [PyData.weightAll]
    omega
theorem ThAll.app {f : Addr → Prop} {H : Hp} : ∀ {vs ws : List V} {ds es : List PyData}, ThAll f H vs ds → ThAll f H ws es → ThAll f H (vs ++ ws) (ds ++ es)
  | _, _, _, _, .nil, h => h
  | _, _, _, _, .cons a t, h => .cons a (ThAll.app t h)
theorem inDoors_word {z : Str} {l : List PyData} (h : isRule (.tuple (.str z :: l)) = true) : inDoors (.tuple (.str z :: l)) = decide (z = "in" ∨ z = "out") := by
  have b : ∀ y : Str, (y == z) = decide (z = y) := fun y => by
    by_cases k : z = y
    · rw [k, decide_eq_true rfl]; exact beq_self_eq_true y
    · rw [decide_eq_false k]; exact beq_eq_false_iff_ne.mpr fun e => k e.symm
  cases l with
  | nil =>
    show ((("in" : Str) == z && true) || ((("out" : Str) == z && true) || false)) = _
    rw [b, b, Bool.and_true, Bool.and_true, Bool.or_false, Bool.decide_or]
  | cons x l =>
    show ((("in" : Str) == z && false) || ((("out" : Str) == z && false) || false)) = _
    rw [Bool.and_false, Bool.and_false]
    symm
    refine decide_eq_false fun e => ?_
    have h : (decide (z ∈ eleven) && (if z = "times" ∨ z = "always" then oneInt (x :: l) else (x :: l).isEmpty)) = true := h
    rw [if_neg (by rcases e with rfl | rfl <;> decide +kernel), Bool.and_eq_true] at h
    cases h.2
section
variable {P : Program} {w : World} {K : PySem.W.Frag} {mg : Str → Option Value} {base : Heap}
def sp_law_is_whole (K : PySem.W.Frag) : Sp := fun vs H Q _ => ∃ (f : Addr → Prop) (v : V) (d : PyData), vs = [v] ∧ Th f H v d ∧ Q (.bl (isInt d)) H
theorem ok_law_is_whole {f : Addr} {fd : FuncData} (F : Fun K "_law_is_whole" "_law_is_whole" s_law_is_whole f fd) (T : Top w K mg) : FnOk P w K mg base CX0 1 f fd ["_law_thing_here"] (sp_law_is_whole K) := by
  refine F.ok sc_law_is_whole (fun vs H Q E h => ?_) (fun cdv A outer s H vs Q E hr h => ?_)
  · obtain ⟨f, v, d, rfl, _⟩ := h
    rfl
  obtain ⟨f, v, d, rfl, th, q⟩ := h
  refine ⟨_, (pss_one (ps_ret (pe_and (pe_callB (call_isiKK K rfl) (by rfl) T.m_isinstance (by decide +kernel) (pa_cons (pv 0) (pa_cons (pe_bltn (v := .ty "int") (by rfl) T.m_int (by decide +kernel) rfl) pa_nil))) (pe_one (pe_not (pe_callB (call_isiKK K rfl) (by rfl) T.m_isinstance (by decide +kernel) (pa_cons (pv 0) (pa_cons (pe_bltn (v := .ty "bool") (by rfl) T.m_bool (by decide +kernel) rfl) pa_nil)))))))), ?_⟩
  refine ⟨_, rfl, _, _, _, _, _, rfl, .ty "int", th.ty, kit_is th "int" (by decide), _, rfl, ?_⟩
  have e : isInt d = (isB (tyN d) "int" && !isB (tyN d) "bool") := by cases d <;> rfl
  cases h1 : isB (tyN d) "int" with
  | false =>
    rw [e, h1] at q
    exact q
  | true =>
    refine ⟨_, rfl, _, _, _, _, _, rfl, .ty "bool", th.ty, kit_is th "bool" (by decide), _, rfl, ?_⟩
    rw [e, h1] at q
    exact q
def sp_law_is_rule (K : PySem.W.Frag) : Sp := fun vs H Q _ => ∃ (f : Addr → Prop) (v : V) (d : PyData), vs = [v] ∧ Th f H v d ∧ ∀ H', Same H H' → Q (.bl (isRule d)) H'
theorem ok_law_is_rule {f : Addr} {fd : FuncData} (F : Fun K "_law_is_rule" "_law_is_rule" s_law_is_rule f fd) (T : Top w K mg) : FnOk P w K mg base CX0 2 f fd ["_law_thing_here"] (sp_law_is_rule K) := by
  obtain ⟨f_law_is_whole, fd_law_is_whole, F_law_is_whole, b_law_is_whole, m_law_is_whole⟩ := T.d_law_is_whole
  have G_law_is_whole := ok_law_is_whole (P := P) (w := w) (base := base) F_law_is_whole T
  refine F.ok sc_law_is_rule (fun vs H Q E h => ?_) (fun cdv A outer s H vs Q E hr h => ?_)
  · obtain ⟨f, v, d, rfl, _⟩ := h
    rfl
  obtain ⟨f, v, d, rfl, th, q⟩ := h
  have q0 := q H (Same.refl _)
  refine ⟨_, (pss_cons (ps_if (PW.pt (pw_or (pt_not (pt_val (pe_callB (call_isiKK K rfl) (by rfl) T.m_isinstance (by decide +kernel) (pa_cons (pv 0) (pa_cons (pe_bltn (v := .ty "tuple") (by rfl) T.m_tuple (by decide +kernel) rfl) pa_nil))))) (pw_or (pt_cmpR op_eq (pe_callB (call_len_seqK K rfl) (by rfl) T.m_len (by decide +kernel) (pa_cons (pv 0) pa_nil)) pe_int (nomark _)) (pw_or1 (pt_not (pt_val (pe_callB (call_isiKK K rfl) (by rfl) T.m_isinstance (by decide +kernel) (pa_cons (pe_ix (ix_tupK K rfl) (pv 0) pe_int (fun _ _ => rfl)) (pa_cons (pe_bltn (v := .ty "str") (by rfl) T.m_str (by decide +kernel) rfl) pa_nil))))))))) (pss_one (ps_ret pe_bl)) pss_nil)
      (pss_cons (ps_if (pt_cmpR (op_in_seqK K rfl) (pe_ix (ix_tupK K rfl) (pv 0) pe_int (fun _ _ => rfl)) (pe_tup (pa_cons pe_str (pa_cons pe_str pa_nil))) (by with_unfolding_all rfl)) (pss_one (ps_ret (pe_and (pe_cmpR op_eq (pe_callB (call_len_seqK K rfl) (by rfl) T.m_len (by decide +kernel) (pa_cons (pv 0) pa_nil)) pe_int (nomark _)) (pe_one (pe_call G_law_is_whole (hr.mono (by decide)) (by rfl) m_law_is_whole F_law_is_whole.kp b_law_is_whole .nil pass0 (pa_cons (pe_ix (ix_tupK K rfl) (pv 0) pe_int (fun _ _ => rfl)) pa_nil)))))) pss_nil)
      (pss_cons (ps_set (i := 1) sc_law_is_rule.nd rfl (Or.inl rfl) (pe_lst (pa_cons pe_str (pa_cons pe_str (pa_cons pe_str (pa_cons pe_str (pa_cons pe_str (pa_cons pe_str (pa_cons pe_str (pa_cons pe_str (pa_cons pe_str pa_nil)))))))))))
      (pss_one (ps_ret (pe_and (pe_cmpR op_eq (pe_callB (call_len_seqK K rfl) (by rfl) T.m_len (by decide +kernel) (pa_cons (pv 0) pa_nil)) pe_int (nomark _)) (pe_one (pe_cmpR (op_in_seqK K rfl) (pe_ix (ix_tupK K rfl) (pv 0) pe_int (fun _ _ => rfl)) (pv 1) (by with_unfolding_all rfl))))))))), ?_⟩
  refine ⟨_, rfl, _, _, _, _, _, rfl, .ty "tuple", th.ty, kit_is th "tuple" (by decide), _, rfl, ?_⟩
  by_cases ht : ¬ ∃ ds, d = .tuple ds
  · have e : isRule d = false := by cases d <;> first | rfl | exact absurd ⟨_, rfl⟩ ht
    rw [e] at q0
    rw [not_tup ht]
    exact if_bl (fun _ => q0) (fun y => nomatch y)
  obtain ⟨ds, rfl⟩ := Classical.not_not.mp ht
  refine if_bl (fun z => nomatch (show (!true) = true from z)) (fun _ => ?_)
  cases th with
  | @tup a xs _ ha na al =>
  refine ⟨_, rfl, a, _, rfl, .inr (SqT.of ha), rfl, _, rfl, ?_⟩
  cases al with
  | nil => exact q0
  | @cons x xr d1 dr h1 hr1 =>
  refine if_bl (fun z => ?_) (fun _ => ?_)
  · have z := of_decide_eq_true z
    have z := V.int.inj z
    rw [List.length_cons] at z
    omega
  refine ⟨_, rfl, a, _, _, _, rfl, rfl, SqT.of ha, atI_nat (j := 0) rfl, ?_⟩
  refine ⟨_, _, _, _, _, rfl, .ty "str", h1.ty, kit_is h1 "str" (by decide), _, rfl, ?_⟩
  by_cases hs : ¬ ∃ z, d1 = .str z
  · have e1 : isB (tyN d1) "str" = false := by cases d1 <;> first | rfl | exact absurd ⟨_, rfl⟩ hs
    have e2 : isRule (.tuple (d1 :: dr)) = false := by cases d1 <;> first | rfl | exact absurd ⟨_, rfl⟩ hs
    rw [e2] at q0
    rw [e1]
    exact if_bl (fun _ => q0) (fun y => nomatch y)
  obtain ⟨z, rfl⟩ := Classical.not_not.mp hs
  cases h1
  refine if_bl (fun y => nomatch (show (!true) = true from y)) (fun _ => ?_)
  refine ⟨_, rfl, a, _, _, _, rfl, rfl, SqT.of ha, atI_nat (j := 0) rfl, (by show 2 ≤ sizeLine; decide), fun p np => ?_⟩
  have u1 := same_new (o := .tup [V.str "times", V.str "always"]) np
  refine ⟨p, _, rfl, .inr (SqT.of upd_same), rfl, rfl, _, rfl, if_in (zs := ["times", "always"]) (fun e => ?_) (fun e => ?_)⟩
  · have e2 : z = "times" ∨ z = "always" := by simpa using e
    have ez : z ∈ eleven := by rcases e2 with rfl | rfl <;> decide +kernel
    have qe : isRule (.tuple (.str z :: dr)) = oneInt dr := by
      show (decide (z ∈ eleven) && (if z = "times" ∨ z = "always" then oneInt dr else dr.isEmpty)) = _
      rw [decide_eq_true ez, if_pos e2, Bool.true_and]
    have q1 := q _ u1
    rw [qe] at q1
    refine ⟨_, rfl, a, _, rfl, .inr (SqT.of (u1 _ _ ha)), rfl, _, rfl, ?_⟩
    cases hr1 with
    | nil => exact q1
    | @cons x2 xr2 d2 dr2 h2 hr2 =>
      cases hr2 with
      | nil =>
        exact ⟨_, rfl, a, _, _, _, rfl, rfl, SqT.of (u1 _ _ ha), atI_nat (j := 1) rfl, f, _, _, rfl, h2.same u1, q1⟩
      | @cons x3 xr3 d3 dr3 h3 hr3 =>
        rw [decide_eq_false (show ¬ V.int (((V.str z :: x2 :: x3 :: xr3).length : Nat) : Int) = V.int 2 from fun y => by
          have y := V.int.inj y
          simp only [List.length_cons] at y
          omega)]
        exact q1
  · have e2 : ¬ (z = "times" ∨ z = "always") := by simpa using e
    have qe : isRule (.tuple (.str z :: dr)) = (decide (z ∈ eleven) && dr.isEmpty) := by
      show (decide (z ∈ eleven) && (if z = "times" ∨ z = "always" then oneInt dr else dr.isEmpty)) = _
      rw [if_neg e2]
    refine ⟨(by show 9 ≤ sizeLine; decide), fun p2 np2 => ?_⟩
    have u2 := u1.trans (same_new (o := .lst [V.str "same", V.str "sum", V.str "gap", V.str "below", V.str "most", V.str "least", V.str "pick", V.str "in", V.str "out"]) np2)
    have q1 := q _ u2
    rw [qe] at q1
    refine ⟨_, rfl, a, _, rfl, .inr (SqT.of (u2 _ _ ha)), rfl, _, rfl, ?_⟩
    cases hr1 with
    | nil =>
      refine ⟨_, rfl, a, _, _, _, rfl, rfl, SqT.of (u2 _ _ ha), atI_nat (j := 0) rfl, _, rfl, p2, _, rfl, .inl (SqL.of upd_same), rfl, rfl, ?_⟩
      have e9 : inV (.str z) ((["same", "sum", "gap", "below", "most", "least", "pick", "in", "out"] : List Str).map V.str) = decide (z ∈ eleven) := by
        have iff : z ∈ eleven ↔ z ∈ (["same", "sum", "gap", "below", "most", "least", "pick", "in", "out"] : List Str) := by
          unfold eleven
          simp only [List.mem_cons, List.not_mem_nil, or_false]
          rw [not_or] at e2
          simp only [e2.1, e2.2, false_or]
        by_cases k : z ∈ eleven
        · rw [decide_eq_true k]; exact inV_strs.mpr (iff.mp k)
        · rw [decide_eq_false k]
          refine Bool.eq_false_iff.mpr fun y => k (iff.mpr (inV_strs.mp y))
      have q1 : Q (.bl (decide (z ∈ eleven) && true)) _ := q1
      rw [Bool.and_true, ← e9] at q1
      exact q1
    | @cons x2 xr2 d2 dr2 h2 hr2 =>
      rw [decide_eq_false (show ¬ V.int (((V.str z :: x2 :: xr2).length : Nat) : Int) = V.int 1 from fun y => by
        have y := V.int.inj y
        simp only [List.length_cons] at y
        omega)]
      have q1 : Q (.bl (decide (z ∈ eleven) && false)) _ := q1
      rw [Bool.and_false] at q1
      exact q1
def sp_law_pairs (K : PySem.W.Frag) : Sp := fun vs H Q _ => ∃ (f : Addr → Prop) (v : V) (d : PyData) (k : Nat), vs = [v, nV k] ∧ Th f H v d ∧ d.weight ≤ 1000000 ∧ ∀ H', Same H H' → Q (.bl (pairsB d k)) H'
theorem ok_law_pairs {f : Addr} {fd : FuncData} (F : Fun K "_law_pairs" "_law_pairs" s_law_pairs f fd) (T : Top w K mg) : FnOk P w K mg base CX0 1 f fd ["_law_things", "_law_many"] (sp_law_pairs K) := by
  refine F.ok sc_law_pairs (fun vs H Q E h => ?_) (fun cdv A outer s H vs Q E hr h => ?_)
  · obtain ⟨f, v, d, k, rfl, _⟩ := h
    rfl
  obtain ⟨f, v, d, k, rfl, th, wt, q⟩ := h
  have q0 := q H (Same.refl _)
  refine ⟨_, (pss_one (ps_ret (pe_and (pe_callB (call_isiKK K rfl) (by rfl) T.m_isinstance (by decide +kernel) (pa_cons (pv 0) (pa_cons (pe_bltn (v := .ty "tuple") (by rfl) T.m_tuple (by decide +kernel) rfl) pa_nil))) (pe_one (pe_callB (cr_allK K rfl rfl) (by rfl) T.m_all (by decide +kernel) (pa_cons (pe_lc (own := [("_law_one", 2)]) (g := gName 2) (tt := tYes) (by rfl) sc_law_pairs.nd (pi_tupK K rfl (pv 0)) (blkOk_by (own := [("_law_one", 2)]) (N := N_law_pairs) (sc := defScope s_law_pairs) (by decide +kernel)) (fun _ _ _ _ _ => (pg_name (i := 2) sc_law_pairs.nd rfl (Or.inl rfl))) (fun _ _ _ _ _ => pts_nil) (fun _ _ _ _ _ => (pe_and (pe_callB (call_isiKK K rfl) (by rfl) T.m_isinstance (by decide +kernel) (pa_cons (pv 2) (pa_cons (pe_bltn (v := .ty "tuple") (by rfl) T.m_tuple (by decide +kernel) rfl) pa_nil))) (pe_one (pe_cmpR op_eq (pe_callB (call_len_seqK K rfl) (by rfl) T.m_len (by decide +kernel) (pa_cons (pv 2) pa_nil)) (pv 1) (nomark _)))))) pa_nil)))))), ?_⟩
  refine ⟨_, rfl, _, _, _, _, _, rfl, .ty "tuple", th.ty, kit_is th "tuple" (by decide), _, rfl, ?_⟩
  by_cases ht : ¬ ∃ ds, d = .tuple ds
  · rw [pairs_not ht] at q0
    rw [not_tup ht]
    exact q0
  obtain ⟨ds, rfl⟩ := Classical.not_not.mp ht
  cases th with
  | @tup a xs _ ha na al =>
  have ll := al.length
  have wl := wt_all_len ds
  rw [wt_tup] at wt
  refine if_bl (fun _ => ?_) (fun z => nomatch z)
  refine ⟨_, rfl, a, rfl, ⟨_, SqT.of ha⟩, fun D nD => lc_tup (K := K) (a := a) (xs := xs) (fun i H5 => H5 D = some (.lst (((ds.take i).map fun x => isTupN x k).map V.bl)) ∧ Same H H5) ⟨upd_same, same_new nD⟩ (fun i H5 _ ⟨_, s5⟩ => SqT.of (s5 _ _ ha)) ?_ ?_⟩
  · rintro i x H5 hx ⟨hD, s5⟩
    obtain ⟨d1, ed, h1⟩ := al.get hx
    have il := (List.getElem?_eq_some_iff.mp ed).1
    have h5 := h1.same s5
    have fin : ∀ b : Bool, b = isTupN d1 k → ∃ acc, H5 D = some (.lst acc) ∧ acc.length < sizeLine ∧ (upd H5 D (.lst (acc ++ [V.bl b]))) D = some (.lst (((ds.take (i + 1)).map fun x => isTupN x k).map V.bl)) ∧ Same H (upd H5 D (.lst (acc ++ [V.bl b]))) := fun b e => by
      refine ⟨_, hD, ?_, ?_, Same.own s5 nD⟩
      · rw [List.length_map, List.length_map, List.length_take]
        show _ < 16777216
        omega
      · rw [upd_same, List.take_add_one, ed, List.map_append, List.map_append, e]
        rfl
    refine ⟨rfl, yes_in ⟨_, rfl, _, _, _, _, _, rfl, .ty "tuple", h5.ty, kit_is h5 "tuple" (by decide), _, rfl, ?_⟩⟩
    by_cases ht : ¬ ∃ es, d1 = .tuple es
    · rw [not_tup ht]
      exact fin false (tupN_not ht).symm
    obtain ⟨es, rfl⟩ := Classical.not_not.mp ht
    cases h5 with
    | @tup b ys _ hb nb bl =>
    refine if_bl (fun _ => ?_) (fun z => nomatch z)
    refine ⟨_, rfl, b, _, rfl, .inr (SqT.of hb), _, rfl, rfl, ?_⟩
    refine fin _ ?_
    show _ = decide (es.length = k)
    rw [bl.length]
    by_cases z : es.length = k
    · rw [z, decide_eq_true rfl, decide_eq_true rfl]
    · rw [decide_eq_false z, decide_eq_false fun y => z (by have := V.int.inj y; omega)]
  · rintro H5 ⟨hD, s5⟩
    rw [ll, List.take_length] at hD
    refine ⟨D, _, rfl, SqL.of hD, ?_⟩
    have q5 := q _ s5
    have e : (ds.map fun x => isTupN x k).all id = pairsB (.tuple ds) k := by
      show _ = ds.all fun x => isTupN x k
      rw [List.all_map]
      rfl
    rw [e]
    exact q5
end
section
variable {P : Program} {w : World} {K : PySem.W.Frag} {mg : Str → Option Value} {base : Heap}
theorem pairsB_tup {d : PyData} {k : Nat} (h : pairsB d k = true) : ∃ l, d = .tuple l ∧ ∀ x ∈ l, isTupN x k = true := by
  cases d with
  | tuple ds => exact ⟨ds, rfl, List.all_eq_true.mp h⟩
  | _ => cases h
theorem form_pairs {a b : PyData} (h : pairsB a 2 = false ∨ pairsB b 3 = false) : formB (.tuple [a, b]) = false := by
  by_cases c : (∃ l, a = .tuple l) ∧ ∃ m, b = .tuple m
  · obtain ⟨⟨l, rfl⟩, m, rfl⟩ := c
    show (l.all isPair && m.all isTriple) = false
    rw [Bool.and_eq_false_iff]
    rcases h with h | h
    · left
      refine Bool.eq_false_iff.mpr fun z => ?_
      have : pairsB (.tuple l) 2 = true := List.all_eq_true.mpr fun x hx => by
        cases hh : isTupN x 2 with
        | true => rfl
        | false =>
          have := List.all_eq_true.mp z x hx
          rw [pair_no hh] at this
          cases this
      rw [h] at this
      cases this
    · right
      refine Bool.eq_false_iff.mpr fun z => ?_
      have : pairsB (.tuple m) 3 = true := List.all_eq_true.mpr fun x hx => by
        cases hh : isTupN x 3 with
        | true => rfl
        | false =>
          have := List.all_eq_true.mp z x hx
          rw [triple_no hh] at this
          cases this
      rw [h] at this
      cases this
  · exact form_no2 c
theorem form_nums {l m : List PyData} (h1 : ∀ x ∈ l, isTupN x 2 = true) (h2 : ∀ x ∈ m, thrB x = true) : formB (.tuple [.tuple l, .tuple m]) = (l.map sndD ++ m.flatMap numsD).all isInt := by
  show (l.all isPair && m.all isTriple) = _
  rw [List.all_append]
  congr 1
  · induction l with
    | nil => rfl
    | cons x l ih => rw [List.all_cons, List.map_cons, List.all_cons, ih fun y hy => h1 y (List.mem_cons_of_mem _ hy), pair_snd (h1 x (List.mem_cons_self ..))]
  · induction m with
    | nil => rfl
    | cons x l ih => rw [List.all_cons, List.flatMap_cons, List.all_append, ih fun y hy => h2 y (List.mem_cons_of_mem _ hy), triple_nums (h2 x (List.mem_cons_self ..))]
def sp_law_formed (K : PySem.W.Frag) : Sp := fun vs H Q _ => ∃ (f : Addr → Prop) (v : V) (d : PyData), vs = [v] ∧ Th f H v d ∧ d.weight ≤ 1000000 ∧ ∀ H', Same H H' → Q (.bl (formB d)) H'
theorem ok_law_formed {f : Addr} {fd : FuncData} (F : Fun K "_law_formed" "_law_formed" s_law_formed f fd) (T : Top w K mg) : FnOk P w K mg base CX0 2 f fd ["_law_room_here"] (sp_law_formed K) := by
  obtain ⟨f_law_pairs, fd_law_pairs, F_law_pairs, b_law_pairs, m_law_pairs⟩ := T.d_law_pairs
  have G_law_pairs := ok_law_pairs (P := P) (w := w) (base := base) F_law_pairs T
  obtain ⟨f_law_is_whole, fd_law_is_whole, F_law_is_whole, b_law_is_whole, m_law_is_whole⟩ := T.d_law_is_whole
  have G_law_is_whole := ok_law_is_whole (P := P) (w := w) (base := base) F_law_is_whole T
  refine F.ok sc_law_formed (fun vs H Q E h => ?_) (fun cdv A outer s H vs Q E hr h => ?_)
  · obtain ⟨f, v, d, rfl, _⟩ := h
    rfl
  obtain ⟨f, v, d, rfl, th, wt, q⟩ := h
  have q0 := q H (Same.refl _)
  refine ⟨_, (pss_cons (ps_if (PW.pt (pw_or (pt_not (pt_val (pe_callB (call_isiKK K rfl) (by rfl) T.m_isinstance (by decide +kernel) (pa_cons (pv 0) (pa_cons (pe_bltn (v := .ty "tuple") (by rfl) T.m_tuple (by decide +kernel) rfl) pa_nil))))) (pw_or1 (pt_cmpR op_ne (pe_callB (call_len_seqK K rfl) (by rfl) T.m_len (by decide +kernel) (pa_cons (pv 0) pa_nil)) pe_int (nomark _))))) (pss_one (ps_ret pe_bl)) pss_nil)
      (pss_cons (ps_if (PW.pt (pw_or (pt_not (pt_val (pe_call G_law_pairs (hr.mono (by decide)) (by rfl) m_law_pairs F_law_pairs.kp b_law_pairs .nil pass0 (pa_cons (pe_ix (ix_tupK K rfl) (pv 0) pe_int (fun _ _ => rfl)) (pa_cons pe_int pa_nil))))) (pw_or1 (pt_not (pt_val (pe_call G_law_pairs (hr.mono (by decide)) (by rfl) m_law_pairs F_law_pairs.kp b_law_pairs .nil pass0 (pa_cons (pe_ix (ix_tupK K rfl) (pv 0) pe_int (fun _ _ => rfl)) (pa_cons pe_int pa_nil)))))))) (pss_one (ps_ret pe_bl)) pss_nil)
      (pss_cons (ps_setLc (i := 1) (own := [("_law_hand", 2)]) (g := gName 2) (tt := tYes) (by rfl) sc_law_formed.nd rfl rfl (sw_true rfl rfl rfl (by decide +kernel)) (pi_tupK K rfl (pe_ix (ix_tupK K rfl) (pv 0) pe_int (fun _ _ => rfl))) (blkOk_by (own := [("_law_hand", 2)]) (N := N_law_formed) (sc := defScope s_law_formed) (by decide +kernel)) (fun _ _ _ _ _ => (pg_name (i := 2) sc_law_formed.nd rfl (Or.inl rfl))) (fun _ _ _ _ _ => pts_nil) (fun _ _ _ _ _ => (pe_ix (ix_tupK K rfl) (pv 2) pe_int (fun _ _ => rfl))))
      (pss_cons (ps_for PassesOwn.never rfl (pi_tupK K rfl (pe_ix (ix_tupK K rfl) (pv 0) pe_int (fun _ _ => rfl))) (pg_tupK K rfl rfl (pgs_cons (pg_name (i := 3) sc_law_formed.nd rfl (Or.inl rfl)) (pgs_cons (pg_name (i := 4) sc_law_formed.nd rfl (Or.inl rfl)) (pgs_cons (pg_name (i := 5) sc_law_formed.nd rfl (Or.inl rfl)) pgs_nil))))
        (pss_cons (ps_if (pt_not (pt_val (pe_callB (call_isiKK K rfl) (by rfl) T.m_isinstance (by decide +kernel) (pa_cons (pv 5) (pa_cons (pe_bltn (v := .ty "tuple") (by rfl) T.m_tuple (by decide +kernel) rfl) pa_nil))))) (pss_one (ps_ret pe_bl)) pss_nil)
      (pss_one (ps_set (i := 1) sc_law_formed.nd rfl (Or.inl rfl) (pe_op op_cat (pe_op op_cat (pv 1) (pe_lst (pa_cons (pv 3) (pa_cons (pv 4) pa_nil)))) (pe_callTy (call_list_ofK K rfl) (by rfl) T.m_list (by decide +kernel) (pa_cons (pv 5) pa_nil)))))))
      (pss_one (ps_ret (pe_callB (cr_allK K rfl rfl) (by rfl) T.m_all (by decide +kernel) (pa_cons (pe_lc (own := [("_law_number", 6)]) (g := gName 6) (tt := tYes) (by rfl) sc_law_formed.nd (pi_listK K rfl (pv 1)) (blkOk_by (own := [("_law_number", 6)]) (N := N_law_formed) (sc := defScope s_law_formed) (by decide +kernel)) (fun _ _ _ _ _ => (pg_name (i := 6) sc_law_formed.nd rfl (Or.inl rfl))) (fun _ _ _ _ _ => pts_nil) (fun _ _ _ _ _ => (pe_call G_law_is_whole (hr.mono (by decide)) (by rfl) m_law_is_whole F_law_is_whole.kp b_law_is_whole .nil pass0 (pa_cons (pv 6) pa_nil)))) pa_nil)))))))), ?_⟩
  refine ⟨_, rfl, _, _, _, _, _, rfl, .ty "tuple", th.ty, kit_is th "tuple" (by decide), _, rfl, ?_⟩
  by_cases ht : ¬ ∃ ds, d = .tuple ds
  · rw [form_no (tupN_not ht)] at q0
    rw [not_tup ht]
    exact if_bl (fun _ => q0) (fun z => nomatch z)
  obtain ⟨ds, rfl⟩ := Classical.not_not.mp ht
  refine if_bl (fun z => nomatch z) (fun _ => ?_)
  have th0 := th
  cases th with
  | @tup r xs _ er nr al =>
  have ll := al.length
  refine ⟨_, rfl, r, _, rfl, .inr (SqT.of er), rfl, _, rfl, if_bl (fun z => ?_) (fun z => ?_)⟩
  · have : isTupN (.tuple ds) 2 = false := decide_eq_false fun y => by
      have z : (!decide (V.int ((xs.length : Nat) : Int) = V.int 2)) = true := z
      rw [decide_eq_true (by rw [ll, y]; rfl)] at z
      cases z
    rw [form_no this] at q0
    exact q0
  have z : (!decide (V.int ((xs.length : Nat) : Int) = V.int 2)) = false := z
  have l2 : ds.length = 2 := by
    refine Classical.byContradiction fun y => ?_
    rw [decide_eq_false (fun x => y (by have := V.int.inj x; omega))] at z
    cases z
  obtain ⟨a, b, e⟩ := tupN_two (d := .tuple ds) (decide_eq_true l2)
  obtain rfl : ds = [a, b] := PyData.tuple.inj e
  have wab : a.weight + b.weight ≤ 1000000 := by
    rw [wt_tup] at wt
    simp only [PyData.weightAll] at wt
    omega
  cases al with
  | @cons va _ _ _ h1 al =>
  cases al with
  | @cons vb _ _ _ h2 al =>
  cases al
  refine ⟨_, rfl, r, _, _, _, rfl, rfl, SqT.of er, atI_nat (j := 0) rfl, f, va, a, 2, rfl, h1, by omega, fun H1 s1 => ⟨_, rfl, ?_⟩⟩
  cases pa : pairsB a 2 with
  | false =>
    have q1 := q _ s1
    rw [form_pairs (.inl pa)] at q1
    exact if_bl (fun _ => q1) (fun z => nomatch z)
  | true =>
  refine if_bl (fun z => nomatch z) (fun _ => ?_)
  refine ⟨_, rfl, r, _, _, _, rfl, rfl, SqT.of (s1 _ _ er), atI_nat (j := 1) rfl, f, vb, b, 3, rfl, h2.same s1, by omega, fun H2 s2 => ⟨_, rfl, ?_⟩⟩
  have s12 := s1.trans s2
  cases pb : pairsB b 3 with
  | false =>
    have q1 := q _ s12
    rw [form_pairs (.inr pb)] at q1
    exact if_bl (fun _ => q1) (fun z => nomatch z)
  | true =>
  refine if_bl (fun z => nomatch z) (fun _ => ?_)
  obtain ⟨l, rfl, hl⟩ := pairsB_tup pa
  obtain ⟨m, rfl, hm⟩ := pairsB_tup pb
  rw [wt_tup, wt_tup] at wab
  have wl := wt_all_len l
  have th2 := th0.same s12
  cases h1 with
  | @tup ha hv _ eh nh alh =>
  cases h2 with
  | @tup ba bv _ eb nb alb =>
  have lhv := alh.length
  have lbv := alb.length
  refine ⟨_, rfl, r, _, _, _, rfl, rfl, SqT.of (s12 _ _ er), atI_nat (j := 0) rfl, ha, rfl, ⟨_, SqT.of (s12 _ _ eh)⟩, fun D nD => lc_tup (K := K) (a := ha) (xs := hv) (fun i H5 => ∃ nv : List V, H5 D = some (.lst nv) ∧ ThAll f H nv ((l.take i).map sndD) ∧ Same H2 H5) ⟨[], upd_same, .nil, same_new nD⟩ (fun i H5 _ ⟨_, _, _, s5⟩ => SqT.of (s5 _ _ (s12 _ _ eh))) ?_ ?_⟩
  · rintro i x H5 hx ⟨nv, hD, aln, s5⟩
    have s05 := s12.trans s5
    obtain ⟨d1, ed, hd⟩ := alh.get hx
    have il := (List.getElem?_eq_some_iff.mp ed).1
    obtain ⟨u, w', rfl⟩ := tupN_two (hl d1 (List.mem_of_getElem? ed))
    have lnv := aln.length
    rw [List.length_map, List.length_take] at lnv
    cases hd with
    | @tup t ys _ et nt al2 =>
    cases al2 with
    | cons g1 al2 =>
    cases al2 with
    | @cons y2 _ _ _ g2 al2 =>
    cases al2
    refine ⟨rfl, yes_in ⟨_, rfl, t, _, _, _, rfl, rfl, SqT.of (s05 _ _ et), atI_nat (j := 1) rfl, nv, hD, ?_, nv ++ [y2], upd_same, ?_, Same.own s5 nD⟩⟩
    · show _ < 16777216
      omega
    · rw [List.take_add_one, ed, List.map_append]
      exact aln.app (.cons g2 .nil)
  rintro H3 ⟨nv, hD, aln, s3⟩
  rw [lhv, List.take_length] at aln
  have s03 := s12.trans s3
  refine ⟨_, rfl, r, _, _, _, rfl, rfl, SqT.of (s03 _ _ er), atI_nat (j := 1) rfl, ba, rfl, ⟨_, SqT.of (s03 _ _ eb)⟩, for_tup (K := K) (a := ba) (xs := bv) (fun i σ H5 => ∃ (n : Addr) (nv : List V) (v3 v4 v5 : Option V), σ = [some (.ref r), some (.ref n), none, v3, v4, v5, none] ∧ H5 n = some (.lst nv) ∧ ThAll f H nv (l.map sndD ++ (m.take i).flatMap numsD) ∧ (∀ x ∈ m.take i, thrB x = true) ∧ Same H H5) ⟨D, nv, _, _, _, rfl, hD, by rw [List.take_zero, List.flatMap_nil, List.append_nil]; exact aln, (fun x hx => by rw [List.take_zero] at hx; cases hx), s03⟩ (fun i σ H5 _ ⟨_, _, _, _, _, _, _, _, _, s5⟩ => SqT.of (s5 _ _ eb)) ?_ ?_⟩
  · rintro i x σ H5 hx ⟨n, nv, v3, v4, v5, rfl, hn, aln, thr, s5⟩
    obtain ⟨d1, ed, hd⟩ := alb.get hx
    obtain ⟨da, db, dc, rfl⟩ := tupN_three (hm d1 (List.mem_of_getElem? ed))
    have lnv := aln.length
    rw [List.length_append, List.length_map] at lnv
    have fl := nums_all_len (m.take i)
    have fl2 : PyData.weightAll (m.take i) + PyData.weightAll (m.drop i) = PyData.weightAll m := by rw [← wt_app, List.take_append_drop]
    have fl3 : (PyData.tuple [da, db, dc]).weight ≤ PyData.weightAll (m.drop i) := wt_mem (by obtain ⟨hi, e⟩ := List.getElem?_eq_some_iff.mp ed; rw [List.drop_eq_getElem_cons hi, e]; exact List.mem_cons_self ..)
    cases hd with
    | @tup t ys _ et nt al2 =>
    cases al2 with
    | @cons y1 _ _ _ g1 al2 =>
    cases al2 with
    | @cons y2 _ _ _ g2 al2 =>
    cases al2 with
    | @cons y3 _ _ _ g3 al2 =>
    cases al2
    refine ⟨t, _, rfl, SqT.of (s5 _ _ et), rfl, _, _, rfl, _, _, rfl, _, _, rfl, rfl, ?_⟩
    have g3' := g3.same s5
    refine ⟨_, rfl, _, _, _, _, _, rfl, .ty "tuple", g3'.ty, kit_is g3' "tuple" (by decide), _, rfl, ?_⟩
    by_cases tc : ¬ ∃ es, dc = .tuple es
    · rw [not_tup tc]
      refine if_bl (fun _ => ?_) (fun z => nomatch z)
      have q5 := q _ s5
      have : formB (.tuple [.tuple l, .tuple m]) = false := by
        show (l.all isPair && m.all isTriple) = false
        rw [all_no (l := m) ed (triple_no2 tc), Bool.and_false]
      rw [this] at q5
      exact q5
    obtain ⟨es, rfl⟩ := Classical.not_not.mp tc
    refine if_bl (fun z => nomatch z) (fun _ => ?_)
    cases g3 with
    | @tup g gs _ hg ng bl =>
    have lgs := bl.length
    have les := wt_all_len es
    simp only [PyData.weight, PyData.weightAll] at fl3
    refine ⟨_, rfl, _, rfl, _, rfl, (by show 2 ≤ sizeLine; decide), fun p1 np1 => ?_⟩
    have u1 := same_new (o := .lst [y1, y2]) np1
    refine ⟨n, p1, nv, _, rfl, rfl, u1 _ _ hn, upd_same, (by show nv.length + 2 ≤ 16777216; omega), fun p2 np2 => ?_⟩
    have u2 := u1.trans (same_new (o := .lst (nv ++ [y1, y2])) np2)
    refine ⟨_, rfl, g, _, rfl, .inr (SqT.of (u2 _ _ (s5 _ _ hg))), fun p3 np3 => ?_⟩
    have u3 := same_new (o := .lst gs) np3
    refine ⟨p2, p3, _, _, rfl, rfl, u3 _ _ upd_same, upd_same, (by rw [List.length_append]; show nv.length + 2 + gs.length ≤ 16777216; omega), fun p4 np4 => ?_⟩
    have u4 := (u2.trans u3).trans (same_new (o := .lst (nv ++ [y1, y2] ++ gs)) np4)
    refine ⟨p4, nv ++ [y1, y2] ++ gs, _, _, _, rfl, upd_same, ?_, ?_, s5.trans u4⟩
    · rw [List.take_add_one, ed, List.flatMap_append, ← List.append_assoc, List.append_assoc nv]
      refine aln.app ?_
      show ThAll f H ([y1, y2] ++ gs) ((da :: db :: es) ++ [])
      rw [List.append_nil]
      exact .cons g1 (.cons g2 bl)
    · intro x hx
      rw [List.take_add_one, ed] at hx
      rcases List.mem_append.mp hx with hx | hx
      · exact thr x hx
      · rw [List.mem_singleton.mp hx]; rfl
  · rintro σ H5 ⟨n, nv, v3, v4, v5, rfl, hn, aln, thr, s5⟩
    rw [lbv, List.take_length] at aln thr
    have lnv := aln.length
    rw [List.length_append, List.length_map] at lnv
    have fl := nums_all_len m
    refine ⟨_, rfl, n, rfl, ⟨_, SqL.of hn⟩, fun E nE => lc_list (K := K) (a := n) (xs := nv) (fun i H6 => H6 E = some (.lst ((((l.map sndD ++ m.flatMap numsD).take i).map isInt).map V.bl)) ∧ Same H5 H6) ⟨upd_same, same_new nE⟩ (fun i H6 _ ⟨_, s6⟩ => SqL.of (s6 _ _ hn)) ?_ ?_⟩
    · rintro i x H6 hx ⟨hE, s6⟩
      obtain ⟨d1, ed, hd⟩ := aln.get hx
      have il := (List.getElem?_eq_some_iff.mp ed).1
      rw [List.length_append, List.length_map] at il
      refine ⟨rfl, yes_in ⟨_, rfl, f, x, d1, rfl, (hd.same s5).same s6, _, hE, ?_, ?_, Same.own s6 nE⟩⟩
      · rw [List.length_map, List.length_map, List.length_take]
        show _ < 16777216
        omega
      · rw [upd_same, List.take_add_one, ed, List.map_append, List.map_append]
        rfl
    · rintro H6 ⟨hE, s6⟩
      rw [aln.length, List.take_length] at hE
      refine ⟨E, _, rfl, SqL.of hE, ?_⟩
      have q6 := q _ (s5.trans s6)
      rw [form_nums hl thr] at q6
      have e : ((l.map sndD ++ m.flatMap numsD).map isInt).all id = (l.map sndD ++ m.flatMap numsD).all isInt := by
        rw [List.all_map]
        rfl
      rw [e]
      exact q6
end
theorem head_first {n k : Nat} {p : Nat → Bool} {l : List Nat} (h : (List.range n).filter p = k :: l) : firstN n p = some k := by
  unfold firstN
  rw [← List.head?_filter, h]
  rfl
theorem nil_first {n : Nat} {p : Nat → Bool} (h : (List.range n).filter p = []) : firstN n p = none := by
  unfold firstN
  rw [← List.head?_filter, h]
  rfl
theorem needs_needN {z : Str} (h : z ∈ eleven) : needs z = needN z := by
  unfold eleven at h
  simp only [List.mem_cons, List.not_mem_nil, or_false] at h
  rcases h with h | h | h | h | h | h | h | h | h | h | h <;> rw [h] <;> decide +kernel
section
variable {P : Program} {w : World} {K : PySem.W.Frag} {mg : Str → Option Value} {base : Heap}
def sp_law_due (K : PySem.W.Frag) : Sp := fun vs H Q _ => ∃ (f : Addr → Prop) (v : V) (d : PyData) (o : Option (Str × List Nat)), vs = [v] ∧ Th f H v d ∧ LookIs d o ∧ SmD d ∧ d.weight ≤ 1000000 ∧
  (∀ H', o = none → Same H H' → Q (.str "let by") H') ∧
  ∀ (p t : Addr) (z : Str) (ks : List Nat) (H' : Hp), o = some (z, ks) → H' p = some (.tup [.str z, .ref t]) → H' t = some (.tup (ks.map nV)) → Same H H' → Q (.ref p) H'
theorem ok_law_due {f : Addr} {fd : FuncData} (F : Fun K "_law_due" "_law_due" s_law_due f fd) (T : Top w K mg) : FnOk P w K mg base CX0 3 f fd ["_law_room_here"] (sp_law_due K) := by
  obtain ⟨f_law_round, fd_law_round, F_law_round, b_law_round, m_law_round⟩ := T.d_law_round
  have G_law_round := ok_law_round (P := P) (w := w) (base := base) F_law_round T
  obtain ⟨f_law_formed, fd_law_formed, F_law_formed, b_law_formed, m_law_formed⟩ := T.d_law_formed
  have G_law_formed := ok_law_formed (P := P) (w := w) (base := base) F_law_formed T
  obtain ⟨f_law_needs, fd_law_needs, F_law_needs, b_law_needs, m_law_needs⟩ := T.d_law_needs
  have G_law_needs := ok_law_needs (P := P) (w := w) (base := base) F_law_needs T
  obtain ⟨f_law_is_rule, fd_law_is_rule, F_law_is_rule, b_law_is_rule, m_law_is_rule⟩ := T.d_law_is_rule
  have G_law_is_rule := ok_law_is_rule (P := P) (w := w) (base := base) F_law_is_rule T
  refine F.ok sc_law_due (fun vs H Q E h => ?_) (fun cdv A outer s H vs Q E hr h => ?_)
  · obtain ⟨f, v, d, o, rfl, _⟩ := h
    rfl
  obtain ⟨f, v, d, o, rfl, th, lk, sm, wt, q1, q2⟩ := h
  let R1 : TS := fun D' σ' H' => D'.rt = Q ∧ ∃ (r ha ba : Addr) (hv bv : List V) (hs : List HX) (bs : List BX) (v3 v4 : Option V), σ' = [some (.ref r), some (.ref ha), some (.ref ba), v3, v4, none, none, none] ∧ o = lookX hs bs ∧ RmX f H r hs bs ∧ (H ha = some (.tup hv) ∧ H ba = some (.tup bv) ∧ All2 (HxAt f H) hv hs ∧ All2 (BxAt f H) bv bs) ∧ hs.length ≤ 400 ∧ bs.length ≤ 400 ∧ (∀ h ∈ hs, SeqAt.shaped h.r = true) ∧ firstN hs.length (hB hs) = none ∧ Same H H'
  let R2 : TS := fun D' σ' H' => D'.rt = Q ∧ ∃ (r ha ba : Addr) (hv bv : List V) (hs : List HX) (bs : List BX) (v3 v4 v5 v6 : Option V), σ' = [some (.ref r), some (.ref ha), some (.ref ba), v3, v4, v5, v6, none] ∧ o = lookX hs bs ∧ RmX f H r hs bs ∧ (H ha = some (.tup hv) ∧ H ba = some (.tup bv) ∧ All2 (HxAt f H) hv hs ∧ All2 (BxAt f H) bv bs) ∧ hs.length ≤ 400 ∧ bs.length ≤ 400 ∧ firstN hs.length (hB hs) = none ∧ firstN bs.length (bB hs bs) = none ∧ Same H H'
  let R3 : TS := fun D' σ' H' => D'.rt = Q ∧ ∃ (r ha ba : Addr) (hs : List HX) (bs : List BX) (v3 v4 v5 v6 : Option V), σ' = [some (.ref r), some (.ref ha), some (.ref ba), v3, v4, v5, v6, none] ∧ o = lookX hs bs ∧ RmX f H r hs bs ∧ hs.length ≤ 400 ∧ bs.length ≤ 400 ∧ firstN hs.length (hB hs) = none ∧ firstN bs.length (bB hs bs) = none ∧ firstN hs.length (kB hs bs) = none ∧ Same H H'
  have ret : ∀ {H2 : Hp} {z : Str} {k : Nat}, o = some (z, [k]) → Same H H2 → ∀ t, H2 t = none → ∀ p, (upd H2 t (.tup [nV k])) p = none → Q (.ref p) (upd (upd H2 t (.tup [nV k])) p (.tup [.str z, .ref t])) := fun eo s t nt p np => by
    exact q2 p t _ _ _ eo upd_same (same_new np _ _ upd_same) (s.trans ((same_new nt).trans (same_new np)))
  refine ⟨_, (pss_cons (ps_if (pt_not (pt_val (pe_call G_law_formed (hr.mono (by decide)) (by rfl) m_law_formed F_law_formed.kp b_law_formed .nil pass0 (pa_cons (pv 0) pa_nil)))) (pss_one (ps_ret (pe_tup (pa_cons pe_str (pa_cons (pe_tup pa_nil) pa_nil))))) pss_nil)
      (pss_cons (ps_asg (pv 0) (pg_tupK K rfl rfl (pgs_cons (pg_name (i := 1) sc_law_due.nd rfl (Or.inl rfl)) (pgs_cons (pg_name (i := 2) sc_law_due.nd rfl (Or.inl rfl)) pgs_nil))))
      (pss_cons (ps_for PassesOwn.never rfl (pi_enumT K rfl (by rfl) T.m_enumerate (pa_cons (pv 1) pa_nil)) (pg_tupK K rfl rfl (pgs_cons (pg_name (i := 3) sc_law_due.nd rfl (Or.inr rfl)) (pgs_cons (pg_name (i := 4) sc_law_due.nd rfl (Or.inl rfl)) pgs_nil)))
        (pss_one (ps_if (PW.pt (pw_or (pt_not (pt_val (pe_call G_law_is_rule (hr.mono (by decide)) (by rfl) m_law_is_rule F_law_is_rule.kp b_law_is_rule .nil pass0 (pa_cons (pe_ix (ix_tupK K rfl) (pv 4) pe_int (fun _ _ => rfl)) pa_nil)))) (pw_or (pt_cmpR op_lt (pe_ix (ix_tupK K rfl) (pv 4) pe_int (fun _ _ => rfl)) pe_int (nomark _)) (pw_or1 (PW.pt (pw_and (pt_cmpR (op_in_seqK K rfl) (pe_ix (ix_tupK K rfl) (pe_ix (ix_tupK K rfl) (pv 4) pe_int (fun _ _ => rfl)) pe_int (fun _ _ => rfl)) (pe_tup (pa_cons pe_str (pa_cons pe_str pa_nil))) (by with_unfolding_all rfl)) (pw_and1 (pt_cmpR op_ne (pe_ix (ix_tupK K rfl) (pv 4) pe_int (fun _ _ => rfl)) pe_int (nomark _))))))))) (pss_one (ps_ret (pe_tup (pa_cons pe_str (pa_cons (pe_tup (pa_cons (pv 3) pa_nil)) pa_nil))))) pss_nil)))
      (PSs.to (pss_cons (ps_for PassesOwn.never rfl (pi_enumT K rfl (by rfl) T.m_enumerate (pa_cons (pv 2) pa_nil)) (pg_tupK K rfl rfl (pgs_cons (pg_name (i := 5) sc_law_due.nd rfl (Or.inl rfl)) (pgs_cons (pg_name (i := 6) sc_law_due.nd rfl (Or.inl rfl)) pgs_nil)))
        (pss_one (ps_if (PW.pt (pw_or (pt_not (pt_chain op_le op_lt pe_int (pe_ix (ix_tupK K rfl) (pv 6) pe_int (fun _ _ => rfl)) (pe_callB (call_len_seqK K rfl) (by rfl) T.m_len (by decide +kernel) (pa_cons (pv 1) pa_nil)))) (pw_or (pt_not (pt_chain op_le op_lt pe_int (pe_ix (ix_tupK K rfl) (pv 6) pe_int (fun _ _ => rfl)) (pe_callB (call_len_seqK K rfl) (by rfl) T.m_len (by decide +kernel) (pa_cons (pv 1) pa_nil)))) (pw_or1 (pt_cmpR (op_eqDK K rfl hr.units) (pe_ix (ix_tupK K rfl) (pe_ix (ix_tupK K rfl) (pv 1) (pe_ix (ix_tupK K rfl) (pv 6) pe_int (fun _ _ => rfl)) (fun _ _ => rfl)) pe_int (fun _ _ => rfl)) (pe_tup (pa_cons pe_str pa_nil)) (nomark _)))))) (pss_one (ps_ret (pe_tup (pa_cons pe_str (pa_cons (pe_tup (pa_cons (pv 5) pa_nil)) pa_nil))))) pss_nil)))
      (PSs.to (pss_cons (ps_for PassesOwn.never rfl (pi_enumT K rfl (by rfl) T.m_enumerate (pa_cons (pv 1) pa_nil)) (pg_tupK K rfl rfl (pgs_cons (pg_name (i := 3) sc_law_due.nd rfl (Or.inr rfl)) (pgs_cons (pg_name (i := 4) sc_law_due.nd rfl (Or.inl rfl)) pgs_nil)))
        (pss_one (ps_if (pt_cmpR op_ne (pe_callB (call_len_seqK K rfl) (by rfl) T.m_len (by decide +kernel) (pa_cons (pe_lc (own := [("_law_belt", 6)]) (g := gName 6) (by rfl) sc_law_due.nd (pi_tupK K rfl (pv 2)) (blkOk_by (own := [("_law_belt", 6)]) (N := N_law_due) (sc := defScope s_law_due) (by decide +kernel)) (fun _ _ _ _ _ => (pg_name (i := 6) sc_law_due.nd rfl (Or.inl rfl))) (fun _ _ _ _ _ => pts_one (pt_cmpR op_eq (pe_ix (ix_tupK K rfl) (pv 6) pe_int (fun _ _ => rfl)) (pv 3) (nomark _))) (fun _ _ _ _ _ => (pv 6))) pa_nil)) (pe_call G_law_needs (hr.mono (by decide)) (by rfl) m_law_needs F_law_needs.kp b_law_needs .nil pass0 (pa_cons (pe_ix (ix_tupK K rfl) (pv 4) pe_int (fun _ _ => rfl)) pa_nil)) (nomark _)) (pss_one (ps_ret (pe_tup (pa_cons pe_str (pa_cons (pe_tup (pa_cons (pv 3) pa_nil)) pa_nil))))) pss_nil)))
      (PSs.to (pss_cons (ps_set (i := 7) sc_law_due.nd rfl (Or.inl rfl) (pe_call G_law_round (hr.mono (by decide)) (by rfl) m_law_round F_law_round.kp b_law_round .nil pass0 (pa_cons (pv 0) pa_nil)))
      (pss_cons (ps_if (pt_cmpR (op_neDK K rfl hr.units) (pv 7) (pe_lst pa_nil) (nomark _)) (pss_one (ps_ret (pe_tup (pa_cons pe_str (pa_cons (pe_tup (pa_cons (pe_ix (ix_listK K rfl) (pv 7) pe_int (fun _ _ => rfl)) pa_nil)) pa_nil))))) pss_nil)
      (pss_one (ps_ret pe_str)))) R3 ?tail3)) R2 ?tail2)) R1 ?tail1)))), ?_⟩
  case tail3 =>
    rintro D' σ' H1 ⟨eD, r, ha, ba, hs, bs, v3, v4, v5, v6, rfl, eo, hR, l1, l2, n1, n2, n3, s1⟩
    obtain ⟨en, _⟩ := bB_no n2
    refine ⟨_, rfl, f, r, hs, bs, rfl, hR.same s1, l1, l2, en, fun c H2 nc hc s2 => ?_⟩
    have s12 := s1.trans s2
    refine ⟨_, rfl, (by show 0 ≤ sizeLine; decide), fun u nu => ?_⟩
    have u1 := same_new (o := .lst ([] : List V)) nu
    refine ⟨_, _, .lst (SqL.of (u1 _ _ hc)) (dp_nats _), .lst (SqL.of upd_same) .nil, nats_shaped _ (filt_lt (by omega)), by decide +kernel, _, rfl, ?_⟩
    rw [eqv_nilL]
    have s3 := s12.trans u1
    have lx : lookX hs bs = match firstN hs.length (fun k => Wr (bareSt (bs.map toBR)) hs.length k k) with
        | some k => some (("ring" : Str), [k])
        | none => none := by unfold lookX; rw [n1]; dsimp only; rw [n2]; dsimp only; first | (rw [n3]; rfl) | rw [n3]
    cases hl : (List.range hs.length).filter (fun k => Wr (bareSt (bs.map toBR)) hs.length k k) with
    | nil =>
      refine if_bl (fun z => nomatch z) (fun _ => ?_)
      rw [nil_first hl] at lx
      show D'.rt (.str "let by") _
      rw [eD]
      exact q1 _ (eo.trans lx) s3
    | cons k l =>
      refine if_bl (fun _ => ?_) (fun z => absurd z (by simp))
      rw [head_first hl] at lx
      rw [hl] at hc
      refine ⟨_, rfl, c, _, _, _, rfl, rfl, SqL.of (u1 _ _ hc), atI_nat (j := 0) rfl, (by show 1 ≤ sizeLine; decide), fun t nt => ⟨(by show 2 ≤ sizeLine; decide), fun p np => ?_⟩⟩
      rw [eD]
      exact ret (eo.trans lx) s3 t nt p np
  case tail2 =>
    rintro D' σ' H1 ⟨eD, r, ha, ba, hv, bv, hs, bs, v3, v4, v5, v6, rfl, eo, hR, ⟨eh, eb, alh, alb⟩, l1, l2, n1, n2, s1⟩
    have lhv := alh.length
    have lbv := alb.length
    refine ⟨_, rfl, ha, hv, rfl, SqT.of (s1 _ _ eh), for_it (J := IteT K ha hv) (n := hv.length) (fun i σ H5 => (∃ v3 v4 : Option V, σ = [some (.ref r), some (.ref ha), some (.ref ba), v3, v4, v5, v6, none]) ∧ Same H H5 ∧ ∀ j, j < i → kB hs bs j = false) ⟨⟨_, _, rfl⟩, s1, fun j z => absurd z (Nat.not_lt_zero _)⟩ ?_ ?_ ?_ ?_⟩
    · rintro i σ H5 hi ⟨_, s5, _⟩
      exact ⟨SqT.of (s5 _ _ eh), hi⟩
    · rintro σ H5 ⟨_, s5, _⟩
      exact ⟨SqT.of (s5 _ _ eh), rfl⟩
    · rintro i x σ H5 H6 hi ⟨⟨v3, v4, rfl⟩, s5, no⟩ ⟨t, y, rfl, nt, rfl, ey⟩
      obtain ⟨h, eh2, t2, u, rfl, nt2, e1, e2⟩ := alh.getL ey
      have s6 := s5.trans (same_new (o := .tup [V.int ((i : Nat) : Int), V.ref t2]) nt)
      refine ⟨t, _, rfl, SqT.of upd_same, rfl, _, _, rfl, _, _, rfl, rfl, ?_⟩
      generalize upd H5 t (.tup [V.int ((i : Nat) : Int), V.ref t2]) = H6 at s6 ⊢
      refine ⟨_, rfl, ba, rfl, ⟨_, SqT.of (s6 _ _ eb)⟩, fun D nD => lc_tup (K := K) (a := ba) (xs := bv) (fun j H7 => ∃ l : List V, H7 D = some (.lst l) ∧ l.length = cntB (bs.take j) i ∧ Same H6 H7) ⟨[], upd_same, rfl, same_new nD⟩ (fun j H7 _ ⟨_, _, _, s7⟩ => SqT.of (s7 _ _ (s6 _ _ eb))) ?_ ?_⟩
      · rintro j x H7 hx ⟨l, hD, ll, s7⟩
        obtain ⟨b, eb2, t3, g, rfl, _, _, e3, e4⟩ := alb.getL hx
        have jl := (List.getElem?_eq_some_iff.mp eb2).1
        have few : cntB (bs.take j) i ≤ j := by
          unfold cntB
          refine Nat.le_trans (List.length_filter_le ..) ?_
          rw [List.length_take]
          exact Nat.min_le_left ..
        have step : ∀ c : Bool, decide (b.to = (i : Int)) = c → cntB (bs.take (j + 1)) i = cntB (bs.take j) i + (if c = true then 1 else 0) := fun c hc => by
          unfold cntB
          rw [List.take_add_one, eb2, List.filter_append, List.length_append]
          congr 1
          show (List.filter _ [b]).length = _
          rw [List.filter_cons, hc]
          cases c <;> rfl
        refine ⟨rfl, _, rfl, t3, _, _, _, rfl, rfl, SqT.of (s7 _ _ (s6 _ _ e3)), atI_nat (j := 1) rfl, _, rfl, rfl, _, rfl, if_bl (fun c => ?_) (fun c => ?_)⟩
        · have c : b.to = (i : Int) := V.int.inj (of_decide_eq_true c)
          refine ⟨_, rfl, l, hD, small1000 (by omega), _, upd_same, ?_, Same.own s7 nD⟩
          rw [List.length_append, step true (decide_eq_true c), ll]
          rfl
        · have c : ¬ b.to = (i : Int) := fun z => of_decide_eq_false c (by rw [z])
          refine ⟨l, hD, ?_, s7⟩
          rw [step false (decide_eq_false c), ll]
          rfl
      rintro H7 ⟨l, hD, ll, s7⟩
      rw [lbv, List.take_length] at ll
      have s67 := s6.trans s7
      obtain ⟨z, ws, ez, hz⟩ := rule_word (hB_no n1 h (List.mem_of_getElem? eh2)).1
      have e27 := e2.same s67
      rw [ez] at e27
      cases e27 with
      | @tup rr xs _ hrr _ al =>
      cases al with
      | cons h1 al =>
      cases h1
      refine ⟨D, l, rfl, .inl (SqL.of hD), _, rfl, t2, _, _, _, rfl, rfl, SqT.of (s67 _ _ e1), atI_nat (j := 0) rfl, rr, z, _, rfl, SqT.of hrr, fun H8 s8 => ⟨rfl, _, rfl, ?_⟩⟩
      have s68 := s67.trans s8
      have val : kB hs bs i = !decide (V.int ((l.length : Nat) : Int) = V.int (needs z)) := by
        rw [kB_at eh2, ez, ll, needs_needN hz]
        congr 1
        show decide (((cntB bs i : Nat) : Int) = needN z) = _
        by_cases y : ((cntB bs i : Nat) : Int) = needN z
        · rw [decide_eq_true y, decide_eq_true (by rw [y])]
        · rw [decide_eq_false y, decide_eq_false fun x => y (V.int.inj x)]
      rw [← val]
      refine if_bl (fun c => ?_) (fun c => ⟨⟨_, _, rfl⟩, s68, fun j hj => ?_⟩)
      · refine ⟨_, rfl, (by show 1 ≤ sizeLine; decide), fun t4 nt4 => ⟨(by show 2 ≤ sizeLine; decide), fun p np => ?_⟩⟩
        rw [eD]
        refine ret (k := i) (z := "count") (eo.trans ?_) s68 t4 nt4 p np
        unfold lookX; rw [n1]; dsimp only; rw [n2]; dsimp only; rw [firstN_at (i := i) (by omega) c no]
      · by_cases z : j = i
        · rw [z]; exact c
        · exact no j (by omega)
    · rintro σ H5 ⟨⟨v3, v4, rfl⟩, s5, no⟩
      exact ⟨eD, r, ha, ba, hs, bs, _, _, _, _, rfl, eo, hR, l1, l2, n1, n2, firstN_none (fun j hj => no j (by omega)), s5⟩
  case tail1 =>
    rintro D' σ' H1 ⟨eD, r, ha, ba, hv, bv, hs, bs, v3, v4, rfl, eo, hR, ⟨eh, eb, alh, alb⟩, l1, l2, sh, n1, s1⟩
    have lhv := alh.length
    have lbv := alb.length
    refine ⟨_, rfl, ba, bv, rfl, SqT.of (s1 _ _ eb), for_it (J := IteT K ba bv) (n := bv.length) (fun i σ H5 => (∃ v5 v6 : Option V, σ = [some (.ref r), some (.ref ha), some (.ref ba), v3, v4, v5, v6, none]) ∧ Same H H5 ∧ ∀ j, j < i → bB hs bs j = false) ⟨⟨_, _, rfl⟩, s1, fun j z => absurd z (Nat.not_lt_zero _)⟩ ?_ ?_ ?_ ?_⟩
    · rintro i σ H5 hi ⟨_, s5, _⟩
      exact ⟨SqT.of (s5 _ _ eb), hi⟩
    · rintro σ H5 ⟨_, s5, _⟩
      exact ⟨SqT.of (s5 _ _ eb), rfl⟩
    · rintro i x σ H5 H6 hi ⟨⟨v5, v6, rfl⟩, s5, no⟩ ⟨t, y, rfl, nt, rfl, ey⟩
      obtain ⟨b, eb2, t2, g, rfl, _, _, e1, e2⟩ := alb.getL ey
      have s6 := s5.trans (same_new (o := .tup [V.int ((i : Nat) : Int), V.ref t2]) nt)
      refine ⟨t, _, rfl, SqT.of upd_same, rfl, _, _, rfl, _, _, rfl, rfl, ?_⟩
      generalize upd H5 t (.tup [V.int ((i : Nat) : Int), V.ref t2]) = H6 at s6 ⊢
      have hit : bBad hs b = true → ∀ {H2 : Hp}, Same H H2 → ∀ t, H2 t = none → ∀ p, (upd H2 t (.tup [nV i])) p = none → D'.rt (.ref p) (upd (upd H2 t (.tup [nV i])) p (.tup [.str "belt", .ref t])) := fun c H2 s => by
        rw [eD]
        refine ret (eo.trans ?_) s
        unfold lookX; rw [n1]; dsimp only; rw [firstN_at (i := i) (by omega) (by rw [bB_at eb2]; exact c) no]
      have next : bBad hs b = false → ∀ j, j < i + 1 → bB hs bs j = false := fun c j hj => by
        by_cases z : j = i
        · rw [z, bB_at eb2]; exact c
        · exact no j (by omega)
      have e6 := SqT.of (K := K) (s6 _ _ eh)
      have b6 := SqT.of (K := K) (s6 _ _ e1)
      have bad1 : ¬ (0 ≤ b.one ∧ b.one < (hs.length : Int)) → bBad hs b = true := fun c => by
        unfold bBad
        rw [show (decide (0 ≤ b.one) && decide (b.one < (hs.length : Int))) = false from by rw [Bool.and_eq_false_iff]; by_cases z : 0 ≤ b.one; exact .inr (decide_eq_false fun y => c ⟨z, y⟩); exact .inl (decide_eq_false z)]
        rfl
      have bad2 : ¬ (0 ≤ b.to ∧ b.to < (hs.length : Int)) → bBad hs b = true := fun c => by
        unfold bBad
        rw [show (decide (0 ≤ b.to) && decide (b.to < (hs.length : Int))) = false from by rw [Bool.and_eq_false_iff]; by_cases z : 0 ≤ b.to; exact .inr (decide_eq_false fun y => c ⟨z, y⟩); exact .inl (decide_eq_false z)]
        rw [Bool.not_false, Bool.true_or, Bool.or_true]
      refine ⟨_, rfl, t2, _, _, _, rfl, rfl, b6, atI_nat (j := 0) rfl, _, _, rfl, rfl, _, rfl, if_bl (fun c1 => ?_) (fun c1 => ?_)⟩
      · have c1 : 0 ≤ b.one := of_decide_eq_true c1
        refine ⟨_, rfl, ha, hv, rfl, .inr e6, _, _, rfl, rfl, _, rfl, if_bl (fun z => ?_) (fun c2 => ?_)⟩
        · refine ⟨_, rfl, (by show 1 ≤ sizeLine; decide), fun t4 nt4 => ⟨(by show 2 ≤ sizeLine; decide), fun p np => hit (bad1 fun y => ?_) s6 t4 nt4 p np⟩⟩
          have z : (!decide (b.one < ((hv.length : Nat) : Int))) = true := z
          rw [decide_eq_true (by omega)] at z
          cases z
        have c2 : b.one < ((hv.length : Nat) : Int) := by
          have c2 : (!decide (b.one < ((hv.length : Nat) : Int))) = false := c2
          refine Classical.byContradiction fun y => ?_
          rw [decide_eq_false y] at c2
          cases c2
        refine ⟨_, rfl, t2, _, _, _, rfl, rfl, b6, atI_nat (j := 1) rfl, _, _, rfl, rfl, _, rfl, if_bl (fun c3 => ?_) (fun c3 => ?_)⟩
        · have c3 : 0 ≤ b.to := of_decide_eq_true c3
          refine ⟨_, rfl, ha, hv, rfl, .inr e6, _, _, rfl, rfl, _, rfl, if_bl (fun z => ?_) (fun c4 => ?_)⟩
          · refine ⟨_, rfl, (by show 1 ≤ sizeLine; decide), fun t4 nt4 => ⟨(by show 2 ≤ sizeLine; decide), fun p np => hit (bad2 fun y => ?_) s6 t4 nt4 p np⟩⟩
            have z : (!decide (b.to < ((hv.length : Nat) : Int))) = true := z
            rw [decide_eq_true (by omega)] at z
            cases z
          have c4 : b.to < ((hv.length : Nat) : Int) := by
            have c4 : (!decide (b.to < ((hv.length : Nat) : Int))) = false := c4
            refine Classical.byContradiction fun y => ?_
            rw [decide_eq_false y] at c4
            cases c4
          obtain ⟨k, ek⟩ : ∃ k : Nat, b.one = ((k : Nat) : Int) := ⟨b.one.toNat, by omega⟩
          obtain ⟨h, eh3⟩ : ∃ h, hs[k]? = some h := ⟨_, List.getElem?_eq_getElem (by omega)⟩
          obtain ⟨x, ex, t3, u3, rfl, _, e3, e4⟩ := alh.get eh3
          refine ⟨_, rfl, _, rfl, t2, _, _, _, rfl, rfl, b6, atI_nat (j := 0) rfl, ha, _, _, _, rfl, rfl, e6, (by rw [ek]; exact atI_nat ex), t3, _, _, _, rfl, rfl, SqT.of (s6 _ _ e3), atI_nat (j := 0) rfl, (by show 1 ≤ sizeLine; decide), fun p1 np1 => ?_⟩
          have u1 := same_new (o := .tup [V.str "out"]) np1
          have s7 := s6.trans u1
          refine ⟨_, _, (e4.same s7).dp, .tup (SqT.of upd_same) (.cons (.str _) .nil), sh h (List.mem_of_getElem? eh3), one_shaped (by decide +kernel), _, rfl, ?_⟩
          have val : bBad hs b = PyData.eqv h.r (.tuple [.str "out"]) := by
            unfold bBad outAt
            rw [decide_eq_true c1, decide_eq_true c3, decide_eq_true (show b.one < (hs.length : Int) by omega), decide_eq_true (show b.to < (hs.length : Int) by omega), ek, Int.toNat_natCast, eh3]
            rfl
          rw [← val]
          exact if_bl (fun z => ⟨_, rfl, (by show 1 ≤ sizeLine; decide), fun t4 nt4 => ⟨(by show 2 ≤ sizeLine; decide), fun p np => hit z s7 t4 nt4 p np⟩⟩) (fun z => ⟨⟨_, _, rfl⟩, s7, next z⟩)
        · exact ⟨_, rfl, if_bl (fun _ => ⟨_, rfl, (by show 1 ≤ sizeLine; decide), fun t4 nt4 => ⟨(by show 2 ≤ sizeLine; decide), fun p np => hit (bad2 fun y => of_decide_eq_false c3 y.1) s6 t4 nt4 p np⟩⟩) (fun z => nomatch z)⟩
      · exact ⟨_, rfl, if_bl (fun _ => ⟨_, rfl, (by show 1 ≤ sizeLine; decide), fun t4 nt4 => ⟨(by show 2 ≤ sizeLine; decide), fun p np => hit (bad1 fun y => of_decide_eq_false c1 y.1) s6 t4 nt4 p np⟩⟩) (fun z => nomatch z)⟩
    · rintro σ H5 ⟨⟨v5, v6, rfl⟩, s5, no⟩
      exact ⟨eD, r, ha, ba, hv, bv, hs, bs, _, _, _, _, rfl, eo, hR, ⟨eh, eb, alh, alb⟩, l1, l2, n1, firstN_none (fun j hj => no j (by omega)), s5⟩
  refine ⟨_, rfl, f, v, d, rfl, th, wt, fun H1 s1 => ⟨_, rfl, ?_⟩⟩
  cases hf : formB d with
  | false =>
    refine if_bl (fun _ => ?_) (fun z => nomatch z)
    refine ⟨(by show 0 ≤ sizeLine; decide), fun t nt => ⟨(by show 2 ≤ sizeLine; decide), fun p np => ?_⟩⟩
    have eo : o = some (("form" : Str), ([] : List Nat)) := by
      rcases lk with ⟨_, e⟩ | ⟨hs, bs, rfl, _⟩
      · exact e
      · rw [form_room] at hf; cases hf
    exact q2 p t _ _ _ eo upd_same (same_new np _ _ upd_same) (s1.trans ((same_new nt).trans (same_new np)))
  | true =>
  refine if_bl (fun z => nomatch z) (fun _ => ?_)
  obtain ⟨hs, bs, rfl⟩ := form_ex hf
  obtain ⟨l1, l2, sh⟩ := sm hs bs rfl
  have eo := lk.room
  obtain ⟨r, rfl, hR⟩ := RmX.of th
  obtain ⟨ha, ba, hv, bv, er, eh, eb, alh, alb⟩ := id hR.ex
  have lhv := alh.length
  refine ⟨_, rfl, r, _, rfl, SqT.of (s1 _ _ er), rfl, _, _, rfl, _, _, rfl, rfl, ?_⟩
  refine ⟨_, rfl, ha, hv, rfl, SqT.of (s1 _ _ eh), for_it (J := IteT K ha hv) (n := hv.length) (fun i σ H5 => (∃ v3 v4 : Option V, σ = [some (.ref r), some (.ref ha), some (.ref ba), v3, v4, none, none, none]) ∧ Same H H5 ∧ ∀ j, j < i → hB hs j = false) ⟨⟨_, _, rfl⟩, s1, fun j z => absurd z (Nat.not_lt_zero _)⟩ ?_ ?_ ?_ ?_⟩
  · rintro i σ H5 hi ⟨_, s5, _⟩
    exact ⟨SqT.of (s5 _ _ eh), hi⟩
  · rintro σ H5 ⟨_, s5, _⟩
    exact ⟨SqT.of (s5 _ _ eh), rfl⟩
  · rintro i x σ H5 H6 hi ⟨⟨v3, v4, rfl⟩, s5, no⟩ ⟨t, y, rfl, nt, rfl, ey⟩
    obtain ⟨h, eh2, t2, u, rfl, nt2, e1, e2⟩ := alh.getL ey
    have s6 := s5.trans (same_new (o := .tup [V.int ((i : Nat) : Int), V.ref t2]) nt)
    refine ⟨t, _, rfl, SqT.of upd_same, rfl, _, _, rfl, _, _, rfl, rfl, ?_⟩
    generalize upd H5 t (.tup [V.int ((i : Nat) : Int), V.ref t2]) = H6 at s6 ⊢
    have hit : hBad h = true → ∀ {H2 : Hp}, Same H H2 → ∀ t, H2 t = none → ∀ p, (upd H2 t (.tup [nV i])) p = none → Q (.ref p) (upd (upd H2 t (.tup [nV i])) p (.tup [.str "hand", .ref t])) := fun c H2 s => by
      refine ret (eo.trans ?_) s
      unfold lookX; rw [firstN_at (i := i) (by omega) (by rw [hB_at eh2]; exact c) no]
    have next : hBad h = false → ∀ j, j < i + 1 → hB hs j = false := fun c j hj => by
      by_cases z : j = i
      · rw [z, hB_at eh2]; exact c
      · exact no j (by omega)
    refine ⟨_, rfl, t2, _, _, _, rfl, rfl, SqT.of (s6 _ _ e1), atI_nat (j := 0) rfl, f, u, h.r, rfl, e2.same s6, fun H7 s7 => ⟨_, rfl, ?_⟩⟩
    have s67 := s6.trans s7
    cases hr1 : isRule h.r with
    | false => exact if_bl (fun _ => ⟨_, rfl, (by show 1 ≤ sizeLine; decide), fun t4 nt4 => ⟨(by show 2 ≤ sizeLine; decide), fun p np => hit (by unfold hBad; rw [hr1]; rfl) s67 t4 nt4 p np⟩⟩) (fun z => nomatch z)
    | true =>
    refine if_bl (fun z => nomatch z) (fun _ => ?_)
    refine ⟨_, rfl, t2, _, _, _, rfl, rfl, SqT.of (s67 _ _ e1), atI_nat (j := 1) rfl, _, _, rfl, rfl, _, rfl, if_bl (fun z => ⟨_, rfl, (by show 1 ≤ sizeLine; decide), fun t4 nt4 => ⟨(by show 2 ≤ sizeLine; decide), fun p np => hit (by unfold hBad; rw [hr1, decide_eq_true (of_decide_eq_true z)]; rfl) s67 t4 nt4 p np⟩⟩) (fun z => ?_)⟩
    have m0 : ¬ h.m < 0 := of_decide_eq_false z
    obtain ⟨z, ws, ez, hz⟩ := rule_word hr1
    have e27 := e2.same s67
    have ind := inDoors_word (z := z) (l := ws) (by rw [← ez]; exact hr1)
    have val : hBad h = (!decide (h.m = 0) && decide (z = "in" ∨ z = "out")) := by
      unfold hBad
      rw [hr1, decide_eq_false m0, ez, ind]
      rfl
    rw [ez] at e27
    cases e27 with
    | @tup rr xs _ hrr _ al =>
    cases al with
    | cons h1 al =>
    cases h1
    refine ⟨_, rfl, t2, _, _, _, rfl, rfl, SqT.of (s67 _ _ e1), atI_nat (j := 0) rfl, rr, _, _, _, rfl, rfl, SqT.of hrr, atI_nat (j := 0) rfl, (by show 2 ≤ sizeLine; decide), fun p1 np1 => ?_⟩
    have u1 := same_new (o := .tup [V.str "in", V.str "out"]) np1
    have s8 := s67.trans u1
    refine ⟨p1, _, rfl, .inr (SqT.of upd_same), rfl, rfl, _, rfl, if_in (zs := ["in", "out"]) (fun e => ?_) (fun e => ?_)⟩
    · have e : z = "in" ∨ z = "out" := by simpa using e
      rw [decide_eq_true e, Bool.and_true] at val
      refine ⟨_, rfl, t2, _, _, _, rfl, rfl, SqT.of (s8 _ _ e1), atI_nat (j := 1) rfl, rfl, _, rfl, if_bl (fun c => ?_) (fun c => ⟨⟨_, _, rfl⟩, s8, next ?_⟩)⟩
      · refine ⟨_, rfl, (by show 1 ≤ sizeLine; decide), fun t4 nt4 => ⟨(by show 2 ≤ sizeLine; decide), fun p np => hit ?_ s8 t4 nt4 p np⟩⟩
        have c : (!decide (V.int h.m = V.int 0)) = true := c
        rw [val, decide_eq_false (fun y => by rw [y, decide_eq_true rfl] at c; cases c)]
        rfl
      · have c : (!decide (V.int h.m = V.int 0)) = false := c
        have : h.m = 0 := Classical.byContradiction fun y => by
          rw [decide_eq_false fun x => y (V.int.inj x)] at c
          cases c
        rw [val, decide_eq_true this]
        rfl
    · have e : ¬ (z = "in" ∨ z = "out") := by simpa using e
      rw [decide_eq_false e, Bool.and_false] at val
      exact ⟨⟨_, _, rfl⟩, s8, next val⟩
  · rintro σ H5 ⟨⟨v3, v4, rfl⟩, s5, no⟩
    exact ⟨rfl, r, ha, ba, hv, bv, hs, bs, _, _, rfl, eo, hR, ⟨eh, eb, alh, alb⟩, l1, l2, sh, firstN_none (fun j hj => no j (by omega)), s5⟩
end
/-! ### what is told -/
def outD : Option (Str × List Nat) → PyData
  | none => .str "let by"
  | some (z, ks) => .tuple [.str z, .tuple (ks.map fun k => .int ((k : Nat) : Int))]
def SayD (d : PyData) : Prop := d.showable = true ∧ d.hasDict = false ∧ d.depth ≤ 60 ∧ d.shown.length ≤ sizeLine
theorem Neat.sayD {d : PyData} {dp n : Nat} (h : Neat d dp n) (k : dp ≤ 60) (m : n ≤ 1000000) : SayD d := ⟨h.say, h.nod, Nat.le_trans h.dep k, h.fits k m⟩
theorem first_lt {n k : Nat} {p : Nat → Bool} (h : firstN n p = some k) : k < n := by
  unfold firstN at h
  rw [List.find?_range_eq_some] at h
  exact List.mem_range.mp h.2.1
theorem look_say {d : PyData} {o : Option (Str × List Nat)} (lk : LookIs d o) (sm : SmD d) : SayD (outD o) := by
  have one : ∀ {z : Str} {k : Nat}, PyData.canLay0 (.str z) = true → z.cps.size ≤ 10 → k < 400 → SayD (outD (some (z, [k]))) := fun {z k} a b c => by
    have t := Neat.tup (.cons (Neat.str (n := 10) (dp := 1) a b) (.cons (Neat.tup (.cons (Neat.int (i := ((k : Nat) : Int)) (dp := 0) (by omega)) .nil)) .nil))
    exact t.sayD (by decide) (by decide)
  rcases lk with ⟨_, rfl⟩ | ⟨hs, bs, rfl, rfl⟩
  · exact (Neat.tup (.cons (Neat.str (x := "form") (n := 10) (dp := 1) (by decide +kernel) (by decide +kernel)) (.cons (Neat.tup (.nil (dp := 0))) .nil))).sayD (by decide) (by decide)
  · obtain ⟨l1, l2, _⟩ := sm hs bs rfl
    unfold lookX
    split
    · rename_i k e
      exact one (by decide +kernel) (by decide +kernel) (by have := first_lt e; omega)
    · split
      · rename_i k e
        exact one (by decide +kernel) (by decide +kernel) (by have := first_lt e; omega)
      · split
        · rename_i k e
          exact one (by decide +kernel) (by decide +kernel) (by have := first_lt e; omega)
        · split
          · rename_i k e
            exact one (by decide +kernel) (by decide +kernel) (by have := first_lt e; omega)
          · exact (Neat.str (x := "let by") (n := 10) (dp := 0) (by decide +kernel) (by decide +kernel)).sayD (by decide) (by decide)
/-- what is told, as it stands -/
def OutAt (K : PySem.W.Frag) (H : Hp) (v : V) (o : Option (Str × List Nat)) : Prop := Dp K H v (outD o) ∧ (o = none → v = .str "let by") ∧ (o ≠ none → ∃ p, v = .ref p)
theorem out_none {K : PySem.W.Frag} {H : Hp} : OutAt K H (.str "let by") none := ⟨.str _, fun _ => rfl, fun z => absurd rfl z⟩
theorem out_some {K : PySem.W.Frag} {H : Hp} {p t : Addr} {z : Str} {ks : List Nat} (h1 : H p = some (.tup [.str z, .ref t])) (h2 : H t = some (.tup (ks.map nV))) : OutAt K H (.ref p) (some (z, ks)) := by
  refine ⟨.tup (SqT.of h1) (.cons (.str _) (.cons (.tup (SqT.of h2) ?_) .nil)), (fun e => nomatch e), fun _ => ⟨p, rfl⟩⟩
  clear h2
  induction ks with
  | nil => exact .nil
  | cons k ks ih => exact .cons (.int _) ih
section
variable {P : Program} {w : World} {K : PySem.W.Frag} {mg : Str → Option Value} {base : Heap}
def sp_law_alike (K : PySem.W.Frag) : Sp := fun vs H Q _ => ∃ (x y : V) (d : PyData), vs = [x, y] ∧ Dp K H x d ∧ Dp K H y d ∧ SayD d ∧ Q (.bl true) H
theorem ok_law_alike {f : Addr} {fd : FuncData} (F : Fun K "_law_alike" "_law_alike" s_law_alike f fd) (T : Top w K mg) : FnG P w K mg base CX0 5 f fd ["_law_found", "_law_due_here"] (sp_law_alike K) := by
  refine Fun.okG F sc_law_alike (fun vs H Q E h => ?_) (fun cdv A outer s H vs Q E hr hG h => ?_)
  · obtain ⟨x, y, d, rfl, _⟩ := h
    rfl
  obtain ⟨x, y, d, rfl, hx, hy, ⟨s1, s2, s3, s4⟩, q⟩ := h
  refine ⟨_, (pss_one (ps_ret (pe_cmpR op_eq (pe_callB (call_reprG K rfl hG hr.units) (by rfl) T.m_repr (by decide +kernel) (pa_cons (pv 0) pa_nil)) (pe_callB (call_reprG K rfl hG hr.units) (by rfl) T.m_repr (by decide +kernel) (pa_cons (pv 1) pa_nil)) (nomark _)))), ?_⟩
  refine ⟨_, rfl, x, d, rfl, hx, s1, s2, s3, s4, _, rfl, y, d, rfl, hy, s1, s2, s3, s4, rfl, ?_⟩
  rw [decide_eq_true rfl]
  exact q
variable {cF cB : Addr} {PT : Addr × Addr} [TF : TabF K mg base cF PT] [TC : TabC K mg base cB PT]
include TF TC
def sp_law_told (K : PySem.W.Frag) (PT : Addr × Addr) : Sp := fun vs H Q _ => ∃ (f : Addr → Prop) (v : V) (d : PyData) (o : Option (Str × List Nat)), vs = [v] ∧ Th f H v d ∧ LookIs d o ∧ SmD d ∧ SayD d ∧ Tb2 PT H ∧
  ∀ (u : V) (H' : Hp), OutAt K H' u o → LamX.ExtN H H' → Tb2 PT H' → Q u H'
theorem ok_law_told {f : Addr} {fd : FuncData} (F : Fun K "_law_told" "_law_told" s_law_told f fd) (T : Top w K mg) : FnG P w K mg base CX0 7 f fd ["_law_room_here"] (sp_law_told K PT) := by
  obtain ⟨f_look_room, fd_look_room, F_look_room, b_look_room, m_look_room⟩ := T.d_look_room
  have G_look_room := ok_look_room (P := P) (w := w) (base := base) F_look_room T
  obtain ⟨fdI, N⟩ := T.x_ns
  have GI := ok_NsInit (P := P) (w := w) (base := base) N
  refine Fun.okG F sc_law_told (fun vs H Q E h => ?_) (fun cdv A outer s H vs Q E hr hG h => ?_)
  · obtain ⟨f, v, d, o, rfl, _⟩ := h
    rfl
  obtain ⟨f, v, dd, o, rfl, th, lk, sm, ⟨y1, y2, y3, y4⟩, tb, q⟩ := h
  refine ⟨_, (pss_cons (ps_set (i := 1) sc_law_told.nd rfl (Or.inl rfl) pe_str)
      (pss_cons (ps_set (i := 2) sc_law_told.nd rfl (Or.inl rfl) (pe_callB (call_reprG K rfl hG hr.units) (by rfl) T.m_repr (by decide +kernel) (pa_cons (pv 0) pa_nil)))
      (pss_cons (ps_try_as (i := 3) rfl rfl sc_law_told.nd rfl rfl ⟨rfl, by decide, .inl N.gC⟩ takes0
        (fun W pn xe tk _ => (pss_one (ps_if (pt_cmpR op_isB (pe_callS G_look_room (hr.mono (by decide)) (by rfl) m_look_room F_look_room.kp b_look_room (fun σ => passAt tk σ) (pa_cons (pv 0) pa_nil)) pe_bl (nomark _)) (pss_one (ps_set (i := 1) sc_law_told.nd rfl (Or.inl rfl) pe_str)) pss_nil)))
        (fun a oe cls d pn hz hf => (pss_cons (ps_set (i := 1) sc_law_told.nd rfl (Or.inl rfl) (pe_tup (pa_cons (pe_xf N.xf N.nw hz hf (pv 3)) (pa_cons (pe_xf N.xf N.na hz hf (pv 3)) pa_nil))))
      (pss_one (ps_if (PW.pt (pw_or (pt_not (pt_val (pe_callB (call_isF N.is_ hz hf) (by rfl) T.m_isinstance (by decide +kernel) (pa_cons (pv 3) (pa_cons (pe_glob (v := .ref (He.ga K "BeltError")) (by rfl) N.gB rfl) pa_nil))))) (pw_or1 (pt_val (pe_callB (call_isFT N.is_ hz hf) (by rfl) T.m_isinstance (by decide +kernel) (pa_cons (pv 3) (pa_cons (pe_tup (pa_cons (pe_glob (v := .ref (He.ga K "NoText")) (by rfl) T.x_NoText rfl) (pa_cons (pe_glob (v := .ref (He.ga K "NoShift")) (by rfl) T.x_NoShift rfl) (pa_cons (pe_glob (v := .ref (He.ga K "NoFormula")) (by rfl) T.x_NoFormula rfl) (pa_cons (pe_glob (v := .ref (He.ga K "NoName")) (by rfl) T.x_NoName rfl) (pa_cons (pe_glob (v := .ref (He.ga K "NoRow")) (by rfl) T.x_NoRow rfl) pa_nil)))))) pa_nil))))))) (pss_one (ps_set (i := 1) sc_law_told.nd rfl (Or.inl rfl) pe_str)) pss_nil)))))
      (pss_cons (ps_if (pt_cmpR op_ne (pe_callB (call_reprG K rfl hG hr.units) (by rfl) T.m_repr (by decide +kernel) (pa_cons (pv 0) pa_nil)) (pv 2) (nomark _)) (pss_one (ps_ret pe_str)) pss_nil)
      (pss_one (ps_ret (pv 1))))))), ?_⟩
  refine ⟨_, rfl, v, _, rfl, th.dp, y1, y2, y3, y4, ?_⟩
  refine ⟨_, rfl, ?_⟩
  dsimp only [tNil]
  refine ⟨f, v, dd, o, rfl, th, lk, sm, tb, fun H1 no e1 tb1 => ?_, fun d t z ks H1 eo hd ht e1 tb1 => ?_⟩
  · subst no
    refine ⟨_, _, rfl, rfl, _, rfl, if_bl (fun _ => ?_) (fun z => nomatch z)⟩
    refine ⟨_, rfl, v, _, rfl, (th.ext e1).dp, y1, y2, y3, y4, _, rfl, rfl, _, rfl, ?_⟩
    rw [decide_eq_true rfl]
    exact if_bl (fun z => nomatch z) (fun _ => ⟨_, rfl, q _ _ out_none e1 tb1⟩)
  · subst eo
    refine ⟨true, N.tc, fun _ a na => ?_, fun z => nomatch z⟩
    refine ⟨_, rfl, rfl, rfl, d, _, .str z, rfl, hd, rfl, _, rfl, rfl, rfl, d, _, .ref t, rfl, hd, rfl, (by show 2 ≤ sizeLine; decide), fun p np => ?_⟩
    have u0 := same_new (o := .tup [V.str z, V.ref t]) np
    have hd0 := u0 _ _ hd
    refine ⟨_, rfl, rfl, ⟨d, _, rfl, hd0⟩, V.ref (He.ga K "BeltError"), .ref (He.ga K "BeltError"), true, rfl, fun u r => r, N.kb, _, rfl, if_bl (fun z => nomatch z) (fun _ => ?_)⟩
    refine ⟨_, rfl, (by show 5 ≤ sizeLine; decide), fun tp ntp => ?_⟩
    have u1 := same_new (o := .tup [V.ref (He.ga K "NoText"), V.ref (He.ga K "NoShift"), V.ref (He.ga K "NoFormula"), V.ref (He.ga K "NoName"), V.ref (He.ga K "NoRow")]) ntp
    have hd1 := u1 _ _ hd0
    refine ⟨rfl, ⟨d, _, rfl, hd1⟩, tp, _, _, false, rfl, upd_same, .cons (.own _) (.cons (.own _) (.cons (.own _) (.cons (.own _) (.cons (.own _) .nil)))), N.ko, _, rfl, if_bl (fun z => nomatch z) (fun _ => ?_)⟩
    have s := u0.trans u1
    have e2 := e1.trans (ext_same s)
    refine ⟨_, rfl, v, _, rfl, (th.ext e2).dp, y1, y2, y3, y4, _, rfl, rfl, _, rfl, ?_⟩
    rw [decide_eq_true rfl]
    exact if_bl (fun z => nomatch z) (fun _ => ⟨_, rfl, q _ _ (out_some (u1 _ _ upd_same) (s _ _ ht)) e2 (tb1.same s)⟩)
end
/-! ### one thing put at the front of an empty list by a slice; xs[a:c] = ys as a target -/
section
open PySem.Spec
variable {prog : Program} {w : World} {A : Around} {E : Value → Shared → Prop} {s : Shared}
theorem front_run : sliceBounds (some ((0 : Nat) : Int)) (some ((1 : Nat) : Int)) none 0 = (0, 0, 1) := by decide
set_option maxRecDepth 100000 in
theorem front_slice {l b sl : Addr} {new : Array Value} {n n2 : Nat} {vl vu : Value} {Q : Unit → Shared → Prop} (e : s.heap.get? l = some { cls := .type "list", data := .seq #[] n }) (e2 : s.heap.get? b = some { cls := .type "list", data := .seq new n2 }) (hne : l ≠ b)
    (hs : s.heap.IsSliceOf sl vl vu .none) (pl : IsPart vl (some ((0 : Nat) : Int))) (pu : IsPart vu (some ((1 : Nat) : Int))) (hsz : new.size ≤ sizeLine) (h : Q () { s with heap := s.heap.update l (Obj.mapSeq fun xs => xs.extract 0 0 ++ new ++ xs.extract 0 xs.size) }) : wpAny (model prog w) A (setItem (.ref l) (.ref sl) (.ref b)) Q E s := by
  have L := PySem.IsL.isList e; have B := PySem.IsL.isList e2
  obtain ⟨os, f1, f2, f3⟩ := id hs; have T : s.TypeIs (.ref sl) "slice" := ⟨os, f1, f2⟩
  have other : Builtin.List.listSameRef (.ref l) (.ref b) = false := beq_eq_false_iff_ne.mpr hne
  have z0 : (#[] : Array Value).size + new.size ≤ sizeLine := by rw [Array.size_empty, Nat.zero_add]; exact hsz
  have z1 : ((fun xs : Array Value => xs.extract 0 0 ++ new ++ xs.extract 0 xs.size) #[]).size ≤ sizeLine + 1 := by simp only [Array.size_append, Array.size_extract, Array.size_empty]; omega
  unfold setItem; try with_reducible refine wpAny_holding ?_
  (try refine wpAny_bind (wpAny_pure ?_)); refine wpAny_bind (wpAny_sequenceKey L.typeIs (by decide) ?_)
  refine wpAny_bind (wpAny_callSpecial?_slot (name := Str.ofString "__setitem__") L.typeIs slot_list_setitem (wpAny_call_entry slot_list_setitem L.typeIs entry_list_setitem ?_ (args_list_setitem _ _ _)))
  show wpAny _ _ (Builtin.List.listSubscript? (.ref sl) >>= _) _ _ s; refine wpAny_bind ?_
  unfold Builtin.List.listSubscript?; refine wpAny_bind (wpAny_specialOf T slice_no_index ?_)
  simp only [Option.isNone_none, if_true]; refine wpAny_pure ?_
  show wpAny _ _ (typeOf (.ref sl) >>= _) _ _ s; refine wpAny_bind (wpAny_typeOf T ?_)
  (first | rw [if_neg (by decide)] | refine PySem.W.KFB.if_not (by decide) ?_); rw [listSliceParts_eq]
  refine wpAny_bind (wpAny_bind (wpAny_field f1 f3 (x := .none) rfl (wpAny_bind (wpAny_listPart .none ?_)))); rw [if_neg (show ¬ ((rawPart none == rawInt 0) = true) from Bool.false_ne_true)]
  refine wpAny_bind (wpAny_field f1 f3 (x := vl) rfl (wpAny_bind (wpAny_listPart pl ?_))); refine wpAny_bind (wpAny_field f1 f3 (x := vu) rfl (wpAny_bind (wpAny_listPart pu (wpAny_pure ?_))))
  (first | simp only [other, Bool.false_eq_true, if_false] | refine PySem.W.KFB.if_not other ?_ | (dsimp only; rw [if_neg (by rw [other]; exact Bool.false_ne_true)]))
  refine wpAny_bind (m := Builtin.List.listAllItems (.ref b) "must assign iterable to extended slice") ?_; unfold Builtin.List.listAllItems
  refine wpAny_bind (wpAny_typeOf B.typeIs ?_); (first | refine PySem.W.KFB.if_so (by decide) ?_ | rw [if_pos (by decide)] | simp only [beq_self_eq_true, Bool.true_or, if_true])
  unfold Builtin.List.listItems; refine wpAny_bind (wpAny_seqItems e2 rfl (wpAny_pure ?_))
  refine wpAny_bind (wpAny_bind (wpAny_seqItems e rfl (wpAny_pure ?_))); refine wpAny_bind (wpAny_of_eq ((sliceIndices_raw (some ((0 : Nat) : Int)) (some ((1 : Nat) : Int)) none (#[] : Array Value).size (by simp)).trans (congrArg (pure : Int × Int × Int → Sem (Int × Int × Int)) front_run)) ?_)
  show wpAny _ _ (if ((1 : Int) == 1) = true then _ else _) _ _ s; rw [if_pos (by decide)]; refine wpAny_bind (wpAny_rule ?_)
  (first | simp only [notLongL z0, Bool.false_eq_true, if_false] | refine PySem.W.KFB.if_not (notLongL z0) ?_); (try refine wpAny_bind (wpAny_pure ?_))
  show wpAny _ _ (updateSeq l (fun xs => xs.extract 0 0 ++ new ++ xs.extract 0 xs.size) >>= _) _ _ s
  refine wpAny_bind (wpAny_updateSeq (hz := Nat.zero_le _) (_hz' := z1) e rfl ?_); refine wpAny_bind (wpAny_letGo ?_)
  (first | exact wpAny_bind (wpAny_pure (wpAny_pure ⟨.none, rfl, wpAny_pure h⟩)) | exact wpAny_pure ⟨.none, rfl, wpAny_pure h⟩)
end
section
variable {X : Cx} {pos p2 : Pos}
theorem slice_at {pins : List (Addr × Obj)} {s : Shared} {σ : L2.St} {H : Hp} {l b sl : Addr} {xs ys : List V} {a c : Int} {vl vu : Value} {Q : Unit → Shared → Prop} (I : Inv X pins σ H s) (hH : H l = some (.lst xs)) (hB : H b = some (.lst ys)) (hne : l ≠ b) (hs : s.heap.IsSliceOf sl vl vu .none) (ra : RelV (.int a) vl) (rc : RelV (.int c) vu)
    (ok : (0 ≤ a ∧ a ≤ c ∧ c ≤ xs.length) ∨ (xs = [] ∧ a = 0 ∧ c = 1)) (hz : xs.length + ys.length ≤ sizeLine) (h : ∀ s', Inv X pins σ (upd H l (.lst (xs.take a.toNat ++ ys ++ xs.drop c.toNat))) s' → Q () s') : wpAny (model X.prog X.w) X.A (setItem (.ref l) (.ref sl) (.ref b)) Q X.xe s := by
  rcases ok with ⟨h0, h1, h2⟩ | ⟨rfl, rfl, rfl⟩
  · exact set_slice I hH hB hne hs ra rc h0 h1 h2 hz h
  obtain ⟨ta, rfl⟩ := ra; obtain ⟨tc, rfl⟩ := rc
  obtain ⟨z, its, n, r, hl, e⟩ := I.lstM hH; obtain ⟨z2, its2, n2, r2, hl2, e2⟩ := I.lstM hB
  obtain rfl : its = [] := by cases its with | nil => rfl | cons x y => cases hl
  refine front_slice e e2 hne hs (.int _ _) (.int _ _) (by rw [List.size_toArray, ← hl2]; have : ([] : List V).length = 0 := rfl; omega) (h _ ?_)
  refine I.lset (its' := its2) (t' := s.toks) hH e ?_ ?_ ?_
  · simp
  · have : ([] : List V).take (0 : Int).toNat ++ ys ++ ([] : List V).drop (1 : Int).toNat = ys := by simp
    rw [this]; exact r2
  · rw [List.length_append, List.length_append, List.length_take, List.length_drop]; have : ([] : List V).length = 0 := rfl; omega
/-- o[lo:hi] = .. -/
def gSubS (to : TE) (tl th : TO) : TG := fun v σ H Q => to σ H fun o H1 => tl σ H1 fun lo H2 => th σ H2 fun hi H3 => ∃ (p b : Addr) (xs ys : List V) (a c : Int), o = .ref p ∧ v = .ref b ∧ lo = some a ∧ hi = some c ∧ H3 p = some (.lst xs) ∧ H3 b = some (.lst ys) ∧ p ≠ b ∧
  ((0 ≤ a ∧ a ≤ c ∧ c ≤ xs.length) ∨ (xs = [] ∧ a = 0 ∧ c = 1)) ∧ xs.length + ys.length ≤ sizeLine ∧ Q σ (upd H3 p (.lst (xs.take a.toNat ++ ys ++ xs.drop c.toNat)))
theorem pg_subS {o lo hi : Expr} {to : TE} {tl th : TO} (ho : PE X o to) (hl : PO X lo tl) (hu : PO X hi th) (ha : ∀ v, assign (.Subscript o (.Slice lo hi none p2) pos) X.env v = (do
      let ov ← holding [v] (eval o X.env)
      let iv ← holding [v, ov] (eval (.Slice lo hi none p2) X.env)
      standAt pos
      holding [v, ov, iv] (setItem ov iv v)
      release [iv, v, ov] []) := by intro _; rfl) : PG X (.Subscript o (.Slice lo hi none p2) pos) (gSubS to tl th) := by
  refine ⟨fun pins s σ H v u Q I r h => ?_⟩
  rw [ha]
  refine wpAny_bind (wpAny_holding (thn (ho.run pins s σ H _ I h) fun ov s1 ⟨x, H1, I1, r1, q1⟩ => ?_))
  refine wpAny_bind (wpAny_holding (wpAny_Slice (thn (hl.run pins s1 σ H1 _ I1 q1) fun vl s2 ⟨l, H2, I2, pl, q2⟩ => thn (hu.run pins s2 σ H2 _ I2 q2) fun vu s3 ⟨u3, H3, I3, pu, q3⟩ => ?_)))
  rw [evalPart_none]
  refine wpAny_pure ?_
  have I4 : Inv X pins σ H3 { s3 with heap := s3.heap.push { cls := .type "slice", data := .fields #[vl, vu, .none] } } := I3.kept (t' := s3.toks) fun b ob q => Heap.get?_push_of_some _ q
  obtain ⟨p, b, xs, ys, a, c, rfl, rfl, rfl, rfl, g1, g2, g3, g4, g5, g6⟩ := q3
  cases r1
  cases r
  refine wpAny_bind (wpAny_standAt (wpAny_bind (wpAny_holding ?_)))
  refine slice_at I4 g1 g2 g3 (Heap.IsSliceOf.new ..) ?_ ?_ g4 g5 fun s' I5 => ?_
  · cases pl
    exact ⟨_, rfl⟩
  · cases pu
    exact ⟨_, rfl⟩
  · exact wpAny_release ⟨σ, _, I5, g6⟩
end
/-! ### values beside lists that change -/
abbrev Al (M : List Addr) : Addr → Prop := fun b => b ∉ M
mutual
theorem Th.mono {N N' : Addr → Prop} {H : Hp} (k : ∀ b o, H b = some o → N b → N' b) : ∀ {v : V} {d : PyData}, Th N H v d → Th N' H v d
  | _, _, .non => .non
  | _, _, .bl b => .bl b
  | _, _, .int i => .int i
  | _, _, .str x => .str x
  | _, _, .lst a n b => .lst a (k _ _ a n) (ThAll.mono k b)
  | _, _, .tup a n b => .tup a (k _ _ a n) (ThAll.mono k b)
theorem ThAll.mono {N N' : Addr → Prop} {H : Hp} (k : ∀ b o, H b = some o → N b → N' b) : ∀ {v : List V} {d : List PyData}, ThAll N H v d → ThAll N' H v d
  | _, _, .nil => .nil
  | _, _, .cons a b => .cons (Th.mono k a) (ThAll.mono k b)
end
theorem Th.fresh {M : List Addr} {p : Addr} {H : Hp} {v : V} {d : PyData} (n : H p = none) (h : Th (Al M) H v d) : Th (Al (p :: M)) H v d := h.mono fun b o e nb z => by
  rcases List.mem_cons.mp z with rfl | z
  · rw [n] at e; cases e
  · exact nb z
structure Pl (d : PyData) (dp : Nat) : Prop where
  lay : d.canLay0 = true
  dep : d.depth ≤ dp
  sho : d.intsShort 13 = true
  say : d.showable = true
  nod : d.hasDict = false
theorem Neat.pl {d : PyData} {dp n : Nat} (h : Neat d dp n) : Pl d dp := ⟨h.lay, h.dep, h.sho, h.say, h.nod⟩
theorem Pl.neat {d : PyData} {dp : Nat} (h : Pl d dp) : Neat d dp d.weight := ⟨h.lay, h.dep, Nat.le_refl _, h.sho, h.say, h.nod⟩
theorem Pl.mono {d : PyData} {a b : Nat} (h : Pl d a) (l : a ≤ b) : Pl d b := ⟨h.lay, Nat.le_trans h.dep l, h.sho, h.say, h.nod⟩
theorem pl_all {dp : Nat} : ∀ {ds : List PyData}, (∀ d ∈ ds, Pl d dp) → NeatAll ds dp (PyData.weightAll ds)
  | [], _ => by simp only [PyData.weightAll]; exact .nil
  | d :: ds, h => by
    have := NeatAll.cons (h d (List.mem_cons_self ..)).neat (pl_all fun x hx => h x (List.mem_cons_of_mem _ hx))
    simp only [PyData.weightAll]
    exact this
theorem Pl.tup {ds : List PyData} {dp : Nat} (h : ∀ d ∈ ds, Pl d dp) : Pl (.tuple ds) (dp + 1) := (Neat.tup (pl_all h)).pl
theorem Pl.lst {ds : List PyData} {dp : Nat} (h : ∀ d ∈ ds, Pl d dp) : Pl (.list ds) (dp + 1) := (Neat.lst (pl_all h)).pl
theorem neat_each {dp n : Nat} : ∀ {ds : List PyData}, NeatAll ds dp n → ∀ d ∈ ds, Pl d dp
  | [], _, _, h => nomatch h
  | x :: ds, g, d, h => by
    have h1 := g.lay
    have h2 := g.dep
    have h3 := g.sho
    have h4 := g.say
    have h5 := g.nod
    simp only [PyData.canLayAll0, PyData.depthAll, PyData.intsShortAll, PyData.showableAll, PyData.hasDictAll, Bool.and_eq_true, Bool.or_eq_false_iff] at h1 h2 h3 h4 h5
    rcases List.mem_cons.mp h with rfl | h
    · exact ⟨h1.1, Nat.le_trans (Nat.le_max_left ..) h2, h3.1, h4.1, h5.1⟩
    · exact neat_each (n := PyData.weightAll ds) ⟨h1.2, Nat.le_trans (Nat.le_max_right ..) h2, Nat.le_refl _, h3.2, h4.2, h5.2⟩ d h
theorem Pl.inv {ds : List PyData} {dp : Nat} (h : Pl (.tuple ds) (dp + 1)) : ∀ d ∈ ds, Pl d dp := by
  refine neat_each (n := PyData.weightAll ds) ⟨?_, ?_, Nat.le_refl _, ?_, ?_, ?_⟩
  · have := h.lay; simpa only [PyData.canLay0] using this
  · have := h.dep; simp only [PyData.depth] at this; omega
  · have := h.sho; simpa only [PyData.intsShort] using this
  · have := h.say; simpa only [PyData.showable] using this
  · have := h.nod; simpa only [PyData.hasDict] using this
theorem wt_lst {ds : List PyData} : (PyData.list ds).weight = PyData.weightAll ds := by simp only [PyData.weight]
theorem wt_le {E : Nat} : ∀ {ds : List PyData}, (∀ d ∈ ds, d.weight ≤ E) → PyData.weightAll ds ≤ ds.length * (E + 1)
  | [], _ => by simp only [PyData.weightAll]; exact Nat.zero_le _
  | d :: ds, h => by
    have := wt_le (E := E) (ds := ds) fun x hx => h x (List.mem_cons_of_mem _ hx)
    have := h d (List.mem_cons_self ..)
    simp only [PyData.weightAll, List.length_cons, Nat.add_mul]
    omega
/-- a value that is good beside the lists M -/
def Gd (M : List Addr) (E : Nat) (H : Hp) (y : V) : Prop := ∃ d, Th (Al M) H y d ∧ Pl d 4 ∧ d.weight ≤ E
theorem Gd.keep {M : List Addr} {E : Nat} {H H' : Hp} {y : V} (g : Gd M E H y) (k : ∀ b o, H b = some o → b ∉ M → H' b = some o) : Gd M E H' y := by
  obtain ⟨d, a, b⟩ := g
  exact ⟨d, a.keep k, b⟩
theorem Gd.same {M : List Addr} {E : Nat} {H H' : Hp} {y : V} (g : Gd M E H y) (s : Same H H') : Gd M E H' y := g.keep fun b o e _ => s b o e
theorem Gd.fresh {M : List Addr} {E : Nat} {p : Addr} {H : Hp} {y : V} (g : Gd M E H y) (n : H p = none) : Gd (p :: M) E H y := by
  obtain ⟨d, a, b⟩ := g
  exact ⟨d, a.fresh n, b⟩
theorem Gd.up {M : List Addr} {E E' : Nat} {H : Hp} {y : V} (g : Gd M E H y) (l : E ≤ E') : Gd M E' H y := by
  obtain ⟨d, a, b, c⟩ := g
  exact ⟨d, a, b, Nat.le_trans c l⟩
theorem gd_all {M : List Addr} {E : Nat} {H : Hp} : ∀ {ys : List V}, (∀ y ∈ ys, Gd M E H y) → ∃ ds, ThAll (Al M) H ys ds ∧ (∀ d ∈ ds, Pl d 4 ∧ d.weight ≤ E)
  | [], _ => ⟨[], .nil, fun _ h => nomatch h⟩
  | y :: ys, h => by
    obtain ⟨ds, a, b⟩ := gd_all (ys := ys) fun z hz => h z (List.mem_cons_of_mem _ hz)
    obtain ⟨d, c, e⟩ := h y (List.mem_cons_self ..)
    exact ⟨d :: ds, .cons c a, fun x hx => (List.mem_cons.mp hx).elim (fun z => z ▸ e) (b x)⟩
/-- the same, less deep -/
def G3 (M : List Addr) (E : Nat) (H : Hp) (y : V) : Prop := ∃ d, Th (Al M) H y d ∧ Pl d 3 ∧ d.weight ≤ E
theorem G3.gd {M : List Addr} {E : Nat} {H : Hp} {y : V} (g : G3 M E H y) : Gd M E H y := by
  obtain ⟨d, a, b, c⟩ := g
  exact ⟨d, a, b.mono (by decide), c⟩
theorem G3.up {M : List Addr} {E E' : Nat} {H : Hp} {y : V} (g : G3 M E H y) (l : E ≤ E') : G3 M E' H y := by
  obtain ⟨d, a, b, c⟩ := g
  exact ⟨d, a, b, Nat.le_trans c l⟩
theorem g3_int {M : List Addr} {H : Hp} {i : Int} (h : i.natAbs < 10 ^ 12) : G3 M 41 H (.int i) := ⟨_, .int i, (Neat.int (dp := 3) h).pl, (Neat.int (dp := 3) h).wei⟩
theorem g3_str {M : List Addr} {H : Hp} {z : Str} (h : PyData.canLay0 (.str z) = true) (n : z.cps.size ≤ 41) : G3 M 41 H (.str z) := ⟨_, .str z, (Neat.str (dp := 3) (n := 41) h n).pl, (Neat.str (dp := 3) (n := 41) h n).wei⟩
theorem g3_bl {M : List Addr} {H : Hp} {b : Bool} : G3 M 41 H (.bl b) := ⟨_, .bl b, (Neat.bool (dp := 3)).pl, Nat.le_trans (Neat.bool (dp := 3)).wei (by decide)⟩
theorem g3_non {M : List Addr} {H : Hp} : G3 M 41 H .non := ⟨_, .non, (Neat.non (dp := 3)).pl, Nat.le_trans (Neat.non (dp := 3)).wei (by decide)⟩
theorem gd_int {M : List Addr} {H : Hp} {i : Int} (h : i.natAbs < 10 ^ 12) : Gd M 41 H (.int i) := (g3_int h).gd
/-- a flat tuple, a flat list -/
def Flt1 (H : Hp) (y : V) : Prop := (∃ i : Int, y = .int i ∧ i.natAbs < 10 ^ 12) ∨ (∃ z : Str, y = .str z ∧ PyData.canLay0 (.str z) = true ∧ z.cps.size ≤ 41) ∨ ∃ b : Bool, y = .bl b
theorem flt_all {N : Addr → Prop} {H : Hp} : ∀ {ys : List V}, (∀ y ∈ ys, Flt1 H y) → ∃ ds, ThAll N H ys ds ∧ (∀ d ∈ ds, Pl d 0 ∧ d.weight ≤ 41) ∧ ds.length = ys.length
  | [], _ => ⟨[], .nil, (fun _ h => nomatch h), rfl⟩
  | y :: ys, h => by
    obtain ⟨ds, a, b, c⟩ := flt_all (N := N) (ys := ys) fun z hz => h z (List.mem_cons_of_mem _ hz)
    obtain ⟨d, e, f⟩ : ∃ d, Th N H y d ∧ Pl d 0 ∧ d.weight ≤ 41 := by
      rcases h y (List.mem_cons_self ..) with ⟨i, rfl, hi⟩ | ⟨z, rfl, h1, h2⟩ | ⟨b, rfl⟩
      · exact ⟨_, .int i, (Neat.int (dp := 0) hi).pl, (Neat.int (dp := 0) hi).wei⟩
      · exact ⟨_, .str z, (Neat.str (dp := 0) (n := 41) h1 h2).pl, (Neat.str (dp := 0) (n := 41) h1 h2).wei⟩
      · exact ⟨_, .bl b, (Neat.bool (dp := 0)).pl, Nat.le_trans (Neat.bool (dp := 0)).wei (by decide)⟩
    exact ⟨d :: ds, .cons e a, (fun x hx => (List.mem_cons.mp hx).elim (fun z => z ▸ f) (b x)), by rw [List.length_cons, List.length_cons, c]⟩
theorem g3_tup {M : List Addr} {H : Hp} {p : Addr} {ys : List V} (h : H p = some (.tup ys)) (n : p ∉ M) (l : ys.length ≤ 2) (f : ∀ y ∈ ys, Flt1 H y) : G3 M 100 H (.ref p) := by
  obtain ⟨ds, a, b, c⟩ := flt_all (N := Al M) f
  refine ⟨_, .tup h n a, (Pl.tup fun d hd => (b d hd).1).mono (by decide), ?_⟩
  rw [wt_tup]
  have := wt_le fun d hd => (b d hd).2
  have : ds.length * 42 ≤ 2 * 42 := Nat.mul_le_mul_right _ (by omega)
  omega
theorem g3_lst {M : List Addr} {H : Hp} {p : Addr} {ys : List V} (h : H p = some (.lst ys)) (n : p ∉ M) (l : ys.length ≤ 2) (f : ∀ y ∈ ys, Flt1 H y) : G3 M 100 H (.ref p) := by
  obtain ⟨ds, a, b, c⟩ := flt_all (N := Al M) f
  refine ⟨_, .lst h n a, (Pl.lst fun d hd => (b d hd).1).mono (by decide), ?_⟩
  rw [wt_lst]
  have := wt_le fun d hd => (b d hd).2
  have : ds.length * 42 ≤ 2 * 42 := Nat.mul_le_mul_right _ (by omega)
  omega
theorem gd_tup {M : List Addr} {H : Hp} {p : Addr} {ys : List V} (h : H p = some (.tup ys)) (n : p ∉ M) (l : ys.length ≤ 2) (f : ∀ y ∈ ys, Flt1 H y) : Gd M 100 H (.ref p) := (g3_tup h n l f).gd
theorem f_str {H : Hp} {z : Str} (h : PyData.canLay0 (.str z) = true) (n : z.cps.size ≤ 41) : Flt1 H (.str z) := .inr (.inl ⟨z, rfl, h, n⟩)
theorem f_int {H : Hp} {i : Int} (h : i.natAbs < 10 ^ 12) : Flt1 H (.int i) := .inl ⟨i, rfl, h⟩
theorem f_one {H : Hp} {y : V} (h : Flt1 H y) : ∀ z ∈ [y], Flt1 H z := fun z hz => by rw [List.mem_singleton.mp hz]; exact h
theorem not_dom {M : List Addr} {H : Hp} {p : Addr} (m : ∀ b ∈ M, H b ≠ none) (n : H p = none) : p ∉ M := fun z => m p z n
section
variable {P : Program} {w : World} {K : PySem.W.Frag} {mg : Str → Option Value} {base : Heap}
def sp_law_odd (K : PySem.W.Frag) : Sp := fun vs H Q _ => ∃ f c : Addr, vs = [.ref f] ∧ Flow H f c ∧ ∀ (v : V) (H' : Hp), (∀ M : List Addr, (∀ b ∈ M, H b ≠ none) → G3 M 100 H' v) → Flow H' f c → But f H H' → Q v H'
theorem ok_law_odd {f : Addr} {fd : FuncData} (F : Fun K "_law_odd" "_law_odd" s_law_odd f fd) (T : Top w K mg) : FnOk P w K mg base CX0 2 f fd ["_law_flow_here"] (sp_law_odd K) := by
  obtain ⟨f_law_pick, fd_law_pick, F_law_pick, b_law_pick, m_law_pick⟩ := T.d_law_pick
  have G_law_pick := ok_law_pick (P := P) (w := w) (base := base) F_law_pick T
  refine F.ok sc_law_odd (fun vs H Q E h => ?_) (fun cdv A outer s H vs Q E hr h => ?_)
  · obtain ⟨f, c, rfl, _⟩ := h
    rfl
  obtain ⟨f, c, rfl, hF, q⟩ := h
  refine ⟨_, (pss_cons (ps_set (i := 1) sc_law_odd.nd rfl (Or.inl rfl) (pe_lst (pa_cons pe_non (pa_cons pe_bl (pa_cons pe_bl (pa_cons pe_str (pa_cons pe_str (pa_cons (pe_tup pa_nil) (pa_cons (pe_lst pa_nil) (pa_cons (pe_tup (pa_cons pe_str pa_nil)) (pa_cons (pe_tup (pa_cons pe_int pa_nil)) (pa_cons (pe_lst (pa_cons pe_int pa_nil)) (pa_cons (pe_un un_neg pe_int) (pa_cons (pe_call G_law_pick (hr.mono (by decide)) (by rfl) m_law_pick F_law_pick.kp b_law_pick .nil pass0 (pa_cons (pv 0) (pa_cons pe_int pa_nil))) pa_nil))))))))))))))
      (pss_one (ps_ret (pe_ix (ix_listK K rfl) (pv 1) (pe_call G_law_pick (hr.mono (by decide)) (by rfl) m_law_pick F_law_pick.kp b_law_pick .nil pass0 (pa_cons (pv 0) (pa_cons pe_int pa_nil))) (fun _ _ => rfl))))), ?_⟩
  refine ⟨(by show 0 ≤ sizeLine; decide), fun p1 n1 => ⟨(by show 0 ≤ sizeLine; decide), fun p2 n2 => ⟨(by show 1 ≤ sizeLine; decide), fun p3 n3 => ⟨(by show 1 ≤ sizeLine; decide), fun p4 n4 => ⟨(by show 1 ≤ sizeLine; decide), fun p5 n5 => ?_⟩⟩⟩⟩⟩
  have u1 := same_new (o := .tup ([] : List V)) n1
  have u2 := same_new (o := .lst ([] : List V)) n2
  have u3 := same_new (o := .tup [V.str "same"]) n3
  have u4 := same_new (o := .tup [V.int 0]) n4
  have u5 := same_new (o := .lst [V.int 3]) n5
  have s05 := u1.trans (u2.trans (u3.trans (u4.trans u5)))
  have g1 := (u2.trans (u3.trans (u4.trans u5))) _ _ (upd_same (H := H) (a := p1) (o := .tup ([] : List V)))
  have g2 := (u3.trans (u4.trans u5)) _ _ (upd_same (H := upd H p1 (.tup ([] : List V))) (a := p2) (o := .lst ([] : List V)))
  have g3 := (u4.trans u5) _ _ (upd_same (a := p3) (o := .tup [V.str "same"]))
  have g4 := u5 _ _ (upd_same (a := p4) (o := .tup [V.int 0]))
  have g5 := upd_same (H := upd (upd (upd (upd H p1 (.tup ([] : List V))) p2 (.lst ([] : List V))) p3 (.tup [V.str "same"])) p4 (.tup [V.int 0])) (a := p5) (o := .lst [V.int 3])
  have z2 := same_none u1 n2
  have z3 := same_none (u1.trans u2) n3
  have z4 := same_none (u1.trans (u2.trans u3)) n4
  have z5 := same_none (u1.trans (u2.trans (u3.trans u4))) n5
  have F5 := hF.same s05
  have fr : ∀ p, H p = none → p ≠ f := fun p np z => by
    subst z
    obtain ⟨_, _, _, _, _, e1, _⟩ := hF
    rw [e1] at np
    cases np
  generalize upd (upd (upd (upd (upd H p1 (.tup ([] : List V))) p2 (.lst ([] : List V))) p3 (.tup [V.str "same"])) p4 (.tup [V.int 0])) p5 (.lst [V.int 3]) = H5 at *
  refine ⟨_, rfl, _, rfl, f, c, 30, rfl, by decide, by decide +kernel, F5, fun n H6 x0 x1 F6 B6 => ⟨(by show 12 ≤ sizeLine; decide), fun p7 n7 => ?_⟩⟩
  have u7 := same_new (o := .lst [V.non, .bl true, .bl false, .str "in", .str "", .ref p1, .ref p2, .ref p3, .ref p4, .ref p5, .int (-1), .int n]) n7
  have g7 := upd_same (H := H6) (a := p7) (o := .lst [V.non, .bl true, .bl false, .str "in", .str "", .ref p1, .ref p2, .ref p3, .ref p4, .ref p5, .int (-1), .int n])
  have p7f : p7 ≠ f := F6.ne n7
  refine ⟨_, rfl, _, rfl, f, c, 12, rfl, by decide, by decide +kernel, F6.same u7, fun z H8 z0 z1 F8 B8 => ?_⟩
  have up : ∀ b o, H5 b = some o → b ≠ f → H8 b = some o := fun b o e nb => B8 _ _ (u7 _ _ (B6 _ _ e nb)) nb
  have BB : But f H H8 := (But.of s05).trans (B6.trans ((But.of u7).trans B8))
  obtain ⟨v, hv, hg⟩ : ∃ v, atI [V.non, .bl true, .bl false, .str "in", .str "", .ref p1, .ref p2, .ref p3, .ref p4, .ref p5, .int (-1), .int n] z = some v ∧ ∀ M : List Addr, (∀ b ∈ M, H b ≠ none) → G3 M 100 H8 v := by
    have : z = 0 ∨ z = 1 ∨ z = 2 ∨ z = 3 ∨ z = 4 ∨ z = 5 ∨ z = 6 ∨ z = 7 ∨ z = 8 ∨ z = 9 ∨ z = 10 ∨ z = 11 := by omega
    rcases this with rfl | rfl | rfl | rfl | rfl | rfl | rfl | rfl | rfl | rfl | rfl | rfl
    · exact ⟨_, rfl, fun M m => g3_non.up (by decide)⟩
    · exact ⟨_, rfl, fun M m => g3_bl.up (by decide)⟩
    · exact ⟨_, rfl, fun M m => g3_bl.up (by decide)⟩
    · exact ⟨_, rfl, fun M m => (g3_str (by decide +kernel) (by decide +kernel)).up (by decide)⟩
    · exact ⟨_, rfl, fun M m => (g3_str (by decide +kernel) (by decide +kernel)).up (by decide)⟩
    · exact ⟨_, rfl, fun M m => g3_tup (up _ _ g1 (fr _ n1)) (not_dom m n1) (by decide) (fun _ h => nomatch h)⟩
    · exact ⟨_, rfl, fun M m => g3_lst (up _ _ g2 (fr _ z2)) (not_dom m z2) (by decide) (fun _ h => nomatch h)⟩
    · exact ⟨_, rfl, fun M m => g3_tup (up _ _ g3 (fr _ z3)) (not_dom m z3) (by decide) (f_one (f_str (by decide +kernel) (by decide +kernel)))⟩
    · exact ⟨_, rfl, fun M m => g3_tup (up _ _ g4 (fr _ z4)) (not_dom m z4) (by decide) (f_one (f_int (by decide)))⟩
    · exact ⟨_, rfl, fun M m => g3_lst (up _ _ g5 (fr _ z5)) (not_dom m z5) (by decide) (f_one (f_int (by decide)))⟩
    · exact ⟨_, rfl, fun M m => (g3_int (by decide)).up (by decide)⟩
    · exact ⟨_, rfl, fun M m => (g3_int (by omega)).up (by decide)⟩
  exact ⟨p7, _, _, _, rfl, rfl, SqL.of (B8 _ _ g7 p7f), hv, q _ _ hg F8 BB⟩
/-- one put in, put in another one's place, or left out -/
def Put {α : Type} (xs : List α) (y : α) (ys : List α) : Prop := ∃ k : Nat, k ≤ xs.length ∧ (ys = xs.take k ++ y :: xs.drop k ∨ ys = xs.take k ++ y :: xs.drop (k + 1) ∨ ys = xs.take k ++ xs.drop (k + 1))
theorem Put.len {α : Type} {xs ys : List α} {y : α} (h : Put xs y ys) : ys.length ≤ xs.length + 1 := by
  obtain ⟨k, hk, rfl | rfl | rfl⟩ := h
  · rw [List.length_append, List.length_cons, List.length_take, List.length_drop]; omega
  · rw [List.length_append, List.length_cons, List.length_take, List.length_drop]; omega
  · rw [List.length_append, List.length_take, List.length_drop]; omega
theorem Put.mem {α : Type} {xs ys : List α} {y : α} (h : Put xs y ys) : ∀ z ∈ ys, z ∈ xs ∨ z = y := by
  obtain ⟨k, hk, rfl | rfl | rfl⟩ := h
  · intro z hz
    rcases List.mem_append.mp hz with hz | hz
    · exact .inl (List.mem_of_mem_take hz)
    · rcases List.mem_cons.mp hz with hz | hz
      · exact .inr hz
      · exact .inl (List.mem_of_mem_drop hz)
  · intro z hz
    rcases List.mem_append.mp hz with hz | hz
    · exact .inl (List.mem_of_mem_take hz)
    · rcases List.mem_cons.mp hz with hz | hz
      · exact .inr hz
      · exact .inl (List.mem_of_mem_drop hz)
  · intro z hz
    rcases List.mem_append.mp hz with hz | hz
    · exact .inl (List.mem_of_mem_take hz)
    · exact .inl (List.mem_of_mem_drop hz)
theorem cut_take (xs : List V) (k : Nat) : cutV xs none (some ((k : Nat) : Int)) = xs.take k := by
  unfold cutV
  rw [HT.sIx_nat, HT.sIx_none, List.drop_zero, Nat.sub_zero]
  by_cases h : k ≤ xs.length
  · rw [Nat.min_eq_left h]
  · rw [Nat.min_eq_right (by omega), List.take_length, List.take_of_length_le (by omega)]
theorem rep_one (x : V) : (List.replicate (1 : Int).toNat [x]).flatten = [x] := rfl
def sp_law_put (K : PySem.W.Frag) : Sp := fun vs H Q _ => ∃ (f c l : Addr) (xs : List V) (y : V), vs = [.ref f, .ref l, y] ∧ H l = some (.lst xs) ∧ l ≠ f ∧ xs ≠ [] ∧ xs.length ≤ 900 ∧ Flow H f c ∧
  ∀ (p : Addr) (ys : List V) (H' : Hp), Put xs y ys → H p = none → p ≠ f → H' p = some (.lst ys) → Flow H' f c → But f H H' → Q (.ref p) H'
theorem ok_law_put {f : Addr} {fd : FuncData} (F : Fun K "_law_put" "_law_put" s_law_put f fd) (T : Top w K mg) : FnOk P w K mg base CX0 2 f fd ["_law_flow_here", "_law_some", "_law_one"] (sp_law_put K) := by
  obtain ⟨f_law_pick, fd_law_pick, F_law_pick, b_law_pick, m_law_pick⟩ := T.d_law_pick
  have G_law_pick := ok_law_pick (P := P) (w := w) (base := base) F_law_pick T
  refine F.ok sc_law_put (fun vs H Q E h => ?_) (fun cdv A outer s H vs Q E hr h => ?_)
  · obtain ⟨f, c, l, xs, y, rfl, _⟩ := h
    rfl
  obtain ⟨f, c, l, xs, y, rfl, hl, nl, hne, hlen, hF, q⟩ := h
  have hpos := List.length_pos_iff.mpr hne
  refine ⟨_, (pss_cons (ps_set (i := 3) sc_law_put.nd rfl (Or.inl rfl) (pe_call G_law_pick (hr.mono (by decide)) (by rfl) m_law_pick F_law_pick.kp b_law_pick .nil pass0 (pa_cons (pv 0) (pa_cons pe_int pa_nil))))
      (pss_cons (ps_set (i := 4) sc_law_put.nd rfl (Or.inl rfl) (pe_call G_law_pick (hr.mono (by decide)) (by rfl) m_law_pick F_law_pick.kp b_law_pick .nil pass0 (pa_cons (pv 0) (pa_cons (pe_op op_add (pe_callB (call_len_seqK K rfl) (by rfl) T.m_len (by decide +kernel) (pa_cons (pv 1) pa_nil)) (pe_callTy call_int1 (by rfl) T.m_int (by decide +kernel) (pa_cons (pe_cmpR op_eq (pv 3) pe_int (nomark _)) pa_nil))) pa_nil))))
      (pss_cons (ps_if (pt_cmpR op_eq (pv 3) pe_int (nomark _)) (pss_one (ps_ret (pe_op op_cat (pe_op op_cat (pe_slice (sl_listK K rfl) (pv 1) po_none (po_some (pv 4))) (pe_lst (pa_cons (pv 2) pa_nil))) (pe_slice (sl_listK K rfl) (pv 1) (po_some (pv 4)) po_none)))) pss_nil)
      (pss_one (ps_ret (pe_op op_cat (pe_op op_cat (pe_slice (sl_listK K rfl) (pv 1) po_none (po_some (pv 4))) (pe_op op_rep (pe_lst (pa_cons (pv 2) pa_nil)) (pe_op op_sub pe_int (pv 3)))) (pe_slice (sl_listK K rfl) (pv 1) (po_some (pe_op op_add (pv 4) pe_int)) po_none))))))), ?_⟩
  refine ⟨_, rfl, f, c, 3, rfl, by decide, by decide +kernel, hF, fun v1 H1 a1 b1 F1 B1 => ?_⟩
  have hl1 := B1 _ _ hl nl
  have lim : ∀ k : Nat, k ≤ 1 → (((xs.length : Nat) : Int) + (k : Int)).natAbs.log2 < 9000 := fun k hk => by
    rw [show ((xs.length : Nat) : Int) + (k : Int) = ((xs.length + k : Nat) : Int) by omega]
    exact Nat.lt_of_le_of_lt (Nat.log2_le_self _) (by omega)
  obtain ⟨k, ek, k1, k0⟩ : ∃ k : Nat, (if decide (V.int v1 = V.int 0) = true then (1 : Int) else 0) = (k : Int) ∧ k ≤ 1 ∧ (v1 ≠ 0 → k = 0) := by
    by_cases z : V.int v1 = V.int 0
    · exact ⟨1, by rw [decide_eq_true z]; rfl, by decide, fun y => absurd (V.int.inj z) y⟩
    · exact ⟨0, by rw [decide_eq_false z]; rfl, by decide, fun _ => rfl⟩
  refine ⟨_, rfl, _, rfl, l, _, rfl, .inl (SqL.of hl1), _, rfl, rfl, .inr ⟨_, rfl, _, _, rfl, rfl, ?_⟩⟩
  rw [ek]
  refine ⟨f, c, _, rfl, by omega, lim k k1, F1, fun at_ H2 p0 p1 F2 B2 => ?_⟩
  have hl2 := B2 _ _ hl1 nl
  obtain ⟨n, rfl⟩ : ∃ n : Nat, at_ = ((n : Nat) : Int) := ⟨at_.toNat, by omega⟩
  have cl := fun lo hi => cutV_length xs lo hi
  refine ⟨_, rfl, rfl, _, rfl, if_bl (fun _ => ?_) (fun w0 => ?_)⟩
  · refine ⟨_, rfl, _, rfl, _, rfl, l, _, rfl, SqL.of hl2, fun p1 np1 => ?_⟩
    refine ⟨_, rfl, (by show 1 ≤ sizeLine; decide), fun p2 np2 => ⟨p1, p2, _, _, rfl, rfl, same_new np2 _ _ upd_same, upd_same, ?_, fun p3 np3 => ?_⟩⟩
    · have := cl none (some ((n : Nat) : Int))
      exact little (by show _ + 1 ≤ 1000; omega)
    refine ⟨_, rfl, _, rfl, _, rfl, l, _, rfl, SqL.of (same_new np3 _ _ (same_new np2 _ _ (same_new np1 _ _ hl2))), fun p4 np4 => ⟨p3, p4, _, _, rfl, rfl, same_new np4 _ _ upd_same, upd_same, ?_, fun p5 np5 => ?_⟩⟩
    · have := cl (some ((n : Nat) : Int)) none
      rw [cut_take, cut_drop, List.length_append, List.length_take, List.length_drop]
      exact little (by show _ + 1 + _ ≤ 1000; omega)
    have F6 := (((F2.new (o := .lst (cutV xs none (some ((n : Nat) : Int)))) np1).new (o := .lst [y]) np2).new (o := .lst (cutV xs none (some ((n : Nat) : Int)) ++ [y])) np3).new (o := .lst (cutV xs (some ((n : Nat) : Int)) none)) np4
    have BB := ((((B1.trans B2).new (o := .lst (cutV xs none (some ((n : Nat) : Int)))) np1).new (o := .lst [y]) np2).new (o := .lst (cutV xs none (some ((n : Nat) : Int)) ++ [y])) np3).new (o := .lst (cutV xs (some ((n : Nat) : Int)) none)) np4
    refine q p5 _ _ ?_ (BB.none np5 (F6.ne np5)) (F6.ne np5) upd_same (F6.new np5) (BB.new np5)
    refine ⟨n, by omega, .inl ?_⟩
    rw [cut_take, cut_drop, List.append_assoc]
    rfl
  · have w0 : v1 ≠ 0 := fun z => of_decide_eq_false w0 (by rw [z])
    have k00 := k0 w0
    refine ⟨_, rfl, _, rfl, _, rfl, l, _, rfl, SqL.of hl2, fun p1 np1 => ?_⟩
    refine ⟨_, rfl, (by show 1 ≤ sizeLine; decide), fun p2 np2 => ⟨_, rfl, _, _, rfl, rfl, p2, 2 - v1, _, rfl, rfl, upd_same, by omega, by omega, little (by show 1 * _ ≤ 1000; omega), fun p2b np2b => ?_⟩⟩
    have fr : (List.replicate (2 - v1).toNat [y]).flatten = List.replicate (2 - v1).toNat y := by
      generalize (2 - v1).toNat = m
      induction m with
      | zero => rfl
      | succ m ih => rw [List.replicate_succ, List.flatten_cons, ih]; rfl
    rw [fr]
    refine ⟨p1, p2b, _, _, rfl, rfl, same_new np2b _ _ (same_new np2 _ _ upd_same), upd_same, ?_, fun p3 np3 => ?_⟩
    · have := cl none (some ((n : Nat) : Int))
      rw [List.length_replicate]
      exact little (by omega)
    refine ⟨_, rfl, _, rfl, _, _, rfl, rfl, _, rfl, l, _, rfl, SqL.of (same_new np3 _ _ (same_new np2b _ _ (same_new np2 _ _ (same_new np1 _ _ hl2)))), fun p4 np4 => ⟨p3, p4, _, _, rfl, rfl, same_new np4 _ _ upd_same, upd_same, ?_, fun p5 np5 => ?_⟩⟩
    · have := cl none (some ((n : Nat) : Int))
      have := cl (some (((n : Nat) : Int) + 1)) none
      rw [List.length_append, List.length_replicate, cut_take, List.length_take]
      have e : cutV xs (some (((n : Nat) : Int) + 1)) none = xs.drop (n + 1) := cut_drop xs (n + 1)
      rw [e, List.length_drop]
      exact little (by omega)
    have F6 := ((((F2.new (o := .lst (cutV xs none (some ((n : Nat) : Int)))) np1).new (o := .lst [y]) np2).new (o := .lst (List.replicate (2 - v1).toNat y)) np2b).new (o := .lst (cutV xs none (some ((n : Nat) : Int)) ++ List.replicate (2 - v1).toNat y)) np3).new (o := .lst (cutV xs (some (((n : Nat) : Int) + 1)) none)) np4
    have BB := (((((B1.trans B2).new (o := .lst (cutV xs none (some ((n : Nat) : Int)))) np1).new (o := .lst [y]) np2).new (o := .lst (List.replicate (2 - v1).toNat y)) np2b).new (o := .lst (cutV xs none (some ((n : Nat) : Int)) ++ List.replicate (2 - v1).toNat y)) np3).new (o := .lst (cutV xs (some (((n : Nat) : Int) + 1)) none)) np4
    refine q p5 _ _ ?_ (BB.none np5 (F6.ne np5)) (F6.ne np5) upd_same (F6.new np5) (BB.new np5)
    have e : cutV xs (some (((n : Nat) : Int) + 1)) none = xs.drop (n + 1) := cut_drop xs (n + 1)
    rw [cut_take, e]
    by_cases z : v1 = 1
    · refine ⟨n, by omega, .inr (.inl ?_)⟩
      rw [z, List.append_assoc]
      rfl
    · have : v1 = 2 := by omega
      refine ⟨n, by omega, .inr (.inr ?_)⟩
      rw [this]
      show List.take n xs ++ [] ++ _ = _
      rw [List.append_nil]
end
/-! ### rooms of bounded size -/
def ElD (E : Nat) (x : PyData) : Prop := Pl x 5 ∧ x.weight ≤ 5 * (E + 1) ∧ ∀ ds, x = .tuple ds → ∀ y ∈ ds, Pl y 4 ∧ y.weight ≤ E
def SzD (E L : Nat) (d : PyData) : Prop := ∃ as bs, d = .tuple [.tuple as, .tuple bs] ∧ as.length ≤ L ∧ bs.length ≤ L ∧ (∀ x ∈ as, ElD E x) ∧ ∀ x ∈ bs, ElD E x
theorem ElD.up {E E' : Nat} {x : PyData} (h : ElD E x) (l : E ≤ E') : ElD E' x := ⟨h.1, by have := h.2.1; omega, fun ds e y hy => ⟨(h.2.2 ds e y hy).1, Nat.le_trans (h.2.2 ds e y hy).2 l⟩⟩
theorem SzD.smD {E L : Nat} {d : PyData} (h : SzD E L d) (l : L ≤ 400) : SmD d := fun hs bs e => by
  obtain ⟨as, cs, e2, l1, l2, a1, a2⟩ := h
  rw [e] at e2
  have e3 := PyData.tuple.inj e2
  obtain ⟨f1, f2⟩ := List.cons.inj e3
  obtain ⟨f2, _⟩ := List.cons.inj f2
  have f1 := PyData.tuple.inj f1
  have f2 := PyData.tuple.inj f2
  rw [← f1, List.length_map] at l1
  rw [← f2, List.length_map] at l2
  refine ⟨by omega, by omega, fun h hh => ?_⟩
  have := a1 h.d (by rw [← f1]; exact List.mem_map.mpr ⟨h, hh, rfl⟩)
  have p := (this.2.2 _ rfl h.r (List.mem_cons_self ..)).1
  exact Neat.shaped p.neat (by decide)
theorem SzD.neat {E L : Nat} {d : PyData} (h : SzD E L d) : Neat d 7 (2 * (L * (5 * (E + 1) + 1)) + 2) := by
  obtain ⟨as, cs, rfl, l1, l2, a1, a2⟩ := h
  have p : Pl (.tuple [.tuple as, .tuple cs]) 7 := Pl.tup fun x hx => by
    rcases List.mem_cons.mp hx with rfl | hx
    · exact Pl.tup fun y hy => (a1 y hy).1
    · rw [List.mem_singleton.mp hx]
      exact Pl.tup fun y hy => (a2 y hy).1
  refine p.neat.mono (Nat.le_refl _) ?_
  have w1 := wt_le fun y hy => (a1 y hy).2.1
  have w2 := wt_le fun y hy => (a2 y hy).2.1
  have m1 : as.length * (5 * (E + 1) + 1) ≤ L * (5 * (E + 1) + 1) := Nat.mul_le_mul_right _ l1
  have m2 : cs.length * (5 * (E + 1) + 1) ≤ L * (5 * (E + 1) + 1) := Nat.mul_le_mul_right _ l2
  simp only [PyData.weight, PyData.weightAll]
  omega
theorem ThAll.app' {N : Addr → Prop} {H : Hp} : ∀ {vs ws : List V} {ds es : List PyData}, ThAll N H vs ds → ThAll N H ws es → ThAll N H (vs ++ ws) (ds ++ es) := fun a b => a.app b
theorem ThAll.take {N : Addr → Prop} {H : Hp} : ∀ {vs : List V} {ds : List PyData}, ThAll N H vs ds → ∀ k, ThAll N H (vs.take k) (ds.take k)
  | _, _, .nil, k => by rw [List.take_nil, List.take_nil]; exact .nil
  | _, _, .cons _ _, 0 => .nil
  | _, _, .cons h t, k + 1 => .cons h (t.take k)
theorem ThAll.drop {N : Addr → Prop} {H : Hp} : ∀ {vs : List V} {ds : List PyData}, ThAll N H vs ds → ∀ k, ThAll N H (vs.drop k) (ds.drop k)
  | _, _, .nil, k => by rw [List.drop_nil, List.drop_nil]; exact .nil
  | _, _, .cons h t, 0 => .cons h t
  | _, _, .cons _ t, k + 1 => t.drop k
theorem ThAll.put {N : Addr → Prop} {H : Hp} {vs ws : List V} {ds : List PyData} {y : V} {x : PyData} (h : ThAll N H vs ds) (g : Th N H y x) (p : Put vs y ws) : ∃ es, Put ds x es ∧ ThAll N H ws es := by
  obtain ⟨k, hk, e | e | e⟩ := p
  · exact ⟨ds.take k ++ x :: ds.drop k, ⟨k, by rw [← h.length]; exact hk, .inl rfl⟩, e ▸ (h.take k).app (.cons g (h.drop k))⟩
  · exact ⟨ds.take k ++ x :: ds.drop (k + 1), ⟨k, by rw [← h.length]; exact hk, .inr (.inl rfl)⟩, e ▸ (h.take k).app (.cons g (h.drop (k + 1)))⟩
  · exact ⟨ds.take k ++ ds.drop (k + 1), ⟨k, by rw [← h.length]; exact hk, .inr (.inr rfl)⟩, e ▸ (h.take k).app (h.drop (k + 1))⟩
theorem Put.wt {ds es : List PyData} {x : PyData} (p : Put ds x es) : PyData.weightAll es ≤ PyData.weightAll ds + x.weight + 1 := by
  obtain ⟨k, hk, e | e | e⟩ := p
  · have : PyData.weightAll (ds.take k) + PyData.weightAll (ds.drop k) = PyData.weightAll ds := by rw [← wt_app, List.take_append_drop]
    rw [e, wt_app]
    simp only [PyData.weightAll]
    omega
  all_goals
    have h1 : PyData.weightAll (ds.take k) + PyData.weightAll (ds.drop k) = PyData.weightAll ds := by rw [← wt_app, List.take_append_drop]
    have h2 : PyData.weightAll (ds.drop (k + 1)) ≤ PyData.weightAll (ds.drop k) := by
      have : ds.drop k = (ds.drop k).take 1 ++ (ds.drop k).drop 1 := (List.take_append_drop 1 _).symm
      rw [this, wt_app, List.drop_drop]
      omega
    rw [e, wt_app]
    try simp only [PyData.weightAll]
    omega
theorem el_hand {E L : Nat} {hs : List HX} {bs : List BX} (h : SzD E L (roomX hs bs)) : hs.length ≤ L ∧ bs.length ≤ L ∧ (∀ x ∈ hs, ElD E x.d) ∧ ∀ x ∈ bs, ElD E x.d := by
  obtain ⟨as, cs, e2, l1, l2, a1, a2⟩ := h
  have e3 := PyData.tuple.inj e2
  obtain ⟨f1, f2⟩ := List.cons.inj e3
  obtain ⟨f2, _⟩ := List.cons.inj f2
  have f1 := PyData.tuple.inj f1
  have f2 := PyData.tuple.inj f2
  subst f1 f2
  rw [List.length_map] at l1 l2
  exact ⟨l1, l2, fun x hx => a1 _ (List.mem_map.mpr ⟨x, hx, rfl⟩), fun x hx => a2 _ (List.mem_map.mpr ⟨x, hx, rfl⟩)⟩
section
variable {P : Program} {w : World} {K : PySem.W.Frag} {mg : Str → Option Value} {base : Heap}
def sp_law_other_kind (K : PySem.W.Frag) : Sp := fun vs H Q _ => ∃ (f c : Addr) (v : V) (d : PyData) (E L : Nat) (z : Int), vs = [.ref f, v, .int z] ∧ (z = 0 ∨ z = 1) ∧ Flow H f c ∧ Th (Al [f]) H v d ∧ formB d = true ∧ SzD E L d ∧ 100 ≤ E ∧ L ≤ 300 ∧
  ∀ (v' : V) (d' : PyData) (H' : Hp), Th (Al [f]) H' v' d' → SzD E (L + 1) d' → Flow H' f c → But f H H' → Q v' H'
theorem ok_law_other_kind {f : Addr} {fd : FuncData} (F : Fun K "_law_other_kind" "_law_other_kind" s_law_other_kind f fd) (T : Top w K mg) : FnOk P w K mg base CX0 3 f fd ["_law_flow_here", "_law_room_here", "_law_side"] (sp_law_other_kind K) := by
  obtain ⟨f_law_pick, fd_law_pick, F_law_pick, b_law_pick, m_law_pick⟩ := T.d_law_pick
  have G_law_pick := ok_law_pick (P := P) (w := w) (base := base) F_law_pick T
  obtain ⟨f_law_odd, fd_law_odd, F_law_odd, b_law_odd, m_law_odd⟩ := T.d_law_odd
  have G_law_odd := ok_law_odd (P := P) (w := w) (base := base) F_law_odd T
  refine F.ok sc_law_other_kind (fun vs H Q E h => ?_) (fun cdv A outer s H vs Q E hr h => ?_)
  · obtain ⟨f, c, v, d, E, L, z, rfl, _⟩ := h
    rfl
  obtain ⟨f, c, v, d, E, L, z, rfl, hz, hF, th, fm, sz, e100, l300, q⟩ := h
  obtain ⟨hs, bs, rfl⟩ := form_ex fm
  obtain ⟨lh, lb, eh1, eb1⟩ := el_hand sz
  cases th with
  | @tup r xs _ er nr al =>
  cases al with
  | cons h1 al =>
  cases al with
  | cons h2 al =>
  cases al
  cases h1 with
  | @tup ha hv _ eh nh alh =>
  cases h2 with
  | @tup ba bv _ eb nb alb =>
  have lhv := alh.length
  have lbv := alb.length
  rw [List.length_map] at lhv lbv
  refine ⟨_, (pss_cons (ps_set (i := 3) sc_law_other_kind.nd rfl (Or.inl rfl) (pe_lst (pa_cons (pe_callTy (call_list_ofK K rfl) (by rfl) T.m_list (by decide +kernel) (pa_cons (pe_ix (ix_tupK K rfl) (pv 1) pe_int (fun _ _ => rfl)) pa_nil)) (pa_cons (pe_callTy (call_list_ofK K rfl) (by rfl) T.m_list (by decide +kernel) (pa_cons (pe_ix (ix_tupK K rfl) (pv 1) pe_int (fun _ _ => rfl)) pa_nil)) pa_nil))))
      (pss_cons (ps_set (i := 4) sc_law_other_kind.nd rfl (Or.inl rfl) (pe_op op_cat (pe_ix (ix_listK K rfl) (pv 3) (pv 2) (fun _ _ => rfl)) (pe_lst (pa_cons (pe_tup pa_nil) pa_nil))))
      (pss_cons (ps_set (i := 5) sc_law_other_kind.nd rfl (Or.inl rfl) (pe_call G_law_pick (hr.mono (by decide)) (by rfl) m_law_pick F_law_pick.kp b_law_pick .nil pass0 (pa_cons (pv 0) (pa_cons (pe_callB (call_max2 rfl) (by rfl) T.m_max (by decide +kernel) (pa_cons pe_int (pa_cons (pe_callB (call_len_seqK K rfl) (by rfl) T.m_len (by decide +kernel) (pa_cons (pe_ix (ix_listK K rfl) (pv 3) (pv 2) (fun _ _ => rfl)) pa_nil)) pa_nil))) pa_nil))))
      (pss_cons (ps_asg (pe_lst (pa_cons (pe_ix (ix_listK K rfl) (pe_lst (pa_cons (pe_call G_law_odd (hr.mono (by decide)) (by rfl) m_law_odd F_law_odd.kp b_law_odd .nil pass0 (pa_cons (pv 0) pa_nil)) (pa_cons (pe_callTy (call_list_ofK K rfl) (by rfl) T.m_list (by decide +kernel) (pa_cons (pe_ix (ix_listK K rfl) (pv 4) (pv 5) (fun _ _ => rfl)) pa_nil)) pa_nil))) (pe_call G_law_pick (hr.mono (by decide)) (by rfl) m_law_pick F_law_pick.kp b_law_pick .nil pass0 (pa_cons (pv 0) (pa_cons pe_int pa_nil))) (fun _ _ => rfl)) pa_nil)) (pg_subS (pe_ix (ix_listK K rfl) (pv 3) (pv 2) (fun _ _ => rfl)) (po_some (pv 5)) (po_some (pe_op op_add (pv 5) pe_int))))
      (pss_one (ps_ret (pe_tup (pa_cons (pe_callTy (call_tuple_ofK K rfl) (by rfl) T.m_tuple (by decide +kernel) (pa_cons (pe_ix (ix_listK K rfl) (pv 3) pe_int (fun _ _ => rfl)) pa_nil)) (pa_cons (pe_callTy (call_tuple_ofK K rfl) (by rfl) T.m_tuple (by decide +kernel) (pa_cons (pe_ix (ix_listK K rfl) (pv 3) pe_int (fun _ _ => rfl)) pa_nil)) pa_nil))))))))), ?_⟩
  refine ⟨_, rfl, r, _, _, _, rfl, rfl, SqT.of er, atI_nat (j := 0) rfl, ha, _, rfl, .inr (SqT.of eh), fun l1 n1 => ?_⟩
  have u1 := same_new (o := .lst hv) n1
  refine ⟨_, rfl, r, _, _, _, rfl, rfl, SqT.of (u1 _ _ er), atI_nat (j := 1) rfl, ba, _, rfl, .inr (SqT.of (u1 _ _ eb)), fun l2 n2 => ?_⟩
  have u2 := same_new (o := .lst bv) n2
  have fr : ∀ p, H p = none → p ≠ f := fun p np z => by
    subst z
    obtain ⟨_, _, _, _, _, e1, _⟩ := hF
    rw [e1] at np
    cases np
  have n2' := same_none u1 n2
  have l12 : l1 ≠ l2 := fun z => by rw [z] at n2; rw [upd_same] at n2; cases n2
  have hl1 := u2 _ _ (upd_same (H := H) (a := l1) (o := .lst hv))
  have hl2 := upd_same (H := upd H l1 (.lst hv)) (a := l2) (o := .lst bv)
  have s2 := u1.trans u2
  have F2 := hF.same s2
  have F1 := hF.same u1
  have fA : ∀ {M : List Addr} {p : Addr} {H : Hp} {v : List V} {d : List PyData}, H p = none → ThAll (Al M) H v d → ThAll (Al (p :: M)) H v d := fun n h => h.mono fun b o e nb z => by
    rcases List.mem_cons.mp z with rfl | z
    · rw [n] at e; cases e
    · exact nb z
  have alh2 : ThAll (Al [l2, l1, f]) (upd (upd H l1 (.lst hv)) l2 (.lst bv)) hv (hs.map HX.d) := (fA n2 ((fA n1 alh).same u1)).same u2
  have alb2 : ThAll (Al [l2, l1, f]) (upd (upd H l1 (.lst hv)) l2 (.lst bv)) bv (bs.map BX.d) := (fA n2 ((fA n1 alb).same u1)).same u2
  have l1f := fr _ n1
  have l2f := fr _ n2'
  generalize upd (upd H l1 (.lst hv)) l2 (.lst bv) = H2 at hl1 hl2 s2 F2 alh2 alb2 ⊢
  refine ⟨(by show 2 ≤ sizeLine; decide), fun pt npt => ?_⟩
  have u3 := same_new (o := .lst [V.ref l1, V.ref l2]) npt
  have hpt := upd_same (H := H2) (a := pt) (o := .lst [V.ref l1, V.ref l2])
  have ptf : pt ≠ f := F2.ne npt
  have pt1 : pt ≠ l1 := fun z => by rw [z, hl1] at npt; cases npt
  have pt2 : pt ≠ l2 := fun z => by rw [z, hl2] at npt; cases npt
  have s3 := s2.trans u3
  have F3 := F2.same u3
  have alh3 := alh2.same u3
  have alb3 := alb2.same u3
  have hl13 := u3 _ _ hl1
  have hl23 := u3 _ _ hl2
  generalize upd H2 pt (.lst [V.ref l1, V.ref l2]) = H3 at hpt s3 F3 alh3 alb3 hl13 hl23 ⊢
  obtain ⟨a, xs, ds, hat, ha3, ax, el, lx, aM, af, which⟩ : ∃ (a : Addr) (xs : List V) (ds : List PyData), atI [V.ref l1, V.ref l2] z = some (.ref a) ∧ H3 a = some (.lst xs) ∧ ThAll (Al [l2, l1, f]) H3 xs ds ∧ (∀ x ∈ ds, ElD E x ∧ ∃ es, x = .tuple es ∧ es.length ≤ 3) ∧ xs.length ≤ L ∧ a ∈ [l2, l1, f] ∧ a ≠ f ∧ ((z = 0 ∧ a = l1 ∧ xs = hv ∧ ds = hs.map HX.d) ∨ (z = 1 ∧ a = l2 ∧ xs = bv ∧ ds = bs.map BX.d)) := by
    rcases hz with rfl | rfl
    · refine ⟨l1, hv, _, rfl, hl13, alh3, fun x hx => ?_, by omega, by simp, l1f, .inl ⟨rfl, rfl, rfl, rfl⟩⟩
      obtain ⟨h, hh, rfl⟩ := List.mem_map.mp hx
      exact ⟨eh1 h hh, _, rfl, by show 2 ≤ 3; decide⟩
    · refine ⟨l2, bv, _, rfl, hl23, alb3, fun x hx => ?_, by omega, by simp, l2f, .inr ⟨rfl, rfl, rfl, rfl⟩⟩
      obtain ⟨h, hh, rfl⟩ := List.mem_map.mp hx
      exact ⟨eb1 h hh, _, rfl, by show 3 ≤ 3; decide⟩
  have lds := ax.length
  refine ⟨_, rfl, _, rfl, pt, _, _, _, rfl, rfl, SqL.of hpt, hat, (by show 0 ≤ sizeLine; decide), fun e0 ne0 => ⟨(by show 1 ≤ sizeLine; decide), fun e1 ne1 => ?_⟩⟩
  have v0 := same_new (o := .tup ([] : List V)) ne0
  have v1 := same_new (o := .lst [V.ref e0]) ne1
  refine ⟨a, e1, xs, _, rfl, rfl, v1 _ _ (v0 _ _ ha3), upd_same, little (by show xs.length + 1 ≤ 1000; omega), fun sm nsm => ?_⟩
  have v2 := same_new (o := .lst (xs ++ [V.ref e0])) nsm
  have hsm := upd_same (H := upd (upd H3 e0 (.tup ([] : List V))) e1 (.lst [V.ref e0])) (a := sm) (o := .lst (xs ++ [V.ref e0]))
  have he0 := v2 _ _ (v1 _ _ (upd_same (H := H3) (a := e0) (o := .tup ([] : List V))))
  have s34 := v0.trans (v1.trans v2)
  have F4 := F3.same s34
  have smf : sm ≠ f := ((F3.same v0).same v1).ne nsm
  have e0f : e0 ≠ f := F3.ne ne0
  have e0M : e0 ∉ [l2, l1, f] := fun z => by
    rcases List.mem_cons.mp z with rfl | z
    · rw [hl23] at ne0; cases ne0
    · rcases List.mem_cons.mp z with rfl | z
      · rw [hl13] at ne0; cases ne0
      · exact e0f (List.mem_singleton.mp z)
  generalize upd (upd (upd H3 e0 (.tup ([] : List V))) e1 (.lst [V.ref e0])) sm (.lst (xs ++ [V.ref e0])) = H4 at hsm he0 s34 F4 ⊢
  have hpt4 := s34 _ _ hpt
  have ha4 := s34 _ _ ha3
  have ax4 := ax.same s34
  obtain ⟨mx, emx, m1, m2, m3⟩ : ∃ m : Nat, (if ((xs.length : Nat) : Int) > 1 then ((xs.length : Nat) : Int) else 1) = (m : Int) ∧ 0 < m ∧ m ≤ L + 1 ∧ (xs.length = 0 → m = 1) ∧ (0 < xs.length → m ≤ xs.length) := by
    by_cases h : ((xs.length : Nat) : Int) > 1
    · exact ⟨xs.length, by rw [if_pos h], by omega, by omega, by omega, by omega⟩
    · exact ⟨1, by rw [if_neg h]; rfl, by omega, by omega, by omega, by omega⟩
  refine ⟨_, rfl, _, rfl, _, rfl, pt, _, _, _, rfl, rfl, SqL.of hpt4, hat, a, _, rfl, .inl (SqL.of ha4), _, _, rfl, ?_⟩
  rw [emx]
  refine ⟨f, c, _, rfl, by omega, (by rw [Int.natAbs_natCast]; exact Nat.lt_of_le_of_lt (Nat.log2_le_self _) (by omega)), F4, fun at_ H5 p0 p1 F5 B5 => ?_⟩
  obtain ⟨k, rfl⟩ : ∃ k : Nat, at_ = ((k : Nat) : Int) := ⟨at_.toNat, by omega⟩
  refine ⟨_, rfl, f, c, rfl, F5, fun ov H6 ho F6 B6 => ?_⟩
  have B46 := B5.trans B6
  have k46 : ∀ b o, H4 b = some o → b ≠ f → H6 b = some o := fun b o e n => B46 b o e n
  have hsm6 := k46 _ _ hsm smf
  have ax6 : ThAll (Al [l2, l1, f]) H6 xs ds := ax4.keep fun b o e nb => k46 b o e (fun z => nb (by rw [z]; simp))
  obtain ⟨y, ey⟩ : ∃ y, (xs ++ [V.ref e0])[k]? = some y := ⟨_, List.getElem?_eq_getElem (by rw [List.length_append, List.length_singleton]; omega)⟩
  obtain ⟨t, row, es, rfl, hrow, are, pes, les⟩ : ∃ (t : Addr) (row : List V) (es : List PyData), y = .ref t ∧ H6 t = some (.tup row) ∧ ThAll (Al [l2, l1, f]) H6 row es ∧ (∀ x ∈ es, Pl x 4 ∧ x.weight ≤ E) ∧ es.length ≤ 3 := by
    by_cases hk : k < xs.length
    · rw [List.getElem?_append_left hk] at ey
      obtain ⟨dx, edx, hd⟩ := ax6.get ey
      obtain ⟨⟨_, _, e3⟩, es, rfl, l3⟩ := el dx (List.mem_of_getElem? edx)
      cases hd with
      | @tup t row _ ht nt ar => exact ⟨t, row, es, rfl, ht, ar, e3 es rfl, l3⟩
    · rw [List.getElem?_append_right (by omega)] at ey
      obtain rfl : V.ref e0 = y := by
        have : k - xs.length = 0 := by omega
        rw [this] at ey
        exact Option.some.inj ey
      exact ⟨e0, [], [], rfl, k46 _ _ he0 e0f, .nil, (fun _ h => nomatch h), by decide⟩
  refine ⟨_, rfl, _, rfl, sm, _, _, _, rfl, rfl, SqL.of hsm6, atI_nat ey, t, _, rfl, .inr (SqT.of hrow), fun l3 n3 => ⟨(by show 2 ≤ sizeLine; decide), fun l4 n4 => ?_⟩⟩
  have w3 := same_new (o := .lst row) n3
  have w4 := same_new (o := .lst [ov, V.ref l3]) n4
  have s68 := w3.trans w4
  have hl3 := w4 _ _ (upd_same (H := H6) (a := l3) (o := .lst row))
  have hl4 := upd_same (H := upd H6 l3 (.lst row)) (a := l4) (o := .lst [ov, V.ref l3])
  have l4f : l4 ≠ f := (F6.same w3).ne n4
  have l3f : l3 ≠ f := F6.ne n3
  have dom4 : ∀ b ∈ [l2, l1, f], H5 b ≠ none := fun b hb z => by
    have d4 : H4 b ≠ none := fun y => by
      rcases List.mem_cons.mp hb with rfl | hb
      · rw [s34 _ _ hl23] at y; cases y
      · rcases List.mem_cons.mp hb with rfl | hb
        · rw [s34 _ _ hl13] at y; cases y
        · rw [List.mem_singleton.mp hb] at y
          obtain ⟨_, _, _, _, _, e1, _⟩ := F4
          rw [e1] at y; cases y
    by_cases e : b = f
    · subst e
      obtain ⟨_, _, _, _, _, e1, _⟩ := F5
      rw [e1] at z; cases z
    · cases h4 : H4 b with
      | none => exact d4 h4
      | some o => rw [B5 _ _ h4 e] at z; cases z
  have ho6 := (ho [l2, l1, f] dom4).gd
  have l3M : l3 ∉ [l2, l1, f] := fun z => by
    have := dom4 l3 z
    cases h5 : H5 l3 with
    | none => exact this h5
    | some o => rw [B6 _ _ h5 l3f] at n3; cases n3
  refine ⟨_, rfl, f, c, 2, rfl, by decide, by decide +kernel, F6.same s68, fun zz H9 z0 z1 F9 B9 => ?_⟩
  have k69 : ∀ b o, H6 b = some o → b ≠ f → H9 b = some o := fun b o e n => B9 _ _ (s68 _ _ e) n
  obtain ⟨vv, dv, hvv, thv, elv⟩ : ∃ (vv : V) (dv : PyData), atI [ov, V.ref l3] zz = some vv ∧ Th (Al [l2, l1, f]) H9 vv dv ∧ ElD E dv := by
    have nf : ∀ b, b ∉ [l2, l1, f] → b ≠ f := fun b nb z => nb (by rw [z]; simp)
    have : zz = 0 ∨ zz = 1 := by omega
    rcases this with rfl | rfl
    · obtain ⟨d, a1, a2, a3⟩ := ho6
      refine ⟨ov, d, rfl, a1.keep fun b o e nb => k69 b o e (nf b nb), a2.mono (by decide), by omega, fun ds e y hy => ?_⟩
      subst e
      have := a2.inv y hy
      refine ⟨this.mono (by decide), ?_⟩
      rw [wt_tup] at a3
      exact Nat.le_trans (wt_mem hy) (by omega)
    · refine ⟨V.ref l3, .list es, rfl, .lst (B9 _ _ hl3 l3f) l3M (are.keep fun b o e nb => k69 b o e (nf b nb)), Pl.lst fun x hx => (pes x hx).1, ?_, fun ds e => nomatch e⟩
      rw [wt_lst]
      have := wt_le fun x hx => (pes x hx).2
      have : es.length * (E + 1) ≤ 3 * (E + 1) := Nat.mul_le_mul_right _ les
      omega
  refine ⟨l4, _, _, _, rfl, rfl, SqL.of (B9 _ _ hl4 l4f), hvv, (by show 1 ≤ sizeLine; decide), fun l5 n5 => ?_⟩
  have w5 := same_new (o := .lst [vv]) n5
  have k49 : ∀ b o, H4 b = some o → b ≠ f → H9 b = some o := fun b o e n => k69 b o (k46 b o e n) n
  have ha10 := w5 _ _ (k49 _ _ ha4 af)
  have hpt10 := w5 _ _ (k49 _ _ hpt4 ptf)
  have a5 : a ≠ l5 := fun z => by rw [← z, k49 _ _ ha4 af] at n5; cases n5
  have F10 := F9.same w5
  refine ⟨_, rfl, _, rfl, pt, _, _, _, rfl, rfl, SqL.of hpt10, hat, _, rfl, _, rfl, _, rfl, _, _, rfl, rfl, _, rfl, ?_⟩
  refine ⟨a, l5, xs, [vv], ((k : Nat) : Int), ((k : Nat) : Int) + 1, rfl, rfl, rfl, rfl, ha10, upd_same, a5, ?_, (by show xs.length + 1 ≤ 16777216; omega), ?_⟩
  · by_cases h0 : xs.length = 0
    · exact .inr ⟨List.eq_nil_of_length_eq_zero h0, by have := m3.1 h0; omega, by have := m3.1 h0; omega⟩
    · exact .inl ⟨by omega, by omega, by have := m3.2 (by omega); omega⟩
  have kC : ∀ (ys : List V) b o, H9 b = some o → b ∉ [l2, l1, f] → upd (upd H9 l5 (.lst [vv])) a (.lst ys) b = some o := fun ys b o e nb => by
    rw [upd_ne (fun z : b = a => nb (by rw [z]; exact aM))]
    exact w5 _ _ e
  have nf : ∀ b, b ∉ [l2, l1, f] → b ≠ f := fun b nb z => nb (by rw [z]; simp)
  have k39 : ∀ b o, H3 b = some o → b ≠ f → H9 b = some o := fun b o e n => k49 b o (s34 _ _ e) n
  have ax9 : ThAll (Al [l2, l1, f]) H9 xs ds := ax6.keep fun b o e nb => k69 b o e (nf b nb)
  have alh9 : ThAll (Al [l2, l1, f]) H9 hv (hs.map HX.d) := alh3.keep fun b o e nb => k39 b o e (nf b nb)
  have alb9 : ThAll (Al [l2, l1, f]) H9 bv (bs.map BX.d) := alb3.keep fun b o e nb => k39 b o e (nf b nb)
  have eys : xs.take ((k : Nat) : Int).toNat ++ [vv] ++ xs.drop (((k : Nat) : Int) + 1).toNat = xs.take k ++ vv :: xs.drop (k + 1) := by
    rw [Int.toNat_natCast, show (((k : Nat) : Int) + 1).toNat = k + 1 by omega, List.append_assoc]
    rfl
  rw [eys]
  have thy : ThAll (Al [l2, l1, f]) H9 (xs.take k ++ vv :: xs.drop (k + 1)) (ds.take k ++ dv :: ds.drop (k + 1)) := (ax9.take k).app (.cons thv (ax9.drop (k + 1)))
  have ely : ∀ x ∈ ds.take k ++ dv :: ds.drop (k + 1), ElD E x := fun x hx => by
    rcases List.mem_append.mp hx with hx | hx
    · exact (el x (List.mem_of_mem_take hx)).1
    · rcases List.mem_cons.mp hx with rfl | hx
      · exact elv
      · exact (el x (List.mem_of_mem_drop hx)).1
  have lny : (ds.take k ++ dv :: ds.drop (k + 1)).length ≤ L + 1 := by
    rw [List.length_append, List.length_cons, List.length_take, List.length_drop]; omega
  have elh : ∀ x ∈ hs.map HX.d, ElD E x := fun x hx => by
    obtain ⟨h, hh, rfl⟩ := List.mem_map.mp hx
    exact eh1 h hh
  have elb : ∀ x ∈ bs.map BX.d, ElD E x := fun x hx => by
    obtain ⟨h, hh, rfl⟩ := List.mem_map.mp hx
    exact eb1 h hh
  obtain ⟨y1, y2, d1, d2, hC1, hC2, t1, t2, g1, g2, m1, m2⟩ : ∃ (y1 y2 : List V) (d1 d2 : List PyData), upd (upd H9 l5 (.lst [vv])) a (.lst (xs.take k ++ vv :: xs.drop (k + 1))) l1 = some (.lst y1) ∧ upd (upd H9 l5 (.lst [vv])) a (.lst (xs.take k ++ vv :: xs.drop (k + 1))) l2 = some (.lst y2) ∧ ThAll (Al [l2, l1, f]) H9 y1 d1 ∧ ThAll (Al [l2, l1, f]) H9 y2 d2 ∧ (∀ x ∈ d1, ElD E x) ∧ (∀ x ∈ d2, ElD E x) ∧ d1.length ≤ L + 1 ∧ d2.length ≤ L + 1 := by
    rcases which with ⟨_, rfl, rfl, rfl⟩ | ⟨_, rfl, rfl, rfl⟩
    · exact ⟨_, bv, _, _, upd_same, by rw [upd_ne l12.symm]; exact w5 _ _ (k39 _ _ hl23 l2f), thy, alb9, ely, elb, lny, by rw [List.length_map]; omega⟩
    · exact ⟨hv, _, _, _, by rw [upd_ne l12]; exact w5 _ _ (k39 _ _ hl13 l1f), upd_same, alh9, thy, elh, ely, by rw [List.length_map]; omega, lny⟩
  have F11 : Flow (upd (upd H9 l5 (.lst [vv])) a (.lst (xs.take k ++ vv :: xs.drop (k + 1)))) f c := F10.lst af (by
    intro z
    obtain ⟨_, _, _, _, _, _, e2, _⟩ := hF
    rcases which with ⟨_, rfl, _⟩ | ⟨_, rfl, _⟩
    · rw [z, e2] at n1; cases n1
    · rw [z, e2] at n2'; cases n2')
  have Ba : But f H (upd (upd H9 l5 (.lst [vv])) a (.lst (xs.take k ++ vv :: xs.drop (k + 1)))) := fun b o e nb => by
    have ba : b ≠ a := fun z => by
      rcases which with ⟨_, rfl, _⟩ | ⟨_, rfl, _⟩
      · rw [z, n1] at e; cases e
      · rw [z, n2'] at e; cases e
    rw [upd_ne ba]
    exact w5 _ _ (k39 _ _ (s3 _ _ e) nb)
  have ptC : upd (upd H9 l5 (.lst [vv])) a (.lst (xs.take k ++ vv :: xs.drop (k + 1))) pt = some (.lst [V.ref l1, V.ref l2]) := by
    rw [upd_ne (fun z => by rcases which with ⟨_, rfl, _⟩ | ⟨_, rfl, _⟩; exact pt1 z; exact pt2 z)]
    exact hpt10
  have tC1 : ThAll (Al [l2, l1, f]) (upd (upd H9 l5 (.lst [vv])) a (.lst (xs.take k ++ vv :: xs.drop (k + 1)))) y1 d1 := t1.keep (kC _)
  have tC2 : ThAll (Al [l2, l1, f]) (upd (upd H9 l5 (.lst [vv])) a (.lst (xs.take k ++ vv :: xs.drop (k + 1)))) y2 d2 := t2.keep (kC _)
  generalize upd (upd H9 l5 (.lst [vv])) a (.lst (xs.take k ++ vv :: xs.drop (k + 1))) = HC at hC1 hC2 F11 Ba ptC tC1 tC2 ⊢
  refine ⟨_, rfl, pt, _, _, _, rfl, rfl, SqL.of ptC, atI_nat (j := 0) rfl, l1, y1, rfl, .inl ⟨SqL.of hC1, fun q1 nq1 => ?_⟩⟩
  have x1 := same_new (o := .tup y1) nq1
  refine ⟨_, rfl, pt, _, _, _, rfl, rfl, SqL.of (x1 _ _ ptC), atI_nat (j := 1) rfl, l2, y2, rfl, .inl ⟨SqL.of (x1 _ _ hC2), fun q2 nq2 => ⟨(by show 2 ≤ sizeLine; decide), fun q3 nq3 => ?_⟩⟩⟩
  have x2 := same_new (o := .tup y2) nq2
  have x3 := same_new (o := .tup [V.ref q1, V.ref q2]) nq3
  have x13 := x1.trans (x2.trans x3)
  have toF : ∀ {H : Hp} {v : List V} {d : List PyData}, ThAll (Al [l2, l1, f]) H v d → ThAll (Al [f]) H v d := fun h => h.mono fun b o e nb z => nb (by rw [List.mem_singleton.mp z]; simp)
  have q1f : q1 ∉ [f] := fun z => F11.ne nq1 (List.mem_singleton.mp z)
  have q2f : q2 ∉ [f] := fun z => (F11.same x1).ne nq2 (List.mem_singleton.mp z)
  have q3f : q3 ∉ [f] := fun z => ((F11.same x1).same x2).ne nq3 (List.mem_singleton.mp z)
  refine q _ (.tuple [.tuple d1, .tuple d2]) _ (.tup upd_same q3f (.cons (.tup ((x2.trans x3) _ _ upd_same) q1f (toF (tC1.same x13))) (.cons (.tup (x3 _ _ upd_same) q2f (toF (tC2.same x13))) .nil))) ⟨d1, d2, rfl, m1, m2, g1, g2⟩ (F11.same x13) (fun b o e nb => x13 _ _ (Ba b o e nb))
end
/-! ### rooms as lists of lists -/
def RowS (f l1 l2 : Addr) (M : List Addr) (E : Nat) (H : Hp) (b : Bool) (a : Addr) : Prop := a ∈ M ∧ a ≠ f ∧ a ≠ l1 ∧ a ≠ l2 ∧ ∃ row, H a = some (.lst row) ∧ 2 ≤ row.length ∧ row.length ≤ 3 ∧ (∀ y ∈ row, Gd M E H y) ∧
  (b = true → ∃ (x y : V) (g : Addr) (zs : List V) (ds : List PyData), row = [x, y, .ref g] ∧ H g = some (.tup zs) ∧ g ∉ M ∧ ThAll (Al M) H zs ds ∧ (∀ d ∈ ds, Pl d 3) ∧ PyData.weightAll ds ≤ E)
def LstS (f l1 l2 : Addr) (M : List Addr) (E L : Nat) (H : Hp) (b : Bool) (l : Addr) : Prop := l ∈ M ∧ l ≠ f ∧ ∃ ads : List Addr, H l = some (.lst (ads.map V.ref)) ∧ ads.length ≤ L ∧ ∀ a ∈ ads, RowS f l1 l2 M E H b a
def FinL (f : Addr) (E L : Nat) (H : Hp) (l : Addr) : Prop := l ≠ f ∧ ∃ ads : List Addr, H l = some (.lst (ads.map V.ref)) ∧ ads.length ≤ L ∧ ∀ a ∈ ads, a ≠ f ∧ ∃ row, H a = some (.lst row) ∧ row.length ≤ 4 ∧ ∀ y ∈ row, Gd [f] E H y
theorem Gd.less {M : List Addr} {E : Nat} {f : Addr} {H : Hp} {y : V} (g : Gd M E H y) (fM : f ∈ M) : Gd [f] E H y := by
  obtain ⟨d, a, b⟩ := g
  exact ⟨d, a.mono fun b o e nb z => nb (by rw [List.mem_singleton.mp z]; exact fM), b⟩
theorem RowS.keep {f l1 l2 : Addr} {M : List Addr} {E : Nat} {H H' : Hp} {b : Bool} {a : Addr} (h : RowS f l1 l2 M E H b a) (fM : f ∈ M) (k : ∀ b o, H b = some o → b ≠ f → H' b = some o) : RowS f l1 l2 M E H' b a := by
  obtain ⟨a1, a2, a3, a4, row, e, r2, r3, g, p⟩ := h
  have kM : ∀ b o, H b = some o → b ∉ M → H' b = some o := fun b o e nb => k b o e fun z => nb (z ▸ fM)
  refine ⟨a1, a2, a3, a4, row, k _ _ e a2, r2, r3, fun y hy => (g y hy).keep kM, fun hb => ?_⟩
  obtain ⟨x, y, q, zs, ds, e1, e2, e3, e4, e5⟩ := p hb
  exact ⟨x, y, q, zs, ds, e1, kM _ _ e2 e3, e3, e4.keep kM, e5⟩
theorem LstS.keep {f l1 l2 : Addr} {M : List Addr} {E L : Nat} {H H' : Hp} {b : Bool} {l : Addr} (h : LstS f l1 l2 M E L H b l) (fM : f ∈ M) (k : ∀ b o, H b = some o → b ≠ f → H' b = some o) : LstS f l1 l2 M E L H' b l := by
  obtain ⟨a1, a2, ads, e, l, g⟩ := h
  exact ⟨a1, a2, ads, k _ _ e a2, l, fun a ha => (g a ha).keep fM k⟩
theorem FinL.keep {f : Addr} {E L : Nat} {H H' : Hp} {l : Addr} (h : FinL f E L H l) (k : ∀ b o, H b = some o → b ≠ f → H' b = some o) : FinL f E L H' l := by
  obtain ⟨a2, ads, e, l, g⟩ := h
  refine ⟨a2, ads, k _ _ e a2, l, fun a ha => ?_⟩
  obtain ⟨af, row, e, r, g⟩ := g a ha
  exact ⟨af, row, k _ _ e af, r, fun y hy => (g y hy).keep fun b o e nb => k b o e fun z => nb (by rw [z]; exact List.mem_singleton.mpr rfl)⟩
theorem LstS.fin {f l1 l2 : Addr} {M : List Addr} {E E' L L' : Nat} {H : Hp} {b : Bool} {l : Addr} (h : LstS f l1 l2 M E L H b l) (fM : f ∈ M) (eE : E ≤ E') (lL : L ≤ L') : FinL f E' L' H l := by
  obtain ⟨a1, a2, ads, e, ll, g⟩ := h
  refine ⟨a2, ads, e, by omega, fun a ha => ?_⟩
  obtain ⟨_, af, _, _, row, e, r2, r3, g, _⟩ := g a ha
  exact ⟨af, row, e, by omega, fun y hy => ((g y hy).up eE).less fM⟩
/-- one of the inner lists changed -/
theorem LstS.upd {f l1 l2 a : Addr} {M : List Addr} {E E' L L' : Nat} {H : Hp} {b : Bool} {l : Addr} {row' : List V} (h : LstS f l1 l2 M E L H b l) (fM : f ∈ M) (aM : a ∈ M) (al : l ≠ a) (eE : E ≤ E') (lL : L ≤ L') (r4 : row'.length ≤ 4) (gr : ∀ y ∈ row', Gd M E' H y) : FinL f E' L' (upd H a (.lst row')) l := by
  obtain ⟨a1, a2, ads, e, ll, g⟩ := h
  have kM : ∀ b o, H b = some o → b ∉ M → L2.upd H a (.lst row') b = some o := fun b o e nb => by
    rw [upd_ne (fun z : b = a => nb (by rw [z]; exact aM))]
    exact e
  refine ⟨a2, ads, by rw [upd_ne al]; exact e, by omega, fun c hc => ?_⟩
  obtain ⟨_, af, _, _, row, e, r2, r3, g, _⟩ := g c hc
  refine ⟨af, ?_⟩
  by_cases z : c = a
  · subst z
    exact ⟨row', upd_same, r4, fun y hy => ((gr y hy).keep kM).less fM⟩
  · exact ⟨row, by rw [upd_ne z]; exact e, by omega, fun y hy => (((g y hy).up eE).keep kM).less fM⟩
theorem gd_set {M : List Addr} {E E' : Nat} {H : Hp} {row : List V} {j : Nat} {v : V} (g : ∀ y ∈ row, Gd M E H y) (l : E ≤ E') (hv : Gd M E' H v) : ∀ y ∈ row.set j v, Gd M E' H y := fun y hy => by
  rcases List.mem_or_eq_of_mem_set hy with hy | rfl
  · exact (g y hy).up l
  · exact hv
/-- a list of lists as it was begun -/
def RwT (f : Addr) (H0 H : Hp) (a : Addr) (x : PyData) : Prop := H0 a = none ∧ ∃ (row : List V) (es : List PyData), H a = some (.lst row) ∧ x = .tuple es ∧ ThAll (Al [f]) H0 row es
theorem RwT.keep {f : Addr} {H0 H H' : Hp} {a : Addr} {x : PyData} (h : RwT f H0 H a x) (k : ∀ o, H a = some o → H' a = some o) : RwT f H0 H' a x := by
  obtain ⟨n, row, es, e, r⟩ := h
  exact ⟨n, row, es, k _ e, r⟩
theorem pl3 {x : PyData} {es : List PyData} (h : Pl (.tuple es) 4) (hw : (PyData.tuple es).weight ≤ 0 ∨ True) : ∀ d ∈ es, Pl d 3 := h.inv
theorem inV_ints {w : Int} {ns : List Int} : inV (.int w) (ns.map V.int) = true ↔ w ∈ ns := by
  unfold inV
  induction ns with
  | nil => simp
  | cons z zs ih =>
    rw [List.map_cons, List.any_cons, Bool.or_eq_true, ih, List.mem_cons]
    refine or_congr_left ?_
    show (z == w) = true ↔ w = z
    rw [beq_iff_eq]
    exact eq_comm
theorem if_ints {w : Int} {ns : List Int} {A B : Prop} (h1 : w ∈ ns → A) (h2 : w ∉ ns → B) : if (if false = true then !inV (.int w) (ns.map V.int) else inV (.int w) (ns.map V.int)) = true then A else B := by
  have e : (if false = true then !inV (.int w) (ns.map V.int) else inV (.int w) (ns.map V.int)) = inV (.int w) (ns.map V.int) := if_neg Bool.false_ne_true
  rw [e]
  exact if_bl (fun c => h1 (inV_ints.mp c)) (fun c => h2 (fun k => by rw [inV_ints.mpr k] at c; cases c))
theorem all_keep {f : Addr} {H0 H H' : Hp} : ∀ {as : List Addr} {xs : List PyData}, All2 (RwT f H0 H) as xs → (∀ a ∈ as, ∀ o, H a = some o → H' a = some o) → All2 (RwT f H0 H') as xs
  | _, _, .nil, _ => .nil
  | _, _, .cons h t, k => .cons (h.keep (k _ (List.mem_cons_self ..))) (all_keep t fun a ha => k a (List.mem_cons_of_mem _ ha))
theorem rwt_mem {f : Addr} {H0 H : Hp} : ∀ {as : List Addr} {xs : List PyData}, All2 (RwT f H0 H) as xs → ∀ a ∈ as, ∃ x ∈ xs, RwT f H0 H a x
  | _, _, .nil, _, h => nomatch h
  | _, _, .cons g t, a, h => by
    rcases List.mem_cons.mp h with rfl | h
    · exact ⟨_, List.mem_cons_self .., g⟩
    · obtain ⟨x, hx, r⟩ := rwt_mem t a h
      exact ⟨x, List.mem_cons_of_mem _ hx, r⟩
theorem f_two {H : Hp} {x y : V} (h : Flt1 H x) (g : Flt1 H y) : ∀ z ∈ [x, y], Flt1 H z := fun z hz => by
  rcases List.mem_cons.mp hz with rfl | hz
  · exact h
  · rw [List.mem_singleton.mp hz]; exact g
theorem put_map {α β : Type} {g : α → β} {xs : List α} {y : α} {ys : List β} (h : Put (xs.map g) (g y) ys) : ∃ zs, Put xs y zs ∧ ys = zs.map g := by
  obtain ⟨k, hk, e | e | e⟩ := h
  · rw [List.length_map] at hk
    exact ⟨_, ⟨k, hk, .inl rfl⟩, by rw [e, List.map_append, List.map_cons, List.map_take, List.map_drop]⟩
  · rw [List.length_map] at hk
    exact ⟨_, ⟨k, hk, .inr (.inl rfl)⟩, by rw [e, List.map_append, List.map_cons, List.map_take, List.map_drop]⟩
  · rw [List.length_map] at hk
    exact ⟨_, ⟨k, hk, .inr (.inr rfl)⟩, by rw [e, List.map_append, List.map_take, List.map_drop]⟩
theorem thall_mem {N : Addr → Prop} {H : Hp} : ∀ {vs : List V} {ds : List PyData}, ThAll N H vs ds → ∀ y ∈ vs, ∃ d ∈ ds, Th N H y d
  | _, _, .nil, _, h => nomatch h
  | _, _, .cons g t, a, h => by
    rcases List.mem_cons.mp h with rfl | h
    · exact ⟨_, List.mem_cons_self .., g⟩
    · obtain ⟨x, hx, r⟩ := thall_mem t a h
      exact ⟨x, List.mem_cons_of_mem _ hx, r⟩
theorem rw_data {K : PySem.W.Frag} {f : Addr} {H0 H : Hp} (k : ∀ b o, H0 b = some o → b ≠ f → H b = some o) : ∀ {as : List Addr} {xs : List PyData}, All2 (RwT f H0 H) as xs → (∀ x ∈ xs, Pl x 5) → ∃ es, DpAll K H (as.map V.ref) es ∧ (∀ x ∈ es, Pl x 5) ∧ es.length = as.length
  | _, _, .nil, _ => ⟨[], .nil, (fun _ h => nomatch h), rfl⟩
  | _, _, .cons g t, p => by
    obtain ⟨es, a1, a2, a3⟩ := rw_data k t fun x hx => p x (List.mem_cons_of_mem _ hx)
    obtain ⟨_, row, ds, e, rfl, al⟩ := g
    have p1 := p _ (List.mem_cons_self ..)
    refine ⟨.list ds :: es, .cons (.lst (SqL.of e) (ThAll.dp (al.keep fun b o e nb => k b o e fun z => nb (by rw [z]; exact List.mem_singleton.mpr rfl)))) a1, ?_, by rw [List.length_cons, a3]; rfl⟩
    intro x hx
    rcases List.mem_cons.mp hx with rfl | hx
    · exact Pl.lst p1.inv
    · exact a2 x hx
mutual
theorem Dp.same' {K : PySem.W.Frag} {H H' : Hp} (s : Same H H') : ∀ {v : V} {d : PyData}, Dp K H v d → Dp K H' v d
  | _, _, .non => .non
  | _, _, .bl b => .bl b
  | _, _, .int i => .int i
  | _, _, .str x => .str x
  | _, _, .lst a b => .lst (same_seqL s a) (DpAll.same s b)
  | _, _, .tup a b => .tup (same_seqT s a) (DpAll.same s b)
theorem DpAll.same {K : PySem.W.Frag} {H H' : Hp} (s : Same H H') : ∀ {v : List V} {d : List PyData}, DpAll K H v d → DpAll K H' v d
  | _, _, .nil => .nil
  | _, _, .cons a b => .cons (Dp.same' s a) (DpAll.same s b)
end
theorem eqv_nilL2 (l : List PyData) : PyData.eqv (.list l) (.list []) = decide (l.length = 0) := by
  cases l with
  | nil => rfl
  | cons a l => rfl
section
variable {P : Program} {w : World} {K : PySem.W.Frag} {mg : Str → Option Value} {base : Heap}
def sp_law_changed (K : PySem.W.Frag) : Sp := fun vs H Q _ => ∃ (f c : Addr) (v : V) (d : PyData) (E L : Nat), vs = [.ref f, v] ∧ Flow H f c ∧ Th (Al [f]) H v d ∧ formB d = true ∧ SzD E L d ∧ 100 ≤ E ∧ E ≤ 890 ∧ L ≤ 300 ∧
  ∀ (v' : V) (d' : PyData) (H' : Hp), Th (Al [f]) H' v' d' → SzD (E + 150) (L + 1) d' → Flow H' f c → But f H H' → Q v' H'
theorem ok_law_changed {f : Addr} {fd : FuncData} (F : Fun K "_law_changed" "_law_changed" s_law_changed f fd) (T : Top w K mg) : FnOk P w K mg base CX0 4 f fd ["_law_flow_here", "_law_room_here"] (sp_law_changed K) := by
  obtain ⟨f_law_pick, fd_law_pick, F_law_pick, b_law_pick, m_law_pick⟩ := T.d_law_pick
  have G_law_pick := ok_law_pick (P := P) (w := w) (base := base) F_law_pick T
  obtain ⟨f_law_other_kind, fd_law_other_kind, F_law_other_kind, b_law_other_kind, m_law_other_kind⟩ := T.d_law_other_kind
  have G_law_other_kind := ok_law_other_kind (P := P) (w := w) (base := base) F_law_other_kind T
  obtain ⟨f_law_odd, fd_law_odd, F_law_odd, b_law_odd, m_law_odd⟩ := T.d_law_odd
  have G_law_odd := ok_law_odd (P := P) (w := w) (base := base) F_law_odd T
  obtain ⟨f_law_put, fd_law_put, F_law_put, b_law_put, m_law_put⟩ := T.d_law_put
  have G_law_put := ok_law_put (P := P) (w := w) (base := base) F_law_put T
  refine F.ok sc_law_changed (fun vs H Q E h => ?_) (fun cdv A outer s H vs Q E hr h => ?_)
  · obtain ⟨f, c, v, d, E, L, rfl, _⟩ := h
    rfl
  obtain ⟨f, c, v, d, E, L, rfl, hF, th, fm, sz, e100, e890, l300, q⟩ := h
  let sg : Addr → Addr → Int → Addr → Option V → Option V → L2.St := fun l1 l2 w s x8 x9 => [some (.ref f), some v, some (.ref l1), none, some (.ref l2), none, some (.int w), some (.ref s), x8, x9]
  let R1 : TS := fun D' σ' H' => D'.rt = Q ∧ ∃ (l1 l2 s : Addr) (M : List Addr) (w : Int), σ' = sg l1 l2 w s none none ∧ 0 ≤ w ∧ w ≤ 11 ∧ s = (if 4 < w then l2 else l1) ∧ f ∈ M ∧ l1 ≠ l2 ∧ LstS f l1 l2 M E L H' false l1 ∧ LstS f l1 l2 M E L H' true l2 ∧ (∃ ads : List Addr, H' s = some (.lst (ads.map V.ref)) ∧ ads ≠ []) ∧ (∀ b ∈ M, H' b ≠ none) ∧ (∀ b ∈ M, b = f ∨ H b = none) ∧ Flow H' f c ∧ But f H H'
  let R2 : TS := fun D' σ' H' => D'.rt = Q ∧ ∃ (l1 l2 s : Addr) (w : Int) (x8 x9 : Option V), σ' = sg l1 l2 w s x8 x9 ∧ (4 < w → FinL f (E + 150) (L + 1) H' l1 ∧ FinL f (E + 150) (L + 1) H' s) ∧ (¬ 4 < w → FinL f (E + 150) (L + 1) H' s ∧ FinL f (E + 150) (L + 1) H' l2) ∧ Flow H' f c ∧ But f H H'
  refine ⟨_, (pss_cons (ps_setLc (i := 2) (own := [("_law_hand", 3)]) (g := gName 3) (tt := tYes) (by rfl) sc_law_changed.nd rfl rfl (sw_true rfl rfl rfl (by decide +kernel)) (pi_tupK K rfl (pe_ix (ix_tupK K rfl) (pv 1) pe_int (fun _ _ => rfl))) (blkOk_by (own := [("_law_hand", 3)]) (N := N_law_changed) (sc := defScope s_law_changed) (by decide +kernel)) (fun _ _ _ _ _ => (pg_name (i := 3) sc_law_changed.nd rfl (Or.inl rfl))) (fun _ _ _ _ _ => pts_nil) (fun _ _ _ _ _ => (pe_callTy (call_list_ofK K rfl) (by rfl) T.m_list (by decide +kernel) (pa_cons (pv 3) pa_nil))))
      (pss_cons (ps_setLc (i := 4) (own := [("_law_belt", 5)]) (g := gName 5) (tt := tYes) (by rfl) sc_law_changed.nd rfl rfl (sw_true rfl rfl rfl (by decide +kernel)) (pi_tupK K rfl (pe_ix (ix_tupK K rfl) (pv 1) pe_int (fun _ _ => rfl))) (blkOk_by (own := [("_law_belt", 5)]) (N := N_law_changed) (sc := defScope s_law_changed) (by decide +kernel)) (fun _ _ _ _ _ => (pg_name (i := 5) sc_law_changed.nd rfl (Or.inl rfl))) (fun _ _ _ _ _ => pts_nil) (fun _ _ _ _ _ => (pe_callTy (call_list_ofK K rfl) (by rfl) T.m_list (by decide +kernel) (pa_cons (pv 5) pa_nil))))
      (pss_cons (ps_set (i := 6) sc_law_changed.nd rfl (Or.inl rfl) (pe_call G_law_pick (hr.mono (by decide)) (by rfl) m_law_pick F_law_pick.kp b_law_pick .nil pass0 (pa_cons (pv 0) (pa_cons pe_int pa_nil))))
      (pss_cons (ps_if (pt_cmpR op_gt (pv 6) pe_int (nomark _)) (pss_one (ps_ret (pe_call G_law_other_kind (hr.mono (by decide)) (by rfl) m_law_other_kind F_law_other_kind.kp b_law_other_kind .nil pass0 (pa_cons (pv 0) (pa_cons (pv 1) (pa_cons (pe_op op_sub (pv 6) pe_int) pa_nil)))))) pss_nil)
      (pss_cons (ps_set (i := 7) sc_law_changed.nd rfl (Or.inl rfl) (pe_ix (ix_listK K rfl) (pe_lst (pa_cons (pv 2) (pa_cons (pv 4) pa_nil))) (pe_callTy call_int1 (by rfl) T.m_int (by decide +kernel) (pa_cons (pe_cmpR op_gt (pv 6) pe_int (nomark _)) pa_nil)) (fun _ _ => rfl)))
      (pss_cons (ps_if (pt_cmpR (op_eqDK K rfl hr.units) (pv 7) (pe_lst pa_nil) (nomark _)) (pss_one (ps_ret (pe_tup (pa_cons (pe_callTy (call_tuple_ofK K rfl) (by rfl) T.m_tuple (by decide +kernel) (pa_cons (pe_lc (own := [("_law_hand", 3)]) (g := gName 3) (tt := tYes) (by rfl) sc_law_changed.nd (pi_listK K rfl (pv 2)) (blkOk_by (own := [("_law_hand", 3)]) (N := N_law_changed) (sc := defScope s_law_changed) (by decide +kernel)) (fun _ _ _ _ _ => (pg_name (i := 3) sc_law_changed.nd rfl (Or.inl rfl))) (fun _ _ _ _ _ => pts_nil) (fun _ _ _ _ _ => (pe_callTy (call_tuple_ofK K rfl) (by rfl) T.m_tuple (by decide +kernel) (pa_cons (pv 3) pa_nil)))) pa_nil)) (pa_cons (pe_tup (pa_cons (pe_tup (pa_cons pe_int (pa_cons pe_int (pa_cons (pe_tup pa_nil) pa_nil)))) pa_nil)) pa_nil))))) pss_nil)
      (PSs.to (pss_cons (ps_set (i := 8) sc_law_changed.nd rfl (Or.inl rfl) (pe_call G_law_pick (hr.mono (by decide)) (by rfl) m_law_pick F_law_pick.kp b_law_pick .nil pass0 (pa_cons (pv 0) (pa_cons (pe_callB (call_len_seqK K rfl) (by rfl) T.m_len (by decide +kernel) (pa_cons (pv 7) pa_nil)) pa_nil))))
      (pss_cons (ps_if (pt_cmpR op_eq (pv 6) pe_int (nomark _)) (pss_cons (ps_set (i := 9) sc_law_changed.nd rfl (Or.inl rfl) (pe_lst (pa_cons (pe_tup (pa_cons pe_str pa_nil)) (pa_cons (pe_tup (pa_cons pe_str pa_nil)) (pa_cons (pe_tup (pa_cons pe_str pa_nil)) (pa_cons (pe_tup (pa_cons pe_str pa_nil)) (pa_cons (pe_tup (pa_cons pe_str pa_nil)) (pa_cons (pe_tup (pa_cons pe_str pa_nil)) (pa_cons (pe_tup (pa_cons pe_str pa_nil)) (pa_cons (pe_tup (pa_cons pe_str (pa_cons pe_bl pa_nil))) pa_nil))))))))))
      (pss_one (ps_asg (pe_ix (ix_listK K rfl) (pe_op op_cat (pv 9) (pe_lst (pa_cons (pe_tup (pa_cons pe_str (pa_cons pe_str pa_nil))) (pa_cons (pe_tup (pa_cons pe_str (pa_cons pe_int pa_nil))) pa_nil)))) (pe_call G_law_pick (hr.mono (by decide)) (by rfl) m_law_pick F_law_pick.kp b_law_pick .nil pass0 (pa_cons (pv 0) (pa_cons pe_int pa_nil))) (fun _ _ => rfl)) (pg_sub (pe_ix (ix_listK K rfl) (pv 7) (pv 8) (fun _ _ => rfl)) pe_int set_list)))) (pss_one (ps_if (pt_cmpR op_eq (pv 6) pe_int (nomark _)) (pss_one (ps_asg (pe_ix (ix_listK K rfl) (pe_lst (pa_cons (pe_un un_neg pe_int) (pa_cons (pe_op op_sub (pe_op op_sub pe_int pe_int) (pe_call G_law_pick (hr.mono (by decide)) (by rfl) m_law_pick F_law_pick.kp b_law_pick .nil pass0 (pa_cons (pv 0) (pa_cons pe_int pa_nil)))) (pa_cons (pe_op op_add pe_int (pe_call G_law_pick (hr.mono (by decide)) (by rfl) m_law_pick F_law_pick.kp b_law_pick .nil pass0 (pa_cons (pv 0) (pa_cons pe_int pa_nil)))) pa_nil)))) (pe_call G_law_pick (hr.mono (by decide)) (by rfl) m_law_pick F_law_pick.kp b_law_pick .nil pass0 (pa_cons (pv 0) (pa_cons pe_int pa_nil))) (fun _ _ => rfl)) (pg_sub (pe_ix (ix_listK K rfl) (pv 7) (pv 8) (fun _ _ => rfl)) pe_int set_list))) (pss_one (ps_if (pt_cmpR (op_in_seqK K rfl) (pv 6) (pe_tup (pa_cons pe_int (pa_cons pe_int pa_nil))) (by with_unfolding_all rfl)) (pss_one (ps_asg (pe_call G_law_odd (hr.mono (by decide)) (by rfl) m_law_odd F_law_odd.kp b_law_odd .nil pass0 (pa_cons (pv 0) pa_nil)) (pg_sub (pe_ix (ix_listK K rfl) (pv 7) (pv 8) (fun _ _ => rfl)) (pe_call G_law_pick (hr.mono (by decide)) (by rfl) m_law_pick F_law_pick.kp b_law_pick .nil pass0 (pa_cons (pv 0) (pa_cons (pe_callB (call_len_seqK K rfl) (by rfl) T.m_len (by decide +kernel) (pa_cons (pe_ix (ix_listK K rfl) (pv 7) (pv 8) (fun _ _ => rfl)) pa_nil)) pa_nil))) set_list))) (pss_one (ps_if (pt_cmpR (op_in_seqK K rfl) (pv 6) (pe_tup (pa_cons pe_int (pa_cons pe_int pa_nil))) (by with_unfolding_all rfl)) (pss_one (ps_set (i := 7) sc_law_changed.nd rfl (Or.inl rfl) (pe_call G_law_put (hr.mono (by decide)) (by rfl) m_law_put F_law_put.kp b_law_put .nil pass0 (pa_cons (pv 0) (pa_cons (pv 7) (pa_cons (pe_ix (ix_listK K rfl) (pe_lst (pa_cons (pe_callTy (call_list_ofK K rfl) (by rfl) T.m_list (by decide +kernel) (pa_cons (pe_ix (ix_listK K rfl) (pv 7) (pv 8) (fun _ _ => rfl)) pa_nil)) (pa_cons (pe_lst (pa_cons pe_int (pa_cons pe_int (pa_cons (pe_tup pa_nil) pa_nil)))) pa_nil))) (pe_callTy call_int1 (by rfl) T.m_int (by decide +kernel) (pa_cons (pe_and (pe_cmpR op_eq (pv 6) pe_int (nomark _)) (pe_one (pe_cmpR op_eq (pe_call G_law_pick (hr.mono (by decide)) (by rfl) m_law_pick F_law_pick.kp b_law_pick .nil pass0 (pa_cons (pv 0) (pa_cons pe_int pa_nil))) pe_int (nomark _)))) pa_nil)) (fun _ _ => rfl)) pa_nil)))))) (pss_one (ps_if (pt_cmpR (op_in_seqK K rfl) (pv 6) (pe_tup (pa_cons pe_int (pa_cons pe_int pa_nil))) (by with_unfolding_all rfl)) (pss_one (ps_asg (pe_call G_law_put (hr.mono (by decide)) (by rfl) m_law_put F_law_put.kp b_law_put .nil pass0 (pa_cons (pv 0) (pa_cons (pe_ix (ix_listK K rfl) (pv 7) (pv 8) (fun _ _ => rfl)) (pa_cons (pe_call G_law_odd (hr.mono (by decide)) (by rfl) m_law_odd F_law_odd.kp b_law_odd .nil pass0 (pa_cons (pv 0) pa_nil)) pa_nil)))) (pg_sub (pv 7) (pv 8) set_list))) (pss_one (ps_if (pt_cmpR op_lt (pv 6) pe_int (nomark _)) (pss_one (ps_asg (pe_ix (ix_listK K rfl) (pe_lst (pa_cons (pe_un un_neg pe_int) (pa_cons (pe_callB (call_len_seqK K rfl) (by rfl) T.m_len (by decide +kernel) (pa_cons (pv 2) pa_nil)) (pa_cons (pe_call G_law_pick (hr.mono (by decide)) (by rfl) m_law_pick F_law_pick.kp b_law_pick .nil pass0 (pa_cons (pv 0) (pa_cons (pe_op op_add (pe_callB (call_len_seqK K rfl) (by rfl) T.m_len (by decide +kernel) (pa_cons (pv 2) pa_nil)) pe_int) pa_nil))) pa_nil)))) (pe_call G_law_pick (hr.mono (by decide)) (by rfl) m_law_pick F_law_pick.kp b_law_pick .nil pass0 (pa_cons (pv 0) (pa_cons pe_int pa_nil))) (fun _ _ => rfl)) (pg_sub (pe_ix (ix_listK K rfl) (pv 7) (pv 8) (fun _ _ => rfl)) (pe_call G_law_pick (hr.mono (by decide)) (by rfl) m_law_pick F_law_pick.kp b_law_pick .nil pass0 (pa_cons (pv 0) (pa_cons pe_int pa_nil))) set_list))) (pss_one (ps_if (pt_cmpR op_eq (pv 6) pe_int (nomark _)) (pss_one (ps_asg (pe_tup pa_nil) (pg_sub (pe_ix (ix_listK K rfl) (pv 7) (pv 8) (fun _ _ => rfl)) pe_int set_list))) (pss_one (ps_asg (pe_callTy (call_tuple_ofK K rfl) (by rfl) T.m_tuple (by decide +kernel) (pa_cons (pe_call G_law_put (hr.mono (by decide)) (by rfl) m_law_put F_law_put.kp b_law_put .nil pass0 (pa_cons (pv 0) (pa_cons (pe_op op_cat (pe_callTy (call_list_ofK K rfl) (by rfl) T.m_list (by decide +kernel) (pa_cons (pe_ix (ix_listK K rfl) (pe_ix (ix_listK K rfl) (pv 7) (pv 8) (fun _ _ => rfl)) pe_int (fun _ _ => rfl)) pa_nil)) (pe_lst (pa_cons pe_int pa_nil))) (pa_cons (pe_ix (ix_listK K rfl) (pe_lst (pa_cons (pe_call G_law_odd (hr.mono (by decide)) (by rfl) m_law_odd F_law_odd.kp b_law_odd .nil pass0 (pa_cons (pv 0) pa_nil)) (pa_cons pe_int pa_nil))) (pe_call G_law_pick (hr.mono (by decide)) (by rfl) m_law_pick F_law_pick.kp b_law_pick .nil pass0 (pa_cons (pv 0) (pa_cons pe_int pa_nil))) (fun _ _ => rfl)) pa_nil)))) pa_nil)) (pg_sub (pe_ix (ix_listK K rfl) (pv 7) (pv 8) (fun _ _ => rfl)) pe_int set_list))))))))))))))))
      (PSs.to (pss_cons (ps_if (pt_cmpR op_gt (pv 6) pe_int (nomark _)) (pss_one (ps_set (i := 4) sc_law_changed.nd rfl (Or.inl rfl) (pv 7))) (pss_one (ps_set (i := 2) sc_law_changed.nd rfl (Or.inl rfl) (pv 7))))
      (pss_one (ps_ret (pe_tup (pa_cons (pe_callTy (call_tuple_ofK K rfl) (by rfl) T.m_tuple (by decide +kernel) (pa_cons (pe_lc (own := [("_law_hand", 3)]) (g := gName 3) (tt := tYes) (by rfl) sc_law_changed.nd (pi_listK K rfl (pv 2)) (blkOk_by (own := [("_law_hand", 3)]) (N := N_law_changed) (sc := defScope s_law_changed) (by decide +kernel)) (fun _ _ _ _ _ => (pg_name (i := 3) sc_law_changed.nd rfl (Or.inl rfl))) (fun _ _ _ _ _ => pts_nil) (fun _ _ _ _ _ => (pe_callTy (call_tuple_ofK K rfl) (by rfl) T.m_tuple (by decide +kernel) (pa_cons (pv 3) pa_nil)))) pa_nil)) (pa_cons (pe_callTy (call_tuple_ofK K rfl) (by rfl) T.m_tuple (by decide +kernel) (pa_cons (pe_lc (own := [("_law_belt", 5)]) (g := gName 5) (tt := tYes) (by rfl) sc_law_changed.nd (pi_listK K rfl (pv 4)) (blkOk_by (own := [("_law_belt", 5)]) (N := N_law_changed) (sc := defScope s_law_changed) (by decide +kernel)) (fun _ _ _ _ _ => (pg_name (i := 5) sc_law_changed.nd rfl (Or.inl rfl))) (fun _ _ _ _ _ => pts_nil) (fun _ _ _ _ _ => (pe_callTy (call_tuple_ofK K rfl) (by rfl) T.m_tuple (by decide +kernel) (pa_cons (pv 5) pa_nil)))) pa_nil)) pa_nil)))))) R2 ?tail2))) R1 ?tail1))))))), ?_⟩
  case tail2 =>
    rintro D' σ' H1 ⟨eD, l1, l2, s, w, x8, x9, rfl, fa, fb, F1, B1⟩
    obtain ⟨_, _, _, _, _, fl1, _⟩ := id F1
    have fl3 := fl1
    refine ⟨_, rfl, _, _, rfl, rfl, _, rfl, if_bl (fun c4 => ?_) (fun c4 => ?_)⟩
    · have c4 : w > 4 := of_decide_eq_true c4
      obtain ⟨g1, g2⟩ := fa c4
      refine ⟨_, rfl, ?_⟩
      obtain ⟨lf1, ads1, hl1, la1, ga1⟩ := g1
      refine ⟨_, rfl, l1, rfl, ⟨_, SqL.of hl1⟩, fun D1 nD1 => lc_list (K := K) (a := l1) (xs := ads1.map V.ref) (fun i H5 => ∃ (tv : List V) (ds : List PyData), H5 D1 = some (.lst tv) ∧ ThAll (Al [D1, f]) H5 tv ds ∧ ds.length = i ∧ (∀ x ∈ ds, ElD (E + 150) x) ∧ Same H1 H5) ⟨[], [], upd_same, .nil, rfl, (fun _ h => nomatch h), same_new nD1⟩ (fun i H5 _ ⟨_, _, _, _, _, _, s5⟩ => SqL.of (s5 _ _ hl1)) ?_ ?_⟩
      · rintro i x H5 hx ⟨tv, ds, hD, ad, li, el, s5⟩
        rw [List.getElem?_map] at hx
        cases ea : ads1[i]? with
        | none => rw [ea] at hx; cases hx
        | some a =>
        rw [ea] at hx
        obtain rfl : V.ref a = x := Option.some.inj hx
        have il := (List.getElem?_eq_some_iff.mp ea).1
        obtain ⟨af, row, hr, r4, gr⟩ := ga1 a (List.mem_of_getElem? ea)
        obtain ⟨es, ar, pe⟩ := gd_all fun y hy => (gr y hy).fresh nD1
        have les := ar.length
        have ltv := ad.length
        refine ⟨rfl, yes_in ⟨_, rfl, a, row, rfl, .inl ⟨SqL.of (s5 _ _ hr), fun t nt => ?_⟩⟩⟩
        have u := same_new (o := .tup row) nt
        have tD : t ≠ D1 := fun z => by rw [z, hD] at nt; cases nt
        have tf : t ≠ f := fun z => by
          have := s5 _ _ fl1
          rw [← z, nt] at this
          cases this
        have kD : ∀ (ys : List V) b o, upd H5 t (.tup row) b = some o → b ∉ [D1, f] → upd (upd H5 t (.tup row)) D1 (.lst ys) b = some o := fun ys b o e nb => by
          rw [upd_ne (fun z : b = D1 => nb (by rw [z]; simp))]
          exact e
        have new : Th (Al [D1, f]) (upd H5 t (.tup row)) (.ref t) (.tuple es) := .tup upd_same (by show t ∉ [D1, f]; simp [tD, tf]) ((ar.same s5).same u)
        have eln : ElD (E + 150) (.tuple es) := ⟨Pl.tup fun y hy => (pe y hy).1, by
          rw [wt_tup]
          have := wt_le fun y hy => (pe y hy).2
          have : es.length * ((E + 150) + 1) ≤ 4 * ((E + 150) + 1) := Nat.mul_le_mul_right _ (by omega)
          omega, fun es' e y hy => by rw [← PyData.tuple.inj e] at hy; exact pe y hy⟩
        refine ⟨tv, u _ _ hD, small1000 (by omega), tv ++ [V.ref t], ds ++ [.tuple es], upd_same, ((ad.same u).app (.cons new .nil)).keep (kD _), by rw [List.length_append, li]; rfl, ?_, Same.own (s5.trans u) nD1⟩
        intro x hx
        rcases List.mem_append.mp hx with hx | hx
        · exact el x hx
        · rw [List.mem_singleton.mp hx]; exact eln
      rintro Hb1 ⟨tv1, ds1, hD1, ad1, li1, el1, sb1⟩
      rw [List.length_map] at li1
      refine ⟨D1, tv1, rfl, .inl ⟨SqL.of hD1, fun t1 nt1 => ?_⟩⟩
      have s1 := sb1.trans (same_new (o := .tup tv1) nt1)
      have tf1 : t1 ≠ f := fun z => by
        have := sb1 _ _ fl1
        rw [← z, nt1] at this
        cases this
      have th1 : ThAll (Al [f]) (upd Hb1 t1 (.tup tv1)) tv1 ds1 := (ad1.mono fun b o e nb z => nb (by rw [List.mem_singleton.mp z]; simp)).same (same_new nt1)
      have ht1 := upd_same (H := Hb1) (a := t1) (o := .tup tv1)
      generalize upd Hb1 t1 (.tup tv1) = Hc1 at s1 th1 ht1 ⊢
      have F1 := F1.same s1
      obtain ⟨_, _, _, _, _, fl2, _⟩ := id F1
      have fin2 := g2.keep (fun b o e _ => s1 b o e)
      obtain ⟨lf2, ads2, hl2, la2, ga2⟩ := fin2
      refine ⟨_, rfl, s, rfl, ⟨_, SqL.of hl2⟩, fun D2 nD2 => lc_list (K := K) (a := s) (xs := ads2.map V.ref) (fun i H5 => ∃ (tv : List V) (ds : List PyData), H5 D2 = some (.lst tv) ∧ ThAll (Al [D2, f]) H5 tv ds ∧ ds.length = i ∧ (∀ x ∈ ds, ElD (E + 150) x) ∧ Same Hc1 H5) ⟨[], [], upd_same, .nil, rfl, (fun _ h => nomatch h), same_new nD2⟩ (fun i H5 _ ⟨_, _, _, _, _, _, s5⟩ => SqL.of (s5 _ _ hl2)) ?_ ?_⟩
      · rintro i x H5 hx ⟨tv, ds, hD, ad, li, el, s5⟩
        rw [List.getElem?_map] at hx
        cases ea : ads2[i]? with
        | none => rw [ea] at hx; cases hx
        | some a =>
        rw [ea] at hx
        obtain rfl : V.ref a = x := Option.some.inj hx
        have il := (List.getElem?_eq_some_iff.mp ea).1
        obtain ⟨af, row, hr, r4, gr⟩ := ga2 a (List.mem_of_getElem? ea)
        obtain ⟨es, ar, pe⟩ := gd_all fun y hy => (gr y hy).fresh nD2
        have les := ar.length
        have ltv := ad.length
        refine ⟨rfl, yes_in ⟨_, rfl, a, row, rfl, .inl ⟨SqL.of (s5 _ _ hr), fun t nt => ?_⟩⟩⟩
        have u := same_new (o := .tup row) nt
        have tD : t ≠ D2 := fun z => by rw [z, hD] at nt; cases nt
        have tf : t ≠ f := fun z => by
          have := s5 _ _ fl2
          rw [← z, nt] at this
          cases this
        have kD : ∀ (ys : List V) b o, upd H5 t (.tup row) b = some o → b ∉ [D2, f] → upd (upd H5 t (.tup row)) D2 (.lst ys) b = some o := fun ys b o e nb => by
          rw [upd_ne (fun z : b = D2 => nb (by rw [z]; simp))]
          exact e
        have new : Th (Al [D2, f]) (upd H5 t (.tup row)) (.ref t) (.tuple es) := .tup upd_same (by show t ∉ [D2, f]; simp [tD, tf]) ((ar.same s5).same u)
        have eln : ElD (E + 150) (.tuple es) := ⟨Pl.tup fun y hy => (pe y hy).1, by
          rw [wt_tup]
          have := wt_le fun y hy => (pe y hy).2
          have : es.length * ((E + 150) + 1) ≤ 4 * ((E + 150) + 1) := Nat.mul_le_mul_right _ (by omega)
          omega, fun es' e y hy => by rw [← PyData.tuple.inj e] at hy; exact pe y hy⟩
        refine ⟨tv, u _ _ hD, small1000 (by omega), tv ++ [V.ref t], ds ++ [.tuple es], upd_same, ((ad.same u).app (.cons new .nil)).keep (kD _), by rw [List.length_append, li]; rfl, ?_, Same.own (s5.trans u) nD2⟩
        intro x hx
        rcases List.mem_append.mp hx with hx | hx
        · exact el x hx
        · rw [List.mem_singleton.mp hx]; exact eln
      rintro Hb2 ⟨tv2, ds2, hD2, ad2, li2, el2, sb2⟩
      rw [List.length_map] at li2
      refine ⟨D2, tv2, rfl, .inl ⟨SqL.of hD2, fun t2 nt2 => ?_⟩⟩
      have s2 := sb2.trans (same_new (o := .tup tv2) nt2)
      have tf2 : t2 ≠ f := fun z => by
        have := sb2 _ _ fl2
        rw [← z, nt2] at this
        cases this
      have th2 : ThAll (Al [f]) (upd Hb2 t2 (.tup tv2)) tv2 ds2 := (ad2.mono fun b o e nb z => nb (by rw [List.mem_singleton.mp z]; simp)).same (same_new nt2)
      have ht2 := upd_same (H := Hb2) (a := t2) (o := .tup tv2)
      generalize upd Hb2 t2 (.tup tv2) = Hc2 at s2 th2 ht2 ⊢
      refine ⟨(by show 2 ≤ sizeLine; decide), fun g3 n3 => ?_⟩
      have F2 := F1.same s2
      have x3 := same_new (o := .tup [V.ref t1, V.ref t2]) n3
      have nf1 : ∀ {p : Addr}, p ≠ f → p ∉ [f] := fun h z => h (List.mem_singleton.mp z)
      have y3 := nf1 (F2.ne n3)
      rw [eD]
      exact q _ (.tuple [.tuple ds1, .tuple ds2]) _ (.tup upd_same y3 (.cons (.tup (x3 _ _ (s2 _ _ ht1)) (nf1 tf1) ((th1.same s2).same x3)) (.cons (.tup (x3 _ _ ht2) (nf1 tf2) (th2.same x3)) .nil))) ⟨ds1, ds2, rfl, by omega, by omega, el1, el2⟩ (F2.same x3) (fun b o e nb => x3 _ _ (s2 _ _ (s1 _ _ (B1 b o e nb))))
    · have c4 : ¬ w > 4 := of_decide_eq_false c4
      obtain ⟨g1, g2⟩ := fb c4
      refine ⟨_, rfl, ?_⟩
      obtain ⟨lf3, ads3, hl3, la3, ga3⟩ := g1
      refine ⟨_, rfl, s, rfl, ⟨_, SqL.of hl3⟩, fun D3 nD3 => lc_list (K := K) (a := s) (xs := ads3.map V.ref) (fun i H5 => ∃ (tv : List V) (ds : List PyData), H5 D3 = some (.lst tv) ∧ ThAll (Al [D3, f]) H5 tv ds ∧ ds.length = i ∧ (∀ x ∈ ds, ElD (E + 150) x) ∧ Same H1 H5) ⟨[], [], upd_same, .nil, rfl, (fun _ h => nomatch h), same_new nD3⟩ (fun i H5 _ ⟨_, _, _, _, _, _, s5⟩ => SqL.of (s5 _ _ hl3)) ?_ ?_⟩
      · rintro i x H5 hx ⟨tv, ds, hD, ad, li, el, s5⟩
        rw [List.getElem?_map] at hx
        cases ea : ads3[i]? with
        | none => rw [ea] at hx; cases hx
        | some a =>
        rw [ea] at hx
        obtain rfl : V.ref a = x := Option.some.inj hx
        have il := (List.getElem?_eq_some_iff.mp ea).1
        obtain ⟨af, row, hr, r4, gr⟩ := ga3 a (List.mem_of_getElem? ea)
        obtain ⟨es, ar, pe⟩ := gd_all fun y hy => (gr y hy).fresh nD3
        have les := ar.length
        have ltv := ad.length
        refine ⟨rfl, yes_in ⟨_, rfl, a, row, rfl, .inl ⟨SqL.of (s5 _ _ hr), fun t nt => ?_⟩⟩⟩
        have u := same_new (o := .tup row) nt
        have tD : t ≠ D3 := fun z => by rw [z, hD] at nt; cases nt
        have tf : t ≠ f := fun z => by
          have := s5 _ _ fl3
          rw [← z, nt] at this
          cases this
        have kD : ∀ (ys : List V) b o, upd H5 t (.tup row) b = some o → b ∉ [D3, f] → upd (upd H5 t (.tup row)) D3 (.lst ys) b = some o := fun ys b o e nb => by
          rw [upd_ne (fun z : b = D3 => nb (by rw [z]; simp))]
          exact e
        have new : Th (Al [D3, f]) (upd H5 t (.tup row)) (.ref t) (.tuple es) := .tup upd_same (by show t ∉ [D3, f]; simp [tD, tf]) ((ar.same s5).same u)
        have eln : ElD (E + 150) (.tuple es) := ⟨Pl.tup fun y hy => (pe y hy).1, by
          rw [wt_tup]
          have := wt_le fun y hy => (pe y hy).2
          have : es.length * ((E + 150) + 1) ≤ 4 * ((E + 150) + 1) := Nat.mul_le_mul_right _ (by omega)
          omega, fun es' e y hy => by rw [← PyData.tuple.inj e] at hy; exact pe y hy⟩
        refine ⟨tv, u _ _ hD, small1000 (by omega), tv ++ [V.ref t], ds ++ [.tuple es], upd_same, ((ad.same u).app (.cons new .nil)).keep (kD _), by rw [List.length_append, li]; rfl, ?_, Same.own (s5.trans u) nD3⟩
        intro x hx
        rcases List.mem_append.mp hx with hx | hx
        · exact el x hx
        · rw [List.mem_singleton.mp hx]; exact eln
      rintro Hb3 ⟨tv3, ds3, hD3, ad3, li3, el3, sb3⟩
      rw [List.length_map] at li3
      refine ⟨D3, tv3, rfl, .inl ⟨SqL.of hD3, fun t3 nt3 => ?_⟩⟩
      have s3 := sb3.trans (same_new (o := .tup tv3) nt3)
      have tf3 : t3 ≠ f := fun z => by
        have := sb3 _ _ fl3
        rw [← z, nt3] at this
        cases this
      have th3 : ThAll (Al [f]) (upd Hb3 t3 (.tup tv3)) tv3 ds3 := (ad3.mono fun b o e nb z => nb (by rw [List.mem_singleton.mp z]; simp)).same (same_new nt3)
      have ht3 := upd_same (H := Hb3) (a := t3) (o := .tup tv3)
      generalize upd Hb3 t3 (.tup tv3) = Hc3 at s3 th3 ht3 ⊢
      have F3 := F1.same s3
      obtain ⟨_, _, _, _, _, fl4, _⟩ := id F3
      have fin4 := g2.keep (fun b o e _ => s3 b o e)
      obtain ⟨lf4, ads4, hl4, la4, ga4⟩ := fin4
      refine ⟨_, rfl, l2, rfl, ⟨_, SqL.of hl4⟩, fun D4 nD4 => lc_list (K := K) (a := l2) (xs := ads4.map V.ref) (fun i H5 => ∃ (tv : List V) (ds : List PyData), H5 D4 = some (.lst tv) ∧ ThAll (Al [D4, f]) H5 tv ds ∧ ds.length = i ∧ (∀ x ∈ ds, ElD (E + 150) x) ∧ Same Hc3 H5) ⟨[], [], upd_same, .nil, rfl, (fun _ h => nomatch h), same_new nD4⟩ (fun i H5 _ ⟨_, _, _, _, _, _, s5⟩ => SqL.of (s5 _ _ hl4)) ?_ ?_⟩
      · rintro i x H5 hx ⟨tv, ds, hD, ad, li, el, s5⟩
        rw [List.getElem?_map] at hx
        cases ea : ads4[i]? with
        | none => rw [ea] at hx; cases hx
        | some a =>
        rw [ea] at hx
        obtain rfl : V.ref a = x := Option.some.inj hx
        have il := (List.getElem?_eq_some_iff.mp ea).1
        obtain ⟨af, row, hr, r4, gr⟩ := ga4 a (List.mem_of_getElem? ea)
        obtain ⟨es, ar, pe⟩ := gd_all fun y hy => (gr y hy).fresh nD4
        have les := ar.length
        have ltv := ad.length
        refine ⟨rfl, yes_in ⟨_, rfl, a, row, rfl, .inl ⟨SqL.of (s5 _ _ hr), fun t nt => ?_⟩⟩⟩
        have u := same_new (o := .tup row) nt
        have tD : t ≠ D4 := fun z => by rw [z, hD] at nt; cases nt
        have tf : t ≠ f := fun z => by
          have := s5 _ _ fl4
          rw [← z, nt] at this
          cases this
        have kD : ∀ (ys : List V) b o, upd H5 t (.tup row) b = some o → b ∉ [D4, f] → upd (upd H5 t (.tup row)) D4 (.lst ys) b = some o := fun ys b o e nb => by
          rw [upd_ne (fun z : b = D4 => nb (by rw [z]; simp))]
          exact e
        have new : Th (Al [D4, f]) (upd H5 t (.tup row)) (.ref t) (.tuple es) := .tup upd_same (by show t ∉ [D4, f]; simp [tD, tf]) ((ar.same s5).same u)
        have eln : ElD (E + 150) (.tuple es) := ⟨Pl.tup fun y hy => (pe y hy).1, by
          rw [wt_tup]
          have := wt_le fun y hy => (pe y hy).2
          have : es.length * ((E + 150) + 1) ≤ 4 * ((E + 150) + 1) := Nat.mul_le_mul_right _ (by omega)
          omega, fun es' e y hy => by rw [← PyData.tuple.inj e] at hy; exact pe y hy⟩
        refine ⟨tv, u _ _ hD, small1000 (by omega), tv ++ [V.ref t], ds ++ [.tuple es], upd_same, ((ad.same u).app (.cons new .nil)).keep (kD _), by rw [List.length_append, li]; rfl, ?_, Same.own (s5.trans u) nD4⟩
        intro x hx
        rcases List.mem_append.mp hx with hx | hx
        · exact el x hx
        · rw [List.mem_singleton.mp hx]; exact eln
      rintro Hb4 ⟨tv4, ds4, hD4, ad4, li4, el4, sb4⟩
      rw [List.length_map] at li4
      refine ⟨D4, tv4, rfl, .inl ⟨SqL.of hD4, fun t4 nt4 => ?_⟩⟩
      have s4 := sb4.trans (same_new (o := .tup tv4) nt4)
      have tf4 : t4 ≠ f := fun z => by
        have := sb4 _ _ fl4
        rw [← z, nt4] at this
        cases this
      have th4 : ThAll (Al [f]) (upd Hb4 t4 (.tup tv4)) tv4 ds4 := (ad4.mono fun b o e nb z => nb (by rw [List.mem_singleton.mp z]; simp)).same (same_new nt4)
      have ht4 := upd_same (H := Hb4) (a := t4) (o := .tup tv4)
      generalize upd Hb4 t4 (.tup tv4) = Hc4 at s4 th4 ht4 ⊢
      refine ⟨(by show 2 ≤ sizeLine; decide), fun g3 n3 => ?_⟩
      have F4 := F3.same s4
      have x3 := same_new (o := .tup [V.ref t3, V.ref t4]) n3
      have nf1 : ∀ {p : Addr}, p ≠ f → p ∉ [f] := fun h z => h (List.mem_singleton.mp z)
      have y3 := nf1 (F4.ne n3)
      rw [eD]
      exact q _ (.tuple [.tuple ds3, .tuple ds4]) _ (.tup upd_same y3 (.cons (.tup (x3 _ _ (s4 _ _ ht3)) (nf1 tf3) ((th3.same s4).same x3)) (.cons (.tup (x3 _ _ ht4) (nf1 tf4) (th4.same x3)) .nil))) ⟨ds3, ds4, rfl, by omega, by omega, el3, el4⟩ (F4.same x3) (fun b o e nb => x3 _ _ (s4 _ _ (s3 _ _ (B1 b o e nb))))
  case tail1 =>
    rintro D' σ' H1 ⟨eD, l1, l2, s, M, w, rfl, w0, w11, es, fM, l12, ls1, ls2, ⟨ads, hsS, ne⟩, dom, old, F1, B1⟩
    have sM : s ∈ M := by rw [es]; split; exact ls2.1; exact ls1.1
    have sf : s ≠ f := by rw [es]; split; exact ls2.2.1; exact ls1.2.1
    have lsS : LstS f l1 l2 M E L H1 (decide (4 < w)) s := by
      by_cases h : 4 < w
      · rw [decide_eq_true h, es, if_pos h]; exact ls2
      · rw [decide_eq_false h, es, if_neg h]; exact ls1
    obtain ⟨_, _, ads', hs', lads, rowsS⟩ := id lsS
    rw [hsS] at hs'
    have : ads = ads' := map_inj (fun _ _ e => V.ref.inj e) (HO.lst.inj (Option.some.inj hs'))
    subst this
    have apos : 0 < ads.length := List.length_pos_iff.mpr ne
    refine ⟨_, rfl, _, rfl, s, _, rfl, .inl (SqL.of hsS), f, c, _, rfl, by rw [List.length_map]; omega, (by rw [List.length_map, Int.natAbs_natCast]; exact Nat.lt_of_le_of_lt (Nat.log2_le_self _) (by omega)), F1, fun at_ H2 p0 p1 F2 B2 => ?_⟩
    obtain ⟨k, rfl⟩ : ∃ k : Nat, at_ = ((k : Nat) : Int) := ⟨at_.toNat, by omega⟩
    rw [List.length_map] at p1
    obtain ⟨a, ea⟩ : ∃ a, ads[k]? = some a := ⟨_, List.getElem?_eq_getElem (by omega)⟩
    have sat : atI (ads.map V.ref) ((k : Nat) : Int) = some (V.ref a) := atI_nat (by rw [List.getElem?_map, ea]; rfl)
    obtain ⟨aM, af, a1, a2, row, hrow, r2, r3, gr, pb⟩ := rowsS a (List.mem_of_getElem? ea)
    have as_ : a ≠ s := by rw [es]; split; exact a2; exact a1
    have k12 : ∀ b o, H1 b = some o → b ≠ f → H2 b = some o := fun b o e n => B2 b o e n
    have kM : ∀ {H3 : Hp}, (∀ b o, H1 b = some o → b ≠ f → H3 b = some o) → ∀ b o, H1 b = some o → b ∉ M → H3 b = some o := fun k b o e nb => k b o e fun z => nb (z ▸ fM)
    have dm : ∀ {H3 : Hp}, (∀ b o, H1 b = some o → b ≠ f → H3 b = some o) → Flow H3 f c → ∀ b ∈ M, H3 b ≠ none := fun k F b hb z => by
      by_cases e : b = f
      · subst e
        obtain ⟨_, _, _, _, _, e1, _⟩ := F
        rw [e1] at z; cases z
      · cases h1 : H1 b with
        | none => exact dom b hb h1
        | some o => rw [k _ _ h1 e] at z; cases z
    have ac : ∀ {H3 : Hp}, Flow H3 f c → a ≠ c := fun _ z => by
      rcases old a aM with e | e
      · exact af e
      · obtain ⟨_, _, _, _, _, _, e2, _⟩ := hF
        rw [z, e2] at e; cases e
    have sc : s ≠ c := fun z => by
      rcases old s sM with e | e
      · exact sf e
      · obtain ⟨_, _, _, _, _, _, e2, _⟩ := hF
        rw [z, e2] at e; cases e
    have hN : ∀ {b : Addr}, b ∈ M → b ≠ f → H b = none := fun hb nb => (old _ hb).resolve_left nb
    have chg : ∀ {H3 : Hp} (row' : List V), (∀ b o, H1 b = some o → b ≠ f → H3 b = some o) → Flow H3 f c → row'.length ≤ 4 → (∀ y ∈ row', Gd M (E + 150) H3 y) → (4 < w → FinL f (E + 150) (L + 1) (L2.upd H3 a (.lst row')) l1 ∧ FinL f (E + 150) (L + 1) (L2.upd H3 a (.lst row')) s) ∧ (¬ 4 < w → FinL f (E + 150) (L + 1) (L2.upd H3 a (.lst row')) s ∧ FinL f (E + 150) (L + 1) (L2.upd H3 a (.lst row')) l2) ∧ Flow (L2.upd H3 a (.lst row')) f c ∧ But f H (L2.upd H3 a (.lst row')) := fun {H3} row' k F r4 g => by
      have f1 := (ls1.keep fM k).upd (L' := L + 1) fM aM a1.symm (Nat.le_add_right E 150) (by omega) r4 g
      have f2 := (ls2.keep fM k).upd (L' := L + 1) fM aM a2.symm (Nat.le_add_right E 150) (by omega) r4 g
      refine ⟨fun h => ⟨f1, ?_⟩, fun h => ⟨?_, f2⟩, F.lst af (ac F), fun b o e nb => ?_⟩
      · rw [es, if_pos h]; exact f2
      · rw [es, if_neg h]; exact f1
      · rw [upd_ne (fun z : b = a => by rw [z, hN aM af] at e; cases e)]
        exact k _ _ (B1 b o e nb) nb
    have grk : ∀ {H3 : Hp}, (∀ b o, H1 b = some o → b ≠ f → H3 b = some o) → ∀ y ∈ row, Gd M E H3 y := fun k y hy => (gr y hy).keep (kM k)
    have e200 : E ≤ E + 150 := Nat.le_add_right _ _
    refine ⟨_, rfl, rfl, _, rfl, if_bl (fun c0 => ?_) (fun c0 => ?_)⟩
    · have c0 : w = 0 := V.int.inj (of_decide_eq_true c0)
      refine ⟨(by show 1 ≤ sizeLine; decide), fun q0 n0 => ⟨(by show 1 ≤ sizeLine; decide), fun q1 n1 => ⟨(by show 1 ≤ sizeLine; decide), fun q2 n2 => ⟨(by show 1 ≤ sizeLine; decide), fun q3 n3 => ⟨(by show 1 ≤ sizeLine; decide), fun q4 n4 => ⟨(by show 1 ≤ sizeLine; decide), fun q5 n5 => ⟨(by show 1 ≤ sizeLine; decide), fun q6 n6 => ⟨(by show 2 ≤ sizeLine; decide), fun q7 n7 => ⟨(by show 8 ≤ sizeLine; decide), fun qm nm => ?_⟩⟩⟩⟩⟩⟩⟩⟩⟩
      have u0 := same_new (o := .tup [V.str "in"]) n0
      have u1 := same_new (o := .tup [V.str "out"]) n1
      have u2 := same_new (o := .tup [V.str "sum"]) n2
      have u3 := same_new (o := .tup [V.str "pick"]) n3
      have u4 := same_new (o := .tup [V.str "same"]) n4
      have u5 := same_new (o := .tup [V.str "add"]) n5
      have u6 := same_new (o := .tup [V.str "times"]) n6
      have u7 := same_new (o := .tup [V.str "times", V.bl true]) n7
      have um := same_new (o := .lst [V.ref q0, V.ref q1, V.ref q2, V.ref q3, V.ref q4, V.ref q5, V.ref q6, V.ref q7]) nm
      refine ⟨_, rfl, (by show 2 ≤ sizeLine; decide), fun q8 n8 => ⟨(by show 2 ≤ sizeLine; decide), fun q9 n9 => ⟨(by show 2 ≤ sizeLine; decide), fun ql nl => ?_⟩⟩⟩
      have u8 := same_new (o := .tup [V.str "always", V.str "3"]) n8
      have u9 := same_new (o := .tup [V.str "same", V.int 1]) n9
      have ul := same_new (o := .lst [V.ref q8, V.ref q9]) nl
      refine ⟨qm, ql, _, _, rfl, rfl, (u8.trans (u9.trans ul)) _ _ upd_same, upd_same, (by show 8 + 2 ≤ 16777216; decide), fun qc nc => ?_⟩
      have uc := same_new (o := .lst ([V.ref q0, V.ref q1, V.ref q2, V.ref q3, V.ref q4, V.ref q5, V.ref q6, V.ref q7] ++ [V.ref q8, V.ref q9])) nc
      have S0 := u0
      have S1 := S0.trans u1
      have S2 := S1.trans u2
      have S3 := S2.trans u3
      have S4 := S3.trans u4
      have S5 := S4.trans u5
      have S6 := S5.trans u6
      have S7 := S6.trans u7
      have Sm := S7.trans um
      have S8 := Sm.trans u8
      have S9 := S8.trans u9
      have Sl := S9.trans ul
      have Sc := Sl.trans uc
      have z0 := n0
      have z1 := same_none S0 n1
      have z2 := same_none S1 n2
      have z3 := same_none S2 n3
      have z4 := same_none S3 n4
      have z5 := same_none S4 n5
      have z6 := same_none S5 n6
      have z7 := same_none S6 n7
      have zm := same_none S7 nm
      have z8 := same_none Sm n8
      have z9 := same_none S8 n9
      have zl := same_none S9 nl
      have zc := same_none Sl nc
      have g0 := (u1.trans (u2.trans (u3.trans (u4.trans (u5.trans (u6.trans (u7.trans (um.trans (u8.trans (u9.trans (ul.trans (uc)))))))))))) _ _ (upd_same (a := q0) (o := .tup [V.str "in"]))
      have g1 := (u2.trans (u3.trans (u4.trans (u5.trans (u6.trans (u7.trans (um.trans (u8.trans (u9.trans (ul.trans (uc))))))))))) _ _ (upd_same (a := q1) (o := .tup [V.str "out"]))
      have g2 := (u3.trans (u4.trans (u5.trans (u6.trans (u7.trans (um.trans (u8.trans (u9.trans (ul.trans (uc)))))))))) _ _ (upd_same (a := q2) (o := .tup [V.str "sum"]))
      have g3 := (u4.trans (u5.trans (u6.trans (u7.trans (um.trans (u8.trans (u9.trans (ul.trans (uc))))))))) _ _ (upd_same (a := q3) (o := .tup [V.str "pick"]))
      have g4 := (u5.trans (u6.trans (u7.trans (um.trans (u8.trans (u9.trans (ul.trans (uc)))))))) _ _ (upd_same (a := q4) (o := .tup [V.str "same"]))
      have g5 := (u6.trans (u7.trans (um.trans (u8.trans (u9.trans (ul.trans (uc))))))) _ _ (upd_same (a := q5) (o := .tup [V.str "add"]))
      have g6 := (u7.trans (um.trans (u8.trans (u9.trans (ul.trans (uc)))))) _ _ (upd_same (a := q6) (o := .tup [V.str "times"]))
      have g7 := (um.trans (u8.trans (u9.trans (ul.trans (uc))))) _ _ (upd_same (a := q7) (o := .tup [V.str "times", V.bl true]))
      have g8 := (u9.trans (ul.trans (uc))) _ _ (upd_same (a := q8) (o := .tup [V.str "always", V.str "3"]))
      have g9 := (ul.trans (uc)) _ _ (upd_same (a := q9) (o := .tup [V.str "same", V.int 1]))
      have gc := upd_same (a := qc) (o := .lst ([V.ref q0, V.ref q1, V.ref q2, V.ref q3, V.ref q4, V.ref q5, V.ref q6, V.ref q7] ++ [V.ref q8, V.ref q9])) (H := upd (upd (upd (upd (upd (upd (upd (upd (upd (upd (upd (upd H2 q0 (.tup [V.str "in"])) q1 (.tup [V.str "out"])) q2 (.tup [V.str "sum"])) q3 (.tup [V.str "pick"])) q4 (.tup [V.str "same"])) q5 (.tup [V.str "add"])) q6 (.tup [V.str "times"])) q7 (.tup [V.str "times", V.bl true])) qm (.lst [V.ref q0, V.ref q1, V.ref q2, V.ref q3, V.ref q4, V.ref q5, V.ref q6, V.ref q7])) q8 (.tup [V.str "always", V.str "3"])) q9 (.tup [V.str "same", V.int 1])) ql (.lst [V.ref q8, V.ref q9]))
      have FC := F2.same Sc
      have qcf : qc ≠ f := F2.ne zc
      refine ⟨_, rfl, f, c, 10, rfl, by decide, by decide +kernel, FC, fun zz H5 z0' z9' FF B5 => ?_⟩
      have kk : ∀ b o, H1 b = some o → b ≠ f → H5 b = some o := fun b o e n => B5 _ _ (Sc _ _ (k12 b o e n)) n
      have up : ∀ {q : Addr} {t : List V}, H2 q = none → upd _ qc (.lst ([V.ref q0, V.ref q1, V.ref q2, V.ref q3, V.ref q4, V.ref q5, V.ref q6, V.ref q7] ++ [V.ref q8, V.ref q9])) q = some (.tup t) → t.length ≤ 2 → (∀ y ∈ t, Flt1 H5 y) → Gd M (E + 150) H5 (.ref q) := fun n e l fl => (gd_tup (B5 _ _ e (F2.ne n)) (not_dom (dm k12 F2) n) l fl).up (by omega)
      obtain ⟨v, hv, gv⟩ : ∃ v, atI ([V.ref q0, V.ref q1, V.ref q2, V.ref q3, V.ref q4, V.ref q5, V.ref q6, V.ref q7] ++ [V.ref q8, V.ref q9]) zz = some v ∧ Gd M (E + 150) H5 v := by
        have : zz = 0 ∨ zz = 1 ∨ zz = 2 ∨ zz = 3 ∨ zz = 4 ∨ zz = 5 ∨ zz = 6 ∨ zz = 7 ∨ zz = 8 ∨ zz = 9 := by omega
        rcases this with rfl | rfl | rfl | rfl | rfl | rfl | rfl | rfl | rfl | rfl
        · exact ⟨_, rfl, up z0 g0 (by decide) (f_one (f_str (by decide +kernel) (by decide +kernel)))⟩
        · exact ⟨_, rfl, up z1 g1 (by decide) (f_one (f_str (by decide +kernel) (by decide +kernel)))⟩
        · exact ⟨_, rfl, up z2 g2 (by decide) (f_one (f_str (by decide +kernel) (by decide +kernel)))⟩
        · exact ⟨_, rfl, up z3 g3 (by decide) (f_one (f_str (by decide +kernel) (by decide +kernel)))⟩
        · exact ⟨_, rfl, up z4 g4 (by decide) (f_one (f_str (by decide +kernel) (by decide +kernel)))⟩
        · exact ⟨_, rfl, up z5 g5 (by decide) (f_one (f_str (by decide +kernel) (by decide +kernel)))⟩
        · exact ⟨_, rfl, up z6 g6 (by decide) (f_one (f_str (by decide +kernel) (by decide +kernel)))⟩
        · exact ⟨_, rfl, up z7 g7 (by decide) (f_two (f_str (by decide +kernel) (by decide +kernel)) (.inr (.inr ⟨true, rfl⟩)))⟩
        · exact ⟨_, rfl, up z8 g8 (by decide) (f_two (f_str (by decide +kernel) (by decide +kernel)) (f_str (by decide +kernel) (by decide +kernel)))⟩
        · exact ⟨_, rfl, up z9 g9 (by decide) (f_two (f_str (by decide +kernel) (by decide +kernel)) (f_int (by decide)))⟩
      refine ⟨qc, _, _, _, rfl, rfl, SqL.of (B5 _ _ gc qcf), hv, ?_⟩
      exact ⟨_, rfl, _, rfl, s, _, _, _, rfl, rfl, SqL.of (kk _ _ hsS sf), sat, a, row, _, 0, rfl, rfl, kk _ _ hrow af, ixN_at (show 0 < row.length by omega), eD, l1, l2, s, w, _, _, rfl, chg _ kk FF (by rw [List.length_set]; omega) (gd_set (grk kk) e200 (gv))⟩
    have c0 : w ≠ 0 := fun z => of_decide_eq_false c0 (by rw [z])
    refine ⟨_, rfl, rfl, _, rfl, if_bl (fun c1 => ?_) (fun c1 => ?_)⟩
    · have c1 : w = 1 := V.int.inj (of_decide_eq_true c1)
      refine ⟨_, rfl, _, _, rfl, rfl, _, rfl, f, c, 40, rfl, by decide, by decide +kernel, F2, fun x1 H3 x10 x11 F3 B3 => ⟨_, _, rfl, rfl, _, rfl, f, c, 30, rfl, by decide, by decide +kernel, F3, fun x2 H4 x20 x21 F4 B4 => ⟨_, _, rfl, rfl, (by show 3 ≤ sizeLine; decide), fun p np => ?_⟩⟩⟩
      have u := same_new (o := .lst [V.int (-1), V.int (0 - 1 - x1), V.int (1 + x2)]) np
      have hp := upd_same (H := H4) (a := p) (o := .lst [V.int (-1), V.int (0 - 1 - x1), V.int (1 + x2)])
      have pf : p ≠ f := F4.ne np
      refine ⟨_, rfl, f, c, 3, rfl, by decide, by decide +kernel, F4.same u, fun zz H5 z0 z1 FF B5 => ?_⟩
      have kk : ∀ b o, H1 b = some o → b ≠ f → H5 b = some o := fun b o e n => B5 _ _ (u _ _ (B4 _ _ (B3 _ _ (k12 b o e n) n) n)) n
      obtain ⟨v, hv, gv⟩ : ∃ v, atI [V.int (-1), V.int (0 - 1 - x1), V.int (1 + x2)] zz = some v ∧ Gd M (E + 150) H5 v := by
        have : zz = 0 ∨ zz = 1 ∨ zz = 2 := by omega
        rcases this with rfl | rfl | rfl
        · exact ⟨_, rfl, (gd_int (by decide)).up (by omega)⟩
        · exact ⟨_, rfl, (gd_int (by omega)).up (by omega)⟩
        · exact ⟨_, rfl, (gd_int (by omega)).up (by omega)⟩
      refine ⟨p, _, _, _, rfl, rfl, SqL.of (B5 _ _ hp pf), hv, ?_⟩
      exact ⟨_, rfl, _, rfl, s, _, _, _, rfl, rfl, SqL.of (kk _ _ hsS sf), sat, a, row, _, 1, rfl, rfl, kk _ _ hrow af, ixN_at (show 1 < row.length by omega), eD, l1, l2, s, w, _, _, rfl, chg _ kk FF (by rw [List.length_set]; omega) (gd_set (grk kk) e200 (gv))⟩
    have c1 : w ≠ 1 := fun z => of_decide_eq_false c1 (by rw [z])
    refine ⟨_, rfl, (by show 2 ≤ sizeLine; decide), fun t2 nt2 => ?_⟩
    have v2 := same_new (o := .tup [V.int 2, V.int 5]) nt2
    have k2 : ∀ b o, H1 b = some o → b ≠ f → _ := fun b o e n => v2 _ _ (k12 b o e n)
    have FA := F2.same v2
    refine ⟨t2, _, rfl, .inr (SqT.of upd_same), rfl, rfl, _, rfl, if_ints (ns := [2, 5]) (fun c2 => ?_) (fun c2 => ?_)⟩
    · clear c2
      generalize upd H2 t2 (.tup [V.int 2, V.int 5]) = HA at v2 k2 FA ⊢
      refine ⟨_, rfl, f, c, rfl, FA, fun ov H3 ho F3 B3 => ?_⟩
      have k3 : ∀ b o, H1 b = some o → b ≠ f → H3 b = some o := fun b o e n => B3 _ _ (k2 b o e n) n
      have go := (ho M (dm k2 FA)).gd
      refine ⟨_, rfl, _, rfl, s, _, _, _, rfl, rfl, SqL.of (k3 _ _ hsS sf), sat, _, rfl, _, rfl, _, rfl, s, _, _, _, rfl, rfl, SqL.of (k3 _ _ hsS sf), sat, a, _, rfl, .inl (SqL.of (k3 _ _ hrow af)), f, c, _, rfl, by omega, (by rw [Int.natAbs_natCast]; exact Nat.lt_of_le_of_lt (Nat.log2_le_self _) (by omega)), F3, fun j H4 j0 j1 F4 B4 => ?_⟩
      obtain ⟨j, rfl⟩ : ∃ n : Nat, j = ((n : Nat) : Int) := ⟨j.toNat, by omega⟩
      have k4 : ∀ b o, H1 b = some o → b ≠ f → H4 b = some o := fun b o e n => B4 _ _ (k3 b o e n) n
      have go4 := go.keep (H' := H4) fun b o e nb => B4 _ _ e fun z => nb (z ▸ fM)
      exact ⟨a, row, _, j, rfl, rfl, k4 _ _ hrow af, ixN_at (show j < row.length by omega), eD, l1, l2, s, w, _, _, rfl, chg _ k4 F4 (by rw [List.length_set]; omega) (gd_set (grk k4) e200 (go4.up (by omega)))⟩
    have w25 : w ≠ 2 ∧ w ≠ 5 := ⟨fun z => c2 (by simp [z]), fun z => c2 (by simp [z])⟩
    generalize upd H2 t2 (.tup [V.int 2, V.int 5]) = HA at v2 k2 FA ⊢
    refine ⟨_, rfl, (by show 2 ≤ sizeLine; decide), fun t3 nt3 => ?_⟩
    have v3 := same_new (o := .tup [V.int 3, V.int 6]) nt3
    have k3 : ∀ b o, H1 b = some o → b ≠ f → _ := fun b o e n => v3 _ _ (k2 b o e n)
    have FB := FA.same v3
    refine ⟨t3, _, rfl, .inr (SqT.of upd_same), rfl, rfl, _, rfl, if_ints (ns := [3, 6]) (fun c3 => ?_) (fun c3 => ?_)⟩
    · clear c3
      generalize upd HA t3 (.tup [V.int 3, V.int 6]) = HB at v3 k3 FB ⊢
      refine ⟨_, rfl, _, rfl, _, rfl, _, rfl, s, _, _, _, rfl, rfl, SqL.of (k3 _ _ hsS sf), sat, a, _, rfl, .inl (SqL.of (k3 _ _ hrow af)), fun p1 np1 => ⟨(by show 0 ≤ sizeLine; decide), fun p2 np2 => ⟨(by show 3 ≤ sizeLine; decide), fun p3 np3 => ⟨(by show 2 ≤ sizeLine; decide), fun p4 np4 => ?_⟩⟩⟩⟩
      have x1 := same_new (o := .lst row) np1
      have x2 := same_new (o := .tup ([] : List V)) np2
      have x3 := same_new (o := .lst [V.int 0, V.int 0, V.ref p2]) np3
      have x4 := same_new (o := .lst [V.ref p1, V.ref p3]) np4
      have h1 := (x2.trans (x3.trans x4)) _ _ (upd_same (H := HB) (a := p1) (o := .lst row))
      have h2 := (x3.trans x4) _ _ (upd_same (H := upd HB p1 (.lst row)) (a := p2) (o := .tup ([] : List V)))
      have h3 := x4 _ _ (upd_same (a := p3) (o := .lst [V.int 0, V.int 0, V.ref p2]))
      have h4 := upd_same (H := upd (upd (upd HB p1 (.lst row)) p2 (.tup ([] : List V))) p3 (.lst [V.int 0, V.int 0, V.ref p2])) (a := p4) (o := .lst [V.ref p1, V.ref p3])
      have xs := x1.trans (x2.trans (x3.trans x4))
      have FC := FB.same xs
      have p1f : p1 ≠ f := FB.ne np1
      have p2f : p2 ≠ f := (FB.same x1).ne np2
      have p3f : p3 ≠ f := ((FB.same x1).same x2).ne np3
      have p4f : p4 ≠ f := (((FB.same x1).same x2).same x3).ne np4
      have p2M : p2 ∉ M := not_dom (dm k3 FB) (same_none x1 np2)
      have k5 : ∀ b o, H1 b = some o → b ≠ f → _ := fun b o e n => xs _ _ (k3 b o e n)
      generalize upd (upd (upd (upd HB p1 (.lst row)) p2 (.tup ([] : List V))) p3 (.lst [V.int 0, V.int 0, V.ref p2])) p4 (.lst [V.ref p1, V.ref p3]) = HC at h1 h2 h3 h4 FC k5 ⊢
      have two : ∀ {H6 : Hp} (b : Bool), (∀ b o, HC b = some o → b ≠ f → H6 b = some o) → ∃ (y : Addr) (yr : List V), atI [V.ref p1, V.ref p3] (if b = true then 1 else 0) = some (V.ref y) ∧ y ≠ f ∧ H6 y = some (.lst yr) ∧ yr.length ≤ 4 ∧ ∀ z ∈ yr, Gd M E H6 z := fun {H6} b k => by
        cases b with
        | false => exact ⟨p1, row, rfl, p1f, k _ _ h1 p1f, by omega, fun z hz => (gr z hz).keep (kM fun b o e n => k _ _ (k5 b o e n) n)⟩
        | true =>
          refine ⟨p3, _, rfl, p3f, k _ _ h3 p3f, by show 3 ≤ 4; decide, fun z hz => ?_⟩
          simp only [List.mem_cons, List.not_mem_nil, or_false] at hz
          rcases hz with rfl | rfl | rfl
          · exact (gd_int (by decide)).up (by omega)
          · exact (gd_int (by decide)).up (by omega)
          · exact (gd_tup (k _ _ h2 p2f) p2M (by decide) (fun _ h => nomatch h)).up e100
      refine ⟨_, rfl, rfl, _, rfl, if_bl (fun _ => ?_) (fun _ => ?_)⟩
      · refine ⟨_, rfl, f, c, 2, rfl, by decide, by decide +kernel, FC, fun zz H6 z0 z1 F6 B6 => ⟨rfl, ?_⟩⟩
        have k6 : ∀ b o, H1 b = some o → b ≠ f → H6 b = some o := fun b o e n => B6 _ _ (k5 b o e n) n
        obtain ⟨y, yr, hat, yf, hy, y4, gy⟩ := two (decide (V.int zz = V.int 0)) (fun b o e n => B6 b o e n)
        refine .inr ⟨_, rfl, p4, _, _, _, rfl, rfl, SqL.of (B6 _ _ h4 p4f), hat, ?_⟩
        refine ⟨f, c, s, ads.map V.ref, V.ref y, rfl, k6 _ _ hsS sf, sf, (fun z => ne (List.map_eq_nil_iff.mp z)), (by rw [List.length_map]; omega), F6, fun p ys H9 pt np pf hp F9 B9 => ?_⟩
        have k9 : ∀ b o, H1 b = some o → b ≠ f → H9 b = some o := fun b o e n => B9 _ _ (k6 b o e n) n
        obtain ⟨zs, pz, rfl⟩ := put_map pt
        have lz := pz.len
        have fin : FinL f (E + 150) (L + 1) H9 p := by
          refine ⟨pf, zs, hp, by omega, fun b hb => ?_⟩
          rcases pz.mem b hb with hb | rfl
          · obtain ⟨_, bf, _, _, rw_, e, q2, q3, g, _⟩ := (rowsS b hb).keep fM k9
            exact ⟨bf, rw_, e, by omega, fun y hy => ((g y hy).up e200).less fM⟩
          · exact ⟨yf, yr, B9 _ _ hy yf, y4, fun z hz => (((gy z hz).keep fun b o e nb => B9 _ _ e fun z => nb (z ▸ fM)).up (by omega)).less fM⟩
        exact ⟨eD, l1, l2, p, w, _, _, rfl, fun _ => ⟨(ls1.keep fM k9).fin fM e200 (by omega), fin⟩, fun _ => ⟨fin, (ls2.keep fM k9).fin fM e200 (by omega)⟩, F9, fun b o e nb => k9 _ _ (B1 b o e nb) nb⟩
      · obtain ⟨y, yr, hat, yf, hy, y4, gy⟩ := two (H6 := HC) false (fun b o e n => e)
        refine .inr ⟨_, rfl, p4, _, _, _, rfl, rfl, SqL.of h4, hat, ?_⟩
        refine ⟨f, c, s, ads.map V.ref, V.ref y, rfl, k5 _ _ hsS sf, sf, (fun z => ne (List.map_eq_nil_iff.mp z)), (by rw [List.length_map]; omega), FC, fun p ys H9 pt np pf hp F9 B9 => ?_⟩
        have k9 : ∀ b o, H1 b = some o → b ≠ f → H9 b = some o := fun b o e n => B9 _ _ (k5 b o e n) n
        obtain ⟨zs, pz, rfl⟩ := put_map pt
        have lz := pz.len
        have fin : FinL f (E + 150) (L + 1) H9 p := by
          refine ⟨pf, zs, hp, by omega, fun b hb => ?_⟩
          rcases pz.mem b hb with hb | rfl
          · obtain ⟨_, bf, _, _, rw_, e, q2, q3, g, _⟩ := (rowsS b hb).keep fM k9
            exact ⟨bf, rw_, e, by omega, fun y hy => ((g y hy).up e200).less fM⟩
          · exact ⟨yf, yr, B9 _ _ hy yf, y4, fun z hz => (((gy z hz).keep fun b o e nb => B9 _ _ e fun z => nb (z ▸ fM)).up (by omega)).less fM⟩
        exact ⟨eD, l1, l2, p, w, _, _, rfl, fun _ => ⟨(ls1.keep fM k9).fin fM e200 (by omega), fin⟩, fun _ => ⟨fin, (ls2.keep fM k9).fin fM e200 (by omega)⟩, F9, fun b o e nb => k9 _ _ (B1 b o e nb) nb⟩
    have w36 : w ≠ 3 ∧ w ≠ 6 := ⟨fun z => c3 (by simp [z]), fun z => c3 (by simp [z])⟩
    generalize upd HA t3 (.tup [V.int 3, V.int 6]) = HB at v3 k3 FB ⊢
    refine ⟨_, rfl, (by show 2 ≤ sizeLine; decide), fun t4 nt4 => ?_⟩
    have v4 := same_new (o := .tup [V.int 4, V.int 7]) nt4
    have k4 : ∀ b o, H1 b = some o → b ≠ f → _ := fun b o e n => v4 _ _ (k3 b o e n)
    have FC := FB.same v4
    refine ⟨t4, _, rfl, .inr (SqT.of upd_same), rfl, rfl, _, rfl, if_ints (ns := [4, 7]) (fun c4 => ?_) (fun c4 => ?_)⟩
    · clear c4
      generalize upd HB t4 (.tup [V.int 4, V.int 7]) = HC at v4 k4 FC ⊢
      refine ⟨_, rfl, _, rfl, _, rfl, s, _, _, _, rfl, rfl, SqL.of (k4 _ _ hsS sf), sat, _, rfl, f, c, rfl, FC, fun ov H5 ho F5 B5 => ?_⟩
      have k5 : ∀ b o, H1 b = some o → b ≠ f → H5 b = some o := fun b o e n => B5 _ _ (k4 b o e n) n
      have go := (ho M (dm k4 FC)).gd
      refine ⟨f, c, a, row, ov, rfl, k5 _ _ hrow af, af, (fun z => by rw [z] at r2; exact absurd r2 (by decide)), by omega, F5, fun p ys H6 pt np pf hp F6 B6 => ?_⟩
      have k6 : ∀ b o, H1 b = some o → b ≠ f → H6 b = some o := fun b o e n => B6 _ _ (k5 b o e n) n
      have ps : p ≠ s := fun z => by rw [z, k5 _ _ hsS sf] at np; cases np
      have gys : ∀ z ∈ ys, Gd M (E + 150) H6 z := fun z hz => by
        rcases pt.mem z hz with h | rfl
        · exact ((gr z h).keep (kM k6)).up e200
        · exact (go.keep fun b o e nb => B6 _ _ e fun z => nb (z ▸ fM)).up (by omega)
      have ly := pt.len
      refine ⟨_, rfl, _, rfl, s, _, _, k, rfl, rfl, k6 _ _ hsS sf, ixN_at (by rw [List.length_map]; omega), eD, l1, l2, s, w, _, _, rfl, ?_⟩
      have kU : ∀ {b : Bool} {l : Addr}, LstS f l1 l2 M E L H6 b l → l ≠ s → FinL f (E + 150) (L + 1) (upd H6 s (.lst ((ads.map V.ref).set k (.ref p)))) l := fun h ls => by
        obtain ⟨a1, a2, as2, e, ll, g⟩ := h
        refine ⟨a2, as2, by rw [upd_ne ls]; exact e, by omega, fun c hc => ?_⟩
        obtain ⟨_, cf, c1, c2, rw_, e, q2, q3, g, _⟩ := g c hc
        have cs : c ≠ s := by rw [es]; split; exact c2; exact c1
        exact ⟨cf, rw_, by rw [upd_ne cs]; exact e, by omega, fun y hy => (((g y hy).up e200).keep fun b o e nb => by rw [upd_ne (fun z : b = s => nb (by rw [z]; exact sM))]; exact e).less fM⟩
      have fin : FinL f (E + 150) (L + 1) (upd H6 s (.lst ((ads.map V.ref).set k (.ref p)))) s := by
        refine ⟨sf, ads.set k p, by rw [upd_same, List.map_set], by rw [List.length_set]; omega, fun c hc => ?_⟩
        have toU : ∀ {y : V}, Gd M (E + 150) H6 y → Gd [f] (E + 150) (upd H6 s (.lst ((ads.map V.ref).set k (.ref p)))) y := fun g => (g.keep fun b o e nb => by rw [upd_ne (fun z : b = s => nb (by rw [z]; exact sM))]; exact e).less fM
        rcases List.mem_or_eq_of_mem_set hc with hc | rfl
        · obtain ⟨_, cf, c1, c2, rw_, e, q2, q3, g, _⟩ := (rowsS c hc).keep fM k6
          have cs : c ≠ s := by rw [es]; split; exact c2; exact c1
          exact ⟨cf, rw_, by rw [upd_ne cs]; exact e, by omega, fun y hy => toU ((g y hy).up e200)⟩
        · exact ⟨pf, ys, by rw [upd_ne ps]; exact hp, by omega, fun y hy => toU (gys y hy)⟩
      refine ⟨fun h => ⟨kU (ls1.keep fM k6) (by rw [es, if_pos h]; exact l12), fin⟩, fun h => ⟨fin, kU (ls2.keep fM k6) (by rw [es, if_neg h]; exact l12.symm)⟩, F6.lst sf sc, fun b o e nb => ?_⟩
      rw [upd_ne (fun z : b = s => by rw [z, hN sM sf] at e; cases e)]
      exact k6 _ _ (B1 b o e nb) nb
    have w47 : w ≠ 4 ∧ w ≠ 7 := ⟨fun z => c4 (by simp [z]), fun z => c4 (by simp [z])⟩
    generalize upd HB t4 (.tup [V.int 4, V.int 7]) = HC at v4 k4 FC ⊢
    obtain ⟨m1, f1, ads1, hl1, lad1, rows1⟩ := id ls1
    refine ⟨_, rfl, _, _, rfl, rfl, _, rfl, if_bl (fun c5 => ?_) (fun c5 => ?_)⟩
    · have lim : ∀ n : Nat, n ≤ 400 → (n : Int).natAbs.log2 < 9000 := fun n h => by rw [Int.natAbs_natCast]; exact Nat.lt_of_le_of_lt (Nat.log2_le_self _) (by omega)
      refine ⟨_, rfl, _, rfl, l1, _, rfl, .inl (SqL.of (k4 _ _ hl1 f1)), _, rfl, _, rfl, l1, _, rfl, .inl (SqL.of (k4 _ _ hl1 f1)), _, _, rfl, rfl, ?_⟩
      rw [List.length_map]
      refine ⟨f, c, _, rfl, by omega, lim (ads1.length + 1) (by omega), FC, fun x H5 x0 x1 F5 B5 => ⟨(by show 3 ≤ sizeLine; decide), fun p np => ?_⟩⟩
      have u := same_new (o := .lst [V.int (-1), V.int ((ads1.length : Nat) : Int), V.int x]) np
      have hp := upd_same (H := H5) (a := p) (o := .lst [V.int (-1), V.int ((ads1.length : Nat) : Int), V.int x])
      have pf : p ≠ f := F5.ne np
      refine ⟨_, rfl, f, c, 3, rfl, by decide, by decide +kernel, F5.same u, fun zz H6 z0 z1 F6 B6 => ?_⟩
      obtain ⟨v, hv, gv⟩ : ∃ v, atI [V.int (-1), V.int ((ads1.length : Nat) : Int), V.int x] zz = some v ∧ ∀ H7 : Hp, Gd M (E + 150) H7 v := by
        have : zz = 0 ∨ zz = 1 ∨ zz = 2 := by omega
        rcases this with rfl | rfl | rfl
        · exact ⟨_, rfl, fun H7 => (gd_int (by decide)).up (by omega)⟩
        · exact ⟨_, rfl, fun H7 => (gd_int (by omega)).up (by omega)⟩
        · exact ⟨_, rfl, fun H7 => (gd_int (by omega)).up (by omega)⟩
      have k6 : ∀ b o, H1 b = some o → b ≠ f → H6 b = some o := fun b o e n => B6 _ _ (u _ _ (B5 _ _ (k4 b o e n) n)) n
      refine ⟨p, _, _, _, rfl, rfl, SqL.of (B6 _ _ hp pf), hv, ?_⟩
      refine ⟨_, rfl, _, rfl, s, _, _, _, rfl, rfl, SqL.of (k6 _ _ hsS sf), sat, _, rfl, f, c, 2, rfl, by decide, by decide +kernel, F6, fun j H7 j0 j1 F7 B7 => ?_⟩
      obtain ⟨j, rfl⟩ : ∃ n : Nat, j = ((n : Nat) : Int) := ⟨j.toNat, by omega⟩
      have k7 : ∀ b o, H1 b = some o → b ≠ f → H7 b = some o := fun b o e n => B7 _ _ (k6 b o e n) n
      exact ⟨a, row, _, j, rfl, rfl, k7 _ _ hrow af, ixN_at (show j < row.length by omega), eD, l1, l2, s, w, _, _, rfl, chg _ k7 F7 (by rw [List.length_set]; omega) (gd_set (grk k7) e200 (gv _))⟩
    have c5 : ¬ w < 10 := of_decide_eq_false c5
    obtain ⟨x, y, g, zs, ds, erow, hg, gM, thz, plz, wz⟩ := pb (decide_eq_true (by omega))
    have gf : g ≠ f := fun z => gM (by rw [z]; exact fM)
    refine ⟨_, rfl, rfl, _, rfl, if_bl (fun c6 => ?_) (fun c6 => ?_)⟩
    · refine ⟨(by show 0 ≤ sizeLine; decide), fun p np => ?_⟩
      have u := same_new (o := .tup ([] : List V)) np
      have k5 : ∀ b o, H1 b = some o → b ≠ f → upd HC p (.tup ([] : List V)) b = some o := fun b o e n => u _ _ (k4 b o e n)
      have gv : Gd M (E + 150) (upd HC p (.tup ([] : List V))) (.ref p) := (gd_tup (ys := []) upd_same (not_dom (dm k4 FC) np) (by decide) (fun _ h => nomatch h)).up (by omega)
      exact ⟨_, rfl, _, rfl, s, _, _, _, rfl, rfl, SqL.of (k5 _ _ hsS sf), sat, a, row, _, 2, rfl, rfl, k5 _ _ hrow af, ixN_at (show 2 < row.length by rw [erow]; exact (by decide : 2 < 3)), eD, l1, l2, s, w, _, _, rfl, chg _ k5 (FC.same u) (by rw [List.length_set]; omega) (gd_set (grk k5) e200 gv)⟩
    have lzs := thz.length
    have lds := wt_all_len ds
    have row2 : atI row 2 = some (V.ref g) := by rw [erow]; rfl
    refine ⟨_, rfl, _, rfl, _, rfl, s, _, _, _, rfl, rfl, SqL.of (k4 _ _ hsS sf), sat, a, _, _, _, rfl, rfl, SqL.of (k4 _ _ hrow af), row2, g, zs, rfl, .inr (SqT.of (k4 _ _ hg gf)), fun p1 np1 => ⟨(by show 1 ≤ sizeLine; decide), fun p2 np2 => ?_⟩⟩
    have x1 := same_new (o := .lst zs) np1
    have x2 := same_new (o := .lst [V.int 4]) np2
    refine ⟨p1, p2, zs, _, rfl, rfl, x2 _ _ upd_same, upd_same, little (by show zs.length + 1 ≤ 1000; omega), fun p3 np3 => ?_⟩
    have x3 := same_new (o := .lst (zs ++ [V.int 4])) np3
    have hp3 := upd_same (H := upd (upd HC p1 (.lst zs)) p2 (.lst [V.int 4])) (a := p3) (o := .lst (zs ++ [V.int 4]))
    have xs := x1.trans (x2.trans x3)
    have FD := FC.same xs
    have p3f : p3 ≠ f := ((FC.same x1).same x2).ne np3
    have k5 : ∀ b o, H1 b = some o → b ≠ f → _ := fun b o e n => xs _ _ (k4 b o e n)
    generalize upd (upd (upd HC p1 (.lst zs)) p2 (.lst [V.int 4])) p3 (.lst (zs ++ [V.int 4])) = HD at hp3 FD k5 ⊢
    refine ⟨_, rfl, f, c, rfl, FD, fun ov H5 ho F5 B5 => ⟨(by show 2 ≤ sizeLine; decide), fun p4 np4 => ?_⟩⟩
    have x4 := same_new (o := .lst [ov, V.int 5]) np4
    have hp4 := upd_same (H := H5) (a := p4) (o := .lst [ov, V.int 5])
    have p4f : p4 ≠ f := F5.ne np4
    have go := ho M (dm k5 FD)
    refine ⟨_, rfl, f, c, 2, rfl, by decide, by decide +kernel, F5.same x4, fun zz H6 z0 z1 F6 B6 => ?_⟩
    have k56 : ∀ b o, H5 b = some o → b ≠ f → H6 b = some o := fun b o e n => B6 _ _ (x4 _ _ e) n
    obtain ⟨v, hv, dv, tv, pv_, wv⟩ : ∃ v, atI [ov, V.int 5] zz = some v ∧ G3 M 100 H6 v := by
      have : zz = 0 ∨ zz = 1 := by omega
      rcases this with rfl | rfl
      · obtain ⟨d, t, p⟩ := go
        exact ⟨_, rfl, d, t.keep fun b o e nb => k56 b o e fun z => nb (z ▸ fM), p⟩
      · exact ⟨_, rfl, (g3_int (by decide)).up (by decide)⟩
    have k6 : ∀ b o, H1 b = some o → b ≠ f → H6 b = some o := fun b o e n => k56 _ _ (B5 _ _ (k5 b o e n) n) n
    have hp36 := k56 _ _ (B5 _ _ hp3 p3f) p3f
    refine ⟨p4, _, _, _, rfl, rfl, SqL.of (B6 _ _ hp4 p4f), hv, f, c, p3, _, v, rfl, hp36, p3f, (fun z => by have := congrArg List.length z; rw [List.length_append] at this; simp at this), (by rw [List.length_append]; show zs.length + 1 ≤ 900; omega), F6, fun p ys H7 pt np pf hp F7 B7 => ?_⟩
    have k7 : ∀ b o, H1 b = some o → b ≠ f → H7 b = some o := fun b o e n => B7 _ _ (k6 b o e n) n
    have kM7 : ∀ b o, H6 b = some o → b ∉ M → H7 b = some o := fun b o e nb => B7 b o e fun z => nb (z ▸ fM)
    obtain ⟨ds', pd, thy⟩ := (((thz.keep (kM k7)).app (.cons (.int 4) .nil))).put (tv.keep kM7) pt
    have wd := pd.wt
    rw [wt_app] at wd
    have w4 : PyData.weightAll [PyData.int 4] ≤ 42 := by
      have := (Neat.int (i := 4) (dp := 0) (by decide)).wei
      simp only [PyData.weightAll]
      omega
    refine ⟨p, ys, rfl, .inl ⟨SqL.of hp, fun t nt => ?_⟩⟩
    have x8 := same_new (o := .tup ys) nt
    have k8 : ∀ b o, H1 b = some o → b ≠ f → upd H7 t (.tup ys) b = some o := fun b o e n => x8 _ _ (k7 b o e n)
    have gv : Gd M (E + 150) (upd H7 t (.tup ys)) (.ref t) := by
      refine ⟨.tuple ds', .tup upd_same (not_dom (dm k7 F7) nt) (thy.same x8), Pl.tup fun d hd => ?_, by rw [wt_tup]; omega⟩
      rcases pd.mem d hd with h | rfl
      · rcases List.mem_append.mp h with h | h
        · exact plz d h
        · rw [List.mem_singleton.mp h]; exact (Neat.int (dp := 3) (by decide)).pl
      · exact pv_
    exact ⟨_, rfl, _, rfl, s, _, _, _, rfl, rfl, SqL.of (k8 _ _ hsS sf), sat, a, row, _, 2, rfl, rfl, k8 _ _ hrow af, ixN_at (show 2 < row.length by rw [erow]; exact (by decide : 2 < 3)), eD, l1, l2, s, w, _, _, rfl, chg _ k8 (F7.same x8) (by rw [List.length_set]; omega) (gd_set (grk k8) e200 gv)⟩
  obtain ⟨hs, bs, rfl⟩ := form_ex fm
  obtain ⟨lh, lb, eh1, eb1⟩ := el_hand sz
  have th0 := th
  cases th with
  | @tup r xs _ er nr al =>
  cases al with
  | cons h1 al =>
  cases al with
  | cons h2 al =>
  cases al
  cases h1 with
  | @tup ha hv _ eha nh alh =>
  cases h2 with
  | @tup ba bv _ eba nb alb =>
  have lhv := alh.length
  have lbv := alb.length
  have tupH : ∀ x ∈ hs.map HX.d, ∃ es, x = .tuple es := fun x hx => by
    obtain ⟨h, _, rfl⟩ := List.mem_map.mp hx
    exact ⟨_, rfl⟩
  have tupB : ∀ x ∈ bs.map BX.d, ∃ es, x = .tuple es := fun x hx => by
    obtain ⟨h, _, rfl⟩ := List.mem_map.mp hx
    exact ⟨_, rfl⟩
  have lmh : (hs.map HX.d).length = hs.length := List.length_map ..
  have lmb : (bs.map BX.d).length = bs.length := List.length_map ..
  refine ⟨_, rfl, r, _, _, _, rfl, rfl, SqT.of er, atI_nat (j := 0) rfl, ha, rfl, ⟨_, SqT.of eha⟩, fun D1 nD1 => lc_tup (K := K) (a := ha) (xs := hv) (fun i H5 => ∃ ads : List Addr, H5 D1 = some (.lst (ads.map V.ref)) ∧ All2 (RwT f H H5) ads ((hs.map HX.d).take i) ∧ (∀ a ∈ ads, a ≠ D1 ∧ H a = none) ∧ Same H H5) ⟨[], upd_same, .nil, (fun _ h => nomatch h), same_new nD1⟩ (fun i H5 _ ⟨_, _, _, _, s5⟩ => SqT.of (s5 _ _ eha)) ?_ ?_⟩
  · rintro i x H5 hx ⟨ads, hD, ar, nd, s5⟩
    obtain ⟨d1, ed, hd⟩ := alh.get hx
    obtain ⟨es, rfl⟩ := tupH d1 (List.mem_of_getElem? ed)
    have il := (List.getElem?_eq_some_iff.mp ed).1
    have lads := ar.length
    rw [List.length_take] at lads
    cases hd with
    | @tup t row _ ht nt al2 =>
    have s05 := (Same.refl H).trans s5
    refine ⟨rfl, yes_in ⟨_, rfl, t, row, rfl, .inr (SqT.of (s05 _ _ ht)), fun a na => ?_⟩⟩
    have u := same_new (o := .lst row) na
    have aD : a ≠ D1 := fun z => by rw [z, hD] at na; cases na
    refine ⟨_, u _ _ hD, (by rw [List.length_map]; exact small1000 (by omega)), ads ++ [a], (by rw [upd_same, List.map_append]; rfl), ?_, ?_, Same.own (s5.trans u) nD1⟩
    · rw [List.take_add_one, ed]
      have kk : ∀ (ys : List V) b, b ≠ D1 → ∀ o, H5 b = some o → upd (upd H5 a (.lst row)) D1 (.lst ys) b = some o := fun ys b nb o e => by rw [upd_ne nb]; exact u _ _ e
      refine (all_keep ar fun b hb => kk _ b (nd b hb).1).snoc ⟨same_none s05 na, row, es, (upd_ne aD).trans upd_same, rfl, al2⟩
    · intro b hb
      rcases List.mem_append.mp hb with hb | hb
      · exact nd b hb
      · rw [List.mem_singleton.mp hb]; exact ⟨aD, same_none s5 na⟩
  rintro H2 ⟨ads1, hD1, ar1, nd1, s1⟩
  rw [lhv, List.take_length] at ar1
  refine ⟨_, rfl, r, _, _, _, rfl, rfl, SqT.of (s1 _ _ er), atI_nat (j := 1) rfl, ba, rfl, ⟨_, SqT.of (s1 _ _ eba)⟩, fun D2 nD2 => lc_tup (K := K) (a := ba) (xs := bv) (fun i H5 => ∃ ads : List Addr, H5 D2 = some (.lst (ads.map V.ref)) ∧ All2 (RwT f H H5) ads ((bs.map BX.d).take i) ∧ (∀ a ∈ ads, a ≠ D2 ∧ H2 a = none) ∧ Same H2 H5) ⟨[], upd_same, .nil, (fun _ h => nomatch h), same_new nD2⟩ (fun i H5 _ ⟨_, _, _, _, s5⟩ => SqT.of (s5 _ _ (s1 _ _ eba))) ?_ ?_⟩
  · rintro i x H5 hx ⟨ads, hD, ar, nd, s5⟩
    obtain ⟨d1, ed, hd⟩ := alb.get hx
    obtain ⟨es, rfl⟩ := tupB d1 (List.mem_of_getElem? ed)
    have il := (List.getElem?_eq_some_iff.mp ed).1
    have lads := ar.length
    rw [List.length_take] at lads
    cases hd with
    | @tup t row _ ht nt al2 =>
    have s05 := s1.trans s5
    refine ⟨rfl, yes_in ⟨_, rfl, t, row, rfl, .inr (SqT.of (s05 _ _ ht)), fun a na => ?_⟩⟩
    have u := same_new (o := .lst row) na
    have aD : a ≠ D2 := fun z => by rw [z, hD] at na; cases na
    refine ⟨_, u _ _ hD, (by rw [List.length_map]; exact small1000 (by omega)), ads ++ [a], (by rw [upd_same, List.map_append]; rfl), ?_, ?_, Same.own (s5.trans u) nD2⟩
    · rw [List.take_add_one, ed]
      have kk : ∀ (ys : List V) b, b ≠ D2 → ∀ o, H5 b = some o → upd (upd H5 a (.lst row)) D2 (.lst ys) b = some o := fun ys b nb o e => by rw [upd_ne nb]; exact u _ _ e
      refine (all_keep ar fun b hb => kk _ b (nd b hb).1).snoc ⟨same_none s05 na, row, es, (upd_ne aD).trans upd_same, rfl, al2⟩
    · intro b hb
      rcases List.mem_append.mp hb with hb | hb
      · exact nd b hb
      · rw [List.mem_singleton.mp hb]; exact ⟨aD, same_none s5 na⟩
  rintro H3 ⟨ads2, hD2, ar2, nd2, s2⟩
  rw [lbv, List.take_length] at ar2
  have FH := hF.same (s1.trans s2)
  have nf : ∀ b, H b = none → b ≠ f := fun b n z => by
    subst z
    obtain ⟨_, _, _, _, _, e1, _⟩ := hF
    rw [e1] at n
    cases n
  have hD13 := s2 _ _ hD1
  have nD2' := same_none s1 nD2
  have ar13 := all_keep ar1 fun a _ o e => s2 _ _ e
  have s13 := s1.trans s2
  have d12 : D1 ≠ D2 := fun z => by rw [← z, hD1] at nD2; cases nD2
  refine ⟨_, rfl, f, c, 14, rfl, by decide, by decide +kernel, FH, fun w H4 w0 w14 F4 B4 => ?_⟩
  have B04 : But f H H4 := (But.of s13).trans B4
  have k34 : ∀ b o, H3 b = some o → b ≠ f → H4 b = some o := fun b o e n => B4 b o e n
  have k04 : ∀ b o, H b = some o → b ≠ f → H4 b = some o := fun b o e n => B04 b o e n
  have ar14 := all_keep ar13 fun a ha o e => k34 a o e (nf a (nd1 a ha).2)
  have nn2 : ∀ a ∈ ads2, H a = none := fun a ha => same_none s1 (nd2 a ha).2
  have ar24 := all_keep ar2 fun a ha o e => k34 a o e (nf a (nn2 a ha))
  refine ⟨_, rfl, _, _, rfl, rfl, _, rfl, if_bl (fun cw => ?_) (fun cw => ?_)⟩
  · have cw : w > 11 := of_decide_eq_true cw
    refine ⟨_, rfl, _, rfl, _, rfl, _, _, rfl, rfl, f, c, _, _, E, L, w - 12, rfl, by omega, F4, th0.keep fun b o e nb => k04 b o e fun z => nb (by rw [z]; exact List.mem_singleton.mpr rfl), fm, sz, e100, l300, fun v' d' H' t z F B => q v' d' H' t ?_ F (B04.trans B)⟩
    obtain ⟨as, cs, e, m1, m2, m3, m4⟩ := z
    exact ⟨as, cs, e, m1, m2, fun x hx => (m3 x hx).up (by omega), fun x hx => (m4 x hx).up (by omega)⟩
  have cw : ¬ w > 11 := of_decide_eq_false cw
  obtain ⟨M, eM⟩ : ∃ M : List Addr, M = D2 :: D1 :: (ads2 ++ ads1 ++ [f]) := ⟨_, rfl⟩
  have fM : f ∈ M := by rw [eM]; simp
  have m1 : D1 ∈ M := by rw [eM]; simp
  have m2 : D2 ∈ M := by rw [eM]; simp
  have ma1 : ∀ a ∈ ads1, a ∈ M := fun a ha => by rw [eM]; simp [ha]
  have ma2 : ∀ a ∈ ads2, a ∈ M := fun a ha => by rw [eM]; simp [ha]
  have old : ∀ b ∈ M, b = f ∨ H b = none := fun b hb => by
    rw [eM] at hb
    simp only [List.mem_cons, List.mem_append, List.not_mem_nil, or_false] at hb
    rcases hb with rfl | rfl | (hb | hb) | rfl
    · exact .inr nD2'
    · exact .inr nD1
    · exact .inr (nn2 b hb)
    · exact .inr (nd1 b hb).2
    · exact .inl rfl
  have toM : ∀ {vs : List V} {ds : List PyData}, ThAll (Al [f]) H vs ds → ThAll (Al M) H4 vs ds := fun h => by
    have h2 : ThAll (Al M) H _ _ := h.mono fun b o e nb z => by
      rcases old b z with rfl | n
      · exact nb (List.mem_singleton.mpr rfl)
      · rw [n] at e; cases e
    exact h2.keep fun b o e nb => k04 b o e fun z => nb (by rw [z]; exact fM)
  have rowS : ∀ {a : Addr} {x : PyData} (b : Bool), a ∈ M → a ≠ D1 → a ≠ D2 → RwT f H H4 a x → ElD E x → (∀ es, x = .tuple es → 2 ≤ es.length ∧ es.length ≤ 3) → (b = true → ∃ y : BX, x = y.d) → RowS f D1 D2 M E H4 b a := fun {a x} b aM a1 a2 rw_ el le bx => by
    obtain ⟨na, row, es, e, rfl, al⟩ := rw_
    have ll := al.length
    have l23 := le es rfl
    refine ⟨aM, nf a na, a1, a2, row, e, by omega, by omega, fun y hy => ?_, fun hb => ?_⟩
    · obtain ⟨d, hd, t⟩ := thall_mem (toM al) y hy
      exact ⟨d, t, el.2.2 es rfl d hd⟩
    · obtain ⟨y, ey⟩ := bx hb
      have ey := PyData.tuple.inj ey
      subst ey
      have al4 := toM al
      cases al4 with
      | cons g1 al4 =>
      cases al4 with
      | cons g2 al4 =>
      cases al4 with
      | cons g3 al4 =>
      cases al4
      cases g3 with
      | @tup g zs _ hg ng bl =>
      have p := el.2.2 _ rfl (.tuple (y.th.map PyData.int)) (by simp)
      exact ⟨_, _, g, zs, _, rfl, hg, ng, bl, p.1.inv, by have := p.2; rw [wt_tup] at this; exact this⟩
  have ls1 : LstS f D1 D2 M E L H4 false D1 := by
    refine ⟨m1, nf _ nD1, ads1, k34 _ _ hD13 (nf _ nD1), by have := ar1.length; omega, fun a ha => ?_⟩
    obtain ⟨x, hx, r⟩ := rwt_mem ar14 a ha
    have a2 : a ≠ D2 := fun z => by
      obtain ⟨y, _, _, row, es, e, _⟩ := rwt_mem ar1 a ha
      rw [z, nD2] at e; cases e
    obtain ⟨h, hh, rfl⟩ := List.mem_map.mp hx
    exact rowS false (ma1 a ha) (nd1 a ha).1 a2 r (eh1 h hh) (fun es e => by rw [← PyData.tuple.inj e]; exact ⟨by show 2 ≤ 2; decide, by show 2 ≤ 3; decide⟩) (fun z => nomatch z)
  have ls2 : LstS f D1 D2 M E L H4 true D2 := by
    refine ⟨m2, nf _ nD2', ads2, k34 _ _ hD2 (nf _ nD2'), by have := ar2.length; omega, fun a ha => ?_⟩
    obtain ⟨x, hx, r⟩ := rwt_mem ar24 a ha
    have a1 : a ≠ D1 := fun z => by
      have := (nd2 a ha).2
      rw [z, hD1] at this; cases this
    obtain ⟨h, hh, rfl⟩ := List.mem_map.mp hx
    exact rowS true (ma2 a ha) a1 (nd2 a ha).1 r (eb1 h hh) (fun es e => by rw [← PyData.tuple.inj e]; exact ⟨by show 2 ≤ 3; decide, by show 3 ≤ 3; decide⟩) (fun _ => ⟨h, rfl⟩)
  have dom : ∀ b ∈ M, H4 b ≠ none := fun b hb z => by
    rw [eM] at hb
    simp only [List.mem_cons, List.mem_append, List.not_mem_nil, or_false] at hb
    rcases hb with rfl | rfl | (hb | hb) | rfl
    · rw [k34 _ _ hD2 (nf _ nD2')] at z; cases z
    · rw [k34 _ _ hD13 (nf _ nD1)] at z; cases z
    · obtain ⟨y, _, _, row, es, e, _⟩ := rwt_mem ar24 b hb
      rw [e] at z; cases z
    · obtain ⟨y, _, _, row, es, e, _⟩ := rwt_mem ar14 b hb
      rw [e] at z; cases z
    · obtain ⟨_, _, _, _, _, e1, _⟩ := F4
      rw [e1] at z; cases z
  refine ⟨_, rfl, _, rfl, (by show 2 ≤ sizeLine; decide), fun p np => ?_⟩
  have u1 := same_new (o := .lst [V.ref D1, V.ref D2]) np
  obtain ⟨s, es, hat⟩ : ∃ s : Addr, s = (if 4 < w then D2 else D1) ∧ atI [V.ref D1, V.ref D2] (if decide (w > 4) = true then 1 else 0) = some (V.ref s) := by
    by_cases h : 4 < w
    · exact ⟨D2, (if_pos h).symm, by rw [if_pos (decide_eq_true h)]; rfl⟩
    · exact ⟨D1, (if_neg h).symm, by rw [if_neg (by rw [decide_eq_true_eq]; exact h)]; rfl⟩
  refine ⟨_, rfl, _, _, rfl, rfl, .inr ⟨_, rfl, p, _, _, _, rfl, rfl, SqL.of upd_same, hat, ?_⟩⟩
  have F5 := F4.same u1
  have B5 : But f H4 (upd H4 p (.lst [V.ref D1, V.ref D2])) := But.of u1
  generalize upd H4 p (.lst [V.ref D1, V.ref D2]) = H5 at u1 F5 B5 ⊢
  have k45 : ∀ b o, H4 b = some o → H5 b = some o := fun b o e => u1 _ _ e
  obtain ⟨as, hsS, ds9, dp9, pl9, ln9⟩ : ∃ (as : List Addr), H5 s = some (.lst (as.map V.ref)) ∧ ∃ es, DpAll K H5 (as.map V.ref) es ∧ (∀ x ∈ es, Pl x 5) ∧ es.length = as.length := by
    have k05 : ∀ b o, H b = some o → b ≠ f → H5 b = some o := fun b o e n => k45 _ _ (k04 b o e n)
    by_cases h : 4 < w
    · rw [es, if_pos h]
      refine ⟨ads2, k45 _ _ (k34 _ _ hD2 (nf _ nD2')), rw_data k05 (all_keep ar24 fun a _ o e => k45 _ _ e) fun x hx => ?_⟩
      obtain ⟨h, hh, rfl⟩ := List.mem_map.mp hx
      exact (eb1 h hh).1
    · rw [es, if_neg h]
      refine ⟨ads1, k45 _ _ (k34 _ _ hD13 (nf _ nD1)), rw_data k05 (all_keep ar14 fun a _ o e => k45 _ _ e) fun x hx => ?_⟩
      obtain ⟨h, hh, rfl⟩ := List.mem_map.mp hx
      exact (eh1 h hh).1
  have B05 := B04.trans B5
  refine ⟨_, rfl, (by show 0 ≤ sizeLine; decide), fun e0 ne0 => ?_⟩
  have u2 := same_new (o := .lst ([] : List V)) ne0
  refine ⟨.list ds9, .list [], .lst (SqL.of (u2 _ _ hsS)) (DpAll.same u2 dp9), .lst (SqL.of upd_same) .nil, (Pl.lst pl9).neat.shaped (by decide), by decide +kernel, _, rfl, ?_⟩
  rw [eqv_nilL2]
  have u12 := u1.trans u2
  have F6 := F5.same u2
  have kk : ∀ b o, H4 b = some o → b ≠ f → upd H5 e0 (.lst ([] : List V)) b = some o := fun b o e _ => u12 _ _ e
  refine if_bl (fun c0 => ?_) (fun c0 => ?_)
  · obtain ⟨_, _, _, _, _, fl7, _⟩ := id F6
    have fin := (ls1.keep fM kk).fin (E' := E + 150) (L' := L + 1) fM (by omega) (by omega)
    generalize upd H5 e0 (.lst ([] : List V)) = H6 at u12 F6 fl7 fin kk ⊢
    obtain ⟨lf7, ads7, hl7, la7, ga7⟩ := fin
    refine ⟨_, rfl, D1, rfl, ⟨_, SqL.of hl7⟩, fun D7 nD7 => lc_list (K := K) (a := D1) (xs := ads7.map V.ref) (fun i H5 => ∃ (tv : List V) (ds : List PyData), H5 D7 = some (.lst tv) ∧ ThAll (Al [D7, f]) H5 tv ds ∧ ds.length = i ∧ (∀ x ∈ ds, ElD (E + 150) x) ∧ Same H6 H5) ⟨[], [], upd_same, .nil, rfl, (fun _ h => nomatch h), same_new nD7⟩ (fun i H5 _ ⟨_, _, _, _, _, _, s5⟩ => SqL.of (s5 _ _ hl7)) ?_ ?_⟩
    · rintro i x H5 hx ⟨tv, ds, hD, ad, li, el, s5⟩
      rw [List.getElem?_map] at hx
      cases ea : ads7[i]? with
      | none => rw [ea] at hx; cases hx
      | some a =>
      rw [ea] at hx
      obtain rfl : V.ref a = x := Option.some.inj hx
      have il := (List.getElem?_eq_some_iff.mp ea).1
      obtain ⟨af, row, hr, r4, gr⟩ := ga7 a (List.mem_of_getElem? ea)
      obtain ⟨es, ar, pe⟩ := gd_all fun y hy => (gr y hy).fresh nD7
      have les := ar.length
      have ltv := ad.length
      refine ⟨rfl, yes_in ⟨_, rfl, a, row, rfl, .inl ⟨SqL.of (s5 _ _ hr), fun t nt => ?_⟩⟩⟩
      have u := same_new (o := .tup row) nt
      have tD : t ≠ D7 := fun z => by rw [z, hD] at nt; cases nt
      have tf : t ≠ f := fun z => by
        have := s5 _ _ fl7
        rw [← z, nt] at this
        cases this
      have kD : ∀ (ys : List V) b o, upd H5 t (.tup row) b = some o → b ∉ [D7, f] → upd (upd H5 t (.tup row)) D7 (.lst ys) b = some o := fun ys b o e nb => by
        rw [upd_ne (fun z : b = D7 => nb (by rw [z]; simp))]
        exact e
      have new : Th (Al [D7, f]) (upd H5 t (.tup row)) (.ref t) (.tuple es) := .tup upd_same (by show t ∉ [D7, f]; simp [tD, tf]) ((ar.same s5).same u)
      have eln : ElD (E + 150) (.tuple es) := ⟨Pl.tup fun y hy => (pe y hy).1, by
        rw [wt_tup]
        have := wt_le fun y hy => (pe y hy).2
        have : es.length * ((E + 150) + 1) ≤ 4 * ((E + 150) + 1) := Nat.mul_le_mul_right _ (by omega)
        omega, fun es' e y hy => by rw [← PyData.tuple.inj e] at hy; exact pe y hy⟩
      refine ⟨tv, u _ _ hD, small1000 (by omega), tv ++ [V.ref t], ds ++ [.tuple es], upd_same, ((ad.same u).app (.cons new .nil)).keep (kD _), by rw [List.length_append, li]; rfl, ?_, Same.own (s5.trans u) nD7⟩
      intro x hx
      rcases List.mem_append.mp hx with hx | hx
      · exact el x hx
      · rw [List.mem_singleton.mp hx]; exact eln
    rintro Hb7 ⟨tv7, ds7, hD7, ad7, li7, el7, sb7⟩
    rw [List.length_map] at li7
    refine ⟨D7, tv7, rfl, .inl ⟨SqL.of hD7, fun t7 nt7 => ?_⟩⟩
    have s7 := sb7.trans (same_new (o := .tup tv7) nt7)
    have tf7 : t7 ≠ f := fun z => by
      have := sb7 _ _ fl7
      rw [← z, nt7] at this
      cases this
    have th7 : ThAll (Al [f]) (upd Hb7 t7 (.tup tv7)) tv7 ds7 := (ad7.mono fun b o e nb z => nb (by rw [List.mem_singleton.mp z]; simp)).same (same_new nt7)
    have ht7 := upd_same (H := Hb7) (a := t7) (o := .tup tv7)
    generalize upd Hb7 t7 (.tup tv7) = Hc7 at s7 th7 ht7 ⊢
    refine ⟨(by show 0 ≤ sizeLine; decide), fun g0 n0 => ⟨(by show 3 ≤ sizeLine; decide), fun g1 n1 => ⟨(by show 1 ≤ sizeLine; decide), fun g2 n2 => ⟨(by show 2 ≤ sizeLine; decide), fun g3 n3 => ?_⟩⟩⟩⟩
    have F7 := F6.same s7
    have x0 := same_new (o := .tup ([] : List V)) n0
    have x1 := same_new (o := .tup [V.int 0, V.int 0, V.ref g0]) n1
    have x2 := same_new (o := .tup [V.ref g1]) n2
    have x3 := same_new (o := .tup [V.ref t7, V.ref g2]) n3
    have nf1 : ∀ {p : Addr}, p ≠ f → p ∉ [f] := fun h z => h (List.mem_singleton.mp z)
    have y0 := nf1 (F7.ne n0)
    have y1 := nf1 ((F7.same x0).ne n1)
    have y2 := nf1 (((F7.same x0).same x1).ne n2)
    have y3 := nf1 ((((F7.same x0).same x1).same x2).ne n3)
    have sx := x0.trans (x1.trans (x2.trans x3))
    refine q _ (.tuple [.tuple ds7, .tuple [.tuple [.int 0, .int 0, .tuple []]]]) _ (.tup upd_same y3 (.cons (.tup (sx _ _ ht7) (nf1 tf7) (th7.same sx)) (.cons (.tup (x3 _ _ upd_same) y2 (.cons (.tup ((x2.trans x3) _ _ upd_same) y1 (.cons (.int 0) (.cons (.int 0) (.cons (.tup ((x1.trans (x2.trans x3)) _ _ upd_same) y0 .nil) .nil)))) .nil)) .nil))) ⟨ds7, _, rfl, by omega, by show 1 ≤ L + 1; omega, el7, fun x hx => ?_⟩ (F7.same sx) (fun b o e nb => sx _ _ (s7 _ _ (kk b o (k04 b o e nb) nb)))
    rw [List.mem_singleton.mp hx]
    have n1 := Neat.tup (.cons (Neat.int (i := 0) (dp := 1) (by decide)) (.cons (Neat.int (i := 0) (by decide)) (.cons (Neat.tup (.nil (dp := 0))) .nil)))
    refine ⟨n1.pl.mono (by decide), Nat.le_trans n1.wei (by omega), fun ds e y hy => ?_⟩
    rw [← PyData.tuple.inj e] at hy
    simp only [List.mem_cons, List.not_mem_nil, or_false] at hy
    rcases hy with rfl | rfl | rfl
    · exact ⟨(Neat.int (dp := 4) (by decide)).pl, Nat.le_trans (Neat.int (dp := 4) (by decide)).wei (by omega)⟩
    · exact ⟨(Neat.int (dp := 4) (by decide)).pl, Nat.le_trans (Neat.int (dp := 4) (by decide)).wei (by omega)⟩
    · exact ⟨(Neat.tup (.nil (dp := 0))).pl.mono (by decide), Nat.le_trans (Neat.tup (.nil (dp := 0))).wei (by omega)⟩
  · refine ⟨rfl, D1, D2, s, M, w, rfl, by omega, by omega, es, fM, d12, ls1.keep fM kk, ls2.keep fM kk, ⟨as, u2 _ _ hsS, fun z => ?_⟩, fun b hb z => ?_, old, F6, fun b o e nb => kk b o (k04 b o e nb) nb⟩
    · rw [z] at ln9
      exact of_decide_eq_false c0 (by rw [ln9]; rfl)
    · cases h4 : H4 b with
      | none => exact dom b hb h4
      | some o => rw [u12 _ _ h4] at z; cases z
end
theorem nine_eleven {z : Str} (h : z ∈ nine) : z ∈ eleven := by
  unfold nine at h
  simp only [List.mem_cons, List.not_mem_nil, or_false] at h
  rcases h with h | h | h | h | h | h | h | h | h <;> rw [h] <;> decide +kernel
theorem GoodHand.eleven {h : HR} (g : GoodHand h) : h.wd ∈ Mine.eleven := by
  rcases g.1 with k | k
  · exact nine_eleven k.wd
  · rcases k.1 with z | z <;> rw [z] <;> decide +kernel
theorem GoodHand.lone {h : HR} (g : GoodHand h) : (h.no.isSome = true ↔ h.wd = "times" ∨ h.wd = "always") := by
  rcases g.1 with k | k
  · exact k.no
  · rw [k.2.1]
    refine ⟨(fun z => nomatch z), fun z => ?_⟩
    rcases k.1 with y | y <;> rw [y] at z <;> rcases z with z | z <;> exact absurd z (by decide +kernel)
/-! ### a good room, looked at -/
def toHX (h : HR) : HX := ⟨.tuple (ruleD h), h.mom⟩
def toBX (b : BR) : BX := ⟨(b.one : Nat), (b.to : Nat), b.th⟩
theorem good_rule {h : HR} (g : GoodHand h) : isRule (.tuple (ruleD h)) = true := by
  have e := g.eleven
  have l := g.lone
  obtain ⟨wd, no, mom⟩ := h
  have e : wd ∈ Mine.eleven := e
  cases no with
  | none =>
    have n : ¬ (wd = "times" ∨ wd = "always") := fun z => by have := l.mpr z; cases this
    show (decide (wd ∈ Mine.eleven) && (if wd = "times" ∨ wd = "always" then oneInt [] else ([] : List PyData).isEmpty)) = true
    rw [decide_eq_true e, if_neg n]
    rfl
  | some n =>
    have y : wd = "times" ∨ wd = "always" := l.mp rfl
    show (decide (wd ∈ Mine.eleven) && (if wd = "times" ∨ wd = "always" then oneInt [.int n] else ([PyData.int n] : List PyData).isEmpty)) = true
    rw [decide_eq_true e, if_pos y]
    rfl
theorem to_back (bs : List BR) : (bs.map toBX).map toBR = bs := by
  rw [List.map_map]
  refine (List.map_congr_left (g := id) fun b _ => ?_).trans (List.map_id _)
  obtain ⟨o, t, l⟩ := b
  show (⟨((o : Nat) : Int).toNat, ((t : Nat) : Int).toNat, l⟩ : BR) = ⟨o, t, l⟩
  rw [Int.toNat_natCast, Int.toNat_natCast]
theorem good_look {hs : List HR} {bs : List BR} (ok : RoomOk hs bs) : lookX (hs.map toHX) (bs.map toBX) = none := by
  have lh : (hs.map toHX).length = hs.length := List.length_map ..
  have at_ : ∀ {k : Nat}, k < hs.length → ∃ h, hs[k]? = some h ∧ (hs.map toHX)[k]? = some (toHX h) := fun hk => ⟨_, List.getElem?_eq_getElem hk, by rw [List.getElem?_map, List.getElem?_eq_getElem hk]; rfl⟩
  have n1 : firstN (hs.map toHX).length (hB (hs.map toHX)) = none := firstN_none fun k hk => by
    obtain ⟨h, e, e2⟩ := at_ (k := k) (by omega)
    have g := ok.good h (List.mem_of_getElem? e)
    rw [hB_at e2]
    unfold hBad
    have r := good_rule g
    have ind : inDoors (.tuple (ruleD h)) = decide (h.wd = "in" ∨ h.wd = "out") := inDoors_word (z := h.wd) (l := match h.no with | none => [] | some n => [.int n]) r
    show (!isRule (.tuple (ruleD h)) || (decide (h.mom < 0) || (!decide (h.mom = 0) && inDoors (.tuple (ruleD h))))) = false
    rw [r, ind, decide_eq_false (by have := g.2.1; omega)]
    by_cases z : h.wd = "in" ∨ h.wd = "out"
    · rw [decide_eq_true (g.mom0 z)]; rfl
    · rw [decide_eq_false z, Bool.and_false]; rfl
  have n2 : firstN (bs.map toBX).length (bB (hs.map toHX) (bs.map toBX)) = none := firstN_none fun k hk => by
    rw [List.length_map] at hk
    have e : bs[k]? = some bs[k] := List.getElem?_eq_getElem hk
    have m := List.mem_of_getElem? e
    obtain ⟨o1, o2⟩ := ok.ends _ m
    rw [bB_at (b := toBX bs[k]) (by rw [List.getElem?_map, e]; rfl)]
    unfold bBad outAt
    obtain ⟨h, e3, e4⟩ := at_ o1
    have g := ok.good h (List.mem_of_getElem? e3)
    have no := ok.out _ m h e3
    show (!(decide (0 ≤ ((bs[k].one : Nat) : Int)) && decide (((bs[k].one : Nat) : Int) < ((hs.map toHX).length : Int))) || (!(decide (0 ≤ ((bs[k].to : Nat) : Int)) && decide (((bs[k].to : Nat) : Int) < ((hs.map toHX).length : Int))) || (match (hs.map toHX)[((bs[k].one : Nat) : Int).toNat]? with
      | some h => PyData.eqv h.r (.tuple [.str "out"])
      | none => false))) = false
    rw [Int.toNat_natCast, e4, decide_eq_true (by omega), decide_eq_true (by omega), decide_eq_true (by omega), decide_eq_true (by omega)]
    show PyData.eqv (.tuple (ruleD h)) (.tuple [.str "out"]) = false
    rw [rule_eqv, g.door "out" (.inr rfl)]
    exact decide_eq_false no
  have n3 : firstN (hs.map toHX).length (kB (hs.map toHX) (bs.map toBX)) = none := firstN_none fun k hk => by
    obtain ⟨h, e, e2⟩ := at_ (k := k) (by omega)
    have g := ok.good h (List.mem_of_getElem? e)
    rw [kB_at e2]
    have c := ok.count k h e
    rw [count_filter, needs_needN g.eleven] at c
    have : cntB (bs.map toBX) k = (bs.filter fun b => decide (b.to = k)).length := by
      unfold cntB
      rw [List.filter_map, List.length_map]
      congr 1
      refine List.filter_congr fun b _ => ?_
      show decide (((b.to : Nat) : Int) = (k : Int)) = decide (b.to = k)
      by_cases z : b.to = k
      · rw [decide_eq_true z, decide_eq_true (by rw [z])]
      · rw [decide_eq_false z, decide_eq_false (by omega)]
    rw [this]
    show (!decide (_ = needN h.wd)) = false
    rw [decide_eq_true c]
    rfl
  have n4 : firstN (hs.map toHX).length (fun k => Wr (bareSt ((bs.map toBX).map toBR)) (hs.map toHX).length k k) = none := firstN_none fun k hk => by
    rw [to_back]
    refine Bool.eq_false_iff.mpr fun z => bare_none ok k ?_
    rw [wr_via] at z
    refine (via_on (n := (hs.map toHX).length) hk fun i _ y hy => ?_).mpr z
    obtain ⟨b, hb, _, _, e⟩ := bare_mem hy
    rw [← e, lh]
    exact (ok.ends b hb).2
  unfold lookX
  rw [n1]; dsimp only; rw [n2]; dsimp only; rw [n3]; dsimp only; rw [n4]
theorem room_back (hs : List HR) (bs : List BR) : roomX (hs.map toHX) (bs.map toBX) = roomD hs bs := by
  unfold roomX roomD
  rw [List.map_map, List.map_map]
  rfl
theorem good_is {hs : List HR} {bs : List BR} (ok : RoomOk hs bs) : LookIs (roomD hs bs) none := .inr ⟨hs.map toHX, bs.map toBX, (room_back hs bs).symm, (good_look ok).symm⟩
theorem good_form {hs : List HR} {bs : List BR} : formB (roomD hs bs) = true := by rw [← room_back]; exact form_room
theorem el_of {x : PyData} {ds : List PyData} {n : Nat} (e : x = .tuple ds) (h : Neat x 2 n) (l : n ≤ 1300) (w : ∀ y ∈ ds, y.weight ≤ 260) : ElD 260 x := by
  subst e
  refine ⟨h.pl.mono (by decide), Nat.le_trans h.wei (by omega), fun es e y hy => ?_⟩
  rw [← PyData.tuple.inj e] at hy
  exact ⟨((h.pl.mono (show 2 ≤ 5 by decide)).inv y hy), w y hy⟩
theorem good_size {hs : List HR} {bs : List BR} (ok : RoomOk hs bs) : SzD 260 20 (roomD hs bs) := by
  have int41 : ∀ {i : Int}, i.natAbs < 10 ^ 12 → (PyData.int i).weight ≤ 41 := fun h => (Neat.int (dp := 0) h).wei
  refine ⟨hs.map handD, bs.map beltD, rfl, by rw [List.length_map]; have := ok.hands; omega, by rw [List.length_map]; have := ok.many; omega, fun x hx => ?_, fun x hx => ?_⟩
  · obtain ⟨h, hh, rfl⟩ := List.mem_map.mp hx
    have g := ok.good h hh
    have n := g.neat
    refine el_of rfl n (by decide) fun y hy => ?_
    have := n.wei
    rw [wt_tup] at this
    exact Nat.le_trans (wt_mem hy) (by omega)
  · obtain ⟨b, hb, rfl⟩ := List.mem_map.mp hx
    have e := ok.ends b hb
    have t := ok.th b hb
    have hl := ok.hands
    have t1 : NeatAll (b.th.map PyData.int) 0 (b.th.length * 42) := NeatAll.map fun x hx => Neat.int (by have := t.2 x hx; unfold Small at this; omega)
    have n := Neat.tup (.cons (Neat.int (i := ((b.one : Nat) : Int)) (by omega)) (.cons (Neat.int (i := ((b.to : Nat) : Int)) (by omega)) (.cons (Neat.tup t1) .nil)))
    refine el_of rfl n (by have := t.1; omega) fun y hy => ?_
    simp only [List.mem_cons, List.not_mem_nil, or_false] at hy
    rcases hy with rfl | rfl | rfl
    · have := int41 (i := ((b.one : Nat) : Int)) (by omega); omega
    · have := int41 (i := ((b.to : Nat) : Int)) (by omega); omega
    · have := (Neat.tup t1).wei
      have := t.1
      omega
theorem room_th {f : Addr} {H : Hp} {r : Addr} {hs : List HR} {bs : List BR} (a : RoomAt H r hs bs) (nf : ∀ b xs, H b = some (.tup xs) → b ∉ [f]) : Th (Al [f]) H (.ref r) (roomD hs bs) := by
  obtain ⟨ha, ba, hv, bv, e1, e2, e3, a1, a2⟩ := a.ex
  clear a
  have t1 : ThAll (Al [f]) H hv (hs.map handD) := by
    clear e1 e2 e3 a2
    induction a1 with
    | nil => exact .nil
    | @cons v h vs hs x _ ih =>
      obtain ⟨t, rr, rfl, g1, g2⟩ := x
      refine .cons (.tup g1 (nf _ _ g1) (.cons (.tup g2 (nf _ _ g2) ?_) (.cons (.int _) .nil))) ih
      obtain ⟨wd, no, mom⟩ := h
      cases no with
      | none => exact .cons (.str _) .nil
      | some n => exact .cons (.str _) (.cons (.int _) .nil)
  have t2 : ThAll (Al [f]) H bv (bs.map beltD) := by
    clear e1 e2 e3 a1 t1
    induction a2 with
    | nil => exact .nil
    | @cons v b vs bs x _ ih =>
      obtain ⟨t, g, rfl, g1, g2⟩ := x
      refine .cons (.tup g1 (nf _ _ g1) (.cons (.int _) (.cons (.int _) (.cons (.tup g2 (nf _ _ g2) ?_) .nil)))) ih
      clear g1 g2
      generalize b.th = l
      induction l with
      | nil => exact .nil
      | cons n l ih => exact .cons (.int n) ih
  exact .tup e1 (nf _ _ e1) (.cons (.tup e2 (nf _ _ e2) t1) (.cons (.tup e3 (nf _ _ e3) t2) .nil))
theorem flow_nf {f c : Addr} {H : Hp} (F : Flow H f c) : ∀ b xs, H b = some (.tup xs) → b ∉ [f] := fun b xs e z => by
  rw [List.mem_singleton.mp z] at e
  obtain ⟨_, _, _, _, _, e1, _⟩ := F
  rw [e1] at e
  cases e
/-! ### rooms that are wrong, several times -/
theorem slA_of {K : PySem.W.Frag} {H : Hp} {a : Addr} {xs : List V} {lo hi : Option Int} {Q : VK} (h : H a = some (.tup xs)) (k : ∀ (p : Addr) (H' : Hp), H' p = some (.tup (cutV xs lo hi)) → Same H H' → Q (.ref p) H') : rSlA K (.ref a) lo hi H Q := by
  refine ⟨a, xs, rfl, SqT.of h, fun z => k a H ?_ (Same.refl _), fun _ p np => k p _ upd_same (same_new np)⟩
  unfold cutV
  rw [z.1, z.2, List.drop_zero, Nat.sub_zero, List.take_length]
  exact h
theorem catA_of {K : PySem.W.Frag} {H : Hp} {a b : Addr} {xs ys : List V} {Q : VK} (h : H a = some (.tup xs)) (g : H b = some (.tup ys)) (l : xs.length + ys.length ≤ 1000) (k : ∀ (p : Addr) (H' : Hp), H' p = some (.tup (xs ++ ys)) → Same H H' → Q (.ref p) H') : rCatA K (.ref a) (.ref b) H Q := by
  refine ⟨a, b, xs, ys, rfl, rfl, SqT.of h, SqT.of g, little l, fun e => k b H ?_ (Same.refl _), fun _ e => k a H ?_ (Same.refl _), fun _ _ p np => k p _ upd_same (same_new np)⟩
  · rw [e]; exact g
  · rw [e, List.append_nil]; exact h
theorem Flow.extN {H H' : Hp} {f c : Addr} (h : Flow H f c) (e : LamX.ExtN H H') : Flow H' f c := by
  obtain ⟨ns, i, a, q, r, e1, e2, z⟩ := h
  exact ⟨ns, i, a, q, r, e _ _ e1 (fun _ y => nomatch y), e _ _ e2 (fun _ y => nomatch y), z⟩
def Fit (d : PyData) : Prop := SmD d ∧ SayD d ∧ d.weight ≤ 1000000
theorem SzD.fit {E L : Nat} {d : PyData} (h : SzD E L d) (l : L ≤ 400) (n : 2 * (L * (5 * (E + 1) + 1)) + 2 ≤ 1000000) : Fit d := ⟨h.smD l, h.neat.sayD (by decide) n, Nat.le_trans h.neat.wei n⟩
theorem SzD.up {E L E' L' : Nat} {d : PyData} (h : SzD E L d) (e : E ≤ E') (l : L ≤ L') : SzD E' L' d := by
  obtain ⟨as, cs, e0, m1, m2, m3, m4⟩ := h
  exact ⟨as, cs, e0, by omega, by omega, fun x hx => (m3 x hx).up e, fun x hx => (m4 x hx).up e⟩
theorem sm_of {d : PyData} {dp : Nat} (p : Pl d dp) (k : dp ≤ 50) (h : ∀ as bs, d = .tuple [.tuple as, .tuple bs] → as.length ≤ 400 ∧ bs.length ≤ 400) : SmD d := fun hs bs e => by
  obtain ⟨l1, l2⟩ := h _ _ e
  clear h
  rw [List.length_map] at l1 l2
  refine ⟨l1, l2, fun x hh => ?_⟩
  subst e
  have p := (p.mono (show dp ≤ 49 + 1 + 1 by omega)).inv _ (List.mem_cons_self ..)
  have p := p.inv x.d (List.mem_map.mpr ⟨x, hh, rfl⟩)
  have p := (p.mono (show 49 ≤ 48 + 1 by decide)).inv x.r (List.mem_cons_self ..)
  exact Neat.shaped p.neat (by decide)
theorem fit_of {d : PyData} {dp : Nat} (p : Pl d dp) (k : dp ≤ 50) (w : d.weight ≤ 1000000) (h : ∀ as bs, d = .tuple [.tuple as, .tuple bs] → as.length ≤ 400 ∧ bs.length ≤ 400) : Fit d := ⟨sm_of p k h, p.neat.sayD (by omega) w, w⟩
section
variable {P : Program} {w : World} {K : PySem.W.Frag} {mg : Str → Option Value} {base : Heap}
def sp_law_wrong (K : PySem.W.Frag) : Sp := fun vs H Q _ => ∃ (f c : Addr) (v : V) (d : PyData), vs = [.ref f, v] ∧ Flow H f c ∧ Th (Al [f]) H v d ∧ SzD 260 20 d ∧
  ∀ (v' : V) (d' : PyData) (H' : Hp), Th (Al [f]) H' v' d' → Fit d' → Flow H' f c → But f H H' → Q v' H'
theorem ok_law_wrong {f : Addr} {fd : FuncData} (F : Fun K "_law_wrong" "_law_wrong" s_law_wrong f fd) (T : Top w K mg) : FnOk P w K mg base CX0 5 f fd ["_law_flow_here", "_law_room_here"] (sp_law_wrong K) := by
  obtain ⟨f_law_formed, fd_law_formed, F_law_formed, b_law_formed, m_law_formed⟩ := T.d_law_formed
  have G_law_formed := ok_law_formed (P := P) (w := w) (base := base) F_law_formed T
  obtain ⟨f_law_pick, fd_law_pick, F_law_pick, b_law_pick, m_law_pick⟩ := T.d_law_pick
  have G_law_pick := ok_law_pick (P := P) (w := w) (base := base) F_law_pick T
  obtain ⟨f_law_changed, fd_law_changed, F_law_changed, b_law_changed, m_law_changed⟩ := T.d_law_changed
  have G_law_changed := ok_law_changed (P := P) (w := w) (base := base) F_law_changed T
  refine F.ok sc_law_wrong (fun vs H Q E h => ?_) (fun cdv A outer s H vs Q E hr h => ?_)
  · obtain ⟨f, c, v, d, rfl, _⟩ := h
    rfl
  obtain ⟨f, c, v, d, rfl, hF, th, sz, q⟩ := h
  refine ⟨_, (pss_cons (ps_for PassesOwn.never rfl (pi_range1 (by rfl) T.m_range (pa_cons (pe_op op_add pe_int (pe_call G_law_pick (hr.mono (by decide)) (by rfl) m_law_pick F_law_pick.kp b_law_pick .nil pass0 (pa_cons (pv 0) (pa_cons pe_int pa_nil)))) pa_nil)) (pg_name (i := 2) sc_law_wrong.nd rfl (Or.inl rfl))
        (pss_one (ps_if (pt_val (pe_call G_law_formed (hr.mono (by decide)) (by rfl) m_law_formed F_law_formed.kp b_law_formed .nil pass0 (pa_cons (pv 1) pa_nil))) (pss_one (ps_set (i := 1) sc_law_wrong.nd rfl (Or.inl rfl) (pe_call G_law_changed (hr.mono (by decide)) (by rfl) m_law_changed F_law_changed.kp b_law_changed .nil pass0 (pa_cons (pv 0) (pa_cons (pv 1) pa_nil))))) pss_nil)))
      (pss_one (ps_ret (pv 1)))), ?_⟩
  refine ⟨_, rfl, f, c, 4, rfl, by decide, by decide +kernel, hF, fun z H1 z0 z4 F1 B1 => ⟨_, _, rfl, rfl, _, rfl, ?_⟩⟩
  have th1 := th.keep (H' := H1) fun b o e nb => B1 b o e fun z => nb (by rw [z]; exact List.mem_singleton.mpr rfl)
  refine ⟨by omega, by omega, for_range (lo := 0) (n := (2 + z).toNat) (fun i σ H2 => ∃ (v : V) (d : PyData) (x2 : Option V), σ = [some (.ref f), some v, x2] ∧ Th (Al [f]) H2 v d ∧ SzD (260 + 150 * i) (20 + i) d ∧ Flow H2 f c ∧ But f H H2) ⟨v, d, _, rfl, th1, sz, F1, B1⟩ ?_ ?_⟩
  · rintro i σ H2 hi ⟨v, d, x2, rfl, th2, sz2, F2, B2⟩
    have i4 : i ≤ 4 := by omega
    have m1 : (20 + i) * (5 * (260 + 150 * i + 1) + 1) ≤ 24 * 4306 := Nat.mul_le_mul (by omega) (by omega)
    refine ⟨_, rfl, Al [f], v, d, rfl, th2, Nat.le_trans sz2.neat.wei (by omega), fun H3 s3 => ⟨_, rfl, ?_⟩⟩
    have th3 := th2.same s3
    cases hf : formB d with
    | false => exact if_bl (fun z => nomatch z) (fun _ => ⟨v, d, _, rfl, th3, sz2.up (by omega) (by omega), F2.same s3, B2.trans (But.of s3)⟩)
    | true =>
      refine if_bl (fun _ => ?_) (fun z => nomatch z)
      refine ⟨_, rfl, _, rfl, f, c, v, d, 260 + 150 * i, 20 + i, rfl, F2.same s3, th3, hf, sz2, by omega, by omega, by omega, fun v' d' H4 th' sz' F4 B4 => ?_⟩
      exact ⟨v', d', _, rfl, th', sz'.up (by omega) (by omega), F4, (B2.trans (But.of s3)).trans B4⟩
  · rintro σ H2 ⟨v, d, x2, rfl, th2, sz2, F2, B2⟩
    have m1 : (20 + (2 + z).toNat) * (5 * (260 + 150 * (2 + z).toNat + 1) + 1) ≤ 25 * 5056 := Nat.mul_le_mul (by omega) (by omega)
    exact ⟨_, rfl, q v d H2 th2 (sz2.fit (by omega) (by omega)) F2 B2⟩
end
section
variable {P : Program} {w : World} {K : PySem.W.Frag} {mg : Str → Option Value} {base : Heap}
theorem hand_not {hs : List HR} {as cs : List PyData} (e : PyData.tuple (hs.map handD) = .tuple [.tuple as, .tuple cs]) : as.length ≤ 400 ∧ cs.length ≤ 400 := by
  have e := PyData.tuple.inj e
  match hs, e with
  | [h1, h2], e =>
    obtain ⟨e1, e2⟩ := List.cons.inj e
    obtain ⟨e2, _⟩ := List.cons.inj e2
    have e1 := PyData.tuple.inj e1
    have e2 := PyData.tuple.inj e2
    rw [← e1, ← e2]
    exact ⟨by show 2 ≤ 400; decide, by show 2 ≤ 400; decide⟩
  | [], e => cases e
  | [_], e => cases (List.cons.inj e).2
  | _ :: _ :: _ :: _, e => cases (List.cons.inj (List.cons.inj e).2).2
def GFit (H : Hp) (f : Addr) (v : V) : Prop := ∃ d, Th (Al [f]) H v d ∧ Fit d
theorem GFit.keep {H H' : Hp} {f : Addr} {v : V} (g : GFit H f v) (k : ∀ b o, H b = some o → b ≠ f → H' b = some o) : GFit H' f v := by
  obtain ⟨d, t, p⟩ := g
  exact ⟨d, t.keep fun b o e nb => k b o e fun z => nb (by rw [z]; exact List.mem_singleton.mpr rfl), p⟩
def sp_law_no_pair (K : PySem.W.Frag) : Sp := fun vs H Q _ => ∃ (f c r : Addr) (hs : List HR) (bs : List BR), vs = [.ref f, .ref r] ∧ Flow H f c ∧ RoomAt H r hs bs ∧ RoomOk hs bs ∧
  ∀ (v' : V) (H' : Hp), GFit H' f v' → Flow H' f c → But f H H' → Q v' H'
theorem ok_law_no_pair {f : Addr} {fd : FuncData} (F : Fun K "_law_no_pair" "_law_no_pair" s_law_no_pair f fd) (T : Top w K mg) : FnOk P w K mg base CX0 2 f fd ["_law_flow_here", "_law_room_here"] (sp_law_no_pair K) := by
  obtain ⟨f_law_pick, fd_law_pick, F_law_pick, b_law_pick, m_law_pick⟩ := T.d_law_pick
  have G_law_pick := ok_law_pick (P := P) (w := w) (base := base) F_law_pick T
  refine F.ok sc_law_no_pair (fun vs H Q E h => ?_) (fun cdv A outer s H vs Q E hr h => ?_)
  · obtain ⟨f, c, r, hs, bs, rfl, _⟩ := h
    rfl
  obtain ⟨f, c, r, hs, bs, rfl, hF, hR, ok, q⟩ := h
  have sz := good_size ok
  have thr := room_th hR (flow_nf hF)
  have pr := sz.neat
  obtain ⟨ha, ba, hv, bv, er, eh, eb, alh, alb⟩ := id hR.ex
  have lhv := alh.length
  have lbv := alb.length
  have lh := ok.hands
  have lb := ok.many
  obtain ⟨tha, thb⟩ : Th (Al [f]) H (.ref ha) (.tuple (hs.map handD)) ∧ Th (Al [f]) H (.ref ba) (.tuple (bs.map beltD)) := by
    cases thr with
    | @tup _ xs _ h1 _ al =>
    rw [er] at h1
    cases h1
    cases al with
    | cons g1 al =>
    cases al with
    | cons g2 al =>
    exact ⟨g1, g2⟩
  have alhs : ThAll (Al [f]) H hv (hs.map handD) := by
    cases tha with
    | @tup _ xs _ h1 _ al =>
    rw [eh] at h1
    cases h1
    exact al
  have albs : ThAll (Al [f]) H bv (bs.map beltD) := by
    cases thb with
    | @tup _ xs _ h1 _ al =>
    rw [eb] at h1
    cases h1
    exact al
  have pR : Pl (.tuple [.tuple (hs.map handD), .tuple (bs.map beltD)]) 7 := pr.pl
  have wR : PyData.weightAll (hs.map handD) + PyData.weightAll (bs.map beltD) ≤ 60000 := by
    have := pr.wei
    simp only [PyData.weight, PyData.weightAll] at this
    omega
  have pH : Pl (.tuple (hs.map handD)) 6 := pR.inv _ (by simp)
  have pB : Pl (.tuple (bs.map beltD)) 6 := pR.inv _ (by simp)
  have lstOf : ∀ {l : List PyData}, Pl (.tuple l) 6 → Pl (.list l) 6 := fun p => Pl.lst p.inv
  have pHl := lstOf pH
  have pBl := lstOf pB
  have nfr : ∀ {H1 : Hp} {p : Addr}, Flow H1 f c → H1 p = none → p ∉ [f] := fun F n z => F.ne n (List.mem_singleton.mp z)
  have pE : Pl (.tuple ([] : List PyData)) 6 := (Pl.tup (dp := 5) fun _ h => nomatch h)
  refine ⟨_, (pss_cons (ps_set (i := 2) sc_law_no_pair.nd rfl (Or.inl rfl) (pe_lst (pa_cons (pe_callTy (call_list_ofK K rfl) (by rfl) T.m_list (by decide +kernel) (pa_cons (pv 1) pa_nil)) (pa_cons (pe_ix (ix_tupK K rfl) (pv 1) pe_int (fun _ _ => rfl)) (pa_cons (pe_op (op_catAK K rfl) (pv 1) (pe_tup (pa_cons (pe_tup pa_nil) pa_nil))) (pa_cons (pe_slice (sl_tupAK K rfl) (pv 1) po_none (po_some pe_int)) (pa_cons (pe_tup (pa_cons (pe_callTy (call_list_ofK K rfl) (by rfl) T.m_list (by decide +kernel) (pa_cons (pe_ix (ix_tupK K rfl) (pv 1) pe_int (fun _ _ => rfl)) pa_nil)) (pa_cons (pe_ix (ix_tupK K rfl) (pv 1) pe_int (fun _ _ => rfl)) pa_nil))) (pa_cons (pe_tup (pa_cons (pe_ix (ix_tupK K rfl) (pv 1) pe_int (fun _ _ => rfl)) (pa_cons (pe_callTy (call_list_ofK K rfl) (by rfl) T.m_list (by decide +kernel) (pa_cons (pe_ix (ix_tupK K rfl) (pv 1) pe_int (fun _ _ => rfl)) pa_nil)) pa_nil))) pa_nil))))))))
      (pss_cons (ps_set (i := 2) sc_law_no_pair.nd rfl (Or.inl rfl) (pe_op op_cat (pv 2) (pe_lst (pa_cons pe_str (pa_cons pe_non (pa_cons pe_int (pa_cons (pe_tup pa_nil) (pa_cons (pe_tup (pa_cons (pe_tup pa_nil) (pa_cons (pe_tup pa_nil) (pa_cons (pe_tup pa_nil) pa_nil)))) (pa_cons (pe_lst (pa_cons (pe_tup pa_nil) (pa_cons (pe_tup pa_nil) pa_nil))) (pa_cons (pe_tup (pa_cons (pe_ix (ix_tupK K rfl) (pv 1) pe_int (fun _ _ => rfl)) (pa_cons (pe_ix (ix_tupK K rfl) (pv 1) pe_int (fun _ _ => rfl)) pa_nil))) (pa_cons (pe_tup (pa_cons (pe_tup pa_nil) (pa_cons (pe_tup (pa_cons (pe_tup pa_nil) pa_nil)) pa_nil))) (pa_cons (pe_tup (pa_cons (pe_tup (pa_cons (pe_tup pa_nil) pa_nil)) (pa_cons (pe_tup pa_nil) pa_nil))) pa_nil))))))))))))
      (pss_one (ps_ret (pe_ix (ix_listK K rfl) (pv 2) (pe_call G_law_pick (hr.mono (by decide)) (by rfl) m_law_pick F_law_pick.kp b_law_pick .nil pass0 (pa_cons (pv 0) (pa_cons pe_int pa_nil))) (fun _ _ => rfl)))))), ?_⟩
  refine ⟨_, rfl, r, _, rfl, .inr (SqT.of er), fun p1 n1 => ?_⟩
  have u1 := same_new (o := .lst [V.ref ha, V.ref ba]) n1
  refine ⟨_, rfl, r, _, _, _, rfl, rfl, SqT.of (u1 _ _ er), atI_nat (j := 0) rfl, ?_⟩
  refine ⟨_, rfl, (by show 0 ≤ sizeLine; decide), fun p2 n2 => ⟨(by show 1 ≤ sizeLine; decide), fun p3 n3 => ?_⟩⟩
  have u2 := same_new (o := .tup ([] : List V)) n2
  have u3 := same_new (o := .tup [V.ref p2]) n3
  have z2 := nfr (hF.same u1) n2
  have z3 := nfr ((hF.same u1).same u2) n3
  refine catA_of (u3 _ _ (u2 _ _ (u1 _ _ er))) upd_same (by show 2 + 1 ≤ 1000; decide) fun p4 H4 h4 s4 => ?_
  have g1 : GFit (upd H p1 (.lst [V.ref ha, V.ref ba])) f (.ref p1) := ⟨_, .lst upd_same (nfr hF n1) (.cons (tha.same u1) (.cons (thb.same u1) .nil)), fit_of (Pl.lst (dp := 6) (fun x hx => by simp only [List.mem_cons, List.not_mem_nil, or_false] at hx; rcases hx with rfl | rfl <;> assumption)) (by decide) (by simp only [PyData.weight, PyData.weightAll]; omega) (fun as cs e => by cases e)⟩
  have S04 := u1.trans (u2.trans (u3.trans s4))
  have F4 := hF.same S04
  have he2 := (u3.trans s4) _ _ (upd_same (H := upd H p1 (.lst [V.ref ha, V.ref ba])) (a := p2) (o := .tup ([] : List V)))
  have g2 : GFit H f (.ref ha) := ⟨_, tha, fit_of pH (by decide) (by simp only [PyData.weight]; omega) fun as cs e => hand_not e⟩
  have z4 : p4 ∉ [f] := fun z => by
    rw [List.mem_singleton.mp z] at h4
    obtain ⟨_, _, _, _, _, e1, _⟩ := F4
    rw [e1] at h4; cases h4
  have g3 : GFit H4 f (.ref p4) := ⟨_, .tup h4 z4 (.cons (tha.same S04) (.cons (thb.same S04) (.cons (.tup he2 z2 .nil) .nil))), fit_of (Pl.tup (dp := 6) (fun x hx => by simp only [List.mem_cons, List.not_mem_nil, or_false] at hx; rcases hx with rfl | rfl | rfl <;> assumption)) (by decide) (by simp only [PyData.weight, PyData.weightAll]; omega) (fun as cs e => by cases e)⟩
  have S14 := u2.trans (u3.trans s4)
  generalize upd (upd (upd H p1 (.lst [V.ref ha, V.ref ba])) p2 (.tup ([] : List V))) p3 (.tup [V.ref p2]) = H3 at *
  refine ⟨_, rfl, ?_⟩
  dsimp only [tNoPart]
  refine ⟨_, rfl, slA_of (S04 _ _ er) fun p5 H5 h5 s5 => ?_⟩
  have h5 : H5 p5 = some (.tup [V.ref ha]) := h5
  have S05 := S04.trans s5
  have F5 := hF.same S05
  have z5 : p5 ∉ [f] := fun z => by
    rw [List.mem_singleton.mp z] at h5
    obtain ⟨_, _, _, _, _, e1, _⟩ := F5
    rw [e1] at h5; cases h5
  have g4 : GFit H5 f (.ref p5) := ⟨_, .tup h5 z5 (.cons (tha.same S05) .nil), fit_of (Pl.tup (dp := 6) (fun x hx => by simp only [List.mem_cons, List.not_mem_nil, or_false] at hx; rcases hx with rfl <;> assumption)) (by decide) (by simp only [PyData.weight, PyData.weightAll]; omega) (fun as cs e => by cases e)⟩
  refine ⟨_, rfl, r, _, _, _, rfl, rfl, SqT.of (S05 _ _ er), atI_nat (j := 0) rfl, ha, _, rfl, .inr (SqT.of (S05 _ _ eh)), fun p6 n6 => ?_⟩
  have u6 := same_new (o := .lst hv) n6
  have S06 := S05.trans u6
  refine ⟨_, rfl, r, _, _, _, rfl, rfl, SqT.of (S06 _ _ er), atI_nat (j := 1) rfl, (by show 2 ≤ sizeLine; decide), fun p7 n7 => ?_⟩
  have u7 := same_new (o := .tup [V.ref p6, V.ref ba]) n7
  have S07 := S06.trans u7
  have z6 := nfr F5 n6
  have z7 := nfr (F5.same u6) n7
  have h6 := u7 _ _ (upd_same (H := H5) (a := p6) (o := .lst hv))
  have g5 : GFit (upd (upd H5 p6 (.lst hv)) p7 (.tup [V.ref p6, V.ref ba])) f (.ref p7) := ⟨_, .tup upd_same z7 (.cons (.lst h6 z6 (alhs.same S07)) (.cons (thb.same S07) .nil)), fit_of (Pl.tup (dp := 6) (fun x hx => by simp only [List.mem_cons, List.not_mem_nil, or_false] at hx; rcases hx with rfl | rfl <;> assumption)) (by decide) (by simp only [PyData.weight, PyData.weightAll]; omega) (fun as cs e => by cases e)⟩
  have F7 := hF.same S07
  have S57 := u6.trans u7
  generalize upd (upd H5 p6 (.lst hv)) p7 (.tup [V.ref p6, V.ref ba]) = H7 at *
  refine ⟨_, rfl, r, _, _, _, rfl, rfl, SqT.of (S07 _ _ er), atI_nat (j := 0) rfl, ?_⟩
  refine ⟨_, rfl, r, _, _, _, rfl, rfl, SqT.of (S07 _ _ er), atI_nat (j := 1) rfl, ba, _, rfl, .inr (SqT.of (S07 _ _ eb)), fun p8 n8 => ⟨(by show 2 ≤ sizeLine; decide), fun p9 n9 => ?_⟩⟩
  have u8 := same_new (o := .lst bv) n8
  have u9 := same_new (o := .tup [V.ref ha, V.ref p8]) n9
  have S79 := u8.trans u9
  have S09 := S07.trans S79
  have z8 := nfr F7 n8
  have z9 := nfr (F7.same u8) n9
  have h8 := u9 _ _ (upd_same (H := H7) (a := p8) (o := .lst bv))
  have g6 : GFit (upd (upd H7 p8 (.lst bv)) p9 (.tup [V.ref ha, V.ref p8])) f (.ref p9) := ⟨_, .tup upd_same z9 (.cons (tha.same S09) (.cons (.lst h8 z8 (albs.same S09)) .nil)), fit_of (Pl.tup (dp := 6) (fun x hx => by simp only [List.mem_cons, List.not_mem_nil, or_false] at hx; rcases hx with rfl | rfl <;> assumption)) (by decide) (by simp only [PyData.weight, PyData.weightAll]; omega) (fun as cs e => by cases e)⟩
  have F9 := hF.same S09
  generalize upd (upd H7 p8 (.lst bv)) p9 (.tup [V.ref ha, V.ref p8]) = H9 at *
  refine ⟨(by show 6 ≤ sizeLine; decide), fun q1 m1 => ?_⟩
  have v1 := same_new (o := .lst [V.ref p1, V.ref ha, V.ref p4, V.ref p5, V.ref p7, V.ref p9]) m1
  have hq1 := upd_same (H := H9) (a := q1) (o := .lst [V.ref p1, V.ref ha, V.ref p4, V.ref p5, V.ref p7, V.ref p9])
  have q1f := F9.ne m1
  have S0A := S09.trans v1
  have FA := F9.same v1
  generalize upd H9 q1 (.lst [V.ref p1, V.ref ha, V.ref p4, V.ref p5, V.ref p7, V.ref p9]) = HA at *
  refine ⟨_, rfl, (by show 0 ≤ sizeLine; decide), fun e1 k1 => ⟨(by show 0 ≤ sizeLine; decide), fun e2 k2 => ⟨(by show 0 ≤ sizeLine; decide), fun e3 k3 => ⟨(by show 0 ≤ sizeLine; decide), fun e4 k4 => ⟨(by show 3 ≤ sizeLine; decide), fun e5 k5 => ?_⟩⟩⟩⟩⟩
  have y1 := same_new (o := .tup ([] : List V)) k1
  have y2 := same_new (o := .tup ([] : List V)) k2
  have y3 := same_new (o := .tup ([] : List V)) k3
  have y4 := same_new (o := .tup ([] : List V)) k4
  have y5 := same_new (o := .tup [V.ref e2, V.ref e3, V.ref e4]) k5
  have Y5 := y1.trans (y2.trans (y3.trans (y4.trans y5)))
  have Fa1 := FA.same y1
  have Fa2 := Fa1.same y2
  have Fa3 := Fa2.same y3
  have Fa4 := Fa3.same y4
  have w1 := nfr FA k1
  have w2 := nfr Fa1 k2
  have w3 := nfr Fa2 k3
  have w4 := nfr Fa3 k4
  have w5 := nfr Fa4 k5
  have i1 := (y2.trans (y3.trans (y4.trans y5))) _ _ (upd_same (H := HA) (a := e1) (o := .tup ([] : List V)))
  have i2 := (y3.trans (y4.trans y5)) _ _ (upd_same (H := upd HA e1 (.tup ([] : List V))) (a := e2) (o := .tup ([] : List V)))
  have i3 := (y4.trans y5) _ _ (upd_same (H := upd (upd HA e1 (.tup ([] : List V))) e2 (.tup ([] : List V))) (a := e3) (o := .tup ([] : List V)))
  have i4 := y5 _ _ (upd_same (H := upd (upd (upd HA e1 (.tup ([] : List V))) e2 (.tup ([] : List V))) e3 (.tup ([] : List V))) (a := e4) (o := .tup ([] : List V)))
  have g10 : GFit (upd (upd (upd (upd (upd HA e1 (.tup ([] : List V))) e2 (.tup ([] : List V))) e3 (.tup ([] : List V))) e4 (.tup ([] : List V))) e5 (.tup [V.ref e2, V.ref e3, V.ref e4])) f (.ref e1) := ⟨_, .tup i1 w1 .nil, fit_of pE (by decide) (by simp only [PyData.weight, PyData.weightAll]; omega) (fun as cs e => by cases e)⟩
  have g11 : GFit (upd (upd (upd (upd (upd HA e1 (.tup ([] : List V))) e2 (.tup ([] : List V))) e3 (.tup ([] : List V))) e4 (.tup ([] : List V))) e5 (.tup [V.ref e2, V.ref e3, V.ref e4])) f (.ref e5) := ⟨_, .tup upd_same w5 (.cons (.tup i2 w2 .nil) (.cons (.tup i3 w3 .nil) (.cons (.tup i4 w4 .nil) .nil))), fit_of (Pl.tup (dp := 6) (fun x hx => by simp only [List.mem_cons, List.not_mem_nil, or_false] at hx; rcases hx with rfl | rfl | rfl <;> assumption)) (by decide) (by simp only [PyData.weight, PyData.weightAll]; omega) (fun as cs e => by cases e)⟩
  have FB := FA.same Y5
  have S0B := S0A.trans Y5
  generalize upd (upd (upd (upd (upd HA e1 (.tup ([] : List V))) e2 (.tup ([] : List V))) e3 (.tup ([] : List V))) e4 (.tup ([] : List V))) e5 (.tup [V.ref e2, V.ref e3, V.ref e4]) = HB at *
  refine ⟨(by show 0 ≤ sizeLine; decide), fun e6 k6 => ⟨(by show 0 ≤ sizeLine; decide), fun e7 k7 => ⟨(by show 2 ≤ sizeLine; decide), fun e8 k8 => ?_⟩⟩⟩
  have y6 := same_new (o := .tup ([] : List V)) k6
  have y7 := same_new (o := .tup ([] : List V)) k7
  have y8 := same_new (o := .lst [V.ref e6, V.ref e7]) k8
  have Y8 := y6.trans (y7.trans y8)
  have w6 := nfr FB k6
  have w7 := nfr (FB.same y6) k7
  have w8 := nfr ((FB.same y6).same y7) k8
  have i6 := (y7.trans y8) _ _ (upd_same (H := HB) (a := e6) (o := .tup ([] : List V)))
  have i7 := y8 _ _ (upd_same (H := upd HB e6 (.tup ([] : List V))) (a := e7) (o := .tup ([] : List V)))
  have g12 : GFit (upd (upd (upd HB e6 (.tup ([] : List V))) e7 (.tup ([] : List V))) e8 (.lst [V.ref e6, V.ref e7])) f (.ref e8) := ⟨_, .lst upd_same w8 (.cons (.tup i6 w6 .nil) (.cons (.tup i7 w7 .nil) .nil)), fit_of (Pl.lst (dp := 6) (fun x hx => by simp only [List.mem_cons, List.not_mem_nil, or_false] at hx; rcases hx with rfl | rfl <;> assumption)) (by decide) (by simp only [PyData.weight, PyData.weightAll]; omega) (fun as cs e => by cases e)⟩
  have FC := FB.same Y8
  have S0C := S0B.trans Y8
  generalize upd (upd (upd HB e6 (.tup ([] : List V))) e7 (.tup ([] : List V))) e8 (.lst [V.ref e6, V.ref e7]) = HC at *
  refine ⟨_, rfl, r, _, _, _, rfl, rfl, SqT.of (S0C _ _ er), atI_nat (j := 1) rfl, _, rfl, r, _, _, _, rfl, rfl, SqT.of (S0C _ _ er), atI_nat (j := 0) rfl, (by show 2 ≤ sizeLine; decide), fun e9 k9 => ?_⟩
  have y9 := same_new (o := .tup [V.ref ba, V.ref ha]) k9
  have w9 := nfr FC k9
  have S0D := S0C.trans y9
  have g13 : GFit (upd HC e9 (.tup [V.ref ba, V.ref ha])) f (.ref e9) := ⟨_, .tup upd_same w9 (.cons (thb.same S0D) (.cons (tha.same S0D) .nil)), fit_of (Pl.tup (dp := 6) (fun x hx => by simp only [List.mem_cons, List.not_mem_nil, or_false] at hx; rcases hx with rfl | rfl <;> assumption)) (by decide) (by simp only [PyData.weight, PyData.weightAll]; omega) (fun as cs e => by cases e; exact ⟨by rw [List.length_map]; omega, by rw [List.length_map]; omega⟩)⟩
  have FD := FC.same y9
  generalize upd HC e9 (.tup [V.ref ba, V.ref ha]) = HD at *
  refine ⟨(by show 0 ≤ sizeLine; decide), fun e10 k10 => ⟨(by show 0 ≤ sizeLine; decide), fun e11 k11 => ⟨(by show 1 ≤ sizeLine; decide), fun e12 k12 => ⟨(by show 2 ≤ sizeLine; decide), fun e13 k13 => ?_⟩⟩⟩⟩
  have y10 := same_new (o := .tup ([] : List V)) k10
  have y11 := same_new (o := .tup ([] : List V)) k11
  have y12 := same_new (o := .tup [V.ref e11]) k12
  have y13 := same_new (o := .tup [V.ref e10, V.ref e12]) k13
  have Y13 := y10.trans (y11.trans (y12.trans y13))
  have w10 := nfr FD k10
  have w11 := nfr (FD.same y10) k11
  have w12 := nfr ((FD.same y10).same y11) k12
  have w13 := nfr (((FD.same y10).same y11).same y12) k13
  have i10 := (y11.trans (y12.trans y13)) _ _ (upd_same (H := HD) (a := e10) (o := .tup ([] : List V)))
  have i11 := (y12.trans y13) _ _ (upd_same (H := upd HD e10 (.tup ([] : List V))) (a := e11) (o := .tup ([] : List V)))
  have i12 := y13 _ _ (upd_same (H := upd (upd HD e10 (.tup ([] : List V))) e11 (.tup ([] : List V))) (a := e12) (o := .tup [V.ref e11]))
  have pE1 : Pl (.tuple [.tuple ([] : List PyData)]) 6 := Pl.tup (dp := 5) fun x hx => by rw [List.mem_singleton.mp hx]; exact Pl.tup (dp := 4) fun _ h => nomatch h
  have g14 : GFit (upd (upd (upd (upd HD e10 (.tup ([] : List V))) e11 (.tup ([] : List V))) e12 (.tup [V.ref e11])) e13 (.tup [V.ref e10, V.ref e12])) f (.ref e13) := ⟨_, .tup upd_same w13 (.cons (.tup i10 w10 .nil) (.cons (.tup i12 w12 (.cons (.tup i11 w11 .nil) .nil)) .nil)), fit_of (Pl.tup (dp := 6) (fun x hx => by simp only [List.mem_cons, List.not_mem_nil, or_false] at hx; rcases hx with rfl | rfl <;> assumption)) (by decide) (by simp only [PyData.weight, PyData.weightAll]; omega) (fun as cs e => by cases e; exact ⟨by decide, by decide⟩)⟩
  have FE := FD.same Y13
  have S0E := S0D.trans Y13
  generalize upd (upd (upd (upd HD e10 (.tup ([] : List V))) e11 (.tup ([] : List V))) e12 (.tup [V.ref e11])) e13 (.tup [V.ref e10, V.ref e12]) = HE at *
  refine ⟨(by show 0 ≤ sizeLine; decide), fun e14 k14 => ⟨(by show 1 ≤ sizeLine; decide), fun e15 k15 => ⟨(by show 0 ≤ sizeLine; decide), fun e16 k16 => ⟨(by show 2 ≤ sizeLine; decide), fun e17 k17 => ⟨(by show 9 ≤ sizeLine; decide), fun q2 m2 => ?_⟩⟩⟩⟩⟩
  have y14 := same_new (o := .tup ([] : List V)) k14
  have y15 := same_new (o := .tup [V.ref e14]) k15
  have y16 := same_new (o := .tup ([] : List V)) k16
  have y17 := same_new (o := .tup [V.ref e15, V.ref e16]) k17
  have Y17 := y14.trans (y15.trans (y16.trans y17))
  have w14 := nfr FE k14
  have w15 := nfr (FE.same y14) k15
  have w16 := nfr ((FE.same y14).same y15) k16
  have w17 := nfr (((FE.same y14).same y15).same y16) k17
  have i14 := (y15.trans (y16.trans y17)) _ _ (upd_same (H := HE) (a := e14) (o := .tup ([] : List V)))
  have i15 := (y16.trans y17) _ _ (upd_same (H := upd HE e14 (.tup ([] : List V))) (a := e15) (o := .tup [V.ref e14]))
  have i16 := y17 _ _ (upd_same (H := upd (upd HE e14 (.tup ([] : List V))) e15 (.tup [V.ref e14])) (a := e16) (o := .tup ([] : List V)))
  have g15 : GFit (upd (upd (upd (upd HE e14 (.tup ([] : List V))) e15 (.tup [V.ref e14])) e16 (.tup ([] : List V))) e17 (.tup [V.ref e15, V.ref e16])) f (.ref e17) := ⟨_, .tup upd_same w17 (.cons (.tup i15 w15 (.cons (.tup i14 w14 .nil) .nil)) (.cons (.tup i16 w16 .nil) .nil)), fit_of (Pl.tup (dp := 6) (fun x hx => by simp only [List.mem_cons, List.not_mem_nil, or_false] at hx; rcases hx with rfl | rfl <;> assumption)) (by decide) (by simp only [PyData.weight, PyData.weightAll]; omega) (fun as cs e => by cases e; exact ⟨by decide, by decide⟩)⟩
  have FG := FE.same Y17
  have S0G := S0E.trans Y17
  generalize upd (upd (upd (upd HE e14 (.tup ([] : List V))) e15 (.tup [V.ref e14])) e16 (.tup ([] : List V))) e17 (.tup [V.ref e15, V.ref e16]) = HG at *
  have v2 := same_new (o := .lst [V.str "room", V.non, V.int 3, V.ref e1, V.ref e5, V.ref e8, V.ref e9, V.ref e13, V.ref e17]) m2
  have hq2 := upd_same (H := HG) (a := q2) (o := .lst [V.str "room", V.non, V.int 3, V.ref e1, V.ref e5, V.ref e8, V.ref e9, V.ref e13, V.ref e17])
  have SAG := Y5.trans (Y8.trans (y9.trans (Y13.trans Y17)))
  refine ⟨q1, q2, _, _, rfl, rfl, v2 _ _ (SAG _ _ hq1), hq2, (by show 6 + 9 ≤ 16777216; decide), fun q3 m3 => ?_⟩
  have v3 := same_new (o := .lst ([V.ref p1, V.ref ha, V.ref p4, V.ref p5, V.ref p7, V.ref p9] ++ [V.str "room", V.non, V.int 3, V.ref e1, V.ref e5, V.ref e8, V.ref e9, V.ref e13, V.ref e17])) m3
  have hq3 := upd_same (H := upd HG q2 (.lst [V.str "room", V.non, V.int 3, V.ref e1, V.ref e5, V.ref e8, V.ref e9, V.ref e13, V.ref e17])) (a := q3) (o := .lst ([V.ref p1, V.ref ha, V.ref p4, V.ref p5, V.ref p7, V.ref p9] ++ [V.str "room", V.non, V.int 3, V.ref e1, V.ref e5, V.ref e8, V.ref e9, V.ref e13, V.ref e17]))
  have FI := (FG.same v2).same v3
  have q3f := (FG.same v2).ne m3
  have V23 := v2.trans v3
  generalize upd (upd HG q2 (.lst [V.str "room", V.non, V.int 3, V.ref e1, V.ref e5, V.ref e8, V.ref e9, V.ref e13, V.ref e17])) q3 (.lst ([V.ref p1, V.ref ha, V.ref p4, V.ref p5, V.ref p7, V.ref p9] ++ [V.str "room", V.non, V.int 3, V.ref e1, V.ref e5, V.ref e8, V.ref e9, V.ref e13, V.ref e17])) = HI at *
  refine ⟨_, rfl, _, rfl, f, c, 15, rfl, by decide, by decide +kernel, FI, fun zz HJ z0 z15 FJ BJ => ?_⟩
  have last : ∀ {Hx : Hp} {y : V}, GFit Hx f y → Same Hx HG → GFit HJ f y := fun g s => g.keep fun b o e n => BJ _ _ (V23 _ _ (s _ _ e)) n
  have flat : ∀ {y : V} {d : PyData}, Th (Al [f]) HJ y d → Fit d → GFit HJ f y := fun t p => ⟨_, t, p⟩
  have S4G := s5.trans (S57.trans (S79.trans (v1.trans SAG)))
  obtain ⟨y, hy, gy⟩ : ∃ y, atI ([V.ref p1, V.ref ha, V.ref p4, V.ref p5, V.ref p7, V.ref p9] ++ [V.str "room", V.non, V.int 3, V.ref e1, V.ref e5, V.ref e8, V.ref e9, V.ref e13, V.ref e17]) zz = some y ∧ GFit HJ f y := by
    have : zz = 0 ∨ zz = 1 ∨ zz = 2 ∨ zz = 3 ∨ zz = 4 ∨ zz = 5 ∨ zz = 6 ∨ zz = 7 ∨ zz = 8 ∨ zz = 9 ∨ zz = 10 ∨ zz = 11 ∨ zz = 12 ∨ zz = 13 ∨ zz = 14 := by omega
    rcases this with rfl | rfl | rfl | rfl | rfl | rfl | rfl | rfl | rfl | rfl | rfl | rfl | rfl | rfl | rfl
    · exact ⟨_, rfl, last g1 (S14.trans S4G)⟩
    · exact ⟨_, rfl, last g2 S0G⟩
    · exact ⟨_, rfl, last g3 S4G⟩
    · exact ⟨_, rfl, last g4 (S57.trans (S79.trans (v1.trans SAG)))⟩
    · exact ⟨_, rfl, last g5 (S79.trans (v1.trans SAG))⟩
    · exact ⟨_, rfl, last g6 (v1.trans SAG)⟩
    · exact ⟨_, rfl, flat (.str "room") (fit_of (Neat.str (x := "room") (n := 10) (dp := 0) (by decide +kernel) (by decide +kernel)).pl (by decide) (Nat.le_trans (Neat.str (x := "room") (n := 10) (dp := 0) (by decide +kernel) (by decide +kernel)).wei (by decide)) (fun as cs e => by cases e))⟩
    · exact ⟨_, rfl, flat .non (fit_of (Neat.non (dp := 0)).pl (by decide) (Nat.le_trans (Neat.non (dp := 0)).wei (by decide)) (fun as cs e => by cases e))⟩
    · exact ⟨_, rfl, flat (.int 3) (fit_of (Neat.int (i := 3) (dp := 0) (by decide)).pl (by decide) (Nat.le_trans (Neat.int (i := 3) (dp := 0) (by decide)).wei (by decide)) (fun as cs e => by cases e))⟩
    · exact ⟨_, rfl, last g10 (Y8.trans (y9.trans (Y13.trans Y17)))⟩
    · exact ⟨_, rfl, last g11 (Y8.trans (y9.trans (Y13.trans Y17)))⟩
    · exact ⟨_, rfl, last g12 (y9.trans (Y13.trans Y17))⟩
    · exact ⟨_, rfl, last g13 (Y13.trans Y17)⟩
    · exact ⟨_, rfl, last g14 Y17⟩
    · exact ⟨_, rfl, last g15 (Same.refl _)⟩
  exact ⟨q3, _, _, _, rfl, rfl, SqL.of (BJ _ _ hq3 q3f), hy, q _ _ gy FJ fun b o e nb => BJ _ _ (V23 _ _ (S0G _ _ e)) nb⟩
end
section
variable {P : Program} {w : World} {K : PySem.W.Frag} {mg : Str → Option Value} {base : Heap}
variable {cF cB : Addr} {PT : Addr × Addr} [TF : TabF K mg base cF PT] [TC : TabC K mg base cB PT]
include TF TC
def sp_law (K : PySem.W.Frag) (PT : Addr × Addr) : Sp := fun vs H Q _ => ∃ (a : Addr) (ns : List Int), vs = [.ref a] ∧ SqL K H a (ns.map V.int) ∧ ns.length ≤ 63 ∧ Tb2 PT H ∧ ∀ H', Q (.bl true) H'
theorem ok_law {f : Addr} {fd : FuncData} (F : Fun K "law" "law" s_law f fd) (T : Top w K mg) : FnG P w K mg base CX0 8 f fd ["_law_script"] (sp_law K PT) := by
  obtain ⟨f_law_flow, fd_law_flow, F_law_flow, b_law_flow, m_law_flow⟩ := T.d_law_flow
  have G_law_flow := ok_law_flow (P := P) (w := w) (base := base) F_law_flow T
  obtain ⟨f_law_room, fd_law_room, F_law_room, b_law_room, m_law_room⟩ := T.d_law_room
  have G_law_room := ok_law_room (P := P) (w := w) (base := base) F_law_room T
  obtain ⟨f_law_wrong, fd_law_wrong, F_law_wrong, b_law_wrong, m_law_wrong⟩ := T.d_law_wrong
  have G_law_wrong := ok_law_wrong (P := P) (w := w) (base := base) F_law_wrong T
  obtain ⟨f_law_no_pair, fd_law_no_pair, F_law_no_pair, b_law_no_pair, m_law_no_pair⟩ := T.d_law_no_pair
  have G_law_no_pair := ok_law_no_pair (P := P) (w := w) (base := base) F_law_no_pair T
  obtain ⟨f_law_alike, fd_law_alike, F_law_alike, b_law_alike, m_law_alike⟩ := T.d_law_alike
  have G_law_alike := ok_law_alike (P := P) (w := w) (base := base) F_law_alike T
  obtain ⟨f_law_told, fd_law_told, F_law_told, b_law_told, m_law_told⟩ := T.d_law_told
  have G_law_told := ok_law_told (P := P) (w := w) (base := base) F_law_told T
  obtain ⟨f_law_due, fd_law_due, F_law_due, b_law_due, m_law_due⟩ := T.d_law_due
  have G_law_due := ok_law_due (P := P) (w := w) (base := base) F_law_due T
  refine Fun.okG F sc_law (fun vs H Q E h => ?_) (fun cdv A outer s H vs Q E hr hG h => ?_)
  · obtain ⟨a, ns, rfl, _⟩ := h
    rfl
  obtain ⟨a, ns, rfl, hS, hlen, tb0, q⟩ := h
  refine ⟨_, (pss_cons (ps_set (i := 1) sc_law.nd rfl (Or.inl rfl) (pe_call G_law_flow (hr.mono (by decide)) (by rfl) m_law_flow F_law_flow.kp b_law_flow .nil pass0 (pa_cons (pv 0) pa_nil)))
      (pss_cons (ps_set (i := 2) sc_law.nd rfl (Or.inl rfl) (pe_call G_law_room (hr.mono (by decide)) (by rfl) m_law_room F_law_room.kp b_law_room .nil pass0 (pa_cons (pv 1) (pa_cons pe_int pa_nil))))
      (pss_cons (ps_set (i := 3) sc_law.nd rfl (Or.inl rfl) (pe_lst (pa_cons (pe_call G_law_wrong (hr.mono (by decide)) (by rfl) m_law_wrong F_law_wrong.kp b_law_wrong .nil pass0 (pa_cons (pv 1) (pa_cons (pv 2) pa_nil))) (pa_cons (pe_call G_law_wrong (hr.mono (by decide)) (by rfl) m_law_wrong F_law_wrong.kp b_law_wrong .nil pass0 (pa_cons (pv 1) (pa_cons (pv 2) pa_nil))) (pa_cons (pe_call G_law_no_pair (hr.mono (by decide)) (by rfl) m_law_no_pair F_law_no_pair.kp b_law_no_pair .nil pass0 (pa_cons (pv 1) (pa_cons (pv 2) pa_nil))) pa_nil)))))
      (pss_cons (ps_for PassesOwn.never rfl (pi_listK K rfl (pe_op op_cat (pv 3) (pe_revLK K rfl (pv 3)))) (pg_name (i := 4) sc_law.nd rfl (Or.inl rfl))
        (pss_one (ps_if (pt_not (pt_val (pe_callG G_law_alike (hr.mono (by decide)) hG (by rfl) m_law_alike F_law_alike.kp b_law_alike .nil pass0 (pa_cons (pe_callG G_law_told (hr.mono (by decide)) hG (by rfl) m_law_told F_law_told.kp b_law_told .nil pass0 (pa_cons (pv 4) pa_nil)) (pa_cons (pe_call G_law_due (hr.mono (by decide)) (by rfl) m_law_due F_law_due.kp b_law_due .nil pass0 (pa_cons (pv 4) pa_nil)) pa_nil))))) (pss_one (ps_ret pe_bl)) pss_nil)))
      (pss_one (ps_ret (pe_and (pe_cmpR (op_eqDK K rfl hr.units) (pe_callG G_law_told (hr.mono (by decide)) hG (by rfl) m_law_told F_law_told.kp b_law_told .nil pass0 (pa_cons (pv 2) pa_nil)) pe_str (nomark _)) (pe_one (pe_cmpR (op_eqDK K rfl hr.units) (pe_callG G_law_told (hr.mono (by decide)) hG (by rfl) m_law_told F_law_told.kp b_law_told .nil pass0 (pa_cons (pe_tup (pa_cons (pe_tup pa_nil) (pa_cons (pe_tup pa_nil) pa_nil))) pa_nil)) pe_str (nomark _)))))))))), ?_⟩
  refine ⟨_, rfl, a, ns, rfl, hS, fun f c H1 nf nc F1 s1 => ?_⟩
  refine ⟨_, rfl, f, c, 4, rfl, by decide, by decide, F1, fun r hs bs H2 hR2 ok F2 B2 => ?_⟩
  have sz := good_size ok
  have sm := sz.smD (by decide)
  have say := sz.neat.sayD (by decide) (by decide)
  have th2 := room_th hR2 (flow_nf F2)
  have kp : ∀ {H H' : Hp} {v : V} {d : PyData}, Th (Al [f]) H v d → But f H H' → Th (Al [f]) H' v d := fun t B => t.keep fun b o e nb => B b o e fun z => nb (by rw [z]; exact List.mem_singleton.mpr rfl)
  refine ⟨_, rfl, _, rfl, f, c, .ref r, _, rfl, F2, th2, sz, fun v1 d1 H3 t1 f1 F3 B3 => ?_⟩
  refine ⟨_, rfl, _, rfl, f, c, .ref r, _, rfl, F3, kp th2 B3, sz, fun v2 d2 H4 t2 f2 F4 B4 => ?_⟩
  refine ⟨_, rfl, _, rfl, f, c, r, hs, bs, rfl, F4, hR2.keep ((TK.but F2 B3).trans (TK.but F3 B4)), ok, fun v3 H5 g3 F5 B5 => ⟨(by show 3 ≤ sizeLine; decide), fun wl nwl => ?_⟩⟩
  have u0 := same_new (o := .lst [v1, v2, v3]) nwl
  have hwl := upd_same (H := H5) (a := wl) (o := .lst [v1, v2, v3])
  have B35 := B4.trans B5
  have thr := ((kp th2 (B3.trans B35)).same u0)
  have F6 := F5.same u0
  have tb6 := ((((tb0.same s1).but F1 B2).but F2 B3).but F3 B35).same u0
  have all : ∀ v ∈ [v1, v2, v3], GFit (upd H5 wl (.lst [v1, v2, v3])) f v := fun v hv => by
    simp only [List.mem_cons, List.not_mem_nil, or_false] at hv
    rcases hv with rfl | rfl | rfl
    · exact ⟨d1, (kp t1 B35).same u0, f1⟩
    · exact ⟨d2, (kp t2 B5).same u0, f2⟩
    · exact g3.keep fun b o e _ => u0 _ _ e
  generalize upd H5 wl (.lst [v1, v2, v3]) = H6 at hwl thr F6 tb6 all ⊢
  refine ⟨_, rfl, _, rfl, wl, _, rfl, SqL.of hwl, fun wr nwr => ?_⟩
  have u1 := same_new (o := .lst [v1, v2, v3].reverse) nwr
  refine ⟨wl, wr, _, _, rfl, rfl, u1 _ _ hwl, upd_same, (by show 3 + 3 ≤ 16777216; decide), fun wa nwa => ?_⟩
  have u2 := u1.trans (same_new (o := .lst ([v1, v2, v3] ++ [v1, v2, v3].reverse)) nwa)
  have hwa := upd_same (H := upd H6 wr (.lst [v1, v2, v3].reverse)) (a := wa) (o := .lst ([v1, v2, v3] ++ [v1, v2, v3].reverse))
  have all2 : ∀ v ∈ [v1, v2, v3] ++ [v1, v2, v3].reverse, GFit (upd (upd H6 wr (.lst [v1, v2, v3].reverse)) wa (.lst ([v1, v2, v3] ++ [v1, v2, v3].reverse))) f v := fun v hv => by
    refine (all v ?_).keep fun b o e _ => u2 _ _ e
    rcases List.mem_append.mp hv with h | h
    · exact h
    · exact List.mem_reverse.mp h
  have thr7 := thr.same u2
  have tb7 := tb6.same u2
  generalize upd (upd H6 wr (.lst [v1, v2, v3].reverse)) wa (.lst ([v1, v2, v3] ++ [v1, v2, v3].reverse)) = H7 at hwa all2 thr7 tb7 ⊢
  generalize [v1, v2, v3] ++ [v1, v2, v3].reverse = vs7 at hwa all2 ⊢
  refine ⟨wa, rfl, ⟨_, SqL.of hwa⟩, for_list (K := K) (a := wa) (xs := vs7) (fun i σ H8 => ∃ x4 : Option V, σ = [some (.ref a), some (.ref f), some (.ref r), some (.ref wl), x4] ∧ LamX.ExtN H7 H8 ∧ Tb2 PT H8) ⟨_, rfl, ext_same (Same.refl _), tb7⟩ (fun i σ H8 _ ⟨_, _, e, _⟩ => SqL.of (e _ _ hwa (fun _ z => nomatch z))) ?_ ?_⟩
  · rintro i v σ H8 hx ⟨x4, rfl, e8, tb8⟩
    obtain ⟨d, t, sm', say', wt'⟩ := all2 v (List.mem_of_getElem? hx)
    have t8 := t.ext e8
    obtain ⟨o, lk⟩ := look_ex d
    refine ⟨_, rfl, Al [f], _, _, o, rfl, t8, lk, sm', say', tb8, fun u H9 ou e9 tb9 => ?_⟩
    have t9 := t8.ext e9
    refine ⟨_, rfl, Al [f], _, _, o, rfl, t9, lk, sm', wt', fun HA eo sA => ?_, fun p t z ks HA eo hp ht sA => ?_⟩
    · subst eo
      refine ⟨u, .str "let by", _, rfl, Dp.same' sA ou.1, .str _, look_say lk sm', ⟨_, rfl, if_bl (fun z => nomatch z) (fun _ => ?_)⟩⟩
      exact ⟨_, rfl, e8.trans (e9.trans (ext_same sA)), tb9.same sA⟩
    · subst eo
      refine ⟨u, .ref p, _, rfl, Dp.same' sA ou.1, (out_some hp ht).1, look_say lk sm', ⟨_, rfl, if_bl (fun z => nomatch z) (fun _ => ?_)⟩⟩
      exact ⟨_, rfl, e8.trans (e9.trans (ext_same sA)), tb9.same sA⟩
  · rintro σ H8 ⟨x4, rfl, e8, tb8⟩
    refine ⟨_, rfl, Al [f], _, _, none, rfl, thr7.ext e8, good_is ok, sm, say, tb8, fun u H9 ou e9 tb9 => ?_⟩
    obtain rfl := ou.2.1 rfl
    refine ⟨_, _, .str _, .str _, by decide +kernel, by decide +kernel, _, rfl, ?_⟩
    rw [PySem.SeqAt.eqv_refl (.str "let by") (by decide +kernel)]
    refine if_bl (fun _ => ?_) (fun z => nomatch z)
    refine ⟨(by show 0 ≤ sizeLine; decide), fun e1 k1 => ⟨(by show 0 ≤ sizeLine; decide), fun e2 k2 => ⟨(by show 2 ≤ sizeLine; decide), fun e3 k3 => ?_⟩⟩⟩
    have y1 := same_new (o := .tup ([] : List V)) k1
    have y2 := same_new (o := .tup ([] : List V)) k2
    have y3 := same_new (o := .tup [V.ref e1, V.ref e2]) k3
    have okN : RoomOk [] [] := ⟨Nat.zero_le _, (fun _ z => nomatch z), (fun _ z => nomatch z), (fun _ z => nomatch z), (fun _ z => nomatch z), ⟨fun _ => 0, fun _ z => nomatch z⟩, (fun _ _ z => nomatch z), Nat.zero_le _⟩
    have szN := good_size okN
    have thN : Th (fun _ => True) (upd (upd (upd H9 e1 (.tup ([] : List V))) e2 (.tup ([] : List V))) e3 (.tup [V.ref e1, V.ref e2])) (.ref e3) (roomD [] []) := .tup upd_same trivial (.cons (.tup ((y2.trans y3) _ _ upd_same) trivial .nil) (.cons (.tup (y3 _ _ upd_same) trivial .nil) .nil))
    refine ⟨fun _ => True, _, _, none, rfl, thN, good_is okN, szN.smD (by decide), szN.neat.sayD (by decide) (by decide), tb9.same (y1.trans (y2.trans y3)), fun u HB ou2 eB tbB => ?_⟩
    obtain rfl := ou2.2.1 rfl
    refine ⟨_, _, .str _, .str _, by decide +kernel, by decide +kernel, ?_⟩
    rw [PySem.SeqAt.eqv_refl (.str "let by") (by decide +kernel)]
    exact q _
end
/-! ### the class of own errors, looked at in the head -/
def oexB (K : PySem.W.Frag) (C : Addr) : Bool := match K.lookup C with
  | some o => (match o.cls, o.data, o.slots.toList with
    | .type t, .cls cd, [_, _, _, _, some (.builtin n), _] => decide (t = "type") && (decide (n = "ValueError.__new__") && (!cd.hasDel && (cd.hasDict && (match cd.mro with
      | .ref C' :: bm => decide (C' = C) && PySem.HandSPX.refsVE bm
      | _ => false))))
    | _, _, _ => false)
  | none => false
theorem oexB_ok {K : PySem.W.Frag} {C : Addr} (h : oexB K C = true) : ∃ nm q N bs bm sn sub ab col dd k0 k1 k2 k3 k5, K.lookup C = some (excClassObj nm q C N bs bm true sn sub ab col dd k0 k1 k2 k3 k5 "ValueError.__new__") ∧ PySem.HandSPX.refsVE bm = true := by
  unfold oexB at h
  split at h
  · rename_i o ho
    split at h
    · rename_i t cd k0 k1 k2 k3 n k5 e1 e2 hs
      simp only [Bool.and_eq_true, decide_eq_true_eq, Bool.not_eq_true'] at h
      obtain ⟨q1, q2, q3, q4, q5⟩ := h
      split at q5
      · rename_i C' bm e3
        simp only [Bool.and_eq_true, decide_eq_true_eq] at q5
        obtain ⟨oc, od, odt, osl⟩ := o
        obtain ⟨nm, bs, mro, ns, qn, hd, sn, sub, ab, col, del⟩ := cd
        obtain ⟨l⟩ := osl
        dsimp only at e1 e2 e3 hs q3 q4
        have hs : l = [k0, k1, k2, k3, some (.builtin n), k5] := hs
        rw [e1, e2, e3, hs, q1, q2, q3, q4, q5.1] at ho
        exact ⟨nm, qn, ns, bs, bm, sn, sub, ab, col, od, k0, k1, k2, k3, k5, ho, q5.2⟩
      · cases q5
    · cases h
  · cases h
/-- all that is asked of the class named x, its __init__ at f -/
def ownB (K : PySem.W.Frag) (C f CB : Addr) : List Bool := [oexB K C,
  decide (PySem.W.findIn K (.ref C) "__setattr__" = some (some (.builtin "object.__setattr__"))),
  decide (PySem.W.subIn K (.ref C) (.type "BaseException") = some true),
  decide (PySem.W.typeIn K (.ref C) = some (.type "type")),
  PySem.W.keepIn K (.ref C),
  decide (PySem.W.findIn K (.ref C) "__init__" = some (some (.ref f))),
  decide (PySem.W.typeIn K (.ref f) = some (.type "function")),
  decide (PySem.W.findIn K (.ref C) "__getattribute__" = some (some (.builtin "BaseException.__getattribute__"))),
  decide (PySem.W.findIn K (.ref C) "__getattr__" = some none),
  PySem.W.hasDictIn K C,
  decide (PySem.W.findIn K (.ref C) "__class__" = some (some (.builtin "object.__class__"))),
  decide (PySem.W.specialIn K (.builtin "object.__class__") "__get__" = some (some (.builtin "getset_descriptor.__get__"))),
  decide (PySem.W.takesIn K (.builtin "object.__class__") = some true),
  decide (PySem.W.mroIn K C (.type "object") = some true),
  decide (PySem.W.exmOne K (.ref C) (.ref C) = some true),
  decide (PySem.W.kitOne K (.ref C) (.ref CB) = some true),
  decide (PySem.W.findIn K (.ref C) "word" = some none),
  decide (PySem.W.findIn K (.ref C) "at" = some none)]
def nsB (K : PySem.W.Frag) : Bool := (ownB K (He.ga K "NoRoom") (He.fAd K ("NoRoom", some "__init__")) (He.ga K "BeltError")).all id && decide (PySem.W.exmOne K (.ref (He.ga K "NoRoom")) (.ref (He.ga K "BeltError")) = some true) && decide (PySem.W.kitAny K (.ref (He.ga K "NoRoom")) [.ref (He.ga K "NoText"), .ref (He.ga K "NoShift"), .ref (He.ga K "NoFormula"), .ref (He.ga K "NoName"), .ref (He.ga K "NoRow")] = some false)
theorem nsB_ok {K : PySem.W.Frag} {mg : Str → Option Value} {fd : FuncData} (h : nsB K = true) (gC : mg "NoRoom" = some (.ref (He.ga K "NoRoom"))) (gB : mg "BeltError" = some (.ref (He.ga K "BeltError"))) (F : Fun K "__init__" "NoRoom.__init__" s_NoRoom_init (He.fAd K ("NoRoom", some "__init__")) fd) (b : Binds K fd ["self", "word", "at"] []) : NsC K mg (He.ga K "NoRoom") (He.ga K "BeltError") (He.fAd K ("NoRoom", some "__init__")) fd := by
  unfold nsB at h
  obtain ⟨h, ko⟩ := Bool.and_eq_true_iff.mp h
  have ko := of_decide_eq_true ko
  revert ko
  generalize He.ga K "NoRoom" = C at *
  generalize He.ga K "BeltError" = CB at *
  intro ko
  generalize He.fAd K ("NoRoom", some "__init__") = f at *
  obtain ⟨h, te⟩ := Bool.and_eq_true_iff.mp h
  have all := List.all_eq_true.mp h
  have at_ : ∀ (i : Nat) (z : Bool), (ownB K C f CB)[i]? = some z → z = true := fun i z e => all z (List.mem_of_getElem? e)
  have d : ∀ {p : Prop} [Decidable p], decide p = true → p := fun h => of_decide_eq_true h
  have w1 := d (at_ 1 _ rfl)
  have w2 := d (at_ 2 _ rfl)
  have w3 := d (at_ 3 _ rfl)
  have w4 := at_ 4 _ rfl
  have w7 := d (at_ 7 _ rfl)
  have w8 := d (at_ 8 _ rfl)
  have w9 := at_ 9 _ rfl
  exact ⟨gC, gB, ⟨oexB_ok (at_ 0 _ rfl), w1, w2, w3, w4⟩, d (at_ 16 _ rfl), d (at_ 17 _ rfl), d (at_ 5 _ rfl), d (at_ 6 _ rfl), F, b, of_decide_eq_true te, ⟨w7, w8, w2, w9⟩, ⟨w7, w8, w2, w9, d (at_ 10 _ rfl), d (at_ 11 _ rfl), d (at_ 12 _ rfl), d (at_ 13 _ rfl)⟩, d (at_ 14 _ rfl), d (at_ 15 _ rfl), ko⟩
theorem fun_of_D {K : PySem.W.Frag} {x q : Str} {st : Stmt} {f : Addr} {fd : FuncData} (D : FunD K x q (defArgs st) (defBody st) (defScope st) [] [] f fd) : Fun K x q st f fd := by
  obtain ⟨⟨oc, od, dV, kV, doc, pm, an, cdv, ct, osl, e, lk, ci, dfl, _⟩, kp⟩ := D
  have z : dV = .none := by
    rcases dfl with ⟨_, h⟩ | ⟨h, _⟩
    · exact h
    · exact absurd rfl h
  subst z
  exact ⟨⟨oc, od, kV, doc, pm, an, cdv, ct, osl, e, lk, ci⟩, kp⟩
def hd_first_on_ring : He.DefD := ⟨("first_on_ring", none), "first_on_ring", "first_on_ring", defArgs s_first_on_ring, defBody s_first_on_ring, defScope s_first_on_ring, [], []⟩
def hd_comes_back : He.DefD := ⟨("comes_back", none), "comes_back", "comes_back", defArgs s_comes_back, defBody s_comes_back, defScope s_comes_back, [], []⟩
def hd_is_whole : He.DefD := ⟨("is_whole", none), "is_whole", "is_whole", defArgs s_is_whole, defBody s_is_whole, defScope s_is_whole, [], []⟩
def hd_is_rule : He.DefD := ⟨("is_rule", none), "is_rule", "is_rule", defArgs s_is_rule, defBody s_is_rule, defScope s_is_rule, [], []⟩
def hd_needs : He.DefD := ⟨("needs", none), "needs", "needs", defArgs s_needs, defBody s_needs, defScope s_needs, [], []⟩
def hd_look_room : He.DefD := ⟨("look_room", none), "look_room", "look_room", defArgs s_look_room, defBody s_look_room, defScope s_look_room, [], []⟩
def hd_refuse_room : He.DefD := ⟨("refuse_room", none), "refuse_room", "refuse_room", defArgs s_refuse_room, defBody s_refuse_room, defScope s_refuse_room, [], []⟩
def hd_is_tuple_of : He.DefD := ⟨("is_tuple_of", none), "is_tuple_of", "is_tuple_of", defArgs s_is_tuple_of, defBody s_is_tuple_of, defScope s_is_tuple_of, [], []⟩
def hd_has_form : He.DefD := ⟨("has_form", none), "has_form", "has_form", defArgs s_has_form, defBody s_has_form, defScope s_has_form, [], []⟩
def hd_is_hand_pair : He.DefD := ⟨("is_hand_pair", none), "is_hand_pair", "is_hand_pair", defArgs s_is_hand_pair, defBody s_is_hand_pair, defScope s_is_hand_pair, [], []⟩
def hd_is_belt_triple : He.DefD := ⟨("is_belt_triple", none), "is_belt_triple", "is_belt_triple", defArgs s_is_belt_triple, defBody s_is_belt_triple, defScope s_is_belt_triple, [], []⟩
def hd_wrong_hand : He.DefD := ⟨("wrong_hand", none), "wrong_hand", "wrong_hand", defArgs s_wrong_hand, defBody s_wrong_hand, defScope s_wrong_hand, [], []⟩
def hd_wrong_belt : He.DefD := ⟨("wrong_belt", none), "wrong_belt", "wrong_belt", defArgs s_wrong_belt, defBody s_wrong_belt, defScope s_wrong_belt, [], []⟩
def hd_wrong_count : He.DefD := ⟨("wrong_count", none), "wrong_count", "wrong_count", defArgs s_wrong_count, defBody s_wrong_count, defScope s_wrong_count, [], []⟩
def hd_hand_on_ring : He.DefD := ⟨("hand_on_ring", none), "hand_on_ring", "hand_on_ring", defArgs s_hand_on_ring, defBody s_hand_on_ring, defScope s_hand_on_ring, [], []⟩
def hd_comings : He.DefD := ⟨("comings", none), "comings", "comings", defArgs s_comings, defBody s_comings, defScope s_comings, [], []⟩
def hd_law_flow : He.DefD := ⟨("_law_flow", none), "_law_flow", "_law_flow", defArgs s_law_flow, defBody s_law_flow, defScope s_law_flow, [], []⟩
def hd_law_pick : He.DefD := ⟨("_law_pick", none), "_law_pick", "_law_pick", defArgs s_law_pick, defBody s_law_pick, defScope s_law_pick, [], []⟩
def hd_law_thing : He.DefD := ⟨("_law_thing", none), "_law_thing", "_law_thing", defArgs s_law_thing, defBody s_law_thing, defScope s_law_thing, [], []⟩
def hd_law_needs : He.DefD := ⟨("_law_needs", none), "_law_needs", "_law_needs", defArgs s_law_needs, defBody s_law_needs, defScope s_law_needs, [], []⟩
def hd_law_rule : He.DefD := ⟨("_law_rule", none), "_law_rule", "_law_rule", defArgs s_law_rule, defBody s_law_rule, defScope s_law_rule, [], []⟩
def hd_law_shuffled : He.DefD := ⟨("_law_shuffled", none), "_law_shuffled", "_law_shuffled", defArgs s_law_shuffled, defBody s_law_shuffled, defScope s_law_shuffled, [], []⟩
def hd_law_hands : He.DefD := ⟨("_law_hands", none), "_law_hands", "_law_hands", defArgs s_law_hands, defBody s_law_hands, defScope s_law_hands, [], []⟩
def hd_law_room : He.DefD := ⟨("_law_room", none), "_law_room", "_law_room", defArgs s_law_room, defBody s_law_room, defScope s_law_room, [], []⟩
def hd_law_put : He.DefD := ⟨("_law_put", none), "_law_put", "_law_put", defArgs s_law_put, defBody s_law_put, defScope s_law_put, [], []⟩
def hd_law_is_whole : He.DefD := ⟨("_law_is_whole", none), "_law_is_whole", "_law_is_whole", defArgs s_law_is_whole, defBody s_law_is_whole, defScope s_law_is_whole, [], []⟩
def hd_law_is_rule : He.DefD := ⟨("_law_is_rule", none), "_law_is_rule", "_law_is_rule", defArgs s_law_is_rule, defBody s_law_is_rule, defScope s_law_is_rule, [], []⟩
def hd_law_pairs : He.DefD := ⟨("_law_pairs", none), "_law_pairs", "_law_pairs", defArgs s_law_pairs, defBody s_law_pairs, defScope s_law_pairs, [], []⟩
def hd_law_formed : He.DefD := ⟨("_law_formed", none), "_law_formed", "_law_formed", defArgs s_law_formed, defBody s_law_formed, defScope s_law_formed, [], []⟩
def hd_law_round : He.DefD := ⟨("_law_round", none), "_law_round", "_law_round", defArgs s_law_round, defBody s_law_round, defScope s_law_round, [], []⟩
def hd_law_due : He.DefD := ⟨("_law_due", none), "_law_due", "_law_due", defArgs s_law_due, defBody s_law_due, defScope s_law_due, [], []⟩
def hd_law_told : He.DefD := ⟨("_law_told", none), "_law_told", "_law_told", defArgs s_law_told, defBody s_law_told, defScope s_law_told, [], []⟩
def hd_law_odd : He.DefD := ⟨("_law_odd", none), "_law_odd", "_law_odd", defArgs s_law_odd, defBody s_law_odd, defScope s_law_odd, [], []⟩
def hd_law_other_kind : He.DefD := ⟨("_law_other_kind", none), "_law_other_kind", "_law_other_kind", defArgs s_law_other_kind, defBody s_law_other_kind, defScope s_law_other_kind, [], []⟩
def hd_law_changed : He.DefD := ⟨("_law_changed", none), "_law_changed", "_law_changed", defArgs s_law_changed, defBody s_law_changed, defScope s_law_changed, [], []⟩
def hd_law_alike : He.DefD := ⟨("_law_alike", none), "_law_alike", "_law_alike", defArgs s_law_alike, defBody s_law_alike, defScope s_law_alike, [], []⟩
def hd_law_wrong : He.DefD := ⟨("_law_wrong", none), "_law_wrong", "_law_wrong", defArgs s_law_wrong, defBody s_law_wrong, defScope s_law_wrong, [], []⟩
def hd_law_no_pair : He.DefD := ⟨("_law_no_pair", none), "_law_no_pair", "_law_no_pair", defArgs s_law_no_pair, defBody s_law_no_pair, defScope s_law_no_pair, [], []⟩
def hd_law : He.DefD := ⟨("law", none), "law", "law", defArgs s_law, defBody s_law, defScope s_law, [], []⟩
def hd_NsInit : He.DefD := ⟨("NoRoom", some "__init__"), "__init__", "NoRoom.__init__", defArgs s_NoRoom_init, defBody s_NoRoom_init, defScope s_NoRoom_init, [], []⟩
def hFn : List He.DefD := [hd_first_on_ring, hd_comes_back, hd_is_whole, hd_is_rule, hd_needs, hd_look_room, hd_refuse_room, hd_is_tuple_of, hd_has_form, hd_is_hand_pair, hd_is_belt_triple, hd_wrong_hand, hd_wrong_belt, hd_wrong_count, hd_hand_on_ring, hd_comings, hd_law_flow, hd_law_pick, hd_law_thing, hd_law_needs, hd_law_rule, hd_law_shuffled, hd_law_hands, hd_law_room, hd_law_put, hd_law_is_whole, hd_law_is_rule, hd_law_pairs, hd_law_formed, hd_law_round, hd_law_due, hd_law_told, hd_law_odd, hd_law_other_kind, hd_law_changed, hd_law_alike, hd_law_wrong, hd_law_no_pair, hd_law, hd_NsInit]
def needsL : List (Str × He.Dv) := [("same", .int 1), ("sum", .int 2), ("gap", .int 2), ("below", .int 2), ("most", .int 2), ("least", .int 2), ("pick", .int 3), ("times", .int 1), ("always", .int 0), ("in", .int 0), ("out", .int 1)]
def needsT : He.Tab := (fun K => He.ga K "NEEDS", ["same", "sum", "gap", "below", "most", "least", "pick", "times", "always", "in", "out"])
theorem needs_yes {K : PySem.W.Frag} (h : He.valsB K (He.ga K "NEEDS") needsL = true) {z : Str} (hz : z ∈ eleven) : ∃ t, PySem.W.nsIn K (He.ga K "NEEDS") z = some (some (.int (needN z) t)) := by
  have key : ∀ i : Int, (z, He.Dv.int i) ∈ needsL → ∃ t, PySem.W.nsIn K (He.ga K "NEEDS") z = some (some (.int i t)) := fun i hm => by
    obtain ⟨u, e, r⟩ := He.valsB_ok h hm
    obtain ⟨t, rfl⟩ := r
    exact ⟨t, e⟩
  have key2 : ∀ i : Int, needN z = i → (z, He.Dv.int i) ∈ needsL → ∃ t, PySem.W.nsIn K (He.ga K "NEEDS") z = some (some (.int (needN z) t)) := fun i e hm => by
    rw [e]
    exact key i hm
  unfold needsL at key2
  unfold eleven at hz
  simp only [List.mem_cons, List.not_mem_nil, or_false] at hz
  rcases hz with h | h | h | h | h | h | h | h | h | h | h <;> subst h
  · exact key2 1 (by decide +kernel) (List.mem_cons_self ..)
  · exact key2 2 (by decide +kernel) (List.mem_cons_of_mem _ (List.mem_cons_self ..))
  · exact key2 2 (by decide +kernel) (List.mem_cons_of_mem _ (List.mem_cons_of_mem _ (List.mem_cons_self ..)))
  · exact key2 2 (by decide +kernel) (List.mem_cons_of_mem _ (List.mem_cons_of_mem _ (List.mem_cons_of_mem _ (List.mem_cons_self ..))))
  · exact key2 2 (by decide +kernel) (List.mem_cons_of_mem _ (List.mem_cons_of_mem _ (List.mem_cons_of_mem _ (List.mem_cons_of_mem _ (List.mem_cons_self ..)))))
  · exact key2 2 (by decide +kernel) (List.mem_cons_of_mem _ (List.mem_cons_of_mem _ (List.mem_cons_of_mem _ (List.mem_cons_of_mem _ (List.mem_cons_of_mem _ (List.mem_cons_self ..))))))
  · exact key2 3 (by decide +kernel) (List.mem_cons_of_mem _ (List.mem_cons_of_mem _ (List.mem_cons_of_mem _ (List.mem_cons_of_mem _ (List.mem_cons_of_mem _ (List.mem_cons_of_mem _ (List.mem_cons_self ..)))))))
  · exact key2 1 (by decide +kernel) (List.mem_cons_of_mem _ (List.mem_cons_of_mem _ (List.mem_cons_of_mem _ (List.mem_cons_of_mem _ (List.mem_cons_of_mem _ (List.mem_cons_of_mem _ (List.mem_cons_of_mem _ (List.mem_cons_self ..))))))))
  · exact key2 0 (by decide +kernel) (List.mem_cons_of_mem _ (List.mem_cons_of_mem _ (List.mem_cons_of_mem _ (List.mem_cons_of_mem _ (List.mem_cons_of_mem _ (List.mem_cons_of_mem _ (List.mem_cons_of_mem _ (List.mem_cons_of_mem _ (List.mem_cons_self ..)))))))))
  · exact key2 0 (by decide +kernel) (List.mem_cons_of_mem _ (List.mem_cons_of_mem _ (List.mem_cons_of_mem _ (List.mem_cons_of_mem _ (List.mem_cons_of_mem _ (List.mem_cons_of_mem _ (List.mem_cons_of_mem _ (List.mem_cons_of_mem _ (List.mem_cons_of_mem _ (List.mem_cons_self ..))))))))))
  · exact key2 1 (by decide +kernel) (List.mem_cons_of_mem _ (List.mem_cons_of_mem _ (List.mem_cons_of_mem _ (List.mem_cons_of_mem _ (List.mem_cons_of_mem _ (List.mem_cons_of_mem _ (List.mem_cons_of_mem _ (List.mem_cons_of_mem _ (List.mem_cons_of_mem _ (List.mem_cons_of_mem _ (List.mem_cons_self ..)))))))))))
def hFa : List He.Fa := [.glo "first_on_ring", .glo "comes_back", .glo "is_whole", .glo "is_rule", .glo "needs", .glo "look_room", .glo "refuse_room", .glo "is_tuple_of", .glo "has_form", .glo "is_hand_pair", .glo "is_belt_triple", .glo "wrong_hand", .glo "wrong_belt", .glo "wrong_count", .glo "hand_on_ring", .glo "comings", .glo "_law_flow", .glo "_law_pick", .glo "_law_thing", .glo "_law_needs", .glo "_law_rule", .glo "_law_shuffled", .glo "_law_hands", .glo "_law_room", .glo "_law_put", .glo "_law_is_whole", .glo "_law_is_rule", .glo "_law_pairs", .glo "_law_formed", .glo "_law_round", .glo "_law_due", .glo "_law_told", .glo "_law_odd", .glo "_law_other_kind", .glo "_law_changed", .glo "_law_alike", .glo "_law_wrong", .glo "_law_no_pair", .glo "law", .free "all", .free "bool", .free "enumerate", .free "int", .free "isinstance", .free "len", .free "list", .free "max", .free "min", .free "range", .free "repr", .free "set", .free "str", .free "tuple", .glo "IN_RULE", .glo "OUT_RULE", .glo "WITH_NUMBER", .glo "NoRoom", .glo "BeltError", .glo "NoText", .glo "NoShift", .glo "NoFormula", .glo "NoName", .glo "NoRow", .glo "NEEDS"]
def hEx (K : PySem.W.Frag) : Bool := He.tupB K "IN_RULE" [.str "in"] && He.tupB K "OUT_RULE" [.str "out"] && He.tupB K "WITH_NUMBER" [.str "times", .str "always"] && nsB K && He.valsB K (He.ga K "NEEDS") needsL && knownK K (He.ga K "NEEDS")
def hTf : List (Str × Option Str) := [("has_form", none), ("is_belt_triple", none)]
abbrev hR : PySem.W.OpenRow := PySem.W.OpenLaw.row PySem.Challenge.rw_beltshift_k07_the_first_of_several
abbrev hk : PySem.W.Hook := He.hookX 4 hFa hFn [needsT] hTf hEx
def hOb (s : PySem.W.SharedT) : He.AlX := He.obsX 4 hFa hFn [needsT] hTf hEx (HandSHeadRun.getT s)
theorem hOb_eq (s : PySem.W.SharedT) : hOb s = hk.obs s.abs := He.obsX_eq (HandSHeadRun.getT_eq s)
def hN0 : List Str := ["BeltError", "NoText", "NoRoom", "NoFormula", "NoShift", "NoName", "NoRow", "first_on_ring", "comes_back", "is_whole", "NEEDS", "WITH_NUMBER", "is_rule", "needs", "IN_RULE", "OUT_RULE", "look_room", "refuse_room", "is_tuple_of", "has_form", "is_hand_pair", "is_belt_triple", "wrong_hand", "wrong_belt", "wrong_count", "hand_on_ring", "comings", "_law_flow", "_law_pick", "_law_thing"]
def hN1 : List Str := ["_law_needs", "_law_rule", "_law_shuffled", "_law_hands", "_law_room", "_law_put", "_law_is_whole", "_law_is_rule", "_law_pairs", "_law_formed", "_law_round", "_law_due", "_law_told", "_law_odd", "_law_other_kind", "_law_changed", "_law_alike", "_law_wrong", "_law_no_pair"]
def hNames : List Str := hN0 ++ hN1
set_option maxHeartbeats 0 in
theorem all_mkX {w : World} {K : PySem.W.Frag} {h : Heap} {mg : Str → Option Value} {fa : Addr} (X : K.In h) (G : h.Ns mainGlobals mg) (hfa : mg "law" = some (.ref fa)) (c : He.SaysX hFa hFn [needsT] hTf hEx w h K) : LawAtG PySem.Challenge.rw_beltshift_k07_the_first_of_several w K CX0 8 63 "_law_script" mg fa h := by
  have cd := c.t.d
  obtain ⟨fd0, D0⟩ := cd.def_ 0 (d := hd_first_on_ring) rfl
  have F0 : Fun K "first_on_ring" "first_on_ring" s_first_on_ring (He.ga K "first_on_ring") fd0 := fun_of_D D0
  have g0 : mg "first_on_ring" = some (.ref (He.ga K "first_on_ring")) := He.glo_ok X G (cd.fact 0 (f := .glo "first_on_ring") rfl)
  have b0 := F0.binds (ps := ["places", "steps"]) fun _ _ _ _ _ _ us hl => match us, hl with | [_, _], _ => rfl
  obtain ⟨fd1, D1⟩ := cd.def_ 1 (d := hd_comes_back) rfl
  have F1 : Fun K "comes_back" "comes_back" s_comes_back (He.ga K "comes_back") fd1 := fun_of_D D1
  have g1 : mg "comes_back" = some (.ref (He.ga K "comes_back")) := He.glo_ok X G (cd.fact 1 (f := .glo "comes_back") rfl)
  have b1 := F1.binds (ps := ["place", "steps"]) fun _ _ _ _ _ _ us hl => match us, hl with | [_, _], _ => rfl
  obtain ⟨fd2, D2⟩ := cd.def_ 2 (d := hd_is_whole) rfl
  have F2 : Fun K "is_whole" "is_whole" s_is_whole (He.ga K "is_whole") fd2 := fun_of_D D2
  have g2 : mg "is_whole" = some (.ref (He.ga K "is_whole")) := He.glo_ok X G (cd.fact 2 (f := .glo "is_whole") rfl)
  have b2 := F2.binds (ps := ["thing"]) fun _ _ _ _ _ _ us hl => match us, hl with | [_], _ => rfl
  obtain ⟨fd3, D3⟩ := cd.def_ 3 (d := hd_is_rule) rfl
  have F3 : Fun K "is_rule" "is_rule" s_is_rule (He.ga K "is_rule") fd3 := fun_of_D D3
  have g3 : mg "is_rule" = some (.ref (He.ga K "is_rule")) := He.glo_ok X G (cd.fact 3 (f := .glo "is_rule") rfl)
  have b3 := F3.binds (ps := ["thing"]) fun _ _ _ _ _ _ us hl => match us, hl with | [_], _ => rfl
  obtain ⟨fd4, D4⟩ := cd.def_ 4 (d := hd_needs) rfl
  have F4 : Fun K "needs" "needs" s_needs (He.ga K "needs") fd4 := fun_of_D D4
  have g4 : mg "needs" = some (.ref (He.ga K "needs")) := He.glo_ok X G (cd.fact 4 (f := .glo "needs") rfl)
  have b4 := F4.binds (ps := ["rule"]) fun _ _ _ _ _ _ us hl => match us, hl with | [_], _ => rfl
  obtain ⟨fd5, D5⟩ := cd.def_ 5 (d := hd_look_room) rfl
  have F5 : Fun K "look_room" "look_room" s_look_room (He.ga K "look_room") fd5 := fun_of_D D5
  have g5 : mg "look_room" = some (.ref (He.ga K "look_room")) := He.glo_ok X G (cd.fact 5 (f := .glo "look_room") rfl)
  have b5 := F5.binds (ps := ["room"]) fun _ _ _ _ _ _ us hl => match us, hl with | [_], _ => rfl
  obtain ⟨fd6, D6⟩ := cd.def_ 6 (d := hd_refuse_room) rfl
  have F6 : Fun K "refuse_room" "refuse_room" s_refuse_room (He.ga K "refuse_room") fd6 := fun_of_D D6
  have g6 : mg "refuse_room" = some (.ref (He.ga K "refuse_room")) := He.glo_ok X G (cd.fact 6 (f := .glo "refuse_room") rfl)
  have b6 := F6.binds (ps := ["word", "at"]) fun _ _ _ _ _ _ us hl => match us, hl with | [_, _], _ => rfl
  obtain ⟨fd7, D7⟩ := cd.def_ 7 (d := hd_is_tuple_of) rfl
  have F7 : Fun K "is_tuple_of" "is_tuple_of" s_is_tuple_of (He.ga K "is_tuple_of") fd7 := fun_of_D D7
  have g7 : mg "is_tuple_of" = some (.ref (He.ga K "is_tuple_of")) := He.glo_ok X G (cd.fact 7 (f := .glo "is_tuple_of") rfl)
  have b7 := F7.binds (ps := ["thing", "many"]) fun _ _ _ _ _ _ us hl => match us, hl with | [_, _], _ => rfl
  obtain ⟨fd8, D8⟩ := cd.def_ 8 (d := hd_has_form) rfl
  have F8 : Fun K "has_form" "has_form" s_has_form (He.ga K "has_form") fd8 := fun_of_D D8
  have g8 : mg "has_form" = some (.ref (He.ga K "has_form")) := He.glo_ok X G (cd.fact 8 (f := .glo "has_form") rfl)
  have b8 := F8.binds (ps := ["room"]) fun _ _ _ _ _ _ us hl => match us, hl with | [_], _ => rfl
  obtain ⟨fd9, D9⟩ := cd.def_ 9 (d := hd_is_hand_pair) rfl
  have F9 : Fun K "is_hand_pair" "is_hand_pair" s_is_hand_pair (He.ga K "is_hand_pair") fd9 := fun_of_D D9
  have g9 : mg "is_hand_pair" = some (.ref (He.ga K "is_hand_pair")) := He.glo_ok X G (cd.fact 9 (f := .glo "is_hand_pair") rfl)
  have b9 := F9.binds (ps := ["hand"]) fun _ _ _ _ _ _ us hl => match us, hl with | [_], _ => rfl
  obtain ⟨fd10, D10⟩ := cd.def_ 10 (d := hd_is_belt_triple) rfl
  have F10 : Fun K "is_belt_triple" "is_belt_triple" s_is_belt_triple (He.ga K "is_belt_triple") fd10 := fun_of_D D10
  have g10 : mg "is_belt_triple" = some (.ref (He.ga K "is_belt_triple")) := He.glo_ok X G (cd.fact 10 (f := .glo "is_belt_triple") rfl)
  have b10 := F10.binds (ps := ["belt"]) fun _ _ _ _ _ _ us hl => match us, hl with | [_], _ => rfl
  obtain ⟨fd11, D11⟩ := cd.def_ 11 (d := hd_wrong_hand) rfl
  have F11 : Fun K "wrong_hand" "wrong_hand" s_wrong_hand (He.ga K "wrong_hand") fd11 := fun_of_D D11
  have g11 : mg "wrong_hand" = some (.ref (He.ga K "wrong_hand")) := He.glo_ok X G (cd.fact 11 (f := .glo "wrong_hand") rfl)
  have b11 := F11.binds (ps := ["room"]) fun _ _ _ _ _ _ us hl => match us, hl with | [_], _ => rfl
  obtain ⟨fd12, D12⟩ := cd.def_ 12 (d := hd_wrong_belt) rfl
  have F12 : Fun K "wrong_belt" "wrong_belt" s_wrong_belt (He.ga K "wrong_belt") fd12 := fun_of_D D12
  have g12 : mg "wrong_belt" = some (.ref (He.ga K "wrong_belt")) := He.glo_ok X G (cd.fact 12 (f := .glo "wrong_belt") rfl)
  have b12 := F12.binds (ps := ["room"]) fun _ _ _ _ _ _ us hl => match us, hl with | [_], _ => rfl
  obtain ⟨fd13, D13⟩ := cd.def_ 13 (d := hd_wrong_count) rfl
  have F13 : Fun K "wrong_count" "wrong_count" s_wrong_count (He.ga K "wrong_count") fd13 := fun_of_D D13
  have g13 : mg "wrong_count" = some (.ref (He.ga K "wrong_count")) := He.glo_ok X G (cd.fact 13 (f := .glo "wrong_count") rfl)
  have b13 := F13.binds (ps := ["room"]) fun _ _ _ _ _ _ us hl => match us, hl with | [_], _ => rfl
  obtain ⟨fd14, D14⟩ := cd.def_ 14 (d := hd_hand_on_ring) rfl
  have F14 : Fun K "hand_on_ring" "hand_on_ring" s_hand_on_ring (He.ga K "hand_on_ring") fd14 := fun_of_D D14
  have g14 : mg "hand_on_ring" = some (.ref (He.ga K "hand_on_ring")) := He.glo_ok X G (cd.fact 14 (f := .glo "hand_on_ring") rfl)
  have b14 := F14.binds (ps := ["room"]) fun _ _ _ _ _ _ us hl => match us, hl with | [_], _ => rfl
  obtain ⟨fd15, D15⟩ := cd.def_ 15 (d := hd_comings) rfl
  have F15 : Fun K "comings" "comings" s_comings (He.ga K "comings") fd15 := fun_of_D D15
  have g15 : mg "comings" = some (.ref (He.ga K "comings")) := He.glo_ok X G (cd.fact 15 (f := .glo "comings") rfl)
  have b15 := F15.binds (ps := ["room", "hand"]) fun _ _ _ _ _ _ us hl => match us, hl with | [_, _], _ => rfl
  obtain ⟨fd16, D16⟩ := cd.def_ 16 (d := hd_law_flow) rfl
  have F16 : Fun K "_law_flow" "_law_flow" s_law_flow (He.ga K "_law_flow") fd16 := fun_of_D D16
  have g16 : mg "_law_flow" = some (.ref (He.ga K "_law_flow")) := He.glo_ok X G (cd.fact 16 (f := .glo "_law_flow") rfl)
  have b16 := F16.binds (ps := ["_law_script"]) fun _ _ _ _ _ _ us hl => match us, hl with | [_], _ => rfl
  obtain ⟨fd17, D17⟩ := cd.def_ 17 (d := hd_law_pick) rfl
  have F17 : Fun K "_law_pick" "_law_pick" s_law_pick (He.ga K "_law_pick") fd17 := fun_of_D D17
  have g17 : mg "_law_pick" = some (.ref (He.ga K "_law_pick")) := He.glo_ok X G (cd.fact 17 (f := .glo "_law_pick") rfl)
  have b17 := F17.binds (ps := ["_law_flow_here", "_law_many"]) fun _ _ _ _ _ _ us hl => match us, hl with | [_, _], _ => rfl
  obtain ⟨fd18, D18⟩ := cd.def_ 18 (d := hd_law_thing) rfl
  have F18 : Fun K "_law_thing" "_law_thing" s_law_thing (He.ga K "_law_thing") fd18 := fun_of_D D18
  have g18 : mg "_law_thing" = some (.ref (He.ga K "_law_thing")) := He.glo_ok X G (cd.fact 18 (f := .glo "_law_thing") rfl)
  have b18 := F18.binds (ps := ["_law_flow_here"]) fun _ _ _ _ _ _ us hl => match us, hl with | [_], _ => rfl
  obtain ⟨fd19, D19⟩ := cd.def_ 19 (d := hd_law_needs) rfl
  have F19 : Fun K "_law_needs" "_law_needs" s_law_needs (He.ga K "_law_needs") fd19 := fun_of_D D19
  have g19 : mg "_law_needs" = some (.ref (He.ga K "_law_needs")) := He.glo_ok X G (cd.fact 19 (f := .glo "_law_needs") rfl)
  have b19 := F19.binds (ps := ["_law_rule_here"]) fun _ _ _ _ _ _ us hl => match us, hl with | [_], _ => rfl
  obtain ⟨fd20, D20⟩ := cd.def_ 20 (d := hd_law_rule) rfl
  have F20 : Fun K "_law_rule" "_law_rule" s_law_rule (He.ga K "_law_rule") fd20 := fun_of_D D20
  have g20 : mg "_law_rule" = some (.ref (He.ga K "_law_rule")) := He.glo_ok X G (cd.fact 20 (f := .glo "_law_rule") rfl)
  have b20 := F20.binds (ps := ["_law_flow_here", "_law_most"]) fun _ _ _ _ _ _ us hl => match us, hl with | [_, _], _ => rfl
  obtain ⟨fd21, D21⟩ := cd.def_ 21 (d := hd_law_shuffled) rfl
  have F21 : Fun K "_law_shuffled" "_law_shuffled" s_law_shuffled (He.ga K "_law_shuffled") fd21 := fun_of_D D21
  have g21 : mg "_law_shuffled" = some (.ref (He.ga K "_law_shuffled")) := He.glo_ok X G (cd.fact 21 (f := .glo "_law_shuffled") rfl)
  have b21 := F21.binds (ps := ["_law_flow_here", "_law_some"]) fun _ _ _ _ _ _ us hl => match us, hl with | [_, _], _ => rfl
  obtain ⟨fd22, D22⟩ := cd.def_ 22 (d := hd_law_hands) rfl
  have F22 : Fun K "_law_hands" "_law_hands" s_law_hands (He.ga K "_law_hands") fd22 := fun_of_D D22
  have g22 : mg "_law_hands" = some (.ref (He.ga K "_law_hands")) := He.glo_ok X G (cd.fact 22 (f := .glo "_law_hands") rfl)
  have b22 := F22.binds (ps := ["_law_flow_here", "_law_many"]) fun _ _ _ _ _ _ us hl => match us, hl with | [_, _], _ => rfl
  obtain ⟨fd23, D23⟩ := cd.def_ 23 (d := hd_law_room) rfl
  have F23 : Fun K "_law_room" "_law_room" s_law_room (He.ga K "_law_room") fd23 := fun_of_D D23
  have g23 : mg "_law_room" = some (.ref (He.ga K "_law_room")) := He.glo_ok X G (cd.fact 23 (f := .glo "_law_room") rfl)
  have b23 := F23.binds (ps := ["_law_flow_here", "_law_most"]) fun _ _ _ _ _ _ us hl => match us, hl with | [_, _], _ => rfl
  obtain ⟨fd24, D24⟩ := cd.def_ 24 (d := hd_law_put) rfl
  have F24 : Fun K "_law_put" "_law_put" s_law_put (He.ga K "_law_put") fd24 := fun_of_D D24
  have g24 : mg "_law_put" = some (.ref (He.ga K "_law_put")) := He.glo_ok X G (cd.fact 24 (f := .glo "_law_put") rfl)
  have b24 := F24.binds (ps := ["_law_flow_here", "_law_some", "_law_one"]) fun _ _ _ _ _ _ us hl => match us, hl with | [_, _, _], _ => rfl
  obtain ⟨fd25, D25⟩ := cd.def_ 25 (d := hd_law_is_whole) rfl
  have F25 : Fun K "_law_is_whole" "_law_is_whole" s_law_is_whole (He.ga K "_law_is_whole") fd25 := fun_of_D D25
  have g25 : mg "_law_is_whole" = some (.ref (He.ga K "_law_is_whole")) := He.glo_ok X G (cd.fact 25 (f := .glo "_law_is_whole") rfl)
  have b25 := F25.binds (ps := ["_law_thing_here"]) fun _ _ _ _ _ _ us hl => match us, hl with | [_], _ => rfl
  obtain ⟨fd26, D26⟩ := cd.def_ 26 (d := hd_law_is_rule) rfl
  have F26 : Fun K "_law_is_rule" "_law_is_rule" s_law_is_rule (He.ga K "_law_is_rule") fd26 := fun_of_D D26
  have g26 : mg "_law_is_rule" = some (.ref (He.ga K "_law_is_rule")) := He.glo_ok X G (cd.fact 26 (f := .glo "_law_is_rule") rfl)
  have b26 := F26.binds (ps := ["_law_thing_here"]) fun _ _ _ _ _ _ us hl => match us, hl with | [_], _ => rfl
  obtain ⟨fd27, D27⟩ := cd.def_ 27 (d := hd_law_pairs) rfl
  have F27 : Fun K "_law_pairs" "_law_pairs" s_law_pairs (He.ga K "_law_pairs") fd27 := fun_of_D D27
  have g27 : mg "_law_pairs" = some (.ref (He.ga K "_law_pairs")) := He.glo_ok X G (cd.fact 27 (f := .glo "_law_pairs") rfl)
  have b27 := F27.binds (ps := ["_law_things", "_law_many"]) fun _ _ _ _ _ _ us hl => match us, hl with | [_, _], _ => rfl
  obtain ⟨fd28, D28⟩ := cd.def_ 28 (d := hd_law_formed) rfl
  have F28 : Fun K "_law_formed" "_law_formed" s_law_formed (He.ga K "_law_formed") fd28 := fun_of_D D28
  have g28 : mg "_law_formed" = some (.ref (He.ga K "_law_formed")) := He.glo_ok X G (cd.fact 28 (f := .glo "_law_formed") rfl)
  have b28 := F28.binds (ps := ["_law_room_here"]) fun _ _ _ _ _ _ us hl => match us, hl with | [_], _ => rfl
  obtain ⟨fd29, D29⟩ := cd.def_ 29 (d := hd_law_round) rfl
  have F29 : Fun K "_law_round" "_law_round" s_law_round (He.ga K "_law_round") fd29 := fun_of_D D29
  have g29 : mg "_law_round" = some (.ref (He.ga K "_law_round")) := He.glo_ok X G (cd.fact 29 (f := .glo "_law_round") rfl)
  have b29 := F29.binds (ps := ["_law_room_here"]) fun _ _ _ _ _ _ us hl => match us, hl with | [_], _ => rfl
  obtain ⟨fd30, D30⟩ := cd.def_ 30 (d := hd_law_due) rfl
  have F30 : Fun K "_law_due" "_law_due" s_law_due (He.ga K "_law_due") fd30 := fun_of_D D30
  have g30 : mg "_law_due" = some (.ref (He.ga K "_law_due")) := He.glo_ok X G (cd.fact 30 (f := .glo "_law_due") rfl)
  have b30 := F30.binds (ps := ["_law_room_here"]) fun _ _ _ _ _ _ us hl => match us, hl with | [_], _ => rfl
  obtain ⟨fd31, D31⟩ := cd.def_ 31 (d := hd_law_told) rfl
  have F31 : Fun K "_law_told" "_law_told" s_law_told (He.ga K "_law_told") fd31 := fun_of_D D31
  have g31 : mg "_law_told" = some (.ref (He.ga K "_law_told")) := He.glo_ok X G (cd.fact 31 (f := .glo "_law_told") rfl)
  have b31 := F31.binds (ps := ["_law_room_here"]) fun _ _ _ _ _ _ us hl => match us, hl with | [_], _ => rfl
  obtain ⟨fd32, D32⟩ := cd.def_ 32 (d := hd_law_odd) rfl
  have F32 : Fun K "_law_odd" "_law_odd" s_law_odd (He.ga K "_law_odd") fd32 := fun_of_D D32
  have g32 : mg "_law_odd" = some (.ref (He.ga K "_law_odd")) := He.glo_ok X G (cd.fact 32 (f := .glo "_law_odd") rfl)
  have b32 := F32.binds (ps := ["_law_flow_here"]) fun _ _ _ _ _ _ us hl => match us, hl with | [_], _ => rfl
  obtain ⟨fd33, D33⟩ := cd.def_ 33 (d := hd_law_other_kind) rfl
  have F33 : Fun K "_law_other_kind" "_law_other_kind" s_law_other_kind (He.ga K "_law_other_kind") fd33 := fun_of_D D33
  have g33 : mg "_law_other_kind" = some (.ref (He.ga K "_law_other_kind")) := He.glo_ok X G (cd.fact 33 (f := .glo "_law_other_kind") rfl)
  have b33 := F33.binds (ps := ["_law_flow_here", "_law_room_here", "_law_side"]) fun _ _ _ _ _ _ us hl => match us, hl with | [_, _, _], _ => rfl
  obtain ⟨fd34, D34⟩ := cd.def_ 34 (d := hd_law_changed) rfl
  have F34 : Fun K "_law_changed" "_law_changed" s_law_changed (He.ga K "_law_changed") fd34 := fun_of_D D34
  have g34 : mg "_law_changed" = some (.ref (He.ga K "_law_changed")) := He.glo_ok X G (cd.fact 34 (f := .glo "_law_changed") rfl)
  have b34 := F34.binds (ps := ["_law_flow_here", "_law_room_here"]) fun _ _ _ _ _ _ us hl => match us, hl with | [_, _], _ => rfl
  obtain ⟨fd35, D35⟩ := cd.def_ 35 (d := hd_law_alike) rfl
  have F35 : Fun K "_law_alike" "_law_alike" s_law_alike (He.ga K "_law_alike") fd35 := fun_of_D D35
  have g35 : mg "_law_alike" = some (.ref (He.ga K "_law_alike")) := He.glo_ok X G (cd.fact 35 (f := .glo "_law_alike") rfl)
  have b35 := F35.binds (ps := ["_law_found", "_law_due_here"]) fun _ _ _ _ _ _ us hl => match us, hl with | [_, _], _ => rfl
  obtain ⟨fd36, D36⟩ := cd.def_ 36 (d := hd_law_wrong) rfl
  have F36 : Fun K "_law_wrong" "_law_wrong" s_law_wrong (He.ga K "_law_wrong") fd36 := fun_of_D D36
  have g36 : mg "_law_wrong" = some (.ref (He.ga K "_law_wrong")) := He.glo_ok X G (cd.fact 36 (f := .glo "_law_wrong") rfl)
  have b36 := F36.binds (ps := ["_law_flow_here", "_law_room_here"]) fun _ _ _ _ _ _ us hl => match us, hl with | [_, _], _ => rfl
  obtain ⟨fd37, D37⟩ := cd.def_ 37 (d := hd_law_no_pair) rfl
  have F37 : Fun K "_law_no_pair" "_law_no_pair" s_law_no_pair (He.ga K "_law_no_pair") fd37 := fun_of_D D37
  have g37 : mg "_law_no_pair" = some (.ref (He.ga K "_law_no_pair")) := He.glo_ok X G (cd.fact 37 (f := .glo "_law_no_pair") rfl)
  have b37 := F37.binds (ps := ["_law_flow_here", "_law_room_here"]) fun _ _ _ _ _ _ us hl => match us, hl with | [_, _], _ => rfl
  obtain ⟨fd38, D38⟩ := cd.def_ 38 (d := hd_law) rfl
  have F38 : Fun K "law" "law" s_law (He.ga K "law") fd38 := fun_of_D D38
  have g38 : mg "law" = some (.ref (He.ga K "law")) := He.glo_ok X G (cd.fact 38 (f := .glo "law") rfl)
  have ex := c.more
  unfold hEx at ex
  simp only [Bool.and_eq_true] at ex
  obtain ⟨⟨⟨⟨⟨ex0, ex1⟩, ex2⟩, ex3⟩, ex4⟩, ex5⟩ := ex
  obtain ⟨fdNs, DNs⟩ := cd.def_ 39 (d := hd_NsInit) rfl
  have FNs : Fun K "__init__" "NoRoom.__init__" s_NoRoom_init (He.fAd K ("NoRoom", some "__init__")) fdNs := fun_of_D DNs
  have bNs := FNs.binds (ps := ["self", "word", "at"]) fun _ _ _ _ _ _ us hl => match us, hl with | [_, _, _], _ => rfl
  have gNs : mg "NoRoom" = some (.ref (He.ga K "NoRoom")) := He.glo_ok X G (cd.fact 56 (f := .glo "NoRoom") rfl)
  have gBe : mg "BeltError" = some (.ref (He.ga K "BeltError")) := He.glo_ok X G (cd.fact 57 (f := .glo "BeltError") rfl)
  have T : Top w K mg := ⟨⟨_, fd0, F0, b0, g0⟩, ⟨_, fd1, F1, b1, g1⟩, ⟨_, fd2, F2, b2, g2⟩, ⟨_, fd3, F3, b3, g3⟩, ⟨_, fd4, F4, b4, g4⟩, ⟨_, fd5, F5, b5, g5⟩, ⟨_, fd6, F6, b6, g6⟩, ⟨_, fd7, F7, b7, g7⟩, ⟨_, fd8, F8, b8, g8⟩, ⟨_, fd9, F9, b9, g9⟩, ⟨_, fd10, F10, b10, g10⟩, ⟨_, fd11, F11, b11, g11⟩, ⟨_, fd12, F12, b12, g12⟩, ⟨_, fd13, F13, b13, g13⟩, ⟨_, fd14, F14, b14, g14⟩, ⟨_, fd15, F15, b15, g15⟩, ⟨_, fd16, F16, b16, g16⟩, ⟨_, fd17, F17, b17, g17⟩, ⟨_, fd18, F18, b18, g18⟩, ⟨_, fd19, F19, b19, g19⟩, ⟨_, fd20, F20, b20, g20⟩, ⟨_, fd21, F21, b21, g21⟩, ⟨_, fd22, F22, b22, g22⟩, ⟨_, fd23, F23, b23, g23⟩, ⟨_, fd24, F24, b24, g24⟩, ⟨_, fd25, F25, b25, g25⟩, ⟨_, fd26, F26, b26, g26⟩, ⟨_, fd27, F27, b27, g27⟩, ⟨_, fd28, F28, b28, g28⟩, ⟨_, fd29, F29, b29, g29⟩, ⟨_, fd30, F30, b30, g30⟩, ⟨_, fd31, F31, b31, g31⟩, ⟨_, fd32, F32, b32, g32⟩, ⟨_, fd33, F33, b33, g33⟩, ⟨_, fd34, F34, b34, g34⟩, ⟨_, fd35, F35, b35, g35⟩, ⟨_, fd36, F36, b36, g36⟩, ⟨_, fd37, F37, b37, g37⟩, He.free_ok X G (cd.fact 39 (f := .free "all") rfl), He.free_ok X G (cd.fact 40 (f := .free "bool") rfl), He.free_ok X G (cd.fact 41 (f := .free "enumerate") rfl), He.free_ok X G (cd.fact 42 (f := .free "int") rfl), He.free_ok X G (cd.fact 43 (f := .free "isinstance") rfl), He.free_ok X G (cd.fact 44 (f := .free "len") rfl), He.free_ok X G (cd.fact 45 (f := .free "list") rfl), He.free_ok X G (cd.fact 46 (f := .free "max") rfl), He.free_ok X G (cd.fact 47 (f := .free "min") rfl), He.free_ok X G (cd.fact 48 (f := .free "range") rfl), He.free_ok X G (cd.fact 49 (f := .free "repr") rfl), He.free_ok X G (cd.fact 50 (f := .free "set") rfl), He.free_ok X G (cd.fact 51 (f := .free "str") rfl), He.free_ok X G (cd.fact 52 (f := .free "tuple") rfl), ⟨_, He.glo_ok X G (cd.fact 53 (f := .glo "IN_RULE") rfl), fun H => He.tupB_ok ex0 H⟩, ⟨_, He.glo_ok X G (cd.fact 54 (f := .glo "OUT_RULE") rfl), fun H => He.tupB_ok ex1 H⟩, ⟨_, He.glo_ok X G (cd.fact 55 (f := .glo "WITH_NUMBER") rfl), fun H => He.tupB_ok ex2 H⟩, ⟨_, He.glo_ok X G (cd.fact 63 (f := .glo "NEEDS") rfl), ⟨c.t.tab 0 (t := needsT), fun z hz => needs_yes ex4 hz, fun z hz => knownK_no ex5 hz⟩⟩, ⟨_, nsB_ok ex3 gNs gBe FNs bNs⟩, He.glo_ok X G (cd.fact 58 (f := .glo "NoText") rfl), He.glo_ok X G (cd.fact 59 (f := .glo "NoShift") rfl), He.glo_ok X G (cd.fact 60 (f := .glo "NoFormula") rfl), He.glo_ok X G (cd.fact 61 (f := .glo "NoName") rfl), He.glo_ok X G (cd.fact 62 (f := .glo "NoRow") rfl)⟩
  have e := hfa.symm.trans g38
  cases e
  have law_b : ∀ (s : Shared) (v : Value), BindsTo s fd38 ⟨[v], []⟩ [("_law_script", v)] := fun s v => by
    obtain ⟨_, _, _, _, _, _, _, _, _, rfl, _, _⟩ := F38.ex
    exact .of_eq rfl
  refine ⟨fd38, [He.cT K ("has_form", none), He.cT K ("is_belt_triple", none)], sp_law K ((He.cT K ("has_form", none)).2, (He.cT K ("is_belt_triple", none)).2), fun p hp => ?_, fun p hp => ?_, fun p hp => ?_, law_b, fun H a ns hl _ hT hS => ⟨a, ns, rfl, hS, hl, ⟨⟨#[], hT (He.cT K ("has_form", none)) (List.mem_cons_self ..), trivial⟩, ⟨#[], hT (He.cT K ("is_belt_triple", none)) (List.mem_cons_of_mem _ (List.mem_cons_self ..)), trivial⟩⟩, fun _ => rfl⟩, fun base _ _ TB => ?_⟩
  · have hin : ∀ p ∈ [He.cT K ("has_form", none), He.cT K ("is_belt_triple", none)], ∃ q ∈ hTf, p = He.cT K q := fun p hp => by
      rcases List.mem_cons.mp hp with rfl | hp
      · exact ⟨_, List.mem_cons_self .., rfl⟩
      rcases List.mem_cons.mp hp with rfl | hp
      · exact ⟨_, (List.mem_cons_of_mem _ (List.mem_cons_self ..)), rfl⟩
      cases hp
    obtain ⟨q, hq, rfl⟩ := hin p hp
    exact c.empty _ hq
  · have hin : ∀ p ∈ [He.cT K ("has_form", none), He.cT K ("is_belt_triple", none)], ∃ q ∈ hTf, p = He.cT K q := fun p hp => by
      rcases List.mem_cons.mp hp with rfl | hp
      · exact ⟨_, List.mem_cons_self .., rfl⟩
      rcases List.mem_cons.mp hp with rfl | hp
      · exact ⟨_, (List.mem_cons_of_mem _ (List.mem_cons_self ..)), rfl⟩
      cases hp
    obtain ⟨q, hq, rfl⟩ := hin p hp
    exact c.out _ hq
  · have hin : ∀ p ∈ [He.cT K ("has_form", none), He.cT K ("is_belt_triple", none)], ∃ q ∈ hTf, p = He.cT K q := fun p hp => by
      rcases List.mem_cons.mp hp with rfl | hp
      · exact ⟨_, List.mem_cons_self .., rfl⟩
      rcases List.mem_cons.mp hp with rfl | hp
      · exact ⟨_, (List.mem_cons_of_mem _ (List.mem_cons_self ..)), rfl⟩
      cases hp
    obtain ⟨q, hq, rfl⟩ := hin p hp
    exact PySem.W.codeHd_of_K X (c.hd _ hq)
  have TB0 := TB _ (List.mem_cons_self ..)
  have TC0 : GxR.TabB base mg (He.codeOf K ("has_form", none)) (He.tabOf K (He.codeOf K ("has_form", none))) := ⟨TB0.code, TB0.bm, TB0.gP⟩
  haveI : TabF K mg base _ ((He.cT K ("has_form", none)).2, (He.cT K ("is_belt_triple", none)).2) := ⟨TC0, fun f fd F m => by
    have e := m.symm.trans g8
    cases e
    obtain ⟨_, _, _, _, _, _, cdv, _, _, rfl, lk, ci⟩ := F.ex
    obtain ⟨c0, rfl⟩ := He.codeIn_ref ci
    exact congrArg Value.ref (He.codeOf_eq (p := ("has_form", none)) lk rfl).symm⟩
  have TB1 := TB _ (List.mem_cons_of_mem _ (List.mem_cons_self ..))
  have TC1 : GxR.TabB base mg (He.codeOf K ("is_belt_triple", none)) (He.tabOf K (He.codeOf K ("is_belt_triple", none))) := ⟨TB1.code, TB1.bm, TB1.gP⟩
  haveI : TabC K mg base _ ((He.cT K ("has_form", none)).2, (He.cT K ("is_belt_triple", none)).2) := ⟨TC1, fun f fd F m => by
    have e := m.symm.trans g10
    cases e
    obtain ⟨_, _, _, _, _, _, cdv, _, _, rfl, lk, ci⟩ := F.ex
    obtain ⟨c0, rfl⟩ := He.codeIn_ref ci
    exact congrArg Value.ref (He.codeOf_eq (p := ("is_belt_triple", none)) lk rfl).symm⟩
  exact ok_law F38 T
end Mine
open PySem PySem.W PySem.Calls PyProof.Rows
set_option maxRecDepth 100000 in
set_option maxHeartbeats 0 in
theorem PySem.Challenge.cw_beltshift_k07_the_first_of_several_holds : PySem.Challenge.rw_beltshift_k07_the_first_of_several.Holds := by
  w_on; o_law
  o_head Mine.hk
  case hw => w_witness2
  case hc =>
    refine Mine.walkGT (l := PySem.Challenge.rw_beltshift_k07_the_first_of_several) (n := 63) (k := 8) (x := "_law_script") (CX := fun _ => L2.CX0) rfl (by decide) (by kernel_rfl) ⟨rfl, by decide, by decide⟩ ?F (fun _ _ _ _ _ z => z)
    intro w mg fa h Y G hmg0
    obtain ⟨K, KX, c⟩ := Y
    have hmg : mg ("law" : PySem.Str) = some (.ref fa) := by
      have e : (HandSHeadRun.topDef Mine.hR.prog 55).name = ("law" : PySem.Str) := by kernel_rfl
      rw [← e]
      exact hmg0
    exact ⟨K, KX, Mine.all_mkX KX G hmg c⟩
