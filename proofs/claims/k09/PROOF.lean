import PyProof.Rows.All
import Wide.All
import OpenK.AllK
import Wide.FinOn
import HandS.ForMost
import HandS.DictComp
import HandS.Wide
import HandS.Style
import HandS.IsInst
import HandS.TupAny
import HandS.NoneIn
import HandS.SetFor
import HandS.Conv
import HandS.Zip
import HandS.SortKw
import HandS.Deep
import KE.DataMinMax
import KE.GoesMore
import KE.KDictZip
import KE.GoesZip
import KE.GoesEnum
import HandS.AnyAll
import HandS.GenOver
import HandS.Strs
import HandS.TupLen
import KE.KeyNested
import PyProof.Rows.TupTab
import HandS.TupMul
import HandS.Words
import HandS.EndTab
import HandS.HeadWalk
import HandS.Defaults
import HandS.Head0
import HandS.Head1
import HandS.Head2
import HandS.HeadEnd
import HandS.HeadHook1
import HandS.HeadHook2
import HandS.HeadHook3
import HandS.HeadHook4
import KE.KStateDown
import KE.KIsAll
import KE.KNestM
import PyProof.GenCompD
import PyProof.WalksMore
import PyProof.ReprRoads
import PySem.Challenge.RW_beltshift_k09_rings_without_trays
import HandS.Lambda
import KE.KLam
import KE.DataMinKey
import HandS.TryOnly
import HandS.ExcInit
import HandS.WordsExc
import HandS.ExcIs
import HandS.ExcField
import HandS.ExcOwn
set_option Elab.async false
set_option linter.all false
set_option maxRecDepth 100000
namespace Mine
open PySem PyProof.Rows L2
def topS (i : Nat) : Stmt := PySem.Challenge.pw_beltshift_k09_rings_without_trays.main.body.getD i (.Pass ⟨0, 0, 0, 0⟩)
abbrev s_first_on_ring : Stmt := topS 9
abbrev N_first_on_ring : List Str := ["places", "steps", "place"]
theorem sc_first_on_ring : FnScope N_first_on_ring ["places", "steps"] (defScope s_first_on_ring) := ⟨rfl, rfl, rfl, by decide +kernel, rfl, by decide +kernel, by decide +kernel⟩
abbrev s_comes_back : Stmt := topS 10
abbrev N_comes_back : List Str := ["place", "steps", "seen", "left", "here"]
theorem sc_comes_back : FnScope N_comes_back ["place", "steps"] (defScope s_comes_back) := ⟨rfl, rfl, rfl, by decide +kernel, rfl, by decide +kernel, by decide +kernel⟩
abbrev s_is_whole : Stmt := topS 12
abbrev N_is_whole : List Str := ["thing"]
theorem sc_is_whole : FnScope N_is_whole ["thing"] (defScope s_is_whole) := ⟨rfl, rfl, rfl, by decide +kernel, rfl, by decide +kernel, by decide +kernel⟩
abbrev s_is_rule : Stmt := topS 16
abbrev N_is_rule : List Str := ["thing", "word"]
theorem sc_is_rule : FnScope N_is_rule ["thing"] (defScope s_is_rule) := ⟨rfl, rfl, rfl, by decide +kernel, rfl, by decide +kernel, by decide +kernel⟩
abbrev s_needs : Stmt := topS 17
abbrev N_needs : List Str := ["rule"]
theorem sc_needs : FnScope N_needs ["rule"] (defScope s_needs) := ⟨rfl, rfl, rfl, by decide +kernel, rfl, by decide +kernel, by decide +kernel⟩
abbrev s_look_room : Stmt := topS 21
abbrev N_look_room : List Str := ["room"]
theorem sc_look_room : FnScope N_look_room ["room"] (defScope s_look_room) := ⟨rfl, rfl, rfl, by decide +kernel, rfl, by decide +kernel, by decide +kernel⟩
abbrev s_refuse_room : Stmt := topS 22
abbrev N_refuse_room : List Str := ["word", "at"]
theorem sc_refuse_room : FnScope N_refuse_room ["word", "at"] (defScope s_refuse_room) := ⟨rfl, rfl, rfl, by decide +kernel, rfl, by decide +kernel, by decide +kernel⟩
abbrev s_is_tuple_of : Stmt := topS 23
abbrev N_is_tuple_of : List Str := ["thing", "many"]
theorem sc_is_tuple_of : FnScope N_is_tuple_of ["thing", "many"] (defScope s_is_tuple_of) := ⟨rfl, rfl, rfl, by decide +kernel, rfl, by decide +kernel, by decide +kernel⟩
abbrev s_has_form : Stmt := topS 24
abbrev N_has_form : List Str := ["room", "hands", "belts"]
theorem sc_has_form : FnScope N_has_form ["room"] (defScope s_has_form) := ⟨rfl, rfl, rfl, by decide +kernel, rfl, by decide +kernel, by decide +kernel⟩
abbrev s_is_hand_pair : Stmt := topS 25
abbrev N_is_hand_pair : List Str := ["hand"]
theorem sc_is_hand_pair : FnScope N_is_hand_pair ["hand"] (defScope s_is_hand_pair) := ⟨rfl, rfl, rfl, by decide +kernel, rfl, by decide +kernel, by decide +kernel⟩
abbrev s_is_belt_triple : Stmt := topS 26
abbrev N_is_belt_triple : List Str := ["belt"]
theorem sc_is_belt_triple : FnScope N_is_belt_triple ["belt"] (defScope s_is_belt_triple) := ⟨rfl, rfl, rfl, by decide +kernel, rfl, by decide +kernel, by decide +kernel⟩
abbrev s_wrong_hand : Stmt := topS 27
abbrev N_wrong_hand : List Str := ["room", "number", "rule", "moments"]
theorem sc_wrong_hand : FnScope N_wrong_hand ["room"] (defScope s_wrong_hand) := ⟨rfl, rfl, rfl, by decide +kernel, rfl, by decide +kernel, by decide +kernel⟩
abbrev s_wrong_belt : Stmt := topS 28
abbrev N_wrong_belt : List Str := ["room", "hands", "belts", "number", "giver", "taker", "things"]
theorem sc_wrong_belt : FnScope N_wrong_belt ["room"] (defScope s_wrong_belt) := ⟨rfl, rfl, rfl, by decide +kernel, rfl, by decide +kernel, by decide +kernel⟩
abbrev s_wrong_count : Stmt := topS 29
abbrev N_wrong_count : List Str := ["room", "number", "rule", "moments"]
theorem sc_wrong_count : FnScope N_wrong_count ["room"] (defScope s_wrong_count) := ⟨rfl, rfl, rfl, by decide +kernel, rfl, by decide +kernel, by decide +kernel⟩
abbrev s_hand_on_ring : Stmt := topS 30
abbrev N_hand_on_ring : List Str := ["room", "hands", "belts", "steps", "number", "giver", "taker", "things"]
theorem sc_hand_on_ring : FnScope N_hand_on_ring ["room"] (defScope s_hand_on_ring) := ⟨rfl, rfl, rfl, by decide +kernel, rfl, by decide +kernel, by decide +kernel⟩
abbrev s_comings : Stmt := topS 31
abbrev N_comings : List Str := ["room", "hand", "number", "belt"]
theorem sc_comings : FnScope N_comings ["room", "hand"] (defScope s_comings) := ⟨rfl, rfl, rfl, by decide +kernel, rfl, by decide +kernel, by decide +kernel⟩
abbrev s_law_flow : Stmt := topS 33
abbrev N_law_flow : List Str := ["_law_script"]
theorem sc_law_flow : FnScope N_law_flow ["_law_script"] (defScope s_law_flow) := ⟨rfl, rfl, rfl, by decide +kernel, rfl, by decide +kernel, by decide +kernel⟩
abbrev s_law_pick : Stmt := topS 34
abbrev N_law_pick : List Str := ["_law_flow_here", "_law_many", "_law_cell", "_law_digit"]
theorem sc_law_pick : FnScope N_law_pick ["_law_flow_here", "_law_many"] (defScope s_law_pick) := ⟨rfl, rfl, rfl, by decide +kernel, rfl, by decide +kernel, by decide +kernel⟩
abbrev s_law_thing : Stmt := topS 35
abbrev N_law_thing : List Str := ["_law_flow_here"]
theorem sc_law_thing : FnScope N_law_thing ["_law_flow_here"] (defScope s_law_thing) := ⟨rfl, rfl, rfl, by decide +kernel, rfl, by decide +kernel, by decide +kernel⟩
abbrev s_law_needs : Stmt := topS 36
abbrev N_law_needs : List Str := ["_law_rule_here"]
theorem sc_law_needs : FnScope N_law_needs ["_law_rule_here"] (defScope s_law_needs) := ⟨rfl, rfl, rfl, by decide +kernel, rfl, by decide +kernel, by decide +kernel⟩
abbrev s_law_rule : Stmt := topS 37
abbrev N_law_rule : List Str := ["_law_flow_here", "_law_most", "_law_words", "_law_word"]
theorem sc_law_rule : FnScope N_law_rule ["_law_flow_here", "_law_most"] (defScope s_law_rule) := ⟨rfl, rfl, rfl, by decide +kernel, rfl, by decide +kernel, by decide +kernel⟩
abbrev s_law_shuffled : Stmt := topS 38
abbrev N_law_shuffled : List Str := ["_law_flow_here", "_law_some", "_law_left", "_law_k"]
theorem sc_law_shuffled : FnScope N_law_shuffled ["_law_flow_here", "_law_some"] (defScope s_law_shuffled) := ⟨rfl, rfl, rfl, by decide +kernel, rfl, by decide +kernel, by decide +kernel⟩
abbrev s_law_hands : Stmt := topS 39
abbrev N_law_hands : List Str := ["_law_flow_here", "_law_many", "_law_sorts", "_law_left", "_law_hands_here", "_law_k", "_law_sort", "_law_behind", "_law_other", "_law_rule_here"]
theorem sc_law_hands : FnScope N_law_hands ["_law_flow_here", "_law_many"] (defScope s_law_hands) := ⟨rfl, rfl, rfl, by decide +kernel, rfl, by decide +kernel, by decide +kernel⟩
abbrev s_law_room : Stmt := topS 40
abbrev N_law_room : List Str := ["_law_flow_here", "_law_most", "_law_hands_here", "_law_ranks", "_law_givers", "_law_k", "_law_takers", "_law_belts", "_law_to", "_law_one", "_law_trays"]
theorem sc_law_room : FnScope N_law_room ["_law_flow_here", "_law_most"] (defScope s_law_room) := ⟨rfl, rfl, rfl, by decide +kernel, rfl, by decide +kernel, by decide +kernel⟩
abbrev s_law_is_whole : Stmt := topS 41
abbrev N_law_is_whole : List Str := ["_law_thing_here"]
theorem sc_law_is_whole : FnScope N_law_is_whole ["_law_thing_here"] (defScope s_law_is_whole) := ⟨rfl, rfl, rfl, by decide +kernel, rfl, by decide +kernel, by decide +kernel⟩
abbrev s_law_is_rule : Stmt := topS 42
abbrev N_law_is_rule : List Str := ["_law_thing_here", "_law_some"]
theorem sc_law_is_rule : FnScope N_law_is_rule ["_law_thing_here"] (defScope s_law_is_rule) := ⟨rfl, rfl, rfl, by decide +kernel, rfl, by decide +kernel, by decide +kernel⟩
abbrev s_law_pairs : Stmt := topS 43
abbrev N_law_pairs : List Str := ["_law_things", "_law_many", "_law_one"]
theorem sc_law_pairs : FnScope N_law_pairs ["_law_things", "_law_many"] (defScope s_law_pairs) := ⟨rfl, rfl, rfl, by decide +kernel, rfl, by decide +kernel, by decide +kernel⟩
abbrev s_law_formed : Stmt := topS 44
abbrev N_law_formed : List Str := ["_law_room_here", "_law_numbers", "_law_hand", "_law_one", "_law_to", "_law_things", "_law_number"]
theorem sc_law_formed : FnScope N_law_formed ["_law_room_here"] (defScope s_law_formed) := ⟨rfl, rfl, rfl, by decide +kernel, rfl, by decide +kernel, by decide +kernel⟩
abbrev s_law_round : Stmt := topS 45
abbrev N_law_round : List Str := ["_law_room_here", "_law_many", "_law_leads", "_law_k", "_law_one", "_law_to", "_law_things"]
theorem sc_law_round : FnScope N_law_round ["_law_room_here"] (defScope s_law_round) := ⟨rfl, rfl, rfl, by decide +kernel, rfl, by decide +kernel, by decide +kernel⟩
abbrev s_law_told : Stmt := topS 46
abbrev N_law_told : List Str := ["_law_room_here", "_law_told_here", "_law_copied", "e"]
theorem sc_law_told : FnScope N_law_told ["_law_room_here"] (defScope s_law_told) := ⟨rfl, rfl, rfl, by decide +kernel, rfl, by decide +kernel, by decide +kernel⟩
abbrev s_law_emptied : Stmt := topS 47
abbrev N_law_emptied : List Str := ["_law_flow_here", "_law_room_here", "_law_belts", "_law_one", "_law_to", "_law_things"]
theorem sc_law_emptied : FnScope N_law_emptied ["_law_flow_here", "_law_room_here"] (defScope s_law_emptied) := ⟨rfl, rfl, rfl, by decide +kernel, rfl, by decide +kernel, by decide +kernel⟩
abbrev s_law_right : Stmt := topS 48
abbrev N_law_right : List Str := ["_law_room_here", "_law_on", "_law_due"]
theorem sc_law_right : FnScope N_law_right ["_law_room_here"] (defScope s_law_right) := ⟨rfl, rfl, rfl, by decide +kernel, rfl, by decide +kernel, by decide +kernel⟩
abbrev s_law : Stmt := topS 49
abbrev N_law : List Str := ["_law_script", "_law_flow_here", "_law_room_here", "_law_k", "_law_emptied_here", "_law_b", "_law_belts"]
theorem sc_law : FnScope N_law ["_law_script"] (defScope s_law) := ⟨rfl, rfl, rfl, by decide +kernel, rfl, by decide +kernel, by decide +kernel⟩

/-- a def of the text stands, binds and is bound -/
def Dd (K : PySem.W.Frag) (mg : Str → Option Value) (name : Str) (st : Stmt) (ps : List Str) : Prop :=
  ∃ (f : Addr) (fd : FuncData), Fun K name name st f fd ∧ Binds K fd ps [] ∧ mg name = some (.ref f)
/-! ### the table of the rules -/
def eleven : List Str := ["same", "sum", "gap", "below", "most", "least", "pick", "times", "always", "in", "out"]
def needN (z : Str) : Int := if z = "always" ∨ z = "in" then 0 else if z = "same" ∨ z = "times" ∨ z = "out" then 1 else if z = "pick" then 3 else 2
structure NeedsAt (K : PySem.W.Frag) (w : World) (a : Addr) : Prop where
  dict : ∃ es n, KDict K w a es n
  yes : ∀ z ∈ eleven, ∃ t, PySem.W.nsIn K a z = some (some (.int (needN z) t))
/-! ### an own error with fields -/
abbrev s_NoRoom_init : Stmt := inClass (topS 3) 0
abbrev N_NoRoom_init : List Str := ["self", "word", "at"]
theorem sc_NoRoom_init : FnScope N_NoRoom_init ["self", "word", "at"] (defScope s_NoRoom_init) := ⟨rfl, rfl, rfl, by decide +kernel, rfl, by decide +kernel, by decide +kernel⟩
structure NsC (K : PySem.W.Frag) (mg : Str → Option Value) (C CB fI : Addr) (fd : FuncData) : Prop where
  gC : mg "NoRoom" = some (.ref C)
  gB : mg "BeltError" = some (.ref CB)
  T : OexC K C
  nw : PySem.W.findIn K (.ref C) "word" = some none
  na : PySem.W.findIn K (.ref C) "at" = some none
  iC : PySem.W.findIn K (.ref C) "__init__" = some (some (.ref fI))
  tI : PySem.W.typeIn K (.ref fI) = some (.type "function")
  F : Fun K "__init__" "NoRoom.__init__" s_NoRoom_init fI fd
  b : Binds K fd ["self", "word", "at"] []
  te : PySem.W.exmOne K (.ref C) (.ref CB) = some true
  xf : XfC K C
  is_ : ExcC K C
  tc : PySem.W.exmOne K (.ref C) (.ref C) = some true
  kb : PySem.W.kitOne K (.ref C) (.ref CB) = some true
  ko : PySem.W.kitAny K (.ref C) [.ref (He.ga K "NoText"), .ref (He.ga K "NoShift"), .ref (He.ga K "NoFormula"), .ref (He.ga K "NoName"), .ref (He.ga K "NoRow")] = some false
structure Top (w : World) (K : PySem.W.Frag) (mg : Str → Option Value) : Prop where
  d_first_on_ring : Dd K mg "first_on_ring" s_first_on_ring ["places", "steps"]
  d_comes_back : Dd K mg "comes_back" s_comes_back ["place", "steps"]
  d_is_whole : Dd K mg "is_whole" s_is_whole ["thing"]
  d_is_rule : Dd K mg "is_rule" s_is_rule ["thing"]
  d_needs : Dd K mg "needs" s_needs ["rule"]
  d_look_room : Dd K mg "look_room" s_look_room ["room"]
  d_refuse_room : Dd K mg "refuse_room" s_refuse_room ["word", "at"]
  d_is_tuple_of : Dd K mg "is_tuple_of" s_is_tuple_of ["thing", "many"]
  d_has_form : Dd K mg "has_form" s_has_form ["room"]
  d_is_hand_pair : Dd K mg "is_hand_pair" s_is_hand_pair ["hand"]
  d_is_belt_triple : Dd K mg "is_belt_triple" s_is_belt_triple ["belt"]
  d_wrong_hand : Dd K mg "wrong_hand" s_wrong_hand ["room"]
  d_wrong_belt : Dd K mg "wrong_belt" s_wrong_belt ["room"]
  d_wrong_count : Dd K mg "wrong_count" s_wrong_count ["room"]
  d_hand_on_ring : Dd K mg "hand_on_ring" s_hand_on_ring ["room"]
  d_comings : Dd K mg "comings" s_comings ["room", "hand"]
  d_law_flow : Dd K mg "_law_flow" s_law_flow ["_law_script"]
  d_law_pick : Dd K mg "_law_pick" s_law_pick ["_law_flow_here", "_law_many"]
  d_law_thing : Dd K mg "_law_thing" s_law_thing ["_law_flow_here"]
  d_law_needs : Dd K mg "_law_needs" s_law_needs ["_law_rule_here"]
  d_law_rule : Dd K mg "_law_rule" s_law_rule ["_law_flow_here", "_law_most"]
  d_law_shuffled : Dd K mg "_law_shuffled" s_law_shuffled ["_law_flow_here", "_law_some"]
  d_law_hands : Dd K mg "_law_hands" s_law_hands ["_law_flow_here", "_law_many"]
  d_law_room : Dd K mg "_law_room" s_law_room ["_law_flow_here", "_law_most"]
  d_law_is_whole : Dd K mg "_law_is_whole" s_law_is_whole ["_law_thing_here"]
  d_law_is_rule : Dd K mg "_law_is_rule" s_law_is_rule ["_law_thing_here"]
  d_law_pairs : Dd K mg "_law_pairs" s_law_pairs ["_law_things", "_law_many"]
  d_law_formed : Dd K mg "_law_formed" s_law_formed ["_law_room_here"]
  d_law_round : Dd K mg "_law_round" s_law_round ["_law_room_here"]
  d_law_told : Dd K mg "_law_told" s_law_told ["_law_room_here"]
  d_law_emptied : Dd K mg "_law_emptied" s_law_emptied ["_law_flow_here", "_law_room_here"]
  d_law_right : Dd K mg "_law_right" s_law_right ["_law_room_here"]
  m_all : mg "all" = none
  m_bool : mg "bool" = none
  m_enumerate : mg "enumerate" = none
  m_int : mg "int" = none
  m_isinstance : mg "isinstance" = none
  m_len : mg "len" = none
  m_list : mg "list" = none
  m_max : mg "max" = none
  m_min : mg "min" = none
  m_range : mg "range" = none
  m_repr : mg "repr" = none
  m_set : mg "set" = none
  m_str : mg "str" = none
  m_tuple : mg "tuple" = none
  x_in : ∃ aI : Addr, mg "IN_RULE" = some (.ref aI) ∧ ∀ H : Hp, SqT K H aI [.str "in"]
  x_out : ∃ aO : Addr, mg "OUT_RULE" = some (.ref aO) ∧ ∀ H : Hp, SqT K H aO [.str "out"]
  x_with : ∃ aW : Addr, mg "WITH_NUMBER" = some (.ref aW) ∧ ∀ H : Hp, SqT K H aW [.str "times", .str "always"]
  x_needs : ∃ aN : Addr, mg "NEEDS" = some (.ref aN) ∧ NeedsAt K w aN
  x_ns : ∃ fd : FuncData, NsC K mg (He.ga K "NoRoom") (He.ga K "BeltError") (He.fAd K ("NoRoom", some "__init__")) fd
  x_NoText : mg "NoText" = some (.ref (He.ga K "NoText"))
  x_NoShift : mg "NoShift" = some (.ref (He.ga K "NoShift"))
  x_NoFormula : mg "NoFormula" = some (.ref (He.ga K "NoFormula"))
  x_NoName : mg "NoName" = some (.ref (He.ga K "NoName"))
  x_NoRow : mg "NoRow" = some (.ref (He.ga K "NoRow"))

/-! ### heaps -/
def But (f : Addr) (H H' : Hp) : Prop := ∀ b o, H b = some o → b ≠ f → H' b = some o
theorem But.refl {f : Addr} {H : Hp} : But f H H := fun _ _ e _ => e
theorem But.trans {f : Addr} {H H1 H2 : Hp} (a : But f H H1) (b : But f H1 H2) : But f H H2 := fun x o e n => b x o (a x o e n) n
theorem But.upd {f : Addr} {H H1 : Hp} {o : HO} (a : But f H H1) : But f H (upd H1 f o) := fun x u e n => by rw [upd_ne n]; exact a x u e n
theorem But.new {f p : Addr} {H H1 : Hp} {o : HO} (a : But f H H1) (h : H1 p = none) : But f H (L2.upd H1 p o) := fun x u e n => by
  have e1 := a x u e n
  rw [upd_ne (ne_of_none e1 h)]
  exact e1
theorem same_new {H : Hp} {p : Addr} {o : HO} (h : H p = none) : Same H (upd H p o) := fun b u q => by rw [upd_ne (ne_of_none q h)]; exact q
theorem But.same {f : Addr} {H H1 H2 : Hp} (a : But f H H1) (b : Same H1 H2) : But f H H2 := fun x o e n => b x o (a x o e n)
theorem But.seqT {K : PySem.W.Frag} {f a : Addr} {H H1 : Hp} {xs : List V} (b : But f H H1) (h : SqT K H a xs) (n : a ≠ f) : SqT K H1 a xs := by
  rcases h with h | h
  · left
    rcases h with h | ⟨o, h⟩
    · exact .inl (b _ _ h n)
    · exact .inr ⟨o, b _ _ h n⟩
  · exact .inr h
/-- a comprehension without a test -/
theorem yes_in {σ : L2.St} {H : Hp} {A B : Hp → Prop} (h : A H) : tYes σ H (fun b H3 => if b = true then A H3 else B H3) := by
  show (if true = true then A H else B H)
  rw [if_pos rfl]
  exact h
/-! ### the draw -/
/-- the list of the law's draws at f, the script's copy at c -/
def Flow (H : Hp) (f c : Addr) : Prop := ∃ (ns : List Int) (i p q r : Int), H f = some (.lst [.ref c, .int i, .int p, .int q, .int r]) ∧ H c = some (.lst (ns.map V.int)) ∧ 0 ≤ i ∧ 0 ≤ p ∧ 0 ≤ q ∧ q < 2147483647
theorem Flow.new {H : Hp} {f c p : Addr} {o : HO} (h : Flow H f c) (n : H p = none) : Flow (upd H p o) f c := by
  obtain ⟨ns, i, a, q, r, e1, e2, e⟩ := h
  exact ⟨ns, i, a, q, r, same_new n _ _ e1, same_new n _ _ e2, e⟩
theorem Flow.ne {H : Hp} {f c p : Addr} (h : Flow H f c) (n : H p = none) : p ≠ f := by
  obtain ⟨ns, i, a, q, r, e1, _⟩ := h
  exact fun e => by rw [e, e1] at n; cases n
theorem Flow.nec {H : Hp} {f c p : Addr} (h : Flow H f c) (n : H p = none) : p ≠ c := by
  obtain ⟨ns, i, a, q, r, _, e1, _⟩ := h
  exact fun e => by rw [e, e1] at n; cases n
theorem Flow.lst {H : Hp} {f c p : Addr} {o : HO} (h : Flow H f c) (n1 : p ≠ f) (n2 : p ≠ c) : Flow (upd H p o) f c := by
  obtain ⟨ns, i, a, q, r, e1, e2, e⟩ := h
  exact ⟨ns, i, a, q, r, by rw [upd_ne n1.symm]; exact e1, by rw [upd_ne n2.symm]; exact e2, e⟩
theorem Flow.same {H H' : Hp} {f c : Addr} (h : Flow H f c) (s : Same H H') : Flow H' f c := by
  obtain ⟨ns, i, a, q, r, e1, e2, e⟩ := h
  exact ⟨ns, i, a, q, r, s _ _ e1, s _ _ e2, e⟩
theorem Flow.tup {H : Hp} {f c p : Addr} {xs : List V} (h : Flow H f c) (e : H p = some (.tup xs)) : p ≠ f := by
  obtain ⟨ns, i, a, q, r, e1, _⟩ := h
  exact ne_of e e1 (by intro z; cases z)
theorem at_ints {ns : List Int} {i : Int} (h0 : 0 ≤ i) (h1 : i < (ns.length : Int)) : ∃ v : Int, atI (ns.map V.int) i = some (.int v) := by
  have hk : i.toNat < ns.length := by omega
  have ek : i = ((i.toNat : Nat) : Int) := by omega
  have q : atI (ns.map V.int) ((i.toNat : Nat) : Int) = some (.int ns[i.toNat]) := atI_nat (by rw [List.getElem?_map, List.getElem?_eq_getElem hk]; rfl)
  rw [← ek] at q
  exact ⟨_, q⟩
/-- a block by less than it asks -/
theorem PSs.to {X : Cx} {ss : List Stmt} {t : TS} (h : PSs X ss t) (u : TS) (k : ∀ D σ H, u D σ H → t D σ H) : PSs X ss u := ⟨fun pins s σ H D I q => h.run pins s σ H D I (k D σ H q)⟩
theorem if_bl {b : Bool} {A B : Prop} (h1 : b = true → A) (h2 : b = false → B) : if b = true then A else B := by
  cases b
  · rw [if_neg Bool.false_ne_true]; exact h2 rfl
  · rw [if_pos rfl]; exact h1 rfl
/-! ### defs whose callers are showing nothing: a promise that may lean on it (repr of a list or tuple asks) -/
structure FnG (P : Program) (w : World) (K : PySem.W.Frag) (mg : Str → Option Value) (base : Heap) (CX : CXT) (lv : Nat) (fn : Addr) (dat : FuncData) (names : List Str) (sp : Sp) : Prop where
  many : ∀ xs H Q E, sp xs H Q E → xs.length = names.length
  goes : ∀ (A : Around) (outer : List Env) (st : Shared) (H : Hp) (given : Args) (us : List Value) (xs : List V) (Q : VK) (E : XK), Room lv A → A.guards = some [] →
    Env0 P w K mg base A outer st H → BindsTo st dat given (names.zip us) → Vals xs us → sp xs H Q E → codeAny (model P w) A (.call (.ref fn) given) (CR CX outer P w H st Q E) st
theorem FnG.of {P : Program} {w : World} {K : PySem.W.Frag} {mg : Str → Option Value} {base : Heap} {CX : CXT} {lv : Nat} {fn : Addr} {dat : FuncData} {names : List Str} {sp : Sp} (h : FnOk P w K mg base CX lv fn dat names sp) : FnG P w K mg base CX lv fn dat names sp :=
  ⟨h.len, fun A o st H g us xs Q E r _ e b v q => h.run A o st H g us xs Q E r e b v q⟩
section
variable {P : Program} {w : World} {K : PySem.W.Frag} {mg : Str → Option Value} {base : Heap} {CX : CXT} {lv : Nat}
theorem fnG_of {fn : Addr} {nm ql : Str} {pr : Arguments} {bd : List Stmt} {sc : Scope} {d1 d2 d3 d4 d5 d6 d7 : Value} {o1 o2 : Option Addr} {o3 : Array (Option Value)} {N names : List Str} {sp : Sp}
    (at_ : K.lookup fn = some ⟨d7, o2, .func (PySem.W.fnOf nm ql pr bd sc d1 d2 d3 d4 o1 d5 d6), o3⟩) (code : PySem.W.codeIn K d5 ql = true) (S : FnScope N names sc) (many : ∀ xs H Q E, sp xs H Q E → xs.length = names.length)
    (body : ∀ (A : Around) (outer : List Env) (st : Shared) (H : Hp) (xs : List V) (Q : VK) (E : XK), Room lv (A.deeper (envOfC ql sc st.heap.objs.size fn d5)) → (A.deeper (envOfC ql sc st.heap.objs.size fn d5)).guards = some [] → sp xs H Q E →
      ∃ t, PSs (cxOf CX P w K mg base N ql sc fn d5 A outer st H E) bd t ∧ t { nx := fun _ H' => Q .non H', rt := Q } (start N xs) H) :
    FnG P w K mg base CX (lv + 1) fn (PySem.W.fnOf nm ql pr bd sc d1 d2 d3 d4 o1 d5 d6) names sp := by
  refine ⟨many, fun A outer st H given us xs Q E rm gd e0 bnd rel asked => ?_⟩
  have inK : K.In st.heap := e0.mod.kin.keeps fun z u e => (e0.bs z u e).1
  have noL : st.heap.NoLimit := e0.mod.nolimit.keeps fun z u e => (e0.bs z u e).1
  have kinds : ∀ z ∈ names.zip us, sc.names.lookup z.1 = some .local ∨ (sc.names.lookup z.1 = some .cell ∧ ((cellsFrom (st.heap.objs.size + 1) sc.names []).lookup z.1).isSome = true) := by
    intro z hz
    rcases S.par z.1 (List.of_mem_zip (a := z.1) (b := z.2) hz).1 with k | k
    · left; exact k
    · right; exact ⟨k, PySem.W.cellsFrom_some _ _ _ (.inl k)⟩
  refine codeAny_call_function rm.depth (inK _ _ at_) rfl S.co S.gen rfl (PySem.W.codeRec_of inK code) (bnd _ _ _ _ ?_)
  refine wpAny_newFunctionEnv_cells S.kind kinds fun env eenv st1 inn => ?_
  subst eenv
  refine ⟨noL.keeps inn.toInCall.keep, codeAny_func ?_⟩
  obtain ⟨t, der, now⟩ := body A outer st H xs Q E (rm.deeper _) gd asked
  have J0 := inv_start (CX := CX) (E := E) S rm.hd e0 (many _ _ _ _ asked) rel inn
  refine wpAny_mono (der.run [] st1 (start N xs) H _ J0 now) (fun flow st' got => ?_) fun _ _ z => z
  cases flow with
  | ret u =>
    obtain ⟨v, σ', H', J, rv, fine⟩ := got
    exact ⟨v, H', J.os, J.bare, J.base, J.hok, rv, fine⟩
  | next =>
    obtain ⟨σ', H', J, fine⟩ := got
    exact ⟨V.non, H', J.os, J.bare, J.base, J.hok, rfl, fine⟩
  | brk =>
    obtain ⟨_, _, _, no⟩ := got
    exact no.elim
  | cont =>
    obtain ⟨_, _, _, no⟩ := got
    exact no.elim
theorem Fun.okG {nm ql : Str} {st : Stmt} {fn : Addr} {dat : FuncData} {N names : List Str} {sp : Sp} (F : L2.Fun K nm ql st fn dat) (S : FnScope N names (defScope st)) (many : ∀ xs H Q E, sp xs H Q E → xs.length = names.length)
    (body : ∀ (cdv : Value) (A : Around) (outer : List Env) (s : Shared) (H : Hp) (xs : List V) (Q : VK) (E : XK), Room lv (A.deeper (envOfC ql (defScope st) s.heap.objs.size fn cdv)) → (A.deeper (envOfC ql (defScope st) s.heap.objs.size fn cdv)).guards = some [] → sp xs H Q E →
      ∃ t, PSs (cxOf CX0 P w K mg base N ql (defScope st) fn cdv A outer s H E).nox (defBody st) t ∧ t { nx := fun _ H' => Q .non H', rt := Q } (start N xs) H) : FnG P w K mg base CX0 (lv + 1) fn dat names sp := by
  obtain ⟨c1, c2, c3, c4, c5, c6, cdv, c8, c9, rfl, at_, code⟩ := F.ex
  refine fnG_of at_ code S many fun A outer s H xs Q E rm gd asked => ?_
  obtain ⟨t, der, now⟩ := body cdv A outer s H xs Q E rm gd asked
  exact ⟨t, der.nox, now⟩
end
section
variable {X : Cx} {CX : CXT} {lv : Nat} {fn : Addr} {dat : FuncData} {names : List Str} {sp : Sp} {more : List V} {ds : List Value} {E : XK}
theorem goesG {pins : List (Addr × Obj)} {σ : L2.St} {H : Hp} {st : Shared} {Q : VK} {us : List Value} {xs : List V} (F : FnG X.prog X.w X.K X.mg X.base CX lv fn dat names sp) (rm : Room lv X.A) (gd : X.A.guards = some []) (bnd : Binds X.K dat names ds) (dv : Vals more ds) (out : Passes CX X E)
    (J : Inv X pins σ H st) (rel : Vals xs us) (asked : sp (xs ++ more) H Q E) : wpAny (model X.prog X.w) X.A (call (.ref fn) us) (EP X pins σ Q) X.xe st := by
  have rel2 := rel.append dv
  have len2 : (us ++ ds).length = names.length := by
    rw [← rel2.length]
    exact F.many _ _ _ _ asked
  refine wpAny_call (codeAny_mono (F.goes X.A X.stack st H ⟨us, []⟩ (us ++ ds) (xs ++ more) Q E rm gd J.env0 (bnd st us J.kIn len2) rel2 asked) fun res st' got => ?_)
  cases res with
  | error e => exact out pins σ H st e st' J got
  | ok flow =>
    cases flow with
    | ret u => exact J.after got
    | next => exact got.elim
    | brk => exact got.elim
    | cont => exact got.elim
theorem pe_callG {x : Str} {p pos : Pos} {e : Expr} {es : List Expr} {t : TA} (F : FnG X.prog X.w X.K X.mg X.base CX lv fn dat names sp) (rm : Room lv X.A) (gd : X.A.guards = some []) (glob : Gl X x) (here : X.mg x = some (.ref fn)) (kept : PySem.W.keepIn X.K (.ref fn) = true)
    (bnd : Binds X.K dat names ds) (dv : Vals more ds) (out : Passes CX X E) (args : PA X (e :: es) t) (n1 : (x == ("__debug__" : Str)) = false := by decide)
    (n2 : starEach (e :: es) X.env = (false, eval e X.env) :: starEach es X.env := by rfl) (n3 : (backTo pos (starEach es X.env)).any (·.1) = false := by rfl) : PE X (.Call (.Name x p) (e :: es) [] pos) (tCall sp more E t) := by
  refine ⟨fun pins st σ H Q J asked => ?_⟩
  refine wpAny_Call_Name_kw (ld_glob J glob here ?_ n1)
  exact PySem.W.callWith_K (h₀ := X.base) J.ok.mod.kin kept (thn (args.run pos pins st σ H _ J asked) fun us st1 ⟨xs, H1, J1, rel, now⟩ => ⟨J1.kIn, goesG F rm gd bnd dv out J1 rel now⟩) n2 n3
theorem pe_call0G {x : Str} {p pos : Pos} (F : FnG X.prog X.w X.K X.mg X.base CX lv fn dat names sp) (rm : Room lv X.A) (gd : X.A.guards = some []) (glob : Gl X x) (here : X.mg x = some (.ref fn)) (kept : PySem.W.keepIn X.K (.ref fn) = true)
    (bnd : Binds X.K dat names ds) (dv : Vals more ds) (out : Passes CX X E) (n1 : (x == ("__debug__" : Str)) = false := by decide) : PE X (.Call (.Name x p) [] [] pos) (tCall sp more E tNil) := by
  refine ⟨fun pins st σ H Q J asked => ?_⟩
  refine wpAny_Call_Name_kw (ld_glob J glob here ?_ n1)
  exact PySem.W.callWith_K0 J.kIn kept (goesG (us := []) F rm gd bnd dv out J .nil asked)
/-- repr of data -/
def rReprD (K : PySem.W.Frag) : List V → Hp → VK → Prop := fun xs H Q => ∃ (a : Addr) (d : PyData), xs = [.ref a] ∧ Dp K H (.ref a) d ∧ d.showable = true ∧ d.hasDict = false ∧ d.depth ≤ 60 ∧ d.shown.length ≤ sizeLine ∧ Q (.str d.shown) H
theorem call_reprD (gd : X.A.guards = some []) (un : X.A.units + 64 < cLine) : CallR X (.builtin "repr") (rReprD X.K) := by
  intro pins st σ H xs us Q J rel asked
  obtain ⟨a, d, rfl, hd, h1, h2, h3, h4, now⟩ := asked
  obtain ⟨u, rfl, ru⟩ := vals1 rel
  obtain rfl : u = Value.ref a := ru
  obtain ⟨as, rd⟩ := Dp.reads J d _ _ hd rfl
  exact repr_of_reads' rd h1 (PyData.noDict_hsm h2) gd (by omega) (fun _ _ e => e) (fun h' u tk kp => ⟨.str d.shown, H, J.kept (t' := tk) kp, ⟨_, rfl⟩, now⟩) h4
end
/-! ### the law's own call, its code objects' tables told, by a promise that leans on nothing being shown -/
theorem endGT {P : Program} {w : World} {K : PySem.W.Frag} {mg mb : Str → Option Value} {CX : CXT} {lv : Nat} {fn a : Addr} {dat : FuncData} {x : Str} {sp : Sp} {st : Shared} {us : List Value} {ns : List Int} {cs : List (Addr × Addr)}
    (inK : K.In st.heap) (gl : st.heap.Ns mainGlobals mg) (bl : st.heap.Ns builtinsNs mb) (boot : ∀ z : Str, z ≠ "__name__" → mb z = bootBuiltins z) (noL : st.heap.NoLimit) (gens : st.gens = #[])
    (bm : ∃ (m : Addr) (o : Obj), mg "__builtins__" = some (.ref m) ∧ m ≠ builtinsNs ∧ st.heap.get? m = some o ∧ o.cls = .type "module" ∧ o.dict = some builtinsNs ∧ o.data = .plain)
    (tabs : ∀ p ∈ cs, st.heap.get? p.2 = some { cls := .none, data := .fields #[] }) (free : ∀ p ∈ cs, K.lookup p.2 = none) (codes : ∀ p ∈ cs, PySem.W.CodeHd st.heap p.1 p.2)
    (obj : st.heap.get? a = some { cls := .type "list", data := .seq us.toArray }) (iv : IntsAre us ns) (short : ns.length ≤ sizeLine) (rm : Room lv callerA)
    (F : ∀ bs : Heap, K.In bs → bs.Ns mainGlobals mg → (∀ p ∈ cs, LamX.TabB bs mg p.1 p.2) → FnG P w K mg bs CX lv fn dat [x] sp) (bnd : ∀ (z : Shared) (u : Value), BindsTo z dat ⟨[u], []⟩ [(x, u)])
    (asked : ∀ H : Hp, (∀ p ∈ cs, H p.2 = some (.tbl #[])) → SqL K H a (ns.map V.int) → sp [.ref a] H (fun v _ => v = .bl true) fun _ _ _ => False)
    (never : ∀ H e st', CX [] H st (fun _ _ _ => False) e st' → False) :
    codeAny (model P w) callerA (.call (.ref fn) ⟨[.ref a], []⟩) (fun res st' => res = .ok (.ret (.bool true)) ∧ OldK st.heap st'.heap ∧ st'.os = st.os ∧ AllBare st'.gens) st := by
  classical
  have rel := vals_ints iv
  have many := iv.length
  let tb : Addr → Prop := fun b => ∃ p ∈ cs, p.2 = b
  have tObj : ∀ {b : Addr}, tb b → st.heap.get? b = some { cls := .none, data := .fields #[] } := fun {b} ⟨p, hp, e⟩ => e ▸ tabs p hp
  have aT : ¬ tb a := fun h => by
    have z : Data.fields #[] = Data.seq us.toArray _ := congrArg Obj.data (Option.some.inj ((tObj h).symm.trans obj))
    cases z
  have main : ∀ H : Hp, (∀ b, tb b → H b = some (.tbl #[])) → (∀ b, H b = none ∨ tb b ∨ (b = a ∧ K.lookup a = none ∧ ∃ o xs, H b = some (.frz o (.lst xs)))) → SqL K H a (ns.map V.int) → HOk P w H st.heap →
      codeAny (model P w) callerA (.call (.ref fn) ⟨[.ref a], []⟩) (fun res st' => res = .ok (.ret (.bool true)) ∧ OldK st.heap st'.heap ∧ st'.os = st.os ∧ AllBare st'.gens) st := by
    intro H ht trk sq ok
    have kClear : ∀ {b : Addr} {o : Obj}, K.lookup b = some o → H b = none := fun {b o} e => by
      rcases trk b with h | ⟨p, hp, rfl⟩ | ⟨rfl, h, _⟩
      · exact h
      · rw [free p hp] at e; cases e
      · rw [h] at e; cases e
    have dClear : ∀ {b : Addr} {o : Obj}, st.heap.get? b = some o → o.data ≠ .fields #[] → (∀ vs n, o.data ≠ .seq vs n) → H b = none := fun {b o} e n1 n2 => by
      rcases trk b with h | h | ⟨rfl, _⟩
      · exact h
      · rw [tObj h] at e; cases e; exact (n1 rfl).elim
      · rw [obj] at e; cases e; exact (n2 _ _ rfl).elim
    have names : ∀ {b : Addr} {m : Str → Option Value}, st.heap.Ns b m → (hidT st.heap H).Ns b m := by
      rintro b m ⟨u, es, ep, e, d, r⟩
      exact ⟨u, es, ep, hidT_get e (dClear e (by rw [d]; exact fun z => nomatch z) (by rw [d]; exact fun _ _ z => nomatch z)), d, r⟩
    have inB : K.In (hidT st.heap H) := fun b u e => hidT_get (inK b u e) (kClear e)
    have TB : ∀ p ∈ cs, LamX.TabB (hidT st.heap H) mg p.1 p.2 := fun p hp => by
      obtain ⟨o, vs, file, tf, flags, tg, inF, text, tt, e1, r1, r2, r3, rest⟩ := codes p hp
      obtain ⟨m, ob, b1, b2, b3, b4, b5, b6⟩ := bm
      obtain ⟨og, es, ep, eg, dg, _⟩ := gl
      have nG : m ≠ mainGlobals := fun z => by
        rw [z, eg] at b3; cases b3; rw [dg] at b6; cases b6
      have nP : m ≠ p.2 := fun z => by
        rw [z, tabs p hp] at b3; cases b3; cases b6
      refine ⟨⟨o, vs, file, tf, flags, tg, inF, text, tt, hidT_get e1 (dClear e1 (fun z => ?_) (by rw [r2]; exact fun _ _ z => nomatch z)), r1, r2, r3, rest⟩, ⟨m, ob, b1, b2, nG, nP, hidT_get b3 (dClear b3 (by rw [b6]; exact fun z => nomatch z) (by rw [b6]; exact fun _ _ z => nomatch z)), b4, b5, b6⟩, fun z => ?_⟩
      · rw [r2] at z; cases z; simp at r3
      · rw [z, tabs p hp] at eg; cases eg; cases dg
    obtain ⟨mc, l1, l2⟩ := noL
    have env : Env0 P w K mg (hidT st.heap H) callerA [] st H :=
      ⟨rfl, ⟨inB, names gl, ⟨mb, names bl, boot⟩, ⟨mc, names l1, l2⟩⟩, fun b u e => of_hidT e, Nat.le_of_eq (hidT_size _ _), trivial, (fun b z => nomatch z), ok, .of_eq gens⟩
    refine codeAny_mono ((F _ inB (names gl) TB).goes callerA [] st H ⟨[.ref a], []⟩ [.ref a] [.ref a] _ _ rm rfl env (bnd st (.ref a)) (.cons rfl .nil) (asked H (fun p hp => ht _ ⟨p, hp, rfl⟩) sq)) fun res st' got => ?_
    cases res with
    | error e => exact (never H e st' got).elim
    | ok flow =>
      cases flow with
      | next => exact got.elim
      | brk => exact got.elim
      | cont => exact got.elim
      | ret u =>
        obtain ⟨v, H', os, bare, un, ok', rv, now⟩ := got
        obtain rfl : v = V.bl true := now
        obtain rfl : u = Value.bool true := rv
        have stay : ∀ b o, ¬ tb b → st.heap.get? b = some o → st'.heap.get? b = some o := fun b o nb e => by
          rcases trk b with h | h | ⟨_, _, ob, xs, h⟩
          · exact un.keep b o e h (fun z => by cases z) (by simp)
          · exact absurd h nb
          · obtain ⟨f1, _⟩ := ok b _ h
            obtain ⟨f2, _⟩ := ok' b _ (un.frzs b ob _ h)
            rw [e] at f1
            cases f1
            exact f2
        have grown : ∀ p ∈ cs, ∃ more : Array Value, st'.heap.get? p.2 = some { cls := .none, data := .fields more } := fun p hp => by
          obtain ⟨more, z⟩ := un.tbls p.2 #[] (ht _ ⟨p, hp, rfl⟩)
          exact ⟨_, ok' p.2 _ z⟩
        refine ⟨rfl, ⟨fun b o e => ?_, fun b o e => ?_⟩, os, bare⟩
        · by_cases h : tb b
          · obtain ⟨p, hp, rfl⟩ := h
            obtain ⟨more, g⟩ := grown p hp
            rw [tabs p hp] at e
            cases e
            exact .inr (.inl ⟨((codes p hp).tab (tabs p hp)).isCodeTable, rfl, #[], more, rfl, by rw [Array.empty_append]; exact g⟩)
          · exact .inl (stay b o h e)
        · by_cases h : tb b
          · obtain ⟨p, hp, rfl⟩ := h
            obtain ⟨more, g⟩ := grown p hp
            exact ⟨_, g⟩
          · exact ⟨o, stay b o h e⟩
  cases hk : K.lookup a with
  | some u =>
    have e := inK a u hk
    rw [obj] at e
    cases e
    refine main (fun b => if tb b then some (.tbl #[]) else none) (fun b h => if_pos h) (fun b => ?_) (.inr ⟨_, us.toArray, _, hk, rfl, rfl, rfl, by rw [List.size_toArray, many]; exact short, by simpa using rel⟩) fun b z k => ?_
    · by_cases h : tb b
      · exact .inr (.inl h)
      · exact .inl (if_neg h)
    · by_cases h : tb b
      · have k2 := (if_pos h).symm.trans k
        cases k2
        exact tObj h
      · have k2 := (if_neg h).symm.trans k
        cases k2
  | none =>
    refine main (fun b => if b = a then some (.frz { cls := .type "list", data := .seq us.toArray } (.lst (ns.map V.int))) else if tb b then some (.tbl #[]) else none) (fun b h => (if_neg (fun (z : b = a) => aT (by rw [← z]; exact h))).trans (if_pos h)) (fun b => ?_) (.inl (.inr ⟨_, if_pos rfl⟩)) fun b z k => ?_
    · by_cases j : b = a
      · exact .inr (.inr ⟨j, hk, _, _, if_pos j⟩)
      · by_cases h : tb b
        · exact .inr (.inl h)
        · exact .inl ((if_neg j).trans (if_neg h))
    · by_cases j : b = a
      · have k2 := (if_pos j).symm.trans k
        cases k2
        subst j
        exact ⟨obj, by rw [List.length_map]; exact short, us, _, rel, obj⟩
      · have k1 := (if_neg j).symm.trans k
        by_cases h : tb b
        · have k2 := (if_pos h).symm.trans k1
          cases k2
          exact tObj h
        · have k2 := (if_neg h).symm.trans k1
          cases k2
/-- what is known of such a law's promise at the head's heap -/
def LawAtG (l : PySem.W.OpenLaw) (w : World) (K : PySem.W.Frag) (CX : CXT) (lv n : Nat) (x : Str) (mg : Str → Option Value) (fn : Addr) (h : Heap) : Prop :=
  ∃ (dat : FuncData) (cs : List (Addr × Addr)) (sp : Sp), (∀ p ∈ cs, h.get? p.2 = some { cls := .none, data := .fields #[] }) ∧ (∀ p ∈ cs, K.lookup p.2 = none) ∧ (∀ p ∈ cs, PySem.W.CodeHd h p.1 p.2) ∧ (∀ (z : Shared) (u : Value), BindsTo z dat ⟨[u], []⟩ [(x, u)]) ∧
    (∀ (H : Hp) (a : Addr) (ns : List Int), ns.length ≤ n → (∀ z ∈ ns, Builtin.Int.intBits z ≤ 1048576) → (∀ p ∈ cs, H p.2 = some (.tbl #[])) → SqL K H a (ns.map V.int) → sp [.ref a] H (fun v _ => v = .bl true) fun _ _ _ => False) ∧
    ∀ bs : Heap, K.In bs → bs.Ns mainGlobals mg → (∀ p ∈ cs, LamX.TabB bs mg p.1 p.2) → FnG l.prog w K mg bs CX lv fn dat [x] sp
theorem walkGT {l : PySem.W.OpenLaw} {n k : Nat} {q : Program} {loose : List Str} {XP : (Str → Option Value) → Heap → Prop} {YP : World → Heap → Prop} {d : DefRec} {CX : World → CXT} {x : Str}
    (h1 : l.most = some n) (h2 : n ≤ sizeLine) (h3 : d.params.defaults = []) (rm : Room k callerA)
    (F : ∀ (w : World) (mg : Str → Option Value) (fn : Addr) (h : Heap), YP w h → h.Ns mainGlobals mg → mg d.name = some (.ref fn) → ∃ K : PySem.W.Frag, K.In h ∧ LawAtG l w K (CX w) k n x mg fn h)
    (h6 : ∀ (w : World) (H : Hp) (s : Shared) (e : Value) (s' : Shared), CX w [] H s (fun _ _ _ => False) e s' → False) :
    PySem.W.WalkO q loose XP YP l.row.toRowW d [] (fun f vs => PySem.call f vs) := by
  refine Att.attach_callB h1 h3 fun w s₀ s₁ mg mb fn o pm cd doc a us ns G Y ho hd hcd hmg hobj hints hlen hbits hg => ?_
  obtain ⟨K, inK, dat, cs, sp, t1, t2, t3, bnd, ask, got⟩ := F w mg fn _ Y G.T.g hmg
  exact endGT inK G.T.g G.T.b G.T.builtins G.T.nolimit hg G.T.bmain t1 t2 t3 hobj hints (Nat.le_trans hlen h2) rm got bnd (fun H t o => ask H a ns hlen hbits t o) fun H e s' => h6 w H s₁ e s'
/-! ### lists, two by two -/
inductive All2 {α β : Type} (R : α → β → Prop) : List α → List β → Prop
  | nil : All2 R [] []
  | cons {a b as bs} : R a b → All2 R as bs → All2 R (a :: as) (b :: bs)
theorem All2.imp {α β : Type} {R S : α → β → Prop} (h : ∀ a b, R a b → S a b) : ∀ {as bs}, All2 R as bs → All2 S as bs
  | _, _, .nil => .nil
  | _, _, .cons a b => .cons (h _ _ a) (All2.imp h b)
theorem All2.length {α β : Type} {R : α → β → Prop} : ∀ {as bs}, All2 R as bs → as.length = bs.length
  | _, _, .nil => rfl
  | _, _, .cons _ b => congrArg (· + 1) (All2.length b)
theorem All2.snoc {α β : Type} {R : α → β → Prop} {a b} (r : R a b) : ∀ {as bs}, All2 R as bs → All2 R (as ++ [a]) (bs ++ [b])
  | _, _, .nil => .cons r .nil
  | _, _, .cons h t => .cons h (All2.snoc r t)
theorem All2.get {α β : Type} {R : α → β → Prop} {as : List α} {bs : List β} (h : All2 R as bs) : ∀ {i : Nat} {b : β}, bs[i]? = some b → ∃ a, as[i]? = some a ∧ R a b := by
  induction h with
  | nil => intro i b e; cases e
  | cons r t ih =>
    intro i b e
    cases i with
    | zero => cases e; exact ⟨_, rfl, r⟩
    | succ i => exact ih e
theorem All2.getL {α β : Type} {R : α → β → Prop} {as : List α} {bs : List β} (h : All2 R as bs) : ∀ {i : Nat} {a : α}, as[i]? = some a → ∃ b, bs[i]? = some b ∧ R a b := by
  induction h with
  | nil => intro i b e; cases e
  | cons r t ih =>
    intro i b e
    cases i with
    | zero => cases e; exact ⟨_, rfl, r⟩
    | succ i => exact ih e
/-! ### tuples stay -/
def TK (H H' : Hp) : Prop := ∀ b xs, H b = some (.tup xs) → H' b = some (.tup xs)
theorem TK.refl {H : Hp} : TK H H := fun _ _ e => e
theorem TK.trans {H H1 H2 : Hp} (a : TK H H1) (b : TK H1 H2) : TK H H2 := fun x xs e => b x xs (a x xs e)
theorem TK.same {H H' : Hp} (s : Same H H') : TK H H' := fun x xs e => s _ _ e
theorem TK.new {H : Hp} {p : Addr} {o : HO} (n : H p = none) : TK H (upd H p o) := fun x xs e => same_new n _ _ e
theorem TK.lst {H : Hp} {p : Addr} {xs ys : List V} (h : H p = some (.lst xs)) : TK H (upd H p (.lst ys)) := fun x zs e => by
  rw [upd_ne (ne_of e h (by intro z; cases z))]
  exact e
theorem TK.but {H H' : Hp} {f c : Addr} (F : Flow H f c) (b : But f H H') : TK H H' := fun x xs e => b _ _ e (F.tup e)
theorem same_none {H H' : Hp} {p : Addr} (s : Same H H') (n : H' p = none) : H p = none := by
  cases e : H p with
  | none => rfl
  | some o => rw [s _ _ e] at n; cases n
theorem But.none {f p : Addr} {H H' : Hp} (b : But f H H') (n : H' p = Option.none) (h : p ≠ f) : H p = Option.none := by
  cases e : H p with
  | none => rfl
  | some o => rw [b _ _ e h] at n; cases n
theorem But.of {f : Addr} {H H' : Hp} (s : Same H H') : But f H H' := fun _ _ e _ => s _ _ e
/-- a list that was not there is written: what was stays -/
theorem But.own {f p : Addr} {H H1 : Hp} {o : HO} (a : But f H H1) (h : H p = Option.none) : But f H (L2.upd H1 p o) := fun x u e n => by
  rw [upd_ne (ne_of_none e h)]
  exact a x u e n
theorem Same.own {p : Addr} {H H1 : Hp} {o : HO} (a : Same H H1) (h : H p = Option.none) : Same H (L2.upd H1 p o) := fun x u e => by
  rw [upd_ne (ne_of_none e h)]
  exact a x u e
/-! ### loops over any iterator -/
theorem for_it {J : It} {n : Nat} {g : TG} {tb : TS} {D : Ends} {σ : L2.St} {H : Hp} (Pv : Nat → L2.St → Hp → Prop) (h0 : Pv 0 σ H) (go : ∀ i σ H, i < n → Pv i σ H → J.go i H) (st : ∀ σ H, Pv n σ H → J.stop n H)
    (hs : ∀ i x σ H H', i < n → Pv i σ H → J.yld i H x H' → g x σ H' fun σ2 H2 => tb { D with nx := Pv (i + 1), ct := Pv (i + 1), bk := D.nx } σ2 H2) (hd : ∀ σ H, Pv n σ H → D.nx σ H) :
    ∃ W : Nat → Nat → L2.St → Hp → Prop, (∃ m, W 0 m σ H) ∧ ∀ i m σ H, W i m σ H →
      (J.stop i H ∧ D.nx σ H) ∨ (J.go i H ∧ ∃ N : L2.St → Hp → Prop, (∀ σ' H', N σ' H' → ∃ m', m' < m ∧ W (i + 1) m' σ' H') ∧ ∀ x H', J.yld i H x H' → g x σ H' fun σ2 H2 => tb { D with nx := N, ct := N, bk := D.nx } σ2 H2) := by
  refine ⟨fun i m σ H => i + m = n ∧ Pv i σ H, ⟨n, by omega, h0⟩, fun i m σ H ⟨e, p⟩ => ?_⟩
  by_cases k : i < n
  · exact .inr ⟨go i σ H k p, Pv (i + 1), fun σ' H' p' => ⟨m - 1, by omega, by omega, p'⟩, fun x H' y => hs i x σ H H' k p y⟩
  · have z : i = n := by omega
    subst z
    exact .inl ⟨st σ H p, hd σ H p⟩
theorem lc_it {J : It} {n : Nat} {g : TG} {tt : TT} {te : TE} {vs : List Nat} {σ : L2.St} {H1 : Hp} {D : Addr} {Qd : Hp → Prop} (Pv : Nat → Hp → Prop) (h0 : Pv 0 (upd H1 D (.lst []))) (go : ∀ i H, i < n → Pv i H → J.go i H) (st : ∀ H, Pv n H → J.stop n H)
    (hs : ∀ i x H H', i < n → Pv i H → J.yld i H x H' → g x (wipe σ vs) H' fun σ2 H2 => wipe σ2 vs = wipe σ vs ∧ tt σ2 H2 fun b H3 =>
      if b = true then te σ2 H3 fun y H4 => ∃ acc, H4 D = some (.lst acc) ∧ acc.length < sizeLine ∧ Pv (i + 1) (upd H4 D (.lst (acc ++ [y]))) else Pv (i + 1) H3) (hd : ∀ H, Pv n H → Qd H) :
    ∃ W : Nat → Nat → Hp → Prop, (∃ m, W 0 m (upd H1 D (.lst []))) ∧ ∀ i m H, W i m H →
      (J.stop i H ∧ Qd H) ∨ (J.go i H ∧ ∃ Nx : Hp → Prop, (∀ H', Nx H' → ∃ m', m' < m ∧ W (i + 1) m' H') ∧ ∀ x H', J.yld i H x H' → g x (wipe σ vs) H' fun σ2 H2 => wipe σ2 vs = wipe σ vs ∧ tt σ2 H2 fun b H3 =>
        if b = true then te σ2 H3 fun y H4 => ∃ acc, H4 D = some (.lst acc) ∧ acc.length < sizeLine ∧ Nx (upd H4 D (.lst (acc ++ [y]))) else Nx H3) := by
  refine ⟨fun i m H => i + m = n ∧ Pv i H, ⟨n, by omega, h0⟩, fun i m H ⟨e, p⟩ => ?_⟩
  by_cases k : i < n
  · exact .inr ⟨go i H k p, Pv (i + 1), fun H' p' => ⟨m - 1, by omega, by omega, p'⟩, fun x H' y => hs i x H H' k p y⟩
  · have z : i = n := by omega
    subst z
    exact .inl ⟨st H p, hd H p⟩
/-! ### tests -/
theorem if_str {x z : Str} {A B : Prop} (h1 : x = z → A) (h2 : x ≠ z → B) : if decide (V.str x = V.str z) = true then A else B :=
  if_bl (fun e => h1 (V.str.inj (of_decide_eq_true e))) (fun e => h2 (fun q => of_decide_eq_false e (congrArg V.str q)))
theorem inV_strs {x : Str} {zs : List Str} : inV (.str x) (zs.map V.str) = true ↔ x ∈ zs := by
  unfold inV
  induction zs with
  | nil => simp
  | cons z zs ih =>
    rw [List.map_cons, List.any_cons, Bool.or_eq_true, ih, List.mem_cons]
    constructor
    · rintro (h | h)
      · exact .inl (by simpa [eqV] using (show (z == x) = true from h) |> fun k => (eq_of_beq k).symm)
      · exact .inr h
    · rintro (h | h)
      · exact .inl (show (z == x) = true by rw [h]; exact beq_self_eq_true z)
      · exact .inr h
theorem if_in {x : Str} {zs : List Str} {A B : Prop} (h1 : x ∈ zs → A) (h2 : x ∉ zs → B) : if (if false = true then !inV (.str x) (zs.map V.str) else inV (.str x) (zs.map V.str)) = true then A else B := by
  have e : (if false = true then !inV (.str x) (zs.map V.str) else inV (.str x) (zs.map V.str)) = inV (.str x) (zs.map V.str) := if_neg Bool.false_ne_true
  rw [e]
  exact if_bl (fun c => h1 (inV_strs.mp c)) (fun c => h2 (fun k => by rw [inV_strs.mpr k] at c; cases c))
theorem same_seqT {K : PySem.W.Frag} {a : Addr} {H H1 : Hp} {xs : List V} (b : Same H H1) (h : SqT K H a xs) : SqT K H1 a xs := by
  rcases h with h | h
  · left
    rcases h with h | ⟨o, h⟩
    · exact .inl (b _ _ h)
    · exact .inr ⟨o, b _ _ h⟩
  · exact .inr h
theorem little {n : Nat} (h : n ≤ 1000) : n ≤ sizeLine := Nat.le_of_lt (small1000 h)
/-! ### xs[i] op= e -/
def rGetL (K : PySem.W.Frag) : V → V → Hp → VK → Prop := fun o i H Q => ∃ (p : Addr) (xs : List V) (j : Nat) (v : V), o = .ref p ∧ i = .int (j : Nat) ∧ SqL K H p xs ∧ xs[j]? = some v ∧ Q v H
theorem get_list {X : Cx} : PGet X (rGetL X.K) := by
  intro pins st σ H o i ov iv Q J ro ri asked
  obtain ⟨p, xs, j, v, rfl, rfl, hq, hj, now⟩ := asked
  cases ro
  obtain ⟨t, rfl⟩ := ri
  obtain ⟨its, r, pl, hz⟩ := J.list hq
  obtain ⟨u, eu, ru⟩ := r.get hj
  have n1 := (List.getElem?_eq_some_iff.mp hj).1
  have n2 := line63
  exact wpAny_getItem_list pl.isList (by omega) (by omega) (by simpa using eu) ⟨v, H, J, ru, now⟩
/-! ### the same rules, the written part named (so that they fit within comprehensions) -/
section
variable {X : Cx}
theorem ix_listK (K : PySem.W.Frag) (h : X.K = K) : IxR X (rIxL K) := by subst h; exact ix_list
theorem ix_tupK (K : PySem.W.Frag) (h : X.K = K) : IxR X (rIxT K) := by subst h; exact ix_tup
def rLenK (K : PySem.W.Frag) : List V → Hp → VK → Prop := fun xs H Q => ∃ (p : Addr) (ys : List V), xs = [.ref p] ∧ (SqL K H p ys ∨ SqT K H p ys) ∧ Q (.int (ys.length : Nat)) H
theorem call_len_seqK (K : PySem.W.Frag) (h : X.K = K) : CallR X (.builtin "len") (rLenK K) := by subst h; exact call_len_seq
def rListOfK (K : PySem.W.Frag) : List V → Hp → VK → Prop := fun xs H Q => ∃ (p : Addr) (ys : List V), xs = [.ref p] ∧ (SqL K H p ys ∨ SqT K H p ys) ∧ ∀ l, H l = none → Q (.ref l) (upd H l (.lst ys))
theorem call_list_ofK (K : PySem.W.Frag) (h : X.K = K) : CallR X (.type "list") (rListOfK K) := by subst h; exact call_list_of
def rTupOfK (K : PySem.W.Frag) : List V → Hp → VK → Prop := fun xs H Q => ∃ (p : Addr) (ys : List V), xs = [.ref p] ∧ ((SqL K H p ys ∧ ∀ l, H l = none → Q (.ref l) (upd H l (.tup ys))) ∨ (SqT K H p ys ∧ Q (.ref p) H))
theorem call_tuple_ofK (K : PySem.W.Frag) (h : X.K = K) : CallR X (.type "tuple") (rTupOfK K) := by subst h; exact call_tuple_of
theorem op_in_seqK (K : PySem.W.Frag) (h : X.K = K) : OpR X (compareOp .In) (rIn K false) := by subst h; exact op_in_seq
theorem op_notIn_seqK (K : PySem.W.Frag) (h : X.K = K) : OpR X (compareOp .NotIn) (rIn K true) := by subst h; exact op_notIn_seq
theorem sl_listK (K : PySem.W.Frag) (h : X.K = K) : SlR X (rSlL K) := by subst h; exact sl_list
theorem sl_tupAK (K : PySem.W.Frag) (h : X.K = K) : SlR X (rSlA K) := by subst h; exact sl_tupA
theorem op_eqDK (K : PySem.W.Frag) (h : X.K = K) (hu : X.A.units + 64 < cLine) : OpR X (compareOp .Eq) (rEqD K) := by subst h; exact op_eqD hu
theorem op_neDK (K : PySem.W.Frag) (h : X.K = K) (hu : X.A.units + 64 < cLine) : OpR X (compareOp .NotEq) (rNeD K) := by subst h; exact op_neD hu
theorem call_isiKK (K : PySem.W.Frag) (h : X.K = K) : CallR X (.builtin "isinstance") (rIsi K) := by subst h; exact call_isi
theorem cr_allK (K : PySem.W.Frag) (h : X.K = K) (hc : X.calm = true) : CallR X (.builtin "all") (rAll K) := by subst h; exact cr_all hc
theorem cr_anyK (K : PySem.W.Frag) (h : X.K = K) (hc : X.calm = true) : CallR X (.builtin "any") (rAny K) := by subst h; exact cr_any hc
theorem cr_minKK (K : PySem.W.Frag) (h : X.K = K) (hc : X.calm = true) : CallR X (.builtin "min") (rMin K) := by subst h; exact cr_min hc
theorem cr_maxKK (K : PySem.W.Frag) (h : X.K = K) (hc : X.calm = true) : CallR X (.builtin "max") (rMax K) := by subst h; exact cr_max hc
def tTruK (K : PySem.W.Frag) (ta : TE) : TT := fun σ H Q => ta σ H fun x H' => ∃ k, TruV K x H' k ∧ Q k H'
theorem pt_truthK (K : PySem.W.Frag) (h : X.K = K) {a : Expr} {ta : TE} (ha : PE X a ta) (he : ∀ whole, isTrue a X.env whole = (do let v ← whole; standAt a.pos; holding [v] (truthy v))) : PT X a (tTruK K ta) := by subst h; exact pt_truth ha he
theorem get_listK (K : PySem.W.Frag) (h : X.K = K) : PGet X (rGetL K) := by subst h; exact get_list
theorem pg_tupK (K : PySem.W.Frag) (h : X.K = K) {es : List Expr} {k n : Nat} {t : TGs} {pos : Pos} (hc : X.calm = true) (g : PGs X es t)
    (hn : (assignEach es X.env).length = n := by rfl) (hst : (assignEach es X.env).findIdx? (·.1) = none := by rfl) : PG X (.Tuple es k pos) (gTup K n t) := by subst h; exact pg_tup hc g hn hst
theorem pg_unlK (K : PySem.W.Frag) (h : X.K = K) {es : List Expr} {k n : Nat} {t : TGs} {pos : Pos} (hc : X.calm = true) (g : PGs X es t)
    (hn : (assignEach es X.env).length = n := by rfl) (hst : (assignEach es X.env).findIdx? (·.1) = none := by rfl) : PG X (.Tuple es k pos) (gUnl K n t) := by subst h; exact pg_unl hc g hn hst
theorem pi_listK (K : PySem.W.Frag) (h : X.K = K) {tg e : Expr} {te : TE} (he : PE X e te) : PI X tg e (iList K te) := by subst h; exact pi_list he
theorem pi_tupK (K : PySem.W.Frag) (h : X.K = K) {tg e : Expr} {te : TE} (he : PE X e te) : PI X tg e (iTup K te) := by subst h; exact pi_tup he
theorem pe_revLK (K : PySem.W.Frag) (h : X.K = K) {e : Expr} {te : TE} {k : Nat} {p1 p2 p3 pos : Pos} (he : PE X e te) : PE X (.Subscript e (.Slice none none (some (.UnaryOp .USub (.Constant (.int 1) k p1) p2)) p3) pos) (tRevL K te) := by subst h; exact pe_revL he
theorem pe_bmK (K : PySem.W.Frag) (h : X.K = K) {o e : Expr} {es : List Expr} {to : TE} {t : TA} {name : Str} {apos cpos : Pos} {T id : String} {r : V → List V → Hp → VK → Prop}
    (pa : PlainAttrs T) (slot : Slot T name id) (hty : typeOf (.builtin id) = pure (.type "method_descriptor")) (hm : MtR X id r) (ho : PE X o to) (ha : PA X (e :: es) t)
    (n1 : attributeBase o name X.env (eval o X.env) = eval o X.env := by rfl)
    (n2 : ((backTo cpos (starEach (e :: es) X.env)).all (fun x => !x.1) && (backToKw cpos (keywordEach [] X.env)).all (fun x => x.1.isSome) && decide ((e :: es).length + ([] : List Keyword).length + (if ([] : List Keyword).isEmpty then 0 else 1) < 30)) = true := by rfl)
    (n3 : (apos.endLine == cpos.line) = true := by rfl) (n4 : starEach (e :: es) X.env = (false, eval e X.env) :: starEach es X.env := by rfl) (n5 : (backTo cpos (starEach es X.env)).any (·.1) = false := by rfl) :
    PE X (.Call (.Attribute o name apos) (e :: es) [] cpos) (tBM K T r to t) := by subst h; exact pe_bm pa slot hty hm ho ha n1 n2 n3 n4 n5
theorem pe_bm0K (K : PySem.W.Frag) (h : X.K = K) {o : Expr} {to : TE} {name : Str} {apos cpos : Pos} {T id : String} {r : V → List V → Hp → VK → Prop}
    (pa : PlainAttrs T) (slot : Slot T name id) (hty : typeOf (.builtin id) = pure (.type "method_descriptor")) (hm : MtR X id r) (ho : PE X o to)
    (n1 : attributeBase o name X.env (eval o X.env) = eval o X.env := by rfl) (n3 : (apos.endLine == cpos.line) = true := by rfl) : PE X (.Call (.Attribute o name apos) [] [] cpos) (tBM0 K T r to) := by subst h; exact pe_bm0 pa slot hty hm ho n1 n3
theorem op_catAK (K : PySem.W.Frag) (h : X.K = K) : OpR X (binaryOp .Add) (rCatA K) := by subst h; exact op_catA
theorem call_isiTK (K : PySem.W.Frag) (h : X.K = K) : CallR X (.builtin "isinstance") (rIsiT K) := by subst h; exact call_isiT
theorem pi_zipAK (K : PySem.W.Frag) (h : X.K = K) {e e2 : Expr} {ta : TA} {p pos tpos : Pos} {elts : List Expr} {kk : Nat} (hg : Gl X "zip") (hm : X.mg "zip" = none) (ha : PA X [e, e2] ta)
    (hs : starEach [e, e2] X.env = (false, eval e X.env) :: starEach [e2] X.env := by rfl) (hpl : (backTo pos (starEach [e2] X.env)).any (·.1) = false := by rfl) :
    PI X (.Tuple elts kk tpos) (.Call (.Name "zip" p) [e, e2] [] pos) (RZ.iZipA K ta) := by subst h; exact RZ.pi_zipA hg hm ha hs hpl
theorem pi_or {tg e : Expr} {t1 t2 : TI} (h1 : PI X tg e t1) (h2 : PI X tg e t2) : PI X tg e (fun σ H R => t1 σ H R ∨ t2 σ H R) := ⟨fun pins s σ H R I h => h.elim (h1.run pins s σ H R I) (h2.run pins s σ H R I)⟩
theorem pe_fldK (K : PySem.W.Frag) (h : X.K = K) {e : Expr} {ta : TE} {f : Str} {pos : Pos} (he : PE X e ta) (hb : attributeBase e f X.env (eval e X.env) = eval e X.env) : PE X (.Attribute e f pos) (tFld K ta f) := by subst h; exact pe_fld he hb
theorem ps_fldK (K : PySem.W.Frag) (h : X.K = K) {o value : Expr} {ta tv : TE} {f : Str} {pos pos' : Pos} (ha : PE X o ta) (hv : PE X value tv) (hs : swapsWith value (some (.Attribute o f pos')) pos.line X.env = pure false) : PS X (.Assign [.Attribute o f pos'] value pos) (sFld K ta tv f) := by subst h; exact ps_fld ha hv hs
theorem ps_fldaugK (K : PySem.W.Frag) (h : X.K = K) {o value : Expr} {ta tv : TE} {f : Str} {pos tpos : Pos} {op : Operator} {rd : V → V → Hp → VK → Prop} (ha : PE X o ta) (hv : PE X value tv) (hop : InOp X op rd) : PS X (.AugAssign (.Attribute o f tpos) op value pos) (sFldAug K ta tv rd f) := by subst h; exact ps_fldaug ha hv hop
end
section
variable {X : Cx}
theorem cr_sumK (K : PySem.W.Frag) (h : X.K = K) (hc : X.calm = true) : CallR X (.builtin "sum") (rSum K) := by subst h; exact cr_sum hc
end
section
variable {X : Cx}
theorem op_ltTK (K : PySem.W.Frag) (h : X.K = K) (hu : X.A.units < cLine) : OpR X (compareOp .Lt) (rLtT K) := by subst h; exact op_ltT hu
end
section
variable {X : Cx}
theorem cr_sortedRevK (K : PySem.W.Frag) (h : X.K = K) {b : Bool} : CallRK X (.builtin "sorted") [Str.ofString "reverse"] (rSortedKw K b [.bl b]) := by subst h; exact cr_sortedRev
theorem op_inDK (K : PySem.W.Frag) (h : X.K = K) (hu : X.A.units + 65 < cLine) : OpR X (compareOp .In) (rInD K) := by subst h; exact op_inD hu
end
theorem hu65 {A : Around} {k : Nat} (hr : Room k A) : A.units + 65 < cLine := by have := hr.un; omega
section
variable {X : Cx}
/-- x not in t, t a tuple of data of any depth -/
def rNotInDT (K : PySem.W.Frag) : R2 := fun x y H Q => ∃ d ds, Dp K H x d ∧ Dp K H y (.tuple ds) ∧ SeqAt.shaped d = true ∧ SeqAt.shaped (.tuple ds) = true ∧ Q (.bl (!ds.any fun z => PyData.eqv z d)) H
theorem op_notInDTK (K : PySem.W.Frag) (same : X.K = K) (room : X.A.units + 65 < cLine) : OpR X (compareOp .NotIn) (rNotInDT K) := by
  subst same
  intro pins st σ H one many ov mv Q J ro rm asked
  have ⟨d, ds, dpO, dpM, shO, shM, done⟩ := asked
  have ⟨_, readO⟩ := Dp.reads J d one ov dpO ro
  have ⟨_, readM⟩ := Dp.reads J (.tuple ds) many mv dpM rm
  exact SeqAt.notIn_tuple_reads readM readO (SeqAt.canLay_of_shaped shM) (SeqAt.canLay_of_shaped shO) (room_in_shaped shO room) ⟨.bl _, H, J, rfl, done⟩
end
section
variable {X : Cx}
/-- x in t, t a tuple of data of any depth -/
def rInDT (K : PySem.W.Frag) : R2 := fun x y H Q => ∃ d ds, Dp K H x d ∧ Dp K H y (.tuple ds) ∧ SeqAt.shaped d = true ∧ SeqAt.shaped (.tuple ds) = true ∧ Q (.bl (ds.any fun z => PyData.eqv z d)) H
theorem op_inDTK (K : PySem.W.Frag) (same : X.K = K) (room : X.A.units + 65 < cLine) : OpR X (compareOp .In) (rInDT K) := by
  subst same
  intro pins st σ H one many ov mv Q J ro rm asked
  have ⟨d, ds, dpO, dpM, shO, shM, done⟩ := asked
  have ⟨_, readO⟩ := Dp.reads J d one ov dpO ro
  have ⟨_, readM⟩ := Dp.reads J (.tuple ds) many mv dpM rm
  exact SeqAt.in_tuple_reads readM readO (SeqAt.canLay_of_shaped shM) (SeqAt.canLay_of_shaped shO) (room_in_shaped shO room) ⟨.bl _, H, J, rfl, done⟩
end
section
variable {X : Cx}
def rReprG (K : PySem.W.Frag) : List V → Hp → VK → Prop := fun xs H Q => ∃ (x : V) (d : PyData), xs = [x] ∧ Dp K H x d ∧ d.showable = true ∧ d.hasDict = false ∧ d.depth ≤ 60 ∧ d.shown.length ≤ sizeLine ∧ Q (.str d.shown) H
theorem call_reprG (K : PySem.W.Frag) (hk : X.K = K) (gd : X.A.guards = some []) (un : X.A.units + 64 < cLine) : CallR X (.builtin "repr") (rReprG K) := by
  subst hk
  intro pins st σ H xs us Q J rel asked
  obtain ⟨x, d, rfl, hd, h1, h2, h3, h4, now⟩ := asked
  obtain ⟨u, rfl, ru⟩ := vals1 rel
  cases hd with
  | non =>
    obtain rfl : u = Value.none := ru
    exact PySem.P.repr_of_none ⟨.str _, H, J.tok _, ⟨_, rfl⟩, now⟩
  | bl b =>
    obtain rfl : u = Value.bool b := ru
    refine PySem.P.repr_of_bool ⟨.str (PyData.bool b).shown, H, J.tok _, ⟨st.toks, ?_⟩, now⟩
    cases b <;> rfl
  | int i =>
    obtain ⟨t, rfl⟩ := ru
    refine PySem.P.repr_of_int (by simpa [PyData.showable] using h1) ⟨.str (PyData.int i).shown, H, J.tok _, ⟨st.toks, ?_⟩, now⟩
    first | rfl | (simp only [PyData.shown]; rfl)
  | str z =>
    obtain ⟨t, rfl⟩ := ru
    refine PySem.P.repr_of_str ⟨.str (PyData.str z).shown, H, J.tok _, ⟨st.toks, ?_⟩, now⟩ (by simpa only [PyData.shown] using h4)
    first | rfl | (simp only [PyData.shown])
  | lst a b =>
    obtain rfl : u = Value.ref _ := ru
    obtain ⟨as, rd⟩ := Dp.reads J _ _ _ (.lst a b) rfl
    exact repr_of_reads' rd h1 (PyData.noDict_hsm h2) gd (by omega) (fun _ _ e => e) (fun h' u tk kp => ⟨.str _, H, J.kept (t' := tk) kp, ⟨_, rfl⟩, now⟩) h4
  | tup a b =>
    obtain rfl : u = Value.ref _ := ru
    obtain ⟨as, rd⟩ := Dp.reads J _ _ _ (.tup a b) rfl
    exact repr_of_reads' rd h1 (PyData.noDict_hsm h2) gd (by omega) (fun _ _ e => e) (fun h' u tk kp => ⟨.str _, H, J.kept (t' := tk) kp, ⟨_, rfl⟩, now⟩) h4
end
/-! ### for i, x in enumerate(t), t a tuple -/
section
open Sem (wp)
open AutoSeq1 (wpAny_loadPart')
theorem enum_of_tup (t : Addr) (its : Array Value) (n : Nat) (dct : Option Addr) (sl : Array (Option Value)) :
    Meets (Builtin.«enumerate.__new__» ⟨[.type "enumerate", .ref t], []⟩) (fun _ R st => st.heap.get? t = some { cls := .type "tuple", dict := dct, data := .seq its n, slots := sl } ∧
      R (.ok (.ret (.ref (st.heap.push { cls := .type "tuple_iterator", data := .fields #[.ref t, .int 0 0] }).objs.size)))
        { st with heap := (st.heap.push { cls := .type "tuple_iterator", data := .fields #[.ref t, .int 0 0] }).push { cls := .type "enumerate", data := .fields #[.none, .bool false, .ref st.heap.objs.size, rawInt 0, .none, .none] } }) :=
  .of_wp fun prog w A R st asked => by
    obtain ⟨hp, g, d, tk, os⟩ := st; obtain ⟨at_, asked⟩ := asked
    have sub := sub_enumerate
    have hT : Heap.IsTuple (Shared.heap ⟨hp, g, d, tk, os⟩) t its := ⟨_, at_, rfl, n, rfl⟩
    wp_walk using wpAny_loadPart' at_
    refine wpAny_stack_any fun stk => wpAny_pure ?_
    split
    · rename_i c _ _ _ _ _
      cases (c == Value.type "enumerate")
      · wp_walk using wpAny_loadPart' at_, wpAny_pyIter_tuple hT
        exact ⟨_, rfl, asked⟩
      · wp_walk using wpAny_loadPart' at_, wpAny_pyIter_tuple hT
        exact ⟨_, rfl, asked⟩
    · wp_walk using wpAny_loadPart' at_, wpAny_pyIter_tuple hT
      exact ⟨_, rfl, asked⟩
theorem call_enum_tup {prog : Program} {w : World} {A : Around} {E : Value → Shared → Prop} {st : Shared} {t : Addr} {its : Array Value} {Q : Value → Shared → Prop} (hT : st.heap.IsTuple t its)
    (now : ∀ h', IsEnum h' (st.heap.objs.size + 1) st.heap.objs.size 0 .none → h'.IsTupleIter st.heap.objs.size t 0 → h'.objs.size = st.heap.objs.size + 2 →
      (∀ b o, st.heap.get? b = some o → h'.get? b = some o) → Q (.ref (st.heap.objs.size + 1)) { st with heap := h' }) :
    wpAny (model prog w) A (call (.type "enumerate") [.ref t]) Q E st := by
  obtain ⟨⟨c, dct, dt, sl⟩, at_, hc, n, hd⟩ := hT
  replace hc : c = .type "tuple" := hc
  replace hd : dt = .seq its n := hd
  subst hc hd
  refine callType_new F.called_enumerate (by decide) (F.typeCall_enumerate_1 _) (F.newCall_enumerate_1 _) (fun obj => F.args_object_init_2 obj _) F.entry_enumerate_new (enum_of_tup t its n dct sl) ⟨at_, ?_⟩
  have size1 : (st.heap.push { cls := .type "tuple_iterator", data := .fields #[.ref t, .int 0 0] }).objs.size = st.heap.objs.size + 1 := Heap.size_push ..
  show _ ∧ _
  rw [size1]
  have made := Heap.get?_push_size (st.heap.push { cls := .type "tuple_iterator", data := .fields #[.ref t, .int 0 0] }) (o := { cls := .type "enumerate", data := .fields #[.none, .bool false, .ref st.heap.objs.size, rawInt 0, .none, .none] }) rfl
  rw [size1] at made
  exact ⟨⟨_, made, rfl⟩, now _ made ⟨_, Heap.get?_push_of_some _ (Heap.get?_push_size _ rfl), rfl, rfl⟩ (by rw [Heap.size_push, size1]) fun b o e => Heap.get?_push_of_some _ (Heap.get?_push_of_some _ e)⟩
end
/-- the tuple at a, each item in a new pair -/
def IteT (K : PySem.W.Frag) (a : Addr) (xs : List V) : It :=
  ⟨fun i H => SqT K H a xs ∧ i < xs.length, fun i H v H' => ∃ T x, v = .ref T ∧ H T = none ∧ H' = upd H T (.tup [.int (i : Nat), x]) ∧ xs[i]? = some x, fun i H => SqT K H a xs ∧ i = xs.length⟩
theorem turn_enumT {P : Program} {w : World} {K : PySem.W.Frag} {elts : List Expr} {kk : Nat} {tpos : Pos} (a e it : Addr) (xs : List V) :
    Turn P w K (.Tuple elts kk tpos) (IteT K a xs) [e, it] e (fun i h => (∃ old, IsEnum h e it ((i : Nat) : Int) old) ∧ h.IsTupleIter it a i ∧ e ≠ it ∧ a ≠ it ∧ a ≠ e) where
  mem := by simp
  obj := fun i h st b hb => by
    obtain ⟨⟨old, he⟩, ⟨o, ho, hc, hd⟩, _⟩ := st
    have either : b = e ∨ b = it := by simpa using hb
    rcases either with z | z
    · rw [z]; exact ⟨_, he, fun v q => nomatch q⟩
    · rw [z]; exact ⟨o, ho, fun v q => by rw [hd] at q; cases q⟩
  keep := fun i h h' st k => let ⟨⟨old, he⟩, hi, apart⟩ := st; ⟨⟨old, k e (by simp) _ he⟩, hi.at fun o q => k it (by simp) o q, apart⟩
  item := by
    intro X hP hw hK hc i pins st σ H E J hf stt going
    subst hP hw hK
    obtain ⟨⟨old, he⟩, hit, n1, n2, n3⟩ := stt
    obtain ⟨hq, hi⟩ := going
    obtain ⟨its, rv, tup, hz⟩ := J.tuple hq
    have len := rv.length
    have el : e < st.heap.objs.size := Heap.lt_size he
    have il : it < st.heap.objs.size := by obtain ⟨_, q, _⟩ := hit; exact Heap.lt_size q
    have D := Draws.tuple (prog := X.prog) (w := X.w) (A := X.A.in1) (J.ok.hd hc) it a n2 its.toArray
    refine wpAny_pyNext_enum_itemD D he ⟨hit, tup⟩ (by rw [List.size_toArray]; omega) n1 (by simp [n1, n3.symm]) fun u h' tk px out stt' new size kp => ?_
    refine ⟨_, rfl, wpAny_letOwnedTupleGo_enum (s := { st with heap := h', toks := tk + 1 }) out fun h'' he' sb => ?_⟩
    obtain ⟨x, hx⟩ : ∃ x, xs[i]? = some x := ⟨_, List.getElem?_eq_getElem hi⟩
    obtain ⟨u', hu', ru⟩ := rv.get hx
    have eu : u' = u := by
      have px : its.toArray[i]? = some u := px
      rw [List.getElem?_toArray, hu'] at px
      exact Option.some.inj px
    subst eu
    have there : h''.get? st.heap.objs.size = some { cls := .type "tuple", data := .seq #[.int i tk, u'] } := (sb.2 _ (Nat.ne_of_gt el)).trans new
    have ok2 : ObjOk X.prog X.w (upd H st.heap.objs.size (.tup [.int (i : Nat), x])) h'' st.heap.objs.size (.tup [.int (i : Nat), x]) :=
      ⟨by show 2 ≤ sizeLine; decide, [.int i tk, u'], .cons ⟨_, rfl⟩ (.cons ru .nil), ⟨_, there, rfl, _, rfl⟩⟩
    have J1 : Inv X pins σ (upd H st.heap.objs.size (.tup [.int (i : Nat), x])) { st with heap := h'', toks := tk + 1 } :=
      J.turnedNew (ch := [e, it]) (fun b ob hb q => (sb.2 b (fun z => hb (by simp [z]))).trans (kp b ob (fun z => hb (by simp [z])) (fun z => hb (by simp [z])) q)) hf (Nat.le_refl _) ok2
    refine ⟨.ref st.heap.objs.size, _, J1, rfl, ⟨_, x, rfl, J.hok.fresh (Nat.le_refl _), rfl, hx⟩, ⟨⟨u', ?_⟩, stt'.1.at fun o q => (sb.2 it (Ne.symm n1)).trans q, n1, n2, n3⟩, fun b hb => ?_⟩
    · rw [show ((i + 1 : Nat) : Int) = (i : Int) + 1 by omega]
      exact he'
    · have bl : b < st.heap.objs.size := by
        have either : b = e ∨ b = it := by simpa using hb
        rcases either with z | z
        · rw [z]; exact el
        · rw [z]; exact il
      rw [upd_ne (Nat.ne_of_lt bl)]
      exact (hf b hb).1
  done := by
    intro X hP hw hK hc i pins st σ H E J hf stt over
    subst hP hw hK
    obtain ⟨⟨old, he⟩, hit, n1, n2, n3⟩ := stt
    obtain ⟨hq, hi⟩ := over
    obtain ⟨its, rv, tup, hz⟩ := J.tuple hq
    obtain ⟨f0, f1, f2, f3, f4, f5⟩ := hf it (by simp)
    have len := rv.length
    have D := Draws.tuple (prog := X.prog) (w := X.w) (A := X.A.in1) (J.ok.hd hc) it a n2 its.toArray
    have ei : its.toArray.size = i := by rw [List.size_toArray]; omega
    exact wpAny_pyNext_enum_endD D he ⟨by rw [ei]; exact hit, tup⟩ fun h' eb => ⟨rfl, J.turned (t' := st.toks) (fun b o hb q => eb b o hb q) f0 f1 f3 f4 f5⟩
  self := fun A i st Q E stt now => let ⟨⟨_, he⟩, _⟩ := stt; wpAny_pyIter_enum he now
def iEnumT (K : PySem.W.Frag) (ta : TA) : TI := fun σ H R => ta σ H fun vs H1 => ∃ a xs, vs = [.ref a] ∧ SqT K H1 a xs ∧ R (IteT K a xs) H1
theorem pi_enumT (K : PySem.W.Frag) {X : Cx} (hk : X.K = K) {e : Expr} {ta : TA} {p pos tpos : Pos} {elts : List Expr} {kk : Nat} (hg : Gl X "enumerate") (hm : X.mg "enumerate" = none) (ha : PA X [e] ta) (hs : starEach [e] X.env = [(false, eval e X.env)] := by rfl) :
    PI X (.Tuple elts kk tpos) (.Call (.Name "enumerate" p) [e] [] pos) (iEnumT K ta) := by
  subst hk
  refine ⟨fun pins st σ H R J asked => ?_⟩
  refine Call_ (ld_blt J hg hm boot_enumerate (PyProof.Rows.callWith_type1 (thn (ha.run pos pins st σ H _ J asked) fun us st1 ⟨vs, H1, J1, rel, now⟩ => ?_) hs rfl))
  obtain ⟨a, xs, ex, hq, now⟩ := now
  subst ex
  obtain ⟨u, rfl, ru⟩ := vals1 rel
  obtain rfl : u = Value.ref a := ru
  obtain ⟨its, rv, tup, hz⟩ := J1.tuple hq
  have al : a < st1.heap.objs.size := by obtain ⟨o, ho, _⟩ := tup; exact Heap.lt_size ho
  refine call_enum_tup tup fun h' he hit size kp => wpAny_pyIter_enum he ?_
  have J2 : Inv X pins σ H1 { st1 with heap := h' } := J1.kept (t' := st1.toks) kp
  refine ⟨st1.heap.objs.size + 1, [st1.heap.objs.size + 1, st1.heap.objs.size], _, _, H1, rfl, J2, turn_enumT a (st1.heap.objs.size + 1) st1.heap.objs.size xs, ⟨⟨.none, he⟩, hit, Nat.succ_ne_self _, Nat.ne_of_lt al, Nat.ne_of_lt (Nat.lt_succ_of_lt al)⟩, fun b hb => ?_, now⟩
  have either : b = st1.heap.objs.size + 1 ∨ b = st1.heap.objs.size := by simpa using hb
  have low : st1.heap.objs.size ≤ b := by
    rcases either with z | z
    · rw [z]; exact Nat.le_add_right _ _
    · rw [z]; exact Nat.le_refl _
  exact J1.fpOk low (J1.hok.fresh low)
theorem pi_enumK (K : PySem.W.Frag) (h : X.K = K) {e : Expr} {ta : TA} {p pos tpos : Pos} {elts : List Expr} {kk : Nat} (hg : Gl X "enumerate") (hm : X.mg "enumerate" = none) (ha : PA X [e] ta) (hs : starEach [e] X.env = [(false, eval e X.env)] := by rfl) :
    PI X (.Tuple elts kk tpos) (.Call (.Name "enumerate" p) [e] [] pos) (iEnum K ta) := by subst h; exact pi_enum hg hm ha hs
/-! ### dict(zip(xs, ys)), xs a list, ys a tuple -/
section
open Sem (wp)
variable {prog : Program} {w : World} {A : Around} {E : Value → Shared → Prop} {st : Shared} {z TI TO T i1 i2 : Addr} {fp1 fp2 : List Addr} {n1 n2 i : Nat} {P1 P2 : Nat → Value → Prop} {S1 S2 : Nat → Heap → Prop} {f : Bool} {oT : Obj}
theorem out_next (S : ZipSep2 z TI TO i1 i2 fp1 fp2) (D1 : Draws prog w A i1 fp1 n1 P1 S1) (D2 : Draws prog w A i2 fp2 n2 P2 S2) {Q : Value → Shared → Prop}
    (out : IsZipHeld st.heap z TI TO T f) (hT : st.heap.get? T = some oT) (both : IsTupOf2 st.heap TI (.ref i1) (.ref i2)) (at1 : S1 i st.heap) (at2 : S2 i st.heap) (l1 : i < n1) (l2 : i < n2)
    (now : ∀ x y h' tk, P1 i x → P2 i y → IsZipHeld h' z TI TO T true → S1 (i + 1) h' → S2 (i + 1) h' → IsTupOf2 h' st.heap.objs.size x y → (∀ c o, c ≠ z → c ≠ i1 → c ≠ i2 → st.heap.get? c = some o → h'.get? c = some o) → Q (.ref st.heap.objs.size) { st with heap := h', toks := tk }) :
    wpAny (model prog w) A (Builtin.«zip.__next__» ⟨[.ref z], []⟩) (fun fin s' => ∃ v, fin = .done (.ret v) ∧ Q v s') E st := by
  obtain ⟨hp, g, d, tk0, os⟩ := st
  show wpAny _ _ (field (.ref z) 2 >>= _) _ _ _; refine wpAny_bind (wpAny_field out rfl (x := .bool false) rfl ?_)
  show wpAny _ _ (field (.ref z) 3 >>= _) _ _ _; refine wpAny_bind (wpAny_field out rfl (x := .ref TI) rfl ?_)
  refine wpAny_bind (wpAny_seqItems both rfl ?_); show wpAny _ _ (Builtin.SmallTypes.ownedTupleIsFree (.ref z) >>= _) _ _ _
  refine wpAny_bind (wpAny_tupleHeld_zip out hT fun g1 out1 b1 => ?_)
  replace b1 : Heap.SameBut z hp g1 := b1
  simp only [Bool.false_eq_true, if_false]; refine wpAny_bind ?_; rw [← Array.forIn_toList]; simp only [List.forIn_cons, List.forIn_nil]
  refine wpAny_bind (wpAny_bind (wpAny_holding ?_)); show wpAny _ _ (Builtin.SmallTypes.nextOf (.ref i1) >>= _) _ _ ⟨g1, g, d, tk0, os⟩
  refine wpAny_bind (D1.item i _ _ _ l1 (D1.over at1 b1 S.zf1) fun x g2 tk1 px n1' b2 => wpAny_pure ?_)
  replace b2 : Heap.SameBut i1 g1 g2 := b2
  refine wpAny_pure ?_; refine wpAny_bind (wpAny_bind (wpAny_holding ?_)); show wpAny _ _ (Builtin.SmallTypes.nextOf (.ref i2) >>= _) _ _ ⟨g2, g, d, tk1, os⟩
  refine wpAny_bind (D2.item i _ _ _ l2 (D2.over (D2.over at2 b1 S.zf2) b2 S.sep1_2) fun y g3 tk2 py n2' b3 => wpAny_pure ?_)
  replace b3 : Heap.SameBut i2 g2 g3 := b3
  refine wpAny_pure (wpAny_pure ?_); show wpAny _ _ (newTuple [x, y] >>= _) _ _ ⟨g3, g, d, tk2, os⟩
  refine wpAny_bind (wpAny_newTuple ?_); refine wpAny_pure ⟨_, rfl, ?_⟩
  have size : g3.objs.size = hp.objs.size := by rw [b3.1, b2.1, b1.1]
  have out3 : IsZipHeld g3 z TI TO T true := b3.extBut _ _ S.zi2 (b2.extBut _ _ S.zi1 out1)
  have new : IsTupOf2 (g3.push { cls := .type "tuple", data := .seq #[x, y] }) g3.objs.size x y := Heap.get?_push_size _ rfl
  show Q (.ref g3.objs.size) _
  rw [size] at new ⊢
  exact now x y _ tk2 px py (Heap.get?_push_of_some _ out3) (D1.frame _ _ _ (D1.over n1' b3 S.sep2_1) fun _ _ _ q => Heap.get?_push_of_some _ q) (D2.frame _ _ _ n2' fun _ _ _ q => Heap.get?_push_of_some _ q) new
    fun c o c1 c2 c3 q => Heap.get?_push_of_some _ (b3.extBut _ _ c3 (b2.extBut _ _ c2 (b1.extBut _ _ c1 q)))
theorem out_end (S : ZipSep2 z TI TO i1 i2 fp1 fp2) (D1 : Draws prog w A i1 fp1 n1 P1 S1) (D2 : Draws prog w A i2 fp2 n2 P2 S2) {Q : Fin → Shared → Prop}
    (out : IsZipHeld st.heap z TI TO T f) (hT : st.heap.get? T = some oT) (both : IsTupOf2 st.heap TI (.ref i1) (.ref i2)) (at1 : S1 i st.heap) (at2 : S2 i st.heap) (l1 : i ≤ n1) (l2 : i ≤ n2) (last : i = n1 ∨ i = n2)
    (now : ∀ h' tk e, (∀ c o, c ≠ z → c ≠ i1 → c ≠ i2 → st.heap.get? c = some o → h'.get? c = some o) → (∃ o, h'.get? e = some o ∧ o.cls = .type "StopIteration") → E (.ref e) { st with heap := h', toks := tk }) :
    wpAny (model prog w) A (Builtin.«zip.__next__» ⟨[.ref z], []⟩) Q E st := by
  obtain ⟨hp, g, d, tk0, os⟩ := st
  show wpAny _ _ (field (.ref z) 2 >>= _) _ _ _; refine wpAny_bind (wpAny_field out rfl (x := .bool false) rfl ?_)
  show wpAny _ _ (field (.ref z) 3 >>= _) _ _ _; refine wpAny_bind (wpAny_field out rfl (x := .ref TI) rfl ?_)
  refine wpAny_bind (wpAny_seqItems both rfl ?_); show wpAny _ _ (Builtin.SmallTypes.ownedTupleIsFree (.ref z) >>= _) _ _ _
  refine wpAny_bind (wpAny_tupleHeld_zip out hT fun g1 out1 b1 => ?_)
  replace b1 : Heap.SameBut z hp g1 := b1
  simp only [Bool.false_eq_true, if_false]; refine wpAny_bind ?_; rw [← Array.forIn_toList]; simp only [List.forIn_cons, List.forIn_nil]
  refine wpAny_bind (wpAny_bind (wpAny_holding ?_)); show wpAny _ _ (Builtin.SmallTypes.nextOf (.ref i1) >>= _) _ _ ⟨g1, g, d, tk0, os⟩
  by_cases more : i < n1
  · refine wpAny_bind (D1.item i _ _ _ more (D1.over at1 b1 S.zf1) fun x g2 tk1 px n1' b2 => wpAny_pure ?_)
    replace b2 : Heap.SameBut i1 g1 g2 := b2
    refine wpAny_pure ?_; refine wpAny_bind (wpAny_bind (wpAny_holding ?_)); show wpAny _ _ (Builtin.SmallTypes.nextOf (.ref i2) >>= _) _ _ ⟨g2, g, d, tk1, os⟩
    have e2 : i = n2 := by omega
    subst e2
    refine wpAny_bind (D2.done _ _ _ (D2.over (D2.over at2 b1 S.zf2) b2 S.sep1_2) fun g3 e b3 he => ?_)
    exact now g3 tk1 e (fun c o c1 c2 c3 q => b3 _ _ c3 (b2.extBut _ _ c2 (b1.extBut _ _ c1 q))) he
  · have e1 : i = n1 := by omega
    subst e1
    refine wpAny_bind (D1.done _ _ _ (D1.over at1 b1 S.zf1) fun g3 e b3 he => ?_)
    exact now g3 tk0 e (fun c o c1 c2 c3 q => b3 _ _ c2 (b1.extBut _ _ c1 q)) he
theorem out_pyNext (S : ZipSep2 z TI TO i1 i2 fp1 fp2) (D1 : Draws prog w A.in1 i1 fp1 n1 P1 S1) (D2 : Draws prog w A.in1 i2 fp2 n2 P2 S2) {Q : Option Value → Shared → Prop}
    (out : IsZipHeld st.heap z TI TO T f) (hT : st.heap.get? T = some oT) (both : IsTupOf2 st.heap TI (.ref i1) (.ref i2)) (at1 : S1 i st.heap) (at2 : S2 i st.heap) (l1 : i < n1) (l2 : i < n2)
    (now : ∀ x y h' tk, P1 i x → P2 i y → IsZipHeld h' z TI TO T true → S1 (i + 1) h' → S2 (i + 1) h' → IsTupOf2 h' st.heap.objs.size x y → (∀ c o, c ≠ z → c ≠ i1 → c ≠ i2 → st.heap.get? c = some o → h'.get? c = some o) → Q (some (.ref st.heap.objs.size)) { st with heap := h', toks := tk }) :
    wpAny (model prog w) A (pyNext (.ref z)) Q E st := by
  have ty : st.TypeIs (.ref z) "zip" := ⟨_, out, rfl⟩
  unfold pyNext
  refine wpAny_bind (wpAny_attempt (wpAny_callSpecial?_slot (name := Str.ofString "__next__") ty F.slot_zip_next (wpAny_call_entry F.slot_zip_next ty F.entry_zip_next (out_next S D1 D2 out hT both at1 at2 l1 l2 ?_) (F.args_zip_next_1 _))))
  exact fun x y h' tk a b c d e g k => wpAny_pure (now x y h' tk a b c d e g k)
theorem out_pyNext_end (S : ZipSep2 z TI TO i1 i2 fp1 fp2) (D1 : Draws prog w A.in1 i1 fp1 n1 P1 S1) (D2 : Draws prog w A.in1 i2 fp2 n2 P2 S2) {Q : Option Value → Shared → Prop}
    (out : IsZipHeld st.heap z TI TO T f) (hT : st.heap.get? T = some oT) (both : IsTupOf2 st.heap TI (.ref i1) (.ref i2)) (at1 : S1 i st.heap) (at2 : S2 i st.heap) (l1 : i ≤ n1) (l2 : i ≤ n2) (last : i = n1 ∨ i = n2)
    (now : ∀ h' tk, (∀ c o, c ≠ z → c ≠ i1 → c ≠ i2 → st.heap.get? c = some o → h'.get? c = some o) → Q none { st with heap := h', toks := tk }) :
    wpAny (model prog w) A (pyNext (.ref z)) Q E st := by
  have ty : st.TypeIs (.ref z) "zip" := ⟨_, out, rfl⟩
  unfold pyNext
  refine wpAny_bind (wpAny_attempt (wpAny_callSpecial?_slot (name := Str.ofString "__next__") ty F.slot_zip_next (wpAny_call_entry F.slot_zip_next ty F.entry_zip_next (out_end S D1 D2 out hT both at1 at2 l1 l2 last ?_) (F.args_zip_next_1 _))))
  rintro h' tk e kp ⟨o, ho, hc⟩
  exact wpAny_bind (wpAny_isInstance (T := "StopIteration") (b := true) ⟨o, ho, hc⟩ isSubtype_stop (wpAny_pure (now _ _ kp)))
/-- the zip of the list l and the tuple t, begun -/
def ZipLT (h : Heap) (z TI TO i1 i2 l t : Addr) (xs ys : Array Value) (n : Nat) : Prop := IsTupOf2 h TI (.ref i1) (.ref i2) ∧ (h.IsListIter i1 l n ∧ h.IsList l xs) ∧ (h.IsTupleIter i2 t n ∧ h.IsTuple t ys)
theorem ZipLT.keep {h h' : Heap} {z TI TO i1 i2 l t : Addr} {xs ys : Array Value} {n : Nat} (q : ZipLT h z TI TO i1 i2 l t xs ys n) (k : ∀ b, b = TI ∨ b = i1 ∨ b = i2 ∨ b = l ∨ b = t → ∀ o, h.get? b = some o → h'.get? b = some o) : ZipLT h' z TI TO i1 i2 l t xs ys n :=
  ⟨k _ (.inl rfl) _ q.1, ⟨q.2.1.1.at fun o e => k _ (.inr (.inl rfl)) o e, q.2.1.2.at fun o e => k _ (.inr (.inr (.inr (.inl rfl)))) o e⟩, ⟨q.2.2.1.at fun o e => k _ (.inr (.inr (.inl rfl))) o e, q.2.2.2.at fun o e => k _ (.inr (.inr (.inr (.inr rfl)))) o e⟩⟩
theorem pairs_LT (z TI TO i1 i2 l t : Addr) (S : ZipSep2 z TI TO i1 i2 [i1, l] [i2, t]) (hl : l ≠ i1) (ht : t ≠ i2) (xs ys : Array Value) :
    PairArg prog w "zip" z [z, TI, TO, i1, i2, l, t] [z, TO, i1, i2] (min xs.size ys.size) (fun i k v => xs[i]? = some k ∧ ys[i]? = some v)
      (fun h => IsZip h z TI TO .none ∧ (∃ a b, IsTupOf2 h TO a b) ∧ ZipLT h z TI TO i1 i2 l t xs ys 0) where
  type := fun s ok => ⟨_, ok.1, rfl⟩
  notDict := by decide
  keep := fun h h' ok k => by
    obtain ⟨a1, ⟨a, b, a2⟩, a3⟩ := ok
    exact ⟨k _ _ a1, ⟨a, b, k _ _ a2⟩, a3.keep fun b _ o e => k b o e⟩
  there := fun h ok b hb => by
    obtain ⟨a1, ⟨a, c, a2⟩, a3, ⟨⟨o1, e1, _⟩, ⟨o2, e2, _⟩⟩, ⟨⟨o3, e3, _⟩, ⟨o4, e4, _⟩⟩⟩ := ok
    have either : b = z ∨ b = TI ∨ b = TO ∨ b = i1 ∨ b = i2 ∨ b = l ∨ b = t := by simpa using hb
    rcases either with q | q | q | q | q | q | q <;> subst q
    · exact ⟨_, a1⟩
    · exact ⟨_, a3⟩
    · exact ⟨_, a2⟩
    · exact ⟨_, e1⟩
    · exact ⟨_, e3⟩
    · exact ⟨_, e2⟩
    · exact ⟨_, e4⟩
  sub := fun b hb => by
    have either : b = z ∨ b = TO ∨ b = i1 ∨ b = i2 := by simpa using hb
    rcases either with q | q | q | q <;> subst q <;> simp
  noKeys := fun A s Q E hA ok now => getAttrOr_miss_zip ok.1 rfl rfl rfl zip_no_keys (by decide +kernel) hA now
  iter := fun A s d Q E hA ok dlt dfar now => by
    obtain ⟨a1, ⟨a, b, a2⟩, a3⟩ := ok
    have far : d ≠ z ∧ d ≠ TI ∧ d ≠ TO ∧ d ≠ i1 ∧ d ≠ i2 ∧ d ≠ l ∧ d ≠ t := by simpa using dfar
    obtain ⟨d1, d2, d3, d4, d5, d6, d7⟩ := far
    have D1 := Draws.list (prog := prog) (w := w) (A := A.in1) hA i1 l hl xs
    have D2 := Draws.tuple (prog := prog) (w := w) (A := A.in1) hA i2 t ht ys
    refine wpAny_pyIter_zip a1 (now z [z, TO, i1, i2] (fun n h => ZipLT h z TI TO i1 i2 l t xs ys n ∧ ((IsZip h z TI TO .none ∧ ∃ a b, IsTupOf2 h TO a b) ∨ ∃ T f oT, IsZipHeld h z TI TO T f ∧ h.get? T = some oT ∧ T ≠ z ∧ T ≠ i1 ∧ T ≠ i2 ∧ T ≠ d)) s.heap s.toks ?_ ⟨a3, .inl ⟨a1, a, b, a2⟩⟩ (fun _ _ e => e) fun b hb => .inl hb)
    refine ⟨fun hm => ?_, fun n h h' q k => ?_, fun n s1 Q1 E1 hn q dl now1 => ?_, fun s1 Q1 E1 q now1 => ?_⟩
    · have either : d = z ∨ d = TO ∨ d = i1 ∨ d = i2 := by simpa using hm
      rcases either with q | q | q | q
      · exact d1 q
      · exact d3 q
      · exact d4 q
      · exact d5 q
    · refine ⟨q.1.keep fun b hb o e => k b o (fun y => ?_) e, ?_⟩
      · rcases hb with q | q | q | q | q <;> rw [q] at y
        · exact d2 y.symm
        · exact d4 y.symm
        · exact d5 y.symm
        · exact d6 y.symm
        · exact d7 y.symm
      · rcases q.2 with ⟨q1, a, b, q2⟩ | ⟨T, f, oT, q1, q2, r1, r2, r3, r4⟩
        · exact .inl ⟨k _ _ (Ne.symm d1) q1, a, b, k _ _ (Ne.symm d3) q2⟩
        · exact .inr ⟨T, f, oT, k _ _ (Ne.symm d1) q1, k _ _ r4 q2, r1, r2, r3, r4⟩
    · obtain ⟨⟨both, at1, at2⟩, q⟩ := q
      have m1 : n < xs.size := Nat.lt_of_lt_of_le hn (Nat.min_le_left ..)
      have m2 : n < ys.size := Nat.lt_of_lt_of_le hn (Nat.min_le_right ..)
      have lt : ∀ {c o}, s1.heap.get? c = some o → s1.heap.objs.size ≠ c := fun e => Nat.ne_of_gt (Heap.lt_size e)
      have j1 : s1.heap.objs.size ≠ i1 := let ⟨_, e⟩ := D1.live _ _ at1; lt e
      have j2 : s1.heap.objs.size ≠ i2 := let ⟨_, e⟩ := D2.live _ _ at2; lt e
      rcases q with ⟨q1, a, b, q2⟩ | ⟨T, f, oT, q1, q2, r1, r2, r3, r4⟩
      · refine wpAny_pyNext_zipD2_item S D1 D2 q1 both q2 at1 at2 m1 m2 fun x y h' tk px py b1 b2 b3 b4 b5 b6 k => ?_
        exact now1 s1.heap.objs.size x y h' tk ⟨px, py⟩ (.inl ⟨_, b5, rfl, _, rfl⟩) ⟨⟨k _ _ S.TIz S.TITO S.TIi1 S.TIi2 both, b3, b4⟩, .inr ⟨_, false, _, b1, b5, lt q1, j1, j2, Nat.ne_of_gt dl⟩⟩
          fun c o hc e => k c o (fun y => hc (by simp [y])) (fun y => hc (by simp [y])) (fun y => hc (by simp [y])) (fun y => hc (by simp [y])) e
      · refine out_pyNext S D1 D2 q1 q2 both at1 at2 m1 m2 fun x y h' tk px py b1 b3 b4 b5 k => ?_
        exact now1 s1.heap.objs.size x y h' tk ⟨px, py⟩ (.inl ⟨_, b5, rfl, _, rfl⟩) ⟨⟨k _ _ S.TIz S.TIi1 S.TIi2 both, b3, b4⟩, .inr ⟨T, true, oT, b1, k _ _ r1 r2 r3 q2, r1, r2, r3, r4⟩⟩
          fun c o hc e => k c o (fun y => hc (by simp [y])) (fun y => hc (by simp [y])) (fun y => hc (by simp [y])) e
    · obtain ⟨⟨both, at1, at2⟩, q⟩ := q
      rcases q with ⟨q1, a, b, q2⟩ | ⟨T, f, oT, q1, q2, r1, r2, r3, r4⟩
      · exact wpAny_pyNext_zipD2_end S D1 D2 q1 both q2 at1 at2 (Nat.min_le_left ..) (Nat.min_le_right ..) (by omega) fun h' tk k => now1 h' tk fun c o hc e => k c o (fun y => hc (by simp [y])) (fun y => hc (by simp [y])) (fun y => hc (by simp [y])) (fun y => hc (by simp [y])) e
      · exact out_pyNext_end S D1 D2 q1 q2 both at1 at2 (Nat.min_le_left ..) (Nat.min_le_right ..) (by omega) fun h' tk k => now1 h' tk fun c o hc e => k c o (fun y => hc (by simp [y])) (fun y => hc (by simp [y])) (fun y => hc (by simp [y])) e
end
/-- dict(zip(e1, e2)): keys from a list, values from a tuple -/
def eDictZip (K : PySem.W.Frag) (ta : TA) : TE := fun σ H Q => ta σ H fun vs H1 => ∃ (a b : Addr) (ks : List Key) (xs : List V), vs = [.ref a, .ref b] ∧ SqL K H1 a (ks.map kV) ∧ SqT K H1 b xs ∧ ∀ p, H1 p = none → Q (.ref p) (upd H1 p (.dK (mergeK [] (ks.zip xs))))
theorem pe_dictZip (K : PySem.W.Frag) {X : Cx} (hk : X.K = K) (hcalm : X.calm = true) {e e2 : Expr} {ta : TA} {p p2 pos pos2 : Pos} (hd : Gl X "dict") (md : X.mg "dict" = none) (hg : Gl X "zip") (hm : X.mg "zip" = none) (ha : PA X [e, e2] ta)
    (hs : starEach [e, e2] X.env = (false, eval e X.env) :: starEach [e2] X.env := by rfl) (hpl : (backTo pos2 (starEach [e2] X.env)).any (·.1) = false := by rfl)
    (hs1 : starEach [.Call (.Name "zip" p2) [e, e2] [] pos2] X.env = [(false, eval (.Call (.Name "zip" p2) [e, e2] [] pos2) X.env)] := by rfl) :
    PE X (.Call (.Name "dict" p) [.Call (.Name "zip" p2) [e, e2] [] pos2] [] pos) (eDictZip K ta) := by
  subst hk
  refine ⟨fun pins st σ H Q J asked => ?_⟩
  refine Call_ (ld_blt J hd md boot_dict (PyProof.Rows.callWith_type1 (args_cons (Call_ (ld_blt J hg hm boot_zip (PyProof.Rows.callWith_type1 (thn (ha.run pos2 pins st σ H _ J asked) fun us st1 ⟨vs, H1, J1, rel, now⟩ => ?_) hs hpl))) hs1) hs1 rfl))
  obtain ⟨a, b, ks, xs, ex, hq1, hq2, now⟩ := now
  subst ex
  cases rel with
  | cons r1 rel =>
  cases rel with
  | cons r2 rel =>
  cases rel
  cases r1
  cases r2
  obtain ⟨its, rv, p1, z1⟩ := J1.list hq1
  obtain ⟨its2, rv2, p2, z2⟩ := J1.tuple hq2
  have al : a < st1.heap.objs.size := p1.lt
  have bl : b < st1.heap.objs.size := by obtain ⟨o, ho, _⟩ := p2; exact Heap.lt_size ho
  have B1 := begins_list a its.toArray
  have B2 := begins_tuple b its2.toArray
  refine zip_begins2 B1 B2 p1.isList p2 fun h' c1 c2 c3 c4 c5 size kp => args_nil ?_
  have S := zip_sep2 (N := st1.heap.objs.size) (fp1 := [a]) (fp2 := [b]) (by simpa using al) (by simpa using bl)
  have P := pairs_LT (prog := X.prog) (w := X.w) _ _ _ _ _ a b S (Nat.ne_of_lt al) (Nat.ne_of_lt (Nat.lt_succ_of_lt bl)) its.toArray its2.toArray
  have n1 := rv.length
  have n2 := rv2.length
  rw [List.length_map] at n1 z1
  have all : ∀ (ks : List Key) (xs : List V) (us vs : List Value), Vals (ks.map kV) us → Vals xs vs → ∃ rs : List (Key × Value), KV (ks.zip xs) rs ∧ rs.length = min us.length vs.length ∧ ∀ (i : Nat) (k v : Value), us[i]? = some k → vs[i]? = some v → ∃ q, rs[i]? = some (q, v) ∧ (mixKind X.prog X.w).is q k = true := by
    intro ks
    induction ks with
    | nil => intro xs us vs r1 r2; cases r1; exact ⟨[], .nil, by simp, fun i k v e => nomatch e⟩
    | cons k ks ih =>
      intro xs us vs r1 r2
      cases r1 with
      | cons h1 t1 =>
      cases r2 with
      | nil => exact ⟨[], .nil, by simp, fun i k v _ e => nomatch e⟩
      | cons h2 t2 =>
        obtain ⟨rs, e1, e2, e3⟩ := ih _ _ _ t1 t2
        refine ⟨(k, _) :: rs, .cons ⟨rfl, h2⟩ e1, by simp only [List.length_cons, e2]; omega, fun i q v e f => ?_⟩
        cases i with
        | zero => cases e; cases f; exact ⟨k, rfl, kV_is h1⟩
        | succ i => exact e3 i q v e f
  obtain ⟨rs, e1, e2, e3⟩ := all ks xs its its2 rv rv2
  have PH : PairsHave (mixKind X.prog X.w) (min its.toArray.size its2.toArray.size) (fun i k v => its.toArray[i]? = some k ∧ its2.toArray[i]? = some v) rs :=
    ⟨by simpa using e2, fun i k v q => e3 i k v (by simpa using q.1) (by simpa using q.2)⟩
  refine _root_.PySem.call_dict_pairs (s := { st1 with heap := h' }) P (J1.ok.hd hcalm) ⟨c1, ⟨_, _, c3⟩, c2, ⟨⟨_, c4, rfl, rfl⟩, B1.keeps _ _ p1.isList kp⟩, ⟨⟨_, c5, rfl, rfl⟩, B2.keeps _ _ p2 kp⟩⟩ PH (by have := n1; have := n2; simp only [List.size_toArray]; omega) fun h2 tk isd kp2 => ?_
  replace isd : h2.DictOf (mixKind X.prog X.w) h'.objs.size (merged [] rs) := isd
  have low : st1.heap.objs.size ≤ h'.objs.size := by rw [size]; exact Nat.le_add_right _ _
  have big : sysModules < h'.objs.size := Nat.lt_of_lt_of_le J1.big low
  have ne : (h'.objs.size == sysModules) = false := beq_eq_false_iff_ne.mpr (Nat.ne_of_gt big)
  have few : (mergeK [] (ks.zip xs)).length ≤ sizeLine := by
    refine Nat.le_trans (length_mergeK _ []) ?_
    rw [List.length_nil, Nat.zero_add, List.length_zip]
    omega
  refine ⟨.ref h'.objs.size, upd H1 h'.objs.size (.dK (mergeK [] (ks.zip xs))), J1.laid (t' := tk) (fun c o q => kp2 c o (fun hm => ?_) (kp c o q)) low (show ObjOk X.prog X.w _ _ _ (.dK (mergeK [] (ks.zip xs))) from ⟨few, ne, merged [] rs, KV.merge e1 .nil, isd⟩), rfl, now _ (J1.hok.fresh low)⟩
  have cl := Heap.lt_size q
  have either : c = st1.heap.objs.size + 4 ∨ c = st1.heap.objs.size + 3 ∨ c = st1.heap.objs.size ∨ c = st1.heap.objs.size + 1 := by simpa using hm
  rcases either with y | y | y | y <;> rw [y] at cl
  · exact absurd cl (Nat.not_lt.mpr (Nat.le_add_right _ _))
  · exact absurd cl (Nat.not_lt.mpr (Nat.le_add_right _ _))
  · exact absurd cl (Nat.lt_irrefl _)
  · exact absurd cl (Nat.not_lt.mpr (Nat.le_add_right _ _))
theorem one_at {K : PySem.W.Frag} {a : Addr} {od : Option Addr} {z : Str} {t1 : Tok} {n : Nat} {sl : Array (Option Value)} (l : K.lookup a = some ⟨.type "tuple", od, .seq #[.str z t1] n, sl⟩) (H : Hp) : SqT K H a [.str z] :=
  .inr ⟨_, _, _, l, rfl, rfl, (show 1 ≤ sizeLine by decide), .cons ⟨_, rfl⟩ .nil⟩
/-! ### dicts whose keys are tuples of tuples -/
mutual
/-- a value that is such a key -/
inductive NkV (H : Hp) : NestedKey → V → Prop
  | num (i : Int) : NkV H (.num i) (.int i)
  | text (x : Str) : NkV H (.text x) (.str x)
  | tup {a : Addr} {xs : List V} {ks : List NestedKey} : H a = some (.tup xs) → NkL H ks xs → NkV H (.tup ks) (.ref a)
inductive NkL (H : Hp) : List NestedKey → List V → Prop
  | nil : NkL H [] []
  | cons {k : NestedKey} {x : V} {ks : List NestedKey} {xs : List V} : NkV H k x → NkL H ks xs → NkL H (k :: ks) (x :: xs)
end
section
variable {P : Program} {w : World} {H H' : Hp} {h : Heap}
mutual
theorem NkV.keep (kp : TK H H') : ∀ {k : NestedKey} {x : V}, NkV H k x → NkV H' k x
  | _, _, .num i => .num i
  | _, _, .text x => .text x
  | _, _, .tup e l => .tup (kp _ _ e) (NkL.keep kp l)
theorem NkL.keep (kp : TK H H') : ∀ {ks : List NestedKey} {xs : List V}, NkL H ks xs → NkL H' ks xs
  | _, _, .nil => .nil
  | _, _, .cons a b => .cons (NkV.keep kp a) (NkL.keep kp b)
end
mutual
theorem NkV.is (ok : HOk P w H h) : ∀ {k : NestedKey} {x : V} {u : Value}, NkV H k x → RelV x u → NestedIs h k u
  | _, _, u, .num i, r => by
    obtain ⟨t, rfl⟩ := (show ∃ t, u = Value.int i t from r)
    exact .int i t
  | _, _, u, .text x, r => by
    obtain ⟨t, rfl⟩ := (show ∃ t, u = Value.str x t from r)
    exact .text x t
  | _, _, u, @NkV.tup _ a xs ks e l, r => by
    obtain rfl : u = Value.ref a := r
    obtain ⟨_, its, rv, o, e1, e2, n, e3⟩ := (show ObjOk P w H h a (.tup xs) from ok a _ e)
    exact .tup e1 e2 e3 (by simpa using NkL.is ok l rv)
theorem NkL.is (ok : HOk P w H h) : ∀ {ks : List NestedKey} {xs : List V} {us : List Value}, NkL H ks xs → Vals xs us → NestedAll h ks us
  | _, _, _, .nil, .nil => .nil
  | _, _, _, .cons a b, .cons r t => .cons (NkV.is ok a r) (NkL.is ok b t)
end
/-- what stands in the heap for a dict with the entries kas: key, the key's address, number -/
def nkRow (k : NestedKey × Addr × Int) (x : NestedKey × Addr × Value) : Prop := x.1 = k.1 ∧ x.2.1 = k.2.1 ∧ ∃ t, x.2.2 = .int k.2.2 t
def nkObj (P : Program) (w : World) (d : Addr) (kas : List (NestedKey × Addr × Int)) (h : Heap) : Prop :=
  (d == sysModules) = false ∧ kas.length ≤ sizeLine ∧ ∃ xs : List (NestedKey × Addr × Value), All2 nkRow kas xs ∧ ∃ o es ep, h.get? d = some o ∧ o.ExactDict ∧ o.data = .dict es ep ∧ es.toList = xs.map (entryOfKey (nestedKind P w)) ∧ (xs.map (·.1)).Nodup
def nkO (P : Program) (w : World) (d : Addr) (kas : List (NestedKey × Addr × Int)) : HO := .ext (nkObj P w d kas)
structure NkD (P : Program) (w : World) (H : Hp) (d : Addr) (kas : List (NestedKey × Addr × Int)) : Prop where
  at_ : H d = some (nkO P w d kas)
  key : ∀ q ∈ kas, NkV H q.1 (.ref q.2.1) ∧ q.1.depth ≤ 8
theorem nkO_tup {d : Addr} {kas : List (NestedKey × Addr × Int)} {xs : List V} : nkO P w d kas ≠ .tup xs := fun z => by
  have z' : HO.ext _ = HO.tup xs := z
  cases z'
theorem nkObj_ok {d : Addr} {kas : List (NestedKey × Addr × Int)} (q : nkObj P w d kas h) : ObjOk P w H h d (nkO P w d kas) := by
  have q0 := q
  obtain ⟨_, _, xs, _, o, es, ep, e, _⟩ := q0
  refine ⟨q, ⟨o, e⟩, fun h1 h2 q1 k => ?_⟩
  obtain ⟨a1, a2, xs, al, o, es, ep, e, r⟩ := q1
  exact ⟨a1, a2, xs, al, o, es, ep, k _ e, r⟩
theorem nk_names : ∀ {kas : List (NestedKey × Addr × Int)} {xs : List (NestedKey × Addr × Value)}, All2 nkRow kas xs → xs.map (·.1) = kas.map (·.1)
  | _, _, .nil => rfl
  | _, _, .cons r t => by rw [List.map_cons, List.map_cons, r.1, nk_names t]
/-- the number at a key -/
def nkAt (kas : List (NestedKey × Addr × Int)) (k : NestedKey) : Option Int := (kas.find? fun q => decide (q.1 = k)).map fun q => q.2.2
theorem nk_at {k : NestedKey} : ∀ {kas : List (NestedKey × Addr × Int)} {xs : List (NestedKey × Addr × Value)}, All2 nkRow kas xs → (nkAt kas k = none ∧ atKey xs k = none) ∨ ∃ n a t, nkAt kas k = some n ∧ atKey xs k = some (a, .int n t)
  | _, _, .nil => .inl ⟨rfl, rfl⟩
  | _, _, @All2.cons _ _ _ c x cs xs r t => by
    unfold nkAt atKey
    rw [List.find?_cons, List.find?_cons, r.1]
    by_cases e : c.1 = k
    · rw [decide_eq_true e]
      obtain ⟨tt, ht⟩ := r.2.2
      refine .inr ⟨c.2.2, x.2.1, tt, rfl, ?_⟩
      show some x.2 = _
      rw [← ht]
    · rw [decide_eq_false e]
      exact nk_at t
theorem NkD.get {d : Addr} {kas : List (NestedKey × Addr × Int)} (D : NkD P w H d kas) (ok : HOk P w H h) : (d == sysModules) = false ∧ kas.length ≤ sizeLine ∧ ∃ xs, All2 nkRow kas xs ∧ h.DictOfH (nestedKind P w) d xs := by
  obtain ⟨⟨a1, a2, xs, al, o, es, ep, e1, e2, e3, e4, e5⟩, _⟩ := (show ObjOk P w H h d (nkO P w d kas) from ok d _ D.at_)
  refine ⟨a1, a2, xs, al, o, es, ep, e1, e2, e3, e4, fun x hx => ?_, e5⟩
  have : ∀ {kas : List (NestedKey × Addr × Int)} {xs : List (NestedKey × Addr × Value)}, All2 nkRow kas xs → ∀ x ∈ xs, ∃ q ∈ kas, x.1 = q.1 ∧ x.2.1 = q.2.1 := by
    intro kas xs al
    induction al with
    | nil => intro x hx; cases hx
    | cons r t ih =>
      intro x hx
      rcases List.mem_cons.mp hx with rfl | hx
      · exact ⟨_, List.mem_cons_self .., r.1, r.2.1⟩
      · obtain ⟨q, hq, z⟩ := ih x hx
        exact ⟨q, List.mem_cons_of_mem _ hq, z⟩
  obtain ⟨q, hq, z1, z2⟩ := this al x hx
  obtain ⟨k1, k2⟩ := D.key q hq
  rw [z1, z2]
  exact ⟨NkV.is ok k1 rfl, k2⟩
theorem NkD.go {d : Addr} {kas : List (NestedKey × Addr × Int)} (D : NkD P w H d kas) (e : H' d = H d) (kp : TK H H') : NkD P w H' d kas := ⟨e.trans D.at_, fun q hq => ⟨(D.key q hq).1.keep kp, (D.key q hq).2⟩⟩
theorem NkD.same {d : Addr} {kas : List (NestedKey × Addr × Int)} (D : NkD P w H d kas) (s : Same H H') : NkD P w H' d kas := D.go ((s _ _ D.at_).trans D.at_.symm) (TK.same s)
end
section
variable {X : Cx} {o i e : Expr} {pos pos' : Pos} {td ty tv : TE}
theorem nk_room {X : Cx} (hu : X.A.units + 65 < cLine) : (nestedKind X.prog X.w).room X.A.in1 := by
  show X.A.in1.units + 8 < cLine
  show X.A.units + 1 + 8 < cLine
  omega
/-- {}, for such keys -/
def tNkNew (P : Program) (w : World) : TE := fun _ H Q => ∀ p, H p = none → NkD P w (upd H p (nkO P w p [])) p [] → Q (.ref p) (upd H p (nkO P w p []))
theorem pe_nknew (P : Program) (w : World) (h1 : X.prog = P) (h2 : X.w = w) : PE X (.Dict [] [] pos) (tNkNew P w) := by
  subst h1 h2
  refine ⟨fun pins s σ H Q I h => ?_⟩
  have hb := I.big
  have ob : nkObj X.prog X.w s.heap.objs.size [] (s.heap.push { cls := .type "dict", data := .dict #[] }) := ⟨beq_eq_false_iff_ne.mpr (Ne.symm (Nat.ne_of_lt hb)), Nat.zero_le _, [], .nil, _, #[], 0, Heap.get?_push_size _ rfl, ⟨rfl, rfl, rfl⟩, rfl, rfl, List.nodup_nil⟩
  exact wpAny_Dict_empty ⟨.ref s.heap.objs.size, _, I.laid (a := s.heap.objs.size) (o := nkO X.prog X.w s.heap.objs.size []) (t' := s.toks) (fun _ _ q => Heap.get?_push_of_some _ q) (Nat.le_refl _) (nkObj_ok ob), rfl, h _ (I.hok.fresh (Nat.le_refl _)) ⟨upd_same, fun q hq => by cases hq⟩⟩
/-- y not in d -/
def tNkOut (P : Program) (w : World) (ty td : TE) : TE := fun σ H Q => ty σ H fun y H1 => td σ H1 fun x H2 => ∃ (d b : Addr) (kas : List (NestedKey × Addr × Int)) (k : NestedKey), x = .ref d ∧ y = .ref b ∧ NkD P w H2 d kas ∧ NkV H2 k (.ref b) ∧ k.depth ≤ 8 ∧ Q (.bl (!(nkAt kas k).isSome)) H2
theorem pc_nkout (P : Program) (w : World) (h1 : X.prog = P) (h2 : X.w = w) (hu : X.A.units + 65 < cLine) (hi : PE X i ty) (ho : PE X o td) : PC X .NotIn i o (tNkOut P w ty td) := by
  subst h1 h2
  refine ⟨fun pins s σ H Q I h => ?_⟩
  refine thn (hi.run pins s σ H _ I h) fun iv s1 ⟨y, H1, I1, ry, q1⟩ => thn (ho.run pins s1 σ H1 _ I1 q1) fun u s2 ⟨x, H2, I2, rx, d, b, kas, k, ex, ey, D, kv, dp, q2⟩ => ?_
  subst ex ey
  obtain rfl : u = Value.ref d := rx
  obtain rfl : iv = Value.ref b := ry
  obtain ⟨a1, a2, xs, al, dd⟩ := D.get I2.hok
  refine wpAny_notIn_heap (nk_room hu) ⟨NkV.is I2.hok kv rfl, dp⟩ a1 dd ⟨.bl (!(nkAt kas k).isSome), H2, I2.tok _, ?_, q2⟩
  rcases nk_at (k := k) al with ⟨z1, z2⟩ | ⟨n, a, t, z1, z2⟩ <;> rw [z1, z2] <;> rfl
/-- d[y] -/
def tNkGet (P : Program) (w : World) (td ty : TE) : TE := fun σ H Q => td σ H fun x H1 => ty σ H1 fun y H2 => ∃ (d b : Addr) (kas : List (NestedKey × Addr × Int)) (k : NestedKey) (n : Int), x = .ref d ∧ y = .ref b ∧ NkD P w H2 d kas ∧ NkV H2 k (.ref b) ∧ k.depth ≤ 8 ∧ nkAt kas k = some n ∧ Q (.int n) H2
theorem pe_nkget (P : Program) (w : World) (h1 : X.prog = P) (h2 : X.w = w) (hu : X.A.units + 65 < cLine) (ho : PE X o td) (hi : PE X i ty) (hs : NoSl i) : PE X (.Subscript o i pos) (tNkGet P w td ty) := by
  subst h1 h2
  refine ⟨fun pins s σ H Q I h => ?_⟩
  refine subD_of PySem.F.slot_dict_getitem.lookup hs (thn (ho.run pins s σ H _ I h) fun u s1 ⟨x, H1, I1, rx, q1⟩ => thn (hi.run pins s1 σ H1 _ I1 q1) fun iv s2 ⟨y, H2, I2, ry, d, b, kas, k, n, ex, ey, D, kv, dp, hk, q2⟩ => ?_)
  subst ex ey
  obtain rfl : u = Value.ref d := rx
  obtain rfl : iv = Value.ref b := ry
  obtain ⟨a1, a2, xs, al, dd⟩ := D.get I2.hok
  refine ⟨dd.typeIs, ?_⟩
  rcases nk_at (k := k) al with ⟨z1, z2⟩ | ⟨m, a, t, z1, z2⟩
  · rw [z1] at hk; cases hk
  · rw [z1] at hk
    cases hk
    exact wpAny_getItem_heap (nk_room hu) ⟨NkV.is I2.hok kv rfl, dp⟩ dd z2 ⟨.int n, H2, I2.tok _, ⟨t, rfl⟩, q2⟩
/-- len(d) -/
theorem call_lenNk (P : Program) (w : World) (h1 : X.prog = P) (h2 : X.w = w) : CallR X (.builtin "len") (fun vs H Q => ∃ (d : Addr) (kas : List (NestedKey × Addr × Int)), vs = [.ref d] ∧ NkD P w H d kas ∧ Q (.int (kas.length : Nat)) H) := by
  subst h1 h2
  intro pins s σ H vs us Q I r asked
  obtain ⟨d, kas, rfl, D, q⟩ := asked
  obtain ⟨u, rfl, ru⟩ := vals1 r
  obtain rfl : u = Value.ref d := ru
  obtain ⟨a1, a2, xs, al, dd⟩ := D.get I.hok
  have l := al.length
  refine PySem.call_len_dictH a1 dd (by rw [← l]; rw [sizeLine_eq] at a2; omega) ?_
  exact ⟨.int (kas.length : Nat), H, I.tok _, ⟨_, by rw [l]⟩, q⟩
/-- d[y] = v, y not yet in d -/
def sNkPut (P : Program) (w : World) (td ty tv : TE) : TS := fun D σ H => tv σ H fun v H1 => td σ H1 fun x H2 => ty σ H2 fun y H3 => ∃ (d b : Addr) (kas : List (NestedKey × Addr × Int)) (k : NestedKey) (n : Int), x = .ref d ∧ y = .ref b ∧ v = .int n ∧ NkD P w H3 d kas ∧ NkV H3 k (.ref b) ∧ k.depth ≤ 8 ∧ nkAt kas k = none ∧ kas.length < sizeLine ∧
  (NkD P w (upd H3 d (nkO P w d (kas ++ [(k, b, n)]))) d (kas ++ [(k, b, n)]) → D.nx σ (upd H3 d (nkO P w d (kas ++ [(k, b, n)]))))
theorem ps_nkput {value : Expr} (P : Program) (w : World) (h1 : X.prog = P) (h2 : X.w = w) (hu : X.A.units + 65 < cLine) (ho : PE X o td) (hi : PE X i ty) (hv : PE X value tv) (hs : swapsWith value (some (.Subscript o i pos')) pos.line X.env = pure false) :
    PS X (.Assign [.Subscript o i pos'] value pos) (sNkPut P w td ty tv) := by
  subst h1 h2
  refine ⟨fun pins s σ H D I h => ?_⟩
  refine wpAny_Assign_Subscript (thn (hv.run pins s σ H _ I h) fun r s1 ⟨v, H1, I1, rv, q1⟩ => thn (ho.run pins s1 σ H1 _ I1 q1) fun u s2 ⟨x, H2, I2, rx, q2⟩ => thn (hi.run pins s2 σ H2 _ I2 q2) fun iv s3 ⟨y, H3, I3, ry, d, b, kas, k, n, ex, ey, ev, Dk, kv, dp, hk, hl, q3⟩ => ?_) hs
  subst ex ey ev
  obtain rfl : u = Value.ref d := rx
  obtain rfl : iv = Value.ref b := ry
  obtain ⟨t, rfl⟩ := (show ∃ t, r = Value.int n t from rv)
  obtain ⟨a1, a2, xs, al, dd⟩ := Dk.get I3.hok
  have l := al.length
  have z2 : atKey xs k = none := by
    rcases nk_at (k := k) al with ⟨z1, z2⟩ | ⟨m, a, t, z1, z2⟩
    · exact z2
    · rw [z1] at hk; cases hk
  refine wpAny_setItem_heap (hsz := by rw [← l]; exact a2) (nk_room hu) ⟨NkV.is I3.hok kv rfl, dp⟩ dd fun h' dd' hsb => ?_
  rw [storedH_new z2] at dd'
  obtain ⟨ob, es, ep, g1, g2, g3, g4, g5, g6⟩ := dd'
  have kp : TK H3 (upd H3 d (nkO X.prog X.w d (kas ++ [(k, b, n)]))) := fun a ys e => by
    rw [upd_ne (ne_of e Dk.at_ (fun z => nkO_tup z.symm))]
    exact e
  have new : nkObj X.prog X.w d (kas ++ [(k, b, n)]) h' := ⟨a1, by rw [List.length_append]; exact hl, _, al.snoc ⟨rfl, rfl, t, rfl⟩, ob, es, ep, g1, g2, g3, g4, g6⟩
  refine ⟨σ, _, d_write I3 (by rw [Dk.at_]; exact True.intro) hsb ⟨ob, g1⟩ (nkObj_ok new), q3 ⟨upd_same, fun q hq => ?_⟩⟩
  rcases List.mem_append.mp hq with hq | hq
  · exact ⟨(Dk.key q hq).1.keep kp, (Dk.key q hq).2⟩
  · rw [List.mem_singleton.mp hq]
    exact ⟨kv.keep kp, dp⟩
end
section
variable {P : Program} {w : World} {K : PySem.W.Frag} {mg : Str → Option Value} {base : Heap}
def sp_law_flow (K : PySem.W.Frag) : Sp := fun vs H Q _ => ∃ (a : Addr) (ns : List Int), vs = [.ref a] ∧ SqL K H a (ns.map V.int) ∧ ∀ (f c : Addr) (H' : Hp), H f = none → H c = none → Flow H' f c → Same H H' → Q (.ref f) H'
theorem ok_law_flow {f : Addr} {fd : FuncData} (F : Fun K "_law_flow" "_law_flow" s_law_flow f fd) (T : Top w K mg) : FnOk P w K mg base CX0 1 f fd ["_law_script"] (sp_law_flow K) := by
  refine F.ok sc_law_flow (fun vs H Q E h => ?_) (fun cdv A outer s H vs Q E hr h => ?_)
  · obtain ⟨a, ns, rfl, _⟩ := h
    rfl
  obtain ⟨a, ns, rfl, hS, q⟩ := h
  refine ⟨_, (pss_one (ps_ret (pe_lst (pa_cons (pe_callTy (call_list_ofK K rfl) (by rfl) T.m_list (by decide +kernel) (pa_cons (pv 0) pa_nil)) (pa_cons pe_int (pa_cons pe_int (pa_cons pe_int (pa_cons pe_int pa_nil)))))))), ?_⟩
  refine ⟨_, rfl, a, _, rfl, .inl hS, fun c hc => ?_⟩
  refine ⟨(by show 5 ≤ sizeLine; decide), fun f hf => ?_⟩
  have nf : H f = none := by
    cases e : H f with
    | none => rfl
    | some o => rw [same_new hc _ _ e] at hf; cases hf
  have s1 := same_new (o := .lst (ns.map V.int)) hc
  refine q f c _ nf hc ⟨ns, 0, 0, 1, 0, upd_same, same_new hf _ _ upd_same, by decide, by decide, by decide, by decide⟩ fun b o e => same_new hf _ _ (s1 _ _ e)
def sp_law_pick (K : PySem.W.Frag) : Sp := fun vs H Q _ => ∃ (f c : Addr) (m : Int), vs = [.ref f, .int m] ∧ 0 < m ∧ m.natAbs.log2 < 9000 ∧ Flow H f c ∧
  ∀ (v : Int) (H' : Hp), 0 ≤ v → v < m → Flow H' f c → But f H H' → Q (.int v) H'
theorem ok_law_pick {f : Addr} {fd : FuncData} (F : Fun K "_law_pick" "_law_pick" s_law_pick f fd) (T : Top w K mg) : FnOk P w K mg base CX0 1 f fd ["_law_flow_here", "_law_many"] (sp_law_pick K) := by
  refine F.ok sc_law_pick (fun vs H Q E h => ?_) (fun cdv A outer s H vs Q E hr h => ?_)
  · obtain ⟨f, c, m, rfl, _⟩ := h
    rfl
  obtain ⟨f, c, m, rfl, m0, m9, hF, q⟩ := h
  obtain ⟨ns, i, p, z, r, hf, hc, hi, hp, hz, hz2⟩ := hF
  have ncf : c ≠ f := ne_of hc hf (by intro e; injection e with e; cases ns with | nil => cases e | cons x l => cases e)
  let R1 : TS := fun D' σ' H' => D'.rt = Q ∧ ∃ x2 : Option V, σ' = [some (.ref f), some (.int m), x2, none] ∧ (∃ (i p z r : Int), H' f = some (.lst [.ref c, .int i, .int p, .int z, .int r]) ∧ H' c = some (.lst (ns.map V.int)) ∧ 0 ≤ i ∧ 0 ≤ p ∧ 0 ≤ z ∧ z < 2147483647) ∧ But f H H'
  refine ⟨_, (pss_cons (ps_if (PW.pt (pw_and (pt_cmpR op_eq (pe_ix (ix_listK K rfl) (pv 0) pe_int (fun _ _ => rfl)) pe_int (nomark _)) (pw_and1 (pt_cmpR op_lt (pe_ix (ix_listK K rfl) (pv 0) pe_int (fun _ _ => rfl)) (pe_callB (call_len_seqK K rfl) (by rfl) T.m_len (by decide +kernel) (pa_cons (pe_ix (ix_listK K rfl) (pv 0) pe_int (fun _ _ => rfl)) pa_nil)) (nomark _))))) (pss_cons (ps_set (i := 2) sc_law_pick.nd rfl (Or.inl rfl) (pe_ix (ix_listK K rfl) (pe_ix (ix_listK K rfl) (pv 0) pe_int (fun _ _ => rfl)) (pe_ix (ix_listK K rfl) (pv 0) pe_int (fun _ _ => rfl)) (fun _ _ => rfl)))
      (pss_cons (ps_asg (pe_op op_add (pe_ix (ix_listK K rfl) (pv 0) pe_int (fun _ _ => rfl)) pe_int) (pg_sub (pv 0) pe_int set_list))
      (pss_one (ps_if (pt_cmpR op_ge (pv 2) (pe_op op_pow pe_int pe_int) (nomark _)) (pss_one (ps_asg (pv 2) (pg_sub (pv 0) pe_int set_list))) (pss_one (ps_asg (pe_op op_mod (pe_op op_add (pe_op op_add (pe_op op_mul (pe_ix (ix_listK K rfl) (pv 0) pe_int (fun _ _ => rfl)) pe_int) (pe_op op_mod (pv 2) pe_int)) pe_int) pe_int) (pg_sub (pv 0) pe_int set_list))))))) pss_nil)
      (PSs.to (pss_cons (ps_if (pt_cmpR op_gt (pe_ix (ix_listK K rfl) (pv 0) pe_int (fun _ _ => rfl)) pe_int (nomark _)) (pss_cons (ps_set (i := 3) sc_law_pick.nd rfl (Or.inl rfl) (pe_op op_mod (pe_ix (ix_listK K rfl) (pv 0) pe_int (fun _ _ => rfl)) (pv 1)))
      (pss_cons (ps_asg (pe_op op_fdivW (pe_ix (ix_listK K rfl) (pv 0) pe_int (fun _ _ => rfl)) (pv 1)) (pg_sub (pv 0) pe_int set_list))
      (pss_one (ps_ret (pv 3))))) pss_nil)
      (pss_cons (ps_asg (pe_op op_add (pe_ix (ix_listK K rfl) (pv 0) pe_int (fun _ _ => rfl)) pe_int) (pg_sub (pv 0) pe_int set_list))
      (pss_cons (ps_asg (pe_op op_mod (pe_op op_add (pe_op op_add (pe_op op_mul (pe_ix (ix_listK K rfl) (pv 0) pe_int (fun _ _ => rfl)) pe_int) pe_int) (pe_ix (ix_listK K rfl) (pv 0) pe_int (fun _ _ => rfl))) pe_int) (pg_sub (pv 0) pe_int set_list))
      (pss_one (ps_ret (pe_op op_mod (pe_op op_fdiv (pe_op op_mod (pe_op op_mul (pe_op op_add (pe_op op_mod (pe_ix (ix_listK K rfl) (pv 0) pe_int (fun _ _ => rfl)) pe_int) pe_int) (pe_op op_add (pe_op op_fdiv (pe_ix (ix_listK K rfl) (pv 0) pe_int (fun _ _ => rfl)) pe_int) pe_int)) pe_int) pe_int) (pv 1))))))) R1 ?tail1)), ?_⟩
  case tail1 =>
    rintro D' σ' H1 ⟨eD, x2, rfl, ⟨i, p, z, r, hf, hc, hi, hp, hz, hz2⟩, bt⟩
    refine ⟨_, rfl, f, _, _, _, rfl, rfl, SqL.of hf, atI_nat (j := 2) rfl, _, _, rfl, rfl, _, rfl, if_bl (fun c1 => ?_) (fun c1 => ?_)⟩
    · refine ⟨_, rfl, f, _, _, _, rfl, rfl, SqL.of hf, atI_nat (j := 2) rfl, _, rfl, _, _, rfl, rfl, m0, ?_⟩
      refine ⟨_, rfl, f, _, _, _, rfl, rfl, SqL.of hf, atI_nat (j := 2) rfl, _, rfl, _, _, rfl, rfl, ⟨m0, m9⟩, _, rfl, f, _, _, 2, rfl, rfl, hf, rfl, ?_⟩
      refine ⟨_, rfl, ?_⟩
      rw [eD]
      exact q _ _ (Int.emod_nonneg _ (by omega)) (Int.emod_lt_of_pos _ m0) ⟨ns, i, p / m, z, r, upd_same, (by rw [upd_ne ncf]; exact hc), hi, Int.ediv_nonneg hp (by omega), hz, hz2⟩ bt.upd
    · refine ⟨_, rfl, f, _, _, _, rfl, rfl, SqL.of hf, atI_nat (j := 4) rfl, _, _, rfl, rfl, _, rfl, f, _, _, 4, rfl, rfl, hf, rfl, ?_⟩
      have hf2 : upd H1 f (.lst ([V.ref c, V.int i, V.int p, V.int z, V.int r].set 4 (V.int (r + 1)))) f = some (.lst [.ref c, .int i, .int p, .int z, .int (r + 1)]) := upd_same
      refine ⟨_, rfl, f, _, _, _, rfl, rfl, SqL.of hf2, atI_nat (j := 3) rfl, _, _, rfl, rfl, .inl ⟨by omega, by omega⟩, _, _, rfl, rfl, _, rfl, f, _, _, _, rfl, rfl, SqL.of hf2, atI_nat (j := 4) rfl, _, _, rfl, rfl, _, _, rfl, rfl, (by show (0 : Int) < 2147483647; decide), _, rfl, f, _, _, 3, rfl, rfl, hf2, rfl, ?_⟩
      have z0 : 0 ≤ (z * 48271 + 12820163 + (r + 1)) % 2147483647 := Int.emod_nonneg _ (by decide)
      have z1 : (z * 48271 + 12820163 + (r + 1)) % 2147483647 < 2147483647 := Int.emod_lt_of_pos _ (by decide)
      have hf3 : upd (upd H1 f (.lst ([V.ref c, V.int i, V.int p, V.int z, V.int r].set 4 (V.int (r + 1))))) f (.lst ([V.ref c, V.int i, V.int p, V.int z, V.int (r + 1)].set 3 (V.int ((z * 48271 + 12820163 + (r + 1)) % 2147483647)))) f =
        some (.lst [.ref c, .int i, .int p, .int ((z * 48271 + 12820163 + (r + 1)) % 2147483647), .int (r + 1)]) := upd_same
      have hc3 : upd (upd H1 f (.lst ([V.ref c, V.int i, V.int p, V.int z, V.int r].set 4 (V.int (r + 1))))) f (.lst ([V.ref c, V.int i, V.int p, V.int z, V.int (r + 1)].set 3 (V.int ((z * 48271 + 12820163 + (r + 1)) % 2147483647)))) c = some (.lst (ns.map V.int)) := by
        rw [upd_ne ncf, upd_ne ncf]
        exact hc
      refine ⟨_, rfl, f, _, _, _, rfl, rfl, SqL.of hf3, atI_nat (j := 3) rfl, _, _, rfl, rfl, (by show (0 : Int) < 65521; decide), _, _, rfl, rfl, _, rfl, f, _, _, _, rfl, rfl, SqL.of hf3, atI_nat (j := 3) rfl, _, _, rfl, rfl, ⟨by decide, by decide⟩, _, _, rfl, rfl, _, _, rfl, rfl, .inl ⟨?_, ?_⟩, _, _, rfl, rfl, (by show (0 : Int) < 1000003; decide), _, _, rfl, rfl, ⟨by decide, by decide⟩, _, rfl, _, _, rfl, rfl, m0, ?_⟩
      · omega
      · omega
      · rw [eD]
        exact q _ _ (Int.emod_nonneg _ (by omega)) (Int.emod_lt_of_pos _ m0) ⟨ns, i, p, _, r + 1, hf3, hc3, hi, hp, z0, z1⟩ bt.upd.upd
  refine ⟨_, rfl, f, _, _, _, rfl, rfl, SqL.of hf, atI_nat (j := 2) rfl, rfl, _, rfl, if_bl (fun c1 => ?_) (fun c1 => ?_)⟩
  · refine ⟨_, rfl, f, _, _, _, rfl, rfl, SqL.of hf, atI_nat (j := 1) rfl, _, rfl, f, _, _, _, rfl, rfl, SqL.of hf, atI_nat (j := 0) rfl, c, _, rfl, .inl (SqL.of hc), _, _, rfl, rfl, _, rfl, if_bl (fun c2 => ?_) (fun c2 => ?_)⟩
    · have c3 : i < ((ns.map V.int).length : Int) := of_decide_eq_true c2
      rw [List.length_map] at c3
      obtain ⟨v, hv⟩ := at_ints hi c3
      refine ⟨_, rfl, f, _, _, _, rfl, rfl, SqL.of hf, atI_nat (j := 0) rfl, _, rfl, f, _, _, _, rfl, rfl, SqL.of hf, atI_nat (j := 1) rfl, c, _, i, _, rfl, rfl, SqL.of hc, hv, ?_⟩
      refine ⟨_, rfl, f, _, _, _, rfl, rfl, SqL.of hf, atI_nat (j := 1) rfl, _, _, rfl, rfl, _, rfl, f, _, _, 1, rfl, rfl, hf, rfl, ?_⟩
      have hf2 : upd H f (.lst ([V.ref c, V.int i, V.int p, V.int z, V.int r].set 1 (V.int (i + 1)))) f = some (.lst [.ref c, .int (i + 1), .int p, .int z, .int r]) := upd_same
      refine ⟨_, rfl, _, _, rfl, rfl, ⟨by decide, by decide, by decide⟩, _, _, rfl, rfl, _, rfl, if_bl (fun c4 => ?_) (fun c4 => ?_)⟩
      · have c5 : (10 : Int) ^ (18 : Int).toNat ≤ v := of_decide_eq_true c4
        have c6 : (0 : Int) ≤ (10 : Int) ^ (18 : Int).toNat := by decide
        refine ⟨_, rfl, _, rfl, f, _, _, 2, rfl, rfl, hf2, rfl, rfl, _, rfl, ⟨i + 1, v, z, r, upd_same, ?_, by omega, by omega, hz, hz2⟩, But.refl.upd.upd⟩
        rw [upd_ne ncf, upd_ne ncf]
        exact hc
      · refine ⟨_, rfl, f, _, _, _, rfl, rfl, SqL.of hf2, atI_nat (j := 3) rfl, _, _, rfl, rfl, .inl ⟨by omega, by omega⟩, _, rfl, _, _, rfl, rfl, (by show (0 : Int) < 1000003; decide), _, _, rfl, rfl, _, _, rfl, rfl, _, _, rfl, rfl, (by show (0 : Int) < 2147483647; decide), _, rfl, f, _, _, 3, rfl, rfl, hf2, rfl, rfl, _, rfl, ⟨i + 1, p, _, r, upd_same, ?_, by omega, hp, Int.emod_nonneg _ (by decide), Int.emod_lt_of_pos _ (by decide)⟩, But.refl.upd.upd⟩
        rw [upd_ne ncf, upd_ne ncf]
        exact hc
    · exact ⟨rfl, _, rfl, ⟨i, p, z, r, hf, hc, hi, hp, hz, hz2⟩, But.refl⟩
  · exact ⟨rfl, _, rfl, ⟨i, p, z, r, hf, hc, hi, hp, hz, hz2⟩, But.refl⟩
end
/-! ### rooms: what they are -/
/-- a hand: its rule's word, its number if it has one, its moments -/
structure HR where
  wd : Str
  no : Option Int
  mom : Int
/-- a belt -/
structure BR where
  one : Nat
  to : Nat
  th : List Int
abbrev ruleL (h : HR) : List V := .str h.wd :: (match h.no with | none => [] | some n => [.int n])
def HandAt (H : Hp) (v : V) (h : HR) : Prop := ∃ t r : Addr, v = .ref t ∧ H t = some (.tup [.ref r, .int h.mom]) ∧ H r = some (.tup (ruleL h))
def BeltAt (H : Hp) (v : V) (b : BR) : Prop := ∃ t g : Addr, v = .ref t ∧ H t = some (.tup [.int (b.one : Nat), .int (b.to : Nat), .ref g]) ∧ H g = some (.tup (b.th.map V.int))
theorem HandAt.keep {H H' : Hp} {v : V} {h : HR} (a : HandAt H v h) (k : TK H H') : HandAt H' v h := by
  obtain ⟨t, r, e, e1, e2⟩ := a
  exact ⟨t, r, e, k _ _ e1, k _ _ e2⟩
theorem BeltAt.keep {H H' : Hp} {v : V} {b : BR} (a : BeltAt H v b) (k : TK H H') : BeltAt H' v b := by
  obtain ⟨t, r, e, e1, e2⟩ := a
  exact ⟨t, r, e, k _ _ e1, k _ _ e2⟩
def nine : List Str := ["always", "same", "times", "sum", "gap", "below", "most", "least", "pick"]
def needs (wd : Str) : Int := if wd ∈ (["in", "always"] : List Str) then 0 else if wd ∈ (["out", "same", "times"] : List Str) then 1 else 2 + (if wd = "pick" then 1 else 0)
/-- a rule of one of the nine words -/
structure GoodRule (h : HR) : Prop where
  wd : h.wd ∈ nine
  no : h.no.isSome = true ↔ h.wd = "times" ∨ h.wd = "always"
  big : ∀ n, h.no = some n → -1000000 ≤ n ∧ n ≤ 1000000
def GoodHand (h : HR) : Prop := (GoodRule h ∨ ((h.wd = "in" ∨ h.wd = "out") ∧ h.no = none ∧ h.mom = 0)) ∧ 0 ≤ h.mom ∧ h.mom ≤ 30
def Small (v : Int) : Prop := -1000000 ≤ v ∧ v ≤ 1000000
section
variable {P : Program} {w : World} {K : PySem.W.Frag} {mg : Str → Option Value} {base : Heap}
def sp_law_thing (K : PySem.W.Frag) : Sp := fun vs H Q _ => ∃ f c : Addr, vs = [.ref f] ∧ Flow H f c ∧ ∀ (v : Int) (H' : Hp), Small v → Flow H' f c → But f H H' → Q (.int v) H'
theorem ok_law_thing {f : Addr} {fd : FuncData} (F : Fun K "_law_thing" "_law_thing" s_law_thing f fd) (T : Top w K mg) : FnOk P w K mg base CX0 2 f fd ["_law_flow_here"] (sp_law_thing K) := by
  obtain ⟨f_law_pick, fd_law_pick, F_law_pick, b_law_pick, m_law_pick⟩ := T.d_law_pick
  have G_law_pick := ok_law_pick (P := P) (w := w) (base := base) F_law_pick T
  refine F.ok sc_law_thing (fun vs H Q E h => ?_) (fun cdv A outer s H vs Q E hr h => ?_)
  · obtain ⟨f, c, rfl, _⟩ := h
    rfl
  obtain ⟨f, c, rfl, hF, q⟩ := h
  refine ⟨_, (pss_cons (ps_if (pt_cmpR op_gt (pe_call G_law_pick (hr.mono (by decide)) (by rfl) m_law_pick F_law_pick.kp b_law_pick .nil pass0 (pa_cons (pv 0) (pa_cons pe_int pa_nil))) pe_int (nomark _)) (pss_one (ps_ret (pe_op op_sub (pe_call G_law_pick (hr.mono (by decide)) (by rfl) m_law_pick F_law_pick.kp b_law_pick .nil pass0 (pa_cons (pv 0) (pa_cons pe_int pa_nil))) pe_int))) pss_nil)
      (pss_one (ps_ret (pe_op op_sub (pe_call G_law_pick (hr.mono (by decide)) (by rfl) m_law_pick F_law_pick.kp b_law_pick .nil pass0 (pa_cons (pv 0) (pa_cons pe_int pa_nil))) pe_int)))), ?_⟩
  refine ⟨_, rfl, f, c, 3, rfl, by decide, by decide +kernel, hF, fun v1 H1 a1 b1 F1 B1 => ⟨_, _, rfl, rfl, _, rfl, if_bl (fun _ => ?_) (fun _ => ?_)⟩⟩
  · exact ⟨_, rfl, f, c, 7, rfl, by decide, by decide +kernel, F1, fun v2 H2 a2 b2 F2 B2 => ⟨_, _, rfl, rfl, q _ _ ⟨by omega, by omega⟩ F2 (B1.trans B2)⟩⟩
  · exact ⟨_, rfl, f, c, 2000001, rfl, by decide, by decide +kernel, F1, fun v2 H2 a2 b2 F2 B2 => ⟨_, _, rfl, rfl, q _ _ ⟨by omega, by omega⟩ F2 (B1.trans B2)⟩⟩
def sp_law_needs (K : PySem.W.Frag) : Sp := fun vs H Q _ => ∃ (r : Addr) (wd : Str) (l : List V), vs = [.ref r] ∧ SqT K H r (.str wd :: l) ∧ ∀ H', Same H H' → Q (.int (needs wd)) H'
theorem ok_law_needs {f : Addr} {fd : FuncData} (F : Fun K "_law_needs" "_law_needs" s_law_needs f fd) (T : Top w K mg) : FnOk P w K mg base CX0 1 f fd ["_law_rule_here"] (sp_law_needs K) := by
  refine F.ok sc_law_needs (fun vs H Q E h => ?_) (fun cdv A outer s H vs Q E hr h => ?_)
  · obtain ⟨r, wd, l, rfl, _⟩ := h
    rfl
  obtain ⟨r, wd, l, rfl, hR, q⟩ := h
  unfold needs at q
  refine ⟨_, (pss_cons (ps_if (pt_cmpR (op_in_seqK K rfl) (pe_ix (ix_tupK K rfl) (pv 0) pe_int (fun _ _ => rfl)) (pe_tup (pa_cons pe_str (pa_cons pe_str pa_nil))) (by with_unfolding_all rfl)) (pss_one (ps_ret pe_int)) pss_nil)
      (pss_cons (ps_if (pt_cmpR (op_in_seqK K rfl) (pe_ix (ix_tupK K rfl) (pv 0) pe_int (fun _ _ => rfl)) (pe_tup (pa_cons pe_str (pa_cons pe_str (pa_cons pe_str pa_nil)))) (by with_unfolding_all rfl)) (pss_one (ps_ret pe_int)) pss_nil)
      (pss_one (ps_ret (pe_op op_add pe_int (pe_callTy call_int1 (by rfl) T.m_int (by decide +kernel) (pa_cons (pe_cmpR op_eq (pe_ix (ix_tupK K rfl) (pv 0) pe_int (fun _ _ => rfl)) pe_str (nomark _)) pa_nil))))))), ?_⟩
  refine ⟨_, rfl, r, _, _, _, rfl, rfl, hR, atI_nat (j := 0) rfl, (by show 2 ≤ sizeLine; decide), fun p np => ⟨p, _, rfl, .inr (SqT.of upd_same), rfl, rfl, _, rfl, if_in (zs := ["in", "always"]) (fun e => ?_) (fun e => ?_)⟩⟩
  · have q := q _ (same_new (o := .tup [V.str "in", V.str "always"]) np)
    rw [if_pos e] at q
    exact q
  have s1 := same_new (o := .tup [V.str "in", V.str "always"]) np
  refine ⟨_, rfl, r, _, _, _, rfl, rfl, same_seqT s1 hR, atI_nat (j := 0) rfl, (by show 3 ≤ sizeLine; decide), fun p2 np2 => ⟨p2, _, rfl, .inr (SqT.of upd_same), rfl, rfl, _, rfl, if_in (zs := ["out", "same", "times"]) (fun e2 => ?_) (fun e2 => ?_)⟩⟩
  · have q := q _ (s1.trans (same_new (o := .tup [V.str "out", V.str "same", V.str "times"]) np2))
    rw [if_neg e, if_pos e2] at q
    exact q
  have s2 := s1.trans (same_new (o := .tup [V.str "out", V.str "same", V.str "times"]) np2)
  have q := q _ s2
  rw [if_neg e, if_neg e2] at q
  refine ⟨_, rfl, r, _, _, _, rfl, rfl, same_seqT s2 hR, atI_nat (j := 0) rfl, rfl, .inr ⟨_, rfl, _, _, rfl, rfl, ?_⟩⟩
  by_cases k : wd = "pick"
  · rw [if_pos k] at q
    rw [decide_eq_true (show V.str wd = V.str "pick" by rw [k])]
    exact q
  · rw [if_neg k] at q
    rw [decide_eq_false (show ¬ V.str wd = V.str "pick" from fun z => k (V.str.inj z))]
    exact q
theorem nine_at {m : Int} (h0 : 0 ≤ m) (h9 : m < 9) : ∃ wd : Str, wd ∈ nine ∧ atI (nine.map V.str) m = some (.str wd) ∧ (m < 1 → needs wd ≤ 0) ∧ (m < 3 → needs wd ≤ 1) ∧ (m < 8 → needs wd ≤ 2) ∧ needs wd ≤ 3 ∧ 0 ≤ needs wd := by
  have : m = 0 ∨ m = 1 ∨ m = 2 ∨ m = 3 ∨ m = 4 ∨ m = 5 ∨ m = 6 ∨ m = 7 ∨ m = 8 := by omega
  rcases this with rfl | rfl | rfl | rfl | rfl | rfl | rfl | rfl | rfl
  · exact ⟨"always", by decide +kernel, rfl, by decide +kernel, by decide +kernel, by decide +kernel, by decide +kernel, by decide +kernel⟩
  · exact ⟨"same", by decide +kernel, rfl, by decide +kernel, by decide +kernel, by decide +kernel, by decide +kernel, by decide +kernel⟩
  · exact ⟨"times", by decide +kernel, rfl, by decide +kernel, by decide +kernel, by decide +kernel, by decide +kernel, by decide +kernel⟩
  · exact ⟨"sum", by decide +kernel, rfl, by decide +kernel, by decide +kernel, by decide +kernel, by decide +kernel, by decide +kernel⟩
  · exact ⟨"gap", by decide +kernel, rfl, by decide +kernel, by decide +kernel, by decide +kernel, by decide +kernel, by decide +kernel⟩
  · exact ⟨"below", by decide +kernel, rfl, by decide +kernel, by decide +kernel, by decide +kernel, by decide +kernel, by decide +kernel⟩
  · exact ⟨"most", by decide +kernel, rfl, by decide +kernel, by decide +kernel, by decide +kernel, by decide +kernel, by decide +kernel⟩
  · exact ⟨"least", by decide +kernel, rfl, by decide +kernel, by decide +kernel, by decide +kernel, by decide +kernel, by decide +kernel⟩
  · exact ⟨"pick", by decide +kernel, rfl, by decide +kernel, by decide +kernel, by decide +kernel, by decide +kernel, by decide +kernel⟩
def sp_law_rule (K : PySem.W.Frag) : Sp := fun vs H Q _ => ∃ (f c : Addr) (m : Int), vs = [.ref f, .int m] ∧ 0 ≤ m ∧ Flow H f c ∧
  ∀ (r : Addr) (h : HR) (H' : Hp), H' r = some (.tup (ruleL h)) → GoodRule h → needs h.wd ≤ m → 0 ≤ needs h.wd → h.mom = 0 → Flow H' f c → But f H H' → Q (.ref r) H'
theorem ok_law_rule {f : Addr} {fd : FuncData} (F : Fun K "_law_rule" "_law_rule" s_law_rule f fd) (T : Top w K mg) : FnOk P w K mg base CX0 3 f fd ["_law_flow_here", "_law_most"] (sp_law_rule K) := by
  obtain ⟨f_law_pick, fd_law_pick, F_law_pick, b_law_pick, m_law_pick⟩ := T.d_law_pick
  have G_law_pick := ok_law_pick (P := P) (w := w) (base := base) F_law_pick T
  obtain ⟨f_law_thing, fd_law_thing, F_law_thing, b_law_thing, m_law_thing⟩ := T.d_law_thing
  have G_law_thing := ok_law_thing (P := P) (w := w) (base := base) F_law_thing T
  refine F.ok sc_law_rule (fun vs H Q E h => ?_) (fun cdv A outer s H vs Q E hr h => ?_)
  · obtain ⟨f, c, m, rfl, _⟩ := h
    rfl
  obtain ⟨f, c, m, rfl, m0, hF, q⟩ := h
  refine ⟨_, (pss_cons (ps_set (i := 2) sc_law_rule.nd rfl (Or.inl rfl) (pe_lst (pa_cons pe_str (pa_cons pe_str (pa_cons pe_str (pa_cons pe_str (pa_cons pe_str (pa_cons pe_str (pa_cons pe_str (pa_cons pe_str (pa_cons pe_str pa_nil)))))))))))
      (pss_cons (ps_set (i := 3) sc_law_rule.nd rfl (Or.inl rfl) (pe_ix (ix_listK K rfl) (pv 2) (pe_call G_law_pick (hr.mono (by decide)) (by rfl) m_law_pick F_law_pick.kp b_law_pick .nil pass0 (pa_cons (pv 0) (pa_cons (pe_ix (ix_listK K rfl) (pe_lst (pa_cons pe_int (pa_cons pe_int (pa_cons pe_int (pa_cons pe_int pa_nil))))) (pe_callB (call_min2 rfl) (by rfl) T.m_min (by decide +kernel) (pa_cons pe_int (pa_cons (pv 1) pa_nil))) (fun _ _ => rfl)) pa_nil))) (fun _ _ => rfl)))
      (pss_cons (ps_if (pt_cmpR op_eq (pv 3) pe_str (nomark _)) (pss_one (ps_ret (pe_tup (pa_cons (pv 3) (pa_cons (pe_op op_sub (pe_call G_law_pick (hr.mono (by decide)) (by rfl) m_law_pick F_law_pick.kp b_law_pick .nil pass0 (pa_cons (pv 0) (pa_cons pe_int pa_nil))) pe_int) pa_nil))))) pss_nil)
      (pss_cons (ps_if (pt_cmpR op_eq (pv 3) pe_str (nomark _)) (pss_one (ps_ret (pe_tup (pa_cons (pv 3) (pa_cons (pe_call G_law_thing (hr.mono (by decide)) (by rfl) m_law_thing F_law_thing.kp b_law_thing .nil pass0 (pa_cons (pv 0) pa_nil)) pa_nil))))) pss_nil)
      (pss_one (ps_ret (pe_tup (pa_cons (pv 3) pa_nil)))))))), ?_⟩
  refine ⟨(by show 9 ≤ sizeLine; decide), fun wl nwl => ?_⟩
  have F1 : Flow (upd H wl (.lst (nine.map V.str))) f c := hF.new nwl
  refine ⟨_, rfl, _, rfl, (by show 4 ≤ sizeLine; decide), fun cl ncl => ?_⟩
  have F2 : Flow (upd (upd H wl (.lst (nine.map V.str))) cl (.lst [V.int 1, V.int 3, V.int 8, V.int 9])) f c := F1.new ncl
  have B2 : But f H (upd (upd H wl (.lst (nine.map V.str))) cl (.lst [V.int 1, V.int 3, V.int 8, V.int 9])) := (But.refl.new nwl).new ncl
  obtain ⟨j, hj, j1, j9, jn⟩ : ∃ j : Int, atI [V.int 1, V.int 3, V.int 8, V.int 9] (if m < 3 then m else 3) = some (.int j) ∧ 1 ≤ j ∧ j ≤ 9 ∧ ((j = 1 ∧ m = 0) ∨ (j = 3 ∧ m = 1) ∨ (j = 8 ∧ m = 2) ∨ (j = 9 ∧ 3 ≤ m)) := by
    by_cases k : m < 3
    · rw [if_pos k]
      have : m = 0 ∨ m = 1 ∨ m = 2 := by omega
      rcases this with rfl | rfl | rfl
      · exact ⟨1, rfl, by decide, by decide, by decide⟩
      · exact ⟨3, rfl, by decide, by decide, by decide⟩
      · exact ⟨8, rfl, by decide, by decide, by decide⟩
    · rw [if_neg k]
      exact ⟨9, rfl, by decide, by decide, by omega⟩
  refine ⟨_, rfl, _, _, rfl, cl, _, _, _, rfl, rfl, SqL.of upd_same, hj, f, c, j, rfl, by omega, ?_, F2, fun v H1 v0 v1 F3 B3 => ?_⟩
  · have : j = 1 ∨ j = 3 ∨ j = 8 ∨ j = 9 := by omega
    rcases this with rfl | rfl | rfl | rfl <;> decide +kernel
  obtain ⟨wd, hw, hat, n1, n3, n8, n9, n0⟩ := nine_at v0 (by omega)
  have hn : needs wd ≤ m := by
    rcases jn with ⟨rfl, rfl⟩ | ⟨rfl, rfl⟩ | ⟨rfl, rfl⟩ | ⟨rfl, k⟩
    · exact n1 v1
    · exact n3 v1
    · exact n8 v1
    · omega
  have hwl : H1 wl = some (.lst (nine.map V.str)) := B3 _ _ (same_new ncl _ _ upd_same) (hF.ne nwl)
  refine ⟨wl, _, _, _, rfl, rfl, SqL.of hwl, hat, ?_⟩
  have BB := B2.trans B3
  refine ⟨_, rfl, rfl, _, rfl, if_str (fun e => ?_) (fun e => ?_)⟩
  · refine ⟨_, rfl, _, rfl, f, c, 19, rfl, by decide, by decide +kernel, F3, fun v2 H2 a2 b2 F4 B4 => ⟨_, _, rfl, rfl, (by show 2 ≤ sizeLine; decide), fun r nr => ?_⟩⟩
    exact q r ⟨wd, some (v2 - 9), 0⟩ _ upd_same ⟨hw, ⟨fun _ => .inl e, fun _ => rfl⟩, fun n en => by cases en; exact ⟨by omega, by omega⟩⟩ hn n0 rfl (F4.new nr) ((BB.trans B4).new nr)
  refine ⟨_, rfl, rfl, _, rfl, if_str (fun e2 => ?_) (fun e2 => ?_)⟩
  · refine ⟨_, rfl, _, rfl, f, c, rfl, F3, fun v2 H2 s2 F4 B4 => ⟨(by show 2 ≤ sizeLine; decide), fun r nr => ?_⟩⟩
    exact q r ⟨wd, some v2, 0⟩ _ upd_same ⟨hw, ⟨fun _ => .inr e2, fun _ => rfl⟩, fun n en => by cases en; exact s2⟩ hn n0 rfl (F4.new nr) ((BB.trans B4).new nr)
  · refine ⟨_, rfl, (by show 1 ≤ sizeLine; decide), fun r nr => ?_⟩
    exact q r ⟨wd, none, 0⟩ _ upd_same ⟨hw, ⟨(fun z => nomatch z), fun z => absurd z (fun z => z.elim e e2)⟩, (fun n en => nomatch en)⟩ hn n0 rfl (F3.new nr) (BB.new nr)
def sp_law_shuffled (K : PySem.W.Frag) : Sp := fun vs H Q _ => ∃ (f c l : Addr) (xs : List V), vs = [.ref f, .ref l] ∧ SqL K H l xs ∧ l ≠ f ∧ xs.length ≤ 500 ∧ Flow H f c ∧
  ∀ (p : Addr) (ys : List V) (H' : Hp), ys.Perm xs → H p = none → H' p = some (.lst ys) → Flow H' f c → But f H H' → Q (.ref p) H'
theorem But.seqL {K : PySem.W.Frag} {f a : Addr} {H H1 : Hp} {xs : List V} (b : But f H H1) (h : SqL K H a xs) (n : a ≠ f) : SqL K H1 a xs := by
  rcases h with h | h
  · left
    rcases h with h | ⟨o, h⟩
    · exact .inl (b _ _ h n)
    · exact .inr ⟨o, b _ _ h n⟩
  · exact .inr h
theorem same_seqL {K : PySem.W.Frag} {a : Addr} {H H1 : Hp} {xs : List V} (b : Same H H1) (h : SqL K H a xs) : SqL K H1 a xs := by
  rcases h with h | h
  · left
    rcases h with h | ⟨o, h⟩
    · exact .inl (b _ _ h)
    · exact .inr ⟨o, b _ _ h⟩
  · exact .inr h
theorem log_small {m : Nat} (h : m ≤ 500) : ((m : Int)).natAbs.log2 < 9000 := by
  rw [Int.natAbs_natCast]
  exact Nat.lt_of_le_of_lt (Nat.log2_le_self m) (by omega)
theorem perm_erase {α : Type} : ∀ {l : List α} {j : Nat} {y : α}, l[j]? = some y → (y :: l.eraseIdx j).Perm l
  | [], _, _, h => nomatch h
  | a :: l, 0, y, h => by
    cases h
    exact List.Perm.refl _
  | a :: l, j + 1, y, h => by
    have ih : (y :: l.eraseIdx j).Perm l := perm_erase h
    exact (List.Perm.swap a y _).trans (ih.cons a)
theorem ok_law_shuffled {f : Addr} {fd : FuncData} (F : Fun K "_law_shuffled" "_law_shuffled" s_law_shuffled f fd) (T : Top w K mg) : FnOk P w K mg base CX0 2 f fd ["_law_flow_here", "_law_some"] (sp_law_shuffled K) := by
  obtain ⟨f_law_pick, fd_law_pick, F_law_pick, b_law_pick, m_law_pick⟩ := T.d_law_pick
  have G_law_pick := ok_law_pick (P := P) (w := w) (base := base) F_law_pick T
  refine F.ok sc_law_shuffled (fun vs H Q E h => ?_) (fun cdv A outer s H vs Q E hr h => ?_)
  · obtain ⟨f, c, l, xs, rfl, _⟩ := h
    rfl
  obtain ⟨f, c, l, xs, rfl, hL, nl, hlen, hF, q⟩ := h
  refine ⟨_, (pss_cons (ps_set (i := 2) sc_law_shuffled.nd rfl (Or.inr rfl) (pe_callTy (call_list_ofK K rfl) (by rfl) T.m_list (by decide +kernel) (pa_cons (pv 1) pa_nil)))
      (pss_one (ps_ret (pe_lc (own := [("_law_k", 3)]) (g := gName 3) (tt := tYes) (by rfl) sc_law_shuffled.nd (pi_range1 (by rfl) T.m_range (pa_cons (pe_callB (call_len_seqK K rfl) (by rfl) T.m_len (by decide +kernel) (pa_cons (pv 1) pa_nil)) pa_nil)) (blkOk_by (own := [("_law_k", 3)]) (N := N_law_shuffled) (sc := defScope s_law_shuffled) (by decide +kernel)) (fun _ _ _ _ _ => (pg_name (i := 3) sc_law_shuffled.nd rfl (Or.inl rfl))) (fun _ _ _ _ _ => pts_nil) (fun _ _ _ _ _ => (pe_bmK K rfl PySem.F.plainAttrs_list PySem.F.slot_list_pop PySem.F.type_list_pop mt_popAt (pv 2) (pa_cons (pe_call G_law_pick (hr.mono (by decide)) (by rfl) m_law_pick F_law_pick.kp b_law_pick .nil pass0 (pa_cons (pv 0) (pa_cons (pe_callB (call_len_seqK K rfl) (by rfl) T.m_len (by decide +kernel) (pa_cons (pv 2) pa_nil)) pa_nil))) pa_nil))))))), ?_⟩
  refine ⟨_, rfl, l, _, rfl, .inl hL, fun lf nlf => ?_⟩
  refine ⟨_, rfl, l, _, rfl, .inl (same_seqL (same_new nlf) hL), _, rfl, by omega, (by omega), fun D nD => ?_⟩
  have F1 : Flow (upd H lf (.lst xs)) f c := hF.new nlf
  have dl : D ≠ lf := (ne_of_none upd_same nD).symm
  refine lc_range (lo := 0) (n := xs.length) (fun i H5 => ∃ acc rest : List V, H5 D = some (.lst acc) ∧ H5 lf = some (.lst rest) ∧ acc.length = i ∧ rest.length + i = xs.length ∧ (acc ++ rest).Perm xs ∧ Flow H5 f c ∧ But f H H5)
    ⟨[], xs, upd_same, by rw [upd_ne dl.symm]; exact upd_same, rfl, by omega, List.Perm.refl _, F1.new nD, (But.refl.new nlf).new nD⟩ ?_ ?_
  · rintro i H5 hi ⟨acc, rest, hD, hl, ha, hr2, hp, F5, B5⟩
    refine ⟨rfl, yes_in ?_⟩
    refine ⟨_, rfl, .inl ⟨rfl, _, SqL.of hl⟩, _, rfl, _, rfl, lf, _, rfl, .inl (SqL.of hl), f, c, ((rest.length : Nat) : Int), rfl, by omega, log_small (by omega), F5, fun v H6 v0 v1 F6 B6 => ?_⟩
    have hl6 := B6 _ _ hl (hF.ne nlf)
    have hv : v.toNat < rest.length := by omega
    have e1 : seqIndex? v rest.length = some v.toNat := by
      rw [seqIndex_of v0 (by omega)]
    refine ⟨lf, rest, v, v.toNat, rest[v.toNat], rfl, rfl, hl6, by omega, by omega, e1, List.getElem?_eq_getElem hv, ?_⟩
    have hD6 := B6 _ _ hD (fun e => by rw [e] at nD; rw [show upd H lf (.lst xs) f = H f from upd_ne (hF.ne nlf).symm] at nD; obtain ⟨_, _, _, _, _, e1, _⟩ := hF; rw [e1] at nD; cases nD)
    refine ⟨acc, by rw [upd_ne dl]; exact hD6, small1000 (by omega), acc ++ [rest[v.toNat]], rest.eraseIdx v.toNat, upd_same, by rw [upd_ne dl.symm]; exact upd_same, by rw [List.length_append, ha]; rfl, ?_, ?_, ?_, ?_⟩
    · rw [List.length_eraseIdx, if_pos hv]
      omega
    · refine List.Perm.trans ?_ hp
      rw [List.append_assoc]
      exact List.Perm.append_left acc (perm_erase (List.getElem?_eq_getElem hv))
    · have dc : D ≠ c := fun e => by
        rw [e] at nD
        obtain ⟨_, _, _, _, _, _, e1, _⟩ := F1
        rw [e1] at nD
        cases nD
      exact (F6.lst (hF.ne nlf) (hF.nec nlf)).lst (F1.ne nD) dc
    · exact ((B5.trans B6).own nlf).own (same_none (same_new nlf) nD)
  · rintro H5 ⟨acc, rest, hD, hl, ha, hr2, hp, F5, B5⟩
    have er : rest = [] := by
      cases rest with
      | nil => rfl
      | cons a l => simp at hr2
    subst er
    rw [List.append_nil] at hp
    exact q D acc H5 hp (same_none (same_new nlf) nD) hD F5 B5
end
/-! ### the hands of a drawn room -/
def unS : V → Str
  | .str s => s
  | _ => ""
theorem perm_strs {ys : List V} {zs : List Str} (h : ys.Perm (zs.map V.str)) : ∃ ss : List Str, ys = ss.map V.str ∧ ss.Perm zs := by
  refine ⟨ys.map unS, ?_, ?_⟩
  · rw [List.map_map]
    symm
    refine (List.map_congr_left (g := id) fun y hy => ?_).trans (List.map_id _)
    obtain ⟨z, _, e⟩ := List.mem_map.mp (h.mem_iff.mp hy)
    subst e
    rfl
  · have q := h.map unS
    rw [List.map_map] at q
    have e : zs.map (unS ∘ V.str) = zs := (List.map_congr_left (g := id) fun z _ => rfl).trans (List.map_id _)
    rw [e] at q
    exact q
theorem flat_rep {α : Type} (x : α) : ∀ n : Nat, (List.replicate n [x]).flatten = List.replicate n x
  | 0 => rfl
  | n + 1 => by
    rw [List.replicate_succ, List.flatten_cons, flat_rep x n]
    rfl
def cnt (ss : List Str) : Nat := (ss.filter fun s => !decide (s = ("in" : Str))).length
theorem cnt_le (ss : List Str) : cnt ss ≤ ss.length := List.length_filter_le ..
theorem cut_drop (xs : List V) (k : Nat) : cutV xs (some ((k : Nat) : Int)) none = xs.drop k := by
  unfold cutV
  rw [HT.sIx_nat, HT.sIx_none]
  by_cases h : k ≤ xs.length
  · rw [Nat.min_eq_left h]
    exact List.take_of_length_le (by rw [List.length_drop]; exact Nat.le_refl _)
  · rw [Nat.min_eq_right (by omega), Nat.sub_self, List.take_zero, List.drop_eq_nil_of_le (by omega)]
structure HInv (f c sl hh : Addr) (ss : List Str) (H0 H : Hp) (i : Nat) (vs : List V) (hs : List HR) (left : Int) : Prop where
  fl : Flow H f c
  bt : But f H0 H
  hsl : H sl = some (.lst (ss.map V.str))
  hhh : H hh = some (.lst vs)
  al : All2 (HandAt H) vs hs
  len : hs.length = i
  good : ∀ h ∈ hs, GoodHand h
  lf : (cnt (ss.drop i) : Int) ≤ left
  sum : (hs.map fun h => needs h.wd).sum + left = 20
  nz : ∀ h ∈ hs, 0 ≤ needs h.wd
  one : ("hand" : Str) ∈ ss.take i → ∃ h ∈ hs, h.wd ≠ "out"
  n1 : sl ≠ f
  n2 : sl ≠ hh
  n3 : hh ≠ f
  n4 : hh ≠ c
  n5 : H0 hh = none
section
variable {f c sl hh : Addr} {ss : List Str} {H0 H H' : Hp} {i : Nat} {vs : List V} {hs : List HR} {left : Int}
theorem HInv.but (s : HInv f c sl hh ss H0 H i vs hs left) (F : Flow H' f c) (b : But f H H') : HInv f c sl hh ss H0 H' i vs hs left :=
  { s with fl := F, bt := s.bt.trans b, hsl := b _ _ s.hsl s.n1, hhh := b _ _ s.hhh s.n3, al := s.al.imp fun _ _ k => k.keep (TK.but s.fl b) }
theorem HInv.new {p : Addr} {o : HO} (s : HInv f c sl hh ss H0 H i vs hs left) (n : H p = none) : HInv f c sl hh ss H0 (upd H p o) i vs hs left :=
  { s with fl := s.fl.new n, bt := s.bt.new n, hsl := same_new n _ _ s.hsl, hhh := same_new n _ _ s.hhh, al := s.al.imp fun _ _ k => k.keep (TK.new n) }
theorem HInv.same (s : HInv f c sl hh ss H0 H i vs hs left) (k : Same H H') : HInv f c sl hh ss H0 H' i vs hs left :=
  { s with fl := s.fl.same k, bt := s.bt.same k, hsl := k _ _ s.hsl, hhh := k _ _ s.hhh, al := s.al.imp fun _ _ z => z.keep (TK.same k) }
theorem HInv.step {x : V} {h : HR} {sd : Str} (s : HInv f c sl hh ss H0 H i vs hs left) (hx : HandAt H x h) (g : GoodHand h) (z : 0 ≤ needs h.wd) (k : needs h.wd + (cnt (ss.drop (i + 1)) : Int) ≤ left) (e : ss[i]? = some sd) (o : sd = "hand" → h.wd ≠ "out") :
    HInv f c sl hh ss H0 (upd H hh (.lst (vs ++ [x]))) (i + 1) (vs ++ [x]) (hs ++ [h]) (left - needs h.wd) := by
  refine { s with fl := s.fl.lst s.n3 s.n4, bt := s.bt.own s.n5, hsl := by rw [upd_ne s.n2]; exact s.hsl, hhh := upd_same, al := (s.al.snoc hx).imp fun _ _ z => z.keep (TK.lst s.hhh), len := by rw [List.length_append, s.len]; rfl, good := ?_, lf := by omega, sum := ?_, nz := ?_, one := ?_ }
  · intro y hy
    rcases List.mem_append.mp hy with hy | hy
    · exact s.good y hy
    · obtain rfl : y = h := by simpa using hy
      exact g
  · have := s.sum
    rw [List.map_append, List.sum_append]
    simp only [List.map_cons, List.map_nil, List.sum_cons, List.sum_nil]
    omega
  · intro y hy
    rcases List.mem_append.mp hy with hy | hy
    · exact s.nz y hy
    · obtain rfl : y = h := by simpa using hy
      exact z
  · intro hm
    rw [List.take_add_one, e] at hm
    rcases List.mem_append.mp hm with hm | hm
    · obtain ⟨y, h1, h2⟩ := s.one hm
      exact ⟨y, List.mem_append_left _ h1, h2⟩
    · have e2 : ("hand" : Str) = sd := by simpa using hm
      exact ⟨h, List.mem_append_right _ (by simp), o e2.symm⟩
end
theorem cnt_cons {ss : List Str} {i : Nat} {sd : Str} (e : ss[i]? = some sd) : cnt (ss.drop i) = (if sd = "in" then 0 else 1) + cnt (ss.drop (i + 1)) := by
  have hi := (List.getElem?_eq_some_iff.mp e).1
  have e2 : ss.drop i = sd :: ss.drop (i + 1) := by
    rw [List.drop_eq_getElem_cons hi, (List.getElem?_eq_some_iff.mp e).2]
  rw [e2]
  unfold cnt
  rw [List.filter_cons]
  by_cases k : sd = "in"
  · rw [if_pos k, decide_eq_true k]
    simp
  · rw [if_neg k, decide_eq_false k]
    simp only [Bool.not_false, if_true, List.length_cons]
    omega
section
variable {P : Program} {w : World} {K : PySem.W.Frag} {mg : Str → Option Value} {base : Heap}
structure HandsOk (hs : List HR) : Prop where
  len : hs.length ≤ 12
  good : ∀ h ∈ hs, GoodHand h
  sum : (hs.map fun h => needs h.wd).sum ≤ 20
  nz : ∀ h ∈ hs, 0 ≤ needs h.wd
  one : ∃ h ∈ hs, h.wd ≠ "out"
def sp_law_hands (K : PySem.W.Frag) : Sp := fun vs H Q _ => ∃ (f c : Addr) (m : Int), vs = [.ref f, .int m] ∧ 1 ≤ m ∧ m ≤ 8 ∧ Flow H f c ∧
  ∀ (p : Addr) (xs : List V) (hs : List HR) (H' : Hp), H p = none → H' p = some (.lst xs) → All2 (HandAt H') xs hs → HandsOk hs → Flow H' f c → But f H H' → Q (.ref p) H'
theorem ok_law_hands {f : Addr} {fd : FuncData} (F : Fun K "_law_hands" "_law_hands" s_law_hands f fd) (T : Top w K mg) : FnOk P w K mg base CX0 4 f fd ["_law_flow_here", "_law_many"] (sp_law_hands K) := by
  obtain ⟨f_law_shuffled, fd_law_shuffled, F_law_shuffled, b_law_shuffled, m_law_shuffled⟩ := T.d_law_shuffled
  have G_law_shuffled := ok_law_shuffled (P := P) (w := w) (base := base) F_law_shuffled T
  obtain ⟨f_law_rule, fd_law_rule, F_law_rule, b_law_rule, m_law_rule⟩ := T.d_law_rule
  have G_law_rule := ok_law_rule (P := P) (w := w) (base := base) F_law_rule T
  obtain ⟨f_law_needs, fd_law_needs, F_law_needs, b_law_needs, m_law_needs⟩ := T.d_law_needs
  have G_law_needs := ok_law_needs (P := P) (w := w) (base := base) F_law_needs T
  obtain ⟨f_law_pick, fd_law_pick, F_law_pick, b_law_pick, m_law_pick⟩ := T.d_law_pick
  have G_law_pick := ok_law_pick (P := P) (w := w) (base := base) F_law_pick T
  refine F.ok sc_law_hands (fun vs H Q E h => ?_) (fun cdv A outer s H vs Q E hr h => ?_)
  · obtain ⟨f, c, m, rfl, _⟩ := h
    rfl
  obtain ⟨f, c, m, rfl, m1, m8, hF, q⟩ := h
  let R1 : TS := fun D' σ' H' => D'.rt = Q ∧ ∃ (sl : Addr) (ss : List Str), σ' = [some (.ref f), some (.int m), some (.ref sl), none, none, none, none, none, none, none] ∧ H' sl = some (.lst (ss.map V.str)) ∧ sl ≠ f ∧ ss.length ≤ 12 ∧ ("hand" : Str) ∈ ss ∧ (∀ s ∈ ss, s = "in" ∨ s = "out" ∨ s = "hand") ∧ Flow H' f c ∧ But f H H'
  refine ⟨_, (pss_cons (ps_set (i := 2) sc_law_hands.nd rfl (Or.inl rfl) (pe_op op_cat (pe_op op_cat (pe_op op_rep (pe_lst (pa_cons pe_str pa_nil)) (pe_call G_law_pick (hr.mono (by decide)) (by rfl) m_law_pick F_law_pick.kp b_law_pick .nil pass0 (pa_cons (pv 0) (pa_cons pe_int pa_nil)))) (pe_op op_rep (pe_lst (pa_cons pe_str pa_nil)) (pe_call G_law_pick (hr.mono (by decide)) (by rfl) m_law_pick F_law_pick.kp b_law_pick .nil pass0 (pa_cons (pv 0) (pa_cons pe_int pa_nil))))) (pe_op op_rep (pe_lst (pa_cons pe_str pa_nil)) (pv 1))))
      (pss_cons (ps_set (i := 2) sc_law_hands.nd rfl (Or.inl rfl) (pe_call G_law_shuffled (hr.mono (by decide)) (by rfl) m_law_shuffled F_law_shuffled.kp b_law_shuffled .nil pass0 (pa_cons (pv 0) (pa_cons (pv 2) pa_nil))))
      (PSs.to (pss_cons (ps_set (i := 3) sc_law_hands.nd rfl (Or.inl rfl) pe_int)
      (pss_cons (ps_set (i := 4) sc_law_hands.nd rfl (Or.inl rfl) (pe_lst pa_nil))
      (pss_cons (ps_for PassesOwn.never rfl (pi_enumK K rfl (by rfl) T.m_enumerate (pa_cons (pv 2) pa_nil)) (pg_tupK K rfl rfl (pgs_cons (pg_name (i := 5) sc_law_hands.nd rfl (Or.inl rfl)) (pgs_cons (pg_name (i := 6) sc_law_hands.nd rfl (Or.inl rfl)) pgs_nil)))
        (pss_cons (ps_if (pt_cmpR op_eq (pv 6) pe_str (nomark _)) (pss_cons (ps_set (i := 7) sc_law_hands.nd rfl (Or.inl rfl) (pe_callB (call_len_seqK K rfl) (by rfl) T.m_len (by decide +kernel) (pa_cons (pe_lc (own := [("_law_other", 8)]) (g := gName 8) (by rfl) sc_law_hands.nd (pi_listK K rfl (pe_slice (sl_listK K rfl) (pv 2) (po_some (pe_op op_add (pv 5) pe_int)) po_none)) (blkOk_by (own := [("_law_other", 8)]) (N := N_law_hands) (sc := defScope s_law_hands) (by decide +kernel)) (fun _ _ _ _ _ => (pg_name (i := 8) sc_law_hands.nd rfl (Or.inl rfl))) (fun _ _ _ _ _ => pts_one (pt_cmpR op_ne (pv 8) pe_str (nomark _))) (fun _ _ _ _ _ => (pv 8))) pa_nil)))
      (pss_cons (ps_set (i := 9) sc_law_hands.nd rfl (Or.inl rfl) (pe_call G_law_rule (hr.mono (by decide)) (by rfl) m_law_rule F_law_rule.kp b_law_rule .nil pass0 (pa_cons (pv 0) (pa_cons (pe_op op_sub (pv 3) (pv 7)) pa_nil))))
      (pss_one (ps_expr (pe_bmK K rfl PySem.F.plainAttrs_list PySem.F.slot_list_append PySem.F.type_list_append mt_append (pv 4) (pa_cons (pe_tup (pa_cons (pv 9) (pa_cons (pe_call G_law_pick (hr.mono (by decide)) (by rfl) m_law_pick F_law_pick.kp b_law_pick .nil pass0 (pa_cons (pv 0) (pa_cons (pe_ix (ix_listK K rfl) (pe_lst (pa_cons pe_int (pa_cons pe_int (pa_cons pe_int pa_nil)))) (pe_call G_law_pick (hr.mono (by decide)) (by rfl) m_law_pick F_law_pick.kp b_law_pick .nil pass0 (pa_cons (pv 0) (pa_cons pe_int pa_nil))) (fun _ _ => rfl)) pa_nil))) pa_nil))) pa_nil)))))) (pss_one (ps_expr (pe_bmK K rfl PySem.F.plainAttrs_list PySem.F.slot_list_append PySem.F.type_list_append mt_append (pv 4) (pa_cons (pe_tup (pa_cons (pe_tup (pa_cons (pv 6) pa_nil)) (pa_cons pe_int pa_nil))) pa_nil)))))
      (pss_one (ps_set (i := 3) sc_law_hands.nd rfl (Or.inl rfl) (pe_op op_sub (pv 3) (pe_call G_law_needs (hr.mono (by decide)) (by rfl) m_law_needs F_law_needs.kp b_law_needs .nil pass0 (pa_cons (pe_ix (ix_tupK K rfl) (pe_ix (ix_listK K rfl) (pv 4) (pe_un un_neg pe_int) (fun _ _ => rfl)) pe_int (fun _ _ => rfl)) pa_nil)))))))
      (pss_one (ps_ret (pv 4)))))) R1 ?tail1))), ?_⟩
  case tail1 =>
    rintro D' σ' H1 ⟨eD, sl, ss, rfl, hsl, nsl, hlen, hhand, hall, F1, B1⟩
    refine ⟨(by show 0 ≤ sizeLine; decide), fun hh nhh => ?_⟩
    have I0 : HInv f c sl hh ss H (upd H1 hh (.lst [])) 0 [] [] 20 :=
      { fl := F1.new nhh, bt := B1.new nhh, hsl := same_new nhh _ _ hsl, hhh := upd_same, al := .nil, len := rfl, good := (fun _ h => nomatch h), lf := by have := cnt_le (ss.drop 0); rw [List.length_drop] at this; omega, sum := rfl, nz := (fun _ h => nomatch h), one := (fun h => nomatch h), n1 := nsl, n2 := ne_of_none hsl nhh, n3 := F1.ne nhh, n4 := F1.nec nhh, n5 := B1.none nhh (F1.ne nhh) }
    refine ⟨_, rfl, sl, _, rfl, SqL.of I0.hsl, for_it (n := ss.length) (fun i σ H2 => ∃ (vs : List V) (hs : List HR) (left : Int) (v5 v6 v7 v8 v9 : Option V), σ = [some (.ref f), some (.int m), some (.ref sl), some (.int left), some (.ref hh), v5, v6, v7, v8, v9] ∧ HInv f c sl hh ss H H2 i vs hs left)
      ⟨[], [], 20, none, none, none, none, none, rfl, I0⟩ ?_ ?_ ?_ ?_⟩
    · rintro i σ H2 hi ⟨vs, hs, left, v5, v6, v7, v8, v9, rfl, I⟩
      exact ⟨_, _, SqL.of I.hsl, by rw [List.getElem?_map, List.getElem?_eq_getElem hi]; rfl⟩
    · rintro σ H2 ⟨vs, hs, left, v5, v6, v7, v8, v9, rfl, I⟩
      exact ⟨_, SqL.of I.hsl, by rw [List.length_map]; exact Nat.le_refl _⟩
    · rintro i x σ H2 H3 hi ⟨vs, hs, left, v5, v6, v7, v8, v9, rfl, I⟩ ⟨t, y, rfl, nt, rfl, fy⟩
      have ei : ss[i]? = some ss[i] := List.getElem?_eq_getElem hi
      obtain ⟨sd, hsd⟩ : ∃ sd, sd = ss[i] := ⟨_, rfl⟩
      rw [← hsd] at ei
      have ey : y = V.str sd := by
        have := fy _ (SqL.of I.hsl)
        rw [List.getElem?_map, ei] at this
        exact (Option.some.inj this).symm
      subst ey
      have I1 := I.new (o := .tup [V.int ((i : Nat) : Int), V.str sd]) nt
      have hc1 := cnt_cons ei
      have hl := I.lf
      have sz : vs.length < sizeLine := small1000 (by rw [I.al.length, I.len]; omega)
      refine ⟨t, _, rfl, SqT.of upd_same, rfl, _, _, rfl, _, _, rfl, rfl, ?_⟩
      refine ⟨_, rfl, rfl, _, rfl, if_str (fun e => ?_) (fun e => ?_)⟩
      · -- a hand
        refine ⟨_, rfl, _, rfl, _, _, rfl, rfl, _, rfl, sl, _, rfl, SqL.of I1.hsl, fun cp ncp => ?_⟩
        have I2 := I1.new (o := .lst (cutV (ss.map V.str) (some (((i : Nat) : Int) + 1)) none)) ncp
        have ecut : cutV (ss.map V.str) (some (((i : Nat) : Int) + 1)) none = (ss.drop (i + 1)).map V.str := by
          rw [show ((i : Nat) : Int) + 1 = ((i + 1 : Nat) : Int) by omega, cut_drop, List.map_drop]
        refine ⟨cp, rfl, ⟨_, SqL.of upd_same⟩, fun D nD => lc_list (K := K) (a := cp) (xs := cutV (ss.map V.str) (some (((i : Nat) : Int) + 1)) none) (fun j H5 => ∃ acc : List V, H5 D = some (.lst acc) ∧ acc.length = cnt ((ss.drop (i + 1)).take j) ∧ H5 cp = some (.lst (cutV (ss.map V.str) (some (((i : Nat) : Int) + 1)) none)) ∧ HInv f c sl hh ss H H5 i vs hs left ∧ D ≠ cp ∧ D ≠ f ∧ D ≠ c ∧ D ≠ sl ∧ D ≠ hh ∧ H D = Option.none)
          ⟨[], upd_same, rfl, same_new nD _ _ upd_same, I2.new nD, (ne_of_none upd_same nD).symm, I2.fl.ne nD, I2.fl.nec nD, (ne_of_none I2.hsl nD).symm, (ne_of_none I2.hhh nD).symm, I2.bt.none nD (I2.fl.ne nD)⟩ (fun j H5 _ ⟨_, _, _, h, _⟩ => SqL.of h) ?_ ?_⟩
        · rintro j z H5 hz ⟨acc, hD, hacc, hcp, I5, d1, d2, d3, d4, d5, d6⟩
          rw [ecut, List.getElem?_map] at hz
          cases ez : (ss.drop (i + 1))[j]? with
          | none => rw [ez] at hz; cases hz
          | some so =>
            rw [ez] at hz
            obtain rfl : V.str so = z := Option.some.inj hz
            refine ⟨rfl, _, rfl, rfl, _, rfl, if_bl (fun k => ?_) (fun k => ?_)⟩
            · have k2 : ¬ so = "in" := fun y => by
                rw [y] at k
                exact absurd k (by decide +kernel)
              refine ⟨_, rfl, acc, hD, ?_, acc ++ [V.str so], upd_same, ?_, by rw [upd_ne d1.symm]; exact hcp, ?_, d1, d2, d3, d4, d5, d6⟩
              · rw [hacc]
                have := cnt_le ((ss.drop (i + 1)).take j)
                rw [List.length_take, List.length_drop] at this
                exact small1000 (by omega)
              · rw [List.length_append, hacc, List.take_add_one, ez]
                unfold cnt
                rw [List.filter_append, List.length_append]
                simp [k2]
              · exact { I5 with fl := I5.fl.lst d2 d3, bt := I5.bt.own d6, hsl := by rw [upd_ne d4.symm]; exact I5.hsl, hhh := by rw [upd_ne d5.symm]; exact I5.hhh, al := I5.al.imp fun _ _ y => y.keep (TK.lst hD) }
            · have k2 : so = "in" := by
                by_cases y : so = "in"
                · exact y
                · have k3 : (!decide (V.str so = V.str "in")) = false := k
                  rw [decide_eq_false (fun y2 => y (V.str.inj y2))] at k3
                  cases k3
              refine ⟨acc, hD, ?_, hcp, I5, d1, d2, d3, d4, d5, d6⟩
              rw [hacc, List.take_add_one, ez]
              unfold cnt
              rw [List.filter_append, List.length_append]
              simp [k2]
        · rintro H5 ⟨acc, hD, hacc, hcp, I5, d1, d2, d3, d4, d5, d6⟩
          have hacc2 : acc.length = cnt (ss.drop (i + 1)) := by
            rw [hacc, List.take_of_length_le]
            rw [ecut, List.length_map]
            exact Nat.le_refl _
          have hm0 : 0 ≤ left - ((acc.length : Nat) : Int) := by
            have hne : ¬ sd = "in" := by rw [e]; decide +kernel
            rw [hacc2]
            rw [hc1, if_neg hne] at hl
            omega
          refine ⟨D, _, rfl, .inl (SqL.of hD), ?_⟩
          refine ⟨_, rfl, _, rfl, _, rfl, _, _, rfl, rfl, f, c, _, rfl, hm0, I5.fl, fun r hR H6 hr6 gR n1 n0 mo F6 B6 => ?_⟩
          have I6 := I5.but F6 B6
          refine ⟨_, rfl, .inl ⟨rfl, _, SqL.of I6.hhh⟩, _, rfl, _, rfl, (by show 3 ≤ sizeLine; decide), fun ml nml => ?_⟩
          have I7 := I6.new (o := .lst [V.int 5, V.int 5, V.int 31]) nml
          refine ⟨_, rfl, f, c, 3, rfl, by decide, by decide +kernel, I7.fl, fun z H8 z0 z3 F8 B8 => ?_⟩
          have I8 := I7.but F8 B8
          have hml := B8 _ _ upd_same (I6.fl.ne nml)
          obtain ⟨mm, hmm, mk⟩ : ∃ mm : Int, atI [V.int 5, V.int 5, V.int 31] z = some (.int mm) ∧ (mm = 5 ∨ mm = 31) := by
            have : z = 0 ∨ z = 1 ∨ z = 2 := by omega
            rcases this with rfl | rfl | rfl
            · exact ⟨5, rfl, .inl rfl⟩
            · exact ⟨5, rfl, .inl rfl⟩
            · exact ⟨31, rfl, .inr rfl⟩
          refine ⟨ml, _, _, _, rfl, rfl, SqL.of hml, hmm, f, c, mm, rfl, by omega, (by rcases mk with rfl | rfl <;> decide +kernel), I8.fl, fun mo2 H9 o0 o1 F9 B9 => ?_⟩
          have I9 := I8.but F9 B9
          refine ⟨(by show 2 ≤ sizeLine; decide), fun t2 nt2 => ?_⟩
          have I10 := I9.new (o := .tup [V.ref r, V.int mo2]) nt2
          have sz10 : vs.length < sizeLine := sz
          refine ⟨hh, _, _, rfl, rfl, I10.hhh, sz10, ?_⟩
          have k9 : TK H6 H9 := ((TK.new nml).trans (TK.but I7.fl B8)).trans (TK.but I8.fl B9)
          have hx : HandAt (upd H9 t2 (.tup [V.ref r, V.int mo2])) (V.ref t2) ⟨hR.wd, hR.no, mo2⟩ := ⟨t2, r, rfl, upd_same, TK.new nt2 _ _ (k9 _ _ hr6)⟩
          have gd : GoodHand ⟨hR.wd, hR.no, mo2⟩ := ⟨.inl ⟨gR.wd, gR.no, gR.big⟩, o0, (show mo2 ≤ 30 by omega)⟩
          have nout : hR.wd ≠ "out" := fun y => by
            have := gR.wd
            rw [y] at this
            exact absurd this (by decide +kernel)
          have I11 := I10.step (h := ⟨hR.wd, hR.no, mo2⟩) hx gd n0 (by show needs hR.wd + _ ≤ left; rw [hacc2] at n1; omega) ei (fun _ => nout)
          refine ⟨_, rfl, _, rfl, 1, rfl, hh, _, -1, _, rfl, rfl, SqL.of I11.hhh, atI_last _ _, t2, _, _, _, rfl, rfl, SqT.of (TK.lst I10.hhh _ _ upd_same), atI_nat (j := 0) rfl, r, hR.wd, _, rfl, SqT.of (TK.lst I10.hhh _ _ (TK.new nt2 _ _ (k9 _ _ hr6))), fun H12 s12 => ⟨_, _, rfl, rfl, ?_⟩⟩
          exact ⟨_, _, _, _, _, _, _, _, rfl, I11.same s12⟩
      · -- a door
        refine ⟨_, rfl, .inl ⟨rfl, _, SqL.of I1.hhh⟩, _, rfl, (by show 1 ≤ sizeLine; decide), fun r nr => ⟨(by show 2 ≤ sizeLine; decide), fun t2 nt2 => ?_⟩⟩
        have I2 := (I1.new (o := .tup [V.str sd]) nr).new (o := .tup [V.ref r, V.int 0]) nt2
        refine ⟨hh, _, _, rfl, rfl, I2.hhh, sz, ?_⟩
        have hsd2 : sd = "in" ∨ sd = "out" := by
          rcases hall sd (List.mem_of_getElem? ei) with y | y | y
          · exact .inl y
          · exact .inr y
          · exact absurd y e
        have hn : needs sd = (if sd = "in" then 0 else 1) := by
          rcases hsd2 with y | y <;> rw [y] <;> decide +kernel
        have hx : HandAt (upd (upd (upd H2 t (.tup [V.int ((i : Nat) : Int), V.str sd])) r (.tup [V.str sd])) t2 (.tup [V.ref r, V.int 0])) (V.ref t2) ⟨sd, none, 0⟩ := ⟨t2, r, rfl, upd_same, same_new nt2 _ _ upd_same⟩
        have I3 := I2.step (h := ⟨sd, none, 0⟩) hx ⟨.inr ⟨hsd2, rfl, rfl⟩, (show (0 : Int) ≤ 0 by decide), (show (0 : Int) ≤ 30 by decide)⟩ (by show 0 ≤ needs sd; rw [hn]; split <;> decide) (by
          show needs sd + _ ≤ left
          rw [hn]
          rw [hc1] at hl
          by_cases y : sd = "in"
          · rw [if_pos y] at hl ⊢; omega
          · rw [if_neg y] at hl ⊢; omega) ei (fun y => absurd y e)
        refine ⟨_, rfl, _, rfl, 1, rfl, hh, _, -1, _, rfl, rfl, SqL.of I3.hhh, atI_last _ _, t2, _, _, _, rfl, rfl, SqT.of (TK.lst I2.hhh _ _ upd_same), atI_nat (j := 0) rfl, r, sd, _, rfl, SqT.of (TK.lst I2.hhh _ _ (same_new nt2 _ _ upd_same)), fun H12 s12 => ⟨_, _, rfl, rfl, ?_⟩⟩
        exact ⟨_, _, _, _, _, _, _, _, rfl, I3.same s12⟩
    · rintro σ H2 ⟨vs, hs, left, v5, v6, v7, v8, v9, rfl, I⟩
      refine ⟨_, rfl, ?_⟩
      rw [eD]
      refine q hh vs hs H2 I.n5 I.hhh I.al ⟨by rw [I.len]; exact hlen, I.good, ?_, I.nz, I.one (by rw [List.take_length]; exact hhand)⟩ I.fl I.bt
      have := I.sum
      have := I.lf
      omega
  refine ⟨(by show 1 ≤ sizeLine; decide), fun l1 nl1 => ?_⟩
  refine ⟨_, rfl, f, c, 3, rfl, by decide, by decide +kernel, hF.new nl1, fun v1 H1 a1 b1 F1 B1 => ?_⟩
  have g1 := B1 _ _ upd_same (hF.ne nl1)
  have small : ∀ v : Int, 0 ≤ v → v ≤ 8 → [V.str "in"].length * v.toNat ≤ sizeLine := fun v v0 v8 => little (by show 1 * v.toNat ≤ 1000; omega)
  refine ⟨l1, v1, _, rfl, rfl, g1, by omega, by omega, small v1 a1 (by omega), fun p1 np1 => ?_⟩
  rw [flat_rep]
  have F2 := F1.new (o := .lst (List.replicate v1.toNat (V.str "in"))) np1
  refine ⟨(by show 1 ≤ sizeLine; decide), fun l2 nl2 => ?_⟩
  refine ⟨_, rfl, f, c, 3, rfl, by decide, by decide +kernel, F2.new nl2, fun v2 H3 a2 b2 F3 B3 => ?_⟩
  have g2 := B3 _ _ upd_same (F2.ne nl2)
  have h1 := B3 _ _ (same_new nl2 _ _ upd_same) (F1.ne np1)
  refine ⟨l2, v2, _, rfl, rfl, g2, by omega, by omega, small v2 a2 (by omega), fun p2 np2 => ?_⟩
  rw [flat_rep]
  have F4 := F3.new (o := .lst (List.replicate v2.toNat (V.str "out"))) np2
  refine ⟨p1, p2, _, _, rfl, rfl, same_new np2 _ _ h1, upd_same, ?_, fun p3 np3 => ?_⟩
  · rw [List.length_replicate, List.length_replicate]; exact little (by omega)
  have F5 := F4.new (o := .lst (List.replicate v1.toNat (V.str "in") ++ List.replicate v2.toNat (V.str "out"))) np3
  refine ⟨(by show 1 ≤ sizeLine; decide), fun l4 nl4 => ⟨_, rfl, l4, m, _, rfl, rfl, upd_same, by omega, by omega, small m (by omega) m8, fun p5 np5 => ?_⟩⟩
  rw [flat_rep]
  have F6 := F5.new (o := .lst [V.str "hand"]) nl4
  have F7 := F6.new (o := .lst (List.replicate m.toNat (V.str "hand"))) np5
  refine ⟨p3, p5, _, _, rfl, rfl, same_new np5 _ _ (same_new nl4 _ _ upd_same), upd_same, ?_, fun p6 np6 => ?_⟩
  · rw [List.length_append, List.length_replicate, List.length_replicate, List.length_replicate]; exact little (by omega)
  refine ⟨_, rfl, _, rfl, f, c, p6, _, rfl, SqL.of upd_same, F7.ne np6, ?_, F7.new np6, fun p ys H8 hp np hy F8 B8 => ?_⟩
  · rw [List.length_append, List.length_append, List.length_replicate, List.length_replicate, List.length_replicate]; omega
  have ez : (List.replicate v1.toNat (V.str "in") ++ List.replicate v2.toNat (V.str "out")) ++ List.replicate m.toNat (V.str "hand") = ((List.replicate v1.toNat ("in" : Str) ++ List.replicate v2.toNat ("out" : Str)) ++ List.replicate m.toNat ("hand" : Str)).map V.str := by
    rw [List.map_append, List.map_append, List.map_replicate, List.map_replicate, List.map_replicate]
  rw [ez] at hp
  obtain ⟨ss, rfl, hss⟩ := perm_strs hp
  have pf : p ≠ f := fun y => by
    rw [y] at np
    obtain ⟨_, _, _, _, _, e1, _⟩ := F7.new (o := .lst ((List.replicate v1.toNat (V.str "in") ++ List.replicate v2.toNat (V.str "out")) ++ List.replicate m.toNat (V.str "hand"))) np6
    rw [e1] at np
    cases np
  refine ⟨rfl, p, ss, rfl, hy, pf, ?_, ?_, ?_, F8, But.trans ((((((((((But.refl.new nl1).trans B1).new np1).new nl2).trans B3).new np2).new np3).new nl4).new np5).new np6) B8⟩
  · rw [hss.length_eq, List.length_append, List.length_append, List.length_replicate, List.length_replicate, List.length_replicate]; omega
  · refine hss.mem_iff.mpr (List.mem_append_right _ (List.mem_replicate.mpr ⟨by omega, rfl⟩))
  · intro s hs
    rcases List.mem_append.mp (hss.mem_iff.mp hs) with hs | hs
    · rcases List.mem_append.mp hs with hs | hs
      · exact .inl (List.mem_replicate.mp hs).2
      · exact .inr (.inl (List.mem_replicate.mp hs).2)
    · exact .inr (.inr (List.mem_replicate.mp hs).2)
end
/-! ### rules as data -/
abbrev ruleD (h : HR) : List PyData := .str h.wd :: (match h.no with | none => [] | some n => [.int n])
theorem rule_dp {K : PySem.W.Frag} {H : Hp} {r : Addr} {h : HR} (e : H r = some (.tup (ruleL h))) : Dp K H (.ref r) (.tuple (ruleD h)) := by
  obtain ⟨wd, no, mom⟩ := h
  cases no with
  | none => exact .tup (SqT.of e) (.cons (.str _) .nil)
  | some n => exact .tup (SqT.of e) (.cons (.str _) (.cons (.int _) .nil))
theorem rule_shaped {h : HR} (k : PyData.canLay0 (.str h.wd) = true) : SeqAt.shaped (.tuple (ruleD h)) = true := by
  obtain ⟨wd, no, mom⟩ := h
  have k : PyData.canLay0 (.str wd) = true := k
  cases no <;> simp [SeqAt.shaped, PyData.canLay0, PyData.canLayAll0, PyData.depth, PyData.depthAll] <;> simpa [PyData.canLay0] using k
theorem GoodHand.lay {h : HR} (g : GoodHand h) : PyData.canLay0 (.str h.wd) = true := by
  have : h.wd ∈ nine ∨ h.wd = "in" ∨ h.wd = "out" := g.1.elim (fun k => .inl k.wd) (fun k => .inr k.1)
  rcases this with k | k | k
  · unfold nine at k
    simp only [List.mem_cons, List.not_mem_nil, or_false] at k
    rcases k with k | k | k | k | k | k | k | k | k <;> rw [k] <;> decide +kernel
  · rw [k]; decide +kernel
  · rw [k]; decide +kernel
theorem one_shaped {z : Str} (k : PyData.canLay0 (.str z) = true) : SeqAt.shaped (.tuple [.str z]) = true := rule_shaped (h := ⟨z, none, 0⟩) k
theorem at0 {xs : List V} {i : Nat} {v : V} (h : xs[i]? = some v) : atI xs (0 + ((i : Nat) : Int)) = some v := by
  rw [Int.zero_add]
  exact atI_nat h
theorem rule_eqv (h : HR) (z : Str) : PyData.eqv (.tuple (ruleD h)) (.tuple [.str z]) = (decide (h.wd = z) && h.no.isNone) := by
  obtain ⟨wd, no, mom⟩ := h
  have e : (wd == z) = decide (wd = z) := by
    by_cases k : wd = z
    · rw [k, decide_eq_true rfl]; exact beq_self_eq_true z
    · rw [decide_eq_false k]; exact beq_eq_false_iff_ne.mpr k
  cases no with
  | none =>
    show (wd == z && true) = (decide (wd = z) && true)
    rw [e]
  | some n =>
    show (wd == z && false) = (decide (wd = z) && false)
    rw [Bool.and_false, Bool.and_false]
theorem GoodHand.door {h : HR} (g : GoodHand h) (z : Str) (hz : z = "in" ∨ z = "out") : (decide (h.wd = z) && h.no.isNone) = decide (h.wd = z) := by
  by_cases k : h.wd = z
  · rw [decide_eq_true k, Bool.true_and]
    rcases g.1 with g | g
    · have := g.wd
      rw [k] at this
      rcases hz with rfl | rfl <;> exact absurd this (by decide +kernel)
    · rw [g.2.1]; rfl
  · rw [decide_eq_false k]; rfl
theorem GoodHand.mom0 {h : HR} (g : GoodHand h) (z : h.wd = "in" ∨ h.wd = "out") : h.mom = 0 := by
  rcases g.1 with k | k
  · have := k.wd
    rcases z with z | z <;> rw [z] at this <;> exact absurd this (by decide +kernel)
  · exact k.2.2
/-! ### numbers in lists -/
abbrev nV (n : Nat) : V := .int (n : Nat)
def unN : V → Nat
  | .int i => i.toNat
  | _ => 0
def unI : V → Int
  | .int i => i
  | _ => 0
theorem perm_inv {α : Type} {f : α → V} {g : V → α} (k : ∀ a, g (f a) = a) {ys : List V} {zs : List α} (h : ys.Perm (zs.map f)) : ∃ ss : List α, ys = ss.map f ∧ ss.Perm zs := by
  refine ⟨ys.map g, ?_, ?_⟩
  · rw [List.map_map]
    symm
    refine (List.map_congr_left (g := id) fun y hy => ?_).trans (List.map_id _)
    obtain ⟨z, _, e⟩ := List.mem_map.mp (h.mem_iff.mp hy)
    subst e
    show f (g (f z)) = f z
    rw [k]
  · have q := h.map g
    rw [List.map_map] at q
    have e : zs.map (g ∘ f) = zs := (List.map_congr_left (g := id) fun z _ => k z).trans (List.map_id _)
    rw [e] at q
    exact q
def nd (hs : List HR) (j : Nat) : Nat := match hs[j]? with | some h => (needs h.wd).toNat | none => 0
def tkTo (hs : List HR) : Nat → List Nat
  | 0 => []
  | n + 1 => tkTo hs n ++ List.replicate (nd hs n) n
theorem tk_count (hs : List HR) (k : Nat) : ∀ n, (tkTo hs n).count k = if k < n then nd hs k else 0
  | 0 => by simp [tkTo]
  | n + 1 => by
    unfold tkTo
    rw [List.count_append, tk_count hs k n, List.count_replicate]
    by_cases h1 : k < n
    · have h2 : ¬ (n == k) = true := by simp; omega
      rw [if_pos h1, if_neg h2, if_pos (show k < n + 1 by omega), Nat.add_zero]
    · by_cases h2 : n = k
      · subst h2
        rw [if_neg h1, if_pos (beq_self_eq_true n), if_pos (show n < n + 1 by omega), Nat.zero_add]
      · have h3 : ¬ (n == k) = true := by simpa using h2
        rw [if_neg h1, if_neg h3, if_neg (show ¬ k < n + 1 by omega)]
theorem tk_mem (hs : List HR) : ∀ n k, k ∈ tkTo hs n → k < n
  | 0, k, h => nomatch h
  | n + 1, k, h => by
    rcases List.mem_append.mp h with h | h
    · exact Nat.lt_succ_of_lt (tk_mem hs n k h)
    · rw [(List.mem_replicate.mp h).2]; exact Nat.lt_succ_self n
theorem tk_len (hs : List HR) (z : ∀ h ∈ hs, 0 ≤ needs h.wd) : ∀ n, n ≤ hs.length → ((tkTo hs n).length : Int) = ((hs.take n).map fun h => needs h.wd).sum
  | 0, _ => rfl
  | n + 1, hn => by
    have e : hs[n]? = some hs[n] := List.getElem?_eq_getElem (by omega)
    unfold tkTo
    rw [List.length_append, List.length_replicate, List.take_add_one, e, List.map_append, List.sum_append, Int.natCast_add, tk_len hs z n (by omega)]
    unfold nd
    rw [e]
    have := z hs[n] (List.getElem_mem _)
    simp only [Option.toList, List.map_cons, List.map_nil, List.sum_cons, List.sum_nil]
    omega
structure RoomOk (hs : List HR) (bs : List BR) : Prop where
  hands : hs.length ≤ 12
  good : ∀ h ∈ hs, GoodHand h
  ends : ∀ b ∈ bs, b.one < hs.length ∧ b.to < hs.length
  out : ∀ b ∈ bs, ∀ h, hs[b.one]? = some h → h.wd ≠ "out"
  th : ∀ b ∈ bs, b.th.length ≤ 6 ∧ ∀ x ∈ b.th, Small x
  rank : ∃ rk : Nat → Int, ∀ b ∈ bs, b.th = [] → rk b.one < rk b.to
  count : ∀ k h, hs[k]? = some h → (((bs.map BR.to).count k : Nat) : Int) = needs h.wd
  many : bs.length ≤ 20
structure RoomAt (H : Hp) (r : Addr) (hs : List HR) (bs : List BR) : Prop where
  ex : ∃ (ha ba : Addr) (hv bv : List V), H r = some (.tup [.ref ha, .ref ba]) ∧ H ha = some (.tup hv) ∧ H ba = some (.tup bv) ∧ All2 (HandAt H) hv hs ∧ All2 (BeltAt H) bv bs
theorem RoomAt.keep {H H' : Hp} {r : Addr} {hs : List HR} {bs : List BR} (a : RoomAt H r hs bs) (k : TK H H') : RoomAt H' r hs bs := by
  obtain ⟨ha, ba, hv, bv, e1, e2, e3, a1, a2⟩ := a.ex
  exact ⟨ha, ba, hv, bv, k _ _ e1, k _ _ e2, k _ _ e3, a1.imp fun _ _ z => z.keep k, a2.imp fun _ _ z => z.keep k⟩
section
variable {P : Program} {w : World} {K : PySem.W.Frag} {mg : Str → Option Value} {base : Heap}
def sp_law_room (K : PySem.W.Frag) : Sp := fun vs H Q _ => ∃ (f c : Addr) (m : Int), vs = [.ref f, .int m] ∧ 1 ≤ m ∧ m ≤ 8 ∧ Flow H f c ∧
  ∀ (r : Addr) (hs : List HR) (bs : List BR) (H' : Hp), RoomAt H' r hs bs → RoomOk hs bs → Flow H' f c → But f H H' → Q (.ref r) H'
/-- what stands while a room is drawn: the draws, the list of its hands -/
structure RI (f c hh : Addr) (H0 H : Hp) (xs : List V) (hs : List HR) : Prop where
  fl : Flow H f c
  bt : But f H0 H
  lh : H hh = some (.lst xs)
  al : All2 (HandAt H) xs hs
  n1 : hh ≠ f
  n2 : H0 hh = none
section
variable {f c hh : Addr} {H0 H H' : Hp} {xs : List V} {hs : List HR}
theorem RI.but (s : RI f c hh H0 H xs hs) (F : Flow H' f c) (b : But f H H') : RI f c hh H0 H' xs hs :=
  { s with fl := F, bt := s.bt.trans b, lh := b _ _ s.lh s.n1, al := s.al.imp fun _ _ k => k.keep (TK.but s.fl b) }
theorem RI.new {p : Addr} {o : HO} (s : RI f c hh H0 H xs hs) (n : H p = none) : RI f c hh H0 (upd H p o) xs hs :=
  { s with fl := s.fl.new n, bt := s.bt.new n, lh := same_new n _ _ s.lh, al := s.al.imp fun _ _ k => k.keep (TK.new n) }
theorem RI.same (s : RI f c hh H0 H xs hs) (k : Same H H') : RI f c hh H0 H' xs hs :=
  { s with fl := s.fl.same k, bt := s.bt.same k, lh := k _ _ s.lh, al := s.al.imp fun _ _ z => z.keep (TK.same k) }
theorem RI.lst {D : Addr} {as bs : List V} (s : RI f c hh H0 H xs hs) (h : H D = some (.lst as)) (d1 : D ≠ f) (d2 : D ≠ c) (d3 : D ≠ hh) (d4 : H0 D = none) : RI f c hh H0 (upd H D (.lst bs)) xs hs :=
  { s with fl := s.fl.lst d1 d2, bt := s.bt.own d4, lh := by rw [upd_ne d3.symm]; exact s.lh, al := s.al.imp fun _ _ z => z.keep (TK.lst h) }
end
theorem ok_law_room {f : Addr} {fd : FuncData} (F : Fun K "_law_room" "_law_room" s_law_room f fd) (T : Top w K mg) : FnOk P w K mg base CX0 5 f fd ["_law_flow_here", "_law_most"] (sp_law_room K) := by
  obtain ⟨f_law_hands, fd_law_hands, F_law_hands, b_law_hands, m_law_hands⟩ := T.d_law_hands
  have G_law_hands := ok_law_hands (P := P) (w := w) (base := base) F_law_hands T
  obtain ⟨f_law_shuffled, fd_law_shuffled, F_law_shuffled, b_law_shuffled, m_law_shuffled⟩ := T.d_law_shuffled
  have G_law_shuffled := ok_law_shuffled (P := P) (w := w) (base := base) F_law_shuffled T
  obtain ⟨f_law_pick, fd_law_pick, F_law_pick, b_law_pick, m_law_pick⟩ := T.d_law_pick
  have G_law_pick := ok_law_pick (P := P) (w := w) (base := base) F_law_pick T
  obtain ⟨f_law_needs, fd_law_needs, F_law_needs, b_law_needs, m_law_needs⟩ := T.d_law_needs
  have G_law_needs := ok_law_needs (P := P) (w := w) (base := base) F_law_needs T
  obtain ⟨f_law_thing, fd_law_thing, F_law_thing, b_law_thing, m_law_thing⟩ := T.d_law_thing
  have G_law_thing := ok_law_thing (P := P) (w := w) (base := base) F_law_thing T
  refine F.ok sc_law_room (fun vs H Q E h => ?_) (fun cdv A outer s H vs Q E hr h => ?_)
  · obtain ⟨f, c, m, rfl, _⟩ := h
    rfl
  obtain ⟨f, c, m, rfl, m1, m8, hF, q⟩ := h
  have hm9 : m.natAbs.log2 < 9000 := by
    obtain ⟨j, rfl⟩ : ∃ j : Nat, m = (j : Int) := ⟨m.toNat, by omega⟩
    exact log_small (by omega)
  let R1 : TS := fun D' σ' H' => D'.rt = Q ∧ ∃ (hh rk gv : Addr) (xs : List V) (hs : List HR) (is : List Int) (gs : List Nat), σ' = [some (.ref f), some (.int m), some (.ref hh), some (.ref rk), some (.ref gv), none, none, none, none, none, none] ∧ RI f c hh H H' xs hs ∧ HandsOk hs ∧ H' rk = some (.lst (is.map V.int)) ∧ is.length = hs.length ∧ H' gv = some (.lst (gs.map nV)) ∧ gs ≠ [] ∧ gs.length ≤ 12 ∧ (∀ k ∈ gs, ∃ h, hs[k]? = some h ∧ h.wd ≠ "out") ∧ rk ≠ f ∧ gv ≠ f
  let R2 : TS := fun D' σ' H' => D'.rt = Q ∧ ∃ (hh rk gv tk : Addr) (xs : List V) (hs : List HR) (is : List Int) (gs ts : List Nat) (v5 : Option V), σ' = [some (.ref f), some (.int m), some (.ref hh), some (.ref rk), some (.ref gv), v5, some (.ref tk), none, none, none, none] ∧ RI f c hh H H' xs hs ∧ HandsOk hs ∧ H' rk = some (.lst (is.map V.int)) ∧ is.length = hs.length ∧ H' gv = some (.lst (gs.map nV)) ∧ gs ≠ [] ∧ gs.length ≤ 12 ∧ (∀ k ∈ gs, ∃ h, hs[k]? = some h ∧ h.wd ≠ "out") ∧ rk ≠ f ∧ gv ≠ f ∧ tk ≠ f ∧ H' tk = some (.lst (ts.map nV)) ∧ ts = tkTo hs hs.length
  refine ⟨_, (pss_cons (ps_set (i := 2) sc_law_room.nd rfl (Or.inr rfl) (pe_call G_law_hands (hr.mono (by decide)) (by rfl) m_law_hands F_law_hands.kp b_law_hands .nil pass0 (pa_cons (pv 0) (pa_cons (pe_op op_add pe_int (pe_call G_law_pick (hr.mono (by decide)) (by rfl) m_law_pick F_law_pick.kp b_law_pick .nil pass0 (pa_cons (pv 0) (pa_cons (pv 1) pa_nil)))) pa_nil))))
      (pss_cons (ps_set (i := 3) sc_law_room.nd rfl (Or.inl rfl) (pe_call G_law_shuffled (hr.mono (by decide)) (by rfl) m_law_shuffled F_law_shuffled.kp b_law_shuffled .nil pass0 (pa_cons (pv 0) (pa_cons (pe_listRg rfl (by rfl) T.m_list (prg_1 (by rfl) T.m_range (pe_callB (call_len_seqK K rfl) (by rfl) T.m_len (by decide +kernel) (pa_cons (pv 2) pa_nil)))) pa_nil))))
      (pss_cons (ps_setLc (i := 4) (own := [("_law_k", 5)]) (g := gName 5) (by rfl) sc_law_room.nd rfl rfl (sw_true rfl rfl rfl (by decide +kernel)) (pi_range1 (by rfl) T.m_range (pa_cons (pe_callB (call_len_seqK K rfl) (by rfl) T.m_len (by decide +kernel) (pa_cons (pv 2) pa_nil)) pa_nil)) (blkOk_by (own := [("_law_k", 5)]) (N := N_law_room) (sc := defScope s_law_room) (by decide +kernel)) (fun _ _ _ _ _ => (pg_name (i := 5) sc_law_room.nd rfl (Or.inl rfl))) (fun _ _ _ _ _ => pts_one (pt_cmpR (op_neDK K rfl hr.units) (pe_ix (ix_tupK K rfl) (pe_ix (ix_listK K rfl) (pv 2) (pv 5) (fun _ _ => rfl)) pe_int (fun _ _ => rfl)) (pe_tup (pa_cons pe_str pa_nil)) (nomark _))) (fun _ _ _ _ _ => (pv 5)))
      (PSs.to (pss_cons (ps_set (i := 6) sc_law_room.nd rfl (Or.inl rfl) (pe_lst pa_nil))
      (pss_cons (ps_for PassesOwn.never rfl (pi_range1 (by rfl) T.m_range (pa_cons (pe_callB (call_len_seqK K rfl) (by rfl) T.m_len (by decide +kernel) (pa_cons (pv 2) pa_nil)) pa_nil)) (pg_name (i := 5) sc_law_room.nd rfl (Or.inl rfl))
        (pss_one (ps_set (i := 6) sc_law_room.nd rfl (Or.inl rfl) (pe_op op_cat (pv 6) (pe_op op_rep (pe_lst (pa_cons (pv 5) pa_nil)) (pe_call G_law_needs (hr.mono (by decide)) (by rfl) m_law_needs F_law_needs.kp b_law_needs .nil pass0 (pa_cons (pe_ix (ix_tupK K rfl) (pe_ix (ix_listK K rfl) (pv 2) (pv 5) (fun _ _ => rfl)) pe_int (fun _ _ => rfl)) pa_nil)))))))
      (PSs.to (pss_cons (ps_set (i := 7) sc_law_room.nd rfl (Or.inl rfl) (pe_lst pa_nil))
      (pss_cons (ps_for PassesOwn.never rfl (pi_listK K rfl (pe_call G_law_shuffled (hr.mono (by decide)) (by rfl) m_law_shuffled F_law_shuffled.kp b_law_shuffled .nil pass0 (pa_cons (pv 0) (pa_cons (pv 6) pa_nil)))) (pg_name (i := 8) sc_law_room.nd rfl (Or.inl rfl))
        (pss_cons (ps_set (i := 9) sc_law_room.nd rfl (Or.inl rfl) (pe_ix (ix_listK K rfl) (pv 4) (pe_call G_law_pick (hr.mono (by decide)) (by rfl) m_law_pick F_law_pick.kp b_law_pick .nil pass0 (pa_cons (pv 0) (pa_cons (pe_callB (call_len_seqK K rfl) (by rfl) T.m_len (by decide +kernel) (pa_cons (pv 4) pa_nil)) pa_nil))) (fun _ _ => rfl)))
      (pss_cons (ps_set (i := 10) sc_law_room.nd rfl (Or.inl rfl) (pe_ix (ix_listK K rfl) (pe_lst (pa_cons pe_int (pa_cons pe_int (pa_cons pe_int (pa_cons pe_int (pa_cons pe_int (pa_cons pe_int (pa_cons pe_int (pa_cons pe_int pa_nil))))))))) (pe_call G_law_pick (hr.mono (by decide)) (by rfl) m_law_pick F_law_pick.kp b_law_pick .nil pass0 (pa_cons (pv 0) (pa_cons pe_int pa_nil))) (fun _ _ => rfl)))
      (pss_cons (ps_if (pt_cmpR op_ge (pe_ix (ix_listK K rfl) (pv 3) (pv 9) (fun _ _ => rfl)) (pe_ix (ix_listK K rfl) (pv 3) (pv 8) (fun _ _ => rfl)) (nomark _)) (pss_one (ps_set (i := 10) sc_law_room.nd rfl (Or.inl rfl) (pe_callB (call_max2 rfl) (by rfl) T.m_max (by decide +kernel) (pa_cons pe_int (pa_cons (pv 10) pa_nil))))) pss_nil)
      (pss_one (ps_expr (pe_bmK K rfl PySem.F.plainAttrs_list PySem.F.slot_list_append PySem.F.type_list_append mt_append (pv 7) (pa_cons (pe_tup (pa_cons (pv 9) (pa_cons (pv 8) (pa_cons (pe_callTy (call_tuple_ofK K rfl) (by rfl) T.m_tuple (by decide +kernel) (pa_cons (pe_lc (own := [("_law_k", 5)]) (g := gName 5) (tt := tYes) (by rfl) sc_law_room.nd (pi_range1 (by rfl) T.m_range (pa_cons (pv 10) pa_nil)) (blkOk_by (own := [("_law_k", 5)]) (N := N_law_room) (sc := defScope s_law_room) (by decide +kernel)) (fun _ _ _ _ _ => (pg_name (i := 5) sc_law_room.nd rfl (Or.inl rfl))) (fun _ _ _ _ _ => pts_nil) (fun _ _ _ _ _ => (pe_call G_law_thing (hr.mono (by decide)) (by rfl) m_law_thing F_law_thing.kp b_law_thing .nil pass0 (pa_cons (pv 0) pa_nil)))) pa_nil)) pa_nil)))) pa_nil))))))))
      (pss_one (ps_ret (pe_tup (pa_cons (pe_callTy (call_tuple_ofK K rfl) (by rfl) T.m_tuple (by decide +kernel) (pa_cons (pv 2) pa_nil)) (pa_cons (pe_callTy (call_tuple_ofK K rfl) (by rfl) T.m_tuple (by decide +kernel) (pa_cons (pv 7) pa_nil)) pa_nil))))))) R2 ?tail2))) R1 ?tail1)))), ?_⟩
  case tail2 =>
    rintro D' σ' H1 ⟨eD, hh, rk, gv, tk, xs, hs, is, gs, ts, v5, rfl, I1, ok, hrk, lis, hgv, gne, glen, gok, nrk, ngv, ntk, htk, ets⟩
    have hx : xs.length = hs.length := I1.al.length
    have len12 := ok.len
    have lts : ts.length ≤ 20 := by
      have a := tk_len hs ok.nz hs.length (Nat.le_refl _)
      rw [List.take_length, ← ets] at a
      have := ok.sum
      omega
    refine ⟨(by show 0 ≤ sizeLine; decide), fun bl nbl => ?_⟩
    have I2 := I1.new (o := .lst []) nbl
    refine ⟨_, rfl, _, rfl, f, c, tk, _, rfl, SqL.of (same_new nbl _ _ htk), ntk, by rw [List.length_map]; omega, I2.fl, fun sh ys H3 hp nsh hsh F3 B3 => ?_⟩
    obtain ⟨tt, rfl, htt⟩ := perm_inv (f := nV) (g := unN) (fun n => by show ((n : Nat) : Int).toNat = n; omega) hp
    have I3 := I2.but F3 B3
    have bf : bl ≠ f := I1.fl.ne nbl
    have bc : bl ≠ c := I1.fl.nec nbl
    have hbl3 := B3 _ _ upd_same bf
    have bsh : bl ≠ sh := fun e => by rw [← e, upd_same] at nsh; cases nsh
    have bnone : H bl = Option.none := I1.bt.none nbl bf
    have rank : Nat → Int := fun k => is.getD k 0
    refine ⟨sh, rfl, ⟨_, SqL.of hsh⟩, for_list (K := K) (a := sh) (xs := tt.map nV) (fun i σ H4 => ∃ (bv : List V) (bs : List BR) (v5 v8 v9 v10 : Option V), σ = [some (.ref f), some (.int m), some (.ref hh), some (.ref rk), some (.ref gv), v5, some (.ref tk), some (.ref bl), v8, v9, v10] ∧ RI f c hh H H4 xs hs ∧ H4 rk = some (.lst (is.map V.int)) ∧ H4 gv = some (.lst (gs.map nV)) ∧ H4 sh = some (.lst (tt.map nV)) ∧ H4 bl = some (.lst bv) ∧ All2 (BeltAt H4) bv bs ∧ bs.map BR.to = tt.take i ∧
        (∀ b ∈ bs, b.one < hs.length ∧ (∀ h, hs[b.one]? = some h → h.wd ≠ "out") ∧ b.th.length ≤ 6 ∧ (∀ x ∈ b.th, Small x) ∧ (b.th = [] → is.getD b.one 0 < is.getD b.to 0)))
      ⟨[], [], v5, none, none, none, rfl, I3, B3 _ _ (same_new nbl _ _ hrk) nrk, B3 _ _ (same_new nbl _ _ hgv) ngv, hsh, hbl3, .nil, rfl, (fun _ h => nomatch h)⟩ (fun i σ H4 _ ⟨_, _, _, _, _, _, _, _, _, _, h, _⟩ => SqL.of h) ?_ ?_⟩
    · rintro i y σ H4 hi ⟨bv, bs, v5, v8, v9, v10, rfl, I4, hrk4, hgv4, hsh4, hbl4, al, em, hb⟩
      rw [List.getElem?_map] at hi
      cases et : tt[i]? with
      | none => rw [et] at hi; cases hi
      | some to =>
      rw [et] at hi
      obtain rfl : nV to = y := Option.some.inj hi
      have toL : to < hs.length := tk_mem hs _ _ (by rw [← ets]; exact htt.mem_iff.mp (List.mem_of_getElem? et))
      have il : i < 20 := by have := (List.getElem?_eq_some_iff.mp et).1; rw [htt.length_eq] at this; omega
      have lb : bs.length = i := by
        have := congrArg List.length em
        rw [List.length_map, List.length_take, Nat.min_eq_left (Nat.le_of_lt (List.getElem?_eq_some_iff.mp et).1)] at this
        exact this
      have g0 : 0 < gs.length := List.length_pos_iff.mpr gne
      refine ⟨_, rfl, _, rfl, _, rfl, gv, _, rfl, .inl (SqL.of hgv4), f, c, _, rfl, (by rw [List.length_map]; omega), (by rw [List.length_map]; exact log_small (by omega)), I4.fl, fun z H5 z0 z1 F5 B5 => ?_⟩
      rw [List.length_map] at z1
      have I5 := I4.but F5 B5
      have hgv5 := B5 _ _ hgv4 ngv
      obtain ⟨one, eo, ho⟩ : ∃ one, atI (gs.map nV) z = some (nV one) ∧ one ∈ gs := by
        have hk : z.toNat < gs.length := by omega
        have ek : z = ((z.toNat : Nat) : Int) := by omega
        refine ⟨gs[z.toNat], ?_, List.getElem_mem _⟩
        have q2 : atI (gs.map nV) ((z.toNat : Nat) : Int) = some (nV gs[z.toNat]) := atI_nat (by rw [List.getElem?_map, List.getElem?_eq_getElem hk]; rfl)
        rw [← ek] at q2
        exact q2
      obtain ⟨ho1, eh1, hout⟩ := gok one ho
      have oneL : one < hs.length := (List.getElem?_eq_some_iff.mp eh1).1
      refine ⟨gv, _, _, _, rfl, rfl, SqL.of hgv5, eo, ?_⟩
      refine ⟨(by show 8 ≤ sizeLine; decide), fun tl ntl => ?_⟩
      have I6 := I5.new (o := .lst [V.int 0, V.int 0, V.int 0, V.int 1, V.int 1, V.int 2, V.int 3, V.int 6]) ntl
      refine ⟨_, rfl, f, c, 8, rfl, by decide, by decide +kernel, I6.fl, fun y2 H7 y0 y8 F7 B7 => ?_⟩
      have I7 := I6.but F7 B7
      have htl := B7 _ _ upd_same (I5.fl.ne ntl)
      obtain ⟨tr, htr, tr0, tr6⟩ : ∃ tr : Int, atI [V.int 0, V.int 0, V.int 0, V.int 1, V.int 1, V.int 2, V.int 3, V.int 6] y2 = some (.int tr) ∧ 0 ≤ tr ∧ tr ≤ 6 := by
        have : y2 = 0 ∨ y2 = 1 ∨ y2 = 2 ∨ y2 = 3 ∨ y2 = 4 ∨ y2 = 5 ∨ y2 = 6 ∨ y2 = 7 := by omega
        rcases this with rfl | rfl | rfl | rfl | rfl | rfl | rfl | rfl
        · exact ⟨0, rfl, by decide, by decide⟩
        · exact ⟨0, rfl, by decide, by decide⟩
        · exact ⟨0, rfl, by decide, by decide⟩
        · exact ⟨1, rfl, by decide, by decide⟩
        · exact ⟨1, rfl, by decide, by decide⟩
        · exact ⟨2, rfl, by decide, by decide⟩
        · exact ⟨3, rfl, by decide, by decide⟩
        · exact ⟨6, rfl, by decide, by decide⟩
      refine ⟨tl, _, _, _, rfl, rfl, SqL.of htl, htr, ?_⟩
      have k7 : But f H4 H7 := (B5.new ntl).trans B7
      have hrk7 := k7 _ _ hrk4 nrk
      have hgv7 := k7 _ _ hgv4 ngv
      have shf : sh ≠ f := fun e => by rw [e] at nsh; obtain ⟨_, _, _, _, _, e1, _⟩ := I2.fl; rw [e1] at nsh; cases nsh
      have hsh7 := k7 _ _ hsh4 shf
      have hbl7 := k7 _ _ hbl4 bf
      have tk7 : TK H4 H7 := (TK.but I4.fl B5).trans ((TK.new ntl).trans (TK.but I6.fl B7))
      have al7 : All2 (BeltAt H7) bv bs := al.imp fun _ _ z => z.keep tk7
      have r1 : (is.map V.int)[one]? = some (.int (is.getD one 0)) := by
        rw [List.getElem?_map, List.getD_eq_getElem?_getD, List.getElem?_eq_getElem (by omega)]; rfl
      have r2 : (is.map V.int)[to]? = some (.int (is.getD to 0)) := by
        rw [List.getElem?_map, List.getD_eq_getElem?_getD, List.getElem?_eq_getElem (by omega)]; rfl
      have bvl : bv.length = i := by rw [al.length, lb]
      -- the end of a turn, with so many trays
      refine ⟨_, rfl, _, rfl, rk, _, _, _, rfl, rfl, SqL.of hrk7, atI_nat r1, _, rfl, _, rfl, rk, _, _, _, rfl, rfl, SqL.of hrk7, atI_nat r2, _, _, rfl, rfl, _, rfl, if_bl (fun kk => ?_) (fun kk => ?_)⟩
      · refine ⟨_, rfl, _, _, rfl, ?_⟩
        generalize ht : (if tr > 1 then tr else 1) = tn
        have tn0 : 0 ≤ tn := by rw [← ht]; split <;> omega
        have tn6 : tn ≤ 6 := by rw [← ht]; split <;> omega
        have ttt : tn.toNat = 0 → is.getD one 0 < is.getD to 0 := fun e => by
          exfalso
          have : 1 ≤ tn := by rw [← ht]; split <;> omega
          omega
        refine ⟨_, rfl, .inl ⟨rfl, _, SqL.of hbl7⟩, _, rfl, _, rfl, _, rfl, _, rfl, by omega, by omega, fun D nD => lc_range (lo := 0) (n := tn.toNat) (fun j H8 => ∃ vs : List Int, vs.length = j ∧ H8 D = some (.lst (vs.map V.int)) ∧ (∀ x ∈ vs, Small x) ∧ RI f c hh H H8 xs hs ∧ But f H7 H8 ∧ TK H7 H8 ∧ D ≠ f ∧ D ≠ c ∧ D ≠ hh ∧ H D = Option.none ∧ H7 D = Option.none)
          ⟨[], rfl, upd_same, (fun _ h => nomatch h), I7.new nD, But.refl.new nD, TK.new nD, I7.fl.ne nD, I7.fl.nec nD, (ne_of_none I7.lh nD).symm, I7.bt.none nD (I7.fl.ne nD), nD⟩ ?_ ?_⟩
        · rintro j H8 hj ⟨vs, lv, hD, sm, I8, b8, t8, d1, d2, d3, d4, d5⟩
          refine ⟨rfl, yes_in ⟨_, rfl, f, c, rfl, I8.fl, fun x H9 sx F9 B9 => ⟨_, B9 _ _ hD d1, ?_, vs ++ [x], by rw [List.length_append, lv]; rfl, ?_, ?_, (I8.but F9 B9).lst (B9 _ _ hD d1) d1 d2 d3 d4, (b8.trans B9).own d5, (t8.trans (TK.but I8.fl B9)).trans (TK.lst (B9 _ _ hD d1)), d1, d2, d3, d4, d5⟩⟩⟩
          · rw [List.length_map, lv]; exact small1000 (by omega)
          · rw [upd_same, List.map_append]; rfl
          · intro y hy
            rcases List.mem_append.mp hy with hy | hy
            · exact sm y hy
            · obtain rfl : y = x := by simpa using hy
              exact sx
        · rintro H8 ⟨vs, lv, hD, sm, I8, b8, t8, d1, d2, d3, d4, d5⟩
          refine ⟨D, _, rfl, .inl ⟨SqL.of hD, fun g ng => ⟨(by show 3 ≤ sizeLine; decide), fun t nt => ?_⟩⟩⟩
          have I9 := (I8.new (o := .tup (vs.map V.int)) ng).new (o := .tup [nV one, nV to, V.ref g]) nt
          have hbl8 := same_new (o := .tup [nV one, nV to, V.ref g]) nt _ _ (same_new (o := .tup (vs.map V.int)) ng _ _ (b8 _ _ hbl7 bf))
          have t9 : TK H7 (upd (upd H8 g (.tup (vs.map V.int))) t (.tup [nV one, nV to, V.ref g])) := (t8.trans (TK.new ng)).trans (TK.new nt)
          have s9 : ∀ b o, H7 b = some o → b ≠ f → (upd (upd H8 g (.tup (vs.map V.int))) t (.tup [nV one, nV to, V.ref g])) b = some o := fun b o e n => same_new nt _ _ (same_new ng _ _ (b8 _ _ e n))
          have bh : bl ≠ hh := fun e => by
            have h1 := I1.lh
            rw [← e, nbl] at h1
            cases h1
          have brk : bl ≠ rk := fun e => by
            have h1 := hrk
            rw [← e, nbl] at h1
            cases h1
          have bgv : bl ≠ gv := fun e => by
            have h1 := hgv
            rw [← e, nbl] at h1
            cases h1
          refine ⟨bl, _, _, rfl, rfl, hbl8, small1000 (by rw [bvl]; omega), ?_⟩
          refine ⟨bv ++ [V.ref t], bs ++ [⟨one, to, vs⟩], _, _, _, _, rfl, I9.lst hbl8 bf bc bh bnone, ?_, ?_, ?_, upd_same, ?_, ?_, ?_⟩
          · rw [upd_ne brk.symm]; exact s9 _ _ hrk7 nrk
          · rw [upd_ne bgv.symm]; exact s9 _ _ hgv7 ngv
          · rw [upd_ne bsh.symm]; exact s9 _ _ hsh7 shf
          · exact ((al7.imp fun _ _ z => z.keep t9).snoc ⟨t, g, rfl, upd_same, same_new nt _ _ upd_same⟩).imp fun _ _ z => z.keep (TK.lst hbl8)
          · rw [List.map_append, em, List.take_add_one, et]; rfl
          · intro b hb2
            rcases List.mem_append.mp hb2 with hb2 | hb2
            · exact hb b hb2
            · obtain rfl : b = ⟨one, to, vs⟩ := by simpa using hb2
              refine ⟨oneL, fun h e => ?_, by show vs.length ≤ 6; omega, sm, fun e => ?_⟩
              · have e : hs[one]? = some h := e
                rw [eh1] at e
                cases e
                exact hout
              · have e : vs = [] := e
                rw [e] at lv
                exact ttt (by simpa using lv.symm)
      · obtain ⟨tn, ht⟩ : ∃ tn, tn = tr := ⟨_, rfl⟩
        rw [← ht]
        have tn0 : 0 ≤ tn := by omega
        have tn6 : tn ≤ 6 := by omega
        have ttt : tn.toNat = 0 → is.getD one 0 < is.getD to 0 := fun _ => by
          have : ¬ is.getD to 0 ≤ is.getD one 0 := of_decide_eq_false kk
          omega
        refine ⟨_, rfl, .inl ⟨rfl, _, SqL.of hbl7⟩, _, rfl, _, rfl, _, rfl, _, rfl, by omega, by omega, fun D nD => lc_range (lo := 0) (n := tn.toNat) (fun j H8 => ∃ vs : List Int, vs.length = j ∧ H8 D = some (.lst (vs.map V.int)) ∧ (∀ x ∈ vs, Small x) ∧ RI f c hh H H8 xs hs ∧ But f H7 H8 ∧ TK H7 H8 ∧ D ≠ f ∧ D ≠ c ∧ D ≠ hh ∧ H D = Option.none ∧ H7 D = Option.none)
          ⟨[], rfl, upd_same, (fun _ h => nomatch h), I7.new nD, But.refl.new nD, TK.new nD, I7.fl.ne nD, I7.fl.nec nD, (ne_of_none I7.lh nD).symm, I7.bt.none nD (I7.fl.ne nD), nD⟩ ?_ ?_⟩
        · rintro j H8 hj ⟨vs, lv, hD, sm, I8, b8, t8, d1, d2, d3, d4, d5⟩
          refine ⟨rfl, yes_in ⟨_, rfl, f, c, rfl, I8.fl, fun x H9 sx F9 B9 => ⟨_, B9 _ _ hD d1, ?_, vs ++ [x], by rw [List.length_append, lv]; rfl, ?_, ?_, (I8.but F9 B9).lst (B9 _ _ hD d1) d1 d2 d3 d4, (b8.trans B9).own d5, (t8.trans (TK.but I8.fl B9)).trans (TK.lst (B9 _ _ hD d1)), d1, d2, d3, d4, d5⟩⟩⟩
          · rw [List.length_map, lv]; exact small1000 (by omega)
          · rw [upd_same, List.map_append]; rfl
          · intro y hy
            rcases List.mem_append.mp hy with hy | hy
            · exact sm y hy
            · obtain rfl : y = x := by simpa using hy
              exact sx
        · rintro H8 ⟨vs, lv, hD, sm, I8, b8, t8, d1, d2, d3, d4, d5⟩
          refine ⟨D, _, rfl, .inl ⟨SqL.of hD, fun g ng => ⟨(by show 3 ≤ sizeLine; decide), fun t nt => ?_⟩⟩⟩
          have I9 := (I8.new (o := .tup (vs.map V.int)) ng).new (o := .tup [nV one, nV to, V.ref g]) nt
          have hbl8 := same_new (o := .tup [nV one, nV to, V.ref g]) nt _ _ (same_new (o := .tup (vs.map V.int)) ng _ _ (b8 _ _ hbl7 bf))
          have t9 : TK H7 (upd (upd H8 g (.tup (vs.map V.int))) t (.tup [nV one, nV to, V.ref g])) := (t8.trans (TK.new ng)).trans (TK.new nt)
          have s9 : ∀ b o, H7 b = some o → b ≠ f → (upd (upd H8 g (.tup (vs.map V.int))) t (.tup [nV one, nV to, V.ref g])) b = some o := fun b o e n => same_new nt _ _ (same_new ng _ _ (b8 _ _ e n))
          have bh : bl ≠ hh := fun e => by
            have h1 := I1.lh
            rw [← e, nbl] at h1
            cases h1
          have brk : bl ≠ rk := fun e => by
            have h1 := hrk
            rw [← e, nbl] at h1
            cases h1
          have bgv : bl ≠ gv := fun e => by
            have h1 := hgv
            rw [← e, nbl] at h1
            cases h1
          refine ⟨bl, _, _, rfl, rfl, hbl8, small1000 (by rw [bvl]; omega), ?_⟩
          refine ⟨bv ++ [V.ref t], bs ++ [⟨one, to, vs⟩], _, _, _, _, rfl, I9.lst hbl8 bf bc bh bnone, ?_, ?_, ?_, upd_same, ?_, ?_, ?_⟩
          · rw [upd_ne brk.symm]; exact s9 _ _ hrk7 nrk
          · rw [upd_ne bgv.symm]; exact s9 _ _ hgv7 ngv
          · rw [upd_ne bsh.symm]; exact s9 _ _ hsh7 shf
          · exact ((al7.imp fun _ _ z => z.keep t9).snoc ⟨t, g, rfl, upd_same, same_new nt _ _ upd_same⟩).imp fun _ _ z => z.keep (TK.lst hbl8)
          · rw [List.map_append, em, List.take_add_one, et]; rfl
          · intro b hb2
            rcases List.mem_append.mp hb2 with hb2 | hb2
            · exact hb b hb2
            · obtain rfl : b = ⟨one, to, vs⟩ := by simpa using hb2
              refine ⟨oneL, fun h e => ?_, by show vs.length ≤ 6; omega, sm, fun e => ?_⟩
              · have e : hs[one]? = some h := e
                rw [eh1] at e
                cases e
                exact hout
              · have e : vs = [] := e
                rw [e] at lv
                exact ttt (by simpa using lv.symm)
    · rintro σ H4 ⟨bv, bs, v5, v8, v9, v10, rfl, I4, hrk4, hgv4, hsh4, hbl4, al, em, hb⟩
      rw [List.length_map, List.take_length] at em
      have lb : bs.length = ts.length := by
        have := congrArg List.length em
        rw [List.length_map] at this
        rw [this, htt.length_eq]
      refine ⟨_, rfl, hh, _, rfl, .inl ⟨SqL.of I4.lh, fun a1 na1 => ⟨_, rfl, bl, _, rfl, .inl ⟨SqL.of (same_new na1 _ _ hbl4), fun a2 na2 => ⟨(by show 2 ≤ sizeLine; decide), fun a3 na3 => ?_⟩⟩⟩⟩⟩
      rw [eD]
      have k1 : TK H4 (upd (upd (upd H4 a1 (.tup xs)) a2 (.tup bv)) a3 (.tup [V.ref a1, V.ref a2])) := ((TK.new na1).trans (TK.new na2)).trans (TK.new na3)
      refine q a3 hs bs _ ⟨a1, a2, xs, bv, upd_same, same_new na3 _ _ (same_new na2 _ _ upd_same), same_new na3 _ _ upd_same, I4.al.imp fun _ _ z => z.keep k1, al.imp fun _ _ z => z.keep k1⟩ ⟨ok.len, ok.good, fun b hb2 => ⟨(hb b hb2).1, ?_⟩, fun b hb2 => (hb b hb2).2.1, fun b hb2 => ⟨(hb b hb2).2.2.1, (hb b hb2).2.2.2.1⟩, ⟨fun k => is.getD k 0, fun b hb2 => (hb b hb2).2.2.2.2⟩, fun k h hk => ?_, by omega⟩ (((I4.fl.new na1).new na2).new na3) (((I4.bt.new na1).new na2).new na3)
      · have : b.to ∈ bs.map BR.to := List.mem_map.mpr ⟨b, hb2, rfl⟩
        rw [em] at this
        exact tk_mem hs _ _ (by rw [← ets]; exact htt.mem_iff.mp this)
      · rw [em, htt.count_eq, ets, tk_count, if_pos (List.getElem?_eq_some_iff.mp hk).1]
        unfold nd
        rw [hk]
        have := ok.nz h (List.mem_of_getElem? hk)
        show (((needs h.wd).toNat : Nat) : Int) = needs h.wd
        omega
  case tail1 =>
    rintro D' σ' H1 ⟨eD, hh, rk, gv, xs, hs, is, gs, rfl, I1, ok, hrk, lis, hgv, gne, glen, gok, nrk, ngv⟩
    refine ⟨(by show 0 ≤ sizeLine; decide), fun tk ntk => ?_⟩
    have I2 := I1.new (o := .lst []) ntk
    have hx : xs.length = hs.length := I1.al.length
    refine ⟨_, rfl, hh, _, rfl, .inl (SqL.of I2.lh), _, rfl, by omega, (by rw [hx]; have := ok.len; omega), for_range (lo := 0) (n := xs.length) (fun i σ H2 => ∃ (tk : Addr) (v5 : Option V), σ = [some (.ref f), some (.int m), some (.ref hh), some (.ref rk), some (.ref gv), v5, some (.ref tk), none, none, none, none] ∧ RI f c hh H H2 xs hs ∧ H2 rk = some (.lst (is.map V.int)) ∧ H2 gv = some (.lst (gs.map nV)) ∧ tk ≠ f ∧ H2 tk = some (.lst ((tkTo hs i).map nV)))
      ⟨tk, none, rfl, I2, same_new ntk _ _ hrk, same_new ntk _ _ hgv, I1.fl.ne ntk, upd_same⟩ ?_ ?_⟩
    · rintro i σ H2 hi ⟨tk, v5, rfl, I3, hrk3, hgv3, tf, htk⟩
      have eh : hs[i]? = some hs[i] := List.getElem?_eq_getElem (by omega)
      obtain ⟨x, ex, ⟨t, r, rfl, e1, e2⟩⟩ := I3.al.get eh
      have z0 := ok.nz _ (List.mem_of_getElem? eh)
      have zs : needs hs[i].wd ≤ 3 := by
        unfold needs
        split
        · decide
        · split
          · decide
          · split <;> decide
      have sz : (tkTo hs i).length ≤ 20 := by
        have a := tk_len hs ok.nz i (by omega)
        have b : ((hs.take i).map fun h => needs h.wd).sum ≤ (hs.map fun h => needs h.wd).sum := by
          have e : hs.map (fun h => needs h.wd) = (hs.take i).map (fun h => needs h.wd) ++ (hs.drop i).map (fun h => needs h.wd) := by rw [← List.map_append, List.take_append_drop]
          rw [e, List.sum_append]
          have : 0 ≤ ((hs.drop i).map fun h => needs h.wd).sum := by
            have hz : ∀ h ∈ hs.drop i, 0 ≤ needs h.wd := fun h hh => ok.nz h (List.mem_of_mem_drop hh)
            revert hz
            generalize hs.drop i = l
            intro hz
            induction l with
            | nil => decide
            | cons a l ih =>
              have := hz a (List.mem_cons_self ..)
              have := ih fun h hh => hz h (List.mem_cons_of_mem _ hh)
              rw [List.map_cons, List.sum_cons]
              omega
          omega
        have := ok.sum
        omega
      refine ⟨_, rfl, _, rfl, (by show 1 ≤ sizeLine; decide), fun l1 nl1 => ?_⟩
      have I4 := I3.new (o := .lst [V.int (0 + ((i : Nat) : Int))]) nl1
      refine ⟨_, rfl, _, rfl, hh, _, _, _, rfl, rfl, SqL.of I4.lh, at0 ex, t, _, _, _, rfl, rfl, SqT.of (same_new nl1 _ _ e1), atI_nat (j := 0) rfl, r, hs[i].wd, _, rfl, SqT.of (same_new nl1 _ _ e2), fun H5 s5 => ?_⟩
      have I5 := I4.same s5
      have g1 := s5 _ _ upd_same
      have g2 := s5 _ _ (same_new nl1 _ _ htk)
      refine ⟨l1, _, _, rfl, rfl, g1, by omega, by omega, little (by show 1 * (needs hs[i].wd).toNat ≤ 1000; omega), fun l2 nl2 => ?_⟩
      rw [flat_rep]
      have I6 := I5.new (o := .lst (List.replicate (needs hs[i].wd).toNat (V.int (0 + ((i : Nat) : Int))))) nl2
      refine ⟨tk, l2, _, _, rfl, rfl, same_new nl2 _ _ g2, upd_same, ?_, fun l3 nl3 => ?_⟩
      · rw [List.length_map, List.length_replicate]; exact little (by omega)
      refine ⟨l3, _, rfl, I6.new nl3, same_new nl3 _ _ (same_new nl2 _ _ (s5 _ _ (same_new nl1 _ _ hrk3))), same_new nl3 _ _ (same_new nl2 _ _ (s5 _ _ (same_new nl1 _ _ hgv3))), I6.fl.ne nl3, ?_⟩
      rw [upd_same]
      have e : nd hs i = (needs hs[i].wd).toNat := by unfold nd; rw [eh]
      rw [show tkTo hs (i + 1) = tkTo hs i ++ List.replicate (nd hs i) i from rfl, List.map_append, List.map_replicate, e, Int.zero_add]
    · rintro σ H2 ⟨tk, v5, rfl, I3, hrk3, hgv3, tf, htk⟩
      exact ⟨eD, hh, rk, gv, tk, xs, hs, is, gs, _, v5, rfl, I3, ok, hrk3, lis, hgv3, gne, glen, gok, nrk, ngv, tf, htk, by rw [hx]⟩
  refine ⟨_, rfl, _, rfl, _, rfl, f, c, m, rfl, by omega, hm9, hF, fun v1 H1 a1 b1 F1 B1 => ?_⟩
  refine ⟨_, _, rfl, rfl, f, c, _, rfl, by omega, by omega, F1, fun hh xs hs H2 nhh hhh al ok F2 B2 => ?_⟩
  have hx : xs.length = hs.length := al.length
  have len12 := ok.len
  have nf : hh ≠ f := F1.ne nhh
  have I2 : RI f c hh H H2 xs hs := ⟨F2, B1.trans B2, hhh, al, nf, B1.none nhh nf⟩
  -- ranks
  refine ⟨_, rfl, _, rfl, hh, _, rfl, .inl (SqL.of I2.lh), _, rfl, ⟨by omega, by omega, by omega, by omega, by omega⟩, fun rg nrg => ?_⟩
  have I3 := I2.new (o := .lst (rgV 0 ((xs.length : Nat) : Int))) nrg
  refine ⟨f, c, rg, _, rfl, SqL.of upd_same, I2.fl.ne nrg, ?_, I3.fl, fun rk ys H4 hp nrk hrk F4 B4 => ?_⟩
  · rw [rgV_length]; omega
  have erg : rgV 0 ((xs.length : Nat) : Int) = ((List.range xs.length).map fun i => ((i : Nat) : Int)).map V.int := by
    unfold rgV
    rw [List.map_map, show (((xs.length : Nat) : Int) - 0).toNat = xs.length by omega]
    refine List.map_congr_left fun i _ => ?_
    show V.int (0 + ((i : Nat) : Int)) = V.int ((i : Nat) : Int)
    rw [Int.zero_add]
  rw [erg] at hp
  obtain ⟨is, rfl, his⟩ := perm_inv (f := V.int) (g := unI) (fun _ => rfl) hp
  have lis : is.length = hs.length := by rw [his.length_eq, List.length_map, List.length_range, hx]
  have I4 := I3.but F4 B4
  have rkf : rk ≠ f := I3.fl.ne nrk
  -- givers
  refine ⟨_, rfl, hh, _, rfl, .inl (SqL.of I4.lh), _, rfl, by omega, by omega, fun D nD => lc_range (lo := 0) (n := xs.length) (fun i H5 => ∃ gs : List Nat, H5 D = some (.lst (gs.map nV)) ∧ gs.length ≤ i ∧ RI f c hh H H5 xs hs ∧ H5 rk = some (.lst (is.map V.int)) ∧ (∀ k ∈ gs, ∃ h, hs[k]? = some h ∧ h.wd ≠ "out") ∧ (∀ k h, k < i → hs[k]? = some h → h.wd ≠ "out" → gs ≠ []) ∧ D ≠ f ∧ D ≠ c ∧ D ≠ hh ∧ D ≠ rk ∧ H D = Option.none)
    ⟨[], upd_same, Nat.le_refl _, I4.new nD, same_new nD _ _ hrk, (fun _ h => nomatch h), (fun k h hk => absurd hk (Nat.not_lt_zero _)), I4.fl.ne nD, I4.fl.nec nD, (ne_of_none I4.lh nD).symm, (ne_of_none hrk nD).symm, I4.bt.none nD (I4.fl.ne nD)⟩ ?_ ?_⟩
  · rintro i H5 hi ⟨gs, hD, lg, I5, hrk5, g1, g2, d1, d2, d3, d4, d5⟩
    have eh : hs[i]? = some hs[i] := List.getElem?_eq_getElem (by omega)
    obtain ⟨x, ex, ⟨t, r, rfl, e1, e2⟩⟩ := I5.al.get eh
    have gh := ok.good _ (List.mem_of_getElem? eh)
    refine ⟨rfl, _, rfl, _, rfl, hh, _, _, _, rfl, rfl, SqL.of I5.lh, at0 ex, t, _, _, _, rfl, rfl, SqT.of e1, atI_nat (j := 0) rfl, (by show 1 ≤ sizeLine; decide), fun o1 no1 => ?_⟩
    have I6 := I5.new (o := .tup [V.str "out"]) no1
    have hD6 : (upd H5 o1 (.tup [V.str "out"])) D = some (.lst (gs.map nV)) := same_new no1 _ _ hD
    refine ⟨_, _, rule_dp (same_new no1 _ _ e2), .tup (SqT.of upd_same) (.cons (.str _) .nil), rule_shaped gh.lay, one_shaped (by decide +kernel), _, rfl, ?_⟩
    rw [rule_eqv, gh.door "out" (.inr rfl)]
    by_cases k : hs[i].wd = "out"
    · rw [decide_eq_true k]
      refine if_bl (fun z => absurd z (by decide)) (fun _ => ⟨gs, hD6, by omega, I6, same_new no1 _ _ hrk5, g1, fun k' h' hk hk2 hk3 => ?_, d1, d2, d3, d4, d5⟩)
      by_cases y : k' = i
      · subst y
        rw [eh] at hk2
        cases hk2
        exact absurd k hk3
      · exact g2 k' h' (by omega) hk2 hk3
    · rw [decide_eq_false k]
      refine if_bl (fun _ => ⟨_, rfl, _, hD6, ?_, gs ++ [i], ?_, ?_, I6.lst hD6 d1 d2 d3 d5, ?_, ?_, fun _ _ _ _ _ z => by simp at z, d1, d2, d3, d4, d5⟩) (fun z => absurd z (by decide))
      · rw [List.length_map]; exact small1000 (by omega)
      · rw [upd_same, List.map_append, Int.zero_add]; rfl
      · rw [List.length_append]; show gs.length + 1 ≤ i + 1; omega
      · rw [upd_ne d4.symm]; exact same_new no1 _ _ hrk5
      · intro k' hk
        rcases List.mem_append.mp hk with hk | hk
        · exact g1 k' hk
        · obtain rfl : k' = i := by simpa using hk
          exact ⟨_, eh, k⟩
  · rintro H5 ⟨gs, hD, lg, I5, hrk5, g1, g2, d1, d2, d3, d4, d5⟩
    obtain ⟨h1, hm1, hm2⟩ := ok.one
    obtain ⟨k1, hk1⟩ := List.getElem?_of_mem hm1
    have k1l := (List.getElem?_eq_some_iff.mp hk1).1
    exact ⟨rfl, hh, rk, D, xs, hs, is, gs, rfl, I5, ok, hrk5, lis, hD, g2 k1 h1 (by omega) hk1 hm2, by omega, g1, rkf, d1⟩
end
/-! ### data of known size -/
structure Neat (d : PyData) (dp wt : Nat) : Prop where
  lay : d.canLay0 = true
  dep : d.depth ≤ dp
  wei : d.weight ≤ wt
  sho : d.intsShort 13 = true
  say : d.showable = true
  nod : d.hasDict = false
structure NeatAll (ds : List PyData) (dp wt : Nat) : Prop where
  lay : PyData.canLayAll0 ds = true
  dep : PyData.depthAll ds ≤ dp
  wei : PyData.weightAll ds ≤ wt
  sho : PyData.intsShortAll 13 ds = true
  say : PyData.showableAll ds = true
  nod : PyData.hasDictAll ds = false
theorem Neat.non {dp : Nat} : Neat .none dp 0 := ⟨rfl, Nat.zero_le _, Nat.le_refl _, by simp [PyData.intsShort], by simp [PyData.showable], by simp [PyData.hasDict]⟩
theorem Neat.bool {b : Bool} {dp : Nat} : Neat (.bool b) dp 0 := ⟨rfl, Nat.zero_le _, Nat.le_refl _, by simp [PyData.intsShort], by simp [PyData.showable], by simp [PyData.hasDict]⟩
theorem Neat.int {i : Int} {dp : Nat} (h : i.natAbs < 10 ^ 12) : Neat (.int i) dp 41 := by
  have l : i.natAbs.log2 < 40 := by
    by_cases z : i.natAbs = 0
    · rw [z]; decide
    · exact (Nat.log2_lt z).mpr (Nat.lt_trans h (by decide))
  refine ⟨rfl, Nat.zero_le _, ?_, ?_, ?_, by simp [PyData.hasDict]⟩
  · simp only [PyData.weight]
    split <;> omega
  · simp only [PyData.intsShort, decide_eq_true_eq]
    exact PyData.shown_int_le h
  · simp only [PyData.showable, decide_eq_true_eq]
    omega
theorem Neat.str {x : Str} {n dp : Nat} (h : PyData.canLay0 (.str x) = true) (hn : x.cps.size ≤ n) : Neat (.str x) dp n := ⟨h, Nat.zero_le _, hn, by simp [PyData.intsShort], by simp [PyData.showable], by simp [PyData.hasDict]⟩
theorem NeatAll.nil {dp : Nat} : NeatAll [] dp 0 := ⟨rfl, Nat.zero_le _, Nat.le_refl _, by simp [PyData.intsShortAll], by simp [PyData.showableAll], by simp [PyData.hasDictAll]⟩
theorem NeatAll.cons {d : PyData} {ds : List PyData} {dp a b : Nat} (h : Neat d dp a) (t : NeatAll ds dp b) : NeatAll (d :: ds) dp (a + 1 + b) := by
  refine ⟨?_, ?_, ?_, ?_, ?_, ?_⟩
  · simp only [PyData.canLayAll0, h.lay, t.lay, Bool.and_self]
  · simp only [PyData.depthAll]
    exact Nat.max_le.mpr ⟨h.dep, t.dep⟩
  · simp only [PyData.weightAll]
    have := h.wei
    have := t.wei
    omega
  · simp only [PyData.intsShortAll, h.sho, t.sho, Bool.and_self]
  · simp only [PyData.showableAll, h.say, t.say, Bool.and_self]
  · simp only [PyData.hasDictAll, h.nod, t.nod, Bool.or_self]
theorem Neat.mono {d : PyData} {a b c e : Nat} (h : Neat d a b) (x : a ≤ c) (y : b ≤ e) : Neat d c e := ⟨h.lay, Nat.le_trans h.dep x, Nat.le_trans h.wei y, h.sho, h.say, h.nod⟩
theorem NeatAll.mono {d : List PyData} {a b c e : Nat} (h : NeatAll d a b) (x : a ≤ c) (y : b ≤ e) : NeatAll d c e := ⟨h.lay, Nat.le_trans h.dep x, Nat.le_trans h.wei y, h.sho, h.say, h.nod⟩
theorem Neat.tup {ds : List PyData} {dp n : Nat} (h : NeatAll ds dp n) : Neat (.tuple ds) (dp + 1) n := by
  refine ⟨?_, ?_, ?_, ?_, ?_, ?_⟩
  · simp only [PyData.canLay0, h.lay]
  · simp only [PyData.depth]
    have := h.dep
    omega
  · simp only [PyData.weight]
    exact h.wei
  · simp only [PyData.intsShort, h.sho]
  · simp only [PyData.showable, h.say]
  · simp only [PyData.hasDict, h.nod]
theorem Neat.lst {ds : List PyData} {dp n : Nat} (h : NeatAll ds dp n) : Neat (.list ds) (dp + 1) n := by
  refine ⟨?_, ?_, ?_, ?_, ?_, ?_⟩
  · simp only [PyData.canLay0, h.lay]
  · simp only [PyData.depth]
    have := h.dep
    omega
  · simp only [PyData.weight]
    exact h.wei
  · simp only [PyData.intsShort, h.sho]
  · simp only [PyData.showable, h.say]
  · simp only [PyData.hasDict, h.nod]
theorem NeatAll.map {α : Type} {f : α → PyData} {dp n : Nat} : ∀ {l : List α}, (∀ x ∈ l, Neat (f x) dp n) → NeatAll (l.map f) dp (l.length * (n + 1))
  | [], _ => by rw [List.length_nil, Nat.zero_mul]; exact .nil
  | x :: l, h => by
    have t : NeatAll (l.map f) dp (l.length * (n + 1)) := NeatAll.map fun y hy => h y (List.mem_cons_of_mem _ hy)
    have := NeatAll.cons (h x (List.mem_cons_self ..)) t
    refine NeatAll.mono this (Nat.le_refl _) ?_
    rw [List.length_cons, Nat.add_mul]
    omega
theorem Neat.shaped {d : PyData} {dp n : Nat} (h : Neat d dp n) (k : dp ≤ 60) : SeqAt.shaped d = true := by
  unfold SeqAt.shaped
  rw [h.lay, Bool.true_and]
  exact decide_eq_true (by have := h.dep; omega)
theorem Neat.fits {d : PyData} {dp n : Nat} (h : Neat d dp n) (k : dp ≤ 60) (m : n ≤ 1000000) : d.shown.length ≤ sizeLine := by
  refine PyData.shown_fits_of_layable0 (B := 13) (by decide) (by decide) ?_ h.sho
  have a : d.canLay0 = true := h.lay
  have b : decide (d.depth ≤ 64) = true := decide_eq_true (by have := h.dep; omega)
  have c : decide (d.weight ≤ 2 ^ 20) = true := decide_eq_true (by have := h.wei; omega)
  unfold PyData.layable0
  rw [a, b, c]
  rfl
theorem dp_ints {K : PySem.W.Frag} {H : Hp} : ∀ ns : List Int, DpAll K H (ns.map V.int) (ns.map PyData.int)
  | [] => .nil
  | n :: ns => .cons (.int n) (dp_ints ns)
theorem dp_nats {K : PySem.W.Frag} {H : Hp} : ∀ ns : List Nat, DpAll K H (ns.map nV) (ns.map fun n => PyData.int ((n : Nat) : Int))
  | [] => .nil
  | n :: ns => .cons (.int _) (dp_nats ns)
theorem eqv_nil {ds : List PyData} : PyData.eqvAll ds [] = ds.isEmpty := by cases ds <;> rfl
/-! ### a room as data -/
abbrev handD (h : HR) : PyData := .tuple [.tuple (ruleD h), .int h.mom]
abbrev beltD (b : BR) : PyData := .tuple [.int ((b.one : Nat) : Int), .int ((b.to : Nat) : Int), .tuple (b.th.map PyData.int)]
abbrev roomD (hs : List HR) (bs : List BR) : PyData := .tuple [.tuple (hs.map handD), .tuple (bs.map beltD)]
theorem hands_dp {K : PySem.W.Frag} {H : Hp} {vs : List V} {hs : List HR} (a : All2 (HandAt H) vs hs) : DpAll K H vs (hs.map handD) := by
  induction a with
  | nil => exact .nil
  | cons h t ih =>
    obtain ⟨t, r, rfl, e1, e2⟩ := h
    exact .cons (.tup (SqT.of e1) (.cons (rule_dp e2) (.cons (.int _) .nil))) ih
theorem belts_dp {K : PySem.W.Frag} {H : Hp} {vs : List V} {bs : List BR} (a : All2 (BeltAt H) vs bs) : DpAll K H vs (bs.map beltD) := by
  induction a with
  | nil => exact .nil
  | cons h t ih =>
    obtain ⟨t, r, rfl, e1, e2⟩ := h
    exact .cons (.tup (SqT.of e1) (.cons (.int _) (.cons (.int _) (.cons (.tup (SqT.of e2) (dp_ints _)) .nil)))) ih
theorem RoomAt.dp {K : PySem.W.Frag} {H : Hp} {r : Addr} {hs : List HR} {bs : List BR} (a : RoomAt H r hs bs) : Dp K H (.ref r) (roomD hs bs) := by
  obtain ⟨ha, ba, hv, bv, e1, e2, e3, a1, a2⟩ := a.ex
  exact .tup (SqT.of e1) (.cons (.tup (SqT.of e2) (hands_dp a1)) (.cons (.tup (SqT.of e3) (belts_dp a2)) .nil))
theorem GoodHand.size {h : HR} (g : GoodHand h) : h.wd.cps.size ≤ 10 := by
  have : h.wd ∈ nine ∨ h.wd = "in" ∨ h.wd = "out" := g.1.elim (fun k => .inl k.wd) (fun k => .inr k.1)
  rcases this with k | k | k
  · unfold nine at k
    simp only [List.mem_cons, List.not_mem_nil, or_false] at k
    rcases k with k | k | k | k | k | k | k | k | k <;> rw [k] <;> decide +kernel
  · rw [k]; decide +kernel
  · rw [k]; decide +kernel
theorem GoodHand.neat {h : HR} (g : GoodHand h) : Neat (handD h) 2 200 := by
  obtain ⟨wd, no, mom⟩ := h
  have r : NeatAll (ruleD ⟨wd, no, mom⟩) 0 60 := by
    cases no with
    | none => exact (NeatAll.cons (Neat.str g.lay g.size) .nil).mono (Nat.le_refl _) (by decide)
    | some n =>
      have : -1000000 ≤ n ∧ n ≤ 1000000 := by
        rcases g.1 with k | k
        · exact k.big n rfl
        · exact nomatch k.2.1
      exact (NeatAll.cons (Neat.str g.lay g.size) (.cons (Neat.int (by omega)) .nil)).mono (Nat.le_refl _) (by decide)
  have m : Neat (.int mom) 1 41 := Neat.int (by have := g.2.1; have := g.2.2; simp only at *; omega)
  exact (Neat.tup (.cons (Neat.tup r) (.cons m .nil))).mono (Nat.le_refl _) (by decide)
theorem one_eqv (h : HR) (z : Str) : PyData.eqv (.tuple [.str z]) (.tuple (ruleD h)) = (decide (h.wd = z) && h.no.isNone) := by
  obtain ⟨wd, no, mom⟩ := h
  have e : (z == wd) = decide (wd = z) := by
    by_cases k : wd = z
    · rw [k, decide_eq_true rfl]; exact beq_self_eq_true z
    · rw [decide_eq_false k]; exact beq_eq_false_iff_ne.mpr fun y => k y.symm
  cases no with
  | none => show (z == wd && true) = (decide (wd = z) && true); rw [e]
  | some n => show (z == wd && false) = (decide (wd = z) && false); rw [Bool.and_false, Bool.and_false]
def comingN (bs : List BR) (k : Nat) : List Nat := (List.range bs.length).filter fun i => decide (bs[i]?.map BR.to = some k)
section
variable {P : Program} {w : World} {K : PySem.W.Frag} {mg : Str → Option Value} {base : Heap}
theorem filt_succ {p : Nat → Bool} (i : Nat) : (List.range (i + 1)).filter p = (List.range i).filter p ++ (if p i = true then [i] else []) := by
  rw [List.range_succ, List.filter_append]
  cases h : p i <;> simp [h]
theorem filt_len {p : Nat → Bool} (i : Nat) : ((List.range i).filter p).length ≤ i := by
  refine Nat.le_trans (List.length_filter_le ..) ?_
  rw [List.length_range]
  exact Nat.le_refl _
def sp_comings (K : PySem.W.Frag) : Sp := fun vs H Q _ => ∃ (r : Addr) (hs : List HR) (bs : List BR) (k : Nat), vs = [.ref r, nV k] ∧ RoomAt H r hs bs ∧ bs.length ≤ 400 ∧ ∀ (p : Addr) (H' : Hp), H p = none → H' p = some (.lst ((comingN bs k).map nV)) → Same H H' → Q (.ref p) H'
theorem ok_comings {f : Addr} {fd : FuncData} (F : Fun K "comings" "comings" s_comings f fd) (T : Top w K mg) : FnOk P w K mg base CX0 1 f fd ["room", "hand"] (sp_comings K) := by
  refine F.ok sc_comings (fun vs H Q E h => ?_) (fun cdv A outer s H vs Q E hr h => ?_)
  · obtain ⟨r, hs, bs, k, rfl, _⟩ := h
    rfl
  obtain ⟨r, hs, bs, k, rfl, hR, lb, q⟩ := h
  obtain ⟨ha, ba, hv, bv, er, eh, eb, alh, alb⟩ := hR.ex
  have lbv := alb.length
  refine ⟨_, (pss_one (ps_ret (pe_lc (own := [("number", 2), ("belt", 3)]) (g := gTup K 2 (gCons (gName 2) (gCons (gName 3) gNil))) (by rfl) sc_comings.nd (pi_enumT K rfl (by rfl) T.m_enumerate (pa_cons (pe_ix (ix_tupK K rfl) (pv 0) pe_int (fun _ _ => rfl)) pa_nil)) (blkOk_by (own := [("number", 2), ("belt", 3)]) (N := N_comings) (sc := defScope s_comings) (by decide +kernel)) (fun _ _ _ _ _ => (pg_tupK K rfl rfl (pgs_cons (pg_name (i := 2) sc_comings.nd rfl (Or.inl rfl)) (pgs_cons (pg_name (i := 3) sc_comings.nd rfl (Or.inl rfl)) pgs_nil)))) (fun _ _ _ _ _ => pts_one (pt_cmpR op_eq (pe_ix (ix_tupK K rfl) (pv 3) pe_int (fun _ _ => rfl)) (pv 1) (nomark _))) (fun _ _ _ _ _ => (pv 2))))), ?_⟩
  refine ⟨_, rfl, r, _, _, _, rfl, rfl, SqT.of er, atI_nat (j := 1) rfl, ba, bv, rfl, SqT.of eb, fun D nD => lc_it (J := IteT K ba bv) (n := bv.length) (fun i H5 => H5 D = some (.lst (((List.range i).filter fun j => decide (bs[j]?.map BR.to = some k)).map nV)) ∧ Same H H5) ⟨upd_same, same_new nD⟩ ?_ ?_ ?_ ?_⟩
  · rintro i H5 hi ⟨hD, s5⟩
    exact ⟨SqT.of (s5 _ _ eb), hi⟩
  · rintro H5 ⟨hD, s5⟩
    exact ⟨SqT.of (s5 _ _ eb), rfl⟩
  · rintro i x H5 H6 hi ⟨hD, s5⟩ ⟨t, y, rfl, nt, rfl, ey⟩
    obtain ⟨b, eb2, ⟨t2, g, rfl, e1, e2⟩⟩ := alb.getL ey
    have s6 := s5.trans (same_new (o := .tup [V.int ((i : Nat) : Int), V.ref t2]) nt)
    have hD6 := same_new (o := .tup [V.int ((i : Nat) : Int), V.ref t2]) nt _ _ hD
    have few := filt_len (p := fun j => decide (bs[j]?.map BR.to = some k)) i
    refine ⟨t, _, rfl, SqT.of upd_same, rfl, _, _, rfl, _, _, rfl, rfl, rfl, _, rfl, t2, _, _, _, rfl, rfl, SqT.of (s6 _ _ e1), atI_nat (j := 1) rfl, _, rfl, rfl, _, rfl, if_bl (fun c => ?_) (fun c => ?_)⟩
    · have c : b.to = k := by have := V.int.inj (of_decide_eq_true c); omega
      refine ⟨_, rfl, _, hD6, by rw [List.length_map]; exact small1000 (by omega), ?_, Same.own s6 nD⟩
      rw [upd_same, filt_succ, if_pos (decide_eq_true (by rw [eb2, ← c]; rfl)), List.map_append]
      rfl
    · have c : ¬ b.to = k := fun z => of_decide_eq_false c (by rw [z])
      refine ⟨?_, s6⟩
      rw [filt_succ, if_neg fun z => c (by have := of_decide_eq_true z; rw [eb2] at this; exact Option.some.inj this), List.append_nil]
      exact hD6
  · rintro H5 ⟨hD, s5⟩
    refine q D H5 nD ?_ s5
    rw [hD, lbv]
    rfl
end
def doorsOf (z : Str) (hs : List HR) : List Nat := (List.range hs.length).filter fun i => decide (hs[i]?.map HR.wd = some z)
/-! ### all(..), any(..) over anything that can be walked, whatever a def of ours does in the element -/
section
open PySem.Spec GxR GenW
/-- the table's growth, when the generator's code object was got -/
structure GotC (P : Addr) (ps : Array Value) (z z' : Shared) : Prop where
  same : z' = { z with heap := z'.heap, toks := z'.toks }
  ext : Heap.ExtBut P z.heap z'.heap
  tab : ∃ more, z'.heap.get? P = some { cls := .none, data := .fields (ps ++ more) } ∧ TriplesOk (ps ++ more).toList
theorem code_gotC {prog : Program} {w : World} {A : Around} {E : Value → Shared → Prop} {env : Env} {gpos : Pos} {nm : Str} {scope : Scope} {c P : Addr} {ps : Array Value} {z : Shared}
    (hcode : env.code = .ref c) (cd : PySem.W.CodeHd z.heap c P) (hP : z.heap.get? P = some { cls := .none, data := .fields ps }) (ht : TriplesOk ps.toList) :
    wpAny (model prog w) A (genexprCode env gpos nm scope) (fun _ z' => GotC P ps z z') E z := by
  cases among : codeAmong gpos ps.toList with
  | some cv => exact wpAny_genexprCode_hit hcode (cd.code hP ht) among ⟨rfl, .refl _ _, #[], by simpa using hP, by simpa using ht⟩
  | none =>
    refine wpAny_genexprCodeX hcode (cd.code hP ht) (cd.tab hP) among fun c' h' tk ext ge lt co _ tab _ => ?_
    obtain ⟨_, _, _, _, _, _, _, _, _, _, _, _, _, _, _, _, _, _, _, tr, _⟩ := co
    exact ⟨rfl, ext, _, tab.2, tr⟩
/-- the generator sleeps: others may have run generators, nothing else has changed -/
def Woke (s s' : Shared) : Prop := ∃ (g' : Array GenState) (tk : Nat), s' = { s with gens := g', toks := tk } ∧ AllBare g'
theorem Woke.trans {a b c : Shared} (h : Woke a b) (k : Woke b c) : Woke a c := by
  obtain ⟨g1, t1, rfl, _⟩ := h
  obtain ⟨g2, t2, rfl, b2⟩ := k
  exact ⟨g2, t2, rfl, b2⟩
theorem inv_woke {X : Cx} {pins : List (Addr × Obj)} {σ : L2.St} {H : Hp} {s s' : Shared} (I : Inv X pins σ H s) (k : Woke s s') : Inv X pins σ H s' := by
  obtain ⟨g', tk, rfl, b⟩ := k
  exact I.call (h' := s.heap) (d' := s.drawn) (ch := []) Un.refl I.hok b (fun _ z => nomatch z)
theorem bare_set {a : Array GenState} {g : Nat} {x : GenState} (h : AllBare a) (hx : x.bare = true) : AllBare (a.setIfInBounds g x) := fun y hy => by
  obtain ⟨i, hi, e⟩ := Array.mem_iff_getElem.mp hy
  rw [Array.getElem_setIfInBounds] at e
  · by_cases z : g = i
    · rw [if_pos z] at e
      rw [← e]; exact hx
    · rw [if_neg z] at e
      rw [← e]; exact h _ (Array.getElem_mem _)
  · rw [Array.size_setIfInBounds] at hi
    exact hi
/-- the context of a generator's frame: the objects at fp are its iterator's -/
abbrev gcx (X : Cx) (A' : Around) (N' : List Str) (s : Shared) (H : Hp) (cenv : Env) (fp : List Addr) (pn : List (Addr × Obj)) : Cx :=
  { X with A := A', N := N', s_0 := s, H_0 := H, env := cenv, outer := X.stack, stack := cenv :: X.stack, ex := fp, fn := fun _ => false, pn := pn, xe := fun _ _ => False }
/-- a generator's names: its own, and those that it takes from the def around it -/
structure GenN (X : Cx) (scope : Scope) (N' : List Str) (sg : L2.St → L2.St) : Prop where
  kind : scope.kind = .function
  co : scope.isCoroutine = false
  cell : ∀ y ∈ scope.names, y.2 ≠ .cell
  dot : scope.names.lookup (".0" : Str) = some NameKind.local
  free : ∀ y ∈ scope.names, y.2 = .free → X.env.scope.names.lookup y.1 = some .cell ∨ X.env.scope.names.lookup y.1 = some .free
  len : ∀ σ, (sg σ).length = N'.length
  took : ∀ σ (i : Nat) x v, N'[i]? = some x → (sg σ)[i]? = some (some v) → scope.names.lookup x = some .free ∧ ∃ j : Nat, X.N[j]? = some x ∧ σ[j]? = some (some v)
theorem gen_start {X : Cx} {pins : List (Addr × Obj)} {σ : L2.St} {H : Hp} {s : Shared} {scope : Scope} {N' : List Str} {sg : L2.St → L2.St} {A' : Around} {it : Value} {fp : List Addr} {code : Value} {h' : Heap} {go : Obj} {gens' : Array GenState} {tk : Nat}
    (I : Inv X pins σ H s) (S : GenN X scope N' sg) (hfp : ∀ b ∈ fp, FpOk X pins H b ∧ b < s.heap.objs.size)
    (hA : A'.frames = some (genEnv scope (cloFrom X.env.cells scope.names []) s.heap.objs.size code builtinsNs X.env :: X.stack)) (hh : A'.handled = none)
    (hn : h'.Ns s.heap.objs.size (fun y => if y = ".0" then some it else none)) (sb : Heap.SameBut s.heap.objs.size (s.heap.push { cls := .type "frame", data := .dict #[] }) h') (hd : ∀ v, go.data ≠ .cell v)
    (hpush : (h'.push go).get? h'.objs.size = some go) (bare : AllBare gens') :
    Inv (gcx X A' N' s H (genEnv scope (cloFrom X.env.cells scope.names []) s.heap.objs.size code builtinsNs X.env) fp [(h'.objs.size, go)]) [] (sg σ) H { s with gens := gens', toks := tk, heap := h'.push go } := by
  have sz : h'.objs.size = s.heap.objs.size + 1 := by rw [sb.1, Heap.size_push]
  have keep : ∀ b o, s.heap.get? b = some o → (h'.push go).get? b = some o := fun b o e => Heap.get?_push_of_some _ (sb.extBut b o (Nat.ne_of_lt (Heap.lt_size e)) (Heap.get?_push_of_some _ e))
  have has : ∀ y ∈ scope.names, y.2 = .free → ∃ c, X.env.cells.lookup y.1 = some c := fun y hy e => I.ok.has _ ((S.free y hy e).elim .inl .inr)
  have look : ∀ {x : Str} {c : Addr}, (cloFrom X.env.cells scope.names []).lookup x = some c → (x, NameKind.free) ∈ scope.names ∧ X.env.cells.lookup x = some c := fun {x c} e => by
    rcases cloFrom_mem (PySem.mem_of_lookup e) with z | ⟨z1, z2⟩
    · cases z
    · obtain ⟨c', e'⟩ := has _ z1 rfl
      rw [e'] at z2
      exact ⟨z1, by rw [e', z2]; rfl⟩
  have find : ∀ {x : Str}, scope.names.lookup x = some .free → ∃ c, (cloFrom X.env.cells scope.names []).lookup x = some c := fun {x} e => mem_lookup (cloFrom_has (PySem.mem_of_lookup e))
  have apart : ∀ b, s.heap.objs.size ≤ b → b ∉ frs X.stack := fun b hb m => by
    rcases List.mem_cons.mp (I.stkSub b m) with z | z
    · exact absurd (Nat.lt_of_lt_of_le I.lt (z ▸ hb)) (Nat.lt_irrefl _)
    · exact I.nofs hb z
  refine ⟨⟨I.ok.mod, S.kind, I.ok.glob, rfl, Nat.le_refl _, fun x y c h1 h2 => I.ok.inj x y c (look h1).2 (look h2).2, fun x hx => ?_, (fun x c h _ => nomatch h), fun _ => hh, hA, .inr ⟨rfl, rfl⟩, fun b hb => ⟨Nat.ne_of_lt (hfp b hb).2, fun x c e => (hfp b hb).1.2.2.2.2.1 x c (look e).2⟩, I.bs, Nat.le_trans I.ok.bsz I.sz, fun b o e hb => ?_, fun b hb m => ?_, I.stack, I.stkFree⟩,
    rfl, bare, Un.kept keep, ⟨_, hn.push _, fun i x v h1 h2 h3 => ?_⟩, fun x c e => ?_, I.hok.fresh (Nat.le_refl _), fun x c e => I.freeC x c (look e).2, fun p hp => ?_, I.hok.kept keep, S.len σ⟩
  · rcases hx with hx | hx
    · exact absurd rfl (S.cell _ (PySem.mem_of_lookup (show scope.names.lookup x = some .cell from hx)))
    · exact find hx
  · rcases (hfp b hb).1.2.2.2.1 with z | z
    · exact I.ok.noex b o e z
    · exact absurd (Nat.lt_of_lt_of_le (Heap.lt_size e) (Nat.le_trans I.ok.bsz z)) (Nat.lt_irrefl _)
  · rcases List.mem_cons.mp (I.stkSub b m) with z | z
    · exact (hfp b hb).1.2.1 z
    · exact (hfp b hb).1.2.2.1 z
  · obtain ⟨fr, j, e1, e2⟩ := S.took σ i x v h1 h2
    have kn := S.free _ (PySem.mem_of_lookup fr) rfl
    obtain ⟨m0, _, hl⟩ := I.loc
    obtain ⟨u, r, lk⟩ := hl j x v e1 e2 (kn.elim (fun z => .inr (.inl z)) (fun z => .inr (.inr z)))
    refine ⟨u, r, ?_⟩
    rcases lk with ⟨z, _⟩ | ⟨_, c, ec, ic⟩
    · have z : X.env.scope.names.lookup x = some .local := z
      rcases kn with k | k <;> rw [k] at z <;> cases z
    · obtain ⟨c', e'⟩ := find fr
      have e3 := (look e').2
      rw [ec] at e3
      obtain rfl := Option.some.inj e3
      obtain ⟨o, ho, hc⟩ := ic
      exact .inr ⟨.inr fr, _, e', o, keep _ _ ho, hc⟩
  · obtain ⟨v, o, ho, hc⟩ := I.cell x c (look e).2
    exact ⟨v, o, keep _ _ ho, hc⟩
  · have hp : p ∈ [(h'.objs.size, go)] ++ ([] : List (Addr × Obj)) := hp
    rw [List.append_nil, List.mem_singleton] at hp
    subst hp
    exact ⟨hpush, I.hok.fresh (by rw [sz]; exact Nat.le_succ _), by show h'.objs.size ≠ s.heap.objs.size; rw [sz]; exact Nat.succ_ne_self _, apart _ (by rw [sz]; exact Nat.le_succ _), hd⟩
end
section
open PySem.Spec GxR GenW
variable {X : Cx} {A2 : Around} {N' : List Str} {s0 : Shared} {H0 : Hp} {cenv : Env} {fp : List Addr} {pn : List (Addr × Obj)} {tg elt iter : Expr} {scope : Scope} {gpos : Pos} {it : Addr}
/-- the around of a generator's turn -/
abbrev genA (A2 : Around) (tg elt iter : Expr) (scope : Scope) (gpos : Pos) (it : Addr) (cenv : Env) : Around := A2.over (.compLoop (.GeneratorExp elt [⟨tg, iter, [], 0⟩] scope gpos) 0 (.ref it) .none cenv) []
/-- what a generator tells at its end -/
def genR (G : Cx) (sgσ : L2.St) (kp : Bool) (Q : Bool → Hp → Prop) : GenEnd := fun _ _ r s1 => r = .ok .next ∧ ∃ H, Inv G [] sgσ H s1 ∧ Q kp H
/-- what it hands out: a truth; the truth kp, and it may be woken again -/
def genY (G : Cx) (sgσ : L2.St) (kp : Bool) (Q : Bool → Hp → Prop) : Protocol := fun _ _ v s1 kap => ∃ b H, v = .bool b ∧ Inv G [] sgσ H s1 ∧ (b ≠ kp → Q b H) ∧ (b = kp → ∀ s2, Woke s1 s2 → kap (.send .none) s2)
theorem gen_loop {J : It} {tn : Nat → Heap → Prop} {g : TG} {te : TE} {sgσ : L2.St} {vs : List Nat} {kp : Bool} {Q : Bool → Hp → Prop} {W : Nat → Nat → Hp → Prop}
    (T : Turn X.prog X.w X.K tg J fp it tn) (hc : X.calm = true) (hco : cenv.scope.isCoroutine = false) (hpn : ∀ p ∈ pn, ∀ b ∈ fp, p.1 ≠ b)
    (pg : L2.PG (gcx X (genA A2 tg elt iter scope gpos it cenv) N' s0 H0 cenv fp pn) tg g) (pe : L2.PE (gcx X (genA A2 tg elt iter scope gpos it cenv) N' s0 H0 cenv fp pn) elt te)
    (turn : ∀ i m H, W i m H → (J.stop i H ∧ Q kp H) ∨ (J.go i H ∧ ∃ Nx : Hp → Prop, (∀ H', Nx H' → ∃ m', m' < m ∧ W (i + 1) m' H') ∧ ∀ x H', J.yld i H x H' → g x sgσ H' fun σ2 H2 => wipe σ2 vs = sgσ ∧ te σ2 H2 fun y H3 => ∃ b, y = .bl b ∧ (b ≠ kp → Q b H3) ∧ (b = kp → Nx H3))) :
    ∀ (n i m : Nat) (s₀ s : Shared) (H : Hp), m < n → Inv (gcx X (genA A2 tg elt iter scope gpos it cenv) N' s0 H0 cenv fp pn) [] sgσ H s → tn i s.heap → (∀ b ∈ fp, H b = none) → W i m H →
      Seg (model X.prog X.w) A2 (genR (gcx X (genA A2 tg elt iter scope gpos it cenv) N' s0 H0 cenv fp pn) sgσ kp Q) (genY (gcx X (genA A2 tg elt iter scope gpos it cenv) N' s0 H0 cenv fp pn) sgσ kp Q) n s₀
        (.compLoop (.GeneratorExp elt [⟨tg, iter, [], 0⟩] scope gpos) 0 (.ref it) .none cenv) ((model X.prog X.w).den (.compLoop (.GeneratorExp elt [⟨tg, iter, [], 0⟩] scope gpos) 0 (.ref it) .none cenv)) [] s := by
  have stat : ∀ {σ' : L2.St} {H' : Hp} {s' : Shared}, Inv (gcx X (genA A2 tg elt iter scope gpos it cenv) N' s0 H0 cenv fp pn) [] σ' H' s' → (∀ b ∈ fp, H' b = none) → ∀ b ∈ fp, FpOk (gcx X (genA A2 tg elt iter scope gpos it cenv) N' s0 H0 cenv fp pn) [] H' b := fun {σ' H' s'} I' hn b hb =>
    ⟨hn b hb, (I'.ok.exf b hb).1, I'.ok.exfs b hb, .inl hb, fun x c e => (I'.ok.exf b hb).2 x c e, fun p hp => hpn p (by simpa using hp) b hb⟩
  intro n
  induction n with
  | zero => intro i m s₀ s H h; exact absurd h (Nat.not_lt_zero _)
  | succ n ih =>
    intro i m s₀ s H hm I st nf w
    show Seg _ A2 _ _ _ s₀ _ ((compTurn (.GeneratorExp elt [⟨tg, iter, [], 0⟩] scope gpos) 0 (.ref it) .none cenv).onRaise (leaving cenv)) [] s
    rw [compTurn_gen, Sem.onRaise_eq_wrap]
    refine seg_bind_wrap (wpAny_standAt ?_)
    rcases turn i m H w with ⟨stop, q⟩ | ⟨go, Nx, hNx, step⟩
    · refine seg_bind_wrap (wpAny_mono (T.done (gcx X (genA A2 tg elt iter scope gpos it cenv) N' s0 H0 cenv fp pn) rfl rfl rfl hc i [] s _ H (fun _ _ => False) I (stat I nf) st stop) (fun r s6 ⟨hr, I6⟩ => ?_) fun _ _ z => z.elim)
      subst hr
      exact seg_end (.ok .next) ⟨rfl, H, I6, q⟩
    · refine seg_bind_wrap (wpAny_mono (T.item (gcx X (genA A2 tg elt iter scope gpos it cenv) N' s0 H0 cenv fp pn) rfl rfl rfl hc i [] s _ H (fun _ _ => False) I (stat I nf) st go) (fun r s6 ⟨u, hr, h6⟩ => ?_) fun _ _ z => z.elim)
      subst hr
      refine seg_bind_wrap (wpAny_mono h6 (fun _ s7 ⟨x, H7, I7, r7, y7, st7, n7⟩ => ?_) fun _ _ z => z.elim)
      have I7' := I7.pinned (stat I7 n7) (T.obj _ _ st7)
      refine seg_bind_wrap (wpAny_mono (pg.run _ s7 _ H7 x u _ I7' r7 (step x H7 y7)) (fun _ s8 ⟨σ8, H8, I8, hw8, q8⟩ => ?_) fun _ _ z => z.elim)
      refine seg_bind_wrap ?_
      rw [List.forIn_nil]
      refine wpAny_pure ?_
      simp only [if_true]
      have hy : ∀ v, yieldOut cenv v = yieldValue v := fun v => by simp only [yieldOut, hco, Bool.false_eq_true, if_false]
      simp only [hy]
      rw [Sem.bind_eq_wrap', Sem.bind_eq_wrap', Sem.wrap_wrap, Sem.wrap_wrap]
      refine seg_wrap (wpAny_mono (pe.run _ s8 σ8 H8 _ I8 q8) (fun z s9 ⟨yv, H9, I9, r9, b, ey, no, yes⟩ => ?_) fun _ _ z => z.elim)
      subst ey
      obtain rfl : z = .bool b := r9
      have pin' : ∀ b ∈ fp, ∀ o, s7.heap.get? b = some o → s9.heap.get? b = some o ∧ H9 b = none := fun b hb o e =>
        let z := I9.pin (b, o) (List.mem_append_right _ (List.mem_append_right _ (mem_pinsAt hb e)))
        ⟨z.1, z.2.1⟩
      have hl : sgσ.length = σ8.length := by rw [← hw8, wipe_length]
      have I10 : Inv (gcx X (genA A2 tg elt iter scope gpos it cenv) N' s0 H0 cenv fp pn) [] sgσ H9 s9 := (I9.unpinned (pins := [])).weak hl fun j v e => by
        rw [← hw8] at e
        exact (wipe_some e).1
      have st9 := T.keep _ _ _ st7 fun b hb o e => (pin' b hb o e).1
      have n9 : ∀ b ∈ fp, H9 b = none := fun b hb => by
        obtain ⟨o, e, _⟩ := T.obj _ _ st7 b hb
        exact (pin' b hb o e).2
      refine seg_at (seg_yield rfl rfl rfl ⟨b, H9, rfl, I10, no, fun eb s2 wk => ?_⟩)
      obtain ⟨m', lt, w'⟩ := hNx H9 (yes eb)
      have I2 := inv_woke I10 wk
      obtain ⟨g', tk, rfl, _⟩ := wk
      exact seg_again rfl (ih (i + 1) m' _ _ H9 (by omega) I2 st9 n9 w')
end
section
open PySem.Spec GxR GenW
variable {X : Cx} {A2 : Around} {N' : List Str} {s0 : Shared} {H0 : Hp} {cenv : Env} {fp : List Addr} {pn : List (Addr × Obj)} {tg elt iter : Expr} {scope : Scope} {gpos : Pos} {it : Addr}
theorem gen_begin {J : It} {tn : Nat → Heap → Prop} {R : GenEnd} {Y : Protocol} {n : Nat} {s₀ s : Shared} (T : Turn X.prog X.w X.K tg J fp it tn) (st : tn 0 s.heap)
    (loop : Seg (model X.prog X.w) A2 R Y n s₀ (.compLoop (.GeneratorExp elt [⟨tg, iter, [], 0⟩] scope gpos) 0 (.ref it) .none cenv) ((model X.prog X.w).den (.compLoop (.GeneratorExp elt [⟨tg, iter, [], 0⟩] scope gpos) 0 (.ref it) .none cenv)) [] s) :
    Seg (model X.prog X.w) A2 R Y n s₀ (.compStart (.GeneratorExp elt [⟨tg, iter, [], 0⟩] scope gpos) 0 (.ref it) .none cenv) ((model X.prog X.w).den (.compStart (.GeneratorExp elt [⟨tg, iter, [], 0⟩] scope gpos) 0 (.ref it) .none cenv)) [] s := by
  show Seg _ A2 _ _ _ s₀ _ ((compStart (.GeneratorExp elt [⟨tg, iter, [], 0⟩] scope gpos) 0 (.ref it) .none cenv).onRaise (leaving cenv)) [] s
  unfold compStart
  rw [Sem.onRaise_eq_wrap]
  show Seg _ A2 _ _ _ s₀ _ ((ask >>= _).wrap _ _ _ _) [] s
  refine seg_bind_wrap (wpAny_askSetting ?_)
  split
  · exact seg_again rfl loop
  · refine seg_bind_wrap (wpAny_rule (seg_bind_wrap (wpAny_standAt (seg_bind_wrap (T.self _ 0 s _ _ st (seg_again rfl loop))))))
/-- a generator asleep, that may be woken n times more -/
structure Asleep (X : Cx) (A2 : Around) (G : Cx) (sgσ : L2.St) (kp : Bool) (Q : Bool → Hp → Prop) (a : Addr) (k : Nat) (n : Nat) (s : Shared) : Prop where
  inv : ∃ H, Inv G [] sgσ H s
  is : ∀ {s' : Shared} {H' : Hp}, Inv G [] sgσ H' s' → s'.heap.IsGen a k
  at_ : ∃ gs, s.gens[k]? = some gs ∧ ∀ s2, Woke s s2 → gs.Goes (model X.prog X.w) A2 (genR G sgσ kp Q) (genY G sgσ kp Q) n (.send .none) s2
theorem setGen_woke {s : Shared} {k : Nat} {x : GenState} (h : AllBare s.gens) (hx : x.bare = true) : Woke s (s.setGen k x) := ⟨_, s.toks, rfl, bare_set h hx⟩
theorem setGen_at {s : Shared} {k : Nat} {x : GenState} (h : k < s.gens.size) : (s.setGen k x).gens[k]? = some x := by
  show (s.gens.setIfInBounds k x)[k]? = some x
  rw [Array.getElem?_setIfInBounds_self, if_pos h]
theorem gen_next {A : Around} {G : Cx} {sgσ : L2.St} {kp : Bool} {Q : Bool → Hp → Prop} {a : Addr} {k n : Nat} {s : Shared} {R : Option Value → Shared → Prop} {E : Value → Shared → Prop} (hh : A.handled = none) (hd : A.depth < recursionLimit) (z : Asleep X A.in1 G sgσ kp Q a k n s)
    (yes : ∀ n' s', n = n' + 1 → Asleep X A.in1 G sgσ kp Q a k n' s' → R (some (.bool kp)) s')
    (no : ∀ b H s', b ≠ kp → Inv G [] sgσ H s' → Q b H → R (some (.bool b)) s') (done : ∀ H s', Inv G [] sgσ H s' → Q kp H → R none s') : wpAny (model X.prog X.w) A (pyNext (.ref a)) R E s := by
  obtain ⟨H0, I0⟩ := z.inv
  obtain ⟨gs, hgs, hgo⟩ := z.at_
  have ks : k < s.gens.size := by
    rcases Nat.lt_or_ge k s.gens.size with h | h
    · exact h
    · rw [Array.getElem?_eq_none h] at hgs; cases hgs
  refine wpAny_gsz (n := k + 1) ks ?_
  refine wpAny_pyNext_genexpQ (P := fun _ _ s1 => ∃ H, Inv G [] sgσ H s1 ∧ Q kp H) (Y := genY G sgσ kp Q) hh I0.nolimit hd (z.is I0) hgs (hgo _ (setGen_woke I0.bare rfl)) (fun v s1 gs' hb hy => ?_) fun s1 ⟨H, I, q⟩ h' hk _ => ?_
  · obtain ⟨b, H, rfl, I, stop, on⟩ := hy
    have wk := setGen_woke (k := k) I.bare hb
    intro sz
    have sz : k < s1.gens.size := by
      have e : (s1.setGen k gs').gens.size = s1.gens.size := setGen_size ..
      rw [e] at sz
      exact sz
    by_cases eb : b = kp
    · subst eb
      have on := on rfl
      cases n with
      | zero => exact (on s1 ⟨s1.gens, s1.toks, rfl, I.bare⟩).elim
      | succ n' => exact yes n' _ rfl ⟨⟨H, inv_woke I wk⟩, z.is, gs', setGen_at sz, fun s2 w2 => on s2 (wk.trans w2)⟩
    · exact no b H _ eb (inv_woke I wk) (stop eb)
  · have J : Inv G [] sgσ H { s1.setGen k .finished with heap := h' } := by
      have J1 := inv_woke I (setGen_woke (k := k) (x := .finished) I.bare rfl)
      exact J1.kept (t' := s1.toks) hk
    exact done H _ J q
theorem all_loop {A : Around} {G : Cx} {sgσ : L2.St} {Q : Bool → Hp → Prop} {a : Addr} {k : Nat} (hh : A.handled = none) (hd : A.depth < recursionLimit) :
    ∀ (n : Nat) (s : Shared), Asleep X A.in1.in1 G sgσ true Q a k n s → codeAny (model X.prog X.w) A (.builtin "all.loop" ⟨[.ref a], []⟩) (fun r s' => ∃ b H, r = .ok (.ret (.bool b)) ∧ Inv G [] sgσ H s' ∧ Q b H) s := by
  intro n
  induction n with
  | zero =>
    intro s z
    refine codeAny_builtin F.entry_all_loop ?_
    rw [Around.under_plainId F.plain_all_loop _]
    show wpAny _ A.in1 (pyNext (.ref a) >>= _) _ _ s
    refine wpAny_bind (gen_next (A := A.in1) hh hd z (fun n' s' e => nomatch e) (fun b H s' eb I q => ?_) fun H s' I q => ?_)
    · obtain rfl : b = false := by cases b <;> first | rfl | exact absurd rfl eb
      refine wpAny_bind (wpAny_holding (wpAny_truthy_bool ?_))
      refine wpAny_bind (wpAny_letGo ?_)
      simp only [Bool.false_eq_true, if_false]
      exact wpAny_bind (wpAny_rule (wpAny_pure ⟨false, H, rfl, I, q⟩))
    · exact wpAny_bind (wpAny_rule (wpAny_pure ⟨true, H, rfl, I, q⟩))
  | succ n ih =>
    intro s z
    refine codeAny_builtin F.entry_all_loop ?_
    rw [Around.under_plainId F.plain_all_loop _]
    show wpAny _ A.in1 (pyNext (.ref a) >>= _) _ _ s
    refine wpAny_bind (gen_next (A := A.in1) hh hd z (fun n' s' e z' => ?_) (fun b H s' eb I q => ?_) fun H s' I q => ?_)
    · obtain rfl : n' = n := by omega
      refine wpAny_bind (wpAny_holding (wpAny_truthy_bool ?_))
      refine wpAny_bind (wpAny_letGo ?_)
      simp only [if_true]
      exact wpAny_pure ⟨plainId_quiet F.plain_all_loop _, ih _ z'⟩
    · obtain rfl : b = false := by cases b <;> first | rfl | exact absurd rfl eb
      refine wpAny_bind (wpAny_holding (wpAny_truthy_bool ?_))
      refine wpAny_bind (wpAny_letGo ?_)
      simp only [Bool.false_eq_true, if_false]
      exact wpAny_bind (wpAny_rule (wpAny_pure ⟨false, H, rfl, I, q⟩))
    · exact wpAny_bind (wpAny_rule (wpAny_pure ⟨true, H, rfl, I, q⟩))
theorem any_loop {A : Around} {G : Cx} {sgσ : L2.St} {Q : Bool → Hp → Prop} {a : Addr} {k : Nat} (hh : A.handled = none) (hd : A.depth < recursionLimit) :
    ∀ (n : Nat) (s : Shared), Asleep X A.in1.in1 G sgσ false Q a k n s → codeAny (model X.prog X.w) A (.builtin "any.loop" ⟨[.ref a], []⟩) (fun r s' => ∃ b H, r = .ok (.ret (.bool b)) ∧ Inv G [] sgσ H s' ∧ Q b H) s := by
  intro n
  induction n with
  | zero =>
    intro s z
    refine codeAny_builtin F.entry_any_loop ?_
    rw [Around.under_plainId F.plain_any_loop _]
    show wpAny _ A.in1 (pyNext (.ref a) >>= _) _ _ s
    refine wpAny_bind (gen_next (A := A.in1) hh hd z (fun n' s' e => nomatch e) (fun b H s' eb I q => ?_) fun H s' I q => ?_)
    · obtain rfl : b = true := by cases b <;> first | rfl | exact absurd rfl eb
      refine wpAny_bind (wpAny_holding (wpAny_truthy_bool ?_))
      refine wpAny_bind (wpAny_letGo ?_)
      simp only [if_true]
      exact wpAny_bind (wpAny_rule (wpAny_pure ⟨true, H, rfl, I, q⟩))
    · exact wpAny_bind (wpAny_rule (wpAny_pure ⟨false, H, rfl, I, q⟩))
  | succ n ih =>
    intro s z
    refine codeAny_builtin F.entry_any_loop ?_
    rw [Around.under_plainId F.plain_any_loop _]
    show wpAny _ A.in1 (pyNext (.ref a) >>= _) _ _ s
    refine wpAny_bind (gen_next (A := A.in1) hh hd z (fun n' s' e z' => ?_) (fun b H s' eb I q => ?_) fun H s' I q => ?_)
    · obtain rfl : n' = n := by omega
      refine wpAny_bind (wpAny_holding (wpAny_truthy_bool ?_))
      refine wpAny_bind (wpAny_letGo ?_)
      simp only [Bool.false_eq_true, if_false]
      exact wpAny_pure ⟨plainId_quiet F.plain_any_loop _, ih _ z'⟩
    · obtain rfl : b = true := by cases b <;> first | rfl | exact absurd rfl eb
      refine wpAny_bind (wpAny_holding (wpAny_truthy_bool ?_))
      refine wpAny_bind (wpAny_letGo ?_)
      simp only [if_true]
      exact wpAny_bind (wpAny_rule (wpAny_pure ⟨true, H, rfl, I, q⟩))
    · exact wpAny_bind (wpAny_rule (wpAny_pure ⟨false, H, rfl, I, q⟩))
end
section
open PySem.Spec GxR GenW
/-- all (kp true), any (kp false): over what comes, g puts it under its names, te tells the element; the table at P may grow -/
def tQuant (kp : Bool) (P : Addr) (wi : TI) (sg : L2.St → L2.St) (g : TG) (te : TE) (vs : List Nat) : TE := fun σ H Q => wi σ H fun J H1 => TabG H1 P ∧ ∀ H2, Tabbed P H1 H2 → ∃ W : Nat → Nat → Hp → Prop, (∃ m, W 0 m H2) ∧ ∀ i m H, W i m H →
  (J.stop i H ∧ Q (.bl kp) H) ∨ (J.go i H ∧ ∃ Nx : Hp → Prop, (∀ H', Nx H' → ∃ m', m' < m ∧ W (i + 1) m' H') ∧ ∀ x H', J.yld i H x H' → g x (sg σ) H' fun σ2 H3 => wipe σ2 vs = sg σ ∧ te σ2 H3 fun y H4 => ∃ b, y = .bl b ∧ (b ≠ kp → Q (.bl b) H4) ∧ (b = kp → Nx H4))
theorem over_gen {A : Around} {elt tg iter : Expr} {scope : Scope} {gpos : Pos} {it acc : Value} {cenv : Env} : A.over (.compLoop (.GeneratorExp elt [⟨tg, iter, [], 0⟩] scope gpos) 0 it acc cenv) [] = A.deeper cenv := by
  first
    | rfl
    | (obtain ⟨hd, d, fr, gs, u⟩ := A; simp [Around.over, Around.deeper, marksOver, frameCount, unitsOf, envsOf, guardsOf, pushEnvs, pushGuards, Code.envs, Code.env?, Code.isFrame, Code.guards, Code.isGuard, Code.weight, Code.frames, Code.isCreation, Code.isCaller, Code.cUnits])
theorem gen_made {X : Cx} {c P : Addr} {elt iter tg : Expr} {scope : Scope} {gpos : Pos} {N' : List Str} {sg : L2.St → L2.St} {kp : Bool} {wi : TI} {g : TG} {te : TE} {vs : List Nat} {k : Nat} {pins : List (Addr × Obj)} {σ : L2.St} {H : Hp} {s : Shared} {Q : VK}
    (hr : Room (k + 1) X.A) (hc : X.calm = true) (TB : TabB X.base X.mg c P) (hcode : X.env.code = .ref c) (S : GenN X scope N' sg) (hi : L2.PI X tg iter wi) (hs : ∀ v, genFold iter X.env v = pure v)
    (pg : ∀ (A' : Around) (s : Shared) (H : Hp) (cl : List (Str × Addr)) (C bi : Addr) (code : Value) (fp : List Addr) (pn : List (Addr × Obj)), Room k A' → L2.PG (gcx X A' N' s H (genEnv scope cl C code bi X.env) fp pn) tg g)
    (pe : ∀ (A' : Around) (s : Shared) (H : Hp) (cl : List (Str × Addr)) (C bi : Addr) (code : Value) (fp : List Addr) (pn : List (Addr × Obj)), Room k A' → L2.PE (gcx X A' N' s H (genEnv scope cl C code bi X.env) fp pn) elt te)
    (I : Inv X pins σ H s) (h : tQuant kp P wi sg g te vs σ H Q) :
    wpAny (model X.prog X.w) X.A (eval (.GeneratorExp elt [⟨tg, iter, [], 0⟩] scope gpos) X.env) (fun gv z => ∃ (a : Addr) (kk n : Nat) (G : Cx), gv = .ref a ∧ Asleep X X.A.in1.in1 G (sg σ) kp (fun b H' => Q (.bl b) H') a kk n z ∧ ∀ s' b H', Inv G [] (sg σ) H' s' → Q (.bl b) H' → EP X pins σ Q (.bool b) s') X.xe s := by
  have has : ∀ y ∈ scope.names, y.2 = .free → ∃ c, X.env.cells.lookup y.1 = some c := fun y hy e => I.ok.has _ ((S.free y hy e).elim .inl .inr)
  refine wpAny_GeneratorExp_make S.co (closure_ok has) S.cell S.dot S.kind (by have := hr.dp; omega) ?_ hs
  refine thn (hi.run pins s σ H _ I h) fun xv s1 hx => thn hx fun itv s2 ⟨it, fp, tn, J, H2, ei, I2, T, st2, f2, ⟨ps, hP, tri⟩, q⟩ => ?_
  subst ei
  have tabP : s2.heap.get? P = some { cls := .none, data := .fields ps } := I2.hok P _ hP
  refine ⟨I2.nolimit, thn (code_gotC (ps := ps) hcode (TB.code.keeps fun b o e => I2.bk b o e) tabP tri) fun code s3 got => ?_⟩
  obtain ⟨eq3, ext, more, hP3, tri3⟩ := got
  obtain ⟨h3, g3, d3, t3, o3⟩ := s3
  obtain ⟨rfl, rfl, rfl⟩ : g3 = s2.gens ∧ d3 = s2.drawn ∧ o3 = s2.os := by
    have := eq3
    simp only [Shared.mk.injEq] at this
    exact ⟨this.2.1, this.2.2.1, this.2.2.2.2⟩
  replace ext : Heap.ExtBut P s2.heap h3 := ext
  replace hP3 : h3.get? P = some { cls := .none, data := .fields (ps ++ more) } := hP3
  have kept : ∀ b o, b ≠ P → s2.heap.get? b = some o → h3.get? b = some o := fun b o nb e => ext b o nb e
  have neP : ∀ b ∈ fp, b ≠ P := fun b hb e => by
    have := (f2 b hb).1
    rw [e, hP] at this
    cases this
  have I3 : Inv X pins σ (upd H2 P (.tbl (ps ++ more))) { s2 with heap := h3, toks := t3 } := inv_tab (more := more) (h' := h3) (g' := s2.gens) (d' := s2.drawn) (t' := t3) I2 hP kept hP3 I2.bare
  have tb : Tabbed P H2 (upd H2 P (.tbl (ps ++ more))) := ⟨⟨_, upd_same, tri3⟩, fun b nb => upd_ne nb⟩
  obtain ⟨W, ⟨m0, w0⟩, turn⟩ := q _ tb
  have st3 : tn 0 h3 := T.keep _ _ _ st2 fun b hb o e => kept b o (neP b hb) e
  have n3 : ∀ b ∈ fp, upd H2 P (.tbl (ps ++ more)) b = none := fun b hb => by rw [upd_ne (neP b hb)]; exact (f2 b hb).1
  have f3 : ∀ b ∈ fp, FpOk X pins (upd H2 P (.tbl (ps ++ more))) b ∧ b < h3.objs.size := fun b hb => by
    obtain ⟨o, e, _⟩ := T.obj _ _ st3 b hb
    exact ⟨⟨n3 b hb, (f2 b hb).2⟩, Heap.lt_size e⟩
  generalize upd H2 P (.tbl (ps ++ more)) = H3 at *
  obtain ⟨bm, ob, b1, b2, b3, b4, b5, b6, b7, b8⟩ := TB.bm
  refine wpAny_builtinsFor (m := X.mg) (by rw [I2.ok.glob]; exact (I2.mod.glob.keeps fun b o e => I2.bk b o e).extBut ext TB.gP) b1 b2 (kept _ _ b4 (I2.bk _ _ b5)) b6 b7 b8 ?_
  intro h' hn' sb'
  have sz : h'.objs.size = h3.objs.size + 1 := by
    have := sb'.1
    rw [this, Heap.size_push]
  generalize ego : ({ cls := .type "generator", data := .fields #[.int s2.gens.size 0, .str "<genexpr>" (t3 + 1), .str (X.env.qual ++ "<genexpr>") (t3 + 1 + 1)] } : Obj) = go
  have hpush : (h'.push go).get? h'.objs.size = some go := by
    rw [← ego]
    exact Heap.get?_push_size _ rfl
  have hgen : ∀ hh : Heap, hh.get? h'.objs.size = some go → hh.IsGen h'.objs.size s2.gens.size := fun hh e => by
    rw [← ego] at e
    exact ⟨_, _, _, e, rfl, rfl, rfl⟩
  have hd : ∀ v, go.data ≠ .cell v := fun v z => by rw [← ego] at z; cases z
  have hbare : AllBare (s2.gens.push (.fresh (.compStart (.GeneratorExp elt [⟨tg, iter, [], 0⟩] scope gpos) 0 (.ref it) .none (genEnv scope (cloFrom X.env.cells scope.names []) h3.objs.size code builtinsNs X.env)))) := AllBare.push I2.bare rfl
  have hA : (genA X.A.in1.in1 tg elt iter scope gpos it (genEnv scope (cloFrom X.env.cells scope.names []) h3.objs.size code builtinsNs X.env)).frames = some (genEnv scope (cloFrom X.env.cells scope.names []) h3.objs.size code builtinsNs X.env :: X.stack) := by
    rw [show genA X.A.in1.in1 tg elt iter scope gpos it _ = _ from over_gen]
    exact Around.frames_deeper I3.ok.frames
  have hroom : Room k (genA X.A.in1.in1 tg elt iter scope gpos it (genEnv scope (cloFrom X.env.cells scope.names []) h3.objs.size code builtinsNs X.env)) := by
    rw [show genA X.A.in1.in1 tg elt iter scope gpos it _ = _ from over_gen]
    refine ⟨hr.hd, ?_, ?_⟩
    · have := hr.dp
      show X.A.depth + 1 + 3 * k + 5 < _
      omega
    · have := hr.un
      show X.A.units + 1 + 1 + 3 + 16 * k + 200 < _
      omega
  have I4 := gen_start (tk := t3 + 1 + 1 + 1) (gens' := s2.gens.push (.fresh (.compStart (.GeneratorExp elt [⟨tg, iter, [], 0⟩] scope gpos) 0 (.ref it) .none (genEnv scope (cloFrom X.env.cells scope.names []) h3.objs.size code builtinsNs X.env)))) I3 S f3 hA hr.hd hn' sb' hd hpush hbare
  have hpn : ∀ p ∈ [(h'.objs.size, go)], ∀ b ∈ fp, p.1 ≠ b := fun p hp b hb e => by
    rw [List.mem_singleton.mp hp] at e
    have := (f3 b hb).2
    rw [← e] at this
    have this : h'.objs.size < h3.objs.size := this
    omega
  refine ⟨h'.objs.size, s2.gens.size, m0 + 1, _, rfl, ⟨⟨H3, I4⟩, fun {s' H'} I' => hgen _ (I'.pin (h'.objs.size, go) (List.mem_append_left _ (List.mem_singleton.mpr rfl))).1, _, Array.getElem?_push_size .., fun s5 wk => ⟨rfl, ?_⟩⟩, fun s' b H' I' qb => ?_⟩
  · have I5 := inv_woke I4 wk
    have st5 : tn 0 s5.heap := by
      obtain ⟨g', tk, rfl, _⟩ := wk
      exact T.keep _ _ _ st3 fun b hb o e => Heap.get?_push_of_some _ (sb'.extBut b o (Nat.ne_of_lt (Heap.lt_size e)) (Heap.get?_push_of_some _ e))
    exact gen_begin T st5 (gen_loop (kp := kp) (Q := fun b H' => Q (.bl b) H') (vs := vs) T hc S.co hpn (pg _ _ _ _ _ _ _ _ _ hroom) (pe _ _ _ _ _ _ _ _ _ hroom) turn _ 0 m0 _ _ H3 (Nat.lt_succ_self _) I5 st5 n3 w0)
  · exact ⟨.bl b, H', I3.call' (ch := fp) I'.os I'.base I'.hok I'.bare fun b hb => ⟨(f3 b hb).1.2.2.2.1, (f3 b hb).1.2.1, (f3 b hb).1.2.2.2.2.1, (f3 b hb).1.2.2.2.2.2⟩, rfl, qb⟩
end
section
open PySem.Spec GxR GenW
variable {X : Cx} {c P : Addr} {elt iter tg : Expr} {scope : Scope} {p pos gpos : Pos} {N' : List Str} {sg : L2.St → L2.St} {wi : TI} {g : TG} {te : TE} {vs : List Nat} {k : Nat}
theorem pe_allG (hr : Room (k + 1) X.A) (hc : X.calm = true) (hg : Gl X "all") (hm : X.mg "all" = none) (hb : bootBuiltins "all" = some (.builtin "all")) (TB : TabB X.base X.mg c P) (hcode : X.env.code = .ref c) (S : GenN X scope N' sg) (hi : L2.PI X tg iter wi) (hs : ∀ v, genFold iter X.env v = pure v)
    (pg : ∀ (A' : Around) (s : Shared) (H : Hp) (cl : List (Str × Addr)) (C bi : Addr) (code : Value) (fp : List Addr) (pn : List (Addr × Obj)), Room k A' → L2.PG (gcx X A' N' s H (genEnv scope cl C code bi X.env) fp pn) tg g)
    (pe : ∀ (A' : Around) (s : Shared) (H : Hp) (cl : List (Str × Addr)) (C bi : Addr) (code : Value) (fp : List Addr) (pn : List (Addr × Obj)), Room k A' → L2.PE (gcx X A' N' s H (genEnv scope cl C code bi X.env) fp pn) elt te) :
    L2.PE X (.Call (.Name "all" p) [.GeneratorExp elt [⟨tg, iter, [], 0⟩] scope gpos] [] pos) (tQuant true P wi sg g te vs) := by
  refine ⟨fun pins s σ H Q I h => ?_⟩
  refine wpAny_Call_Name_kw (ld_blt I hg hm hb (PyProof.Rows.callWith_builtin1 ?_ rfl rfl))
  show wpAny _ _ (spliced ((false, eval (.GeneratorExp elt [⟨tg, iter, [], 0⟩] scope gpos) X.env) :: backTo pos (starEach [] X.env))) _ _ s
  refine Calls.spliced_cons (thn (gen_made hr hc TB hcode S hi hs pg pe I h) fun gv z ⟨a, kk, n, G, ev, sl, fin⟩ => Calls.spliced_nil ?_)
  subst ev
  refine call_function_tree F.kind_all F.plain_all F.entry_all (F.args_all1 _) ?_
  unfold Builtin.«all»
  refine wpAny_bind (m := oneArg "all" _) (wpAny_pure ?_)
  obtain ⟨H0, I0⟩ := sl.inv
  refine wpAny_bind (wpAny_pyIter_gen (sl.is I0) ?_)
  refine wpAny_pure ⟨plainId_quiet F.plain_all_loop _, codeAny_mono (all_loop hr.hd (by have := hr.dp; omega) n z sl) fun r s' ⟨b, H', er, I', q⟩ => ?_⟩
  subst er
  exact fin s' b H' I' q
theorem pe_anyG (hr : Room (k + 1) X.A) (hc : X.calm = true) (hg : Gl X "any") (hm : X.mg "any" = none) (hb : bootBuiltins "any" = some (.builtin "any")) (TB : TabB X.base X.mg c P) (hcode : X.env.code = .ref c) (S : GenN X scope N' sg) (hi : L2.PI X tg iter wi) (hs : ∀ v, genFold iter X.env v = pure v)
    (pg : ∀ (A' : Around) (s : Shared) (H : Hp) (cl : List (Str × Addr)) (C bi : Addr) (code : Value) (fp : List Addr) (pn : List (Addr × Obj)), Room k A' → L2.PG (gcx X A' N' s H (genEnv scope cl C code bi X.env) fp pn) tg g)
    (pe : ∀ (A' : Around) (s : Shared) (H : Hp) (cl : List (Str × Addr)) (C bi : Addr) (code : Value) (fp : List Addr) (pn : List (Addr × Obj)), Room k A' → L2.PE (gcx X A' N' s H (genEnv scope cl C code bi X.env) fp pn) elt te) :
    L2.PE X (.Call (.Name "any" p) [.GeneratorExp elt [⟨tg, iter, [], 0⟩] scope gpos] [] pos) (tQuant false P wi sg g te vs) := by
  refine ⟨fun pins s σ H Q I h => ?_⟩
  refine wpAny_Call_Name_kw (ld_blt I hg hm hb (PyProof.Rows.callWith_builtin1 ?_ rfl rfl))
  show wpAny _ _ (spliced ((false, eval (.GeneratorExp elt [⟨tg, iter, [], 0⟩] scope gpos) X.env) :: backTo pos (starEach [] X.env))) _ _ s
  refine Calls.spliced_cons (thn (gen_made hr hc TB hcode S hi hs pg pe I h) fun gv z ⟨a, kk, n, G, ev, sl, fin⟩ => Calls.spliced_nil ?_)
  subst ev
  refine call_function_tree F.kind_any F.plain_any F.entry_any (F.args_any1 _) ?_
  unfold Builtin.«any»
  refine wpAny_bind (m := oneArg "any" _) (wpAny_pure ?_)
  obtain ⟨H0, I0⟩ := sl.inv
  refine wpAny_bind (wpAny_pyIter_gen (sl.is I0) ?_)
  refine wpAny_pure ⟨plainId_quiet F.plain_any_loop _, codeAny_mono (any_loop hr.hd (by have := hr.dp; omega) n z sl) fun r s' ⟨b, H', er, I', q⟩ => ?_⟩
  subst er
  exact fin s' b H' I' q
end
section
theorem genN_none {X : Cx} {scope : Scope} {N' : List Str} {n : Nat} (h1 : scope.kind = .function) (h2 : scope.isCoroutine = false) (h3 : ∀ y ∈ scope.names, y.2 ≠ .cell) (h4 : scope.names.lookup (".0" : Str) = some NameKind.local) (h5 : ∀ y ∈ scope.names, y.2 ≠ .free) (h6 : n = N'.length := by rfl) :
    GenN X scope N' (fun _ => List.replicate n none) :=
  ⟨h1, h2, h3, h4, fun y hy z => absurd z (h5 y hy), fun _ => by rw [List.length_replicate]; exact h6, fun σ i x v _ e => by
    rw [List.getElem?_replicate] at e
    split at e <;> cases e⟩
theorem genN_one {X : Cx} {scope : Scope} {ts : List Str} {f : Str} {j : Nat} (h1 : scope.kind = .function) (h2 : scope.isCoroutine = false) (h3 : ∀ y ∈ scope.names, y.2 ≠ .cell) (h4 : scope.names.lookup (".0" : Str) = some NameKind.local) (h5 : ∀ y ∈ scope.names, y.2 = .free → y.1 = f)
    (h6 : scope.names.lookup f = some .free) (h7 : X.N[j]? = some f) (h8 : X.env.scope.names.lookup f = some .cell ∨ X.env.scope.names.lookup f = some .free) :
    GenN X scope (ts ++ [f]) (fun σ => List.replicate ts.length none ++ [σ.getD j none]) :=
  ⟨h1, h2, h3, h4, fun y hy z => by rw [h5 y hy z]; exact h8, fun _ => by rw [List.length_append, List.length_append, List.length_replicate]; rfl, fun σ i x v e1 e2 => by
    by_cases h : i < ts.length
    · rw [List.getElem?_append_left (by rw [List.length_replicate]; exact h), List.getElem?_replicate] at e2
      split at e2 <;> cases e2
    · rw [List.getElem?_append_right (by omega)] at e1
      rw [List.getElem?_append_right (by rw [List.length_replicate]; omega), List.length_replicate] at e2
      cases hz : i - ts.length with
      | zero =>
        rw [hz] at e1 e2
        obtain rfl : f = x := Option.some.inj e1
        have e2 : σ.getD j none = some v := Option.some.inj e2
        refine ⟨h6, j, h7, ?_⟩
        rw [List.getD_eq_getElem?_getD] at e2
        cases hj : σ[j]? with
        | none => rw [hj] at e2; cases e2
        | some z => rw [hj] at e2; rw [show z = some v from e2]
      | succ z => rw [hz] at e1; cases e1⟩
end
/-! ### places that steps lead back to -/
/-- one or more steps from p -/
inductive OnW (st : Nat → List Nat) (p : Nat) : Nat → Prop
  | one {x : Nat} : x ∈ st p → OnW st p x
  | more {x y : Nat} : OnW st p x → y ∈ st x → OnW st p y
theorem OnW.lt {st : Nat → List Nat} {n p x : Nat} (hp : p < n) (hs : ∀ i, i < n → ∀ y ∈ st i, y < n) (h : OnW st p x) : x < n := by
  induction h with
  | one m => exact hs _ hp _ m
  | more _ m ih => exact hs _ ih _ m
theorem OnW.inside {st : Nat → List Nat} {p y : Nat} {S : List Nat} (h0 : ∀ x ∈ st p, x ∈ S) (h1 : ∀ x ∈ S, ∀ y ∈ st x, y ∈ S) (h : OnW st p y) : y ∈ S := by
  induction h with
  | one m => exact h0 _ m
  | more _ m ih => exact h1 _ ih _ m
theorem OnW.rank {st : Nat → List Nat} {rk : Nat → Int} (h : ∀ x, ∀ y ∈ st x, rk x < rk y) {p y : Nat} (w : OnW st p y) : rk p < rk y := by
  induction w with
  | one m => exact h _ _ m
  | more _ m ih => exact Int.lt_trans ih (h _ _ m)
/-- the dict of the steps -/
abbrev stK (adr : Nat → Addr) (n : Nat) : List (Key × V) := (List.range n).map fun i => (Sum.inl ((i : Nat) : Int), V.ref (adr i))
theorem stK_at {adr : Nat → Addr} {n p : Nat} (h : p < n) : valV (stK adr n) (Sum.inl ((p : Nat) : Int)) = some (V.ref (adr p)) := by
  unfold valV
  rw [List.find?_map]
  have : (List.range n).find? ((fun kv : Key × V => decide (kv.1 = Sum.inl ((p : Nat) : Int))) ∘ fun i => (Sum.inl ((i : Nat) : Int), V.ref (adr i))) = some p := by
    rw [List.find?_range_eq_some]
    refine ⟨decide_eq_true rfl, List.mem_range.mpr h, fun j hj => ?_⟩
    show (!decide ((Sum.inl ((j : Nat) : Int) : Key) = Sum.inl ((p : Nat) : Int))) = true
    rw [decide_eq_false fun e => by have := Sum.inl.inj e; omega]
    rfl
  rw [this]
  rfl
structure StAt (H : Hp) (d : Addr) (n : Nat) (st : Nat → List Nat) : Prop where
  ex : ∃ adr : Nat → Addr, H d = some (.dK (stK adr n)) ∧ ∀ i, i < n → H (adr i) = some (.lst ((st i).map nV))
theorem StAt.same {H H' : Hp} {d : Addr} {n : Nat} {st : Nat → List Nat} (a : StAt H d n st) (s : Same H H') : StAt H' d n st := by
  obtain ⟨adr, e1, e2⟩ := a.ex
  exact ⟨adr, s _ _ e1, fun i hi => s _ _ (e2 i hi)⟩
theorem StAt.get {H : Hp} {d : Addr} {n : Nat} {st : Nat → List Nat} (a : StAt H d n st) {p : Nat} (h : p < n) : ∃ l, DGet H d (nV p) (some (.ref l)) ∧ H l = some (.lst ((st p).map nV)) := by
  obtain ⟨adr, e1, e2⟩ := a.ex
  refine ⟨adr p, ?_, e2 p h⟩
  have := DGet.k (k := Sum.inl ((p : Nat) : Int)) e1
  rwa [stK_at h] at this
theorem few_below : ∀ {n : Nat} {l : List Nat}, l.Nodup → (∀ x ∈ l, x < n) → l.length ≤ n := by
  intro n l nd h
  have : ∀ {l m : List Nat}, l.Nodup → (∀ x ∈ l, x ∈ m) → l.length ≤ m.length := by
    intro l
    induction l with
    | nil => intro _ _ _; exact Nat.zero_le _
    | cons x l ih =>
      intro m nd h
      obtain ⟨n1, n2⟩ := List.nodup_cons.mp nd
      have i := ih (m := m.erase x) n2 fun y hy => (List.mem_erase_of_ne (fun e : y = x => n1 (e ▸ hy))).mpr (h y (List.mem_cons_of_mem _ hy))
      have := List.length_erase_of_mem (h x (List.mem_cons_self ..))
      have pos : 0 < m.length := List.length_pos_of_mem (h x (List.mem_cons_self ..))
      show l.length + 1 ≤ m.length
      omega
  have := this (m := List.range n) nd fun x hx => List.mem_range.mpr (h x hx)
  rwa [List.length_range] at this
section
variable {P : Program} {w : World} {K : PySem.W.Frag} {mg : Str → Option Value} {base : Heap}
def sp_comes_back (K : PySem.W.Frag) : Sp := fun vs H Q _ => ∃ (d : Addr) (n p : Nat) (st : Nat → List Nat), vs = [nV p, .ref d] ∧ StAt H d n st ∧ p < n ∧ n ≤ 400 ∧ (∀ i, i < n → (st i).length ≤ 400 ∧ ∀ y ∈ st i, y < n) ∧
  ∀ (b : Bool) (H' : Hp), (b = true ↔ OnW st p p) → Same H H' → Q (.bl b) H'
theorem ok_comes_back {f : Addr} {fd : FuncData} (F : Fun K "comes_back" "comes_back" s_comes_back f fd) (T : Top w K mg) : FnOk P w K mg base CX0 1 f fd ["place", "steps"] (sp_comes_back K) := by
  refine F.ok sc_comes_back (fun vs H Q E h => ?_) (fun cdv A outer s H vs Q E hr h => ?_)
  · obtain ⟨d, n, p, st, rfl, _⟩ := h
    rfl
  obtain ⟨d, n, p, st, rfl, hd, hp, hn, hs, q⟩ := h
  have hlt : ∀ i, i < n → ∀ y ∈ st i, y < n := fun i hi => (hs i hi).2
  refine ⟨_, (pss_cons (ps_set (i := 2) sc_comes_back.nd rfl (Or.inl rfl) (pe_callTy0 cr_set0 (by rfl) T.m_set (by decide +kernel)))
      (pss_cons (ps_set (i := 3) sc_comes_back.nd rfl (Or.inl rfl) (pe_callTy (call_list_ofK K rfl) (by rfl) T.m_list (by decide +kernel) (pa_cons (pe_dget (hu_of hr) (pv 1) (pv 0) (fun _ _ => rfl)) pa_nil)))
      (pss_cons (ps_while PassesOwn.never (pt_truthK K rfl (pv 3) (by intro _; rfl))
        (pss_cons (ps_set (i := 4) sc_comes_back.nd rfl (Or.inl rfl) (pe_bm0K K rfl PySem.F.plainAttrs_list PySem.F.slot_list_pop PySem.F.type_list_pop mt_pop (pv 3)))
      (pss_cons (ps_if (pt_cmpR op_eq (pv 4) (pv 0) (nomark _)) (pss_one (ps_ret pe_bl)) pss_nil)
      (pss_one (ps_if (pt_cmpR or_snotin (pv 4) (pv 2) (by with_unfolding_all rfl)) (pss_cons (ps_expr (pe_sadd (pv 2) (pa_cons (pv 4) pa_nil)))
      (pss_one (ps_expr (pe_bmK K rfl PySem.F.plainAttrs_list PySem.F.slot_list_extend PySem.F.type_list_extend mt_extend (pv 3) (pa_cons (pe_dget (hu_of hr) (pv 1) (pv 4) (fun _ _ => rfl)) pa_nil))))) pss_nil)))))
      (pss_one (ps_ret pe_bl))))), ?_⟩
  refine ⟨rfl, fun sp nsp => ?_⟩
  have s1 : Same H (upd H sp (SetO w sp (fun _ => false) 0)) := same_new nsp
  obtain ⟨l0, g0, hl0⟩ := (hd.same s1).get hp
  refine ⟨_, rfl, _, rfl, d, _, rfl, g0, l0, _, rfl, .inl (SqL.of hl0), fun ll nll => ?_⟩
  have s2 := s1.trans (same_new (o := .lst ((st p).map nV)) nll)
  have nel : sp ≠ ll := fun z => by rw [← z, upd_same] at nll; cases nll
  have nll0 : H ll = none := same_none s1 nll
  let W : Nat → L2.St → Hp → Prop := fun m σ H5 => ∃ (S L : List Nat) (Sf : Int → Bool) (v4 : Option V), σ = [some (nV p), some (.ref d), some (.ref sp), some (.ref ll), v4] ∧ H5 sp = some (SetO w sp Sf S.length) ∧ H5 ll = some (.lst (L.map nV)) ∧ Same H H5 ∧ S.Nodup ∧ (∀ x : Nat, Sf ((x : Nat) : Int) = true ↔ x ∈ S) ∧
    (∀ x ∈ S, x < n ∧ x ≠ p ∧ OnW st p x) ∧ (∀ x ∈ L, x < n ∧ OnW st p x) ∧ (∀ y ∈ st p, y ∈ S ∨ y ∈ L) ∧ (∀ x ∈ S, ∀ y ∈ st x, y ∈ S ∨ y ∈ L) ∧ m = 401 * (n - S.length) + L.length ∧ m ≤ 401 * n + 400
  refine ⟨W, ⟨_, [], st p, fun _ => false, _, rfl, by rw [upd_ne nel]; exact upd_same, upd_same, s2, List.nodup_nil, fun x => ⟨(fun z => nomatch z), fun z => (by cases z)⟩, (fun x z => by cases z), fun x hx => ⟨hlt p hp x hx, .one hx⟩, fun y hy => .inr hy, (fun x z => by cases z), rfl, ?_⟩, ?_⟩
  · have := (hs p hp).1
    show 401 * (n - 0) + _ ≤ _
    omega
  rintro m σ H5 ⟨S, L, Sf, v4, rfl, hsp, hll, s5, nd, sf, hS, hL, c0, c1, em, mb⟩
  refine ⟨_, rfl, !(L.map nV).isEmpty, .inl ⟨_, SqL.of hll, rfl⟩, ?_⟩
  have sl := few_below nd fun x hx => (hS x hx).1
  rcases List.eq_nil_or_concat L with rfl | ⟨L', x, rfl⟩
  · show (if (false : Bool) = true then _ else _)
    rw [if_neg Bool.false_ne_true]
    refine q false H5 ⟨(fun z => nomatch z), fun z => ?_⟩ s5
    exact absurd rfl (hS p (z.inside (fun y hy => (c0 y hy).resolve_right fun z => by cases z) (fun x hx y hy => (c1 x hx y hy).resolve_right fun z => by cases z))).2.1
  have tr : (!((L'.concat x).map nV).isEmpty) = true := by
    rw [List.concat_eq_append, List.map_append]
    cases L'.map nV <;> rfl
  rw [List.concat_eq_append] at *
  rw [tr]
  refine if_bl (fun _ => ?_) (fun z => nomatch z)
  refine ⟨fun σ' H' => ∃ m', m' < m ∧ W m' σ' H', fun _ _ z => z, ?_⟩
  have lL : (L' ++ [x]).length = L'.length + 1 := by rw [List.length_append]; rfl
  obtain ⟨xn, xw⟩ := hL x (List.mem_append.mpr (.inr (List.mem_singleton.mpr rfl)))
  refine ⟨_, rfl, .inl ⟨rfl, _, SqL.of hll⟩, ll, _, nV x, rfl, rfl, hll, by rw [List.map_append, List.length_append, List.getElem?_append_right (by rw [List.length_map]; exact Nat.le_refl _)]; simp, ?_⟩
  have dl : ((L' ++ [x]).map nV).dropLast = L'.map nV := by rw [List.map_append]; exact List.dropLast_concat
  rw [dl]
  have s6 : Same H (upd H5 ll (.lst (L'.map nV))) := Same.own s5 nll0
  have hsp6 : upd H5 ll (.lst (L'.map nV)) sp = some (SetO w sp Sf S.length) := by rw [upd_ne nel]; exact hsp
  have hll6 : upd H5 ll (.lst (L'.map nV)) ll = some (.lst (L'.map nV)) := upd_same
  generalize upd H5 ll (.lst (L'.map nV)) = H6 at *
  refine ⟨_, rfl, _, rfl, rfl, _, rfl, if_bl (fun e => ?_) (fun e => ?_)⟩
  · have e : x = p := by have := V.int.inj (of_decide_eq_true e); omega
    rw [e] at xw
    exact q true H6 ⟨fun _ => xw, fun _ => rfl⟩ s6
  have xp : x ≠ p := fun z => of_decide_eq_false e (by rw [z])
  refine ⟨_, rfl, _, rfl, _, sp, Sf, _, rfl, rfl, hsp6, _, rfl, if_bl (fun e => ?_) (fun e => ?_)⟩
  · have xS : x ∉ S := fun z => by
      rw [(sf x).mpr z] at e
      cases e
    have xf : Sf ((x : Nat) : Int) = false := by
      cases h : Sf ((x : Nat) : Int) with
      | false => rfl
      | true => exact absurd ((sf x).mp h) xS
    have nd2 : (x :: S).Nodup := List.nodup_cons.mpr ⟨xS, nd⟩
    have sl2 := few_below (n := n) nd2 fun y hy => by
      rcases List.mem_cons.mp hy with rfl | hy
      · exact xn
      · exact (hS y hy).1
    rw [List.length_cons] at sl2
    refine ⟨_, rfl, ⟨sp, _, _, rfl, hsp6⟩, _, rfl, sp, _, Sf, _, rfl, rfl, hsp6, by unfold scanBound; omega, ?_⟩
    rw [xf, if_neg Bool.false_ne_true]
    generalize e7 : upd H6 sp _ = H7
    have s7 : Same H H7 := by rw [← e7]; exact Same.own s6 nsp
    have hsp7 : H7 sp = some (SetO w sp (fun j => Sf j || decide (j = ((x : Nat) : Int))) (x :: S).length) := by rw [← e7]; exact upd_same
    have hll7 : H7 ll = some (.lst (L'.map nV)) := by rw [← e7, upd_ne (Ne.symm nel)]; exact hll6
    clear e7
    obtain ⟨lx, gx, hlx⟩ := (hd.same s7).get xn
    have sx := (hs x xn).1
    refine ⟨_, rfl, .inl ⟨rfl, _, SqL.of hll7⟩, _, rfl, _, rfl, d, _, rfl, gx, ll, lx, _, _, rfl, rfl, hll7, hlx, by rw [List.length_map, List.length_map]; rw [sizeLine_eq]; omega, ?_⟩
    refine ⟨401 * (n - (S.length + 1)) + (L' ++ st x).length, by rw [List.length_append]; omega, x :: S, L' ++ st x, _, _, rfl, by rw [upd_ne nel]; exact hsp7, by rw [upd_same, List.map_append], Same.own s7 nll0, nd2, fun y => ?_, fun y hy => ?_, fun y hy => ?_, fun y hy => ?_, fun z hz y hy => ?_, rfl, by rw [List.length_append]; omega⟩
    · rw [List.mem_cons]
      by_cases z : y = x
      · subst z; simp
      · have : (decide (((y : Nat) : Int) = ((x : Nat) : Int))) = false := decide_eq_false fun e => z (by omega)
        show (Sf _ || decide _) = true ↔ _
        rw [this, Bool.or_false, sf y]
        exact ⟨.inr, fun h => h.resolve_left z⟩
    · rcases List.mem_cons.mp hy with rfl | hy
      · exact ⟨xn, xp, xw⟩
      · exact hS y hy
    · rcases List.mem_append.mp hy with hy | hy
      · exact hL y (List.mem_append.mpr (.inl hy))
      · exact ⟨hlt x xn y hy, .more xw hy⟩
    · rcases c0 y hy with z | z
      · exact .inl (List.mem_cons_of_mem _ z)
      · rcases List.mem_append.mp z with z | z
        · exact .inr (List.mem_append.mpr (.inl z))
        · rw [List.mem_singleton.mp z]; exact .inl (List.mem_cons_self ..)
    · rcases List.mem_cons.mp hz with rfl | hz
      · exact .inr (List.mem_append.mpr (.inr hy))
      · rcases c1 z hz y hy with z | z
        · exact .inl (List.mem_cons_of_mem _ z)
        · rcases List.mem_append.mp z with z | z
          · exact .inr (List.mem_append.mpr (.inl z))
          · rw [List.mem_singleton.mp z]; exact .inl (List.mem_cons_self ..)
  · have xS : x ∈ S := (sf x).mp (by
      cases h : Sf ((x : Nat) : Int) with
      | true => rfl
      | false => rw [h] at e; cases e)
    have out : ∀ y, y ∈ S ∨ y ∈ L' ++ [x] → y ∈ S ∨ y ∈ L' := fun y z => by
      rcases z with z | z
      · exact .inl z
      · rcases List.mem_append.mp z with z | z
        · exact .inr z
        · rw [List.mem_singleton.mp z]; exact .inl xS
    exact ⟨401 * (n - S.length) + L'.length, by omega, S, L', Sf, _, rfl, hsp6, hll6, s6, nd, sf, hS, fun y hy => hL y (List.mem_append.mpr (.inl hy)), fun y hy => out y (c0 y hy), fun z hz y hy => out y (c1 z hz y hy), rfl, by omega⟩
def FirstW (st : Nat → List Nat) (ps : List Nat) (v : V) : Prop := (v = .non ∧ ∀ x ∈ ps, ¬ OnW st x x) ∨ ∃ i x : Nat, ps[i]? = some x ∧ v = nV x ∧ OnW st x x ∧ ∀ j y : Nat, j < i → ps[j]? = some y → ¬ OnW st y y
def sp_first_on_ring (K : PySem.W.Frag) : Sp := fun vs H Q _ => ∃ (pl d : Addr) (n : Nat) (ps : List Nat) (st : Nat → List Nat), vs = [.ref pl, .ref d] ∧ H pl = some (.lst (ps.map nV)) ∧ (∀ x ∈ ps, x < n) ∧ StAt H d n st ∧ n ≤ 400 ∧ (∀ i, i < n → (st i).length ≤ 400 ∧ ∀ y ∈ st i, y < n) ∧
  ∀ (v : V) (H' : Hp), FirstW st ps v → Same H H' → Q v H'
theorem ok_first_on_ring {f : Addr} {fd : FuncData} (F : Fun K "first_on_ring" "first_on_ring" s_first_on_ring f fd) (T : Top w K mg) : FnOk P w K mg base CX0 2 f fd ["places", "steps"] (sp_first_on_ring K) := by
  obtain ⟨f_comes_back, fd_comes_back, F_comes_back, b_comes_back, m_comes_back⟩ := T.d_comes_back
  have G_comes_back := ok_comes_back (P := P) (w := w) (base := base) F_comes_back T
  refine F.ok sc_first_on_ring (fun vs H Q E h => ?_) (fun cdv A outer s H vs Q E hr h => ?_)
  · obtain ⟨pl, d, n, ps, st, rfl, _⟩ := h
    rfl
  obtain ⟨pl, d, n, ps, st, rfl, hpl, hps, hd, hn, hs, q⟩ := h
  refine ⟨_, (pss_cons (ps_for PassesOwn.never rfl (pi_listK K rfl (pv 0)) (pg_name (i := 2) sc_first_on_ring.nd rfl (Or.inl rfl))
        (pss_one (ps_if (pt_val (pe_call G_comes_back (hr.mono (by decide)) (by rfl) m_comes_back F_comes_back.kp b_comes_back .nil pass0 (pa_cons (pv 2) (pa_cons (pv 1) pa_nil)))) (pss_one (ps_ret (pv 2))) pss_nil)))
      (pss_one (ps_ret pe_non))), ?_⟩
  refine ⟨_, rfl, pl, rfl, ⟨_, SqL.of hpl⟩, for_list (K := K) (a := pl) (xs := ps.map nV) (fun i σ H5 => ∃ v2 : Option V, σ = [some (.ref pl), some (.ref d), v2] ∧ Same H H5 ∧ ∀ j y : Nat, j < i → ps[j]? = some y → ¬ OnW st y y) ⟨_, rfl, fun _ _ e => e, fun j y h => absurd h (Nat.not_lt_zero _)⟩ (fun i σ H5 _ ⟨_, _, s5, _⟩ => SqL.of (s5 _ _ hpl)) ?_ ?_⟩
  · rintro i v σ H5 hx ⟨v2, rfl, s5, no⟩
    rw [List.getElem?_map] at hx
    cases hk : ps[i]? with
    | none => rw [hk] at hx; cases hx
    | some x =>
      rw [hk] at hx
      obtain rfl : nV x = v := Option.some.inj hx
      refine ⟨_, rfl, _, rfl, d, n, x, st, rfl, hd.same s5, hps x (List.mem_of_getElem? hk), hn, hs, fun b H6 hb s6 => ?_⟩
      refine ⟨_, rfl, if_bl (fun e => ?_) (fun e => ?_)⟩
      · exact ⟨_, rfl, q _ H6 (.inr ⟨i, x, hk, rfl, hb.mp e, no⟩) (s5.trans s6)⟩
      · refine ⟨_, rfl, s5.trans s6, fun j y hj ey => ?_⟩
        by_cases h : j = i
        · subst h
          rw [hk] at ey
          rw [← Option.some.inj ey]
          exact fun w => by rw [hb.mpr w] at e; cases e
        · exact no j y (by omega) ey
  · rintro σ H5 ⟨v2, rfl, s5, no⟩
    refine q _ H5 (.inl ⟨rfl, fun x hx => ?_⟩) s5
    obtain ⟨j, ej⟩ := List.getElem?_of_mem hx
    exact no j x (by have := (List.getElem?_eq_some_iff.mp ej).1; rw [List.length_map]; exact this) ej
end
section
variable {P : Program} {w : World} {K : PySem.W.Frag} {mg : Str → Option Value} {base : Heap}
def sp_NsInit (K : PySem.W.Frag) (C : Addr) : Sp := fun vs H Q _ => ∃ (a : Addr) (x y : V), vs = [.ref a, x, y] ∧ H a = some (exo a C none) ∧
  ∀ d, H d = none → d ≠ a → Q .non (upd (upd (upd H d (exd d [("word", x)])) a (exo a C (some d))) d (exd d [("at", y), ("word", x)]))
theorem ok_NsInit {C CB fI : Addr} {fd : FuncData} (N : NsC K mg C CB fI fd) : FnOk P w K mg base CX0 1 fI fd ["self", "word", "at"] (sp_NsInit K C) := by
  refine N.F.ok sc_NoRoom_init (fun vs H Q E h => ?_) (fun cdv A outer s H vs Q E hr h => ?_)
  · obtain ⟨a, x, y, rfl, _⟩ := h
    rfl
  obtain ⟨a, x, y, rfl, ha, q⟩ := h
  refine ⟨_, pss_cons (ps_ost (pv 0) (pv 1)) (pss_one (ps_ost (pv 0) (pv 2))), ?_⟩
  refine ⟨_, rfl, _, rfl, a, C, rfl, N.T, N.nw, .inl ⟨ha, fun d nd da => ?_⟩⟩
  refine ⟨_, rfl, _, rfl, a, C, rfl, N.T, N.na, .inr ⟨d, _, upd_same, by rw [upd_ne da, upd_same], by show 1 ≤ 900; decide, q d nd da⟩⟩
end
/-! ### isinstance of a caught error that has fields of its own -/
section
open PySem.W PySem.Calls
variable {prog : Program} {w : World} {A : Around} {K : PySem.W.Frag} {x D : Addr} {ox : Obj} {od : Option Obj}
/-- what the class says with a setter goes before what the instance says -/
theorem found_class (C : ExcC K D) : findObj K D od "__class__" = some (.bind (.builtin "getset_descriptor.__get__") (.builtin "object.__class__")) := by
  have some_cls : ∃ cd, clsIn K D = some cd := by
    obtain ⟨cd, h, _⟩ := any_some C.hd
    exact ⟨cd, h⟩
  obtain ⟨cd, h⟩ := some_cls
  unfold findObj
  simp only [h, C.ha, C.hn, C.ht, Option.bind_some]
/-- the built in reader of fields, asked for the class -/
theorem reader_class {E : Value → Shared → Prop} {Q : Value → Shared → Prop} {hp : Heap} {g : Array GenState} {d : Drawn} {t tk : Nat} {os : OsState} (C : ExcC K D) (X : K.In hp) (I : InstAt hp x ox D od) (q : Q (.ref D) ⟨hp, g, d, t, os⟩) :
    wpAny (model prog w) A (call (.builtin "BaseException.__getattribute__") [.ref x, .str "__class__" tk]) Q E ⟨hp, g, d, t, os⟩ := by
  have known := I.type (M := model prog w)
  refine wpAny_call (codeAny_call_builtin PySem.F.excAttr_ValueError.ga.plain PySem.F.entry_bexc_ga ?_)
  refine @check_slot (model prog w) _ _ ⟨hp, g, d, t, os⟩ "BaseException.__getattribute__" "BaseException" "__getattribute__" (.ref x) [.str "__class__" tk] [] _ (by decide +kernel) (by decide +kernel) (known.andThen (looks_subIn X C.hs)) (PySem.F.args_bexc_ga (.ref x) (.str "__class__" tk)) ?_
  unfold Builtin.«object.__getattribute__»
  refine wpAny_bind (wpAny_of_eq (a := ((Value.ref x : Value), [Value.str "__class__" tk])) (by first | rfl | (simp only [slotArgs]; rfl)) (wpAny_bind (wpAny_pure (wpAny_bind (known.at (wpAny_bind ((looks_find (M := model prog w) X I (found_class C)).at ?_)))))))
  refine wpAny_bind (wpAny_holding (wpAny_call (class_get (s := ⟨hp, g, d, t, os⟩) (ox := ox) (od := od) X I C.hm ?_)))
  refine wpAny_pure ?_
  exact q
theorem asked_class {E : Value → Shared → Prop} {Q : Option Value → Shared → Prop} {s : Shared} (C : ExcC K D) (X : K.In s.heap) (I : InstAt s.heap x ox D od) (q : Q (some (.ref D)) { s with toks := s.toks + 1 }) : wpAny (model prog w) A (getAttr? (.ref x) "__class__") Q E s := by
  obtain ⟨hp, g, d, t, os⟩ := s
  have other : (onTheHeap (Value.ref D) && Value.builtin "BaseException.__getattribute__" == Value.builtin "object.__getattribute__") = false := by
    rw [show (Value.builtin "BaseException.__getattribute__" == Value.builtin "object.__getattribute__") = false by decide +kernel]
    rfl
  unfold getAttr? getAttrBy? getAttrBy
  refine wpAny_bind (wpAny_mkText (wpAny_bind (wpAny_attempt (wpAny_holding (wpAny_bind ((I.type (M := model prog w)).at (wpAny_bind ((looks_findIn (M := model prog w) X C.hg).at ?_))))))))
  show wpAny _ _ (if (onTheHeap (Value.ref D) && Value.builtin "BaseException.__getattribute__" == Value.builtin "object.__getattribute__") = true then _ else _) _ _ _
  rw [other, if_neg Bool.false_ne_true]
  unfold getAttrByItsOwn hookBefore
  rw [if_pos (show onTheHeap (Value.ref D) = true from rfl)]
  refine wpAny_bind ((looks_findIn (M := model prog w) X C.hk).at (wpAny_bind (wpAny_attempt (wpAny_holding ?_))))
  unfold callGetattribute
  rw [show (false && onTheHeap (Value.builtin "BaseException.__getattribute__")) = false from rfl, if_neg Bool.false_ne_true]
  unfold boundAndCalled
  rw [PySem.F.excAttr_ValueError.ga.bind (.ref x)]
  refine wpAny_bind (wpAny_pure ?_)
  refine reader_class C X I ?_
  first
    | exact wpAny_pure (wpAny_pure q)
    | exact wpAny_pure q
    | exact wpAny_pure (wpAny_bind (wpAny_pure (wpAny_pure q)))
    | exact q
/-- isinstance's own question, for such an error -/
theorem kit_fields (C : ExcC K D) : KitX K (.ref x) (.ref D) (fun h => InstAt h x ox D od) := by
  have place : ∃ c' d' cd' sl', K.lookup D = some ⟨c', d', .cls cd', sl'⟩ := by
    obtain ⟨cd, h, _⟩ := any_some C.hd
    unfold clsIn at h
    split at h
    · rename_i c' d' cd' sl' ho
      exact ⟨_, _, _, _, ho⟩
    · cases h
  obtain ⟨c', d', cd', sl', ho⟩ := place
  refine ⟨fun _ _ _ I => I.type, fun _ _ X _ => ?_, fun h tp dd its n sl X htp => ?_, fun X I k => asked_class C X I k⟩
  · intro A' Q' E' s' k q
    unfold isType loadHead
    exact wpAny_bind (wpAny_loadPart (k _ _ (X _ _ ho)) (wpAny_pure q))
  · refine Bool.eq_false_iff.mpr fun z => ?_
    obtain rfl : D = tp := Value.ref.inj (beq_iff_eq.mp z)
    have := (X _ _ ho).symm.trans htp
    cases this
end
theorem call_isF {X : Cx} {a D : Addr} {cls : Value} {d : Option Addr} {oe : Obj} {pn : List (Addr × Obj)} (C : ExcC X.K D) (hz : Zc cls d oe) (hf : ∃ vs, oe.data = .fields vs) : CallR (X.suite a ((a, oe) :: pn)) (.builtin "isinstance") (fun xs H Q => cls = .ref D ∧ (∃ dd fs, d = some dd ∧ H dd = some (.xd fs)) ∧ rIsE X.K D a xs H Q) := by
  intro pins s σ H xs us Q I r h
  obtain ⟨rfl, ⟨dd, fs, rfl, hdd⟩, c, cv, b, rfl, hcv, e, q⟩ := h
  cases r with
  | cons rx rr =>
    cases rr with
    | cons rt rr =>
      cases rr
      cases rx
      have ec := hcv _ rt
      subst ec
      obtain ⟨at_, _⟩ := I.pin (a, oe) (List.mem_append.mpr (.inl List.mem_cons_self))
      obtain ⟨vs, hv⟩ := hf
      obtain ⟨mA, hns, _⟩ := (I.hok dd _ hdd : ObjOk X.prog X.w H s.heap dd (.xd fs))
      obtain ⟨od, ho, _⟩ := lookIn_ns hns
      have J : PySem.W.InstAt s.heap a oe D (some od) := ⟨at_, hz.1, by unfold PySem.W.notCls; rw [hv] <;> rfl, by rw [hz.2]; exact ho⟩
      exact PySem.W.kia_one (kit_fields C) I.kIn J e (fun z => nomatch z) fun tk => ⟨.bl b, H, I.kept (t' := tk) fun _ _ z => z, rfl, q⟩
theorem call_isFT {X : Cx} {a D : Addr} {cls : Value} {d : Option Addr} {oe : Obj} {pn : List (Addr × Obj)} (C : ExcC X.K D) (hz : Zc cls d oe) (hf : ∃ vs, oe.data = .fields vs) : CallR (X.suite a ((a, oe) :: pn)) (.builtin "isinstance") (fun xs H Q => cls = .ref D ∧ (∃ dd fs, d = some dd ∧ H dd = some (.xd fs)) ∧ ∃ (tp : Addr) (cs : List V) (us : List Value) (b : Bool), xs = [.ref a, .ref tp] ∧ H tp = some (.tup cs) ∧ Paired ClsV cs us ∧ PySem.W.kitAny X.K (.ref D) us = some b ∧ Q (.bl b) H) := by
  intro pins s σ H xs us Q I r h
  obtain ⟨rfl, ⟨dd, fs, rfl, hdd⟩, tp, cs, ws, b, rfl, hT, k, e, q⟩ := h
  cases r with
  | cons rx rr =>
    cases rr with
    | cons rt rr =>
      cases rr
      cases rx
      cases rt
      obtain ⟨at_, _⟩ := I.pin (a, oe) (List.mem_append.mpr (.inl List.mem_cons_self))
      obtain ⟨vs, hv⟩ := hf
      obtain ⟨mA, hns, _⟩ := (I.hok dd _ hdd : ObjOk X.prog X.w H s.heap dd (.xd fs))
      obtain ⟨od, ho, _⟩ := lookIn_ns hns
      have J : PySem.W.InstAt s.heap a oe D (some od) := ⟨at_, hz.1, by unfold PySem.W.notCls; rw [hv] <;> rfl, by rw [hz.2]; exact ho⟩
      obtain ⟨_, its, rv, o, h1, h2, n, h3⟩ := (show ObjOk X.prog X.w H s.heap tp (.tup cs) from I.hok tp _ hT)
      have e3 := ClsV.all k rv
      subst e3
      obtain ⟨oc, od2, dt, sl⟩ := o
      simp only at h2 h3
      subst h2 h3
      exact PySem.W.kia_tup (kit_fields C) I.kIn J h1 e (fun z => nomatch z) fun tk => ⟨.bl b, H, I.kept (t' := tk) fun _ _ z => z, rfl, q⟩
theorem snoc_ind {α : Type} {Pr : List α → Prop} (h0 : Pr []) (h1 : ∀ l x, Pr l → Pr (l ++ [x])) : ∀ l, Pr l := by
  have : ∀ r : List α, Pr r.reverse := by
    intro r
    induction r with
    | nil => exact h0
    | cons x r ih => rw [List.reverse_cons]; exact h1 _ _ ih
  intro l
  have := this l.reverse
  rwa [List.reverse_reverse] at this
def comeB (bs : List BR) (k : Nat) : List BR := bs.filter fun b => decide (b.to = k)
theorem come_list (bs : List BR) (k : Nat) : All2 (fun i b => bs[i]? = some b) (comingN bs k) (comeB bs k) := by
  induction bs using snoc_ind with
  | h0 => exact .nil
  | h1 l b ih =>
    have e1 : comingN (l ++ [b]) k = comingN l k ++ (if b.to = k then [l.length] else []) := by
      unfold comingN
      rw [List.length_append, show l.length + [b].length = l.length + 1 from rfl, filt_succ]
      congr 1
      · refine List.filter_congr fun i hi => ?_
        rw [List.getElem?_append_left (List.mem_range.mp hi)]
      · rw [List.getElem?_append_right (Nat.le_refl _), Nat.sub_self]
        by_cases h : b.to = k
        · rw [if_pos h, if_pos (decide_eq_true (by rw [← h]; rfl))]
        · rw [if_neg h, if_neg]
          intro z
          exact h (Option.some.inj (of_decide_eq_true z))
    have e2 : comeB (l ++ [b]) k = comeB l k ++ (if b.to = k then [b] else []) := by
      unfold comeB
      rw [List.filter_append]
      congr 1
      by_cases h : b.to = k
      · rw [if_pos h]; simp [h]
      · rw [if_neg h]; simp [h]
    have ih2 : All2 (fun i c => (l ++ [b])[i]? = some c) (comingN l k) (comeB l k) := ih.imp fun i c e => by
      rw [List.getElem?_append_left (List.getElem?_eq_some_iff.mp e).1]; exact e
    rw [e1, e2]
    by_cases h : b.to = k
    · rw [if_pos h, if_pos h]
      refine ih2.snoc ?_
      rw [List.getElem?_append_right (Nat.le_refl _), Nat.sub_self]
      rfl
    · rw [if_neg h, if_neg h, List.append_nil, List.append_nil]
      exact ih2
theorem count_filter (bs : List BR) (k : Nat) : (bs.map BR.to).count k = (bs.filter fun b => decide (b.to = k)).length := by
  induction bs with
  | nil => rfl
  | cons b bs ih =>
    rw [List.map_cons, List.count_cons, List.filter_cons, ih]
    by_cases e : b.to = k
    · rw [if_pos (by simp [e]), if_pos (by simp [e])]; rfl
    · rw [if_neg (by simp [e]), if_neg (by simp [e])]; rfl
/-! ### a name told a dict written out -/
section
variable {X : Cx}
theorem ps_setDc {i : Nat} {y : Str} {py : Pos} {kx vx tg iter : Expr} {ifs : List Expr} {scope : Scope} {own : List (Str × Nat)} {pos spos : Pos} {wi : TI} {g : TG} {tt : TT} {tk tv : TE} (hc : X.calm = true) (hN : X.N.Nodup) (hy : X.N[i]? = some y) (hyl : X.env.scope.names.lookup y = some .local)
    (hsw : swapsWith (.DictComp kx vx [⟨tg, iter, ifs, 0⟩] scope pos) (some (.Name y py)) spos.line X.env = pure true) (hi : L2.PI X tg iter wi) (ok : BlkOk X.N X.env.scope scope own)
    (hg : ∀ (s : Shared) (H : Hp) (C : Addr) (cl : List (Str × Addr)) (fp : List Addr), L2.PG (X.blk s H scope (compEnvC scope cl C X.env) fp) tg g) (ht : ∀ (s : Shared) (H : Hp) (C : Addr) (cl : List (Str × Addr)) (fp : List Addr), PTs (X.blk s H scope (compEnvC scope cl C X.env) fp) ifs tt)
    (hk : ∀ (s : Shared) (H : Hp) (C : Addr) (cl : List (Str × Addr)) (fp : List Addr), L2.PE (X.blk s H scope (compEnvC scope cl C X.env) fp) kx tk)
    (he : ∀ (s : Shared) (H : Hp) (C : Addr) (cl : List (Str × Addr)) (fp : List Addr), L2.PE (X.blk s H scope (compEnvC scope cl C X.env) fp) vx tv) (hs : ∀ x, foldedSetIterable iter X.env x = pure x := by intro _; rfl) :
    PS X (.Assign [.Name y py] (.DictComp kx vx [⟨tg, iter, ifs, 0⟩] scope pos) spos) (tAsg (tDc wi g tt tk tv (own.map (·.2))) (gName i)) := by
  refine ⟨fun pins s σ H D I h => ?_⟩
  rw [exec_Assign_Name_used _ _ _ _ hsw]
  refine wpAny_bind (wpAny_standAt (wpAny_bind ?_))
  show wpAny _ X.A (do let _ ← comprehension (.DictComp kx vx [⟨tg, iter, ifs, 0⟩] scope pos) scope X.env (firstIterPos [⟨tg, iter, ifs, 0⟩] pos) newDict false (eval iter X.env) (some (assign (.Name y py) X.env))) _ _ s
  have h : tDc wi g tt tk tv (own.map (·.2)) σ H (fun x H1 => gName i x σ H1 D.nx) := h
  refine wpAny_bind (thn (dc_core (Qf := fun _ s' => SP X pins D .next s') hc hN I hi ok hg ht hk he hs h fun L C s' m H' I' q hn f => ?_) fun _ s' hq => wpAny_pure (wpAny_pure hq))
  refine wpAny_assign_Name (store_ok2 (v := V.ref L) I' hN hy (.inl hyl) rfl (fun s2 I2 ⟨a, sb, ha⟩ => ?_) (.inr hyl))
  obtain ⟨f0, f1, f2, f3, f4, f5⟩ := f
  have haC : C ≠ a := ha.elim (fun z => by rw [z]; exact f1) fun z e => f4 y a z e.symm
  exact ⟨m, hn.sameBut sb haC, fun h3 sb3 => ⟨_, H', I2.turned (t' := s2.toks) (fun b o hb e => (sb3.2 b hb).trans e) f0 f1 f3 f4 f5, q⟩⟩
theorem sw_dc {kx vx : Expr} {gs : List Comprehension} {scope : Scope} {pos py : Pos} {y : Str} {l : Nat} {env : Env} (hk : env.scope.kind = .function) (hy : env.scope.names.lookup y = some .local) (hl : (py.line == pos.line) = true)
    (ha : (scope.names.any fun (n, k) => n == y && (k == .local || k == .cell)) = false) : swapsWith (.DictComp kx vx gs scope pos) (some (.Name y py)) l env = pure true := by
  have ky : env.kindOf y = some .local := hy
  have hb : env.blockKind = .function := by unfold Env.blockKind; rw [hk]; rfl
  unfold swapsWith
  simp only [hb, ky, ha, Expr.pos, hl]
  rfl
end
theorem op_notB {X : Cx} : OpR X (compareOp .IsNot) (fun x y H Q => ∃ a b : Bool, x = .bl a ∧ y = .bl b ∧ Q (.bl (!decide (a = b))) H) := by
  intro pins s σ H x y v u Q I rx ry h
  obtain ⟨a, b, rfl, rfl, q⟩ := h
  obtain rfl : v = Value.bool a := rx
  obtain rfl : u = Value.bool b := ry
  exact wpAny_isNot_plain rfl (fin_bl I q (by cases a <;> cases b <;> rfl))
theorem op_isB {X : Cx} : OpR X (compareOp .Is) (fun x y H Q => ∃ a b : Bool, x = .bl a ∧ y = .bl b ∧ Q (.bl (decide (a = b))) H) := by
  intro pins s σ H x y v u Q I rx ry h
  obtain ⟨a, b, rfl, rfl, q⟩ := h
  obtain rfl : v = Value.bool a := rx
  obtain rfl : u = Value.bool b := ry
  exact wpAny_is_plain rfl (fin_bl I q (by cases a <;> cases b <;> rfl))
/-! ### a room looked at -/
/-- a room but for rings without things -/
structure RoomNr (hs : List HR) (bs : List BR) : Prop where
  hands : hs.length ≤ 12
  good : ∀ h ∈ hs, GoodHand h
  ends : ∀ b ∈ bs, b.one < hs.length ∧ b.to < hs.length
  out : ∀ b ∈ bs, ∀ h, hs[b.one]? = some h → h.wd ≠ "out"
  th : ∀ b ∈ bs, b.th.length ≤ 6 ∧ ∀ x ∈ b.th, Small x
  count : ∀ k h, hs[k]? = some h → (((bs.map BR.to).count k : Nat) : Int) = needs h.wd
  many : bs.length ≤ 20
theorem RoomOk.nr {hs : List HR} {bs : List BR} (o : RoomOk hs bs) : RoomNr hs bs := ⟨o.hands, o.good, o.ends, o.out, o.th, o.count, o.many⟩

def Tb2 (PT : Addr × Addr) (H : Hp) : Prop := GxR.TabG H PT.1 ∧ GxR.TabG H PT.2
theorem Tb2.same {PT : Addr × Addr} {H H' : Hp} (t : Tb2 PT H) (s : Same H H') : Tb2 PT H' := by
  obtain ⟨⟨p1, e1, t1⟩, p2, e2, t2⟩ := t
  exact ⟨⟨p1, s _ _ e1, t1⟩, p2, s _ _ e2, t2⟩
theorem Tb2.but {PT : Addr × Addr} {f c : Addr} {H H' : Hp} (t : Tb2 PT H) (F : Flow H f c) (b : But f H H') : Tb2 PT H' := by
  obtain ⟨⟨p1, e1, t1⟩, p2, e2, t2⟩ := t
  obtain ⟨_, _, _, _, _, ef, _⟩ := F
  exact ⟨⟨p1, b _ _ e1 (fun z => by rw [z, ef] at e1; cases e1), t1⟩, p2, b _ _ e2 (fun z => by rw [z, ef] at e2; cases e2), t2⟩
theorem tabbed_ext {P : Addr} {H H' : Hp} (h : GxR.TabG H P) (t : GxR.Tabbed P H H') : LamX.ExtN H H' := fun b o e n => by
  obtain ⟨ps, ep, _⟩ := h
  rw [t.2 b (fun z => by rw [z, ep] at e; exact n ps (Option.some.inj e).symm)]
  exact e
theorem Tb2.tab1 {PT : Addr × Addr} {H H' : Hp} (g : Tb2 PT H) (t : GxR.Tabbed PT.1 H H') : Tb2 PT H' := by
  refine ⟨t.1, ?_⟩
  by_cases h : PT.2 = PT.1
  · rw [h]; exact t.1
  · obtain ⟨_, p2, e2, t2⟩ := g
    exact ⟨p2, by rw [t.2 _ h]; exact e2, t2⟩
theorem Tb2.tab2 {PT : Addr × Addr} {H H' : Hp} (g : Tb2 PT H) (t : GxR.Tabbed PT.2 H H') : Tb2 PT H' := by
  refine ⟨?_, t.1⟩
  by_cases h : PT.1 = PT.2
  · rw [h]; exact t.1
  · obtain ⟨⟨p1, e1, t1⟩, _⟩ := g
    exact ⟨p1, by rw [t.2 _ h]; exact e1, t1⟩
theorem tk_ext {H H' : Hp} (e : LamX.ExtN H H') : TK H H' := fun a xs h => e a _ h (fun ps z => nomatch z)
theorem ext_same {H H' : Hp} (s : Same H H') : LamX.ExtN H H' := fun a o h _ => s a o h
/-- the code objects of has_form and is_belt_triple -/
class TabF (K : PySem.W.Frag) (mg : Str → Option Value) (base : Heap) (cF : outParam Addr) (PT : outParam (Addr × Addr)) : Prop where
  tb : GxR.TabB base mg cF PT.1
  cd : ∀ (f : Addr) (fd : FuncData), Fun K "has_form" "has_form" s_has_form f fd → mg "has_form" = some (.ref f) → fd.code = .ref cF
class TabC (K : PySem.W.Frag) (mg : Str → Option Value) (base : Heap) (cB : outParam Addr) (PT : outParam (Addr × Addr)) : Prop where
  tb : GxR.TabB base mg cB PT.2
  cd : ∀ (f : Addr) (fd : FuncData), Fun K "is_belt_triple" "is_belt_triple" s_is_belt_triple f fd → mg "is_belt_triple" = some (.ref f) → fd.code = .ref cB
/-- a def of which the code object is known -/
theorem ok_code {P : Program} {w : World} {K : PySem.W.Frag} {mg : Str → Option Value} {base : Heap} {x qual : Str} {st : Stmt} {f c : Addr} {fd : FuncData} {N ps : List Str} {k : Nat} {sp : Sp} (F : Fun K x qual st f fd) (hc : fd.code = .ref c) (S : FnScope N ps (defScope st)) (len : ∀ vs H Q E, sp vs H Q E → vs.length = ps.length)
    (hbody : ∀ (A : Around) (outer : List Env) (s : Shared) (H : Hp) (vs : List V) (Q : VK) (E : XK), Room k (A.deeper (envOfC qual (defScope st) s.heap.objs.size f (.ref c))) → sp vs H Q E →
      ∃ t, PSs (cxOf CX0 P w K mg base N qual (defScope st) f (.ref c) A outer s H E).nox (defBody st) t ∧ t { nx := fun _ H' => Q .non H', rt := Q } (L2.start N vs) H) : FnOk P w K mg base CX0 (k + 1) f fd ps sp := by
  obtain ⟨kl, kd, kV, dc, pm, an, cv, ct, ks, rfl, look, cin⟩ := F.ex
  obtain rfl : cv = .ref c := hc
  refine fn_of look cin S len fun A outer s H vs Q E hr now => ?_
  obtain ⟨t, h, q⟩ := hbody A outer s H vs Q E hr now
  exact ⟨t, h.nox, q⟩
/-- a statement that is never come to -/
theorem ps_dead {X : Cx} {st : Stmt} : PS X st (fun _ _ _ => False) := ⟨fun _ _ _ _ _ _ h => h.elim⟩
/-- all, any: over a tuple that the elements leave as it is -/
theorem qt_tup {K : PySem.W.Frag} {a : Addr} {xs : List V} {g : TG} {te : TE} {vs : List Nat} {sgσ : L2.St} {kp : Bool} {H2 : Hp} {Q : VK} (Pv : Nat → Hp → Prop) (h0 : Pv 0 H2) (hl : ∀ i H, i ≤ xs.length → Pv i H → SqT K H a xs)
    (hs : ∀ i x H, xs[i]? = some x → Pv i H → g x sgσ H fun σ2 H3 => wipe σ2 vs = sgσ ∧ te σ2 H3 fun y H4 => ∃ b, y = .bl b ∧ (b ≠ kp → Q (.bl b) H4) ∧ (b = kp → Pv (i + 1) H4)) (hd : ∀ H, Pv xs.length H → Q (.bl kp) H) :
    ∃ W : Nat → Nat → Hp → Prop, (∃ m, W 0 m H2) ∧ ∀ i m H, W i m H →
      ((Itt K a).stop i H ∧ Q (.bl kp) H) ∨ ((Itt K a).go i H ∧ ∃ Nx : Hp → Prop, (∀ H', Nx H' → ∃ m', m' < m ∧ W (i + 1) m' H') ∧ ∀ x H', (Itt K a).yld i H x H' → g x sgσ H' fun σ2 H3 => wipe σ2 vs = sgσ ∧ te σ2 H3 fun y H4 => ∃ b, y = .bl b ∧ (b ≠ kp → Q (.bl b) H4) ∧ (b = kp → Nx H4)) := by
  refine ⟨fun i m H => i + m = xs.length ∧ Pv i H, ⟨xs.length, Nat.zero_add _, h0⟩, fun i m H ⟨total, here⟩ => ?_⟩
  have seen := hl i H (by omega) here
  cases m with
  | zero =>
    have : i = xs.length := by omega
    subst this
    exact .inl ⟨⟨xs, seen, Nat.le_refl _⟩, hd H here⟩
  | succ m =>
    have lt : i < xs.length := by omega
    refine .inr ⟨⟨xs, xs[i], seen, List.getElem?_eq_getElem lt⟩, Pv (i + 1), fun H' p' => ⟨m, Nat.lt_succ_self m, by omega, p'⟩, fun x H' y => ?_⟩
    obtain ⟨rfl, y⟩ := y
    exact hs i x _ (y xs seen) here
section
variable {P : Program} {w : World} {K : PySem.W.Frag} {mg : Str → Option Value} {base : Heap}
def sp_is_whole (K : PySem.W.Frag) : Sp := fun vs H Q _ => ∃ n : Int, vs = [.int n] ∧ Q (.bl true) H
theorem ok_is_whole {f : Addr} {fd : FuncData} (F : Fun K "is_whole" "is_whole" s_is_whole f fd) (T : Top w K mg) : FnOk P w K mg base CX0 1 f fd ["thing"] (sp_is_whole K) := by
  refine F.ok sc_is_whole (fun vs H Q E h => ?_) (fun cdv A outer s H vs Q E hr h => ?_)
  · obtain ⟨n, rfl, _⟩ := h
    rfl
  obtain ⟨n, rfl, q⟩ := h
  refine ⟨_, (pss_one (ps_ret (pe_and (pe_callB (call_isiKK K rfl) (by rfl) T.m_isinstance (by decide +kernel) (pa_cons (pv 0) (pa_cons (pe_bltn (v := .ty "int") (by rfl) T.m_int (by decide +kernel) rfl) pa_nil))) (pe_one (pe_not (pe_callB (call_isiKK K rfl) (by rfl) T.m_isinstance (by decide +kernel) (pa_cons (pv 0) (pa_cons (pe_bltn (v := .ty "bool") (by rfl) T.m_bool (by decide +kernel) rfl) pa_nil)))))))), ?_⟩
  refine ⟨_, rfl, _, _, _, _, true, rfl, .ty "int", .base (.int _), kit_ty (by decide +kernel), _, rfl, if_bl (fun _ => ?_) (fun z => nomatch z)⟩
  exact ⟨_, rfl, _, _, _, _, false, rfl, .ty "bool", .base (.int _), kit_ty (by decide +kernel), _, rfl, q⟩
def sp_is_tuple_of (K : PySem.W.Frag) : Sp := fun vs H Q _ => ∃ (a : Addr) (xs : List V) (k : Nat), vs = [.ref a, nV k] ∧ H a = some (.tup xs) ∧ xs.length = k ∧ Q (.bl true) H
theorem ok_is_tuple_of {f : Addr} {fd : FuncData} (F : Fun K "is_tuple_of" "is_tuple_of" s_is_tuple_of f fd) (T : Top w K mg) : FnOk P w K mg base CX0 1 f fd ["thing", "many"] (sp_is_tuple_of K) := by
  refine F.ok sc_is_tuple_of (fun vs H Q E h => ?_) (fun cdv A outer s H vs Q E hr h => ?_)
  · obtain ⟨a, xs, k, rfl, _⟩ := h
    rfl
  obtain ⟨a, xs, k, rfl, ha, lk, q⟩ := h
  refine ⟨_, (pss_one (ps_ret (pe_and (pe_callB (call_isiKK K rfl) (by rfl) T.m_isinstance (by decide +kernel) (pa_cons (pv 0) (pa_cons (pe_bltn (v := .ty "tuple") (by rfl) T.m_tuple (by decide +kernel) rfl) pa_nil))) (pe_one (pe_cmpR op_eq (pe_callB (call_len_seqK K rfl) (by rfl) T.m_len (by decide +kernel) (pa_cons (pv 0) pa_nil)) (pv 1) (nomark _)))))), ?_⟩
  refine ⟨_, rfl, _, _, _, _, true, rfl, .ty "tuple", .base (.tup ha), kit_ty (by decide +kernel), _, rfl, if_bl (fun _ => ?_) (fun z => nomatch z)⟩
  refine ⟨_, rfl, a, _, rfl, .inr (SqT.of ha), _, rfl, rfl, ?_⟩
  rw [lk, decide_eq_true (show V.int ((k : Nat) : Int) = nV k from rfl)]
  exact q
def sp_is_hand_pair (K : PySem.W.Frag) : Sp := fun vs H Q _ => ∃ (t : Addr) (x : V) (n : Int), vs = [.ref t] ∧ H t = some (.tup [x, .int n]) ∧ Q (.bl true) H
theorem ok_is_hand_pair {f : Addr} {fd : FuncData} (F : Fun K "is_hand_pair" "is_hand_pair" s_is_hand_pair f fd) (T : Top w K mg) : FnOk P w K mg base CX0 2 f fd ["hand"] (sp_is_hand_pair K) := by
  obtain ⟨f_is_tuple_of, fd_is_tuple_of, F_is_tuple_of, b_is_tuple_of, m_is_tuple_of⟩ := T.d_is_tuple_of
  have G_is_tuple_of := ok_is_tuple_of (P := P) (w := w) (base := base) F_is_tuple_of T
  obtain ⟨f_is_whole, fd_is_whole, F_is_whole, b_is_whole, m_is_whole⟩ := T.d_is_whole
  have G_is_whole := ok_is_whole (P := P) (w := w) (base := base) F_is_whole T
  refine F.ok sc_is_hand_pair (fun vs H Q E h => ?_) (fun cdv A outer s H vs Q E hr h => ?_)
  · obtain ⟨t, x, n, rfl, _⟩ := h
    rfl
  obtain ⟨t, x, n, rfl, ht, q⟩ := h
  refine ⟨_, (pss_one (ps_ret (pe_and (pe_call G_is_tuple_of (hr.mono (by decide)) (by rfl) m_is_tuple_of F_is_tuple_of.kp b_is_tuple_of .nil pass0 (pa_cons (pv 0) (pa_cons pe_int pa_nil))) (pe_one (pe_call G_is_whole (hr.mono (by decide)) (by rfl) m_is_whole F_is_whole.kp b_is_whole .nil pass0 (pa_cons (pe_ix (ix_tupK K rfl) (pv 0) pe_int (fun _ _ => rfl)) pa_nil)))))), ?_⟩
  refine ⟨_, rfl, t, _, 2, rfl, ht, rfl, _, rfl, if_bl (fun _ => ?_) (fun z => nomatch z)⟩
  exact ⟨_, rfl, t, _, _, _, rfl, rfl, SqT.of ht, atI_nat (j := 1) rfl, n, rfl, q⟩
variable {cF cB : Addr} {PT : Addr × Addr} [TF : TabF K mg base cF PT] [TC : TabC K mg base cB PT]
section
omit TF
include TC
def sp_is_belt_triple (K : PySem.W.Frag) (PT : Addr × Addr) : Sp := fun vs H Q _ => ∃ (t g : Addr) (a b : Int) (ns : List Int), vs = [.ref t] ∧ H t = some (.tup [.int a, .int b, .ref g]) ∧ H g = some (.tup (ns.map V.int)) ∧ Tb2 PT H ∧ ∀ H', LamX.ExtN H H' → Tb2 PT H' → Q (.bl true) H'
theorem ok_is_belt_triple {f : Addr} {fd : FuncData} (F : Fun K "is_belt_triple" "is_belt_triple" s_is_belt_triple f fd) (hcd : fd.code = .ref cB) (T : Top w K mg) : FnOk P w K mg base CX0 3 f fd ["belt"] (sp_is_belt_triple K PT) := by
  obtain ⟨f_is_whole, fd_is_whole, F_is_whole, b_is_whole, m_is_whole⟩ := T.d_is_whole
  have G_is_whole := ok_is_whole (P := P) (w := w) (base := base) F_is_whole T
  obtain ⟨f_is_tuple_of, fd_is_tuple_of, F_is_tuple_of, b_is_tuple_of, m_is_tuple_of⟩ := T.d_is_tuple_of
  have G_is_tuple_of := ok_is_tuple_of (P := P) (w := w) (base := base) F_is_tuple_of T
  refine ok_code F hcd sc_is_belt_triple (fun vs H Q E h => ?_) (fun A outer s H vs Q E hr h => ?_)
  · obtain ⟨t, g, a, b, ns, rfl, _⟩ := h
    rfl
  obtain ⟨t, g, a, b, ns, rfl, ht, hg, tb, q⟩ := h
  refine ⟨_, (pss_cons (ps_if (PW.pt (pw_or (pt_not (pt_val (pe_call G_is_tuple_of (hr.mono (by decide)) (by rfl) m_is_tuple_of F_is_tuple_of.kp b_is_tuple_of .nil pass0 (pa_cons (pv 0) (pa_cons pe_int pa_nil))))) (pw_or1 (pt_not (pt_val (pe_callB (call_isiKK K rfl) (by rfl) T.m_isinstance (by decide +kernel) (pa_cons (pe_ix (ix_tupK K rfl) (pv 0) pe_int (fun _ _ => rfl)) (pa_cons (pe_bltn (v := .ty "tuple") (by rfl) T.m_tuple (by decide +kernel) rfl) pa_nil)))))))) (pss_one (ps_ret pe_bl)) pss_nil)
      (pss_one (ps_ret (pe_and (pe_call G_is_whole (hr.mono (by decide)) (by rfl) m_is_whole F_is_whole.kp b_is_whole .nil pass0 (pa_cons (pe_ix (ix_tupK K rfl) (pv 0) pe_int (fun _ _ => rfl)) pa_nil)) (pe_and (pe_call G_is_whole (hr.mono (by decide)) (by rfl) m_is_whole F_is_whole.kp b_is_whole .nil pass0 (pa_cons (pe_ix (ix_tupK K rfl) (pv 0) pe_int (fun _ _ => rfl)) pa_nil)) (pe_one (pe_allG (k := 1) (N' := ["thing"]) (sg := (fun _ => List.replicate 1 none)) (vs := [0]) (g := gName 0) (hr.mono (by decide)) rfl (by rfl) T.m_all (by decide +kernel) TC.tb rfl (genN_none rfl rfl (by decide +kernel) rfl (by decide +kernel)) (pi_tupK K rfl (pe_ix (ix_tupK K rfl) (pv 0) pe_int (fun _ _ => rfl))) (fun _ => rfl) (fun _ _ _ _ _ _ _ _ _ hr => (pg_name (i := 0) (show List.Nodup (["thing"] : List Str) from by decide +kernel) rfl (Or.inl rfl))) (fun _ _ _ _ _ _ _ _ _ hr => (pe_call G_is_whole (hr.mono (by decide)) (by rfl) m_is_whole F_is_whole.kp b_is_whole .nil pass0 (pa_cons (pv 0) pa_nil)))))))))), ?_⟩
  refine ⟨_, rfl, t, _, 3, rfl, ht, rfl, _, rfl, if_bl (fun z => nomatch z) (fun _ => ?_)⟩
  refine ⟨_, rfl, t, _, _, _, rfl, rfl, SqT.of ht, atI_nat (j := 2) rfl, _, _, _, _, true, rfl, .ty "tuple", .base (.tup hg), kit_ty (by decide +kernel), _, rfl, if_bl (fun z => nomatch z) (fun _ => ?_)⟩
  refine ⟨_, rfl, t, _, _, _, rfl, rfl, SqT.of ht, atI_nat (j := 0) rfl, a, rfl, _, rfl, if_bl (fun _ => ?_) (fun z => nomatch z)⟩
  refine ⟨_, rfl, t, _, _, _, rfl, rfl, SqT.of ht, atI_nat (j := 1) rfl, b, rfl, _, rfl, if_bl (fun _ => ?_) (fun z => nomatch z)⟩
  refine ⟨_, rfl, t, _, _, _, rfl, rfl, SqT.of ht, atI_nat (j := 2) rfl, g, rfl, ⟨_, SqT.of hg⟩, tb.2, fun H2 t2 => ?_⟩
  have e2 := tabbed_ext tb.2 t2
  have g2 := tk_ext e2 _ _ hg
  refine qt_tup (K := K) (a := g) (xs := ns.map V.int) (fun i H5 => H5 = H2) rfl (fun i H5 _ e => by subst e; exact SqT.of g2) (fun i x H5 hx e => ?_) fun H5 e => ?_
  · subst e
    rw [List.getElem?_map] at hx
    cases hn : ns[i]? with
    | none => rw [hn] at hx; cases hx
    | some n =>
      rw [hn] at hx
      obtain rfl : V.int n = x := Option.some.inj hx
      exact ⟨rfl, _, rfl, n, rfl, true, rfl, (fun z => absurd rfl z), fun _ => rfl⟩
  · subst e
    exact q _ e2 (tb.tab2 t2)
end
include TF TC
def sp_has_form (K : PySem.W.Frag) (PT : Addr × Addr) : Sp := fun vs H Q _ => ∃ (r : Addr) (hs : List HR) (bs : List BR), vs = [.ref r] ∧ RoomAt H r hs bs ∧ Tb2 PT H ∧ ∀ H', LamX.ExtN H H' → Tb2 PT H' → Q (.bl true) H'
theorem ok_has_form {f : Addr} {fd : FuncData} (F : Fun K "has_form" "has_form" s_has_form f fd) (hcd : fd.code = .ref cF) (T : Top w K mg) : FnOk P w K mg base CX0 5 f fd ["room"] (sp_has_form K PT) := by
  obtain ⟨f_is_tuple_of, fd_is_tuple_of, F_is_tuple_of, b_is_tuple_of, m_is_tuple_of⟩ := T.d_is_tuple_of
  have G_is_tuple_of := ok_is_tuple_of (P := P) (w := w) (base := base) F_is_tuple_of T
  obtain ⟨f_is_hand_pair, fd_is_hand_pair, F_is_hand_pair, b_is_hand_pair, m_is_hand_pair⟩ := T.d_is_hand_pair
  have G_is_hand_pair := ok_is_hand_pair (P := P) (w := w) (base := base) F_is_hand_pair T
  obtain ⟨f_is_belt_triple, fd_is_belt_triple, F_is_belt_triple, b_is_belt_triple, m_is_belt_triple⟩ := T.d_is_belt_triple
  have G_is_belt_triple := ok_is_belt_triple (P := P) (w := w) (base := base) F_is_belt_triple (TC.cd _ _ F_is_belt_triple m_is_belt_triple) T
  refine ok_code F hcd sc_has_form (fun vs H Q E h => ?_) (fun A outer s H vs Q E hr h => ?_)
  · obtain ⟨r, hs, bs, rfl, _⟩ := h
    rfl
  obtain ⟨r, hs, bs, rfl, hR, tb, q⟩ := h
  obtain ⟨ha, ba, hv, bv, er, eh, eb, alh, alb⟩ := hR.ex
  refine ⟨_, (pss_cons (ps_if (pt_not (pt_val (pe_call G_is_tuple_of (hr.mono (by decide)) (by rfl) m_is_tuple_of F_is_tuple_of.kp b_is_tuple_of .nil pass0 (pa_cons (pv 0) (pa_cons pe_int pa_nil))))) (pss_one (ps_ret pe_bl)) pss_nil)
      (pss_cons (ps_asg (pv 0) (pg_tupK K rfl rfl (pgs_cons (pg_name (i := 1) sc_has_form.nd rfl (Or.inl rfl)) (pgs_cons (pg_name (i := 2) sc_has_form.nd rfl (Or.inl rfl)) pgs_nil))))
      (pss_cons (ps_if (PW.pt (pw_or (pt_not (pt_val (pe_callB (call_isiKK K rfl) (by rfl) T.m_isinstance (by decide +kernel) (pa_cons (pv 1) (pa_cons (pe_bltn (v := .ty "tuple") (by rfl) T.m_tuple (by decide +kernel) rfl) pa_nil))))) (pw_or1 (pt_not (pt_val (pe_callB (call_isiKK K rfl) (by rfl) T.m_isinstance (by decide +kernel) (pa_cons (pv 2) (pa_cons (pe_bltn (v := .ty "tuple") (by rfl) T.m_tuple (by decide +kernel) rfl) pa_nil)))))))) (pss_one (ps_ret pe_bl)) pss_nil)
      (pss_one (ps_ret (pe_and (pe_allG (k := 2) (N' := ["hand"]) (sg := (fun _ => List.replicate 1 none)) (vs := [0]) (g := gName 0) (hr.mono (by decide)) rfl (by rfl) T.m_all (by decide +kernel) TF.tb rfl (genN_none rfl rfl (by decide +kernel) rfl (by decide +kernel)) (pi_tupK K rfl (pv 1)) (fun _ => rfl) (fun _ _ _ _ _ _ _ _ _ hr => (pg_name (i := 0) (show List.Nodup (["hand"] : List Str) from by decide +kernel) rfl (Or.inl rfl))) (fun _ _ _ _ _ _ _ _ _ hr => (pe_call G_is_hand_pair (hr.mono (by decide)) (by rfl) m_is_hand_pair F_is_hand_pair.kp b_is_hand_pair .nil pass0 (pa_cons (pv 0) pa_nil)))) (pe_one (pe_allG (k := 3) (N' := ["belt"]) (sg := (fun _ => List.replicate 1 none)) (vs := [0]) (g := gName 0) (hr.mono (by decide)) rfl (by rfl) T.m_all (by decide +kernel) TF.tb rfl (genN_none rfl rfl (by decide +kernel) rfl (by decide +kernel)) (pi_tupK K rfl (pv 2)) (fun _ => rfl) (fun _ _ _ _ _ _ _ _ _ hr => (pg_name (i := 0) (show List.Nodup (["belt"] : List Str) from by decide +kernel) rfl (Or.inl rfl))) (fun _ _ _ _ _ _ _ _ _ hr => (pe_call G_is_belt_triple (hr.mono (by decide)) (by rfl) m_is_belt_triple F_is_belt_triple.kp b_is_belt_triple .nil pass0 (pa_cons (pv 0) pa_nil))))))))))), ?_⟩
  refine ⟨_, rfl, r, _, 2, rfl, er, rfl, _, rfl, if_bl (fun z => nomatch z) (fun _ => ?_)⟩
  refine ⟨_, rfl, r, _, rfl, SqT.of er, rfl, _, _, rfl, _, _, rfl, rfl, ?_⟩
  refine ⟨_, rfl, _, _, _, _, true, rfl, .ty "tuple", .base (.tup eh), kit_ty (by decide +kernel), _, rfl, if_bl (fun z => nomatch z) (fun _ => ?_)⟩
  refine ⟨_, rfl, _, _, _, _, true, rfl, .ty "tuple", .base (.tup eb), kit_ty (by decide +kernel), _, rfl, if_bl (fun z => nomatch z) (fun _ => ?_)⟩
  refine ⟨_, rfl, ha, rfl, ⟨_, SqT.of eh⟩, tb.1, fun H2 t2 => ?_⟩
  have e2 := tabbed_ext tb.1 t2
  have tb2 := tb.tab1 t2
  refine qt_tup (K := K) (a := ha) (xs := hv) (kp := true) (Q := fun x H1 => ∃ c, x = V.bl c ∧ if c = true then tQuant true PT.1 (iTup K (tVar 2)) (fun _ => List.replicate 1 none) (gName 0) (tCall (sp_is_belt_triple K PT) [] E0 (tCons (tVar 0) tNil)) [0] ((List.set (L2.start N_has_form [V.ref r]) 1 (some (V.ref ha))).set 2 (some (V.ref ba))) H1 Q else Q (.bl false) H1) (fun i H5 => H5 = H2) rfl (fun i H5 _ e => e ▸ SqT.of (tk_ext e2 _ _ eh)) (fun i x H5 hx e => ?_) fun H5 e => ?_
  · subst e
    obtain ⟨h, _, t, rr, rfl, e3, e4⟩ := alh.getL hx
    exact ⟨rfl, _, rfl, t, _, _, rfl, tk_ext e2 _ _ e3, true, rfl, (fun z => absurd rfl z), fun _ => rfl⟩
  subst e
  refine ⟨_, rfl, if_bl (fun _ => ?_) (fun z => nomatch z)⟩
  refine ⟨_, rfl, ba, rfl, ⟨_, SqT.of (tk_ext e2 _ _ eb)⟩, tb2.1, fun H3 t3 => ?_⟩
  have e3 := e2.trans (tabbed_ext tb2.1 t3)
  have tb3 := tb2.tab1 t3
  refine qt_tup (K := K) (a := ba) (xs := bv) (fun i H6 => LamX.ExtN H H6 ∧ Tb2 PT H6) ⟨e3, tb3⟩ (fun i H6 _ ⟨e, _⟩ => SqT.of (tk_ext e _ _ eb)) (fun i x H6 hx ⟨e6, tb6⟩ => ?_) fun H6 ⟨e6, tb6⟩ => q _ e6 tb6
  obtain ⟨b, _, t, g, rfl, e4, e5⟩ := alb.getL hx
  exact ⟨rfl, _, rfl, t, g, _, _, _, rfl, tk_ext e6 _ _ e4, tk_ext e6 _ _ e5, tb6, fun H7 e7 tb7 => ⟨true, rfl, (fun z => absurd rfl z), fun _ => ⟨e6.trans e7, tb7⟩⟩⟩
end
theorem nine_eleven {z : Str} (h : z ∈ nine) : z ∈ eleven := by
  unfold nine at h
  simp only [List.mem_cons, List.not_mem_nil, or_false] at h
  rcases h with h | h | h | h | h | h | h | h | h <;> rw [h] <;> decide +kernel
theorem GoodHand.eleven {h : HR} (g : GoodHand h) : h.wd ∈ Mine.eleven := by
  rcases g.1 with k | k
  · exact nine_eleven k.wd
  · rcases k.1 with z | z <;> rw [z] <;> decide +kernel
theorem needs_needN {z : Str} (h : z ∈ eleven) : needs z = needN z := by
  unfold eleven at h
  simp only [List.mem_cons, List.not_mem_nil, or_false] at h
  rcases h with h | h | h | h | h | h | h | h | h | h | h <;> rw [h] <;> decide +kernel
theorem GoodHand.lone {h : HR} (g : GoodHand h) : (h.no.isSome = true ↔ h.wd = "times" ∨ h.wd = "always") := by
  rcases g.1 with k | k
  · exact k.no
  · rw [k.2.1]
    refine ⟨(fun z => nomatch z), fun z => ?_⟩
    rcases k.1 with y | y <;> rw [y] at z <;> rcases z with z | z <;> exact absurd z (by decide +kernel)
section
variable {P : Program} {w : World} {K : PySem.W.Frag} {mg : Str → Option Value} {base : Heap}
def sp_is_rule (K : PySem.W.Frag) : Sp := fun vs H Q _ => ∃ (rr : Addr) (h : HR), vs = [.ref rr] ∧ H rr = some (.tup (ruleL h)) ∧ GoodHand h ∧ Q (.bl true) H
theorem ok_is_rule {f : Addr} {fd : FuncData} (F : Fun K "is_rule" "is_rule" s_is_rule f fd) (T : Top w K mg) : FnOk P w K mg base CX0 2 f fd ["thing"] (sp_is_rule K) := by
  obtain ⟨f_is_whole, fd_is_whole, F_is_whole, b_is_whole, m_is_whole⟩ := T.d_is_whole
  have G_is_whole := ok_is_whole (P := P) (w := w) (base := base) F_is_whole T
  refine F.ok sc_is_rule (fun vs H Q E h => ?_) (fun cdv A outer s H vs Q E hr h => ?_)
  · obtain ⟨rr, h, rfl, _⟩ := h
    rfl
  obtain ⟨rr, h, rfl, hr0, g, q⟩ := h
  obtain ⟨aN, mN, hN⟩ := T.x_needs
  obtain ⟨aW, mW, hW⟩ := T.x_with
  obtain ⟨es, nn, hKD⟩ := hN.dict
  refine ⟨_, (pss_cons (ps_if (PW.pt (pw_or (pt_not (pt_val (pe_callB (call_isiKK K rfl) (by rfl) T.m_isinstance (by decide +kernel) (pa_cons (pv 0) (pa_cons (pe_bltn (v := .ty "tuple") (by rfl) T.m_tuple (by decide +kernel) rfl) pa_nil))))) (pw_or1 (pt_cmpR op_lt (pe_callB (call_len_seqK K rfl) (by rfl) T.m_len (by decide +kernel) (pa_cons (pv 0) pa_nil)) pe_int (nomark _))))) (pss_one (ps_ret pe_bl)) pss_nil)
      (pss_cons (ps_set (i := 1) sc_is_rule.nd rfl (Or.inl rfl) (pe_ix (ix_tupK K rfl) (pv 0) pe_int (fun _ _ => rfl)))
      (pss_cons (ps_if (PW.pt (pw_or (pt_not (pt_val (pe_callB (call_isiKK K rfl) (by rfl) T.m_isinstance (by decide +kernel) (pa_cons (pv 1) (pa_cons (pe_bltn (v := .ty "str") (by rfl) T.m_str (by decide +kernel) rfl) pa_nil))))) (pw_or1 (pt_cmpR (op_notIn_kd hKD) (pv 1) (pe_glob (v := .ref aN) (by rfl) mN rfl) (by with_unfolding_all rfl))))) (pss_one (ps_ret pe_bl)) pss_nil)
      (pss_cons (ps_if (pt_cmpR (op_in_seqK K rfl) (pv 1) (pe_glob (v := .ref aW) (by rfl) mW rfl) (by with_unfolding_all rfl)) (pss_one (ps_ret (pe_and (pe_cmpR op_eq (pe_callB (call_len_seqK K rfl) (by rfl) T.m_len (by decide +kernel) (pa_cons (pv 0) pa_nil)) pe_int (nomark _)) (pe_one (pe_call G_is_whole (hr.mono (by decide)) (by rfl) m_is_whole F_is_whole.kp b_is_whole .nil pass0 (pa_cons (pe_ix (ix_tupK K rfl) (pv 0) pe_int (fun _ _ => rfl)) pa_nil)))))) pss_nil)
      (pss_one (ps_ret (pe_cmpR op_eq (pe_callB (call_len_seqK K rfl) (by rfl) T.m_len (by decide +kernel) (pa_cons (pv 0) pa_nil)) pe_int (nomark _)))))))), ?_⟩
  refine ⟨_, rfl, _, _, _, _, true, rfl, .ty "tuple", .base (.tup hr0), kit_ty (by decide +kernel), _, rfl, if_bl (fun z => nomatch z) (fun _ => ?_)⟩
  refine ⟨_, rfl, rr, _, rfl, .inr (SqT.of hr0), _, _, rfl, rfl, _, rfl, if_bl (fun z => ?_) (fun _ => ?_)⟩
  · have z := of_decide_eq_true z
    rw [List.length_cons] at z
    omega
  refine ⟨_, rfl, rr, _, _, _, rfl, rfl, SqT.of hr0, atI_nat (j := 0) rfl, ?_⟩
  refine ⟨_, rfl, _, _, _, _, true, rfl, .ty "str", .base (.str _), kit_ty (by decide +kernel), _, rfl, if_bl (fun z => nomatch z) (fun _ => ?_)⟩
  obtain ⟨t, hy⟩ := hN.yes h.wd g.eleven
  refine ⟨_, rfl, h.wd, _, rfl, rfl, hy, _, rfl, if_bl (fun y => nomatch y) (fun _ => ?_)⟩
  have lone := g.lone
  refine ⟨_, rfl, aW, _, rfl, .inr (hW _), rfl, rfl, _, rfl, if_in (zs := ["times", "always"]) (fun e => ?_) (fun e => ?_)⟩
  · have e2 : h.wd = "times" ∨ h.wd = "always" := by simpa using e
    have so := lone.mpr e2
    obtain ⟨wd, no, mom⟩ := h
    cases no with
    | none => cases so
    | some n =>
      refine ⟨_, rfl, rr, _, rfl, .inr (SqT.of hr0), rfl, _, rfl, if_bl (fun _ => ?_) (fun z => nomatch z)⟩
      exact ⟨_, rfl, rr, _, _, _, rfl, rfl, SqT.of hr0, atI_nat (j := 1) rfl, n, rfl, q⟩
  · have e2 : ¬ (h.wd = "times" ∨ h.wd = "always") := by simpa using e
    obtain ⟨wd, no, mom⟩ := h
    cases no with
    | some n => exact absurd (lone.mp rfl) e2
    | none => exact ⟨_, rfl, rr, _, rfl, .inr (SqT.of hr0), rfl, q⟩
def sp_needs (K : PySem.W.Frag) : Sp := fun vs H Q _ => ∃ (r : Addr) (z : Str) (l : List V), vs = [.ref r] ∧ H r = some (.tup (.str z :: l)) ∧ z ∈ eleven ∧ Q (.int (needN z)) H
theorem ok_needs {f : Addr} {fd : FuncData} (F : Fun K "needs" "needs" s_needs f fd) (T : Top w K mg) : FnOk P w K mg base CX0 1 f fd ["rule"] (sp_needs K) := by
  refine F.ok sc_needs (fun vs H Q E h => ?_) (fun cdv A outer s H vs Q E hr h => ?_)
  · obtain ⟨r, z, l, rfl, _⟩ := h
    rfl
  obtain ⟨r, z, l, rfl, hr0, hz, q⟩ := h
  obtain ⟨aN, mN, hN⟩ := T.x_needs
  obtain ⟨es, nn, hKD⟩ := hN.dict
  obtain ⟨t, hy⟩ := hN.yes z hz
  refine ⟨_, (pss_one (ps_ret (pe_ix ix_kdict (pe_glob (v := .ref aN) (by rfl) mN rfl) (pe_ix (ix_tupK K rfl) (pv 0) pe_int (fun _ _ => rfl)) (fun _ _ => rfl)))), ?_⟩
  exact ⟨_, rfl, r, _, _, _, rfl, rfl, SqT.of hr0, atI_nat (j := 0) rfl, aN, z, .int (needN z), rfl, rfl, ⟨es, nn, _, hKD.at_, hKD.lit, hy, ⟨t, rfl⟩⟩, q⟩
def sp_wrong_hand (K : PySem.W.Frag) : Sp := fun vs H Q _ => ∃ (r : Addr) (hs : List HR) (bs : List BR), vs = [.ref r] ∧ RoomAt H r hs bs ∧ RoomNr hs bs ∧ ∀ H', Same H H' → Q .non H'
theorem ok_wrong_hand {f : Addr} {fd : FuncData} (F : Fun K "wrong_hand" "wrong_hand" s_wrong_hand f fd) (T : Top w K mg) : FnOk P w K mg base CX0 3 f fd ["room"] (sp_wrong_hand K) := by
  obtain ⟨f_is_rule, fd_is_rule, F_is_rule, b_is_rule, m_is_rule⟩ := T.d_is_rule
  have G_is_rule := ok_is_rule (P := P) (w := w) (base := base) F_is_rule T
  refine F.ok sc_wrong_hand (fun vs H Q E h => ?_) (fun cdv A outer s H vs Q E hr h => ?_)
  · obtain ⟨r, hs, bs, rfl, _⟩ := h
    rfl
  obtain ⟨r, hs, bs, rfl, hR, ok, q⟩ := h
  obtain ⟨ha, ba, hv, bv, er, eh, eb, alh, alb⟩ := hR.ex
  obtain ⟨aI, mI, hI⟩ := T.x_in
  obtain ⟨aO, mO, hO⟩ := T.x_out
  refine ⟨_, (pss_cons (ps_for PassesOwn.never rfl (pi_enumT K rfl (by rfl) T.m_enumerate (pa_cons (pe_ix (ix_tupK K rfl) (pv 0) pe_int (fun _ _ => rfl)) pa_nil)) (pg_tupK K rfl rfl (pgs_cons (pg_name (i := 1) sc_wrong_hand.nd rfl (Or.inl rfl)) (pgs_cons (pg_tupK K rfl rfl (pgs_cons (pg_name (i := 2) sc_wrong_hand.nd rfl (Or.inl rfl)) (pgs_cons (pg_name (i := 3) sc_wrong_hand.nd rfl (Or.inl rfl)) pgs_nil))) pgs_nil)))
        (pss_cons (ps_if (PW.pt (pw_or (pt_not (pt_val (pe_call G_is_rule (hr.mono (by decide)) (by rfl) m_is_rule F_is_rule.kp b_is_rule .nil pass0 (pa_cons (pv 2) pa_nil)))) (pw_or1 (pt_cmpR op_lt (pv 3) pe_int (nomark _))))) (pss_one (ps_ret (pv 1))) pss_nil)
      (pss_one (ps_if (PW.pt (pw_and (pt_cmpR op_ne (pv 3) pe_int (nomark _)) (pw_and1 (pt_cmpR (op_inDTK K rfl (hu65 hr)) (pv 2) (pe_tup (pa_cons (pe_glob (v := .ref aI) (by rfl) mI rfl) (pa_cons (pe_glob (v := .ref aO) (by rfl) mO rfl) pa_nil))) (by with_unfolding_all rfl))))) (pss_one (ps_ret (pv 1))) pss_nil))))
      (pss_one (ps_ret pe_non))), ?_⟩
  refine ⟨_, rfl, r, _, _, _, rfl, rfl, SqT.of er, atI_nat (j := 0) rfl, ha, hv, rfl, SqT.of eh, for_it (J := IteT K ha hv) (n := hv.length) (fun i σ H5 => ∃ v1 v2 v3 : Option V, σ = [some (.ref r), v1, v2, v3] ∧ Same H H5) ⟨_, _, _, rfl, fun _ _ e => e⟩ ?_ ?_ ?_ ?_⟩
  · rintro i σ H5 hi ⟨v1, v2, v3, rfl, s5⟩
    exact ⟨SqT.of (s5 _ _ eh), hi⟩
  · rintro σ H5 ⟨v1, v2, v3, rfl, s5⟩
    exact ⟨SqT.of (s5 _ _ eh), rfl⟩
  · rintro i x σ H5 H6 hi ⟨v1, v2, v3, rfl, s5⟩ ⟨t, y, rfl, nt, rfl, ey⟩
    obtain ⟨h, eh2, t2, rr, rfl, e1, e2⟩ := alh.getL ey
    have gh := ok.good h (List.mem_of_getElem? eh2)
    have s6 := s5.trans (same_new (o := .tup [V.int ((i : Nat) : Int), V.ref t2]) nt)
    refine ⟨t, _, rfl, SqT.of upd_same, rfl, _, _, rfl, _, _, rfl, t2, _, rfl, SqT.of (s6 _ _ e1), rfl, _, _, rfl, _, _, rfl, rfl, rfl, ?_⟩
    refine ⟨_, rfl, rr, h, rfl, s6 _ _ e2, gh, _, rfl, if_bl (fun z => nomatch z) (fun _ => ?_)⟩
    refine ⟨_, rfl, _, _, rfl, rfl, _, rfl, if_bl (fun z => ?_) (fun _ => ?_)⟩
    · have := of_decide_eq_true z
      have := gh.2.1
      omega
    refine ⟨_, rfl, rfl, _, rfl, if_bl (fun e => ?_) (fun _ => ⟨_, _, _, rfl, s6⟩)⟩
    have m0 : h.mom ≠ 0 := fun z => by
      rw [z] at e
      exact absurd e (by decide)
    refine ⟨_, rfl, (by show 2 ≤ sizeLine; decide), fun p np => ?_⟩
    have s7 := same_new (o := .tup [V.ref aI, V.ref aO]) np
    refine ⟨.tuple (ruleD h), [.tuple [.str "in"], .tuple [.str "out"]], rule_dp (s7 _ _ (s6 _ _ e2)), .tup (SqT.of upd_same) (.cons (.tup (hI _) (.cons (.str _) .nil)) (.cons (.tup (hO _) (.cons (.str _) .nil)) .nil)), rule_shaped gh.lay, by decide +kernel, _, rfl, ?_⟩
    have val : ([PyData.tuple [.str "in"], .tuple [.str "out"]].any fun z => PyData.eqv z (.tuple (ruleD h))) = false := by
      rw [List.any_cons, List.any_cons, List.any_nil, Bool.or_false, one_eqv, one_eqv, gh.door "in" (.inl rfl), gh.door "out" (.inr rfl)]
      rw [decide_eq_false fun z => m0 (gh.mom0 (.inl z)), decide_eq_false fun z => m0 (gh.mom0 (.inr z))]
      rfl
    rw [val]
    exact if_bl (fun z => nomatch z) (fun _ => ⟨_, _, _, rfl, s6.trans s7⟩)
  · rintro σ H5 ⟨v1, v2, v3, rfl, s5⟩
    exact q _ s5
def sp_wrong_belt (K : PySem.W.Frag) : Sp := fun vs H Q _ => ∃ (r : Addr) (hs : List HR) (bs : List BR), vs = [.ref r] ∧ RoomAt H r hs bs ∧ RoomNr hs bs ∧ ∀ H', Same H H' → Q .non H'
theorem ok_wrong_belt {f : Addr} {fd : FuncData} (F : Fun K "wrong_belt" "wrong_belt" s_wrong_belt f fd) (T : Top w K mg) : FnOk P w K mg base CX0 1 f fd ["room"] (sp_wrong_belt K) := by
  refine F.ok sc_wrong_belt (fun vs H Q E h => ?_) (fun cdv A outer s H vs Q E hr h => ?_)
  · obtain ⟨r, hs, bs, rfl, _⟩ := h
    rfl
  obtain ⟨r, hs, bs, rfl, hR, ok, q⟩ := h
  obtain ⟨ha, ba, hv, bv, er, eh, eb, alh, alb⟩ := hR.ex
  have lhv := alh.length
  obtain ⟨aO, mO, hO⟩ := T.x_out
  refine ⟨_, (pss_cons (ps_asg (pv 0) (pg_tupK K rfl rfl (pgs_cons (pg_name (i := 1) sc_wrong_belt.nd rfl (Or.inl rfl)) (pgs_cons (pg_name (i := 2) sc_wrong_belt.nd rfl (Or.inl rfl)) pgs_nil))))
      (pss_cons (ps_for PassesOwn.never rfl (pi_enumT K rfl (by rfl) T.m_enumerate (pa_cons (pv 2) pa_nil)) (pg_tupK K rfl rfl (pgs_cons (pg_name (i := 3) sc_wrong_belt.nd rfl (Or.inl rfl)) (pgs_cons (pg_tupK K rfl rfl (pgs_cons (pg_name (i := 4) sc_wrong_belt.nd rfl (Or.inl rfl)) (pgs_cons (pg_name (i := 5) sc_wrong_belt.nd rfl (Or.inl rfl)) (pgs_cons (pg_name (i := 6) sc_wrong_belt.nd rfl (Or.inl rfl)) pgs_nil)))) pgs_nil)))
        (pss_cons (ps_if (PW.pt (pw_or (pt_not (pt_chain op_le op_lt pe_int (pv 4) (pe_callB (call_len_seqK K rfl) (by rfl) T.m_len (by decide +kernel) (pa_cons (pv 1) pa_nil)))) (pw_or1 (pt_not (pt_chain op_le op_lt pe_int (pv 5) (pe_callB (call_len_seqK K rfl) (by rfl) T.m_len (by decide +kernel) (pa_cons (pv 1) pa_nil))))))) (pss_one (ps_ret (pv 3))) pss_nil)
      (pss_one (ps_if (pt_cmpR (op_eqDK K rfl hr.units) (pe_ix (ix_tupK K rfl) (pe_ix (ix_tupK K rfl) (pv 1) (pv 4) (fun _ _ => rfl)) pe_int (fun _ _ => rfl)) (pe_glob (v := .ref aO) (by rfl) mO rfl) (nomark _)) (pss_one (ps_ret (pv 3))) pss_nil))))
      (pss_one (ps_ret pe_non)))), ?_⟩
  refine ⟨_, rfl, r, _, rfl, SqT.of er, rfl, _, _, rfl, _, _, rfl, rfl, ?_⟩
  refine ⟨_, rfl, ba, bv, rfl, SqT.of eb, for_it (J := IteT K ba bv) (n := bv.length) (fun i σ H5 => ∃ v3 v4 v5 v6 : Option V, σ = [some (.ref r), some (.ref ha), some (.ref ba), v3, v4, v5, v6] ∧ Same H H5) ⟨_, _, _, _, rfl, fun _ _ e => e⟩ ?_ ?_ ?_ ?_⟩
  · rintro i σ H5 hi ⟨v3, v4, v5, v6, rfl, s5⟩
    exact ⟨SqT.of (s5 _ _ eb), hi⟩
  · rintro σ H5 ⟨v3, v4, v5, v6, rfl, s5⟩
    exact ⟨SqT.of (s5 _ _ eb), rfl⟩
  · rintro i x σ H5 H6 hi ⟨v3, v4, v5, v6, rfl, s5⟩ ⟨t, y, rfl, nt, rfl, ey⟩
    obtain ⟨b, eb2, t2, g, rfl, e1, e2⟩ := alb.getL ey
    have mb := List.mem_of_getElem? eb2
    obtain ⟨n1, n2⟩ := ok.ends b mb
    have s6 := s5.trans (same_new (o := .tup [V.int ((i : Nat) : Int), V.ref t2]) nt)
    refine ⟨t, _, rfl, SqT.of upd_same, rfl, _, _, rfl, _, _, rfl, t2, _, rfl, SqT.of (s6 _ _ e1), rfl, _, _, rfl, _, _, rfl, _, _, rfl, rfl, rfl, ?_⟩
    have in0 : ∀ n : Nat, n < hs.length → (decide ((0 : Int) ≤ ((n : Nat) : Int)) = true) ∧ decide (((n : Nat) : Int) < ((hv.length : Nat) : Int)) = true := fun n hn => ⟨decide_eq_true (Int.natCast_nonneg _), decide_eq_true (by omega)⟩
    obtain ⟨c1, c2⟩ := in0 _ n1
    obtain ⟨c3, c4⟩ := in0 _ n2
    have e6 := SqT.of (K := K) (s6 _ _ eh)
    refine ⟨_, rfl, _, _, rfl, rfl, _, rfl, if_bl (fun _ => ?_) (fun z => absurd (z.symm.trans c1) (by decide))⟩
    refine ⟨_, rfl, ha, hv, rfl, .inr e6, _, _, rfl, rfl, _, rfl, if_bl (fun z => ?_) (fun _ => ?_)⟩
    · rw [c2] at z; cases z
    refine ⟨_, rfl, _, _, rfl, rfl, _, rfl, if_bl (fun _ => ?_) (fun z => absurd (z.symm.trans c3) (by decide))⟩
    refine ⟨_, rfl, ha, hv, rfl, .inr e6, _, _, rfl, rfl, _, rfl, if_bl (fun z => ?_) (fun _ => ?_)⟩
    · rw [c4] at z; cases z
    obtain ⟨h, eh3⟩ : ∃ h, hs[b.one]? = some h := ⟨_, List.getElem?_eq_getElem n1⟩
    have gh := ok.good h (List.mem_of_getElem? eh3)
    obtain ⟨x, ex, t3, rr, rfl, e3, e4⟩ := alh.get eh3
    refine ⟨_, rfl, _, rfl, ha, _, _, _, rfl, rfl, e6, atI_nat ex, t3, _, _, _, rfl, rfl, SqT.of (s6 _ _ e3), atI_nat (j := 0) rfl, ?_⟩
    refine ⟨_, _, rule_dp (s6 _ _ e4), .tup (hO _) (.cons (.str _) .nil), rule_shaped gh.lay, one_shaped (by decide +kernel), _, rfl, ?_⟩
    rw [rule_eqv, gh.door "out" (.inr rfl), decide_eq_false (ok.out b mb h eh3)]
    exact if_bl (fun z => nomatch z) (fun _ => ⟨_, _, _, _, rfl, s6⟩)
  · rintro σ H5 ⟨v3, v4, v5, v6, rfl, s5⟩
    exact q _ s5
def sp_wrong_count (K : PySem.W.Frag) : Sp := fun vs H Q _ => ∃ (r : Addr) (hs : List HR) (bs : List BR), vs = [.ref r] ∧ RoomAt H r hs bs ∧ RoomNr hs bs ∧ ∀ H', Same H H' → Q .non H'
theorem ok_wrong_count {f : Addr} {fd : FuncData} (F : Fun K "wrong_count" "wrong_count" s_wrong_count f fd) (T : Top w K mg) : FnOk P w K mg base CX0 2 f fd ["room"] (sp_wrong_count K) := by
  obtain ⟨f_needs, fd_needs, F_needs, b_needs, m_needs⟩ := T.d_needs
  have G_needs := ok_needs (P := P) (w := w) (base := base) F_needs T
  obtain ⟨f_comings, fd_comings, F_comings, b_comings, m_comings⟩ := T.d_comings
  have G_comings := ok_comings (P := P) (w := w) (base := base) F_comings T
  refine F.ok sc_wrong_count (fun vs H Q E h => ?_) (fun cdv A outer s H vs Q E hr h => ?_)
  · obtain ⟨r, hs, bs, rfl, _⟩ := h
    rfl
  obtain ⟨r, hs, bs, rfl, hR, ok, q⟩ := h
  obtain ⟨ha, ba, hv, bv, er, eh, eb, alh, alb⟩ := hR.ex
  have lb := ok.many
  refine ⟨_, (pss_cons (ps_for PassesOwn.never rfl (pi_enumT K rfl (by rfl) T.m_enumerate (pa_cons (pe_ix (ix_tupK K rfl) (pv 0) pe_int (fun _ _ => rfl)) pa_nil)) (pg_tupK K rfl rfl (pgs_cons (pg_name (i := 1) sc_wrong_count.nd rfl (Or.inl rfl)) (pgs_cons (pg_tupK K rfl rfl (pgs_cons (pg_name (i := 2) sc_wrong_count.nd rfl (Or.inl rfl)) (pgs_cons (pg_name (i := 3) sc_wrong_count.nd rfl (Or.inl rfl)) pgs_nil))) pgs_nil)))
        (pss_one (ps_if (pt_cmpR op_ne (pe_callB (call_len_seqK K rfl) (by rfl) T.m_len (by decide +kernel) (pa_cons (pe_call G_comings (hr.mono (by decide)) (by rfl) m_comings F_comings.kp b_comings .nil pass0 (pa_cons (pv 0) (pa_cons (pv 1) pa_nil))) pa_nil)) (pe_call G_needs (hr.mono (by decide)) (by rfl) m_needs F_needs.kp b_needs .nil pass0 (pa_cons (pv 2) pa_nil)) (nomark _)) (pss_one (ps_ret (pv 1))) pss_nil)))
      (pss_one (ps_ret pe_non))), ?_⟩
  refine ⟨_, rfl, r, _, _, _, rfl, rfl, SqT.of er, atI_nat (j := 0) rfl, ha, hv, rfl, SqT.of eh, for_it (J := IteT K ha hv) (n := hv.length) (fun i σ H5 => ∃ v1 v2 v3 : Option V, σ = [some (.ref r), v1, v2, v3] ∧ Same H H5) ⟨_, _, _, rfl, fun _ _ e => e⟩ ?_ ?_ ?_ ?_⟩
  · rintro i σ H5 hi ⟨v1, v2, v3, rfl, s5⟩
    exact ⟨SqT.of (s5 _ _ eh), hi⟩
  · rintro σ H5 ⟨v1, v2, v3, rfl, s5⟩
    exact ⟨SqT.of (s5 _ _ eh), rfl⟩
  · rintro i x σ H5 H6 hi ⟨v1, v2, v3, rfl, s5⟩ ⟨t, y, rfl, nt, rfl, ey⟩
    obtain ⟨h, eh2, t2, rr, rfl, e1, e2⟩ := alh.getL ey
    have gh := ok.good h (List.mem_of_getElem? eh2)
    have s6 := s5.trans (same_new (o := .tup [V.int ((i : Nat) : Int), V.ref t2]) nt)
    refine ⟨t, _, rfl, SqT.of upd_same, rfl, _, _, rfl, _, _, rfl, t2, _, rfl, SqT.of (s6 _ _ e1), rfl, _, _, rfl, _, _, rfl, rfl, rfl, ?_⟩
    refine ⟨_, rfl, _, rfl, r, hs, bs, i, rfl, hR.keep (TK.same s6), by omega, fun c H7 nc hc s7 => ?_⟩
    refine ⟨c, _, rfl, .inl (SqL.of hc), _, rfl, rr, h.wd, _, rfl, s7 _ _ (s6 _ _ e2), gh.eleven, rfl, _, rfl, if_bl (fun e => ?_) (fun _ => ⟨_, _, _, rfl, s6.trans s7⟩)⟩
    have cnt := ok.count i h eh2
    rw [needs_needN gh.eleven, count_filter] at cnt
    have lc : ((comingN bs i).map nV).length = (comeB bs i).length := by rw [List.length_map]; exact (come_list bs i).length
    rw [lc] at e
    unfold comeB at e
    rw [cnt] at e
    simp at e
  · rintro σ H5 ⟨v1, v2, v3, rfl, s5⟩
    exact q _ s5
end
/-! ### belts without things -/
abbrev DSt (g : TG) (tt : TT) (tk tv : TE) (vs : List Nat) (σ : L2.St) (D : Addr) (x : V) (H' : Hp) (N : Hp → Prop) : Prop := g x (wipe σ vs) H' fun σ2 H2 => wipe σ2 vs = wipe σ vs ∧ tt σ2 H2 fun b H3 => if b = true then (tk σ2 H3 fun y H4 => tv σ2 H4 fun z H5 => ∃ kvs k, y = kV k ∧ H5 D = some (.dK kvs) ∧ kvs.length < sizeLine ∧ N (upd H5 D (.dK (putK kvs k z)))) else N H3
theorem dc_range {lo : Int} {n : Nat} {g : TG} {tt : TT} {tk tv : TE} {vs : List Nat} {σ : L2.St} {H1 : Hp} {D : Addr} {Qd : Hp → Prop} (Pv : Nat → Hp → Prop) (h0 : Pv 0 (upd H1 D (.dK []))) (hs : ∀ i H, i < n → Pv i H → DSt g tt tk tv vs σ D (.int (lo + i)) H (Pv (i + 1))) (hd : ∀ H, Pv n H → Qd H) :
    ∃ W : Nat → Nat → Hp → Prop, (∃ m, W 0 m (upd H1 D (.dK []))) ∧ ∀ i m H, W i m H → ((Itr lo n).stop i H ∧ Qd H) ∨ ((Itr lo n).go i H ∧ ∃ Nx : Hp → Prop, (∀ H', Nx H' → ∃ m', m' < m ∧ W (i + 1) m' H') ∧ ∀ x H', (Itr lo n).yld i H x H' → DSt g tt tk tv vs σ D x H' Nx) := by
  refine ⟨fun i m H => m = n - i ∧ i ≤ n ∧ Pv i H, ⟨n, by simp, Nat.zero_le _, h0⟩, ?_⟩
  rintro i m H ⟨rfl, hi, p⟩
  by_cases hlt : i < n
  · refine .inr ⟨hlt, Pv (i + 1), fun H' p' => ⟨n - (i + 1), by omega, rfl, hlt, p'⟩, fun x H' y => ?_⟩
    obtain ⟨e, y⟩ := y
    subst e y
    exact hs i _ hlt p
  · have e : i = n := by omega
    subst e
    exact .inl ⟨Nat.le_refl _, hd H p⟩
/-- the hands that the belts without things lead to -/
def bareSt (bs : List BR) (i : Nat) : List Nat := (bs.filter fun b => decide (b.one = i) && b.th.isEmpty).map BR.to
theorem bare_snoc (bs : List BR) (b : BR) (i : Nat) : bareSt (bs ++ [b]) i = if b.one = i ∧ b.th = [] then bareSt bs i ++ [b.to] else bareSt bs i := by
  unfold bareSt
  rw [List.filter_append, List.map_append]
  by_cases h : b.one = i ∧ b.th = []
  · rw [if_pos h, List.filter_cons, if_pos (by rw [h.1, h.2, decide_eq_true rfl]; rfl)]
    rfl
  · rw [if_neg h, List.filter_cons, if_neg (fun z => h ?_)]
    · exact List.append_nil _
    · rw [Bool.and_eq_true, decide_eq_true_eq, List.isEmpty_iff] at z
      exact z
theorem bare_mem {bs : List BR} {i y : Nat} (h : y ∈ bareSt bs i) : ∃ b ∈ bs, b.one = i ∧ b.th = [] ∧ b.to = y := by
  unfold bareSt at h
  obtain ⟨b, hb, e⟩ := List.mem_map.mp h
  obtain ⟨m, z⟩ := List.mem_filter.mp hb
  rw [Bool.and_eq_true, decide_eq_true_eq, List.isEmpty_iff] at z
  exact ⟨b, m, z.1, z.2, e⟩
theorem bare_len (bs : List BR) (i : Nat) : (bareSt bs i).length ≤ bs.length := by
  unfold bareSt
  rw [List.length_map]
  exact List.length_filter_le ..
theorem bare_none {hs : List HR} {bs : List BR} (ok : RoomOk hs bs) (x : Nat) : ¬ OnW (bareSt bs) x x := fun h => by
  obtain ⟨rk, hr⟩ := ok.rank
  have := h.rank (rk := rk) fun x y hy => (by
    obtain ⟨b, hb, e1, e2, e3⟩ := bare_mem hy
    rw [← e1, ← e3]
    exact hr b hb e2)
  omega
theorem stK_none (adr : Nat → Addr) (n : Nat) : valV (stK adr n) (Sum.inl ((n : Nat) : Int)) = none := by
  unfold valV
  rw [Option.map_eq_none_iff, List.find?_eq_none]
  intro kv hk
  obtain ⟨i, hi, rfl⟩ := List.mem_map.mp hk
  have := List.mem_range.mp hi
  intro z
  have := Sum.inl.inj (of_decide_eq_true z)
  omega
theorem stK_put (adr : Nat → Addr) (n : Nat) (p : Addr) : putK (stK adr n) (Sum.inl ((n : Nat) : Int)) (.ref p) = stK (fun j => if j = n then p else adr j) (n + 1) := by
  rw [putK_new _ (stK_none adr n)]
  unfold stK
  rw [List.range_succ, List.map_append]
  congr 1
  · refine List.map_congr_left fun i hi => ?_
    have := List.mem_range.mp hi
    show (_, V.ref (adr i)) = (_, V.ref (if i = n then p else adr i))
    rw [if_neg (by omega)]
  · show [_] = [(_, V.ref (if n = n then p else adr n))]
    rw [if_pos rfl]
/-- the steps under way -/
structure StU (H0 H : Hp) (d : Addr) (n : Nat) (st : Nat → List Nat) : Prop where
  ex : ∃ adr : Nat → Addr, H d = some (.dK (stK adr n)) ∧ (∀ i, i < n → H (adr i) = some (.lst ((st i).map nV)) ∧ H0 (adr i) = none) ∧ (∀ i j, i < n → j < n → adr i = adr j → i = j) ∧ Same H0 H
section
variable {P : Program} {w : World} {K : PySem.W.Frag} {mg : Str → Option Value} {base : Heap}
def sp_hand_on_ring (K : PySem.W.Frag) : Sp := fun vs H Q _ => ∃ (r : Addr) (hs : List HR) (bs : List BR), vs = [.ref r] ∧ RoomAt H r hs bs ∧ RoomNr hs bs ∧ ∀ (v : V) (H' : Hp), FirstW (bareSt bs) (List.range hs.length) v → Same H H' → Q v H'
theorem ok_hand_on_ring {f : Addr} {fd : FuncData} (F : Fun K "hand_on_ring" "hand_on_ring" s_hand_on_ring f fd) (T : Top w K mg) : FnOk P w K mg base CX0 3 f fd ["room"] (sp_hand_on_ring K) := by
  obtain ⟨f_first_on_ring, fd_first_on_ring, F_first_on_ring, b_first_on_ring, m_first_on_ring⟩ := T.d_first_on_ring
  have G_first_on_ring := ok_first_on_ring (P := P) (w := w) (base := base) F_first_on_ring T
  refine F.ok sc_hand_on_ring (fun vs H Q E h => ?_) (fun cdv A outer s H vs Q E hr h => ?_)
  · obtain ⟨r, hs, bs, rfl, _⟩ := h
    rfl
  obtain ⟨r, hs, bs, rfl, hR, ok, q⟩ := h
  obtain ⟨ha, ba, hv, bv, er, eh, eb, alh, alb⟩ := hR.ex
  have lhv := alh.length
  have lbv := alb.length
  have lh := ok.hands
  have lb := ok.many
  refine ⟨_, (pss_cons (ps_asg (pv 0) (pg_tupK K rfl rfl (pgs_cons (pg_name (i := 1) sc_hand_on_ring.nd rfl (Or.inl rfl)) (pgs_cons (pg_name (i := 2) sc_hand_on_ring.nd rfl (Or.inl rfl)) pgs_nil))))
      (pss_cons (ps_setDc (i := 3) (own := [("number", 4)]) (g := gName 4) (tt := tYes) (by rfl) sc_hand_on_ring.nd rfl rfl (sw_dc rfl rfl rfl (by decide +kernel)) (pi_range1 (by rfl) T.m_range (pa_cons (pe_callB (call_len_seqK K rfl) (by rfl) T.m_len (by decide +kernel) (pa_cons (pv 1) pa_nil)) pa_nil)) (blkOk_by (own := [("number", 4)]) (N := N_hand_on_ring) (sc := defScope s_hand_on_ring) (by decide +kernel)) (fun _ _ _ _ _ => (pg_name (i := 4) sc_hand_on_ring.nd rfl (Or.inl rfl))) (fun _ _ _ _ _ => pts_nil) (fun _ _ _ _ _ => (pv 4)) (fun _ _ _ _ _ => (pe_lst pa_nil)))
      (pss_cons (ps_for PassesOwn.never rfl (pi_tupK K rfl (pv 2)) (pg_tupK K rfl rfl (pgs_cons (pg_name (i := 5) sc_hand_on_ring.nd rfl (Or.inl rfl)) (pgs_cons (pg_name (i := 6) sc_hand_on_ring.nd rfl (Or.inl rfl)) (pgs_cons (pg_name (i := 7) sc_hand_on_ring.nd rfl (Or.inl rfl)) pgs_nil))))
        (pss_one (ps_if (pt_not (pt_truthK K rfl (pv 7) (by intro _; rfl))) (pss_one (ps_expr (pe_bmK K rfl PySem.F.plainAttrs_list PySem.F.slot_list_append PySem.F.type_list_append mt_append (pe_dget (hu_of hr) (pv 3) (pv 5) (fun _ _ => rfl)) (pa_cons (pv 6) pa_nil)))) pss_nil)))
      (pss_one (ps_ret (pe_call G_first_on_ring (hr.mono (by decide)) (by rfl) m_first_on_ring F_first_on_ring.kp b_first_on_ring .nil pass0 (pa_cons (pe_callTy (call_list_dK rfl) (by rfl) T.m_list (by decide +kernel) (pa_cons (pv 3) pa_nil)) (pa_cons (pv 3) pa_nil)))))))), ?_⟩
  refine ⟨_, rfl, r, _, rfl, SqT.of er, rfl, _, _, rfl, _, _, rfl, rfl, ?_⟩
  refine ⟨_, rfl, ha, _, rfl, .inr (SqT.of eh), _, rfl, by omega, by omega, fun D nD => dc_range (fun i H5 => StU H H5 D i (fun _ => [])) ⟨fun _ => D, upd_same, (fun i z => absurd z (Nat.not_lt_zero _)), (fun i j z => absurd z (Nat.not_lt_zero _)), same_new nD⟩ ?_ ?_⟩
  · rintro i H5 hi ⟨adr, hD, had, inj, s5⟩
    refine ⟨rfl, _, rfl, (by show 0 ≤ sizeLine; decide), fun p np => ?_⟩
    have pD : p ≠ D := fun z => by rw [z, hD] at np; cases np
    have u := same_new (o := .lst []) np
    have lK : (stK adr i).length = i := by unfold stK; rw [List.length_map, List.length_range]
    refine ⟨stK adr i, Sum.inl ((i : Nat) : Int), by rw [Int.zero_add]; rfl, u _ _ hD, by rw [lK]; exact small1000 (by omega), ?_⟩
    rw [stK_put]
    refine ⟨_, upd_same, fun j hj => ?_, fun j k hj hk e => ?_, Same.own (s5.trans u) nD⟩
    · by_cases z : j = i
      · rw [if_pos z]
        refine ⟨by rw [upd_ne pD, upd_same]; rfl, ?_⟩
        cases h0 : H p with
        | none => rfl
        | some o => rw [s5 _ _ h0] at np; cases np
      · rw [if_neg z]
        obtain ⟨a1, a2⟩ := had j (by omega)
        have aD : adr j ≠ D := fun y => by rw [y, hD] at a1; cases a1
        exact ⟨by rw [upd_ne aD]; exact u _ _ a1, a2⟩
    · by_cases z : j = i
      · by_cases y : k = i
        · omega
        · simp only [if_pos z, if_neg y] at e
          rw [e, (had k (by omega)).1] at np
          cases np
      · by_cases y : k = i
        · simp only [if_neg z, if_pos y] at e
          rw [← e, (had j (by omega)).1] at np
          cases np
        · simp only [if_neg z, if_neg y] at e
          exact inj j k (by omega) (by omega) e
  intro H2 su0
  rw [lhv] at su0
  have same0 : ∀ {H5 : Hp} {n : Nat} {st : Nat → List Nat}, StU H H5 D n st → Same H H5 := fun su => by
    obtain ⟨adr, _, _, _, s⟩ := su.ex
    exact s
  refine ⟨_, rfl, ba, rfl, ⟨_, SqT.of (same0 su0 _ _ eb)⟩, for_tup (K := K) (a := ba) (xs := bv) (fun i σ H5 => ∃ v4 v5 v6 v7 : Option V, σ = [some (.ref r), some (.ref ha), some (.ref ba), some (.ref D), v4, v5, v6, v7] ∧ StU H H5 D hs.length (bareSt (bs.take i))) ⟨_, _, _, _, rfl, su0⟩ (fun i σ H5 _ ⟨_, _, _, _, _, su⟩ => SqT.of (same0 su _ _ eb)) ?_ ?_⟩
  · rintro i x σ H5 hx ⟨v4, v5, v6, v7, rfl, su⟩
    obtain ⟨adr, hD, had, inj, s5⟩ := su.ex
    obtain ⟨b, eb2, t, g, rfl, e4, e5⟩ := alb.getL hx
    have tk : bs.take (i + 1) = bs.take i ++ [b] := by rw [List.take_add_one, eb2]; rfl
    obtain ⟨n1, n2⟩ := ok.ends b (List.mem_of_getElem? eb2)
    have bq : ∀ j, bareSt (bs.take (i + 1)) j = if b.one = j ∧ b.th = [] then bareSt (bs.take i) j ++ [b.to] else bareSt (bs.take i) j := fun j => by rw [tk, bare_snoc]
    refine ⟨t, _, rfl, SqT.of (s5 _ _ e4), rfl, _, _, rfl, _, _, rfl, _, _, rfl, rfl, ?_⟩
    refine ⟨_, rfl, _, .inr (.inl ⟨_, SqT.of (s5 _ _ e5), rfl⟩), if_bl (fun z => ?_) (fun z => ?_)⟩
    · have bare : b.th = [] := by
        cases hb : b.th with
        | nil => rfl
        | cons y l => rw [hb] at z; cases z
      obtain ⟨a1, a2⟩ := had b.one n1
      have st5 : StAt H5 D hs.length (bareSt (bs.take i)) := ⟨adr, hD, fun j hj => (had j hj).1⟩
      have gt : DGet H5 D (nV b.one) (some (.ref (adr b.one))) := by
        have := DGet.k (k := Sum.inl ((b.one : Nat) : Int)) hD
        rwa [stK_at n1] at this
      have few := bare_len (bs.take i) b.one
      have few2 : (bs.take i).length ≤ bs.length := by rw [List.length_take]; exact Nat.min_le_right ..
      have aD : D ≠ adr b.one := fun y => by rw [← y, hD] at a1; cases a1
      refine ⟨_, rfl, _, rfl, D, _, rfl, gt, .inl ⟨rfl, _, SqL.of a1⟩, _, rfl, adr b.one, _, _, rfl, rfl, a1, by rw [List.length_map]; exact small1000 (by omega), _, _, _, _, rfl, ⟨adr, by rw [upd_ne aD]; exact hD, fun j hj => ⟨?_, (had j hj).2⟩, inj, Same.own s5 a2⟩⟩
      rw [bq]
      by_cases y : b.one = j
      · subst y
        rw [if_pos ⟨rfl, bare⟩, upd_same, List.map_append]
        rfl
      · rw [if_neg (fun c => y c.1), upd_ne (fun c => y (inj _ _ hj n1 c).symm)]
        exact (had j hj).1
    · have bare : b.th ≠ [] := fun y => by rw [y] at z; cases z
      refine ⟨_, _, _, _, rfl, ⟨adr, hD, fun j hj => ⟨?_, (had j hj).2⟩, inj, s5⟩⟩
      rw [bq, if_neg (fun c => bare c.2)]
      exact (had j hj).1
  · rintro σ H5 ⟨v4, v5, v6, v7, rfl, su⟩
    rw [lbv, List.take_length] at su
    obtain ⟨adr, hD, had, inj, s5⟩ := su.ex
    refine ⟨_, rfl, D, _, rfl, hD, fun pl npl => ?_⟩
    have s6 := same_new (o := .lst ((stK adr hs.length).map fun kv => kV kv.1)) npl
    refine ⟨_, rfl, pl, D, hs.length, List.range hs.length, bareSt bs, rfl, ?_, fun x hx => List.mem_range.mp hx, ⟨adr, s6 _ _ hD, fun j hj => s6 _ _ (had j hj).1⟩, by omega, fun j hj => ⟨by have := bare_len bs j; omega, fun y hy => ?_⟩, fun v H7 fw s7 => ?_⟩
    · rw [upd_same]
      unfold stK
      rw [List.map_map]
      rfl
    · obtain ⟨b, hb, _, _, e⟩ := bare_mem hy
      rw [← e]
      exact (ok.ends b hb).2
    · exact q v _ fw (s5.trans (s6.trans s7))
abbrev nsA (K : PySem.W.Frag) : Addr := He.ga K "NoRoom"
/-- refused: word and what it is about -/
def sp_refuse_room (K : PySem.W.Frag) : Sp := fun vs H Q E => ∃ (z : Str) (y : V), vs = [.str z, y] ∧ (y = .non → Q .non H) ∧ ((∃ k : Nat, y = nV k) ∨ y = .non) ∧
  ∀ (d t : Addr) (H' : Hp), y ≠ .non → H' d = some (.xd [("at", .ref t), ("word", .str z)]) → H' t = some (.tup [y]) → Same H H' → E (.ref (nsA K)) (some d) H'
theorem ok_refuse_room {f : Addr} {fd : FuncData} (F : Fun K "refuse_room" "refuse_room" s_refuse_room f fd) (T : Top w K mg) : FnOk P w K mg base (L2.CX P w) 3 f fd ["word", "at"] (sp_refuse_room K) := by
  obtain ⟨fdI, N⟩ := T.x_ns
  have GI := ok_NsInit (P := P) (w := w) (base := base) N
  refine F.okX sc_refuse_room (fun vs H Q E h => ?_) (fun cdv A outer s H vs Q E hr h => ?_)
  · obtain ⟨z, y, rfl, _⟩ := h
    rfl
  obtain ⟨z, y, rfl, q1, sort, q2⟩ := h
  refine ⟨_, (pss_one (ps_if (pt_cmpR op_notN (pv 1) pe_non (nomark _)) (pss_one (ps_raise rfl (takes_of rfl rfl rfl rfl) (pmk_oex N.T N.iC N.tI GI (hr.mono (by decide)) N.b .nil pass0 rfl N.gC (pa_cons (pv 0) (pa_cons (pe_tup (pa_cons (pv 1) pa_nil)) pa_nil))))) pss_nil)), ?_⟩
  rcases sort with ⟨k, rfl⟩ | rfl
  · refine ⟨_, rfl, rfl, _, rfl, if_bl (fun _ => ?_) (fun z => nomatch z)⟩
    refine ⟨_, rfl, _, rfl, (by show 1 ≤ sizeLine; decide), fun t nt => ⟨by show 2 ≤ 1000; decide, fun a na => ?_⟩⟩
    have s1 := same_new (o := .tup [nV k]) nt
    have ht : (upd H t (.tup [nV k])) t = some (.tup [nV k]) := upd_same
    generalize upd H t (.tup [nV k]) = H1 at s1 ht na ⊢
    refine ⟨a, V.str z, .ref t, rfl, upd_same, fun d nd da => ⟨rfl, d, _, by rw [upd_ne da.symm, upd_same], upd_same, ?_, ?_⟩⟩
    · rw [upd_ne da] at nd; exact nd
    · have nd1 : H1 d = none := by rw [upd_ne da] at nd; exact nd
      have keep : Same H1 (upd (del (upd (upd (upd (upd H1 a (exo a (nsA K) none)) d (exd d [("word", V.str z)])) a (exo a (nsA K) (some d))) d (exd d [("at", V.ref t), ("word", V.str z)])) a) d (.xd [("at", V.ref t), ("word", V.str z)])) := fun b o e => by
        have b1 : b ≠ a := ne_of_none e na
        have b2 : b ≠ d := ne_of_none e nd1
        rw [upd_ne b2, del_ne b1, upd_ne b2, upd_ne b1, upd_ne b2, upd_ne b1]
        exact e
      exact q2 d t _ (fun z => nomatch z) upd_same (keep _ _ ht) (s1.trans keep)
  · exact ⟨_, rfl, rfl, _, rfl, if_bl (fun z => nomatch z) (fun _ => q1 rfl)⟩
variable {cF cB : Addr} {PT : Addr × Addr} [TF : TabF K mg base cF PT] [TC : TabC K mg base cB PT]
include TF TC
def sp_look_room (K : PySem.W.Frag) (PT : Addr × Addr) : Sp := fun vs H Q E => ∃ (r : Addr) (hs : List HR) (bs : List BR), vs = [.ref r] ∧ RoomAt H r hs bs ∧ RoomNr hs bs ∧ Tb2 PT H ∧
  (∀ H', (∀ k, k < hs.length → ¬ OnW (bareSt bs) k k) → LamX.ExtN H H' → Tb2 PT H' → Q (.bl true) H') ∧
  ∀ (d t : Addr) (k : Nat) (H' : Hp), k < hs.length → OnW (bareSt bs) k k → (∀ j, j < k → ¬ OnW (bareSt bs) j j) → H' d = some (.xd [("at", .ref t), ("word", .str "ring")]) → H' t = some (.tup [nV k]) → LamX.ExtN H H' → Tb2 PT H' → E (.ref (nsA K)) (some d) H'
theorem ok_look_room {f : Addr} {fd : FuncData} (F : Fun K "look_room" "look_room" s_look_room f fd) (T : Top w K mg) : FnOk P w K mg base (L2.CX P w) 6 f fd ["room"] (sp_look_room K PT) := by
  obtain ⟨f_refuse_room, fd_refuse_room, F_refuse_room, b_refuse_room, m_refuse_room⟩ := T.d_refuse_room
  have G_refuse_room := ok_refuse_room (P := P) (w := w) (base := base) F_refuse_room T
  obtain ⟨f_has_form, fd_has_form, F_has_form, b_has_form, m_has_form⟩ := T.d_has_form
  have G_has_form := ok_has_form (P := P) (w := w) (base := base) F_has_form (TF.cd _ _ F_has_form m_has_form) T
  obtain ⟨f_wrong_hand, fd_wrong_hand, F_wrong_hand, b_wrong_hand, m_wrong_hand⟩ := T.d_wrong_hand
  have G_wrong_hand := ok_wrong_hand (P := P) (w := w) (base := base) F_wrong_hand T
  obtain ⟨f_wrong_belt, fd_wrong_belt, F_wrong_belt, b_wrong_belt, m_wrong_belt⟩ := T.d_wrong_belt
  have G_wrong_belt := ok_wrong_belt (P := P) (w := w) (base := base) F_wrong_belt T
  obtain ⟨f_wrong_count, fd_wrong_count, F_wrong_count, b_wrong_count, m_wrong_count⟩ := T.d_wrong_count
  have G_wrong_count := ok_wrong_count (P := P) (w := w) (base := base) F_wrong_count T
  obtain ⟨f_hand_on_ring, fd_hand_on_ring, F_hand_on_ring, b_hand_on_ring, m_hand_on_ring⟩ := T.d_hand_on_ring
  have G_hand_on_ring := ok_hand_on_ring (P := P) (w := w) (base := base) F_hand_on_ring T
  obtain ⟨fdI, N⟩ := T.x_ns
  have GI := ok_NsInit (P := P) (w := w) (base := base) N
  refine F.okX sc_look_room (fun vs H Q E h => ?_) (fun cdv A outer s H vs Q E hr h => ?_)
  · obtain ⟨r, hs, bs, rfl, _⟩ := h
    rfl
  obtain ⟨r, hs, bs, rfl, hR, ok, tb, q1, q2⟩ := h
  refine ⟨_, (pss_cons (ps_if (pt_not (pt_val (pe_call G_has_form (hr.mono (by decide)) (by rfl) m_has_form F_has_form.kp b_has_form .nil pass0 (pa_cons (pv 0) pa_nil)))) (pss_one (ps_raise rfl (takes_of rfl rfl rfl rfl) (pmk_oex N.T N.iC N.tI GI (hr.mono (by decide)) N.b .nil pass0 rfl N.gC (pa_cons pe_str (pa_cons (pe_tup pa_nil) pa_nil))))) pss_nil)
      (pss_cons (ps_expr (pe_callS G_refuse_room (hr.mono (by decide)) (by rfl) m_refuse_room F_refuse_room.kp b_refuse_room (fun σ => passAt (takes_of rfl rfl rfl rfl) σ) (pa_cons pe_str (pa_cons (pe_call G_wrong_hand (hr.mono (by decide)) (by rfl) m_wrong_hand F_wrong_hand.kp b_wrong_hand .nil pass0 (pa_cons (pv 0) pa_nil)) pa_nil))))
      (pss_cons (ps_expr (pe_callS G_refuse_room (hr.mono (by decide)) (by rfl) m_refuse_room F_refuse_room.kp b_refuse_room (fun σ => passAt (takes_of rfl rfl rfl rfl) σ) (pa_cons pe_str (pa_cons (pe_call G_wrong_belt (hr.mono (by decide)) (by rfl) m_wrong_belt F_wrong_belt.kp b_wrong_belt .nil pass0 (pa_cons (pv 0) pa_nil)) pa_nil))))
      (pss_cons (ps_expr (pe_callS G_refuse_room (hr.mono (by decide)) (by rfl) m_refuse_room F_refuse_room.kp b_refuse_room (fun σ => passAt (takes_of rfl rfl rfl rfl) σ) (pa_cons pe_str (pa_cons (pe_call G_wrong_count (hr.mono (by decide)) (by rfl) m_wrong_count F_wrong_count.kp b_wrong_count .nil pass0 (pa_cons (pv 0) pa_nil)) pa_nil))))
      (pss_cons (ps_expr (pe_callS G_refuse_room (hr.mono (by decide)) (by rfl) m_refuse_room F_refuse_room.kp b_refuse_room (fun σ => passAt (takes_of rfl rfl rfl rfl) σ) (pa_cons pe_str (pa_cons (pe_call G_hand_on_ring (hr.mono (by decide)) (by rfl) m_hand_on_ring F_hand_on_ring.kp b_hand_on_ring .nil pass0 (pa_cons (pv 0) pa_nil)) pa_nil))))
      (pss_one (ps_ret pe_bl))))))), ?_⟩
  refine ⟨_, rfl, r, hs, bs, rfl, hR, tb, fun H1 e1 tb1 => ⟨_, rfl, if_bl (fun z => nomatch z) (fun _ => ?_)⟩⟩
  have hR1 := hR.keep (tk_ext e1)
  refine ⟨_, rfl, r, hs, bs, rfl, hR1, ok, fun H2 s2 => ⟨_, _, rfl, fun _ => ?_, .inr rfl, fun _ _ _ z => absurd rfl z⟩⟩
  have hR2 := hR1.keep (TK.same s2)
  refine ⟨_, rfl, r, hs, bs, rfl, hR2, ok, fun H3 s3 => ⟨_, _, rfl, fun _ => ?_, .inr rfl, fun _ _ _ z => absurd rfl z⟩⟩
  have hR3 := hR2.keep (TK.same s3)
  refine ⟨_, rfl, r, hs, bs, rfl, hR3, ok, fun H4 s4 => ⟨_, _, rfl, fun _ => ?_, .inr rfl, fun _ _ _ z => absurd rfl z⟩⟩
  have hR4 := hR3.keep (TK.same s4)
  refine ⟨_, rfl, r, hs, bs, rfl, hR4, ok, fun v H5 fw s5 => ?_⟩
  have ss := s2.trans (s3.trans (s4.trans s5))
  rcases fw with ⟨rfl, no⟩ | ⟨i, x, ex, rfl, hw, low⟩
  · exact ⟨_, _, rfl, fun _ => q1 _ (fun k hk => no k (List.mem_range.mpr hk)) (e1.trans (ext_same ss)) (tb1.same ss), .inr rfl, fun _ _ _ z => absurd rfl z⟩
  · have il := (List.getElem?_eq_some_iff.mp ex).1
    rw [List.length_range] at il
    rw [List.getElem?_range il] at ex
    obtain rfl : i = x := Option.some.inj ex
    refine ⟨_, _, rfl, (fun z => nomatch z), .inl ⟨i, rfl⟩, fun d t H6 _ hd ht s6 => ?_⟩
    have s7 := ss.trans s6
    exact q2 d t i H6 il hw (fun j hj => low j j hj (List.getElem?_range (by omega))) hd ht (e1.trans (ext_same s7)) (tb1.same s7)
end
/-! ### all rings at once -/
inductive Via (st : Nat → List Nat) (k : Nat) : Nat → Nat → Prop
  | one {i j : Nat} : j ∈ st i → Via st k i j
  | thru {i m j : Nat} : Via st k i m → m < k → Via st k m j → Via st k i j
theorem Via.up {st : Nat → List Nat} {k i j : Nat} (h : Via st k i j) : Via st (k + 1) i j := by
  induction h with
  | one a => exact .one a
  | thru _ l _ a b => exact .thru a (by omega) b
theorem Via.succ {st : Nat → List Nat} {k i j : Nat} : Via st (k + 1) i j ↔ Via st k i j ∨ (Via st k i k ∧ Via st k k j) := by
  constructor
  · intro h
    induction h with
    | one a => exact .inl (.one a)
    | @thru i m j _ l _ a b =>
      by_cases e : m = k
      · subst e
        exact .inr ⟨a.elim id (·.1), b.elim id (·.2)⟩
      · have l : m < k := by omega
        rcases a with a | ⟨a1, a2⟩
        · rcases b with b | ⟨b1, b2⟩
          · exact .inl (.thru a l b)
          · exact .inr ⟨.thru a l b1, b2⟩
        · rcases b with b | ⟨b1, b2⟩
          · exact .inr ⟨a1, .thru a2 l b⟩
          · exact .inr ⟨a1, b2⟩
  · rintro (h | ⟨a, b⟩)
    · exact h.up
    · exact .thru a.up (Nat.lt_succ_self _) b.up
theorem OnW.trans {st : Nat → List Nat} {a b c : Nat} (h : OnW st a b) (g : OnW st b c) : OnW st a c := by
  induction g with
  | one m => exact .more h m
  | more _ m ih => exact .more ih m
theorem via_on {st : Nat → List Nat} {n i j : Nat} (hi : i < n) (hs : ∀ i, i < n → ∀ y ∈ st i, y < n) : OnW st i j ↔ Via st n i j := by
  constructor
  · intro h
    induction h with
    | one m => exact .one m
    | more w m ih => exact .thru ih (w.lt hi hs) (.one m)
  · intro h
    clear hi
    induction h with
    | one m => exact .one m
    | thru _ _ _ a b => exact a.trans b
def Wr (st : Nat → List Nat) : Nat → Nat → Nat → Bool
  | 0 => fun x y => decide (y ∈ st x)
  | k + 1 => fun x y => Wr st k x y || (Wr st k x k && Wr st k k y)
theorem wr_via {st : Nat → List Nat} : ∀ (k x y : Nat), Wr st k x y = true ↔ Via st k x y
  | 0, x, y => by
    show decide (y ∈ st x) = true ↔ _
    rw [decide_eq_true_eq]
    exact ⟨fun h => .one h, fun h => by
      cases h with
      | one a => exact a
      | thru _ l _ => exact absurd l (Nat.not_lt_zero _)⟩
  | k + 1, x, y => by
    show (Wr st k x y || (Wr st k x k && Wr st k k y)) = true ↔ _
    rw [Bool.or_eq_true, Bool.and_eq_true, wr_via k, wr_via k, wr_via k, Via.succ]
theorem wr_same (st : Nat → List Nat) (k y : Nat) : Wr st (k + 1) k y = Wr st k k y := by
  show (Wr st k k y || (Wr st k k k && Wr st k k y)) = _
  cases Wr st k k y <;> cases Wr st k k k <;> rfl
theorem range_set {α : Type} (n : Nat) (f : Nat → α) (i : Nat) (v : α) : ((List.range n).map f).set i v = (List.range n).map fun x => if x = i then v else f x := by
  refine List.ext_getElem? fun k => ?_
  rw [List.getElem?_set, List.getElem?_map, List.getElem?_map, List.length_map, List.length_range]
  by_cases l : k < n
  · rw [List.getElem?_range l]
    by_cases h : i = k
    · subst h
      rw [if_pos rfl, if_pos l]
      show _ = some (if i = i then v else f i)
      rw [if_pos rfl]
    · rw [if_neg h]
      show _ = some (if k = i then v else f k)
      rw [if_neg (Ne.symm h)]
      rfl
  · rw [List.getElem?_eq_none (by rw [List.length_range]; omega)]
    by_cases h : i = k
    · subst h
      rw [if_pos rfl, if_neg l]
      rfl
    · rw [if_neg h]
      rfl
theorem row_at {α : Type} {n j : Nat} (f : Nat → α) (h : j < n) : ((List.range n).map f)[j]? = some (f j) := by
  rw [List.getElem?_map, List.getElem?_range h]; rfl
/-- the table of which hand leads to which, in rows -/
structure Mx (H0 H : Hp) (D : Addr) (n : Nat) (A : Nat → Nat → Bool) : Prop where
  ex : ∃ adr : Nat → Addr, H D = some (.lst ((List.range n).map fun i => V.ref (adr i))) ∧ (∀ i, i < n → H (adr i) = some (.lst ((List.range n).map fun j => V.bl (A i j))) ∧ H0 (adr i) = none ∧ adr i ≠ D) ∧ (∀ i j, i < n → j < n → adr i = adr j → i = j) ∧ Same H0 H ∧ H0 D = none
theorem Mx.put {H0 H : Hp} {D : Addr} {n i j : Nat} {A : Nat → Nat → Bool} {b : Bool} (m : Mx H0 H D n A) (hi : i < n) : ∃ a : Addr, ((∃ xs, H D = some (.lst xs) ∧ xs[i]? = some (V.ref a)) ∧ H a = some (.lst ((List.range n).map fun j => V.bl (A i j)))) ∧
    Mx H0 (upd H a (.lst (((List.range n).map fun j => V.bl (A i j)).set j (.bl b)))) D n (fun x y => if x = i ∧ y = j then b else A x y) := by
  obtain ⟨adr, hD, hr, inj, s, nD⟩ := m.ex
  obtain ⟨r1, r2, r3⟩ := hr i hi
  refine ⟨adr i, ⟨⟨_, hD, row_at _ hi⟩, r1⟩, adr, by rw [upd_ne (Ne.symm r3)]; exact hD, fun x hx => ?_, inj, Same.own s r2, nD⟩
  obtain ⟨q1, q2, q3⟩ := hr x hx
  refine ⟨?_, q2, q3⟩
  by_cases e : x = i
  · subst e
    rw [upd_same, range_set]
    congr 2
    refine List.map_congr_left fun y _ => ?_
    by_cases z : y = j
    · rw [if_pos z, if_pos ⟨rfl, z⟩]
    · rw [if_neg z, if_neg fun c => z c.2]
  · rw [upd_ne (fun c => e (inj _ _ hx hi c)), q1]
    congr 2
    exact List.map_congr_left fun y _ => by rw [if_neg fun c => e c.1]
theorem Mx.row {H0 H H3 : Hp} {D E : Addr} {n i : Nat} {A : Nat → Nat → Bool} {r : Nat → Bool} {xs : List V} (m : Mx H0 H D n A) (hi : i < n) (s3 : Same H H3) (nE : H E = none) (hE : H3 E = some (.lst ((List.range n).map fun j => V.bl (r j)))) (hx : H3 D = some (.lst xs)) :
    Mx H0 (upd H3 D (.lst (xs.set i (.ref E)))) D n (fun x y => if x = i then r y else A x y) := by
  obtain ⟨adr, hD, hr, inj, s, nD⟩ := m.ex
  rw [s3 _ _ hD] at hx
  cases hx
  have ED : E ≠ D := fun z => by rw [z, hD] at nE; cases nE
  have Ea : ∀ x, x < n → adr x ≠ E := fun x hx z => by rw [← z, (hr x hx).1] at nE; cases nE
  refine ⟨fun x => if x = i then E else adr x, ?_, fun x hx => ?_, fun x y hx hy e => ?_, Same.own (s.trans s3) nD, nD⟩
  · rw [upd_same, range_set]
    congr 2
    refine List.map_congr_left fun x _ => ?_
    show (if x = i then V.ref E else V.ref (adr x)) = V.ref (if x = i then E else adr x)
    by_cases e : x = i
    · rw [if_pos e, if_pos e]
    · rw [if_neg e, if_neg e]
  · dsimp only
    by_cases e : x = i
    · rw [if_pos e]
      refine ⟨?_, same_none s nE, ED⟩
      rw [upd_ne ED, hE]
      congr 2
      exact List.map_congr_left fun y _ => by rw [if_pos e]
    · obtain ⟨q1, q2, q3⟩ := hr x hx
      rw [if_neg e]
      refine ⟨?_, q2, q3⟩
      rw [upd_ne q3, s3 _ _ q1]
      congr 2
      exact List.map_congr_left fun y _ => by rw [if_neg e]
  · by_cases e1 : x = i
    · by_cases e2 : y = i
      · omega
      · simp only [if_pos e1, if_neg e2] at e
        exact absurd e.symm (Ea y hy)
    · by_cases e2 : y = i
      · simp only [if_neg e1, if_pos e2] at e
        exact absurd e (Ea x hx)
      · simp only [if_neg e1, if_neg e2] at e
        exact inj x y hx hy e
theorem Mx.get {H0 H : Hp} {D : Addr} {n i : Nat} {A : Nat → Nat → Bool} (m : Mx H0 H D n A) (hi : i < n) : ∃ (a : Addr) (xs : List V), H D = some (.lst xs) ∧ xs[i]? = some (V.ref a) ∧ H a = some (.lst ((List.range n).map fun j => V.bl (A i j))) := by
  obtain ⟨adr, hD, hr, _⟩ := m.ex
  exact ⟨adr i, _, hD, row_at _ hi, (hr i hi).1⟩
theorem Mx.same0 {H0 H : Hp} {D : Addr} {n : Nat} {A : Nat → Nat → Bool} (m : Mx H0 H D n A) : Same H0 H := by
  obtain ⟨_, _, _, _, s, _⟩ := m.ex
  exact s
theorem Mx.same {H0 H H' : Hp} {D : Addr} {n : Nat} {A : Nat → Nat → Bool} (m : Mx H0 H D n A) (s : Same H H') : Mx H0 H' D n A := by
  obtain ⟨adr, hD, hr, inj, s0, nD⟩ := m.ex
  exact ⟨adr, s _ _ hD, fun i hi => ⟨s _ _ (hr i hi).1, (hr i hi).2⟩, inj, s0.trans s, nD⟩
theorem ixN_at {n k : Nat} (h : k < n) : ixN n ((k : Nat) : Int) = some k := by
  unfold ixN
  rw [if_pos (by omega), if_pos (by omega)]
  rfl
theorem th_shaped {l : List Int} (h : ∀ x ∈ l, Small x) : SeqAt.shaped (.tuple (l.map PyData.int)) = true ∧ PyData.canLay0 (.tuple (l.map PyData.int)) = true := by
  have t1 : NeatAll (l.map PyData.int) 0 (l.length * 42) := NeatAll.map fun x hx => Neat.int (by have := h x hx; unfold Small at this; omega)
  have z := Neat.tup t1
  refine ⟨?_, z.lay⟩
  unfold SeqAt.shaped
  rw [z.lay, Bool.true_and]
  have := z.dep
  exact decide_eq_true (by omega)
theorem eqv_nilT (l : List PyData) : PyData.eqv (.tuple l) (.tuple []) = decide (l = []) := by
  cases l with
  | nil => rfl
  | cons a l => rfl
section
variable {P : Program} {w : World} {K : PySem.W.Frag} {mg : Str → Option Value} {base : Heap}
def sp_law_round (K : PySem.W.Frag) : Sp := fun vs H Q _ => ∃ (r : Addr) (hs : List HR) (bs : List BR), vs = [.ref r] ∧ RoomAt H r hs bs ∧ RoomNr hs bs ∧
  ∀ (p : Addr) (H' : Hp), H p = none → H' p = some (.lst (((List.range hs.length).filter fun k => Wr (bareSt bs) hs.length k k).map nV)) → Same H H' → Q (.ref p) H'
theorem ok_law_round {f : Addr} {fd : FuncData} (F : Fun K "_law_round" "_law_round" s_law_round f fd) (T : Top w K mg) : FnOk P w K mg base CX0 1 f fd ["_law_room_here"] (sp_law_round K) := by
  refine F.ok sc_law_round (fun vs H Q E h => ?_) (fun cdv A outer s H vs Q E hr h => ?_)
  · obtain ⟨r, hs, bs, rfl, _⟩ := h
    rfl
  obtain ⟨r, hs, bs, rfl, hR, ok, q⟩ := h
  obtain ⟨ha, ba, hv, bv, er, eh, eb, alh, alb⟩ := id hR.ex
  have lhv := alh.length
  have lbv := alb.length
  have lh := ok.hands
  have lb := ok.many
  refine ⟨_, (pss_cons (ps_set (i := 1) sc_law_round.nd rfl (Or.inr rfl) (pe_callB (call_len_seqK K rfl) (by rfl) T.m_len (by decide +kernel) (pa_cons (pe_ix (ix_tupK K rfl) (pv 0) pe_int (fun _ _ => rfl)) pa_nil)))
      (pss_cons (ps_set (i := 2) sc_law_round.nd rfl (Or.inr rfl) (pe_lc (own := [("_law_k", 3)]) (g := gName 3) (tt := tYes) (by rfl) sc_law_round.nd (pi_range1 (by rfl) T.m_range (pa_cons (pv 1) pa_nil)) (blkOk_by (own := [("_law_k", 3)]) (N := N_law_round) (sc := defScope s_law_round) (by decide +kernel)) (fun _ _ _ _ _ => (pg_name (i := 3) sc_law_round.nd rfl (Or.inl rfl))) (fun _ _ _ _ _ => pts_nil) (fun _ _ _ _ _ => (pe_op op_rep (pe_lst (pa_cons pe_bl pa_nil)) (pv 1)))))
      (pss_cons (ps_for PassesOwn.never rfl (pi_tupK K rfl (pe_ix (ix_tupK K rfl) (pv 0) pe_int (fun _ _ => rfl))) (pg_tupK K rfl rfl (pgs_cons (pg_name (i := 4) sc_law_round.nd rfl (Or.inr rfl)) (pgs_cons (pg_name (i := 5) sc_law_round.nd rfl (Or.inl rfl)) (pgs_cons (pg_name (i := 6) sc_law_round.nd rfl (Or.inl rfl)) pgs_nil))))
        (pss_one (ps_if (pt_cmpR (op_eqDK K rfl hr.units) (pv 6) (pe_tup pa_nil) (nomark _)) (pss_one (ps_asg pe_bl (pg_sub (pe_ix (ix_listK K rfl) (pv 2) (pv 4) (fun _ _ => rfl)) (pv 5) set_list))) pss_nil)))
      (pss_cons (ps_for PassesOwn.never rfl (pi_range1 (by rfl) T.m_range (pa_cons (pv 1) pa_nil)) (pg_name (i := 3) sc_law_round.nd rfl (Or.inr rfl))
        (pss_one (ps_for PassesOwn.never rfl (pi_range1 (by rfl) T.m_range (pa_cons (pv 1) pa_nil)) (pg_name (i := 4) sc_law_round.nd rfl (Or.inr rfl))
        (pss_one (ps_if (pt_val (pe_ix (ix_listK K rfl) (pe_ix (ix_listK K rfl) (pv 2) (pv 4) (fun _ _ => rfl)) (pv 3) (fun _ _ => rfl))) (pss_one (ps_asg (pe_lc (own := [("_law_to", 5)]) (g := gName 5) (tt := tYes) (by rfl) sc_law_round.nd (pi_range1 (by rfl) T.m_range (pa_cons (pv 1) pa_nil)) (blkOk_by (own := [("_law_to", 5)]) (N := N_law_round) (sc := defScope s_law_round) (by decide +kernel)) (fun _ _ _ _ _ => (pg_name (i := 5) sc_law_round.nd rfl (Or.inl rfl))) (fun _ _ _ _ _ => pts_nil) (fun _ _ _ _ _ => (pe_or (pe_ix (ix_listK K rfl) (pe_ix (ix_listK K rfl) (pv 2) (pv 4) (fun _ _ => rfl)) (pv 5) (fun _ _ => rfl)) (pe_one (pe_ix (ix_listK K rfl) (pe_ix (ix_listK K rfl) (pv 2) (pv 3) (fun _ _ => rfl)) (pv 5) (fun _ _ => rfl)))))) (pg_sub (pv 2) (pv 4) set_list))) pss_nil)))))
      (pss_one (ps_ret (pe_lc (own := [("_law_k", 3)]) (g := gName 3) (by rfl) sc_law_round.nd (pi_range1 (by rfl) T.m_range (pa_cons (pv 1) pa_nil)) (blkOk_by (own := [("_law_k", 3)]) (N := N_law_round) (sc := defScope s_law_round) (by decide +kernel)) (fun _ _ _ _ _ => (pg_name (i := 3) sc_law_round.nd rfl (Or.inl rfl))) (fun _ _ _ _ _ => pts_one (pt_val (pe_ix (ix_listK K rfl) (pe_ix (ix_listK K rfl) (pv 2) (pv 3) (fun _ _ => rfl)) (pv 3) (fun _ _ => rfl)))) (fun _ _ _ _ _ => (pv 3))))))))), ?_⟩
  refine ⟨_, rfl, r, _, _, _, rfl, rfl, SqT.of er, atI_nat (j := 0) rfl, ha, _, rfl, .inr (SqT.of eh), ?_⟩
  rw [lhv]
  refine ⟨_, rfl, _, rfl, by omega, by omega, fun D nD => lc_range (lo := 0) (n := hs.length) (fun i H5 => ∃ adr : Nat → Addr, H5 D = some (.lst ((List.range i).map fun x => V.ref (adr x))) ∧ (∀ x, x < i → H5 (adr x) = some (.lst ((List.range hs.length).map fun _ => V.bl false)) ∧ H (adr x) = none ∧ adr x ≠ D) ∧ (∀ x y, x < i → y < i → adr x = adr y → x = y) ∧ Same H H5) ⟨fun _ => D, upd_same, (fun x z => absurd z (Nat.not_lt_zero _)), (fun x y z => absurd z (Nat.not_lt_zero _)), same_new nD⟩ ?_ ?_⟩
  · rintro i H5 hi ⟨adr, hD, hr, inj, s5⟩
    refine ⟨rfl, yes_in ⟨(by show 1 ≤ sizeLine; decide), fun p1 np1 => ?_⟩⟩
    have u1 := same_new (o := .lst [V.bl false]) np1
    refine ⟨_, rfl, p1, _, _, rfl, rfl, upd_same, by omega, by omega, ?_, fun p np => ?_⟩
    · show 1 * (((hs.length : Nat) : Int)).toNat ≤ sizeLine
      have := small1000 (n := hs.length) (by omega)
      rw [Int.toNat_natCast]
      omega
    have u2 := u1.trans (same_new (o := .lst (List.replicate (((hs.length : Nat) : Int)).toNat [V.bl false]).flatten) np)
    have hp : ∀ {H7 : Hp}, H7 p = some (.lst (List.replicate (((hs.length : Nat) : Int)).toNat [V.bl false]).flatten) → H7 p = some (.lst ((List.range hs.length).map fun _ => V.bl false)) := fun h => by
      rw [h, Int.toNat_natCast]
      congr 2
      rw [List.map_const', List.length_range]
      simp
    have pD : p ≠ D := fun z => by rw [z, u1 _ _ hD] at np; cases np
    have np5 : H5 p = none := same_none u1 np
    have pa : ∀ x, x < i → adr x ≠ p := fun x hx z => by rw [← z, (hr x hx).1] at np5; cases np5
    have key : ((List.range i).map fun x => V.ref (adr x)) ++ [V.ref p] = (List.range (i + 1)).map fun x => V.ref (if x = i then p else adr x) := by
      rw [List.range_succ, List.map_append]
      have e1 : (List.range i).map (fun x => V.ref (if x = i then p else adr x)) = (List.range i).map fun x => V.ref (adr x) := List.map_congr_left fun x hx => by
        have := List.mem_range.mp hx
        rw [if_neg (by omega)]
      rw [e1]
      show _ = _ ++ [V.ref (if i = i then p else adr i)]
      rw [if_pos rfl]
    refine ⟨_, u2 _ _ hD, by rw [List.length_map, List.length_range]; exact small1000 (by omega), fun x => if x = i then p else adr x, ?_, fun x hx => ?_, fun x y hx hy e => ?_, Same.own (s5.trans u2) nD⟩
    · rw [upd_same]
      exact congrArg (fun l => some (HO.lst l)) key
    · dsimp only
      by_cases e : x = i
      · rw [if_pos e]
        exact ⟨hp (by rw [upd_ne pD, upd_same]), same_none s5 np5, pD⟩
      · rw [if_neg e]
        obtain ⟨q1, q2, q3⟩ := hr x (by omega)
        exact ⟨by rw [upd_ne q3]; exact u2 _ _ q1, q2, q3⟩
    · by_cases e1 : x = i
      · by_cases e2 : y = i
        · omega
        · simp only [if_pos e1, if_neg e2] at e
          exact absurd e.symm (pa y (by omega))
      · by_cases e2 : y = i
        · simp only [if_neg e1, if_pos e2] at e
          exact absurd e (pa x (by omega))
        · simp only [if_neg e1, if_neg e2] at e
          exact inj x y (by omega) (by omega) e
  rintro H2 ⟨adr, hD, hr, inj, s2⟩
  have m0 : Mx H H2 D hs.length (Wr (bareSt (bs.take 0)) 0) := ⟨adr, hD, hr, inj, s2, nD⟩
  clear hD hr inj adr s2
  have s2 := m0.same0
  refine ⟨_, rfl, r, _, _, _, rfl, rfl, SqT.of (s2 _ _ er), atI_nat (j := 1) rfl, ba, rfl, ⟨_, SqT.of (s2 _ _ eb)⟩, for_tup (K := K) (a := ba) (xs := bv) (fun i σ H5 => ∃ x3 x4 x5 x6 : Option V, σ = [some (.ref r), some (nV hs.length), some (.ref D), x3, x4, x5, x6] ∧ Mx H H5 D hs.length (Wr (bareSt (bs.take i)) 0)) ⟨_, _, _, _, rfl, m0⟩ (fun i σ H5 _ ⟨_, _, _, _, _, m⟩ => SqT.of (m.same0 _ _ eb)) ?_ ?_⟩
  · rintro i x σ H5 hx ⟨x3, x4, x5, x6, rfl, m⟩
    have s5 := m.same0
    obtain ⟨b, eb2, t, g, rfl, e4, e5⟩ := alb.getL hx
    have tk : bs.take (i + 1) = bs.take i ++ [b] := by rw [List.take_add_one, eb2]; rfl
    obtain ⟨n1, n2⟩ := ok.ends b (List.mem_of_getElem? eb2)
    obtain ⟨sh1, _⟩ := th_shaped (ok.th b (List.mem_of_getElem? eb2)).2
    refine ⟨t, _, rfl, SqT.of (s5 _ _ e4), rfl, _, _, rfl, _, _, rfl, _, _, rfl, rfl, ?_⟩
    refine ⟨_, rfl, (by show 0 ≤ sizeLine; decide), fun u nu => ?_⟩
    have u1 := same_new (o := .tup ([] : List V)) nu
    have mu := m.same u1
    refine ⟨_, _, .tup (SqT.of (u1 _ _ (s5 _ _ e5))) (dp_ints b.th), .tup (SqT.of upd_same) .nil, sh1, by decide +kernel, _, rfl, ?_⟩
    rw [eqv_nilT]
    have bq : ∀ x, bareSt (bs.take (i + 1)) x = if b.one = x ∧ b.th = [] then bareSt (bs.take i) x ++ [b.to] else bareSt (bs.take i) x := fun x => by rw [tk, bare_snoc]
    refine if_bl (fun c => ?_) (fun c => ?_)
    · have bare : b.th = [] := List.map_eq_nil_iff.mp (of_decide_eq_true c)
      obtain ⟨a, ⟨⟨xs, hD, hxs⟩, hrow⟩, mp⟩ := mu.put (j := b.to) (b := true) n1
      refine ⟨_, rfl, _, rfl, D, _, _, _, rfl, rfl, SqL.of hD, atI_nat hxs, _, rfl, a, _, _, b.to, rfl, rfl, hrow, ?_, _, _, _, _, rfl, ?_⟩
      · rw [List.length_map, List.length_range]
        exact ixN_at n2
      · rw [show Wr (bareSt (bs.take (i + 1))) 0 = fun x y => if x = b.one ∧ y = b.to then true else Wr (bareSt (bs.take i)) 0 x y from ?_]
        · exact mp
        · funext x y
          show decide (y ∈ bareSt (bs.take (i + 1)) x) = if x = b.one ∧ y = b.to then true else decide (y ∈ bareSt (bs.take i) x)
          rw [bq]
          by_cases e1 : b.one = x
          · rw [if_pos ⟨e1, bare⟩]
            by_cases e2 : y = b.to
            · rw [if_pos ⟨e1.symm, e2⟩]
              exact decide_eq_true (List.mem_append.mpr (.inr (by rw [e2]; exact List.mem_singleton.mpr rfl)))
            · rw [if_neg fun z => e2 z.2]
              refine decide_eq_decide.mpr ?_
              rw [List.mem_append, List.mem_singleton]
              exact ⟨fun z => z.resolve_right e2, .inl⟩
          · rw [if_neg fun z => e1 z.1, if_neg fun z => e1 z.1.symm]
    · have bare : b.th ≠ [] := fun z => by rw [z] at c; exact absurd c (by decide)
      refine ⟨_, _, _, _, rfl, ?_⟩
      rw [show Wr (bareSt (bs.take (i + 1))) 0 = Wr (bareSt (bs.take i)) 0 from ?_]
      · exact mu
      · funext x y
        show decide (y ∈ bareSt (bs.take (i + 1)) x) = decide (y ∈ bareSt (bs.take i) x)
        rw [bq, if_neg fun z => bare z.2]
  rintro σ H3 ⟨x3, x4, x5, x6, rfl, m3⟩
  rw [lbv, List.take_length] at m3
  refine ⟨_, rfl, _, rfl, by omega, by omega, for_range (lo := 0) (n := hs.length) (fun k σ H5 => ∃ x3 x4 x5 x6 : Option V, σ = [some (.ref r), some (nV hs.length), some (.ref D), x3, x4, x5, x6] ∧ Mx H H5 D hs.length (Wr (bareSt bs) k)) ⟨_, _, _, _, rfl, m3⟩ ?_ ?_⟩
  · rintro k σ H5 hk ⟨x3, x4, x5, x6, rfl, m5⟩
    rw [Int.zero_add]
    refine ⟨_, rfl, _, rfl, by omega, by omega, for_range (lo := 0) (n := hs.length) (fun i σ H6 => ∃ x4 x5 x6 : Option V, σ = [some (.ref r), some (nV hs.length), some (.ref D), some (nV k), x4, x5, x6] ∧ Mx H H6 D hs.length (fun x y => if x < i then Wr (bareSt bs) (k + 1) x y else Wr (bareSt bs) k x y)) ⟨_, _, _, rfl, ?_⟩ ?_ ?_⟩
    · exact m5
    · rintro i σ H6 hi ⟨x4, x5, x6, rfl, m6⟩
      rw [Int.zero_add]
      obtain ⟨a, xs, hD, hxs, hrow⟩ := m6.get hi
      obtain ⟨ak, xs2, hD2, hxs2, hrowk⟩ := m6.get hk
      rw [hD] at hD2
      cases hD2
      have cur : ∀ y, (fun x y => if x < i then Wr (bareSt bs) (k + 1) x y else Wr (bareSt bs) k x y) i y = Wr (bareSt bs) k i y := fun y => if_neg (Nat.lt_irrefl _)
      have curk : ∀ y, (fun x y => if x < i then Wr (bareSt bs) (k + 1) x y else Wr (bareSt bs) k x y) k y = Wr (bareSt bs) k k y := fun y => by
        show (if k < i then Wr (bareSt bs) (k + 1) k y else Wr (bareSt bs) k k y) = _
        rw [wr_same, ite_self]
      refine ⟨_, rfl, _, rfl, D, _, _, _, rfl, rfl, SqL.of hD, atI_nat hxs, _, rfl, a, _, _, _, rfl, rfl, SqL.of hrow, atI_nat (row_at _ hk), _, rfl, if_bl (fun c => ?_) (fun c => ?_)⟩
      · have c := (cur k).symm.trans c
        refine ⟨_, rfl, _, rfl, by omega, by omega, fun E nE => lc_range (lo := 0) (n := hs.length) (fun j H7 => H7 E = some (.lst ((List.range j).map fun y => V.bl (Wr (bareSt bs) k i y || Wr (bareSt bs) k k y))) ∧ Same H6 H7) ⟨upd_same, same_new nE⟩ ?_ ?_⟩
        · rintro j H7 hj ⟨hE, s7⟩
          rw [Int.zero_add]
          have fin : ∀ b : Bool, b = (Wr (bareSt bs) k i j || Wr (bareSt bs) k k j) → ∃ acc, H7 E = some (.lst acc) ∧ acc.length < sizeLine ∧ (upd H7 E (.lst (acc ++ [V.bl b]))) E = some (.lst ((List.range (j + 1)).map fun y => V.bl (Wr (bareSt bs) k i y || Wr (bareSt bs) k k y))) ∧ Same H6 (upd H7 E (.lst (acc ++ [V.bl b]))) := fun b e => by
            refine ⟨_, hE, by rw [List.length_map, List.length_range]; exact small1000 (by omega), ?_, Same.own s7 nE⟩
            rw [upd_same, List.range_succ, List.map_append, e]
            rfl
          refine ⟨rfl, yes_in ⟨_, rfl, _, rfl, D, _, _, _, rfl, rfl, SqL.of (s7 _ _ hD), atI_nat hxs, _, rfl, a, _, _, _, rfl, rfl, SqL.of (s7 _ _ hrow), atI_nat (row_at _ hj), _, rfl, if_bl (fun z => ?_) (fun z => ?_)⟩⟩
          · have z := (cur j).symm.trans z
            exact fin true (by rw [z]; rfl)
          · have z := (cur j).symm.trans z
            refine ⟨_, rfl, _, rfl, D, _, _, _, rfl, rfl, SqL.of (s7 _ _ hD), atI_nat hxs2, _, rfl, ak, _, _, _, rfl, rfl, SqL.of (s7 _ _ hrowk), atI_nat (row_at _ hj), ?_⟩
            exact fin _ ((curk j).trans (by rw [z]; rfl))
        · rintro H7 ⟨hE, s7⟩
          refine ⟨_, rfl, _, rfl, D, xs, _, i, rfl, rfl, s7 _ _ hD, ?_, _, _, _, rfl, ?_⟩
          · exact ixN_at (List.getElem?_eq_some_iff.mp hxs).1
          · rw [show (fun x y => if x < i + 1 then Wr (bareSt bs) (k + 1) x y else Wr (bareSt bs) k x y) = fun x y => if x = i then (Wr (bareSt bs) k i y || Wr (bareSt bs) k k y) else (if x < i then Wr (bareSt bs) (k + 1) x y else Wr (bareSt bs) k x y) from ?_]
            · exact m6.row hi s7 nE hE (s7 _ _ hD)
            · funext x y
              by_cases e : x = i
              · subst e
                rw [if_pos rfl, if_pos (Nat.lt_succ_self _)]
                show (Wr (bareSt bs) k x y || (Wr (bareSt bs) k x k && Wr (bareSt bs) k k y)) = _
                rw [c, Bool.true_and]
              · rw [if_neg e]
                by_cases l : x < i
                · rw [if_pos l, if_pos (by omega)]
                · rw [if_neg l, if_neg (by omega)]
      · have c := (cur k).symm.trans c
        refine ⟨_, _, _, rfl, ?_⟩
        rw [show (fun x y => if x < i + 1 then Wr (bareSt bs) (k + 1) x y else Wr (bareSt bs) k x y) = fun x y => if x < i then Wr (bareSt bs) (k + 1) x y else Wr (bareSt bs) k x y from ?_]
        · exact m6
        · funext x y
          by_cases e : x = i
          · subst e
            rw [if_pos (Nat.lt_succ_self _), if_neg (Nat.lt_irrefl _)]
            show (Wr (bareSt bs) k x y || (Wr (bareSt bs) k x k && Wr (bareSt bs) k k y)) = _
            rw [c, Bool.false_and, Bool.or_false]
          · by_cases l : x < i
            · rw [if_pos l, if_pos (by omega)]
            · rw [if_neg l, if_neg (by omega)]
    · rintro σ H6 ⟨x4, x5, x6, rfl, m6⟩
      refine ⟨_, _, _, _, rfl, ?_⟩
      obtain ⟨adr, hD, hr, inj, s0, nD0⟩ := m6.ex
      refine ⟨adr, hD, fun x hx => ⟨?_, (hr x hx).2⟩, inj, s0, nD0⟩
      rw [(hr x hx).1]
      congr 2
      exact List.map_congr_left fun y _ => by rw [if_pos hx]
  rintro σ H5 ⟨x3, x4, x5, x6, rfl, m5⟩
  refine ⟨_, rfl, _, rfl, by omega, by omega, fun E nE => lc_range (lo := 0) (n := hs.length) (fun i H6 => H6 E = some (.lst (((List.range i).filter fun k => Wr (bareSt bs) hs.length k k).map nV)) ∧ Same H5 H6) ⟨upd_same, same_new nE⟩ ?_ ?_⟩
  · rintro i H6 hi ⟨hE, s6⟩
    rw [Int.zero_add]
    obtain ⟨a, xs, hD, hxs, hrow⟩ := m5.get hi
    have few := filt_len (p := fun k => Wr (bareSt bs) hs.length k k) i
    refine ⟨rfl, _, rfl, _, rfl, D, _, _, _, rfl, rfl, SqL.of (s6 _ _ hD), atI_nat hxs, _, rfl, a, _, _, _, rfl, rfl, SqL.of (s6 _ _ hrow), atI_nat (row_at _ hi), _, rfl, if_bl (fun c => ?_) (fun c => ?_)⟩
    · refine ⟨_, rfl, _, hE, by rw [List.length_map]; exact small1000 (by omega), ?_, Same.own s6 nE⟩
      rw [upd_same, filt_succ, if_pos c, List.map_append]
      rfl
    · refine ⟨?_, s6⟩
      rw [filt_succ, if_neg (by rw [c]; exact Bool.false_ne_true), List.append_nil]
      exact hE
  · rintro H6 ⟨hE, s6⟩
    exact q E _ (same_none m5.same0 nE) hE (m5.same0.trans s6)
end
theorem RoomNr.neat {hs : List HR} {bs : List BR} (ok : RoomNr hs bs) : Neat (roomD hs bs) 4 20000 := by
  have h1 : NeatAll (hs.map handD) 2 (hs.length * 201) := NeatAll.map fun h hh => (ok.good h hh).neat
  have h2 : NeatAll (bs.map beltD) 2 (bs.length * 501) := NeatAll.map fun b hb => by
    have e := ok.ends b hb
    have t := ok.th b hb
    have hl := ok.hands
    have t1 : NeatAll (b.th.map PyData.int) 0 (b.th.length * 42) := NeatAll.map fun x hx => Neat.int (by have := t.2 x hx; unfold Small at this; omega)
    refine (Neat.tup (.cons (Neat.int (by omega)) (.cons (Neat.int (by omega)) (.cons (Neat.tup t1) .nil)))).mono (Nat.le_refl _) ?_
    have := t.1
    omega
  refine (Neat.tup (.cons (Neat.tup h1) (.cons (Neat.tup h2) .nil))).mono (by decide) ?_
  have := ok.hands
  have := ok.many
  omega
theorem Tb2.lst {PT : Addr × Addr} {H : Hp} {l : Addr} {xs ys : List V} (t : Tb2 PT H) (h : H l = some (.lst xs)) : Tb2 PT (upd H l (.lst ys)) := by
  obtain ⟨⟨p1, e1, t1⟩, p2, e2, t2⟩ := t
  exact ⟨⟨p1, by rw [upd_ne (fun z => by rw [z, h] at e1; cases e1)]; exact e1, t1⟩, p2, by rw [upd_ne (fun z => by rw [z, h] at e2; cases e2)]; exact e2, t2⟩
theorem Flow.ext {H H' : Hp} {f c : Addr} (h : Flow H f c) (e : LamX.ExtN H H') : Flow H' f c := by
  obtain ⟨ns, i, a, q, r, e1, e2, z⟩ := h
  exact ⟨ns, i, a, q, r, e _ _ e1 (fun _ y => nomatch y), e _ _ e2 (fun _ y => nomatch y), z⟩
/-- a belt with its things, or with none -/
def Emp1 (b c : BR) : Prop := c.one = b.one ∧ c.to = b.to ∧ (c.th = b.th ∨ c.th = [])
theorem emp_nr {hs : List HR} {bs cs : List BR} (o : RoomNr hs bs) (e : All2 Emp1 bs cs) : RoomNr hs cs := by
  have back : ∀ c ∈ cs, ∃ b ∈ bs, Emp1 b c := by
    clear o
    induction e with
    | nil => exact fun _ z => nomatch z
    | cons h _ ih =>
      intro c hc
      rcases List.mem_cons.mp hc with rfl | hc
      · exact ⟨_, List.mem_cons_self .., h⟩
      · obtain ⟨b, hb, z⟩ := ih c hc
        exact ⟨b, List.mem_cons_of_mem _ hb, z⟩
  have tos : cs.map BR.to = bs.map BR.to := by
    clear back o
    induction e with
    | nil => rfl
    | cons h _ ih => rw [List.map_cons, List.map_cons, ih, h.2.1]
  refine ⟨o.hands, o.good, fun c hc => ?_, fun c hc => ?_, fun c hc => ?_, fun k h e => by rw [tos]; exact o.count k h e, by rw [← e.length]; exact o.many⟩
  · obtain ⟨b, hb, e1, e2, _⟩ := back c hc
    rw [e1, e2]
    exact o.ends b hb
  · obtain ⟨b, hb, e1, _⟩ := back c hc
    rw [e1]
    exact o.out b hb
  · obtain ⟨b, hb, _, _, z | z⟩ := back c hc
    · rw [z]; exact o.th b hb
    · rw [z]; exact ⟨Nat.zero_le _, fun _ y => nomatch y⟩
theorem emp_set {bs cs : List BR} (e : All2 Emp1 bs cs) : ∀ {i : Nat} {b : BR}, bs[i]? = some b → All2 Emp1 bs (cs.set i b) := by
  induction e with
  | nil => intro i b h; cases h
  | cons h t ih =>
    intro i b hb
    cases i with
    | zero =>
      obtain rfl := Option.some.inj hb
      exact .cons ⟨rfl, rfl, .inl rfl⟩ t
    | succ i => exact .cons h (ih hb)
theorem All2.set {α β : Type} {R : α → β → Prop} {as : List α} {bs : List β} (e : All2 R as bs) : ∀ {i : Nat} {a : α} {b : β}, R a b → All2 R (as.set i a) (bs.set i b) := by
  induction e with
  | nil => intro i a b _; exact .nil
  | cons h t ih =>
    intro i a b hb
    cases i with
    | zero => exact .cons hb t
    | succ i => exact .cons h (ih hb)
/-- the ring's hand -/
def Ring1 (hs : List HR) (bs : List BR) (k : Nat) : Prop := k < hs.length ∧ OnW (bareSt bs) k k ∧ ∀ j, j < k → ¬ OnW (bareSt bs) j j
theorem ring_iff {hs : List HR} {bs : List BR} (ok : RoomNr hs bs) {k : Nat} (hk : k < hs.length) : Wr (bareSt bs) hs.length k k = true ↔ OnW (bareSt bs) k k := by
  rw [wr_via]
  refine (via_on hk fun i _ y hy => ?_).symm
  obtain ⟨b, hb, _, _, e⟩ := bare_mem hy
  rw [← e]
  exact (ok.ends b hb).2
theorem rings_nil {hs : List HR} {bs : List BR} (ok : RoomNr hs bs) (h : (List.range hs.length).filter (fun k => Wr (bareSt bs) hs.length k k) = []) : ∀ k, k < hs.length → ¬ OnW (bareSt bs) k k := fun k hk on => by
  have := List.filter_eq_nil_iff.mp h k (List.mem_range.mpr hk)
  exact this ((ring_iff ok hk).mpr on)
theorem rings_one {hs : List HR} {bs : List BR} {k : Nat} {l : List Nat} (ok : RoomNr hs bs) (h : (List.range hs.length).filter (fun k => Wr (bareSt bs) hs.length k k) = k :: l) : Ring1 hs bs k := by
  have m : k ∈ (List.range hs.length).filter (fun k => Wr (bareSt bs) hs.length k k) := by rw [h]; exact List.mem_cons_self ..
  obtain ⟨m1, m2⟩ := List.mem_filter.mp m
  have hk := List.mem_range.mp m1
  refine ⟨hk, (ring_iff ok hk).mp m2, fun j hj on => ?_⟩
  have hjn : j < hs.length := by omega
  have mj : j ∈ (List.range hs.length).filter (fun k => Wr (bareSt bs) hs.length k k) := List.mem_filter.mpr ⟨List.mem_range.mpr hjn, (ring_iff ok hjn).mpr on⟩
  have pw : ((List.range hs.length).filter (fun k => Wr (bareSt bs) hs.length k k)).Pairwise (· < ·) := List.Pairwise.filter _ List.pairwise_lt_range
  rw [h] at mj pw
  rcases List.mem_cons.mp mj with e | e
  · omega
  · have := (List.pairwise_cons.mp pw).1 j e
    omega
theorem ring_same {hs : List HR} {bs : List BR} {j k : Nat} (a : Ring1 hs bs j) (b : Ring1 hs bs k) : j = k := by
  refine Nat.le_antisymm (Nat.le_of_not_lt fun l => a.2.2 _ l b.2.1) (Nat.le_of_not_lt fun l => b.2.2 _ l a.2.1)
abbrev ringD (k : Nat) : PyData := .tuple [.str "ring", .tuple [.int ((k : Nat) : Int)]]
theorem ring_neat {k : Nat} (h : k < 1000) : Neat (ringD k) 2 200 := by
  have z := Neat.tup (.cons (Neat.str (x := "ring") (n := 10) (dp := 1) (by decide +kernel) (by decide +kernel)) (.cons (Neat.tup (.cons (Neat.int (i := ((k : Nat) : Int)) (dp := 0) (by omega)) .nil)) .nil))
  exact z.mono (Nat.le_refl _) (by decide)
theorem ring_dp {K : PySem.W.Frag} {H : Hp} {p t : Addr} {k : Nat} (hp : H p = some (.tup [.str "ring", .ref t])) (ht : H t = some (.tup [nV k])) : Dp K H (.ref p) (ringD k) := .tup (SqT.of hp) (.cons (.str _) (.cons (.tup (SqT.of ht) (.cons (.int _) .nil)) .nil))
abbrev letD : PyData := .str "let by"
theorem let_neat : Neat letD 0 10 := Neat.str (by decide +kernel) (by decide +kernel)
theorem nats_neat : ∀ l : List Nat, (∀ x ∈ l, x < 1000) → ∃ n, NeatAll (l.map fun n => PyData.int ((n : Nat) : Int)) 0 n
  | [], _ => ⟨_, .nil⟩
  | x :: l, h => by
    obtain ⟨n, e⟩ := nats_neat l fun y hy => h y (List.mem_cons_of_mem _ hy)
    have := h x (List.mem_cons_self ..)
    exact ⟨_, .cons (Neat.int (by omega)) e⟩
theorem nats_shaped (l : List Nat) (h : ∀ x ∈ l, x < 1000) : SeqAt.shaped (.list (l.map fun n => PyData.int ((n : Nat) : Int))) = true := by
  obtain ⟨n, e⟩ := nats_neat l h
  have z := Neat.lst e
  unfold SeqAt.shaped
  rw [z.lay, Bool.true_and]
  have := z.dep
  exact decide_eq_true (by omega)
theorem filt_lt {n : Nat} {p : Nat → Bool} (h : n ≤ 999) : ∀ x ∈ (List.range n).filter p, x < 1000 := fun x hx => by
  have := List.mem_range.mp (List.mem_filter.mp hx).1
  omega
theorem eqv_nilL (l : List PyData) : PyData.eqv (.list l) (.list []) = decide (l = []) := by
  cases l with
  | nil => rfl
  | cons a l => rfl
theorem belt_shaped {b : BR} (h : b.one < 1000 ∧ b.to < 1000) (t : ∀ x ∈ b.th, Small x) : SeqAt.shaped (beltD b) = true := by
  have t1 : NeatAll (b.th.map PyData.int) 0 (b.th.length * 42) := NeatAll.map fun x hx => Neat.int (by have := t x hx; unfold Small at this; omega)
  have z := Neat.tup (.cons (Neat.int (i := ((b.one : Nat) : Int)) (by omega)) (.cons (Neat.int (i := ((b.to : Nat) : Int)) (by omega)) (.cons (Neat.tup t1) .nil)))
  unfold SeqAt.shaped
  rw [z.lay, Bool.true_and]
  have d : (beltD b).depth ≤ 2 := z.dep
  exact decide_eq_true (by omega)
theorem BeltAt.dp {K : PySem.W.Frag} {H : Hp} {v : V} {b : BR} (a : BeltAt H v b) : Dp K H v (beltD b) := by
  cases belts_dp (K := K) (All2.cons a .nil) with
  | cons h _ => exact h
section
variable {P : Program} {w : World} {K : PySem.W.Frag} {mg : Str → Option Value} {base : Heap}
def sp_law_emptied (K : PySem.W.Frag) : Sp := fun vs H Q _ => ∃ (f c r : Addr) (hs : List HR) (bs : List BR), vs = [.ref f, .ref r] ∧ Flow H f c ∧ RoomAt H r hs bs ∧ RoomNr hs bs ∧
  ∀ (r' : Addr) (cs : List BR) (H' : Hp), RoomAt H' r' hs cs → All2 Emp1 bs cs → Flow H' f c → But f H H' → Q (.ref r') H'
theorem ok_law_emptied {f : Addr} {fd : FuncData} (F : Fun K "_law_emptied" "_law_emptied" s_law_emptied f fd) (T : Top w K mg) : FnOk P w K mg base CX0 2 f fd ["_law_flow_here", "_law_room_here"] (sp_law_emptied K) := by
  obtain ⟨f_law_pick, fd_law_pick, F_law_pick, b_law_pick, m_law_pick⟩ := T.d_law_pick
  have G_law_pick := ok_law_pick (P := P) (w := w) (base := base) F_law_pick T
  refine F.ok sc_law_emptied (fun vs H Q E h => ?_) (fun cdv A outer s H vs Q E hr h => ?_)
  · obtain ⟨f, c, r, hs, bs, rfl, _⟩ := h
    rfl
  obtain ⟨f, c, r, hs, bs, rfl, hF, hR, ok, q⟩ := h
  obtain ⟨ha, ba, hv, bv, er, eh, eb, alh, alb⟩ := id hR.ex
  have lbv := alb.length
  have lb := ok.many
  refine ⟨_, (pss_cons (ps_set (i := 2) sc_law_emptied.nd rfl (Or.inl rfl) (pe_lst pa_nil))
      (pss_cons (ps_for PassesOwn.never rfl (pi_tupK K rfl (pe_ix (ix_tupK K rfl) (pv 1) pe_int (fun _ _ => rfl))) (pg_tupK K rfl rfl (pgs_cons (pg_name (i := 3) sc_law_emptied.nd rfl (Or.inl rfl)) (pgs_cons (pg_name (i := 4) sc_law_emptied.nd rfl (Or.inl rfl)) (pgs_cons (pg_name (i := 5) sc_law_emptied.nd rfl (Or.inl rfl)) pgs_nil))))
        (pss_one (ps_expr (pe_bmK K rfl PySem.F.plainAttrs_list PySem.F.slot_list_append PySem.F.type_list_append mt_append (pv 2) (pa_cons (pe_tup (pa_cons (pv 3) (pa_cons (pv 4) (pa_cons (pe_ix (ix_listK K rfl) (pe_lst (pa_cons (pv 5) (pa_cons (pe_tup pa_nil) pa_nil))) (pe_callTy call_int1 (by rfl) T.m_int (by decide +kernel) (pa_cons (pe_cmpR op_gt (pe_call G_law_pick (hr.mono (by decide)) (by rfl) m_law_pick F_law_pick.kp b_law_pick .nil pass0 (pa_cons (pv 0) (pa_cons pe_int pa_nil))) pe_int (nomark _)) pa_nil)) (fun _ _ => rfl)) pa_nil)))) pa_nil)))))
      (pss_one (ps_ret (pe_tup (pa_cons (pe_ix (ix_tupK K rfl) (pv 1) pe_int (fun _ _ => rfl)) (pa_cons (pe_callTy (call_tuple_ofK K rfl) (by rfl) T.m_tuple (by decide +kernel) (pa_cons (pv 2) pa_nil)) pa_nil))))))), ?_⟩
  refine ⟨(by show 0 ≤ sizeLine; decide), fun bl nbl => ?_⟩
  have blf := hF.ne nbl
  have blc := hF.nec nbl
  have s1 := same_new (o := .lst ([] : List V)) nbl
  refine ⟨_, rfl, r, _, _, _, rfl, rfl, SqT.of (s1 _ _ er), atI_nat (j := 1) rfl, ba, rfl, ⟨_, SqT.of (s1 _ _ eb)⟩, for_tup (K := K) (a := ba) (xs := bv) (fun i σ H5 => ∃ (cv : List V) (cs : List BR) (x3 x4 x5 : Option V), σ = [some (.ref f), some (.ref r), some (.ref bl), x3, x4, x5] ∧ H5 bl = some (.lst cv) ∧ All2 (BeltAt H5) cv cs ∧ All2 Emp1 (bs.take i) cs ∧ Flow H5 f c ∧ But f H H5) ⟨[], [], _, _, _, rfl, upd_same, .nil, .nil, hF.new nbl, But.of s1⟩ (fun i σ H5 _ ⟨_, _, _, _, _, _, _, _, _, _, b⟩ => SqT.of (TK.but hF b _ _ eb)) ?_ ?_⟩
  · rintro i x σ H5 hx ⟨cv, cs, x3, x4, x5, rfl, hbl, alc, em, F5, B5⟩
    have k5 := TK.but hF B5
    obtain ⟨b, eb2, t, g, rfl, e4, e5⟩ := alb.getL hx
    have il := (List.getElem?_eq_some_iff.mp eb2).1
    have tk : bs.take (i + 1) = bs.take i ++ [b] := by rw [List.take_add_one, eb2]; rfl
    have lcs := em.length
    have lcv := alc.length
    rw [List.length_take] at lcs
    refine ⟨t, _, rfl, SqT.of (k5 _ _ e4), rfl, _, _, rfl, _, _, rfl, _, _, rfl, rfl, ?_⟩
    refine ⟨_, rfl, .inl ⟨rfl, _, SqL.of hbl⟩, _, rfl, _, rfl, _, rfl, (by show 0 ≤ sizeLine; decide), fun u nu => ⟨(by show 2 ≤ sizeLine; decide), fun l nl => ?_⟩⟩
    have u1 := same_new (o := .tup ([] : List V)) nu
    have u2 := same_new (o := .lst [V.ref g, V.ref u]) nl
    have F7 := (F5.new (o := .tup ([] : List V)) nu).new (o := .lst [V.ref g, V.ref u]) nl
    refine ⟨_, rfl, f, c, _, rfl, by decide, by decide +kernel, F7, fun z H8 z0 z3 F8 B8 => ?_⟩
    have u12 := u1.trans u2
    have fl : l ≠ f := F5.ne (same_none u1 nl)
    have hl8 := B8 _ _ (upd_same (H := upd H5 u (.tup ([] : List V))) (a := l) (o := .lst [V.ref g, V.ref u])) fl
    have k8 : TK (upd (upd H5 u (.tup ([] : List V))) l (.lst [V.ref g, V.ref u])) H8 := TK.but F7 B8
    have hg8 := k8 _ _ (u12 _ _ (k5 _ _ e5))
    have hu8 := k8 _ _ (u2 _ _ (upd_same (H := H5) (a := u) (o := .tup ([] : List V))))
    have hbl8 := B8 _ _ (u12 _ _ hbl) blf
    have B58 : But f H5 H8 := (But.of u12).trans B8
    have k58 := (TK.same u12).trans k8
    refine ⟨_, _, rfl, rfl, .inr ⟨_, rfl, ?_⟩⟩
    obtain ⟨y, th, hy1, hy2, hy3⟩ : ∃ (y : Addr) (th : List Int), atI [V.ref g, V.ref u] (if decide (z > 0) = true then 1 else 0) = some (V.ref y) ∧ H8 y = some (.tup (th.map V.int)) ∧ (th = b.th ∨ th = []) := by
      by_cases h : z > 0
      · rw [if_pos (decide_eq_true h)]
        exact ⟨u, [], atI_nat (j := 1) rfl, hu8, .inr rfl⟩
      · rw [if_neg (fun y => h (of_decide_eq_true y))]
        exact ⟨g, b.th, atI_nat (j := 0) rfl, hg8, .inl rfl⟩
    refine ⟨l, _, _, _, rfl, rfl, SqL.of hl8, hy1, (by show 3 ≤ sizeLine; decide), fun t9 nt9 => ?_⟩
    have u9 := same_new (o := .tup [nV b.one, nV b.to, V.ref y]) nt9
    have hbl9 := u9 _ _ hbl8
    have k9 := (TK.same u9).trans (TK.lst (ys := cv ++ [V.ref t9]) hbl9)
    refine ⟨bl, cv, _, rfl, rfl, hbl9, small1000 (by omega), cv ++ [V.ref t9], cs ++ [⟨b.one, b.to, th⟩], _, _, _, rfl, upd_same, ?_, ?_, (F8.new nt9).lst blf blc, But.own ((B5.trans B58).same u9) nbl⟩
    · exact (alc.imp fun _ _ z => (z.keep k58).keep k9).snoc ⟨t9, y, rfl, TK.lst hbl9 _ _ upd_same, k9 _ _ hy2⟩
    · rw [tk]
      exact em.snoc ⟨rfl, rfl, hy3⟩
  · rintro σ H5 ⟨cv, cs, x3, x4, x5, rfl, hbl, alc, em, F5, B5⟩
    have k5 := TK.but hF B5
    rw [lbv, List.take_length] at em
    refine ⟨_, rfl, r, _, _, _, rfl, rfl, SqT.of (k5 _ _ er), atI_nat (j := 0) rfl, _, rfl, bl, cv, rfl, .inl ⟨SqL.of hbl, fun b2 nb2 => ?_⟩⟩
    have v1 := same_new (o := .tup cv) nb2
    refine ⟨(by show 2 ≤ sizeLine; decide), fun r' nr' => ?_⟩
    have v2 := same_new (o := .tup [V.ref ha, V.ref b2]) nr'
    have kk := (TK.same v1).trans (TK.same v2)
    exact q r' cs _ ⟨ha, b2, hv, cv, upd_same, kk _ _ (k5 _ _ eh), v2 _ _ upd_same, alh.imp fun _ _ z => (z.keep k5).keep kk, alc.imp fun _ _ z => z.keep kk⟩ em ((F5.new nb2).new nr') ((B5.same v1).same v2)
variable {cF cB : Addr} {PT : Addr × Addr} [TF : TabF K mg base cF PT] [TC : TabC K mg base cB PT]
include TF TC
def sp_law_told (K : PySem.W.Frag) (PT : Addr × Addr) : Sp := fun vs H Q _ => ∃ (r : Addr) (hs : List HR) (bs : List BR), vs = [.ref r] ∧ RoomAt H r hs bs ∧ RoomNr hs bs ∧ Tb2 PT H ∧
  (∀ H', (∀ k, k < hs.length → ¬ OnW (bareSt bs) k k) → LamX.ExtN H H' → Tb2 PT H' → Q (.str "let by") H') ∧
  ∀ (p t : Addr) (k : Nat) (H' : Hp), Ring1 hs bs k → H' p = some (.tup [.str "ring", .ref t]) → H' t = some (.tup [nV k]) → LamX.ExtN H H' → Tb2 PT H' → Q (.ref p) H'
theorem ok_law_told {f : Addr} {fd : FuncData} (F : Fun K "_law_told" "_law_told" s_law_told f fd) (T : Top w K mg) : FnG P w K mg base CX0 7 f fd ["_law_room_here"] (sp_law_told K PT) := by
  obtain ⟨f_look_room, fd_look_room, F_look_room, b_look_room, m_look_room⟩ := T.d_look_room
  have G_look_room := ok_look_room (P := P) (w := w) (base := base) F_look_room T
  obtain ⟨fdI, N⟩ := T.x_ns
  have GI := ok_NsInit (P := P) (w := w) (base := base) N
  refine Fun.okG F sc_law_told (fun vs H Q E h => ?_) (fun cdv A outer s H vs Q E hr hG h => ?_)
  · obtain ⟨r, hs, bs, rfl, _⟩ := h
    rfl
  obtain ⟨r, hs, bs, rfl, hR, ok, tb, q1, q2⟩ := h
  have nt := ok.neat
  refine ⟨_, (pss_cons (ps_set (i := 1) sc_law_told.nd rfl (Or.inl rfl) pe_str)
      (pss_cons (ps_set (i := 2) sc_law_told.nd rfl (Or.inl rfl) (pe_callB (call_reprG K rfl hG hr.units) (by rfl) T.m_repr (by decide +kernel) (pa_cons (pv 0) pa_nil)))
      (pss_cons (ps_try_as (i := 3) rfl rfl sc_law_told.nd rfl rfl ⟨rfl, by decide, .inl N.gC⟩ takes0
        (fun W pn xe tk _ => (pss_one (ps_if (pt_cmpR op_isB (pe_callS G_look_room (hr.mono (by decide)) (by rfl) m_look_room F_look_room.kp b_look_room (fun σ => passAt tk σ) (pa_cons (pv 0) pa_nil)) pe_bl (nomark _)) (pss_one (ps_set (i := 1) sc_law_told.nd rfl (Or.inl rfl) pe_str)) pss_nil)))
        (fun a oe cls d pn hz hf => (pss_cons (ps_set (i := 1) sc_law_told.nd rfl (Or.inl rfl) (pe_tup (pa_cons (pe_xf N.xf N.nw hz hf (pv 3)) (pa_cons (pe_xf N.xf N.na hz hf (pv 3)) pa_nil))))
      (pss_one (ps_if (PW.pt (pw_or (pt_not (pt_val (pe_callB (call_isF N.is_ hz hf) (by rfl) T.m_isinstance (by decide +kernel) (pa_cons (pv 3) (pa_cons (pe_glob (v := .ref (He.ga K "BeltError")) (by rfl) N.gB rfl) pa_nil))))) (pw_or1 (pt_val (pe_callB (call_isFT N.is_ hz hf) (by rfl) T.m_isinstance (by decide +kernel) (pa_cons (pv 3) (pa_cons (pe_tup (pa_cons (pe_glob (v := .ref (He.ga K "NoText")) (by rfl) T.x_NoText rfl) (pa_cons (pe_glob (v := .ref (He.ga K "NoShift")) (by rfl) T.x_NoShift rfl) (pa_cons (pe_glob (v := .ref (He.ga K "NoFormula")) (by rfl) T.x_NoFormula rfl) (pa_cons (pe_glob (v := .ref (He.ga K "NoName")) (by rfl) T.x_NoName rfl) (pa_cons (pe_glob (v := .ref (He.ga K "NoRow")) (by rfl) T.x_NoRow rfl) pa_nil)))))) pa_nil))))))) (pss_one (ps_set (i := 1) sc_law_told.nd rfl (Or.inl rfl) pe_str)) pss_nil)))))
      (pss_cons (ps_if (pt_cmpR op_ne (pe_callB (call_reprG K rfl hG hr.units) (by rfl) T.m_repr (by decide +kernel) (pa_cons (pv 0) pa_nil)) (pv 2) (nomark _)) (pss_one (ps_ret pe_str)) pss_nil)
      (pss_one (ps_ret (pv 1))))))), ?_⟩
  refine ⟨_, rfl, .ref r, _, rfl, hR.dp, nt.say, nt.nod, Nat.le_trans nt.dep (by decide), nt.fits (by decide) (by decide), ?_⟩
  refine ⟨_, rfl, ?_⟩
  dsimp only [tNil]
  refine ⟨r, hs, bs, rfl, hR, ok, tb, fun H1 no e1 tb1 => ?_, fun d t k H1 kl on low hd ht e1 tb1 => ?_⟩
  · refine ⟨_, _, rfl, rfl, _, rfl, if_bl (fun _ => ?_) (fun z => nomatch z)⟩
    have hR1 := hR.keep (tk_ext e1)
    refine ⟨_, rfl, .ref r, _, rfl, hR1.dp, nt.say, nt.nod, Nat.le_trans nt.dep (by decide), nt.fits (by decide) (by decide), _, rfl, rfl, _, rfl, ?_⟩
    rw [decide_eq_true rfl]
    exact if_bl (fun z => nomatch z) (fun _ => ⟨_, rfl, q1 _ no e1 tb1⟩)
  · refine ⟨true, N.tc, fun _ a na => ?_, fun z => nomatch z⟩
    refine ⟨_, rfl, rfl, rfl, d, _, .str "ring", rfl, hd, rfl, _, rfl, rfl, rfl, d, _, .ref t, rfl, hd, rfl, (by show 2 ≤ sizeLine; decide), fun p np => ?_⟩
    have u0 := same_new (o := .tup [V.str "ring", V.ref t]) np
    have hd0 := u0 _ _ hd
    refine ⟨_, rfl, rfl, ⟨d, _, rfl, hd0⟩, V.ref (He.ga K "BeltError"), .ref (He.ga K "BeltError"), true, rfl, fun u r => r, N.kb, _, rfl, if_bl (fun z => nomatch z) (fun _ => ?_)⟩
    refine ⟨_, rfl, (by show 5 ≤ sizeLine; decide), fun tp ntp => ?_⟩
    have u1 := same_new (o := .tup [V.ref (He.ga K "NoText"), V.ref (He.ga K "NoShift"), V.ref (He.ga K "NoFormula"), V.ref (He.ga K "NoName"), V.ref (He.ga K "NoRow")]) ntp
    have hd1 := u1 _ _ hd0
    refine ⟨rfl, ⟨d, _, rfl, hd1⟩, tp, _, _, false, rfl, upd_same, .cons (.own _) (.cons (.own _) (.cons (.own _) (.cons (.own _) (.cons (.own _) .nil)))), N.ko, _, rfl, if_bl (fun z => nomatch z) (fun _ => ?_)⟩
    have s := u0.trans u1
    have e2 := e1.trans (ext_same s)
    have hR1 := hR.keep (tk_ext e2)
    refine ⟨_, rfl, .ref r, _, rfl, hR1.dp, nt.say, nt.nod, Nat.le_trans nt.dep (by decide), nt.fits (by decide) (by decide), _, rfl, rfl, _, rfl, ?_⟩
    rw [decide_eq_true rfl]
    exact if_bl (fun z => nomatch z) (fun _ => ⟨_, rfl, q2 p t k _ ⟨kl, on, low⟩ (u1 _ _ upd_same) (s _ _ ht) e2 (tb1.same s)⟩)
def sp_law_right (K : PySem.W.Frag) (PT : Addr × Addr) : Sp := fun vs H Q _ => ∃ (r : Addr) (hs : List HR) (bs : List BR), vs = [.ref r] ∧ RoomAt H r hs bs ∧ RoomNr hs bs ∧ Tb2 PT H ∧ ∀ H', LamX.ExtN H H' → Tb2 PT H' → Q (.bl true) H'
theorem ok_law_right {f : Addr} {fd : FuncData} (F : Fun K "_law_right" "_law_right" s_law_right f fd) (T : Top w K mg) : FnG P w K mg base CX0 8 f fd ["_law_room_here"] (sp_law_right K PT) := by
  obtain ⟨f_law_round, fd_law_round, F_law_round, b_law_round, m_law_round⟩ := T.d_law_round
  have G_law_round := ok_law_round (P := P) (w := w) (base := base) F_law_round T
  obtain ⟨f_law_told, fd_law_told, F_law_told, b_law_told, m_law_told⟩ := T.d_law_told
  have G_law_told := ok_law_told (P := P) (w := w) (base := base) F_law_told T
  refine Fun.okG F sc_law_right (fun vs H Q E h => ?_) (fun cdv A outer s H vs Q E hr hG h => ?_)
  · obtain ⟨r, hs, bs, rfl, _⟩ := h
    rfl
  obtain ⟨r, hs, bs, rfl, hR, ok, tb, q⟩ := h
  have lh := ok.hands
  refine ⟨_, (pss_cons (ps_set (i := 1) sc_law_right.nd rfl (Or.inl rfl) (pe_call G_law_round (hr.mono (by decide)) (by rfl) m_law_round F_law_round.kp b_law_round .nil pass0 (pa_cons (pv 0) pa_nil)))
      (pss_cons (ps_set (i := 2) sc_law_right.nd rfl (Or.inl rfl) pe_str)
      (pss_cons (ps_if (pt_cmpR (op_neDK K rfl hr.units) (pv 1) (pe_lst pa_nil) (nomark _)) (pss_one (ps_set (i := 2) sc_law_right.nd rfl (Or.inl rfl) (pe_tup (pa_cons pe_str (pa_cons (pe_tup (pa_cons (pe_ix (ix_listK K rfl) (pv 1) pe_int (fun _ _ => rfl)) pa_nil)) pa_nil))))) pss_nil)
      (pss_one (ps_ret (pe_cmpR op_eq (pe_callB (call_reprG K rfl hG hr.units) (by rfl) T.m_repr (by decide +kernel) (pa_cons (pe_callG G_law_told (hr.mono (by decide)) hG (by rfl) m_law_told F_law_told.kp b_law_told .nil pass0 (pa_cons (pv 0) pa_nil)) pa_nil)) (pe_callB (call_reprG K rfl hG hr.units) (by rfl) T.m_repr (by decide +kernel) (pa_cons (pv 2) pa_nil)) (nomark _))))))), ?_⟩
  refine ⟨_, rfl, r, hs, bs, rfl, hR, ok, fun p H1 np hp s1 => ?_⟩
  refine ⟨_, rfl, (by show 0 ≤ sizeLine; decide), fun u nu => ?_⟩
  have u1 := same_new (o := .lst ([] : List V)) nu
  refine ⟨_, _, .lst (SqL.of (u1 _ _ hp)) (dp_nats _), .lst (SqL.of upd_same) .nil, nats_shaped _ (filt_lt (by omega)), by decide +kernel, _, rfl, ?_⟩
  rw [eqv_nilL]
  have s2 := s1.trans u1
  have rt : ∀ {z : Bool}, z = true → ∀ {H' : Hp}, LamX.ExtN H H' → Tb2 PT H' → Q (.bl z) H' := fun e _ x y => e ▸ q _ x y
  cases hl : (List.range hs.length).filter (fun k => Wr (bareSt bs) hs.length k k) with
  | nil =>
    refine if_bl (fun z => nomatch z) (fun _ => ?_)
    refine ⟨_, rfl, r, hs, bs, rfl, hR.keep (TK.same s2), ok, tb.same s2, fun H3 no e3 tb3 => ?_, fun p2 t2 k H3 rg _ _ _ _ => absurd rg.2.1 (rings_nil ok hl k rg.1)⟩
    refine ⟨.str "let by", letD, rfl, .str _, let_neat.say, let_neat.nod, Nat.le_trans let_neat.dep (by decide), let_neat.fits (by decide) (by decide), _, rfl, .str "let by", letD, rfl, .str _, let_neat.say, let_neat.nod, Nat.le_trans let_neat.dep (by decide), let_neat.fits (by decide) (by decide), rfl, ?_⟩
    exact rt (decide_eq_true rfl) ((ext_same s2).trans e3) tb3
  | cons k l =>
    refine if_bl (fun _ => ?_) (fun z => absurd z (by simp))
    have hp2 := u1 _ _ hp
    rw [hl] at hp2
    have rg := rings_one ok hl
    have kn := rg.1
    refine ⟨_, rfl, p, _, _, _, rfl, rfl, SqL.of hp2, atI_nat (j := 0) rfl, (by show 1 ≤ sizeLine; decide), fun t nt => ⟨(by show 2 ≤ sizeLine; decide), fun d nd => ?_⟩⟩
    have u3 := same_new (o := .tup [nV k]) nt
    have u4 := same_new (o := .tup [V.str "ring", V.ref t]) nd
    have s4 := s2.trans (u3.trans u4)
    have rn := ring_neat (k := k) (by omega)
    refine ⟨_, rfl, r, hs, bs, rfl, hR.keep (TK.same s4), ok, tb.same s4, fun H3 no _ _ => absurd rg.2.1 (no k kn), fun p2 t2 k2 H3 rg2 hp3 ht3 e3 tb3 => ?_⟩
    obtain rfl := ring_same rg rg2
    have hd3 := tk_ext e3 _ _ (upd_same (a := d) (o := .tup [V.str "ring", V.ref t]))
    have ht4 := tk_ext e3 _ _ (u4 _ _ (upd_same (a := t) (o := .tup [nV k])))
    refine ⟨.ref p2, ringD k, rfl, ring_dp hp3 ht3, rn.say, rn.nod, Nat.le_trans rn.dep (by decide), rn.fits (by decide) (by decide), _, rfl, .ref d, ringD k, rfl, ring_dp hd3 ht4, rn.say, rn.nod, Nat.le_trans rn.dep (by decide), rn.fits (by decide) (by decide), rfl, ?_⟩
    exact rt (decide_eq_true rfl) ((ext_same s4).trans e3) tb3
def sp_law (K : PySem.W.Frag) (PT : Addr × Addr) : Sp := fun vs H Q _ => ∃ (a : Addr) (ns : List Int), vs = [.ref a] ∧ SqL K H a (ns.map V.int) ∧ ns.length ≤ 63 ∧ Tb2 PT H ∧ ∀ H', Q (.bl true) H'
theorem ok_law {f : Addr} {fd : FuncData} (F : Fun K "law" "law" s_law f fd) (T : Top w K mg) : FnG P w K mg base CX0 9 f fd ["_law_script"] (sp_law K PT) := by
  obtain ⟨f_law_flow, fd_law_flow, F_law_flow, b_law_flow, m_law_flow⟩ := T.d_law_flow
  have G_law_flow := ok_law_flow (P := P) (w := w) (base := base) F_law_flow T
  obtain ⟨f_law_room, fd_law_room, F_law_room, b_law_room, m_law_room⟩ := T.d_law_room
  have G_law_room := ok_law_room (P := P) (w := w) (base := base) F_law_room T
  obtain ⟨f_law_emptied, fd_law_emptied, F_law_emptied, b_law_emptied, m_law_emptied⟩ := T.d_law_emptied
  have G_law_emptied := ok_law_emptied (P := P) (w := w) (base := base) F_law_emptied T
  obtain ⟨f_law_right, fd_law_right, F_law_right, b_law_right, m_law_right⟩ := T.d_law_right
  have G_law_right := ok_law_right (P := P) (w := w) (base := base) F_law_right T
  obtain ⟨f_law_told, fd_law_told, F_law_told, b_law_told, m_law_told⟩ := T.d_law_told
  have G_law_told := ok_law_told (P := P) (w := w) (base := base) F_law_told T
  obtain ⟨f_law_round, fd_law_round, F_law_round, b_law_round, m_law_round⟩ := T.d_law_round
  have G_law_round := ok_law_round (P := P) (w := w) (base := base) F_law_round T
  refine Fun.okG F sc_law (fun vs H Q E h => ?_) (fun cdv A outer s H vs Q E hr hG h => ?_)
  · obtain ⟨a, ns, rfl, _⟩ := h
    rfl
  obtain ⟨a, ns, rfl, hS, hlen, tb0, q⟩ := h
  refine ⟨_, (pss_cons (ps_set (i := 1) sc_law.nd rfl (Or.inl rfl) (pe_call G_law_flow (hr.mono (by decide)) (by rfl) m_law_flow F_law_flow.kp b_law_flow .nil pass0 (pa_cons (pv 0) pa_nil)))
      (pss_cons (ps_set (i := 2) sc_law.nd rfl (Or.inl rfl) (pe_call G_law_room (hr.mono (by decide)) (by rfl) m_law_room F_law_room.kp b_law_room .nil pass0 (pa_cons (pv 1) (pa_cons pe_int pa_nil))))
      (pss_cons (ps_for PassesOwn.never rfl (pi_range1 (by rfl) T.m_range (pa_cons pe_int pa_nil)) (pg_name (i := 3) sc_law.nd rfl (Or.inl rfl))
        (pss_cons (ps_set (i := 4) sc_law.nd rfl (Or.inl rfl) (pe_call G_law_emptied (hr.mono (by decide)) (by rfl) m_law_emptied F_law_emptied.kp b_law_emptied .nil pass0 (pa_cons (pv 1) (pa_cons (pv 2) pa_nil))))
      (pss_cons (ps_if (PW.pt (pw_or (pt_not (pt_val (pe_callG G_law_right (hr.mono (by decide)) hG (by rfl) m_law_right F_law_right.kp b_law_right .nil pass0 (pa_cons (pv 4) pa_nil)))) (pw_or1 (pt_cmpR (op_neDK K rfl hr.units) (pe_callG G_law_told (hr.mono (by decide)) hG (by rfl) m_law_told F_law_told.kp b_law_told .nil pass0 (pa_cons (pv 2) pa_nil)) pe_str (nomark _))))) (pss_one (ps_ret pe_bl)) pss_nil)
      (pss_one (ps_for PassesOwn.never rfl (pi_range1 (by rfl) T.m_range (pa_cons (pe_callB (call_len_seqK K rfl) (by rfl) T.m_len (by decide +kernel) (pa_cons (pe_ix (ix_tupK K rfl) (pv 2) pe_int (fun _ _ => rfl)) pa_nil)) pa_nil)) (pg_name (i := 5) sc_law.nd rfl (Or.inl rfl))
        (pss_one (ps_if (PW.pt (pw_and (pt_cmpR (op_neDK K rfl hr.units) (pe_ix (ix_tupK K rfl) (pe_ix (ix_tupK K rfl) (pv 4) pe_int (fun _ _ => rfl)) (pv 5) (fun _ _ => rfl)) (pe_ix (ix_tupK K rfl) (pe_ix (ix_tupK K rfl) (pv 2) pe_int (fun _ _ => rfl)) (pv 5) (fun _ _ => rfl)) (nomark _)) (pw_and1 (pt_cmpR (op_neDK K rfl hr.units) (pe_call G_law_round (hr.mono (by decide)) (by rfl) m_law_round F_law_round.kp b_law_round .nil pass0 (pa_cons (pv 4) pa_nil)) (pe_lst pa_nil) (nomark _))))) (pss_cons (ps_set (i := 6) sc_law.nd rfl (Or.inl rfl) (pe_callTy (call_list_ofK K rfl) (by rfl) T.m_list (by decide +kernel) (pa_cons (pe_ix (ix_tupK K rfl) (pv 4) pe_int (fun _ _ => rfl)) pa_nil)))
      (pss_cons (ps_asg (pe_ix (ix_tupK K rfl) (pe_ix (ix_tupK K rfl) (pv 2) pe_int (fun _ _ => rfl)) (pv 5) (fun _ _ => rfl)) (pg_sub (pv 6) (pv 5) set_list))
      (pss_cons (ps_set (i := 4) sc_law.nd rfl (Or.inl rfl) (pe_tup (pa_cons (pe_ix (ix_tupK K rfl) (pv 2) pe_int (fun _ _ => rfl)) (pa_cons (pe_callTy (call_tuple_ofK K rfl) (by rfl) T.m_tuple (by decide +kernel) (pa_cons (pv 6) pa_nil)) pa_nil))))
      (pss_one (ps_if (pt_not (pt_val (pe_callG G_law_right (hr.mono (by decide)) hG (by rfl) m_law_right F_law_right.kp b_law_right .nil pass0 (pa_cons (pv 4) pa_nil)))) (pss_one (ps_ret pe_bl)) pss_nil))))) pss_nil)))))))
      (pss_one (ps_ret pe_bl))))), ?_⟩
  refine ⟨_, rfl, a, ns, rfl, hS, fun f c H1 nf nc F1 s1 => ?_⟩
  refine ⟨_, rfl, f, c, 8, rfl, by decide, by decide, F1, fun r hs bs H2 hR2 ok F2 B2 => ?_⟩
  have lh := ok.hands
  have lb := ok.many
  have okn := ok.nr
  refine ⟨_, rfl, by decide, by decide, for_range (lo := 0) (n := 3) (fun i σ H5 => ∃ x3 x4 x5 x6 : Option V, σ = [some (.ref a), some (.ref f), some (.ref r), x3, x4, x5, x6] ∧ Flow H5 f c ∧ RoomAt H5 r hs bs ∧ Tb2 PT H5) ⟨_, _, _, _, rfl, F2, hR2, (tb0.same s1).but F1 B2⟩ ?_ ?_⟩
  · rintro i σ H5 hi ⟨x3, x4, x5, x6, rfl, F5, hR5, tb5⟩
    refine ⟨_, rfl, _, rfl, f, c, r, hs, bs, rfl, F5, hR5, okn, fun r2 cs H6 hr2 em F6 B6 => ?_⟩
    have okE := emp_nr okn em
    have tb6 := tb5.but F5 B6
    have hR6 := hR5.keep (TK.but F5 B6)
    refine ⟨_, rfl, r2, hs, cs, rfl, hr2, okE, tb6, fun H7 e7 tb7 => ⟨_, rfl, if_bl (fun z => nomatch z) (fun _ => ?_)⟩⟩
    have hR7 := hR6.keep (tk_ext e7)
    refine ⟨_, rfl, r, hs, bs, rfl, hR7, okn, tb7, fun H8 no e8 tb8 => ?_, fun p2 t2 k H8 rg _ _ _ _ => absurd rg.2.1 (bare_none ok k)⟩
    refine ⟨_, _, .str _, .str _, by decide +kernel, by decide +kernel, _, rfl, ?_⟩
    rw [PySem.SeqAt.eqv_refl (.str "let by") (by decide +kernel)]
    refine if_bl (fun z => nomatch z) (fun _ => ?_)
    have e78 := e7.trans e8
    have hR8 := hR6.keep (tk_ext e78)
    have hr8 := hr2.keep (tk_ext e78)
    have F8 := F6.ext e78
    obtain ⟨ha, ba, hv, bv, er, eh, eb, alh, alb⟩ := id hR8.ex
    have lbv := alb.length
    refine ⟨_, rfl, r, _, _, _, rfl, rfl, SqT.of er, atI_nat (j := 1) rfl, ba, _, rfl, .inr (SqT.of eb), _, rfl, by omega, by omega, for_range (lo := 0) (n := bv.length) (fun j σ H9 => ∃ (r3 : Addr) (cs : List BR) (x5 x6 : Option V), σ = [some (.ref a), some (.ref f), some (.ref r), some (V.int (0 + ((i : Nat) : Int))), some (.ref r3), x5, x6] ∧ Flow H9 f c ∧ RoomAt H9 r hs bs ∧ RoomAt H9 r3 hs cs ∧ All2 Emp1 bs cs ∧ Tb2 PT H9) ⟨r2, cs, _, _, rfl, F8, hR8, hr8, em, tb8⟩ ?_ ?_⟩
    · clear hr8 hr2 okE em
      rintro j σ H9 hj ⟨r3, ds, x5, x6, rfl, F9, hR9, hr9, em9, tb9⟩
      rw [Int.zero_add]
      have okD := emp_nr okn em9
      obtain ⟨ha1, ba1, hv1, bv1, er1, eh1, eb1, alh1, alb1⟩ := id hR9.ex
      obtain ⟨ha3, ba3, hv3, bv3, er3, eh3, eb3, alh3, alb3⟩ := id hr9.ex
      have lds := em9.length
      have ebj : bs[j]? = some bs[j] := List.getElem?_eq_getElem (by omega)
      have edj : ds[j]? = some ds[j] := List.getElem?_eq_getElem (by omega)
      obtain ⟨y1, ey1, bt1⟩ := alb1.get ebj
      obtain ⟨y3, ey3, bt3⟩ := alb3.get edj
      have mb := List.mem_of_getElem? ebj
      have md := List.mem_of_getElem? edj
      have bsh : ∀ {b : BR}, b.one < hs.length ∧ b.to < hs.length → (∀ x ∈ b.th, Small x) → SeqAt.shaped (beltD b) = true := fun e t => belt_shaped ⟨by omega, by omega⟩ t
      refine ⟨_, rfl, r3, _, _, _, rfl, rfl, SqT.of er3, atI_nat (j := 1) rfl, _, rfl, ba3, _, _, _, rfl, rfl, SqT.of eb3, atI_nat ey3, _, rfl, r, _, _, _, rfl, rfl, SqT.of er1, atI_nat (j := 1) rfl, _, rfl, ba1, _, _, _, rfl, rfl, SqT.of eb1, atI_nat ey1, ?_⟩
      refine ⟨_, _, bt3.dp, bt1.dp, bsh (okD.ends _ md) (okD.th _ md).2, bsh (okn.ends _ mb) (okn.th _ mb).2, _, rfl, ?_⟩
      generalize (!PyData.eqv (beltD ds[j]) (beltD bs[j])) = z
      refine if_bl (fun _ => ?_) (fun _ => ⟨r3, ds, _, _, rfl, F9, hR9, hr9, em9, tb9⟩)
      refine ⟨_, rfl, r3, hs, ds, rfl, hr9, okD, fun p Ha np hp sa => ⟨(by show 0 ≤ sizeLine; decide), fun u nu => ?_⟩⟩
      have u1 := same_new (o := .lst ([] : List V)) nu
      have sb := sa.trans u1
      refine ⟨_, _, .lst (SqL.of (u1 _ _ hp)) (dp_nats _), .lst (SqL.of upd_same) .nil, nats_shaped _ (filt_lt (by omega)), by decide +kernel, _, rfl, ?_⟩
      refine if_bl (fun _ => ?_) (fun _ => ⟨r3, ds, _, _, rfl, F9.same sb, hR9.keep (TK.same sb), hr9.keep (TK.same sb), em9, tb9.same sb⟩)
      generalize upd Ha u (.lst ([] : List V)) = Hb at sb ⊢
      refine ⟨_, rfl, r3, _, _, _, rfl, rfl, SqT.of (sb _ _ er3), atI_nat (j := 1) rfl, ba3, _, rfl, .inr (SqT.of (sb _ _ eb3)), fun l nl => ?_⟩
      have s3 := sb.trans (same_new (o := .lst bv3) nl)
      have nl9 := same_none sb nl
      have jl3 : j < bv3.length := by rw [alb3.length]; omega
      refine ⟨_, rfl, r, _, _, _, rfl, rfl, SqT.of (s3 _ _ er1), atI_nat (j := 1) rfl, _, rfl, ba1, _, _, _, rfl, rfl, SqT.of (s3 _ _ eb1), atI_nat ey1, _, rfl, _, rfl, l, bv3, _, j, rfl, rfl, upd_same, ixN_at jl3, ?_⟩
      have s4 : Same H9 (upd (upd Hb l (.lst bv3)) l (.lst (bv3.set j y1))) := Same.own s3 nl9
      have hl4 : (upd (upd Hb l (.lst bv3)) l (.lst (bv3.set j y1))) l = some (.lst (bv3.set j y1)) := upd_same
      generalize upd (upd Hb l (.lst bv3)) l (.lst (bv3.set j y1)) = Hd at s4 hl4 ⊢
      refine ⟨_, rfl, r, _, _, _, rfl, rfl, SqT.of (s4 _ _ er1), atI_nat (j := 0) rfl, _, rfl, l, _, rfl, .inl ⟨SqL.of hl4, fun b2 nb2 => ⟨(by show 2 ≤ sizeLine; decide), fun r4 nr4 => ?_⟩⟩⟩
      have v1 := same_new (o := .tup (bv3.set j y1)) nb2
      have v2 := same_new (o := .tup [V.ref ha1, V.ref b2]) nr4
      have s6 := s4.trans (v1.trans v2)
      have em2 := emp_set em9 ebj
      have hr4 : RoomAt (upd (upd Hd b2 (.tup (bv3.set j y1))) r4 (.tup [V.ref ha1, V.ref b2])) r4 hs (ds.set j bs[j]) := ⟨ha1, b2, hv1, _, upd_same, s6 _ _ eh1, v2 _ _ upd_same, alh1.imp fun _ _ z => z.keep (TK.same s6), (alb3.imp fun _ _ z => z.keep (TK.same s6)).set (bt1.keep (TK.same s6))⟩
      refine ⟨_, rfl, r4, hs, _, rfl, hr4, emp_nr okn em2, tb9.same s6, fun Hz ez tbz => ⟨_, rfl, if_bl (fun z => nomatch z) (fun _ => ?_)⟩⟩
      exact ⟨r4, _, _, _, rfl, (F9.same s6).ext ez, (hR9.keep (TK.same s6)).keep (tk_ext ez), hr4.keep (tk_ext ez), em2, tbz⟩
    · rintro σ H9 ⟨r3, ds, x5, x6, rfl, F9, hR9, _, _, tb9⟩
      exact ⟨_, _, _, _, rfl, F9, hR9, tb9⟩
  · rintro σ H5 _
    exact q _
end
/-! ### the class of own errors, looked at in the head -/
def oexB (K : PySem.W.Frag) (C : Addr) : Bool := match K.lookup C with
  | some o => (match o.cls, o.data, o.slots.toList with
    | .type t, .cls cd, [_, _, _, _, some (.builtin n), _] => decide (t = "type") && (decide (n = "ValueError.__new__") && (!cd.hasDel && (cd.hasDict && (match cd.mro with
      | .ref C' :: bm => decide (C' = C) && PySem.HandSPX.refsVE bm
      | _ => false))))
    | _, _, _ => false)
  | none => false
theorem oexB_ok {K : PySem.W.Frag} {C : Addr} (h : oexB K C = true) : ∃ nm q N bs bm sn sub ab col dd k0 k1 k2 k3 k5, K.lookup C = some (excClassObj nm q C N bs bm true sn sub ab col dd k0 k1 k2 k3 k5 "ValueError.__new__") ∧ PySem.HandSPX.refsVE bm = true := by
  unfold oexB at h
  split at h
  · rename_i o ho
    split at h
    · rename_i t cd k0 k1 k2 k3 n k5 e1 e2 hs
      simp only [Bool.and_eq_true, decide_eq_true_eq, Bool.not_eq_true'] at h
      obtain ⟨q1, q2, q3, q4, q5⟩ := h
      split at q5
      · rename_i C' bm e3
        simp only [Bool.and_eq_true, decide_eq_true_eq] at q5
        obtain ⟨oc, od, odt, osl⟩ := o
        obtain ⟨nm, bs, mro, ns, qn, hd, sn, sub, ab, col, del⟩ := cd
        obtain ⟨l⟩ := osl
        dsimp only at e1 e2 e3 hs q3 q4
        have hs : l = [k0, k1, k2, k3, some (.builtin n), k5] := hs
        rw [e1, e2, e3, hs, q1, q2, q3, q4, q5.1] at ho
        exact ⟨nm, qn, ns, bs, bm, sn, sub, ab, col, od, k0, k1, k2, k3, k5, ho, q5.2⟩
      · cases q5
    · cases h
  · cases h
/-- all that is asked of the class named x, its __init__ at f -/
def ownB (K : PySem.W.Frag) (C f CB : Addr) : List Bool := [oexB K C,
  decide (PySem.W.findIn K (.ref C) "__setattr__" = some (some (.builtin "object.__setattr__"))),
  decide (PySem.W.subIn K (.ref C) (.type "BaseException") = some true),
  decide (PySem.W.typeIn K (.ref C) = some (.type "type")),
  PySem.W.keepIn K (.ref C),
  decide (PySem.W.findIn K (.ref C) "__init__" = some (some (.ref f))),
  decide (PySem.W.typeIn K (.ref f) = some (.type "function")),
  decide (PySem.W.findIn K (.ref C) "__getattribute__" = some (some (.builtin "BaseException.__getattribute__"))),
  decide (PySem.W.findIn K (.ref C) "__getattr__" = some none),
  PySem.W.hasDictIn K C,
  decide (PySem.W.findIn K (.ref C) "__class__" = some (some (.builtin "object.__class__"))),
  decide (PySem.W.specialIn K (.builtin "object.__class__") "__get__" = some (some (.builtin "getset_descriptor.__get__"))),
  decide (PySem.W.takesIn K (.builtin "object.__class__") = some true),
  decide (PySem.W.mroIn K C (.type "object") = some true),
  decide (PySem.W.exmOne K (.ref C) (.ref C) = some true),
  decide (PySem.W.kitOne K (.ref C) (.ref CB) = some true),
  decide (PySem.W.findIn K (.ref C) "word" = some none),
  decide (PySem.W.findIn K (.ref C) "at" = some none)]
def nsB (K : PySem.W.Frag) : Bool := (ownB K (He.ga K "NoRoom") (He.fAd K ("NoRoom", some "__init__")) (He.ga K "BeltError")).all id && decide (PySem.W.exmOne K (.ref (He.ga K "NoRoom")) (.ref (He.ga K "BeltError")) = some true) && decide (PySem.W.kitAny K (.ref (He.ga K "NoRoom")) [.ref (He.ga K "NoText"), .ref (He.ga K "NoShift"), .ref (He.ga K "NoFormula"), .ref (He.ga K "NoName"), .ref (He.ga K "NoRow")] = some false)
theorem nsB_ok {K : PySem.W.Frag} {mg : Str → Option Value} {fd : FuncData} (h : nsB K = true) (gC : mg "NoRoom" = some (.ref (He.ga K "NoRoom"))) (gB : mg "BeltError" = some (.ref (He.ga K "BeltError"))) (F : Fun K "__init__" "NoRoom.__init__" s_NoRoom_init (He.fAd K ("NoRoom", some "__init__")) fd) (b : Binds K fd ["self", "word", "at"] []) : NsC K mg (He.ga K "NoRoom") (He.ga K "BeltError") (He.fAd K ("NoRoom", some "__init__")) fd := by
  unfold nsB at h
  obtain ⟨h, ko⟩ := Bool.and_eq_true_iff.mp h
  have ko := of_decide_eq_true ko
  revert ko
  generalize He.ga K "NoRoom" = C at *
  generalize He.ga K "BeltError" = CB at *
  intro ko
  generalize He.fAd K ("NoRoom", some "__init__") = f at *
  obtain ⟨h, te⟩ := Bool.and_eq_true_iff.mp h
  have all := List.all_eq_true.mp h
  have at_ : ∀ (i : Nat) (z : Bool), (ownB K C f CB)[i]? = some z → z = true := fun i z e => all z (List.mem_of_getElem? e)
  have d : ∀ {p : Prop} [Decidable p], decide p = true → p := fun h => of_decide_eq_true h
  have w1 := d (at_ 1 _ rfl)
  have w2 := d (at_ 2 _ rfl)
  have w3 := d (at_ 3 _ rfl)
  have w4 := at_ 4 _ rfl
  have w7 := d (at_ 7 _ rfl)
  have w8 := d (at_ 8 _ rfl)
  have w9 := at_ 9 _ rfl
  exact ⟨gC, gB, ⟨oexB_ok (at_ 0 _ rfl), w1, w2, w3, w4⟩, d (at_ 16 _ rfl), d (at_ 17 _ rfl), d (at_ 5 _ rfl), d (at_ 6 _ rfl), F, b, of_decide_eq_true te, ⟨w7, w8, w2, w9⟩, ⟨w7, w8, w2, w9, d (at_ 10 _ rfl), d (at_ 11 _ rfl), d (at_ 12 _ rfl), d (at_ 13 _ rfl)⟩, d (at_ 14 _ rfl), d (at_ 15 _ rfl), ko⟩
theorem fun_of_D {K : PySem.W.Frag} {x q : Str} {st : Stmt} {f : Addr} {fd : FuncData} (D : FunD K x q (defArgs st) (defBody st) (defScope st) [] [] f fd) : Fun K x q st f fd := by
  obtain ⟨⟨oc, od, dV, kV, doc, pm, an, cdv, ct, osl, e, lk, ci, dfl, _⟩, kp⟩ := D
  have z : dV = .none := by
    rcases dfl with ⟨_, h⟩ | ⟨h, _⟩
    · exact h
    · exact absurd rfl h
  subst z
  exact ⟨⟨oc, od, kV, doc, pm, an, cdv, ct, osl, e, lk, ci⟩, kp⟩
def hd_first_on_ring : He.DefD := ⟨("first_on_ring", none), "first_on_ring", "first_on_ring", defArgs s_first_on_ring, defBody s_first_on_ring, defScope s_first_on_ring, [], []⟩
def hd_comes_back : He.DefD := ⟨("comes_back", none), "comes_back", "comes_back", defArgs s_comes_back, defBody s_comes_back, defScope s_comes_back, [], []⟩
def hd_is_whole : He.DefD := ⟨("is_whole", none), "is_whole", "is_whole", defArgs s_is_whole, defBody s_is_whole, defScope s_is_whole, [], []⟩
def hd_is_rule : He.DefD := ⟨("is_rule", none), "is_rule", "is_rule", defArgs s_is_rule, defBody s_is_rule, defScope s_is_rule, [], []⟩
def hd_needs : He.DefD := ⟨("needs", none), "needs", "needs", defArgs s_needs, defBody s_needs, defScope s_needs, [], []⟩
def hd_look_room : He.DefD := ⟨("look_room", none), "look_room", "look_room", defArgs s_look_room, defBody s_look_room, defScope s_look_room, [], []⟩
def hd_refuse_room : He.DefD := ⟨("refuse_room", none), "refuse_room", "refuse_room", defArgs s_refuse_room, defBody s_refuse_room, defScope s_refuse_room, [], []⟩
def hd_is_tuple_of : He.DefD := ⟨("is_tuple_of", none), "is_tuple_of", "is_tuple_of", defArgs s_is_tuple_of, defBody s_is_tuple_of, defScope s_is_tuple_of, [], []⟩
def hd_has_form : He.DefD := ⟨("has_form", none), "has_form", "has_form", defArgs s_has_form, defBody s_has_form, defScope s_has_form, [], []⟩
def hd_is_hand_pair : He.DefD := ⟨("is_hand_pair", none), "is_hand_pair", "is_hand_pair", defArgs s_is_hand_pair, defBody s_is_hand_pair, defScope s_is_hand_pair, [], []⟩
def hd_is_belt_triple : He.DefD := ⟨("is_belt_triple", none), "is_belt_triple", "is_belt_triple", defArgs s_is_belt_triple, defBody s_is_belt_triple, defScope s_is_belt_triple, [], []⟩
def hd_wrong_hand : He.DefD := ⟨("wrong_hand", none), "wrong_hand", "wrong_hand", defArgs s_wrong_hand, defBody s_wrong_hand, defScope s_wrong_hand, [], []⟩
def hd_wrong_belt : He.DefD := ⟨("wrong_belt", none), "wrong_belt", "wrong_belt", defArgs s_wrong_belt, defBody s_wrong_belt, defScope s_wrong_belt, [], []⟩
def hd_wrong_count : He.DefD := ⟨("wrong_count", none), "wrong_count", "wrong_count", defArgs s_wrong_count, defBody s_wrong_count, defScope s_wrong_count, [], []⟩
def hd_hand_on_ring : He.DefD := ⟨("hand_on_ring", none), "hand_on_ring", "hand_on_ring", defArgs s_hand_on_ring, defBody s_hand_on_ring, defScope s_hand_on_ring, [], []⟩
def hd_comings : He.DefD := ⟨("comings", none), "comings", "comings", defArgs s_comings, defBody s_comings, defScope s_comings, [], []⟩
def hd_law_flow : He.DefD := ⟨("_law_flow", none), "_law_flow", "_law_flow", defArgs s_law_flow, defBody s_law_flow, defScope s_law_flow, [], []⟩
def hd_law_pick : He.DefD := ⟨("_law_pick", none), "_law_pick", "_law_pick", defArgs s_law_pick, defBody s_law_pick, defScope s_law_pick, [], []⟩
def hd_law_thing : He.DefD := ⟨("_law_thing", none), "_law_thing", "_law_thing", defArgs s_law_thing, defBody s_law_thing, defScope s_law_thing, [], []⟩
def hd_law_needs : He.DefD := ⟨("_law_needs", none), "_law_needs", "_law_needs", defArgs s_law_needs, defBody s_law_needs, defScope s_law_needs, [], []⟩
def hd_law_rule : He.DefD := ⟨("_law_rule", none), "_law_rule", "_law_rule", defArgs s_law_rule, defBody s_law_rule, defScope s_law_rule, [], []⟩
def hd_law_shuffled : He.DefD := ⟨("_law_shuffled", none), "_law_shuffled", "_law_shuffled", defArgs s_law_shuffled, defBody s_law_shuffled, defScope s_law_shuffled, [], []⟩
def hd_law_hands : He.DefD := ⟨("_law_hands", none), "_law_hands", "_law_hands", defArgs s_law_hands, defBody s_law_hands, defScope s_law_hands, [], []⟩
def hd_law_room : He.DefD := ⟨("_law_room", none), "_law_room", "_law_room", defArgs s_law_room, defBody s_law_room, defScope s_law_room, [], []⟩
def hd_law_is_whole : He.DefD := ⟨("_law_is_whole", none), "_law_is_whole", "_law_is_whole", defArgs s_law_is_whole, defBody s_law_is_whole, defScope s_law_is_whole, [], []⟩
def hd_law_is_rule : He.DefD := ⟨("_law_is_rule", none), "_law_is_rule", "_law_is_rule", defArgs s_law_is_rule, defBody s_law_is_rule, defScope s_law_is_rule, [], []⟩
def hd_law_pairs : He.DefD := ⟨("_law_pairs", none), "_law_pairs", "_law_pairs", defArgs s_law_pairs, defBody s_law_pairs, defScope s_law_pairs, [], []⟩
def hd_law_formed : He.DefD := ⟨("_law_formed", none), "_law_formed", "_law_formed", defArgs s_law_formed, defBody s_law_formed, defScope s_law_formed, [], []⟩
def hd_law_round : He.DefD := ⟨("_law_round", none), "_law_round", "_law_round", defArgs s_law_round, defBody s_law_round, defScope s_law_round, [], []⟩
def hd_law_told : He.DefD := ⟨("_law_told", none), "_law_told", "_law_told", defArgs s_law_told, defBody s_law_told, defScope s_law_told, [], []⟩
def hd_law_emptied : He.DefD := ⟨("_law_emptied", none), "_law_emptied", "_law_emptied", defArgs s_law_emptied, defBody s_law_emptied, defScope s_law_emptied, [], []⟩
def hd_law_right : He.DefD := ⟨("_law_right", none), "_law_right", "_law_right", defArgs s_law_right, defBody s_law_right, defScope s_law_right, [], []⟩
def hd_law : He.DefD := ⟨("law", none), "law", "law", defArgs s_law, defBody s_law, defScope s_law, [], []⟩
def hd_NsInit : He.DefD := ⟨("NoRoom", some "__init__"), "__init__", "NoRoom.__init__", defArgs s_NoRoom_init, defBody s_NoRoom_init, defScope s_NoRoom_init, [], []⟩
def hFn : List He.DefD := [hd_first_on_ring, hd_comes_back, hd_is_whole, hd_is_rule, hd_needs, hd_look_room, hd_refuse_room, hd_is_tuple_of, hd_has_form, hd_is_hand_pair, hd_is_belt_triple, hd_wrong_hand, hd_wrong_belt, hd_wrong_count, hd_hand_on_ring, hd_comings, hd_law_flow, hd_law_pick, hd_law_thing, hd_law_needs, hd_law_rule, hd_law_shuffled, hd_law_hands, hd_law_room, hd_law_is_whole, hd_law_is_rule, hd_law_pairs, hd_law_formed, hd_law_round, hd_law_told, hd_law_emptied, hd_law_right, hd_law, hd_NsInit]
def needsL : List (Str × He.Dv) := [("same", .int 1), ("sum", .int 2), ("gap", .int 2), ("below", .int 2), ("most", .int 2), ("least", .int 2), ("pick", .int 3), ("times", .int 1), ("always", .int 0), ("in", .int 0), ("out", .int 1)]
def needsT : He.Tab := (fun K => He.ga K "NEEDS", ["same", "sum", "gap", "below", "most", "least", "pick", "times", "always", "in", "out"])
theorem needs_yes {K : PySem.W.Frag} (h : He.valsB K (He.ga K "NEEDS") needsL = true) {z : Str} (hz : z ∈ eleven) : ∃ t, PySem.W.nsIn K (He.ga K "NEEDS") z = some (some (.int (needN z) t)) := by
  have key : ∀ i : Int, (z, He.Dv.int i) ∈ needsL → ∃ t, PySem.W.nsIn K (He.ga K "NEEDS") z = some (some (.int i t)) := fun i hm => by
    obtain ⟨u, e, r⟩ := He.valsB_ok h hm
    obtain ⟨t, rfl⟩ := r
    exact ⟨t, e⟩
  have key2 : ∀ i : Int, needN z = i → (z, He.Dv.int i) ∈ needsL → ∃ t, PySem.W.nsIn K (He.ga K "NEEDS") z = some (some (.int (needN z) t)) := fun i e hm => by
    rw [e]
    exact key i hm
  unfold needsL at key2
  unfold eleven at hz
  simp only [List.mem_cons, List.not_mem_nil, or_false] at hz
  rcases hz with h | h | h | h | h | h | h | h | h | h | h <;> subst h
  · exact key2 1 (by decide +kernel) (List.mem_cons_self ..)
  · exact key2 2 (by decide +kernel) (List.mem_cons_of_mem _ (List.mem_cons_self ..))
  · exact key2 2 (by decide +kernel) (List.mem_cons_of_mem _ (List.mem_cons_of_mem _ (List.mem_cons_self ..)))
  · exact key2 2 (by decide +kernel) (List.mem_cons_of_mem _ (List.mem_cons_of_mem _ (List.mem_cons_of_mem _ (List.mem_cons_self ..))))
  · exact key2 2 (by decide +kernel) (List.mem_cons_of_mem _ (List.mem_cons_of_mem _ (List.mem_cons_of_mem _ (List.mem_cons_of_mem _ (List.mem_cons_self ..)))))
  · exact key2 2 (by decide +kernel) (List.mem_cons_of_mem _ (List.mem_cons_of_mem _ (List.mem_cons_of_mem _ (List.mem_cons_of_mem _ (List.mem_cons_of_mem _ (List.mem_cons_self ..))))))
  · exact key2 3 (by decide +kernel) (List.mem_cons_of_mem _ (List.mem_cons_of_mem _ (List.mem_cons_of_mem _ (List.mem_cons_of_mem _ (List.mem_cons_of_mem _ (List.mem_cons_of_mem _ (List.mem_cons_self ..)))))))
  · exact key2 1 (by decide +kernel) (List.mem_cons_of_mem _ (List.mem_cons_of_mem _ (List.mem_cons_of_mem _ (List.mem_cons_of_mem _ (List.mem_cons_of_mem _ (List.mem_cons_of_mem _ (List.mem_cons_of_mem _ (List.mem_cons_self ..))))))))
  · exact key2 0 (by decide +kernel) (List.mem_cons_of_mem _ (List.mem_cons_of_mem _ (List.mem_cons_of_mem _ (List.mem_cons_of_mem _ (List.mem_cons_of_mem _ (List.mem_cons_of_mem _ (List.mem_cons_of_mem _ (List.mem_cons_of_mem _ (List.mem_cons_self ..)))))))))
  · exact key2 0 (by decide +kernel) (List.mem_cons_of_mem _ (List.mem_cons_of_mem _ (List.mem_cons_of_mem _ (List.mem_cons_of_mem _ (List.mem_cons_of_mem _ (List.mem_cons_of_mem _ (List.mem_cons_of_mem _ (List.mem_cons_of_mem _ (List.mem_cons_of_mem _ (List.mem_cons_self ..))))))))))
  · exact key2 1 (by decide +kernel) (List.mem_cons_of_mem _ (List.mem_cons_of_mem _ (List.mem_cons_of_mem _ (List.mem_cons_of_mem _ (List.mem_cons_of_mem _ (List.mem_cons_of_mem _ (List.mem_cons_of_mem _ (List.mem_cons_of_mem _ (List.mem_cons_of_mem _ (List.mem_cons_of_mem _ (List.mem_cons_self ..)))))))))))
def hFa : List He.Fa := [.glo "first_on_ring", .glo "comes_back", .glo "is_whole", .glo "is_rule", .glo "needs", .glo "look_room", .glo "refuse_room", .glo "is_tuple_of", .glo "has_form", .glo "is_hand_pair", .glo "is_belt_triple", .glo "wrong_hand", .glo "wrong_belt", .glo "wrong_count", .glo "hand_on_ring", .glo "comings", .glo "_law_flow", .glo "_law_pick", .glo "_law_thing", .glo "_law_needs", .glo "_law_rule", .glo "_law_shuffled", .glo "_law_hands", .glo "_law_room", .glo "_law_is_whole", .glo "_law_is_rule", .glo "_law_pairs", .glo "_law_formed", .glo "_law_round", .glo "_law_told", .glo "_law_emptied", .glo "_law_right", .glo "law", .free "all", .free "bool", .free "enumerate", .free "int", .free "isinstance", .free "len", .free "list", .free "max", .free "min", .free "range", .free "repr", .free "set", .free "str", .free "tuple", .glo "IN_RULE", .glo "OUT_RULE", .glo "WITH_NUMBER", .glo "NoRoom", .glo "BeltError", .glo "NoText", .glo "NoShift", .glo "NoFormula", .glo "NoName", .glo "NoRow", .glo "NEEDS"]
def hEx (K : PySem.W.Frag) : Bool := He.tupB K "IN_RULE" [.str "in"] && He.tupB K "OUT_RULE" [.str "out"] && He.tupB K "WITH_NUMBER" [.str "times", .str "always"] && nsB K && He.valsB K (He.ga K "NEEDS") needsL
def hTf : List (Str × Option Str) := [("has_form", none), ("is_belt_triple", none)]
abbrev hR : PySem.W.OpenRow := PySem.W.OpenLaw.row PySem.Challenge.rw_beltshift_k09_rings_without_trays
abbrev hk : PySem.W.Hook := He.hookX 4 hFa hFn [needsT] hTf hEx
def hOb (s : PySem.W.SharedT) : He.AlX := He.obsX 4 hFa hFn [needsT] hTf hEx (HandSHeadRun.getT s)
theorem hOb_eq (s : PySem.W.SharedT) : hOb s = hk.obs s.abs := He.obsX_eq (HandSHeadRun.getT_eq s)
def hN0 : List Str := ["BeltError", "NoText", "NoRoom", "NoFormula", "NoShift", "NoName", "NoRow", "first_on_ring", "comes_back", "is_whole", "NEEDS", "WITH_NUMBER", "is_rule", "needs", "IN_RULE", "OUT_RULE", "look_room", "refuse_room", "is_tuple_of", "has_form", "is_hand_pair", "is_belt_triple", "wrong_hand", "wrong_belt", "wrong_count", "hand_on_ring", "comings", "_law_flow", "_law_pick", "_law_thing"]
def hN1 : List Str := ["_law_needs", "_law_rule", "_law_shuffled", "_law_hands", "_law_room", "_law_is_whole", "_law_is_rule", "_law_pairs", "_law_formed", "_law_round", "_law_told", "_law_emptied", "_law_right"]
def hNames : List Str := hN0 ++ hN1
set_option maxHeartbeats 0 in
theorem all_mkX {w : World} {K : PySem.W.Frag} {h : Heap} {mg : Str → Option Value} {fa : Addr} (X : K.In h) (G : h.Ns mainGlobals mg) (hfa : mg "law" = some (.ref fa)) (c : He.SaysX hFa hFn [needsT] hTf hEx w h K) : LawAtG PySem.Challenge.rw_beltshift_k09_rings_without_trays w K CX0 9 63 "_law_script" mg fa h := by
  have cd := c.t.d
  obtain ⟨fd0, D0⟩ := cd.def_ 0 (d := hd_first_on_ring) rfl
  have F0 : Fun K "first_on_ring" "first_on_ring" s_first_on_ring (He.ga K "first_on_ring") fd0 := fun_of_D D0
  have g0 : mg "first_on_ring" = some (.ref (He.ga K "first_on_ring")) := He.glo_ok X G (cd.fact 0 (f := .glo "first_on_ring") rfl)
  have b0 := F0.binds (ps := ["places", "steps"]) fun _ _ _ _ _ _ us hl => match us, hl with | [_, _], _ => rfl
  obtain ⟨fd1, D1⟩ := cd.def_ 1 (d := hd_comes_back) rfl
  have F1 : Fun K "comes_back" "comes_back" s_comes_back (He.ga K "comes_back") fd1 := fun_of_D D1
  have g1 : mg "comes_back" = some (.ref (He.ga K "comes_back")) := He.glo_ok X G (cd.fact 1 (f := .glo "comes_back") rfl)
  have b1 := F1.binds (ps := ["place", "steps"]) fun _ _ _ _ _ _ us hl => match us, hl with | [_, _], _ => rfl
  obtain ⟨fd2, D2⟩ := cd.def_ 2 (d := hd_is_whole) rfl
  have F2 : Fun K "is_whole" "is_whole" s_is_whole (He.ga K "is_whole") fd2 := fun_of_D D2
  have g2 : mg "is_whole" = some (.ref (He.ga K "is_whole")) := He.glo_ok X G (cd.fact 2 (f := .glo "is_whole") rfl)
  have b2 := F2.binds (ps := ["thing"]) fun _ _ _ _ _ _ us hl => match us, hl with | [_], _ => rfl
  obtain ⟨fd3, D3⟩ := cd.def_ 3 (d := hd_is_rule) rfl
  have F3 : Fun K "is_rule" "is_rule" s_is_rule (He.ga K "is_rule") fd3 := fun_of_D D3
  have g3 : mg "is_rule" = some (.ref (He.ga K "is_rule")) := He.glo_ok X G (cd.fact 3 (f := .glo "is_rule") rfl)
  have b3 := F3.binds (ps := ["thing"]) fun _ _ _ _ _ _ us hl => match us, hl with | [_], _ => rfl
  obtain ⟨fd4, D4⟩ := cd.def_ 4 (d := hd_needs) rfl
  have F4 : Fun K "needs" "needs" s_needs (He.ga K "needs") fd4 := fun_of_D D4
  have g4 : mg "needs" = some (.ref (He.ga K "needs")) := He.glo_ok X G (cd.fact 4 (f := .glo "needs") rfl)
  have b4 := F4.binds (ps := ["rule"]) fun _ _ _ _ _ _ us hl => match us, hl with | [_], _ => rfl
  obtain ⟨fd5, D5⟩ := cd.def_ 5 (d := hd_look_room) rfl
  have F5 : Fun K "look_room" "look_room" s_look_room (He.ga K "look_room") fd5 := fun_of_D D5
  have g5 : mg "look_room" = some (.ref (He.ga K "look_room")) := He.glo_ok X G (cd.fact 5 (f := .glo "look_room") rfl)
  have b5 := F5.binds (ps := ["room"]) fun _ _ _ _ _ _ us hl => match us, hl with | [_], _ => rfl
  obtain ⟨fd6, D6⟩ := cd.def_ 6 (d := hd_refuse_room) rfl
  have F6 : Fun K "refuse_room" "refuse_room" s_refuse_room (He.ga K "refuse_room") fd6 := fun_of_D D6
  have g6 : mg "refuse_room" = some (.ref (He.ga K "refuse_room")) := He.glo_ok X G (cd.fact 6 (f := .glo "refuse_room") rfl)
  have b6 := F6.binds (ps := ["word", "at"]) fun _ _ _ _ _ _ us hl => match us, hl with | [_, _], _ => rfl
  obtain ⟨fd7, D7⟩ := cd.def_ 7 (d := hd_is_tuple_of) rfl
  have F7 : Fun K "is_tuple_of" "is_tuple_of" s_is_tuple_of (He.ga K "is_tuple_of") fd7 := fun_of_D D7
  have g7 : mg "is_tuple_of" = some (.ref (He.ga K "is_tuple_of")) := He.glo_ok X G (cd.fact 7 (f := .glo "is_tuple_of") rfl)
  have b7 := F7.binds (ps := ["thing", "many"]) fun _ _ _ _ _ _ us hl => match us, hl with | [_, _], _ => rfl
  obtain ⟨fd8, D8⟩ := cd.def_ 8 (d := hd_has_form) rfl
  have F8 : Fun K "has_form" "has_form" s_has_form (He.ga K "has_form") fd8 := fun_of_D D8
  have g8 : mg "has_form" = some (.ref (He.ga K "has_form")) := He.glo_ok X G (cd.fact 8 (f := .glo "has_form") rfl)
  have b8 := F8.binds (ps := ["room"]) fun _ _ _ _ _ _ us hl => match us, hl with | [_], _ => rfl
  obtain ⟨fd9, D9⟩ := cd.def_ 9 (d := hd_is_hand_pair) rfl
  have F9 : Fun K "is_hand_pair" "is_hand_pair" s_is_hand_pair (He.ga K "is_hand_pair") fd9 := fun_of_D D9
  have g9 : mg "is_hand_pair" = some (.ref (He.ga K "is_hand_pair")) := He.glo_ok X G (cd.fact 9 (f := .glo "is_hand_pair") rfl)
  have b9 := F9.binds (ps := ["hand"]) fun _ _ _ _ _ _ us hl => match us, hl with | [_], _ => rfl
  obtain ⟨fd10, D10⟩ := cd.def_ 10 (d := hd_is_belt_triple) rfl
  have F10 : Fun K "is_belt_triple" "is_belt_triple" s_is_belt_triple (He.ga K "is_belt_triple") fd10 := fun_of_D D10
  have g10 : mg "is_belt_triple" = some (.ref (He.ga K "is_belt_triple")) := He.glo_ok X G (cd.fact 10 (f := .glo "is_belt_triple") rfl)
  have b10 := F10.binds (ps := ["belt"]) fun _ _ _ _ _ _ us hl => match us, hl with | [_], _ => rfl
  obtain ⟨fd11, D11⟩ := cd.def_ 11 (d := hd_wrong_hand) rfl
  have F11 : Fun K "wrong_hand" "wrong_hand" s_wrong_hand (He.ga K "wrong_hand") fd11 := fun_of_D D11
  have g11 : mg "wrong_hand" = some (.ref (He.ga K "wrong_hand")) := He.glo_ok X G (cd.fact 11 (f := .glo "wrong_hand") rfl)
  have b11 := F11.binds (ps := ["room"]) fun _ _ _ _ _ _ us hl => match us, hl with | [_], _ => rfl
  obtain ⟨fd12, D12⟩ := cd.def_ 12 (d := hd_wrong_belt) rfl
  have F12 : Fun K "wrong_belt" "wrong_belt" s_wrong_belt (He.ga K "wrong_belt") fd12 := fun_of_D D12
  have g12 : mg "wrong_belt" = some (.ref (He.ga K "wrong_belt")) := He.glo_ok X G (cd.fact 12 (f := .glo "wrong_belt") rfl)
  have b12 := F12.binds (ps := ["room"]) fun _ _ _ _ _ _ us hl => match us, hl with | [_], _ => rfl
  obtain ⟨fd13, D13⟩ := cd.def_ 13 (d := hd_wrong_count) rfl
  have F13 : Fun K "wrong_count" "wrong_count" s_wrong_count (He.ga K "wrong_count") fd13 := fun_of_D D13
  have g13 : mg "wrong_count" = some (.ref (He.ga K "wrong_count")) := He.glo_ok X G (cd.fact 13 (f := .glo "wrong_count") rfl)
  have b13 := F13.binds (ps := ["room"]) fun _ _ _ _ _ _ us hl => match us, hl with | [_], _ => rfl
  obtain ⟨fd14, D14⟩ := cd.def_ 14 (d := hd_hand_on_ring) rfl
  have F14 : Fun K "hand_on_ring" "hand_on_ring" s_hand_on_ring (He.ga K "hand_on_ring") fd14 := fun_of_D D14
  have g14 : mg "hand_on_ring" = some (.ref (He.ga K "hand_on_ring")) := He.glo_ok X G (cd.fact 14 (f := .glo "hand_on_ring") rfl)
  have b14 := F14.binds (ps := ["room"]) fun _ _ _ _ _ _ us hl => match us, hl with | [_], _ => rfl
  obtain ⟨fd15, D15⟩ := cd.def_ 15 (d := hd_comings) rfl
  have F15 : Fun K "comings" "comings" s_comings (He.ga K "comings") fd15 := fun_of_D D15
  have g15 : mg "comings" = some (.ref (He.ga K "comings")) := He.glo_ok X G (cd.fact 15 (f := .glo "comings") rfl)
  have b15 := F15.binds (ps := ["room", "hand"]) fun _ _ _ _ _ _ us hl => match us, hl with | [_, _], _ => rfl
  obtain ⟨fd16, D16⟩ := cd.def_ 16 (d := hd_law_flow) rfl
  have F16 : Fun K "_law_flow" "_law_flow" s_law_flow (He.ga K "_law_flow") fd16 := fun_of_D D16
  have g16 : mg "_law_flow" = some (.ref (He.ga K "_law_flow")) := He.glo_ok X G (cd.fact 16 (f := .glo "_law_flow") rfl)
  have b16 := F16.binds (ps := ["_law_script"]) fun _ _ _ _ _ _ us hl => match us, hl with | [_], _ => rfl
  obtain ⟨fd17, D17⟩ := cd.def_ 17 (d := hd_law_pick) rfl
  have F17 : Fun K "_law_pick" "_law_pick" s_law_pick (He.ga K "_law_pick") fd17 := fun_of_D D17
  have g17 : mg "_law_pick" = some (.ref (He.ga K "_law_pick")) := He.glo_ok X G (cd.fact 17 (f := .glo "_law_pick") rfl)
  have b17 := F17.binds (ps := ["_law_flow_here", "_law_many"]) fun _ _ _ _ _ _ us hl => match us, hl with | [_, _], _ => rfl
  obtain ⟨fd18, D18⟩ := cd.def_ 18 (d := hd_law_thing) rfl
  have F18 : Fun K "_law_thing" "_law_thing" s_law_thing (He.ga K "_law_thing") fd18 := fun_of_D D18
  have g18 : mg "_law_thing" = some (.ref (He.ga K "_law_thing")) := He.glo_ok X G (cd.fact 18 (f := .glo "_law_thing") rfl)
  have b18 := F18.binds (ps := ["_law_flow_here"]) fun _ _ _ _ _ _ us hl => match us, hl with | [_], _ => rfl
  obtain ⟨fd19, D19⟩ := cd.def_ 19 (d := hd_law_needs) rfl
  have F19 : Fun K "_law_needs" "_law_needs" s_law_needs (He.ga K "_law_needs") fd19 := fun_of_D D19
  have g19 : mg "_law_needs" = some (.ref (He.ga K "_law_needs")) := He.glo_ok X G (cd.fact 19 (f := .glo "_law_needs") rfl)
  have b19 := F19.binds (ps := ["_law_rule_here"]) fun _ _ _ _ _ _ us hl => match us, hl with | [_], _ => rfl
  obtain ⟨fd20, D20⟩ := cd.def_ 20 (d := hd_law_rule) rfl
  have F20 : Fun K "_law_rule" "_law_rule" s_law_rule (He.ga K "_law_rule") fd20 := fun_of_D D20
  have g20 : mg "_law_rule" = some (.ref (He.ga K "_law_rule")) := He.glo_ok X G (cd.fact 20 (f := .glo "_law_rule") rfl)
  have b20 := F20.binds (ps := ["_law_flow_here", "_law_most"]) fun _ _ _ _ _ _ us hl => match us, hl with | [_, _], _ => rfl
  obtain ⟨fd21, D21⟩ := cd.def_ 21 (d := hd_law_shuffled) rfl
  have F21 : Fun K "_law_shuffled" "_law_shuffled" s_law_shuffled (He.ga K "_law_shuffled") fd21 := fun_of_D D21
  have g21 : mg "_law_shuffled" = some (.ref (He.ga K "_law_shuffled")) := He.glo_ok X G (cd.fact 21 (f := .glo "_law_shuffled") rfl)
  have b21 := F21.binds (ps := ["_law_flow_here", "_law_some"]) fun _ _ _ _ _ _ us hl => match us, hl with | [_, _], _ => rfl
  obtain ⟨fd22, D22⟩ := cd.def_ 22 (d := hd_law_hands) rfl
  have F22 : Fun K "_law_hands" "_law_hands" s_law_hands (He.ga K "_law_hands") fd22 := fun_of_D D22
  have g22 : mg "_law_hands" = some (.ref (He.ga K "_law_hands")) := He.glo_ok X G (cd.fact 22 (f := .glo "_law_hands") rfl)
  have b22 := F22.binds (ps := ["_law_flow_here", "_law_many"]) fun _ _ _ _ _ _ us hl => match us, hl with | [_, _], _ => rfl
  obtain ⟨fd23, D23⟩ := cd.def_ 23 (d := hd_law_room) rfl
  have F23 : Fun K "_law_room" "_law_room" s_law_room (He.ga K "_law_room") fd23 := fun_of_D D23
  have g23 : mg "_law_room" = some (.ref (He.ga K "_law_room")) := He.glo_ok X G (cd.fact 23 (f := .glo "_law_room") rfl)
  have b23 := F23.binds (ps := ["_law_flow_here", "_law_most"]) fun _ _ _ _ _ _ us hl => match us, hl with | [_, _], _ => rfl
  obtain ⟨fd24, D24⟩ := cd.def_ 24 (d := hd_law_is_whole) rfl
  have F24 : Fun K "_law_is_whole" "_law_is_whole" s_law_is_whole (He.ga K "_law_is_whole") fd24 := fun_of_D D24
  have g24 : mg "_law_is_whole" = some (.ref (He.ga K "_law_is_whole")) := He.glo_ok X G (cd.fact 24 (f := .glo "_law_is_whole") rfl)
  have b24 := F24.binds (ps := ["_law_thing_here"]) fun _ _ _ _ _ _ us hl => match us, hl with | [_], _ => rfl
  obtain ⟨fd25, D25⟩ := cd.def_ 25 (d := hd_law_is_rule) rfl
  have F25 : Fun K "_law_is_rule" "_law_is_rule" s_law_is_rule (He.ga K "_law_is_rule") fd25 := fun_of_D D25
  have g25 : mg "_law_is_rule" = some (.ref (He.ga K "_law_is_rule")) := He.glo_ok X G (cd.fact 25 (f := .glo "_law_is_rule") rfl)
  have b25 := F25.binds (ps := ["_law_thing_here"]) fun _ _ _ _ _ _ us hl => match us, hl with | [_], _ => rfl
  obtain ⟨fd26, D26⟩ := cd.def_ 26 (d := hd_law_pairs) rfl
  have F26 : Fun K "_law_pairs" "_law_pairs" s_law_pairs (He.ga K "_law_pairs") fd26 := fun_of_D D26
  have g26 : mg "_law_pairs" = some (.ref (He.ga K "_law_pairs")) := He.glo_ok X G (cd.fact 26 (f := .glo "_law_pairs") rfl)
  have b26 := F26.binds (ps := ["_law_things", "_law_many"]) fun _ _ _ _ _ _ us hl => match us, hl with | [_, _], _ => rfl
  obtain ⟨fd27, D27⟩ := cd.def_ 27 (d := hd_law_formed) rfl
  have F27 : Fun K "_law_formed" "_law_formed" s_law_formed (He.ga K "_law_formed") fd27 := fun_of_D D27
  have g27 : mg "_law_formed" = some (.ref (He.ga K "_law_formed")) := He.glo_ok X G (cd.fact 27 (f := .glo "_law_formed") rfl)
  have b27 := F27.binds (ps := ["_law_room_here"]) fun _ _ _ _ _ _ us hl => match us, hl with | [_], _ => rfl
  obtain ⟨fd28, D28⟩ := cd.def_ 28 (d := hd_law_round) rfl
  have F28 : Fun K "_law_round" "_law_round" s_law_round (He.ga K "_law_round") fd28 := fun_of_D D28
  have g28 : mg "_law_round" = some (.ref (He.ga K "_law_round")) := He.glo_ok X G (cd.fact 28 (f := .glo "_law_round") rfl)
  have b28 := F28.binds (ps := ["_law_room_here"]) fun _ _ _ _ _ _ us hl => match us, hl with | [_], _ => rfl
  obtain ⟨fd29, D29⟩ := cd.def_ 29 (d := hd_law_told) rfl
  have F29 : Fun K "_law_told" "_law_told" s_law_told (He.ga K "_law_told") fd29 := fun_of_D D29
  have g29 : mg "_law_told" = some (.ref (He.ga K "_law_told")) := He.glo_ok X G (cd.fact 29 (f := .glo "_law_told") rfl)
  have b29 := F29.binds (ps := ["_law_room_here"]) fun _ _ _ _ _ _ us hl => match us, hl with | [_], _ => rfl
  obtain ⟨fd30, D30⟩ := cd.def_ 30 (d := hd_law_emptied) rfl
  have F30 : Fun K "_law_emptied" "_law_emptied" s_law_emptied (He.ga K "_law_emptied") fd30 := fun_of_D D30
  have g30 : mg "_law_emptied" = some (.ref (He.ga K "_law_emptied")) := He.glo_ok X G (cd.fact 30 (f := .glo "_law_emptied") rfl)
  have b30 := F30.binds (ps := ["_law_flow_here", "_law_room_here"]) fun _ _ _ _ _ _ us hl => match us, hl with | [_, _], _ => rfl
  obtain ⟨fd31, D31⟩ := cd.def_ 31 (d := hd_law_right) rfl
  have F31 : Fun K "_law_right" "_law_right" s_law_right (He.ga K "_law_right") fd31 := fun_of_D D31
  have g31 : mg "_law_right" = some (.ref (He.ga K "_law_right")) := He.glo_ok X G (cd.fact 31 (f := .glo "_law_right") rfl)
  have b31 := F31.binds (ps := ["_law_room_here"]) fun _ _ _ _ _ _ us hl => match us, hl with | [_], _ => rfl
  obtain ⟨fd32, D32⟩ := cd.def_ 32 (d := hd_law) rfl
  have F32 : Fun K "law" "law" s_law (He.ga K "law") fd32 := fun_of_D D32
  have g32 : mg "law" = some (.ref (He.ga K "law")) := He.glo_ok X G (cd.fact 32 (f := .glo "law") rfl)
  have ex := c.more
  unfold hEx at ex
  simp only [Bool.and_eq_true] at ex
  obtain ⟨⟨⟨⟨ex0, ex1⟩, ex2⟩, ex3⟩, ex4⟩ := ex
  obtain ⟨fdNs, DNs⟩ := cd.def_ 33 (d := hd_NsInit) rfl
  have FNs : Fun K "__init__" "NoRoom.__init__" s_NoRoom_init (He.fAd K ("NoRoom", some "__init__")) fdNs := fun_of_D DNs
  have bNs := FNs.binds (ps := ["self", "word", "at"]) fun _ _ _ _ _ _ us hl => match us, hl with | [_, _, _], _ => rfl
  have gNs : mg "NoRoom" = some (.ref (He.ga K "NoRoom")) := He.glo_ok X G (cd.fact 50 (f := .glo "NoRoom") rfl)
  have gBe : mg "BeltError" = some (.ref (He.ga K "BeltError")) := He.glo_ok X G (cd.fact 51 (f := .glo "BeltError") rfl)
  have T : Top w K mg := ⟨⟨_, fd0, F0, b0, g0⟩, ⟨_, fd1, F1, b1, g1⟩, ⟨_, fd2, F2, b2, g2⟩, ⟨_, fd3, F3, b3, g3⟩, ⟨_, fd4, F4, b4, g4⟩, ⟨_, fd5, F5, b5, g5⟩, ⟨_, fd6, F6, b6, g6⟩, ⟨_, fd7, F7, b7, g7⟩, ⟨_, fd8, F8, b8, g8⟩, ⟨_, fd9, F9, b9, g9⟩, ⟨_, fd10, F10, b10, g10⟩, ⟨_, fd11, F11, b11, g11⟩, ⟨_, fd12, F12, b12, g12⟩, ⟨_, fd13, F13, b13, g13⟩, ⟨_, fd14, F14, b14, g14⟩, ⟨_, fd15, F15, b15, g15⟩, ⟨_, fd16, F16, b16, g16⟩, ⟨_, fd17, F17, b17, g17⟩, ⟨_, fd18, F18, b18, g18⟩, ⟨_, fd19, F19, b19, g19⟩, ⟨_, fd20, F20, b20, g20⟩, ⟨_, fd21, F21, b21, g21⟩, ⟨_, fd22, F22, b22, g22⟩, ⟨_, fd23, F23, b23, g23⟩, ⟨_, fd24, F24, b24, g24⟩, ⟨_, fd25, F25, b25, g25⟩, ⟨_, fd26, F26, b26, g26⟩, ⟨_, fd27, F27, b27, g27⟩, ⟨_, fd28, F28, b28, g28⟩, ⟨_, fd29, F29, b29, g29⟩, ⟨_, fd30, F30, b30, g30⟩, ⟨_, fd31, F31, b31, g31⟩, He.free_ok X G (cd.fact 33 (f := .free "all") rfl), He.free_ok X G (cd.fact 34 (f := .free "bool") rfl), He.free_ok X G (cd.fact 35 (f := .free "enumerate") rfl), He.free_ok X G (cd.fact 36 (f := .free "int") rfl), He.free_ok X G (cd.fact 37 (f := .free "isinstance") rfl), He.free_ok X G (cd.fact 38 (f := .free "len") rfl), He.free_ok X G (cd.fact 39 (f := .free "list") rfl), He.free_ok X G (cd.fact 40 (f := .free "max") rfl), He.free_ok X G (cd.fact 41 (f := .free "min") rfl), He.free_ok X G (cd.fact 42 (f := .free "range") rfl), He.free_ok X G (cd.fact 43 (f := .free "repr") rfl), He.free_ok X G (cd.fact 44 (f := .free "set") rfl), He.free_ok X G (cd.fact 45 (f := .free "str") rfl), He.free_ok X G (cd.fact 46 (f := .free "tuple") rfl), ⟨_, He.glo_ok X G (cd.fact 47 (f := .glo "IN_RULE") rfl), fun H => He.tupB_ok ex0 H⟩, ⟨_, He.glo_ok X G (cd.fact 48 (f := .glo "OUT_RULE") rfl), fun H => He.tupB_ok ex1 H⟩, ⟨_, He.glo_ok X G (cd.fact 49 (f := .glo "WITH_NUMBER") rfl), fun H => He.tupB_ok ex2 H⟩, ⟨_, He.glo_ok X G (cd.fact 57 (f := .glo "NEEDS") rfl), ⟨c.t.tab 0 (t := needsT), fun z hz => needs_yes ex4 hz⟩⟩, ⟨_, nsB_ok ex3 gNs gBe FNs bNs⟩, He.glo_ok X G (cd.fact 52 (f := .glo "NoText") rfl), He.glo_ok X G (cd.fact 53 (f := .glo "NoShift") rfl), He.glo_ok X G (cd.fact 54 (f := .glo "NoFormula") rfl), He.glo_ok X G (cd.fact 55 (f := .glo "NoName") rfl), He.glo_ok X G (cd.fact 56 (f := .glo "NoRow") rfl)⟩
  have e := hfa.symm.trans g32
  cases e
  have law_b : ∀ (s : Shared) (v : Value), BindsTo s fd32 ⟨[v], []⟩ [("_law_script", v)] := fun s v => by
    obtain ⟨_, _, _, _, _, _, _, _, _, rfl, _, _⟩ := F32.ex
    exact .of_eq rfl
  refine ⟨fd32, [He.cT K ("has_form", none), He.cT K ("is_belt_triple", none)], sp_law K ((He.cT K ("has_form", none)).2, (He.cT K ("is_belt_triple", none)).2), fun p hp => ?_, fun p hp => ?_, fun p hp => ?_, law_b, fun H a ns hl _ hT hS => ⟨a, ns, rfl, hS, hl, ⟨⟨#[], hT (He.cT K ("has_form", none)) (List.mem_cons_self ..), trivial⟩, ⟨#[], hT (He.cT K ("is_belt_triple", none)) (List.mem_cons_of_mem _ (List.mem_cons_self ..)), trivial⟩⟩, fun _ => rfl⟩, fun base _ _ TB => ?_⟩
  · have hin : ∀ p ∈ [He.cT K ("has_form", none), He.cT K ("is_belt_triple", none)], ∃ q ∈ hTf, p = He.cT K q := fun p hp => by
      rcases List.mem_cons.mp hp with rfl | hp
      · exact ⟨_, List.mem_cons_self .., rfl⟩
      rcases List.mem_cons.mp hp with rfl | hp
      · exact ⟨_, (List.mem_cons_of_mem _ (List.mem_cons_self ..)), rfl⟩
      cases hp
    obtain ⟨q, hq, rfl⟩ := hin p hp
    exact c.empty _ hq
  · have hin : ∀ p ∈ [He.cT K ("has_form", none), He.cT K ("is_belt_triple", none)], ∃ q ∈ hTf, p = He.cT K q := fun p hp => by
      rcases List.mem_cons.mp hp with rfl | hp
      · exact ⟨_, List.mem_cons_self .., rfl⟩
      rcases List.mem_cons.mp hp with rfl | hp
      · exact ⟨_, (List.mem_cons_of_mem _ (List.mem_cons_self ..)), rfl⟩
      cases hp
    obtain ⟨q, hq, rfl⟩ := hin p hp
    exact c.out _ hq
  · have hin : ∀ p ∈ [He.cT K ("has_form", none), He.cT K ("is_belt_triple", none)], ∃ q ∈ hTf, p = He.cT K q := fun p hp => by
      rcases List.mem_cons.mp hp with rfl | hp
      · exact ⟨_, List.mem_cons_self .., rfl⟩
      rcases List.mem_cons.mp hp with rfl | hp
      · exact ⟨_, (List.mem_cons_of_mem _ (List.mem_cons_self ..)), rfl⟩
      cases hp
    obtain ⟨q, hq, rfl⟩ := hin p hp
    exact PySem.W.codeHd_of_K X (c.hd _ hq)
  have TB0 := TB _ (List.mem_cons_self ..)
  have TC0 : GxR.TabB base mg (He.codeOf K ("has_form", none)) (He.tabOf K (He.codeOf K ("has_form", none))) := ⟨TB0.code, TB0.bm, TB0.gP⟩
  haveI : TabF K mg base _ ((He.cT K ("has_form", none)).2, (He.cT K ("is_belt_triple", none)).2) := ⟨TC0, fun f fd F m => by
    have e := m.symm.trans g8
    cases e
    obtain ⟨_, _, _, _, _, _, cdv, _, _, rfl, lk, ci⟩ := F.ex
    obtain ⟨c0, rfl⟩ := He.codeIn_ref ci
    exact congrArg Value.ref (He.codeOf_eq (p := ("has_form", none)) lk rfl).symm⟩
  have TB1 := TB _ (List.mem_cons_of_mem _ (List.mem_cons_self ..))
  have TC1 : GxR.TabB base mg (He.codeOf K ("is_belt_triple", none)) (He.tabOf K (He.codeOf K ("is_belt_triple", none))) := ⟨TB1.code, TB1.bm, TB1.gP⟩
  haveI : TabC K mg base _ ((He.cT K ("has_form", none)).2, (He.cT K ("is_belt_triple", none)).2) := ⟨TC1, fun f fd F m => by
    have e := m.symm.trans g10
    cases e
    obtain ⟨_, _, _, _, _, _, cdv, _, _, rfl, lk, ci⟩ := F.ex
    obtain ⟨c0, rfl⟩ := He.codeIn_ref ci
    exact congrArg Value.ref (He.codeOf_eq (p := ("is_belt_triple", none)) lk rfl).symm⟩
  exact ok_law F32 T
end Mine
open PySem PySem.W PySem.Calls PyProof.Rows
set_option maxRecDepth 100000 in
set_option maxHeartbeats 0 in
theorem PySem.Challenge.cw_beltshift_k09_rings_without_trays_holds : PySem.Challenge.rw_beltshift_k09_rings_without_trays.Holds := by
  w_on; o_law
  o_head Mine.hk
  case hw => w_witness2
  case hc =>
    refine Mine.walkGT (l := PySem.Challenge.rw_beltshift_k09_rings_without_trays) (n := 63) (k := 9) (x := "_law_script") (CX := fun _ => L2.CX0) rfl (by decide) (by kernel_rfl) ⟨rfl, by decide, by decide⟩ ?F (fun _ _ _ _ _ z => z)
    intro w mg fa h Y G hmg0
    obtain ⟨K, KX, c⟩ := Y
    have hmg : mg ("law" : PySem.Str) = some (.ref fa) := by
      have e : (HandSHeadRun.topDef Mine.hR.prog 49).name = ("law" : PySem.Str) := by kernel_rfl
      rw [← e]
      exact hmg0
    exact ⟨K, KX, Mine.all_mkX KX G hmg c⟩
